import PyProof.Rows.All
import Wide.All
import OpenK.AllK
import Wide.FinOn
import Lean
import PyProof.EqAt
import PyProof.EqKinds
import PyProof.TupleCall
import PyProof.Rows.SortWalk
import KE.KDictSum
import KE.LcSums
import KE.KEqDat
import KE.KRevIter
import PyProof.P3In
import PyProof.SliceStr2
import PyProof.MeetsStr
import PyProof.StrBlockI
import PyProof.StrWalks
import PyProof.FitsReplace
import PyProof.ListStr
import PyProof.ZipIter
import KE.KIntText
import KE.IntTextLaws
import PyProof.StrLawsIn
import PyProof.StrCalls2
import PyProof.Rows.CatFin
import PyProof.Rows.StrClose
import KE.IntTextText
import PyProof.StrLawsTight
import PyProof.StrLawsChain
import PyProof.Rows.StrItems
import PyProof.Rows.ReprOcc
import PyProof.Rows.SortStr
import PyProof.Rows.SetFrom
import PySem.Challenge.RW_paneworks_k40_a_frame_is_had
set_option Elab.async false
set_option compiler.extract_closed false
set_option linter.all false
set_option maxRecDepth 100000
local macro_rules | `(tactic| walk_at "o3") => `(tactic| first | exact Or.inl rfl | exact Or.inr (Or.inl rfl) | exact Or.inr (Or.inr rfl))
local macro_rules | `(tactic| walk_at "o2") => `(tactic| first | exact Or.inl rfl | exact Or.inr rfl)
local macro_rules | `(tactic| walk_at "sc") => `(tactic| exact ⟨rfl,rfl,rfl,by decide +kernel,rfl,by decide +kernel,by decide +kernel⟩)
local macro_rules | `(tactic| walk_at "o4") => `(tactic| first | exact .inl rfl | exact .inr rfl | assumption)
local macro_rules | `(tactic| walk_at "v") => `(tactic| exact ⟨by rfl,by walk_at "o3",by decide,by decide⟩)
local macro_rules | `(tactic| walk_at "kr") => `(tactic| first | k_is | kernel_rfl)
namespace L2
open PySem PySem.Spec PyProof.Rows
abbrev Key:=Sum Int Str
def Aj:Key->Value->Bool
 | .inl k,v=>Value.isInt k v
 | .inr x,v=>Value.isStrOf x v
def V7 (w:World):Key->Int
 | .inl k=>hashInt k
 | .inr x=>hashStr w x
theorem b8 : ∀ {k:Key} {v:Value},Aj k v=true->(∃ i t,k=Sum.inl i/\v=Value.int i t)\/(∃ x t,k=Sum.inr x/\v=Value.str x t)
 | .inl i,v,h=>by
   obtain ⟨t,e⟩:=Value.isInt_shape (k:=i) (v:=v) h
   exact .inl ⟨i,t,rfl,e⟩
 | .inr x,v,h=>by
   obtain ⟨t,e⟩:=Value.isStrOf_shape (x:=x) (v:=v) h
   exact .inr ⟨x,t,rfl,e⟩
theorem Ho (i:Int) (t:Tok):Aj (.inl i) (.int i t)=true:=by simp [Aj,Value.isInt]
theorem Hq (x:Str) (t:Tok):Aj (.inr x) (.str x t)=true:=by simp [Aj,Value.isStrOf]
theorem PM (a b:Int):decide ((Sum.inl a:Key)=Sum.inl b)=(a == b):=by
 by_cases e:a=b
 ·subst e;simp
 ·have h : ¬ (Sum.inl a:Key)=Sum.inl b:=λ q=>e (Sum.inl.inj q)
  rw [decide_eq_false h]
  exact (beq_eq_false_iff_ne.mpr e).symm
theorem PN (a b:Str):decide ((Sum.inr a:Key)=Sum.inr b)=decide (a=b):=by
 by_cases e:a=b
 ·subst e;simp
 ·have h : ¬ (Sum.inr a:Key)=Sum.inr b:=λ q=>e (Sum.inr.inj q)
  rw [decide_eq_false h,decide_eq_false e]
theorem PR (a:Int) (b:Str):decide ((Sum.inl a:Key)=Sum.inr b)=false:=decide_eq_false (λ q=>nomatch q)
theorem PU (a:Str) (b:Int):decide ((Sum.inr a:Key)=Sum.inl b)=false:=decide_eq_false (λ q=>nomatch q)
def cj (prog:Program) (w:World):PySem.KeyKind prog w Key where
 is:=Aj
 hash:=V7 w
 inj:=λ v a b ha hb=>by
  rcases b8 ha with ⟨i,t,rfl,rfl⟩ | ⟨x,t,rfl,rfl⟩
  ·rcases b8 hb with ⟨j,u,rfl,e⟩ | ⟨y,u,rfl,e⟩
   ·injection e with e1 _;rw [e1]
   ·exact nomatch e
  ·rcases b8 hb with ⟨j,u,rfl,e⟩ | ⟨y,u,rfl,e⟩
   ·exact nomatch e
   ·injection e with e1 _;rw [e1]
 byValue:=λ k v h=>by
  rcases b8 h with ⟨i,t,rfl,rfl⟩ | ⟨x,t,rfl,rfl⟩ <;> rfl
 pyHash:=λ hv h=>by
  rcases b8 hv with ⟨i,t,rfl,rfl⟩ | ⟨x,t,rfl,rfl⟩
  ·exact wpAny_pyHash_int h
  ·exact wpAny_pyHash_str h
 eqBool:=λ hu hv h=>by
  rcases b8 hu with ⟨i,t,rfl,rfl⟩ | ⟨x,t,rfl,rfl⟩
  ·rcases b8 hv with ⟨j,u,rfl,rfl⟩ | ⟨y,u,rfl,rfl⟩
   ·rw [PM] at h;exact wpAny_eqBool_int h
   ·rw [PR] at h;exact SeqAt.EqAt.int_str i t y u _ _ _ _ h
  ·rcases b8 hv with ⟨j,u,rfl,rfl⟩ | ⟨y,u,rfl,rfl⟩
   ·rw [PU] at h;exact SeqAt.EqAt.str_int x t j u _ _ _ _ h
   ·rw [PN] at h;exact wpAny_eqBool_str h
 «strs» := λ k x t v h=>by
  rcases b8 h with ⟨i,u,rfl,e⟩ | ⟨y,u,rfl,e⟩
  ·exact nomatch e
  ·injection e with e1 _
   subst e1
   cases v <;> rfl
theorem CP (prog:Program) (w:World) (i:Int) (t:Tok):(cj prog w).is (.inl i) (.int i t)=true:=Ho i t
theorem CQ (prog:Program) (w:World) (x:Str) (t:Tok):(cj prog w).is (.inr x) (.str x t)=true:=Hq x t
end L2
namespace L2
open PySem PySem.Spec PyProof.Rows
inductive V where
 | aI | bl (b:Bool) | int (i:Int) | str (x:Str) | Jv (b:Array UInt8) | PV (b:UInt64) | ref (a:Addr) | ty (n:String)
 deriving DecidableEq
def RelV:V->Value->Prop
 | .aI,u=>u=Value.none
 | .bl b,u=>u=Value.bool b
 | .int i,u => ∃ t,u=Value.int i t
 | .str x,u => ∃ t,u=Value.str x t
 | .Jv b,u => ∃ t,u=Value.bytes b t
 | .PV b,u => ∃ t,u=Value.float b t
 | .ref a,u=>u=Value.ref a
 | .ty n,u=>u=Value.type n
abbrev Vals:List V->List Value->Prop:=Paired RelV
theorem Vals.length {xs:List V} {us:List Value} (r:Vals xs us):xs.length=us.length:=Paired.length r
theorem Vals.get : ∀ {xs:List V} {us:List Value} {i:Nat} {x:V},Vals xs us->xs[i]? = some x->∃ u,us[i]? = some u/\RelV x u
 | _,_,_,_,.nil,e=>by simp at e
 | _,_,0,_,.cons r _,e=>by simp at e;subst e;exact ⟨_,rfl,r⟩
 | _,_,i+1,x,.cons _ t,e=>by
   obtain ⟨u,h1,h2⟩:=Vals.get (i:=i) (x:=x) t (by simpa using e)
   exact ⟨u,by simpa using h1,h2⟩
theorem Vals.set {x:V} {u:Value} (r:RelV x u) : ∀ {xs:List V} {us:List Value} (i:Nat),Vals xs us->Vals (xs.set i x) (us.set i u)
 | _,_,_,.nil => .nil
 | _,_,0,.cons _ t => .cons r t
 | _,_,i+1,.cons q t => .cons q (Vals.set r i t)
theorem Vals.append : ∀ {xs ys:List V} {us ws:List Value},Vals xs us->Vals ys ws->Vals (xs++ys) (us++ws)
 | _,_,_,_,.nil,s=>s
 | _,_,_,_,.cons r t,s => .cons r (Vals.append t s)
theorem Vals.take : ∀ {xs:List V} {us:List Value} (n:Nat),Vals xs us->Vals (xs.take n) (us.take n)
 | _,_,0,_ => .nil
 | _,_,_+1,.nil => .nil
 | _,_,n+1,.cons r t => .cons r (Vals.take n t)
theorem Vals.drop : ∀ {xs:List V} {us:List Value} (n:Nat),Vals xs us->Vals (xs.drop n) (us.drop n)
 | _,_,0,r=>r
 | _,_,_+1,.nil => .nil
 | _,_,n+1,.cons _ t=>Vals.drop n t
def jB:Option V->Option Value->Prop
 | some v,some u=>RelV v u
 | none,none=>True
 | _,_=>False
def KV {κ : Type} : List (κ × V)->List (κ × Value)->Prop:=Paired fun (p : κ × V) (q : κ × Value)=>p.1=q.1/\RelV p.2 q.2
def kV:Key->V
 | .inl i => .int i
 | .inr x => .str x
inductive HO where
  | lst (xs:List V)
  | tup (xs:List V)
  | dK (kvs:List (Key×V)) | dT (kvs:List (List Key×V))
  | set (S:Int->Bool) (n:Nat)
  | ins (C dx:Addr) (fs:List (Str×V))
  | own (x:Addr)
  | xd (fs:List (Str×V))
  | met (f x:Addr)
  | Vc (lo hi:Int)
  | CG (o:Obj) (u:HO)
  | OO (ps:Array Value)
  | ext (φ : Heap->Prop)
abbrev Hp:=Addr->Option HO
def upd (H:Hp) (a:Addr) (o:HO):Hp:=λ b=>if b=a then some o else H b
theorem ja {H:Hp} {a:Addr} {o:HO} : upd H a o a=some o:=by unfold upd;rw [if_pos rfl]
theorem bZ {H:Hp} {a b:Addr} {o:HO} (h:b≠a):upd H a o b=H b:=by unfold upd;rw [if_neg h]
theorem Sv {H:Hp} {a b:Addr} {o u:HO} (h:H a=some o) (h':H b=some u) (d:o≠u):a≠b:=by
 intro e;subst e;rw [h] at h';exact d (Option.some.inj h')
theorem fR {H:Hp} {a b:Addr} {o:HO} (h:H a=some o) (h':H b=none):a≠b:=by
 intro e;subst e;rw [h] at h';cases h'
section
variable (P:Program) (w:World)
def bU (H:Hp) (h:Heap) (a:Addr):HO->Prop
 | .lst xs=>xs.length<=sizeLine ∧ ∃ (its:List Value) (n:Nat),Vals xs its/\h.get? a=some { cls := .type "list",data := .seq its.toArray n }
 | .tup xs=>xs.length<=sizeLine ∧ ∃ its:List Value,Vals xs its/\IsTup h a its.toArray
 | .dK kvs=>kvs.length<=sizeLine/\(a == sysModules)=false ∧ ∃ vs,KV kvs vs/\h.DictOf (cj P w) a vs
 | .dT kvs=>kvs.length<=sizeLine/\(a == sysModules)=false ∧ ∃ xs:List (List Key×Addr×Value),
   Paired (fun (p:List Key×V) (q:List Key×Addr×Value)=>p.1=q.1/\H q.2.1=some (.tup (p.1.map kV))/\RelV p.2 q.2.2) kvs xs ∧
   ∃ o es ep,h.get? a=some o/\o.ExactDict/\o.data = .dict es ep/\es.toList=xs.map (entryOfKey (tupleKind (cj P w)))/\(xs.map (·.1)).Nodup
 | .set S n=>h.SetOf (intKind P w) a S n
 | .ins C dx fs=>H dx=some (.own a)/\fs.length<=1000/\dx≠a/\h.get? a=some (PySem.W.instObj C dx) ∧
   ∃ mA,h.Ns1 dx mA/\(∀ f,jB (fs.lookup f) (mA f))/\PySem.Within mA (fs.map (·.1))
 | .own _ => ∃ o,h.get? a=some o
 | .xd fs => ∃ mA,h.Ns1 a mA ∧ ∀ f,jB (fs.lookup f) (mA f)
 | .Vc lo hi => ∃ t u v,h.get? a=some { cls := .type "range",data := .fields #[.int lo t,.int hi u,.int 1 v] }
 | .CG o u=>h.get? a=some o/\bU H h a u
 | .OO ps=>h.get? a=some { cls := .none,data := .fields ps }
 | .met f x=>h.get? a=some (PySem.W.methodObj (.ref f) (.ref x))
 | .ext φ => φ h/\(∃ o,h.get? a=some o) ∧ ∀ h1 h2:Heap,φ h1->(∀ o,h1.get? a=some o->h2.get? a=some o)->φ h2
def j9 (H:Hp) (h:Heap):Prop := ∀ a o,H a=some o->bU P w H h a o
end
section
variable {P:Program} {w:World} {H H':Hp} {h h':Heap} {a:Addr} {o:HO}
theorem bU.lt (x:bU P w H h a o):a < h.objs.size:=by
 cases o with
 | lst xs=>obtain ⟨_,_,_,_,e⟩:=x;exact Heap.lt_size e
 | tup xs=>obtain ⟨_,_,_,p⟩:=x;exact p.lt
 | dK kvs=>obtain ⟨_,_,_,_,o,_,_,e,_⟩:=x;exact Heap.lt_size e
 | dT kvs=>obtain ⟨_,_,_,_,o,_,_,e,_⟩:=x;exact Heap.lt_size e
 | set S n=>obtain ⟨o,_,_,_,e,_⟩:=x;exact Heap.lt_size e
 | ins C dx fs=>obtain ⟨_,_,_,e,_⟩:=x;exact Heap.lt_size e
 | own y=>obtain ⟨_,e⟩:=x;exact Heap.lt_size e
 | xd fs=>obtain ⟨_,⟨_,_,_,e,_⟩,_⟩:=x;exact Heap.lt_size e
 | Vc lo hi=>obtain ⟨_,_,_,e⟩:=x;exact Heap.lt_size e
 | CG ob u=>obtain ⟨e,_⟩:=x;exact Heap.lt_size e
 | OO ps=>exact Heap.lt_size (show h.get? a=some _ from x)
 | met f y=>exact Heap.lt_size (show h.get? a=some _ from x)
 | ext φ => obtain ⟨_,⟨_,e⟩,_⟩:=x;exact Heap.lt_size e
theorem Paired.PX {α β : Type} {F G : α->β->Prop} : ∀ {l₁ : List α} {l₂ : List β},Paired F l₁ l₂->(∀ a b,F a b->G a b)->Paired G l₁ l₂
 | _,_,.nil,_ => .nil
 | _,_,.cons r t,f => .cons (f _ _ r) (Paired.PX t f)
theorem bU.stay (x:bU P w H h a o) (k : ∀ b u,(b=a\/H b=some (.own a))->h.get? b=some u->h'.get? b=some u)
  (ho : ∀ b,H b=some (.own a)->H' b=some (.own a)) (ht : ∀ b xs,H b=some (.tup xs)->H' b=some (.tup xs)):bU P w H' h' a o:=by
 induction o with
 | lst xs=>obtain ⟨z,its,n,r,e⟩:=x;exact ⟨z,its,n,r,k _ _ (.inl rfl) e⟩
 | tup xs=>obtain ⟨z,its,r,ob,e,c⟩:=x;exact ⟨z,its,r,ob,k _ _ (.inl rfl) e,c⟩
 | dK kvs=>obtain ⟨z,y,vs,r,ob,es,ep,e,c⟩:=x;exact ⟨z,y,vs,r,ob,es,ep,k _ _ (.inl rfl) e,c⟩
 | dT kvs =>
   obtain ⟨z,y,xs,r,ob,es,ep,e,c⟩:=x
   exact ⟨z,y,xs,Paired.PX r λ p q z=>⟨z.1,ht _ _ z.2.1,z.2.2⟩,ob,es,ep,k _ _ (.inl rfl) e,c⟩
 | set S n=>obtain ⟨ob,es,ep,t,e,c⟩:=x;exact ⟨ob,es,ep,t,k _ _ (.inl rfl) e,c⟩
 | ins C dx fs =>
   obtain ⟨d,z,ne,e,mA,⟨od,es,ep,e2,c⟩,r⟩:=x
   exact ⟨ho _ d,z,ne,k _ _ (.inl rfl) e,mA,⟨od,es,ep,k _ _ (.inr d) e2,c⟩,r⟩
 | own y=>obtain ⟨ob,e⟩:=x;exact ⟨ob,k _ _ (.inl rfl) e⟩
 | xd fs=>obtain ⟨mA,⟨od,es,ep,e,c⟩,r⟩:=x;exact ⟨mA,⟨od,es,ep,k _ _ (.inl rfl) e,c⟩,r⟩
 | Vc lo hi=>obtain ⟨t,u,v,e⟩:=x;exact ⟨t,u,v,k _ _ (.inl rfl) e⟩
 | CG ob u ih=>obtain ⟨e,q⟩:=x;exact ⟨k _ _ (.inl rfl) e,ih q⟩
 | OO ps =>
   have e:h.get? a=some { cls := .none,data := .fields ps } := x
   show h'.get? a=some { cls := .none,data := .fields ps }
   exact k a _ (.inl rfl) e
 | met f y =>
   have e:h.get? a=some (PySem.W.methodObj (.ref f) (.ref y)):=x
   show h'.get? a=some (PySem.W.methodObj (.ref f) (.ref y))
   exact k a _ (.inl rfl) e
 | ext φ => obtain ⟨p,⟨o,e⟩,st⟩:=x;exact ⟨st _ _ p λ o q=>k _ _ (.inl rfl) q,⟨o,k _ _ (.inl rfl) e⟩,st⟩
theorem j9.lt (x:j9 P w H h) (e:H a=some o):a < h.objs.size:=(x a o e).lt
theorem j9.fresh (x:j9 P w H h) (e:h.objs.size<=a):H a=none:=by
 cases q:H a with
 | none=>rfl
 | some u=>exact absurd (Nat.lt_of_lt_of_le (x.lt q) e) (Nat.lt_irrefl _)
theorem j9.kept (x:j9 P w H h) (k : ∀ b u,h.get? b=some u->h'.get? b=some u):j9 P w H h':=λ a o e =>
 (x a o e).stay (λ b u _ q=>k b u q) (λ _ q=>q) λ _ _ q=>q
theorem j9.laid (x:j9 P w H h) (k : ∀ b u,h.get? b=some u->h'.get? b=some u) (hp:h.objs.size<=a) (new:bU P w (upd H a o) h' a o):j9 P w (upd H a o) h':=λ b u e=>by
 have hn:=x.fresh hp
 by_cases hb:b=a
 ·subst hb;rw [ja] at e;cases e;exact new
 ·rw [bZ hb] at e
  exact (x b u e).stay (λ c v _ q=>k c v q) (λ c q=>by rw [bZ (fR q hn)];exact q) λ c xs q=>by rw [bZ (fR q hn)];exact q
end
def Rd (H:Hp) (a:Addr) (u:HO):Prop:=H a=some u ∨ ∃ o,H a=some (.CG o u)
theorem Rd.of {H:Hp} {a:Addr} {u:HO} (h:H a=some u):Rd H a u := .inl h
theorem Rd.ok {P:Program} {w:World} {H:Hp} {h:Heap} {a:Addr} {u:HO} (r:Rd H a u) (x:j9 P w H h):bU P w H h a u:=by
 rcases r with r | ⟨o,r⟩
 ·exact x a u r
 ·obtain ⟨_,q⟩:=x a _ r
  exact q
def Sw:Option HO->Prop
 | some (.lst _)=>True
 | some (.dK _)=>True
 | some (.dT _)=>True
 | some (.set _ _)=>True
 | some (.ins _ _ _)=>True
 | some (.ext _)=>True
 | _=>False
section
variable {P:Program} {w:World} {H:Hp} {h h':Heap} {x e:Addr} {o':HO}
theorem j9.write (ok:j9 P w H h) (mu:Sw (H x)) (he:e=x\/H e=some (.own x)) (k : ∀ b u,b≠e->h.get? b=some u->h'.get? b=some u) (R7 : ∃ u,h'.get? e=some u)
  (new:bU P w (upd H x o') h' x o'):j9 P w (upd H x o') h':=λ b u q=>by
 have Sx : ∀ c y,H c=some (.own y)->c≠x:=λ c y r z=>by subst z;rw [r] at mu;exact mu
 have V8 : ∀ c xs,H c=some (.tup xs)->c≠x:=λ c xs r z=>by subst z;rw [r] at mu;exact mu
 by_cases hb:b=x
 ·subst hb;rw [ja] at q;cases q;exact new
 ·rw [bZ hb] at q
  by_cases PY:b=e
  ·have q':H b=some (.own x):=by
    rcases he with z | z
    ·exact absurd (PY.trans z) hb
    ·rw [PY];exact z
   rw [q] at q';cases q'
   obtain ⟨v,hv⟩:=R7
   exact ⟨v,by rw [PY];exact hv⟩
  ·refine (ok b u q).stay (λ c v hc r=>k c v ?_ r) (λ c r=>by rw [bZ (Sx c b r)];exact r) λ c xs r=>by rw [bZ (V8 c xs r)];exact r
   rcases hc with rfl | hc
   ·exact PY
   ·rintro rfl
    rcases he with z | z
    ·exact Sx c b hc z
    ·rw [hc] at z;cases z;exact hb rfl
end
structure Un (fs ex:List Addr) (H H':Hp) (h h':Heap):Prop where
 keep : ∀ b o,h.get? b=some o->H b=none->b ∉ fs->b ∉ ex->h'.get? b=some o
 slot : ∀ b o,h.get? b=some o->H b=none->b∈fs->b ∉ ex->∃ sl,h'.get? b=some { o with slots:=sl }
 free : ∀ b o,h.get? b=some o->H b=none->b ∉ ex->H' b=none
 there : ∀ b o,h.get? b=some o->b ∉ ex->∃ o',h'.get? b=some o'
 tups : ∀ b xs,H b=some (.tup xs)->H' b=some (.tup xs)
 kc : ∀ b o u,H b=some (.CG o u)->H' b=some (.CG o u)
 kJ : ∀ b ps,H b=some (.OO ps)->∃ more,H' b=some (.OO (ps++more))
section
variable {fs fs' ex ex':List Addr} {H H1 H2:Hp} {h h1 h2 h':Heap} {a x e:Addr} {o:HO}
theorem Un.any (u:Un fs ex H H1 h h1) {b:Addr} {ob:Obj} (q:h.get? b=some ob) (n:H b=none) (hx:b ∉ ex) : ∃ sl,h1.get? b=some { ob with slots:=sl } := by
 by_cases hb:b∈fs
 ·exact u.slot b ob q n hb hx
 ·exact ⟨ob.slots,u.keep b ob q n hb hx⟩
theorem Un.trans (a:Un fs ex H H1 h h1) (b:Un fs ex H1 H2 h1 h2):Un fs ex H H2 h h2 where
 keep:=λ c ob q n hc hx=>b.keep c ob (a.keep c ob q n hc hx) (a.free c ob q n hx) hc hx
 slot:=λ c ob q n hc hx=>by
  obtain ⟨sl,e1⟩:=a.slot c ob q n hc hx
  obtain ⟨JA,e2⟩:=b.slot c _ e1 (a.free c ob q n hx) hc hx
  exact ⟨JA,e2⟩
 free:=λ c ob q n hx=>by
  obtain ⟨o',e1⟩:=a.there c ob q hx
  exact b.free c o' e1 (a.free c ob q n hx) hx
 there:=λ c ob q hx=>by
  obtain ⟨o',e1⟩:=a.there c ob q hx
  exact b.there c o' e1 hx
 tups:=λ c xs q=>b.tups c xs (a.tups c xs q)
 kc:=λ c ob xs q=>b.kc c ob xs (a.kc c ob xs q)
 kJ:=λ c ps q=>by
  obtain ⟨m1,e1⟩:=a.kJ c ps q
  obtain ⟨m2,e2⟩:=b.kJ c _ e1
  exact ⟨m1++m2,by rw [e2,Array.append_assoc]⟩
theorem Un.kept (k : ∀ b u,h.get? b=some u->h'.get? b=some u):Un fs ex H H h h' :=
 ⟨λ b ob q _ _ _=>k b ob q,λ b ob q _ _ _=>⟨ob.slots,k b ob q⟩,λ _ _ _ n _=>n,λ b ob q _=>⟨ob,k b ob q⟩,λ _ _ q=>q,λ _ _ _ q=>q,λ _ ps q=>⟨#[],by rw [q];simp⟩⟩
theorem Un.refl:Un fs ex H H h h:=Un.kept λ _ _ q=>q
theorem Un.laid (k : ∀ b u,h.get? b=some u->h'.get? b=some u) (hp:h.objs.size<=a) (hn:H a=none):Un fs ex H (upd H a o) h h' where
 keep:=λ b u q _ _ _=>k b u q
 slot:=λ b u q _ _ _=>⟨u.slots,k b u q⟩
 free:=λ b u q n _=>by rw [bZ (Nat.ne_of_lt (Nat.lt_of_lt_of_le (Heap.lt_size q) hp))];exact n
 there:=λ b u q _=>⟨u,k b u q⟩
 tups:=λ b xs q=>by rw [bZ (fR q hn)];exact q
 kc:=λ b u xs q=>by rw [bZ (fR q hn)];exact q
 kJ:=λ b ps q=>⟨#[],by rw [bZ (fR q hn),q];simp⟩
theorem Un.write (mu:Sw (H x)) (he:e=x\/H e=some (.own x)) (k : ∀ b u,b≠e->h.get? b=some u->h'.get? b=some u) (R7 : ∃ u,h'.get? e=some u):Un fs ex H (upd H x o) h h':=by
 have hx : ∀ b,H b=none->b≠x:=λ b n z=>by subst z;rw [n] at mu;exact mu
 have hb : ∀ b,H b=none->b≠e:=λ b n z=>by
  subst z
  rcases he with r | r
  ·exact hx b n r
  ·rw [n] at r;cases r
 have hm : ∀ b u,H b=some u->¬ Sw (some u)->b≠x:=λ b u q nm z=>by subst z;rw [q] at mu;exact nm mu
 refine ⟨λ b u q n _ _=>k b u (hb b n) q,λ b u q n _ _=>⟨u.slots,k b u (hb b n) q⟩,λ b u q n _=>by rw [bZ (hx b n)];exact n,λ b u q _ => ?_,
  λ b xs q=>by rw [bZ (hm b _ q λ z=>z)];exact q,λ b u xs q=>by rw [bZ (hm b _ q λ z=>z)];exact q,λ b ps q=>⟨#[],by rw [bZ (hm b _ q λ z=>z),q];simp⟩⟩
 by_cases PY:b=e
 ·subst PY;exact R7
 ·exact ⟨u,k b u PY q⟩
theorem Un.mono (u:Un fs ex H H1 h h1) (hs : ∀ b∈fs,b∈fs') (hx : ∀ b∈ex,b∈ex'):Un fs' ex' H H1 h h1 :=
 ⟨λ b ob q n hb he=>u.keep b ob q n (λ z=>hb (hs b z)) λ z=>he (hx b z),λ _ _ q n _ he=>u.any q n λ z=>he (hx _ z),λ b ob q n he=>u.free b ob q n λ z=>he (hx b z),λ b ob q he=>u.there b ob q λ z=>he (hx b z),u.tups,u.kc,u.kJ⟩
end
def Vd (h:Heap) (H:Hp):List Addr:=(List.range h.objs.size).filter λ a=>(H a).isSome
def A2 (h:Heap) (H:Hp):Heap:=PySem.W.hideAll h (Vd h H)
theorem Hr (h:Heap) (H:Hp):(A2 h H).objs.size=h.objs.size:=PySem.W.hideAll_size _ _
theorem JB {h:Heap} {H:Hp} {b:Addr} {o:Obj} (e:h.get? b=some o) (n:H b=none):(A2 h H).get? b=some o :=
 PySem.W.hideAll_get _ e λ hm=>by
  have q:(H b).isSome=true:=(List.mem_filter.mp hm).2
  rw [n] at q;simp at q
theorem MP {h:Heap} {H:Hp} {b:Addr} {o:Obj} (e:(A2 h H).get? b=some o):h.get? b=some o/\H b=none:=by
 have e':h.get? b=some o:=PySem.W.of_hideAll (Vd h H) e
 refine ⟨e',?_⟩
 cases q:H b with
 | none=>rfl
 | some x =>
   have hm:b∈Vd h H:=List.mem_filter.mpr ⟨List.mem_range.mpr (Heap.lt_size e'),by simp [q]⟩
   have z:(A2 h H).get? b=none:=PySem.W.hideAll_none (Vd h H) hm
   rw [z] at e;cases e
def MQ (g h:Heap) (L:Addr):List (Addr×Obj):=(List.range h.objs.size).filterMap λ a=>if a=L\/(g.get? a).isSome=true then none else (h.get? a).map λ o=>(a,o)
def rest (g h:Heap) (L d:Addr):List (Addr×Obj):=(MQ g h L).filter λ p=>decide (p.1≠d)
end L2
namespace L2
open PySem PySem.Spec PyProof.Rows
structure Mod (K:PySem.W.Frag) (mg:Str->Option Value) (base:Heap):Prop where
 R8:K.In base
 glob:base.Ns mainGlobals mg
 blt : ∃ mb,base.Ns builtinsNs mb ∧ ∀ x:Str,x ≠ "__name__"->mb x=bootBuiltins x
 nolimit:base.NoLimit
structure Cx where
 prog:Program
 w:World
 K:PySem.W.Frag
 mg:Str->Option Value
 base:Heap
 A:Around
 N:List Str
 s₀ : Shared
 H₀ : Hp
 env:Env
 outer:List Env
 stack:List Env
 ex:List Addr
 fn:Str->Bool
 calm:Bool
 pn:List (Addr×Obj)
 xe:Value->Shared->Prop
def frs (l:List Env):List Addr:=l.filterMap (·.frame)
abbrev Cx.fs (X:Cx):List Addr:=frs X.outer
def PZ (sc:Scope) (x:Str):Prop:=sc.names.lookup x=some .local\/sc.names.lookup x=some .cell\/sc.names.lookup x=some .free
def Loc (sc:Scope) (x:Str):Prop:=sc.names.lookup x=some .local\/sc.names.lookup x=some .cell
def Look (env:Env) (h:Heap) (m:Str->Option Value) (x:Str) (u:Value):Prop :=
 (env.kindOf x=some .local/\m x=some u)\/((env.kindOf x=some .cell\/env.kindOf x=some .free) ∧ ∃ c,env.cells.lookup x=some c/\h.IsCell c (some u))
structure Cx.Ok (X:Cx):Prop where
 mod:Mod X.K X.mg X.base
 kind:X.env.scope.kind = .function
 glob:X.env.globals=mainGlobals
 blt:X.env.builtins=builtinsNs
 above:X.s₀.heap.objs.size<=X.env.locals
 inj : ∀ x y c,X.env.cells.lookup x=some c->X.env.cells.lookup y=some c->x=y
 has : ∀ x,(X.env.kindOf x=some .cell\/X.env.kindOf x=some .free)->∃ c,X.env.cells.lookup x=some c
 P0 : ∀ x c,X.fn x=true->X.env.cells.lookup x=some c->X.s₀.heap.objs.size<=c
 hd:X.calm=true->X.A.handled=none
 frames:X.A.frames=some X.stack
 stk:X.stack=X.outer\/(X.stack=X.env::X.outer/\X.env.frame=some X.env.locals)
 Ve : ∀ b∈X.ex,b≠X.env.locals ∧ ∀ x c,X.env.cells.lookup x=some c->c≠b
 bs : ∀ b o,X.base.get? b=some o->X.s₀.heap.get? b=some o/\X.H₀ b=none
 Jw:X.base.objs.size<=X.s₀.heap.objs.size
 En : ∀ b o,X.base.get? b=some o->b ∉ X.ex
 Hs : ∀ b∈X.ex,b ∉ X.fs
 oU:X.s₀.heap.FunFrames X.base X.outer
 MR : ∀ b∈X.fs,X.H₀ b=none
structure Inv (X:Cx) (pins:List (Addr×Obj)) (σ : List (Option V)) (H:Hp) (s:Shared):Prop where
 ok:X.Ok
 os:s.os=X.s₀.os
 bare:AllBare s.gens
 base:Un X.fs X.ex X.H₀ H X.s₀.heap s.heap
 loc : ∃ m,s.heap.Ns X.env.locals m ∧ ∀ (i:Nat) (x:Str) (v:V),X.N[i]? = some x->σ[i]? = some (some v)->PZ X.env.scope x->∃ u,RelV v u/\Look X.env s.heap m x u
 cell : ∀ x c,X.env.cells.lookup x=some c->∃ v,s.heap.IsCell c v
 free:H X.env.locals=none
 kK : ∀ x c,X.env.cells.lookup x=some c->H c=none
 pin : ∀ p∈X.pn++pins,s.heap.get? p.1=some p.2/\H p.1=none/\p.1≠X.env.locals/\p.1 ∉ X.fs ∧ ∀ v,p.2.data ≠ .cell v
 hok:j9 X.prog X.w H s.heap
 len : σ.length=X.N.length
section
variable {X:Cx} {pins:List (Addr×Obj)} {σ : List (Option V)} {H H':Hp} {s:Shared} {h':Heap}
theorem Cx.Ok.V9 (ok:X.Ok) {b:Addr} {o:Obj} (e:X.base.get? b=some o):b ∉ X.fs:=λ hb=>by
 have:=(ok.oU.mem hb).1
 rw [e] at this;cases this
theorem Inv.bs (I:Inv X pins σ H s) : ∀ b o,X.base.get? b=some o->s.heap.get? b=some o/\H b=none:=λ b o e =>
 ⟨I.base.keep b o (I.ok.bs b o e).1 (I.ok.bs b o e).2 (I.ok.V9 e) (I.ok.En b o e),I.base.free b o (I.ok.bs b o e).1 (I.ok.bs b o e).2 (I.ok.En b o e)⟩
theorem Inv.bk (I:Inv X pins σ H s) : ∀ b o,X.base.get? b=some o->s.heap.get? b=some o:=λ b o e=>(I.bs b o e).1
theorem Inv.mod (I:Inv X pins σ H s):Mod X.K X.mg X.base:=I.ok.mod
theorem Inv.sj (I:Inv X pins σ H s):X.K.In s.heap:=I.ok.mod.R8.keeps I.bk
theorem Inv.fr (I:Inv X pins σ H s) : ∃ m,Fr X.base X.env.locals s.heap m :=
 let ⟨m,hn,_⟩:=I.loc
 ⟨m,hn,I.bk,Nat.le_trans I.ok.Jw I.ok.above⟩
theorem Inv.lt (I:Inv X pins σ H s):X.env.locals < s.heap.objs.size:=let ⟨_,hn,_⟩:=I.loc;hn.lt
theorem Inv.sz (I:Inv X pins σ H s):X.s₀.heap.objs.size<=s.heap.objs.size:=Nat.le_trans I.ok.above (Nat.le_of_lt I.lt)
theorem Inv.Wa (I:Inv X pins σ H s) {a:Addr} (h:s.heap.objs.size<=a):a ∉ X.fs:=λ hb=>by
 obtain ⟨_,o,ho,_⟩:=I.ok.oU.mem hb
 exact absurd (Nat.lt_of_lt_of_le (Heap.lt_size ho) (Nat.le_trans I.sz h)) (Nat.lt_irrefl _)
theorem Inv.Qa (I:Inv X pins σ H s) : ∀ x c,X.env.cells.lookup x=some c->c≠X.env.locals:=λ x c e z=>by
 obtain ⟨v,o,ho,hd⟩:=I.cell x c e
 obtain ⟨m,⟨o',es,ep,ho',hd',_⟩,_⟩:=I.loc
 rw [z,ho'] at ho;cases ho;rw [hd'] at hd;cases hd
theorem Inv.oU (I:Inv X pins σ H s):s.heap.FunFrames X.base X.outer:=by
 have all : ∀ (l:List Env),(∀ b∈frs l,b∈X.fs)->X.s₀.heap.FunFrames X.base l->s.heap.FunFrames X.base l:=by
  intro l
  induction l with
  | nil=>intro _ _;trivial
  | cons env r ih =>
    intro hs hl
    obtain ⟨hk,⟨L,o,hf,hn,ho,hd⟩,hr⟩:=hl
    have hL:L∈X.fs:=hs L (by unfold frs;rw [List.filterMap_cons,hf];exact List.mem_cons_self)
    obtain ⟨sl,e⟩:=I.base.slot L o ho (I.ok.MR L hL) hL λ z=>I.ok.Hs L z hL
    exact ⟨hk,⟨L,_,hf,hn,e,hd⟩,ih (λ b hb=>hs b (by unfold frs;rw [List.filterMap_cons,hf];exact List.mem_cons_of_mem _ hb)) hr⟩
 exact all X.outer (λ _ hb=>hb) I.ok.oU
theorem Inv.stack (I:Inv X pins σ H s):s.heap.FunFrames X.base X.stack:=by
 rcases I.ok.stk with e | ⟨e,hf⟩
 ·rw [e];exact I.oU
 ·rw [e]
  obtain ⟨m,hn,_⟩:=I.loc
  refine .cons (by rw [I.ok.kind];decide) hf hn ?_ I.oU
  exact Heap.get?_none_of_le (Nat.le_trans I.ok.Jw I.ok.above)
theorem Inv.uW (I:Inv X pins σ H s) : ∀ b∈frs X.stack,b∈X.env.locals::X.fs:=λ b hb=>by
 rcases I.ok.stk with e | ⟨e,hf⟩
 ·rw [e] at hb;exact List.mem_cons_of_mem _ hb
 ·rw [e] at hb
  unfold frs at hb
  rw [List.filterMap_cons,hf] at hb
  exact hb
theorem Inv.A3 (I:Inv X pins σ H s) : ∀ b∈frs X.stack,H b=none:=λ b hb=>by
 rcases List.mem_cons.mp (I.uW b hb) with e | hb
 ·rw [e];exact I.free
 ·obtain ⟨_,o,ho,_⟩:=I.ok.oU.mem hb
  exact I.base.free b o ho (I.ok.MR b hb) λ z=>I.ok.Hs b z hb
theorem Inv.step {g':Array GenState} {t':Nat} {d':Drawn} {ch:List Addr} (I:Inv X pins σ H s)
  (hch : ∀ b∈ch,(b∈X.ex\/X.s₀.heap.objs.size<=b)/\b≠X.env.locals/\(∀ x c,X.env.cells.lookup x=some c->c≠b) ∧ ∀ p∈X.pn++pins,p.1≠b)
  (keep : ∀ b o,b≠X.env.locals->b ∉ X.fs->b ∉ ch->s.heap.get? b=some o->H b=none->h'.get? b=some o)
  (slot : ∀ b o,b≠X.env.locals->b∈X.fs->b ∉ ch->s.heap.get? b=some o->H b=none->∃ sl,h'.get? b=some { o with slots:=sl }) (free : ∀ b o,b ∉ ch->s.heap.get? b=some o->H b=none->H' b=none)
  (there : ∀ b o,b ∉ ch->s.heap.get? b=some o->∃ o',h'.get? b=some o')
  (tups : ∀ b xs,H b=some (.tup xs)->H' b=some (.tup xs)) (kc : ∀ b o u,H b=some (.CG o u)->H' b=some (.CG o u)) (kJ : ∀ b ps,H b=some (.OO ps)->∃ more,H' b=some (.OO (ps++more)))
  (ns : ∀ m,s.heap.Ns X.env.locals m->h'.Ns X.env.locals m) (hok:j9 X.prog X.w H' h') (hg:AllBare g') :
  Inv X pins σ H' { s with heap:=h',gens:=g',drawn:=d',toks:=t' } := by
 have neL : ∀ b o,X.s₀.heap.get? b=some o->b≠X.env.locals:=λ b o e=>Nat.ne_of_lt (Nat.lt_of_lt_of_le (Heap.lt_size e) I.ok.above)
 have R9 : ∀ b o,X.s₀.heap.get? b=some o->b ∉ X.ex->b ∉ ch:=λ b o e hx hb=>by
  rcases (hch b hb).1 with z | z
  ·exact hx z
  ·exact absurd (Nat.lt_of_lt_of_le (Heap.lt_size e) z) (Nat.lt_irrefl _)
 have cellK : ∀ x c,X.env.cells.lookup x=some c->∀ v,s.heap.IsCell c v->h'.IsCell c v:=λ x c e v ⟨o,ho,hd⟩=>by
  have Sy:c ∉ ch:=λ z=>(hch c z).2.2.1 x c e rfl
  by_cases hc:c∈X.fs
  ·obtain ⟨sl,q⟩:=slot c o (I.Qa x c e) hc Sy ho (I.kK x c e)
   exact ⟨_,q,hd⟩
  ·exact ⟨o,keep c o (I.Qa x c e) hc Sy ho (I.kK x c e),hd⟩
 refine ⟨I.ok,I.os,hg,⟨λ b o e n hb hx => ?_,λ b o e n hb hx => ?_,λ b o e n hx => ?_,λ b o e hx => ?_,λ b xs e=>tups b xs (I.base.tups b xs e),λ b o xs e=>kc b o xs (I.base.kc b o xs e),λ b ps e => ?_⟩,?_,λ x c e => ?_,?_,λ x c e => ?_,λ p hp => ?_,hok,I.len⟩
 ·exact keep b o (neL b o e) hb (R9 b o e hx) (I.base.keep b o e n hb hx) (I.base.free b o e n hx)
 ·obtain ⟨sl,e1⟩:=I.base.slot b o e n hb hx
  obtain ⟨JA,e2⟩:=slot b _ (neL b o e) hb (R9 b o e hx) e1 (I.base.free b o e n hx)
  exact ⟨JA,e2⟩
 ·obtain ⟨o',e1⟩:=I.base.there b o e hx
  exact free b o' (R9 b o e hx) e1 (I.base.free b o e n hx)
 ·obtain ⟨o',e1⟩:=I.base.there b o e hx
  exact there b o' (R9 b o e hx) e1
 ·obtain ⟨m1,e1⟩:=I.base.kJ b ps e
  obtain ⟨m2,e2⟩:=kJ b _ e1
  exact ⟨m1++m2,by rw [e2,Array.append_assoc]⟩
 ·obtain ⟨m,hn,hl⟩:=I.loc
  refine ⟨m,ns m hn,λ i x v e1 e2 e3 => ?_⟩
  obtain ⟨u,r,l⟩:=hl i x v e1 e2 e3
  refine ⟨u,r,?_⟩
  rcases l with l | ⟨k,c,e,z⟩
  ·exact .inl l
  ·exact .inr ⟨k,c,e,cellK x c e _ z⟩
 ·obtain ⟨v,z⟩:=I.cell x c e
  exact ⟨v,cellK x c e v z⟩
 ·obtain ⟨m,⟨o,_,_,ho,_⟩,_⟩:=I.loc
  exact free _ o (λ z=>(hch _ z).2.1 rfl) ho I.free
 ·obtain ⟨v,o,ho,hd⟩:=I.cell x c e
  exact free c o (λ z=>(hch c z).2.2.1 x c e rfl) ho (I.kK x c e)
 ·obtain ⟨e,n,ne,nf,d⟩:=I.pin p hp
  have Sy:p.1 ∉ ch:=λ z=>(hch p.1 z).2.2.2 p hp rfl
  exact ⟨keep p.1 p.2 ne nf Sy e n,free p.1 p.2 Sy e n,ne,nf,d⟩
theorem Inv.un {t':Nat} (I:Inv X pins σ H s) (u:Un X.fs [] H H' s.heap h') (hok:j9 X.prog X.w H' h'):Inv X pins σ H' { s with heap:=h',toks:=t' } := by
 obtain ⟨m,⟨o,es,ep,ho,r⟩,_⟩:=id I.loc
 obtain ⟨sl,hL⟩:=u.any ho I.free (by simp)
 exact I.step (g':=s.gens) (d':=s.drawn) (ch:=[]) (λ _ z=>nomatch z) (λ b o _ hb _ e n=>u.keep b o e n hb (by simp)) (λ b o _ hb _ e n=>u.slot b o e n hb (by simp)) (λ b o _ e n=>u.free b o e n (by simp)) (λ b o _ e=>u.there b o e (by simp)) u.tups u.kc u.kJ (λ m' hm=>by
  obtain ⟨o',es',Wb,ho',r'⟩:=hm
  rw [ho] at ho';cases ho'
  exact ⟨_,es',Wb,hL,r'⟩) hok I.bare
theorem Inv.call {g':Array GenState} {t':Nat} {d':Drawn} {ch:List Addr} (I:Inv X pins σ H s) (u:Un (frs X.stack) ch H H' s.heap h') (hok:j9 X.prog X.w H' h') (hg:AllBare g')
  (hch : ∀ b∈ch,(b∈X.ex\/X.s₀.heap.objs.size<=b)/\b≠X.env.locals/\(∀ x c,X.env.cells.lookup x=some c->c≠b) ∧ ∀ p∈X.pn++pins,p.1≠b) :
  Inv X pins σ H' { s with heap:=h',gens:=g',drawn:=d',toks:=t' } := by
 obtain ⟨m,⟨o,es,ep,ho,r⟩,_⟩:=id I.loc
 obtain ⟨sl,hL⟩:=u.any ho I.free λ z=>(hch _ z).2.1 rfl
 exact I.step (ch:=ch) hch (λ b o hL hb hc e n=>u.keep b o e n (λ z=>(List.mem_cons.mp (I.uW b z)).elim hL hb) hc) (λ b o _ _ hc e n=>u.any e n hc) (λ b o hc e n=>u.free b o e n hc) (λ b o hc e=>u.there b o e hc) u.tups u.kc u.kJ (λ m' hm=>by
  obtain ⟨o',es',Wb,ho',r'⟩:=hm
  rw [ho] at ho';cases ho'
  exact ⟨_,es',Wb,hL,r'⟩) hok hg
theorem Inv.turned {t':Nat} {it:Addr} (I:Inv X pins σ H s) (k : ∀ b o,b≠it->s.heap.get? b=some o->h'.get? b=some o) (hn:H it=none) (hL:it≠X.env.locals)
  (h1:it∈X.ex\/X.s₀.heap.objs.size<=it) (h2 : ∀ x c,X.env.cells.lookup x=some c->c≠it) (h3 : ∀ p∈X.pn++pins,p.1≠it):Inv X pins σ H { s with heap:=h',toks:=t' } := by
 have nit : ∀ b u,H b=some u->b≠it:=λ b u e z=>by rw [z,hn] at e;cases e
 refine I.step (g':=s.gens) (d':=s.drawn) (ch:=[it]) (λ b hb => ?_) (λ b o _ _ hc e _=>k b o (λ z=>hc (by simp [z])) e) (λ b o _ _ hc e _=>⟨o.slots,k b o (λ z=>hc (by simp [z])) e⟩) (λ _ _ _ _ n=>n)
  (λ b o hc e=>⟨o,k b o (λ z=>hc (by simp [z])) e⟩) (λ _ _ e=>e) (λ _ _ _ e=>e) (λ b ps e=>⟨#[],by rw [e];simp⟩) (λ m hm => ?_) (λ b u e => ?_) I.bare
 ·have e:b=it:=by simpa using hb
  subst e
  exact ⟨h1,hL,h2,h3⟩
 ·obtain ⟨o,es,ep,ho,r⟩:=hm
  exact ⟨o,es,ep,k _ o (Ne.symm hL) ho,r⟩
 ·refine (I.hok b u e).stay (λ c v hc q=>k c v ?_ q) (λ _ q=>q) λ _ _ q=>q
  rcases hc with z | z
  ·rw [z];exact nit b u e
  ·exact nit c _ z
theorem Inv.tok (I:Inv X pins σ H s) (t:Nat):Inv X pins σ H { s with toks:=t } := I.un (h':=s.heap) (t':=t) Un.refl I.hok
theorem Inv.kept {t':Nat} (I:Inv X pins σ H s) (k : ∀ b u,s.heap.get? b=some u->h'.get? b=some u):Inv X pins σ H { s with heap:=h',toks:=t' } := I.un (Un.kept k) (I.hok.kept k)
theorem Inv.laid {a:Addr} {o:HO} {t':Nat} (I:Inv X pins σ H s) (k : ∀ b u,s.heap.get? b=some u->h'.get? b=some u) (hp:s.heap.objs.size<=a) (new:bU X.prog X.w (upd H a o) h' a o) :
  Inv X pins σ (upd H a o) { s with heap:=h',toks:=t' } := I.un (Un.laid k hp (I.hok.fresh hp)) (I.hok.laid k hp new)
theorem Inv.write {x e:Addr} {o:HO} {t':Nat} (I:Inv X pins σ H s) (mu:Sw (H x)) (he:e=x\/H e=some (.own x)) (k : ∀ b u,b≠e->s.heap.get? b=some u->h'.get? b=some u) (R7 : ∃ u,h'.get? e=some u)
  (new:bU X.prog X.w (upd H x o) h' x o):Inv X pins σ (upd H x o) { s with heap:=h',toks:=t' } := I.un (Un.write mu he k R7) (I.hok.write mu he k R7 new)
theorem Inv.Gr {uX:List (Addr×Obj)} (I:Inv X pins σ H s) (h : ∀ p∈uX,s.heap.get? p.1=some p.2/\H p.1=none/\p.1≠X.env.locals/\p.1 ∉ X.fs ∧ ∀ v,p.2.data ≠ .cell v):Inv X uX σ H s :=
 ⟨I.ok,I.os,I.bare,I.base,I.loc,I.cell,I.free,I.kK,λ p hp=>(List.mem_append.mp hp).elim (λ z=>I.pin p (List.mem_append_left _ z)) (h p),I.hok,I.len⟩
theorem CS {N:List Str} (hN:N.Nodup) {i j:Nat} {x:Str} (a:N[i]? = some x) (b:N[j]? = some x):i=j:=by
 obtain ⟨h1,e1⟩:=List.getElem?_eq_some_iff.mp a
 obtain ⟨h2,e2⟩:=List.getElem?_eq_some_iff.mp b
 exact (List.getElem_inj hN).mp (e1.trans e2.symm)
theorem Ak {M:Model} {A:Around} {E:Value->Shared->Prop} {i:Nat} {x:Str} {v:V} {u:Value} {Q:Unit->Shared->Prop} (I:Inv X pins σ H s) (hN:X.N.Nodup) (hi:X.N[i]? = some x) (hx:Loc X.env.scope x) (r:RelV v u)
  (h : ∀ s',Inv X pins (σ.set i (some v)) H s'->(∃ a,Heap.SameBut a s.heap s'.heap/\(a=X.env.locals\/X.env.cells.lookup x=some a))->Q () s') (hf:X.fn x=true\/X.env.scope.names.lookup x=some .local:=by first | exact .inl rfl | exact .inr rfl | assumption):wpAny M A (storeName X.env x u) Q E s:=by
 obtain ⟨m,hn,hl⟩:=id I.loc
 have hcls:(X.env.scope.kind == .class || (X.env.scope.kind == .module && X.env.locals != X.env.globals))=false:=by rw [I.ok.kind];rfl
 have hiσ : i < σ.length:=by rw [I.len];exact (List.getElem?_eq_some_iff.mp hi).1
 have Qa:=I.Qa
 have tracked : ∀ {a:Addr} {h':Heap},(∃ o,s.heap.get? a=some o/\H a=none)->Heap.SameBut a s.heap h'->j9 X.prog X.w H h':=fun {a h'} ha hs b ob e=>by
  obtain ⟨_,_,hfree⟩:=ha
  refine (I.hok b ob e).stay (λ c w' hc q=>(hs.2 c ?_).trans q) (λ _ q=>q) λ _ _ q=>q
  rintro rfl
  rcases hc with rfl | hc
  ·rw [hfree] at e;cases e
  ·rw [hfree] at hc;cases hc
 rcases hx with hk | hk
 ·refine wpAny_storeName_local hk hn (λ h' hn' hs => ?_) hcls
  obtain ⟨oL,_,_,hoL,_⟩:=id hn
  refine h _ ⟨I.ok,I.os,I.bare,⟨λ b o e n hb hx => ?_,λ b o e n hb hx => ?_,I.base.free,λ b o e hx => ?_,I.base.tups,I.base.kc,I.base.kJ⟩,⟨_,hn',λ j y v' e1 e2 e3 => ?_⟩,λ y c e => ?_,I.free,I.kK,λ p hp => ?_,tracked ⟨oL,hoL,I.free⟩ hs,by simpa using I.len⟩ ⟨_,hs,.inl rfl⟩
  ·exact (hs.2 b (Nat.ne_of_lt (Nat.lt_of_lt_of_le (Heap.lt_size e) I.ok.above))).trans (I.base.keep b o e n hb hx)
  ·obtain ⟨sl,e1⟩:=I.base.slot b o e n hb hx
   exact ⟨sl,(hs.2 b (Nat.ne_of_lt (Nat.lt_of_lt_of_le (Heap.lt_size e) I.ok.above))).trans e1⟩
  ·obtain ⟨o',e1⟩:=I.base.there b o e hx
   exact ⟨o',(hs.2 b (Nat.ne_of_lt (Nat.lt_of_lt_of_le (Heap.lt_size e) I.ok.above))).trans e1⟩
  ·by_cases hj:j=i
   ·subst hj
    rw [hi] at e1;cases e1
    rw [List.getElem?_set_self hiσ] at e2
    cases e2
    exact ⟨u,r,.inl ⟨hk,by simp⟩⟩
   ·rw [List.getElem?_set_ne (Ne.symm hj)] at e2
    obtain ⟨u',r',q⟩:=hl j y v' e1 e2 e3
    refine ⟨u',r',?_⟩
    rcases q with ⟨k,e⟩ | ⟨k,c,e,z⟩
    ·refine .inl ⟨k,?_⟩
     have:y≠x:=λ e=>hj (CS hN e1 (e ▸ hi))
     simp [this,e]
    ·exact .inr ⟨k,c,e,z.sameBut hs (Qa y c e)⟩
  ·obtain ⟨w',z⟩:=I.cell y c e
   exact ⟨w',z.sameBut hs (Qa y c e)⟩
  ·obtain ⟨e,n,ne,nf,d⟩:=I.pin p hp
   exact ⟨(hs.2 p.1 ne).trans e,n,ne,nf,d⟩
 ·have hfn:X.fn x=true:=by
   rcases hf with z | z
   ·exact z
   ·rw [z] at hk;cases hk
  obtain ⟨c,hc⟩:=I.ok.has x (.inl hk)
  obtain ⟨w',z⟩:=I.cell x c hc
  refine wpAny_storeName_cell I.ok.kind hk hc z (λ h' hc' hs => ?_)
  obtain ⟨oc,hoc,Wc⟩:=id z
  refine h { s with heap:=h' } ⟨I.ok,I.os,I.bare,⟨λ b o e n hb hx => ?_,λ b o e n hb hx => ?_,I.base.free,λ b o e hx => ?_,I.base.tups,I.base.kc,I.base.kJ⟩,⟨m,hn.sameBut hs (Ne.symm (Qa x c hc)),λ j y v' e1 e2 e3 => ?_⟩,λ y c' e => ?_,I.free,I.kK,λ p hp => ?_,tracked ⟨oc,hoc,I.kK x c hc⟩ hs,by simpa using I.len⟩ ⟨c,hs,.inr hc⟩
  ·exact (hs.2 b (Nat.ne_of_lt (Nat.lt_of_lt_of_le (Heap.lt_size e) (I.ok.P0 x c hfn hc)))).trans (I.base.keep b o e n hb hx)
  ·obtain ⟨sl,e1⟩:=I.base.slot b o e n hb hx
   exact ⟨sl,(hs.2 b (Nat.ne_of_lt (Nat.lt_of_lt_of_le (Heap.lt_size e) (I.ok.P0 x c hfn hc)))).trans e1⟩
  ·obtain ⟨o',e1⟩:=I.base.there b o e hx
   exact ⟨o',(hs.2 b (Nat.ne_of_lt (Nat.lt_of_lt_of_le (Heap.lt_size e) (I.ok.P0 x c hfn hc)))).trans e1⟩
  ·by_cases hj:j=i
   ·subst hj
    rw [hi] at e1;cases e1
    rw [List.getElem?_set_self hiσ] at e2
    cases e2
    exact ⟨u,r,.inr ⟨.inl hk,c,hc,hc'⟩⟩
   ·rw [List.getElem?_set_ne (Ne.symm hj)] at e2
    obtain ⟨u',r',q⟩:=hl j y v' e1 e2 e3
    refine ⟨u',r',?_⟩
    rcases q with q | ⟨k,c',e,z'⟩
    ·exact .inl q
    ·refine .inr ⟨k,c',e,z'.sameBut hs ?_⟩
     rintro rfl
     exact hj (CS hN e1 (I.ok.inj _ _ _ e hc ▸ hi))
  ·by_cases hcc:c' = c
   ·subst hcc;exact ⟨_,hc'⟩
   ·obtain ⟨w2,z2⟩:=I.cell y c' e
    exact ⟨w2,z2.sameBut hs hcc⟩
  ·obtain ⟨e,n,ne,nf,d⟩:=I.pin p hp
   refine ⟨(hs.2 p.1 ?_).trans e,n,ne,nf,d⟩
   intro q
   rw [q,hoc] at e
   have q':oc=p.2:=Option.some.inj e
   exact d w' (by rw [<-q'];exact Wc)
theorem uY {M:Model} {A:Around} {E:Value->Shared->Prop} {i:Nat} {x:Str} {v:V} {u:Value} {Q:Unit->Shared->Prop} (I:Inv X pins σ H s) (hN:X.N.Nodup) (hi:X.N[i]? = some x) (hx:Loc X.env.scope x) (r:RelV v u)
  (h : ∀ s',Inv X pins (σ.set i (some v)) H s'->Q () s') (hf:X.fn x=true\/X.env.scope.names.lookup x=some .local:=by first | exact .inl rfl | exact .inr rfl | assumption):wpAny M A (storeName X.env x u) Q E s :=
 Ak I hN hi hx r (λ s' I' _=>h s' I') hf
theorem Inv.OP {s':Shared} {ch:List Addr} (I:Inv X pins σ H s) (ho:s'.os=s.os) (u:Un (frs X.stack) ch H H' s.heap s'.heap) (hok:j9 X.prog X.w H' s'.heap) (hg:AllBare s'.gens)
  (hch : ∀ b∈ch,(b∈X.ex\/X.s₀.heap.objs.size<=b)/\b≠X.env.locals/\(∀ x c,X.env.cells.lookup x=some c->c≠b) ∧ ∀ p∈X.pn++pins,p.1≠b):Inv X pins σ H' s':=by
 obtain ⟨h',g',d',t',o'⟩:=s'
 have e:o' = s.os:=ho
 subst e
 exact I.call (g':=g') (t':=t') (d':=d') u hok hg hch
end
abbrev XK:=Value->Option Addr->Hp->Prop
abbrev St:=List (Option V)
abbrev VK:=V->Hp->Prop
abbrev TE:=St->Hp->VK->Prop
abbrev TT:=St->Hp->(Bool->Hp->Prop)->Prop
abbrev TA:=St->Hp->(List V->Hp->Prop)->Prop
structure Ends where
 nx:St->Hp->Prop
 rt:VK
 bk:St->Hp->Prop:=λ _ _=>False
 ct:St->Hp->Prop:=λ _ _=>False
abbrev TS:=Ends->St->Hp->Prop
def EP (X:Cx) (pins:List (Addr×Obj)) (σ : St) (Q:VK) (u:Value) (s':Shared):Prop := ∃ v H',Inv X pins σ H' s'/\RelV v u/\Q v H'
def TP (X:Cx) (pins:List (Addr×Obj)) (σ : St) (Q:Bool->Hp->Prop) (b:Bool) (s':Shared):Prop := ∃ H',Inv X pins σ H' s'/\Q b H'
def AP (X:Cx) (pins:List (Addr×Obj)) (σ : St) (Q:List V->Hp->Prop) (us:List Value) (s':Shared):Prop := ∃ vs H',Inv X pins σ H' s'/\Vals vs us/\Q vs H'
def SP (X:Cx) (pins:List (Addr×Obj)) (D:Ends) (f:Flow) (s':Shared):Prop :=
 match f with
 | .next => ∃ σ' H',Inv X pins σ' H' s'/\D.nx σ' H'
 | .brk => ∃ σ' H',Inv X pins σ' H' s'/\D.bk σ' H'
 | .cont => ∃ σ' H',Inv X pins σ' H' s'/\D.ct σ' H'
 | .ret u => ∃ v σ' H',Inv X pins σ' H' s'/\RelV v u/\D.rt v H'
def PE (X:Cx) (e:Expr) (t:TE):Prop :=
 ∀ (pins:List (Addr×Obj)) (s:Shared) (σ : St) (H:Hp) (Q:VK),Inv X pins σ H s->t σ H Q->wpAny (model X.prog X.w) X.A (eval e X.env) (EP X pins σ Q) X.xe s
def PT (X:Cx) (e:Expr) (t:TT):Prop :=
 ∀ (pins:List (Addr×Obj)) (s:Shared) (σ : St) (H:Hp) (Q:Bool->Hp->Prop),Inv X pins σ H s->t σ H Q->wpAny (model X.prog X.w) X.A (isTrue e X.env (eval e X.env)) (TP X pins σ Q) X.xe s
def PW (X:Cx) (e:Expr) (t:TT):Prop :=
 ∀ (whole:Sem Value) (pins:List (Addr×Obj)) (s:Shared) (σ : St) (H:Hp) (Q:Bool->Hp->Prop),Inv X pins σ H s->t σ H Q->wpAny (model X.prog X.w) X.A (isTrue e X.env whole) (TP X pins σ Q) X.xe s
theorem PW.pt {X:Cx} {e:Expr} {t:TT} (h:PW X e t):PT X e t:=h _
def PA (X:Cx) (es:List Expr) (t:TA):Prop :=
 ∀ (pos:Pos) (pins:List (Addr×Obj)) (s:Shared) (σ : St) (H:Hp) (Q:List V->Hp->Prop),Inv X pins σ H s->t σ H Q->wpAny (model X.prog X.w) X.A (spliced (backTo pos (starEach es X.env))) (AP X pins σ Q) X.xe s
def PS (X:Cx) (st:Stmt) (t:TS):Prop :=
 ∀ (pins:List (Addr×Obj)) (s:Shared) (σ : St) (H:Hp) (D:Ends),Inv X pins σ H s->t D σ H->wpAny (model X.prog X.w) X.A (exec st X.env) (SP X pins D) X.xe s
def A4 (X:Cx) (st:List Stmt) (t:TS):Prop :=
 ∀ (pins:List (Addr×Obj)) (s:Shared) (σ : St) (H:Hp) (D:Ends),Inv X pins σ H s->t D σ H->wpAny (model X.prog X.w) X.A (execs st X.env) (SP X pins D) X.xe s
theorem ck {α : Type} {t:Sem α} {Q Q' : α->Shared->Prop} {M:Model} {A:Around} {E:Value->Shared->Prop} {s:Shared} (h:wpAny M A t Q E s) (hQ : ∀ a s,Q a s->Q' a s):wpAny M A t Q' E s:=wpAny_mono h hQ λ _ _ x=>x
end L2
namespace L2
open PySem PySem.Spec PyProof.Rows
section
variable {X:Cx}
theorem bin {a b:Expr} {ta tb:TE} (ha:PE X a ta) (hb:PE X b tb) {pins:List (Addr×Obj)} {s:Shared} {σ : St} {H:Hp} {R:V->V->Hp->Prop} (I:Inv X pins σ H s) (h:ta σ H λ x H1=>tb σ H1 λ y H2=>R x y H2)
  {α : Type} {Q : α->Shared->Prop} {f:Value->Value->Sem α}
  (hf : ∀ v u s2 x y H2,Inv X pins σ H2 s2->RelV x v->RelV y u->R x y H2->wpAny (model X.prog X.w) X.A (f v u) Q X.xe s2) :
  wpAny (model X.prog X.w) X.A (eval a X.env) (λ v s₁ => wpAny (model X.prog X.w) X.A (eval b X.env) (λ u s₂ => wpAny (model X.prog X.w) X.A (f v u) Q X.xe s₂) X.xe s₁) X.xe s:=by
 refine ck (ha pins s σ H _ I h) λ v s1 ⟨x,H1,I1,r1,q1⟩ => ?_
 refine ck (hb pins s1 σ H1 _ I1 q1) λ u s2 ⟨y,H2,I2,r2,q2⟩ => ?_
 exact hf v u s2 x y H2 I2 r1 r2 q2
def Ht (i:Nat):TE:=fun σ H Q => ∃ v,σ[i]? = some (some v)/\Q v H
def tC (v:V):TE:=λ _ H Q=>Q v H
theorem Eo {i:Nat} {x:Str} {pos:Pos} (hN:X.N[i]? = some x) (hv:PZ X.env.scope x) (hd:(x == ("__debug__" : Str))=false:=by decide) (hcd:(x == ("__classdict__" : Str))=false:=by decide):PE X (.Name x pos) (Ht i):=by
 intro pins s σ H Q I h
 obtain ⟨v,e,h⟩:=h
 obtain ⟨m,hn,hl⟩:=I.loc
 obtain ⟨u,r,l⟩:=hl i x v hN e hv
 have fin:EP X pins σ Q u s:=⟨v,H,I,r,h⟩
 rcases l with ⟨hk,hm⟩ | ⟨hk,c,hc,hcell⟩
 ·exact wpAny_Name (wpAny_loadName_local I.ok.kind hk hn hm fin) hd
 ·rcases hk with hk | hk
  ·exact wpAny_Name (wpAny_loadName_cell I.ok.kind hk hc hcell fin) hd
  ·exact wpAny_Name (wpAny_loadName_free I.ok.kind hk hc hcell fin hcd) hd
theorem ak {i j pos} : PE X (.Constant (.int i) j pos) (tC (.int i)):=λ _ _ _ H _ I h=>wpAny_Constant_int ⟨.int i,H,I.tok _,⟨_,rfl⟩,h⟩
theorem bP {b j pos} : PE X (.Constant (.bool b) j pos) (tC (.bl b)):=λ _ _ _ H _ I h=>Constant_bool ⟨.bl b,H,I,rfl,h⟩
theorem bE {j pos} : PE X (.Constant .none j pos) (tC .aI):=λ _ _ _ H _ I h=>Constant_none ⟨.aI,H,I,rfl,h⟩
theorem dD {x j pos} : PE X (.Constant (.str x) j pos) (tC (.str x)):=λ _ _ _ H _ I h=>Calls.Constant_str ⟨.str x,H,I.tok _,⟨_,rfl⟩,h⟩
def Gl (X:Cx) (x:Str):Prop:=X.env.kindOf x=some .globalImplicit
theorem uK {E:Value->Shared->Prop} {pins:List (Addr×Obj)} {s:Shared} {σ : St} {H:Hp} {x:Str} {u:Value} {pos:Pos} {Q:Value->Shared->Prop} (I:Inv X pins σ H s) (hg:Gl X x) (hm:X.mg x=some u) (h:Q u s)
  (hd:(x == ("__debug__" : Str))=false:=by decide):wpAny (model X.prog X.w) X.A (eval (.Name x pos) X.env) Q E s :=
 Calls.Name_function_global I.ok.kind hg (Calls.loadGlobal_global (by rw [I.ok.glob];exact I.mod.glob.keeps I.bk) hm h) hd
theorem A5 {E:Value->Shared->Prop} {pins:List (Addr×Obj)} {s:Shared} {σ : St} {H:Hp} {x:Str} {u:Value} {pos:Pos} {Q:Value->Shared->Prop} (I:Inv X pins σ H s) (hg:Gl X x) (hm:X.mg x=none) (hv:bootBuiltins x=some u) (h:Q u s)
  (hn:x ≠ "__name__" := by decide) (hd:(x == ("__debug__" : Str))=false:=by decide):wpAny (model X.prog X.w) X.A (eval (.Name x pos) X.env) Q E s:=by
 obtain ⟨mb,h1,h2⟩:=I.mod.blt
 exact Calls.Name_function_global I.ok.kind hg (Calls.loadGlobal_builtin (by rw [I.ok.glob];exact I.mod.glob.keeps I.bk) hm (by rw [I.ok.blt];exact h1.keeps I.bk) ((h2 x hn).trans hv) h) hd
theorem fW {x:Str} {v:V} {u:Value} {pos:Pos} (hg:Gl X x) (hm:X.mg x=none) (hv:bootBuiltins x=some u) (r:RelV v u) (hn:x ≠ "__name__" := by decide) (hd:(x == ("__debug__" : Str))=false:=by decide):PE X (.Name x pos) (tC v) :=
 λ _ _ _ H _ I h=>A5 I hg hm hv ⟨v,H,I,r,h⟩ hn hd
variable {a b:Expr} {ta tb:TE} {pos:Pos}
def PC (X:Cx) (op:CmpOp) (a b:Expr) (t:TE):Prop :=
 ∀ (pins:List (Addr×Obj)) (s:Shared) (σ : St) (H:Hp) (Q:VK),Inv X pins σ H s->t σ H Q →
   wpAny (model X.prog X.w) X.A (eval a X.env) (λ v s₁ => wpAny (model X.prog X.w) X.A (eval b X.env) (λ u s₂ => wpAny (model X.prog X.w) X.A (compareOp op v u) (EP X pins σ Q) X.xe s₂) X.xe s₁) X.xe s
theorem oV (b:Expr) {op:CmpOp} (h:op ≠ .In) (h2:op ≠ .NotIn):behindInMarks op b=false:=by
 have e1:(op == CmpOp.In)=false:=by cases op <;> first | rfl | exact absurd rfl h
 have e2:(op == CmpOp.NotIn)=false:=by cases op <;> first | rfl | exact absurd rfl h2
 cases b <;> simp [behindInMarks,e1,e2]
def tB (t:TE):TT:=fun σ H Q=>t σ H λ x H1 => ∃ c,x = .bl c/\Q c H1
theorem Wd {op:CmpOp} {t:TE} (h:PC X op a b t) (h1:behindInMarks op b=false:=by first | exact oV _ (by decide) (by decide) | rfl):PE X (.Compare a [op] [b] pos) t:=λ pins s σ H Q I hw=>wpAny_Compare1 (h pins s σ H Q I hw) h1
theorem JC {op:CmpOp} {t:TE} (h:PC X op a b t) (h1:behindInMarks op b=false:=by first | exact oV _ (by decide) (by decide) | rfl):PT X (.Compare a [op] [b] pos) (tB t):=by
 intro pins s σ H Q I hw
 refine wpAny_isTrue_Compare1 (ck (h pins s σ H _ I hw) λ v s1 h1=>ck h1 λ u s2 h2=>ck h2 λ c s3 ⟨x,H1,I1,r1,q1⟩ => ?_) h1
 obtain ⟨d,rfl,q⟩:=q1
 cases r1
 exact wpAny_truthy_bool ⟨H1,I1,q⟩
theorem aZ {e:Expr} {t:TE} (h:PE X e t) (he : ∀ whole,isTrue e X.env whole=(do let v <-whole;standAt e.pos;holding [v] (truthy v)):=by intro _;rfl):PT X e (tB t):=by
 intro pins s σ H Q I hw
 refine isTrue_plain (ck (h pins s σ H _ I hw) λ v s1 ⟨x,H1,I1,r1,q1⟩ => ?_) (he _)
 obtain ⟨d,rfl,q⟩:=q1
 cases r1
 exact wpAny_truthy_bool ⟨H1,I1,q⟩
variable {tA Vf:TT} {rest:List Expr}
def Qc (t u:TT):TT:=fun σ H Q=>t σ H λ c H1=>if c=true then u σ H1 Q else Q false H1
def We (t u:TT):TT:=fun σ H Q=>t σ H λ c H1=>if c=true then Q true H1 else u σ H1 Q
def Qd (t:TT):TT:=fun σ H Q=>t σ H λ c H1=>Q (!c) H1
theorem pw_and1 (ha:PT X a tA):PW X (.BoolOp .And [a] pos) tA:=by
 intro wh pins s σ H Q I h
 refine isTrue_and (ck (ha pins s σ H Q I h) λ c s1 e => ?_)
 cases c with
 | true=>exact isTrue_and_nil e
 | false=>exact e
theorem pw_or1 (ha:PT X a tA):PW X (.BoolOp .Or [a] pos) tA:=by
 intro wh pins s σ H Q I h
 refine isTrue_or (ck (ha pins s σ H Q I h) λ c s1 e => ?_)
 cases c with
 | false=>exact isTrue_or_nil e
 | true=>exact e
theorem pw_and (ha:PT X a tA) (hb:PW X (.BoolOp .And (b::rest) pos) Vf):PW X (.BoolOp .And (a::b::rest) pos) (Qc tA Vf):=by
 intro wh pins s σ H Q I h
 refine isTrue_and (ck (ha pins s σ H _ I h) λ c s1 ⟨H1,I1,q1⟩ => ?_)
 cases c with
 | true=>exact hb wh pins s1 σ H1 Q I1 q1
 | false=>exact ⟨H1,I1,q1⟩
theorem pw_or (ha:PT X a tA) (hb:PW X (.BoolOp .Or (b::rest) pos) Vf):PW X (.BoolOp .Or (a::b::rest) pos) (We tA Vf):=by
 intro wh pins s σ H Q I h
 refine isTrue_or (ck (ha pins s σ H _ I h) λ c s1 ⟨H1,I1,q1⟩ => ?_)
 cases c with
 | true=>exact ⟨H1,I1,q1⟩
 | false=>exact hb wh pins s1 σ H1 Q I1 q1
theorem cV (ha:PT X a tA):PT X (.UnaryOp .Not a pos) (Qd tA):=by
 intro pins s σ H Q I h
 exact isTrue_not (ha pins s σ H (λ c H1=>Q (!c) H1) I h)
def JD (ta tb:TE):TE:=fun σ H Q=>ta σ H λ x H1 => ∃ c,x = .bl c/\if c=true then tb σ H1 Q else Q (.bl false) H1
def Qe (ta tb:TE):TE:=fun σ H Q=>ta σ H λ x H1 => ∃ c,x = .bl c/\if c=true then Q (.bl true) H1 else tb σ H1 Q
def JE (ta:TE):TE:=fun σ H Q=>ta σ H λ x H1 => ∃ c,x = .bl c/\Q (.bl (!c)) H1
theorem nH {op} {t:TE} (h:PE X a t):PE X (.BoolOp op [a] pos) t:=λ pins s σ H Q I hw=>BoolOp_one (h pins s σ H Q I hw)
theorem uZ (ha:PE X a ta) (hb:PE X (.BoolOp .And (b::rest) pos) tb):PE X (.BoolOp .And (a::b::rest) pos) (JD ta tb):=by
 intro pins s σ H Q I h
 refine BoolOp_and (ck (ha pins s σ H _ I h) λ v s1 ⟨x,H1,I1,r1,q1⟩ => ?_)
 obtain ⟨c,rfl,q1⟩:=q1
 cases r1
 refine wpAny_truthy_bool ?_
 cases c with
 | true=>exact hb pins s1 σ H1 Q I1 q1
 | false=>exact ⟨.bl false,H1,I1,rfl,q1⟩
theorem OQ (ha:PE X a ta) (hb:PE X (.BoolOp .Or (b::rest) pos) tb):PE X (.BoolOp .Or (a::b::rest) pos) (Qe ta tb):=by
 intro pins s σ H Q I h
 refine BoolOp_or (ck (ha pins s σ H _ I h) λ v s1 ⟨x,H1,I1,r1,q1⟩ => ?_)
 obtain ⟨c,rfl,q1⟩:=q1
 cases r1
 refine wpAny_truthy_bool ?_
 cases c with
 | false=>exact hb pins s1 σ H1 Q I1 q1
 | true=>exact ⟨.bl true,H1,I1,rfl,q1⟩
theorem Ep (ha:PE X a ta):PE X (.UnaryOp .Not a pos) (JE ta):=by
 intro pins s σ H Q I h
 refine UnaryOp_ (ck (ha pins s σ H _ I h) λ v s1 ⟨x,H1,I1,r1,q1⟩ => ?_)
 obtain ⟨c,rfl,q1⟩:=q1
 cases r1
 exact not_of (wpAny_truthy_bool ⟨.bl (!c),H1,I1,rfl,q1⟩)
end
end L2
namespace L2
open PySem PySem.Spec PyProof.Rows
def fq (K:PySem.W.Frag) (H:Hp) (a:Addr) (xs:List V):Prop :=
 Rd H a (.lst xs) ∨
  ∃ (o:Obj) (its:Array Value) (n:Nat),K.lookup a=some o/\o.cls = .type "list" ∧ o.dict=none/\o.data = .seq its n/\its.size<=sizeLine/\Vals xs its.toList
def Eg (K:PySem.W.Frag) (H:Hp) (a:Addr) (xs:List V):Prop :=
 Rd H a (.tup xs) ∨
  ∃ (o:Obj) (its:Array Value) (n:Nat),K.lookup a=some o/\o.cls = .type "tuple" ∧ o.data = .seq its n/\its.size<=sizeLine/\Vals xs its.toList
def Wf:Value->Option V
 | .none=>some .aI
 | .bool b=>some (.bl b)
 | .int i _=>some (.int i)
 | .str x _=>some (.str x)
 | .bytes b _=>some (.Jv b)
 | .float b _=>some (.PV b)
 | .ref a=>some (.ref a)
 | .type n=>some (.ty n)
 | _=>none
theorem RelV.abs {x:V} {u:Value} (r:RelV x u):Wf u=some x:=by
 cases x with
 | aI=>cases r;rfl
 | bl _=>cases r;rfl
 | int _=>obtain ⟨t,rfl⟩:=r;rfl
 | str _=>obtain ⟨t,rfl⟩:=r;rfl
 | Jv _=>obtain ⟨t,rfl⟩:=r;rfl
 | PV _=>obtain ⟨t,rfl⟩:=r;rfl
 | ref _=>cases r;rfl
 | ty _=>cases r;rfl
theorem RelV.inj {x y:V} {u:Value} (r:RelV x u) (q:RelV y u):x=y:=Option.some.inj (r.abs.symm.trans q.abs)
theorem Vals.inj : ∀ {xs ys:List V} {us:List Value},Vals xs us->Vals ys us->xs=ys
 | _,_,_,.nil,.nil=>rfl
 | _,_,_,.cons r t,.cons r' t'=>by rw [r.inj r',Vals.inj t t']
section
variable {X:Cx} {pins:List (Addr×Obj)} {σ : St} {H:Hp} {s:Shared} {a:Addr} {xs ys:List V}
theorem fq.of {K:PySem.W.Frag} (h:H a=some (.lst xs)):fq K H a xs := .inl (.inl h)
theorem Eg.of {K:PySem.W.Frag} (h:H a=some (.tup xs)):Eg K H a xs := .inl (.inl h)
theorem Inv.list (I:Inv X pins σ H s) (h:fq X.K H a xs) : ∃ its:List Value,Vals xs its/\PlainL s.heap a its.toArray/\xs.length<=sizeLine:=by
 rcases h with h | ⟨o,its,n,hk,hc,hd,hs,hz,r⟩
 ·obtain ⟨z,its,n,r,e⟩:=h.ok I.hok
  exact ⟨its,r,⟨_,n,e,rfl,rfl,rfl⟩,z⟩
 ·refine ⟨its.toList,r,⟨o,n,I.sj a o hk,hc,hd,by simpa using hs⟩,?_⟩
  have e:=r.length
  simp only [Array.length_toList] at e
  omega
theorem Inv.tuple (I:Inv X pins σ H s) (h:Eg X.K H a xs) : ∃ its:List Value,Vals xs its/\IsTup s.heap a its.toArray/\xs.length<=sizeLine:=by
 rcases h with h | ⟨o,its,n,hk,hc,hs,hz,r⟩
 ·obtain ⟨z,its,r,p⟩:=h.ok I.hok
  exact ⟨its,r,p,z⟩
 ·refine ⟨its.toList,r,⟨o,I.sj a o hk,hc,n,by simpa using hs⟩,?_⟩
  have e:=r.length
  simp only [Array.length_toList] at e
  omega
theorem Inv.JF (I:Inv X pins σ H s) (h:fq X.K H a xs) (h':fq X.K H a ys):xs=ys:=by
 obtain ⟨its,r,⟨o,n,e,_,_,d⟩,_⟩:=I.list h
 obtain ⟨its',r',⟨o',n',e',_,_,d'⟩,_⟩:=I.list h'
 rw [e] at e';cases e'
 rw [d] at d'
 injection d' with d1 _
 have:its=its':=by simpa using congrArg Array.toList d1
 subst this
 exact r.inj r'
end
abbrev Cx.kL (X:Cx) (E:Value->Shared->Prop):Cx := { X with xe:=E }
abbrev Cx.Eh (X:Cx):Cx:=X.kL λ _ _=>False
theorem Cx.Ok.kL {X:Cx} (ok:X.Ok) (E:Value->Shared->Prop):(X.kL E).Ok :=
 ⟨ok.mod,ok.kind,ok.glob,ok.blt,ok.above,ok.inj,ok.has,ok.P0,ok.hd,ok.frames,ok.stk,ok.Ve,ok.bs,ok.Jw,ok.En,ok.Hs,ok.oU,ok.MR⟩
theorem Cx.Ok.gm {X:Cx} {E:Value->Shared->Prop} (ok:(X.kL E).Ok):X.Ok :=
 ⟨ok.mod,ok.kind,ok.glob,ok.blt,ok.above,ok.inj,ok.has,ok.P0,ok.hd,ok.frames,ok.stk,ok.Ve,ok.bs,ok.Jw,ok.En,ok.Hs,ok.oU,ok.MR⟩
section
variable {X:Cx} {pins:List (Addr×Obj)} {σ : St} {H:Hp} {s:Shared} {E:Value->Shared->Prop}
theorem Inv.kL (I:Inv X pins σ H s) (E:Value->Shared->Prop):Inv (X.kL E) pins σ H s:=⟨I.ok.kL E,I.os,I.bare,I.base,I.loc,I.cell,I.free,I.kK,I.pin,I.hok,I.len⟩
theorem Inv.gm (I:Inv (X.kL E) pins σ H s):Inv X pins σ H s:=⟨I.ok.gm,I.os,I.bare,I.base,I.loc,I.cell,I.free,I.kK,I.pin,I.hok,I.len⟩
theorem SP.gm {D:Ends} {f:Flow} {s':Shared} (h:SP (X.kL E) pins D f s'):SP X pins D f s':=by
 cases f with
 | next=>obtain ⟨σ',H',I,q⟩:=h;exact ⟨σ',H',I.gm,q⟩
 | brk=>obtain ⟨σ',H',I,q⟩:=h;exact ⟨σ',H',I.gm,q⟩
 | cont=>obtain ⟨σ',H',I,q⟩:=h;exact ⟨σ',H',I.gm,q⟩
 | ret u=>obtain ⟨v,σ',H',I,r,q⟩:=h;exact ⟨v,σ',H',I.gm,r,q⟩
theorem PE.Eh {e:Expr} {t:TE} (h:PE X.Eh e t):PE X e t:=λ pins s σ H Q I hw =>
 wpAny_mono (h pins s σ H Q (I.kL _) hw) (λ _ _ ⟨v,H',I',r,q⟩=>⟨v,H',I'.gm,r,q⟩) λ _ _ z=>False.elim z
theorem PT.Eh {e:Expr} {t:TT} (h:PT X.Eh e t):PT X e t:=λ pins s σ H Q I hw =>
 wpAny_mono (h pins s σ H Q (I.kL _) hw) (λ _ _ ⟨H',I',q⟩=>⟨H',I'.gm,q⟩) λ _ _ z=>False.elim z
theorem A4.Eh {st:List Stmt} {t:TS} (h:A4 X.Eh st t):A4 X st t:=λ pins s σ H D I hw =>
 wpAny_mono (h pins s σ H D (I.kL _) hw) (λ _ _ q=>q.gm) λ _ _ z=>False.elim z
end
section
variable {X:Cx} {st:Stmt} {rest:List Stmt} {t u:TS} {e:Expr} {te:TE} {pos:Pos}
def Gs:TS:=λ D σ H=>D.nx σ H
def JG (t u:TS):TS:=λ D σ H=>t { D with nx:=u D } σ H
theorem aF:A4 X [] Gs:=λ _ _ σ H _ I h=>wpAny_execs_nil ⟨σ,H,I,h⟩
theorem af (h1:PS X st t) (h2:A4 X rest u):A4 X (st::rest) (JG t u):=by
 intro pins s σ H D I h
 refine wpAny_execs_cons (ck (h1 pins s σ H { D with nx:=u D } I h) λ f s1 q => ?_)
 cases f with
 | next =>
   obtain ⟨σ',H',I',q⟩:=q
   exact h2 pins s1 σ' H' D I' q
 | ret v=>exact q
 | brk=>exact q
 | cont=>exact q
theorem ao (h1:PS X st t):A4 X [st] t:=by
 intro pins s σ H D I h
 refine wpAny_execs_cons (ck (h1 pins s σ H D I h) λ f s1 q => ?_)
 cases f with
 | next=>exact wpAny_execs_nil q
 | ret v=>exact q
 | brk=>exact q
 | cont=>exact q
theorem Inv.quiet {pins:List (Addr×Obj)} {σ : St} {H:Hp} {s:Shared} (I:Inv X pins σ H s):interactive X.env=false:=by simp [interactive,I.ok.kind]
def JH (te:TE):TS:=λ D σ H=>te σ H λ _ H1=>D.nx σ H1
theorem b9 (he:PE X e te) (hs:swapsWith e none pos.line X.env=pure false:=by rfl):PS X (.Expr e pos) (JH te):=by
 intro pins s σ H D I h
 exact wpAny_Expr_any (ck (he pins s σ H _ I h) λ v s1 ⟨x,H1,I1,r1,q1⟩=>⟨σ,H1,I1,q1⟩) I.quiet hs
def MS (te:TE):TS:=λ D σ H=>te σ H D.rt
theorem aE (he:PE X e te):PS X (.Return (some e) pos) (MS te):=by
 intro pins s σ H D I h
 exact wpAny_Return_some (ck (he pins s σ H _ I h) λ v s1 ⟨x,H1,I1,r1,q1⟩=>⟨x,σ,H1,I1,r1,q1⟩)
def MT (c:TT) (t u:TS):TS:=λ D σ H=>c σ H λ b H1=>if b=true then t D σ H1 else u D σ H1
theorem aS {c:Expr} {a b:List Stmt} {tc:TT} (hc:PT X c tc) (ha:A4 X a t) (hb:A4 X b u):PS X (.If c a b pos) (MT tc t u):=by
 intro pins s σ H D I h
 refine wpAny_If (ck (hc pins s σ H _ I h) λ d s1 ⟨H1,I1,q1⟩ => ?_)
 cases d with
 | true=>exact ha pins s1 σ H1 D I1 q1
 | false=>exact hb pins s1 σ H1 D I1 q1
end
abbrev TG:=V->St->Hp->(St->Hp->Prop)->Prop
abbrev Qf:=List V->St->Hp->(St->Hp->Prop)->Prop
def PG (X:Cx) (target:Expr) (t:TG):Prop :=
 ∀ (pins:List (Addr×Obj)) (s:Shared) (σ : St) (H:Hp) (v:V) (u:Value) (Q:St->Hp->Prop),Inv X pins σ H s->RelV v u->t v σ H Q →
   wpAny (model X.prog X.w) X.A (assign target X.env u) (λ _ s' => ∃ σ' H',Inv X pins σ' H' s'/\Q σ' H') X.xe s
def Vg (X:Cx) (ts:List Expr) (t:Qf):Prop :=
 ∀ (pins:List (Addr×Obj)) (s:Shared) (σ : St) (H:Hp) (vs:List V) (us:List Value) (Q:St->Hp->Prop),Inv X pins σ H s->Vals vs us->t vs σ H Q →
   wpAny (model X.prog X.w) X.A (assignInOrder ((assignEach ts X.env).map (·.2)) us) (λ _ s' => ∃ σ' H',Inv X pins σ' H' s'/\Q σ' H') X.xe s
abbrev JI:=V->V->V->Hp->(Hp->Prop)->Prop
def Sz (X:Cx) (t:JI):Prop :=
 ∀ (pins:List (Addr×Obj)) (s:Shared) (σ : St) (H:Hp) (o i v:V) (ov iv u:Value) (Q:Hp->Prop),Inv X pins σ H s->RelV o ov->RelV i iv->RelV v u->t o i v H Q →
   wpAny (model X.prog X.w) X.A (setItem ov iv u) (λ _ s' => ∃ H',Inv X pins σ H' s'/\Q H') X.xe s
section
variable {X:Cx} {pos:Pos}
def sr (i:Nat):TG:=λ v σ H Q=>Q (σ.set i (some v)) H
theorem eK {i:Nat} {x:Str} (hN:X.N.Nodup) (hi:X.N[i]? = some x) (hx:Loc X.env.scope x) (hf:X.fn x=true\/X.env.scope.names.lookup x=some .local:=by first | exact .inl rfl | exact .inr rfl | assumption):PG X (.Name x pos) (sr i):=by
 intro pins s σ H v u Q I r h
 exact wpAny_assign_Name (uY I hN hi hx r (λ s' I'=>⟨_,H,I',h⟩) hf)
def SA:Qf:=λ vs σ H Q=>vs = []/\Q σ H
def JJ (t:TG) (u:Qf):Qf:=λ vs σ H Q => ∃ v r,vs=v::r/\t v σ H fun σ' H'=>u r σ' H' Q
theorem MU:Vg X [] SA:=by
 intro pins s σ H vs us Q I r h
 obtain ⟨e,h⟩:=h
 subst e
 cases r
 exact assignInOrder_nil ⟨σ,H,I,h⟩
theorem CT {e:Expr} {es:List Expr} {t:TG} {u:Qf} (h1:PG X e t) (h2:Vg X es u)
  (hs:(assignEach (e::es) X.env).map (·.2)=assign e X.env::(assignEach es X.env).map (·.2):=by rfl):Vg X (e::es) (JJ t u):=by
 intro pins s σ H vs us Q I r h
 obtain ⟨v,vr,e1,h⟩:=h
 subst e1
 cases r with
 | cons r rr =>
   rw [hs]
   refine assignInOrder_cons (ck (h1 pins s σ H _ _ _ I r h) λ _ s1 ⟨σ1,H1,I1,q1⟩ => ?_)
   exact h2 pins s1 σ1 H1 _ _ Q I1 rr q1
def SD (K:PySem.W.Frag) (n:Nat) (t:Qf):TG:=λ v σ H Q => ∃ a xs,v = .ref a/\Eg K H a xs/\xs.length=n/\t xs σ H Q
theorem Qg {es:List Expr} {k:Nat} {t:Qf} {n:Nat} (hc:X.calm=true) (h:Vg X es t)
  (hn:(assignEach es X.env).length=n:=by rfl) (hst:(assignEach es X.env).findIdx? (·.1)=none:=by rfl):PG X (.Tuple es k pos) (SD X.K n t):=by
 intro pins s σ H v u Q I r hw
 obtain ⟨a,xs,e1,hq,hl,hw⟩:=hw
 subst e1
 cases r
 obtain ⟨its,rv,ht,hz⟩:=I.tuple hq
 refine assign_Tuple_tuple (I.ok.hd hc) ht (by simp [hn,<-hl,rv.length]) hst λ h' hx => ?_
 have I1:Inv X pins σ H { s with heap:=h' } := I.kept (t':=s.toks) λ b o e=>hx b o (Nat.ne_of_lt (Heap.lt_size e)) e
 exact h pins _ σ H xs _ Q I1 (by simpa using rv) hw
def Qh (to ti:TE) (t:JI):TG:=λ v σ H Q=>to σ H λ o H1=>ti σ H1 λ i H2=>t o i v H2 λ H3=>Q σ H3
theorem bN {o i:Expr} {to ti:TE} {t:JI} (ho:PE X o to) (hi:PE X i ti) (hs:Sz X t)
  (ha : ∀ v,assign (.Subscript o i pos) X.env v=(do
   let ov <-holding [v] (eval o X.env)
   let iv <-holding [v,ov] (eval i X.env)
   standAt pos
   holding [v,ov,iv] (setItem ov iv v)
   release [v,ov,iv] []):=by intro _;rfl):PG X (.Subscript o i pos) (Qh to ti t):=by
 intro pins s σ H v u Q I r h
 rw [ha]
 refine wpAny_bind (wpAny_holding (ck (ho pins s σ H _ I h) λ ov s1 ⟨x,H1,I1,r1,q1⟩ => ?_))
 refine wpAny_bind (wpAny_holding (ck (hi pins s1 σ H1 _ I1 q1) λ iv s2 ⟨y,H2,I2,r2,q2⟩ => ?_))
 refine wpAny_bind (wpAny_standAt (wpAny_bind (wpAny_holding (ck (hs pins s2 σ H2 x y v ov iv u _ I2 r1 r2 r q2) λ _ s3 ⟨H3,I3,q3⟩ => ?_))))
 exact wpAny_release ⟨σ,H3,I3,q3⟩
def JK (te:TE) (g:TG):TS:=λ D σ H=>te σ H λ x H1=>g x σ H1 D.nx
theorem bJ {tg e:Expr} {te:TE} {g:TG} (he:PE X e te) (hg:PG X tg g) (hs:swapsWithSole [tg] e pos.line X.env=pure false:=by rfl) (hw:swappedStores [tg] e X.env=pure none:=by rfl)
  (h1:(assignEach [tg] X.env).map (·.2) = [assign tg X.env]:=by rfl):PS X (.Assign [tg] e pos) (JK te g):=by
 intro pins s σ H D I h
 refine wpAny_Assign_stores (ck (he pins s σ H _ I h) λ v s1 ⟨x,H1,I1,r1,q1⟩ => ?_) hs hw
 rw [h1]
 exact ck (hg pins s1 σ H1 x v _ I1 r1 q1) λ _ s2 q=>q
theorem aK {i:Nat} {x:Str} {e:Expr} {te:TE} {pos':Pos} (hN:X.N.Nodup) (hi:X.N[i]? = some x) (hx:Loc X.env.scope x) (he:PE X e te) (hs:swapsWith e (some (.Name x pos')) pos.line X.env=pure false:=by rfl) (hf:X.fn x=true\/X.env.scope.names.lookup x=some .local:=by first | exact .inl rfl | exact .inr rfl | assumption) :
  PS X (.Assign [.Name x pos'] e pos) (JK te (sr i)):=by
 intro pins s σ H D I h
 refine wpAny_Assign_Name (ck (he pins s σ H _ I h) λ v s1 ⟨y,H1,I1,r1,q1⟩ => ?_) hs
 exact uY I1 hN hi hx r1 (λ s2 I2=>⟨_,H1,I2,q1⟩) hf
end
section
variable {X:Cx} {pos:Pos}
end
structure It where
 go:Nat->Hp->Prop
 MV:Nat->Hp->V->Hp->Prop
 stop:Nat->Hp->Prop
def oW (X:Cx) (pins:List (Addr×Obj)) (H:Hp) (b:Addr):Prop :=
 H b=none/\b≠X.env.locals/\b ∉ X.fs/\(b∈X.ex\/X.s₀.heap.objs.size<=b)/\(∀ x c,X.env.cells.lookup x=some c->c≠b) ∧ ∀ p∈X.pn++pins,p.1≠b
theorem Inv.SE {X:Cx} {pins:List (Addr×Obj)} {σ : St} {H H':Hp} {s:Shared} {b:Addr} (I:Inv X pins σ H s) (hb:s.heap.objs.size<=b) (hn:H' b=none):oW X pins H' b:=by
 refine ⟨hn,Nat.ne_of_gt (Nat.lt_of_lt_of_le I.lt hb),I.Wa hb,.inr (Nat.le_trans I.sz hb),λ x c e z => ?_,λ p hp z => ?_⟩
 ·obtain ⟨v,q⟩:=I.cell x c e
  exact absurd (Nat.lt_of_lt_of_le q.lt (by rw [z];exact hb)) (Nat.lt_irrefl _)
 ·exact absurd (Nat.lt_of_lt_of_le (Heap.lt_size (I.pin p hp).1) (by rw [z];exact hb)) (Nat.lt_irrefl _)
structure Turn (P:Program) (w:World) (K:PySem.W.Frag) (tg:Expr) (J:It) (fp:List Addr) (it:Addr) (tn:Nat->Heap->Prop):Prop where
 mem:it∈fp
 obj : ∀ i h,tn i h->∀ b∈fp,∃ o,h.get? b=some o ∧ ∀ v,o.data ≠ .cell v
 keep : ∀ i h h',tn i h->(∀ b∈fp,∀ o,h.get? b=some o->h'.get? b=some o)->tn i h'
 item : ∀ (X:Cx),X.prog=P->X.w=w->X.K=K->X.calm=true->∀ (i:Nat) (pins:List (Addr×Obj)) (s:Shared) (σ : St) (H:Hp) (E:Value->Shared->Prop),Inv X pins σ H s->(∀ b∈fp,oW X pins H b)->tn i s.heap->J.go i H →
  wpAny (model P w) X.A (pyNext (.ref it)) (λ r s1 => ∃ u,r=some u ∧
   wpAny (model P w) X.A (letOwnedTupleGo tg (.ref it) u) (λ _ s2 => ∃ x H',Inv X pins σ H' s2/\RelV x u/\J.MV i H x H'/\tn (i+1) s2.heap ∧ ∀ b∈fp,H' b=none) E s1) E s
 done : ∀ (X:Cx),X.prog=P->X.w=w->X.K=K->X.calm=true->∀ (i:Nat) (pins:List (Addr×Obj)) (s:Shared) (σ : St) (H:Hp) (E:Value->Shared->Prop),Inv X pins σ H s->(∀ b∈fp,oW X pins H b)->tn i s.heap->J.stop i H →
  wpAny (model P w) X.A (pyNext (.ref it)) (λ r s1=>r=none/\Inv X pins σ H s1) E s
 self : ∀ (A:Around) (i:Nat) (s:Shared) (Q:Value->Shared->Prop) (E:Value->Shared->Prop),tn i s.heap->Q (.ref it) s->wpAny (model P w) A (pyIter (.ref it)) Q E s
abbrev TI:=St->Hp->(It->Hp->Prop)->Prop
def PIE (X:Cx) (pins:List (Addr×Obj)) (σ : St) (tg:Expr) (R:It->Hp->Prop) (itv:Value) (s2:Shared):Prop :=
 ∃ (it:Addr) (fp:List Addr) (tn:Nat->Heap->Prop) (J:It) (H':Hp),itv = .ref it/\Inv X pins σ H' s2/\Turn X.prog X.w X.K tg J fp it tn/\tn 0 s2.heap/\(∀ b∈fp,oW X pins H' b)/\R J H'
def PI (X:Cx) (tg iter:Expr) (wi:TI):Prop :=
 ∀ (pins:List (Addr×Obj)) (s:Shared) (σ : St) (H:Hp) (R:It->Hp->Prop),Inv X pins σ H s->wi σ H R →
   wpAny (model X.prog X.w) X.A (eval iter X.env) (λ v s1=>wpAny (model X.prog X.w) X.A (pyIter v) (PIE X pins σ tg R) X.xe s1) X.xe s
theorem OR {M:Model} {A:Around} {E:Value->Shared->Prop} {s:Shared} {tg:Expr} {it:Addr} {u:Value} {o:Obj} {n:String} {vs:Array Value} {Q:Unit->Shared->Prop} (ho:s.heap.get? it=some o) (hc:o.cls = .type n) (hd:o.data = .fields vs)
  (hn:["enumerate","zip","dict_itemiterator","dict_reverseitemiterator","odict_iterator","itertools.zip_longest","itertools.pairwise"].contains n=false) (hQ:Q () s):wpAny M A (letOwnedTupleGo tg (.ref it) u) Q E s:=by
 unfold letOwnedTupleGo
 cases tg <;> first
  | exact wpAny_pure hQ
  | (cases u <;> first
    | exact wpAny_pure hQ
    | (refine wpAny_bind (wpAny_load ho ?_)
       rw [hc,hd]
       show wpAny M A (if (["enumerate","zip","dict_itemiterator","dict_reverseitemiterator","odict_iterator","itertools.zip_longest","itertools.pairwise"].contains n && vs[0]? == some (rawInt _))=true then _ else _) Q E s
       rw [if_neg (by intro h;rw [hn,Bool.false_and] at h;cases h)]
       exact wpAny_pure hQ))
def Jx (K:PySem.W.Frag) (a:Addr):It :=
 ⟨λ i H => ∃ xs x,fq K H a xs/\xs[i]? = some x,λ i H x H'=>H' = H ∧ ∀ xs,fq K H a xs->xs[i]? = some x,λ i H => ∃ xs,fq K H a xs/\xs.length<=i⟩
def Hu (lo:Int) (n:Nat):It:=⟨λ i _=>i < n,λ i H x H'=>H' = H/\x = .int (lo+i),λ i _=>n<=i⟩
theorem Hv {P:Program} {w:World} {K:PySem.W.Frag} {tg:Expr} (a it:Addr):Turn P w K tg (Jx K a) [it] it (λ i h=>h.IsListIter it a i) where
 mem:=by simp
 obj:=λ i h st b hb=>by
  have e:b=it:=by simpa using hb
  subst e
  obtain ⟨o,e,c,d⟩:=st
  exact ⟨o,e,λ v z=>by rw [d] at z;cases z⟩
 keep:=λ i h h' st k=>st.at λ o e=>k it (by simp) o e
 item:=by
  intro X hP hw hK hc i pins s σ H E I hf st hg
  subst hP hw hK
  obtain ⟨xs,x,hq,hx⟩:=hg
  obtain ⟨its,rv,p,hz⟩:=I.list hq
  obtain ⟨u,hu,ru⟩:=rv.get hx
  obtain ⟨f0,f1,f2,f3,f4,f5⟩:=hf it (by simp)
  refine wpAny_pyNext_list_item st p.isList (x:=u) (by simpa using hu) λ h' st' sb => ?_
  have I1:Inv X pins σ H { s with heap:=h' } := I.turned (t':=s.toks) (λ b o hb e=>(sb.2 b hb).trans e) f0 f1 f3 f4 f5
  obtain ⟨o,e,c,d⟩:=id st'
  exact ⟨u,rfl,OR (s := { s with heap:=h' }) e c d (by decide) ⟨x,H,I1,ru,⟨rfl,λ ys hy=>by rw [I.JF hy hq];exact hx⟩,st',λ b hb=>(hf b hb).1⟩⟩
 done:=by
  intro X hP hw hK hc i pins s σ H E I hf st hg
  subst hP hw hK
  obtain ⟨xs,hq,hx⟩:=hg
  obtain ⟨its,rv,p,hz⟩:=I.list hq
  obtain ⟨f0,f1,f2,f3,f4,f5⟩:=hf it (by simp)
  have hl:=rv.length
  exact wpAny_pyNext_list_end (I.ok.hd hc) st p.isList (by simp;omega) λ h' eb=>⟨rfl,I.turned (t':=s.toks) (λ b o hb e=>eb b o hb e) f0 f1 f3 f4 f5⟩
 self:=λ _ _ _ _ _ st h=>wpAny_pyIter_listiter st h
theorem Er {P:Program} {w:World} {K:PySem.W.Frag} {tg:Expr} (it:Addr) (lo:Int) (n:Nat):Turn P w K tg (Hu lo n) [it] it (λ i h=>IsRangeIter h it (lo+(i:Nat) * 1) ((n:Int) - (i:Nat)) 1) where
 mem:=by simp
 obj:=λ i h st b hb=>by
  have e:b=it:=by simpa using hb
  subst e
  exact ⟨_,st,λ v z=>by
   have z':Data.fields _=Data.cell v:=z
   cases z'⟩
 keep:=λ i h h' st k=>k it (by simp) _ st
 item:=by
  intro X hP hw hK hc i pins s σ H E I hf st hg
  subst hP hw hK
  obtain ⟨f0,f1,f2,f3,f4,f5⟩:=hf it (by simp)
  have W:=Walks.range (prog:=X.prog) (w:=X.w) (I.ok.hd hc) it lo 1 n
  refine W.item i s _ _ hg st λ v h' tk hv st' kk => ?_
  obtain ⟨t,rfl⟩:=hv
  have I1:Inv X pins σ H { s with heap:=h',toks:=tk } := I.turned (λ b o hb e=>kk b o (by simpa using hb) e) f0 f1 f3 f4 f5
  refine ⟨_,rfl,OR (s := { s with heap:=h',toks:=tk }) (n := "range_iterator") st' rfl rfl (by decide) ⟨.int (lo+i),H,I1,⟨t,?_⟩,⟨rfl,rfl⟩,st',λ b hb=>(hf b hb).1⟩⟩
  rw [Int.mul_one]
 done:=by
  intro X hP hw hK hc i pins s σ H E I hf st hg
  subst hP hw hK
  obtain ⟨f0,f1,f2,f3,f4,f5⟩:=hf it (by simp)
  exact wpAny_pyNext_range_end (I.ok.hd hc) st (by have:n<=i:=hg;omega) λ h' eb=>⟨rfl,I.turned (t':=s.toks) (λ b o hb e=>eb b o hb e) f0 f1 f3 f4 f5⟩
 self:=λ _ _ _ _ _ st h=>wpAny_pyIter_rangeiter st h
end L2
namespace L2
open PySem PySem.Spec PyProof.Rows
section
variable {X:Cx} {tg:Expr}
def JL (K:PySem.W.Frag) (tl:TE):TI:=fun σ H R=>tl σ H λ x H1 => ∃ a,x = .ref a/\(∃ xs,fq K H1 a xs)/\R (Jx K a) H1
theorem gE {l:Expr} {tl:TE} (hl:PE X l tl):PI X tg l (JL X.K tl):=by
 intro pins s σ H R I h
 refine ck (hl pins s σ H _ I h) λ v s1 ⟨x,H1,I1,r1,q1⟩ => ?_
 obtain ⟨a,e,⟨xs,hq⟩,q⟩:=q1
 subst e
 cases r1
 obtain ⟨its,rv,p,hz⟩:=I1.list hq
 refine wpAny_pyIter_list p.isList ?_
 refine ⟨s1.heap.objs.size,[s1.heap.objs.size],_,_,H1,rfl,I1.kept (t':=s1.toks) λ b o e=>Heap.get?_push_of_some _ e,Hv a _,⟨_,Heap.get?_push_size _ rfl,rfl,rfl⟩,λ b hb => ?_,q⟩
 have e:b=s1.heap.objs.size:=by simpa using hb
 subst e
 exact I1.SE (Nat.le_refl _) (I1.hok.fresh (Nat.le_refl _))
theorem JM {pins:List (Addr×Obj)} {σ : St} {H:Hp} {s:Shared} {R:It->Hp->Prop} {E:Value->Shared->Prop} {lo hi:Int} {t u v:Tok} {tk:Nat} (I:Inv X pins σ H s) (h1 : -(2 ^ 62)<=lo) (h2:lo < 2 ^ 62) (h3 : -(2 ^ 62)<=hi) (h4:hi < 2 ^ 62)
  (q:R (Hu lo (hi - lo).toNat) H):wpAny (model X.prog X.w) X.A (pyIter (.ref s.heap.objs.size)) (PIE X pins σ tg R) E { s with heap:=s.heap.push { cls := .type "range",data := .fields #[.int lo t,.int hi u,.int 1 v] },toks:=tk } := by
 refine wpAny_pyIter_range (IsRange.new ..) (small_one h1 h2 h3 h4) ?_
 have I1:Inv X pins σ H { s with heap:=s.heap.push { cls := .type "range",data := .fields #[.int lo t,.int hi u,.int 1 v] },toks:=tk } := I.kept λ b o e=>Heap.get?_push_of_some _ e
 refine ⟨(s.heap.push { cls := .type "range",data := .fields #[.int lo t,.int hi u,.int 1 v] }).objs.size,[(s.heap.push { cls := .type "range",data := .fields #[.int lo t,.int hi u,.int 1 v] }).objs.size],_,_,H,rfl,
  I1.kept (t':=tk) λ b o e=>Heap.get?_push_of_some _ e,Er _ lo (hi - lo).toNat,?_,λ b hb => ?_,q⟩
 ·have e1:lo+((0:Nat):Int) * 1=lo:=by simp
  have e2:(((hi - lo).toNat:Nat):Int) - ((0:Nat):Int)=Builtin.Range.rangeSize lo hi 1:=by rw [rangeSize_one];split <;> omega
  show IsRangeIter _ _ (lo+((0:Nat):Int) * 1) ((((hi - lo).toNat:Nat):Int) - ((0:Nat):Int)) 1
  rw [e1,e2]
  exact Heap.get?_push_size _ rfl
 ·have e:b=(s.heap.push { cls := .type "range",data := .fields #[.int lo t,.int hi u,.int 1 v] }).objs.size:=by simpa using hb
  subst e
  exact I1.SE (Nat.le_refl _) (I1.hok.fresh (Nat.le_refl _))
def JN (ta:TA):TI:=fun σ H R=>ta σ H λ vs H1 => ∃ j:Int,vs = [.int j] ∧ -(2 ^ 62)<=j/\j < 2 ^ 62/\R (Hu 0 j.toNat) H1
theorem cE {a:Expr} {ta:TA} {p pos:Pos} (hg:Gl X "range") (hm:X.mg "range" = none) (ha:PA X [a] ta) (hs:starEach [a] X.env = [(false,eval a X.env)]:=by rfl):PI X tg (.Call (.Name "range" p) [a] [] pos) (JN ta):=by
 intro pins s σ H R I h
 refine Call_ (A5 I hg hm boot_range (PyProof.Rows.callWith_type1 (ck (ha pos pins s σ H _ I h) λ us s1 ⟨vs,H1,I1,r1,q1⟩ => ?_) hs rfl))
 obtain ⟨j,e,q1,q2,q⟩:=q1
 subst e
 cases r1 with
 | cons r rr =>
   cases rr
   obtain ⟨t,rfl⟩:=r
   exact call_range_1 (JM I1 (by omega) (by omega) q1 q2 (by simpa using q))
def Qi (wi:TI) (g:TG) (tb:TS):TS:=λ D σ H=>wi σ H λ J H1 => ∃ W:Nat->Nat->St->Hp->Prop,(∃ m,W 0 m σ H1) ∧ ∀ i m σ H,W i m σ H →
 (J.stop i H/\D.nx σ H)\/(J.go i H ∧ ∃ N:St->Hp->Prop,(∀ σ' H',N σ' H'->∃ m',m' < m/\W (i+1) m' σ' H') ∧ ∀ x H',J.MV i H x H'->g x σ H' fun σ2 H2=>tb { D with nx:=N,ct:=N,bk:=D.nx } σ2 H2)
def u0 (fp:List Addr) (h:Heap):List (Addr×Obj):=fp.filterMap λ b=>(h.get? b).map λ o=>(b,o)
theorem jC {fp:List Addr} {h:Heap} {b:Addr} {o:Obj} (hb:b∈fp) (e:h.get? b=some o):(b,o)∈u0 fp h:=List.mem_filterMap.mpr ⟨b,hb,by rw [e];rfl⟩
theorem Hw {fp:List Addr} {h:Heap} {p:Addr×Obj} (hp:p∈u0 fp h):p.1∈fp/\h.get? p.1=some p.2:=by
 obtain ⟨b,hb,e⟩:=List.mem_filterMap.mp hp
 cases q:h.get? b with
 | none=>rw [q] at e;cases e
 | some o =>
   rw [q] at e
   have e':(b,o)=p:=Option.some.inj e
   subst e'
   exact ⟨hb,q⟩
theorem Inv.pinned {pins:List (Addr×Obj)} {σ : St} {H:Hp} {s:Shared} {fp:List Addr} (I:Inv X pins σ H s) (hf : ∀ b∈fp,oW X pins H b) (ho : ∀ b∈fp,∃ o,s.heap.get? b=some o ∧ ∀ v,o.data ≠ .cell v):Inv X (pins++u0 fp s.heap) σ H s :=
 I.Gr λ p hp=>(List.mem_append.mp hp).elim (λ z=>I.pin p (List.mem_append_right _ z)) λ z=>by
  obtain ⟨hb,e⟩:=Hw z
  obtain ⟨f0,f1,f2,_⟩:=hf p.1 hb
  obtain ⟨o,e',d⟩:=ho p.1 hb
  rw [e] at e';cases e'
  exact ⟨e,f0,f1,f2,d⟩
theorem Inv.oX {pins pl:List (Addr×Obj)} {σ : St} {H:Hp} {s:Shared} (I:Inv X (pins++pl) σ H s):Inv X pins σ H s:=I.Gr λ p hp=>I.pin p (List.mem_append_right _ (List.mem_append_left _ hp))
theorem iW {iter:Expr} {body:List Stmt} {wi:TI} {g:TG} {tb:TS} {pos:Pos} (hp:PassesOwn (model X.prog X.w) X.A X.env X.xe) (hc:X.calm=true) (hi:PI X tg iter wi) (hg:PG X tg g) (hb:A4 X body tb)
  (hs : ∀ x,foldedSetIterable iter X.env x=pure x:=by intro _;rfl):PS X (.For tg iter body [] pos) (Qi wi g tb):=by
 intro pins s σ H D I h
 refine wpAny_For (ck (hi pins s σ H _ I h) λ v s1 h1=>ck h1 λ itv s2 h2 => ?_) hs
 obtain ⟨it,fp,tn,J,H2,e,I2,T,st2,f2,W,⟨m0,w0⟩,turn⟩:=h2
 subst e
 -- what stays true of MG Qj objects through MG loop
 have stat : ∀ {H':Hp},(∀ b∈fp,H' b=none)->∀ b∈fp,oW X pins H' b:=λ hn b hb=>⟨hn b hb,(f2 b hb).2⟩
 refine codeAny_forLoop_any (λ n s' => ∃ i σ' H',Inv X pins σ' H' s'/\tn i s'.heap/\(∀ b∈fp,H' b=none)/\W i n σ' H') ?_ m0 ⟨0,σ,H2,I2,st2,λ b hb=>(f2 b hb).1,w0⟩
 rintro n s3 ⟨i,σ3,H3,I3,st3,fr3,w3⟩
 rcases turn i n σ3 H3 w3 with ⟨stop,qn⟩ | ⟨go,N,hN,step⟩
 ·refine wpAny_passesOwn hp (ck (T.done X rfl rfl rfl hc i pins s3 σ3 H3 X.xe I3 (stat fr3) st3 stop) λ r s4 ⟨hr,I4⟩ => ?_)
  subst hr
  exact wpAny_execs_nil ⟨σ3,H3,I4,qn⟩
 ·refine wpAny_passesOwn hp (ck (T.item X rfl rfl rfl hc i pins s3 σ3 H3 X.xe I3 (stat fr3) st3 go) λ r s4 ⟨u,hr,h4⟩ => ?_)
  subst hr
  refine wpAny_passesOwn hp (ck h4 λ _ s5 ⟨x,H5,I5,r5,y5,Sa,Vh⟩ => ?_)
  have I5':=I5.pinned (stat Vh) (T.obj _ _ Sa)
  refine wpAny_passesOwn hp (ck (hg _ s5 σ3 H5 x u _ I5' r5 (step x H5 y5)) λ _ s6 ⟨σ6,H6,I6,q6⟩ => ?_)
  refine wpAny_passesOwn hp (ck (hb _ s6 σ6 H6 _ I6 q6) λ f s7 q7 => ?_)
  have again : ∀ {σ7:St} {H7:Hp},Inv X (pins++u0 fp s5.heap) σ7 H7 s7->N σ7 H7->∃ m,m < n ∧ ∃ i σ' H',Inv X pins σ' H' s7/\tn i s7.heap/\(∀ b∈fp,H' b=none)/\W i m σ' H':=fun {σ7 H7} I7 n7=>by
   obtain ⟨m',hm,w7⟩:=hN σ7 H7 n7
   refine ⟨m',hm,i+1,σ7,H7,I7.oX,T.keep _ _ _ Sa λ b hb o e=>(I7.pin (b,o) (List.mem_append_right _ (List.mem_append_right _ (jC hb e)))).1,λ b hb => ?_,w7⟩
   obtain ⟨o,e,d⟩:=T.obj _ _ Sa b hb
   exact (I7.pin (b,o) (List.mem_append_right _ (List.mem_append_right _ (jC hb e)))).2.1
  cases f with
  | next=>obtain ⟨σ7,H7,I7,n7⟩:=q7;exact again I7 n7
  | cont=>obtain ⟨σ7,H7,I7,n7⟩:=q7;exact again I7 n7
  | brk=>obtain ⟨σ7,H7,I7,q7⟩:=q7;exact ⟨σ7,H7,I7.oX,q7⟩
  | ret v=>obtain ⟨x7,σ7,H7,I7,r7,q7⟩:=q7;exact ⟨x7,σ7,H7,I7.oX,r7,q7⟩
end
theorem JO {K:PySem.W.Frag} {a:Addr} {xs:List V} {g:TG} {tb:TS} {D:Ends} {σ : St} {H:Hp} (Pv:Nat->St->Hp->Prop) (h0:Pv 0 σ H) (hl : ∀ i σ H,i<=xs.length->Pv i σ H->fq K H a xs)
  (hs : ∀ i x σ H,xs[i]? = some x->Pv i σ H->g x σ H fun σ2 H2=>tb { D with nx:=Pv (i+1),ct:=Pv (i+1),bk:=D.nx } σ2 H2) (hd : ∀ σ H,Pv xs.length σ H->D.nx σ H) :
  ∃ W:Nat->Nat->St->Hp->Prop,(∃ m,W 0 m σ H) ∧ ∀ i m σ H,W i m σ H →
    ((Jx K a).stop i H/\D.nx σ H)\/((Jx K a).go i H ∧ ∃ N:St->Hp->Prop,(∀ σ' H',N σ' H'->∃ m',m' < m/\W (i+1) m' σ' H') ∧ ∀ x H',(Jx K a).MV i H x H'->g x σ H' fun σ2 H2=>tb { D with nx:=N,ct:=N,bk:=D.nx } σ2 H2):=by
 refine ⟨λ i m σ H=>m=xs.length - i/\i<=xs.length/\Pv i σ H,⟨xs.length,by simp,Nat.zero_le _,h0⟩,?_⟩
 rintro i m σ H ⟨rfl,hi,p⟩
 have q:=hl i σ H hi p
 by_cases hlt:i < xs.length
 ·refine .inr ⟨⟨xs,xs[i],q,by simp [hlt]⟩,Pv (i+1),fun σ' H' p'=>⟨xs.length - (i+1),by omega,rfl,hlt,p'⟩,λ x H' y => ?_⟩
  obtain ⟨e,y⟩:=y
  subst e
  exact hs i x σ _ (y xs q) p
 ·have e:i=xs.length:=by omega
  subst e
  exact .inl ⟨⟨xs,q,Nat.le_refl _⟩,hd σ H p⟩
theorem Hx {lo:Int} {n:Nat} {g:TG} {tb:TS} {D:Ends} {σ : St} {H:Hp} (Pv:Nat->St->Hp->Prop) (h0:Pv 0 σ H)
  (hs : ∀ i σ H,i < n->Pv i σ H->g (.int (lo+i)) σ H fun σ2 H2=>tb { D with nx:=Pv (i+1),ct:=Pv (i+1),bk:=D.nx } σ2 H2) (hd : ∀ σ H,Pv n σ H->D.nx σ H) :
  ∃ W:Nat->Nat->St->Hp->Prop,(∃ m,W 0 m σ H) ∧ ∀ i m σ H,W i m σ H →
    ((Hu lo n).stop i H/\D.nx σ H)\/((Hu lo n).go i H ∧ ∃ N:St->Hp->Prop,(∀ σ' H',N σ' H'->∃ m',m' < m/\W (i+1) m' σ' H') ∧ ∀ x H',(Hu lo n).MV i H x H'->g x σ H' fun σ2 H2=>tb { D with nx:=N,ct:=N,bk:=D.nx } σ2 H2):=by
 refine ⟨λ i m σ H=>m=n - i/\i<=n/\Pv i σ H,⟨n,by simp,Nat.zero_le _,h0⟩,?_⟩
 rintro i m σ H ⟨rfl,hi,p⟩
 by_cases hlt:i < n
 ·refine .inr ⟨hlt,Pv (i+1),fun σ' H' p'=>⟨n - (i+1),by omega,rfl,hlt,p'⟩,λ x H' y => ?_⟩
  obtain ⟨e,y⟩:=y
  subst e y
  exact hs i σ _ hlt p
 ·have e:i=n:=by omega
  subst e
  exact .inl ⟨Nat.le_refl _,hd σ H p⟩
end L2
namespace L2
open PySem PySem.Spec PyProof.Rows
abbrev R2:=V->V->Hp->VK->Prop
def nI (X:Cx) (f:Value->Value->Sem Value) (r:R2):Prop :=
 ∀ (pins:List (Addr×Obj)) (s:Shared) (σ : St) (H:Hp) (x y:V) (v u:Value) (Q:VK),Inv X pins σ H s->RelV x v->RelV y u->r x y H Q →
   wpAny (model X.prog X.w) X.A (f v u) (EP X pins σ Q) X.xe s
def Wg (X:Cx) (f:Value->Sem Value) (r:V->Hp->VK->Prop):Prop :=
 ∀ (pins:List (Addr×Obj)) (s:Shared) (σ : St) (H:Hp) (x:V) (v:Value) (Q:VK),Inv X pins σ H s->RelV x v->r x H Q →
   wpAny (model X.prog X.w) X.A (f v) (EP X pins σ Q) X.xe s
def kM (X:Cx) (f:Value) (r:List V->Hp->VK->Prop):Prop :=
 ∀ (pins:List (Addr×Obj)) (s:Shared) (σ : St) (H:Hp) (xs:List V) (us:List Value) (Q:VK),Inv X pins σ H s->Vals xs us->r xs H Q →
   wpAny (model X.prog X.w) X.A (call f us) (EP X pins σ Q) X.xe s
def Qk (r:R2) (ta tb:TE):TE:=fun σ H Q=>ta σ H λ x H1=>tb σ H1 λ y H2=>r x y H2 Q
def Wh (r:V->Hp->VK->Prop) (ta:TE):TE:=fun σ H Q=>ta σ H λ x H1=>r x H1 Q
def rI (C:Int->Int->Prop) (g:Int->Int->V):R2:=λ x y H Q => ∃ i j,x = .int i/\y = .int j/\C i j/\Q (g i j) H
def JP (g:Int->Int->V):R2:=λ x y H Q => ∃ i j,x = .int i/\y = .int j/\Q (g i j) H
def rU (g:Int->V):V->Hp->VK->Prop:=λ x H Q => ∃ i,x = .int i/\Q (g i) H
section
variable {X:Cx} {a b c:Expr} {ta tb tc:TE} {pos:Pos}
theorem Ql (ha:PE X a ta) (hb:PE X b tb) {pins:List (Addr×Obj)} {s:Shared} {σ : St} {H:Hp} {R:V->V->Hp->Prop} (I:Inv X pins σ H s)
  (h:ta σ H λ x H1=>tb σ H1 λ y H2=>R x y H2) {Q:Value->Shared->Prop} {f:Value->Value->Sem Value}
  (hf : ∀ v u s2 x y H2,Inv X pins σ H2 s2->RelV x v->RelV y u->R x y H2->wpAny (model X.prog X.w) X.A (f v u) Q X.xe s2) :
  wpAny (model X.prog X.w) X.A (eval a X.env) (λ v s₁ => wpAny (model X.prog X.w) X.A (eval b X.env) (λ u s₂ => wpAny (model X.prog X.w) X.A (f v u) Q X.xe s₂) X.xe s₁) X.xe s:=by
 refine ck (ha pins s σ H _ I h) λ v s1 ⟨x,H1,I1,r1,q1⟩ => ?_
 refine ck (hb pins s1 σ H1 _ I1 q1) λ u s2 ⟨y,H2,I2,r2,q2⟩ => ?_
 exact hf v u s2 x y H2 I2 r1 r2 q2
theorem av {op:Operator} {r:R2} (ho:nI X (binaryOp op) r) (ha:PE X a ta) (hb:PE X b tb):PE X (.BinOp a op b pos) (Qk r ta tb):=by
 intro pins s σ H Q I h
 exact wpAny_BinOp (Ql ha hb I h λ v u s2 x y H2 I2 rx ry q=>ho pins s2 σ H2 x y v u Q I2 rx ry q)
theorem m8 {op:UnaryOp} {r:V->Hp->VK->Prop} (ho:Wg X (unaryOp op) r) (ha:PE X a ta):PE X (.UnaryOp op a pos) (Wh r ta):=by
 intro pins s σ H Q I h
 exact UnaryOp_ (ck (ha pins s σ H _ I h) λ v s1 ⟨x,H1,I1,r1,q1⟩=>ho pins s1 σ H1 x v Q I1 r1 q1)
theorem SG {f:Value->Value->Sem Value} {C:Int->Int->Prop} {g:Int->Int->Int}
  (rule : ∀ (i j:Int) (t u:Tok) (s:Shared) (Q:Value->Shared->Prop) (E:Value->Shared->Prop),C i j->Q (.int (g i j) s.toks) { s with toks:=s.toks+1 }->wpAny (model X.prog X.w) X.A (f (.int i t) (.int j u)) Q E s) :
  nI X f (rI C λ i j => .int (g i j)):=by
 intro pins s σ H x y v u Q I rx ry h
 obtain ⟨i,j,rfl,rfl,hc,q⟩:=h
 obtain ⟨t,rfl⟩:=rx
 obtain ⟨t',rfl⟩:=ry
 exact rule i j t t' s _ _ hc ⟨.int (g i j),H,I.tok _,⟨_,rfl⟩,q⟩
theorem SH {f:Value->Value->Sem Value} {g:Int->Int->Int}
  (rule : ∀ (i j:Int) (t u:Tok) (s:Shared) (Q:Value->Shared->Prop) (E:Value->Shared->Prop),Q (.int (g i j) s.toks) { s with toks:=s.toks+1 }->wpAny (model X.prog X.w) X.A (f (.int i t) (.int j u)) Q E s) :
  nI X f (JP λ i j => .int (g i j)):=by
 intro pins s σ H x y v u Q I rx ry h
 obtain ⟨i,j,rfl,rfl,q⟩:=h
 obtain ⟨t,rfl⟩:=rx
 obtain ⟨t',rfl⟩:=ry
 exact rule i j t t' s _ _ ⟨.int (g i j),H,I.tok _,⟨_,rfl⟩,q⟩
theorem MW {f:Value->Value->Sem Value} {g:Int->Int->Bool}
  (rule : ∀ (i j:Int) (t u:Tok) (s:Shared) (Q:Value->Shared->Prop) (E:Value->Shared->Prop),Q (.bool (g i j)) s->wpAny (model X.prog X.w) X.A (f (.int i t) (.int j u)) Q E s) :
  nI X f (JP λ i j => .bl (g i j)):=by
 intro pins s σ H x y v u Q I rx ry h
 obtain ⟨i,j,rfl,rfl,q⟩:=h
 obtain ⟨t,rfl⟩:=rx
 obtain ⟨t',rfl⟩:=ry
 exact rule i j t t' s _ _ ⟨.bl (g i j),H,I,rfl,q⟩
def SJ (i j:Int):Prop:=0 < j/\j < 1073741824
def SK (i j:Int):Prop:=j≠0/\j.natAbs < 1073741824
def nJ (i j:Int):Prop:=0<=j/\j<=1000000/\i.natAbs < 2 ^ 64
def MX (i j:Int):Prop:=(-(2 ^ 64) < i/\i < 2 ^ 64)\/(-(2 ^ 64) < j/\j < 2 ^ 64)
theorem MX.ok {i j:Int} (h:MX i j):IntMulOk i j:=by
 rcases h with ⟨h1,h2⟩ | ⟨h1,h2⟩
 ·exact .of_left (intBits_le_64 h1 h2)
 ·exact .of_right (intBits_le_64 h1 h2)
theorem aV:nI X (binaryOp .Add) (JP λ i j => .int (i+j)):=SH λ _ _ _ _ _ _ _ q=>add_int q
theorem gY:nI X (binaryOp .Sub) (JP λ i j => .int (i - j)):=SH λ _ _ _ _ _ _ _ q=>sub_int q
theorem gp:nI X (binaryOp .Mult) (rI MX λ i j => .int (i * j)):=SG λ _ _ _ _ _ _ _ hc q=>mul_int q hc.ok
theorem bI:nI X (binaryOp .FloorDiv) (rI SJ λ i j => .int (i / j)):=SG λ i j _ _ _ _ _ hc q=>by
 have h1:(0:Int) < j:=hc.1
 have h2:j < 1073741824:=hc.2
 exact floordiv_int (by omega) (by rw [Int.fdiv_eq_ediv_of_nonneg i (by omega)];exact q) (.inl (PyProof.noPylong_small (by omega)))
theorem aH:nI X (binaryOp .Mod) (rI (λ _ j=>0 < j) λ i j => .int (i % j)):=SG λ i j _ _ _ _ _ hc q=>by
 have h1:(0:Int) < j:=hc
 exact mod_int' (by omega) (by rw [Int.fmod_eq_emod_of_nonneg i (by omega)];exact q)
theorem A6:nI X (binaryOp .Pow) (rI nJ λ i j => .int (i ^ j.toNat)):=SG λ _ _ _ _ _ _ _ hc q=>pow_int_small hc.1 hc.2.1 hc.2.2 q
theorem unI {f:Value->Sem Value} {g:Int->Int}
  (rule : ∀ (i:Int) (t:Tok) (s:Shared) (Q:Value->Shared->Prop) (E:Value->Shared->Prop),Q (.int (g i) s.toks) { s with toks:=s.toks+1 }->wpAny (model X.prog X.w) X.A (f (.int i t)) Q E s) :
  Wg X f (rU λ i => .int (g i)):=by
 intro pins s σ H x v Q I rx h
 obtain ⟨i,rfl,q⟩:=h
 obtain ⟨t,rfl⟩:=rx
 exact rule i t s _ _ ⟨.int (g i),H,I.tok _,⟨_,rfl⟩,q⟩
theorem iX:Wg X (unaryOp .USub) (rU λ i => .int (-i)):=unI λ _ _ _ _ _ q=>neg_int q
end
def SM:V->V->Bool
 | .aI,.aI=>true | .aI,.int _=>true | .int _,.aI=>true | .aI,.bl _=>true | .bl _,.aI=>true | .aI,.str _=>true | .str _,.aI=>true
 | .int _,.int _=>true | .bl _,.bl _=>true | .str _,.str _=>true | .Jv _,.Jv _=>true
 | .int _,.str _=>true | .str _,.int _=>true | .bl _,.str _=>true | .str _,.bl _=>true
 | _,_=>false
def Qm:R2:=λ x y H Q=>SM x y=true/\Q (.bl (decide (x=y))) H
def Wi:R2:=λ x y H Q=>SM x y=true/\Q (.bl (!decide (x=y))) H
theorem Gu {i j:Int} : decide (V.int i=V.int j)=(i == j):=by
 rw [Bool.eq_iff_iff]
 simp
theorem JQ {i j:Bool} : decide (V.bl i=V.bl j)=(i == j):=by
 rw [Bool.eq_iff_iff]
 simp
theorem Gv {i j:Str} : decide (V.str i=V.str j)=(i == j):=by
 rw [Bool.eq_iff_iff]
 simp
theorem Gw {i j:Array UInt8} : decide (V.Jv i=V.Jv j)=(i.toList == j.toList):=by
 rw [Bool.eq_iff_iff]
 cases i
 cases j
 simp
section
variable {X:Cx} {a b c:Expr} {ta tb tc:TE} {pos:Pos}
theorem bq {pins:List (Addr×Obj)} {σ : St} {H:Hp} {s:Shared} {Q:VK} {k k':Bool} (I:Inv X pins σ H s) (q:Q (.bl k) H) (e:k=k'):EP X pins σ Q (.bool k') s:=by
 subst e
 exact ⟨.bl k,H,I,rfl,q⟩
theorem cY:nI X (compareOp .Eq) Qm:=by
 intro pins s σ H x y v u Q I rx ry h
 obtain ⟨hs,q⟩:=h
 cases x with
 | aI =>
   cases rx
   cases y with
   | aI=>cases ry;exact PySem.EqNone.eq_none_none (bq I q (by simp))
   | bl j=>cases ry;exact PySem.EqNone.eq_none_bool (bq I q (by simp))
   | int j=>obtain ⟨t',rfl⟩:=ry;exact PySem.EqNone.eq_none_int (bq I q (by simp))
   | str j=>obtain ⟨t',rfl⟩:=ry;exact PySem.EqNone.eq_none_str (bq I q (by simp))
   | _=>exact absurd (show false=true from hs) Bool.false_ne_true
 | bl i =>
   cases rx
   cases y with
   | aI=>cases ry;exact PySem.EqNone.eq_bool_none (bq I q (by simp))
   | bl j=>cases ry;exact eq_bool (bq I q JQ)
   | str j=>obtain ⟨t',rfl⟩:=ry;exact PySem.EqMixed.eq_bool_str (bq I q (by simp))
   | _=>exact absurd (show false=true from hs) Bool.false_ne_true
 | int i =>
   obtain ⟨t,rfl⟩:=rx
   cases y with
   | aI=>cases ry;exact PySem.EqNone.eq_int_none (bq I q (by simp))
   | int j=>obtain ⟨t',rfl⟩:=ry;exact eq_int (bq I q Gu)
   | str j=>obtain ⟨t',rfl⟩:=ry;exact PySem.EqMixed.eq_int_str (bq I q (by simp))
   | _=>exact absurd (show false=true from hs) Bool.false_ne_true
 | str i =>
   obtain ⟨t,rfl⟩:=rx
   cases y with
   | aI=>cases ry;exact PySem.EqNone.eq_str_none (bq I q (by simp))
   | bl j=>cases ry;exact PySem.EqMixed.eq_str_bool (bq I q (by simp))
   | int j=>obtain ⟨t',rfl⟩:=ry;exact PySem.EqMixed.eq_str_int (bq I q (by simp))
   | str j=>obtain ⟨t',rfl⟩:=ry;exact eq_str (bq I q Gv)
   | _=>exact absurd (show false=true from hs) Bool.false_ne_true
 | Jv i =>
   obtain ⟨t,rfl⟩:=rx
   cases y with
   | Jv j=>obtain ⟨t',rfl⟩:=ry;exact PySem.W.eq_bytes (bq I q Gw)
   | _=>exact absurd (show false=true from hs) Bool.false_ne_true
 | _=>cases y <;> exact absurd (show false=true from hs) Bool.false_ne_true
theorem OS:nI X (compareOp .NotEq) Wi:=by
 intro pins s σ H x y v u Q I rx ry h
 obtain ⟨hs,q⟩:=h
 cases x with
 | aI =>
   cases rx
   cases y with
   | aI=>cases ry;exact PySem.EqNone.ne_none_none (bq I q (by simp))
   | bl j=>cases ry;exact PySem.EqNone.ne_none_bool (bq I q (by simp))
   | int j=>obtain ⟨t',rfl⟩:=ry;exact PySem.EqNone.ne_none_int (bq I q (by simp))
   | str j=>obtain ⟨t',rfl⟩:=ry;exact PySem.EqNone.ne_none_str (bq I q (by simp))
   | _=>exact absurd (show false=true from hs) Bool.false_ne_true
 | bl i =>
   cases rx
   cases y with
   | aI=>cases ry;exact PySem.EqNone.ne_bool_none (bq I q (by simp))
   | bl j=>cases ry;exact ne_bool (bq I q (congrArg not JQ))
   | str j=>obtain ⟨t',rfl⟩:=ry;exact PySem.EqMixed.ne_bool_str (bq I q (by simp))
   | _=>exact absurd (show false=true from hs) Bool.false_ne_true
 | int i =>
   obtain ⟨t,rfl⟩:=rx
   cases y with
   | aI=>cases ry;exact PySem.EqNone.ne_int_none (bq I q (by simp))
   | int j=>obtain ⟨t',rfl⟩:=ry;exact ne_int (bq I q (congrArg not Gu))
   | str j=>obtain ⟨t',rfl⟩:=ry;exact PySem.EqMixed.ne_int_str (bq I q (by simp))
   | _=>exact absurd (show false=true from hs) Bool.false_ne_true
 | str i =>
   obtain ⟨t,rfl⟩:=rx
   cases y with
   | aI=>cases ry;exact PySem.EqNone.ne_str_none (bq I q (by simp))
   | bl j=>cases ry;exact PySem.EqMixed.ne_str_bool (bq I q (by simp))
   | int j=>obtain ⟨t',rfl⟩:=ry;exact PySem.EqMixed.ne_str_int (bq I q (by simp))
   | str j=>obtain ⟨t',rfl⟩:=ry;exact ne_str (bq I q (congrArg not Gv))
   | _=>exact absurd (show false=true from hs) Bool.false_ne_true
 | Jv i =>
   obtain ⟨t,rfl⟩:=rx
   cases y with
   | Jv j=>obtain ⟨t',rfl⟩:=ry;exact PySem.W.ne_bytes (bq I q (congrArg not Gw))
   | _=>exact absurd (show false=true from hs) Bool.false_ne_true
 | _=>cases y <;> exact absurd (show false=true from hs) Bool.false_ne_true
theorem Al:nI X (compareOp .Lt) (JP λ i j => .bl (decide (i < j))):=MW λ _ _ _ _ _ _ _ q=>lt_int q
theorem SN:nI X (compareOp .LtE) (JP λ i j => .bl (decide (i<=j))):=MW λ _ _ _ _ _ _ _ q=>le_int q
theorem Gx:nI X (compareOp .Gt) (JP λ i j => .bl (decide (j < i))):=MW λ _ _ _ _ _ _ _ q=>gt_int q
theorem SO:nI X (compareOp .GtE) (JP λ i j => .bl (decide (j<=i))):=MW λ _ _ _ _ _ _ _ q=>ge_int q
theorem JR:nI X (compareOp .Is) (λ x y H Q=>y = .aI/\Q (.bl (decide (x = .aI))) H):=by
 intro pins s σ H x y v u Q I rx ry h
 obtain ⟨rfl,q⟩:=h
 cases ry
 refine is_none_gen (bq I q ?_)
 cases x <;> first
  | (cases rx;rfl)
  | (obtain ⟨t,rfl⟩:=rx;rfl)
theorem oY:nI X (compareOp .IsNot) (λ x y H Q=>y = .aI/\Q (.bl (!decide (x = .aI))) H):=by
 intro pins s σ H x y v u Q I rx ry h
 obtain ⟨rfl,q⟩:=h
 cases ry
 refine isnot_none_gen (bq I q ?_)
 cases x <;> first
  | (cases rx;rfl)
  | (obtain ⟨t,rfl⟩:=rx;rfl)
theorem aP (b:Expr) {op:CmpOp} (h:op ≠ .In:=by decide) (h2:op ≠ .NotIn:=by decide):behindInMarks op b=false:=by
 have e1:(op == CmpOp.In)=false:=by cases op <;> first | rfl | exact absurd rfl h
 have e2:(op == CmpOp.NotIn)=false:=by cases op <;> first | rfl | exact absurd rfl h2
 cases b <;> simp [behindInMarks,e1,e2]
theorem gF {op:CmpOp} {r:R2} (ho:nI X (compareOp op) r) (ha:PE X a ta) (hb:PE X b tb) (hm:behindInMarks op b=false):PE X (.Compare a [op] [b] pos) (Qk r ta tb):=by
 intro pins s σ H Q I h
 exact wpAny_Compare1 (Ql ha hb I h λ v u s2 x y H2 I2 rx ry q=>ho pins s2 σ H2 x y v u Q I2 rx ry q) hm
def Am (t:TE):TT:=fun σ H Q=>t σ H λ x H' => ∃ k,x = .bl k/\Q k H'
theorem aL {op:CmpOp} {r:R2} (ho:nI X (compareOp op) r) (ha:PE X a ta) (hb:PE X b tb) (hm:behindInMarks op b=false):PT X (.Compare a [op] [b] pos) (Am (Qk r ta tb)):=by
 intro pins s σ H Q I h
 refine wpAny_isTrue_Compare1 (ck (ha pins s σ H _ I h) λ v s1 ⟨x,H1,I1,r1,q1⟩=>ck (hb pins s1 σ H1 _ I1 q1) λ u s2 ⟨y,H2,I2,r2,q2⟩ =>
  ck (ho pins s2 σ H2 x y v u _ I2 r1 r2 q2) λ c s3 ⟨z,H3,I3,r3,k,e,q3⟩ => ?_) hm
 subst e
 cases r3
 exact wpAny_truthy_bool ⟨H3,I3,q3⟩
def JS (r r':R2) (ta tb tc:TE):TE:=fun σ H Q=>ta σ H λ x H1=>tb σ H1 λ y H2=>r x y H2 λ z H3 => ∃ k,z = .bl k ∧
 (if k=true then tc σ H3 λ w' H4=>r' y w' H4 Q else Q (.bl false) H3)
theorem JT {op op':CmpOp} {r r':R2} (ho:nI X (compareOp op) r) (ho':nI X (compareOp op') r') (ha:PE X a ta) (hb:PE X b tb) (hc:PE X c tc)
  (hm:lastMarks [op,op'] [b,c]=false:=by with_unfolding_all rfl):PT X (.Compare a [op,op'] [b,c] pos) (Am (JS r r' ta tb tc)):=by
 intro pins s σ H Q I h
 refine isTrue_chain (ck (ha pins s σ H _ I h) λ v s1 ⟨x,H1,I1,r1,q1⟩=>test_link (ck (hb pins s1 σ H1 _ I1 q1) λ u s2 ⟨y,H2,I2,r2,q2⟩ =>
  ck (ho pins s2 σ H2 x y v u _ I2 r1 r2 q2) λ d s3 ⟨z,H3,I3,r3,k,e,q3⟩ => ?_)) hm
 subst e
 cases r3
 refine wpAny_truthy_bool ?_
 cases k with
 | false =>
   obtain ⟨k',e',q'⟩:=q3
   cases e'
   exact ite_ff ⟨H3,I3,q'⟩
 | true =>
   refine ite_tt (test_last (ck (hc pins s3 σ H3 _ I3 q3) λ w' s4 ⟨z',H4,I4,r4,q4⟩=>ck (ho' pins s4 σ H4 y z' u w' _ I4 r2 r4 q4) λ d' s5 ⟨z2,H5,I5,r5,k2,e2,q5⟩ => ?_))
   subst e2
   cases r5
   exact wpAny_truthy_bool ⟨H5,I5,q5⟩
theorem nK:(sizeLine:Nat) < 2 ^ 63:=by rw [sizeLine_eq];decide
theorem Es:nI X (binaryOp .Add) (λ x y H Q => ∃ i j,x = .str i/\y = .str j/\i.length+j.length<=sizeLine/\Q (.str (i++j)) H):=by
 intro pins s σ H x y v u Q I rx ry h
 obtain ⟨i,j,rfl,rfl,hz,q⟩:=h
 obtain ⟨t,rfl⟩:=rx
 obtain ⟨t',rfl⟩:=ry
 exact add_str (λ t' tk=>⟨.str (i++j),H,I.tok _,⟨_,rfl⟩,q⟩) hz
theorem vals1 {x:V} {us:List Value} (r:Vals [x] us) : ∃ u,us = [u]/\RelV x u:=by
 cases r with
 | cons r1 r2=>cases r2;exact ⟨_,rfl,r1⟩
end
end L2
namespace L2
open PySem PySem.Spec PyProof.Rows
structure Et (h:Heap) (x dx C:Addr) (mA:Str->Option Value):Prop where
 obj:h.get? x=some (PySem.W.instObj C dx)
 ns:h.Ns1 dx mA
 ne:dx≠x
theorem Hy {h:Heap} {dx:Addr} {mA:Str->Option Value} (n:h.Ns1 dx mA) : ∃ od,h.get? dx=some od ∧ ∀ name,PySem.W.lookIn name od=some (mA name):=by
 obtain ⟨o,es,ep,ho,hd,hk,_,hm⟩:=n
 refine ⟨o,ho,λ name => ?_⟩
 have e:=hm name
 unfold nsFind findBy at e
 rw [<-Array.find?_toList] at e
 unfold PySem.W.lookIn
 rw [hd]
 dsimp only
 split
 ·rename_i y q
  rw [q] at e
  exact congrArg some e
 ·rename_i q
  rw [q] at e
  have a:es.toList.any (·.refKey)=false:=by
   rw [List.any_eq_false]
   intro y hy
   obtain ⟨z,t,hkey⟩:=hk y (Array.mem_toList_iff.mp hy)
   simp [DictEntry.refKey,hkey]
  have a' : ¬ es.toList.any (·.refKey)=true:=by rw [a];exact Bool.false_ne_true
  rw [if_neg a']
  exact congrArg some e
theorem Et.look {h:Heap} {x dx C:Addr} {mA:Str->Option Value} (I:Et h x dx C mA) : ∃ od,PySem.W.InstAt h x (PySem.W.instObj C dx) C (some od) ∧ ∀ name,PySem.W.lookIn name od=some (mA name) :=
 let ⟨od,ho,hl⟩:=Hy I.ns
 ⟨od,⟨I.obj,rfl,rfl,ho⟩,hl⟩
section
variable {prog:Program} {w:World} {A:Around} {E:Value->Shared->Prop} {s:Shared} {K:PySem.W.Frag} {x dx C f:Addr} {mA:Str->Option Value} {name:Str} {v:Value}
theorem get_map {expr:Bool} {Q:Value->Shared->Prop} (X:K.In s.heap) (I:Et s.heap x dx C mA) (hg:PySem.W.plainGet K C name=true) (hh:PySem.W.hasDictIn K C=true)
  (ha:PySem.W.findIn K (.ref C) name=some none) (hv:mA name=some v) (hv':PySem.W.handedIn v=true) (h:Q v { s with toks:=s.toks+1 }) :
  wpAny (model prog w) A (getAttr (.ref x) name expr) Q E s:=by
 obtain ⟨od,J,hl⟩:=I.look
 exact PySem.W.get_value X J (PySem.W.plainGet_of hg).1 (PySem.W.findObj_own hh ha rfl (by rw [hl,hv])) hv' h
theorem JU {pl:Sem Bool} {Q:Value×List Value->Shared->Prop} (X:K.In s.heap) (I:Et s.heap x dx C mA) (hg:PySem.W.plainGet K C name=true)
  (hf:PySem.W.findIn K (.ref C) name=some (some (.ref f))) (ht:PySem.W.isFn K (.ref f)=true) (hv:mA name=none) (h:Q (.ref f,[.ref x]) s) :
  wpAny (model prog w) A (getMethod (.ref x) name pl) Q E s:=by
 obtain ⟨od,J,hl⟩:=I.look
 exact PySem.W.method_fn X J (PySem.W.plainGet_of hg).1 (PySem.W.plainGet_of hg).2 hf (beq_iff_eq.mp ht) (by show (PySem.W.lookIn name od).map (·.isSome)=some false;rw [hl,hv];rfl) h
theorem MY {ns:List Str} {Q:Unit->Shared->Prop} (X:K.In s.heap) (I:Et s.heap x dx C mA)
  (hs:PySem.W.findIn K (.ref C) "__setattr__" = some (some (.builtin "object.__setattr__"))) (hp:PySem.W.plainOver K C=true) (ht:PySem.W.takerIn K C name=some none) (hh:PySem.W.hasDictIn K C=true)
  (hw:PySem.Within mA ns) (hsz:ns.length<=sizeLine)
  (h : ∀ h',Et h' x dx C (λ y=>if y=name then some v else mA y)->Heap.SameBut dx s.heap h'->Q () { s with heap:=h',toks:=s.toks+2 }) :
  wpAny (model prog w) A (setAttr (.ref x) name v) Q E s:=by
 obtain ⟨od,J,hl⟩:=I.look
 refine PySem.W.set_plain X J hs (PySem.W.osa_open (s := { s with toks:=s.toks+1 }) (r:=none) X J hp ht λ b => ?_)
 obtain ⟨cd,hc,hd'⟩:=PySem.W.any_some hh
 have hx:s.heap.get? x=some ⟨.ref C,some dx,.plain,#[]⟩:=I.obj
 refine wpAny_bind (wpAny_pure (wpAny_bind (wpAny_bind (wpAny_loadPart hx (wpAny_bind (PySem.W.Looks.here (s := { s with toks:=s.toks+1 }) (PySem.W.looks_clsIn X hc) ?_))))))
 rw [hd']
 refine wpAny_pure (a:=some dx) (wpAny_bind (wpAny_pure (wpAny_bind ?_)))
 refine wpAny_nsSet1 (s := { s with toks:=s.toks+1 }) I.ns λ h' hn2 hs2 => ?_
 obtain ⟨oD,esD,epD,hoD,hdD,hcD⟩:=hn2.count (PySem.Within.cons name v hw)
 refine wpAny_bind (wpAny_lookBehind hoD (by rw [hdD];exact pastItsLine_dict (Nat.le_trans hcD (by rw [List.length_cons];omega))) ?_)
 exact wpAny_pure (h _ ⟨(hs2.2 _ (Ne.symm I.ne)).trans I.obj,hn2,I.ne⟩ hs2)
theorem JV {R:Result->Shared->Prop} {vs:List Value} {kw:List (Str×Value)} (X:K.In s.heap) (hm:PySem.W.makesIn K C=true)
  (hi:PySem.W.findIn K (.ref C) "__init__" = some (some (.ref f))) (hf:PySem.W.typeIn K (.ref f)=some (.type "function"))
  (h:codeAny (model prog w) (A.under (.builtin "type.__call__" ⟨.ref C::vs,kw⟩)) (.call (.ref f) ⟨.ref (s.heap.objs.size+1)::vs,kw⟩) (PySem.W.InitBack (s.heap.objs.size+1) R)
   { s with heap:=(s.heap.push PySem.W.emptyDict).push (PySem.W.instObj C s.heap.objs.size) }) :
  codeAny (model prog w) A (.call (.ref C) ⟨vs,kw⟩) R s:=by
 obtain ⟨hh,g,d,t,os⟩:=s
 exact PySem.W.make_core (PySem.W.makes_of X hm) (PySem.W.looks_findIn X hi) (λ self=>PySem.W.bind_fn X self hf) (.inl rfl) h
end
def cP (f:Str) (v:V):List (Str×V)->List (Str×V)
 | []=>[(f,v)]
 | (g,x)::r=>if g=f then (g,v)::r else (g,x)::cP f v r
theorem su (f g:Str) (v:V) : ∀ fs:List (Str×V),(cP f v fs).lookup g=if g=f then some v else fs.lookup g
 | []=>by
   show List.lookup g [(f,v)]=_
   by_cases h:g=f
   ·have hb:(g == f)=true:=beq_iff_eq.mpr h
    simp only [List.lookup,hb,if_pos h]
   ·have hb:(g == f)=false:=beq_eq_false_iff_ne.mpr h
    simp only [List.lookup,hb,if_neg h]
 | (k,x)::r=>by
   have ih:=su f g v r
   rw [show cP f v ((k,x)::r)=(if k=f then (k,v)::r else (k,x)::cP f v r) from rfl]
   by_cases hk:k=f
   ·rw [if_pos hk]
    by_cases h:g=k
    ·have hb:(g == k)=true:=beq_iff_eq.mpr h
     simp only [List.lookup,hb,if_pos (h.trans hk)]
    ·have hb:(g == k)=false:=beq_eq_false_iff_ne.mpr h
     simp only [List.lookup,hb,if_neg (λ e:g=f=>h (e.trans hk.symm))]
   ·rw [if_neg hk]
    by_cases h:g=k
    ·have hb:(g == k)=true:=beq_iff_eq.mpr h
     simp only [List.lookup,hb,if_neg (λ e:g=f=>hk (h.symm.trans e))]
    ·have hb:(g == k)=false:=beq_eq_false_iff_ne.mpr h
     simp only [List.lookup,hb]
     exact ih
theorem qv (f:Str) (v:V) : ∀ fs:List (Str×V),f∈(cP f v fs).map (·.1) ∧ ∀ g,g∈fs.map (·.1)->g∈(cP f v fs).map (·.1)
 | []=>⟨by simp [cP],λ g h=>by simp at h⟩
 | (k,x)::r=>by
   obtain ⟨i1,i2⟩:=qv f v r
   rw [show cP f v ((k,x)::r)=(if k=f then (k,v)::r else (k,x)::cP f v r) from rfl]
   by_cases hk:k=f
   ·rw [if_pos hk]
    subst hk
    exact ⟨by simp,λ g h=>by simpa using h⟩
   ·rw [if_neg hk]
    refine ⟨?_,λ g h => ?_⟩
    ·rw [List.map_cons]
     exact List.mem_cons_of_mem _ i1
    ·rw [List.map_cons] at h ⊢
     rcases List.mem_cons.mp h with e | e
     ·exact List.mem_cons.mpr (.inl e)
     ·exact List.mem_cons_of_mem _ (i2 g e)
theorem sy (f:Str) (v:V) : ∀ fs:List (Str×V),(cP f v fs).length<=fs.length+1
 | []=>by simp [cP]
 | (k,x)::r=>by
   have ih:=sy f v r
   rw [show cP f v ((k,x)::r)=(if k=f then (k,v)::r else (k,x)::cP f v r) from rfl]
   by_cases hk:k=f
   ·rw [if_pos hk,List.length_cons,List.length_cons];omega
   ·rw [if_neg hk,List.length_cons,List.length_cons];omega
theorem jB.some_of {v:V} {o:Option Value} (r:jB (some v) o) : ∃ u,o=some u/\RelV v u:=by
 cases o with
 | none=>exact (show False from r).elim
 | some u=>exact ⟨u,rfl,r⟩
theorem jB.none_of {o:Option Value} (r:jB none o):o=none:=by
 cases o with
 | none=>rfl
 | some u=>exact (show False from r).elim
theorem Hz {v:V} {u:Value} (r:RelV v u):PySem.W.handedIn u=true:=by
 cases v with
 | aI=>cases (show u=Value.none from r);rfl
 | bl b=>cases (show u=Value.bool b from r);rfl
 | int i=>obtain ⟨t,e⟩:=(show ∃ t,u=Value.int i t from r);cases e;rfl
 | str x=>obtain ⟨t,e⟩:=(show ∃ t,u=Value.str x t from r);cases e;rfl
 | Jv b=>obtain ⟨t,e⟩:=(show ∃ t,u=Value.bytes b t from r);cases e;rfl
 | PV b=>obtain ⟨t,e⟩:=(show ∃ t,u=Value.float b t from r);cases e;rfl
 | ref a=>cases (show u=Value.ref a from r);rfl
 | ty n=>cases (show u=Value.type n from r);rfl
section
variable {P:Program} {w:World} {H H':Hp} {h h':Heap} {a C dx:Addr} {fs fs':List (Str×V)}
theorem uL (hok:j9 P w H h) (e:H a=some (.ins C dx fs)) : ∃ mA,Et h a dx C mA/\(∀ f,jB (fs.lookup f) (mA f))/\PySem.Within mA (fs.map (·.1))/\fs.length<=1000/\H dx=some (.own a):=by
 obtain ⟨d,z,ne,ob,mA,n,r,q⟩:=(show bU P w H h a (.ins C dx fs) from hok a _ e)
 exact ⟨mA,⟨ob,n,ne⟩,r,q,z,d⟩
end
structure MH (K:PySem.W.Frag) (C:Addr):Prop where
 pg:PySem.W.plainGet K C Str.empty=true
 hd:PySem.W.hasDictIn K C=true
 po:PySem.W.plainOver K C=true
 sa:PySem.W.findIn K (.ref C) "__setattr__" = some (some (.builtin "object.__setattr__"))
theorem MH.get {K:PySem.W.Frag} {C:Addr} (c:MH K C) (f:Str):PySem.W.plainGet K C f=true:=c.pg
def cG (K:PySem.W.Frag) (C:Addr) (f:Str):Prop:=PySem.W.findIn K (.ref C) f=some none
theorem cG.SQ {K:PySem.W.Frag} {C:Addr} {f:Str} (n:cG K C f):PySem.W.takerIn K C f=some none:=by
 unfold PySem.W.takerIn
 rw [show PySem.W.findIn K (.ref C) f=some none from n]
 rfl
structure Meth (K:PySem.W.Frag) (C:Addr) (m:Str) (f:Addr):Prop where
 at_:PySem.W.findIn K (.ref C) m=some (some (.ref f))
 fn:PySem.W.isFn K (.ref f)=true
 kp:PySem.W.keepIn K (.ref f)=true
section
variable {X:Cx} {pins:List (Addr×Obj)} {σ : St} {H:Hp} {s:Shared} {a C dx:Addr} {fs:List (Str×V)} {f:Str} {v:V} {A:Around} {E:Value->Shared->Prop}
theorem Eu {b:Bool} {Q:Value->Shared->Prop} (I:Inv X pins σ H s) (e:H a=some (.ins C dx fs)) (c:MH X.K C) (n:cG X.K C f) (l:fs.lookup f=some v)
  (h : ∀ u s',Inv X pins σ H s'->RelV v u->Q u s'):wpAny (model X.prog X.w) A (getAttr (.ref a) f b) Q E s:=by
 obtain ⟨mA,O,r,_,_,_⟩:=uL I.hok e
 obtain ⟨u,hu,ru⟩:=jB.some_of (v:=v) (o:=mA f) (by rw [<-l];exact r f)
 exact get_map I.sj O (c.get f) c.hd n hu (Hz ru) (h u _ (I.tok _) ru)
theorem nL {m:Str} {g:Addr} {pl:Sem Bool} {Q:Value×List Value->Shared->Prop} (I:Inv X pins σ H s) (e:H a=some (.ins C dx fs)) (c:MH X.K C) (k:Meth X.K C m g) (l:fs.lookup m=none)
  (h:Q (.ref g,[.ref a]) s):wpAny (model X.prog X.w) A (getMethod (.ref a) m pl) Q E s:=by
 obtain ⟨mA,O,r,_,_,_⟩:=uL I.hok e
 have hn:mA m=none:=jB.none_of (by rw [<-l];exact r m)
 exact JU I.sj O (c.get m) k.at_ k.fn hn h
theorem Ew {y:V} {u:Value} {Q:Unit->Shared->Prop} (I:Inv X pins σ H s) (e:H a=some (.ins C dx fs)) (c:MH X.K C) (n:cG X.K C f) (hl:fs.length < 1000) (ry:RelV y u)
  (h : ∀ s',Inv X pins σ (upd H a (.ins C dx (cP f y fs))) s'->Q () s'):wpAny (model X.prog X.w) A (setAttr (.ref a) f u) Q E s:=by
 obtain ⟨mA,O,r,wi,_,ho⟩:=uL I.hok e
 have hz:(fs.map (·.1)).length<=sizeLine:=by rw [List.length_map,sizeLine_eq];omega
 refine MY I.sj O c.sa c.po n.SQ c.hd wi hz λ h' O' sb=>h _ ?_
 have hd : ∃ o,h'.get? dx=some o:=let ⟨o,_,_,e',_⟩:=O'.ns; ⟨o,e'⟩
 refine I.write (x:=a) (e:=dx) (by rw [e];exact True.intro) (.inr ho) (λ b q hb z=>(sb.2 b hb).trans z) hd ?_
 refine ⟨by rw [bZ O.ne];exact ho,?_,O.ne,O'.obj,_,O'.ns,λ g => ?_,λ g hg => ?_⟩
 ·have:=sy f y fs;omega
 ·show jB ((cP f y fs).lookup g) (if g=f then some u else mA g)
  rw [su]
  by_cases q:g=f
  ·rw [if_pos q,if_pos q];exact ry
  ·rw [if_neg q,if_neg q];exact r g
 ·by_cases q:g=f
  ·rw [q];exact (qv f y fs).1
  ·refine (qv f y fs).2 g (wi g λ z=>hg ?_)
   show (if g=f then some u else mA g)=none
   rw [if_neg q];exact z
theorem Inv.made (I:Inv X pins σ H s):Inv X pins σ (upd (upd H s.heap.objs.size (.own (s.heap.objs.size+1))) (s.heap.objs.size+1) (.ins C s.heap.objs.size []))
  { s with heap:=(s.heap.push PySem.W.emptyDict).push (PySem.W.instObj C s.heap.objs.size) } := by
 have e1:(s.heap.push PySem.W.emptyDict).get? s.heap.objs.size=some PySem.W.emptyDict:=Heap.get?_push_size s.heap rfl
 have e2:((s.heap.push PySem.W.emptyDict).push (PySem.W.instObj C s.heap.objs.size)).get? (s.heap.objs.size+1)=some (PySem.W.instObj C s.heap.objs.size):=by
  have:=Heap.get?_push_size (s.heap.push PySem.W.emptyDict) (o:=PySem.W.instObj C s.heap.objs.size) rfl
  rwa [Heap.size_push] at this
 have e3:(s.heap.push PySem.W.emptyDict).Ns s.heap.objs.size (λ _=>none):=⟨PySem.W.emptyDict,#[],_,e1,rfl,(λ e he=>absurd he (by simp)),λ _=>rfl⟩
 have I1:=I.laid (a:=s.heap.objs.size) (o := .own (s.heap.objs.size+1)) (h':=s.heap.push PySem.W.emptyDict) (t':=s.toks) (λ b u q=>Heap.get?_push_of_some _ q) (Nat.le_refl _) ⟨_,e1⟩
 refine I1.laid (a:=s.heap.objs.size+1) (o := .ins C s.heap.objs.size []) (t':=s.toks) (λ b u q=>Heap.get?_push_of_some _ q) (Nat.le_of_eq (Heap.size_push _ _)) ?_
 have ne:s.heap.objs.size≠s.heap.objs.size+1:=Nat.ne_of_lt (Nat.lt_succ_self _)
 refine ⟨by rw [bZ ne,ja],Nat.zero_le _,ne,e2,λ _=>none,(Heap.Ns1.of_empty e3).at λ o q=>Heap.get?_push_of_some _ q,λ _=>True.intro,λ y hy=>absurd rfl hy⟩
theorem MZ {prog:Program} {w:World} {env:Env} {e:Expr} {f:Str} {pos:Pos} {s:Shared} {Q:Value->Shared->Prop} (hb:attributeBase e f env (eval e env)=eval e env)
  (h:wpAny (model prog w) A (eval e env) (λ o s₁ => wpAny (model prog w) A (getAttr o f true) Q E s₁) E s):wpAny (model prog w) A (eval (.Attribute e f pos) env) Q E s :=
 Attribute_any_ h (by rw [arm_eval_Attribute,hb])
end
section
variable {X:Cx} {o e value:Expr} {f:Str} {pos pos' tpos:Pos} {ta tv:TE}
theorem OT {pl:Sem Bool} {m:Str} {apos:Pos} {args:List Expr} {pins:List (Addr×Obj)} {s:Shared} {σ : St} {H:Hp} {Q:Value->Shared->Prop} {te:TE} (he:PE X e te) (I:Inv X pins σ H s)
  (h:te σ H λ x H1 => ∃ a C dx fs g,x = .ref a/\H1 a=some (.ins C dx fs)/\MH X.K C/\Meth X.K C m g/\fs.lookup m=none ∧
   ∀ s1,Inv X pins σ H1 s1->wpAny (model X.prog X.w) X.A (callWith pos (.ref g) [.ref a] (backTo pos (starEach args X.env)) (backToKw pos (keywordEach [] X.env))) Q X.xe s1)
  (ht:eval (.Call (.Attribute e m apos) args [] pos) X.env=(do
   let ov <-eval e X.env
   standAt apos.atName
   let (f,first) <-holding [ov] (getMethod ov m pl)
   callWith pos f first (backTo pos (starEach args X.env)) (backToKw pos (keywordEach [] X.env)))) :
  wpAny (model X.prog X.w) X.A (eval (.Call (.Attribute e m apos) args [] pos) X.env) Q X.xe s:=by
 refine PySem.W.methodCall_KW (pl:=pl) (ck (he pins s σ H _ I h) λ u s1 ⟨x,H1,I1,rx,a,C,dx,fs,g,ex,ea,c,k,l,q⟩ => ?_) ht
 subst ex
 obtain rfl:u=Value.ref a:=rx
 exact nL I1 ea c k l (q s1 I1)
end
section
variable {X:Cx} {pins:List (Addr×Obj)} {σ : St} {H:Hp} {s:Shared} {A:Around} {E:Value->Shared->Prop} {Q:Value->Shared->Prop} {c:Value} {b:Bool}
inductive oZ (K:PySem.W.Frag) (H:Hp):V->Value->Prop where
 | aI:oZ K H .aI (.type "NoneType")
 | bl (x:Bool):oZ K H (.bl x) (.type "bool")
 | int (i:Int):oZ K H (.int i) (.type "int")
 | str (x:Str):oZ K H (.str x) (.type "str")
 | PV (x:UInt64):oZ K H (.PV x) (.type "float")
 | lst {a:Addr} {xs:List V} (e:H a=some (.lst xs)):oZ K H (.ref a) (.type "list")
 | CG {a:Addr} {o:Obj} {xs:List V} (e:H a=some (.CG o (.lst xs))):oZ K H (.ref a) (.type "list")
 | tup {a:Addr} {xs:List V} (e:H a=some (.tup xs)):oZ K H (.ref a) (.type "tuple")
 | dK {a:Addr} {kvs:List (Key×V)} (e:H a=some (.dK kvs)):oZ K H (.ref a) (.type "dict")
 | dT {a:Addr} {kvs:List (List Key×V)} (e:H a=some (.dT kvs)):oZ K H (.ref a) (.type "dict")
 | ins {a C dx:Addr} {fs:List (Str×V)} (e:H a=some (.ins C dx fs)) (cl:MH K C) (ha:PySem.W.findIn K (.ref C) "__class__" = some (some (.builtin "object.__class__")))
   (hn:PySem.W.specialIn K (.builtin "object.__class__") "__get__" = some (some (.builtin "getset_descriptor.__get__"))) (htk:PySem.W.takesIn K (.builtin "object.__class__")=some true)
   (hm:PySem.W.mroIn K C (.type "object")=some true):oZ K H (.ref a) (.ref C)
theorem An {x:V} {u t:Value} (I:Inv X pins σ H s) (rx:RelV x u) (ty:oZ X.K H x t) (e:PySem.W.kitOne X.K t c=some b) (h : ∀ tk,Q (.bool b) { s with toks:=tk }) :
  wpAny (model X.prog X.w) A (call (.builtin "isinstance") [u,c]) Q E s:=by
 cases ty with
 | aI=>cases (show u=Value.none from rx);exact PySem.W.kia_one PySem.W.kitx_none I.sj True.intro e (λ z=>nomatch z) h
 | bl y=>cases (show u=Value.bool y from rx);exact PySem.W.kia_one PySem.W.kitx_bool I.sj True.intro e (λ z=>nomatch z) h
 | int i=>obtain ⟨t,q⟩:=(show ∃ t,u=Value.int i t from rx);cases q;exact PySem.W.kia_one PySem.W.kitx_int I.sj True.intro e (λ z=>nomatch z) h
 | str y=>obtain ⟨t,q⟩:=(show ∃ t,u=Value.str y t from rx);cases q;exact PySem.W.kia_one PySem.W.kitx_str I.sj True.intro e (λ z=>nomatch z) h
 | PV y=>obtain ⟨t,q⟩:=(show ∃ t,u=Value.float y t from rx);cases q;exact PySem.W.kia_one PySem.W.kitx_float I.sj True.intro e (λ z=>nomatch z) h
 | @lst a xs ea =>
   cases (show u=Value.ref a from rx)
   obtain ⟨_,_,n,_,h1⟩:=(show bU X.prog X.w H s.heap a (.lst xs) from I.hok a _ ea)
   exact PySem.W.kia_one PySem.W.kitx_list I.sj ⟨_,h1,rfl⟩ e (λ z=>nomatch z) h
 | @CG a ob xs ea =>
   cases (show u=Value.ref a from rx)
   obtain ⟨_,_,_,n,_,h1⟩:=(show bU X.prog X.w H s.heap a (.CG ob (.lst xs)) from I.hok a _ ea)
   exact PySem.W.kia_one PySem.W.kitx_list I.sj ⟨_,h1,rfl⟩ e (λ z=>nomatch z) h
 | @tup a xs ea =>
   cases (show u=Value.ref a from rx)
   obtain ⟨_,_,_,p⟩:=(show bU X.prog X.w H s.heap a (.tup xs) from I.hok a _ ea)
   obtain ⟨o,h1,h2,_⟩:=p
   exact PySem.W.kia_one PySem.W.kitx_tuple I.sj ⟨o,h1,h2⟩ e (λ z=>nomatch z) h
 | @dK a kvs ea =>
   cases (show u=Value.ref a from rx)
   obtain ⟨_,_,vs,_,p⟩:=(show bU X.prog X.w H s.heap a (.dK kvs) from I.hok a _ ea)
   obtain ⟨o,es,ep,h1,h2,_⟩:=p
   exact PySem.W.kia_one PySem.W.kitx_dict I.sj ⟨o,h1,h2.1⟩ e (λ z=>nomatch z) h
 | @dT a kvs ea =>
   cases (show u=Value.ref a from rx)
   obtain ⟨_,_,xs,_,o,es,ep,h1,h2,_⟩:=(show bU X.prog X.w H s.heap a (.dT kvs) from I.hok a _ ea)
   exact PySem.W.kia_one PySem.W.kitx_dict I.sj ⟨o,h1,h2.1⟩ e (λ z=>nomatch z) h
 | @ins a C dx fs ea cl ha hn htk hm =>
   cases (show u=Value.ref a from rx)
   obtain ⟨mA,O,_⟩:=uL I.hok ea
   obtain ⟨od,J,_⟩:=O.look
   exact PySem.W.kia_one (PySem.W.kitx_own (cl.get _) cl.hd ha hn htk hm) I.sj J e (λ z=>nomatch z) h
end
end L2
namespace L2
open PySem PySem.Spec PyProof.Rows
structure cZ (k:Nat) (A:Around):Prop where
 hd:A.handled=none
 dp:A.depth+3 * k+5 < recursionLimit
 un:A.units+16 * k+200 < cLine
theorem cZ.mono {j k:Nat} {A:Around} (r:cZ k A) (h:j<=k):cZ j A:=⟨r.hd,by have:=r.dp;omega,by have:=r.un;omega⟩
theorem cZ.deeper {k:Nat} {A:Around} (r:cZ (k+1) A) (env:Env):cZ k (A.deeper env) :=
 ⟨r.hd,by have:=r.dp;show A.depth+1+3 * k+5 < _;omega,by have:=r.un;show A.units+3+16 * k+200 < _;omega⟩
theorem Ex {A:Around} {C:Addr} {us:List Value} {kw:List (Str×Value)} : (A.under (.builtin "type.__call__" ⟨.ref C::us,kw⟩)).depth=A.depth+1:=by
 first | rfl | simp [Around.under,Code.weight,Code.isCreation,Code.isGuard,Code.isCaller,Code.frames,Code.isFrame,guardIds]
theorem Ey {A:Around} {C:Addr} {us:List Value} {kw:List (Str×Value)} : (A.under (.builtin "type.__call__" ⟨.ref C::us,kw⟩)).units=A.units+1:=by
 first | rfl | simp [Around.under,Code.cUnits,Code.frames,Code.isFrame]
theorem cZ.make {k:Nat} {A:Around} (r:cZ (k+1) A) (C:Addr) (us:List Value) (kw:List (Str×Value)):cZ k (A.under (.builtin "type.__call__" ⟨.ref C::us,kw⟩)) :=
 ⟨r.hd,by have:=r.dp;rw [Ex];omega,by have:=r.un;rw [Ey];omega⟩
theorem cZ.depth {k:Nat} {A:Around} (r:cZ k A):A.depth < recursionLimit:=by have:=r.dp;omega
theorem cZ.units {k:Nat} {A:Around} (r:cZ k A):A.units+64 < cLine:=by have:=r.un;omega
def CU:TA:=λ _ H Q=>Q [] H
def Gy (ta:TE) (tr:TA):TA:=fun σ H Q=>ta σ H λ x H1=>tr σ H1 λ xs H2=>Q (x::xs) H2
section
variable {X:Cx} {e:Expr} {es:List Expr} {te:TE} {t:TA} {pos:Pos}
theorem aj:PA X [] CU:=λ _ _ _ _ H Q I h=>Calls.spliced_nil ⟨[],H,I,.nil,h⟩
theorem aa (ha:PE X e te) (hr:PA X es t) (hs:starEach (e::es) X.env=(false,eval e X.env)::starEach es X.env:=by rfl):PA X (e::es) (Gy te t):=by
 intro pos pins s σ H Q I h
 rw [hs]
 show wpAny _ _ (spliced ((false,eval e X.env)::backTo pos (starEach es X.env))) _ _ s
 refine Calls.spliced_cons (ck (ha pins s σ H _ I h) λ u s1 ⟨x,H1,I1,r1,q1⟩ => ?_)
 exact ck (hr pos pins s1 σ H1 _ I1 q1) λ us s2 ⟨xs,H2,I2,r2,q2⟩=>⟨x::xs,H2,I2,.cons r1 r2,q2⟩
def Qn (t:TA):TE:=fun σ H Q=>t σ H λ xs H1=>xs.length<=sizeLine ∧ ∀ p,H1 p=none->Q (.ref p) (upd H1 p (.tup xs))
def Qo (t:TA):TE:=fun σ H Q=>t σ H λ xs H1=>xs.length<=sizeLine ∧ ∀ p,H1 p=none->Q (.ref p) (upd H1 p (.lst xs))
theorem fu {x1} (h:PA X es t):PE X (.Tuple es x1 pos) (Qn t):=by
 intro pins s σ H Q I hq
 refine wpAny_Tuple_spliced (ck (h pos pins s σ H _ I hq) λ us s1 ⟨xs,H1,I1,r,z,q⟩=>⟨by rw [<-r.length];exact z,?_⟩)
 have hf:H1 s1.heap.objs.size=none:=I1.hok.fresh (Nat.le_refl _)
 refine ⟨.ref s1.heap.objs.size,upd H1 s1.heap.objs.size (.tup xs),I1.laid (t':=s1.toks) (λ b u e=>Heap.get?_push_of_some _ e) (Nat.le_refl _) ?_,rfl,q _ hf⟩
 exact ⟨z,us,r,⟨_,Heap.get?_push_size _ rfl,rfl,_,rfl⟩⟩
theorem iY (h:PA X es t):PE X (.List es pos) (Qo t):=by
 intro pins s σ H Q I hq
 refine wpAny_List_spliced (ck (h pos pins s σ H _ I hq) λ us s1 ⟨xs,H1,I1,r,z,q⟩=>⟨by rw [<-r.length];exact z,?_⟩)
 have hf:H1 s1.heap.objs.size=none:=I1.hok.fresh (Nat.le_refl _)
 refine ⟨.ref s1.heap.objs.size,upd H1 s1.heap.objs.size (.lst xs),I1.laid (t':=s1.toks) (λ b u e=>Heap.get?_push_of_some _ e) (Nat.le_refl _) ?_,rfl,q _ hf⟩
 exact ⟨z,us,0,r,Heap.get?_push_size _ rfl⟩
end
abbrev Sp:=List V->Hp->VK->XK->Prop
abbrev HA:=List Env->Hp->Shared->XK->Value->Shared->Prop
structure Ez (P:Program) (w:World) (K:PySem.W.Frag) (mg:Str->Option Value) (base:Heap) (A:Around) (outer:List Env) (s:Shared) (H:Hp):Prop where
 frames:A.frames=some outer
 mod:Mod K mg base
 bs : ∀ b o,base.get? b=some o->s.heap.get? b=some o/\H b=none
 Jw:base.objs.size<=s.heap.objs.size
 oU:s.heap.FunFrames base outer
 MR : ∀ b∈frs outer,H b=none
 hok:j9 P w H s.heap
 bare:AllBare s.gens
def CE (outer:List Env) (P:Program) (w:World) (H:Hp) (s:Shared) (Q:VK) (u:Value) (s':Shared):Prop :=
 ∃ v H',s'.os=s.os/\AllBare s'.gens/\Un (frs outer) [] H H' s.heap s'.heap/\j9 P w H' s'.heap/\RelV v u/\Q v H'
def CR (CX:HA) (outer:List Env) (P:Program) (w:World) (H:Hp) (s:Shared) (Q:VK) (E:XK) (r:Result) (s':Shared):Prop :=
 match r with
 | .ok (.ret u)=>CE outer P w H s Q u s'
 | .ok _=>False
 | .error e=>CX outer H s E e s'
structure gq (P:Program) (w:World) (K:PySem.W.Frag) (mg:Str->Option Value) (base:Heap) (CX:HA) (k:Nat) (f:Addr) (fd:FuncData) (ps:List Str) (sp:Sp):Prop where
 len : ∀ vs H Q E,sp vs H Q E->vs.length=ps.length
 run : ∀ (A:Around) (outer:List Env) (s:Shared) (H:Hp) (args:Args) (us:List Value) (vs:List V) (Q:VK) (E:XK),cZ k A->Ez P w K mg base A outer s H->BindsTo s fd args (ps.zip us)->Vals vs us->sp vs H Q E →
  codeAny (model P w) A (.call (.ref f) args) (CR CX outer P w H s Q E) s
theorem gq.mono {P:Program} {w:World} {K:PySem.W.Frag} {mg:Str->Option Value} {base:Heap} {CX:HA} {j k:Nat} {f:Addr} {fd:FuncData} {ps:List Str} {sp:Sp} (F:gq P w K mg base CX j f fd ps sp) (h:j<=k) :
  gq P w K mg base CX k f fd ps sp:=⟨F.len,λ A outer s H args us vs Q E hr=>F.run A outer s H args us vs Q E (hr.mono h)⟩
theorem gq.imp {P:Program} {w:World} {K:PySem.W.Frag} {mg:Str->Option Value} {base:Heap} {CX:HA} {k:Nat} {f:Addr} {fd:FuncData} {ps:List Str} {sp SR:Sp} (F:gq P w K mg base CX k f fd ps sp)
  (h : ∀ vs H Q E,SR vs H Q E->sp vs H Q E):gq P w K mg base CX k f fd ps SR :=
 ⟨λ vs H Q E q=>F.len vs H Q E (h _ _ _ _ q),λ A outer s H args us vs Q E hr he hb hv hs=>F.run A outer s H args us vs Q E hr he hb hv (h _ _ _ _ hs)⟩
theorem Ez.make {P:Program} {w:World} {K:PySem.W.Frag} {mg:Str->Option Value} {base:Heap} {A:Around} {outer:List Env} {s:Shared} {H:Hp} (e:Ez P w K mg base A outer s H) (C:Addr) (us:List Value) (kw:List (Str×Value)) :
  Ez P w K mg base (A.under (.builtin "type.__call__" ⟨.ref C::us,kw⟩)) outer s H:=⟨by first | exact e.frames | (simpa [Around.under,Code.envs,Code.isFrame,pushEnvs] using e.frames),e.mod,e.bs,e.Jw,e.oU,e.MR,e.hok,e.bare⟩
section
variable {X:Cx} {pins:List (Addr×Obj)} {σ : St} {H:Hp} {s s':Shared}
theorem Inv.SV (I:Inv X pins σ H s):Ez X.prog X.w X.K X.mg X.base X.A X.stack s H :=
 ⟨I.ok.frames,I.ok.mod,I.bs,Nat.le_trans I.ok.Jw I.sz,I.stack,I.A3,I.hok,I.bare⟩
theorem Inv.after {Q:VK} {u:Value} (I:Inv X pins σ H s) (h:CE X.stack X.prog X.w H s Q u s'):EP X pins σ Q u s':=by
 obtain ⟨v,H',os,bare,un,hok,r,q⟩:=h
 obtain ⟨hh,g,d,t,os'⟩:=s'
 obtain rfl:os' = s.os:=os
 exact ⟨v,H',I.call (h':=hh) (g':=g) (d':=d) (t':=t) (ch:=[]) un hok bare (λ b z=>absurd z (by simp)),r,q⟩
end
def Gz (sp:Sp) (jb:List V) (E:XK) (t:TA):TE:=fun σ H Q=>t σ H λ vs H1=>sp (vs++jb) H1 Q E
def Ao (C:Addr) (m:Str) (sp:Sp) (jb:List V) (E:XK) (ta:TE) (t:TA):TE:=fun σ H Q=>ta σ H λ x H1 => ∃ a dx fs,x = .ref a/\H1 a=some (.ins C dx fs)/\fs.lookup m=none ∧
 t σ H1 λ vs H2=>sp (x::(vs++jb)) H2 Q E
def Aq (C:Addr) (sp:Sp) (jb:List V) (E:XK) (t:TA):TE:=fun σ H Q=>t σ H λ vs H1 => ∀ x dx,H1 x=none->H1 dx=none->dx≠x →
 sp (.ref x::(vs++jb)) (upd (upd H1 dx (.own x)) x (.ins C dx [])) (λ v H2=>v = .aI/\Q (.ref x) H2) E
def Binds (K:PySem.W.Frag) (fd:FuncData) (ps:List Str) (ds:List Value):Prop :=
 ∀ (s:Shared) (us:List Value),K.In s.heap->(us++ds).length=ps.length->BindsTo s fd ⟨us,[]⟩ (ps.zip (us++ds))
theorem Binds.all {K:PySem.W.Frag} {fd:FuncData} {ps:List Str} (h : ∀ us:List Value,us.length=ps.length->bindArgs fd ⟨us,[]⟩ = pure (ps.zip us)):Binds K fd ps []:=λ s us _ hl=>by
 rw [List.append_nil] at hl ⊢
 exact .of_eq (h us hl)
def Passes (CX:HA) (X:Cx) (E:XK):Prop := ∀ (pins:List (Addr×Obj)) (σ : St) (H:Hp) (s:Shared) (e:Value) (s':Shared),Inv X pins σ H s->CX X.stack H s E e s'->X.xe e s'
section
variable {X:Cx} {CX:HA} {k:Nat} {f C:Addr} {fd:FuncData} {ps:List Str} {sp:Sp} {jb:List V} {ds:List Value} {E:XK} {x m:Str} {p pos apos:Pos} {e o:Expr} {es:List Expr} {ta:TE} {t:TA}
theorem EA {pins:List (Addr×Obj)} {σ : St} {H:Hp} {s:Shared} {Q:VK} {us:List Value} {vs:List V} (F:gq X.prog X.w X.K X.mg X.base CX k f fd ps sp) (hr:cZ k X.A) (hb:Binds X.K fd ps ds) (hd:Vals jb ds) (hx:Passes CX X E)
  (I:Inv X pins σ H s) (r:Vals vs us) (h:sp (vs++jb) H Q E):wpAny (model X.prog X.w) X.A (call (.ref f) us) (EP X pins σ Q) X.xe s:=by
 have r2:Vals (vs++jb) (us++ds):=r.append hd
 have hl:(us++ds).length=ps.length:=by rw [<-r2.length];exact F.len _ _ _ _ h
 refine wpAny_call (codeAny_mono (F.run X.A X.stack s H ⟨us,[]⟩ (us++ds) (vs++jb) Q E hr I.SV (hb s us I.sj hl) r2 h) λ r s' hq => ?_)
 cases r with
 | error e=>exact hx pins σ H s e s' I hq
 | ok fl =>
   cases fl with
   | ret u=>exact I.after hq
   | next=>exact False.elim hq
   | brk=>exact False.elim hq
   | cont=>exact False.elim hq
theorem M4 (F:gq X.prog X.w X.K X.mg X.base CX k f fd ps sp) (hr:cZ k X.A) (hg:Gl X x) (hm:X.mg x=some (.ref f)) (hk:PySem.W.keepIn X.K (.ref f)=true) (hb:Binds X.K fd ps ds) (hd:Vals jb ds) (hx:Passes CX X E)
  (ha:PA X (e::es) t) (hdb:(x == ("__debug__" : Str))=false:=by decide) (he:starEach (e::es) X.env=(false,eval e X.env)::starEach es X.env:=by rfl) (hpl:(backTo pos (starEach es X.env)).any (·.1)=false:=by rfl) :
  PE X (.Call (.Name x p) (e::es) [] pos) (Gz sp jb E t):=by
 intro pins s σ H Q I h
 refine wpAny_Call_Name_kw (uK I hg hm ?_ hdb)
 refine PySem.W.callWith_K (h₀ := X.base) I.ok.mod.R8 hk (ck (ha pos pins s σ H _ I h) λ us s1 ⟨vs,H1,I1,r,q⟩=>⟨I1.sj,?_⟩) he hpl
 exact EA F hr hb hd hx I1 r q
theorem M5 {pl:Sem Bool} (he:PE X o ta) (c:MH X.K C) (hm:Meth X.K C m f) (F:gq X.prog X.w X.K X.mg X.base CX k f fd ps sp) (hr:cZ k X.A) (hb:Binds X.K fd ps ds) (hd:Vals jb ds) (hx:Passes CX X E) (ha:PA X (e::es) t)
  (hst:starEach (e::es) X.env=(false,eval e X.env)::starEach es X.env:=by rfl) (hpl:(backTo pos (starEach es X.env)).any (·.1)=false:=by rfl)
  (ht:eval (.Call (.Attribute o m apos) (e::es) [] pos) X.env=(do
   let ov <-eval o X.env
   standAt apos.atName
   let (f,first) <-holding [ov] (getMethod ov m pl)
   callWith pos f first (backTo pos (starEach (e::es) X.env)) (backToKw pos (keywordEach [] X.env))):=by rfl) :
  PE X (.Call (.Attribute o m apos) (e::es) [] pos) (Ao C m sp jb E ta t):=by
 intro pins s σ H Q I h
 refine PySem.W.methodCall_KW (pl:=pl) (ck (he pins s σ H _ I h) λ u s1 ⟨x,H1,I1,rx,a,dx,fs,ex,ea,l,q⟩ => ?_) ht
 subst ex
 obtain rfl:u=Value.ref a:=rx
 refine nL I1 ea c hm l ?_
 refine PySem.W.callWith_K (first:=[.ref a]) (h₀ := X.base) I.ok.mod.R8 hm.kp (ck (ha pos pins s1 σ H1 _ I1 q) λ us s2 ⟨vs,H2,I2,r,q2⟩=>⟨I2.sj,?_⟩) hst hpl
 exact EA (us := .ref a::us) (vs := .ref a::vs) F hr hb hd hx I2 (.cons rfl r) q2
theorem JW {pl:Sem Bool} (he:PE X o ta) (c:MH X.K C) (hm:Meth X.K C m f) (F:gq X.prog X.w X.K X.mg X.base CX k f fd ps sp) (hr:cZ k X.A) (hb:Binds X.K fd ps ds) (hd:Vals jb ds) (hx:Passes CX X E)
  (ht:eval (.Call (.Attribute o m apos) [] [] pos) X.env=(do
   let ov <-eval o X.env
   standAt apos.atName
   let (f,first) <-holding [ov] (getMethod ov m pl)
   callWith pos f first (backTo pos (starEach [] X.env)) (backToKw pos (keywordEach [] X.env))):=by rfl) :
  PE X (.Call (.Attribute o m apos) [] [] pos) (Ao C m sp jb E ta CU):=by
 intro pins s σ H Q I h
 refine PySem.W.methodCall_KW (pl:=pl) (ck (he pins s σ H _ I h) λ u s1 ⟨x,H1,I1,rx,a,dx,fs,ex,ea,l,q⟩ => ?_) ht
 subst ex
 obtain rfl:u=Value.ref a:=rx
 refine nL I1 ea c hm l ?_
 exact PySem.W.callWith_K0 (first:=[.ref a]) I1.sj hm.kp (EA (us:=[.ref a]) (vs:=[.ref a]) F hr hb hd hx I1 (.cons rfl .nil) q)
structure Mk (K:PySem.W.Frag) (C f:Addr):Prop where
 makes:PySem.W.makesIn K C=true
 init:PySem.W.findIn K (.ref C) "__init__" = some (some (.ref f))
 fn:PySem.W.isFn K (.ref f)=true
 kp:PySem.W.keepIn K (.ref C)=true
theorem CV {pins:List (Addr×Obj)} {σ : St} {H:Hp} {s:Shared} {Q:VK} {us:List Value} {vs:List V} (M:Mk X.K C f) (F:gq X.prog X.w X.K X.mg X.base CX k f fd ps sp) (hr:cZ (k+1) X.A) (hb:Binds X.K fd ps ds) (hd:Vals jb ds)
  (hx:Passes CX X E) (I:Inv X pins σ H s) (r:Vals vs us)
  (h : ∀ x dx,H x=none->H dx=none->dx≠x->sp (.ref x::(vs++jb)) (upd (upd H dx (.own x)) x (.ins C dx [])) (λ v H2=>v = .aI/\Q (.ref x) H2) E) :
  wpAny (model X.prog X.w) X.A (call (.ref C) us) (EP X pins σ Q) X.xe s:=by
 have hq:=h (s.heap.objs.size+1) s.heap.objs.size (I.hok.fresh (Nat.le_succ _)) (I.hok.fresh (Nat.le_refl _)) (Nat.ne_of_lt (Nat.lt_succ_self _))
 have I2:=Inv.made (C:=C) I
 have r2:Vals (V.ref (s.heap.objs.size+1)::(vs++jb)) (Value.ref (s.heap.objs.size+1)::(us++ds)) := .cons rfl (r.append hd)
 have hl:(Value.ref (s.heap.objs.size+1)::us++ds).length=ps.length:=by
  have e:=r2.length
  rw [F.len _ _ _ _ hq] at e
  exact e.symm
 refine wpAny_call (JV (f:=f) I.sj M.makes M.init (beq_iff_eq.mp M.fn) (codeAny_mono (F.run _ X.stack _ _ ⟨Value.ref (s.heap.objs.size+1)::us,[]⟩ (Value.ref (s.heap.objs.size+1)::(us++ds)) _ _ E (hr.make C us [])
  (I2.SV.make C us []) (hb _ (Value.ref (s.heap.objs.size+1)::us) I2.sj hl) r2 hq) λ r s' hq' => ?_))
 cases r with
 | error e=>exact hx pins σ _ _ e s' I2 hq'
 | ok fl =>
   cases fl with
   | ret u =>
     obtain ⟨v,H',I3,rv,ev,q3⟩:=I2.after hq'
     subst ev
     exact ⟨rv,⟨V.ref (s.heap.objs.size+1),H',I3,rfl,q3⟩⟩
   | next=>exact False.elim hq'
   | brk=>exact False.elim hq'
   | cont=>exact False.elim hq'
theorem M6 (M:Mk X.K C f) (F:gq X.prog X.w X.K X.mg X.base CX k f fd ps sp) (hr:cZ (k+1) X.A) (hg:Gl X x) (hm:X.mg x=some (.ref C)) (hb:Binds X.K fd ps ds) (hd:Vals jb ds) (hx:Passes CX X E)
  (ha:PA X (e::es) t) (hdb:(x == ("__debug__" : Str))=false:=by decide) (he:starEach (e::es) X.env=(false,eval e X.env)::starEach es X.env:=by rfl) (hpl:(backTo pos (starEach es X.env)).any (·.1)=false:=by rfl) :
  PE X (.Call (.Name x p) (e::es) [] pos) (Aq C sp jb E t):=by
 intro pins s σ H Q I h
 refine wpAny_Call_Name_kw (uK I hg hm ?_ hdb)
 refine PySem.W.callWith_K (h₀ := X.base) I.ok.mod.R8 M.kp (ck (ha pos pins s σ H _ I h) λ us s1 ⟨vs,H1,I1,r,q⟩=>⟨I1.sj,?_⟩) he hpl
 exact CV M F hr hb hd hx I1 r q
theorem JX (M:Mk X.K C f) (F:gq X.prog X.w X.K X.mg X.base CX k f fd ps sp) (hr:cZ (k+1) X.A) (hg:Gl X x) (hm:X.mg x=some (.ref C)) (hb:Binds X.K fd ps ds) (hd:Vals jb ds) (hx:Passes CX X E)
  (hdb:(x == ("__debug__" : Str))=false:=by decide):PE X (.Call (.Name x p) [] [] pos) (Aq C sp jb E CU):=by
 intro pins s σ H Q I h
 refine wpAny_Call_Name_kw (uK I hg hm ?_ hdb)
 exact PySem.W.callWith_K0 I.sj M.kp (CV (us:=[]) M F hr hb hd hx I .nil h)
end
section
variable {X:Cx} {CX:HA} {k:Nat} {f C:Addr} {fd:FuncData} {ps ks:List Str} {sp:Sp} {E:XK} {x m:Str} {p pos apos kpos:Pos} {e o:Expr} {es:List Expr} {kws:List Keyword} {te ta:TE} {t tk:TA} {nm:Option Str}
variable {g:List Value->List Value->List Value} {gV:List V->List V->List V}
end
structure aD (N P:List Str) (sc:Scope):Prop where
 kind:sc.kind = .function
 co:sc.isCoroutine=false
 gen:sc.isGenerator=false
 nd:N.Nodup
 pre:N.take P.length=P
 par : ∀ x∈P,sc.names.lookup x=some .local\/sc.names.lookup x=some .cell
 Qp : ∀ y∈sc.names,y.2 ≠ .free
theorem Ar {kindOf:Str->Option NameKind} {x:Str} : ∀ {binds:List (Str×Value)} {m:Str->Option Value},(∀ v,(x,v) ∉ binds)->bindL kindOf binds m x=m x
 | [],_,_=>rfl
 | (n,v)::r,m,h=>by
   unfold bindL
   rw [Ar λ w hw=>h w (List.mem_cons_of_mem _ hw)]
   split
   ·have:x≠n:=by rintro rfl;exact h v List.mem_cons_self
    simp [this]
   ·rfl
theorem As {kindOf:Str->Option NameKind} {x:Str} : ∀ {binds:List (Str×Value)} {m:Str->Option Value},(∀ v,(x,v) ∉ binds)->bindC kindOf binds m x=m x
 | [],_,_=>rfl
 | (n,v)::r,m,h=>by
   unfold bindC
   rw [As λ w hw=>h w (List.mem_cons_of_mem _ hw)]
   split
   ·rfl
   ·have:x≠n:=by rintro rfl;exact h v List.mem_cons_self
    simp [this]
theorem Au {kindOf:Str->Option NameKind} {x:Str} {v:Value} : ∀ {P:List Str} {vs:List Value} {i:Nat} {m:Str->Option Value},P.Nodup->P[i]? = some x->vs[i]? = some v->kindOf x=some .local →
  bindL kindOf (P.zip vs) m x=some v
 | [],_,_,_,_,h,_,_=>by simp at h
 | _::_,[],_,_,_,_,h,_=>by simp at h
 | p::P,w::vs,0,m,nd,h1,h2,hk=>by
   simp at h1 h2;subst h1;subst h2
   show bindL kindOf ((p,w)::P.zip vs) m p=_
   unfold bindL
   rw [Ar λ v hv=>(List.nodup_cons.mp nd).1 (List.of_mem_zip hv).1,if_pos hk]
   simp
 | p::P,w::vs,i+1,m,nd,h1,h2,hk=>by
   show bindL kindOf ((p,w)::P.zip vs) m x=_
   unfold bindL
   exact Au (i:=i) (List.nodup_cons.mp nd).2 (by simpa using h1) (by simpa using h2) hk
theorem Av {kindOf:Str->Option NameKind} {x:Str} {v:Value} : ∀ {P:List Str} {vs:List Value} {i:Nat} {m:Str->Option Value},P.Nodup->P[i]? = some x->vs[i]? = some v->kindOf x≠some .local →
  bindC kindOf (P.zip vs) m x=some v
 | [],_,_,_,_,h,_,_=>by simp at h
 | _::_,[],_,_,_,_,h,_=>by simp at h
 | p::P,w::vs,0,m,nd,h1,h2,hk=>by
   simp at h1 h2;subst h1;subst h2
   show bindC kindOf ((p,w)::P.zip vs) m p=_
   unfold bindC
   rw [As λ v hv=>(List.nodup_cons.mp nd).1 (List.of_mem_zip hv).1,if_neg hk]
   simp
 | p::P,w::vs,i+1,m,nd,h1,h2,hk=>by
   show bindC kindOf ((p,w)::P.zip vs) m x=_
   unfold bindC
   exact Av (i:=i) (List.nodup_cons.mp nd).2 (by simpa using h1) (by simpa using h2) hk
def start (N:List Str) (vs:List V):St:=vs.map some++List.replicate (N.length - vs.length) none
def u5 (CX:HA) (P:Program) (w:World) (K:PySem.W.Frag) (mg:Str->Option Value) (base:Heap) (N:List Str) (qual:Str) (scope:Scope) (f:Addr) (cd:Value) (A:Around) (outer:List Env) (s:Shared) (H:Hp) (E:XK):Cx where
 prog:=P
 w:=w
 K:=K
 mg:=mg
 base:=base
 A:=A.deeper (envOfC qual scope s.heap.objs.size f cd)
 N:=N
 s₀ := s
 H₀ := H
 env:=envOfC qual scope s.heap.objs.size f cd
 outer:=outer
 stack:=envOfC qual scope s.heap.objs.size f cd::outer
 ex:=[]
 calm:=true
 fn:=λ _=>true
 pn:=[]
 xe:=λ e s'=>wpAny (model P w) (A.deeper (envOfC qual scope s.heap.objs.size f cd)) (leaving (envOfC qual scope s.heap.objs.size f cd) e) (λ _ s''=>CX outer H s E e s'') (λ e' s''=>CX outer H s E e' s'') s'
theorem CW {sc:Scope} {n:Nat} {x:Str} (h:sc.names.lookup x=some .cell) : ∃ c,(cellsFrom n sc.names []).lookup x=some c:=by
 have q:=PySem.W.cellsFrom_some sc.names n [] (.inl h)
 exact Option.isSome_iff_exists.mp q
theorem HB {CX:HA} {P:Program} {w:World} {K:PySem.W.Frag} {mg:Str->Option Value} {base:Heap} {N ps:List Str} {qual:Str} {scope:Scope} {f:Addr} {cd:Value} {A:Around} {outer:List Env} {s s1:Shared} {H:Hp} {E:XK} {us:List Value} {vs:List V}
  (S:aD N ps scope) (hd:A.handled=none) (e0:Ez P w K mg base A outer s H) (hl:vs.length=ps.length) (r:Vals vs us)
  (x:InCallC s s.heap.objs.size (bindL (envOfC qual scope s.heap.objs.size f cd).kindOf (ps.zip us) λ _=>none) (cellsFrom (s.heap.objs.size+1) scope.names []) (bindC (envOfC qual scope s.heap.objs.size f cd).kindOf (ps.zip us) λ _=>none) s1) :
  Inv (u5 CX P w K mg base N qual scope f cd A outer s H E) [] (start N vs) H s1:=by
 have hpl:ps.length<=N.length:=by have:=congrArg List.length S.pre;rw [List.length_take] at this;omega
 obtain ⟨h1,tk,rfl,hk⟩:=x.done
 have SW : ∀ b:Addr,b ∉ (u5 CX P w K mg base N qual scope f cd A outer s H E).ex:=λ b z=>absurd (show b∈([]:List Addr) from z) (by simp)
 refine ⟨⟨e0.mod,S.kind,rfl,rfl,Nat.le_refl _,λ y z c h1 h2 => ?_,λ y hy => ?_,λ y c _ h => ?_,λ _=>hd,Around.frames_deeper e0.frames,.inr ⟨rfl,rfl⟩,λ b z=>absurd z (SW b),e0.bs,e0.Jw,λ b _ _=>SW b,λ b z=>absurd z (SW b),e0.oU,e0.MR⟩,
  rfl,e0.bare,Un.kept hk,⟨_,x.toInCall.ns,λ i y v h1 h2 h3 => ?_⟩,λ y c h=>⟨_,x.cell y c h⟩,e0.hok.fresh (Nat.le_refl _),λ y c h => ?_,λ p hp=>absurd (show p∈([]:List (Addr×Obj)) from hp) (by simp),e0.hok.kept hk,?_⟩
 ·exact name_of_addr x.apart (PySem.mem_of_lookup h1) (PySem.mem_of_lookup h2)
 ·have hy:scope.names.lookup y=some .cell\/scope.names.lookup y=some .free:=hy
  rcases hy with hy | hy
  ·exact CW hy
  ·exact absurd rfl (S.Qp _ (PySem.mem_of_lookup hy))
 ·exact Nat.le_of_lt (x.above y c (PySem.mem_of_lookup h))
 ·have hi:i < vs.length:=by
   unfold start at h2
   by_cases hi:i < vs.length
   ·exact hi
   ·rw [List.getElem?_append_right (by simpa using hi)] at h2
    rw [List.getElem?_replicate] at h2
    split at h2 <;> cases h2
  have ha:vs[i]? = some v:=by
   unfold start at h2
   rw [List.getElem?_append_left (by simpa using hi),List.getElem?_map] at h2
   cases e:vs[i]? with
   | none=>rw [e] at h2;cases h2
   | some a=>rw [e] at h2;cases h2;rfl
  obtain ⟨u,hu,rv⟩:=r.get ha
  have hp:ps[i]? = some y:=by
   rw [<-S.pre,List.getElem?_take_of_lt (by omega)];exact h1
  have ndP:ps.Nodup:=by rw [<-S.pre];exact S.nd.sublist (List.take_sublist _ _)
  refine ⟨u,rv,?_⟩
  rcases S.par y (List.mem_of_getElem? hp) with k | k
  ·exact .inl ⟨k,Au ndP hp hu k⟩
  ·obtain ⟨c,e⟩:=CW (n:=s.heap.objs.size+1) k
   refine .inr ⟨.inl k,c,e,?_⟩
   have q:=x.cell y c e
   rw [Av ndP hp hu (by show scope.names.lookup y≠_;rw [k];decide)] at q
   exact q
 ·exact e0.hok.fresh (Nat.le_of_lt (x.above y c (PySem.mem_of_lookup h)))
 ·unfold start
  show _=N.length
  rw [List.length_append,List.length_map,List.length_replicate]
  omega
theorem Aw {CX:HA} {P:Program} {w:World} {K:PySem.W.Frag} {mg:Str->Option Value} {base:Heap} {k:Nat} {f:Addr} {name qual:Str} {params:Arguments} {body:List Stmt} {scope:Scope} {dV kV doc pm cdv ct oc:Value} {an od:Option Addr}
  {osl:Array (Option Value)} {N ps:List Str} {sp:Sp} (lk:K.lookup f=some ⟨oc,od,.func (PySem.W.fnOf name qual params body scope dV kV doc pm an cdv ct),osl⟩) (hcd:PySem.W.codeIn K cdv qual=true) (S:aD N ps scope)
  (len : ∀ vs H Q E,sp vs H Q E->vs.length=ps.length)
  (hbody : ∀ (A:Around) (outer:List Env) (s:Shared) (H:Hp) (vs:List V) (Q:VK) (E:XK),cZ k (A.deeper (envOfC qual scope s.heap.objs.size f cdv))->sp vs H Q E →
   ∃ t,A4 (u5 CX P w K mg base N qual scope f cdv A outer s H E) body t/\t { nx:=λ _ H'=>Q .aI H',rt:=Q } (start N vs) H) :
  gq P w K mg base CX (k+1) f (PySem.W.fnOf name qual params body scope dV kV doc pm an cdv ct) ps sp:=by
 refine ⟨len,λ A outer s H args us vs Q E hr e0 hb r Ei => ?_⟩
 have hl:=len _ _ _ _ Ei
 have KX:K.In s.heap:=e0.mod.R8.keeps λ b o e=>(e0.bs b o e).1
 have lim:s.heap.NoLimit:=e0.mod.nolimit.keeps λ b o e=>(e0.bs b o e).1
 have hkind : ∀ y∈ps.zip us,scope.names.lookup y.1=some .local\/(scope.names.lookup y.1=some .cell/\((cellsFrom (s.heap.objs.size+1) scope.names []).lookup y.1).isSome=true):=λ ⟨n,v⟩ hy=>by
  rcases S.par n (List.of_mem_zip hy).1 with q | q
  ·exact .inl q
  ·exact .inr ⟨q,PySem.W.cellsFrom_some _ _ _ (.inl q)⟩
 refine codeAny_call_function hr.depth (KX _ _ lk) rfl S.co S.gen rfl (PySem.W.codeRec_of KX hcd) (hb _ _ _ _ ?_)
 refine wpAny_newFunctionEnv_cells S.kind hkind λ env he s1 x => ?_
 subst he
 refine ⟨lim.keeps x.toInCall.keep,codeAny_func ?_⟩
 obtain ⟨t,ht,hq⟩:=hbody A outer s H vs Q E (hr.deeper _) Ei
 have I:Inv (u5 CX P w K mg base N qual scope f cdv A outer s H E) [] (start N vs) H s1:=HB S hr.hd e0 hl r x
 refine wpAny_mono (ht [] s1 (start N vs) H _ I hq) (λ fl s' hs => ?_) λ e s' hs=>hs
 have fin : ∀ {σ':St} {H':Hp} {v:V} {u:Value},Inv (u5 CX P w K mg base N qual scope f cdv A outer s H E) [] σ' H' s'->RelV v u->Q v H'->CE outer P w H s Q u s' :=
  fun {σ' H' v u} J rv q=>⟨v,H',J.os,J.bare,J.base,J.hok,rv,q⟩
 cases fl with
 | ret u =>
   obtain ⟨v,σ',H',J,rv,q⟩:=hs
   exact fin J rv q
 | next =>
   obtain ⟨σ',H',J,q⟩:=hs
   exact fin (v:=V.aI) (u:=Value.none) J rfl q
 | brk =>
   obtain ⟨_,_,_,q⟩:=hs
   exact False.elim q
 | cont =>
   obtain ⟨_,_,_,q⟩:=hs
   exact False.elim q
end L2
namespace L2
open PySem PySem.Spec PyProof.Rows
section
variable {X:Cx} {x:Str} {p pos:Pos} {e:Expr} {es:List Expr} {t:TA} {id T:String} {r:List V->Hp->VK->Prop}
def SX (r:List V->Hp->VK->Prop) (t:TA):TE:=fun σ H Q=>t σ H λ vs H1=>r vs H1 Q
theorem aJ (hc:kM X (.builtin id) r) (hg:Gl X x) (hm:X.mg x=none) (hv:bootBuiltins x=some (.builtin id)) (ha:PA X (e::es) t) (hn:x ≠ "__name__" := by decide) (hdb:(x == ("__debug__" : Str))=false:=by decide)
  (he:starEach (e::es) X.env=(false,eval e X.env)::starEach es X.env:=by rfl) (hpl:(backTo pos (starEach es X.env)).any (·.1)=false:=by rfl):PE X (.Call (.Name x p) (e::es) [] pos) (SX r t):=by
 intro pins s σ H Q I h
 refine wpAny_Call_Name_kw (A5 I hg hm hv ?_ hn hdb)
 exact PyProof.Rows.callWith_builtin1 (ck (ha pos pins s σ H _ I h) λ us s1 ⟨vs,H1,I1,r1,q1⟩=>hc pins s1 σ H1 vs us Q I1 r1 q1) he hpl
theorem bh (hc:kM X (.type T) r) (hg:Gl X x) (hm:X.mg x=none) (hv:bootBuiltins x=some (.type T)) (ha:PA X (e::es) t) (hn:x ≠ "__name__" := by decide) (hdb:(x == ("__debug__" : Str))=false:=by decide)
  (he:starEach (e::es) X.env=(false,eval e X.env)::starEach es X.env:=by rfl) (hpl:(backTo pos (starEach es X.env)).any (·.1)=false:=by rfl):PE X (.Call (.Name x p) (e::es) [] pos) (SX r t):=by
 intro pins s σ H Q I h
 refine wpAny_Call_Name_kw (A5 I hg hm hv ?_ hn hdb)
 exact PyProof.Rows.callWith_type1 (ck (ha pos pins s σ H _ I h) λ us s1 ⟨vs,H1,I1,r1,q1⟩=>hc pins s1 σ H1 vs us Q I1 r1 q1) he hpl
end
end L2
namespace L2
open PySem PySem.Spec PyProof.Rows
section
variable {κ : Type} [DecidableEq κ]
def bB (kvs:List (κ × V)) (k : κ):Option V:=(kvs.find? λ kv=>decide (kv.1=k)).map (·.2)
def putK (kvs:List (κ × V)) (k : κ) (v:V):List (κ × V) :=
 if (kvs.any λ kv=>decide (kv.1=k))=true then kvs.map (λ kv=>if kv.1=k then (kv.1,v) else kv) else kvs++[(k,v)]
def dI (kvs:List (κ × V)) (k : κ):List (κ × V):=kvs.filter λ kv=>decide (kv.1≠k)
theorem bQ {p : κ × V} {r:List (κ × V)} {k : κ} (e:p.1=k):bB (p::r) k=some p.2:=by simp [bB,List.find?_cons,e]
theorem bC {p : κ × V} {r:List (κ × V)} {k : κ} (e : ¬ p.1=k):bB (p::r) k=bB r k:=by simp [bB,List.find?_cons,e]
theorem c6 (k : κ) : ∀ kvs:List (κ × V),(kvs.any λ kv=>decide (kv.1=k))=(bB kvs k).isSome
 | []=>rfl
 | p::r=>by
   rw [List.any_cons]
   by_cases e:p.1=k
   ·simp only [bQ e,decide_eq_true e,Bool.true_or,Option.isSome_some]
   ·rw [bC e,decide_eq_false e,Bool.false_or];exact c6 k r
theorem CY (k j : κ) (y:V) : ∀ kvs:List (κ × V),bB (kvs.map λ kv=>if kv.1=k then (kv.1,y) else kv) j=(bB kvs j).map λ x=>if j=k then y else x
 | []=>rfl
 | p::r=>by
   have ih:=CY k j y r
   rw [List.map_cons]
   by_cases h:p.1=k
   ·rw [if_pos h]
    by_cases e:p.1=j
    ·rw [bQ (p:=(p.1,y)) e,bQ e,Option.map_some,if_pos (e.symm.trans h)]
    ·rw [bC (p:=(p.1,y)) e,bC e,ih]
   ·rw [if_neg h]
    by_cases e:p.1=j
    ·rw [bQ (p:=p) e,bQ e,Option.map_some,if_neg (λ z=>h (e.trans z))]
    ·rw [bC (p:=p) e,bC e,ih]
theorem Ax (k j : κ) (y:V) : ∀ kvs:List (κ × V),bB kvs k=none->bB (kvs++[(k,y)]) j=if j=k then some y else bB kvs j
 | [],_=>by
   by_cases e:k=j
   ·rw [if_pos e.symm];exact bQ (p:=(k,y)) e
   ·rw [if_neg (λ z=>e z.symm)];exact bC (p:=(k,y)) e
 | p::r,hn=>by
   rw [List.cons_append]
   have hk : ¬ p.1=k:=λ z=>by rw [bQ z] at hn;cases hn
   rw [bC hk] at hn
   have ih:=Ax k j y r hn
   by_cases e:p.1=j
   ·rw [bQ e,bQ e,if_neg (λ z=>hk (e.trans z))]
   ·rw [bC e,bC e,ih]
theorem JY (kvs:List (κ × V)) (k j : κ) (y:V):bB (putK kvs k y) j=if j=k then some y else bB kvs j:=by
 unfold putK
 by_cases a:(kvs.any λ kv=>decide (kv.1=k))=true
 ·rw [if_pos a,CY]
  rw [c6] at a
  by_cases e:j=k
  ·obtain ⟨x,hx⟩:=Option.isSome_iff_exists.mp a
   rw [if_pos e,e,hx,Option.map_some,if_pos rfl]
  ·rw [if_neg e]
   cases bB kvs j with
   | none=>rfl
   | some x=>rw [Option.map_some,if_neg e]
 ·rw [if_neg a]
  refine Ax k j y kvs ?_
  rw [c6] at a
  cases q:bB kvs k with
  | none=>rfl
  | some x=>rw [q] at a;exact (a rfl).elim
theorem kN (kvs:List (κ × V)) (k : κ) (v:V):(putK kvs k v).length<=kvs.length+1:=by
 unfold putK
 split
 ·rw [List.length_map];omega
 ·rw [List.length_append,List.length_cons,List.length_nil];omega
theorem CZ {kvs:List (κ × V)} {k : κ} (v:V) (h:bB kvs k=none):putK kvs k v=kvs++[(k,v)]:=by
 unfold putK
 rw [c6,h]
 exact if_neg (by decide)
theorem jB.gP {o:Option V} {u:Option Value} (r:jB o u):o.isSome=u.isSome:=by
 cases o with
 | none=>cases u with
   | none=>rfl
   | some _=>exact (show False from r).elim
 | some _=>cases u with
   | none=>exact (show False from r).elim
   | some _=>rfl
theorem jB.getD {o:Option V} {u:Option Value} {d:V} {d':Value} (r:jB o u) (rd:RelV d d'):RelV (o.getD d) (u.getD d'):=by
 cases o with
 | none=>cases u with
   | none=>exact rd
   | some _=>exact (show False from r).elim
 | some _=>cases u with
   | none=>exact (show False from r).elim
   | some _=>exact r
theorem KV.val {kvs:List (κ × V)} {vs:List (κ × Value)} (r:KV kvs vs) (k : κ):jB (bB kvs k) (valueAt vs k):=by
 unfold KV at r
 induction r with
 | nil=>exact True.intro
 | @cons p q ps qs h t ih =>
   obtain ⟨h1,h2⟩:=h
   by_cases e:p.1=k
   ·have e':q.1=k:=h1.symm.trans e
    have b:valueAt (q::qs) k=some q.2:=by simp [valueAt,List.find?_cons,e']
    rw [bQ e,b];exact h2
   ·have e' : ¬ q.1=k:=λ z=>e (h1.trans z)
    have b:valueAt (q::qs) k=valueAt qs k:=by simp [valueAt,List.find?_cons,e']
    rw [bC e,b];exact ih
theorem KV.any {kvs:List (κ × V)} {vs:List (κ × Value)} (r:KV kvs vs) (k : κ):(kvs.any λ kv=>decide (kv.1=k))=vs.any λ kv=>decide (kv.1=k):=by
 unfold KV at r
 induction r with
 | nil=>rfl
 | cons h t ih=>rw [List.any_cons,List.any_cons,ih,h.1]
theorem KV.repl {kvs:List (κ × V)} {vs:List (κ × Value)} (r:KV kvs vs) (k : κ) {y:V} {u:Value} (ry:RelV y u) :
  KV (kvs.map λ kv=>if kv.1=k then (kv.1,y) else kv) (vs.map λ kv=>if kv.1=k then (kv.1,u) else kv):=by
 unfold KV at r ⊢
 induction r with
 | nil=>exact .nil
 | @cons p q ps qs h t ih =>
   rw [List.map_cons,List.map_cons]
   refine .cons ?_ ih
   obtain ⟨h1,h2⟩:=h
   by_cases e:p.1=k
   ·rw [if_pos e,if_pos (h1.symm.trans e)];exact ⟨h1,ry⟩
   ·rw [if_neg e,if_neg (λ z=>e (h1.trans z))];exact ⟨h1,h2⟩
theorem KV.put {kvs:List (κ × V)} {vs:List (κ × Value)} (r:KV kvs vs) (k : κ) {y:V} {u:Value} (ry:RelV y u):KV (putK kvs k y) (stored vs k u):=by
 unfold putK stored
 rw [r.any k]
 by_cases e:(vs.any λ kv=>decide (kv.1=k))=true
 ·rw [if_pos e,if_pos e];exact r.repl k ry
 ·rw [if_neg e,if_neg e];exact Paired.snoc r ⟨rfl,ry⟩
theorem KV.drop {kvs:List (κ × V)} {vs:List (κ × Value)} (r:KV kvs vs) (k : κ):KV (dI kvs k) (without vs k):=by
 unfold KV at r ⊢
 unfold dI without
 induction r with
 | nil=>exact .nil
 | @cons p q ps qs h t ih =>
   obtain ⟨h1,h2⟩:=h
   rw [List.filter_cons,List.filter_cons]
   by_cases e:p.1=k
   ·have a : ¬ decide (p.1≠k)=true:=by simp [e]
    have b : ¬ decide (q.1≠k)=true:=by simp [h1.symm.trans e]
    rw [if_neg a,if_neg b];exact ih
   ·have e' : ¬ q.1=k:=λ z=>e (h1.trans z)
    have a:decide (p.1≠k)=true:=by simp [e]
    have b:decide (q.1≠k)=true:=by simp [e']
    rw [if_pos a,if_pos b];exact .cons ⟨h1,h2⟩ ih
theorem KV.keys {kvs:List (κ × V)} {vs:List (κ × Value)} (r:KV kvs vs):kvs.map (·.1)=vs.map (·.1):=by
 unfold KV at r
 induction r with
 | nil=>rfl
 | cons h t ih=>rw [List.map_cons,List.map_cons,ih,h.1]
theorem KV.length {kvs:List (κ × V)} {vs:List (κ × Value)} (r:KV kvs vs):kvs.length=vs.length:=Paired.length r
theorem u6 (kvs:List (κ × V)) (k : κ):(dI kvs k).length<=kvs.length:=List.length_filter_le _ _
end
theorem u7 {P:Program} {w:World} {k:Key} {u:Value} (r:RelV (kV k) u):(cj P w).is k u=true:=by
 cases k with
 | inl i=>obtain ⟨t,e⟩:=(show ∃ t,u=Value.int i t from r);subst e;exact CP P w i t
 | inr x=>obtain ⟨t,e⟩:=(show ∃ t,u=Value.str x t from r);subst e;exact CQ P w x t
theorem Ay {P:Program} {w:World} : ∀ {ks:List Key} {us:List Value},Vals (ks.map kV) us->ItemsAre (cj P w) ks us
 | [],_,r=>by rw [List.map_nil] at r;cases r;exact .nil
 | k::ks,_,r=>by
   rw [List.map_cons] at r
   cases r with
   | cons h t=>exact .cons (u7 h) (Ay t)
abbrev KT (H:Hp):List (List Key×V)->List (List Key×Addr×Value)->Prop:=Paired λ p q=>p.1=q.1/\H q.2.1=some (.tup (p.1.map kV))/\RelV p.2 q.2.2
theorem KT.val {H:Hp} {kvs:List (List Key×V)} {xs:List (List Key×Addr×Value)} (r:KT H kvs xs) (k:List Key):jB (bB kvs k) ((atKey xs k).map (·.2)):=by
 induction r with
 | nil=>exact True.intro
 | @cons p q ps qs h t ih =>
   obtain ⟨h1,_,h2⟩:=h
   by_cases e:p.1=k
   ·have e':q.1=k:=h1.symm.trans e
    have b:atKey (q::qs) k=some q.2:=by simp [atKey,List.find?_cons,e']
    rw [bQ e,b];exact h2
   ·have e' : ¬ q.1=k:=λ z=>e (h1.trans z)
    have b:atKey (q::qs) k=atKey qs k:=by simp [atKey,List.find?_cons,e']
    rw [bC e,b];exact ih
theorem KT.repl {H:Hp} {kvs:List (List Key×V)} {xs:List (List Key×Addr×Value)} (r:KT H kvs xs) (k:List Key) {y:V} {u:Value} (ry:RelV y u) :
  KT H (kvs.map λ kv=>if kv.1=k then (kv.1,y) else kv) (xs.map (putAt k u)):=by
 induction r with
 | nil=>exact .nil
 | @cons p q ps qs h t ih =>
   rw [List.map_cons,List.map_cons]
   refine .cons ?_ ih
   obtain ⟨h1,h2,h3⟩:=h
   unfold putAt
   by_cases e:p.1=k
   ·rw [if_pos e,if_pos (h1.symm.trans e)];exact ⟨h1,h2,ry⟩
   ·rw [if_neg e,if_neg (λ z=>e (h1.trans z))];exact ⟨h1,h2,h3⟩
theorem KT.put {H:Hp} {kvs:List (List Key×V)} {xs:List (List Key×Addr×Value)} (r:KT H kvs xs) (k:List Key) {b:Addr} {y:V} {u:Value} (hb:H b=some (.tup (k.map kV))) (ry:RelV y u) :
  KT H (putK kvs k y) (storedH xs k b u):=by
 have e:(kvs.any λ kv=>decide (kv.1=k))=(atKey xs k).isSome:=by
  rw [c6,(r.val k).gP,Option.isSome_map]
 unfold putK storedH
 rw [e]
 by_cases q:(atKey xs k).isSome=true
 ·rw [if_pos q,if_pos q];exact r.repl k ry
 ·rw [if_neg q,if_neg q];exact Paired.snoc r ⟨rfl,hb,ry⟩
theorem KT.keeps {H H':Hp} {kvs:List (List Key×V)} {xs:List (List Key×Addr×Value)} (r:KT H kvs xs) (ht : ∀ b ys,H b=some (.tup ys)->H' b=some (.tup ys)):KT H' kvs xs :=
 Paired.PX r λ _ _ z=>⟨z.1,ht _ _ z.2.1,z.2.2⟩
section
variable {P:Program} {w:World} {H:Hp} {h:Heap} {a:Addr}
theorem OU {u:HO} (ok:j9 P w H h) (e:Rd H a u):bU P w H h a u:=e.ok ok
theorem u9 {kvs:List (Key×V)} (ok:j9 P w H h) (e:Rd H a (.dK kvs)):kvs.length<=sizeLine/\(a == sysModules)=false ∧ ∃ vs,KV kvs vs/\h.DictOf (cj P w) a vs :=
 show bU P w H h a (.dK kvs) from OU ok e
theorem JZ {kvs:List (Key×V)} (ok:j9 P w H h) (e:H a=some (.dK kvs)):kvs.length<=sizeLine/\(a == sysModules)=false ∧ ∃ vs,KV kvs vs/\h.DictOf (cj P w) a vs:=u9 ok (.inl e)
theorem vc {ks:List Key} (ok:j9 P w H h) (e:H a=some (.tup (ks.map kV))):(tupleKind (cj P w)).is h ks a:=by
 obtain ⟨_,its,r,o,h1,h2,n,h3⟩:=(show bU P w H h a (.tup (ks.map kV)) from ok a _ e)
 exact ⟨o,its.toArray,n,h1,h2,h3,by simpa using Ay r⟩
theorem Az {kvs:List (List Key×V)} (ok:j9 P w H h) (e:Rd H a (.dT kvs)):kvs.length<=sizeLine/\(a == sysModules)=false ∧
  ∃ xs,KT H kvs xs/\h.DictOfH (tupleKind (cj P w)) a xs:=by
 obtain ⟨z,y,xs,r,o,es,ep,h1,h2,h3,h4,h5⟩:=(show bU P w H h a (.dT kvs) from OU ok e)
 refine ⟨z,y,xs,r,o,es,ep,h1,h2,h3,h4,λ x hx => ?_,h5⟩
 have all : ∀ {l:List (List Key×V)} {m:List (List Key×Addr×Value)},KT H l m->∀ x∈m,(tupleKind (cj P w)).is h x.1 x.2.1:=by
  intro l m q
  induction q with
  | nil=>intro x hx;exact nomatch hx
  | @cons p q ps qs hq t ih =>
    intro x hx
    rcases List.mem_cons.mp hx with e | hx
    ·subst e
     exact vc ok (by rw [<-hq.1];exact hq.2.1)
    ·exact ih x hx
 exact all r x hx
theorem OV {kvs:List (List Key×V)} (ok:j9 P w H h) (e:H a=some (.dT kvs)):kvs.length<=sizeLine/\(a == sysModules)=false ∧
  ∃ xs,KT H kvs xs/\h.DictOfH (tupleKind (cj P w)) a xs:=Az ok (.inl e)
end
def gu (H:Hp) (a:Addr) (y:V) (r:Option V):Prop :=
 (∃ kvs k,Rd H a (.dK kvs)/\y=kV k/\r=bB kvs k) ∨ ∃ kvs k b,Rd H a (.dT kvs)/\y = .ref b/\H b=some (.tup (k.map kV))/\r=bB kvs k
def nM (H:Hp) (a:Addr) (y v:V) (H':Hp):Prop :=
 (∃ kvs k,H a=some (.dK kvs)/\y=kV k/\kvs.length < sizeLine/\H' = upd H a (.dK (putK kvs k v))) ∨
 ∃ kvs k b,H a=some (.dT kvs)/\y = .ref b/\H b=some (.tup (k.map kV))/\kvs.length < sizeLine/\H' = upd H a (.dT (putK kvs k v))
theorem gu.k {H:Hp} {a:Addr} {kvs:List (Key×V)} {k:Key} (e:H a=some (.dK kvs)):gu H a (kV k) (bB kvs k) := .inl ⟨kvs,k,.inl e,rfl,rfl⟩
theorem gu.t {H:Hp} {a b:Addr} {kvs:List (List Key×V)} {k:List Key} (e:H a=some (.dT kvs)) (eb:H b=some (.tup (k.map kV))):gu H a (.ref b) (bB kvs k) := .inr ⟨kvs,k,b,.inl e,rfl,eb,rfl⟩
theorem nM.k {H:Hp} {a:Addr} {kvs:List (Key×V)} {k:Key} {v:V} (e:H a=some (.dK kvs)) (hl:kvs.length < sizeLine):nM H a (kV k) v (upd H a (.dK (putK kvs k v))) := .inl ⟨kvs,k,e,rfl,hl,rfl⟩
theorem nM.t {H:Hp} {a b:Addr} {kvs:List (List Key×V)} {k:List Key} {v:V} (e:H a=some (.dT kvs)) (eb:H b=some (.tup (k.map kV))) (hl:kvs.length < sizeLine) :
  nM H a (.ref b) v (upd H a (.dT (putK kvs k v))) := .inr ⟨kvs,k,b,e,rfl,eb,hl,rfl⟩
section
variable {X:Cx} {pins:List (Addr×Obj)} {σ : St} {H:Hp} {s:Shared} {a:Addr} {y v:V} {u r:Value} {o:Option V} {A:Around} {E:Value->Shared->Prop}
theorem Inv.big (I:Inv X pins σ H s):sysModules < s.heap.objs.size:=by
 have h:mainGlobals < s.heap.objs.size:=(I.mod.glob.keeps I.bk).lt
 exact Nat.lt_trans (by decide) h
theorem HC {Q:Value->Shared->Prop} (hu:A.units+1 < cLine) (I:Inv X pins σ H s) (g:gu H a y (some v)) (ry:RelV y u) (h : ∀ w' s',Inv X pins σ H s'->RelV v w'->Q w' s') :
  wpAny (model X.prog X.w) A (getItem (.ref a) u) Q E s:=by
 rcases g with ⟨kvs,k,e,ey,l⟩ | ⟨kvs,k,b,e,ey,eb,l⟩
 ·subst ey
  obtain ⟨z,hd,vs,rel,dd⟩:=u9 I.hok e
  obtain ⟨w',hw,rw'⟩:=jB.some_of (v:=v) (o:=valueAt vs k) (by rw [l];exact rel.val k)
  exact wpAny_getItem_of (u7 ry) dd.mapOf hw (h w' _ (I.tok _) rw')
 ·subst ey
  cases (show u=Value.ref b from ry)
  obtain ⟨z,hd,xs,rel,dd⟩:=Az I.hok e
  obtain ⟨w',hw,rw'⟩:=jB.some_of (v:=v) (o:=(atKey xs k).map (·.2)) (by rw [l];exact rel.val k)
  obtain ⟨p,hp,hp2⟩:=Option.map_eq_some_iff.mp hw
  refine wpAny_getItem_heap (tupleKind_room_in1 hu) (vc I.hok eb) dd hp ?_
  rw [hp2]
  exact h w' _ (I.tok _) rw'
theorem Wj {Q:Value->Shared->Prop} (hu:A.units+1 < cLine) (I:Inv X pins σ H s) (g:gu H a y o) (ry:RelV y u) (h : ∀ s',Inv X pins σ H s'->Q (.bool o.isSome) s') :
  wpAny (model X.prog X.w) A (compareOp .In u (.ref a)) Q E s:=by
 rcases g with ⟨kvs,k,e,ey,l⟩ | ⟨kvs,k,b,e,ey,eb,l⟩
 ·subst ey
  obtain ⟨z,hd,vs,rel,dd⟩:=u9 I.hok e
  refine wpAny_in_of (u7 ry) hd dd.mapOf ?_
  rw [<-(rel.val k).gP,<-l]
  exact h _ (I.tok _)
 ·subst ey
  cases (show u=Value.ref b from ry)
  obtain ⟨z,hd,xs,rel,dd⟩:=Az I.hok e
  refine wpAny_in_heap (tupleKind_room_in1 hu) (vc I.hok eb) hd dd ?_
  have q:=(rel.val k).gP
  rw [Option.isSome_map] at q
  rw [<-q,<-l]
  exact h _ (I.tok _)
theorem M7 {Q:Value->Shared->Prop} (hu:A.units+1 < cLine) (I:Inv X pins σ H s) (g:gu H a y o) (ry:RelV y u) (h : ∀ s',Inv X pins σ H s'->Q (.bool (!o.isSome)) s') :
  wpAny (model X.prog X.w) A (compareOp .NotIn u (.ref a)) Q E s:=by
 rcases g with ⟨kvs,k,e,ey,l⟩ | ⟨kvs,k,b,e,ey,eb,l⟩
 ·subst ey
  obtain ⟨z,hd,vs,rel,dd⟩:=u9 I.hok e
  refine wpAny_notIn_of (u7 ry) hd dd.mapOf ?_
  rw [<-(rel.val k).gP,<-l]
  exact h _ (I.tok _)
 ·subst ey
  cases (show u=Value.ref b from ry)
  obtain ⟨z,hd,xs,rel,dd⟩:=Az I.hok e
  refine wpAny_notIn_heap (tupleKind_room_in1 hu) (vc I.hok eb) hd dd ?_
  have q:=(rel.val k).gP
  rw [Option.isSome_map] at q
  rw [<-q,<-l]
  exact h _ (I.tok _)
theorem uM {h':Heap} {t':Nat} {ob:HO} (I:Inv X pins σ H s) (mu:Sw (H a)) (hs:Heap.SameBut a s.heap h') (he : ∃ q,h'.get? a=some q) (new:bU X.prog X.w (upd H a ob) h' a ob) :
  Inv X pins σ (upd H a ob) { s with heap:=h',toks:=t' } :=
 I.write (x:=a) (e:=a) mu (.inl rfl) (λ b q hb z=>(hs.2 b hb).trans z) he new
theorem EB {P:Program} {w:World} {H':Hp} {h':Heap} {kvs:List (Key×V)} {vs:List (Key×Value)} (z:kvs.length<=sizeLine) (hd:(a == sysModules)=false) (rel:KV kvs vs) (dd:h'.DictOf (cj P w) a vs) :
  bU P w H' h' a (.dK kvs):=⟨z,hd,vs,rel,dd⟩
theorem HD {H':Hp} {Q:Unit->Shared->Prop} (hu:A.units+1 < cLine) (I:Inv X pins σ H s) (g:nM H a y v H') (ry:RelV y u) (rv:RelV v r) (h : ∀ s',Inv X pins σ H' s'->Q () s') :
  wpAny (model X.prog X.w) A (setItem (.ref a) u r) Q E s:=by
 rcases g with ⟨kvs,k,e,ey,l,eH⟩ | ⟨kvs,k,b,e,ey,eb,l,eH⟩
 ·subst ey eH
  obtain ⟨z,hd,vs,rel,dd⟩:=JZ I.hok e
  have hz:vs.length<=sizeLine:=by rw [<-rel.length];exact z
  have hl:(putK kvs k v).length<=sizeLine:=by have:=kN kvs k v;omega
  refine wpAny_setItem_pairs (hsz:=hz) (u7 ry) dd λ h' MI hs=>h _ ?_
  have he : ∃ q,h'.get? a=some q:=let ⟨q,_,_,hq,_⟩:=MI; ⟨q,hq⟩
  exact uM I (by rw [e];exact True.intro) hs he (EB hl hd (rel.put k rv) MI)
 ·subst ey eH
  cases (show u=Value.ref b from ry)
  obtain ⟨z,hd,xs,rel,dd⟩:=OV I.hok e
  have hz:xs.length<=sizeLine:=by rw [<-Paired.length rel];exact z
  have hl:(putK kvs k v).length<=sizeLine:=by have:=kN kvs k v;omega
  refine wpAny_setItem_heap (hsz:=hz) (tupleKind_room_in1 hu) (vc I.hok eb) dd λ h' MI hs=>h _ ?_
  obtain ⟨q,es,ep,hq,h2,h3,h4,_,h5⟩:=MI
  refine uM I (by rw [e];exact True.intro) hs ⟨q,hq⟩ ⟨hl,hd,_,(rel.put k eb rv).keeps λ c ys ec => ?_,q,es,ep,hq,h2,h3,h4,h5⟩
  rw [bZ (Sv ec e (λ z=>nomatch z))]
  exact ec
end
section
variable {X:Cx} {pins:List (Addr×Obj)} {σ : St} {H:Hp} {s:Shared} {a:Addr} {kvs:List (Key×V)} {k:Key} {u:Value} {A:Around} {E:Value->Shared->Prop}
theorem Sb {Q:Unit->Shared->Prop} (I:Inv X pins σ H s) (e:H a=some (.dK kvs)) (ry:RelV (kV k) u) (l:(bB kvs k).isSome=true) (h : ∀ s',Inv X pins σ (upd H a (.dK (dI kvs k))) s'->Q () s') :
  wpAny (model X.prog X.w) A (delItem (.ref a) u) Q E s:=by
 obtain ⟨z,hd,vs,rel,dd⟩:=JZ I.hok e
 refine wpAny_delItem_slot dd.typeIs (by decide) PySem.F.slot_dict_delitem
  (call_meetsIn PySem.F.slot_dict_delitem dd.typeIs PySem.F.entry_dict_delitem (PySem.F.args_dict_delitem_2 _ _) (meets_dict_delitem_pairs (cj X.prog X.w) a (u7 ry)) ⟨vs,dd,by rw [<-rel.length];exact z,by rw [<-(rel.val k).gP];exact l,λ h' MI hs=>h _ ?_⟩)
 have he : ∃ q,h'.get? a=some q:=let ⟨q,_,_,hq,_⟩:=MI; ⟨q,hq⟩
 exact uM I (by rw [e];exact True.intro) hs he (EB (Nat.le_trans (u6 kvs k) z) hd (rel.drop k) MI)
theorem SY {v:V} {more:List Value} {Q:Value->Shared->Prop} (I:Inv X pins σ H s) (e:H a=some (.dK kvs)) (ry:RelV (kV k) u) (l:bB kvs k=some v) (hm:more = [] ∨ ∃ x,more = [x])
  (h : ∀ w' s',Inv X pins σ (upd H a (.dK (dI kvs k))) s'->RelV v w'->Q w' s'):wpAny (model X.prog X.w) A (call (.builtin "dict.pop") (.ref a::u::more)) Q E s:=by
 obtain ⟨z,hd,vs,rel,dd⟩:=JZ I.hok e
 obtain ⟨w',hw,rw'⟩:=jB.some_of (v:=v) (o:=valueAt vs k) (by rw [<-l];exact rel.val k)
 have hp:(keyPart u).isSome=true:=by
  cases k with
  | inl i=>obtain ⟨t,q⟩:=(show ∃ t,u=Value.int i t from ry);subst q;rfl
  | inr x=>obtain ⟨t,q⟩:=(show ∃ t,u=Value.str x t from ry);subst q;rfl
 have ha:argsOk "dict.pop" ⟨.ref a::u::more,[]⟩:=by
  rcases hm with q | ⟨x,q⟩
  ·subst q;exact PySem.F.args_dict_pop_2 _ _
  ·subst q;exact PySem.F.args_dict_pop_3 _ _ _
 refine call_meetsIn PySem.F.slot_dict_pop dd.typeIs PySem.F.entry_dict_pop ha (meets_dict_pop_there (cj X.prog X.w) a (u7 ry) more hm hp)
  ⟨vs,w',dd,by rw [<-rel.length];exact z,hw,λ h' MI hs=>h w' _ ?_ rw'⟩
 have he : ∃ q,h'.get? a=some q:=let ⟨q,_,_,hq,_⟩:=MI; ⟨q,hq⟩
 exact uM I (by rw [e];exact True.intro) hs he (EB (Nat.le_trans (u6 kvs k) z) hd (rel.drop k) MI)
theorem S5 {Q:Value->Shared->Prop} (I:Inv X pins σ H s) (e:Rd H a (.dK kvs)) (h : ∀ t s',Inv X pins σ H s'->Q (.int kvs.length t) s'):wpAny (model X.prog X.w) A (call (.builtin "len") [.ref a]) Q E s:=by
 obtain ⟨z,hd,vs,rel,dd⟩:=u9 I.hok e
 refine call_len_dict hd dd (by rw [<-rel.length];rw [sizeLine_eq] at z;omega) ?_
 rw [<-rel.length]
 exact h _ _ (I.tok _)
end
def S6 (i:Expr):Prop := ∀ ov iv,subscripted i false ov iv=operate [ov,iv] (getItem ov iv)
theorem M8 {prog:Program} {w:World} {A:Around} {E:Value->Shared->Prop} {s:Shared} {env:Env} {value slice:Expr} {pos:Pos} {T id:String} {Q:Value->Shared->Prop}
  (hl:typeLookup (.type T) "__getitem__" = pure (some (.builtin id))) (hs:S6 slice)
  (h:wpAny (model prog w) A (eval value env) (λ o s₁ => wpAny (model prog w) A (eval slice env) (λ i s₂ => s₂.TypeIs o T/\wpAny (model prog w) A (getItem o i) Q E s₂) E s₁) E s) :
  wpAny (model prog w) A (eval (.Subscript value slice pos) env) Q E s:=by
 refine Subscript_ (wpAny_mono h (λ o s₁ h₁ => wpAny_mono h₁ (λ i s₂ h₂ => ?_) λ _ _ x=>x) λ _ _ x=>x)
 obtain ⟨hT,h₂⟩:=h₂
 unfold subscriptTail
 refine wpAny_bind ?_
 rw [getitemInPython_of_ne hT.not_modules]
 refine wpAny_bind (wpAny_specialOf hT hl ?_)
 have fin:wpAny (model prog w) A (subscripted slice false o i) (λ r s₃ => wpAny (model prog w) A (letTemporaryGo value o r >>= λ _=>pure r) Q E s₃) E s₂ := by
  rw [hs o i]
  exact wpAny_operating (wpAny_mono h₂ (λ r s₃ h₃ => wpAny_bind (wpAny_letTemporaryGo (wpAny_pure h₃))) λ _ _ x=>x)
 first
  | exact wpAny_pure (wpAny_bind fin)
  | exact wpAny_bind (wpAny_pure (wpAny_bind fin))
  | exact wpAny_bind fin
theorem C0 {X:Cx} {pins:List (Addr×Obj)} {σ : St} {H:Hp} {s:Shared} {a:Addr} {y:V} {o:Option V} (I:Inv X pins σ H s) (g:gu H a y o):s.TypeIs (.ref a) "dict" := by
 rcases g with ⟨kvs,k,e,_,_⟩ | ⟨kvs,k,b,e,_,_,_⟩
 ·obtain ⟨_,_,vs,_,dd⟩:=u9 I.hok e
  exact dd.typeIs
 ·obtain ⟨_,_,xs,_,dd⟩:=Az I.hok e
  exact dd.typeIs
def J0 (td ty:TE):TE:=fun σ H Q=>td σ H λ x H1=>ty σ H1 λ y H2 => ∃ a v,x = .ref a/\gu H2 a y (some v)/\Q v H2
def Qq (ty td:TE):TE:=fun σ H Q=>ty σ H λ y H1=>td σ H1 λ x H2 => ∃ a o,x = .ref a/\gu H2 a y o/\Q (.bl o.isSome) H2
def A7 (ty td:TE):TE:=fun σ H Q=>ty σ H λ y H1=>td σ H1 λ x H2 => ∃ a o,x = .ref a/\gu H2 a y o/\Q (.bl (!o.isSome)) H2
def J1 (td ty tv:TE):TS:=λ D σ H=>tv σ H λ v H1=>td σ H1 λ x H2=>ty σ H2 λ y H3 => ∃ a H4,x = .ref a/\nM H3 a y v H4/\D.nx σ H4
section
variable {X:Cx} {o i e value:Expr} {pos pos' tpos:Pos} {td ty tv:TE}
theorem iB (hu:X.A.units+1 < cLine) (ho:PE X o td) (hi:PE X i ty) (hs:S6 i):PE X (.Subscript o i pos) (J0 td ty):=by
 intro pins s σ H Q I h
 refine M8 PySem.F.slot_dict_getitem.lookup hs (ck (ho pins s σ H _ I h) λ u s1 ⟨x,H1,I1,rx,q1⟩=>ck (hi pins s1 σ H1 _ I1 q1) λ iv s2 ⟨y,H2,I2,ry,a,v,ex,g,q2⟩ => ?_)
 subst ex
 obtain rfl:u=Value.ref a:=rx
 exact ⟨C0 I2 g,HC hu I2 g ry λ w' s3 I3 rw'=>⟨v,H2,I3,rw',q2⟩⟩
theorem Qs (hu:X.A.units+1 < cLine) (hi:PE X i ty) (ho:PE X o td):PC X .In i o (Qq ty td):=by
 intro pins s σ H Q I h
 refine ck (hi pins s σ H _ I h) λ iv s1 ⟨y,H1,I1,ry,q1⟩=>ck (ho pins s1 σ H1 _ I1 q1) λ u s2 ⟨x,H2,I2,rx,a,ov,ex,g,q2⟩ => ?_
 subst ex
 obtain rfl:u=Value.ref a:=rx
 exact Wj hu I2 g ry λ s3 I3=>⟨.bl ov.isSome,H2,I3,rfl,q2⟩
theorem HE (hu:X.A.units+1 < cLine) (hi:PE X i ty) (ho:PE X o td):PC X .NotIn i o (A7 ty td):=by
 intro pins s σ H Q I h
 refine ck (hi pins s σ H _ I h) λ iv s1 ⟨y,H1,I1,ry,q1⟩=>ck (ho pins s1 σ H1 _ I1 q1) λ u s2 ⟨x,H2,I2,rx,a,ov,ex,g,q2⟩ => ?_
 subst ex
 obtain rfl:u=Value.ref a:=rx
 exact M7 hu I2 g ry λ s3 I3=>⟨.bl (!ov.isSome),H2,I3,rfl,q2⟩
theorem l8 (hu:X.A.units+1 < cLine) (ho:PE X o td) (hi:PE X i ty) (hv:PE X value tv) (hs:swapsWith value (some (.Subscript o i pos')) pos.line X.env=pure false) :
  PS X (.Assign [.Subscript o i pos'] value pos) (J1 td ty tv):=by
 intro pins s σ H D I h
 refine wpAny_Assign_Subscript (ck (hv pins s σ H _ I h) λ r s1 ⟨v,H1,I1,rv,q1⟩=>ck (ho pins s1 σ H1 _ I1 q1) λ u s2 ⟨x,H2,I2,rx,q2⟩=>ck (hi pins s2 σ H2 _ I2 q2) λ iv s3 ⟨y,H3,I3,ry,a,H4,ex,g,q3⟩ => ?_) hs
 subst ex
 obtain rfl:u=Value.ref a:=rx
 exact HD hu I3 g ry rv λ s4 I4=>⟨σ,H4,I4,q3⟩
end
theorem J2 {P:Program} {w:World} {H:Hp} (h:Heap) (hb:sysModules < h.objs.size):bU P w H (h.push { cls := .type "dict",data := .dict #[] }) h.objs.size (.dK []) :=
 ⟨Nat.zero_le _,beq_eq_false_iff_ne.mpr (Ne.symm (Nat.ne_of_lt hb)),[],.nil,Heap.DictOf.new h⟩
theorem J3 {P:Program} {w:World} {H:Hp} (h:Heap) (hb:sysModules < h.objs.size):bU P w H (h.push { cls := .type "dict",data := .dict #[] }) h.objs.size (.dT []) :=
 ⟨Nat.zero_le _,beq_eq_false_iff_ne.mpr (Ne.symm (Nat.ne_of_lt hb)),[],.nil,_,#[],0,Heap.get?_push_size _ rfl,⟨rfl,rfl,rfl⟩,rfl,rfl,List.nodup_nil⟩
def EC:TE:=λ _ H Q => ∀ p,H p=none->Q (.ref p) (upd H p (.dK []))
def Qt:TE:=λ _ H Q => ∀ p,H p=none->Q (.ref p) (upd H p (.dT []))
section
variable {X:Cx} {pos:Pos}
theorem vd:PE X (.Dict [] [] pos) EC:=λ pins s σ H Q I h =>
 wpAny_Dict_empty ⟨.ref s.heap.objs.size,_,I.laid (a:=s.heap.objs.size) (o := .dK []) (t':=s.toks) (λ _ _ q=>Heap.get?_push_of_some _ q) (Nat.le_refl _) (J2 s.heap I.big),rfl,h _ (I.hok.fresh (Nat.le_refl _))⟩
theorem J4:PE X (.Dict [] [] pos) Qt:=λ pins s σ H Q I h =>
 wpAny_Dict_empty ⟨.ref s.heap.objs.size,_,I.laid (a:=s.heap.objs.size) (o := .dT []) (t':=s.toks) (λ _ _ q=>Heap.get?_push_of_some _ q) (Nat.le_refl _) (J3 s.heap I.big),rfl,h _ (I.hok.fresh (Nat.le_refl _))⟩
end
structure M1 (X:Cx) (o:Expr) (m:Str) (apos:Pos) (e:Expr) (cpos:Pos):Prop where
 base:attributeBase o m X.env (eval o X.env)=eval o X.env
 few:((backTo cpos (starEach [e] X.env)).all (λ x => !x.1) && (backToKw cpos (keywordEach [] X.env)).all (λ x=>x.1.isSome)
  && decide (([e]:List Expr).length+([]:List Keyword).length+(if ([]:List Keyword).isEmpty then 0 else 1) < 30))=true
 line:(apos.endLine == cpos.line)=true
 trees:backTo cpos (starEach [e] X.env) = [(false,eval e X.env)]
structure M2 (X:Cx) (o:Expr) (m:Str) (apos:Pos) (e f:Expr) (cpos:Pos):Prop where
 base:attributeBase o m X.env (eval o X.env)=eval o X.env
 few:((backTo cpos (starEach [e,f] X.env)).all (λ x => !x.1) && (backToKw cpos (keywordEach [] X.env)).all (λ x=>x.1.isSome)
  && decide (([e,f]:List Expr).length+([]:List Keyword).length+(if ([]:List Keyword).isEmpty then 0 else 1) < 30))=true
 line:(apos.endLine == cpos.line)=true
 trees:backTo cpos (starEach [e,f] X.env) = [(false,eval e X.env),(false,eval f X.env)]
def Sd (H:Hp) (a:Addr):Prop:=(∃ kvs,Rd H a (.dK kvs)) ∨ ∃ kvs,Rd H a (.dT kvs)
theorem Qu {X:Cx} {pins:List (Addr×Obj)} {σ : St} {H:Hp} {s:Shared} {a:Addr} (I:Inv X pins σ H s) (d:Sd H a) :
  s.TypeIs (.ref a) "dict" ∧ (∀ b,Value.ref a = .ref b->∃ ob,s.heap.get? b=some ob/\ob.dict=none)/\(a == sysModules)=false:=by
 rcases d with ⟨kvs,e⟩ | ⟨kvs,e⟩
 ·obtain ⟨_,hd,vs,_,dd⟩:=u9 I.hok e
  refine ⟨dd.typeIs,λ b q => ?_,hd⟩
  cases q
  obtain ⟨ob,_,_,h1,h2,_⟩:=dd
  exact ⟨ob,h1,h2.2.1⟩
 ·obtain ⟨_,hd,xs,_,dd⟩:=Az I.hok e
  refine ⟨dd.typeIs,λ b q => ?_,hd⟩
  cases q
  obtain ⟨ob,_,_,h1,h2,_⟩:=dd
  exact ⟨ob,h1,h2.2.1⟩
section
variable {X:Cx} {pins:List (Addr×Obj)} {σ : St} {H:Hp} {s:Shared} {a:Addr} {y d:V} {u r:Value} {o:Option V} {A:Around} {E:Value->Shared->Prop}
end
def ED (td ty:TE):TE:=fun σ H Q=>td σ H λ x H1 => ∃ a,x = .ref a/\Sd H1 a/\ty σ H1 λ y H2 => ∃ kvs k v,H2 a=some (.dK kvs)/\y=kV k/\bB kvs k=some v/\Q v (upd H2 a (.dK (dI kvs k)))
section
variable {X:Cx} {o e f:Expr} {apos cpos:Pos} {td ty tx:TE}
theorem J5 (ho:PE X o td) (he:PE X e ty) (m:M1 X o "pop" apos e cpos):PE X (.Call (.Attribute o "pop" apos) [e] [] cpos) (ED td ty):=by
 intro pins s σ H Q I h
 refine wpAny_Call_method m.base m.few m.line PySem.F.plainAttrs_dict PySem.F.slot_dict_pop PySem.F.type_dict_pop (ck (ho pins s σ H _ I h) λ u s1 ⟨x,H1,I1,rx,a,ex,d,q1⟩ => ?_)
 subst ex
 obtain rfl:u=Value.ref a:=rx
 obtain ⟨t1,t2,_⟩:=Qu I1 d
 refine ⟨t1,t2,?_⟩
 rw [m.trees]
 refine Calls.callWith_builtin rfl (Calls.evalArgs_plain (Calls.spliced_cons (ck (he pins s1 σ H1 _ I1 q1) λ iv s2 ⟨y,H2,I2,ry,kvs,k,v,ea,ey,l,q2⟩=>Calls.spliced_nil ?_)))
 subst ey
 exact SY I2 ea ry l (.inl rfl) λ w' s3 I3 rw'=>⟨v,_,I3,rw',q2⟩
end
section
variable {X:Cx} {pins:List (Addr×Obj)} {σ : St} {H:Hp} {s:Shared} {a:Addr} {kvs:List (Key×V)} {A:Around} {E:Value->Shared->Prop}
end
section
variable {X:Cx} {pins:List (Addr×Obj)} {σ : St} {H:Hp} {s:Shared} {a:Addr} {y:V} {u:Value} {A:Around} {E:Value->Shared->Prop}
end
end L2
namespace HT
open PySem PyProof.Rows
section
open PySem.SeqAt
open PySem.AutoSeq1 (wpAny_loadPart')
open PySem.MeetsSeq PySem.MeetsSeq2 PySem.MeetsSeq3
end
section
variable {prog:Program} {w:World} {A:Around} {E:Value->Shared->Prop} {s:Shared}
def sA (n d:Nat):Option Int->Nat
 | none=>d
 | some v=>if v < 0 then (v+(n:Int)).toNat else min v.toNat n
theorem C1 (n d:Nat):sA n d none=d:=rfl
theorem GA (n d k:Nat):sA n d (some (k:Int))=min k n:=by
 show (if (k:Int) < 0 then ((k:Int)+(n:Int)).toNat else min (k:Int).toNat n)=min k n
 rw [if_neg (by omega),Int.toNat_natCast]
end
end HT
namespace L2
open PySem PySem.Spec PyProof.Rows
abbrev TO:=St->Hp->(Option Int->Hp->Prop)->Prop
def PO (X:Cx) (e:Option Expr) (t:TO):Prop :=
 ∀ (pins:List (Addr×Obj)) (s:Shared) (σ : St) (H:Hp) (Q:Option Int->Hp->Prop),Inv X pins σ H s->t σ H Q →
   wpAny (model X.prog X.w) X.A (evalPart e X.env) (λ u s' => ∃ o H',Inv X pins σ H' s'/\IsPart u o/\Q o H') X.xe s
def A8:TO:=λ _ H Q=>Q none H
def J6 (t:TE):TO:=fun σ H Q=>t σ H λ x H1 => ∃ i,x = .int i/\Q (some i) H1
section
variable {X:Cx} {e:Expr} {te:TE} {lo hi:Option Expr} {tl th:TO} {pos p2:Pos}
theorem uN:PO X none A8:=by
 intro pins s σ H Q I h
 rw [evalPart_none]
 exact wpAny_pure ⟨none,H,I,.none,h⟩
theorem l9 (h:PE X e te):PO X (some e) (J6 te):=by
 intro pins s σ H Q I hw
 rw [evalPart_some]
 refine ck (h pins s σ H _ I hw) λ u s1 ⟨x,H1,I1,r1,q1⟩ => ?_
 obtain ⟨i,rfl,q⟩:=q1
 obtain ⟨t,rfl⟩:=r1
 exact ⟨some i,H1,I1,.int i t,q⟩
def Vi (X:Cx) (r:V->Option Int->Option Int->Hp->VK->Prop):Prop :=
 ∀ (pins:List (Addr×Obj)) (s:Shared) (σ : St) (H:Hp) (x:V) (v vl vu:Value) (lo hi:Option Int) (sl:Addr) (Q:VK),Inv X pins σ H s->RelV x v->s.heap.IsSliceOf sl vl vu .none->IsPart vl lo->IsPart vu hi->r x lo hi H Q →
   ∃ T id,typeLookup (.type T) "__getitem__" = pure (some (.builtin id))/\s.TypeIs v T/\wpAny (model X.prog X.w) X.A (getItem v (.ref sl)) (EP X pins σ Q) X.xe s
def Wk (r:V->Option Int->Option Int->Hp->VK->Prop) (te:TE) (tl th:TO):TE:=fun σ H Q=>te σ H λ x H1=>tl σ H1 λ l H2=>th σ H2 λ u H3=>r x l u H3 Q
theorem kO {r:V->Option Int->Option Int->Hp->VK->Prop} (hr:Vi X r) (he:PE X e te) (hl:PO X lo tl) (hu:PO X hi th):PE X (.Subscript e (.Slice lo hi none p2) pos) (Wk r te tl th):=by
 intro pins s σ H Q I h
 refine Subscript_ (ck (he pins s σ H _ I h) λ v s1 ⟨x,H1,I1,r1,q1⟩ => ?_)
 refine wpAny_Slice (ck (hl pins s1 σ H1 _ I1 q1) λ vl s2 ⟨l,H2,I2,pl,q2⟩=>ck (hu pins s2 σ H2 _ I2 q2) λ vu s3 ⟨u,H3,I3,pu,q3⟩ => ?_)
 rw [evalPart_none]
 refine wpAny_pure ?_
 have I4:Inv X pins σ H3 { s3 with heap:=s3.heap.push { cls := .type "slice",data := .fields #[vl,vu,.none] } } := I3.kept (t':=s3.toks) λ b ob q=>Heap.get?_push_of_some _ q
 obtain ⟨T,id,hT,ht,hg⟩:=hr pins { s3 with heap:=s3.heap.push { cls := .type "slice",data := .fields #[vl,vu,.none] } } σ H3 x v vl vu l u s3.heap.objs.size Q I4 r1 (Heap.IsSliceOf.new ..) pl pu q3
 show wpAny (model X.prog X.w) X.A (subscriptTail e (.Slice lo hi none p2) v (.ref s3.heap.objs.size)) (EP X pins σ Q) X.xe { s3 with heap:=s3.heap.push { cls := .type "slice",data := .fields #[vl,vu,.none] } }
 exact tail_any (ops:=[.ref s3.heap.objs.size,v]) ht hT hg (by with_unfolding_all rfl)
def kP (xs:List V) (lo hi:Option Int):List V:=(xs.drop (HT.sA xs.length 0 lo)).take (HT.sA xs.length xs.length hi - HT.sA xs.length 0 lo)
theorem kQ (xs:List V) (lo hi:Option Int):(kP xs lo hi).length<=xs.length:=by
 unfold kP
 rw [List.length_take,List.length_drop]
 omega
def M9 (K:PySem.W.Frag):V->Option Int->Option Int->Hp->VK->Prop:=λ x lo hi H Q => ∃ a xs,x = .ref a/\Eg K H a xs ∧
 ¬ (HT.sA xs.length 0 lo=0/\HT.sA xs.length xs.length hi=xs.length) ∧ ∀ p,H p=none->Q (.ref p) (upd H p (.tup (kP xs lo hi)))
end
end L2
namespace L2
open PySem PySem.Spec PyProof.Rows
def MJ (n:Nat) (i:Int):Option Nat:=if 0<=i then (if i < n then some i.toNat else none) else if -(n:Int)<=i then some (i+n).toNat else none
def iZ {α : Type} (xs:List α) (i:Int):Option α := (MJ xs.length i).bind λ j=>xs[j]?
theorem GB {n:Nat} {i:Int} {j:Nat} (h:MJ n i=some j):seqIndex? i n=some j/\j < n ∧ -(n:Int)<=i/\i < n:=by
 unfold MJ at h
 by_cases h0:0<=i
 ·rw [if_pos h0] at h
  by_cases h1:i < n
  ·rw [if_pos h1] at h
   have e:i.toNat=j:=Option.some.inj h
   exact ⟨by rw [seqIndex_of h0 h1,e],by omega,by omega,h1⟩
  ·rw [if_neg h1] at h;cases h
 ·rw [if_neg h0] at h
  by_cases h1 : -(n:Int)<=i
  ·rw [if_pos h1] at h
   have e:(i+n).toNat=j:=Option.some.inj h
   exact ⟨by rw [seqIndex_neg (by omega) h1,e],by omega,h1,by omega⟩
  ·rw [if_neg h1] at h;cases h
theorem A9 {α : Type} {xs:List α} {i:Int} {v : α} (h:iZ xs i=some v) : ∃ j,seqIndex? i xs.length=some j/\xs[j]? = some v/\j < xs.length ∧ -(xs.length:Int)<=i/\i < xs.length:=by
 unfold iZ at h
 cases e:MJ xs.length i with
 | none=>rw [e] at h;cases h
 | some j =>
   rw [e] at h
   obtain ⟨h1,h2,h3,h4⟩:=GB e
   exact ⟨j,h1,h,h2,h3,h4⟩
theorem gG {α : Type} {xs:List α} {j:Nat} {v : α} (h:xs[j]? = some v):iZ xs (j:Int)=some v:=by
 have hj:j < xs.length:=(List.getElem?_eq_some_iff.mp h).1
 have e:MJ xs.length (j:Int)=some j:=by
  unfold MJ
  rw [if_pos (by omega),if_pos (by omega)];simp
 unfold iZ;rw [e];exact h
def Na (b:Expr):Prop := ∀ o i,subscripted b false o i=operate [o,i] (getItem o i)
def Se (X:Cx) (r:R2):Prop :=
 ∀ (value slice:Expr) (pins:List (Addr×Obj)) (s:Shared) (σ : St) (H:Hp) (x y:V) (v u:Value) (Q:VK),Inv X pins σ H s->RelV x v->RelV y u->r x y H Q →
   subscripted slice false v u=operate [v,u] (getItem v u)->wpAny (model X.prog X.w) X.A (subscriptTail value slice v u) (EP X pins σ Q) X.xe s
def MtR (X:Cx) (id:String) (r:V->List V->Hp->VK->Prop):Prop :=
 ∀ (pins:List (Addr×Obj)) (s:Shared) (σ : St) (H:Hp) (x:V) (xs:List V) (v:Value) (us:List Value) (Q:VK),Inv X pins σ H s->RelV x v->Vals xs us->r x xs H Q →
   wpAny (model X.prog X.w) X.A (call (.builtin id) (v::us)) (EP X pins σ Q) X.xe s
section
variable {X:Cx} {a b:Expr} {ta tb:TE} {pos:Pos}
theorem aY {r:R2} (hr:Se X r) (ha:PE X a ta) (hb:PE X b tb) (hs:Na b):PE X (.Subscript a b pos) (Qk r ta tb):=by
 intro pins s σ H Q I h
 exact Subscript_ (Ql ha hb I h λ v u s2 x y H2 I2 rx ry q=>hr a b pins s2 σ H2 x y v u Q I2 rx ry q (hs _ _))
def Qv (K:PySem.W.Frag):R2:=λ x y H Q => ∃ p xs i v,x = .ref p/\y = .int i/\fq K H p xs/\iZ xs i=some v/\Q v H
def Wl (K:PySem.W.Frag):R2:=λ x y H Q => ∃ p xs i v,x = .ref p/\y = .int i/\Eg K H p xs/\iZ xs i=some v/\Q v H
def S7:R2:=λ x y H Q => ∃ z i c,x = .str z/\y = .int i/\z.length<=sizeLine/\iZ z.cps.toList i=some c/\Q (.str ⟨#[c]⟩) H
theorem GC:Se X (Qv X.K):=by
 intro value slice pins s σ H x y v u Q I rx ry h hs
 obtain ⟨p,xs,i,z,rfl,rfl,hq,he,q⟩:=h
 cases rx
 obtain ⟨t,rfl⟩:=ry
 obtain ⟨its,r,pl,hz⟩:=I.list hq
 obtain ⟨j,h1,h2,h3,h4,h5⟩:=A9 he
 obtain ⟨w,ew,rw'⟩:=r.get h2
 have hl:=r.length
 have hn:=nK
 have fin:EP X pins σ Q w s:=⟨z,H,I,rw',q⟩
 by_cases h0:0<=i
 ·have hj:i.toNat=j:=by
   rw [seqIndex_of h0 h5] at h1
   exact Option.some.inj h1
  exact item_listR pl.isList h0 (by omega) (by rw [hj];simpa using ew) fin hs
 ·have hj:(i+(its.toArray.size:Int)).toNat=j:=by
   rw [seqIndex_neg (by omega) h4] at h1
   rw [List.size_toArray,<-hl]
   exact Option.some.inj h1
  exact subscriptTail_builtinR (x:=w) pl.isList.typeIs slot_list_getitem.lookup
   (wpAny_getItem_list_neg (Q:=λ r s'=>r=w/\EP X pins σ Q r s') pl.isList (by omega) (by rw [List.size_toArray] <;> omega) (by omega) (by rw [hj];simpa using ew) ⟨rfl,fin⟩) hs
theorem Qw:Se X (Wl X.K):=by
 intro value slice pins s σ H x y v u Q I rx ry h hs
 obtain ⟨p,xs,i,z,rfl,rfl,hq,he,q⟩:=h
 cases rx
 obtain ⟨t,rfl⟩:=ry
 obtain ⟨its,r,pl,hz⟩:=I.tuple hq
 obtain ⟨j,h1,h2,h3,h4,h5⟩:=A9 he
 obtain ⟨w,ew,rw'⟩:=r.get h2
 have hl:=r.length
 have hn:=nK
 have fin:EP X pins σ Q w s:=⟨z,H,I,rw',q⟩
 exact subscriptTail_builtinR (x:=w) pl.typeIs slot_tuple_getitem.lookup
  (getItem_tuple (j:=j) (Q:=λ r s'=>r=w/\EP X pins σ Q r s') pl (by omega) (by omega) (by rw [List.size_toArray,<-hl];exact h1) (by simpa using ew) ⟨rfl,fin⟩) hs
theorem Qx:Se X S7:=by
 intro value slice pins s σ H x y v u Q I rx ry h hs
 obtain ⟨z,i,c,rfl,rfl,hz,he,q⟩:=h
 obtain ⟨t,rfl⟩:=rx
 obtain ⟨t',rfl⟩:=ry
 obtain ⟨j,h1,h2,h3,h4,h5⟩:=A9 he
 have hl:z.cps.toList.length=z.length:=by simp [Str.length]
 rw [hl] at h1 h4 h5
 have hn:=nK
 exact tail_any (typeIs_str s z t) slot_str_getitem.lookup (getItem_str (c:=c) (by
  have e1:decide (i < -(2 ^ 63:Int))=false:=decide_eq_false (by omega)
  have e2:decide (i ≥ 2 ^ 63)=false:=decide_eq_false (by omega)
  rw [e1,e2,Bool.or_false]) (by rw [h1];simpa using h2) ⟨.str ⟨#[c]⟩,H,I.tok _,⟨_,rfl⟩,q⟩) hs
theorem EE (its:List Value) (n j:Nat) (u:Value):Obj.mapSeq (·.setIfInBounds j u) { cls := .type "list",data := .seq its.toArray n } = { cls := .type "list",data := .seq (its.set j u).toArray n } := by
 simp [Obj.mapSeq]
theorem Inv.lst {pins:List (Addr×Obj)} {σ : St} {H:Hp} {s:Shared} {p:Addr} {xs:List V} (I:Inv X pins σ H s) (h:H p=some (.lst xs)) :
  ∃ (its:List Value) (n:Nat),Vals xs its/\s.heap.get? p=some { cls := .type "list",data := .seq its.toArray n } ∧ xs.length<=sizeLine:=by
 obtain ⟨z,its,n,r,e⟩:=I.hok p _ h
 exact ⟨its,n,r,e,z⟩
theorem Inv.Qy {pins:List (Addr×Obj)} {σ : St} {H:Hp} {s:Shared} {p:Addr} {xs ys:List V} {its its':List Value} {n n':Nat} {f:Obj->Obj} (I:Inv X pins σ H s) (h:H p=some (.lst xs))
  (ho:s.heap.get? p=some { cls := .type "list",data := .seq its.toArray n }) (hf:f { cls := .type "list",data := .seq its.toArray n } = { cls := .type "list",data := .seq its'.toArray n' }) (r:Vals ys its') (hz:ys.length<=sizeLine) (t:Nat) :
  Inv X pins σ (upd H p (.lst ys)) { s with heap:=s.heap.update p f,toks:=t } := by
 have e:(s.heap.update p f).get? p=some { cls := .type "list",data := .seq its'.toArray n' } := by
  rw [Heap.get?_update_self f ho (by rw [hf] <;> rfl),hf]
 refine I.write (x:=p) (e:=p) (by rw [h];trivial) (.inl rfl) (λ b u hb q=>(Heap.get?_update_other _ _ (Ne.symm hb)).trans q) ⟨_,e⟩ ?_
 exact ⟨hz,its',n',r,e⟩
def OW:V->V->V->Hp->(Hp->Prop)->Prop:=λ o i v H Q => ∃ p xs k j,o = .ref p/\i = .int k/\H p=some (.lst xs)/\MJ xs.length k=some j/\Q (upd H p (.lst (xs.set j v)))
theorem set_list:Sz X OW:=by
 intro pins s σ H o i v ov iv u Q I ro ri rv h
 obtain ⟨p,xs,k,j,rfl,rfl,hp,hj,q⟩:=h
 cases ro
 obtain ⟨t,rfl⟩:=ri
 obtain ⟨its,n,r,ho,hz⟩:=I.lst hp
 obtain ⟨h1,h2,h3,h4⟩:=GB hj
 have hl:=r.length
 have hn:=nK
 have I':Inv X pins σ (upd H p (.lst (xs.set j v))) { s with heap:=s.heap.update p (Obj.mapSeq (·.setIfInBounds j u)) } :=
  I.Qy hp ho (EE its n j u) (r.set rv j) (by rw [List.length_set];exact hz) s.toks
 by_cases h0:0<=k
 ·have hk:k.toNat=j:=by
   rw [seqIndex_of h0 h4] at h1
   exact Option.some.inj h1
  exact PySem.W.ki_setAt ho h0 (by omega) (by rw [List.size_toArray,<-hl];exact h4) (by rw [hk];exact ⟨_,I',q⟩)
 ·have hk:(k+(its.toArray.size:Int)).toNat=j:=by
   rw [seqIndex_neg (by omega) h3] at h1
   rw [List.size_toArray,<-hl]
   exact Option.some.inj h1
  exact PySem.W.ki_setBack ho (by omega) (by rw [List.size_toArray,<-hl];exact h3) (by omega) (by rw [hk];exact ⟨_,I',q⟩)
theorem Ba (lo hi:Option Int) (n:Nat):(sliceBounds lo hi none n).1=((HT.sA n 0 lo:Nat):Int)/\(sliceBounds lo hi none n).2.1=((HT.sA n n hi:Nat):Int)/\(sliceBounds lo hi none n).2.2=1:=by
 refine ⟨?_,?_,rfl⟩
 ·cases lo with
  | none=>simp [sliceBounds,HT.sA]
  | some i =>
    simp only [sliceBounds,HT.sA,Option.getD_none,show (1:Int) > 0 by decide,if_true]
    by_cases h:i < 0
    ·simp only [h,if_true] <;> omega
    ·simp only [h,if_false] <;> omega
 ·cases hi with
  | none=>simp [sliceBounds,HT.sA]
  | some i =>
    simp only [sliceBounds,HT.sA,Option.getD_none,show (1:Int) > 0 by decide,if_true]
    by_cases h:i < 0
    ·simp only [h,if_true] <;> omega
    ·simp only [h,if_false] <;> omega
theorem x9 (its:List Value) (lo hi:Option Int):slicePick its.toArray lo hi none=((its.drop (HT.sA its.length 0 lo)).take (HT.sA its.length its.length hi - HT.sA its.length 0 lo)).toArray:=by
 obtain ⟨h1,h2,h3⟩:=Ba lo hi its.toArray.size
 unfold slicePick
 rw [h1,h2,h3]
 simp only [sliceRange_one,pick_run,List.size_toArray] <;> rfl
def Nb (K:PySem.W.Frag):V->Option Int->Option Int->Hp->VK->Prop:=λ x lo hi H Q => ∃ a xs,x = .ref a/\fq K H a xs ∧ ∀ p,H p=none->Q (.ref p) (upd H p (.lst (kP xs lo hi)))
theorem Nc:Vi X (Nb X.K):=by
 intro pins s σ H x v vl vu lo hi sl Q I rx hs pl pu h
 obtain ⟨a,xs,rfl,hx,q⟩:=h
 cases rx
 obtain ⟨its,r,ht,hz⟩:=I.list hx
 have hlen:=r.length
 refine ⟨"list",_,slot_list_getitem.lookup,ht.isList.typeIs,?_⟩
 refine wpAny_getItem_list_slice ht.isList hs pl pu .none (by simp) ?_ (by rw [List.size_toArray] <;> omega)
 rw [x9,<-hlen]
 refine ⟨.ref s.heap.objs.size,_,I.laid (t':=s.toks) (o := .lst (kP xs lo hi)) (λ b ob q=>Heap.get?_push_of_some _ q) (Nat.le_refl _) ?_,rfl,q _ (I.hok.fresh (Nat.le_refl _))⟩
 exact ⟨Nat.le_trans (kQ xs lo hi) hz,_,0,(r.drop (HT.sA xs.length 0 lo)).take (HT.sA xs.length xs.length hi - HT.sA xs.length 0 lo),Heap.get?_push_size _ rfl⟩
def eE:V->Bool
 | .aI=>true
 | .bl _=>true
 | .int _=>true
 | .str _=>true
 | _=>false
def Bb:V->V->Bool
 | .aI,.aI=>true
 | .bl a,.bl b=>a == b
 | .bl a,.int b=>(if a then 1 else 0) == b
 | .int a,.bl b=>a == (if b then 1 else 0)
 | .int a,.int b=>a == b
 | .str a,.str b=>a == b
 | _,_=>false
theorem Qz {A:Around} {s:Shared} {y x:V} {u v:Value} (ry:RelV y u) (rx:RelV x v) (fy:eE y=true) (fx:eE x=true):SeqAt.EqAt A s u v (Bb y x):=by
 cases y with
 | aI =>
   cases ry
   cases x with
   | aI=>cases rx;exact SeqAt.EqAt.same _
   | bl b=>cases rx;exact SeqAt.EqAt.none_bool b
   | int b=>obtain ⟨t,rfl⟩:=rx;exact SeqAt.EqAt.none_int b t
   | str b=>obtain ⟨t,rfl⟩:=rx;exact SeqAt.EqAt.none_str b t
   | _=>exact absurd (show false=true from fx) Bool.false_ne_true
 | bl a =>
   cases ry
   cases x with
   | aI=>cases rx;exact SeqAt.EqAt.bool_none a
   | bl b=>cases rx;exact SeqAt.EqAt.bool_bool a b
   | int b=>obtain ⟨t,rfl⟩:=rx;exact SeqAt.EqAt.bool_int a b t
   | str b=>obtain ⟨t,rfl⟩:=rx;exact SeqAt.EqAt.bool_str a b t
   | _=>exact absurd (show false=true from fx) Bool.false_ne_true
 | int a =>
   obtain ⟨t',rfl⟩:=ry
   cases x with
   | aI=>cases rx;exact SeqAt.EqAt.int_none a t'
   | bl b=>cases rx;exact SeqAt.EqAt.int_bool a t' b
   | int b=>obtain ⟨t,rfl⟩:=rx;exact SeqAt.EqAt.int_int a t' b t
   | str b=>obtain ⟨t,rfl⟩:=rx;exact SeqAt.EqAt.int_str a t' b t
   | _=>exact absurd (show false=true from fx) Bool.false_ne_true
 | str a =>
   obtain ⟨t',rfl⟩:=ry
   cases x with
   | aI=>cases rx;exact SeqAt.EqAt.str_none a t'
   | bl b=>cases rx;exact SeqAt.EqAt.str_bool a t' b
   | int b=>obtain ⟨t,rfl⟩:=rx;exact SeqAt.EqAt.str_int a t' b t
   | str b=>obtain ⟨t,rfl⟩:=rx;exact SeqAt.EqAt.str_str a t' b t
   | _=>exact absurd (show false=true from fx) Bool.false_ne_true
 | _=>exact absurd (show false=true from fy) Bool.false_ne_true
def C2 (x:V) (u:Value):Bool:=match u with
 | .none=>Bb .aI x
 | .bool b=>Bb (.bl b) x
 | .int i _=>Bb (.int i) x
 | .str z _=>Bb (.str z) x
 | _=>false
theorem EF {x y:V} {u:Value} (r:RelV y u) (f:eE y=true):C2 x u=Bb y x:=by
 cases y with
 | aI=>cases r;rfl
 | bl b=>cases r;rfl
 | int i=>obtain ⟨t,rfl⟩:=r;rfl
 | str z=>obtain ⟨t,rfl⟩:=r;rfl
 | _=>exact absurd (show false=true from f) Bool.false_ne_true
theorem o4 {x:V} : ∀ {xs:List V} {us:List Value},Vals xs us->xs.all eE=true->us.any (C2 x)=xs.any λ y=>Bb y x
 | _,_,.nil,_=>rfl
 | y::xs,u::us,.cons r t,f=>by
   rw [List.all_cons,Bool.and_eq_true] at f
   rw [List.any_cons,List.any_cons,EF r f.1,o4 t f.2]
theorem jc {A:Around} {s:Shared} {x:V} {v:Value} (rx:RelV x v) (fx:eE x=true) : ∀ {xs:List V} {us:List Value},Vals xs us->xs.all eE=true->∀ u∈us,SeqAt.EqAt A s u v (C2 x u)
 | _,_,.nil,_=>λ u hu=>by cases hu
 | y::xs,u::us,.cons r t,f=>λ u' hu=>by
   rw [List.all_cons,Bool.and_eq_true] at f
   rcases List.mem_cons.mp hu with rfl | hu
   ·rw [EF r f.1];exact Qz r rx f.1 fx
   ·exact jc rx fx t f.2 u' hu
def sC (x:V) (xs:List V):Bool:=xs.any λ y=>Bb y x
def Vj (K:PySem.W.Frag) (neg:Bool):R2:=λ x y H Q => ∃ p xs,y = .ref p/\(fq K H p xs\/Eg K H p xs)/\eE x=true/\xs.all eE=true/\Q (.bl (if neg then !sC x xs else sC x xs)) H
theorem HF:nI X (compareOp .In) (Vj X.K false):=by
 intro pins s σ H x y v u Q I rx ry h
 obtain ⟨p,xs,rfl,hq,fx,fs,q⟩:=h
 cases ry
 rcases hq with hq | hq
 ·obtain ⟨its,r,pl,hz⟩:=I.list hq
  refine SeqAt.in_listAt (C2 x) pl.isList (λ w hw=>jc rx fx r fs w (by simpa using hw)) ⟨.bl _,H,I,rfl,?_⟩
  rw [show its.toArray.any (C2 x)=its.any (C2 x) by simp,o4 r fs]
  exact q
 ·obtain ⟨its,r,pl,hz⟩:=I.tuple hq
  refine SeqAt.in_tupleAt (C2 x) pl (λ w hw=>jc rx fx r fs w (by simpa using hw)) ⟨.bl _,H,I,rfl,?_⟩
  rw [show its.toArray.any (C2 x)=its.any (C2 x) by simp,o4 r fs]
  exact q
theorem Bc:nI X (compareOp .NotIn) (Vj X.K true):=by
 intro pins s σ H x y v u Q I rx ry h
 obtain ⟨p,xs,rfl,hq,fx,fs,q⟩:=h
 cases ry
 rcases hq with hq | hq
 ·obtain ⟨its,r,pl,hz⟩:=I.list hq
  refine SeqAt.notIn_listAt (C2 x) pl.isList (λ w hw=>jc rx fx r fs w (by simpa using hw)) ⟨.bl _,H,I,rfl,?_⟩
  rw [show its.toArray.any (C2 x)=its.any (C2 x) by simp,o4 r fs]
  exact q
 ·obtain ⟨its,r,pl,hz⟩:=I.tuple hq
  refine SeqAt.notIn_tupleAt (C2 x) pl (λ w hw=>jc rx fx r fs w (by simpa using hw)) ⟨.bl _,H,I,rfl,?_⟩
  rw [show its.toArray.any (C2 x)=its.any (C2 x) by simp,o4 r fs]
  exact q
theorem jD:kM X (.builtin "len") (λ xs H Q => ∃ p ys,xs = [.ref p]/\(fq X.K H p ys\/Eg X.K H p ys)/\Q (.int ys.length) H):=by
 intro pins s σ H xs us Q I r h
 obtain ⟨p,ys,rfl,hq,q⟩:=h
 obtain ⟨u,rfl,rx⟩:=vals1 r
 cases rx
 have hn:=nK
 rcases hq with hq | hq
 ·obtain ⟨its,r',pl,hz⟩:=I.list hq
  have hlen:=r'.length
  exact Calls.call_len_list pl.isList (by simp only [List.size_toArray] <;> omega) ⟨.int ys.length,H,I.tok _,⟨s.toks+1,by rw [List.size_toArray,hlen]⟩,q⟩
 ·obtain ⟨its,r',pl,hz⟩:=I.tuple hq
  have hlen:=r'.length
  exact len_tuple pl (by simp only [List.size_toArray] <;> omega) ⟨.int ys.length,H,I.tok _,⟨s.toks+1,by rw [List.size_toArray,hlen]⟩,q⟩
theorem Bd:kM X (.type "list") (λ xs H Q => ∃ p ys,xs = [.ref p]/\(fq X.K H p ys\/Eg X.K H p ys) ∧ ∀ l,H l=none->Q (.ref l) (upd H l (.lst ys))):=by
 intro pins s σ H xs us Q I r h
 obtain ⟨p,ys,rfl,hq,q⟩:=h
 obtain ⟨u,rfl,rx⟩:=vals1 r
 cases rx
 have fin : ∀ (its:List Value),Vals ys its->ys.length<=sizeLine->∀ (h':Heap) (c':Nat),(∀ b o',s.heap.get? b=some o'->h'.get? b=some o') →
   h'.get? s.heap.objs.size=some { cls := .type "list",dict:=none,data := .seq its.toArray c',slots := #[] }->EP X pins σ Q (.ref s.heap.objs.size) { s with heap:=h' } := λ its r' hz h' c' kp e =>
  ⟨.ref s.heap.objs.size,_,I.laid (t':=s.toks) kp (Nat.le_refl _) (show bU X.prog X.w _ h' _ (.lst ys) from ⟨hz,its,c',r',e⟩),rfl,q _ (I.hok.fresh (Nat.le_refl _))⟩
 rcases hq with hq | hq
 ·obtain ⟨its,r',pl,hz⟩:=I.list hq
  have hlen:=r'.length
  obtain ⟨o,ho,hc,n,hd⟩:=pl.isList
  exact call_list_seq p (.inl rfl) ho hc hd (λ h' c' kp e=>fin its r' hz h' c' kp e) (by simp only [List.size_toArray] <;> omega)
 ·obtain ⟨its,r',pl,hz⟩:=I.tuple hq
  have hlen:=r'.length
  obtain ⟨o,ho,hc,n,hd⟩:=pl
  exact call_list_seq p (.inr rfl) ho hc hd (λ h' c' kp e=>fin its r' hz h' c' kp e) (by simp only [List.size_toArray] <;> omega)
def S8 (K:PySem.W.Frag) (T:String) (x:V) (H:Hp):Prop:=match x with
 | .str _=>T = "str"
 | .int _=>T = "int"
 | .ref p=>(T = "list" ∧ ∃ xs,fq K H p xs)\/(T = "tuple" ∧ ∃ o,K.lookup p=some o/\o.cls = .type "tuple" ∧ o.dict=none) ∨
   (T = "dict" ∧ ((∃ kvs,H p=some (.dK kvs)) ∨ ∃ kvs,H p=some (.dT kvs)))\/(T = "set" ∧ ∃ S n,H p=some (.set S n))
 | _=>False
theorem QC {pins:List (Addr×Obj)} {σ : St} {H:Hp} {s:Shared} {T:String} {x:V} {v:Value} (I:Inv X pins σ H s) (r:RelV x v) (ty:S8 X.K T x H) :
  s.TypeIs v T ∧ ∀ a,v = .ref a->∃ ob,s.heap.get? a=some ob/\ob.dict=none:=by
 cases x with
 | str z =>
   obtain ⟨t,rfl⟩:=r
   cases (show T = "str" from ty)
   exact ⟨typeIs_str s z t,λ _ e=>nomatch e⟩
 | int i =>
   obtain ⟨t,rfl⟩:=r
   cases (show T = "int" from ty)
   exact ⟨typeIs_int s i t,λ _ e=>nomatch e⟩
 | ref p =>
   cases r
   rcases ty with ⟨rfl,xs,hq⟩ | ⟨rfl,o,hk,hc,hd⟩ | ⟨rfl,hk⟩ | ⟨rfl,S,n,hk⟩
   ·obtain ⟨its,_,pl,_⟩:=I.list hq
    refine ⟨pl.isList.typeIs,λ a e => ?_⟩
    cases e
    obtain ⟨o,n,e,c,hd,_⟩:=pl
    exact ⟨o,e,hd⟩
   ·refine ⟨⟨o,I.sj p o hk,hc⟩,λ a e => ?_⟩
    cases e
    exact ⟨o,I.sj _ o hk,hd⟩
   ·have z : ∃ o,s.heap.get? p=some o/\o.ExactDict:=by
     rcases hk with ⟨kvs,hk⟩ | ⟨kvs,hk⟩
     ·obtain ⟨_,_,_,_,o,_,_,e,ex,_⟩:=I.hok p _ hk
      exact ⟨o,e,ex⟩
     ·obtain ⟨_,_,_,_,o,_,_,e,ex,_⟩:=I.hok p _ hk
      exact ⟨o,e,ex⟩
    obtain ⟨o,e,ex⟩:=z
    refine ⟨⟨o,e,ex.1⟩,λ a e2 => ?_⟩
    cases e2
    exact ⟨o,e,ex.2.1⟩
   ·obtain ⟨o,_,_,_,e,ex,_⟩:=I.hok p _ hk
    refine ⟨⟨o,e,ex.1⟩,λ a e2 => ?_⟩
    cases e2
    exact ⟨o,e,ex.2.1⟩
 | _=>exact False.elim ty
def Wm (K:PySem.W.Frag) (T:String) (r:V->List V->Hp->VK->Prop) (to:TE) (t:TA):TE:=fun σ H Q=>to σ H λ x H1=>S8 K T x H1/\t σ H1 λ xs H2=>r x xs H2 Q
variable {o e:Expr} {es:List Expr} {to:TE} {t:TA} {name:Str} {apos cpos:Pos} {T id:String} {r:V->List V->Hp->VK->Prop}
theorem sD (pa:PlainAttrs T) (slot:Slot T name id) (hty:typeOf (.builtin id)=pure (.type "method_descriptor")) (hm:MtR X id r) (ho:PE X o to) (ha:PA X (e::es) t)
  (hbase:attributeBase o name X.env (eval o X.env)=eval o X.env:=by rfl)
  (hfew:((backTo cpos (starEach (e::es) X.env)).all (λ x => !x.1) && (backToKw cpos (keywordEach [] X.env)).all (λ x=>x.1.isSome)
   && decide ((e::es).length+([]:List Keyword).length+(if ([]:List Keyword).isEmpty then 0 else 1) < 30))=true:=by rfl)
  (hline:(apos.endLine == cpos.line)=true:=by rfl) (hs:starEach (e::es) X.env=(false,eval e X.env)::starEach es X.env:=by rfl) (hplain:(backTo cpos (starEach es X.env)).any (·.1)=false:=by rfl) :
  PE X (.Call (.Attribute o name apos) (e::es) [] cpos) (Wm X.K T r to t):=by
 intro pins s σ H Q I h
 refine wpAny_Call_method_late hbase hfew hline rfl (ck (ho pins s σ H _ I h) λ v s1 ⟨x,H1,I1,r1,ty,q1⟩ => ?_)
 obtain ⟨h1,h2⟩:=QC I1 r1 ty
 refine ⟨T,id,pa,slot,hty,h1,h2,?_⟩
 have hA:=ha cpos pins s1 σ H1 _ I1 q1
 rw [hs] at hA ⊢
 refine Calls.callWith_builtin (by show (false || (backTo cpos (starEach es X.env)).any (·.1))=false;rw [hplain] <;> rfl) (Calls.evalArgs_plain ?_)
 exact ck hA λ us s2 ⟨vs,H2,I2,r2,q2⟩=>hm pins s2 σ H2 x vs v us Q I2 r1 r2 q2
/- xs.append(e),list.index on a J7 tuple .. are MtR facts of 06m -/
end
end L2
namespace L2
open PySem PySem.Spec PyProof.Rows
def Vk (X:Cx) (id:String) (r:V->List V->Hp->VK->Prop):Prop :=
 ∀ (pins:List (Addr×Obj)) (s:Shared) (σ : St) (H:Hp) (x:V) (xs:List V) (v:Value) (us:List Value) (Q:VK),Inv X pins σ H s->RelV x v->Vals xs us->r x xs H Q →
   wpAny (model X.prog X.w) X.A (call (.builtin id) (v::us)) (EP X pins σ Q) X.xe s
theorem Vals.one : ∀ {x:V} {us:List Value},Vals [x] us->∃ u,us = [u]/\RelV x u
 | _,_,.cons r .nil=>⟨_,rfl,r⟩
theorem Vals.two : ∀ {x y:V} {us:List Value},Vals [x,y] us->∃ u v,us = [u,v]/\RelV x u/\RelV y v
 | _,_,_,.cons r (.cons q .nil)=>⟨_,_,rfl,r,q⟩
theorem Vals.rep {xs:List V} {us:List Value} (h:Vals xs us) : ∀ k:Nat,Vals (List.replicate k xs).flatten (List.replicate k us).flatten
 | 0 => .nil
 | k+1=>by
   rw [List.replicate_succ,List.replicate_succ,List.flatten_cons,List.flatten_cons]
   exact Vals.append h (Vals.rep h k)
theorem foldl_rep (its:List Value) : ∀ (k:Nat) (acc:List Value),
  List.foldl (λ x1 x2=>x1++x2) acc.toArray (List.replicate k its.toArray)=(acc++(List.replicate k its).flatten).toArray
 | 0,acc=>by simp
 | k+1,acc=>by
   have e:acc.toArray++its.toArray=(acc++its).toArray:=by simp
   have e2:(acc++its)++(List.replicate k its).flatten=acc++(List.replicate (k+1) its).flatten:=by
    rw [List.replicate_succ,List.flatten_cons,List.append_assoc]
   rw [<-e2,<-foldl_rep its k (acc++its),<-e,List.replicate_succ,List.foldl_cons]
section
variable {X:Cx} {pins:List (Addr×Obj)} {σ : St} {H:Hp} {s:Shared} {l b:Addr} {xs ys zs:List V}
theorem Inv.S9 {its its':List Value} {n:Nat} {f:Array Value->Array Value} {t':Nat} (I:Inv X pins σ H s) (hH:H l=some (.lst xs))
  (e:s.heap.get? l=some { cls := .type "list",data := .seq its.toArray n }) (hf:f its.toArray=its'.toArray) (hv:Vals ys its') (hz:ys.length<=sizeLine) :
  Inv X pins σ (upd H l (.lst ys)) { s with heap:=s.heap.update l (Obj.mapSeq f),toks:=t' } := by
 have q:=PySem.IsL.update e f
 rw [hf] at q
 refine I.write (x:=l) (e:=l) (by rw [hH];exact trivial) (.inl rfl) (λ b' u hb hu=>(Heap.get?_update_other s.heap (Obj.mapSeq f) (Ne.symm hb)).trans hu) ⟨_,q⟩ ?_
 exact ⟨hz,its',_,hv,q⟩
theorem Inv.Tc {its:List Value} {t':Nat} (I:Inv X pins σ H s) (hv:Vals ys its) (hz:ys.length<=sizeLine) :
  Inv X pins σ (upd H s.heap.objs.size (.lst ys)) { s with heap:=s.heap.push { cls := .type "list",data := .seq its.toArray },toks:=t' } :=
 I.laid (λ _ _ q=>Heap.get?_push_of_some _ q) (Nat.le_refl _) ⟨hz,its,0,hv,Heap.get?_push_size _ rfl⟩
theorem Inv.fresh (I:Inv X pins σ H s):H s.heap.objs.size=none:=I.hok.fresh (Nat.le_refl _)
theorem Inv.C3 (I:Inv X pins σ H s) (hH:H l=some (.lst xs)):xs.length<=sizeLine ∧ ∃ (its:List Value) (n:Nat),Vals xs its/\xs.length=its.length/\s.heap.get? l=some { cls := .type "list",data := .seq its.toArray n } := by
 obtain ⟨z,its,n,r,e⟩:=I.hok l _ hH
 exact ⟨z,its,n,r,r.length,e⟩
theorem C4 {n:Nat} (h:n<=sizeLine):Builtin.List.listTooLong n=false:=by
 unfold Builtin.List.listTooLong
 exact decide_eq_false (by omega)
end
section
variable {X:Cx}
def Nd:V->List V->Hp->VK->Prop:=λ x vs H Q => ∃ l xs y,x = .ref l/\vs = [y]/\H l=some (.lst xs)/\xs.length < sizeLine/\Q .aI (upd H l (.lst (xs++[y])))
theorem HG:Vk X "list.append" Nd:=by
 intro pins s σ H x vs v us Q I rx rv h
 obtain ⟨l,xs,y,rfl,rfl,hH,hz,q⟩:=h
 cases rx
 obtain ⟨u,rfl,ru⟩:=rv.one
 obtain ⟨z,its,n,r,hl,e⟩:=I.C3 hH
 refine call_meets F.slot_list_append ⟨_,e,rfl⟩ F.entry_list_append (F.args_list_append_2 _ _) (PySem.list_append l its.toArray n u (by rw [List.size_toArray];omega)) ⟨e,?_⟩
 refine ⟨.aI,_,I.S9 (its':=its++[u]) hH e (by simp) (r.append (.cons ru .nil)) ?_,rfl,q⟩
 rw [List.length_append,List.length_singleton]
 omega
def Nf:V->List V->Hp->VK->Prop:=λ x vs H Q => ∃ l b xs zs,x = .ref l/\vs = [.ref b]/\H l=some (.lst xs)/\H b=some (.lst zs)/\xs.length+zs.length<=sizeLine/\Q .aI (upd H l (.lst (xs++zs)))
theorem Sf:Vk X "list.extend" Nf:=by
 intro pins s σ H x vs v us Q I rx rv h
 obtain ⟨l,b,xs,zs,rfl,rfl,hH,hB,hz,q⟩:=h
 cases rx
 obtain ⟨u,rfl,ru⟩:=rv.one
 cases ru
 obtain ⟨z,its,n,r,hl,e⟩:=I.C3 hH
 obtain ⟨z2,its2,n2,r2,hl2,e2⟩:=I.C3 hB
 have hsz:its.toArray.size+its2.toArray.size<=sizeLine:=by rw [List.size_toArray,List.size_toArray];omega
 have J8 : ¬ (!its.toArray.isEmpty && Builtin.List.listTooLong (its.toArray.size+its2.toArray.size))=true:=by
  rw [C4 hsz,Bool.and_false]
  exact Bool.false_ne_true
 refine call_meets F.slot_list_extend ⟨_,e,rfl⟩ F.entry_list_extend (F.args_list_extend_2 _ _)
  (AutoSeq1.list_extend_list_list_0 l its.toArray n b its2.toArray n2 J8 (by rw [List.size_toArray];omega) (by omega)) ⟨e,e2,?_⟩
 refine ⟨.aI,_,I.S9 (its':=its++its2) hH e (by simp) (r.append r2) ?_,rfl,q⟩
 rw [List.length_append]
 omega
def QD:R2:=λ x y H Q => ∃ l b xs zs,x = .ref l/\y = .ref b/\H l=some (.lst xs)/\H b=some (.lst zs)/\xs.length+zs.length<=sizeLine ∧ ∀ p,H p=none->Q (.ref p) (upd H p (.lst (xs++zs)))
theorem J9:nI X (binaryOp .Add) QD:=by
 intro pins s σ H x y v u Q I rx ry h
 obtain ⟨l,b,xs,zs,rfl,rfl,hH,hB,hz,q⟩:=h
 cases rx
 cases ry
 obtain ⟨z,its,n,r,hl,e⟩:=I.C3 hH
 obtain ⟨z2,its2,n2,r2,hl2,e2⟩:=I.C3 hB
 refine PySem.P.add_list e e2 ?_ (by rw [List.size_toArray,List.size_toArray];omega)
 have ea:its.toArray++its2.toArray=(its++its2).toArray:=by simp
 rw [ea]
 exact ⟨.ref _,_,I.Tc (t':=s.toks) (r.append r2) (by rw [List.length_append];omega),rfl,q _ I.fresh⟩
def Td:R2:=λ x y H Q => ∃ l k xs,x = .ref l/\y = .int k/\H l=some (.lst xs) ∧ -(2 ^ 63)<=k/\k < 2 ^ 63/\xs.length * k.toNat<=sizeLine ∧
 ∀ p,H p=none->Q (.ref p) (upd H p (.lst (List.replicate k.toNat xs).flatten))
theorem len_rep {α : Type} (xs:List α) (k:Nat):(List.replicate k xs).flatten.length=k * xs.length:=by
 induction k with
 | zero=>simp
 | succ k ih=>rw [List.replicate_succ,List.flatten_cons,List.length_append,ih,Nat.succ_mul,Nat.add_comm]
theorem kR:nI X (binaryOp .Mult) Td:=by
 intro pins s σ H x y v u Q I rx ry h
 obtain ⟨l,k,xs,rfl,rfl,hH,h1,h2,hz,q⟩:=h
 cases rx
 obtain ⟨t,rfl⟩:=ry
 obtain ⟨z,its,n,r,hl,e⟩:=I.C3 hH
 have hlen:its.toArray.size * k.toNat<=sizeLine:=by rw [List.size_toArray,<-hl];exact hz
 have hcap : ¬ its.toArray.size * k.toNat > (2 ^ 63 - 1) / 8:=by
  have:(sizeLine:Nat)<=(2 ^ 63 - 1) / 8:=by decide
  omega
 have hfit : ¬ (!Builtin.List.listFitsIndex k)=true:=by
  rw [fitsIndex_both h1 h2]
  exact Bool.false_ne_true
 have J8 : ¬ Builtin.List.listTooLong (its.toArray.size * k.toNat)=true:=by
  rw [C4 hlen]
  exact Bool.false_ne_true
 have hnew:List.foldl (λ x1 x2=>x1++x2) #[] (List.replicate (if its.toArray.isEmpty=true then 0 else k.toNat) its.toArray)=(List.replicate k.toNat its).flatten.toArray:=by
  have f0 : ∀ m:Nat,List.foldl (λ x1 x2=>x1++x2) #[] (List.replicate m its.toArray)=(List.replicate m its).flatten.toArray:=λ m=>by
   have:=foldl_rep its m []
   rw [List.nil_append] at this
   exact this
  rw [f0]
  cases its with
  | nil=>simp
  | cons a r'=>rw [if_neg (by simp)]
 refine wpAny_binaryOp_repeat_ref (T := "list") (U := "int") (by decide) ⟨_,e,rfl⟩ (λ s'=>typeIs_int s' k t) noFill_list_mul F.fills_int_mul F.slot_int_rmul repeat_list F.slot_int_index.lookup
  (call_meets F.slot_int_rmul (typeIs_int s k t) F.entry_int_rmul (F.args_int_rmul_2 _ _) (int___rmul___int_list k t l its.toArray n)
   ⟨e,rfl,⟨_,e,rfl⟩,call_meets F.slot_list_mul ⟨_,e,rfl⟩ F.entry_list_mul (F.args_list_mul_2 _ _) (AutoListH.list___mul___list_int_3 l its.toArray n k t hfit hcap J8) ⟨e,?_⟩⟩)
 rw [hnew]
 exact ⟨.ref _,_,I.Tc (t':=s.toks) (r.rep k.toNat) (by rw [len_rep,Nat.mul_comm];exact hz),rfl,q _ I.fresh⟩
end
section
variable {prog:Program} {w:World} {A:Around} {E:Value->Shared->Prop} {s:Shared}
end
section
variable {X:Cx}
end
end L2
namespace Vl
open PySem PySem.W PySem.Calls PyProof.Rows
theorem sW {P:Params} {h:Heap} : ∀ (ns:List Int) (vs:List Value),WellAll P h vs (ns.map WData.int)->IntsAre vs ns:=by
 intro ns
 induction ns with
 | nil =>
   intro vs w
   rw [List.map_nil] at w
   cases w
   exact .nil
 | cons n ns ih =>
   intro vs w
   rw [List.map_cons] at w
   cases w with
   | cons a b =>
     cases a
     exact .cons _ _ (ih _ b)
theorem HH {l:OpenLaw} {n:Nat} (hn:l.most=some n) {P:Params} {h:Heap} {args:List WData} {vals:List Value}
  (hpre:l.row.toRowW.claim.pre args=true) (hwl:WellAll P h vals args) :
  ∃ a vs ns,vals = [Value.ref a]/\args = [WData.list (ns.map WData.int)]/\h.get? a=some { cls := .type "list",data := .seq vs.toArray } ∧ IntsAre vs ns/\ns.length<=n:=by
 have hsh:WShape.hasAll [] args [.list .int]=true:=(pre_splitW hpre).1
 have hc:l.pre.holds [] { args:=args } = true:=(pre_splitW hpre).2
 obtain ⟨d,r,rfl,h1,h2⟩:=hasAllW_cons hsh
 obtain rfl:=hasAllW_nil h2
 obtain ⟨xs,rfl,h3⟩:=hasW_list h1
 obtain ⟨ns,rfl⟩:=items_int h3
 have hlen:ns.length<=n:=by
  unfold OpenLaw.pre at hc
  have h4:(WTm.not (.lt (.lit (.int (n:Int))) (.len (.arg 0)))).holds [] { args:=[.list (ns.map .int)] } = true:=by
   have h4:=(holds_andW hc).1
   rw [hn] at h4
   exact h4
  have h5:=condW_of h4 (w_not (w_lt w_lit (w_len_list (w_arg rfl))))
  rw [List.length_map] at h5
  refine Nat.le_of_not_lt λ q => ?_
  have q':(n:Int) < ((ns.length:Nat):Int):=by omega
  first
   | (rw [decide_eq_true q'] at h5;exact absurd h5 (by decide))
   | (simp at h5;omega)
 cases hwl with
 | cons w1 w2 =>
   cases w2
   cases w1 with
   | list ho hall=>exact ⟨_,_,ns,rfl,rfl,ho,sW ns _ hall,hlen⟩
theorem HJ (l:OpenLaw) (args:List WData):l.row.toRowW.claim.post args (.bool true) args=true :=
 postW_of (r:=l.row.toRowW) (X:=(true == true))
  (show WShape.has [] (.bool true) .bool=true by first | rfl | decide | simp [WShape.has,WShape.arms,WShape.armsAll])
  (show (WTm.eq .res (.lit (.bool true))).value [] { args:=args,res:=some (.bool true),after:=args } = some (.bool (true == true)) from w_eq_bool (w_res rfl) w_lit) rfl
section
variable {prog:Program} {w:World} {A:Around} {E:Value->Shared->Prop} {s:Shared} {K:Frag}
def ledger (h:Heap) (L d:Addr):List (Addr×Obj):=(List.range h.objs.size).filterMap λ a=>if a=L\/a=d then none else (h.get? a).map λ o=>(a,o)
end
end Vl
namespace L2
open PySem PySem.Spec PyProof.Rows
theorem AA : ∀ {vs:List Value} {ns:List Int},IntsAre vs ns->Vals (ns.map V.int) vs
 | _,_,.nil => .nil
 | _,_,.cons n t h => .cons ⟨t,rfl⟩ (AA h)
def Ng (H:Hp):Prop := ∀ b,H b=none ∨ ∃ o xs,H b=some (.CG o (.lst xs))
theorem Ka {P:Program} {w:World} {K:PySem.W.Frag} {mg mb:Str->Option Value} {CX:HA} {k:Nat} {fa a:Addr} {fd:FuncData} {x:Str} {sp:Sp} {s₁ : Shared} {vs:List Value} {ns:List Int}
  (KX:K.In s₁.heap) (hns:s₁.heap.Ns mainGlobals mg) (hb:s₁.heap.Ns builtinsNs mb) (Te : ∀ x:Str,x ≠ "__name__"->mb x=bootBuiltins x) (hlim:s₁.heap.NoLimit) (hg:s₁.gens = #[])
  (ha:s₁.heap.get? a=some { cls := .type "list",data := .seq vs.toArray }) (hi:IntsAre vs ns) (hl:ns.length<=sizeLine) (hr:cZ k callerA)
  (F : ∀ base:Heap,K.In base->base.Ns mainGlobals mg->gq P w K mg base CX k fa fd [x] sp) (hbind : ∀ (s:Shared) (u:Value),BindsTo s fd ⟨[u],[]⟩ [(x,u)])
  (Ei : ∀ H:Hp,Ng H->fq K H a (ns.map V.int)->sp [.ref a] H (λ v _=>v = .bl true) λ _ _ _=>False)
  (hCX : ∀ H e s',CX [] H s₁ (λ _ _ _=>False) e s'->False) :
  codeAny (model P w) callerA (.call (.ref fa) ⟨[.ref a],[]⟩) (λ r s'=>r = .ok (.ret (.bool true))/\OldK s₁.heap s'.heap/\s'.os=s₁.os/\AllBare s'.gens) s₁ := by
 have rv:=AA hi
 have Wn:=hi.length
 -- from an abstract heap in which nothing but MG script may be tracked
 have core : ∀ H:Hp,Ng H->fq K H a (ns.map V.int)->j9 P w H s₁.heap->(∀ b,H b≠none->b=a)->(H a≠none->K.lookup a=none) →
   codeAny (model P w) callerA (.call (.ref fa) ⟨[.ref a],[]⟩) (λ r s'=>r = .ok (.ret (.bool true))/\OldK s₁.heap s'.heap/\s'.os=s₁.os/\AllBare s'.gens) s₁ := by
  intro H hO hS hok hA hK
  have GD : ∀ {b:Addr} {o:Obj},s₁.heap.get? b=some o->H b=none->(A2 s₁.heap H).get? b=some o:=λ e n=>JB e n
  have SW : ∀ {b:Addr} {o:Obj} {es:Array DictEntry} {ep:Nat},s₁.heap.get? b=some o->o.data = .dict es ep->H b=none:=fun {b o es ep} e d=>by
   cases q:H b with
   | none=>rfl
   | some u =>
     have e':b=a:=hA b (by rw [q];simp)
     subst e'
     rw [ha] at e;cases e
     have d':Data.seq vs.toArray _=Data.dict es ep:=d
     cases d'
  have Vm : ∀ {b:Addr} {m:Str->Option Value},s₁.heap.Ns b m->(A2 s₁.heap H).Ns b m:=fun {b m} ⟨o,es,ep,e,d,r⟩=>⟨o,es,ep,GD e (SW e d),d,r⟩
  have hKb:K.In (A2 s₁.heap H):=λ b o e=>GD (KX b o e) (by
   cases q:H b with
   | none=>rfl
   | some u =>
     have e':b=a:=hA b (by rw [q];simp)
     subst e'
     rw [hK (by rw [q];simp)] at e;cases e)
  have hM:Mod K mg (A2 s₁.heap H):=⟨hKb,Vm hns,⟨mb,Vm hb,Te⟩,let ⟨mc,h1,h2⟩:=hlim; ⟨mc,Vm h1,h2⟩⟩
  have e0:Ez P w K mg (A2 s₁.heap H) callerA [] s₁ H:=⟨rfl,hM,λ b o e=>MP e,Nat.le_of_eq (Hr _ _),trivial,λ b hb=>absurd (show b∈([]:List Addr) from hb) (by simp),hok,.of_eq hg⟩
  refine codeAny_mono ((F _ hKb (Vm hns)).run callerA [] s₁ H ⟨[.ref a],[]⟩ [.ref a] [.ref a] _ _ hr e0 (hbind s₁ (.ref a)) (.cons rfl .nil) (Ei H hO hS)) λ r s' h => ?_
  cases r with
  | error e=>exact (hCX H e s' h).elim
  | ok fl =>
    cases fl with
    | next=>exact False.elim h
    | brk=>exact False.elim h
    | cont=>exact False.elim h
    | ret u =>
      obtain ⟨v,H',os,bare,un,Wo,r',q⟩:=h
      have q':v = .bl true:=q
      subst q'
      obtain rfl:u=Value.bool true:=r'
      refine ⟨rfl,OldK.of_keep λ b o e => ?_,os,bare⟩
      cases q:H b with
      | none=>exact un.keep b o e q (by intro z;exact absurd (show b∈([]:List Addr) from z) (by simp)) (by simp)
      | some u =>
        rcases hO b with z | ⟨ob,xs,z⟩
        ·rw [q] at z;cases z
        ·have z2:=un.kc b ob _ z
         obtain ⟨e1,_⟩:=hok b _ z
         obtain ⟨e2,_⟩:=Wo b _ z2
         rw [e] at e1;cases e1
         exact e2
 cases hk:K.lookup a with
 | some o =>
   -- MG script is one of MG J7 own objects
   have e:=KX a o hk
   rw [ha] at e
   cases e
   refine core (λ _=>none) (λ _ => .inl rfl) (.inr ⟨_,vs.toArray,_,hk,rfl,rfl,rfl,by rw [List.size_toArray,Wn];exact hl,by simpa using rv⟩) (λ b u z=>by have z':(none:Option HO)=some u:=z;cases z') (λ b z=>absurd rfl z) λ z=>absurd rfl z
 | none =>
   refine core (λ b=>if b=a then some (.CG { cls := .type "list",data := .seq vs.toArray } (.lst (ns.map V.int))) else none) (λ b => ?_) (.inl (.inr ⟨{ cls := .type "list",data := .seq vs.toArray },if_pos rfl⟩)) (λ b u z => ?_) (λ b z => ?_) λ _=>hk
   ·by_cases hb:b=a
    ·exact .inr ⟨_,_,if_pos hb⟩
    ·exact .inl (if_neg hb)
   ·by_cases hb:b=a
    ·have z':=(if_pos hb).symm.trans z
     cases z'
     subst hb
     exact ⟨ha,by rw [List.length_map];exact hl,vs,_,rv,ha⟩
    ·have z':=(if_neg hb).symm.trans z
     cases z'
   ·by_cases hb:b=a
    ·exact hb
    ·exact absurd (if_neg hb) z
end L2
namespace L2
open PySem PySem.Spec PyProof.Rows
abbrev KOf {K:PySem.W.Frag} {h:Heap} (_:K.In h):PySem.W.Frag:=K
end L2
/- THE afn Vn (shape; LID,My.* are ae7):
   My.Adr: a structure of MG addresses afo afp ae8 names (classes,Sg); My.Txt K t: a structure (Prop) of MG equations over K;
   My.EG : {K} {implicit addresses ..} (e1:nsIn K mainGlobals "law" = some (some (.ref f))) (e2:K.lookup f=some ⟨oc,od,.func (fnOf "law" "law" params body scope dV kV doc pm an cdv ct),sl⟩) (e3:codeIn K cdv "law" = true) .. : ∃ t,My.Txt K t
set_option maxRecDepth 100000 in
set_option maxHeartbeats 0 in
theorem PySem.Challenge.cw_LID_holds : PySem.Challenge.rw_LID.Holds := by
 w_on;o_law;k_head; (case hw=>w_witness2)
 k_fill
 refine L2.Vo (l := PySem.Challenge.rw_LID) (n := 63) (k := 40) (x := "script") (CX := fun w => ..) (sp := fun _ => My.Wq) rfl (by decide) rfl ⟨rfl, by decide, by decide⟩ (fun w h Y => PySem.W.kIn_of Y) ?F ?S ?C
 case F =>
  intro w mg fa h KX G hmg
  have T : ∃ t,My.Txt (L2.KOf KX) t:=by
   dsimp only [L2.KOf]                          -- K afq stand as «<heap const> w.params» for k_is
   refine' My.EG ?e1 ?e2 ?e3 ..
   (case e1=>PySem.W.k_is)                    -- in MG order: a name -> its address -> its object -> its parts
   (case e2=>PySem.W.k_is)
   ..
  obtain ⟨t,T⟩:=T
  have e0:=hmg.symm.trans (PySem.W.mg_of KX G T.law)
  cases e0                                       -- fa is MG ae9 own address
  exact ⟨_,λ s u => .of_eq rfl,λ base kb nb=>My.QE T kb nb⟩     -- if «.of_eq rfl» comes too early: refine' ⟨_,?b,λ base kb nb=>My.QE T kb nb⟩;exact λ s u => .of_eq rfl
 case S=>exact λ w H a ns hl hO hS => ..
 case C=>exact ..
(MG tactic k_is has no namespace: write k_is) -/
namespace L2
open PySem PySem.Spec PyProof.Rows
def inClass (s:Stmt) (j:Nat):Stmt:=match s with
 | .ClassDef _ _ _ body _ _ _ _ _ _ _=>body.getD j (.Pass ⟨0,0,0,0⟩)
 | _ => .Pass ⟨0,0,0,0⟩
def aA (s:Stmt):Arguments:=match s with
 | .FunctionDef _ a _ _ _ _ _ _ _ _=>a
 | _ => { posonlyargs:=[],args:=[],vararg:=none,kwonlyargs:=[],kw_defaults:=[],kwarg:=none,defaults:=[] }
def ay (s:Stmt):List Stmt:=match s with
 | .FunctionDef _ _ b _ _ _ _ _ _ _=>b
 | _=>[]
def ai (s:Stmt):Scope:=match s with
 | .FunctionDef _ _ _ _ _ _ sc _ _ _=>sc
 | _ => { kind := .function,names:=[],isGenerator:=false,isCoroutine:=false }
abbrev CX0:HA:=λ _ _ _ _ _ _=>False
abbrev E0:XK:=λ _ _ _=>False
structure HK (K:PySem.W.Frag) (x qual:Str) (st:Stmt) (f:Addr) (fd:FuncData):Prop where
 ex : ∃ (oc:Value) (od:Option Addr) (kV doc pm:Value) (an:Option Addr) (cdv ct:Value) (osl:Array (Option Value)),
  fd=PySem.W.fnOf x qual (aA st) (ay st) (ai st) .none kV doc pm an cdv ct/\K.lookup f=some ⟨oc,od,.func fd,osl⟩/\PySem.W.codeIn K cdv qual=true
 kp:PySem.W.keepIn K (.ref f)=true
section
variable {P:Program} {w:World} {K:PySem.W.Frag} {mg:Str->Option Value} {base:Heap}
theorem HK.ok {x qual:Str} {st:Stmt} {f:Addr} {fd:FuncData} {N ps:List Str} {k:Nat} {sp:Sp} (F:HK K x qual st f fd) (S:aD N ps (ai st)) (len : ∀ vs H Q E,sp vs H Q E->vs.length=ps.length)
  (hbody : ∀ (cdv:Value) (A:Around) (outer:List Env) (s:Shared) (H:Hp) (vs:List V) (Q:VK) (E:XK),cZ k (A.deeper (envOfC qual (ai st) s.heap.objs.size f cdv))->sp vs H Q E →
   ∃ t,A4 (u5 CX0 P w K mg base N qual (ai st) f cdv A outer s H E).Eh (ay st) t/\t { nx:=λ _ H'=>Q .aI H',rt:=Q } (start N vs) H):gq P w K mg base CX0 (k+1) f fd ps sp:=by
 obtain ⟨oc,od,kV,doc,pm,an,cdv,ct,osl,rfl,lk,hcd⟩:=F.ex
 refine Aw lk hcd S len λ A outer s H vs Q E hr Ei => ?_
 obtain ⟨t,h,q⟩:=hbody cdv A outer s H vs Q E hr Ei
 exact ⟨t,h.Eh,q⟩
theorem HK.binds {x qual:Str} {st:Stmt} {f:Addr} {fd:FuncData} {ps:List Str} (F:HK K x qual st f fd)
  (h : ∀ (kV doc pm:Value) (an:Option Addr) (cdv ct:Value) (us:List Value),us.length=ps.length->bindArgs (PySem.W.fnOf x qual (aA st) (ay st) (ai st) .none kV doc pm an cdv ct) ⟨us,[]⟩ = pure (ps.zip us)):Binds K fd ps []:=by
 obtain ⟨oc,od,kV,doc,pm,an,cdv,ct,osl,rfl,lk,hcd⟩:=F.ex
 exact .all (h kV doc pm an cdv ct)
theorem EH {x qual:Str} {st:Stmt} {f:Addr} {oc:Value} {od an:Option Addr} {osl:Array (Option Value)} {kV doc pm cdv ct:Value} (l:K.lookup f=some ⟨oc,od,.func (PySem.W.fnOf x qual (aA st) (ay st) (ai st) .none kV doc pm an cdv ct),osl⟩)
  (c:PySem.W.codeIn K cdv qual=true) (k:PySem.W.keepIn K (.ref f)=true):HK K x qual st f (PySem.W.fnOf x qual (aA st) (ay st) (ai st) .none kV doc pm an cdv ct):=⟨⟨oc,od,kV,doc,pm,an,cdv,ct,osl,rfl,l,c⟩,k⟩
end
section
variable {X:Cx}
theorem pv (i:Nat) {x:Str} {pos:Pos} (hN:X.N[i]? = some x:=by rfl) (hv:PZ X.env.scope x:=by first | exact Or.inl rfl | exact Or.inr (Or.inl rfl) | exact Or.inr (Or.inr rfl)) (hd:(x == ("__debug__" : Str))=false:=by decide)
  (hcd:(x == ("__classdict__" : Str))=false:=by decide):PE X (.Name x pos) (Ht i):=Eo hN hv hd hcd
theorem aq (i:Nat) {x:Str} {pos:Pos} (h:X.N[i]? = some x/\PZ X.env.scope x/\(x == ("__debug__" : Str))=false/\(x == ("__classdict__" : Str))=false):PE X (.Name x pos) (Ht i):=Eo h.1 h.2.1 h.2.2.1 h.2.2.2
theorem HL:kM X (.builtin "len") (λ xs H Q => ∃ a kvs,xs = [V.ref a]/\H a=some (.dK kvs)/\Q (.int kvs.length) H):=by
 intro pins s σ H xs us Q I r h
 obtain ⟨a,kvs,rfl,ha,q⟩:=h
 obtain ⟨u,rfl,ru⟩:=vals1 r
 cases ru
 exact S5 I (.inl ha) λ t s' I'=>⟨.int kvs.length,H,I',⟨t,rfl⟩,q⟩
end
theorem Tf {A B:Prop} (h:B):if false=true then A else B:=by
 rw [if_neg Bool.false_ne_true]
 exact h
theorem Tg {A B:Prop} (h:A):if true=true then A else B:=by
 rw [if_pos rfl]
 exact h
theorem Wr {c A B:Prop} [Decidable c] (h1:c->A) (h2 : ¬ c->B):if c then A else B:=by
 by_cases h:c
 ·rw [if_pos h]
  exact h1 h
 ·rw [if_neg h]
  exact h2 h
def kh (H H':Hp):Prop := ∀ b o,H b=some o->H' b=some o
theorem kh.trans {H H1 H2:Hp} (a:kh H H1) (b:kh H1 H2):kh H H2:=λ c o h=>b c o (a c o h)
theorem kh.free {H H':Hp} (e:kh H H') {l:Addr} (h:H' l=Option.none):H l=Option.none:=by
 cases q:H l with
 | none=>rfl
 | some o =>
   rw [e l o q] at h
   cases h
theorem kh.seq {K:PySem.W.Frag} {H H':Hp} {a:Addr} {xs:List V} (e:kh H H') (h:fq K H a xs):fq K H' a xs:=by
 rcases h with (h | ⟨o,h⟩) | h
 ·exact .inl (.inl (e _ _ h))
 ·exact .inl (.inr ⟨o,e _ _ h⟩)
 ·exact .inr h
section
variable {κ : Type} [DecidableEq κ]
theorem C5 {kvs:List (κ × V)} {k : κ} (h:bB kvs k=none) : ¬ k∈kvs.map (·.1):=by
 intro m
 obtain ⟨p,hp,e⟩:=List.mem_map.mp m
 have q:(kvs.any λ kv=>decide (kv.1=k))=true:=List.any_eq_true.mpr ⟨p,hp,decide_eq_true e⟩
 rw [c6,h] at q
 exact absurd q (by simp)
theorem Nh {kvs:List (κ × V)} {k : κ} {v:V} (h:bB kvs k=some v):k∈kvs.map (·.1):=by
 have q:(kvs.any λ kv=>decide (kv.1=k))=true:=by
  rw [c6,h]
  all_goals rfl
 obtain ⟨p,hp,e⟩:=List.any_eq_true.mp q
 exact List.mem_map.mpr ⟨p,hp,of_decide_eq_true e⟩
theorem GF : ∀ {l:List κ} {k : κ},l.Nodup->¬ k∈l->(l++[k]).Nodup
 | [],k,_,_=>by simp
 | a::r,k,h,hk=>by
   obtain ⟨h1,h2⟩:=List.nodup_cons.mp h
   show (a::(r++[k])).Nodup
   refine List.nodup_cons.mpr ⟨λ m => ?_,GF h2 λ m=>hk (List.mem_cons.mpr (Or.inr m))⟩
   rcases List.mem_append.mp m with q | q
   ·exact h1 q
   ·exact hk (List.mem_cons.mpr (Or.inl (List.mem_singleton.mp q).symm))
theorem Ni {kvs:List (κ × V)} {k : κ} (v:V) (hn:(kvs.map (·.1)).Nodup) (h:bB kvs k=none):((putK kvs k v).map (·.1)).Nodup:=by
 rw [CZ v h,List.map_append]
 exact GF hn (C5 h)
theorem AB {p : κ × V} {r:List (κ × V)} {k : κ} (e:p.1=k):dI (p::r) k=dI r k:=by
 unfold dI
 rw [List.filter_cons,if_neg (by simp [e])]
theorem AD {p : κ × V} {r:List (κ × V)} {k : κ} (e : ¬ p.1=k):dI (p::r) k=p::dI r k:=by
 unfold dI
 rw [List.filter_cons,if_pos (by simp [e])]
theorem AE {kvs:List (κ × V)} {k : κ} {p : κ × V} (h:p∈dI kvs k):p∈kvs:=(List.mem_filter.mp h).1
theorem ve : ∀ {kvs:List (κ × V)} {k : κ},(kvs.map (·.1)).Nodup->((dI kvs k).map (·.1)).Nodup
 | [],_,_=>List.nodup_nil
 | p::r,k,h=>by
   have h:(p.1::r.map (·.1)).Nodup:=h
   obtain ⟨h1,h2⟩:=List.nodup_cons.mp h
   by_cases e:p.1=k
   ·rw [AB e]
    exact ve h2
   ·rw [AD e]
    show (p.1::(dI r k).map (·.1)).Nodup
    refine List.nodup_cons.mpr ⟨λ m=>h1 ?_,ve h2⟩
    obtain ⟨q,hq,eq⟩:=List.mem_map.mp m
    exact List.mem_map.mpr ⟨q,AE hq,eq⟩
end
end L2
namespace L2
open PySem PySem.Spec PyProof.Rows
structure OX (P:Program) (w:World) (l:List Env) (H:Hp) (h0:Heap) (H':Hp) (h:Heap) (ea:Addr) (cls:Value):Prop where
 un:Un (frs l) [] H H' h0 h
 hok:j9 P w H' h
 new:h0.get? ea=none
 fly : ∃ B a0,Heap.FlyingW B l ea cls a0 h/\(∀ b u o,H' b=some u->h.get? b=some o->B.get? b=some o) ∧ ∀ b o o',h0.get? b=some o->h.get? b=some o'->b ∉ frs l->B.get? b=some o'
def xY (P:Program) (w:World):HA:=λ outer H s E e s' => ∃ (H':Hp) (ea:Addr) (cls:Value),e = .ref ea/\s'.os=s.os/\AllBare s'.gens/\OX P w outer H s.heap H' s'.heap ea cls/\E cls none H'
theorem aB {P:Program} {w:World} {X:Cx} : Passes (xY P w) X E0:=λ _ _ _ _ _ _ _ ⟨_,_,_,_,_,_,_,h⟩=>h.elim
def Def (K:PySem.W.Frag) (mg:Str->Option Value) (x:Str) (st:Stmt):Prop := ∃ f fd,mg x=some (.ref f)/\HK K x x st f fd
structure dF (P:Program) (w:World) (K:PySem.W.Frag) (mg:Str->Option Value) (base:Heap) (k:Nat) (x:Str) (ps:List Str) (sp:Sp):Prop where
 ex : ∃ f fd,mg x=some (.ref f)/\PySem.W.keepIn K (.ref f)=true/\Binds K fd ps []/\gq P w K mg base (xY P w) k f fd ps sp
theorem dF.mono {P:Program} {w:World} {K:PySem.W.Frag} {mg:Str->Option Value} {base:Heap} {j k:Nat} {x:Str} {ps:List Str} {sp:Sp} (F:dF P w K mg base j x ps sp) (h:j<=k):dF P w K mg base k x ps sp:=by
 obtain ⟨f,fd,h1,h2,h3,h4⟩:=F.ex
 exact ⟨f,fd,h1,h2,h3,h4.mono h⟩
section
variable {P:Program} {w:World} {K:PySem.W.Frag} {mg:Str->Option Value} {base:Heap}
theorem HK.okN {x qual:Str} {st:Stmt} {f:Addr} {fd:FuncData} {N ps:List Str} {k:Nat} {sp:Sp} (F:HK K x qual st f fd) (S:aD N ps (ai st)) (len : ∀ vs H Q E,sp vs H Q E->vs.length=ps.length)
  (hbody : ∀ (cdv:Value) (A:Around) (outer:List Env) (s:Shared) (H:Hp) (vs:List V) (Q:VK) (E:XK),cZ k (A.deeper (envOfC qual (ai st) s.heap.objs.size f cdv))->sp vs H Q E →
   ∃ t,A4 (u5 (xY P w) P w K mg base N qual (ai st) f cdv A outer s H E).Eh (ay st) t/\t { nx:=λ _ H'=>Q .aI H',rt:=Q } (start N vs) H):gq P w K mg base (xY P w) (k+1) f fd ps sp:=by
 obtain ⟨oc,od,kV,doc,pm,an,cdv,ct,osl,rfl,lk,hcd⟩:=F.ex
 refine Aw lk hcd S len λ A outer s H vs Q E hr Ei => ?_
 obtain ⟨t,h,q⟩:=hbody cdv A outer s H vs Q E hr Ei
 exact ⟨t,h.Eh,q⟩
theorem Def.ok {x:Str} {st:Stmt} {N ps:List Str} {k:Nat} {sp:Sp} (D:Def K mg x st) (S:aD N ps (ai st)) (len : ∀ vs H Q E,sp vs H Q E->vs.length=ps.length)
  (hb : ∀ (kV doc pm:Value) (an:Option Addr) (cdv ct:Value) (us:List Value),us.length=ps.length->bindArgs (PySem.W.fnOf x x (aA st) (ay st) (ai st) .none kV doc pm an cdv ct) ⟨us,[]⟩ = pure (ps.zip us))
  (hbody : ∀ (f:Addr) (cdv:Value) (A:Around) (outer:List Env) (s:Shared) (H:Hp) (vs:List V) (Q:VK) (E:XK),cZ k (A.deeper (envOfC x (ai st) s.heap.objs.size f cdv))->sp vs H Q E →
   ∃ t,A4 (u5 (xY P w) P w K mg base N x (ai st) f cdv A outer s H E).Eh (ay st) t/\t { nx:=λ _ H'=>Q .aI H',rt:=Q } (start N vs) H):dF P w K mg base (k+1) x ps sp:=by
 obtain ⟨f,fd,hm,F⟩:=D
 refine ⟨f,fd,hm,F.kp,F.binds hb,?_⟩
 obtain ⟨oc,od,kV,doc,pm,an,cdv,ct,osl,rfl,lk,hcd⟩:=F.ex
 refine Aw lk hcd S len λ A outer s H vs Q E hr Ei => ?_
 obtain ⟨t,h,q⟩:=hbody f cdv A outer s H vs Q E hr Ei
 exact ⟨t,h.Eh,q⟩
end
section
variable {X:Cx} {k:Nat} {ps:List Str} {sp:Sp} {E:XK} {x:Str} {p pos:Pos} {e:Expr} {es:List Expr} {t:TA}
theorem aC (F:dF X.prog X.w X.K X.mg X.base k x ps sp) (hr:cZ k X.A) (hg:Gl X x) (hx:Passes (xY X.prog X.w) X E) (ha:PA X (e::es) t)
  (hdb:(x == ("__debug__" : Str))=false:=by decide) (he:starEach (e::es) X.env=(false,eval e X.env)::starEach es X.env:=by rfl) (hpl:(backTo pos (starEach es X.env)).any (·.1)=false:=by rfl) :
  PE X (.Call (.Name x p) (e::es) [] pos) (Gz sp [] E t):=by
 obtain ⟨f,fd,h1,h2,h3,h4⟩:=F.ex
 exact M4 h4 hr hg h1 h2 h3 .nil hx ha hdb he hpl
end
section
variable {X:Cx}
def Ws (K:PySem.W.Frag):List V->Hp->VK->Prop:=λ xs H Q => ∃ x c t b,xs = [x,c]/\oZ K H x t/\((∃ n,c = .ty n/\PySem.W.kitOne K t (.type n)=some b) ∨ ∃ a,c = .ref a/\PySem.W.kitOne K t (.ref a)=some b)/\Q (.bl b) H
theorem Kc:kM X (.builtin "isinstance") (Ws X.K):=by
 intro pins s σ H xs us Q I r h
 obtain ⟨x,c,t,b,rfl,ty,hc,q⟩:=h
 obtain ⟨u,v,rfl,ru,rv⟩:=Vals.two r
 rcases hc with ⟨n,rfl,e⟩ | ⟨a,rfl,e⟩
 ·cases (show v=Value.type n from rv)
  exact An I ru ty e λ tk=>⟨.bl b,H,I.tok tk,rfl,q⟩
 ·cases (show v=Value.ref a from rv)
  exact An I ru ty e λ tk=>⟨.bl b,H,I.tok tk,rfl,q⟩
end
theorem bA:bootBuiltins "isinstance" = some (.builtin "isinstance"):=by decide +kernel
theorem bK:bootBuiltins "len" = some (.builtin "len"):=by decide +kernel
theorem Kd:bootBuiltins "int" = some (.type "int"):=by decide +kernel
theorem Be:bootBuiltins "bool" = some (.type "bool"):=by decide +kernel
theorem Ke:bootBuiltins "str" = some (.type "str"):=by decide +kernel
theorem bS:bootBuiltins "list" = some (.type "list"):=by decide +kernel
theorem C6:bootBuiltins "tuple" = some (.type "tuple"):=by decide +kernel
structure jd (mg:Str->Option Value):Prop where
 isinstance:mg "isinstance" = none
 len:mg "len" = none
 int:mg "int" = none
 bool:mg "bool" = none
 str:mg "str" = none
 list:mg "list" = none
 tuple:mg "tuple" = none
 dict:mg "dict" = none
 range:mg "range" = none
 sorted:mg "sorted" = none
 min:mg "min" = none
 max:mg "max" = none
 all:mg "all" = none
 any:mg "any" = none
 enumerate:mg "enumerate" = none
 sum:mg "sum" = none
 ValueError:mg "ValueError" = none
theorem QF {K:PySem.W.Frag} {h:Heap} {mg:Str->Option Value} (X:K.In h) (G:h.Ns mainGlobals mg)
  (z0:PySem.W.nsIn K mainGlobals "isinstance" = some none)
  (z1:PySem.W.nsIn K mainGlobals "len" = some none)
  (z2:PySem.W.nsIn K mainGlobals "int" = some none)
  (z3:PySem.W.nsIn K mainGlobals "bool" = some none)
  (z4:PySem.W.nsIn K mainGlobals "str" = some none)
  (z5:PySem.W.nsIn K mainGlobals "list" = some none)
  (z6:PySem.W.nsIn K mainGlobals "tuple" = some none)
  (z7:PySem.W.nsIn K mainGlobals "dict" = some none)
  (z8:PySem.W.nsIn K mainGlobals "range" = some none)
  (z9:PySem.W.nsIn K mainGlobals "sorted" = some none)
  (Vp:PySem.W.nsIn K mainGlobals "min" = some none)
  (Vq:PySem.W.nsIn K mainGlobals "max" = some none)
  (Vr:PySem.W.nsIn K mainGlobals "all" = some none)
  (Vs:PySem.W.nsIn K mainGlobals "any" = some none)
  (Vt:PySem.W.nsIn K mainGlobals "enumerate" = some none)
  (Vu:PySem.W.nsIn K mainGlobals "sum" = some none)
  (Vv:PySem.W.nsIn K mainGlobals "ValueError" = some none)
  : jd mg:=⟨PySem.W.mg_none_of X G z0,PySem.W.mg_none_of X G z1,PySem.W.mg_none_of X G z2,PySem.W.mg_none_of X G z3,PySem.W.mg_none_of X G z4,PySem.W.mg_none_of X G z5,PySem.W.mg_none_of X G z6,PySem.W.mg_none_of X G z7,PySem.W.mg_none_of X G z8,PySem.W.mg_none_of X G z9,PySem.W.mg_none_of X G Vp,PySem.W.mg_none_of X G Vq,PySem.W.mg_none_of X G Vr,PySem.W.mg_none_of X G Vs,PySem.W.mg_none_of X G Vt,PySem.W.mg_none_of X G Vu,PySem.W.mg_none_of X G Vv⟩
theorem bO {K:PySem.W.Frag} {h:Heap} {mg:Str->Option Value} {x:Str} {st:Stmt} {f:Addr} {oc:Value} {od an:Option Addr} {osl:Array (Option Value)} {kV doc pm cdv ct:Value} (X:K.In h) (G:h.Ns mainGlobals mg)
  (a:PySem.W.nsIn K mainGlobals x=some (some (.ref f))) (l:K.lookup f=some ⟨oc,od,.func (PySem.W.fnOf x x (aA st) (ay st) (ai st) .none kV doc pm an cdv ct),osl⟩)
  (c:PySem.W.codeIn K cdv x=true) (k:PySem.W.keepIn K (.ref f)=true):Def K mg x st:=⟨f,_,PySem.W.mg_of X G a,EH l c k⟩
theorem Ti {P:Program} {w:World} {K:PySem.W.Frag} {mg:Str->Option Value} {st:Stmt} {fa:Addr} {k:Nat} {sp:Sp} {x:Str} (D:Def K mg "law" st) (hmg:mg "law" = some (.ref fa))
  (hb : ∀ (kV doc pm:Value) (an:Option Addr) (cdv ct u:Value),bindArgs (PySem.W.fnOf "law" "law" (aA st) (ay st) (ai st) .none kV doc pm an cdv ct) ⟨[u],[]⟩ = pure [(x,u)])
  (ok : ∀ (base:Heap) (f:Addr) (fd:FuncData),HK K "law" "law" st f fd->gq P w K mg base (xY P w) k f fd [x] sp) :
  ∃ fd:FuncData,(∀ (s:Shared) (u:Value),BindsTo s fd ⟨[u],[]⟩ [(x,u)]) ∧ ∀ base:Heap,K.In base->base.Ns mainGlobals mg->gq P w K mg base (xY P w) k fa fd [x] sp:=by
 obtain ⟨f,fd,hm,F⟩:=D
 rw [hm] at hmg
 cases hmg
 obtain ⟨oc,od,kV,doc,pm,an,cdv,ct,osl,rfl,lk,hcd⟩:=id F.ex
 exact ⟨_,λ s u => .of_eq (hb kV doc pm an cdv ct u),λ base _ _=>ok base _ _ F⟩
end L2
namespace L2
open PySem PySem.Spec PyProof.Rows
def Is {α : Sort _} (a b : α):Prop:=a=b
theorem Is.eq {α : Sort _} {a b : α} (h:Is a b):a=b:=h
theorem Is.rfl {α : Sort _} {a : α} : Is a a:=Eq.refl a
theorem Wt {t u:TS} {D:Ends} {σ : St} {H:Hp} (h : ∀ M,Is M (u D)->t { D with nx:=M } σ H):JG t u D σ H:=h _ Is.rfl
def OY (K:PySem.W.Frag) (a:Addr) (g:TG) (tb:TS) (D:Ends) (σ : St) (H:Hp):Prop :=
 ∃ W:Nat->Nat->St->Hp->Prop,(∃ m,W 0 m σ H) ∧ ∀ i m σ H,W i m σ H →
     ((Jx K a).stop i H/\D.nx σ H)\/((Jx K a).go i H ∧ ∃ N:St->Hp->Prop,(∀ σ' H',N σ' H'->∃ m',m' < m/\W (i+1) m' σ' H') ∧ ∀ x H',(Jx K a).MV i H x H'->g x σ H' fun σ2 H2=>tb { D with nx:=N,ct:=N,bk:=D.nx } σ2 H2)
theorem forL {K:PySem.W.Frag} {tl:TE} {g:TG} {tb:TS} {D:Ends} {σ : St} {H:Hp}
  (h : ∀ L,Is L (λ a H1=>OY K a g tb D σ H1)->tl σ H λ x H1 => ∃ a,x = .ref a/\(∃ xs,fq K H1 a xs)/\L a H1):Qi (JL K tl) g tb D σ H:=h _ Is.rfl
theorem OZ {K:PySem.W.Frag} {a:Addr} {g:TG} {tb:TS} {D:Ends} {σ : St} {H:Hp} (xs:List V) (Pv:Nat->St->Hp->Prop) (h0:Pv 0 σ H) (hl : ∀ i σ H,i<=xs.length->Pv i σ H->fq K H a xs)
  (hs : ∀ i x σ H,xs[i]? = some x->Pv i σ H->g x σ H fun σ2 H2=>tb { D with nx:=Pv (i+1),ct:=Pv (i+1),bk:=D.nx } σ2 H2) (hd : ∀ σ H,Pv xs.length σ H->D.nx σ H):OY K a g tb D σ H:=JO Pv h0 hl hs hd
def O0 (lo:Int) (n:Nat) (g:TG) (tb:TS) (D:Ends) (σ : St) (H:Hp):Prop :=
 ∃ W:Nat->Nat->St->Hp->Prop,(∃ m,W 0 m σ H) ∧ ∀ i m σ H,W i m σ H →
     ((Hu lo n).stop i H/\D.nx σ H)\/((Hu lo n).go i H ∧ ∃ N:St->Hp->Prop,(∀ σ' H',N σ' H'->∃ m',m' < m/\W (i+1) m' σ' H') ∧ ∀ x H',(Hu lo n).MV i H x H'->g x σ H' fun σ2 H2=>tb { D with nx:=N,ct:=N,bk:=D.nx } σ2 H2)
theorem o5 {ta:TA} {g:TG} {tb:TS} {D:Ends} {σ : St} {H:Hp}
  (h : ∀ L,Is L (λ n H1=>O0 0 n g tb D σ H1)->ta σ H λ vs H1 => ∃ j:Int,vs = [.int j] ∧ -(2 ^ 62)<=j/\j < 2 ^ 62/\L j.toNat H1):Qi (JN ta) g tb D σ H:=h _ Is.rfl
theorem o6 {lo:Int} {n:Nat} {g:TG} {tb:TS} {D:Ends} {σ : St} {H:Hp} (Pv:Nat->St->Hp->Prop) (h0:Pv 0 σ H)
  (hs : ∀ i σ H,i < n->Pv i σ H->g (.int (lo+i)) σ H fun σ2 H2=>tb { D with nx:=Pv (i+1),ct:=Pv (i+1),bk:=D.nx } σ2 H2) (hd : ∀ σ H,Pv n σ H->D.nx σ H):O0 lo n g tb D σ H:=Hx Pv h0 hs hd
theorem Tj {c:Prop} [Decidable c] {A B:Prop} (h1:c->A) (h2 : ¬ c->B):if decide c=true then A else B:=by
 by_cases h:c
 ·rw [decide_eq_true h];exact Tg (h1 h)
 ·rw [decide_eq_false h];exact Tf (h2 h)
theorem vf {H:Hp} {a:Addr} {o:HO} (h:H a=none):kh H (upd H a o):=λ b o' e=>by rw [bZ (fR e h)];exact e
end L2
namespace L2
open PySem PySem.Spec PyProof.Rows
section
variable {X:Cx}
def EI:R2:=λ x y H Q => ∃ p i,x = .ref p/\y = .int i/\((∃ xs,H p=some (.lst xs) ∧ ∃ v,iZ xs i=some v/\Q v H)\/(∃ xs,H p=some (.tup xs) ∧ ∃ v,iZ xs i=some v/\Q v H))
theorem aQ:Se X EI:=by
 intro value slice pins s σ H x y v u Q I rx ry h hs
 obtain ⟨p,i,e1,e2,⟨xs,hp,z,ha,q⟩ | ⟨xs,hp,z,ha,q⟩⟩:=h
 ·exact GC value slice pins s σ H x y v u Q I rx ry ⟨p,xs,i,z,e1,e2,fq.of hp,ha,q⟩ hs
 ·exact Qw value slice pins s σ H x y v u Q I rx ry ⟨p,xs,i,z,e1,e2,Eg.of hp,ha,q⟩ hs
def vg:List V->Hp->VK->Prop:=λ xs H Q => ∃ p,xs = [.ref p]/\((∃ ys,H p=some (.lst ys)/\Q (.int ys.length) H)\/(∃ ys,H p=some (.tup ys)/\Q (.int ys.length) H)\/(∃ kvs,H p=some (.dK kvs)/\Q (.int kvs.length) H))
theorem aO:kM X (.builtin "len") vg:=by
 intro pins s σ H xs us Q I r h
 obtain ⟨p,e1,⟨ys,hp,q⟩ | ⟨ys,hp,q⟩ | ⟨kvs,hp,q⟩⟩:=h
 ·exact jD pins s σ H xs us Q I r ⟨p,ys,e1,.inl (fq.of hp),q⟩
 ·exact jD pins s σ H xs us Q I r ⟨p,ys,e1,.inr (Eg.of hp),q⟩
 ·exact HL pins s σ H xs us Q I r ⟨p,kvs,e1,hp,q⟩
theorem O1 {α : Type} {x : α} {xs:List α} : iZ (x::xs) 0=some x:=gG (j:=0) rfl
theorem O2 {α : Type} {x y : α} {xs:List α} : iZ (x::y::xs) 1=some y:=gG (j:=1) rfl
theorem O3 {α : Type} {x y z : α} {xs:List α} : iZ (x::y::z::xs) 2=some z:=gG (j:=2) rfl
theorem O4 {α : Type} {x y z t : α} {xs:List α} : iZ (x::y::z::t::xs) 3=some t:=gG (j:=3) rfl
theorem O5 {α : Type} {x y z t r : α} {xs:List α} : iZ (x::y::z::t::r::xs) 4=some r:=gG (j:=4) rfl
def gH (t n:String):Option Bool:=PySem.W.kitOne [] (.type t) (.type n)
def Jy (H:Hp):V->Option String
 | .aI=>some "NoneType"
 | .bl _=>some "bool"
 | .int _=>some "int"
 | .str _=>some "str"
 | .ref a=>match H a with
   | some (.lst _)=>some "list"
   | some (.tup _)=>some "tuple"
   | some (.dK _)=>some "dict"
   | _=>none
 | _=>none
theorem QG {K:PySem.W.Frag} {H:Hp} {x:V} {t:String} (h:Jy H x=some t):oZ K H x (.type t):=by
 cases x with
 | aI=>cases h;exact .aI
 | bl b=>cases h;exact .bl b
 | int i=>cases h;exact .int i
 | str i=>cases h;exact .str i
 | ref a =>
   unfold Jy at h
   cases e:H a with
   | none=>simp only [e] at h;cases h
   | some o =>
     simp only [e] at h
     cases o with
     | lst xs=>cases h;exact .lst e
     | tup xs=>cases h;exact .tup e
     | dK xs=>cases h;exact .dK e
     | _=>cases h
 | _=>cases h
theorem QI (K:PySem.W.Frag) (t n:String):PySem.W.kitOne K (.type t) (.type n)=gH t n:=by
 unfold gH PySem.W.kitOne PySem.W.kitCls PySem.W.subIn
 rfl
def Kf:List V->Hp->VK->Prop:=λ xs H Q => ∃ x n t b,xs = [x,.ty n]/\Jy H x=some t/\gH t n=some b/\Q (.bl b) H
theorem dc:kM X (.builtin "isinstance") Kf:=by
 intro pins s σ H xs us Q I r h
 obtain ⟨x,n,t,b,e1,e2,e3,q⟩:=h
 exact Kc pins s σ H xs us Q I r ⟨x,.ty n,.type t,b,e1,QG e2,.inl ⟨n,rfl,by rw [QI];exact e3⟩,q⟩
theorem C7:gH "int" "int" = some true:=rfl
theorem Bf:gH "int" "bool" = some false:=rfl
theorem yb:gH "bool" "bool" = some true:=rfl
theorem Bg:gH "NoneType" "int" = some false:=rfl
theorem yc:gH "NoneType" "bool" = some false:=rfl
theorem C8:gH "str" "int" = some false:=rfl
theorem Bh:gH "str" "bool" = some false:=rfl
theorem Bj:gH "list" "int" = some false:=rfl
theorem yd:gH "list" "bool" = some false:=rfl
theorem ye:gH "tuple" "int" = some false:=rfl
theorem vh:gH "tuple" "bool" = some false:=rfl
theorem yf:gH "list" "list" = some true:=rfl
theorem sX:gH "tuple" "tuple" = some true:=rfl
theorem vm:gH "list" "tuple" = some false:=rfl
theorem yg:gH "NoneType" "list" = some false:=rfl
theorem vn:gH "NoneType" "tuple" = some false:=rfl
theorem C9:gH "str" "str" = some true:=rfl
end
section
variable {X:Cx} {o e:Expr} {to:TE} {t:TA} {apos pos:Pos}
end
end L2
namespace L2
open PySem PySem.Spec PyProof.Rows
theorem bU.there {P:Program} {w:World} {H:Hp} {h:Heap} {a:Addr} {o:HO} (x:bU P w H h a o) : ∃ u,h.get? a=some u:=by
 cases o with
 | lst xs=>obtain ⟨_,_,_,_,e⟩:=x;exact ⟨_,e⟩
 | tup xs=>obtain ⟨_,_,_,o,e,_⟩:=x;exact ⟨_,e⟩
 | dK kvs=>obtain ⟨_,_,_,_,o,_,_,e,_⟩:=x;exact ⟨_,e⟩
 | dT kvs=>obtain ⟨_,_,_,_,o,_,_,e,_⟩:=x;exact ⟨_,e⟩
 | set S n=>obtain ⟨o,_,_,_,e,_⟩:=x;exact ⟨_,e⟩
 | ins C dx fs=>obtain ⟨_,_,_,e,_⟩:=x;exact ⟨_,e⟩
 | own y=>obtain ⟨_,e⟩:=x;exact ⟨_,e⟩
 | xd fs=>obtain ⟨_,⟨_,_,_,e,_⟩,_⟩:=x;exact ⟨_,e⟩
 | Vc lo hi=>obtain ⟨_,_,_,e⟩:=x;exact ⟨_,e⟩
 | CG ob u=>obtain ⟨e,_⟩:=x;exact ⟨_,e⟩
 | OO ps=>exact ⟨_,(show h.get? a=some _ from x)⟩
 | met f y=>exact ⟨_,(show h.get? a=some _ from x)⟩
 | ext φ => obtain ⟨_,⟨_,e⟩,_⟩:=x;exact ⟨_,e⟩
theorem Bk {P:Program} {w:World} {l:List Env} {H H':Hp} {h0 h h2 B:Heap} (un:Un (frs l) [] H H' h0 h) (hok:j9 P w H' h) (fr:h.FunFrames B l)
  (tr : ∀ b u o,H' b=some u->h.get? b=some o->B.get? b=some o) (kp : ∀ b o o',h0.get? b=some o->h.get? b=some o'->b ∉ frs l->B.get? b=some o') (st:B.StaysIn h2) (sm:h.UpToSlots h2) :
  Un (frs l) [] H H' h0 h2/\j9 P w H' h2:=by
 refine ⟨⟨λ b o q n hb hx => ?_,λ b o q n hb hx => ?_,un.free,λ b o q hx => ?_,un.tups,un.kc,un.kJ⟩,λ a o e => ?_⟩
 ·exact st b o (kp b o o q (un.keep b o q n hb hx) hb)
 ·obtain ⟨sl,e⟩:=un.slot b o q n hb hx
  obtain ⟨_,o',ho',hd⟩:=fr.mem hb
  rw [e] at ho';cases ho'
  obtain ⟨JA,e'⟩:=sm b _ e hd
  exact ⟨JA,e'⟩
 ·obtain ⟨o',e⟩:=un.there b o q hx
  by_cases hb:b∈frs l
  ·obtain ⟨_,o2,ho2,hd⟩:=fr.mem hb
   obtain ⟨JA,e'⟩:=sm b _ ho2 hd
   exact ⟨_,e'⟩
  ·exact ⟨o',st b o' (kp b o o' q e hb)⟩
 ·refine (hok a o e).stay (λ b u hb q => ?_) (λ _ q=>q) λ _ _ q=>q
  rcases hb with rfl | hb
  ·exact st b u (tr b _ u e q)
  ·exact st b u (tr b _ u hb q)
theorem GG {fs fs':List Addr} {L:Addr} {H H1 H2:Hp} {h h1 h2:Heap} (a:Un fs [] H H1 h h1) (b:Un fs' [] H1 H2 h1 h2) (hL:h.get? L=none) (sub : ∀ x∈fs',x=L\/x∈fs):Un fs [] H H2 h h2 where
 keep:=λ c ob q n hc hx=>b.keep c ob (a.keep c ob q n hc hx) (a.free c ob q n hx) (λ z=>(sub c z).elim (λ e=>by rw [e,hL] at q;cases q) hc) hx
 slot:=λ c ob q n hc hx=>by
  obtain ⟨sl,e1⟩:=a.slot c ob q n hc hx
  obtain ⟨JA,e2⟩:=b.any e1 (a.free c ob q n hx) hx
  exact ⟨JA,e2⟩
 free:=λ c ob q n hx=>by
  obtain ⟨o',e1⟩:=a.there c ob q hx
  exact b.free c o' e1 (a.free c ob q n hx) hx
 there:=λ c ob q hx=>by
  obtain ⟨o',e1⟩:=a.there c ob q hx
  exact b.there c o' e1 hx
 tups:=λ c xs q=>b.tups c xs (a.tups c xs q)
 kc:=λ c ob xs q=>b.kc c ob xs (a.kc c ob xs q)
 kJ:=λ c ps q=>by
  obtain ⟨m1,e1⟩:=a.kJ c ps q
  obtain ⟨m2,e2⟩:=b.kJ c _ e1
  exact ⟨m1++m2,by rw [e2,Array.append_assoc]⟩
section
variable {P:Program} {w:World} {K:PySem.W.Frag} {mg:Str->Option Value} {base:Heap} {N:List Str} {qual:Str} {scope:Scope} {f:Addr} {cd:Value} {A:Around} {outer:List Env} {s:Shared} {H:Hp} {E:XK}
abbrev HM (P:Program) (w:World) (K:PySem.W.Frag) (mg:Str->Option Value) (base:Heap) (N:List Str) (qual:Str) (scope:Scope) (f:Addr) (cd:Value) (A:Around) (outer:List Env) (s:Shared) (H:Hp) (E:XK):Cx :=
 u5 (xY P w) P w K mg base N qual scope f cd A outer s H E
theorem kT {L:Addr} {env:Env} {l:List Env} (h:env.frame=some L):frs (env::l)=L::frs l:=by unfold frs;rw [List.filterMap_cons,h]
theorem jS:Passes (xY P w) (HM P w K mg base N qual scope f cd A outer s H E) E:=by
 intro pins σ H1 s1 e s' I h
 obtain ⟨H',ea,cls,rfl,os,bare,fl,hE⟩:=h
 obtain ⟨B,a0,hfl,tr,kp⟩:=fl.fly
 have fr:=hfl.2.2.1
 show wpAny _ _ (leaving _ _) _ _ s'
 refine wpAny_leaves_onW (I.ok.frames) (L:=s.heap.objs.size) rfl hfl λ h2 sY sm => ?_
 obtain ⟨QJ,EJ⟩:=Bk fl.un fl.hok fr tr kp sY.1 sm
 have hfs:frs (envOfC qual scope s.heap.objs.size f cd::outer)=s.heap.objs.size::frs outer:=kT rfl
 have hL:s.heap.get? s.heap.objs.size=none:=Heap.get?_none_of_le (Nat.le_refl _)
 have sub : ∀ x∈frs (envOfC qual scope s.heap.objs.size f cd::outer),x=s.heap.objs.size\/x∈frs outer:=λ x hx=>by rw [hfs] at hx;exact List.mem_cons.mp hx
 refine ⟨H',ea,cls,rfl,os.trans I.os,bare,⟨GG I.base QJ hL sub,EJ,?_,B,a0,sY,λ b u o e q => ?_,λ b o o2 q q2 hb => ?_⟩,hE⟩
 ·cases q:s.heap.get? ea with
  | none=>rfl
  | some o =>
    obtain ⟨o',e⟩:=I.base.there ea o q (by intro z;cases z)
    rw [fl.new] at e;cases e
 ·obtain ⟨o',e'⟩:=(fl.hok b u e).there
  have h1:=tr b u o' e e'
  have h2':=sY.1 b o' h1
  rw [q] at h2';cases h2';exact h1
 ·obtain ⟨o1,e1⟩:=I.base.there b o q (by intro z;cases z)
  obtain ⟨o',e'⟩:=fl.un.there b o1 e1 (by intro z;cases z)
  have nb:b ∉ frs (envOfC qual scope s.heap.objs.size f cd::outer):=λ z=>(sub b z).elim (λ e=>by rw [e,hL] at q;cases q) hb
  have h1:=kp b o1 o' e1 e' nb
  have h2':=sY.1 b o' h1
  rw [q2] at h2';cases h2';exact h1
theorem Bl {pins:List (Addr×Obj)} {σ : St} {H1:Hp} {s2:Shared} {h':Heap} {e C:Addr} {vs:List Value} (I:Inv (HM P w K mg base N qual scope f cd A outer s H E) pins σ H1 s2)
  (hx:Heap.MadeExcOf s2.heap h' e (.ref C) vs) (hE:E (.ref C) none H1):(HM P w K mg base N qual scope f cd A outer s H E).xe (.ref e) { s2 with heap:=h' } := by
 have hfs:frs (envOfC qual scope s.heap.objs.size f cd::outer)=s.heap.objs.size::frs outer:=kT rfl
 have hL:s.heap.get? s.heap.objs.size=none:=Heap.get?_none_of_le (Nat.le_refl _)
 have sub : ∀ x∈frs (envOfC qual scope s.heap.objs.size f cd::outer),x=s.heap.objs.size\/x∈frs outer:=λ x hx=>by rw [hfs] at hx;exact List.mem_cons.mp hx
 have hin : ∀ env∈(envOfC qual scope s.heap.objs.size f cd::outer),∀ b,env.frame=some b->b∈(envOfC qual scope s.heap.objs.size f cd::outer).filterMap (·.frame):=λ env he b hb=>List.mem_filterMap.mpr ⟨env,he,hb⟩
 have fr0:s2.heap.FunFrames (PySem.W.hideAll s2.heap (frs (envOfC qual scope s.heap.objs.size f cd::outer))) (envOfC qual scope s.heap.objs.size f cd::outer):=PySem.W.funFrames_hide I.stack hin
 have kB : ∀ b o,s2.heap.get? b=some o->b ∉ frs (envOfC qual scope s.heap.objs.size f cd::outer)->(PySem.W.hideAll s2.heap (frs (envOfC qual scope s.heap.objs.size f cd::outer))).get? b=some o:=λ b o q hb=>PySem.W.hideAll_get _ q hb
 show wpAny _ _ (leaving _ _) _ _ _
 refine wpAny_leaves_madeW (s := { s2 with heap:=h' }) (base:=PySem.W.hideAll s2.heap (frs (envOfC qual scope s.heap.objs.size f cd::outer))) (h:=s2.heap) I.ok.frames (L:=s.heap.objs.size) rfl (λ b o q=>PySem.W.of_hideAll _ q) fr0 hx λ h2 t sY _ _ sm => ?_
 have Sh : ∀ b u,H1 b=some u->b ∉ frs (envOfC qual scope s.heap.objs.size f cd::outer):=λ b u q z=>by rw [I.A3 b z] at q;cases q
 have tr : ∀ b u o,H1 b=some u->h'.get? b=some o->(PySem.W.hideAll s2.heap (frs (envOfC qual scope s.heap.objs.size f cd::outer))).get? b=some o:=λ b u o q qo=>by
  obtain ⟨o',e'⟩:=(I.hok b u q).there
  have:=hx.keeps b o' e'
  rw [qo] at this;cases this
  exact kB b _ e' (Sh b u q)
 have kp : ∀ b o o',s2.heap.get? b=some o->h'.get? b=some o'->b ∉ frs (envOfC qual scope s.heap.objs.size f cd::outer)->(PySem.W.hideAll s2.heap (frs (envOfC qual scope s.heap.objs.size f cd::outer))).get? b=some o':=λ b o o' q q' hb=>by
  have:=hx.keeps b o q
  rw [q'] at this;cases this
  exact kB b _ q hb
 obtain ⟨QJ,EJ⟩:=Bk (l:=envOfC qual scope s.heap.objs.size f cd::outer) (H:=H1) (H':=H1) (h0:=s2.heap) (Un.kept hx.keeps) (I.hok.kept hx.keeps) (fr0.of_keeps λ b o q _=>⟨o,hx.keeps b o q,rfl⟩) tr kp sY.1 sm
 refine ⟨H1,e,.ref C,rfl,I.os,I.bare,⟨GG I.base QJ hL sub,EJ,?_,_,_,sY,λ b u o q qo => ?_,λ b o o2 q q2 hb => ?_⟩,hE⟩
 ·cases q:s.heap.get? e with
  | none=>rfl
  | some o =>
    obtain ⟨o',e'⟩:=I.base.there e o q (by intro z;cases z)
    rw [hx.new] at e';cases e'
 ·obtain ⟨o',e'⟩:=(I.hok b u q).there
  have h1:=kB b o' e' (Sh b u q)
  have h2':=sY.1 b o' h1
  rw [qo] at h2';cases h2';exact h1
 ·obtain ⟨o1,e1⟩:=I.base.there b o q (by intro z;cases z)
  have nb:b ∉ frs (envOfC qual scope s.heap.objs.size f cd::outer):=λ z=>(sub b z).elim (λ e=>by rw [e,hL] at q;cases q) hb
  have h1:=kB b o1 e1 nb
  have h2':=sY.1 b o1 h1
  rw [q2] at h2';cases h2';exact h1
end
structure Exc (K:PySem.W.Frag) (mg:Str->Option Value) (x:Str) (C:Addr):Prop where
 Tn:mg x=some (.ref C)
 ex:PySem.W.excIn K C [.type "ValueError",.type "Exception",.type "BaseException",.type "object"] "ValueError.__new__" = true
theorem Exc.own {K:PySem.W.Frag} {mg:Str->Option Value} {x:Str} {C:Addr} {h:Heap} (O:Exc K mg x C) (X:K.In h):OwnCls x C [.type "ValueError",.type "Exception",.type "BaseException",.type "object"] "ValueError.__new__" mg h:=by
 refine ⟨O.Tn,?_⟩
 have q:=O.ex
 unfold PySem.W.excIn at q
 split at q
 ·rename_i dd cd sl ho
  split at q
  ·rename_i C' bm k0 k1 k2 k3 n k5 hm hs
   simp only [Bool.and_eq_true,beq_iff_eq,Bool.not_eq_true'] at q
   obtain ⟨⟨⟨⟨⟨rfl,rfl⟩,To⟩,ht⟩,hok⟩,hni⟩:=q
   obtain ⟨nm,bs,mro,ns,qn,hd,sn,sub,ab,col,del⟩:=cd
   dsimp only at hm To hok hni
   subst hm To
   have hsl:sl = #[k0,k1,k2,k3,some (.builtin "ValueError.__new__"),k5]:=by
    obtain ⟨l⟩:=sl
    simp only at hs
    rw [hs]
   subst hsl
   exact ⟨bm,ns,nm,qn,bs,hd,sn,sub,ab,col,dd,k0,k1,k2,k3,k5,_,X _ _ ho,.of_isNs (PySem.W.isNs_of_in X hok),PySem.W.nsMap_none_of_in X hok hni,PySem.W.tail_of_in X ht⟩
  ·cases q
 ·cases q
theorem Bm {K:PySem.W.Frag} {h:Heap} {mg:Str->Option Value} {x:Str} {C:Addr} (X:K.In h) (G:h.Ns mainGlobals mg) (a:PySem.W.nsIn K mainGlobals x=some (some (.ref C)))
  (q:PySem.W.excIn K C [.type "ValueError",.type "Exception",.type "BaseException",.type "object"] "ValueError.__new__" = true):Exc K mg x C:=⟨PySem.W.mg_of X G a,q⟩
section
variable {P:Program} {w:World} {K:PySem.W.Frag} {mg:Str->Option Value} {base:Heap} {N:List Str} {qual:Str} {scope:Scope} {f:Addr} {cd:Value} {A:Around} {outer:List Env} {s:Shared} {H:Hp} {E:XK}
def Kg (E:XK) (C:Addr) (ta:TA):TS:=λ _ σ H=>ta σ H λ vs H1=>vs.length<=sizeLine/\E (.ref C) none H1
theorem je {x:Str} {C:Addr} {e₀ : Expr} {np cpos pos:Pos} {ta:TA} (O:Exc K mg x C) (hg:Gl (HM P w K mg base N qual scope f cd A outer s H E) x) (ha:PA (HM P w K mg base N qual scope f cd A outer s H E) [e₀] ta)
  (hd:(x == ("__debug__" : Str))=false:=by decide) (he:starEach [e₀] (HM P w K mg base N qual scope f cd A outer s H E).env = [(false,eval e₀ (HM P w K mg base N qual scope f cd A outer s H E).env)]:=by rfl) :
  PS (HM P w K mg base N qual scope f cd A outer s H E) (.Raise (some (.Call (.Name x np) [e₀] [] cpos)) none pos) (Kg E C ta):=by
 intro pins s1 σ H1 D I h
 have own:=O.own I.mod.R8
 obtain ⟨tl,NN,nm,q,bs,hdct,sn,sub,ab,col,dd,k0,k1,k2,k3,k5,mN,hC,hN,hni,T⟩:=own.obj
 refine wpAny_Raise_call_subT (C:=C) (nm:=nm) (q:=q) (N:=NN) (bs:=bs) (bm:=tl) (hdct:=hdct) (sn:=sn) (sub:=sub) (ab:=ab) (col:=col) (dd:=dd) (k0:=k0) (k1:=k1) (k2:=k2) (k3:=k3) (k5:=k5)
  PySem.F.excBase_ValueError (mN:=mN) (T.hasType PySem.F.excBase_ValueError.hasBase) (I.ok.hd rfl) (by rw [he];rfl) hni (uK I hg O.Tn ⟨rfl,?_⟩ hd)
 rw [he]
 have ha':=ha cpos pins s1 σ H1 _ I h
 rw [he] at ha'
 refine Calls.evalArgs_plain (wpAny_mono ha' (λ us s2 hq => ?_) λ _ _ y=>y)
 obtain ⟨vs,H2,I2,r,hl,hE⟩:=hq
 exact ⟨rfl,by rw [<-r.length];exact hl,I2.bk _ _ hC,hN.keeps I2.bk,T.keeps I2.bk,λ h' e hx=>Bl I2 hx hE⟩
end
end L2
namespace L2
open PySem PySem.Spec PyProof.Rows
abbrev Cx.Kh (X:Cx) (ea:Addr):Cx := { X with A:=X.A.mark (some (.ref ea)),calm:=false }
section
variable {X:Cx} {pins:List (Addr×Obj)} {σ : St} {H:Hp} {s:Shared}
theorem Inv.Kh (I:Inv X pins σ H s) (ea:Addr):Inv (X.Kh ea) pins σ H s :=
 ⟨⟨I.ok.mod,I.ok.kind,I.ok.glob,I.ok.blt,I.ok.above,I.ok.inj,I.ok.has,I.ok.P0,(λ z=>nomatch z),I.ok.frames,I.ok.stk,I.ok.Ve,I.ok.bs,I.ok.Jw,I.ok.En,I.ok.Hs,I.ok.oU,I.ok.MR⟩,I.os,I.bare,I.base,I.loc,I.cell,I.free,I.kK,I.pin,I.hok,I.len⟩
end
section
variable {X:Cx}
end
end L2
namespace PySem.W
open PySem PySem.Spec PySem.Calls PyProof.Rows Builtin Builtin.ObjectAttr Builtin.Getset_descriptor
section
variable {prog:Program} {w:World} {A:Around} {E:Value->Shared->Prop} {s:Shared} {K:Frag} {x C:Addr} {R:Result->Shared->Prop}
end
end PySem.W
namespace L2
open PySem PySem.Spec PyProof.Rows
section
variable {X:Cx}
end
section
variable {X:Cx} {k:Nat} {f C:Addr} {fd:FuncData} {ps:List Str} {sp:Sp} {x m:Str} {p pos apos:Pos} {e o:Expr} {es:List Expr} {ta:TE} {t:TA}
end
end L2
namespace L2
open PySem PySem.Spec PyProof.Rows
def dG (cells:List (Str×Addr)):List (Str×NameKind)->List (Str×Addr)->List (Str×Addr)
 | [],cs=>cs
 | (n,k)::r,cs=>dG cells r (if k == .free then (n,(cells.lookup n).getD 0)::cs else cs)
theorem m9 {scope:Scope} {env:Env} (h : ∀ y∈scope.names,y.2 = .free->∃ c,env.cells.lookup y.1=some c):closureFor scope env=pure (dG env.cells scope.names []):=by
 simp only [closureFor]
 have all : ∀ (l:List (Str×NameKind)) (cs:List (Str×Addr)),(∀ y∈l,y.2 = .free->∃ c,env.cells.lookup y.1=some c) →
   (forIn l cs fun (x:Str×NameKind) (r:List (Str×Addr))=>match x with
    | (name,kind)=>if (kind == NameKind.free)=true then do
      let __do_lift <-cellOf env name
      pure (ForInStep.yield ((name,__do_lift)::r))
     else pure (ForInStep.yield r))=(pure (dG env.cells l cs):Sem (List (Str×Addr))):=by
  intro l
  induction l with
  | nil=>intro cs _;rfl
  | cons y r ih =>
    intro cs hy
    obtain ⟨n,k⟩:=y
    rw [List.forIn_cons]
    have hr : ∀ y∈r,y.2 = .free->∃ c,env.cells.lookup y.1=some c:=λ y hm=>hy y (List.mem_cons_of_mem _ hm)
    by_cases hk:k = .free
    ·subst hk
     obtain ⟨c,hc⟩:=hy (n,.free) List.mem_cons_self rfl
     have hc':env.cells.lookup n=some c:=hc
     have e1:cellOf env n=pure c:=by unfold cellOf;rw [hc']
     simp only [beq_self_eq_true,if_true,e1,pure_bind]
     rw [ih _ hr]
     simp only [dG,beq_self_eq_true,if_true,hc',Option.getD_some]
    ·have hb:(k == NameKind.free)=false:=by simpa using hk
     simp only [hb,Bool.false_eq_true,if_false,pure_bind]
     rw [ih _ hr]
     simp only [dG,hb,Bool.false_eq_true,if_false]
 first
  | (rw [all scope.names [] h];rfl)
  | (have:=all scope.names [] h;simp only [this,pure_bind])
theorem vo {cells:List (Str×Addr)} : ∀ (l:List (Str×NameKind)) (cs:List (Str×Addr)) {y:Str} {c:Addr},(dG cells l cs).lookup y=some c->((y,.free)∈l/\c=(cells.lookup y).getD 0)\/cs.lookup y=some c
 | [],_,_,_,h => .inr h
 | (n,k)::r,cs,y,c,h=>by
   rw [dG] at h
   rcases vo r _ h with ⟨a,b⟩ | q
   ·exact .inl ⟨List.mem_cons_of_mem _ a,b⟩
   ·by_cases hk:k = .free
    ·subst hk
     simp only [beq_self_eq_true,if_true,List.lookup_cons] at q
     by_cases hy:y=n
     ·subst hy
      simp only [beq_self_eq_true] at q
      cases q
      exact .inl ⟨List.mem_cons_self,rfl⟩
     ·have:(y == n)=false:=by simpa using hy
      simp only [this] at q
      exact .inr q
    ·have hb:(k == NameKind.free)=false:=by simpa using hk
     simp only [hb,Bool.false_eq_true,if_false] at q
     exact .inr q
theorem jE {cells:List (Str×Addr)} : ∀ (l:List (Str×NameKind)) (cs:List (Str×Addr)) {y:Str},(∃ c,cs.lookup y=some c)\/(y,NameKind.free)∈l->∃ c,(dG cells l cs).lookup y=some c
 | [],_,_,h=>by
   rcases h with h | h
   ·exact h
   ·cases h
 | (n,k)::r,cs,y,h=>by
   rw [dG]
   refine jE r _ ?_
   rcases h with ⟨c,h⟩ | h
   ·refine .inl ?_
    split
    ·rw [List.lookup_cons]
     split
     ·exact ⟨_,rfl⟩
     ·exact ⟨c,h⟩
    ·exact ⟨c,h⟩
   ·rcases List.mem_cons.mp h with e | e
    ·cases e
     refine .inl ⟨(List.lookup n cells).getD 0,?_⟩
     simp only [beq_self_eq_true,if_true,List.lookup_cons]
    ·exact .inr e
structure kU (scope es:Scope) (x:Str) (N:List Str):Prop where
 kind:scope.kind = .function
 cell : ∀ y∈scope.names,y.2 ≠ .cell
 nms : ∀ y∈scope.names,y.2 = .local->scope.names.lookup y.1=some .local
 loc:scope.names.lookup x=some .local
 noe:scope.names.lookup ("" : Str)=none
 Vw : ∀ y∈scope.names,y.2 = .free->es.names.lookup y.1=some .cell\/es.names.lookup y.1=some .free
 only : ∀ y∈scope.names,y.2 = .local->y.1=x\/y.1 ∉ N
 nd:(x::N.map λ y=>if y=x then ("" : Str) else y).Nodup
theorem lookup_mem {α β : Type} [BEq α] [LawfulBEq α] : ∀ {l:List (α × β)} {x : α} {v : β},l.lookup x=some v->(x,v)∈l
 | (n,k)::r,x,v,h=>by
   rw [List.lookup_cons] at h
   split at h
   ·rename_i e;cases h;rw [eq_of_beq e];exact List.mem_cons_self
   ·exact List.mem_cons_of_mem _ (lookup_mem h)
theorem cH {scope:Scope} {env:Env} : ∀ {l:List (Str×NameKind)} {y:Str} {k:NameKind},(l.map fun (p:Str×NameKind)=>match p with | (n,k)=>if (k == .free && env.scope.kind == .function && env.kindOf n == some .cell) then (n,NameKind.cell) else (n,k)).lookup y=some k →
  l.lookup y=some k\/(k = .cell/\l.lookup y=some .free)
 | [],_,_,h=>by simp at h
 | (n,k0)::r,y,k,h=>by
   rw [List.map_cons,List.lookup_cons] at h
   rw [List.lookup_cons]
   dsimp only at h
   split at h
   ·rename_i e
    split at e
    ·rename_i hc
     dsimp only at e h
     cases h
     have:k0 = .free:=by simp only [Bool.and_eq_true,beq_iff_eq] at hc;exact hc.1.1
     subst this
     rw [e,if_pos hc]
     exact .inr ⟨rfl,rfl⟩
    ·rename_i hc
     dsimp only at e h
     rw [e]
     rw [if_neg hc] at h
     exact .inl h
   ·rename_i e
    have e':(y == n)=false:=by
     split at e <;> exact e
    rw [e']
    exact cH (scope:=scope) h
def gQ (M:Model) (A:Around) (E:Value->Shared->Prop) (use:Option (Value->Sem Unit)) (Q:Value->Shared->Prop) (acc:Value) (cenv:Env) (r:Result) (s':Shared):Prop :=
 match r,use with
 | .ok _,none => ∃ m,s'.heap.Ns cenv.locals m ∧ ∀ h',Heap.SameBut cenv.locals s'.heap h'->Q acc { s' with heap:=h' }
 | .ok _,some u=>wpAny M A (u acc) (λ _ s'' => ∃ m,s''.heap.Ns cenv.locals m ∧ ∀ h',Heap.SameBut cenv.locals s''.heap h'->Q .none { s'' with heap:=h' }) E s'
 | .error x,_ => ∃ m,s'.heap.Ns cenv.locals m ∧ ∀ h',Heap.SameBut cenv.locals s'.heap h'->wpAny M A (passOn "comprehension.variables-let-go" x cenv:Sem Value) (λ _ _=>False) E { s' with heap:=h' }
theorem gc {M:Model} {A:Around} {E:Value->Shared->Prop} {s:Shared} {env:Env} {e:Expr} {scope:Scope} {pos:Pos} {newAcc first:Sem Value} {g:Comprehension} {gs:List Comprehension} {cl:List (Str×Addr)} {use:Option (Value->Sem Unit)}
  {Q:Value->Shared->Prop}
  (hcl:clausesOf e=g::gs) (hs : ∀ x,foldedSetIterable g.iter env x=pure x) (hclos:closureFor scope env=pure cl)
  (hkind:scope.kind = .function) (hnames : ∀ x∈scope.names,x.2 = .local->scope.names.lookup x.1=some .local)
  (h:wpAny M A first (λ x s₁ => wpAny M A (pyIter x) (λ it s₂ => wpAny M A newAcc (λ acc s₃ =>
   wpAny M A (newFunctionEnv scope env.globals cl [] env.qual none .none (some env)) (λ cenv s₄ =>
    codeAny M A (.compStart e 0 it acc { cenv with scope:=relabel scope env }) (gQ M A E use Q acc { cenv with scope:=relabel scope env }) s₄) E s₃) E s₂) E s₁) E s) :
  wpAny M A (comprehension e scope env pos newAcc false first use) Q E s:=by
 unfold comprehension
 rw [hclos,hcl]
 refine wpAny_bind (wpAny_mono h (λ x s₁ h₁ => wpAny_bind (wpAny_standAt (wpAny_bind (wpAny_of_eq (hs x) (wpAny_bind (wpAny_holding (wpAny_mono h₁ (λ it s₂ h₂ =>
  wpAny_standIf (wpAny_bind (wpAny_mono h₂ (λ acc s₃ h₃ => wpAny_bind (wpAny_pure (wpAny_bind (wpAny_mono h₃ (λ cenv s₄ h₄ => ?_) λ _ _ h'=>h')))) λ _ _ h'=>h')))
   λ _ _ h'=>h'))))))) λ _ _ h'=>h')
 dsimp only
 have hv : ∀ x∈(scope.names.filter λ x=>(x.2 == .local || x.2 == .cell) && x.1 != (".0" : Str)).reverse,x.2 = .local →
   Env.kindOf { cenv with scope:=relabel scope env } x.1=some .local:=λ x hx hl=>lookup_relabel_local (hnames x (List.mem_filter.mp (List.mem_reverse.mp hx)).1 hl)
 have hv' : ∀ x∈(scope.names.filter λ x=>(x.2 == .local || x.2 == .cell) && x.1 != (".0" : Str)).reverse.drop 1++(scope.names.filter λ x=>(x.2 == .local || x.2 == .cell) && x.1 != (".0" : Str)).reverse.take 1,
   x.2 = .local->Env.kindOf { cenv with scope:=relabel scope env } x.1=some .local:=λ x hx hl=>by
  rcases List.mem_append.mp hx with h1 | h1
  ·exact hv x (List.mem_of_mem_drop h1) hl
  ·exact hv x (List.mem_of_mem_take h1) hl
 refine wpAny_holding (wpAny_bind (wpAny_attempt (wpAny_holding (wpAny_run (codeAny_mono h₄ λ r s' hr => ?_)))))
 cases r with
 | ok f =>
   cases use with
   | none =>
     obtain ⟨m,hn,hr⟩:=hr
     exact wpAny_bind (wpAny_holding (wpAny_comp_letGo (cenv := { cenv with scope:=relabel scope env }) hkind _ s' m hv hn λ h' m' _ hs'=>wpAny_pure (hr h' hs')))
   | some u =>
     refine wpAny_bind (wpAny_rule (wpAny_bind (wpAny_holding (wpAny_mono hr (λ _ s'' hr' => ?_) λ _ _ h'=>h'))))
     obtain ⟨m,hn,hr'⟩:=hr'
     exact wpAny_bind (wpAny_comp_letGo (cenv := { cenv with scope:=relabel scope env }) hkind _ s'' m hv' hn λ h' m' _ hs'=>wpAny_pure (hr' h' hs'))
 | error x =>
   have hr' : ∃ m,s'.heap.Ns cenv.locals m ∧ ∀ h',Heap.SameBut cenv.locals s'.heap h'->wpAny M A (passOn "comprehension.variables-let-go" x { cenv with scope:=relabel scope env } : Sem Value) (λ _ _=>False) E { s' with heap:=h' } := by cases use <;> exact hr
   obtain ⟨m,hn,hr⟩:=hr'
   exact wpAny_bind (wpAny_holding (wpAny_comp_letGo (cenv := { cenv with scope:=relabel scope env }) hkind _ s' m hv hn λ h' m' _ hs'=>wpAny_mono (hr h' hs') (λ _ _ f=>f.elim) λ _ _ y=>y))
def Cx.comp (X:Cx) (scope:Scope) (x:Str) (pins:List (Addr×Obj)) (fp:List Addr) (s3:Shared) (H3:Hp) (E:Value->Shared->Prop):Cx where
 prog:=X.prog
 w:=X.w
 K:=X.K
 mg:=X.mg
 base:=X.base
 A:=X.A
 N:=x::X.N.map λ y=>if y=x then ("" : Str) else y
 s₀ := s3
 H₀ := H3
 env:=compEnvC scope (dG X.env.cells scope.names []) s3.heap.objs.size X.env
 outer:=X.stack
 stack:=X.stack
 ex:=fp
 fn:=λ _=>false
 calm:=X.calm
 pn:=X.pn++pins
 xe:=E
section
variable {X:Cx} {pins:List (Addr×Obj)} {σ : St} {H3:Hp} {s3:Shared} {scope:Scope} {x:Str} {fp:List Addr} {E:Value->Shared->Prop}
theorem qw {y:Str} (h:(compEnvC scope (dG X.env.cells scope.names []) s3.heap.objs.size X.env).kindOf y=some .cell\/(compEnvC scope (dG X.env.cells scope.names []) s3.heap.objs.size X.env).kindOf y=some .free) (hc : ∀ y∈scope.names,y.2 ≠ .cell):(y,NameKind.free)∈scope.names:=by
 rcases h with h | h
 ·rcases cH (scope:=scope) (env:=X.env) h with q | ⟨_,q⟩
  ·exact absurd rfl (hc _ (lookup_mem q))
  ·exact lookup_mem q
 ·rcases cH (scope:=scope) (env:=X.env) h with q | ⟨z,_⟩
  ·exact lookup_mem q
  ·cases z
theorem fS (ok:X.Ok) (S:kU scope X.env.scope x X.N) {y:Str} {c:Addr} (h:(dG X.env.cells scope.names []).lookup y=some c):(y,NameKind.free)∈scope.names/\X.env.cells.lookup y=some c:=by
 rcases vo scope.names [] h with ⟨a,b⟩ | q
 ·obtain ⟨c',e⟩:=ok.has y (S.Vw _ a rfl)
  rw [e] at b
  exact ⟨a,by rw [e,b];rfl⟩
 ·simp at q
theorem Nj (I:Inv X pins σ H3 s3) (S:kU scope X.env.scope x X.N) (hfp : ∀ b∈fp,oW X pins H3 b) (hfo : ∀ b∈fp,∃ o,s3.heap.get? b=some o):(X.comp scope x pins fp s3 H3 E).Ok where
 mod:=I.ok.mod
 kind:=S.kind
 glob:=I.ok.glob
 blt:=I.ok.blt
 above:=Nat.le_refl _
 inj:=λ y z c h1 h2=>I.ok.inj y z c (fS I.ok S h1).2 (fS I.ok S h2).2
 has:=λ y h=>jE scope.names [] (.inr (qw h S.cell))
 P0:=λ _ _ h=>nomatch h
 hd:=I.ok.hd
 frames:=I.ok.frames
 stk := .inl rfl
 Ve:=λ b hb=>by
  obtain ⟨o,e⟩:=hfo b hb
  refine ⟨Nat.ne_of_lt (Heap.lt_size e),λ y c h => ?_⟩
  exact (hfp b hb).2.2.2.2.1 y c (fS I.ok S h).2
 bs:=I.bs
 Jw:=Nat.le_trans I.ok.Jw I.sz
 En:=λ b o e hb=>by
  rcases (hfp b hb).2.2.2.1 with z | z
  ·exact I.ok.En b o e z
  ·exact absurd (Nat.lt_of_lt_of_le (Heap.lt_size e) (Nat.le_trans I.ok.Jw z)) (Nat.lt_irrefl _)
 Hs:=λ b hb z=>by
  rcases List.mem_cons.mp (I.uW b z) with q | q
  ·exact (hfp b hb).2.1 q
  ·exact (hfp b hb).2.2.1 q
 oU:=I.stack
 MR:=I.A3
theorem EK {s4:Shared} (I:Inv X pins σ H3 s3) (S:kU scope X.env.scope x X.N) (hfp : ∀ b∈fp,oW X pins H3 b) (hfo : ∀ b∈fp,∃ o,s3.heap.get? b=some o) {m:Str->Option Value} (hn:s4.heap.Ns s3.heap.objs.size m) (kk : ∀ b o,s3.heap.get? b=some o->s4.heap.get? b=some o)
  (os:s4.os=s3.os) (bare:AllBare s4.gens):Inv (X.comp scope x pins fp s3 H3 E) [] (none :: σ) H3 s4:=by
 refine ⟨Nj I S hfp hfo,os,bare,Un.kept kk,⟨m,hn,λ i y v h1 h2 h3 => ?_⟩,λ y c h => ?_,I.hok.fresh (Nat.le_refl _),λ y c h=>I.kK y c (fS I.ok S h).2,λ p hp => ?_,I.hok.kept kk,?_⟩
 ·cases i with
  | zero=>cases h2
  | succ i =>
    have Dc:(X.N.map λ y=>if y=x then ("" : Str) else y)[i]? = some y:=h1
    have h2' : σ[i]? = some (some v):=h2
    rw [List.getElem?_map] at Dc
    cases hN:X.N[i]? with
    | none=>rw [hN] at Dc;cases Dc
    | some z =>
      rw [hN] at Dc
      have Nk:(if z=x then ("" : Str) else z)=y:=Option.some.inj Dc
      have vis : ∀ y,PZ (relabel scope X.env) y->y≠("" : Str):=λ y hv e=>by
       subst e
       have no : ∀ k,(relabel scope X.env).names.lookup ("" : Str)=some k->False:=λ k h=>by
        rcases cH (scope:=scope) (env:=X.env) h with q | ⟨_,q⟩ <;> (rw [S.noe] at q;cases q)
       rcases hv with q | q | q <;> exact no _ q
      have hz:z≠x:=λ e=>by rw [if_pos e] at Nk;exact vis y h3 Nk.symm
      rw [if_neg hz] at Nk
      subst Nk
      -- z is seen by MG block,and is no local of it: it is free there
      have hf:(z,NameKind.free)∈scope.names\/(relabel scope X.env).names.lookup z=some .local:=by
       rcases h3 with q | q | q
       ·exact .inr q
       ·exact .inl (qw (X:=X) (s3:=s3) (.inl q) S.cell)
       ·exact .inl (qw (X:=X) (s3:=s3) (.inr q) S.cell)
      have hfr:(z,NameKind.free)∈scope.names:=by
       rcases hf with q | q
       ·exact q
       ·rcases cH (scope:=scope) (env:=X.env) q with q | ⟨e,_⟩
        ·rcases S.only _ (lookup_mem q) rfl with e | e
         ·exact absurd e hz
         ·exact absurd (List.mem_of_getElem? hN) e
        ·cases e
      have hnl:(relabel scope X.env).names.lookup z≠some .local:=λ q=>by
       rcases cH (scope:=scope) (env:=X.env) q with q | ⟨e,_⟩
       ·rcases S.only _ (lookup_mem q) rfl with e | e
        ·exact absurd e hz
        ·exact absurd (List.mem_of_getElem? hN) e
       ·cases e
      have hk:=S.Vw _ hfr rfl
      obtain ⟨m0,hn0,hl0⟩:=I.loc
      obtain ⟨u,r,l⟩:=hl0 i z v hN h2' (hk.elim (λ q => .inr (.inl q)) λ q => .inr (.inr q))
      refine ⟨u,r,.inr ⟨?_,?_⟩⟩
      ·rcases h3 with q | q | q
       ·exact absurd q hnl
       ·exact .inl q
       ·exact .inr q
      ·rcases l with ⟨k,_⟩ | ⟨_,c,e,hc⟩
       ·have k':X.env.scope.names.lookup z=some .local:=k
        rcases hk with q | q <;> (rw [show List.lookup z X.env.scope.names=_ from k'] at q;cases q)
       ·obtain ⟨c',e'⟩:=jE (cells:=X.env.cells) scope.names [] (.inr hfr)
        have:=(fS I.ok S e').2
        rw [e] at this;cases this
        obtain ⟨o,ho,hd⟩:=hc
        exact ⟨c,e',o,kk _ _ ho,hd⟩
 ·obtain ⟨v,o,ho,hd⟩:=I.cell y c (fS I.ok S h).2
  exact ⟨v,o,kk _ _ ho,hd⟩
 ·have hp':p∈X.pn++pins:=by simpa [Cx.comp] using hp
  obtain ⟨a,b,c,d,e⟩:=I.pin p hp'
  refine ⟨kk _ _ a,b,Nat.ne_of_lt (Heap.lt_size a),λ z => ?_,e⟩
  rcases List.mem_cons.mp (I.uW _ z) with q | q
  ·exact c q
  ·exact d q
 ·show (none :: σ).length=(x::X.N.map λ y=>if y=x then ("" : Str) else y).length
  rw [List.length_cons,List.length_cons,List.length_map,I.len]
end
end L2
namespace L2
open PySem PySem.Spec PyProof.Rows
theorem Nl {P:Program} {w:World} {l:List Env} {ex:List Addr} {H H':Hp} {h0 h h2 B:Heap} (un:Un (frs l) ex H H' h0 h) (hok:j9 P w H' h) (fr:h.FunFrames B l)
  (tr : ∀ b u o,H' b=some u->h.get? b=some o->B.get? b=some o) (kp : ∀ b o o',h0.get? b=some o->h.get? b=some o'->b ∉ frs l->b ∉ ex->B.get? b=some o') (st:B.StaysIn h2)
  (sm : ∀ b∈frs l,∀ o,h.get? b=some o->(∀ vs,o.data ≠ .fields vs)->∃ sl,h2.get? b=some { o with slots:=sl }):Un (frs l) ex H H' h0 h2/\j9 P w H' h2:=by
 refine ⟨⟨λ b o q n hb hx => ?_,λ b o q n hb hx => ?_,un.free,λ b o q hx => ?_,un.tups,un.kc,un.kJ⟩,λ a o e => ?_⟩
 ·exact st b o (kp b o o q (un.keep b o q n hb hx) hb hx)
 ·obtain ⟨sl,e⟩:=un.slot b o q n hb hx
  obtain ⟨_,o',ho',hd⟩:=fr.mem hb
  rw [e] at ho';cases ho'
  obtain ⟨JA,e'⟩:=sm b hb _ e hd
  exact ⟨JA,e'⟩
 ·obtain ⟨o',e⟩:=un.there b o q hx
  by_cases hb:b∈frs l
  ·obtain ⟨_,o2,ho2,hd⟩:=fr.mem hb
   obtain ⟨JA,e'⟩:=sm b hb _ ho2 hd
   exact ⟨_,e'⟩
  ·exact ⟨o',st b o' (kp b o o' q e hb hx)⟩
 ·refine (hok a o e).stay (λ b u hb q => ?_) (λ _ q=>q) λ _ _ q=>q
  rcases hb with rfl | hb
  ·exact st b u (tr b _ u e q)
  ·exact st b u (tr b _ u hb q)
def Si (X:Cx) (E:XK):Value->Shared->Prop:=λ e s'' => ∃ (pins:List (Addr×Obj)) (σ : St) (H':Hp) (ea:Addr) (cls a0:Value) (B:Heap),Inv X pins σ H' s''/\e = .ref ea/\X.s₀.heap.get? ea=none/\Heap.HeldW B X.stack ea cls a0 X.env.locals s''.heap ∧
 (∀ b u o,H' b=some u->s''.heap.get? b=some o->B.get? b=some o)/\(∀ b o o',X.s₀.heap.get? b=some o->s''.heap.get? b=some o'->b ∉ frs X.stack->B.get? b=some o')/\E cls none H'
section
variable {P:Program} {w:World} {K:PySem.W.Frag} {mg:Str->Option Value} {base:Heap} {N:List Str} {qual:Str} {scope:Scope} {f:Addr} {cd:Value} {A:Around} {outer:List Env} {s:Shared} {H:Hp} {E:XK}
theorem O6 : ∀ e s',Si (HM P w K mg base N qual scope f cd A outer s H E) E e s'->(HM P w K mg base N qual scope f cd A outer s H E).xe e s':=by
 rintro e s' ⟨pins,σ,H',ea,cls,a0,B,I,rfl,new,hh,tr,kp,hE⟩
 have hfs:frs (envOfC qual scope s.heap.objs.size f cd::outer)=s.heap.objs.size::frs outer:=kT rfl
 have hL:s.heap.get? s.heap.objs.size=none:=Heap.get?_none_of_le (Nat.le_refl _)
 have sub : ∀ x∈frs (envOfC qual scope s.heap.objs.size f cd::outer),x=s.heap.objs.size\/x∈frs outer:=λ x hx=>by rw [hfs] at hx;exact List.mem_cons.mp hx
 show wpAny _ _ (leaving _ _) _ _ s'
 unfold leaving
 refine wpAny_bind (wpAny_noteFrame_againW (L:=s.heap.objs.size) rfl hh.2.2.2 ?_)
 refine wpAny_landsW hh λ h2 sY sm => ?_
 have fr:s'.heap.FunFrames B outer:=hh.2.2.1.2.2
 have Tp : ∀ b o o',s.heap.get? b=some o->s'.heap.get? b=some o'->b ∉ frs outer->B.get? b=some o':=λ b o o' q q' hb=>kp b o o' q q' λ z=>(sub b z).elim (λ e=>by rw [e,hL] at q;cases q) hb
 obtain ⟨QJ,EJ⟩:=Bk (l:=outer) I.base I.hok fr tr Tp sY.1 sm
 obtain ⟨k1,k2,⟨_,_,k3⟩,k4⟩:=sY
 refine ⟨H',ea,cls,rfl,I.os,I.bare,⟨QJ,EJ,new,B,a0,⟨k1,k2,k3,k4⟩,λ b u o e q => ?_,λ b o o2 q q2 hb => ?_⟩,hE⟩
 ·obtain ⟨o',e'⟩:=(I.hok b u e).there
  have h1:=tr b u o' e e'
  have h2':=k1 b o' h1
  rw [q] at h2';cases h2';exact h1
 ·obtain ⟨o1,e1⟩:=I.base.there b o q (by intro z;cases z)
  have h1:=Tp b o o1 q e1 hb
  have h2':=k1 b o1 h1
  rw [q2] at h2';cases h2';exact h1
end
theorem kW {C:Addr} {h h' base:Heap} (hs:Heap.SameBut C h h') : ∀ {l:List Env},(∀ b∈frs l,b≠C)->h.FunFrames base l->h'.FunFrames base l
 | [],_,_=>trivial
 | env::l,hc,⟨hk,⟨L,o,hf,hn,ho,hd⟩,hr⟩=>⟨hk,⟨L,o,hf,hn,(hs.2 L (hc L (by rw [kT hf];exact List.mem_cons_self))).trans ho,hd⟩,kW hs (λ b hb=>hc b (by rw [kT hf];exact List.mem_cons_of_mem _ hb)) hr⟩
theorem kX {M:Model} {A:Around} {E:Value->Shared->Prop} {s:Shared} {base:Heap} {l:List Env} {e L:Addr} {cls a0:Value} {Q:Unit->Shared->Prop} (R:Heap.HeldW base l e cls a0 L s.heap)
  (h : ∀ h',Heap.HeldW base l e cls a0 L h'->s.heap.UpToSlots h'->Q () { s with heap:=h' }):wpAny M A (setFlight (.ref e) (some L)) Q E s:=by
 obtain ⟨hkb,hen,hl,oe,vs,T,oT,ts,he,hcls,hd,h1,hnT,hTe,hT,Vx,h3⟩:=R
 have Tq:3 < ts.size:=(Array.getElem?_eq_some_iff.mp h3).1
 have other : ∀ b,b≠T->(s.heap.update T (Obj.mapFields (·.setIfInBounds 3 ((some L).elim Value.none λ f=>rawInt f)))).get? b=s.heap.get? b :=
  λ b hb=>Heap.get?_update_other _ _ (Ne.symm hb)
 have Dd : ∀ b o,s.heap.get? b=some o->(∀ vs,o.data ≠ .fields vs)->b≠T:=λ b o hb hnf q=>by
  rw [q,hT] at hb;injection hb with hb;subst hb;exact hnf ts Vx
 unfold setFlight
 refine wpAny_bind (wpAny_field he hd h1 ?_)
 rw [if_pos (show (Value.ref T != Value.none)=true from by simp)]
 refine wpAny_setField hT Vx Tq (h _ ⟨λ b o Wu=>(other b λ q=>by rw [q,hnT] at Wu;cases Wu).trans (hkb b o Wu),hen,
  hl.of_keeps λ b o hb hnf=>⟨o,(other b (Dd b o hb hnf)).trans hb,rfl⟩,?_⟩ λ b o hb hnf=>⟨o.slots,(other b (Dd b o hb hnf)).trans hb⟩)
 exact ⟨oe,vs,T,_,_,(other e (Ne.symm hTe)).trans he,hcls,hd,h1,hnT,hTe,Heap.get?_update_self _ hT (Obj.isFreed_of_fields (Obj.data_mapFields Vx _)),Obj.data_mapFields Vx _,by simp [Tq]⟩
theorem De {α : Type} {M:Model} {A:Around} {E:Value->Shared->Prop} {s:Shared} {base:Heap} {l:List Env} {e L:Addr} {cls a0:Value} {what:String} {env:Env} {Q : α->Shared->Prop} (hf:env.frame=some L) (R:Heap.HeldW base l e cls a0 L s.heap)
  (h : ∀ h',Heap.HeldW base l e cls a0 L h'->s.heap.UpToSlots h'->E (.ref e) { s with heap:=h' }):wpAny M A (PySem.passOn what (.ref e) env:Sem α) Q E s:=by
 obtain ⟨_,_,_,oe,vs,T,oT,ts,he,hcls,hd,h1,_⟩:=id R
 unfold PySem.passOn
 refine wpAny_bind (wpAny_field he hd h1 ?_)
 rw [if_neg (show ¬ ((Value.ref T == Value.none)=true) from by simp),hf]
 first
  | exact wpAny_bind (wpAny_pure (wpAny_bind (kX R λ h' hh hs=>wpAny_throw (h h' hh hs))))
  | exact wpAny_bind (kX R λ h' hh hs=>wpAny_throw (h h' hh hs))
theorem HN {C L e:Addr} {h h' B:Heap} {l:List Env} {cls a0:Value} {m:Str->Option Value} (R:Heap.HeldW B l e cls a0 L h) (hn:h.Ns C m) (hc : ∀ b∈frs l,b≠C) (hs:Heap.SameBut C h h'):Heap.HeldW (PySem.W.hideAll B [C]) l e cls a0 L h':=by
 have hB:(PySem.W.hideAll B [C]).StaysIn B:=λ b o q=>PySem.W.of_hideAll _ q
 obtain ⟨f1,f2,f3,oe,vs,T,oT,ts,a1,a2,a3,a4,a5,a6,a7,a8,a9⟩:=PySem.W.heldW_base hB R
 obtain ⟨oC,es,ep,hoC,hdC,_⟩:=hn
 have ne:e≠C:=λ z=>by rw [z,hoC] at a1;cases a1;rw [hdC] at a3;cases a3
 have nT:T≠C:=λ z=>by rw [z,hoC] at a7;cases a7;rw [hdC] at a8;cases a8
 refine ⟨λ b o q => ?_,f2,kW hs hc f3,oe,vs,T,oT,ts,(hs.2 e ne).trans a1,a2,a3,a4,a5,a6,(hs.2 T nT).trans a7,a8,a9⟩
 have nb:b≠C:=λ z=>by rw [z,PySem.W.hideAll_none _ (by simp)] at q;cases q
 exact (hs.2 b nb).trans (f1 b o q)
section
variable {X:Cx} {pins:List (Addr×Obj)} {σ : St} {H3:Hp} {s3:Shared} {scope:Scope} {x:Str} {fp:List Addr}
abbrev XC (Xb:Cx) (E:XK):Value->Shared->Prop:=λ e s' => ∃ (uX:List (Addr×Obj)) (σ':St) (H1:Hp) (s1:Shared),Inv Xb uX σ' H1 s1/\xY Xb.prog Xb.w Xb.stack H1 s1 E e s'
theorem Bo {e:Value} {env env':Env} (h:env.frame=env'.frame):noteFrame e env=noteFrame e env':=by
 unfold noteFrame PySem.frameOf
 rw [h]
theorem Df {E:XK} {Q:Value->Shared->Prop} {use:Option (Value->Sem Unit)} {acc:Value} {cenv:Env} {e:Value} {s':Shared} (hst:X.stack=X.env::X.outer) (hf:X.env.frame=some X.env.locals) (hex:X.ex = []) (I:Inv X pins σ H3 s3)
  (hfp : ∀ b∈fp,oW X pins H3 b) (QK : ∀ e s,Si X E e s->X.xe e s) (hcf:cenv.frame=X.env.frame) (hcl:cenv.locals=s3.heap.objs.size) (h:XC (X.comp scope x pins fp s3 H3 λ _ _=>False) E e s') :
  notedBy (model X.prog X.w) X.A cenv (λ x s''=>gQ (model X.prog X.w) X.A X.xe use Q acc cenv (.error x) s'') e s':=by
 obtain ⟨uX,σ',H1,s1,Ib,H',ea,cls,rfl,os,bare,fl,hE⟩:=h
 have fl:OX X.prog X.w X.stack H1 s1.heap H' s'.heap ea cls:=fl
 have osb:s1.os=s3.os:=Ib.os
 have Wv:Un (frs X.stack) fp H3 H1 s3.heap s1.heap:=Ib.base
 obtain ⟨B,a0,hfl,tr,kp⟩:=fl.fly
 have fr:=hfl.2.2.1
 have Ww:Heap.FlyingW B (X.env::X.outer) ea cls a0 s'.heap:=by rw [<-hst];exact hfl
 have Sh : ∀ b∈frs X.stack,b≠s3.heap.objs.size:=λ b hb z=>by
  obtain ⟨_,o,ho,_⟩:=I.stack.mem hb
  exact absurd (Heap.lt_size ho) (by rw [z];exact Nat.lt_irrefl _)
 show wpAny _ _ (noteFrame _ cenv) _ _ _
 rw [Bo hcf]
 refine wpAny_looks_onW (by rw [I.ok.frames,hst]) hf Ww λ h4 hh4 sm4 => ?_
 obtain ⟨m1,hn1,_⟩:=Ib.loc
 have hn1:s1.heap.Ns s3.heap.objs.size m1:=hn1
 obtain ⟨un4,afr⟩:=Bk fl.un fl.hok fr tr kp hh4.1 sm4
 have hC1:H1 s3.heap.objs.size=none:=Ib.free
 have hC':H' s3.heap.objs.size=none:=by
  obtain ⟨o,_,_,ho,_⟩:=hn1
  exact fl.un.free _ o ho hC1 (by intro z;cases z)
 have hn4:h4.Ns s3.heap.objs.size m1:=hn1.at' λ o ho=>un4.keep _ o ho hC1 (λ z=>Sh _ z rfl) (by intro z;cases z)
 refine ⟨m1,by rw [hcl];exact hn4,λ h' hs' => ?_⟩
 rw [hcl] at hs'
 have hh':Heap.HeldW (PySem.W.hideAll B [s3.heap.objs.size]) X.stack ea cls a0 X.env.locals h':=HN (by rw [hst];exact hh4) hn4 Sh hs'
 refine De (s := { s' with heap:=h' }) (hcf.trans hf) hh' λ h2 Vy sm2 => ?_
 have hB : ∀ b o,B.get? b=some o->b≠s3.heap.objs.size->(PySem.W.hideAll B [s3.heap.objs.size]).get? b=some o:=λ b o q n=>PySem.W.hideAll_get _ q (by simpa using n)
 have tr' : ∀ b u o,H' b=some u->s'.heap.get? b=some o->(PySem.W.hideAll B [s3.heap.objs.size]).get? b=some o:=λ b u o q qo=>hB b o (tr b u o q qo) λ z=>by rw [z,hC'] at q;cases q
 have Tp : ∀ b o o',s3.heap.get? b=some o->s'.heap.get? b=some o'->b ∉ frs X.stack->b ∉ fp->(PySem.W.hideAll B [s3.heap.objs.size]).get? b=some o':=λ b o o' q q' hb hx=>by
  obtain ⟨o1,e1⟩:=Wv.there b o q hx
  exact hB b o' (kp b o1 o' e1 q' hb) (Nat.ne_of_lt (Heap.lt_size q))
 have fr':s'.heap.FunFrames (PySem.W.hideAll B [s3.heap.objs.size]) X.stack:=PySem.W.funFrames_base (λ b o q=>PySem.W.of_hideAll _ q) fr
 have sm' : ∀ b∈frs X.stack,∀ o,s'.heap.get? b=some o->(∀ vs,o.data ≠ .fields vs)->∃ sl,h2.get? b=some { o with slots:=sl } := λ b hb o q hd=>by
  obtain ⟨sl,e⟩:=sm4 b o q hd
  have e':h'.get? b=some { o with slots:=sl } := (hs'.2 b (Sh b hb)).trans e
  obtain ⟨sl2,e2⟩:=sm2 b _ e' hd
  exact ⟨sl2,e2⟩
 have unA:Un (frs X.stack) fp H3 H' s3.heap s'.heap:=Wv.trans (fl.un.mono (λ _ z=>z) (λ _ z=>nomatch z))
 obtain ⟨QJ,EJ⟩:=Nl unA fl.hok fr' tr' Tp Vy.1 sm'
 have I2:Inv X pins σ H' { s' with heap:=h2 } := I.OP (s' := { s' with heap:=h2 }) (ch:=fp) (os.trans osb) QJ EJ bare λ b hb=>⟨(hfp b hb).2.2.2.1,(hfp b hb).2.1,(hfp b hb).2.2.2.2.1,(hfp b hb).2.2.2.2.2⟩
 have nx : ∀ b o,X.s₀.heap.get? b=some o->b ∉ fp:=λ b o q z=>by
  rcases (hfp b z).2.2.2.1 with y | y
  ·rw [hex] at y;cases y
  ·exact absurd (Nat.lt_of_lt_of_le (Heap.lt_size q) y) (Nat.lt_irrefl _)
 have in3 : ∀ b o,X.s₀.heap.get? b=some o->∃ o',s3.heap.get? b=some o':=λ b o q=>I.base.there b o q (by rw [hex];intro z;cases z)
 refine QK _ _ ⟨pins,σ,H',ea,cls,a0,_,I2,rfl,?_,Vy,λ b u o q qo => ?_,λ b o o2 q q2 hb => ?_,hE⟩
 ·cases q:X.s₀.heap.get? ea with
  | none=>rfl
  | some o =>
    obtain ⟨o3,e3⟩:=in3 ea o q
    obtain ⟨o1,e1⟩:=Wv.there ea o3 e3 (nx ea o q)
    rw [fl.new] at e1;cases e1
 ·obtain ⟨o',e'⟩:=(fl.hok b u q).there
  have h1:=tr' b u o' q e'
  have h2':=Vy.1 b o' h1
  rw [qo] at h2';cases h2';exact h1
 ·obtain ⟨o3,e3⟩:=in3 b o q
  obtain ⟨o1,e1⟩:=unA.there b o3 e3 (nx b o q)
  have h1:=Tp b o3 o1 e3 e1 hb (nx b o q)
  have h2':=Vy.1 b o1 h1
  rw [q2] at h2';cases h2';exact h1
end
end L2
namespace L2
open PySem PySem.Spec PyProof.Rows
def GH (wi:TI) (tt:TT) (te:TE):TE:=fun σ H Q=>wi σ H λ J H1 => ∀ p,H1 p=none->∃ W:Nat->Nat->List V->Hp->Prop,(∃ m,W 0 m [] (upd H1 p (.lst []))) ∧ ∀ i m acc H2,W i m acc H2 →
 H2 p=some (.lst acc)/\((J.stop i H2/\Q (.ref p) H2)\/(J.go i H2 ∧ ∃ N:List V->Hp->Prop,(∀ acc' H',N acc' H'->∃ m',m' < m/\W (i+1) m' acc' H') ∧ ∀ x H3,J.MV i H2 x H3->tt (some x :: σ) H3 λ b H4 =>
  if b=true then te (some x :: σ) H4 λ v H5=>H5 p=some (.lst acc)/\acc.length < sizeLine/\N (acc++[v]) (upd H5 p (.lst (acc++[v]))) else N acc H4))
def EL:TT:=λ _ H Q=>Q true H
def Tr (X:Cx) (ifs:List Expr) (t:TT):Prop :=
 ∀ (pins:List (Addr×Obj)) (s:Shared) (σ : St) (H:Hp) (Q:Bool->Hp->Prop),Inv X pins σ H s->t σ H Q->wpAny (model X.prog X.w) X.A (forIn ifs true λ c r=>if r=true then do let ok <-isTrue c X.env (eval c X.env);pure (ForInStep.yield ok) else pure (ForInStep.yield r)) (TP X pins σ Q) X.xe s
theorem jF {X:Cx} : Tr X [] EL:=λ pins s σ H Q I h=>wpAny_tests_nil ⟨H,I,h⟩
theorem Bp {X:Cx} {c:Expr} {t:TT} (h:PT X c t):Tr X [c] t:=λ pins s σ H Q I q=>wpAny_tests_one (h pins s σ H Q I q)
section
variable {X:Cx} {pins:List (Addr×Obj)} {σ : St} {H3:Hp} {s3:Shared} {scope:Scope} {x:Str} {fp:List Addr}
theorem Bq {E:Value->Shared->Prop} {H':Hp} (I:Inv X pins σ H3 s3) (S:kU scope X.env.scope x X.N) (hfp : ∀ b∈fp,oW X pins H3 b) (hfo : ∀ b∈fp,∃ o,s3.heap.get? b=some o) (hn : ∀ b∈fp,H' b=none) : ∀ b∈fp,oW (X.comp scope x pins fp s3 H3 E) [] H' b:=λ b hb=>by
 obtain ⟨o,e⟩:=hfo b hb
 refine ⟨hn b hb,Nat.ne_of_lt (Heap.lt_size e),λ z => ?_,.inl hb,λ y c h=>(hfp b hb).2.2.2.2.1 y c (fS I.ok S h).2,λ p hp=>(hfp b hb).2.2.2.2.2 p (by simpa [Cx.comp] using hp)⟩
 rcases List.mem_cons.mp (I.uW b z) with q | q
 ·exact (hfp b hb).2.1 q
 ·exact (hfp b hb).2.2.1 q
theorem HP {E:Value->Shared->Prop} {uX:List (Addr×Obj)} {σ':St} {H':Hp} {s':Shared} (I:Inv X pins σ H3 s3) (hfp : ∀ b∈fp,oW X pins H3 b) (J:Inv (X.comp scope x pins fp s3 H3 E) uX σ' H' s'):Inv X pins σ H' s' :=
 I.OP (ch:=fp) J.os J.base J.hok J.bare λ b hb=>⟨(hfp b hb).2.2.2.1,(hfp b hb).2.1,(hfp b hb).2.2.2.2.1,(hfp b hb).2.2.2.2.2⟩
theorem sE {E:Value->Shared->Prop} {H':Hp} {σ'':St} {s' s'':Shared} {h':Heap} (I:Inv X pins σ H3 s3) (J:Inv X pins σ'' H' s'') (hC:H' s3.heap.objs.size=none) (hs:Heap.SameBut s3.heap.objs.size s''.heap h'):Inv X pins σ'' H' { s'' with heap:=h' } := by
 refine J.turned (t':=s''.toks) (λ b o hb e=>(hs.2 b hb).trans e) hC (Nat.ne_of_gt I.lt) (.inr I.sz) (λ y c e z => ?_) λ p hp z => ?_
 ·obtain ⟨v,q⟩:=I.cell y c e
  exact absurd q.lt (by rw [z];exact Nat.lt_irrefl _)
 ·exact absurd (Heap.lt_size (I.pin p hp).1) (by rw [z];exact Nat.lt_irrefl _)
theorem Br {prog:Program} {w:World} {A:Around} {R:Result->Shared->Prop} {s:Shared} {elt target iter:Expr} {ifs:List Expr} {scope:Scope} {pos:Pos} {it acc:Value} {env:Env} (I:Nat->Shared->Prop)
  (turn : ∀ n s,I n s->wpAny (model prog w) A (pyNext it) (λ r s₁ => match r with
   | none=>R (.ok .next) s₁
   | some v=>wpAny (model prog w) A (letOwnedTupleGo target it v) (λ _ s₁'=>wpAny (model prog w) A (assign target env v) (λ _ s₂ =>
     wpAny (model prog w) A (forIn ifs true λ c r=>if r=true then do let ok <-isTrue c env (eval c env);pure (ForInStep.yield ok) else pure (ForInStep.yield r)) (λ ok s₃ =>
      if ok=true then wpAny (model prog w) A (eval elt env) (λ x s₄ =>
       wpAny (model prog w) A (call (.builtin "list.append") [acc,x]) (λ _ s₅ => ∃ m,m < n/\I m s₅) (notedBy (model prog w) A env λ e s'=>R (.error e) s') s₄) (notedBy (model prog w) A env λ e s'=>R (.error e) s') s₃
      else ∃ m,m < n/\I m s₃) (notedBy (model prog w) A env λ e s'=>R (.error e) s') s₂) (notedBy (model prog w) A env λ e s'=>R (.error e) s') s₁') (notedBy (model prog w) A env λ e s'=>R (.error e) s') s₁) (notedBy (model prog w) A env λ e s'=>R (.error e) s') s)
  (n:Nat) (h:I n s) :
  codeAny (model prog w) A (.compLoop (.ListComp elt [⟨target,iter,ifs,0⟩] scope pos) 0 it acc env) R s:=by
 refine codeAny_loop rfl I (λ n s hI => ?_) n h
 show wpAny _ A ((compTurn (.ListComp elt [⟨target,iter,ifs,0⟩] scope pos) 0 it acc env).onRaise (λ x=>do noteFrame x env;theTreesLotGoes x)) _ _ s
 refine wpAny_noted ?_
 rw [compTurn_list]
 refine wpAny_bind (wpAny_standAt (wpAny_bind (wpAny_mono (turn n s hI) (λ r s₁ h₁ => ?_) λ _ _ h'=>h')))
 cases r with
 | none=>exact wpAny_pure h₁
 | some v =>
   refine wpAny_bind (wpAny_mono h₁ (λ _ s₁' h₁' => ?_) λ _ _ h'=>h')
   refine wpAny_bind (wpAny_mono h₁' (λ _ s₂ h₂ => wpAny_bind (wpAny_mono h₂ (λ ok s₃ h₃ => ?_) λ _ _ h'=>h')) λ _ _ h'=>h')
   cases ok with
   | false=>exact wpAny_pure ⟨rfl,h₃⟩
   | true =>
     exact wpAny_bind (wpAny_bind (wpAny_mono h₃ (λ x s₄ h₄ => wpAny_bind (wpAny_mono h₄ (λ _ s₅ h₅ => wpAny_pure (wpAny_pure ⟨rfl,h₅⟩)) λ _ _ h'=>h')) λ _ _ h'=>h'))
theorem vp {E:XK} {use:Option (Value->Sem Unit)} {QQ:Value->Shared->Prop} {elt iter:Expr} {px:Pos} {ifs:List Expr} {pos:Pos} {tt:TT} {te:TE} {it:Addr} {tn:Nat->Heap->Prop} {J:It} {Q:VK} {H2:Hp} {s2:Shared}
  (hc:X.calm=true) (hst:X.stack=X.env::X.outer) (hf:X.env.frame=some X.env.locals) (hex:X.ex = []) (QK : ∀ e s,Si X E e s->X.xe e s) (S:kU scope X.env.scope x X.N)
  (ht : ∀ (pins:List (Addr×Obj)) (fp:List Addr) (s3:Shared) (H3:Hp),Tr ((X.comp scope x pins fp s3 H3 λ _ _=>False).kL (XC (X.comp scope x pins fp s3 H3 λ _ _=>False) E)) ifs tt)
  (he : ∀ (pins:List (Addr×Obj)) (fp:List Addr) (s3:Shared) (H3:Hp),PE ((X.comp scope x pins fp s3 H3 λ _ _=>False).kL (XC (X.comp scope x pins fp s3 H3 λ _ _=>False) E)) elt te)
  (I2:Inv X pins σ H2 s2) (T:Turn X.prog X.w X.K (.Name x px) J fp it tn) (st2:tn 0 s2.heap) (f2 : ∀ b∈fp,oW X pins H2 b)
  (h : ∀ p,H2 p=none->∃ W:Nat->Nat->List V->Hp->Prop,(∃ m,W 0 m [] (upd H2 p (.lst []))) ∧ ∀ i m acc H2,W i m acc H2 →
   H2 p=some (.lst acc)/\((J.stop i H2/\Q (.ref p) H2)\/(J.go i H2 ∧ ∃ N:List V->Hp->Prop,(∀ acc' H',N acc' H'->∃ m',m' < m/\W (i+1) m' acc' H') ∧ ∀ x H3,J.MV i H2 x H3->tt (some x :: σ) H3 λ b H4 =>
    if b=true then te (some x :: σ) H4 λ v H5=>H5 p=some (.lst acc)/\acc.length < sizeLine/\N (acc++[v]) (upd H5 p (.lst (acc++[v]))) else N acc H4)))
  (fin : ∀ (s3:Shared) (H3:Hp) (p:Addr) (s':Shared) (H':Hp) (m:Str->Option Value),Inv X pins σ H3 s3->Inv X pins σ H' s'->H' s3.heap.objs.size=none->s'.heap.Ns s3.heap.objs.size m->Q (.ref p) H'->∀ cenv:Env,cenv.locals=s3.heap.objs.size->gQ (model X.prog X.w) X.A X.xe use QQ (.ref p) cenv (.ok .next) s') :
  wpAny (model X.prog X.w) X.A (newList []) (λ acc s₃ => wpAny (model X.prog X.w) X.A (newFunctionEnv scope X.env.globals (dG X.env.cells scope.names []) [] X.env.qual none .none (some X.env)) (λ cenv s₄ =>
   codeAny (model X.prog X.w) X.A (.compStart (.ListComp elt [⟨.Name x px,iter,ifs,0⟩] scope pos) 0 (.ref it) acc { cenv with scope:=relabel scope X.env }) (gQ (model X.prog X.w) X.A X.xe use QQ acc { cenv with scope:=relabel scope X.env }) s₄) X.xe s₃) X.xe s2:=by
 have hp:H2 s2.heap.objs.size=none:=I2.hok.fresh (Nat.le_refl _)
 obtain ⟨W,⟨m0,w0⟩,turn⟩:=h _ hp
 refine wpAny_newObj_type (wpAny_newFunctionEnv S.cell (by intro y hy;simp at hy) (λ h₁ QL Wx => ?_) S.kind)
 generalize Tt:({ s2 with heap:=s2.heap.push { cls := .type "list",dict:=none,data := .seq ([]:List Value).toArray } } : Shared)=s3
 have Tu:s3.heap=s2.heap.push { cls := .type "list",dict:=none,data := .seq ([]:List Value).toArray } := by rw [<-Tt]
 have I3:Inv X pins σ (upd H2 s2.heap.objs.size (.lst [])) s3:=by
  rw [<-Tt]
  exact I2.laid (t':=s2.toks) (λ b o e=>Heap.get?_push_of_some _ e) (Nat.le_refl _) ⟨by show 0<=sizeLine;exact Nat.zero_le _,[],0,.nil,Heap.get?_push_size _ rfl⟩
 have f3 : ∀ b∈fp,oW X pins (upd H2 s2.heap.objs.size (.lst [])) b:=λ b hb=>⟨by
  obtain ⟨o,e,_⟩:=T.obj _ _ st2 b hb
  rw [bZ (Nat.ne_of_lt (Heap.lt_size e))];exact (f2 b hb).1,(f2 b hb).2⟩
 have o3 : ∀ b∈fp,∃ o,s3.heap.get? b=some o:=λ b hb=>by
  obtain ⟨o,e,_⟩:=T.obj _ _ st2 b hb
  exact ⟨o,by rw [Tu];exact Heap.get?_push_of_some _ e⟩
 have QL:h₁.Ns s3.heap.objs.size (λ x=>([]:List (Str×Value)).reverse.lookup x):=by rw [Tu];exact QL
 have kk : ∀ b o,s3.heap.get? b=some o->h₁.get? b=some o:=λ b o e=>Wx.extBut b o (by
  have:=Heap.lt_size e
  rw [Tu] at this
  exact Nat.ne_of_lt this) (Heap.get?_push_of_some _ (by rw [<-Tu];exact e))
 generalize Wy:({ s3 with heap:=h₁,toks:=s3.toks+([]:List (Str×Value)).length } : Shared)=s4
 have Wz:s4.heap=h₁ := by rw [<-Wy]
 have I4:Inv (X.comp scope x pins fp s3 (upd H2 s2.heap.objs.size (.lst [])) λ _ _=>False) [] (none :: σ) (upd H2 s2.heap.objs.size (.lst [])) s4:=EK I3 S f3 o3 (by rw [Wz];exact QL) (by rw [Wz];exact kk) (by rw [<-Wy]) (by rw [<-Wy];exact I3.bare)
 have st4:tn 0 s4.heap:=T.keep _ _ _ st2 λ b hb o e=>by rw [Wz];exact kk b o (by rw [Tu];exact Heap.get?_push_of_some _ e)
 have loop:codeAny (model X.prog X.w) X.A (.compLoop (.ListComp elt [⟨.Name x px,iter,ifs,0⟩] scope pos) 0 (.ref it) (.ref s2.heap.objs.size) (compEnvC scope (dG X.env.cells scope.names []) s3.heap.objs.size X.env))
   (gQ (model X.prog X.w) X.A X.xe use QQ (.ref s2.heap.objs.size) (compEnvC scope (dG X.env.cells scope.names []) s3.heap.objs.size X.env)) s4:=by
  have raised : ∀ e s',XC (X.comp scope x pins fp s3 (upd H2 s2.heap.objs.size (.lst [])) λ _ _=>False) E e s'->notedBy (model X.prog X.w) X.A (compEnvC scope (dG X.env.cells scope.names []) s3.heap.objs.size X.env) (λ x s''=>gQ (model X.prog X.w) X.A X.xe use QQ (.ref s2.heap.objs.size) (compEnvC scope (dG X.env.cells scope.names []) s3.heap.objs.size X.env) (.error x) s'') e s' :=
   λ e s' h=>Df hst hf hex I3 f3 QK rfl rfl h
  refine Br (λ n s' => ∃ i acc H' v0,Inv (X.comp scope x pins fp s3 (upd H2 s2.heap.objs.size (.lst [])) λ _ _=>False) [] (v0 :: σ) H' s'/\tn i s'.heap/\(∀ b∈fp,H' b=none)/\W i n acc H') ?_ m0 ⟨0,[],_,none,I4,st4,λ b hb=>(f3 b hb).1,w0⟩
  rintro n s5 ⟨i,acc,H5,v0,I5,Sa,Vh,w5⟩
  obtain ⟨hacc,hh⟩:=turn i n acc H5 w5
  rcases hh with ⟨stop,q⟩ | ⟨go,N,hN,step⟩
  ·refine ck (T.done (X.comp scope x pins fp s3 (upd H2 s2.heap.objs.size (.lst [])) λ _ _=>False) rfl rfl rfl hc i [] s5 _ H5 _ I5 (Bq I3 S f3 o3 Vh) Sa stop) λ r s6 ⟨hr,I6⟩ => ?_
   subst hr
   obtain ⟨m6,hn6,_⟩:=id I6.loc
   exact fin s3 _ _ s6 H5 m6 I3 (HP I3 f3 I6) I6.free hn6 q _ rfl
  ·refine ck (T.item (X.comp scope x pins fp s3 (upd H2 s2.heap.objs.size (.lst [])) λ _ _=>False) rfl rfl rfl hc i [] s5 _ H5 _ I5 (Bq I3 S f3 o3 Vh) Sa go) λ r s6 ⟨u,hr,h6⟩ => ?_
   subst hr
   refine ck h6 λ _ s7 ⟨y,H7,I7,r7,y7,WA,fr7⟩ => ?_
   have I7':=I7.pinned (Bq I3 S f3 o3 fr7) (T.obj _ _ WA)
   have again : ∀ {n':List V} {v1:Option V} {H9:Hp} {s9:Shared},Inv (X.comp scope x pins fp s3 (upd H2 s2.heap.objs.size (.lst [])) λ _ _=>False) ([]++u0 fp s7.heap) (v1 :: σ) H9 s9->N n' H9->∃ m,m < n ∧ ∃ i acc H' v0,Inv (X.comp scope x pins fp s3 (upd H2 s2.heap.objs.size (.lst [])) λ _ _=>False) [] (v0 :: σ) H' s9/\tn i s9.heap/\(∀ b∈fp,H' b=none)/\W i m acc H':=fun {n' v1 H9 s9} I9 n9=>by
    obtain ⟨m',hm,w9⟩:=hN n' H9 n9
    refine ⟨m',hm,i+1,n',H9,v1,I9.oX,T.keep _ _ _ WA λ b hb o e=>(I9.pin (b,o) (List.mem_append_right _ (List.mem_append_right _ (jC hb e)))).1,λ b hb => ?_,w9⟩
    obtain ⟨o,e,d⟩:=T.obj _ _ WA b hb
    exact (I9.pin (b,o) (List.mem_append_right _ (List.mem_append_right _ (jC hb e)))).2.1
   refine wpAny_assign_Name (uY (X:=X.comp scope x pins fp s3 (upd H2 s2.heap.objs.size (.lst [])) λ _ _=>False) (i:=0) I7' S.nd rfl (Or.inl (lookup_relabel_local S.loc)) r7 (λ s8 I8 => ?_) (Or.inr (lookup_relabel_local S.loc)))
   refine wpAny_mono (ht pins fp s3 _ _ s8 _ H7 _ (I8.kL _) (step y H7 y7)) (λ ok s9 ⟨H9,I9,q9⟩ => ?_) raised
   cases ok with
   | false =>
     rw [if_neg Bool.false_ne_true]
     have WB:N acc H9:=by simpa using q9
     exact again I9.gm WB
   | true =>
     rw [if_pos rfl]
     have WB:te (some y :: σ) H9 (λ v H5=>H5 s2.heap.objs.size=some (.lst acc)/\acc.length < sizeLine/\N (acc++[v]) (upd H5 s2.heap.objs.size (.lst (acc++[v])))):=q9
     refine wpAny_mono (he pins fp s3 _ _ s9 _ H9 _ I9 WB) (λ u10 s10 ⟨v,Nm,I10,r10,ha,hl,n10⟩ => ?_) raised
     refine wpAny_mono (HG (X:=(X.comp scope x pins fp s3 (upd H2 s2.heap.objs.size (.lst [])) λ _ _=>False).kL (XC (X.comp scope x pins fp s3 (upd H2 s2.heap.objs.size (.lst [])) λ _ _=>False) E)) _ s10 _ Nm (.ref s2.heap.objs.size) [v] (.ref s2.heap.objs.size) [u10] (λ w H'=>w = .aI/\H' = upd Nm s2.heap.objs.size (.lst (acc++[v]))) I10 rfl (.cons r10 .nil) ⟨_,acc,v,rfl,rfl,ha,hl,rfl,rfl⟩) (λ u11 s11 ⟨v11,O7,I11,r11,q11,e11⟩ => ?_) raised
     rw [e11] at I11
     exact again I11.gm n10
 exact codeAny_compStart_list loop (T.self _ 0 _ _ _ st4 loop)
end
section
variable {X:Cx} {scope:Scope} {x:Str} {E:XK} {elt iter:Expr} {px pos:Pos} {ifs:List Expr} {wi:TI} {tt:TT} {te:TE}
abbrev Cx.Vz (X:Cx) (scope:Scope) (x:Str) (pins:List (Addr×Obj)) (fp:List Addr) (s3:Shared) (H3:Hp) (E:XK):Cx:=(X.comp scope x pins fp s3 H3 λ _ _=>False).kL (XC (X.comp scope x pins fp s3 H3 λ _ _=>False) E)
theorem o7 (hc:X.calm=true) (hst:X.stack=X.env::X.outer) (hf:X.env.frame=some X.env.locals) (hex:X.ex = []) (QK : ∀ e s,Si X E e s->X.xe e s) (S:kU scope X.env.scope x X.N) (hi:PI X (.Name x px) iter wi)
  (ht : ∀ pins fp s3 H3,Tr (X.Vz scope x pins fp s3 H3 E) ifs tt) (he : ∀ pins fp s3 H3,PE (X.Vz scope x pins fp s3 H3 E) elt te) (hs : ∀ x,foldedSetIterable iter X.env x=pure x:=by intro _;rfl) :
  PE X (.ListComp elt [⟨.Name x px,iter,ifs,0⟩] scope pos) (GH wi tt te):=by
 intro pins s σ H Q I h
 rw [eval_ListComp]
 refine gc (use:=none) rfl hs (m9 λ y hy e=>I.ok.has y.1 (S.Vw y hy e)) S.kind S.nms (ck (hi pins s σ H _ I h) λ v s1 h1=>ck h1 λ itv s2 h2 => ?_)
 obtain ⟨it,fp,tn,J,H2,e,I2,T,st2,f2,hW⟩:=h2
 subst e
 refine vp hc hst hf hex QK S ht he I2 T st2 f2 hW λ s3 H3 p s' H' m I3 I' hC hn q cenv hcl => ?_
 refine ⟨m,by rw [hcl];exact hn,λ h' hs'=>⟨.ref p,H',sE (E:=X.xe) (s':=s') I3 I' hC (by rw [<-hcl];exact hs'),rfl,q⟩⟩
theorem gZ {y:Str} {i:Nat} {py spos:Pos} (hc:X.calm=true) (hst:X.stack=X.env::X.outer) (hf:X.env.frame=some X.env.locals) (hex:X.ex = []) (QK : ∀ e s,Si X E e s->X.xe e s) (S:kU scope X.env.scope x X.N) (hi:PI X (.Name x px) iter wi)
  (ht : ∀ pins fp s3 H3,Tr (X.Vz scope x pins fp s3 H3 E) ifs tt) (he : ∀ pins fp s3 H3,PE (X.Vz scope x pins fp s3 H3 E) elt te) (hN:X.N.Nodup) (hy:X.N[i]? = some y) (hl:Loc X.env.scope y)
  (hs : ∀ x,foldedSetIterable iter X.env x=pure x:=by intro _;rfl) (hsw:swapsWith (.ListComp elt [⟨.Name x px,iter,ifs,0⟩] scope pos) (some (.Name y py)) spos.line X.env=pure true:=by rfl)
  (hfn:X.fn y=true\/X.env.scope.names.lookup y=some .local:=by first | exact .inl rfl | exact .inr rfl | assumption) :
  PS X (.Assign [.Name y py] (.ListComp elt [⟨.Name x px,iter,ifs,0⟩] scope pos) spos) (JK (GH wi tt te) (sr i)):=by
 intro pins s σ H D I h
 rw [exec_Assign_Name_used _ _ _ _ hsw]
 refine wpAny_bind (wpAny_standAt (wpAny_bind ?_))
 show wpAny _ X.A (do let _ <-comprehension (.ListComp elt [⟨.Name x px,iter,ifs,0⟩] scope pos) scope X.env _ (newList []) false (eval iter X.env) (some (assign (.Name y py) X.env))) _ _ s
 refine wpAny_bind (wpAny_mono (gc (use:=some (assign (.Name y py) X.env)) (Q:=λ _ s'=>SP X pins D .next s') rfl hs (m9 λ y hy e=>I.ok.has y.1 (S.Vw y hy e)) S.kind S.nms
  (ck (hi pins s σ H _ I h) λ v s1 h1=>ck h1 λ itv s2 h2 => ?_)) (λ _ s' hq=>wpAny_pure (wpAny_pure hq)) λ _ _ e=>e)
 obtain ⟨it,fp,tn,J,H2,e,I2,T,st2,f2,hW⟩:=h2
 subst e
 refine vp (Q:=λ v H1=>sr i v σ H1 D.nx) hc hst hf hex QK S ht he I2 T st2 f2 hW λ s3 H3 p s' H' m I3 I' hC hn q cenv hcl => ?_
 show wpAny _ X.A (assign (.Name y py) X.env (.ref p)) _ _ s'
 refine wpAny_assign_Name (Ak I' hN hy hl (v := .ref p) rfl (λ s'' I'' hch => ?_) hfn)
 obtain ⟨a,hsb,ha⟩:=hch
 have R9:s3.heap.objs.size≠a:=by
  rcases ha with rfl | ha
  ·exact Nat.ne_of_gt I3.lt
  ·obtain ⟨w,z⟩:=I3.cell y a ha
   exact Nat.ne_of_gt z.lt
 refine ⟨m,by rw [hcl];exact hn.sameBut hsb R9,λ h' hs'=>⟨_,H',sE (E:=X.xe) (s':=s') I3 I'' hC (by rw [<-hcl];exact hs'),q⟩⟩
end
end L2
namespace L2
open PySem PySem.Spec PyProof.Rows
mutual
inductive eB (H:Hp):V->PyData->Prop
 | aI:eB H .aI .none
 | bl (b:Bool):eB H (.bl b) (.bool b)
 | int (i:Int):eB H (.int i) (.int i)
 | str (x:Str):eB H (.str x) (.str x)
 | lst {a:Addr} {xs:List V} {ds:List PyData} (e:H a=some (.lst xs)) (h:bR H xs ds):eB H (.ref a) (.list ds)
 | tup {a:Addr} {xs:List V} {ds:List PyData} (e:H a=some (.tup xs)) (h:bR H xs ds):eB H (.ref a) (.tuple ds)
inductive bR (H:Hp):List V->List PyData->Prop
 | nil:bR H [] []
 | cons {x:V} {xs:List V} {d:PyData} {ds:List PyData} : eB H x d->bR H xs ds->bR H (x::xs) (d::ds)
end
mutual
theorem eB.reads {P:Program} {w:World} {H:Hp} {h:Heap} (ok:j9 P w H h) : ∀ {x:V} {d:PyData} {u:Value},eB H x d->RelV x u->∃ as,Reads h u d as
 | _,_,_,.aI,r=>by cases r;exact ⟨_,.none⟩
 | _,_,_,.bl b,r=>by cases r;exact ⟨_,.bool b⟩
 | _,_,_,.int i,r=>by obtain ⟨t,rfl⟩:=r;exact ⟨_,.int i t⟩
 | _,_,_,.str x,r=>by obtain ⟨t,rfl⟩:=r;exact ⟨_,.str x t⟩
 | _,_,_,.lst e hs,r=>by
   cases r
   obtain ⟨_,its,n,rv,ho⟩:=(show bU P w H h _ (.lst _) from ok _ _ e)
   obtain ⟨as,ra⟩:=bR.reads ok hs rv
   exact ⟨_,.list ho rfl rfl ra⟩
 | _,_,_,.tup e hs,r=>by
   cases r
   obtain ⟨_,its,rv,o,ho,hc,n,hd⟩:=(show bU P w H h _ (.tup _) from ok _ _ e)
   obtain ⟨as,ra⟩:=bR.reads ok hs rv
   exact ⟨_,.tuple ho hc hd ra⟩
theorem bR.reads {P:Program} {w:World} {H:Hp} {h:Heap} (ok:j9 P w H h) : ∀ {xs:List V} {ds:List PyData} {us:List Value},bR H xs ds->Vals xs us->∃ as,ReadsAll h us ds as
 | _,_,_,.nil,.nil=>⟨_,.nil⟩
 | _,_,_,.cons a b,.cons r t=>by
   obtain ⟨_,ra⟩:=eB.reads ok a r
   obtain ⟨_,rb⟩:=bR.reads ok b t
   exact ⟨_,.cons ra rb⟩
end
mutual
theorem eB.mono {H H':Hp} (k : ∀ a xs,H a=some (.lst xs)->H' a=some (.lst xs)) (k2 : ∀ a xs,H a=some (.tup xs)->H' a=some (.tup xs)) : ∀ {x:V} {d:PyData},eB H x d->eB H' x d
 | _,_,.aI => .aI
 | _,_,.bl b => .bl b
 | _,_,.int i => .int i
 | _,_,.str x => .str x
 | _,_,.lst e hs => .lst (k _ _ e) (bR.mono k k2 hs)
 | _,_,.tup e hs => .tup (k2 _ _ e) (bR.mono k k2 hs)
theorem bR.mono {H H':Hp} (k : ∀ a xs,H a=some (.lst xs)->H' a=some (.lst xs)) (k2 : ∀ a xs,H a=some (.tup xs)->H' a=some (.tup xs)) : ∀ {xs:List V} {ds:List PyData},bR H xs ds->bR H' xs ds
 | _,_,.nil => .nil
 | _,_,.cons a b => .cons (eB.mono k k2 a) (bR.mono k k2 b)
end
theorem eB.same {H H':Hp} (s:kh H H') {x:V} {d:PyData} (h:eB H x d):eB H' x d:=h.mono (λ _ _ e=>s _ _ e) λ _ _ e=>s _ _ e
theorem bR.same {H H':Hp} (s:kh H H') {xs:List V} {ds:List PyData} (h:bR H xs ds):bR H' xs ds:=h.mono (λ _ _ e=>s _ _ e) λ _ _ e=>s _ _ e
theorem bR.append {H:Hp} : ∀ {xs ys:List V} {ds es:List PyData},bR H xs ds->bR H ys es->bR H (xs++ys) (ds++es)
 | _,_,_,_,.nil,h=>h
 | _,_,_,_,.cons a b,h => .cons a (bR.append b h)
theorem bR.length {H:Hp} : ∀ {xs:List V} {ds:List PyData},bR H xs ds->xs.length=ds.length
 | _,_,.nil=>rfl
 | _,_,.cons _ b=>by rw [List.length_cons,List.length_cons,bR.length b]
abbrev shaped:=PySem.SeqAt.shaped
section
variable {X:Cx}
end
end L2
set_option Elab.async false
set_option linter.all false
set_option maxRecDepth 100000
namespace L2
open PySem PySem.Spec PyProof.Rows
theorem kY : ∀ (ns:List Int),∀ n∈ns,Builtin.Int.intBits n<=PySem.W.WData.weightAll (ns.map PySem.W.WData.int)
 | m::r,n,h=>by
   simp only [List.map_cons,PySem.W.WData.weightAll]
   rcases List.mem_cons.mp h with rfl | h
   ·have:PySem.W.WData.weight (.int n)=Builtin.Int.intBits n:=by simp only [PySem.W.WData.weight,Builtin.Int.intBits]
    omega
   ·have:=kY r n h
    omega
theorem Dg {ns:List Int} (h:PySem.W.WData.layableAll [.list (ns.map PySem.W.WData.int)]=true) : ∀ n∈ns,Builtin.Int.intBits n<=1048576:=λ n hn=>by
 have h1:PySem.W.WData.layable (.list (ns.map PySem.W.WData.int))=true:=by simpa [PySem.W.WData.layableAll] using h
 unfold PySem.W.WData.layable at h1
 have h2:=of_decide_eq_true (Bool.and_eq_true_iff.mp h1).2
 have e:(2:Nat) ^ 20=1048576:=by decide
 simp only [PySem.W.WData.weight,e] at h2
 exact Nat.le_trans (kY ns n hn) h2
end L2
namespace Vl
open PySem PySem.W PySem.Calls PyProof.Rows
theorem Bs {l:OpenLaw} {n:Nat} {q:Program} {loose:List Str} {XP:(Str->Option Value)->Heap->Prop} {YP:World->Heap->Prop} {d:DefRec}
  (hn:l.most=some n) (hdf:d.params.defaults = [])
  (call : ∀ (w:World) (s₀ s₁ : Shared) (mg mb:Str->Option Value) (fa:Addr) (o:Obj) (pm cd doc:Value) (a:Addr) (vs:List Value) (ns:List Int),
   Ground q loose [] XP w s₀ mg mb s₁.heap->YP w s₁.heap →
   s₁.heap.get? fa=some o->o.data = .func (docDef d.name d.params d.body d.scope pm cd doc)->s₁.heap.CodeRec cd d.name->mg d.name=some (.ref fa) →
   s₁.heap.get? a=some { cls := .type "list",data := .seq vs.toArray }->IntsAre vs ns->ns.length<=n->(∀ n∈ns,Builtin.Int.intBits n<=1048576)->s₁.gens = #[] →
   codeAny (model l.prog w) callerA (.call (.ref fa) ⟨[.ref a],[]⟩) (λ r s'=>r = .ok (.ret (.bool true))/\OldK s₁.heap s'.heap/\s'.os=s₁.os/\AllBare s'.gens) s₁) :
  WalkO q loose XP YP l.row.toRowW d [] (λ f vs=>PySem.call f vs):=by
 intro w s₀ s₁ mg mb G Y fa o pm cd doc dV kV ho hd hcd hD hmg hg args vals as hpre hlay hrd hwl hlo
 obtain rfl:dV = .none:=Dflts.none hD hdf
 obtain rfl:kV = .none:=Dflts.noKw hD
 obtain ⟨a,vs,ns,rfl,rfl,hobj,hints,hlen⟩:=HH hn hpre hwl
 refine enter_call (codeAny_mono (call w s₀ s₁ mg mb fa o pm cd doc a vs ns G Y ho (fd_plain hd) hcd hmg hobj hints hlen (L2.Dg hlay) hg) λ r s' hq => ?_)
 obtain ⟨rfl,h2,h3,h4⟩:=hq
 exact ⟨.inl ⟨.bool true,.bool true,[],rfl,λ _=>rfl,.bool true,HJ l _,λ _=>⟨List.Pairwise.nil,λ _ hm=>(nomatch hm)⟩⟩,h2,h3,h4⟩
end Vl
namespace L2
open PySem PySem.Spec PyProof.Rows
def EM (K:PySem.W.Frag):Sp:=λ vs H Q _ => ∃ (a:Addr) (ns:List Int),vs = [.ref a]/\fq K H a (ns.map V.int)/\ns.length<=63/\(∀ n∈ns,Builtin.Int.intBits n<=1048576)/\Ng H ∧ ∀ H',Q (.bl true) H'
theorem HQ {l:PySem.W.OpenLaw} {q:Program} {loose:List Str} {XP:(Str->Option Value)->Heap->Prop} {YP:World->Heap->Prop} {d:DefRec} {K:Params->PySem.W.Frag} {k:Nat} {x:Str} (hn:l.most=some 63) (hdf:d.params.defaults = [])
  (hr:cZ k callerA) (hY : ∀ (w:World) (h:Heap),YP w h->(K w.params).In h)
  (F : ∀ (w:World) (mg:Str->Option Value) (fa:Addr) (h:Heap),(K w.params).In h->h.Ns mainGlobals mg->mg d.name=some (.ref fa) →
   ∃ fd:FuncData,(∀ (s:Shared) (u:Value),BindsTo s fd ⟨[u],[]⟩ [(x,u)]) ∧ ∀ base:Heap,(K w.params).In base->base.Ns mainGlobals mg->gq l.prog w (K w.params) mg base (xY l.prog w) k fa fd [x] (EM (K w.params))) :
  PySem.W.WalkO q loose XP YP l.row.toRowW d [] (λ f vs=>PySem.call f vs):=by
 refine Vl.Bs hn hdf λ w s₀ s₁ mg mb fa o pm cd doc a vs ns G Y ho hd hcd hmg hobj hints hlen Dh hg => ?_
 have KX:=hY w _ Y
 obtain ⟨fd,hb,hF⟩:=F w mg fa _ KX G.T.g hmg
 exact Ka KX G.T.g G.T.b G.T.builtins G.T.nolimit hg hobj hints (Nat.le_trans hlen (by decide)) hr hF hb (λ H hO hS=>⟨a,ns,rfl,hS,hlen,Dh,hO,λ _=>rfl⟩) λ H e s' ⟨_,_,_,_,_,_,_,z⟩=>z
theorem o8 {X:Cx} : nI X (binaryOp .Mult) (rI (λ i j=>IntMulOk i j) λ i j => .int (i * j)):=SG λ _ _ _ _ _ _ _ hc q=>mul_int q hc
end L2
set_option Elab.async false
set_option linter.all false
set_option maxRecDepth 100000
namespace L2
open PySem PySem.Spec PyProof.Rows
def GI (scope es:Scope) (x:Str) (N:List Str):Bool :=
 decide (scope.kind = .function) && (scope.names.all λ y=>decide (y.2 ≠ .cell)) && (scope.names.all λ y=>decide (y.2 ≠ .local) || decide (scope.names.lookup y.1=some .local)) && decide (scope.names.lookup x=some .local) &&
 decide (scope.names.lookup ("" : Str)=none) && (scope.names.all λ y=>decide (y.2 ≠ .free) || (decide (es.names.lookup y.1=some .cell) || decide (es.names.lookup y.1=some .free))) &&
 (scope.names.all λ y=>decide (y.2 ≠ .local) || (decide (y.1=x) || !N.contains y.1)) && decide (x::N.map λ y=>if y=x then ("" : Str) else y).Nodup
theorem dg {scope es:Scope} {x:Str} {N:List Str} (h:GI scope es x N=true):kU scope es x N:=by
 unfold GI at h
 simp only [Bool.and_eq_true,decide_eq_true_eq,List.all_eq_true,Bool.or_eq_true,Bool.not_eq_true'] at h
 obtain ⟨⟨⟨⟨⟨⟨⟨h1,h2⟩,h3⟩,h4⟩,h5⟩,h6⟩,h7⟩,h8⟩:=h
 refine ⟨h1,h2,λ y hy e=>(h3 y hy).resolve_left λ z=>z e,h4,h5,λ y hy e=>(h6 y hy).resolve_left λ z=>z e,λ y hy e => ?_,h8⟩
 rcases (h7 y hy).resolve_left λ z=>z e with q | q
 ·exact .inl q
 ·exact .inr λ m=>by
   have:N.contains y.1=true:=List.contains_iff_mem.mpr m
   rw [q] at this;cases this
def QM (sc:Scope) (x:Str):Bool:=match sc.names.lookup x with
 | some .local=>true
 | some .cell=>true
 | some .free=>true
 | _=>false
theorem QN {sc:Scope} {x:Str} (h:QM sc x=true):PZ sc x:=by
 unfold QM at h
 unfold PZ
 split at h <;> simp_all
section
variable {X:Cx}
theorem pk (i:Nat) {x:Str} {pos:Pos} (hN:X.N[i]? = some x:=by kernel_rfl) (hv:QM X.env.scope x=true:=by kernel_rfl) (hd:(x == ("__debug__" : Str))=false:=by decide)
  (hcd:(x == ("__classdict__" : Str))=false:=by decide):PE X (.Name x pos) (Ht i):=Eo hN (QN hv) hd hcd
theorem O8 {X:Cx} : ∀ e s,Si X E0 e s->X.xe e s:=λ _ _ ⟨_,_,_,_,_,_,_,_,_,_,_,_,_,z⟩=>z.elim
end
section
variable {P:Program} {w:World} {K:PySem.W.Frag} {mg:Str->Option Value} {base:Heap}
theorem Def.Di {x:Str} {st:Stmt} {N ps:List Str} {k:Nat} {sp:Sp} (D:Def K mg x st) (S:aD N ps (ai st)) (len : ∀ vs H Q E,sp vs H Q E->vs.length=ps.length)
  (hb : ∀ (kV doc pm:Value) (an:Option Addr) (cdv ct:Value) (us:List Value),us.length=ps.length->bindArgs (PySem.W.fnOf x x (aA st) (ay st) (ai st) .none kV doc pm an cdv ct) ⟨us,[]⟩ = pure (ps.zip us))
  (hbody : ∀ (f:Addr) (cdv:Value) (A:Around) (outer:List Env) (s:Shared) (H:Hp) (vs:List V) (Q:VK) (E:XK),cZ k (A.deeper (envOfC x (ai st) s.heap.objs.size f cdv))->sp vs H Q E →
   ∃ t,A4 (HM P w K mg base N x (ai st) f cdv A outer s H E) (ay st) t/\t { nx:=λ _ H'=>Q .aI H',rt:=Q } (start N vs) H):dF P w K mg base (k+1) x ps sp:=by
 obtain ⟨f,fd,hm,F⟩:=D
 refine ⟨f,fd,hm,F.kp,F.binds hb,?_⟩
 obtain ⟨oc,od,kV,doc,pm,an,cdv,ct,osl,rfl,lk,hcd⟩:=F.ex
 exact Aw lk hcd S len λ A outer s H vs Q E hr Ei=>hbody _ cdv A outer s H vs Q E hr Ei
structure sZ (K:PySem.W.Frag) (mg:Str->Option Value) (x:Str) (C:Addr):Prop where
 cl:MH K C
 Tn:mg x=some (.ref C)
def bF (K:PySem.W.Frag) (C:Addr) (m qual:Str) (st:Stmt):Prop := ∃ f fd,Meth K C m f/\HK K m qual st f fd
structure aM (P:Program) (w:World) (K:PySem.W.Frag) (mg:Str->Option Value) (base:Heap) (k:Nat) (C:Addr) (m:Str) (ps:List Str) (sp:Sp):Prop where
 ex : ∃ f fd,Meth K C m f/\Binds K fd ps []/\gq P w K mg base (xY P w) k f fd ps sp
def nN (K:PySem.W.Frag) (C:Addr) (qual:Str) (st:Stmt):Prop := ∃ f fd,Mk K C f/\HK K "__init__" qual st f fd
structure iC (P:Program) (w:World) (K:PySem.W.Frag) (mg:Str->Option Value) (base:Heap) (k:Nat) (C:Addr) (ps:List Str) (sp:Sp):Prop where
 ex : ∃ f fd,Mk K C f/\Binds K fd ps []/\gq P w K mg base (xY P w) k f fd ps sp
theorem aM.mono {C:Addr} {m:Str} {ps:List Str} {sp:Sp} {j k:Nat} (F:aM P w K mg base j C m ps sp) (h:j<=k):aM P w K mg base k C m ps sp:=by
 obtain ⟨f,fd,h1,h3,h4⟩:=F.ex
 exact ⟨f,fd,h1,h3,h4.mono h⟩
theorem bF.Di {C:Addr} {m qual:Str} {st:Stmt} {N ps:List Str} {k:Nat} {sp:Sp} (D:bF K C m qual st) (S:aD N ps (ai st)) (len : ∀ vs H Q E,sp vs H Q E->vs.length=ps.length)
  (hb : ∀ (kV doc pm:Value) (an:Option Addr) (cdv ct:Value) (us:List Value),us.length=ps.length->bindArgs (PySem.W.fnOf m qual (aA st) (ay st) (ai st) .none kV doc pm an cdv ct) ⟨us,[]⟩ = pure (ps.zip us))
  (hbody : ∀ (f:Addr) (cdv:Value) (A:Around) (outer:List Env) (s:Shared) (H:Hp) (vs:List V) (Q:VK) (E:XK),cZ k (A.deeper (envOfC qual (ai st) s.heap.objs.size f cdv))->sp vs H Q E →
   ∃ t,A4 (HM P w K mg base N qual (ai st) f cdv A outer s H E) (ay st) t/\t { nx:=λ _ H'=>Q .aI H',rt:=Q } (start N vs) H):aM P w K mg base (k+1) C m ps sp:=by
 obtain ⟨f,fd,hm,F⟩:=D
 refine ⟨f,fd,hm,F.binds hb,?_⟩
 obtain ⟨oc,od,kV,doc,pm,an,cdv,ct,osl,rfl,lk,hcd⟩:=F.ex
 exact Aw lk hcd S len λ A outer s H vs Q E hr Ei=>hbody _ cdv A outer s H vs Q E hr Ei
theorem bF.ok {C:Addr} {m qual:Str} {st:Stmt} {N ps:List Str} {k:Nat} {sp:Sp} (D:bF K C m qual st) (S:aD N ps (ai st)) (len : ∀ vs H Q E,sp vs H Q E->vs.length=ps.length)
  (hb : ∀ (kV doc pm:Value) (an:Option Addr) (cdv ct:Value) (us:List Value),us.length=ps.length->bindArgs (PySem.W.fnOf m qual (aA st) (ay st) (ai st) .none kV doc pm an cdv ct) ⟨us,[]⟩ = pure (ps.zip us))
  (hbody : ∀ (f:Addr) (cdv:Value) (A:Around) (outer:List Env) (s:Shared) (H:Hp) (vs:List V) (Q:VK) (E:XK),cZ k (A.deeper (envOfC qual (ai st) s.heap.objs.size f cdv))->sp vs H Q E →
   ∃ t,A4 (u5 (xY P w) P w K mg base N qual (ai st) f cdv A outer s H E).Eh (ay st) t/\t { nx:=λ _ H'=>Q .aI H',rt:=Q } (start N vs) H):aM P w K mg base (k+1) C m ps sp:=by
 refine D.Di S len hb λ f cdv A outer s H vs Q E hr h => ?_
 obtain ⟨t,h,q⟩:=hbody f cdv A outer s H vs Q E hr h
 exact ⟨t,h.Eh,q⟩
theorem nN.Di {C:Addr} {qual:Str} {st:Stmt} {N ps:List Str} {k:Nat} {sp:Sp} (D:nN K C qual st) (S:aD N ps (ai st)) (len : ∀ vs H Q E,sp vs H Q E->vs.length=ps.length)
  (hb : ∀ (kV doc pm:Value) (an:Option Addr) (cdv ct:Value) (us:List Value),us.length=ps.length->bindArgs (PySem.W.fnOf "__init__" qual (aA st) (ay st) (ai st) .none kV doc pm an cdv ct) ⟨us,[]⟩ = pure (ps.zip us))
  (hbody : ∀ (f:Addr) (cdv:Value) (A:Around) (outer:List Env) (s:Shared) (H:Hp) (vs:List V) (Q:VK) (E:XK),cZ k (A.deeper (envOfC qual (ai st) s.heap.objs.size f cdv))->sp vs H Q E →
   ∃ t,A4 (HM P w K mg base N qual (ai st) f cdv A outer s H E) (ay st) t/\t { nx:=λ _ H'=>Q .aI H',rt:=Q } (start N vs) H):iC P w K mg base (k+1) C ps sp:=by
 obtain ⟨f,fd,hm,F⟩:=D
 refine ⟨f,fd,hm,F.binds hb,?_⟩
 obtain ⟨oc,od,kV,doc,pm,an,cdv,ct,osl,rfl,lk,hcd⟩:=F.ex
 exact Aw lk hcd S len λ A outer s H vs Q E hr Ei=>hbody _ cdv A outer s H vs Q E hr Ei
theorem nN.ok {C:Addr} {qual:Str} {st:Stmt} {N ps:List Str} {k:Nat} {sp:Sp} (D:nN K C qual st) (S:aD N ps (ai st)) (len : ∀ vs H Q E,sp vs H Q E->vs.length=ps.length)
  (hb : ∀ (kV doc pm:Value) (an:Option Addr) (cdv ct:Value) (us:List Value),us.length=ps.length->bindArgs (PySem.W.fnOf "__init__" qual (aA st) (ay st) (ai st) .none kV doc pm an cdv ct) ⟨us,[]⟩ = pure (ps.zip us))
  (hbody : ∀ (f:Addr) (cdv:Value) (A:Around) (outer:List Env) (s:Shared) (H:Hp) (vs:List V) (Q:VK) (E:XK),cZ k (A.deeper (envOfC qual (ai st) s.heap.objs.size f cdv))->sp vs H Q E →
   ∃ t,A4 (u5 (xY P w) P w K mg base N qual (ai st) f cdv A outer s H E).Eh (ay st) t/\t { nx:=λ _ H'=>Q .aI H',rt:=Q } (start N vs) H):iC P w K mg base (k+1) C ps sp:=by
 refine D.Di S len hb λ f cdv A outer s H vs Q E hr h => ?_
 obtain ⟨t,h,q⟩:=hbody f cdv A outer s H vs Q E hr h
 exact ⟨t,h.Eh,q⟩
theorem vq {h:Heap} {x:Str} {C:Addr} (X:K.In h) (G:h.Ns mainGlobals mg) (a:PySem.W.nsIn K mainGlobals x=some (some (.ref C))) (h1:PySem.W.plainGet K C Str.empty=true) (h2:PySem.W.hasDictIn K C=true) (h3:PySem.W.plainOver K C=true)
  (h4:PySem.W.findIn K (.ref C) "__setattr__" = some (some (.builtin "object.__setattr__"))):sZ K mg x C:=⟨⟨h1,h2,h3,h4⟩,PySem.W.mg_of X G a⟩
theorem bu {C f:Addr} {m qual:Str} {st:Stmt} {oc:Value} {od an:Option Addr} {osl:Array (Option Value)} {kV doc pm cdv ct:Value} (a:PySem.W.findIn K (.ref C) m=some (some (.ref f))) (fn:PySem.W.isFn K (.ref f)=true)
  (l:K.lookup f=some ⟨oc,od,.func (PySem.W.fnOf m qual (aA st) (ay st) (ai st) .none kV doc pm an cdv ct),osl⟩) (c:PySem.W.codeIn K cdv qual=true) (k:PySem.W.keepIn K (.ref f)=true):bF K C m qual st:=⟨f,_,⟨a,fn,k⟩,EH l c k⟩
theorem o9 {C f:Addr} {qual:Str} {st:Stmt} {oc:Value} {od an:Option Addr} {osl:Array (Option Value)} {kV doc pm cdv ct:Value} (m:PySem.W.makesIn K C=true) (a:PySem.W.findIn K (.ref C) "__init__" = some (some (.ref f))) (fn:PySem.W.isFn K (.ref f)=true) (kC:PySem.W.keepIn K (.ref C)=true)
  (l:K.lookup f=some ⟨oc,od,.func (PySem.W.fnOf "__init__" qual (aA st) (ay st) (ai st) .none kV doc pm an cdv ct),osl⟩) (c:PySem.W.codeIn K cdv qual=true) (k:PySem.W.keepIn K (.ref f)=true):nN K C qual st:=⟨f,_,⟨m,a,fn,kC⟩,EH l c k⟩
end
section
variable {X:Cx} {k:Nat} {C:Addr} {ps:List Str} {sp:Sp} {E:XK} {x m:Str} {p pos apos:Pos} {e o:Expr} {es:List Expr} {ta:TE} {t:TA}
theorem aU {pl:Sem Bool} (T:sZ X.K X.mg x C) (F:aM X.prog X.w X.K X.mg X.base k C m ps sp) (hr:cZ k X.A) (hx:Passes (xY X.prog X.w) X E) (he:PE X o ta) (ha:PA X (e::es) t)
  (hst:starEach (e::es) X.env=(false,eval e X.env)::starEach es X.env:=by rfl) (hpl:(backTo pos (starEach es X.env)).any (·.1)=false:=by rfl)
  (ht:eval (.Call (.Attribute o m apos) (e::es) [] pos) X.env=(do
   let ov <-eval o X.env
   standAt apos.atName
   let (f,first) <-holding [ov] (getMethod ov m pl)
   callWith pos f first (backTo pos (starEach (e::es) X.env)) (backToKw pos (keywordEach [] X.env))):=by rfl) :
  PE X (.Call (.Attribute o m apos) (e::es) [] pos) (Ao C m sp [] E ta t):=by
 obtain ⟨f,fd,h1,h3,h4⟩:=F.ex
 exact M5 he T.cl h1 h4 hr h3 .nil hx ha hst hpl ht
theorem dh {pl:Sem Bool} (T:sZ X.K X.mg x C) (F:aM X.prog X.w X.K X.mg X.base k C m ps sp) (hr:cZ k X.A) (hx:Passes (xY X.prog X.w) X E) (he:PE X o ta)
  (ht:eval (.Call (.Attribute o m apos) [] [] pos) X.env=(do
   let ov <-eval o X.env
   standAt apos.atName
   let (f,first) <-holding [ov] (getMethod ov m pl)
   callWith pos f first (backTo pos (starEach [] X.env)) (backToKw pos (keywordEach [] X.env))):=by rfl) :
  PE X (.Call (.Attribute o m apos) [] [] pos) (Ao C m sp [] E ta CU):=by
 obtain ⟨f,fd,h1,h3,h4⟩:=F.ex
 exact JW he T.cl h1 h4 hr h3 .nil hx ht
theorem pq (T:sZ X.K X.mg x C) (F:iC X.prog X.w X.K X.mg X.base k C ps sp) (hr:cZ (k+1) X.A) (hg:Gl X x) (hx:Passes (xY X.prog X.w) X E) (ha:PA X (e::es) t)
  (hdb:(x == ("__debug__" : Str))=false:=by decide) (he:starEach (e::es) X.env=(false,eval e X.env)::starEach es X.env:=by rfl) (hpl:(backTo pos (starEach es X.env)).any (·.1)=false:=by rfl) :
  PE X (.Call (.Name x p) (e::es) [] pos) (Aq C sp [] E t):=by
 obtain ⟨f,fd,h1,h3,h4⟩:=F.ex
 exact M6 h1 h4 hr hg T.Tn h3 .nil hx ha hdb he hpl
theorem HR (T:sZ X.K X.mg x C) (F:iC X.prog X.w X.K X.mg X.base k C ps sp) (hr:cZ (k+1) X.A) (hg:Gl X x) (hx:Passes (xY X.prog X.w) X E)
  (hdb:(x == ("__debug__" : Str))=false:=by decide):PE X (.Call (.Name x p) [] [] pos) (Aq C sp [] E CU):=by
 obtain ⟨f,fd,h1,h3,h4⟩:=F.ex
 exact JX h1 h4 hr hg T.Tn h3 .nil hx hdb
def Kl (C:Addr) (ta:TE) (f:Str):TE:=fun σ H Q=>ta σ H λ x H1 => ∃ a dx fs v,x = .ref a/\H1 a=some (.ins C dx fs)/\fs.lookup f=some v/\Q v H1
theorem az {f:Str} (T:sZ X.K X.mg x C) (na:cG X.K C f) (he:PE X o ta) (hb:attributeBase o f X.env (eval o X.env)=eval o X.env:=by rfl):PE X (.Attribute o f pos) (Kl C ta f):=by
 intro pins s σ H Q I h
 refine MZ hb (ck (he pins s σ H _ I h) λ u s1 ⟨x,H1,I1,rx,a,dx,fs,v,ex,ea,l,q⟩ => ?_)
 subst ex
 obtain rfl:u=Value.ref a:=rx
 exact Eu I1 ea T.cl na l λ u' s2 I2 ru=>⟨v,H1,I2,ru,q⟩
def Km (C:Addr) (ta tv:TE) (f:Str):TS:=λ D σ H=>tv σ H λ y H1=>ta σ H1 λ x H2 => ∃ a dx fs,x = .ref a/\H2 a=some (.ins C dx fs)/\fs.length < 1000/\D.nx σ (upd H2 a (.ins C dx (cP f y fs)))
theorem cy {f:Str} {value:Expr} {tv:TE} {pos':Pos} (T:sZ X.K X.mg x C) (na:cG X.K C f) (ha:PE X o ta) (hv:PE X value tv) (hs:swapsWith value (some (.Attribute o f pos')) pos.line X.env=pure false:=by rfl):PS X (.Assign [.Attribute o f pos'] value pos) (Km C ta tv f):=by
 intro pins s σ H D I h
 refine plainObj_wpAny_Assign_Attribute (ck (hv pins s σ H _ I h) λ u s1 ⟨y,H1,I1,ry,q⟩=>ck (ha pins s1 σ H1 _ I1 q) λ ov s2 ⟨x,H2,I2,rx,a,dx,fs,ex,ea,l,q2⟩ => ?_) hs
 subst ex
 obtain rfl:ov=Value.ref a:=rx
 exact Ew I2 ea T.cl na l ry λ s3 I3=>⟨σ,_,I3,q2⟩
end
end L2
set_option Elab.async false
set_option linter.all false
set_option maxRecDepth 100000
namespace L2
open PySem PySem.Spec PyProof.Rows
theorem Bt:gH "NoneType" "str" = some false:=rfl
theorem Bu:gH "list" "str" = some false:=rfl
theorem yh:gH "tuple" "str" = some false:=rfl
theorem Nn:nJ 10 60=True:=eq_true ⟨by decide,by decide,by decide⟩
theorem Np:nJ 10 59=True:=eq_true ⟨by decide,by decide,by decide⟩
theorem Nq:nJ 10 20=True:=eq_true ⟨by decide,by decide,by decide⟩
section
variable {X:Cx} {K:PySem.W.Frag}
theorem Kn (h:X.K=K):Se X (Qv K):=by subst h;exact GC
theorem vt (h:X.K=K):Vi X (Nb K):=by subst h;exact Nc
theorem yi (h:X.K=K):kM X (.builtin "len") (λ xs H Q => ∃ p ys,xs = [.ref p]/\(fq K H p ys\/Eg K H p ys)/\Q (.int ys.length) H):=by subst h;exact jD
theorem aT (h:X.K=K):kM X (.type "list") (λ xs H Q => ∃ p ys,xs = [.ref p]/\(fq K H p ys\/Eg K H p ys) ∧ ∀ l,H l=none->Q (.ref l) (upd H l (.lst ys))):=by subst h;exact Bd
end
end L2
set_option Elab.async false
set_option linter.all false
set_option maxRecDepth 100000
namespace L2
open PySem PySem.Spec PyProof.Rows
def sF (J:It) (tt:TT) (te:TE) (σ : St) (Q:VK) (H1:Hp):Prop := ∀ p,H1 p=none->∃ W:Nat->Nat->List V->Hp->Prop,(∃ m,W 0 m [] (upd H1 p (.lst []))) ∧ ∀ i m acc H2,W i m acc H2 →
 H2 p=some (.lst acc)/\((J.stop i H2/\Q (.ref p) H2)\/(J.go i H2 ∧ ∃ N:List V->Hp->Prop,(∀ acc' H',N acc' H'->∃ m',m' < m/\W (i+1) m' acc' H') ∧ ∀ x H3,J.MV i H2 x H3->tt (some x :: σ) H3 λ b H4 =>
  if b=true then te (some x :: σ) H4 λ v H5=>H5 p=some (.lst acc)/\acc.length < sizeLine/\N (acc++[v]) (upd H5 p (.lst (acc++[v]))) else N acc H4))
theorem vv {K:PySem.W.Frag} {tl:TE} {tt:TT} {te:TE} {σ : St} {H:Hp} {Q:VK}
  (h : ∀ L,Is L (λ a H1=>sF (Jx K a) tt te σ Q H1)->tl σ H λ x H1 => ∃ a,x = .ref a/\(∃ xs,fq K H1 a xs)/\L a H1):GH (JL K tl) tt te σ H Q:=h _ Is.rfl
theorem EN {ta:TA} {tt:TT} {te:TE} {σ : St} {H:Hp} {Q:VK}
  (h : ∀ L,Is L (λ n H1=>sF (Hu 0 n) tt te σ Q H1)->ta σ H λ vs H1 => ∃ j:Int,vs = [.int j] ∧ -(2 ^ 62)<=j/\j < 2 ^ 62/\L j.toNat H1):GH (JN ta) tt te σ H Q:=h _ Is.rfl
theorem Dj {K:PySem.W.Frag} {a:Addr} {tt:TT} {te:TE} {σ : St} {Q:VK} {H1:Hp} (xs:List V) (Pv:Addr->Nat->List V->Hp->Prop) (h0 : ∀ p,H1 p=none->Pv p 0 [] (upd H1 p (.lst [])))
  (hl : ∀ p i acc H,H1 p=none->Pv p i acc H->H p=some (.lst acc)/\fq K H a xs)
  (hs : ∀ p i x acc H,H1 p=none->xs[i]? = some x->Pv p i acc H->tt (some x :: σ) H λ b H4=>if b=true then te (some x :: σ) H4 λ v H5=>H5 p=some (.lst acc)/\acc.length < sizeLine/\Pv p (i+1) (acc++[v]) (upd H5 p (.lst (acc++[v]))) else Pv p (i+1) acc H4)
  (hd : ∀ p acc H,H1 p=none->Pv p xs.length acc H->Q (.ref p) H):sF (Jx K a) tt te σ Q H1:=by
 intro p hp
 refine ⟨λ i m acc H=>Pv p i acc H/\i<=xs.length/\m=xs.length - i,⟨_,h0 p hp,Nat.zero_le _,rfl⟩,?_⟩
 rintro i m acc H2 ⟨hP,hi,rfl⟩
 obtain ⟨ha,hq⟩:=hl p i acc H2 hp hP
 refine ⟨ha,?_⟩
 by_cases e:i=xs.length
 ·subst e
  exact .inl ⟨⟨xs,hq,Nat.le_refl _⟩,hd p acc H2 hp hP⟩
 ·have hlt:i < xs.length:=by omega
  refine .inr ⟨⟨xs,xs[i],hq,by simp [hlt]⟩,λ acc' H'=>Pv p (i+1) acc' H',λ acc' H' h'=>⟨_,?_,h',hlt,rfl⟩,?_⟩
  ·omega
  ·rintro x H3 ⟨rfl,hx⟩
   exact hs p i x acc H3 hp (hx xs hq) hP
theorem AF {lo:Int} {n:Nat} {tt:TT} {te:TE} {σ : St} {Q:VK} {H1:Hp} (Pv:Addr->Nat->List V->Hp->Prop) (h0 : ∀ p,H1 p=none->Pv p 0 [] (upd H1 p (.lst [])))
  (hl : ∀ p i acc H,H1 p=none->Pv p i acc H->H p=some (.lst acc))
  (hs : ∀ p i acc H,H1 p=none->i < n->Pv p i acc H->tt (some (.int (lo+i)) :: σ) H λ b H4=>if b=true then te (some (.int (lo+i)) :: σ) H4 λ v H5=>H5 p=some (.lst acc)/\acc.length < sizeLine/\Pv p (i+1) (acc++[v]) (upd H5 p (.lst (acc++[v]))) else Pv p (i+1) acc H4)
  (hd : ∀ p acc H,H1 p=none->Pv p n acc H->Q (.ref p) H):sF (Hu lo n) tt te σ Q H1:=by
 intro p hp
 refine ⟨λ i m acc H=>Pv p i acc H/\i<=n/\m=n - i,⟨_,h0 p hp,Nat.zero_le _,rfl⟩,?_⟩
 rintro i m acc H2 ⟨hP,hi,rfl⟩
 refine ⟨hl p i acc H2 hp hP,?_⟩
 by_cases e:i=n
 ·subst e
  exact .inl ⟨Nat.le_refl _,hd p acc H2 hp hP⟩
 ·have hlt:i < n:=by omega
  refine .inr ⟨hlt,λ acc' H'=>Pv p (i+1) acc' H',λ acc' H' h'=>⟨_,?_,h',hlt,rfl⟩,?_⟩
  ·omega
  ·rintro x H3 ⟨rfl,rfl⟩
   exact hs p i acc H3 hp hlt hP
theorem O9 {α : Type} {x0 x1 x2 x3 x4 x5 : α} {xs:List α} : iZ (x0::x1::x2::x3::x4::x5::xs) 5=some x5:=gG (j:=5) rfl
theorem Tv {α : Type} {x0 x1 x2 x3 x4 x5 x6 x7 : α} {xs:List α} : iZ (x0::x1::x2::x3::x4::x5::x6::x7::xs) 7=some x7:=gG (j:=7) rfl
theorem QT (xs:List V) {j:Int} (h:0<=j):kP xs none (some j)=xs.take j.toNat:=by
 obtain ⟨j,rfl⟩:=Int.eq_ofNat_of_zero_le h
 have e:=HT.GA xs.length xs.length j
 unfold kP
 rw [HT.C1,e,List.drop_zero,Nat.sub_zero,Int.toNat_natCast]
 by_cases hj:j<=xs.length
 ·rw [Nat.min_eq_left hj]
 ·rw [Nat.min_eq_right (by omega),List.take_of_length_le (Nat.le_refl _),List.take_of_length_le (by omega)]
theorem Ko (xs:List V) {i:Int} (h:0<=i):kP xs (some i) none=xs.drop i.toNat:=by
 obtain ⟨i,rfl⟩:=Int.eq_ofNat_of_zero_le h
 have e:=HT.GA xs.length 0 i
 unfold kP
 rw [HT.C1,e,Int.toNat_natCast]
 by_cases hi:i<=xs.length
 ·rw [Nat.min_eq_left hi,List.take_of_length_le (by simp)]
 ·rw [Nat.min_eq_right (by omega),List.drop_of_length_le (Nat.le_refl _),List.drop_of_length_le (by omega)];simp
structure New (H:Hp) (p:Addr) (H':Hp):Prop where
 free:H p=none
 same:kh H H'
theorem New.upd {H:Hp} {p:Addr} {o:HO} (h:H p=none):New H p (L2.upd H p o):=⟨h,vf h⟩
end L2
set_option Elab.async false
set_option linter.all false
set_option maxRecDepth 100000
namespace L2
open PySem PySem.Spec PyProof.Rows
theorem Is.use {α β : Type} {R S : α->β->Prop} (h:Is R S) {x : α} {y : β} (k:S x y):R x y:=by cases h;exact k
def Hid {α β : Type} (S : α->β->Prop) (g:(α->β->Prop)->Prop):Prop := ∀ R,(∀ x y,S x y->R x y)->g R
theorem WC {α β : Type} {S : α->β->Prop} {g:(α->β->Prop)->Prop} (h : ∀ R,(∀ x y,S x y->R x y)->g R):Hid S g:=h
section
variable {σ : St} {H:Hp} {Q:VK} {D:Ends} {ta tb tc te:TE} {t u:TA} {r:R2} {b:TS} {QB:Bool->Hp->Prop} {c d:TT} {QA:List V->Hp->Prop}
theorem WE {g:TG} (h : ∀ R,Is R (λ x H1=>g x σ H1 D.nx)->te σ H R):JK te g D σ H:=h _ Is.rfl
theorem Tw (h : ∀ R,Is R (λ _ H1=>D.nx σ H1)->te σ H R):JH te D σ H:=h _ Is.rfl
theorem WG (h : ∀ R,Is R (λ x H1=>D.rt x H1)->te σ H R):MS te D σ H:=h _ Is.rfl
theorem ifH {a b:TS} (h : ∀ R,Is R (λ k H1=>if k=true then a D σ H1 else b D σ H1)->c σ H R):MT c a b D σ H:=h _ Is.rfl
theorem Tz (h : ∀ R,Is R (λ x H1 => ∃ k,x = .bl k/\QB k H1)->te σ H R):Am te σ H QB:=h _ Is.rfl
theorem tBH (h : ∀ R,Is R (λ x H1 => ∃ k,x = .bl k/\QB k H1)->te σ H R):tB te σ H QB:=h _ Is.rfl
theorem WH (h : ∀ R,Is R (λ k H1=>QB (!k) H1)->c σ H R):Qd c σ H QB:=h _ Is.rfl
theorem WI (h : ∀ R,Is R (λ k H1=>if k=true then d σ H1 QB else QB false H1)->c σ H R):Qc c d σ H QB:=h _ Is.rfl
theorem orH (h : ∀ R,Is R (λ k H1=>if k=true then QB true H1 else d σ H1 QB)->c σ H R):We c d σ H QB:=h _ Is.rfl
theorem TF {α β : Type} {R S : α->β->Prop} (h : ∀ x y,S x y->R x y) {x : α} {y : β} (k:S x y):R x y:=h x y k
theorem TH (h : ∀ R,Is R (λ x H1 => ∃ c,x = .bl c/\if c=true then tb σ H1 Q else Q (.bl false) H1)->ta σ H R):JD ta tb σ H Q:=h _ Is.rfl
theorem WJ (h : ∀ R,Is R (λ x H1 => ∃ c,x = .bl c/\if c=true then Q (.bl true) H1 else tb σ H1 Q)->ta σ H R):Qe ta tb σ H Q:=h _ Is.rfl
theorem TJ (h : ∀ R,Is R (λ x H1 => ∃ c,x = .bl c/\Q (.bl (!c)) H1)->ta σ H R):JE ta σ H Q:=h _ Is.rfl
theorem opH (h : ∀ R,(∀ x H1,Hid (λ y H2=>r x y H2 Q) (λ R2=>tb σ H1 R2)->R x H1)->ta σ H R):Qk r ta tb σ H Q:=h (λ x H1=>tb σ H1 λ y H2=>r x y H2 Q) λ _ _ z=>z _ λ _ _ z2=>z2
theorem unH {q:V->Hp->VK->Prop} (h : ∀ R,Is R (λ x H1=>q x H1 Q)->ta σ H R):Wh q ta σ H Q:=h _ Is.rfl
theorem slH {q:V->Option Int->Option Int->Hp->VK->Prop} {tl th:TO} (h : ∀ R,Is R (λ x H1=>tl σ H1 λ l H2=>th σ H2 λ u H3=>q x l u H3 Q)->te σ H R):Wk q te tl th σ H Q:=h _ Is.rfl
theorem TL {QO:Option Int->Hp->Prop} (h : ∀ R,Is R (λ x H1 => ∃ i,x = .int i/\QO (some i) H1)->te σ H R):J6 te σ H QO:=h _ Is.rfl
theorem TM (h : ∀ R,Is R (λ x H1=>t σ H1 λ xs H2=>QA (x::xs) H2)->te σ H R):Gy te t σ H QA:=h _ Is.rfl
theorem WK (h : ∀ R,Is R (λ xs H1=>xs.length<=sizeLine ∧ ∀ p,H1 p=none->Q (.ref p) (upd H1 p (.tup xs)))->t σ H R):Qn t σ H Q:=h _ Is.rfl
theorem WL (h : ∀ R,Is R (λ xs H1=>xs.length<=sizeLine ∧ ∀ p,H1 p=none->Q (.ref p) (upd H1 p (.lst xs)))->t σ H R):Qo t σ H Q:=h _ Is.rfl
theorem TN {sp:Sp} {jb:List V} {E:XK} (h : ∀ R,Is R (λ vs H1=>sp (vs++jb) H1 Q E)->t σ H R):Gz sp jb E t σ H Q:=h _ Is.rfl
theorem cbH {q:List V->Hp->VK->Prop} (h : ∀ R,Is R (λ vs H1=>q vs H1 Q)->t σ H R):SX q t σ H Q:=h _ Is.rfl
theorem TQ {C:Addr} {m:Str} {sp:Sp} {jb:List V} {E:XK} (h : ∀ R,Is R (λ x H1 => ∃ a dx fs,x = .ref a/\H1 a=some (.ins C dx fs)/\fs.lookup m=none/\t σ H1 λ vs H2=>sp (x::(vs++jb)) H2 Q E)->ta σ H R):Ao C m sp jb E ta t σ H Q:=h _ Is.rfl
theorem TR {C:Addr} {sp:Sp} {jb:List V} {E:XK} (h : ∀ R,Is R (λ vs H1 => ∀ x dx,H1 x=none->H1 dx=none->dx≠x->sp (.ref x::(vs++jb)) (upd (upd H1 dx (.own x)) x (.ins C dx [])) (λ v H2=>v = .aI/\Q (.ref x) H2) E)->t σ H R):Aq C sp jb E t σ H Q:=h _ Is.rfl
theorem WM {C:Addr} {f:Str} (h : ∀ R,Is R (λ x H1 => ∃ a dx fs v,x = .ref a/\H1 a=some (.ins C dx fs)/\fs.lookup f=some v/\Q v H1)->ta σ H R):Kl C ta f σ H Q:=h _ Is.rfl
theorem TU {C:Addr} {f:Str} (h : ∀ R,Is R (λ y H1=>ta σ H1 λ x H2 => ∃ a dx fs,x = .ref a/\H2 a=some (.ins C dx fs)/\fs.length < 1000/\D.nx σ (upd H2 a (.ins C dx (cP f y fs))))->te σ H R):Km C ta te f D σ H:=h _ Is.rfl
theorem bmH {K:PySem.W.Frag} {T:String} {q:V->List V->Hp->VK->Prop} (h : ∀ R,Is R (λ x H1=>S8 K T x H1/\t σ H1 λ xs H2=>q x xs H2 Q)->ta σ H R):Wm K T q ta t σ H Q:=h _ Is.rfl
theorem TV (h : ∀ R,(∀ v H1,Hid (λ x H2=>Hid (λ y H3 => ∃ a H4,x = .ref a/\nM H3 a y v H4/\D.nx σ H4) (λ R3=>tb σ H2 R3)) (λ R2=>ta σ H1 R2)->R v H1)->te σ H R):J1 ta tb te D σ H:=h (λ v H1=>ta σ H1 λ x H2=>tb σ H2 λ y H3 => ∃ a H4,x = .ref a/\nM H3 a y v H4/\D.nx σ H4) λ v H1 z=>z _ λ x H2 z2=>z2 _ λ _ _ z3=>z3
theorem TX {to ti:TE} {tt:JI} {v:V} {QS:St->Hp->Prop} (h : ∀ R,(∀ o H1,Hid (λ i H2=>tt o i v H2 λ H3=>QS σ H3) (λ R2=>ti σ H1 R2)->R o H1)->to σ H R):Qh to ti tt v σ H QS:=h (λ o H1=>ti σ H1 λ i H2=>tt o i v H2 λ H3=>QS σ H3) λ _ _ z=>z _ λ _ _ z2=>z2
theorem TY (h : ∀ R,Is R (λ x H1=>tb σ H1 λ y H2 => ∃ a v,x = .ref a/\gu H2 a y (some v)/\Q v H2)->ta σ H R):J0 ta tb σ H Q:=h _ Is.rfl
theorem WN (h : ∀ R,Is R (λ y H1=>tb σ H1 λ x H2 => ∃ a o,x = .ref a/\gu H2 a y o/\Q (.bl o.isSome) H2)->ta σ H R):Qq ta tb σ H Q:=h _ Is.rfl
theorem TZ (h : ∀ R,Is R (λ y H1=>tb σ H1 λ x H2 => ∃ a o,x = .ref a/\gu H2 a y o/\Q (.bl (!o.isSome)) H2)->ta σ H R):A7 ta tb σ H Q:=h _ Is.rfl
theorem T3 {i:Nat} {v:V} (e : σ[i]? = some (some v)) (h:Q v H):Ht i σ H Q:=⟨v,e,h⟩
theorem WO {v:V} (h:Q v H):tC v σ H Q:=h
theorem WQ (h:QA [] H):CU σ H QA:=h
theorem Nr {QO:Option Int->Hp->Prop} (h:QO none H):A8 σ H QO:=h
theorem T4 (h:D.nx σ H):Gs D σ H:=h
theorem T5 {i:Nat} {v:V} {QS:St->Hp->Prop} (h:QS (σ.set i (some v)) H):sr i v σ H QS:=h
theorem i0H {g:Int->Int->V} {i j:Int} (h:Q (g i j) H):JP g (.int i) (.int j) H Q:=⟨i,j,rfl,rfl,h⟩
theorem iH {C:Int->Int->Prop} {g:Int->Int->V} {i j:Int} (c:C i j) (h:Q (g i j) H):rI C g (.int i) (.int j) H Q:=⟨i,j,rfl,rfl,c,h⟩
theorem uH {g:Int->V} {i:Int} (h:Q (g i) H):rU g (.int i) H Q:=⟨i,rfl,h⟩
theorem blH {b:Bool} {S:Bool->Prop} (h:S b) : ∃ k,V.bl b = .bl k/\S k:=⟨b,rfl,h⟩
theorem WR {n:Int} {S:Int->Prop} (h:S n) : ∃ k,V.int n = .int k/\S k:=⟨n,rfl,h⟩
end
def lasts:HO->Bool
 | .tup _=>true
 | .CG _ _=>true
 | _=>false
abbrev Cells:=List (Addr×HO)
structure Led (H:Hp) (L:Cells):Prop where
 at_ : ∀ p∈L,H p.1=some p.2
 nd:((L.filter λ p => !lasts p.2).map (·.1)).Nodup
theorem Led.get {H:Hp} {L:Cells} (h:Led H L) {a:Addr} {o:HO} (m:(a,o)∈L):H a=some o:=h.at_ _ m
theorem Led.nil {H:Hp} : Led H []:=⟨λ _ h=>(nomatch h),List.nodup_nil⟩
theorem Led.new {H:Hp} {L:Cells} (h:Led H L) {p:Addr} {o:HO} (hp:H p=none):Led (upd H p o) ((p,o)::L):=by
 have ne : ∀ q∈L,q.1≠p:=λ q hq e=>by have:=h.at_ q hq;rw [e,hp] at this;cases this
 refine ⟨λ q hq => ?_,?_⟩
 ·rcases List.mem_cons.mp hq with rfl | hq
  ·exact ja
  ·rw [bZ (ne q hq)];exact h.at_ q hq
 ·rw [List.filter_cons]
  split
  ·rw [List.map_cons]
   refine List.nodup_cons.mpr ⟨λ m => ?_,h.nd⟩
   obtain ⟨q,hq,e⟩:=List.mem_map.mp m
   exact ne q (List.mem_filter.mp hq).1 e
  ·exact h.nd
theorem Led.perm {H:Hp} {L L':Cells} (h:Led H L) (e:L.Perm L'):Led H L':=by
 refine ⟨λ p hp=>h.at_ p (e.mem_iff.mpr hp),?_⟩
 exact ((e.filter _).map _).nodup_iff.mp h.nd
theorem Led.put {H:Hp} {L:Cells} {a:Addr} {o o':HO} (h:Led H ((a,o)::L)) (hl:lasts o=false) (hl':lasts o' = false):Led (upd H a o') ((a,o')::L):=by
 have ha:=h.at_ _ List.mem_cons_self
 have nd:=h.nd
 rw [List.filter_cons,if_pos (by simp [hl]),List.map_cons] at nd
 obtain ⟨n1,n2⟩:=List.nodup_cons.mp nd
 have ne : ∀ q∈L,q.1≠a:=λ q hq e=>by
  have hq':=h.at_ q (List.mem_cons_of_mem _ hq)
  rw [e,ha] at hq'
  have e2:o=q.2:=Option.some.inj hq'
  refine n1 (List.mem_map.mpr ⟨q,List.mem_filter.mpr ⟨hq,by rw [<-e2,hl];rfl⟩,e⟩)
 refine ⟨λ q hq => ?_,?_⟩
 ·rcases List.mem_cons.mp hq with rfl | hq
  ·exact ja
  ·rw [bZ (ne q hq)];exact h.at_ q (List.mem_cons_of_mem _ hq)
 ·rw [List.filter_cons,if_pos (by simp [hl']),List.map_cons]
  exact List.nodup_cons.mpr ⟨n1,n2⟩
theorem Led.sub {H:Hp} {L L':Cells} (h:Led H L) (s:L'.Sublist L):Led H L':=⟨λ p hp=>h.at_ p (s.subset hp),List.Nodup.sublist ((s.filter _).map _) h.nd⟩
theorem Led.tail {H:Hp} {L:Cells} {p:Addr×HO} (h:Led H (p::L)):Led H L:=h.sub (List.sublist_cons_self p L)
theorem Led.again {H:Hp} {L:Cells} {a:Addr} {o:HO} (h:Led H L) (ha:H a=some o) (hl:lasts o=true):Led H ((a,o)::L):=by
 refine ⟨λ q hq => ?_,?_⟩
 ·rcases List.mem_cons.mp hq with rfl | hq
  ·exact ha
  ·exact h.at_ q hq
 ·rw [List.filter_cons,if_neg (by simp [hl])];exact h.nd
theorem Led.swap {H:Hp} {L:Cells} {p q:Addr×HO} (h:Led H (p::q::L)):Led H (q::p::L):=h.perm (List.Perm.swap q p L)
theorem Led.pull {H:Hp} {L M:Cells} {p:Addr×HO} (h:Led H (L++p::M)):Led H (p::(L++M)):=h.perm List.perm_middle
theorem Led.push {H:Hp} {L M:Cells} {p:Addr×HO} (h:Led H (p::(L++M))):Led H (L++p::M):=h.perm List.perm_middle.symm
theorem Led.alloc {H:Hp} {L:Cells} {o:HO} {Q:VK} (h:Led H L) (k : ∀ p H',H p=none->Led H' ((p,o)::L)->kh H H'->Q (.ref p) H') : ∀ p,H p=none->Q (.ref p) (upd H p o):=λ p hp=>k p _ hp (h.new hp) (vf hp)
theorem Led.same {H H':Hp} {L:Cells} (h:Led H L) (s:kh H H'):Led H' L:=⟨λ p hp=>s _ _ (h.at_ p hp),h.nd⟩
theorem dF.imp {P:Program} {w:World} {K:PySem.W.Frag} {mg:Str->Option Value} {base:Heap} {k:Nat} {x:Str} {ps:List Str} {sp SR:Sp} (F:dF P w K mg base k x ps sp) (h : ∀ vs H Q E,SR vs H Q E->sp vs H Q E):dF P w K mg base k x ps SR:=by
 obtain ⟨f,fd,h1,h2,h3,h4⟩:=F.ex
 exact ⟨f,fd,h1,h2,h3,h4.imp h⟩
def Pa (K:PySem.W.Frag) (L:Cells) (a:Addr) (xs:List V):Prop:=(∃ o,(a,HO.CG o (.lst xs))∈L) ∨ ∀ H,fq K H a xs
theorem Pa.seq {K:PySem.W.Frag} {L:Cells} {a:Addr} {xs:List V} {H:Hp} (s:Pa K L a xs) (h:Led H L):fq K H a xs:=by
 rcases s with ⟨o,m⟩ | s
 ·exact .inl (.inr ⟨o,h.get m⟩)
 ·exact s H
theorem Pa.mono {K:PySem.W.Frag} {L L':Cells} {a:Addr} {xs:List V} (s:Pa K L a xs) (h : ∀ p∈L,p∈L'):Pa K L' a xs:=by
 rcases s with ⟨o,m⟩ | s
 ·exact .inl ⟨o,h _ m⟩
 ·exact .inr s
theorem HS {K:PySem.W.Frag} {H:Hp} {a:Addr} {xs:List V} (hS:fq K H a xs) (hO:Ng H) : ∃ L,Led H L/\Pa K L a xs:=by
 rcases hS with (h | ⟨o,h⟩) | h
 ·rcases hO a with z | ⟨o,ys,z⟩
  ·rw [h] at z;cases z
  ·rw [h] at z;cases z
 ·exact ⟨[(a,.CG o (.lst xs))],Led.nil.again h rfl,.inl ⟨o,List.mem_cons_self⟩⟩
 ·exact ⟨[],Led.nil,.inr λ H' => .inr h⟩
theorem Dk {H:Hp} {Q:VK} {l:Addr} {k:Int} {xs:List V} (h1:H l=some (.lst xs)) (hk : -(2 ^ 63)<=k/\k < 2 ^ 63) (hl:xs.length * k.toNat<=sizeLine) (h : ∀ p,H p=none->Q (.ref p) (upd H p (.lst (List.replicate k.toNat xs).flatten))):Td (.ref l) (.int k) H Q:=⟨l,k,xs,rfl,rfl,h1,hk.1,hk.2,hl,h⟩
theorem Led.jG {H:Hp} {L:Cells} {a:Addr} {o o':HO} (i:Nat) (h:Led H L) (e:L[i]? = some (a,o)) (hl:lasts o=false) (hl':lasts o' = false):Led (upd H a o') (L.set i (a,o')):=by
 have hi:i < L.length:=(List.getElem?_eq_some_iff.mp e).1
 have e1:L=L.take i++(a,o)::L.drop (i+1):=by
  have:=(List.getElem?_eq_some_iff.mp e).2
  rw [<-this,List.getElem_cons_drop,List.take_append_drop]
 have e2:L.set i (a,o')=L.take i++(a,o')::L.drop (i+1):=by
  rw [List.set_eq_take_append_cons_drop,if_pos hi]
 rw [e1] at h
 rw [e2]
 exact ((h.pull).put hl hl').push
section
variable {H:Hp} {Q:VK} {x y v:V} {a:Addr} {xs:List V} {i:Int}
theorem WS {m n:Int} (h:Q (.bl (decide (m=n))) H):Qm (.int m) (.int n) H Q:=⟨rfl,by rw [show decide (V.int m=V.int n)=decide (m=n) by simp];exact h⟩
theorem WT {m n:Int} (h:Q (.bl (!decide (m=n))) H):Wi (.int m) (.int n) H Q:=⟨rfl,by rw [show decide (V.int m=V.int n)=decide (m=n) by simp];exact h⟩
theorem WU {m n:Str} (h:Q (.bl (decide (m=n))) H):Qm (.str m) (.str n) H Q:=⟨rfl,by rw [show decide (V.str m=V.str n)=decide (m=n) by simp];exact h⟩
theorem WV {m n:Bool} (h:Q (.bl (decide (m=n))) H):Qm (.bl m) (.bl n) H Q:=⟨rfl,by rw [show decide (V.bl m=V.bl n)=decide (m=n) by simp];exact h⟩
theorem WW {n t:String} {b:Bool} (h1:Jy H x=some t) (h2:gH t n=some b) (h:Q (.bl b) H):Kf [x,.ty n] H Q:=⟨x,n,t,b,rfl,h1,h2,h⟩
theorem QU (h1:H a=some (.lst xs)) (h2:iZ xs i=some v) (h:Q v H):EI (.ref a) (.int i) H Q:=⟨a,i,rfl,rfl,.inl ⟨xs,h1,v,h2,h⟩⟩
theorem T6 (h1:H a=some (.tup xs)) (h2:iZ xs i=some v) (h:Q v H):EI (.ref a) (.int i) H Q:=⟨a,i,rfl,rfl,.inr ⟨xs,h1,v,h2,h⟩⟩
theorem T7 (h1:H a=some (.lst xs)) (h:Q (.int xs.length) H):vg [.ref a] H Q:=⟨a,rfl,.inl ⟨xs,h1,h⟩⟩
theorem T8 (h1:H a=some (.tup xs)) (h:Q (.int xs.length) H):vg [.ref a] H Q:=⟨a,rfl,.inr (.inl ⟨xs,h1,h⟩)⟩
theorem T9 {kvs:List (Key×V)} (h1:H a=some (.dK kvs)) (h:Q (.int kvs.length) H):vg [.ref a] H Q:=⟨a,rfl,.inr (.inr ⟨kvs,h1,h⟩)⟩
theorem tyL (h:H a=some (.lst xs)):Jy H (.ref a)=some "list" := by unfold Jy;simp only [h]
theorem tyT (h:H a=some (.tup xs)):Jy H (.ref a)=some "tuple" := by unfold Jy;simp only [h]
theorem WX {b:Addr} {zs:List V} (h1:H a=some (.lst xs)) (h2:H b=some (.lst zs)) (hl:xs.length+zs.length<=sizeLine) (h : ∀ p,H p=none->Q (.ref p) (upd H p (.lst (xs++zs)))):QD (.ref a) (.ref b) H Q:=⟨a,b,xs,zs,rfl,rfl,h1,h2,hl,h⟩
theorem Ua {K:PySem.W.Frag} {lo hi:Option Int} (h1:fq K H a xs) (h : ∀ p,H p=none->Q (.ref p) (upd H p (.lst (kP xs lo hi)))):Nb K (.ref a) lo hi H Q:=⟨a,xs,rfl,h1,h⟩
theorem cQ {QH:Hp->Prop} {p:Addr} {k:Int} {j:Nat} (h1:H p=some (.lst xs)) (h2:MJ xs.length k=some j) (h:QH (upd H p (.lst (xs.set j v)))):OW (.ref p) (.int k) v H QH:=⟨p,xs,k,j,rfl,rfl,h1,h2,h⟩
theorem rtH {n b' c':St->Hp->Prop} {q:VK} (h:q x H):(Ends.mk n q b' c').rt x H:=h
theorem nxH {n b' c':St->Hp->Prop} {q:VK} {σ : St} (h:n σ H):(Ends.mk n q b' c').nx σ H:=h
theorem Pb {A B:Prop} (h:B):if (!true)=true then A else B:=by simpa using h
theorem Pc {A B:Prop} (h:A):if (!false)=true then A else B:=by simpa using h
theorem Pd {c:Prop} [Decidable c] {A B:Prop} (h1 : ¬ c->A) (h2:c->B):if (!decide c)=true then A else B:=by
 by_cases h:c
 ·rw [decide_eq_true h];exact Pb (h2 h)
 ·rw [decide_eq_false h];exact Pc (h1 h)
theorem Nt {m:Int} (e:(10:Int) ^ i.toNat=m) (c:nJ 10 i) (h:Q (.int m) H):rI nJ (λ i j => .int (i ^ j.toNat)) (.int 10) (.int i) H Q:=⟨10,i,rfl,rfl,c,by dsimp only;rw [e];exact h⟩
theorem QV (h:Q (.int 1000000000000000000000000000000000000000000000000000000000000) H):rI nJ (λ i j => .int (i ^ j.toNat)) (.int 10) (.int 60) H Q:=Nt (by decide) (of_eq_true Nn) h
theorem QW (h:Q (.int 100000000000000000000000000000000000000000000000000000000000) H):rI nJ (λ i j => .int (i ^ j.toNat)) (.int 10) (.int 59) H Q:=Nt (by decide) (of_eq_true Np) h
theorem QX (h:Q (.int 100000000000000000000) H):rI nJ (λ i j => .int (i ^ j.toNat)) (.int 10) (.int 20) H Q:=Nt (by decide) (of_eq_true Nq) h
theorem tyI {n:Int} : Jy H (.int n)=some "int" := rfl
theorem tyB {n:Bool} : Jy H (.bl n)=some "bool" := rfl
theorem tyS {n:Str} : Jy H (.str n)=some "str" := rfl
theorem tyO:Jy H .aI=some "NoneType" := rfl
theorem Dl {K:PySem.W.Frag} (h:H a=some (.lst xs)):S8 K "list" (.ref a) H := .inl ⟨rfl,xs,fq.of h⟩
end
def QY (p:Prop):Prop:=p/\True
theorem aG {t u:TS} {D:Ends} {σ : St} {H:Hp} (h : ∀ M,QY (Is M (u D))->t { D with nx:=M } σ H):JG t u D σ H:=h _ ⟨Is.rfl,trivial⟩
theorem QY.use {M N:St->Hp->Prop} (h:QY (Is M N)) {σ : St} {H:Hp} (k:N σ H):M σ H:=by cases h.1;exact k
theorem Ub {K:PySem.W.Frag} {H:Hp} {Q:VK} {a:Addr} {ys:List V} (h1:fq K H a ys) (h : ∀ l,H l=none->Q (.ref l) (upd H l (.lst ys))) : ∃ p ys,[V.ref a] = [.ref p]/\(fq K H p ys\/Eg K H p ys) ∧ ∀ l,H l=none->Q (.ref l) (upd H l (.lst ys)):=⟨a,ys,rfl,.inl h1,h⟩
theorem bG {n:Nat} {i:Int} (h0:0<=i) (h1:i < n):MJ n i=some i.toNat:=by unfold MJ;rw [if_pos h0,if_pos h1]
theorem dN {xs:List V} {i:Int} {v:V} (h0:0<=i) (h:xs[i.toNat]? = some v):iZ xs i=some v:=by
 have hj:i.toNat < xs.length:=(List.getElem?_eq_some_iff.mp h).1
 unfold iZ
 rw [bG h0 (by omega)]
 exact h
theorem vz {lo:Int} {n:Nat} {te:TE} {σ : St} {Q:VK} {H1:Hp} {L:Cells} (F:Nat->V->Prop) (hL:Led H1 L) (hn:n<=sizeLine)
  (hs : ∀ (i:Nat) (H:Hp) (R:VK) (q:Addr×HO),i < n->Led H (q::L)->(∀ v H',F i v->Led H' (q::L)->R v H')->te (some (.int (lo+i)) :: σ) H R)
  (hd : ∀ p acc H',acc.length=n->(∀ i v,acc[i]? = some v->F i v)->Led H' ((p,.lst acc)::L)->Q (.ref p) H'):sF (Hu lo n) EL te σ Q H1:=by
 refine AF (λ p i acc H=>i<=n/\acc.length=i/\(∀ j v,acc[j]? = some v->F j v)/\Led H ((p,.lst acc)::L)) (λ p hp=>⟨Nat.zero_le _,rfl,λ j v h=>by simp at h,hL.new hp⟩) (λ p i acc H hp h=>h.2.2.2.get List.mem_cons_self) ?_ ?_
 ·rintro p i acc H hp hi ⟨_,rfl,hF,hl⟩
  unfold EL
  dsimp only
  rw [if_pos rfl]
  refine hs _ _ _ (p,.lst acc) hi hl λ v H' fv hl'=>⟨hl'.get List.mem_cons_self,by omega,hi,by simp,λ j u hj => ?_,hl'.put rfl rfl⟩
  rw [List.getElem?_append] at hj
  split at hj
  ·exact hF j u hj
  ·rename_i hge
   have:j - acc.length=0:=by
    rcases Nat.lt_or_ge (j - acc.length) 1 with h | h
    ·omega
    ·rw [List.getElem?_eq_none (by simpa using h)] at hj;cases hj
   rw [this] at hj
   have e:j=acc.length:=by omega
   subst e
   cases hj
   exact fv
 ·rintro p acc H hp ⟨_,e,hF,hl⟩
  exact hd p acc H e hF hl
end L2
set_option Elab.async false
set_option linter.all false
set_option maxRecDepth 100000
namespace L2
open PySem PySem.Spec PyProof.Rows PySem.W
section
variable {X:Cx}
end
end L2
set_option Elab.async false
set_option linter.all false
set_option maxRecDepth 100000
namespace L2
open PySem PySem.Spec PyProof.Rows
section
variable {X:Cx} {pins:List (Addr×Obj)} {σ : St} {H:Hp} {s:Shared} {h':Heap}
end
section
variable {X:Cx}
end
end L2
set_option Elab.async false
set_option linter.all false
set_option maxRecDepth 100000
namespace L2
open PySem PySem.Spec PyProof.Rows
section
variable {H:Hp} {Q:VK} {a:Addr} {σ : St} {D:Ends}
theorem Uc {C dx:Addr} {fs:List (Str×V)} {f:Str} {v:V} {S:V->Prop} (h1:H a=some (.ins C dx fs)) (h2:fs.lookup f=some v) (h:S v) : ∃ b dx fs v,V.ref a = .ref b/\H b=some (.ins C dx fs)/\fs.lookup f=some v/\S v:=⟨a,dx,fs,v,rfl,h1,h2,h⟩
theorem Pe {C dx:Addr} {fs:List (Str×V)} {m:Str} {S:Prop} (h1:H a=some (.ins C dx fs)) (h2:fs.lookup m=none) (h:S) : ∃ b dx fs,V.ref a = .ref b/\H b=some (.ins C dx fs)/\fs.lookup m=none/\S:=⟨a,dx,fs,rfl,h1,h2,h⟩
theorem Ud {kvs:List (Key×V)} {n:Int} {v:V} {S:V->Prop} (h1:H a=some (.dK kvs)) (h2:bB kvs (.inl n)=some v) (h:S v) : ∃ b v,V.ref a = .ref b/\gu H b (.int n) (some v)/\S v:=⟨a,v,rfl,h2 ▸ gu.k (k := .inl n) h1,h⟩
theorem Pf {kvs:List (Key×V)} {n:Int} {v:V} (h1:H a=some (.dK kvs)) (hl:kvs.length < sizeLine) (h:D.nx σ (upd H a (.dK (putK kvs (.inl n) v)))) : ∃ b H4,V.ref a = .ref b/\nM H b (.int n) v H4/\D.nx σ H4:=⟨a,_,rfl,nM.k (k := .inl n) h1 hl,h⟩
theorem Ue {C dx:Addr} {fs:List (Str×V)} {f:Str} {y:V} (h1:H a=some (.ins C dx fs)) (h2:fs.length < 1000) (h:D.nx σ (upd H a (.ins C dx (cP f y fs)))) : ∃ b dx fs,V.ref a = .ref b/\H b=some (.ins C dx fs)/\fs.length < 1000/\D.nx σ (upd H b (.ins C dx (cP f y fs))):=⟨a,dx,fs,rfl,h1,h2,h⟩
theorem Ug {L:Cells} (hL:Led H L) (h : ∀ p H',H p=none->Led H' ((p,.dK [])::L)->kh H H'->Q (.ref p) H'):EC σ H Q:=λ p hp=>h p _ hp (hL.new hp) (vf hp)
theorem isH {x:V} (h:Q (.bl (decide (x = .aI))) H):V.aI = .aI/\Q (.bl (decide (x = .aI))) H:=⟨rfl,h⟩
theorem WY {x:V} (h:Q (.bl (!decide (x = .aI))) H):V.aI = .aI/\Q (.bl (!decide (x = .aI))) H:=⟨rfl,h⟩
theorem QZ {td ty:TE} (h : ∀ R,(∀ x H1,Hid (λ y H2 => ∃ a kvs k v,x = .ref a/\H2 a=some (.dK kvs)/\y=kV k/\bB kvs k=some v/\Q v (upd H2 a (.dK (dI kvs k)))) (λ R2=>(∃ a,x = .ref a/\Sd H1 a)/\ty σ H1 R2)->R x H1)->td σ H R):ED td ty σ H Q:=by
 unfold ED
 refine h (λ x H1 => ∃ a,x = .ref a/\Sd H1 a/\ty σ H1 λ y H2 => ∃ kvs k v,H2 a=some (.dK kvs)/\y=kV k/\bB kvs k=some v/\Q v (upd H2 a (.dK (dI kvs k)))) λ x H1 z => ?_
 obtain ⟨a,e,hd⟩:=(z (λ _ _=>True) λ _ _ _=>True.intro).1
 subst e
 refine ⟨a,rfl,hd,(z _ λ y H2 q => ?_).2⟩
 obtain ⟨b,kvs,k,v,e,q⟩:=q
 cases e
 exact ⟨kvs,k,v,q⟩
theorem Q0 {kvs:List (Key×V)} (h:H a=some (.dK kvs)) : ∃ b,V.ref a = .ref b/\Sd H b:=⟨a,rfl,.inl ⟨kvs,.inl h⟩⟩
theorem Uh {kvs:List (Key×V)} {n:Int} {v:V} (h1:H a=some (.dK kvs)) (h2:bB kvs (.inl n)=some v) (h:Q v (upd H a (.dK (dI kvs (.inl n))))) : ∃ b kvs k v,V.ref a = .ref b/\H b=some (.dK kvs)/\V.int n=kV k/\bB kvs k=some v/\Q v (upd H b (.dK (dI kvs k))):=⟨a,kvs,.inl n,v,rfl,h1,rfl,h2,h⟩
end
end L2
set_option Elab.async false
set_option linter.all false
set_option maxRecDepth 100000
namespace L2
open PySem PySem.Spec PyProof.Rows
theorem mh {K:PySem.W.Frag} {a:Addr} {te:TE} {σ : St} {Q:VK} {H1:Hp} {L:Cells} (xs:List V) (G:Nat->V->Cells->Prop) (hL:Led H1 L) (ha:(a,HO.lst xs)∈L) (hn:xs.length<=sizeLine)
  (hs : ∀ (i:Nat) (x:V) (H:Hp) (R:VK) (M:Cells),xs[i]? = some x->Led H (M++L)->(∀ v H' C,G i v C->Led H' (C++(M++L))->R v H')->te (some x :: σ) H R)
  (hd : ∀ (p:Addr) (vs:List V) (Cs:List Cells) (H':Hp),vs.length=xs.length->Cs.length=xs.length->(∀ (i:Nat) v C,vs[i]? = some v->Cs[i]? = some C->G i v C)->Led H' ((p,.lst vs)::(Cs.flatten++L))->Q (.ref p) H'):sF (Jx K a) EL te σ Q H1:=by
 refine Dj xs (λ p i acc H=>i<=xs.length/\acc.length=i ∧ ∃ Cs:List Cells,Cs.length=i/\(∀ (j:Nat) v C,acc[j]? = some v->Cs[j]? = some C->G j v C)/\Led H ((p,.lst acc)::(Cs.flatten++L))) (λ p hp=>⟨Nat.zero_le _,rfl,[],rfl,λ j v C h=>by simp at h,hL.new hp⟩) (λ p i acc H hp h => ?_) ?_ ?_
 ·obtain ⟨_,_,Cs,_,_,hl⟩:=h
  exact ⟨hl.get List.mem_cons_self,fq.of (hl.get (List.mem_cons_of_mem _ (List.mem_append_right _ ha)))⟩
 ·rintro p i x acc H hp hx ⟨_,rfl,Cs,hc,hG,hl⟩
  have hi:acc.length < xs.length:=(List.getElem?_eq_some_iff.mp hx).1
  unfold EL
  dsimp only
  rw [if_pos rfl]
  refine hs _ x H _ ((p,.lst acc)::Cs.flatten) hx hl λ v H' C g hl' => ?_
  have h1:Led H' ((p,.lst acc)::(C++(Cs.flatten++L))):=Led.pull hl'
  refine ⟨h1.get List.mem_cons_self,by omega,hi,by simp,Cs++[C],by simp [hc],λ j u D hu hD => ?_,?_⟩
  ·rw [List.getElem?_append] at hu hD
   rw [hc] at hD
   by_cases hj:j < acc.length
   ·rw [if_pos hj] at hu hD
    exact hG j u D hu hD
   ·rw [if_neg hj] at hu hD
    have h0:j - acc.length=0:=by
     rcases Nat.lt_or_ge (j - acc.length) 1 with h | h
     ·omega
     ·rw [List.getElem?_eq_none (by simpa using h)] at hu;cases hu
    rw [h0] at hu hD
    have e:j=acc.length:=by omega
    subst e
    cases hu
    cases hD
    exact g
  ·refine (h1.put (o' := .lst (acc++[v])) rfl rfl).perm (List.Perm.cons _ ?_)
   rw [List.flatten_append,List.flatten_cons,List.flatten_nil,List.append_nil,List.append_assoc,<-List.append_assoc,<-List.append_assoc]
   exact List.Perm.append_right _ List.perm_append_comm
 ·rintro p acc H hp ⟨_,e,Cs,hc,hG,hl⟩
  exact hd p acc Cs H e hc hG hl
end L2
set_option Elab.async false
set_option linter.all false
set_option maxRecDepth 100000
namespace L2
open PySem PySem.Spec PyProof.Rows
section
variable {H:Hp} {Q:VK} {a:Addr} {σ : St} {D:Ends}
end
section
variable {α : Type} {A B B' X Y:List α} {a b : α}
theorem pcC (h:(a::B').Perm B):(a::b::B').Perm (b::B):=(List.Perm.swap _ _ _).trans (h.cons b)
theorem pcA (h:(a::B').Perm B):(a::(Y++B')).Perm (Y++B):=(List.perm_middle.symm).trans (List.Perm.append_left Y h)
theorem paC (h:(X++B').Perm B):(X++(b::B')).Perm (b::B):=List.perm_middle.trans (h.cons b)
theorem paA (h:(X++B').Perm B):(X++(Y++B')).Perm (Y++B):=by
 refine List.Perm.trans ?_ (List.Perm.append_left Y h)
 rw [<-List.append_assoc,<-List.append_assoc]
 exact List.Perm.append_right _ List.perm_append_comm
def yj (B A:List α):Prop := ∃ A',B.Perm A'/\A'.Sublist A
theorem spR:yj A A:=⟨A,.refl _,.refl _⟩
theorem spC (h1:(a::A).Perm B) (h2:yj Y A):yj (a::Y) B:=by
 obtain ⟨A',p,s⟩:=h2
 obtain ⟨C,p2,s2⟩:=List.exists_perm_sublist (s.cons₂ a) h1
 exact ⟨C,(p.cons a).trans p2.symm,s2⟩
theorem spA (h1:(X++A).Perm B) (h2:yj Y A):yj (X++Y) B:=by
 obtain ⟨A',p,s⟩:=h2
 obtain ⟨C,p2,s2⟩:=List.exists_perm_sublist (List.Sublist.append_left s X) h1
 exact ⟨C,(List.Perm.append_left X p).trans p2.symm,s2⟩
theorem spD (h:yj B A):yj B (a::A):=by
 obtain ⟨A',p,s⟩:=h
 exact ⟨A',p,s.cons a⟩
theorem WZ (h:yj B A):yj B (X++A):=by
 obtain ⟨A',p,s⟩:=h
 exact ⟨A',p,s.trans (List.sublist_append_right X A)⟩
end
theorem Led.wk {H:Hp} {L L':Cells} (h:Led H L) (s:yj L' L):Led H L':=by
 obtain ⟨A',p,q⟩:=s
 exact (h.sub q).perm p.symm
theorem Led.make {H:Hp} {L:Cells} {C x dx:Addr} (hL:Led H L) (h1:H x=none) (h2:H dx=none) (hn:dx≠x):Led (upd (upd H dx (.own x)) x (.ins C dx [])) ((x,.ins C dx [])::L):=by
 have:=(hL.new (o := .own x) h2).new (p:=x) (o := .ins C dx []) (by rw [bZ (Ne.symm hn)];exact h1)
 exact this.sub (.cons₂ _ (.cons _ (.refl _)))
end L2
set_option Elab.async false
set_option linter.all false
set_option maxRecDepth 100000
namespace L2
open PySem PySem.Spec PyProof.Rows PySem.W
theorem jH {d:Dat} (h:kqdOk 8 d=true):shaped (kqdP d)=true:=by
 have l:=kqd_lay 8 d h
 show ((kqdP d).canLay0 && decide ((kqdP d).depth<=64))=true
 rw [l.1,Bool.true_and]
 exact decide_eq_true (Nat.le_trans l.2 (by decide))
theorem mj : ∀ ds:List Dat,kqdPs ds=ds.map kqdP
 | []=>rfl
 | d::ds=>by rw [kqdPs,mj ds];rfl
theorem qx {K:PySem.W.Frag} {β : Type} {a:Addr} {tt:TT} {te:TE} {σ : St} {Q:VK} {H1:Hp} {L:Cells} (ys:List β) (g : β->V) (p : β->Bool) (hL:Led H1 L) (ha:(a,HO.lst (ys.map g))∈L) (hn:ys.length<=sizeLine)
  (ht : ∀ (y : β) (H:Hp) (R:Bool->Hp->Prop) (q:Addr×HO),y∈ys->Led H (q::L)->(∀ H',Led H' (q::L)->R (p y) H')->tt (some (g y) :: σ) H R)
  (he : ∀ (y : β) (H:Hp) (R:VK) (q:Addr×HO),y∈ys->Led H (q::L)->(∀ H',Led H' (q::L)->R (g y) H')->te (some (g y) :: σ) H R)
  (hd : ∀ (r:Addr) (H':Hp),Led H' ((r,.lst ((ys.filter p).map g))::L)->Q (.ref r) H'):sF (Jx K a) tt te σ Q H1:=by
 refine Dj (ys.map g) (λ r i acc H=>acc=((ys.take i).filter p).map g/\Led H ((r,.lst acc)::L)) (λ r hr=>⟨rfl,hL.new hr⟩) (λ r i acc H hr h=>⟨h.2.get List.mem_cons_self,fq.of (h.2.get (List.mem_cons_of_mem _ ha))⟩) ?_ ?_
 ·rintro r i x acc H hr hx ⟨rfl,hl⟩
  rw [List.getElem?_map] at hx
  obtain ⟨y,hy,rfl⟩:=Option.map_eq_some_iff.mp hx
  have hm:y∈ys:=List.mem_of_getElem? hy
  have hi:i < ys.length:=(List.getElem?_eq_some_iff.mp hy).1
  have e:ys.take (i+1)=ys.take i++[y]:=by rw [List.take_succ,hy];rfl
  have hlen:(((ys.take i).filter p).map g).length < sizeLine:=by
   rw [List.length_map]
   have h1:=List.length_filter_le p (ys.take i)
   rw [List.length_take] at h1
   omega
  refine ht y H _ _ hm hl λ H2 hl2 => ?_
  cases hp:p y with
  | true =>
    rw [if_pos rfl]
    refine he y H2 _ _ hm hl2 λ H3 hl3=>⟨hl3.get List.mem_cons_self,hlen,?_,hl3.put rfl rfl⟩
    rw [e,List.filter_append,List.map_append,List.filter_cons,if_pos hp]
    rfl
  | false =>
    rw [if_neg Bool.false_ne_true]
    refine ⟨?_,hl2⟩
    rw [e,List.filter_append,List.map_append,List.filter_cons,if_neg (by rw [hp];exact Bool.false_ne_true)]
    simp
 ·rintro r acc H hr ⟨rfl,hl⟩
  rw [List.length_map,List.take_length] at hl
  exact hd r H hl
theorem W0 {H:Hp} {Q:VK} {K:PySem.W.Frag} {a:Addr} {xs:List V} {lo hi:Option Int} (h1:H a=some (.tup xs)) (h2 : ¬ (HT.sA xs.length 0 lo=0/\HT.sA xs.length xs.length hi=xs.length)) (h : ∀ p,H p=none->Q (.ref p) (upd H p (.tup (kP xs lo hi)))):M9 K (.ref a) lo hi H Q:=⟨a,xs,rfl,Eg.of h1,h2,h⟩
end L2
set_option Elab.async false
set_option linter.all false
set_option maxRecDepth 100000
namespace L2
open PySem PySem.Spec PyProof.Rows
theorem qy (k j:Key) : ∀ kvs:List (Key×V),bB (dI kvs k) j=if j=k then none else bB kvs j
 | []=>by simp [dI,bB]
 | p::r=>by
   by_cases e:p.1=k
   ·rw [AB e,qy k j r]
    by_cases hj:j=k
    ·rw [if_pos hj,if_pos hj]
    ·rw [if_neg hj,if_neg hj,bC (λ z=>hj (by rw [<-z,e]))]
   ·rw [AD e]
    by_cases hp:p.1=j
    ·rw [bQ hp,bQ hp,if_neg (λ z=>e (by rw [hp,z]))]
    ·rw [bC hp,bC hp,qy k j r]
structure WD (kvs:List (Key×V)) (f:Int->V) (n:Nat):Prop where
 nd:(kvs.map (·.1)).Nodup
 ik : ∀ k∈kvs.map (·.1),∃ m:Int,k=Sum.inl m
 le:kvs.length<=n
 vl : ∀ m,bB kvs (.inl m)=if f m = .aI then none else some (f m)
theorem WD.keys {kvs:List (Key×V)} (h : ∀ k∈kvs.map (·.1),∃ m:Int,k=Sum.inl m) : ∃ ns:List Int,kvs.map (·.1)=ns.map Sum.inl:=by
 induction kvs with
 | nil=>exact ⟨[],rfl⟩
 | cons p r ih =>
   obtain ⟨ns,e⟩:=ih λ k hk=>h k (List.mem_cons_of_mem _ hk)
   obtain ⟨m,hm⟩:=h p.1 List.mem_cons_self
   exact ⟨m::ns,by rw [List.map_cons,List.map_cons,e,hm]⟩
theorem WD.ns {kvs:List (Key×V)} {f:Int->V} {n:Nat} (h:WD kvs f n) : ∃ ns:List Int,kvs.map (·.1)=ns.map Sum.inl/\ns.length<=n/\ns.Nodup ∧ ∀ m,m∈ns↔f m ≠ .aI:=by
 obtain ⟨ns,e⟩:=WD.keys h.ik
 refine ⟨ns,e,?_,?_,λ m => ?_⟩
 ·have:=congrArg List.length e
  rw [List.length_map,List.length_map] at this
  have:=h.le
  omega
 ·have:=h.nd
  rw [e] at this
  exact (List.pairwise_map.mp this).imp fun {a b} hab z=>hab (by rw [z])
 ·have h1:m∈ns↔(Sum.inl m:Key)∈kvs.map (·.1):=by
   rw [e,List.mem_map]
   constructor
   ·intro hm;exact ⟨m,hm,rfl⟩
   ·rintro ⟨m',hm,z⟩;cases z;exact hm
  rw [h1]
  have hv:=h.vl m
  constructor
  ·intro hk z
   rw [if_pos z] at hv
   exact C5 hv hk
  ·intro z
   rw [if_neg z] at hv
   exact Nh hv
theorem WD.start:WD [] (λ _ => .aI) 0:=⟨List.nodup_nil,(λ _ h=>nomatch h),Nat.le_refl _,λ m=>by rw [if_pos rfl];rfl⟩
theorem AG {kvs:List (Key×V)} {k:Key} {v:V} (h:(bB kvs k).isSome=true):(putK kvs k v).map (·.1)=kvs.map (·.1):=by
 unfold putK
 rw [c6,h,if_pos rfl,List.map_map]
 refine List.map_congr_left λ p hp => ?_
 dsimp only [Function.comp]
 split <;> rfl
theorem WD.put {kvs:List (Key×V)} {f:Int->V} {n:Nat} (h:WD kvs f n) (p:Int) {v:V} (hv:v ≠ .aI):WD (putK kvs (.inl p) v) (λ m=>if m=p then v else f m) (n+1):=by
 refine ⟨?_,?_,?_,λ m => ?_⟩
 ·cases e:bB kvs (.inl p) with
  | none=>exact Ni v h.nd e
  | some u=>rw [AG (by rw [e];rfl)];exact h.nd
 ·cases e:bB kvs (.inl p) with
  | none =>
    rw [CZ v e,List.map_append]
    intro k hk
    rcases List.mem_append.mp hk with hk | hk
    ·exact h.ik k hk
    ·simp only [List.map_cons,List.map_nil,List.mem_cons,List.not_mem_nil,or_false] at hk
     exact ⟨p,hk⟩
  | some u=>rw [AG (by rw [e];rfl)];exact h.ik
 ·exact Nat.le_trans (kN kvs _ v) (Nat.succ_le_succ h.le)
 ·rw [JY,h.vl m]
  by_cases hm:m=p
  ·rw [if_pos (by rw [hm]),if_pos hm,if_neg hv]
  ·rw [if_neg (λ z=>hm (Sum.inl.inj z)),if_neg hm]
theorem WD.drop {kvs:List (Key×V)} {f:Int->V} {n:Nat} (h:WD kvs f n) (p:Int):WD (dI kvs (.inl p)) (λ m=>if m=p then .aI else f m) n:=by
 refine ⟨ve h.nd,λ k hk => ?_,Nat.le_trans (u6 kvs _) h.le,λ m => ?_⟩
 ·obtain ⟨q,hq,rfl⟩:=List.mem_map.mp hk
  exact h.ik _ (List.mem_map.mpr ⟨q,AE hq,rfl⟩)
 ·rw [qy,h.vl m]
  by_cases hm:m=p
  ·rw [if_pos (by rw [hm]),if_pos hm,if_pos rfl]
  ·rw [if_neg (λ z=>hm (Sum.inl.inj z)),if_neg hm]
theorem WD.mono {kvs:List (Key×V)} {f:Int->V} {n n':Nat} (h:WD kvs f n) (hn:n<=n'):WD kvs f n':=⟨h.nd,h.ik,Nat.le_trans h.le hn,h.vl⟩
theorem WD.get {kvs:List (Key×V)} {f:Int->V} {n:Nat} (h:WD kvs f n) (m:Int):(bB kvs (.inl m)).getD .aI=f m:=by
 rw [h.vl]
 split
 ·rename_i e;rw [e];rfl
 ·rfl
theorem Kp (ns:List Int) (lo hi:Option Int) : ∃ ms:List Int,kP (ns.map V.int) lo hi=ms.map V.int/\ms.length<=ns.length:=by
 refine ⟨(ns.drop (HT.sA (ns.map V.int).length 0 lo)).take (HT.sA (ns.map V.int).length (ns.map V.int).length hi - HT.sA (ns.map V.int).length 0 lo),?_,?_⟩
 ·unfold kP
  rw [List.map_take,List.map_drop]
 ·rw [List.length_take,List.length_drop]
  omega
theorem W2 {H:Hp} {Q:VK} {K:PySem.W.Frag} {p:Addr} {a b c d:V} (h1:H p=some (.tup [a,b,c,d])) (h : ∀ q,H q=none->Q (.ref q) (upd H q (.tup [c,d]))):M9 K (.ref p) (some 2) none H Q:=W0 h1 (show ¬ (HT.sA 4 0 (some 2)=0/\HT.sA 4 4 none=4) by decide) h
end L2
set_option Elab.async false
set_option linter.all false
set_option maxRecDepth 100000
namespace L2
open PySem PySem.Spec PyProof.Rows
end L2
set_option Elab.async false
set_option linter.all false
set_option maxRecDepth 100000
namespace L2
open PySem PySem.Spec PyProof.Rows PySem.W
section
variable {X:Cx}
end
section
variable {X:Cx}
def Q2 (neg:Bool):R2:=λ x y H Q => ∃ d ds,eB H x d/\eB H y (.list ds)/\d.depth<=60/\shaped d=true/\shaped (.list ds)=true/\Q (.bl (if neg then !(ds.any λ e=>PyData.eqv e d) else ds.any λ e=>PyData.eqv e d)) H
theorem jI {d:PyData} (h:shaped d=true):d.canLay0=true/\d.depth<=64:=by
 have h':(d.canLay0 && decide (d.depth<=64))=true:=h
 rw [Bool.and_eq_true,decide_eq_true_iff] at h'
 exact h'
theorem nO {ds:List PyData} (h:shaped (.list ds)=true):PyData.canLayAll0 ds=true:=by
 have:=(jI h).1
 simpa [PyData.canLay0] using this
theorem Kq (hu:X.A.units+64 < cLine):nI X (compareOp .In) (Q2 false):=by
 intro pins s σ H x y u v Q I rx ry h
 obtain ⟨d,ds,hd,he,h60,sd,se,q⟩:=h
 obtain ⟨_,ra⟩:=hd.reads I.hok rx
 obtain ⟨_,rb⟩:=he.reads I.hok ry
 have h1:=jI sd
 exact SeqAt.in_list_reads rb ra (nO se) h1.1 (by have:=Nat.min_le_right (PyData.depthAll ds) d.depth;omega) ⟨.bl _,H,I,rfl,q⟩
theorem qz (hu:X.A.units+64 < cLine):nI X (compareOp .NotIn) (Q2 true):=by
 intro pins s σ H x y u v Q I rx ry h
 obtain ⟨d,ds,hd,he,h60,sd,se,q⟩:=h
 obtain ⟨_,ra⟩:=hd.reads I.hok rx
 obtain ⟨_,rb⟩:=he.reads I.hok ry
 have h1:=jI sd
 exact SeqAt.notIn_list_reads rb ra (nO se) h1.1 (by have:=Nat.min_le_right (PyData.depthAll ds) d.depth;omega) ⟨.bl _,H,I,rfl,q⟩
end
end L2
set_option Elab.async false
set_option linter.all false
set_option maxRecDepth 100000
namespace L2
open PySem PySem.Spec PyProof.Rows PySem.W
theorem nP {E:XK} {C:Addr} {ta:TA} {D:Ends} {σ : St} {H:Hp} (h : ∀ R,Is R (λ vs H1=>vs.length<=sizeLine/\E (.ref C) none H1)->ta σ H R):Kg E C ta D σ H:=h _ Is.rfl
section
variable {X:Cx} {k:Nat} {C:Addr} {ps:List Str} {sp:Sp} {x m:Str} {pos apos:Pos} {e o:Expr} {es:List Expr} {ta:TE} {t:TA}
end
theorem Ui {K:PySem.W.Frag} {H:Hp} {p:Addr} {x y:V} {σ : L2.St} {i j:Nat} {Q:L2.St->Hp->Prop} (h:H p=some (.tup [x,y])) (hq:Q ((σ.set i (some x)).set j (some y)) H):SD K 2 (JJ (sr i) (JJ (sr j) SA)) (.ref p) σ H Q:=⟨p,[x,y],rfl,Eg.of h,rfl,x,[y],rfl,y,[],rfl,rfl,hq⟩
end L2
set_option Elab.async false
set_option linter.all false
set_option maxRecDepth 100000
namespace L2
open PySem PySem.Spec PyProof.Rows PySem.W
section
variable {X:Cx}
def Uj:V->Option Int->Option Int->Hp->VK->Prop:=λ x lo hi H Q => ∃ z,x = .str z/\z.length<=sizeLine/\Q (.str (Txt.slice z lo hi)) H
theorem part_of {v:Value} {o:Option Int} (h:IsPart v o) : ∃ l:Option (Int×Tok),v=partValue l/\o=l.map (·.1):=by
 cases h with
 | none=>exact ⟨none,rfl,rfl⟩
 | int i t=>exact ⟨some (i,t),rfl,rfl⟩
theorem Kr:Vi X Uj:=by
 intro pins s σ H x v vl vu lo hi sl Q I rx hs pl pu h
 obtain ⟨z,rfl,hz,q⟩:=h
 obtain ⟨t,rfl⟩:=rx
 obtain ⟨l,rfl,rfl⟩:=part_of pl
 obtain ⟨u,rfl,rfl⟩:=part_of pu
 refine ⟨"str",_,F.slot_str_getitem.lookup,typeIs_str _ z t,wpAny_getItem_str_slice (l:=l) (u:=u) (st:=none) hs rfl ?_⟩
 have hle:=Txt.slice_le z (l.map (·.1)) (u.map (·.1))
 unfold sliceMade
 unfold Txt.slice at q hle
 by_cases c:(((none:Option (Int×Tok)).map (·.1)).getD 1 == 1 && (slicePicked z l u none).length == z.length)=true
 ·rw [if_pos c]
  have c':((1:Int) == 1 && (Builtin.Str.strSliceIndices (l.map (·.1)) (u.map (·.1)) 1 z.length).length == z.length)=true:=c
  rw [if_pos c'] at q
  exact ⟨.str z,H,I,⟨t,rfl⟩,q⟩
 ·rw [if_neg c]
  have c' : ¬ ((1:Int) == 1 && (Builtin.Str.strSliceIndices (l.map (·.1)) (u.map (·.1)) 1 z.length).length == z.length)=true:=c
  rw [if_neg c'] at q hle
  exact ⟨Nat.le_trans hle hz,.str _,H,I.tok _,⟨_,rfl⟩,q⟩
theorem Uk {H:Hp} {Q:VK} {z:Str} {lo hi:Option Int} (hz:z.length<=sizeLine) (h:Q (.str (Txt.slice z lo hi)) H):Uj (.str z) lo hi H Q:=⟨z,rfl,hz,h⟩
abbrev sg (c:Nat):V := .str ⟨#[c]⟩
end
theorem W3 {H:Hp} {Q:VK} {z:Str} {i:Int} {c:Nat} (hz:z.length<=sizeLine) (h1:iZ z.cps.toList i=some c) (h:Q (sg c) H):S7 (.str z) (.int i) H Q:=⟨z,i,c,rfl,rfl,hz,h1,h⟩
theorem Ul {H:Hp} {Q:VK} {i j:Str} (hz:i.length+j.length<=sizeLine) (h:Q (.str (i++j)) H) : ∃ a b,V.str i = .str a/\V.str j = .str b/\a.length+b.length<=sizeLine/\Q (.str (a++b)) H:=⟨i,j,rfl,rfl,hz,h⟩
end L2
set_option Elab.async false
set_option linter.all false
set_option maxRecDepth 100000
namespace L2
open PySem PySem.Spec PyProof.Rows PySem.W
section
variable {X:Cx}
def EO:V->List V->Hp->VK->Prop:=λ x vs H Q => ∃ l xs y j,x = .ref l/\vs = [y]/\H l=some (.lst xs)/\eE y=true/\xs.all eE=true/\(∃ v,xs[j]? = some v/\Bb v y=true)/\(∀ m v,m < j->xs[m]? = some v->Bb v y=false)/\Q (.int (j:Nat)) H
theorem pA:Vk X "list.index" EO:=by
 intro pins s σ H x vs v us Q I rx rv h
 obtain ⟨l,xs,y,j,rfl,rfl,hH,fy,fs,⟨vj,hvj,hit⟩,hno,q⟩:=h
 cases rx
 obtain ⟨u,rfl,ru⟩:=rv.one
 obtain ⟨z,its,n,r,hl,e⟩:=I.C3 hH
 have hj:j < xs.length:=(List.getElem?_eq_some_iff.mp hvj).1
 have at_ : ∀ (m:Nat) (hm:m < its.toArray.size) (w:V),xs[m]? = some w->C2 y its.toArray[m]=Bb w y:=λ m hm w hw=>by
  obtain ⟨u',hu',ru'⟩:=r.get hw
  have fw:eE w=true:=List.all_eq_true.mp fs w (List.mem_of_getElem? hw)
  have e1:its.toArray[m]=u':=by
   have:its[m]? = some u':=hu'
   simpa [List.getElem?_eq_some_iff] using (List.getElem?_eq_some_iff.mp this).2
  rw [e1]
  exact EF ru' fw
 have hsz:its.toArray.size=xs.length:=by rw [List.size_toArray];omega
 have hl2:=nK
 refine call_meets F.slot_list_index ⟨_,e,rfl⟩ F.entry_list_index (F.args_list_index_2 _ _) (SeqAt.list_indexAt l its.toArray n none #[] u (C2 y) j (by omega) (by omega) ?_ ?_) ⟨e,λ w hw=>jc ru fy r fs w (by simpa using hw),?_⟩
 ·rw [at_ j (by omega) vj hvj];exact hit
 ·intro m hm hlt
  have Q3:m < xs.length:=by omega
  rw [at_ m hm _ (List.getElem?_eq_getElem Q3)]
  exact hno m _ hlt (List.getElem?_eq_getElem Q3)
 ·exact ⟨.int j,H,I.tok _,⟨_,rfl⟩,q⟩
theorem Q4 {H:Hp} {Q:VK} {l:Addr} {xs:List V} {y v:V} {j:Nat} (h1:H l=some (.lst xs)) (fy:eE y=true) (fs:xs.all eE=true) (hj:xs[j]? = some v) (hit:Bb v y=true) (hno : ∀ m v,m < j->xs[m]? = some v->Bb v y=false) (h:Q (.int (j:Nat)) H):EO (.ref l) [y] H Q:=⟨l,xs,y,j,rfl,rfl,h1,fy,fs,⟨v,hj,hit⟩,hno,h⟩
end
abbrev ki:=List (Int×Addr×List Int)
def uO (es:ki):List (Key×V):=es.map λ e=>(Sum.inl e.1,V.ref e.2.1)
def jf (es:ki):Cells:=es.map λ e=>(e.2.1,HO.lst (e.2.2.map V.int))
theorem Bv (es:ki) (n:Int):bB (uO es) (.inl n)=(es.find? λ e=>decide (e.1=n)).map λ e => .ref e.2.1:=by
 induction es with
 | nil=>rfl
 | cons e es ih =>
   unfold uO at ih ⊢
   rw [List.map_cons,List.find?_cons]
   by_cases h:e.1=n
   ·rw [bQ (by rw [h]),decide_eq_true h];rfl
   ·rw [bC (λ q=>h (Sum.inl.inj q)),decide_eq_false h];exact ih
theorem Ks {es:ki} {n:Int} (h:n ∉ es.map (·.1)):bB (uO es) (.inl n)=none:=by
 rw [Bv,List.find?_eq_none.mpr]
 ·rfl
 ·intro e he q
  exact h (List.mem_map.mpr ⟨e,he,of_decide_eq_true q⟩)
theorem Nu {es:ki} {n:Int} (h:n ∉ es.map (·.1)) (a:Addr) (row:List Int):putK (uO es) (.inl n) (.ref a)=uO (es++[(n,a,row)]):=by
 unfold putK
 rw [if_neg]
 ·unfold uO;rw [List.map_append];rfl
 ·rw [c6,Ks h];exact Bool.false_ne_true
theorem Ku (es:ki) (n:Int):dI (uO es) (.inl n)=uO (es.filter λ e=>decide (e.1≠n)):=by
 unfold dI uO
 rw [List.filter_map]
 congr 1
 refine List.filter_congr λ e _ => ?_
 show decide ((Sum.inl e.1:Key)≠Sum.inl n)=decide (e.1≠n)
 exact decide_eq_decide.mpr ⟨λ q z=>q (by rw [z]),λ q z=>q (Sum.inl.inj z)⟩
theorem pB {es:ki} {e:Int×Addr×List Int} (nd:(es.map (·.1)).Nodup) (h:e∈es):es.find? (λ x=>decide (x.1=e.1))=some e:=by
 induction es with
 | nil=>cases h
 | cons x es ih =>
   rw [List.map_cons,List.nodup_cons] at nd
   rw [List.find?_cons]
   rcases List.mem_cons.mp h with rfl | h
   ·rw [decide_eq_true rfl]
   ·have:x.1≠e.1:=λ q=>nd.1 (q ▸ List.mem_map.mpr ⟨e,h,rfl⟩)
    rw [decide_eq_false this]
    exact ih nd.2 h
theorem Nv:nJ 10 40=True:=eq_true ⟨by decide,by decide,by decide⟩
section
variable {H:Hp} {Q:VK}
theorem Q5 (h:Q (.int 10000000000000000000000000000000000000000) H):rI nJ (λ i j => .int (i ^ j.toNat)) (.int 10) (.int 40) H Q:=Nt (by decide) (of_eq_true Nv) h
end
theorem bits_add {x y:Int} {n:Nat} (hx:Builtin.Int.intBits x<=n) (h0:0<=y) (h1:y<=1000000) (hn:20<=n):Builtin.Int.intBits (x+y)<=n+1:=by
 have hy:Builtin.Int.intBits y<=20:=intBits_le_iff.mpr (by omega)
 exact Nat.le_trans (intBits_add_le hx hy) (by omega)
theorem vA {x:Int} (h0:0<=x) (h1:x<=1000000):Builtin.Int.intBits x<=20:=intBits_le_iff.mpr (by omega)
theorem Q6 {c m:Int} (hb:Builtin.Int.intBits c<=2000000) (hm:Builtin.Int.intBits m<=1000):IntMulOk c m:=IntMulOk.of_le hb hm (by decide)
theorem W4 {a0 a1 a2 a3 a4 a5 t:Int} (h0:0<=t) (h5:t<=5) : ∃ z:Int,iZ [V.int a0,.int a1,.int a2,.int a3,.int a4,.int a5] t=some (.int z):=by
 have h:t=0\/t=1\/t=2\/t=3\/t=4\/t=5:=by omega
 rcases h with rfl | rfl | rfl | rfl | rfl | rfl
 ·exact ⟨_,O1⟩
 ·exact ⟨_,O2⟩
 ·exact ⟨_,O3⟩
 ·exact ⟨_,O4⟩
 ·exact ⟨_,O5⟩
 ·exact ⟨_,O9⟩
theorem intsOf : ∀ {vs:List V},(∀ (i:Nat) v,vs[i]? = some v->∃ z:Int,v=V.int z)->∃ zs:List Int,vs=zs.map V.int
 | [],_=>⟨[],rfl⟩
 | v::vs,h=>by
   obtain ⟨z,rfl⟩:=h 0 v rfl
   obtain ⟨zs,rfl⟩:=intsOf (vs:=vs) λ i u hu=>h (i+1) u hu
   exact ⟨z::zs,rfl⟩
theorem HU {es:ki} {e:Int×Addr×List Int} (nd:(es.map (·.1)).Nodup) (h:e∈es) : ∃ as bs,es=as++e::bs/\es.filter (λ x=>decide (x.1≠e.1))=as++bs:=by
 obtain ⟨as,bs,rfl⟩:=List.append_of_mem h
 refine ⟨as,bs,rfl,?_⟩
 rw [List.map_append,List.map_cons] at nd
 have h1 : ∀ x∈as++bs,x.1≠e.1:=λ x hx q=>by
  have Q7:=(List.perm_middle (l₁ := as.map (·.1)) (a:=e.1) (l₂ := bs.map (·.1))).nodup_iff.mp nd
  rw [List.nodup_cons] at Q7
  refine Q7.1 ?_
  rw [<-List.map_append,<-q]
  exact List.mem_map.mpr ⟨x,hx,rfl⟩
 rw [List.filter_append,List.filter_cons,if_neg (by simp)]
 rw [List.filter_eq_self.mpr,List.filter_eq_self.mpr]
 ·intro x hx;exact decide_eq_true (h1 x (List.mem_append_right _ hx))
 ·intro x hx;exact decide_eq_true (h1 x (List.mem_append_left _ hx))
theorem Kv (as bs:ki) (e:Int×Addr×List Int):jf (as++e::bs)=jf as++(e.2.1,HO.lst (e.2.2.map V.int))::jf bs:=by unfold jf;rw [List.map_append];rfl
theorem Kw (as bs:ki):jf (as++bs)=jf as++jf bs:=by unfold jf;rw [List.map_append]
theorem Nx {K:PySem.W.Frag} {H:Hp} {Q:VK} {p:Addr} {xs:List V} {y:V} (h1:H p=some (.lst xs)) (fy:eE y=true) (fs:xs.all eE=true) (h:Q (.bl (sC y xs)) H):Vj K false y (.ref p) H Q:=⟨p,xs,rfl,.inl (fq.of h1),fy,fs,h⟩
end L2
set_option Elab.async false
set_option linter.all false
set_option maxRecDepth 100000
namespace L2
open PySem PySem.Spec PyProof.Rows PySem.W
section
variable {X:Cx} {pins:List (Addr×Obj)} {σ : St} {H:Hp} {s:Shared} {h':Heap}
end
section
variable {X:Cx}
end
end L2
set_option Elab.async false
set_option linter.all false
set_option maxRecDepth 100000
namespace L2
open PySem PySem.Spec PyProof.Rows PySem.W
abbrev Um:Str:=Str.ofString "0123456789"
def Uo (c:Nat):Bool := !(Builtin.Str.occurrences Um ⟨#[c]⟩ 0 Um.length 1).isEmpty
end L2
set_option Elab.async false
set_option linter.all false
set_option maxRecDepth 100000
namespace L2
open PySem PySem.Spec PyProof.Rows PySem.W
end L2
set_option Elab.async false
set_option linter.all false
set_option maxRecDepth 100000
namespace L2
open PySem PySem.Spec PyProof.Rows PySem.W
section
variable {X:Cx}
def GJ:V->List V->Hp->VK->Prop:=λ x vs H Q => ∃ l xs y d ds j,x = .ref l/\vs = [y]/\H l=some (.lst xs)/\eB H y d/\bR H xs ds/\d.depth<=60/\shaped d=true/\shaped (.list ds)=true/\(∃ e,ds[j]? = some e/\PyData.eqv e d=true)/\(∀ (m:Nat) e,m < j->ds[m]? = some e->PyData.eqv e d=false)/\Q (.int (j:Nat)) H
theorem mq (hu:X.A.units+64 < cLine):Vk X "list.index" GJ:=by
 intro pins s σ H x vs v us Q I rx rv h
 obtain ⟨l,xs,y,d,ds,j,rfl,rfl,hH,hd,hds,h60,sd,se,⟨ej,hej,hit⟩,hno,q⟩:=h
 cases rx
 obtain ⟨u,rfl,ru⟩:=rv.one
 obtain ⟨z,its,n,r,hl,e⟩:=I.C3 hH
 obtain ⟨_,ra⟩:=hd.reads I.hok ru
 obtain ⟨_,rb⟩:=hds.reads I.hok r
 have h1:=jI sd
 have hcl:=nO se
 have hm:=SeqAt.readsAll_map ds its _ hcl rb
 have hdl:=hds.length
 have hj:j < ds.length:=(List.getElem?_eq_some_iff.mp hej).1
 have hsz:its.toArray.size=ds.length:=by rw [List.size_toArray,<-hm,List.length_map]
 have at_ : ∀ (m:Nat) (Sj:m < its.toArray.size) (w:PyData),ds[m]? = some w->SeqAt.readOf s.heap its.toArray[m]=w:=λ m Sj w hw=>by
  rw [<-hm,List.getElem?_map] at hw
  have hm2:m < its.length:=by simpa using Sj
  rw [List.getElem?_eq_getElem hm2] at hw
  simpa using hw
 have hl2:=nK
 refine call_meets F.slot_list_index ⟨_,e,rfl⟩ F.entry_list_index (F.args_list_index_2 _ _) (SeqAt.list_indexAt l its.toArray n none #[] u (λ v=>PyData.eqv (SeqAt.readOf s.heap v) d) j (by omega) (by omega) ?_ ?_) ⟨e,SeqAt.items_eqAt (by simpa using rb) ra hcl h1.1 (by have:=Nat.min_le_right (PyData.depthAll ds) d.depth;omega),?_⟩
 ·show PyData.eqv (SeqAt.readOf s.heap its.toArray[j]) d=true
  rw [at_ j (by omega) ej hej];exact hit
 ·intro m Sj hlt
  have Q3:m < ds.length:=by omega
  show PyData.eqv (SeqAt.readOf s.heap its.toArray[m]) d=false
  rw [at_ m Sj _ (List.getElem?_eq_getElem Q3)]
  exact hno m _ hlt (List.getElem?_eq_getElem Q3)
 ·exact ⟨.int j,H,I.tok _,⟨_,rfl⟩,q⟩
end
theorem GK {H:Hp} {Q:VK} {l:Addr} {xs:List V} {y:V} {d:Dat} {ds:List Dat} {j:Nat} (h1:H l=some (.lst xs)) (hd:eB H y (kqdP d)) (hds:bR H xs (kqdPs ds)) (o1:kqdOk 8 d=true) (o2 : ∀ e∈ds,kqdOk 7 e=true) (hj:ds[j]? = some d) (hno : ∀ (m:Nat) e,m < j->ds[m]? = some e->e≠d) (h:Q (.int (j:Nat)) H):GJ (.ref l) [y] H Q:=by
 have s1:kqdOk 8 (.list ds)=true:=by rw [kqdOk,List.all_eq_true];exact o2
 have s2:=jH s1
 rw [kqdP] at s2
 have dp:=(kqd_lay 8 d o1).2
 refine ⟨l,xs,y,kqdP d,kqdPs ds,j,rfl,rfl,h1,hd,hds,by omega,jH o1,s2,⟨kqdP d,by rw [mj,List.getElem?_map,hj];rfl,(kqd_eqv 8 d d 8 o1 o1).mpr rfl⟩,λ m e hm he => ?_,h⟩
 rw [mj,List.getElem?_map] at he
 obtain ⟨e',he',rfl⟩:=Option.map_eq_some_iff.mp he
 exact Bool.eq_false_iff.mpr λ z=>hno m e' hm he' ((kqd_eqv 7 e' d 8 (o2 e' (List.mem_of_getElem? he')) o1).mp z)
theorem Bw {H:Hp} {Q:VK} {l:Addr} {y:V} {d:Dat} {ds:List Dat} {xs:List V} {neg b:Bool} (h1:H l=some (.lst xs)) (hd:eB H y (kqdP d)) (hds:bR H xs (kqdPs ds)) (o1:kqdOk 8 d=true) (o2 : ∀ e∈ds,kqdOk 7 e=true) (hb:b=true↔d∈ds) (h:Q (.bl (if neg then !b else b)) H):Q2 neg y (.ref l) H Q:=by
 have s1:kqdOk 8 (.list ds)=true:=by rw [kqdOk,List.all_eq_true];exact o2
 have s2:=jH s1
 rw [kqdP] at s2
 have dp:=(kqd_lay 8 d o1).2
 have e:((kqdPs ds).any λ e=>PyData.eqv e (kqdP d))=b:=by
  rw [Bool.eq_iff_iff,hb,mj,List.any_map,List.any_eq_true]
  constructor
  ·rintro ⟨x,hx,hz⟩
   rw [<-(kqd_eqv 7 x d 8 (o2 x hx) o1).mp hz]
   exact hx
  ·intro hx
   exact ⟨d,hx,(kqd_eqv 8 d d 8 o1 o1).mpr rfl⟩
 exact ⟨kqdP d,kqdPs ds,hd,.lst h1 hds,by omega,jH o1,s2,by rw [e];exact h⟩
end L2
set_option Elab.async false
set_option linter.all false
set_option maxRecDepth 100000
namespace L2
open PySem PySem.Spec PyProof.Rows PySem.W
section
variable {X:Cx}
end
end L2
set_option Elab.async false
set_option linter.all false
set_option maxRecDepth 100000
namespace L2
open PySem PySem.Spec PyProof.Rows PySem.W
theorem ER {lo:Int} {n:Nat} {te:TE} {σ : St} {Q:VK} {H1:Hp} {L:Cells} (G:Nat->V->Cells->Prop) (hL:Led H1 L) (hn:n<=sizeLine)
  (hs : ∀ (i:Nat) (H:Hp) (R:VK) (M:Cells),i < n->Led H (M++L)->(∀ v H' C,G i v C->Led H' (C++(M++L))->R v H')->te (some (.int (lo+i)) :: σ) H R)
  (hd : ∀ (p:Addr) (vs:List V) (Cs:List Cells) (H':Hp),vs.length=n->Cs.length=n->(∀ (i:Nat) v C,vs[i]? = some v->Cs[i]? = some C->G i v C)->Led H' ((p,.lst vs)::(Cs.flatten++L))->Q (.ref p) H'):sF (Hu lo n) EL te σ Q H1:=by
 refine AF (λ p i acc H=>i<=n/\acc.length=i ∧ ∃ Cs:List Cells,Cs.length=i/\(∀ (j:Nat) v C,acc[j]? = some v->Cs[j]? = some C->G j v C)/\Led H ((p,.lst acc)::(Cs.flatten++L))) (λ p hp=>⟨Nat.zero_le _,rfl,[],rfl,λ j v C h=>by simp at h,hL.new hp⟩) (λ p i acc H hp h => ?_) ?_ ?_
 ·obtain ⟨_,_,Cs,_,_,hl⟩:=h
  exact hl.get List.mem_cons_self
 ·rintro p i acc H hp hi ⟨_,rfl,Cs,hc,hG,hl⟩
  unfold EL
  dsimp only
  rw [if_pos rfl]
  refine hs _ H _ ((p,.lst acc)::Cs.flatten) hi hl λ v H' C g hl' => ?_
  have h1:Led H' ((p,.lst acc)::(C++(Cs.flatten++L))):=Led.pull hl'
  refine ⟨h1.get List.mem_cons_self,by omega,hi,by simp,Cs++[C],by simp [hc],λ j u D hu hD => ?_,?_⟩
  ·rw [List.getElem?_append] at hu hD
   rw [hc] at hD
   by_cases hj:j < acc.length
   ·rw [if_pos hj] at hu hD
    exact hG j u D hu hD
   ·rw [if_neg hj] at hu hD
    have h0:j - acc.length=0:=by
     rcases Nat.lt_or_ge (j - acc.length) 1 with h | h
     ·omega
     ·rw [List.getElem?_eq_none (by simpa using h)] at hu;cases hu
    rw [h0] at hu hD
    have e:j=acc.length:=by omega
    subst e
    cases hu
    cases hD
    exact g
  ·refine (h1.put (o' := .lst (acc++[v])) rfl rfl).perm (List.Perm.cons _ ?_)
   rw [List.flatten_append,List.flatten_cons,List.flatten_nil,List.append_nil,List.append_assoc,<-List.append_assoc,<-List.append_assoc]
   exact List.Perm.append_right _ List.perm_append_comm
 ·rintro p acc H hp ⟨_,e,Cs,hc,hG,hl⟩
  exact hd p acc Cs H e hc hG hl
abbrev CH:=List (Addr×List Int)
def oR (rs:CH):List V:=rs.map λ r=>V.ref r.1
def HV (rs:CH):Cells:=rs.map λ r=>(r.1,HO.lst (r.2.map V.int))
theorem gI (rs:CH):(oR rs).length=rs.length:=List.length_map _
theorem Bx {rs:CH} {r:Addr×List Int} (h:r∈rs):(r.1,HO.lst (r.2.map V.int))∈HV rs:=List.mem_map.mpr ⟨r,h,rfl⟩
theorem rowsOf {p:Nat->List Int->Prop} : ∀ {vs:List V} {Cs:List Cells},vs.length=Cs.length->(∀ (i:Nat) v C,vs[i]? = some v->Cs[i]? = some C->∃ (r:Addr) (row:List Int),v=V.ref r/\C = [(r,HO.lst (row.map V.int))]/\p i row)->∃ rs:CH,vs=oR rs/\Cs.flatten=HV rs/\rs.length=vs.length ∧ ∀ (i:Nat) r,rs[i]? = some r->p i r.2:=by
 intro vs
 induction vs generalizing p with
 | nil=>intro Cs h _;cases Cs with
   | nil=>exact ⟨[],rfl,rfl,rfl,λ i r h=>by simp at h⟩
   | cons _ _=>cases h
 | cons v vs ih=>intro Cs hl h;cases Cs with
   | nil=>cases hl
   | cons C Cs =>
     obtain ⟨r,row,rfl,rfl,hp⟩:=h 0 v C rfl rfl
     obtain ⟨rs,rfl,e2,e3,e4⟩:=ih (p:=λ i row=>p (i+1) row) (Cs:=Cs) (Nat.succ.inj hl) λ i u D hu hD=>h (i+1) u D hu hD
     refine ⟨(r,row)::rs,rfl,by rw [List.flatten_cons,e2];rfl,by rw [List.length_cons,List.length_cons,e3],λ i q hq => ?_⟩
     cases i with
     | zero=>cases hq;exact hp
     | succ i=>exact e4 i q hq
abbrev yk:=Str×Addr×CH
abbrev cR:=List yk
def xZ (es:cR):List (Key×V):=es.map λ e=>(Sum.inr e.1,V.ref e.2.1)
def nQ (es:cR):Cells:=es.map λ e=>(e.2.1,HO.lst (oR e.2.2))
theorem By (es:cR) (z:Str):bB (xZ es) (.inr z)=(es.find? λ e=>decide (e.1=z)).map λ e => .ref e.2.1:=by
 induction es with
 | nil=>rfl
 | cons e es ih =>
   unfold xZ at ih ⊢
   rw [List.map_cons,List.find?_cons]
   by_cases h:e.1=z
   ·rw [bQ (by rw [h]),decide_eq_true h];rfl
   ·rw [bC (λ q=>h (Sum.inr.inj q)),decide_eq_false h];exact ih
theorem Dm {es:cR} {z:Str} (h:z ∉ es.map (·.1)):bB (xZ es) (.inr z)=none:=by
 rw [By,List.find?_eq_none.mpr]
 ·rfl
 ·intro e he q
  exact h (List.mem_map.mpr ⟨e,he,of_decide_eq_true q⟩)
theorem findF {es:cR} {e:yk} (nd:(es.map (·.1)).Nodup) (h:e∈es):es.find? (λ x=>decide (x.1=e.1))=some e:=by
 induction es with
 | nil=>cases h
 | cons x es ih =>
   rw [List.map_cons,List.nodup_cons] at nd
   rw [List.find?_cons]
   rcases List.mem_cons.mp h with rfl | h
   ·rw [decide_eq_true rfl]
   ·have:x.1≠e.1:=λ q=>nd.1 (q ▸ List.mem_map.mpr ⟨e,h,rfl⟩)
    rw [decide_eq_false this]
    exact ih nd.2 h
theorem vB {es:cR} {e:yk} (nd:(es.map (·.1)).Nodup) (h:e∈es):bB (xZ es) (.inr e.1)=some (.ref e.2.1):=by rw [By,findF nd h];rfl
theorem Ny {es:cR} {z:Str} (h:z ∉ es.map (·.1)) (a:Addr) (rs:CH):putK (xZ es) (.inr z) (.ref a)=xZ (es++[(z,a,rs)]):=by
 unfold putK
 rw [if_neg]
 ·unfold xZ;rw [List.map_append];rfl
 ·rw [c6,Dm h];exact Bool.false_ne_true
theorem Q8 {es:cR} {e:yk} (nd:(es.map (·.1)).Nodup) (h:e∈es) : ∃ as bs,es=as++e::bs/\es.filter (λ x=>decide (x.1≠e.1))=as++bs:=by
 obtain ⟨as,bs,rfl⟩:=List.append_of_mem h
 refine ⟨as,bs,rfl,?_⟩
 rw [List.map_append,List.map_cons] at nd
 have h1 : ∀ x∈as++bs,x.1≠e.1:=λ x hx q=>by
  have Q7:=(List.perm_middle (l₁ := as.map (·.1)) (a:=e.1) (l₂ := bs.map (·.1))).nodup_iff.mp nd
  rw [List.nodup_cons] at Q7
  refine Q7.1 ?_
  rw [<-List.map_append,<-q]
  exact List.mem_map.mpr ⟨x,hx,rfl⟩
 rw [List.filter_append,List.filter_cons,if_neg (by simp)]
 rw [List.filter_eq_self.mpr,List.filter_eq_self.mpr]
 ·intro x hx;exact decide_eq_true (h1 x (List.mem_append_right _ hx))
 ·intro x hx;exact decide_eq_true (h1 x (List.mem_append_left _ hx))
theorem Dn (as bs:cR) (e:yk):nQ (as++e::bs)=nQ as++(e.2.1,HO.lst (oR e.2.2))::nQ bs:=by unfold nQ;rw [List.map_append];rfl
theorem Ky {es:cR} {e:yk} (h:e∈es):(e.2.1,HO.lst (oR e.2.2))∈nQ es:=List.mem_map.mpr ⟨e,h,rfl⟩
theorem Nz (as bs:cR) (e e':yk) (h1:e.1=e'.1) (h2:e.2.1=e'.2.1):xZ (as++e::bs)=xZ (as++e'::bs):=by unfold xZ;rw [List.map_append,List.map_append,List.map_cons,List.map_cons,h1,h2]
section
variable {H:Hp} {a:Addr} {Q:VK} {D:Ends} {σ : St}
theorem Up {kvs:List (Key×V)} {z:Str} {S:Option V->Prop} (h1:H a=some (.dK kvs)) (h:S (bB kvs (.inr z))) : ∃ b o,V.ref a = .ref b/\gu H b (.str z) o/\S o:=⟨a,_,rfl,gu.k (k := .inr z) h1,h⟩
theorem Kz {kvs:List (Key×V)} {z:Str} {v:V} {S:V->Prop} (h1:H a=some (.dK kvs)) (h2:bB kvs (.inr z)=some v) (h:S v) : ∃ b v,V.ref a = .ref b/\gu H b (.str z) (some v)/\S v:=⟨a,v,rfl,h2 ▸ gu.k (k := .inr z) h1,h⟩
theorem Uq {kvs:List (Key×V)} {z:Str} {v:V} (h1:H a=some (.dK kvs)) (hl:kvs.length < sizeLine) (h:D.nx σ (upd H a (.dK (putK kvs (.inr z) v)))) : ∃ b H4,V.ref a = .ref b/\nM H b (.str z) v H4/\D.nx σ H4:=⟨a,_,rfl,nM.k (k := .inr z) h1 hl,h⟩
end
end L2
set_option Elab.async false
set_option linter.all false
set_option maxRecDepth 100000
namespace L2
open PySem PySem.Spec PyProof.Rows PySem.W
section
variable {X:Cx}
end
section
variable {X:Cx} {k:Nat} {f C:Addr} {fd:FuncData} {ps:List Str} {sp:Sp} {x:Str} {p pos:Pos} {e:Expr} {es:List Expr} {t:TA}
end
end L2
set_option Elab.async false
set_option linter.all false
set_option maxRecDepth 100000
namespace L2
open PySem PySem.Spec PyProof.Rows PySem.W
section
variable {X:Cx}
end
section
variable {P:Program} {w:World} {K:PySem.W.Frag} {mg:Str->Option Value} {base:Heap}
end
section
variable {X:Cx} {ea:Addr} {k:Nat} {ps:List Str} {sp:Sp} {x:Str} {p pos:Pos} {e:Expr} {es:List Expr} {t:TA}
end
end L2
set_option Elab.async false
set_option linter.all false
set_option maxRecDepth 100000
namespace L2
open PySem PySem.Spec PyProof.Rows PySem.W
section
variable {X:Cx}
end
end L2
set_option Elab.async false
set_option linter.all false
set_option maxRecDepth 100000
namespace L2
open PySem PySem.Spec PyProof.Rows PySem.W
section
variable {prog:Program} {w:World} {A:Around} {E:Value->Shared->Prop} {s:Shared}
end
end L2
set_option Elab.async false
set_option linter.all false
set_option maxRecDepth 100000
namespace L2
open PySem PySem.Spec PyProof.Rows PySem.W
namespace SI
end SI
section
variable {prog:Program} {w:World} {A:Around} {E:Value->Shared->Prop} {s:Shared}
end
end L2
set_option Elab.async false
set_option linter.all false
set_option maxRecDepth 100000
namespace L2
open PySem PySem.Spec PyProof.Rows PySem.W
section
variable {prog:Program} {w:World} {A:Around} {E:Value->Shared->Prop} {s:Shared}
end
end L2
set_option Elab.async false
set_option linter.all false
set_option maxRecDepth 100000
namespace L2
open PySem PySem.Spec PyProof.Rows PySem.W
section
variable {prog:Program} {w:World} {A:Around} {E:Value->Shared->Prop} {s:Shared}
end
section
variable {X:Cx} {pins:List (Addr×Obj)} {σ : St} {H:Hp} {s:Shared}
end
end L2
set_option Elab.async false
set_option linter.all false
set_option maxRecDepth 100000
namespace L2
open PySem PySem.Spec PyProof.Rows PySem.W
section
variable {prog:Program} {w:World} {A:Around} {E:Value->Shared->Prop} {s:Shared} {d it:Addr} {es:Array DictEntry} {ep i:Nat}
def tu (h:Heap) (d:Addr) (es:Array DictEntry) (ep:Nat):Prop := ∃ o,h.get? d=some o/\o.ExactDict/\o.data = .dict es ep
theorem tu.ty (x:tu s.heap d es ep):s.TypeIs (.ref d) "dict" := let ⟨o,ho,hc,_⟩:=x; ⟨o,ho,hc.1⟩
theorem tu.lt {h:Heap} (x:tu h d es ep):d < h.objs.size:=let ⟨_,ho,_⟩:=x; Heap.lt_size ho
theorem tu.to {h h':Heap} (x:tu h d es ep) (k : ∀ o,h.get? d=some o->h'.get? d=some o):tu h' d es ep:=let ⟨o,ho,r⟩:=x; ⟨o,k o ho,r⟩
theorem KA {Q:Value->Shared->Prop} (lo:(d == sysModules)=false) (m:tu s.heap d es ep)
  (q:Q (.ref s.heap.objs.size) { s with heap:=s.heap.push { cls := .type "dict_keyiterator",data := .fields #[.ref d,.int 0 0,.int es.size 0,.int ep 0] } }):wpAny (model prog w) A (pyIter (.ref d)) Q E s:=by
 obtain ⟨o,ho,hc,hdat⟩:=id m
 have ty:=m.ty
 refine wpAny_pyIter_slot ty F.slot_dict_iter (wpAny_call_entry F.slot_dict_iter ty F.entry_dict_iter ?_ (F.args_dict_iter_1 _))
 unfold Builtin.«dict.__iter__»
 refine wpAny_bind ?_;unfold Builtin.Dict.dictSlotNone
 refine wpAny_bind (wpAny_notOrdered_dict ty ?_)
 show wpAny _ _ (pure (Value.ref d)) _ _ s;refine wpAny_pure ?_
 show wpAny _ _ (Builtin.Dict.showsAll d >>= _) _ _ s;unfold Builtin.Dict.showsAll
 rw [if_neg (by rw [lo];exact Bool.false_ne_true)];refine wpAny_bind (wpAny_pure ?_)
 refine wpAny_bind (wpAny_dictEntries ho hdat (wpAny_bind (wpAny_dictEpoch ho hdat ?_)))
 refine wpAny_bind (wpAny_newObj_type (wpAny_pure ⟨_,rfl,"dict_keyiterator",_,⟨_,Heap.get?_push_size _ rfl,rfl⟩,F.slot_dict_keyiterator_next.lookup,?_⟩))
 simpa [rawInt] using q
theorem KC {Q:Option Value->Shared->Prop} (ti:s.heap.IsKeyIter it d i es.size ep) (m:tu s.heap d es ep) (hi:i < es.size)
  (q : ∀ h',h'.IsKeyIter it d (i+1) es.size ep->Heap.SameBut it s.heap h'->Q (some es[i].key) { s with heap:=h' }):wpAny (model prog w) A (pyNext (.ref it)) Q E s:=by
 obtain ⟨o,ho,hc,hd⟩:=id ti
 obtain ⟨od,hod,hcd,Ur⟩:=id m
 unfold pyNext
 refine wpAny_bind (wpAny_attempt (wpAny_callSpecial?_slot (name:=Str.ofString "__next__") ti.typeIs F.slot_dict_keyiterator_next (wpAny_call_entry F.slot_dict_keyiterator_next ti.typeIs F.entry_dict_keyiterator_next ?_ (F.args_dict_keyiterator_next_1 _))))
 refine wpAny_bind (wpAny_pure (wpAny_bind (wpAny_bind ?_)))
 first | refine wpAny_bind (wpAny_typeNameOfWhole_keyiter ti.typeIs (wpAny_pure ?_)) | refine wpAny_bind (wpAny_typeNameOf_keyiter ti.typeIs (wpAny_pure ?_))
 refine wpAny_bind (wpAny_fieldsOf ho hd ?_)
 have own:Builtin.Dict_items.ownsTuple "dict_keyiterator" = false:=by decide
 simp only [own,Bool.false_eq_true,if_false];show wpAny _ _ (if (Value.ref d == Value.none)=true then _ else _) _ _ s
 rw [if_neg (show ¬ ((Value.ref d == Value.none)=true) from Bool.false_ne_true)];refine wpAny_bind (wpAny_pure ?_)
 refine wpAny_bind (wpAny_dictEntries hod Ur ?_);rw [if_neg (by simp)]
 refine wpAny_bind (wpAny_pure (wpAny_bind (wpAny_dictEpoch hod Ur ?_)));rw [if_neg (by simp)]
 refine wpAny_pure ?_
 simp only [show ¬ ((i:Int) < 0) from by omega,if_false,Int.toNat_natCast,Array.getElem?_eq_getElem hi]
 refine wpAny_bind ?_;first | refine wpAny_bind (wpAny_typeNameOfWhole_keyiter ti.typeIs (wpAny_pure ?_)) | refine wpAny_bind (wpAny_typeNameOf_keyiter ti.typeIs (wpAny_pure ?_))
 refine wpAny_bind (wpAny_isOneOf_keyiter ti.typeIs ?_);show wpAny _ _ (setField (.ref it) 1 (rawInt ((i:Int)+1)) >>= _) _ _ s
 refine wpAny_bind (wpAny_setField ho hd (by simp) ?_)
 have ti':(s.heap.update it (Obj.mapFields (·.setIfInBounds 1 (rawInt ((i:Int)+1))))).IsKeyIter it d (i+1) es.size ep :=
  ⟨_,Heap.get?_update_self _ ho (Obj.isFreed_of_fields (Obj.data_mapFields hd _)),(Obj.cls_mapFields ..).trans hc,by rw [Obj.data_mapFields hd];simp [rawInt]⟩
 refine wpAny_bind (wpAny_holding (wpAny_bind (wpAny_isOneOf_keyiter (s := { s with heap:=s.heap.update it (Obj.mapFields (·.setIfInBounds 1 (rawInt ((i:Int)+1)))) }) ti'.typeIs ?_)))
 show wpAny _ _ (pure es[i].key) _ _ _;exact wpAny_pure (wpAny_pure ⟨_,rfl,wpAny_pure (q _ ti' (Heap.SameBut.update ..))⟩)
theorem NB {Q:Option Value->Shared->Prop} (hh:A.handled=none) (ti:s.heap.IsKeyIter it d es.size es.size ep) (m:tu s.heap d es ep)
  (q : ∀ h',Heap.ExtBut it s.heap h'->Q none { s with heap:=h' }):wpAny (model prog w) A (pyNext (.ref it)) Q E s:=by
 obtain ⟨o,ho,hc,hd⟩:=id ti
 obtain ⟨od,hod,hcd,Ur⟩:=id m
 unfold pyNext
 refine wpAny_bind (wpAny_attempt (wpAny_callSpecial?_slot (name:=Str.ofString "__next__") ti.typeIs F.slot_dict_keyiterator_next (wpAny_call_entry F.slot_dict_keyiterator_next ti.typeIs F.entry_dict_keyiterator_next ?_ (F.args_dict_keyiterator_next_1 _))))
 refine wpAny_bind (wpAny_pure (wpAny_bind (wpAny_bind ?_)))
 first | refine wpAny_bind (wpAny_typeNameOfWhole_keyiter ti.typeIs (wpAny_pure ?_)) | refine wpAny_bind (wpAny_typeNameOf_keyiter ti.typeIs (wpAny_pure ?_))
 refine wpAny_bind (wpAny_fieldsOf ho hd ?_)
 have own:Builtin.Dict_items.ownsTuple "dict_keyiterator" = false:=by decide
 simp only [own,Bool.false_eq_true,if_false];show wpAny _ _ (if (Value.ref d == Value.none)=true then _ else _) _ _ s
 rw [if_neg (show ¬ ((Value.ref d == Value.none)=true) from Bool.false_ne_true)];refine wpAny_bind (wpAny_pure ?_)
 refine wpAny_bind (wpAny_dictEntries hod Ur ?_);rw [if_neg (by simp)]
 refine wpAny_bind (wpAny_pure (wpAny_bind (wpAny_dictEpoch hod Ur ?_)));rw [if_neg (by simp)]
 refine wpAny_pure ?_
 simp only [show ¬ ((es.size:Int) < 0) from by omega,if_false,Int.toNat_natCast,Array.getElem?_eq_none (Nat.le_refl es.size)]
 refine wpAny_bind ?_;first | refine wpAny_bind (wpAny_typeNameOfWhole_keyiter ti.typeIs (wpAny_pure ?_)) | refine wpAny_bind (wpAny_typeNameOf_keyiter ti.typeIs (wpAny_pure ?_))
 show wpAny _ _ (setField (.ref it) 0 .none >>= _) _ _ s;refine wpAny_bind (wpAny_setField ho hd (by simp) ?_)
 show wpAny _ _ (newExc (.type "StopIteration") [] >>= _) _ _ _;refine wpAny_bind ?_;simp only [newExc,newTuple]
 refine wpAny_bind (wpAny_newObj_type ?_ (by size_fits));refine wpAny_bind (m:=firstArgMember _ _) (wpAny_of_eq (a:=Value.none) (by first | rfl | (simp only [firstArgMember];rfl)) ?_)
 refine wpAny_newObj_type ?_ (by size_fits);simp only [raiseNew];refine wpAny_bind (wpAny_handled ?_);rw [show A.in1.handled=none from hh]
 refine wpAny_bind (wpAny_pure (wpAny_throw ?_));refine wpAny_bind (wpAny_isInstance (T := "StopIteration") (b:=true) ⟨_,Heap.get?_push_size _ rfl,rfl⟩ isSubtype_stop ?_)
 exact wpAny_pure (q _ (((Heap.SameBut.update ..).extBut.push _).push _))
theorem HW (hh:A.handled=none) (I d:Addr) (hne:d≠I) (es:Array DictEntry) (ep:Nat) :
  Walks prog w A I [I,d] [I] es.size (λ i v => ∃ e,es[i]? = some e/\v=e.key) (λ i h=>h.IsKeyIter I d i es.size ep/\tu h d es ep) where
 sub:=λ b hb=>by simp at hb;simp [hb]
 frame:=λ _ _ _ st hk=>⟨st.1.at λ o e=>hk I (by simp) o e,st.2.to λ o e=>hk d (by simp) o e⟩
 item:=λ i s Q E hi st hQ=>KC st.1 st.2 hi λ h' ti' hs'=>hQ _ h' s.toks ⟨es[i],by simp [hi],rfl⟩ ⟨ti',st.2.to λ o e=>hs'.extBut d o hne e⟩ λ b o hb e=>hs'.extBut b o (λ h=>hb (by simp [h])) e
 done:=λ s Q E st hQ=>NB hh st.1 st.2 λ h' he'=>hQ h' s.toks λ b o hb e=>he' b o (λ h=>hb (by simp [h])) e
 self:=λ _ _ _ _ st hQ=>wpAny_pyIter_keyiter st.1 hQ
theorem NC (lo:(d == sysModules)=false):KdlSrc prog w "dict" d d es.size (λ i v => ∃ e,es[i]? = some e/\v=e.key) (λ h=>tu h d es ep) where
 type:=λ _ m=>m.ty
 there:=λ _ m=>⟨m.lt,m.lt⟩
 keep:=λ _ _ m k=>m.to λ o e=>k d (.inl rfl) o e
 notList:=by decide
 notTuple:=by decide
 hint:=λ _ _ _ _ m q=>kdl_hint_dict m.ty q
 iter:=λ _ _ hh m=>⟨_,_,(λ _ _ q=>KA lo m q),HW hh _ d (Nat.ne_of_lt m.lt) es ep,⟨⟨_,Heap.get?_push_size _ rfl,rfl,rfl⟩,m.to λ o e=>Heap.get?_push_of_some _ e⟩⟩
end
section
variable {X:Cx}
def BA:List V->Hp->VK->Prop:=λ xs H Q => ∃ (p:Addr) (kvs:List (List Key×V)),xs = [.ref p]/\H p=some (.dT kvs) ∧ ∀ (l:Addr) (as:List Addr),H l=none->as.length=kvs.length->(∀ (i:Nat) b k v,as[i]? = some b->kvs[i]? = some (k,v)->H b=some (.tup (k.map kV)))->Q (.ref l) (upd H l (.lst (as.map V.ref)))
theorem kt_at {H:Hp} : ∀ {kvs:List (List Key×V)} {xs:List (List Key×Addr×Value)},KT H kvs xs->∀ (i:Nat) x k v,xs[i]? = some x->kvs[i]? = some (k,v)->H x.2.1=some (.tup (k.map kV)):=by
 intro kvs xs r
 induction r with
 | nil=>intro i x k v h;simp at h
 | @cons p q ps qs hq t ih =>
   intro i x k v h1 h2
   cases i with
   | zero =>
     simp only [List.getElem?_cons_zero,Option.some.injEq] at h1 h2
     subst h1
     rw [h2] at hq
     exact hq.2.1
   | succ i=>exact ih i x k v (by simpa using h1) (by simpa using h2)
theorem ES {us:List Value} {as:List Addr} (h:us=as.map Value.ref):Vals (as.map V.ref) us:=by
 subst h
 induction as with
 | nil=>exact .nil
 | cons a as ih=>exact .cons rfl ih
theorem kZ (hc:X.calm=true):kM X (.type "list") BA:=by
 intro pins s σ H xs us Q I r h
 obtain ⟨p,kvs,rfl,hp,q⟩:=h
 obtain ⟨u,rfl,rx⟩:=vals1 r
 cases rx
 obtain ⟨hz,hS,zs,rr,o,es,ep,h1,h2,h3,h4,_,_⟩:=OV I.hok hp
 have hl:kvs.length=zs.length:=Paired.length rr
 have hsz:es.size=zs.length:=by rw [<-Array.length_toList,h4,List.length_map]
 refine kdl_call (NC (es:=es) (ep:=ep) hS) (I.ok.hd hc) ⟨o,h1,h2,h3⟩ (by omega) λ h' tk acc' c' hk' hS' hacc => ?_
 have hat:acc'.toList=(zs.map λ z=>z.2.1).map Value.ref:=by
  refine List.ext_getElem? λ i => ?_
  by_cases hi:i < zs.length
  ·have hi2:i < acc'.toList.length:=by rw [Array.length_toList,hacc.1];omega
   rw [List.getElem?_eq_getElem hi2]
   obtain ⟨e,he,ev⟩:=hacc.2 i _ (by rw [<-Array.getElem?_toList];exact List.getElem?_eq_getElem hi2)
   have yl:es.toList[i]? = some e:=by rw [Array.getElem?_toList];exact he
   rw [h4,List.getElem?_map,List.getElem?_eq_getElem hi] at yl
   rw [ev,List.getElem?_map,List.getElem?_map,List.getElem?_eq_getElem hi]
   have:e=entryOfKey (tupleKind (cj X.prog X.w)) zs[i]:=(Option.some.inj yl).symm
   rw [this]
   rfl
  ·rw [List.getElem?_eq_none (by rw [Array.length_toList,hacc.1];omega),List.getElem?_eq_none (by simp;omega)]
 refine ⟨.ref s.heap.objs.size,_,I.laid (t':=tk) hk' (Nat.le_refl _) (show bU X.prog X.w _ h' _ (.lst ((zs.map λ z=>z.2.1).map V.ref)) from ⟨by rw [List.length_map,List.length_map];omega,acc'.toList,c',ES hat,by simpa using hS'⟩),rfl,q _ (zs.map λ z=>z.2.1) (I.hok.fresh (Nat.le_refl _)) (by rw [List.length_map];omega) λ i b k v hb hkv => ?_⟩
 rw [List.getElem?_map] at hb
 obtain ⟨x,hx,rfl⟩:=Option.map_eq_some_iff.mp hb
 exact kt_at rr i x k v hx hkv
theorem ND {H:Hp} {Q:VK} {p:Addr} {kvs:List (List Key×V)} (h1:H p=some (.dT kvs)) (h : ∀ (l:Addr) (as:List Addr),H l=none->as.length=kvs.length->(∀ (i:Nat) b k v,as[i]? = some b->kvs[i]? = some (k,v)->H b=some (.tup (k.map kV)))->Q (.ref l) (upd H l (.lst (as.map V.ref)))):BA [.ref p] H Q:=⟨p,kvs,rfl,h1,h⟩
end
end L2
set_option Elab.async false
set_option linter.all false
set_option maxRecDepth 100000
namespace L2
open PySem PySem.Spec PyProof.Rows
class vC (G:Prop) (P:outParam Prop):Prop where
 h:P->G
class dO (G:Prop) (P:outParam Prop):Prop where
 h:P->G
section
variable {σ : St} {H:Hp} {Q:VK} {D:Ends} {ta tb tc te:TE} {t u:TA} {r:R2} {b:TS} {QB:Bool->Hp->Prop} {c d:TT} {QA:List V->Hp->Prop}
instance W5 {α β : Type} {S : α->β->Prop} {g:(α->β->Prop)->Prop} : dO (Hid S g) (∀ R,(∀ x y,S x y->R x y)->g R):=⟨WC⟩
instance W6 {t u:TS} {D:Ends} {σ : St} {H:Hp} : dO (JG t u D σ H) (∀ M,Is M (u D)->t { D with nx:=M } σ H):=⟨Wt⟩
instance VA  : dO (Gy te t σ H QA) (∀ R,Is R (λ x H1=>t σ H1 λ xs H2=>QA (x::xs) H2)->te σ H R):=⟨TM⟩
instance afa  : dO (Qk r ta tb σ H Q) (∀ R,(∀ x H1,Hid (λ y H2=>r x y H2 Q) (λ R2=>tb σ H1 R2)->R x H1)->ta σ H R):=⟨opH⟩
instance W7 {g:TG} : dO (JK te g D σ H) (∀ R,Is R (λ x H1=>g x σ H1 D.nx)->te σ H R):=⟨WE⟩
instance W8  : dO (MS te D σ H) (∀ R,Is R (λ x H1=>D.rt x H1)->te σ H R):=⟨WG⟩
instance VB  : dO (JH te D σ H) (∀ R,Is R (λ _ H1=>D.nx σ H1)->te σ H R):=⟨Tw⟩
instance afb {a b:TS} : dO (MT c a b D σ H) (∀ R,Is R (λ k H1=>if k=true then a D σ H1 else b D σ H1)->c σ H R):=⟨ifH⟩
instance VC  : dO (Am te σ H QB) (∀ R,Is R (λ x H1 => ∃ k,x = .bl k/\QB k H1)->te σ H R):=⟨Tz⟩
instance afc  : dO (tB te σ H QB) (∀ R,Is R (λ x H1 => ∃ k,x = .bl k/\QB k H1)->te σ H R):=⟨tBH⟩
instance W9  : dO (Qd c σ H QB) (∀ R,Is R (λ k H1=>QB (!k) H1)->c σ H R):=⟨WH⟩
instance Xa  : dO (Qc c d σ H QB) (∀ R,Is R (λ k H1=>if k=true then d σ H1 QB else QB false H1)->c σ H R):=⟨WI⟩
instance afd  : dO (We c d σ H QB) (∀ R,Is R (λ k H1=>if k=true then QB true H1 else d σ H1 QB)->c σ H R):=⟨orH⟩
instance VD  : dO (JD ta tb σ H Q) (∀ R,Is R (λ x H1 => ∃ c,x = .bl c/\if c=true then tb σ H1 Q else Q (.bl false) H1)->ta σ H R):=⟨TH⟩
instance Xc  : dO (Qe ta tb σ H Q) (∀ R,Is R (λ x H1 => ∃ c,x = .bl c/\if c=true then Q (.bl true) H1 else tb σ H1 Q)->ta σ H R):=⟨WJ⟩
instance VE  : dO (JE ta σ H Q) (∀ R,Is R (λ x H1 => ∃ c,x = .bl c/\Q (.bl (!c)) H1)->ta σ H R):=⟨TJ⟩
instance afe {q:V->Hp->VK->Prop} : dO (Wh q ta σ H Q) (∀ R,Is R (λ x H1=>q x H1 Q)->ta σ H R):=⟨unH⟩
instance afg {q:V->Option Int->Option Int->Hp->VK->Prop} {tl th:TO} : dO (Wk q te tl th σ H Q) (∀ R,Is R (λ x H1=>tl σ H1 λ l H2=>th σ H2 λ u H3=>q x l u H3 Q)->te σ H R):=⟨slH⟩
instance VF {QO:Option Int->Hp->Prop} : dO (J6 te σ H QO) (∀ R,Is R (λ x H1 => ∃ i,x = .int i/\QO (some i) H1)->te σ H R):=⟨TL⟩
instance Xd  : dO (Qn t σ H Q) (∀ R,Is R (λ xs H1=>xs.length<=sizeLine ∧ ∀ p,H1 p=none->Q (.ref p) (upd H1 p (.tup xs)))->t σ H R):=⟨WK⟩
instance Xe  : dO (Qo t σ H Q) (∀ R,Is R (λ xs H1=>xs.length<=sizeLine ∧ ∀ p,H1 p=none->Q (.ref p) (upd H1 p (.lst xs)))->t σ H R):=⟨WL⟩
instance VG {sp:Sp} {jb:List V} {E:XK} : dO (Gz sp jb E t σ H Q) (∀ R,Is R (λ vs H1=>sp (vs++jb) H1 Q E)->t σ H R):=⟨TN⟩
instance afh {q:List V->Hp->VK->Prop} : dO (SX q t σ H Q) (∀ R,Is R (λ vs H1=>q vs H1 Q)->t σ H R):=⟨cbH⟩
instance VH {C:Addr} {m:Str} {sp:Sp} {jb:List V} {E:XK} : dO (Ao C m sp jb E ta t σ H Q) (∀ R,Is R (λ x H1 => ∃ a dx fs,x = .ref a/\H1 a=some (.ins C dx fs)/\fs.lookup m=none/\t σ H1 λ vs H2=>sp (x::(vs++jb)) H2 Q E)->ta σ H R):=⟨TQ⟩
instance VI {C:Addr} {sp:Sp} {jb:List V} {E:XK} : dO (Aq C sp jb E t σ H Q) (∀ R,Is R (λ vs H1 => ∀ x dx,H1 x=none->H1 dx=none->dx≠x->sp (.ref x::(vs++jb)) (upd (upd H1 dx (.own x)) x (.ins C dx [])) (λ v H2=>v = .aI/\Q (.ref x) H2) E)->t σ H R):=⟨TR⟩
instance Xf {C:Addr} {f:Str} : dO (Kl C ta f σ H Q) (∀ R,Is R (λ x H1 => ∃ a dx fs v,x = .ref a/\H1 a=some (.ins C dx fs)/\fs.lookup f=some v/\Q v H1)->ta σ H R):=⟨WM⟩
instance VJ {C:Addr} {f:Str} : dO (Km C ta te f D σ H) (∀ R,Is R (λ y H1=>ta σ H1 λ x H2 => ∃ a dx fs,x = .ref a/\H2 a=some (.ins C dx fs)/\fs.length < 1000/\D.nx σ (upd H2 a (.ins C dx (cP f y fs))))->te σ H R):=⟨TU⟩
instance afi {K:PySem.W.Frag} {T:String} {q:V->List V->Hp->VK->Prop} : dO (Wm K T q ta t σ H Q) (∀ R,Is R (λ x H1=>S8 K T x H1/\t σ H1 λ xs H2=>q x xs H2 Q)->ta σ H R):=⟨bmH⟩
instance VL  : dO (J1 ta tb te D σ H) (∀ R,(∀ v H1,Hid (λ x H2=>Hid (λ y H3 => ∃ a H4,x = .ref a/\nM H3 a y v H4/\D.nx σ H4) (λ R3=>tb σ H2 R3)) (λ R2=>ta σ H1 R2)->R v H1)->te σ H R):=⟨TV⟩
instance VM {to ti:TE} {tt:JI} {v:V} {QS:St->Hp->Prop} : dO (Qh to ti tt v σ H QS) (∀ R,(∀ o H1,Hid (λ i H2=>tt o i v H2 λ H3=>QS σ H3) (λ R2=>ti σ H1 R2)->R o H1)->to σ H R):=⟨TX⟩
instance VN  : dO (J0 ta tb σ H Q) (∀ R,Is R (λ x H1=>tb σ H1 λ y H2 => ∃ a v,x = .ref a/\gu H2 a y (some v)/\Q v H2)->ta σ H R):=⟨TY⟩
instance Xg  : dO (Qq ta tb σ H Q) (∀ R,Is R (λ y H1=>tb σ H1 λ x H2 => ∃ a o,x = .ref a/\gu H2 a y o/\Q (.bl o.isSome) H2)->ta σ H R):=⟨WN⟩
instance VO  : dO (A7 ta tb σ H Q) (∀ R,Is R (λ y H1=>tb σ H1 λ x H2 => ∃ a o,x = .ref a/\gu H2 a y o/\Q (.bl (!o.isSome)) H2)->ta σ H R):=⟨TZ⟩
instance Xh {v:V} : vC (tC v σ H Q) (Q v H):=⟨WO⟩
instance Xi  : vC (CU σ H QA) (QA [] H):=⟨WQ⟩
instance afj {g:Int->Int->V} {i j:Int} : vC (JP g (.int i) (.int j) H Q) (Q (g i j) H):=⟨i0H⟩
instance VP {i:Nat} {v:V} {QS:St->Hp->Prop} : vC (sr i v σ H QS) (QS (σ.set i (some v)) H):=⟨T5⟩
instance VQ  : vC (Gs D σ H) (D.nx σ H):=⟨T4⟩
instance afs {g:Int->V} {i:Int} : vC (rU g (.int i) H Q) (Q (g i) H):=⟨uH⟩
instance Sk {QO:Option Int->Hp->Prop} : vC (A8 σ H QO) (QO none H):=⟨Nr⟩
instance afk {b:Bool} {S:Bool->Prop} : vC (∃ k,V.bl b = .bl k/\S k) (S b):=⟨blH⟩
instance Xj {n:Int} {S:Int->Prop} : vC (∃ k,V.int n = .int k/\S k) (S n):=⟨WR⟩
instance Xk {m n:Int} : vC (Qm (.int m) (.int n) H Q) (Q (.bl (decide (m=n))) H):=⟨WS⟩
instance Xl {m n:Int} : vC (Wi (.int m) (.int n) H Q) (Q (.bl (!decide (m=n))) H):=⟨WT⟩
instance Xm {m n:Str} : vC (Qm (.str m) (.str n) H Q) (Q (.bl (decide (m=n))) H):=⟨WU⟩
instance Xn {m n:Bool} : vC (Qm (.bl m) (.bl n) H Q) (Q (.bl (decide (m=n))) H):=⟨WV⟩
instance Xo {A B:Prop} : vC (if true=true then A else B) (A):=⟨Tg⟩
instance Xp {A B:Prop} : vC (if false=true then A else B) (B):=⟨Tf⟩
instance VR {A B:Prop} : vC (if (!true)=true then A else B) (B):=⟨Pb⟩
instance VS {A B:Prop} : vC (if (!false)=true then A else B) (A):=⟨Pc⟩
instance Us  : vC (rI nJ (λ i j => .int (i ^ j.toNat)) (.int 10) (.int 60) H Q) (Q (.int 1000000000000000000000000000000000000000000000000000000000000) H):=⟨QV⟩
instance Ut  : vC (rI nJ (λ i j => .int (i ^ j.toNat)) (.int 10) (.int 59) H Q) (Q (.int 100000000000000000000000000000000000000000000000000000000000) H):=⟨QW⟩
instance Uu  : vC (rI nJ (λ i j => .int (i ^ j.toNat)) (.int 10) (.int 20) H Q) (Q (.int 100000000000000000000) H):=⟨QX⟩
instance Uv  : vC (rI nJ (λ i j => .int (i ^ j.toNat)) (.int 10) (.int 40) H Q) (Q (.int 10000000000000000000000000000000000000000) H):=⟨Q5⟩
end
end L2
set_option Elab.async false
set_option linter.all false
set_option maxRecDepth 100000
set_option maxHeartbeats 4000000
namespace My
open PySem PySem.Spec PyProof.Rows L2
def top (i : Nat) : Stmt := PySem.Challenge.pw_paneworks_k40_a_frame_is_had.main.body.getD i (.Pass ⟨0, 0, 0, 0⟩)
abbrev eW:Stmt:=inClass (top 8) 0
theorem pC:aD ["self","many"] ["self","many"] (ai eW):=by walk_at "sc"
abbrev cJ:Stmt:=inClass (top 8) 1
theorem jT:aD ["self"] ["self"] (ai cJ):=by walk_at "sc"
abbrev dQ:Stmt:=inClass (top 8) 2
theorem nc:aD ["self","frame"] ["self","frame"] (ai dQ):=by walk_at "sc"
abbrev dR:Stmt:=inClass (top 8) 3
theorem ng:aD ["self","frame"] ["self","frame"] (ai dR):=by walk_at "sc"
abbrev dS:Stmt:=inClass (top 8) 4
theorem nh:aD ["self"] ["self"] (ai dS):=by walk_at "sc"
abbrev dj:Stmt:=inClass (top 8) 5
theorem k6:aD ["self","may","many","step","frame"] ["self","may"] (ai dj):=by walk_at "sc"
abbrev dU:Stmt:=inClass (top 10) 0
theorem ni:aD ["self"] ["self"] (ai dU):=by walk_at "sc"
abbrev dW:Stmt:=inClass (top 10) 1
theorem nj:aD ["self","name","rows"] ["self","name","rows"] (ai dW):=by walk_at "sc"
abbrev b3:Stmt:=inClass (top 10) 2
theorem jg:aD ["self","name"] ["self","name"] (ai b3):=by walk_at "sc"
abbrev cK:Stmt:=inClass (top 10) 3
theorem jU:aD ["self","name","page"] ["self","name","page"] (ai cK):=by walk_at "sc"
abbrev bL:Stmt:=inClass (top 10) 4
theorem g7:aD ["self","name","page","row"] ["self","name","page","row"] (ai bL):=by walk_at "sc"
abbrev bV:Stmt:=inClass (top 10) 7
theorem iD:aD ["self","name"] ["self","name"] (ai bV):=by walk_at "sc"
abbrev bW:Stmt:=inClass (top 10) 8
theorem iE:aD ["self","name","page","size"] ["self","name","page"] (ai bW):=by walk_at "sc"
abbrev dX:Stmt:=top 12
theorem ym:aD ["row","cell","numbers"] ["row","cell","numbers"] (ai dX):=by walk_at "sc"
abbrev dw:Stmt:=inClass (top 14) 0
theorem k7:aD ["self","many"] ["self","many"] (ai dw):=by walk_at "sc"
abbrev dz:Stmt:=inClass (top 14) 1
theorem k8:aD ["self","frame","thing","row"] ["self","frame","thing","row"] (ai dz):=by walk_at "sc"
abbrev cL:Stmt:=inClass (top 14) 2
theorem jV:aD ["self","frame"] ["self","frame"] (ai cL):=by walk_at "sc"
abbrev bM:Stmt:=inClass (top 14) 3
theorem g8:aD ["self","frame"] ["self","frame"] (ai bM):=by walk_at "sc"
abbrev b4:Stmt:=inClass (top 14) 4
theorem jh:aD ["self","frame"] ["self","frame"] (ai b4):=by walk_at "sc"
abbrev b5:Stmt:=inClass (top 14) 5
theorem ji:aD ["self","frame","cell","numbers"] ["self","frame","cell","numbers"] (ai b5):=by walk_at "sc"
abbrev bH:Stmt:=inClass (top 14) 6
theorem gA:aD ["self","frame"] ["self","frame"] (ai bH):=by walk_at "sc"
abbrev bD:Stmt:=inClass (top 14) 7
theorem gg:aD ["self"] ["self"] (ai bD):=by walk_at "sc"
abbrev cM:Stmt:=inClass (top 14) 8
theorem jW:aD ["self","thing"] ["self","thing"] (ai cM):=by walk_at "sc"
abbrev b6:Stmt:=inClass (top 14) 9
theorem jj:aD ["self"] ["self"] (ai b6):=by walk_at "sc"
abbrev dY:Stmt:=inClass (top 16) 0
theorem nk:aD ["self","many"] ["self","many"] (ai dY):=by walk_at "sc"
abbrev cN:Stmt:=inClass (top 16) 1
theorem jX:aD ["self","sheet","row","place"] ["self","sheet","row"] (ai cN):=by walk_at "sc"
abbrev bX:Stmt:=inClass (top 16) 2
theorem iF:aD ["self","sheet"] ["self","sheet"] (ai bX):=by walk_at "sc"
abbrev bx:Stmt:=inClass (top 16) 3
theorem fO:aD ["self","sheet"] ["self","sheet"] (ai bx):=by walk_at "sc"
abbrev Dp:Stmt:=inClass (top 16) 4
theorem NF:aD ["self","sheet"] ["self","sheet"] (ai Dp):=by walk_at "sc"
abbrev b7:Stmt:=inClass (top 16) 5
theorem jk:aD ["self"] ["self"] (ai b7):=by walk_at "sc"
abbrev cO:Stmt:=inClass (top 16) 6
theorem jY:aD ["self"] ["self"] (ai cO):=by walk_at "sc"
abbrev dZ:Stmt:=inClass (top 18) 0
theorem nq:aD ["self","many","places"] ["self","many","places"] (ai dZ):=by walk_at "sc"
abbrev fT:Stmt:=top 19
theorem sG:aD ["thing"] ["thing"] (ai fT):=by walk_at "sc"
abbrev d7:Stmt:=top 20
theorem nt:aD ["store","frame"] ["store","frame"] (ai d7):=by walk_at "sc"
abbrev gR:Stmt:=top 21
theorem vD:aD ["store","frame","thing","row"] ["store","frame"] (ai gR):=by walk_at "sc"
abbrev d8:Stmt:=top 22
theorem nu:aD ["store","free","full","frame"] ["store"] (ai d8):=by walk_at "sc"
abbrev gS:Stmt:=top 23
theorem vE:aD ["store","thing"] ["store","thing"] (ai gS):=by walk_at "sc"
abbrev mw:Stmt:=top 24
theorem Dq:aD ["store","thing","frame","row"] ["store","thing"] (ai mw):=by walk_at "sc"
abbrev gT:Stmt:=top 26
theorem vF:aD ["store","most"] ["store"] (ai gT):=by walk_at "sc"
abbrev fc:Stmt:=top 27
theorem pD:aD ["store","row","frame","sheet"] ["store","row"] (ai fc):=by walk_at "sc"
abbrev fj:Stmt:=top 29
theorem BB:aD ["_law_script","_law_k"] ["_law_script","_law_k"] (ai fj):=by walk_at "sc"
abbrev gU:Stmt:=top 30
theorem vG:aD ["_law_found"] ["_law_found"] (ai gU):=by walk_at "sc"
abbrev fk:Stmt:=top 31
theorem nR:aD ["_law_found","_law_due","_law_k"] ["_law_found","_law_due"] (ai fk):=by walk_at "sc"
abbrev mz:Stmt:=top 32
theorem Dr:aD ["_law_cell","_law_k","_law_most","_law_big","_law_way"] ["_law_cell","_law_k"] (ai mz):=by walk_at "sc"
abbrev mD:Stmt:=top 33
theorem Ds:aD ["_law_cell"] ["_law_cell"] (ai mD):=by walk_at "sc"
abbrev jl:Stmt:=top 34
theorem AH:aD ["_law_cell","_law_turn","_law_letters","_law_size","_law_spot","_law_name_here","_law_k","_law_sign"] ["_law_cell","_law_turn"] (ai jl):=by walk_at "sc"
abbrev fm:Stmt:=top 35
theorem pF:aD ["_law_row_here","_law_cell","_law_nums","_law_due","_law_k"] ["_law_row_here","_law_cell","_law_nums"] (ai fm):=by walk_at "sc"
abbrev gW:Stmt:=top 36
theorem vH:aD ["_law_cell"] ["_law_cell"] (ai gW):=by walk_at "sc"
abbrev jm:Stmt:=top 37
theorem AI:aD ["_law_spots","_law_marks","_law_shelf","_law_pointer","_law_found","_law_may","_law_far","_law_marked","_law_frame","_law_ahead"] ["_law_spots","_law_marks","_law_shelf","_law_pointer","_law_found"] (ai jm):=by walk_at "sc"
abbrev d9:Stmt:=top 38
theorem nv:aD ["_law_store","_law_spots","_law_marks","_law_shelf","_law_pointer"] ["_law_store","_law_spots","_law_marks","_law_shelf","_law_pointer"] (ai d9):=by walk_at "sc"
abbrev jn:Stmt:=top 39
theorem AJ:aD ["_law_store","_law_spots","_law_marks","_law_rows","_law_cell","_law_spot","_law_frame","_law_at","_law_nums"] ["_law_store","_law_spots","_law_marks","_law_rows","_law_cell"] (ai jn):=by walk_at "sc"
abbrev dB:Stmt:=top 40
theorem k9:aD ["_law_store","_law_spots","_law_shelf","_law_thing"] ["_law_store","_law_spots","_law_shelf","_law_thing"] (ai dB):=by walk_at "sc"
abbrev jo:Stmt:=top 41
theorem AK:aD ["_law_store","_law_spots","_law_shelf","_law_rows","_law_cell","_law_spot","_law_lying","_law_waiting","_law_made","_law_thing"] ["_law_store","_law_spots","_law_shelf","_law_rows","_law_cell"] (ai jo):=by walk_at "sc"
abbrev mE:Stmt:=top 42
theorem Dt:aD ["_law_store","_law_spots","_law_marks","_law_shelf","_law_rows","_law_pointer","_law_before","_law_found","_law_gone"] ["_law_store","_law_spots","_law_marks","_law_shelf","_law_rows","_law_pointer"] (ai mE):=by walk_at "sc"
abbrev gX:Stmt:=top 43
theorem vI:aD ["_law_store","_law_spots","_law_shelf","_law_rows","_law_script","_law_name_here","_law_pages","_law_made","_law_page","_law_many","_law_k","_law_cell"] ["_law_store","_law_spots","_law_shelf","_law_rows","_law_script"] (ai gX):=by walk_at "sc"
abbrev vJ:Stmt:=top 44
theorem Q9:aD ["_law_script","_law_many","_law_places","_law_store","_law_spots","_law_marks","_law_shelf","_law_rows","_law_pointer","_law_cell","_law_thing"] ["_law_script"] (ai vJ):=by walk_at "sc"
structure Txt (K:PySem.W.Frag) (mg:Str->Option Value) (cU cA cB cC cT cF cD cS cI:Addr):Prop where
 Full:Exc K mg "Full" cU
 Ra:Exc K mg "NoFile" cA
 Rb:Exc K mg "NoPage" cB
 Taken:Exc K mg "Taken" cC
 bz:sZ K mg "Store" cT
 cg:cG K cT "frames"
 lq:cG K cT "dial"
 jJ:cG K cT "shelf"
 pG:cG K cT "files"
 qA:cG K cT "holders"
 i6:cG K cT "sheets_made"
 NG:nN K cT "Store.__init__" dZ
 Frames:sZ K mg "Frames" cF
 nS:cG K cF "held"
 qB:cG K cF "rows"
 lu:cG K cF "soiled"
 KD:nN K cF "Frames.__init__" dw
 yo:bF K cF "fill" "Frames.fill" dz
 vK:bF K cF "empty" "Frames.empty" cL
 pH:bF K cF "thing_in" "Frames.thing_in" bM
 tw:bF K cF "row_in" "Frames.row_in" b4
 tD:bF K cF "put_in" "Frames.put_in" b5
 nU:bF K cF "is_soiled" "Frames.is_soiled" bH
 mL:bF K cF "least_free" "Frames.least_free" bD
 vL:bF K cF "where" "Frames.where" cM
 tE:bF K cF "things" "Frames.things" b6
 jK:sZ K mg "Dial" cD
 iG:cG K cD "stands_at"
 g9:cG K cD "marked"
 Rc:nN K cD "Dial.__init__" eW
 vM:bF K cD "pointer" "Dial.pointer" cJ
 BC:bF K cD "touch" "Dial.touch" dQ
 BD:bF K cD "clear" "Dial.clear" dR
 BE:bF K cD "marks" "Dial.marks" dS
 yq:bF K cD "choose" "Dial.choose" dj
 fz:sZ K mg "Shelf" cS
 ia:cG K cS "placed"
 fB:cG K cS "row_by_sheet"
 NH:nN K cS "Shelf.__init__" dY
 vN:bF K cS "put_on" "Shelf.put_on" cN
 qC:bF K cS "take_off" "Shelf.take_off" bX
 lz:bF K cS "row_of_sheet" "Shelf.row_of_sheet" bx
 tF:bF K cS "is_full" "Shelf.is_full" b7
 vO:bF K cS "sheets" "Shelf.sheets" cO
 gB:sZ K mg "Files" cI
 bY:cG K cI "rows_by_name"
 NI:nN K cI "Files.__init__" dU
 BF:bF K cI "make" "Files.make" dW
 tG:bF K cI "size_of" "Files.size_of" b3
 vP:bF K cI "row_at" "Files.row_at" cK
 pI:bF K cI "store_row" "Files.store_row" bL
 qD:bF K cI "ask_name" "Files.ask_name" bV
 qE:bF K cI "ask_page" "Files.ask_page" bW
 BG:Def K mg "with_cells" dX
 ET:Def K mg "is_sheet" fT
 BH:Def K mg "free_frame" d7
 HX:Def K mg "put_out" gR
 BI:Def K mg "have_frame" d8
 HY:Def K mg "fetched" gS
 NJ:Def K mg "bring" mw
 HZ:Def K mg "room_of" gT
 Du:Def K mg "new_sheet" fc
 Dv:Def K mg "_law_cell_at" fj
 Ia:Def K mg "_law_whole" gU
 Ic:Def K mg "_law_alike" fk
 NK:Def K mg "_law_num" mz
 NL:Def K mg "_law_row" mD
 KG:Def K mg "_law_name" jl
 Dw:Def K mg "_law_laid_in" fm
 Ie:Def K mg "_law_sizes" gW
 KH:Def K mg "_law_goes" jm
 BJ:Def K mg "_law_is_store" d9
 KI:Def K mg "_law_stir" jn
 yu:Def K mg "_law_row_there" dB
 KJ:Def K mg "_law_fill" jo
 NO:Def K mg "_law_had" mE
 Ig:Def K mg "_law_begun" gX
 Uw:Def K mg "law" vJ
theorem EG {K:PySem.W.Frag} {h:Heap} {mg:Str->Option Value} {cU cA cB cC cT cF cD cS cI:Addr} {iI:Addr} {yv:Value} {yw yx:Option Addr} {vQ:Array (Option Value)} {yy vR yz lA yC:Value} {gJ:Addr} {vS:Value} {vU vV:Option Addr} {tH:Array (Option Value)} {vW tK vX jZ vY:Value} {gK:Addr} {vZ:Value} {v5 v7:Option Addr} {tL:Array (Option Value)} {wc tM we j3 wg:Value} {fX:Addr} {tN:Value} {tO tP:Option Addr} {qF:Array (Option Value)} {tQ qG tR jq tS:Value} {ef:Addr} {nV:Value} {nW nX:Option Addr} {mO:Array (Option Value)} {nY mP nZ gC n5:Value} {fC:Addr} {qH:Value} {qI qJ:Option Addr} {pJ:Array (Option Value)} {qK pK qL iJ qM:Value} {fD:Addr} {qN:Value} {qO qP:Option Addr} {pL:Array (Option Value)} {qQ pM qR iK qS:Value} {dJ:Addr} {mQ:Value} {mR mT:Option Addr} {lB:Array (Option Value)} {mU lC mV gi mW:Value} {cW:Addr} {lD:Value} {lE lF:Option Addr} {kj:Array (Option Value)} {lG ko lH fP lI:Value} {fY:Addr} {tT:Value} {tU tV:Option Addr} {qT:Array (Option Value)} {tW qU tX jr tY:Value} {fE:Addr} {qV:Value} {qW qX:Option Addr} {pN:Array (Option Value)} {qY pO qZ iL q8:Value} {jL:Addr} {BK:Value} {BL BN:Option Addr} {yD:Array (Option Value)} {BO yE BP ny BQ:Value} {fZ:Addr} {tZ:Value} {t6 t7:Option Addr} {rj:Array (Option Value)} {t8 rm t9 jt ua:Value} {iM:Addr} {yF:Value} {yG yH:Option Addr} {wj:Array (Option Value)} {yI wm yJ lJ yK:Value} {iN:Addr} {yL:Value} {yM yN:Option Addr} {wo:Array (Option Value)} {yO wu yP lK yQ:Value} {iO:Addr} {yR:Value} {yS yT:Option Addr} {wz:Array (Option Value)} {yU wA yV lM yW:Value} {gM:Addr} {wB:Value} {wC wD:Option Addr} {uc:Array (Option Value)} {wF ud wG j4 wH:Value} {iP:Addr} {yX:Value} {yY yZ:Option Addr} {wI:Array (Option Value)} {za wJ zb lN zc:Value} {f7:Addr} {ue:Value} {uf ug:Option Addr} {rq:Array (Option Value)} {uh rz um ju uo:Value} {eL:Addr} {pP:Value} {pQ pR:Option Addr} {n6:Array (Option Value)} {pS n8 pT ic pU:Value} {cz:Addr} {kr:Value} {ku kD:Option Addr} {jM:Array (Option Value)} {kE jN kF fF kG:Value} {fG:Addr} {rA:Value} {rB rC:Option Addr} {pV:Array (Option Value)} {rE pW rG iQ rH:Value} {f9:Addr} {uq:Value} {ur uu:Option Addr} {rJ:Array (Option Value)} {uv rK uw jv ux:Value} {iR:Addr} {zd:Value} {ze zf:Option Addr} {wK:Array (Option Value)} {zg wL zh lO zj:Value} {iS:Addr} {zk:Value} {zl zm:Option Addr} {wM:Array (Option Value)} {zo wN zp lP zq:Value} {fH:Addr} {rL:Value} {rM rN:Option Addr} {pX:Array (Option Value)} {rO pY rP iT rQ:Value} {gb:Addr} {uy:Value} {uz uA:Option Addr} {rR:Array (Option Value)} {uB rT uC jw uD:Value} {eg:Addr} {oh:Value} {oi oj:Option Addr} {mX:Array (Option Value)} {oq mY ou gD ow:Value} {eN:Addr} {pZ:Value} {p5 p6:Option Addr} {oz:Array (Option Value)} {p7 oA p8 ig p9:Value} {eO:Addr} {qa:Value} {qb qc:Option Addr} {oB:Array (Option Value)} {qd oE qe iu qf:Value} {lQ:Addr} {zu:Value} {zv zw:Option Addr} {wO:Array (Option Value)} {zx wQ zy lR zA:Value} {rV:Addr} {Dy:Value} {Dz DA:Option Addr} {BR:Array (Option Value)} {DB BS DC qg DE:Value} {lS:Addr} {zB:Value} {zC zD:Option Addr} {wR:Array (Option Value)} {zE wU zF lT zG:Value} {wV:Addr} {EU:Value} {EV EW:Option Addr} {DF:Array (Option Value)} {EX DG EY sH EZ:Value} {lU:Addr} {zH:Value} {zI zJ:Option Addr} {wW:Array (Option Value)} {zK wX zL lV zM:Value} {wY:Addr} {E1:Value} {E2 E3:Option Addr} {DH:Array (Option Value)} {E4 DI E5 sI E6:Value} {E7:Addr} {KL:Value} {KN KO:Option Addr} {Ih:Array (Option Value)} {KP Ii KQ AL KR:Value} {wZ:Addr} {E8:Value} {E9 Fb:Option Addr} {DJ:Array (Option Value)} {Fc DK Fd sJ Fe:Value} {oF:Addr} {BU:Value} {BV BW:Option Addr} {zN:Array (Option Value)} {BX zO BY nA BZ:Value} {oG:Addr} {B0:Value} {B3 B4:Option Addr} {zP:Array (Option Value)} {B5 zQ B6 nB B7:Value} {w4:Addr} {Ff:Value} {Fg Fi:Option Addr} {DL:Array (Option Value)} {Fj DM Fl sL Fo:Value} {w6:Addr} {Fp:Value} {Fq Ft:Option Addr} {DN:Array (Option Value)} {Fv DO Fw sM Fx:Value} {Fy:Addr} {KS:Value} {KU KW:Option Addr} {Ij:Array (Option Value)} {KY Ik KZ AM K0:Value} {Fz:Addr} {K3:Value} {K4 K5:Option Addr} {Il:Array (Option Value)} {K6 Im K7 AN K8:Value} {B8:Addr} {Io:Value} {Ip Iq:Option Addr} {FA:Array (Option Value)} {Ir FD Iu xg Iv:Value} {oH:Addr} {B9:Value} {Ca Cb:Option Addr} {zR:Array (Option Value)} {Cc zS Cd nC Ce:Value} {xh:Addr} {FE:Value} {FF FG:Option Addr} {DP:Array (Option Value)} {FI DQ FJ sN FL:Value} {Cf:Addr} {Iw:Value} {Iz IA:Option Addr} {FN:Array (Option Value)} {IB FO IC xj ID:Value} {lW:Addr} {zT:Value} {zU zV:Option Addr} {xm:Array (Option Value)} {zW xo zX lX zY:Value} {Cg:Addr} {IE:Value} {IF IG:Option Addr} {FP:Array (Option Value)} {II FQ IJ xq IK:Value} {jO:Addr} {xu:Value} {xw xx:Option Addr} {uE:Array (Option Value)} {xy uF xA j5 xB:Value} {Ci:Addr} {IL:Value} {IM IP:Option Addr} {FT:Array (Option Value)} {IQ FU IS xC IT:Value} {FW:Addr} {K9:Value} {La Lb:Option Addr} {IU:Array (Option Value)} {Ld IV Le AO Lf:Value} {xD:Addr} {FY:Value} {FZ F0:Option Addr} {DR:Array (Option Value)} {F1 DS F2 sO F3:Value} {Rf:Addr} {Rg:Value} {Rh Ri:Option Addr} {NP:Array (Option Value)} {Rj NQ Rk GL Rl:Value} (X:K.In h) (G:h.Ns mainGlobals mg)
  (z1:PySem.W.nsIn K mainGlobals "Full" = some (some (.ref cU)))
  (z2:PySem.W.excIn K cU [.type "ValueError",.type "Exception",.type "BaseException",.type "object"] "ValueError.__new__" = true)
  (z3:PySem.W.nsIn K mainGlobals "NoFile" = some (some (.ref cA)))
  (z4:PySem.W.excIn K cA [.type "ValueError",.type "Exception",.type "BaseException",.type "object"] "ValueError.__new__" = true)
  (z5:PySem.W.nsIn K mainGlobals "NoPage" = some (some (.ref cB)))
  (z6:PySem.W.excIn K cB [.type "ValueError",.type "Exception",.type "BaseException",.type "object"] "ValueError.__new__" = true)
  (z7:PySem.W.nsIn K mainGlobals "Taken" = some (some (.ref cC)))
  (z8:PySem.W.excIn K cC [.type "ValueError",.type "Exception",.type "BaseException",.type "object"] "ValueError.__new__" = true)
  (z9:PySem.W.nsIn K mainGlobals "Store" = some (some (.ref cT)))
  (Vp:PySem.W.plainGet K cT Str.empty=true)
  (Vq:PySem.W.hasDictIn K cT=true)
  (Vr:PySem.W.plainOver K cT=true)
  (Vs:PySem.W.findIn K (.ref cT) "__setattr__" = some (some (.builtin "object.__setattr__")))
  (Vt:PySem.W.findIn K (.ref cT) "frames" = some none)
  (Vu:PySem.W.findIn K (.ref cT) "dial" = some none)
  (Vv:PySem.W.findIn K (.ref cT) "shelf" = some none)
  (z17:PySem.W.findIn K (.ref cT) "files" = some none)
  (z18:PySem.W.findIn K (.ref cT) "holders" = some none)
  (z19:PySem.W.findIn K (.ref cT) "sheets_made" = some none)
  (z20:PySem.W.makesIn K cT=true)
  (z21:PySem.W.findIn K (.ref cT) "__init__" = some (some (.ref iI)))
  (z22:PySem.W.isFn K (.ref iI)=true)
  (z23:PySem.W.keepIn K (.ref cT)=true)
  (z24:K.lookup iI=some ⟨yv,yw,.func (PySem.W.fnOf "__init__" "Store.__init__" (aA dZ) (ay dZ) (ai dZ) .none yy vR yz yx lA yC),vQ⟩)
  (z25:PySem.W.codeIn K lA "Store.__init__" = true)
  (z26:PySem.W.keepIn K (.ref iI)=true)
  (z27:PySem.W.nsIn K mainGlobals "Frames" = some (some (.ref cF)))
  (z28:PySem.W.plainGet K cF Str.empty=true)
  (z29:PySem.W.hasDictIn K cF=true)
  (z30:PySem.W.plainOver K cF=true)
  (z31:PySem.W.findIn K (.ref cF) "__setattr__" = some (some (.builtin "object.__setattr__")))
  (z32:PySem.W.findIn K (.ref cF) "held" = some none)
  (z33:PySem.W.findIn K (.ref cF) "rows" = some none)
  (z34:PySem.W.findIn K (.ref cF) "soiled" = some none)
  (z35:PySem.W.makesIn K cF=true)
  (z36:PySem.W.findIn K (.ref cF) "__init__" = some (some (.ref gJ)))
  (z37:PySem.W.isFn K (.ref gJ)=true)
  (z38:PySem.W.keepIn K (.ref cF)=true)
  (z39:K.lookup gJ=some ⟨vS,vU,.func (PySem.W.fnOf "__init__" "Frames.__init__" (aA dw) (ay dw) (ai dw) .none vW tK vX vV jZ vY),tH⟩)
  (z40:PySem.W.codeIn K jZ "Frames.__init__" = true)
  (z41:PySem.W.keepIn K (.ref gJ)=true)
  (z42:PySem.W.findIn K (.ref cF) "fill" = some (some (.ref gK)))
  (z43:PySem.W.isFn K (.ref gK)=true)
  (z44:K.lookup gK=some ⟨vZ,v5,.func (PySem.W.fnOf "fill" "Frames.fill" (aA dz) (ay dz) (ai dz) .none wc tM we v7 j3 wg),tL⟩)
  (z45:PySem.W.codeIn K j3 "Frames.fill" = true)
  (z46:PySem.W.keepIn K (.ref gK)=true)
  (z47:PySem.W.findIn K (.ref cF) "empty" = some (some (.ref fX)))
  (z48:PySem.W.isFn K (.ref fX)=true)
  (z49:K.lookup fX=some ⟨tN,tO,.func (PySem.W.fnOf "empty" "Frames.empty" (aA cL) (ay cL) (ai cL) .none tQ qG tR tP jq tS),qF⟩)
  (z50:PySem.W.codeIn K jq "Frames.empty" = true)
  (z51:PySem.W.keepIn K (.ref fX)=true)
  (z52:PySem.W.findIn K (.ref cF) "thing_in" = some (some (.ref ef)))
  (z53:PySem.W.isFn K (.ref ef)=true)
  (z54:K.lookup ef=some ⟨nV,nW,.func (PySem.W.fnOf "thing_in" "Frames.thing_in" (aA bM) (ay bM) (ai bM) .none nY mP nZ nX gC n5),mO⟩)
  (z55:PySem.W.codeIn K gC "Frames.thing_in" = true)
  (z56:PySem.W.keepIn K (.ref ef)=true)
  (z57:PySem.W.findIn K (.ref cF) "row_in" = some (some (.ref fC)))
  (z58:PySem.W.isFn K (.ref fC)=true)
  (z59:K.lookup fC=some ⟨qH,qI,.func (PySem.W.fnOf "row_in" "Frames.row_in" (aA b4) (ay b4) (ai b4) .none qK pK qL qJ iJ qM),pJ⟩)
  (z60:PySem.W.codeIn K iJ "Frames.row_in" = true)
  (z61:PySem.W.keepIn K (.ref fC)=true)
  (z62:PySem.W.findIn K (.ref cF) "put_in" = some (some (.ref fD)))
  (z63:PySem.W.isFn K (.ref fD)=true)
  (z64:K.lookup fD=some ⟨qN,qO,.func (PySem.W.fnOf "put_in" "Frames.put_in" (aA b5) (ay b5) (ai b5) .none qQ pM qR qP iK qS),pL⟩)
  (z65:PySem.W.codeIn K iK "Frames.put_in" = true)
  (z66:PySem.W.keepIn K (.ref fD)=true)
  (z67:PySem.W.findIn K (.ref cF) "is_soiled" = some (some (.ref dJ)))
  (z68:PySem.W.isFn K (.ref dJ)=true)
  (z69:K.lookup dJ=some ⟨mQ,mR,.func (PySem.W.fnOf "is_soiled" "Frames.is_soiled" (aA bH) (ay bH) (ai bH) .none mU lC mV mT gi mW),lB⟩)
  (z70:PySem.W.codeIn K gi "Frames.is_soiled" = true)
  (z71:PySem.W.keepIn K (.ref dJ)=true)
  (z72:PySem.W.findIn K (.ref cF) "least_free" = some (some (.ref cW)))
  (z73:PySem.W.isFn K (.ref cW)=true)
  (z74:K.lookup cW=some ⟨lD,lE,.func (PySem.W.fnOf "least_free" "Frames.least_free" (aA bD) (ay bD) (ai bD) .none lG ko lH lF fP lI),kj⟩)
  (z75:PySem.W.codeIn K fP "Frames.least_free" = true)
  (z76:PySem.W.keepIn K (.ref cW)=true)
  (z77:PySem.W.findIn K (.ref cF) "where" = some (some (.ref fY)))
  (z78:PySem.W.isFn K (.ref fY)=true)
  (z79:K.lookup fY=some ⟨tT,tU,.func (PySem.W.fnOf "where" "Frames.where" (aA cM) (ay cM) (ai cM) .none tW qU tX tV jr tY),qT⟩)
  (z80:PySem.W.codeIn K jr "Frames.where" = true)
  (z81:PySem.W.keepIn K (.ref fY)=true)
  (z82:PySem.W.findIn K (.ref cF) "things" = some (some (.ref fE)))
  (z83:PySem.W.isFn K (.ref fE)=true)
  (z84:K.lookup fE=some ⟨qV,qW,.func (PySem.W.fnOf "things" "Frames.things" (aA b6) (ay b6) (ai b6) .none qY pO qZ qX iL q8),pN⟩)
  (z85:PySem.W.codeIn K iL "Frames.things" = true)
  (z86:PySem.W.keepIn K (.ref fE)=true)
  (z87:PySem.W.nsIn K mainGlobals "Dial" = some (some (.ref cD)))
  (z88:PySem.W.plainGet K cD Str.empty=true)
  (z89:PySem.W.hasDictIn K cD=true)
  (z90:PySem.W.plainOver K cD=true)
  (z91:PySem.W.findIn K (.ref cD) "__setattr__" = some (some (.builtin "object.__setattr__")))
  (z92:PySem.W.findIn K (.ref cD) "stands_at" = some none)
  (z93:PySem.W.findIn K (.ref cD) "marked" = some none)
  (z94:PySem.W.makesIn K cD=true)
  (z95:PySem.W.findIn K (.ref cD) "__init__" = some (some (.ref jL)))
  (z96:PySem.W.isFn K (.ref jL)=true)
  (z97:PySem.W.keepIn K (.ref cD)=true)
  (z98:K.lookup jL=some ⟨BK,BL,.func (PySem.W.fnOf "__init__" "Dial.__init__" (aA eW) (ay eW) (ai eW) .none BO yE BP BN ny BQ),yD⟩)
  (z99:PySem.W.codeIn K ny "Dial.__init__" = true)
  (Xq:PySem.W.keepIn K (.ref jL)=true)
  (Xr:PySem.W.findIn K (.ref cD) "pointer" = some (some (.ref fZ)))
  (Xs:PySem.W.isFn K (.ref fZ)=true)
  (Xu:K.lookup fZ=some ⟨tZ,t6,.func (PySem.W.fnOf "pointer" "Dial.pointer" (aA cJ) (ay cJ) (ai cJ) .none t8 rm t9 t7 jt ua),rj⟩)
  (Xv:PySem.W.codeIn K jt "Dial.pointer" = true)
  (Xw:PySem.W.keepIn K (.ref fZ)=true)
  (Xx:PySem.W.findIn K (.ref cD) "touch" = some (some (.ref iM)))
  (Xy:PySem.W.isFn K (.ref iM)=true)
  (Xz:K.lookup iM=some ⟨yF,yG,.func (PySem.W.fnOf "touch" "Dial.touch" (aA dQ) (ay dQ) (ai dQ) .none yI wm yJ yH lJ yK),wj⟩)
  (XA:PySem.W.codeIn K lJ "Dial.touch" = true)
  (XD:PySem.W.keepIn K (.ref iM)=true)
  (XE:PySem.W.findIn K (.ref cD) "clear" = some (some (.ref iN)))
  (XF:PySem.W.isFn K (.ref iN)=true)
  (XG:K.lookup iN=some ⟨yL,yM,.func (PySem.W.fnOf "clear" "Dial.clear" (aA dR) (ay dR) (ai dR) .none yO wu yP yN lK yQ),wo⟩)
  (XH:PySem.W.codeIn K lK "Dial.clear" = true)
  (XI:PySem.W.keepIn K (.ref iN)=true)
  (XJ:PySem.W.findIn K (.ref cD) "marks" = some (some (.ref iO)))
  (XM:PySem.W.isFn K (.ref iO)=true)
  (XN:K.lookup iO=some ⟨yR,yS,.func (PySem.W.fnOf "marks" "Dial.marks" (aA dS) (ay dS) (ai dS) .none yU wA yV yT lM yW),wz⟩)
  (XO:PySem.W.codeIn K lM "Dial.marks" = true)
  (XQ:PySem.W.keepIn K (.ref iO)=true)
  (XR:PySem.W.findIn K (.ref cD) "choose" = some (some (.ref gM)))
  (XS:PySem.W.isFn K (.ref gM)=true)
  (XT:K.lookup gM=some ⟨wB,wC,.func (PySem.W.fnOf "choose" "Dial.choose" (aA dj) (ay dj) (ai dj) .none wF ud wG wD j4 wH),uc⟩)
  (XU:PySem.W.codeIn K j4 "Dial.choose" = true)
  (XW:PySem.W.keepIn K (.ref gM)=true)
  (XX:PySem.W.nsIn K mainGlobals "Shelf" = some (some (.ref cS)))
  (XY:PySem.W.plainGet K cS Str.empty=true)
  (XZ:PySem.W.hasDictIn K cS=true)
  (X0:PySem.W.plainOver K cS=true)
  (X4:PySem.W.findIn K (.ref cS) "__setattr__" = some (some (.builtin "object.__setattr__")))
  (X5:PySem.W.findIn K (.ref cS) "placed" = some none)
  (X6:PySem.W.findIn K (.ref cS) "row_by_sheet" = some none)
  (X7:PySem.W.makesIn K cS=true)
  (X8:PySem.W.findIn K (.ref cS) "__init__" = some (some (.ref iP)))
  (Yb:PySem.W.isFn K (.ref iP)=true)
  (Yc:PySem.W.keepIn K (.ref cS)=true)
  (Yd:K.lookup iP=some ⟨yX,yY,.func (PySem.W.fnOf "__init__" "Shelf.__init__" (aA dY) (ay dY) (ai dY) .none za wJ zb yZ lN zc),wI⟩)
  (Ye:PySem.W.codeIn K lN "Shelf.__init__" = true)
  (Yg:PySem.W.keepIn K (.ref iP)=true)
  (Yh:PySem.W.findIn K (.ref cS) "put_on" = some (some (.ref f7)))
  (Yi:PySem.W.isFn K (.ref f7)=true)
  (Yj:K.lookup f7=some ⟨ue,uf,.func (PySem.W.fnOf "put_on" "Shelf.put_on" (aA cN) (ay cN) (ai cN) .none uh rz um ug ju uo),rq⟩)
  (Yk:PySem.W.codeIn K ju "Shelf.put_on" = true)
  (Yl:PySem.W.keepIn K (.ref f7)=true)
  (Ym:PySem.W.findIn K (.ref cS) "take_off" = some (some (.ref eL)))
  (Yn:PySem.W.isFn K (.ref eL)=true)
  (Yo:K.lookup eL=some ⟨pP,pQ,.func (PySem.W.fnOf "take_off" "Shelf.take_off" (aA bX) (ay bX) (ai bX) .none pS n8 pT pR ic pU),n6⟩)
  (Yp:PySem.W.codeIn K ic "Shelf.take_off" = true)
  (Yq:PySem.W.keepIn K (.ref eL)=true)
  (Yr:PySem.W.findIn K (.ref cS) "row_of_sheet" = some (some (.ref cz)))
  (Ys:PySem.W.isFn K (.ref cz)=true)
  (Yt:K.lookup cz=some ⟨kr,ku,.func (PySem.W.fnOf "row_of_sheet" "Shelf.row_of_sheet" (aA bx) (ay bx) (ai bx) .none kE jN kF kD fF kG),jM⟩)
  (Yu:PySem.W.codeIn K fF "Shelf.row_of_sheet" = true)
  (Yv:PySem.W.keepIn K (.ref cz)=true)
  (Yw:PySem.W.findIn K (.ref cS) "is_full" = some (some (.ref fG)))
  (Yx:PySem.W.isFn K (.ref fG)=true)
  (Yy:K.lookup fG=some ⟨rA,rB,.func (PySem.W.fnOf "is_full" "Shelf.is_full" (aA b7) (ay b7) (ai b7) .none rE pW rG rC iQ rH),pV⟩)
  (Yz:PySem.W.codeIn K iQ "Shelf.is_full" = true)
  (YA:PySem.W.keepIn K (.ref fG)=true)
  (YB:PySem.W.findIn K (.ref cS) "sheets" = some (some (.ref f9)))
  (YC:PySem.W.isFn K (.ref f9)=true)
  (YD:K.lookup f9=some ⟨uq,ur,.func (PySem.W.fnOf "sheets" "Shelf.sheets" (aA cO) (ay cO) (ai cO) .none uv rK uw uu jv ux),rJ⟩)
  (YE:PySem.W.codeIn K jv "Shelf.sheets" = true)
  (YF:PySem.W.keepIn K (.ref f9)=true)
  (YG:PySem.W.nsIn K mainGlobals "Files" = some (some (.ref cI)))
  (YH:PySem.W.plainGet K cI Str.empty=true)
  (YI:PySem.W.hasDictIn K cI=true)
  (YJ:PySem.W.plainOver K cI=true)
  (YK:PySem.W.findIn K (.ref cI) "__setattr__" = some (some (.builtin "object.__setattr__")))
  (YL:PySem.W.findIn K (.ref cI) "rows_by_name" = some none)
  (YM:PySem.W.makesIn K cI=true)
  (YN:PySem.W.findIn K (.ref cI) "__init__" = some (some (.ref iR)))
  (YO:PySem.W.isFn K (.ref iR)=true)
  (YQ:PySem.W.keepIn K (.ref cI)=true)
  (YR:K.lookup iR=some ⟨zd,ze,.func (PySem.W.fnOf "__init__" "Files.__init__" (aA dU) (ay dU) (ai dU) .none zg wL zh zf lO zj),wK⟩)
  (YS:PySem.W.codeIn K lO "Files.__init__" = true)
  (YT:PySem.W.keepIn K (.ref iR)=true)
  (YU:PySem.W.findIn K (.ref cI) "make" = some (some (.ref iS)))
  (YV:PySem.W.isFn K (.ref iS)=true)
  (YW:K.lookup iS=some ⟨zk,zl,.func (PySem.W.fnOf "make" "Files.make" (aA dW) (ay dW) (ai dW) .none zo wN zp zm lP zq),wM⟩)
  (YX:PySem.W.codeIn K lP "Files.make" = true)
  (YY:PySem.W.keepIn K (.ref iS)=true)
  (YZ:PySem.W.findIn K (.ref cI) "size_of" = some (some (.ref fH)))
  (Y0:PySem.W.isFn K (.ref fH)=true)
  (Y3:K.lookup fH=some ⟨rL,rM,.func (PySem.W.fnOf "size_of" "Files.size_of" (aA b3) (ay b3) (ai b3) .none rO pY rP rN iT rQ),pX⟩)
  (Y4:PySem.W.codeIn K iT "Files.size_of" = true)
  (Y5:PySem.W.keepIn K (.ref fH)=true)
  (Y6:PySem.W.findIn K (.ref cI) "row_at" = some (some (.ref gb)))
  (Y7:PySem.W.isFn K (.ref gb)=true)
  (Y8:K.lookup gb=some ⟨uy,uz,.func (PySem.W.fnOf "row_at" "Files.row_at" (aA cK) (ay cK) (ai cK) .none uB rT uC uA jw uD),rR⟩)
  (Y9:PySem.W.codeIn K jw "Files.row_at" = true)
  (Za:PySem.W.keepIn K (.ref gb)=true)
  (Zb:PySem.W.findIn K (.ref cI) "store_row" = some (some (.ref eg)))
  (Zc:PySem.W.isFn K (.ref eg)=true)
  (Zd:K.lookup eg=some ⟨oh,oi,.func (PySem.W.fnOf "store_row" "Files.store_row" (aA bL) (ay bL) (ai bL) .none oq mY ou oj gD ow),mX⟩)
  (Ze:PySem.W.codeIn K gD "Files.store_row" = true)
  (Zf:PySem.W.keepIn K (.ref eg)=true)
  (Zg:PySem.W.findIn K (.ref cI) "ask_name" = some (some (.ref eN)))
  (Zh:PySem.W.isFn K (.ref eN)=true)
  (Zi:K.lookup eN=some ⟨pZ,p5,.func (PySem.W.fnOf "ask_name" "Files.ask_name" (aA bV) (ay bV) (ai bV) .none p7 oA p8 p6 ig p9),oz⟩)
  (Zj:PySem.W.codeIn K ig "Files.ask_name" = true)
  (Zk:PySem.W.keepIn K (.ref eN)=true)
  (Zl:PySem.W.findIn K (.ref cI) "ask_page" = some (some (.ref eO)))
  (Zm:PySem.W.isFn K (.ref eO)=true)
  (Zn:K.lookup eO=some ⟨qa,qb,.func (PySem.W.fnOf "ask_page" "Files.ask_page" (aA bW) (ay bW) (ai bW) .none qd oE qe qc iu qf),oB⟩)
  (Zo:PySem.W.codeIn K iu "Files.ask_page" = true)
  (Zp:PySem.W.keepIn K (.ref eO)=true)
  (Zq:PySem.W.nsIn K mainGlobals "with_cells" = some (some (.ref lQ)))
  (Zr:K.lookup lQ=some ⟨zu,zv,.func (PySem.W.fnOf "with_cells" "with_cells" (aA dX) (ay dX) (ai dX) .none zx wQ zy zw lR zA),wO⟩)
  (Zs:PySem.W.codeIn K lR "with_cells" = true)
  (Zt:PySem.W.keepIn K (.ref lQ)=true)
  (Zu:PySem.W.nsIn K mainGlobals "is_sheet" = some (some (.ref rV)))
  (Zv:K.lookup rV=some ⟨Dy,Dz,.func (PySem.W.fnOf "is_sheet" "is_sheet" (aA fT) (ay fT) (ai fT) .none DB BS DC DA qg DE),BR⟩)
  (Zw:PySem.W.codeIn K qg "is_sheet" = true)
  (Zx:PySem.W.keepIn K (.ref rV)=true)
  (Zy:PySem.W.nsIn K mainGlobals "free_frame" = some (some (.ref lS)))
  (Zz:K.lookup lS=some ⟨zB,zC,.func (PySem.W.fnOf "free_frame" "free_frame" (aA d7) (ay d7) (ai d7) .none zE wU zF zD lT zG),wR⟩)
  (ZA:PySem.W.codeIn K lT "free_frame" = true)
  (ZC:PySem.W.keepIn K (.ref lS)=true)
  (ZD:PySem.W.nsIn K mainGlobals "put_out" = some (some (.ref wV)))
  (ZE:K.lookup wV=some ⟨EU,EV,.func (PySem.W.fnOf "put_out" "put_out" (aA gR) (ay gR) (ai gR) .none EX DG EY EW sH EZ),DF⟩)
  (ZF:PySem.W.codeIn K sH "put_out" = true)
  (ZG:PySem.W.keepIn K (.ref wV)=true)
  (ZH:PySem.W.nsIn K mainGlobals "have_frame" = some (some (.ref lU)))
  (ZI:K.lookup lU=some ⟨zH,zI,.func (PySem.W.fnOf "have_frame" "have_frame" (aA d8) (ay d8) (ai d8) .none zK wX zL zJ lV zM),wW⟩)
  (ZJ:PySem.W.codeIn K lV "have_frame" = true)
  (ZK:PySem.W.keepIn K (.ref lU)=true)
  (ZL:PySem.W.nsIn K mainGlobals "fetched" = some (some (.ref wY)))
  (ZM:K.lookup wY=some ⟨E1,E2,.func (PySem.W.fnOf "fetched" "fetched" (aA gS) (ay gS) (ai gS) .none E4 DI E5 E3 sI E6),DH⟩)
  (ZN:PySem.W.codeIn K sI "fetched" = true)
  (ZO:PySem.W.keepIn K (.ref wY)=true)
  (ZP:PySem.W.nsIn K mainGlobals "bring" = some (some (.ref E7)))
  (ZQ:K.lookup E7=some ⟨KL,KN,.func (PySem.W.fnOf "bring" "bring" (aA mw) (ay mw) (ai mw) .none KP Ii KQ KO AL KR),Ih⟩)
  (ZR:PySem.W.codeIn K AL "bring" = true)
  (ZS:PySem.W.keepIn K (.ref E7)=true)
  (ZT:PySem.W.nsIn K mainGlobals "room_of" = some (some (.ref wZ)))
  (ZU:K.lookup wZ=some ⟨E8,E9,.func (PySem.W.fnOf "room_of" "room_of" (aA gT) (ay gT) (ai gT) .none Fc DK Fd Fb sJ Fe),DJ⟩)
  (ZV:PySem.W.codeIn K sJ "room_of" = true)
  (ZW:PySem.W.keepIn K (.ref wZ)=true)
  (ZX:PySem.W.nsIn K mainGlobals "new_sheet" = some (some (.ref oF)))
  (ZY:K.lookup oF=some ⟨BU,BV,.func (PySem.W.fnOf "new_sheet" "new_sheet" (aA fc) (ay fc) (ai fc) .none BX zO BY BW nA BZ),zN⟩)
  (ZZ:PySem.W.codeIn K nA "new_sheet" = true)
  (Z0:PySem.W.keepIn K (.ref oF)=true)
  (Z1:PySem.W.nsIn K mainGlobals "_law_cell_at" = some (some (.ref oG)))
  (Z2:K.lookup oG=some ⟨B0,B3,.func (PySem.W.fnOf "_law_cell_at" "_law_cell_at" (aA fj) (ay fj) (ai fj) .none B5 zQ B6 B4 nB B7),zP⟩)
  (Z3:PySem.W.codeIn K nB "_law_cell_at" = true)
  (Z4:PySem.W.keepIn K (.ref oG)=true)
  (Z5:PySem.W.nsIn K mainGlobals "_law_whole" = some (some (.ref w4)))
  (Z6:K.lookup w4=some ⟨Ff,Fg,.func (PySem.W.fnOf "_law_whole" "_law_whole" (aA gU) (ay gU) (ai gU) .none Fj DM Fl Fi sL Fo),DL⟩)
  (Z7:PySem.W.codeIn K sL "_law_whole" = true)
  (Z8:PySem.W.keepIn K (.ref w4)=true)
  (Z9:PySem.W.nsIn K mainGlobals "_law_alike" = some (some (.ref w6)))
  (aaa:K.lookup w6=some ⟨Fp,Fq,.func (PySem.W.fnOf "_law_alike" "_law_alike" (aA fk) (ay fk) (ai fk) .none Fv DO Fw Ft sM Fx),DN⟩)
  (aab:PySem.W.codeIn K sM "_law_alike" = true)
  (aac:PySem.W.keepIn K (.ref w6)=true)
  (aad:PySem.W.nsIn K mainGlobals "_law_num" = some (some (.ref Fy)))
  (aae:K.lookup Fy=some ⟨KS,KU,.func (PySem.W.fnOf "_law_num" "_law_num" (aA mz) (ay mz) (ai mz) .none KY Ik KZ KW AM K0),Ij⟩)
  (aaf:PySem.W.codeIn K AM "_law_num" = true)
  (aag:PySem.W.keepIn K (.ref Fy)=true)
  (aah:PySem.W.nsIn K mainGlobals "_law_row" = some (some (.ref Fz)))
  (aai:K.lookup Fz=some ⟨K3,K4,.func (PySem.W.fnOf "_law_row" "_law_row" (aA mD) (ay mD) (ai mD) .none K6 Im K7 K5 AN K8),Il⟩)
  (aaj:PySem.W.codeIn K AN "_law_row" = true)
  (aak:PySem.W.keepIn K (.ref Fz)=true)
  (aal:PySem.W.nsIn K mainGlobals "_law_name" = some (some (.ref B8)))
  (aam:K.lookup B8=some ⟨Io,Ip,.func (PySem.W.fnOf "_law_name" "_law_name" (aA jl) (ay jl) (ai jl) .none Ir FD Iu Iq xg Iv),FA⟩)
  (aan:PySem.W.codeIn K xg "_law_name" = true)
  (aao:PySem.W.keepIn K (.ref B8)=true)
  (aap:PySem.W.nsIn K mainGlobals "_law_laid_in" = some (some (.ref oH)))
  (aaq:K.lookup oH=some ⟨B9,Ca,.func (PySem.W.fnOf "_law_laid_in" "_law_laid_in" (aA fm) (ay fm) (ai fm) .none Cc zS Cd Cb nC Ce),zR⟩)
  (aar:PySem.W.codeIn K nC "_law_laid_in" = true)
  (aas:PySem.W.keepIn K (.ref oH)=true)
  (aat:PySem.W.nsIn K mainGlobals "_law_sizes" = some (some (.ref xh)))
  (aau:K.lookup xh=some ⟨FE,FF,.func (PySem.W.fnOf "_law_sizes" "_law_sizes" (aA gW) (ay gW) (ai gW) .none FI DQ FJ FG sN FL),DP⟩)
  (aav:PySem.W.codeIn K sN "_law_sizes" = true)
  (aaw:PySem.W.keepIn K (.ref xh)=true)
  (aax:PySem.W.nsIn K mainGlobals "_law_goes" = some (some (.ref Cf)))
  (aay:K.lookup Cf=some ⟨Iw,Iz,.func (PySem.W.fnOf "_law_goes" "_law_goes" (aA jm) (ay jm) (ai jm) .none IB FO IC IA xj ID),FN⟩)
  (aaz:PySem.W.codeIn K xj "_law_goes" = true)
  (aaA:PySem.W.keepIn K (.ref Cf)=true)
  (aaB:PySem.W.nsIn K mainGlobals "_law_is_store" = some (some (.ref lW)))
  (aaC:K.lookup lW=some ⟨zT,zU,.func (PySem.W.fnOf "_law_is_store" "_law_is_store" (aA d9) (ay d9) (ai d9) .none zW xo zX zV lX zY),xm⟩)
  (aaD:PySem.W.codeIn K lX "_law_is_store" = true)
  (aaE:PySem.W.keepIn K (.ref lW)=true)
  (aaF:PySem.W.nsIn K mainGlobals "_law_stir" = some (some (.ref Cg)))
  (aaG:K.lookup Cg=some ⟨IE,IF,.func (PySem.W.fnOf "_law_stir" "_law_stir" (aA jn) (ay jn) (ai jn) .none II FQ IJ IG xq IK),FP⟩)
  (aaH:PySem.W.codeIn K xq "_law_stir" = true)
  (aaI:PySem.W.keepIn K (.ref Cg)=true)
  (aaJ:PySem.W.nsIn K mainGlobals "_law_row_there" = some (some (.ref jO)))
  (aaK:K.lookup jO=some ⟨xu,xw,.func (PySem.W.fnOf "_law_row_there" "_law_row_there" (aA dB) (ay dB) (ai dB) .none xy uF xA xx j5 xB),uE⟩)
  (aaL:PySem.W.codeIn K j5 "_law_row_there" = true)
  (aaM:PySem.W.keepIn K (.ref jO)=true)
  (aaN:PySem.W.nsIn K mainGlobals "_law_fill" = some (some (.ref Ci)))
  (aaO:K.lookup Ci=some ⟨IL,IM,.func (PySem.W.fnOf "_law_fill" "_law_fill" (aA jo) (ay jo) (ai jo) .none IQ FU IS IP xC IT),FT⟩)
  (aaP:PySem.W.codeIn K xC "_law_fill" = true)
  (aaQ:PySem.W.keepIn K (.ref Ci)=true)
  (aaR:PySem.W.nsIn K mainGlobals "_law_had" = some (some (.ref FW)))
  (aaS:K.lookup FW=some ⟨K9,La,.func (PySem.W.fnOf "_law_had" "_law_had" (aA mE) (ay mE) (ai mE) .none Ld IV Le Lb AO Lf),IU⟩)
  (aaT:PySem.W.codeIn K AO "_law_had" = true)
  (aaU:PySem.W.keepIn K (.ref FW)=true)
  (aaV:PySem.W.nsIn K mainGlobals "_law_begun" = some (some (.ref xD)))
  (aaW:K.lookup xD=some ⟨FY,FZ,.func (PySem.W.fnOf "_law_begun" "_law_begun" (aA gX) (ay gX) (ai gX) .none F1 DS F2 F0 sO F3),DR⟩)
  (aaX:PySem.W.codeIn K sO "_law_begun" = true)
  (aaY:PySem.W.keepIn K (.ref xD)=true)
  (aaZ:PySem.W.nsIn K mainGlobals "law" = some (some (.ref Rf)))
  (aa0:K.lookup Rf=some ⟨Rg,Rh,.func (PySem.W.fnOf "law" "law" (aA vJ) (ay vJ) (ai vJ) .none Rj NQ Rk Ri GL Rl),NP⟩)
  (aa1:PySem.W.codeIn K GL "law" = true)
  (aa2:PySem.W.keepIn K (.ref Rf)=true) : ∃ cU cA cB cC cT cF cD cS cI,Txt K mg cU cA cB cC cT cF cD cS cI :=
 ⟨cU,cA,cB,cC,cT,cF,cD,cS,cI,Bm X G z1 z2,Bm X G z3 z4,Bm X G z5 z6,Bm X G z7 z8,vq X G z9 Vp Vq Vr Vs,Vt,Vu,Vv,z17,z18,z19,o9 z20 z21 z22 z23 z24 z25 z26,vq X G z27 z28 z29 z30 z31,z32,z33,z34,o9 z35 z36 z37 z38 z39 z40 z41,bu z42 z43 z44 z45 z46,bu z47 z48 z49 z50 z51,bu z52 z53 z54 z55 z56,bu z57 z58 z59 z60 z61,bu z62 z63 z64 z65 z66,bu z67 z68 z69 z70 z71,bu z72 z73 z74 z75 z76,bu z77 z78 z79 z80 z81,bu z82 z83 z84 z85 z86,vq X G z87 z88 z89 z90 z91,z92,z93,o9 z94 z95 z96 z97 z98 z99 Xq,bu Xr Xs Xu Xv Xw,bu Xx Xy Xz XA XD,bu XE XF XG XH XI,bu XJ XM XN XO XQ,bu XR XS XT XU XW,vq X G XX XY XZ X0 X4,X5,X6,o9 X7 X8 Yb Yc Yd Ye Yg,bu Yh Yi Yj Yk Yl,bu Ym Yn Yo Yp Yq,bu Yr Ys Yt Yu Yv,bu Yw Yx Yy Yz YA,bu YB YC YD YE YF,vq X G YG YH YI YJ YK,YL,o9 YM YN YO YQ YR YS YT,bu YU YV YW YX YY,bu YZ Y0 Y3 Y4 Y5,bu Y6 Y7 Y8 Y9 Za,bu Zb Zc Zd Ze Zf,bu Zg Zh Zi Zj Zk,bu Zl Zm Zn Zo Zp,bO X G Zq Zr Zs Zt,bO X G Zu Zv Zw Zx,bO X G Zy Zz ZA ZC,bO X G ZD ZE ZF ZG,bO X G ZH ZI ZJ ZK,bO X G ZL ZM ZN ZO,bO X G ZP ZQ ZR ZS,bO X G ZT ZU ZV ZW,bO X G ZX ZY ZZ Z0,bO X G Z1 Z2 Z3 Z4,bO X G Z5 Z6 Z7 Z8,bO X G Z9 aaa aab aac,bO X G aad aae aaf aag,bO X G aah aai aaj aak,bO X G aal aam aan aao,bO X G aap aaq aar aas,bO X G aat aau aav aaw,bO X G aax aay aaz aaA,bO X G aaB aaC aaD aaE,bO X G aaF aaG aaH aaI,bO X G aaJ aaK aaL aaM,bO X G aaN aaO aaP aaQ,bO X G aaR aaS aaT aaU,bO X G aaV aaW aaX aaY,bO X G aaZ aa0 aa1 aa2⟩
local macro_rules | `(tactic| walk_at $_:str) => `(tactic| fail)
theorem mC {α : Type} {b a : α} {l:List α} (h:a∈l):a∈b::l:=List.mem_cons_of_mem b h
theorem mA {α : Type} {a : α} {k l:List α} (h:a∈l):a∈k++l:=List.mem_append_right k h
theorem mB {α : Type} {a : α} {k l:List α} (h:a∈k):a∈k++l:=List.mem_append_left l h
theorem mS {α : Type} {a : α} {l:List α} : a∈a::l:=List.mem_cons_self
local macro_rules | `(tactic| walk_at "mem") => `(tactic| repeat (first | with_reducible exact List.mem_cons_self | with_reducible assumption | with_reducible refine List.mem_cons_of_mem _ ?_))
local macro_rules | `(tactic| walk_at "sub") => `(tactic| repeat (first | with_reducible exact List.Sublist.refl _ | with_reducible apply List.Sublist.cons₂ | with_reducible apply List.Sublist.cons))
local macro_rules | `(tactic| walk_at "led") => `(tactic| first | with_reducible assumption | exact L2.Led.sub (by assumption) (by walk_at "sub"))
local macro_rules | `(tactic| walk_at "cell") => `(tactic| first | with_reducible assumption | with_reducible exact L2.Led.get (by assumption) (by walk_at "mem"))
local macro_rules | `(tactic| walk_at "atc") => `(tactic| first | with_reducible assumption | with_reducible exact L2.O1 | with_reducible exact L2.O2 | with_reducible exact L2.O3 | with_reducible exact L2.O4 | with_reducible exact L2.O5 | with_reducible exact L2.O9 | with_reducible exact L2.afl | with_reducible exact L2.Tv)
local macro_rules | `(tactic| walk_at "szs") => `(tactic| first | decide | (simp only [List.length_cons,List.length_nil,List.length_append,List.length_map];have hsz:=PySem.sizeLine_eq;omega) | (have hsz:=PySem.sizeLine_eq;omega))
local macro_rules | `(tactic| walk_at "tyc") => `(tactic| first | with_reducible exact L2.tyI | with_reducible exact L2.tyB | with_reducible exact L2.tyS | with_reducible exact L2.tyO | exact L2.tyL (by walk_at "cell") | exact L2.tyT (by walk_at "cell") | exact L2.tyD (by walk_at "cell") | with_reducible assumption)
local macro_rules | `(tactic| walk_at "cnd") => `(tactic| first | omega | (unfold L2.SJ;omega) | (unfold L2.MX;omega) | (unfold L2.SK;omega) | (dsimp only;omega) | exact PySem.IntMulOk.of_right (by decide +kernel) | exact PySem.IntMulOk.of_left (by decide +kernel))
local macro_rules | `(tactic| walk_at "seq") => `(tactic| first | assumption | exact L2.fq.of (by walk_at "cell") | exact L2.kh.seq (by assumption) (by assumption) | exact L2.Pa.seq (by assumption) (by walk_at "led"))
local macro_rules | `(tactic| walk_at "isi") => `(tactic| first | with_reducible exact L2.C7 | with_reducible exact L2.Bf | with_reducible exact L2.NR | with_reducible exact L2.yb | with_reducible exact L2.Bg | with_reducible exact L2.yc | with_reducible exact L2.C8 | with_reducible exact L2.Bh | with_reducible exact L2.Bj | with_reducible exact L2.yd | with_reducible exact L2.ye | with_reducible exact L2.vh | with_reducible exact L2.yf | with_reducible exact L2.sX | with_reducible exact L2.Lg | with_reducible exact L2.vm | with_reducible exact L2.yg | with_reducible exact L2.vn | with_reducible exact L2.NS | with_reducible exact L2.NT | with_reducible exact L2.MK | with_reducible exact L2.ML | with_reducible exact L2.Lh | with_reducible exact L2.C9 | with_reducible exact L2.MM | with_reducible exact L2.Pg | with_reducible exact L2.NU | with_reducible exact L2.Bt | with_reducible exact L2.Bu | with_reducible exact L2.yh | rfl)
local macro_rules | `(tactic| walk_at "cl") => `(tactic| ((repeat (with_reducible rename L2.Is _ _=>zz;clear zz)); (repeat (with_reducible rename L2.kh _ _=>zz;clear zz)); (repeat (with_reducible rename L2.VK=>zz;clear zz))))
local macro_rules | `(tactic| walk_at "g1") => `(tactic| first
 | ((with_reducible show L2.vg _ _ _);with_reducible refine L2.T7 (by walk_at "cell") ?_)
 | ((with_reducible show L2.vg _ _ _);with_reducible refine L2.T8 (by walk_at "cell") ?_)
 | ((with_reducible show L2.vg _ _ _);with_reducible refine L2.T9 (by walk_at "cell") ?_)
 | ((with_reducible show L2.Kf _ _ _);with_reducible refine L2.WW (by walk_at "tyc") (by walk_at "isi") ?_)
 | ((with_reducible show L2.QD _ _ _ _);with_reducible refine L2.WX (by walk_at "cell") (by walk_at "cell") (by walk_at "szs") (L2.Led.alloc (by assumption) λ _ _ _ _ _ => ?_))
 | ((with_reducible show ∃ (p:Addr) (ys:List L2.V),_ = [L2.V.ref p]/\_);with_reducible refine L2.Ub (by walk_at "seq") (L2.Led.alloc (by assumption) λ _ _ _ _ _ => ?_))
 | ((with_reducible show ∃ (p:Addr) (ys:List L2.V),_ = [L2.V.ref p]/\_);with_reducible refine L2.aa3 (by walk_at "seq") (L2.Led.alloc (by assumption) λ _ _ _ _ _ => ?_))
 | ((with_reducible show L2.Nb _ _ _ _ _ _);with_reducible refine L2.Ua (by first | assumption | exact L2.fq.of (by walk_at "cell") | exact L2.kh.seq (by assumption) (by assumption) | exact L2.Pa.seq (by assumption) (by walk_at "led")) (L2.Led.alloc (by assumption) λ _ _ _ _ _ => ?_)))
local macro_rules | `(tactic| walk_at "g2") => `(tactic| first
 | walk_at "g1"
 | ((with_reducible show ∃ (b:Addr) (dx:Addr) (fs:List (Str×L2.V)),_/\_);with_reducible refine L2.Ue (by walk_at "cell") (by first | decide | with_unfolding_all exact Nat.le_of_ble_eq_true rfl) ?_)
 | ((with_reducible show ∃ (b:Addr) (o:Option L2.V),_/\_);with_reducible refine L2.aft (by walk_at "cell") ?_)
 | ((with_reducible show L2.EC _ _ _);with_reducible refine L2.Ug (by assumption) λ _ _ _ _ _ => ?_)
 | with_reducible refine L2.isH ?_
 | with_reducible refine L2.WY ?_)
local macro_rules | `(tactic| walk_at "gd") => `(tactic| repeat' first
 | (with_reducible refine L2.dO.h ?_;intro _ _)
 | with_reducible refine L2.vC.h ?_
 | with_reducible refine L2.T3 rfl ?_
 | with_reducible refine L2.Is.use (by assumption) ?_
 | with_reducible refine L2.TF (by assumption) ?_
 | ((with_reducible show L2.Ends.rt _ _ _);with_reducible refine L2.rtH ?_)
 | ((with_reducible show L2.Ends.nx _ _ _);with_reducible refine L2.nxH ?_)
 | with_reducible refine L2.Tj (λ _ => ?_) (λ _ => ?_)
 | with_reducible refine L2.Pd (λ _ => ?_) (λ _ => ?_)
 | ((with_reducible show L2.rI _ _ _ _ _ _);with_reducible refine L2.iH (by walk_at "cnd") ?_)
 | ((with_reducible show (_<=PySem.sizeLine)/\_);with_reducible refine And.intro (by walk_at "szs") (L2.Led.alloc (by assumption) λ _ _ _ _ _ => ?_))
 | ((with_reducible show L2.EI _ _ _ _);with_reducible refine L2.QU (by walk_at "cell") (by walk_at "atc") ?_)
 | ((with_reducible show L2.EI _ _ _ _);with_reducible refine L2.T6 (by walk_at "cell") (by walk_at "atc") ?_)
 | ((with_reducible show ∃ (b:Addr) (dx:Addr) (fs:List (Str×L2.V)) (v:L2.V),_/\_);with_reducible refine L2.Uc (by walk_at "cell") (by first | assumption | with_unfolding_all rfl) ?_)
 | ((with_reducible show ∃ (b:Addr) (dx:Addr) (fs:List (Str×L2.V)),_/\_);with_reducible refine L2.Pe (by walk_at "cell") (by first | assumption | with_unfolding_all rfl) ?_)
 | walk_at "g2")
local macro_rules | `(tactic| walk_at "pf") => `(tactic| repeat (first | with_reducible exact List.Perm.refl _ | with_reducible apply L2.pcC | with_reducible apply L2.pcA | with_reducible apply L2.paC | with_reducible apply L2.paA))
local macro_rules | `(tactic| walk_at "sp") => `(tactic| repeat (first | (with_reducible apply L2.spC; · walk_at "pf") | (with_reducible apply L2.spA; · walk_at "pf") | with_reducible exact L2.spR | with_reducible exact L2.spN | with_reducible apply L2.spD | with_reducible apply L2.WZ))
local macro_rules | `(tactic| walk_at "g3") => `(tactic| first
 | walk_at "g2"
 | with_reducible refine L2.aa4 (λ _ _ => ?_) L2.aa5
 | ((with_reducible show (∃ (a:Addr),_/\L2.Sd _ _)/\_);with_reducible refine And.intro (L2.Q0 (by walk_at "cell")) ?_)
 | ((with_reducible show ∃ (b:Addr) (o:Option L2.V),_/\_);with_reducible refine L2.aa6 (by walk_at "cell") ?_)
 | ((with_reducible show L2.M9 _ _ none (some 2) _ _);with_reducible refine L2.afu (by walk_at "cell") (L2.Led.alloc (by assumption) λ _ _ _ _ _ => ?_))
 | ((with_reducible show L2.M9 _ _ (some 2) none _ _);with_reducible refine L2.W2 (by walk_at "cell") (L2.Led.alloc (by assumption) λ _ _ _ _ _ => ?_)))
local macro_rules | `(tactic| walk_at "ge") => `(tactic| repeat' first
 | (with_reducible refine L2.dO.h ?_;intro _ _)
 | with_reducible refine L2.vC.h ?_
 | with_reducible refine L2.T3 rfl ?_
 | with_reducible refine L2.Is.use (by assumption) ?_
 | with_reducible refine L2.TF (by assumption) ?_
 | ((with_reducible show L2.Ends.rt _ _ _);with_reducible refine L2.rtH ?_)
 | ((with_reducible show L2.Ends.nx _ _ _);with_reducible refine L2.nxH ?_)
 | with_reducible refine L2.Tj (λ _ => ?_) (λ _ => ?_)
 | with_reducible refine L2.Pd (λ _ => ?_) (λ _ => ?_)
 | ((with_reducible show L2.rI _ _ _ _ _ _);with_reducible refine L2.iH (by walk_at "cnd") ?_)
 | ((with_reducible show (_<=PySem.sizeLine)/\_);with_reducible refine And.intro (by walk_at "szs") (L2.Led.alloc (by assumption) λ _ _ _ _ _ => ?_))
 | ((with_reducible show L2.EI _ _ _ _);with_reducible refine L2.QU (by walk_at "cell") (by walk_at "atc") ?_)
 | ((with_reducible show L2.EI _ _ _ _);with_reducible refine L2.T6 (by walk_at "cell") (by walk_at "atc") ?_)
 | ((with_reducible show ∃ (b:Addr) (dx:Addr) (fs:List (Str×L2.V)) (v:L2.V),_/\_);with_reducible refine L2.Uc (by walk_at "cell") (by first | assumption | with_unfolding_all rfl) ?_)
 | ((with_reducible show ∃ (b:Addr) (dx:Addr) (fs:List (Str×L2.V)),_/\_);with_reducible refine L2.Pe (by walk_at "cell") (by first | assumption | with_unfolding_all rfl) ?_)
 | walk_at "g3")
section
variable {P:Program} {w:World} {K:PySem.W.Frag} {mg:Str->Option Value} {base:Heap} {cU cA cB cC cT cF cD cS cI:Addr}
theorem iU {A:Around} {k:Nat} (hr:cZ k A):A.units+1 < cLine:=Nat.lt_of_le_of_lt (Nat.add_le_add_left (by decide) _) hr.units
def Ux (z:Str):Prop:=PyData.strOk z=true
inductive Th
 | own (n:Int)
 | file (z:Str) (p:Int)
deriving DecidableEq
def gv:Th->List V
 | .own n=>[.str (Str.ofString "own"),.int n]
 | .file z p=>[.str (Str.ofString "file"),.str z,.int p]
def F4:Th->Prop
 | .own _=>True
 | .file z _=>Ux z
def qh:Th->PySem.W.Dat
 | .own n => .tuple [.str (Str.ofString "own"),.int n]
 | .file z p => .tuple [.str (Str.ofString "file"),.str z,.int p]
theorem Li {a b:Th} : qh a=qh b↔a=b:=by
 cases a <;> cases b <;> simp [qh]
theorem NV {a:Th} (h:F4 a) (k:Nat):PySem.W.kqdOk (k+1) (qh a)=true:=by
 have h1:PyData.strOk (Str.ofString "own")=true:=by decide +kernel
 have h2:PyData.strOk (Str.ofString "file")=true:=by decide +kernel
 cases a with
 | own n=>unfold qh;rw [PySem.W.kqdOk];cases k <;> simp [PySem.W.kqdOk,h1]
 | file z p =>
   have h3:PyData.strOk z=true:=h
   unfold qh;rw [PySem.W.kqdOk];cases k <;> simp [PySem.W.kqdOk,h2,h3]
theorem xE {H:Hp} {p:Addr} {a:Th} (h:H p=some (.tup (gv a))):eB H (.ref p) (PySem.W.kqdP (qh a)):=by
 cases a with
 | own n =>
   unfold qh
   rw [PySem.W.kqdP,PySem.W.kqdPs,PySem.W.kqdPs,PySem.W.kqdPs,PySem.W.kqdP,PySem.W.kqdP]
   exact .tup h (.cons (.str _) (.cons (.int _) .nil))
 | file z q =>
   unfold qh
   rw [PySem.W.kqdP,PySem.W.kqdPs,PySem.W.kqdPs,PySem.W.kqdPs,PySem.W.kqdPs,PySem.W.kqdP,PySem.W.kqdP,PySem.W.kqdP]
   exact .tup h (.cons (.str _) (.cons (.str _) (.cons (.int _) .nil)))
abbrev Hd:=Option (Addr×Th)
def aX:Hd->V
 | none => .aI
 | some x => .ref x.1
def kH (x:Hd):Option Th:=x.map (·.2)
def ek:Option Th->PySem.W.Dat
 | none => .none
 | some a=>qh a
theorem fJ {a b:Option Th} : ek a=ek b↔a=b:=by
 cases a with
 | none=>cases b with
   | none=>exact iff_of_true rfl rfl
   | some b=>cases b <;> simp [ek,qh]
 | some a=>cases b with
   | none=>cases a <;> simp [ek,qh]
   | some b=>show qh a=qh b↔_;rw [Li,Option.some.injEq]
def fK:Option (Addr×List Int)->V
 | none => .aI
 | some x => .ref x.1
structure FS where
 b:Addr
 dx:Addr
 hl:Addr
 rl:Addr
 sl:Addr
 hs:List Hd
 rs:List (Option (Addr×List Int))
 bs:List Bool
def uP (hl rl sl:Addr):List (Str×V):=[("held",.ref hl),("rows",.ref rl),("soiled",.ref sl)]
abbrev sP (cF:Addr) (F:FS) (M:Cells):Cells:=(F.b,.ins cF F.dx (uP F.hl F.rl F.sl))::(F.hl,.lst (F.hs.map aX))::(F.rl,.lst (F.rs.map fK))::(F.sl,.lst (F.bs.map V.bl))::M
structure Ej (F:FS) (n:Nat) (M:Cells):Prop where
 h:F.hs.length=n
 r:F.rs.length=n
 s:F.bs.length=n
 th : ∀ t a,some (t,a)∈F.hs->(t,HO.tup (gv a))∈M/\F4 a
 rw : ∀ t row,some (t,row)∈F.rs->(t,HO.lst (row.map V.int))∈M
theorem Ej.mono {F:FS} {n:Nat} {M M':Cells} (g:Ej F n M) (h : ∀ c∈M,c∈M'):Ej F n M':=⟨g.h,g.r,g.s,λ t a ha=>⟨h _ (g.th t a ha).1,(g.th t a ha).2⟩,λ t a ha=>h _ (g.rw t a ha)⟩
def FS.fill (F:FS) (i:Nat) (x:Hd) (y:Option (Addr×List Int)) (b:Bool):FS := { F with hs:=F.hs.set i x,rs:=F.rs.set i y,bs:=F.bs.set i b }
theorem Ej.fill {F:FS} {n:Nat} {M:Cells} (g:Ej F n M) {i:Nat} {x:Hd} {y:Option (Addr×List Int)} {b:Bool} (hx : ∀ t a,x=some (t,a)->(t,HO.tup (gv a))∈M/\F4 a) (hy : ∀ t row,y=some (t,row)->(t,HO.lst (row.map V.int))∈M):Ej (F.fill i x y b) n M:=by
 refine ⟨by show (F.hs.set i x).length=n;rw [List.length_set];exact g.h,by show (F.rs.set i y).length=n;rw [List.length_set];exact g.r,by show (F.bs.set i b).length=n;rw [List.length_set];exact g.s,λ t a ha => ?_,λ t a ha => ?_⟩
 ·rcases List.mem_or_eq_of_mem_set ha with h | h
  ·exact g.th t a h
  ·exact hx t a h.symm
 ·rcases List.mem_or_eq_of_mem_set ha with h | h
  ·exact g.rw t a h
  ·exact hy t a h.symm
theorem Lj (v:V) (n:Nat):(List.replicate n [v]).flatten=List.replicate n v:=by
 induction n with
 | zero=>rfl
 | succ n ih=>rw [List.replicate_succ,List.flatten_cons,ih,List.replicate_succ];rfl
def FS.new (b dx hl rl sl:Addr) (n:Nat):FS:=⟨b,dx,hl,rl,sl,List.replicate n none,List.replicate n none,List.replicate n false⟩
 local macro_rules | `(tactic| walk_at "spf") => `(tactic| (simp only [sP,FS.fill,FS.new,List.cons_append,List.nil_append];walk_at "sp"))
theorem Ej.new {b dx hl rl sl:Addr} {n:Nat} {M:Cells} : Ej (FS.new b dx hl rl sl n) n M:=by
 refine ⟨List.length_replicate,List.length_replicate,List.length_replicate,λ t a h => ?_,λ t a h => ?_⟩
 ·exact nomatch (List.mem_replicate.mp h).2
 ·exact nomatch (List.mem_replicate.mp h).2
def GN (cF:Addr):Sp:=λ vs H Q _ => ∃ (b dx:Addr) (n:Nat) (L:Cells),vs = [.ref b,.int (n:Nat)]/\Led H ((b,.ins cF dx [])::L)/\n<=600 ∧ ∀ hl rl sl H',Led H' (sP cF (FS.new b dx hl rl sl n) L)->Q .aI H'
theorem Lk (D:nN K cF "Frames.__init__" dw) (T:Txt K mg cU cA cB cC cT cF cD cS cI):iC P w K mg base 1 cF ["self","many"] (GN cF):=by
 have sc:=k7
 refine D.ok k7 (λ vs H Q E h => ?_) (λ _ _ _ _ _ _ us hl=>match us,hl with | [_,_],_=>rfl) (λ f cdv A outer s H vs Q E hr h => ?_)
 ·obtain ⟨_,_,_,_,rfl,_⟩:=h;rfl
 ·obtain ⟨b,dx,n,L,rfl,hL,NW,k⟩:=h
  refine ⟨_,(@af _ _ _ _ _ (@cy _ _ _ _ _ _ _ _ _ _ T.Frames T.nS (@aq _ 0 _ _ (by walk_at "v")) (@av _ _ _ _ _ _ _ _ kR (@iY _ _ _ _ (@aa _ _ _ _ _ (@bE _ _ _) (@aj _) (by rfl))) (@aq _ 1 _ _ (by walk_at "v"))) (by rfl)) (@af _ _ _ _ _ (@cy _ _ _ _ _ _ _ _ _ _ T.Frames T.qB (@aq _ 0 _ _ (by walk_at "v")) (@av _ _ _ _ _ _ _ _ kR (@iY _ _ _ _ (@aa _ _ _ _ _ (@bE _ _ _) (@aj _) (by rfl))) (@aq _ 1 _ _ (by walk_at "v"))) (by rfl)) (@ao _ _ _ (@cy _ _ _ _ _ _ _ _ _ _ T.Frames T.lu (@aq _ 0 _ _ (by walk_at "v")) (@av _ _ _ _ _ _ _ _ kR (@iY _ _ _ _ (@aa _ _ _ _ _ (@bP _ _ _ _) (@aj _) (by rfl))) (@aq _ 1 _ _ (by walk_at "v"))) (by rfl))))),?_⟩
  refine aG λ M1 K1 => ?_
  walk_at "gd"
  rename Led _ _=>hl2
  refine Dk (hl2.get mS) ⟨by omega,by omega⟩ (by have:=sizeLine_eq;simp only [List.length_cons,List.length_nil];omega) (Led.alloc hl2 λ l H3 _ hl3 _ => ?_)
  rw [Lj,Int.toNat_natCast] at hl3
  walk_at "gd"
  refine K1.use ?_
  walk_at "cl"
  clear K1
  have bT:Led H3 ((b,.ins cF dx [])::(l,.lst (List.replicate n .aI))::L):=hl3.wk (by walk_at "sp")
  have c7:Led (upd H3 b (.ins cF dx (cP (Str.ofString "held") (V.ref l) []))) ((b,.ins cF dx [("held",.ref l)])::(l,.lst (List.replicate n .aI))::L):=bT.put rfl rfl
  generalize upd H3 b (.ins cF dx (cP (Str.ofString "held") (V.ref l) []))=H4 at c7 ⊢
  clear bT hl3 hl2 hL
  refine aG λ M1 K1 => ?_
  walk_at "gd"
  rename Led _ _=>hl2
  refine Dk (hl2.get mS) ⟨by omega,by omega⟩ (by have:=sizeLine_eq;simp only [List.length_cons,List.length_nil];omega) (Led.alloc hl2 λ r H5 _ fL _ => ?_)
  rw [Lj,Int.toNat_natCast] at fL
  walk_at "gd"
  refine K1.use ?_
  walk_at "cl"
  clear K1
  have jx:Led H5 ((b,.ins cF dx [("held",.ref l)])::(l,.lst (List.replicate n .aI))::(r,.lst (List.replicate n .aI))::L):=fL.wk (by walk_at "sp")
  have nD:Led (upd H5 b (.ins cF dx (cP (Str.ofString "rows") (V.ref r) [("held",.ref l)]))) ((b,.ins cF dx [("held",.ref l),("rows",.ref r)])::(l,.lst (List.replicate n .aI))::(r,.lst (List.replicate n .aI))::L):=jx.put rfl rfl
  generalize upd H5 b (.ins cF dx (cP (Str.ofString "rows") (V.ref r) [("held",.ref l)]))=H6 at nD ⊢
  clear jx fL hl2 c7
  walk_at "gd"
  rename Led _ _=>hl2
  refine Dk (hl2.get mS) ⟨by omega,by omega⟩ (by have:=sizeLine_eq;simp only [List.length_cons,List.length_nil];omega) (Led.alloc hl2 λ q H7 _ jP _ => ?_)
  rw [Lj,Int.toNat_natCast] at jP
  walk_at "gd"
  have gO:Led H7 ((b,.ins cF dx [("held",.ref l),("rows",.ref r)])::(l,.lst (List.replicate n .aI))::(r,.lst (List.replicate n .aI))::(q,.lst (List.replicate n (.bl false)))::L):=jP.wk (by walk_at "sp")
  have eV:=gO.put (o' := .ins cF dx (uP l r q)) rfl rfl
  refine k l r q _ ?_
  unfold sP FS.new
  simp only [List.map_replicate]
  exact eV
def F5 (cF:Addr):Sp:=λ vs H Q _ => ∃ (F:FS) (n i:Nat) (t r0:Addr) (a:Th) (row:List Int) (M:Cells),vs = [.ref F.b,.int (i:Nat),.ref t,.ref r0]/\Led H (sP cF F M)/\Ej F n M/\i < n/\(r0,HO.lst (row.map V.int))∈M/\row.length<=600 ∧
 ∀ r H',Led H' (sP cF (F.fill i (some (t,a)) (some (r,row)) false) ((r,.lst (row.map V.int))::M))->Q .aI H'
theorem NX (D:bF K cF "fill" "Frames.fill" dz) (B:jd mg) (T:Txt K mg cU cA cB cC cT cF cD cS cI):aM P w K mg base 1 cF "fill" ["self","frame","thing","row"] (F5 cF):=by
 have sc:=k8
 refine D.ok k8 (λ vs H Q E h => ?_) (λ _ _ _ _ _ _ us hl=>match us,hl with | [_,_,_,_],_=>rfl) (λ f cdv A outer s H vs Q E hr h => ?_)
 ·obtain ⟨_,_,_,_,_,_,_,_,rfl,_⟩:=h;rfl
 ·obtain ⟨F,n,i,t,r0,a,row,M,rfl,hL,g,hi,sQ,hrl,k⟩:=h
  have hf1:(uP F.hl F.rl F.sl).lookup (Str.ofString "held")=some (.ref F.hl):=rfl
  have hf2:(uP F.hl F.rl F.sl).lookup (Str.ofString "rows")=some (.ref F.rl):=rfl
  have hf3:(uP F.hl F.rl F.sl).lookup (Str.ofString "soiled")=some (.ref F.sl):=rfl
  have gh:=g.h
  have gr:=g.r
  have gs:=g.s
  have m1:(F.hs.map aX).length=F.hs.length:=List.length_map _
  have m2:(F.rs.map fK).length=F.rs.length:=List.length_map _
  have m3:(F.bs.map V.bl).length=F.bs.length:=List.length_map _
  refine ⟨_,(@af _ _ _ _ _ (@bJ _ _ _ _ _ _ (@aq _ 2 _ _ (by walk_at "v")) (@bN _ _ _ _ _ _ _ (@az _ _ _ _ _ _ _ T.Frames T.nS (@aq _ 0 _ _ (by walk_at "v")) (by rfl)) (@aq _ 1 _ _ (by walk_at "v")) set_list (by intro _;rfl)) (by rfl) (by rfl) (by rfl)) (@af _ _ _ _ _ (@bJ _ _ _ _ _ _ (@bh _ _ _ _ _ _ _ _ _ (aT (K:=K) rfl) (by rfl) B.list bS (@aa _ _ _ _ _ (@aq _ 3 _ _ (by walk_at "v")) (@aj _) (by rfl)) (by decide) (by decide) (by rfl) (by rfl)) (@bN _ _ _ _ _ _ _ (@az _ _ _ _ _ _ _ T.Frames T.qB (@aq _ 0 _ _ (by walk_at "v")) (by rfl)) (@aq _ 1 _ _ (by walk_at "v")) set_list (by intro _;rfl)) (by rfl) (by rfl) (by rfl)) (@ao _ _ _ (@bJ _ _ _ _ _ _ (@bP _ _ _ _) (@bN _ _ _ _ _ _ _ (@az _ _ _ _ _ _ _ T.Frames T.lu (@aq _ 0 _ _ (by walk_at "v")) (by rfl)) (@aq _ 1 _ _ (by walk_at "v")) set_list (by intro _;rfl)) (by rfl) (by rfl) (by rfl))))),?_⟩
  refine aG λ M1 K1 => ?_
  walk_at "ge"
  refine cQ (hL.get (mC mS)) (bG (by omega) (by omega)) ?_
  rw [Int.toNat_natCast,show (F.hs.map aX).set i (V.ref t)=(F.hs.set i (some (t,a))).map aX by rw [List.map_set];rfl]
  have hl2:Led (upd H F.hl (.lst ((F.hs.set i (some (t,a))).map aX))) ((F.b,.ins cF F.dx (uP F.hl F.rl F.sl))::(F.hl,.lst ((F.hs.set i (some (t,a))).map aX))::(F.rl,.lst (F.rs.map fK))::(F.sl,.lst (F.bs.map V.bl))::M):=hL.jG 1 rfl rfl rfl
  generalize upd H F.hl (.lst ((F.hs.set i (some (t,a))).map aX))=H2 at hl2 ⊢
  walk_at "ge"
  refine K1.use ?_
  walk_at "cl"
  clear K1 hL
  refine aG λ M1 K1 => ?_
  walk_at "ge"
  rename_i r H3 _ hl3 _ _ _ _ _ _ _
  refine cQ (hl3.get (mC (mC (mC mS)))) (bG (by omega) (by omega)) ?_
  rw [Int.toNat_natCast,show (F.rs.map fK).set i (V.ref r)=(F.rs.set i (some (r,row))).map fK by rw [List.map_set];rfl]
  have bT:Led (upd H3 F.rl (.lst ((F.rs.set i (some (r,row))).map fK))) ((r,.lst (row.map V.int))::(F.b,.ins cF F.dx (uP F.hl F.rl F.sl))::(F.hl,.lst ((F.hs.set i (some (t,a))).map aX))::(F.rl,.lst ((F.rs.set i (some (r,row))).map fK))::(F.sl,.lst (F.bs.map V.bl))::M):=hl3.jG 3 rfl rfl rfl
  generalize upd H3 F.rl (.lst ((F.rs.set i (some (r,row))).map fK))=H4 at bT ⊢
  walk_at "ge"
  refine K1.use ?_
  walk_at "cl"
  clear K1 hl2 hl3
  walk_at "ge"
  refine cQ (bT.get (mC (mC (mC (mC mS))))) (bG (by omega) (by omega)) ?_
  rw [Int.toNat_natCast,show (F.bs.map V.bl).set i (V.bl false)=(F.bs.set i false).map V.bl by rw [List.map_set]]
  have c7:Led (upd H4 F.sl (.lst ((F.bs.set i false).map V.bl))) ((r,.lst (row.map V.int))::(F.b,.ins cF F.dx (uP F.hl F.rl F.sl))::(F.hl,.lst ((F.hs.set i (some (t,a))).map aX))::(F.rl,.lst ((F.rs.set i (some (r,row))).map fK))::(F.sl,.lst ((F.bs.set i false).map V.bl))::M):=bT.jG 4 rfl rfl rfl
  walk_at "ge"
  exact k r _ (c7.wk (by walk_at "spf"))
def GO (cF:Addr):Sp:=λ vs H Q _ => ∃ (F:FS) (n i:Nat) (M:Cells),vs = [.ref F.b,.int (i:Nat)]/\Led H (sP cF F M)/\Ej F n M/\i < n ∧ ∀ H',Led H' (sP cF (F.fill i none none false) M)->Q .aI H'
theorem Ll (D:bF K cF "empty" "Frames.empty" cL) (B:jd mg) (T:Txt K mg cU cA cB cC cT cF cD cS cI):aM P w K mg base 1 cF "empty" ["self","frame"] (GO cF):=by
 have sc:=jV
 refine D.ok jV (λ vs H Q E h => ?_) (λ _ _ _ _ _ _ us hl=>match us,hl with | [_,_],_=>rfl) (λ f cdv A outer s H vs Q E hr h => ?_)
 ·obtain ⟨_,_,_,_,rfl,_⟩:=h;rfl
 ·obtain ⟨F,n,i,M,rfl,hL,g,hi,k⟩:=h
  have hf1:(uP F.hl F.rl F.sl).lookup (Str.ofString "held")=some (.ref F.hl):=rfl
  have hf2:(uP F.hl F.rl F.sl).lookup (Str.ofString "rows")=some (.ref F.rl):=rfl
  have hf3:(uP F.hl F.rl F.sl).lookup (Str.ofString "soiled")=some (.ref F.sl):=rfl
  have gh:=g.h
  have gr:=g.r
  have gs:=g.s
  have m1:(F.hs.map aX).length=F.hs.length:=List.length_map _
  have m2:(F.rs.map fK).length=F.rs.length:=List.length_map _
  have m3:(F.bs.map V.bl).length=F.bs.length:=List.length_map _
  refine ⟨_,(@af _ _ _ _ _ (@bJ _ _ _ _ _ _ (@bE _ _ _) (@bN _ _ _ _ _ _ _ (@az _ _ _ _ _ _ _ T.Frames T.nS (@aq _ 0 _ _ (by walk_at "v")) (by rfl)) (@aq _ 1 _ _ (by walk_at "v")) set_list (by intro _;rfl)) (by rfl) (by rfl) (by rfl)) (@af _ _ _ _ _ (@bJ _ _ _ _ _ _ (@bE _ _ _) (@bN _ _ _ _ _ _ _ (@az _ _ _ _ _ _ _ T.Frames T.qB (@aq _ 0 _ _ (by walk_at "v")) (by rfl)) (@aq _ 1 _ _ (by walk_at "v")) set_list (by intro _;rfl)) (by rfl) (by rfl) (by rfl)) (@ao _ _ _ (@bJ _ _ _ _ _ _ (@bP _ _ _ _) (@bN _ _ _ _ _ _ _ (@az _ _ _ _ _ _ _ T.Frames T.lu (@aq _ 0 _ _ (by walk_at "v")) (by rfl)) (@aq _ 1 _ _ (by walk_at "v")) set_list (by intro _;rfl)) (by rfl) (by rfl) (by rfl))))),?_⟩
  refine aG λ M1 K1 => ?_
  walk_at "ge"
  refine cQ (hL.get (mC mS)) (bG (by omega) (by omega)) ?_
  rw [Int.toNat_natCast,show (F.hs.map aX).set i V.aI=(F.hs.set i none).map aX by rw [List.map_set];rfl]
  have hl2:Led (upd H F.hl (.lst ((F.hs.set i none).map aX))) ((F.b,.ins cF F.dx (uP F.hl F.rl F.sl))::(F.hl,.lst ((F.hs.set i none).map aX))::(F.rl,.lst (F.rs.map fK))::(F.sl,.lst (F.bs.map V.bl))::M):=hL.jG 1 rfl rfl rfl
  generalize upd H F.hl (.lst ((F.hs.set i none).map aX))=H2 at hl2 ⊢
  walk_at "ge"
  refine K1.use ?_
  walk_at "cl"
  clear K1 hL
  refine aG λ M1 K1 => ?_
  walk_at "ge"
  refine cQ (hl2.get (mC (mC mS))) (bG (by omega) (by omega)) ?_
  rw [Int.toNat_natCast,show (F.rs.map fK).set i V.aI=(F.rs.set i none).map fK by rw [List.map_set];rfl]
  have bT:Led (upd H2 F.rl (.lst ((F.rs.set i none).map fK))) ((F.b,.ins cF F.dx (uP F.hl F.rl F.sl))::(F.hl,.lst ((F.hs.set i none).map aX))::(F.rl,.lst ((F.rs.set i none).map fK))::(F.sl,.lst (F.bs.map V.bl))::M):=hl2.jG 2 rfl rfl rfl
  generalize upd H2 F.rl (.lst ((F.rs.set i none).map fK))=H4 at bT ⊢
  walk_at "ge"
  refine K1.use ?_
  walk_at "cl"
  clear K1 hl2
  walk_at "ge"
  refine cQ (bT.get (mC (mC (mC mS)))) (bG (by omega) (by omega)) ?_
  rw [Int.toNat_natCast,show (F.bs.map V.bl).set i (V.bl false)=(F.bs.set i false).map V.bl by rw [List.map_set]]
  have c7:Led (upd H4 F.sl (.lst ((F.bs.set i false).map V.bl))) ((F.b,.ins cF F.dx (uP F.hl F.rl F.sl))::(F.hl,.lst ((F.hs.set i none).map aX))::(F.rl,.lst ((F.rs.set i none).map fK))::(F.sl,.lst ((F.bs.set i false).map V.bl))::M):=bT.jG 3 rfl rfl rfl
  walk_at "ge"
  exact k _ c7
def jy (p:Int) (m:Addr):List (Str×V):=[("stands_at",.int p),("marked",.ref m)]
def fQ (cD d dx m:Addr) (p:Int) (bs:List Bool):Cells:=[(d,.ins cD dx (jy p m)),(m,.lst (bs.map V.bl))]
theorem Lm {cD d dx m:Addr} {p:Int} {bs:List Bool} {L:Cells} : (d,HO.ins cD dx (jy p m))∈fQ cD d dx m p bs++L:=mS
theorem Uy {cD d dx m:Addr} {p:Int} {bs:List Bool} {L:Cells} : (m,HO.lst (bs.map V.bl))∈fQ cD d dx m p bs++L:=mC mS
theorem sR (bs:List Bool) (j:Nat) (b:Bool):(bs.map V.bl).set j (.bl b)=(bs.set j b).map V.bl:=by rw [List.map_set]
theorem Led.Rm {H:Hp} {cD d dx m:Addr} {p:Int} {bs bs':List Bool} {L:Cells} (h:Led H (fQ cD d dx m p bs++L)):Led (upd H m (.lst (bs'.map V.bl))) (fQ cD d dx m p bs'++L) :=
 (Led.put (Led.swap (show Led H ((d,.ins cD dx (jy p m))::(m,.lst (bs.map V.bl))::L) from h)) rfl rfl).swap
theorem Ln (n:Nat):(List.replicate n [V.bl false]).flatten=(List.replicate n false).map V.bl:=by
 induction n with
 | zero=>rfl
 | succ n ih=>rw [List.replicate_succ,List.flatten_cons,ih,List.replicate_succ];rfl
def GP (cD:Addr):Sp:=λ vs H Q _ => ∃ (d dx:Addr) (n:Int) (L:Cells),vs = [.ref d,.int n]/\Led H ((d,.ins cD dx [])::L)/\0<=n/\n<=64 ∧ ∀ m H',Led H' (fQ cD d dx m 0 (List.replicate n.toNat false)++L)->Q .aI H'
theorem Lo (D:nN K cD "Dial.__init__" eW) (T:Txt K mg cU cA cB cC cT cF cD cS cI):iC P w K mg base 1 cD ["self","many"] (GP cD):=by
 have sc:=pC
 refine D.ok pC (λ vs H Q E h => ?_) (λ _ _ _ _ _ _ us hl=>match us,hl with | [_,_],_=>rfl) (λ f cdv A outer s H vs Q E hr h => ?_)
 ·obtain ⟨_,_,_,_,rfl,_⟩:=h;rfl
 ·obtain ⟨d,dx,n,L,rfl,hL,h0,h64,k⟩:=h
  refine ⟨_,(@af _ _ _ _ _ (@cy _ _ _ _ _ _ _ _ _ _ T.jK T.iG (@aq _ 0 _ _ (by walk_at "v")) (@ak _ _ _ _) (by rfl)) (@ao _ _ _ (@cy _ _ _ _ _ _ _ _ _ _ T.jK T.g9 (@aq _ 0 _ _ (by walk_at "v")) (@av _ _ _ _ _ _ _ _ kR (@iY _ _ _ _ (@aa _ _ _ _ _ (@bP _ _ _ _) (@aj _) (by rfl))) (@aq _ 1 _ _ (by walk_at "v"))) (by rfl)))),?_⟩
  refine aG λ M1 K1 => ?_
  walk_at "gd"
  refine K1.use ?_
  clear K1
  have hL1:Led (upd H d (.ins cD dx (cP (Str.ofString "stands_at") (V.int 0) []))) ((d,.ins cD dx [("stands_at",.int 0)])::L):=hL.put rfl rfl
  generalize upd H d (.ins cD dx (cP (Str.ofString "stands_at") (V.int 0) []))=H1 at hL1 ⊢
  walk_at "gd"
  rename_i l0 H2 _ hl2 _ _ _
  have hsz:1 * n.toNat<=sizeLine:=by have:=sizeLine_eq;omega
  refine Dk (hl2.get mS) ⟨by omega,by omega⟩ hsz (Led.alloc hl2 λ m H3 _ hl3 _ => ?_)
  rw [Ln] at hl3
  walk_at "gd"
  have bT:Led H3 ((d,.ins cD dx [("stands_at",.int 0)])::(m,.lst ((List.replicate n.toNat false).map V.bl))::L):=hl3.wk (by walk_at "sp")
  exact k m _ (bT.put (o' := .ins cD dx (jy 0 m)) rfl rfl)
def AQ (cD:Addr):Sp:=λ vs H Q _ => ∃ (d dx m:Addr) (p:Int),vs = [.ref d]/\H d=some (.ins cD dx (jy p m))/\Q (.int p) H
theorem F6 (D:bF K cD "pointer" "Dial.pointer" cJ) (T:Txt K mg cU cA cB cC cT cF cD cS cI):aM P w K mg base 1 cD "pointer" ["self"] (AQ cD):=by
 have sc:=jT
 refine D.ok jT (λ vs H Q E h => ?_) (λ _ _ _ _ _ _ us hl=>match us,hl with | [_],_=>rfl) (λ f cdv A outer s H vs Q E hr h => ?_)
 ·obtain ⟨_,_,_,_,rfl,_⟩:=h;rfl
 ·obtain ⟨d,dx,m,p,rfl,hd,k⟩:=h
  have hf:(jy p m).lookup (Str.ofString "stands_at")=some (.int p):=rfl
  refine ⟨_,(@ao _ _ _ (@aE _ _ _ _ (@az _ _ _ _ _ _ _ T.jK T.iG (@aq _ 0 _ _ (by walk_at "v")) (by rfl)))),?_⟩
  walk_at "gd"
  exact k
def xF (cD:Addr) (b:Bool):Sp:=λ vs H Q _ => ∃ (d dx m:Addr) (p f:Int) (bs:List Bool) (L:Cells),vs = [.ref d,.int f]/\Led H (fQ cD d dx m p bs++L)/\0<=f/\f < bs.length ∧ ∀ H',Led H' (fQ cD d dx m p (bs.set f.toNat b)++L)->Q .aI H'
theorem Lp (D:bF K cD "touch" "Dial.touch" dQ) (T:Txt K mg cU cA cB cC cT cF cD cS cI):aM P w K mg base 1 cD "touch" ["self","frame"] (xF cD true):=by
 have sc:=nc
 refine D.ok nc (λ vs H Q E h => ?_) (λ _ _ _ _ _ _ us hl=>match us,hl with | [_,_],_=>rfl) (λ f cdv A outer s H vs Q E hr h => ?_)
 ·obtain ⟨_,_,_,_,_,_,_,rfl,_⟩:=h;rfl
 ·obtain ⟨d,dx,m,p,fr,bs,L,rfl,hL,f0,f1,k⟩:=h
  have hf:(jy p m).lookup (Str.ofString "marked")=some (.ref m):=rfl
  have c1:=hL.get (Lm (cD:=cD) (d:=d) (dx:=dx) (m:=m) (p:=p) (bs:=bs) (L:=L))
  have c2:=hL.get (Uy (cD:=cD) (d:=d) (dx:=dx) (m:=m) (p:=p) (bs:=bs) (L:=L))
  refine ⟨_,(@ao _ _ _ (@bJ _ _ _ _ _ _ (@bP _ _ _ _) (@bN _ _ _ _ _ _ _ (@az _ _ _ _ _ _ _ T.jK T.g9 (@aq _ 0 _ _ (by walk_at "v")) (by rfl)) (@aq _ 1 _ _ (by walk_at "v")) set_list (by intro _;rfl)) (by rfl) (by rfl) (by rfl))),?_⟩
  walk_at "gd"
  refine cQ c2 (bG f0 (by rw [List.length_map];exact f1)) ?_
  rw [sR]
  walk_at "gd"
  exact k _ (Led.Rm hL)
theorem Lq (D:bF K cD "clear" "Dial.clear" dR) (T:Txt K mg cU cA cB cC cT cF cD cS cI):aM P w K mg base 1 cD "clear" ["self","frame"] (xF cD false):=by
 have sc:=ng
 refine D.ok ng (λ vs H Q E h => ?_) (λ _ _ _ _ _ _ us hl=>match us,hl with | [_,_],_=>rfl) (λ f cdv A outer s H vs Q E hr h => ?_)
 ·obtain ⟨_,_,_,_,_,_,_,rfl,_⟩:=h;rfl
 ·obtain ⟨d,dx,m,p,fr,bs,L,rfl,hL,f0,f1,k⟩:=h
  have hf:(jy p m).lookup (Str.ofString "marked")=some (.ref m):=rfl
  have c1:=hL.get (Lm (cD:=cD) (d:=d) (dx:=dx) (m:=m) (p:=p) (bs:=bs) (L:=L))
  have c2:=hL.get (Uy (cD:=cD) (d:=d) (dx:=dx) (m:=m) (p:=p) (bs:=bs) (L:=L))
  refine ⟨_,(@ao _ _ _ (@bJ _ _ _ _ _ _ (@bP _ _ _ _) (@bN _ _ _ _ _ _ _ (@az _ _ _ _ _ _ _ T.jK T.g9 (@aq _ 0 _ _ (by walk_at "v")) (by rfl)) (@aq _ 1 _ _ (by walk_at "v")) set_list (by intro _;rfl)) (by rfl) (by rfl) (by rfl))),?_⟩
  walk_at "gd"
  refine cQ c2 (bG f0 (by rw [List.length_map];exact f1)) ?_
  rw [sR]
  walk_at "gd"
  exact k _ (Led.Rm hL)
def GQ (cD:Addr):Sp:=λ vs H Q _ => ∃ (d dx m:Addr) (p:Int) (bs:List Bool) (L:Cells),vs = [.ref d]/\Led H L/\H d=some (.ins cD dx (jy p m))/\H m=some (.lst (bs.map V.bl)) ∧ ∀ r H',Led H' ((r,.lst (bs.map V.bl))::L)->Q (.ref r) H'
theorem Ls (D:bF K cD "marks" "Dial.marks" dS) (B:jd mg) (T:Txt K mg cU cA cB cC cT cF cD cS cI):aM P w K mg base 1 cD "marks" ["self"] (GQ cD):=by
 have sc:=nh
 refine D.ok nh (λ vs H Q E h => ?_) (λ _ _ _ _ _ _ us hl=>match us,hl with | [_],_=>rfl) (λ f cdv A outer s H vs Q E hr h => ?_)
 ·obtain ⟨_,_,_,_,_,_,rfl,_⟩:=h;rfl
 ·obtain ⟨d,dx,m,p,bs,L,rfl,hL,c1,c2,k⟩:=h
  have hf:(jy p m).lookup (Str.ofString "marked")=some (.ref m):=rfl
  refine ⟨_,(@ao _ _ _ (@aE _ _ _ _ (@bh _ _ _ _ _ _ _ _ _ (aT (K:=K) rfl) (by rfl) B.list bS (@aa _ _ _ _ _ (@az _ _ _ _ _ _ _ T.jK T.g9 (@aq _ 0 _ _ (by walk_at "v")) (by rfl)) (@aj _) (by rfl)) (by decide) (by decide) (by rfl) (by rfl)))),?_⟩
  walk_at "gd"
  rename_i r H1 _ hl1 _
  exact k r _ hl1
def CI (may:List Bool):Nat->Nat->List Bool->Option (Nat×List Bool)
 | 0,_,_=>none
 | k+1,p,bs=>if may.getD (p % may.length) false=true/\bs.getD (p % may.length) false=false then some (p % may.length,bs) else CI may k (p+1) (if may.getD (p % may.length) false=true then bs.set (p % may.length) false else bs)
theorem Lu (may:List Bool) (k p:Nat) (bs:List Bool):CI may (k+1) p bs=if may.getD (p % may.length) false=true/\bs.getD (p % may.length) false=false then some (p % may.length,bs) else CI may k (p+1) (if may.getD (p % may.length) false=true then bs.set (p % may.length) false else bs):=rfl
theorem IW {bs:List Bool} {f g:Nat} (h:bs.getD f false=false):(bs.set g false).getD f false=false:=by
 rw [List.getD_eq_getElem?_getD] at h ⊢
 rw [List.getElem?_set]
 split
 ·split
  ·rfl
  ·rfl
 ·exact h
theorem Lv {bs:List Bool} {f:Nat} : (bs.set f false).getD f false=false:=by
 rw [List.getD_eq_getElem?_getD,List.getElem?_set]
 rw [if_pos rfl]
 split <;> rfl
theorem Pj {may:List Bool} {f:Nat} (hf:may.getD f false=true) : ∀ (k p:Nat) (bs:List Bool),bs.getD f false=false->(∃ j,j < k/\(p+j) % may.length=f)->∃ r,CI may k p bs=some r
 | 0,_,_,_,⟨j,hj,_⟩=>absurd hj (Nat.not_lt_zero _)
 | k+1,p,bs,hb,⟨j,hj,hm⟩=>by
   unfold CI
   by_cases h:may.getD (p % may.length) false=true/\bs.getD (p % may.length) false=false
   ·rw [if_pos h];exact ⟨_,rfl⟩
   ·rw [if_neg h]
    cases j with
    | zero=>rw [Nat.add_zero] at hm;rw [hm] at h;exact absurd ⟨hf,hb⟩ h
    | succ j =>
      refine Pj hf k (p+1) _ ?_ ⟨j,by omega,by rw [<-hm];congr 1;omega⟩
      split
      ·exact IW hb
      ·exact hb
theorem Pk {may:List Bool} {f:Nat} (hf:may.getD f false=true) (hn:0 < may.length) : ∀ (k p:Nat) (bs:List Bool),(∃ j,j+may.length < k/\(p+j) % may.length=f)->∃ r,CI may k p bs=some r
 | 0,_,_,⟨j,hj,_⟩=>absurd hj (Nat.not_lt_zero _)
 | k+1,p,bs,⟨j,hj,hm⟩=>by
   unfold CI
   by_cases h:may.getD (p % may.length) false=true/\bs.getD (p % may.length) false=false
   ·rw [if_pos h];exact ⟨_,rfl⟩
   ·rw [if_neg h]
    cases j with
    | zero =>
      rw [Nat.add_zero] at hm
      rw [hm,if_pos hf]
      refine Pj hf k (p+1) _ Lv ⟨may.length - 1,by omega,?_⟩
      rw [show p+1+(may.length - 1)=p+may.length by omega,Nat.add_mod_right,hm]
    | succ j=>exact Pk hf hn k (p+1) _ ⟨j,by omega,by rw [<-hm];congr 1;omega⟩
theorem reach (p f n:Nat) (hf:f < n) : ∃ j,j < n/\(p+j) % n=f:=by
 have hr:p % n < n:=Nat.mod_lt _ (by omega)
 by_cases h:p % n<=f
 ·refine ⟨f - p % n,by omega,?_⟩
  rw [<-Nat.mod_add_mod,show p % n+(f - p % n)=f by omega,Nat.mod_eq_of_lt hf]
 ·refine ⟨f+n - p % n,by omega,?_⟩
  rw [<-Nat.mod_add_mod,show p % n+(f+n - p % n)=f+n by omega,Nat.add_mod_right,Nat.mod_eq_of_lt hf]
theorem Ly {may:List Bool} (h:true∈may) (p:Nat) (bs:List Bool) : ∃ r,CI may (2 * may.length) p bs=some r:=by
 obtain ⟨f,hf,e⟩:=List.getElem_of_mem h
 obtain ⟨j,hj,hm⟩:=reach p f may.length hf
 refine Pk (f:=f) ?_ (by omega) _ p bs ⟨j,by omega,hm⟩
 rw [List.getD_eq_getElem?_getD,List.getElem?_eq_getElem hf,e]
 rfl
theorem qi {may:List Bool} : ∀ (k p:Nat) (bs:List Bool) {f:Nat} {bs':List Bool},CI may k p bs=some (f,bs')->bs'.length=bs.length/\(0 < may.length->f < may.length)/\may.getD f false=true
 | 0,_,_,_,_,h=>nomatch h
 | k+1,p,bs,f,bs',h=>by
   unfold CI at h
   split at h
   ·rename_i hc
    cases h
    exact ⟨rfl,λ hp=>Nat.mod_lt _ hp,hc.1⟩
   ·obtain ⟨h1,h2,h3⟩:=qi k (p+1) _ h
    refine ⟨?_,h2,h3⟩
    rw [h1]
    split
    ·rw [List.length_set]
    ·rfl
def DT (cD cU:Addr):Sp:=λ vs H Q E => ∃ (d dx m q:Addr) (p:Nat) (may bs:List Bool) (L:Cells),vs = [.ref d,.ref q]/\Led H (fQ cD d dx m p bs++L)/\(q,HO.lst (may.map V.bl))∈L/\may.length=bs.length/\0 < bs.length/\bs.length<=64 ∧
 (∀ f bs' H',CI may (2 * may.length) p bs=some (f,bs')->Led H' (fQ cD d dx m ((f+1) % may.length:Nat) bs'++L)->Q (.int f) H')/\(∀ H',true ∉ may->Led H' (fQ cD d dx m p bs++L)->E (.ref cU) none H')
theorem IX (D:bF K cD "choose" "Dial.choose" dj) (B:jd mg) (T:Txt K mg cU cA cB cC cT cF cD cS cI):aM P w K mg base 1 cD "choose" ["self","may"] (DT cD cU):=by
 have sc:=k6
 refine D.Di k6 (λ vs H Q E h => ?_) (λ _ _ _ _ _ _ us hl=>match us,hl with | [_,_],_=>rfl) (λ f cdv A outer s H vs Q E hr h => ?_)
 ·obtain ⟨_,_,_,_,_,_,_,_,rfl,_⟩:=h;rfl
 ·obtain ⟨d,dx,m,q,p,may,bs,L,rfl,hL,iq,hml,hn0,h64,k1,k2⟩:=h
  have hf1:(jy p m).lookup (Str.ofString "marked")=some (.ref m):=rfl
  have hf2:(jy p m).lookup (Str.ofString "stands_at")=some (.int p):=rfl
  have c1:=hL.get (Lm (cD:=cD) (d:=d) (dx:=dx) (m:=m) (p:=p) (bs:=bs) (L:=L))
  have c2:=hL.get (Uy (cD:=cD) (d:=d) (dx:=dx) (m:=m) (p:=p) (bs:=bs) (L:=L))
  have hlb:((bs.map V.bl).length:Int)=bs.length:=by rw [List.length_map]
  refine ⟨_,(@af _ _ _ _ _ (@aK _ _ 2 _ _ _ _ sc.nd rfl (by walk_at "o2") (@aJ _ _ _ _ _ _ _ _ _ aO (by rfl) B.len bK (@aa _ _ _ _ _ (@az _ _ _ _ _ _ _ T.jK T.g9 (@aq _ 0 _ _ (by walk_at "v")) (by rfl)) (@aj _) (by rfl)) (by decide) (by decide) (by rfl) (by rfl)) (by rfl) (by walk_at "o4")) (@af _ _ _ _ _ (@iW _ _ _ _ _ _ _ _ PassesOwn.leaving rfl (@cE _ _ _ _ _ _ (by rfl) B.range (@aa _ _ _ _ _ (@av _ _ _ _ _ _ _ _ gp (@ak _ _ _ _) (@aq _ 2 _ _ (by walk_at "v"))) (@aj _) (by rfl)) (by rfl)) (@eK _ _ 3 _ sc.nd rfl (by walk_at "o2") (by walk_at "o4")) (@af _ _ _ _ _ (@aK _ _ 4 _ _ _ _ sc.nd rfl (by walk_at "o2") (@av _ _ _ _ _ _ _ _ aH (@av _ _ _ _ _ _ _ _ aV (@az _ _ _ _ _ _ _ T.jK T.iG (@aq _ 0 _ _ (by walk_at "v")) (by rfl)) (@aq _ 3 _ _ (by walk_at "v"))) (@aq _ 2 _ _ (by walk_at "v"))) (by rfl) (by walk_at "o4")) (@af _ _ _ _ _ (@aS _ _ _ _ _ _ _ _ (@PW.pt _ _ _ (@pw_and _ _ _ _ _ _ _ (@aZ _ _ _ (@aY _ _ _ _ _ _ _ aQ (@aq _ 1 _ _ (by walk_at "v")) (@aq _ 4 _ _ (by walk_at "v")) (λ _ _=>rfl)) (by intro _;rfl)) (@pw_and1 _ _ _ _ (@cV _ _ _ _ (@aZ _ _ _ (@aY _ _ _ _ _ _ _ aQ (@az _ _ _ _ _ _ _ T.jK T.g9 (@aq _ 0 _ _ (by walk_at "v")) (by rfl)) (@aq _ 4 _ _ (by walk_at "v")) (λ _ _=>rfl)) (by intro _;rfl)))))) (@af _ _ _ _ _ (@cy _ _ _ _ _ _ _ _ _ _ T.jK T.iG (@aq _ 0 _ _ (by walk_at "v")) (@av _ _ _ _ _ _ _ _ aH (@av _ _ _ _ _ _ _ _ aV (@aq _ 4 _ _ (by walk_at "v")) (@ak _ _ _ _)) (@aq _ 2 _ _ (by walk_at "v"))) (by rfl)) (@ao _ _ _ (@aE _ _ _ _ (@aq _ 4 _ _ (by walk_at "v"))))) (@aF _)) (@ao _ _ _ (@aS _ _ _ _ _ _ _ _ (@aZ _ _ _ (@aY _ _ _ _ _ _ _ aQ (@aq _ 1 _ _ (by walk_at "v")) (@aq _ 4 _ _ (by walk_at "v")) (λ _ _=>rfl)) (by intro _;rfl)) (@ao _ _ _ (@bJ _ _ _ _ _ _ (@bP _ _ _ _) (@bN _ _ _ _ _ _ _ (@az _ _ _ _ _ _ _ T.jK T.g9 (@aq _ 0 _ _ (by walk_at "v")) (by rfl)) (@aq _ 4 _ _ (by walk_at "v")) set_list (by intro _;rfl)) (by rfl) (by rfl) (by rfl))) (@aF _))))) (by intro _;rfl)) (@ao _ _ _ (@je _ _ _ _ _ _ _ _ _ _ _ _ _ _ _ _ _ _ _ _ _ _ T.Full (by rfl) (@aa _ _ _ _ _ (@dD _ _ _ _) (@aj _) (by rfl)) (by decide) (by rfl))))),?_⟩
  refine aG λ M1 K1 => ?_
  walk_at "gd"
  rw [hlb]
  refine K1.use ?_
  walk_at "cl"
  clear K1
  refine aG λ M1 K1 => ?_
  refine o5 λ Lr nE => ?_
  walk_at "gd"
  refine ⟨_,rfl,by omega,by omega,nE.use ?_⟩
  clear nE
  have hlr:(2 * (bs.length:Int)).toNat=2 * bs.length:=by omega
  rw [hlr]
  clear c1 c2
  refine o6 (λ i σ H' => ∃ cur:List Bool,Led H' (fQ cD d dx m p cur++L)/\cur.length=bs.length/\CI may (2 * may.length - i) (p+i) cur=CI may (2 * may.length) p bs/\(cur=bs\/true∈may) ∧ ∃ v1 v2,σ = [some (.ref d),some (.ref q),some (.int bs.length),v1,v2]) ⟨bs,hL,rfl,rfl,.inl rfl,_,_,rfl⟩ ?_ ?_
  ·clear hL K1
   rintro i σ H' hi ⟨cur,hl',hcl,hgo,Rn,v1,v2,rfl⟩
   have c1:=hl'.get (Lm (cD:=cD) (d:=d) (dx:=dx) (m:=m) (p:=p) (bs:=cur) (L:=L))
   have c2:=hl'.get (Uy (cD:=cD) (d:=d) (dx:=dx) (m:=m) (p:=p) (bs:=cur) (L:=L))
   have c3:=hl'.get (mA iq)
   refine aG λ M2 K2 => ?_
   walk_at "gd"
   have hfr:((p:Int)+(0+(i:Int))) % (bs.length:Int)=((p+i) % may.length:Nat):=by rw [hml];simp
   rw [hfr]
   refine K2.use ?_
   walk_at "cl"
   clear K2
   obtain ⟨f,hf⟩ : ∃ f:Nat,(p+i) % may.length=f:=⟨_,rfl⟩
   have hfl:f < may.length:=by rw [<-hf];exact Nat.mod_lt _ (by omega)
   obtain ⟨r,hr2⟩ : ∃ r,2 * may.length - i=r+1:=⟨2 * may.length - i - 1,by omega⟩
   rw [hr2] at hgo
   rw [Lu,hf] at hgo
   rw [hf]
   obtain ⟨my,xG⟩ : ∃ b,may.getD f false=b:=⟨_,rfl⟩
   obtain ⟨mk,Lz⟩ : ∃ b,cur.getD f false=b:=⟨_,rfl⟩
   rw [xG,Lz] at hgo
   have a1:iZ (may.map V.bl) ((f:Nat):Int)=some (.bl my):=dN (by omega) (by rw [Int.toNat_natCast,List.getElem?_map,List.getElem?_eq_getElem hfl,<-xG,List.getD_eq_getElem?_getD,List.getElem?_eq_getElem hfl];rfl)
   have hfc:f < cur.length:=by omega
   have a2:iZ (cur.map V.bl) ((f:Nat):Int)=some (.bl mk):=dN (by omega) (by rw [Int.toNat_natCast,List.getElem?_map,List.getElem?_eq_getElem hfc,<-Lz,List.getD_eq_getElem?_getD,List.getElem?_eq_getElem hfc];rfl)
   have hr3:2 * may.length - (i+1)=r:=by omega
   cases my with
   | false =>
     rw [if_neg (by simp),if_neg (by simp)] at hgo
     walk_at "gd"
     exact ⟨cur,hl',hcl,by rw [hr3];exact hgo,Rn,_,_,rfl⟩
   | true =>
     have hin:true∈may:=by
      rw [List.getD_eq_getElem?_getD,List.getElem?_eq_getElem hfl] at xG
      exact xG ▸ List.getElem_mem hfl
     cases mk with
     | false =>
       rw [if_pos ⟨rfl,rfl⟩] at hgo
       walk_at "gd"
       have hl2:=hl'.put (o' := .ins cD dx (jy ((f+1) % may.length:Nat) m)) rfl rfl
       have e1:((f:Int)+1) % (bs.length:Int)=((f+1) % may.length:Nat):=by rw [hml];simp
       rw [e1]
       exact k1 f cur _ hgo.symm hl2
     | true =>
       rw [if_neg (by simp),if_pos rfl] at hgo
       walk_at "gd"
       refine cQ c2 (bG (by omega) (by rw [List.length_map];omega)) ?_
       rw [sR,Int.toNat_natCast]
       walk_at "gd"
       exact ⟨cur.set f false,Led.Rm hl',by rw [List.length_set];exact hcl,by rw [hr3];exact hgo,.inr hin,_,_,rfl⟩
  ·clear hL
   rintro σ H' ⟨cur,hl',hcl,hgo,Rn,v1,v2,rfl⟩
   walk_at "gd"
   refine K1.use ?_
   walk_at "cl"
   clear K1
   have hno:true ∉ may:=λ hin=>by
    obtain ⟨r,hr2⟩:=Ly hin p bs
    rw [<-hgo,show 2 * may.length - 2 * bs.length=0 by omega] at hr2
    cases hr2
   have hc:cur=bs:=Rn.resolve_right hno
   subst hc
   refine nP λ R hR => ?_
   walk_at "gd"
   exact ⟨by decide,k2 _ hno hl'⟩
end
 local macro_rules | `(tactic| walk_at "spf") => `(tactic| (simp only [sP,FS.fill,FS.new,List.cons_append,List.nil_append];walk_at "sp"))
section
variable {P:Program} {w:World} {K:PySem.W.Frag} {mg:Str->Option Value} {base:Heap} {cU cA cB cC cT cF cD cS cI:Addr}
def LA:Sp:=λ vs H Q _ => ∃ (a b:Addr) (c:Int) (rs ms:List Int) (L:Cells),vs = [.ref a,.int c,.ref b]/\Led H L/\(a,HO.lst (rs.map V.int))∈L/\(b,HO.lst (ms.map V.int))∈L/\0<=c/\rs.length<=100/\ms.length<=100 ∧ ∀ p H',Led H' ((p,.lst ((rs.take c.toNat++ms++rs.drop (c.toNat+ms.length)).map V.int))::L)->Q (.ref p) H'
theorem NY (D:Def K mg "with_cells" dX) (B:jd mg):dF P w K mg base 1 "with_cells" ["row","cell","numbers"] LA:=by
 refine D.ok ym (λ vs H Q E h => ?_) (λ _ _ _ _ _ _ us hl=>match us,hl with | [_,_,_],_=>rfl) (λ f cdv A outer s H vs Q E hr h => ?_)
 ·obtain ⟨_,_,_,_,_,_,rfl,_⟩:=h;rfl
 ·obtain ⟨a,b,c,rs,ms,L,rfl,hL,ha,hb,hc,h1,h2,k⟩:=h
  refine ⟨_,(@ao _ _ _ (@aE _ _ _ _ (@av _ _ _ _ _ _ _ _ J9 (@av _ _ _ _ _ _ _ _ J9 (@kO _ _ _ _ _ _ _ _ _ _ (vt (K:=K) rfl) (@aq _ 0 _ _ (by walk_at "v")) (@uN _) (@l9 _ _ _ (@aq _ 1 _ _ (by walk_at "v")))) (@aq _ 2 _ _ (by walk_at "v"))) (@kO _ _ _ _ _ _ _ _ _ _ (vt (K:=K) rfl) (@aq _ 0 _ _ (by walk_at "v")) (@l9 _ _ _ (@av _ _ _ _ _ _ _ _ aV (@aq _ 1 _ _ (by walk_at "v")) (@aJ _ _ _ _ _ _ _ _ _ aO (by rfl) B.len bK (@aa _ _ _ _ _ (@aq _ 2 _ _ (by walk_at "v")) (@aj _) (by rfl)) (by decide) (by decide) (by rfl) (by rfl)))) (@uN _))))),?_⟩
  have c1:=kQ (rs.map V.int) none (some c)
  have c2:=kQ (rs.map V.int) (some (c+(ms.map V.int).length)) none
  simp only [List.length_map] at c1 c2
  have hsz:sizeLine=16777216:=sizeLine_eq
  walk_at "ge"
  rename_i p H' _ hL' _
  refine k p H' ?_
  have e:kP (rs.map V.int) none (some c)++ms.map V.int++kP (rs.map V.int) (some (c+(ms.map V.int).length)) none=(rs.take c.toNat++ms++rs.drop (c.toNat+ms.length)).map V.int:=by
   rw [QT _ hc,Ko _ (by omega),List.map_append,List.map_append,List.map_take,List.map_drop,List.length_map]
   congr 2
   omega
  rw [e] at hL'
  walk_at "led"
theorem Cj {α : Type} {f : α->V} {l:List α} {i:Nat} {x : α} (h:l[i]? = some x):iZ (l.map f) ((i:Nat):Int)=some (f x):=dN (by omega) (by rw [Int.toNat_natCast,List.getElem?_map,h];rfl)
def AR (cF:Addr):Sp:=λ vs H Q _ => ∃ (F:FS) (i:Nat) (x:Hd) (M:Cells),vs = [.ref F.b,.int (i:Nat)]/\Led H (sP cF F M)/\F.hs[i]? = some x/\Q (aX x) H
theorem DU (D:bF K cF "thing_in" "Frames.thing_in" bM) (T:Txt K mg cU cA cB cC cT cF cD cS cI):aM P w K mg base 1 cF "thing_in" ["self","frame"] (AR cF):=by
 have sc:=g8
 refine D.ok g8 (λ vs H Q E h => ?_) (λ _ _ _ _ _ _ us hl=>match us,hl with | [_,_],_=>rfl) (λ f cdv A outer s H vs Q E hr h => ?_)
 ·obtain ⟨_,_,_,_,rfl,_⟩:=h;rfl
 ·obtain ⟨F,i,x,M,rfl,hL,hx,k⟩:=h
  have hf1:(uP F.hl F.rl F.sl).lookup (Str.ofString "held")=some (.ref F.hl):=rfl
  have ha:=Cj (f:=aX) hx
  refine ⟨_,(@ao _ _ _ (@aE _ _ _ _ (@aY _ _ _ _ _ _ _ aQ (@az _ _ _ _ _ _ _ T.Frames T.nS (@aq _ 0 _ _ (by walk_at "v")) (by rfl)) (@aq _ 1 _ _ (by walk_at "v")) (λ _ _=>rfl)))),?_⟩
  walk_at "ge"
  exact k
def DV (cF:Addr):Sp:=λ vs H Q _ => ∃ (F:FS) (i:Nat) (x:Bool) (M:Cells),vs = [.ref F.b,.int (i:Nat)]/\Led H (sP cF F M)/\F.bs[i]? = some x/\Q (.bl x) H
theorem IY (D:bF K cF "is_soiled" "Frames.is_soiled" bH) (T:Txt K mg cU cA cB cC cT cF cD cS cI):aM P w K mg base 1 cF "is_soiled" ["self","frame"] (DV cF):=by
 have sc:=gA
 refine D.ok gA (λ vs H Q E h => ?_) (λ _ _ _ _ _ _ us hl=>match us,hl with | [_,_],_=>rfl) (λ f cdv A outer s H vs Q E hr h => ?_)
 ·obtain ⟨_,_,_,_,rfl,_⟩:=h;rfl
 ·obtain ⟨F,i,x,M,rfl,hL,hx,k⟩:=h
  have hf1:(uP F.hl F.rl F.sl).lookup (Str.ofString "soiled")=some (.ref F.sl):=rfl
  have ha:=Cj (f:=V.bl) hx
  refine ⟨_,(@ao _ _ _ (@aE _ _ _ _ (@aY _ _ _ _ _ _ _ aQ (@az _ _ _ _ _ _ _ T.Frames T.lu (@aq _ 0 _ _ (by walk_at "v")) (by rfl)) (@aq _ 1 _ _ (by walk_at "v")) (λ _ _=>rfl)))),?_⟩
  walk_at "ge"
  exact k
def Ck (cF:Addr):Sp:=λ vs H Q _ => ∃ (F:FS) (i:Nat) (r:Addr) (row:List Int) (M:Cells),vs = [.ref F.b,.int (i:Nat)]/\Led H (sP cF F M)/\F.rs[i]? = some (some (r,row))/\(r,HO.lst (row.map V.int))∈M/\row.length<=600 ∧ ∀ q H',Led H' ((q,.lst (row.map V.int))::sP cF F M)->Q (.ref q) H'
theorem IZ (D:bF K cF "row_in" "Frames.row_in" b4) (B:jd mg) (T:Txt K mg cU cA cB cC cT cF cD cS cI):aM P w K mg base 1 cF "row_in" ["self","frame"] (Ck cF):=by
 have sc:=jh
 refine D.ok jh (λ vs H Q E h => ?_) (λ _ _ _ _ _ _ us hl=>match us,hl with | [_,_],_=>rfl) (λ f cdv A outer s H vs Q E hr h => ?_)
 ·obtain ⟨_,_,_,_,_,rfl,_⟩:=h;rfl
 ·obtain ⟨F,i,r,row,M,rfl,hL,hx,sQ,hrl,k⟩:=h
  have hf1:(uP F.hl F.rl F.sl).lookup (Str.ofString "rows")=some (.ref F.rl):=rfl
  have ha:iZ (F.rs.map fK) ((i:Nat):Int)=some (.ref r):=Cj (f:=fK) hx
  have hrm:(row.map V.int).length=row.length:=List.length_map _
  refine ⟨_,(@ao _ _ _ (@aE _ _ _ _ (@bh _ _ _ _ _ _ _ _ _ (aT (K:=K) rfl) (by rfl) B.list bS (@aa _ _ _ _ _ (@aY _ _ _ _ _ _ _ aQ (@az _ _ _ _ _ _ _ T.Frames T.qB (@aq _ 0 _ _ (by walk_at "v")) (by rfl)) (@aq _ 1 _ _ (by walk_at "v")) (λ _ _=>rfl)) (@aj _) (by rfl)) (by decide) (by decide) (by rfl) (by rfl)))),?_⟩
  walk_at "ge"
  rename Led _ _=>hl1
  exact k _ _ hl1
theorem Pn {H:Hp} : ∀ {hs:List Hd},(∀ t a,some (t,a)∈hs->H t=some (.tup (gv a)))->bR H (hs.map aX) (PySem.W.kqdPs (hs.map λ x=>ek (kH x)))
 | [],_ => .nil
 | x::hs,h=>by
   rw [List.map_cons,List.map_cons,PySem.W.kqdPs]
   refine .cons ?_ (Pn λ t a ha=>h t a (mC ha))
   cases x with
   | none=>show eB H .aI (PySem.W.kqdP .none);rw [PySem.W.kqdP];exact .aI
   | some x=>exact xE (h x.1 x.2 mS)
theorem uQ {x:Option Th} (h : ∀ a,x=some a->F4 a) (k:Nat):PySem.W.kqdOk (k+1) (ek x)=true:=by
 cases x with
 | none=>rfl
 | some a=>exact NV (h a rfl) k
def qj (cF:Addr):Sp:=λ vs H Q _ => ∃ (F:FS) (n:Nat) (x:Hd) (M:Cells),vs = [.ref F.b,aX x]/\Led H (sP cF F M)/\Ej F n M/\(∀ t a,x=some (t,a)->(t,HO.tup (gv a))∈M/\F4 a)/\n<=600 ∧
 ((∀ y∈F.hs,kH y≠kH x)->Q .aI H) ∧ ∀ (j:Nat) y,F.hs[j]? = some y->kH y=kH x->(∀ (m:Nat) z,m < j->F.hs[m]? = some z->kH z≠kH x)->Q (.int (j:Nat)) H
theorem LB (D:bF K cF "where" "Frames.where" cM) (B:jd mg) (T:Txt K mg cU cA cB cC cT cF cD cS cI):aM P w K mg base 1 cF "where" ["self","thing"] (qj cF):=by
 have sc:=jW
 refine D.ok jW (λ vs H Q E h => ?_) (λ _ _ _ _ _ _ us hl=>match us,hl with | [_,_],_=>rfl) (λ f cdv A outer s H vs Q E hr h => ?_)
 ·obtain ⟨_,_,_,_,rfl,_⟩:=h;rfl
 ·obtain ⟨F,n,x,M,rfl,hL,g,hx,hn,k0,k1⟩:=h
  have hf1:(uP F.hl F.rl F.sl).lookup (Str.ofString "held")=some (.ref F.hl):=rfl
  have up : ∀ {c:Addr×HO},c∈M->c∈sP cF F M:=λ h=>mC (mC (mC (mC h)))
  have LC:H F.hl=some (.lst (F.hs.map aX)):=hL.get (mC mS)
  have d1:eB H (aX x) (PySem.W.kqdP (ek (kH x))):=by
   cases x with
   | none=>show eB H .aI (PySem.W.kqdP .none);rw [PySem.W.kqdP];exact .aI
   | some x=>exact xE (hL.get (up (hx x.1 x.2 rfl).1))
  have d2:=Pn (H:=H) (hs:=F.hs) λ t a ha=>hL.get (up (g.th t a ha).1)
  have o1:PySem.W.kqdOk 8 (ek (kH x))=true:=uQ (λ a ha=>by
   cases x with
   | none=>cases ha
   | some x=>cases ha;exact (hx x.1 x.2 rfl).2) 7
  have o2 : ∀ e∈F.hs.map (λ x=>ek (kH x)),PySem.W.kqdOk 7 e=true:=λ e he=>by
   obtain ⟨y,hy,rfl⟩:=List.mem_map.mp he
   refine uQ (λ a ha => ?_) 6
   cases y with
   | none=>cases ha
   | some y=>cases ha;exact (g.th y.1 y.2 hy).2
  refine ⟨_,(@af _ _ _ _ _ (@aS _ _ _ _ _ _ _ _ (@aL _ _ _ _ _ _ _ _ (qz hr.units) (@aq _ 1 _ _ (by walk_at "v")) (@az _ _ _ _ _ _ _ T.Frames T.nS (@aq _ 0 _ _ (by walk_at "v")) (by rfl)) (by with_unfolding_all rfl)) (@ao _ _ _ (@aE _ _ _ _ (@bE _ _ _))) (@aF _)) (@ao _ _ _ (@aE _ _ _ _ (@sD _ _ _ _ _ _ _ _ _ _ _ _ PySem.F.plainAttrs_list PySem.F.slot_list_index PySem.F.type_list_index (mq hr.units) (@az _ _ _ _ _ _ _ T.Frames T.nS (@aq _ 0 _ _ (by walk_at "v")) (by rfl)) (@aa _ _ _ _ _ (@aq _ 1 _ _ (by walk_at "v")) (@aj _) (by rfl)) (by rfl) (by rfl) (by rfl) (by rfl) (by rfl))))),?_⟩
  refine aG λ M1 K1 => ?_
  walk_at "ge"
  by_cases hin:ek (kH x)∈F.hs.map λ x=>ek (kH x)
  ·refine Bw (neg:=true) (b:=true) LC d1 d2 o1 o2 (iff_of_true rfl hin) ?_
   walk_at "ge"
   refine K1.use ?_
   walk_at "cl"
   clear K1
   walk_at "ge"
   refine ⟨Dl LC,?_⟩
   walk_at "ge"
   obtain ⟨y0,hy0,Uz⟩:=List.mem_map.mp hin
   have hex : ∃ y∈F.hs,decide (kH y=kH x)=true:=⟨y0,hy0,decide_eq_true (fJ.mp Uz)⟩
   have hlt:F.hs.findIdx (λ y=>decide (kH y=kH x)) < F.hs.length:=List.findIdx_lt_length_of_exists hex
   have hat:=List.getElem?_eq_getElem hlt
   have I0:kH (F.hs[F.hs.findIdx λ y=>decide (kH y=kH x)]'hlt)=kH x:=of_decide_eq_true (List.findIdx_getElem (w:=hlt))
   have hno : ∀ (m:Nat) z,m < F.hs.findIdx (λ y=>decide (kH y=kH x))->F.hs[m]? = some z->kH z≠kH x:=λ m z hm hz=>by
    have h:=List.not_of_lt_findIdx hm
    have hlm:m < F.hs.length:=(List.getElem?_eq_some_iff.mp hz).1
    have e:F.hs[m]=z:=(List.getElem?_eq_some_iff.mp hz).2
    rw [<-e]
    simpa using h
   generalize F.hs.findIdx (λ y=>decide (kH y=kH x))=j at hlt hat I0 hno
   refine GK LC d1 d2 o1 o2 (j:=j) (by rw [List.getElem?_map,hat];show some (ek _)=_;rw [I0]) (λ m e hm he => ?_) ?_
   ·rw [List.getElem?_map] at he
    obtain ⟨z,hz,rfl⟩:=Option.map_eq_some_iff.mp he
    exact λ q=>hno m z hm hz (fJ.mp q)
   ·walk_at "ge"
    exact k1 j _ hat I0 hno
  ·refine Bw (neg:=true) (b:=false) LC d1 d2 o1 o2 (iff_of_false Bool.false_ne_true hin) ?_
   walk_at "ge"
   exact k0 λ y hy e=>hin (List.mem_map.mpr ⟨y,hy,by rw [e]⟩)
theorem zZ (D:bF K cF "least_free" "Frames.least_free" bD) (T:Txt K mg cU cA cB cC cT cF cD cS cI) (iw:aM P w K mg base 1 cF "where" ["self","thing"] (qj cF)):aM P w K mg base 2 cF "least_free" ["self"] (λ vs H Q E => ∃ b,vs = [.ref b]/\qj cF [.ref b,.aI] H Q E):=by
 have sc:=gg
 refine D.ok gg (λ vs H Q E h => ?_) (λ _ _ _ _ _ _ us hl=>match us,hl with | [_],_=>rfl) (λ f cdv A outer s H vs Q E hr h => ?_)
 ·obtain ⟨_,rfl,_⟩:=h;rfl
 ·obtain ⟨b,rfl,F,n,x,M,e,hL,g,hx,hn,k0,k1⟩:=h
  obtain ⟨rfl,ex⟩:b=F.b/\aX x = .aI:=by
   injection e with e1 e2
   injection e1 with e1
   injection e2 with e2
   exact ⟨e1,e2.symm⟩
  refine ⟨_,(@ao _ _ _ (@aE _ _ _ _ (@aU _ _ _ _ _ _ _ _ _ _ _ _ _ _ _ _ T.Frames iw (hr.mono (by omega)) aB (@aq _ 0 _ _ (by walk_at "v")) (@aa _ _ _ _ _ (@bE _ _ _) (@aj _) (by rfl)) (by rfl) (by rfl) (by rfl)))),?_⟩
  walk_at "ge"
  refine ⟨F,n,x,M,by rw [ex];rfl,hL,g,hx,hn,λ h => ?_,λ j y h1 h2 h3 => ?_⟩
  ·walk_at "ge"
   exact k0 h
  ·walk_at "ge"
   exact k1 j y h1 h2 h3
def qk (cF:Addr):Sp:=λ vs H Q _ => ∃ (F:FS) (M:Cells),vs = [.ref F.b]/\Led H (sP cF F M)/\F.hs.length<=600 ∧ ∀ q H',Led H' ((q,.lst (F.hs.map aX))::sP cF F M)->Q (.ref q) H'
theorem Ja (D:bF K cF "things" "Frames.things" b6) (B:jd mg) (T:Txt K mg cU cA cB cC cT cF cD cS cI):aM P w K mg base 1 cF "things" ["self"] (qk cF):=by
 have sc:=jj
 refine D.ok jj (λ vs H Q E h => ?_) (λ _ _ _ _ _ _ us hl=>match us,hl with | [_],_=>rfl) (λ f cdv A outer s H vs Q E hr h => ?_)
 ·obtain ⟨_,_,rfl,_⟩:=h;rfl
 ·obtain ⟨F,M,rfl,hL,hn,k⟩:=h
  have hf1:(uP F.hl F.rl F.sl).lookup (Str.ofString "held")=some (.ref F.hl):=rfl
  have m1:(F.hs.map aX).length=F.hs.length:=List.length_map _
  refine ⟨_,(@ao _ _ _ (@aE _ _ _ _ (@bh _ _ _ _ _ _ _ _ _ (aT (K:=K) rfl) (by rfl) B.list bS (@aa _ _ _ _ _ (@az _ _ _ _ _ _ _ T.Frames T.nS (@aq _ 0 _ _ (by walk_at "v")) (by rfl)) (@aj _) (by rfl)) (by decide) (by decide) (by rfl) (by rfl)))),?_⟩
  walk_at "ge"
  rename Led _ _=>hl1
  exact k _ _ hl1
def GR (cF:Addr):Sp:=λ vs H Q _ => ∃ (F:FS) (n i:Nat) (c:Int) (q r:Addr) (row ms:List Int) (M:Cells),vs = [.ref F.b,.int (i:Nat),.int c,.ref q]/\Led H (sP cF F M)/\Ej F n M/\i < n/\F.rs[i]? = some (some (r,row))/\(q,HO.lst (ms.map V.int))∈M/\0<=c/\row.length<=100/\ms.length<=100 ∧
 ∀ p H',Led H' (sP cF { F with rs:=F.rs.set i (some (p,row.take c.toNat++ms++row.drop (c.toNat+ms.length))),bs:=F.bs.set i true } ((p,.lst ((row.take c.toNat++ms++row.drop (c.toNat+ms.length)).map V.int))::M))->Q .aI H'
theorem Jb (D:bF K cF "put_in" "Frames.put_in" b5) (B:jd mg) (T:Txt K mg cU cA cB cC cT cF cD cS cI) (Cm:dF P w K mg base 1 "with_cells" ["row","cell","numbers"] LA):aM P w K mg base 2 cF "put_in" ["self","frame","cell","numbers"] (GR cF):=by
 have sc:=ji
 refine D.ok ji (λ vs H Q E h => ?_) (λ _ _ _ _ _ _ us hl=>match us,hl with | [_,_,_,_],_=>rfl) (λ f cdv A outer s H vs Q E hr h => ?_)
 ·obtain ⟨_,_,_,_,_,_,_,_,_,rfl,_⟩:=h;rfl
 ·obtain ⟨F,n,i,c,q,r,row,ms,M,rfl,hL,g,hi,hx,VT,c0,h1,h2,k⟩:=h
  have hf2:(uP F.hl F.rl F.sl).lookup (Str.ofString "rows")=some (.ref F.rl):=rfl
  have hf3:(uP F.hl F.rl F.sl).lookup (Str.ofString "soiled")=some (.ref F.sl):=rfl
  have sQ:=g.rw r row (List.mem_of_getElem? hx)
  have ha:iZ (F.rs.map fK) ((i:Nat):Int)=some (.ref r):=Cj (f:=fK) hx
  have gr:=g.r
  have gs:=g.s
  have m2:(F.rs.map fK).length=F.rs.length:=List.length_map _
  have m3:(F.bs.map V.bl).length=F.bs.length:=List.length_map _
  have up : ∀ {c:Addr×HO},c∈M->c∈sP cF F M:=λ h=>mC (mC (mC (mC h)))
  refine ⟨_,(@af _ _ _ _ _ (@bJ _ _ _ _ _ _ (@aC _ _ _ _ _ _ _ _ _ _ _ Cm (hr.mono (by omega)) (by rfl) aB (@aa _ _ _ _ _ (@aY _ _ _ _ _ _ _ aQ (@az _ _ _ _ _ _ _ T.Frames T.qB (@aq _ 0 _ _ (by walk_at "v")) (by rfl)) (@aq _ 1 _ _ (by walk_at "v")) (λ _ _=>rfl)) (@aa _ _ _ _ _ (@aq _ 2 _ _ (by walk_at "v")) (@aa _ _ _ _ _ (@aq _ 3 _ _ (by walk_at "v")) (@aj _) (by rfl)) (by rfl)) (by rfl)) (by decide) (by rfl) (by rfl)) (@bN _ _ _ _ _ _ _ (@az _ _ _ _ _ _ _ T.Frames T.qB (@aq _ 0 _ _ (by walk_at "v")) (by rfl)) (@aq _ 1 _ _ (by walk_at "v")) set_list (by intro _;rfl)) (by rfl) (by rfl) (by rfl)) (@ao _ _ _ (@bJ _ _ _ _ _ _ (@bP _ _ _ _) (@bN _ _ _ _ _ _ _ (@az _ _ _ _ _ _ _ T.Frames T.lu (@aq _ 0 _ _ (by walk_at "v")) (by rfl)) (@aq _ 1 _ _ (by walk_at "v")) set_list (by intro _;rfl)) (by rfl) (by rfl) (by rfl)))),?_⟩
  refine aG λ M1 K1 => ?_
  walk_at "ge"
  refine ⟨r,q,c,row,ms,_,rfl,hL,up sQ,up VT,c0,h1,h2,λ p H2 hl2 => ?_⟩
  generalize row.take c.toNat++ms++row.drop (c.toNat+ms.length)=nw at hl2 k
  walk_at "ge"
  refine cQ (hl2.get (mC (mC (mC mS)))) (bG (by omega) (by omega)) ?_
  rw [Int.toNat_natCast,show (F.rs.map fK).set i (V.ref p)=(F.rs.set i (some (p,nw))).map fK by rw [List.map_set];rfl]
  have bT:Led (upd H2 F.rl (.lst ((F.rs.set i (some (p,nw))).map fK))) ((p,.lst (nw.map V.int))::(F.b,.ins cF F.dx (uP F.hl F.rl F.sl))::(F.hl,.lst (F.hs.map aX))::(F.rl,.lst ((F.rs.set i (some (p,nw))).map fK))::(F.sl,.lst (F.bs.map V.bl))::M):=hl2.jG 3 rfl rfl rfl
  generalize upd H2 F.rl (.lst ((F.rs.set i (some (p,nw))).map fK))=H4 at bT ⊢
  walk_at "ge"
  refine K1.use ?_
  walk_at "cl"
  clear K1 hl2 hL
  walk_at "ge"
  refine cQ (bT.get (mC (mC (mC (mC mS))))) (bG (by omega) (by omega)) ?_
  rw [Int.toNat_natCast,show (F.bs.map V.bl).set i (V.bl true)=(F.bs.set i true).map V.bl by rw [List.map_set]]
  have c7:Led (upd H4 F.sl (.lst ((F.bs.set i true).map V.bl))) ((p,.lst (nw.map V.int))::(F.b,.ins cF F.dx (uP F.hl F.rl F.sl))::(F.hl,.lst (F.hs.map aX))::(F.rl,.lst ((F.rs.set i (some (p,nw))).map fK))::(F.sl,.lst ((F.bs.set i true).map V.bl))::M):=bT.jG 4 rfl rfl rfl
  walk_at "ge"
  exact k p _ (c7.wk (by walk_at "spf"))
def CJ (l d:Addr):List (Str×V):=[("placed",.ref l),("row_by_sheet",.ref d)]
def Aa (cS b dx l d:Addr) (ps:List V) (es:ki):Cells:=(b,.ins cS dx (CJ l d))::(l,.lst ps)::(d,.dK (uO es))::jf es
section
variable {b dx l d:Addr} {ps:List V} {es:ki} {L:Cells}
theorem NZ:(b,HO.ins cS dx (CJ l d))∈Aa cS b dx l d ps es++L:=mS
theorem VU:(l,HO.lst ps)∈Aa cS b dx l d ps es++L:=mC mS
theorem sk3:(d,HO.dK (uO es))∈Aa cS b dx l d ps es++L:=mC (mC mS)
theorem sk4 {e:Int×Addr×List Int} (h:e∈es):(e.2.1,HO.lst (e.2.2.map V.int))∈Aa cS b dx l d ps es++L:=mB (mC (mC (mC (List.mem_map.mpr ⟨e,h,rfl⟩))))
end
def idx (ps:List V) (y:V):Nat:=ps.findIdx λ v=>Bb v y
theorem Cn {ps:List V} {y:V} (h:sC y ps=true) : ∃ v,ps[idx ps y]? = some v/\Bb v y=true:=by
 unfold sC at h
 rw [List.any_eq_true] at h
 obtain ⟨v,hv,he⟩:=h
 have hlt:ps.findIdx (λ v=>Bb v y) < ps.length:=List.findIdx_lt_length_of_exists ⟨v,hv,he⟩
 exact ⟨ps[ps.findIdx λ v=>Bb v y],List.getElem?_eq_getElem hlt,List.findIdx_getElem (w:=hlt)⟩
theorem Ro {ps:List V} {y:V} {m:Nat} {v:V} (hm:m < idx ps y) (hv:ps[m]? = some v):Bb v y=false:=by
 unfold idx at hm
 have h:=List.not_of_lt_findIdx hm
 have hlt:m < ps.length:=(List.getElem?_eq_some_iff.mp hv).1
 have e:ps[m]=v:=(List.getElem?_eq_some_iff.mp hv).2
 rw [<-e]
 simpa using h
theorem LD {ps:List V} {y:V} (h:sC y ps=true):idx ps y < ps.length:=by
 obtain ⟨v,hv,_⟩:=Cn h
 exact (List.getElem?_eq_some_iff.mp hv).1
theorem N7 {H:Hp} {Q:VK} {l:Addr} {ps:List V} {y:V} (h1:H l=some (.lst ps)) (fy:eE y=true) (fs:ps.all eE=true) (hin:sC y ps=true) (h:Q (.int (idx ps y:Nat)) H):EO (.ref l) [y] H Q:=by
 obtain ⟨v,hv,he⟩:=Cn hin
 exact Q4 h1 fy fs hv he (λ m w hm hw=>Ro hm hw) h
theorem aa7 (n:Nat):(List.replicate n [V.aI]).flatten=List.replicate n V.aI:=by
 induction n with
 | zero=>rfl
 | succ n ih=>rw [List.replicate_succ,List.flatten_cons,ih,List.replicate_succ];rfl
def GS (cS:Addr):Sp:=λ vs H Q _ => ∃ (b dx:Addr) (n:Int) (L:Cells),vs = [.ref b,.int n]/\Led H ((b,.ins cS dx [])::L)/\0<=n/\n<=600 ∧ ∀ l d H',Led H' (Aa cS b dx l d (List.replicate n.toNat .aI) []++L)->Q .aI H'
theorem Jc (D:nN K cS "Shelf.__init__" dY) (T:Txt K mg cU cA cB cC cT cF cD cS cI):iC P w K mg base 1 cS ["self","many"] (GS cS):=by
 have sc:=nk
 refine D.ok nk (λ vs H Q E h => ?_) (λ _ _ _ _ _ _ us hl=>match us,hl with | [_,_],_=>rfl) (λ f cdv A outer s H vs Q E hr h => ?_)
 ·obtain ⟨_,_,_,_,rfl,_⟩:=h;rfl
 ·obtain ⟨b,dx,n,L,rfl,hL,h0,NW,k⟩:=h
  refine ⟨_,(@af _ _ _ _ _ (@cy _ _ _ _ _ _ _ _ _ _ T.fz T.ia (@aq _ 0 _ _ (by walk_at "v")) (@av _ _ _ _ _ _ _ _ kR (@iY _ _ _ _ (@aa _ _ _ _ _ (@bE _ _ _) (@aj _) (by rfl))) (@aq _ 1 _ _ (by walk_at "v"))) (by rfl)) (@ao _ _ _ (@cy _ _ _ _ _ _ _ _ _ _ T.fz T.fB (@aq _ 0 _ _ (by walk_at "v")) (@vd _ _) (by rfl)))),?_⟩
  refine aG λ M1 K1 => ?_
  walk_at "gd"
  rename_i l0 H2 _ hl2 _ _ _
  refine Dk (hl2.get mS) ⟨by omega,by omega⟩ (by have:=sizeLine_eq;simp only [List.length_cons,List.length_nil];omega) (Led.alloc hl2 λ l H3 _ hl3 _ => ?_)
  rw [aa7] at hl3
  walk_at "gd"
  refine K1.use ?_
  walk_at "cl"
  clear K1
  have bT:Led H3 ((b,.ins cS dx [])::(l,.lst (List.replicate n.toNat .aI))::L):=hl3.wk (by walk_at "sp")
  have c7:Led (upd H3 b (.ins cS dx (cP (Str.ofString "placed") (V.ref l) []))) ((b,.ins cS dx [("placed",.ref l)])::(l,.lst (List.replicate n.toNat .aI))::L):=bT.put rfl rfl
  generalize upd H3 b (.ins cS dx (cP (Str.ofString "placed") (V.ref l) []))=H4 at c7 ⊢
  clear bT hl3 hl2 hL
  walk_at "gd"
  rename_i d H5 _ fL _
  have jx:=(fL.swap).put (o' := .ins cS dx (CJ l d)) rfl rfl
  exact k l d _ (jx.wk (by unfold Aa jf;simp only [uO,List.map_nil,List.cons_append,List.nil_append];walk_at "sp"))
def F7 (cS:Addr):Sp:=λ vs H Q _ => ∃ (b dx l d:Addr) (ps:List V),vs = [.ref b]/\H b=some (.ins cS dx (CJ l d))/\H l=some (.lst ps)/\ps.all eE=true/\Q (.bl (!sC .aI ps)) H
theorem N8 (D:bF K cS "is_full" "Shelf.is_full" b7) (T:Txt K mg cU cA cB cC cT cF cD cS cI):aM P w K mg base 1 cS "is_full" ["self"] (F7 cS):=by
 have sc:=jk
 refine D.ok jk (λ vs H Q E h => ?_) (λ _ _ _ _ _ _ us hl=>match us,hl with | [_],_=>rfl) (λ f cdv A outer s H vs Q E hr h => ?_)
 ·obtain ⟨_,_,_,_,_,rfl,_⟩:=h;rfl
 ·obtain ⟨b,dx,l,d,ps,rfl,c1,c2,fs,k⟩:=h
  have hf:(CJ l d).lookup (Str.ofString "placed")=some (.ref l):=rfl
  refine ⟨_,(@ao _ _ _ (@aE _ _ _ _ (@gF _ _ _ _ _ _ _ _ Bc (@bE _ _ _) (@az _ _ _ _ _ _ _ T.fz T.ia (@aq _ 0 _ _ (by walk_at "v")) (by rfl)) (by with_unfolding_all rfl)))),?_⟩
  walk_at "gd"
  refine ⟨l,ps,rfl,.inl (fq.of c2),rfl,fs,?_⟩
  walk_at "gd"
  exact k
def xH (cS:Addr):Sp:=λ vs H Q _ => ∃ (b dx l d:Addr) (ps:List V) (L:Cells),vs = [.ref b]/\Led H L/\H b=some (.ins cS dx (CJ l d))/\H l=some (.lst ps) ∧ ∀ r H',Led H' ((r,.lst ps)::L)->Q (.ref r) H'
theorem Jd (D:bF K cS "sheets" "Shelf.sheets" cO) (B:jd mg) (T:Txt K mg cU cA cB cC cT cF cD cS cI):aM P w K mg base 1 cS "sheets" ["self"] (xH cS):=by
 have sc:=jY
 refine D.ok jY (λ vs H Q E h => ?_) (λ _ _ _ _ _ _ us hl=>match us,hl with | [_],_=>rfl) (λ f cdv A outer s H vs Q E hr h => ?_)
 ·obtain ⟨_,_,_,_,_,_,rfl,_⟩:=h;rfl
 ·obtain ⟨b,dx,l,d,ps,L,rfl,hL,c1,c2,k⟩:=h
  have hf:(CJ l d).lookup (Str.ofString "placed")=some (.ref l):=rfl
  refine ⟨_,(@ao _ _ _ (@aE _ _ _ _ (@bh _ _ _ _ _ _ _ _ _ (aT (K:=K) rfl) (by rfl) B.list bS (@aa _ _ _ _ _ (@az _ _ _ _ _ _ _ T.fz T.ia (@aq _ 0 _ _ (by walk_at "v")) (by rfl)) (@aj _) (by rfl)) (by decide) (by decide) (by rfl) (by rfl)))),?_⟩
  walk_at "gd"
  rename_i r H1 _ hl1 _
  exact k r _ hl1
def Po (cS cU:Addr):Sp:=λ vs H Q E => ∃ (b dx l d r:Addr) (n:Int) (row:List Int) (ps:List V) (es:ki) (L:Cells),vs = [.ref b,.int n,.ref r]/\Led H (Aa cS b dx l d ps es++L)/\(r,HO.lst (row.map V.int))∈L/\ps.all eE=true/\n ∉ es.map (·.1)/\es.length<=600 ∧
 (sC .aI ps=true->∀ a H',Led H' (Aa cS b dx l d (ps.set (idx ps .aI) (.int n)) (es++[(n,a,row)])++L)->Q (.int (idx ps .aI:Nat)) H')/\(sC .aI ps=false->E (.ref cU) none H)
theorem Je (es:ki) (n:Int) (a:Addr) (row:List Int):jf (es++[(n,a,row)])=jf es++[(a,HO.lst (row.map V.int))]:=by unfold jf;rw [List.map_append];rfl
theorem Rp (D:bF K cS "put_on" "Shelf.put_on" cN) (B:jd mg) (T:Txt K mg cU cA cB cC cT cF cD cS cI) (gw:aM P w K mg base 1 cS "is_full" ["self"] (F7 cS)):aM P w K mg base 2 cS "put_on" ["self","sheet","row"] (Po cS cU):=by
 have sc:=jX
 refine D.Di jX (λ vs H Q E h => ?_) (λ _ _ _ _ _ _ us hl=>match us,hl with | [_,_,_],_=>rfl) (λ f cdv A outer s H vs Q E hr h => ?_)
 ·obtain ⟨_,_,_,_,_,_,_,_,_,_,rfl,_⟩:=h;rfl
 ·obtain ⟨b,dx,l,d,r,n,row,ps,es,L,rfl,hL,sQ,fs,hn,NW,k1,k2⟩:=h
  have hu:=iU hr
  have hf1:(CJ l d).lookup (Str.ofString "placed")=some (.ref l):=rfl
  have hf2:(CJ l d).lookup (Str.ofString "row_by_sheet")=some (.ref d):=rfl
  have c1:=hL.get (NZ (cS:=cS) (b:=b) (dx:=dx) (l:=l) (d:=d) (ps:=ps) (es:=es) (L:=L))
  have c2:=hL.get (VU (cS:=cS) (b:=b) (dx:=dx) (l:=l) (d:=d) (ps:=ps) (es:=es) (L:=L))
  refine ⟨_,(@af _ _ _ _ _ (@aS _ _ _ _ _ _ _ _ (@aZ _ _ _ (@dh _ _ _ _ _ _ _ _ _ _ _ _ _ T.fz gw (hr.mono (by omega)) aB (@aq _ 0 _ _ (by walk_at "v")) (by rfl)) (by intro _;rfl)) (@ao _ _ _ (@je _ _ _ _ _ _ _ _ _ _ _ _ _ _ _ _ _ _ _ _ _ _ T.Full (by rfl) (@aa _ _ _ _ _ (@dD _ _ _ _) (@aj _) (by rfl)) (by decide) (by rfl))) (@aF _)) (@af _ _ _ _ _ (@aK _ _ 3 _ _ _ _ sc.nd rfl (by walk_at "o2") (@sD _ _ _ _ _ _ _ _ _ _ _ _ PySem.F.plainAttrs_list PySem.F.slot_list_index PySem.F.type_list_index pA (@az _ _ _ _ _ _ _ T.fz T.ia (@aq _ 0 _ _ (by walk_at "v")) (by rfl)) (@aa _ _ _ _ _ (@bE _ _ _) (@aj _) (by rfl)) (by rfl) (by rfl) (by rfl) (by rfl) (by rfl)) (by rfl) (by walk_at "o4")) (@af _ _ _ _ _ (@bJ _ _ _ _ _ _ (@aq _ 1 _ _ (by walk_at "v")) (@bN _ _ _ _ _ _ _ (@az _ _ _ _ _ _ _ T.fz T.ia (@aq _ 0 _ _ (by walk_at "v")) (by rfl)) (@aq _ 3 _ _ (by walk_at "v")) set_list (by intro _;rfl)) (by rfl) (by rfl) (by rfl)) (@af _ _ _ _ _ (@l8 _ _ _ _ _ _ _ _ _ hu (@az _ _ _ _ _ _ _ T.fz T.fB (@aq _ 0 _ _ (by walk_at "v")) (by rfl)) (@aq _ 1 _ _ (by walk_at "v")) (@bh _ _ _ _ _ _ _ _ _ (aT (K:=K) rfl) (by rfl) B.list bS (@aa _ _ _ _ _ (@aq _ 2 _ _ (by walk_at "v")) (@aj _) (by rfl)) (by decide) (by decide) (by rfl) (by rfl)) rfl) (@ao _ _ _ (@aE _ _ _ _ (@aq _ 3 _ _ (by walk_at "v")))))))),?_⟩
  refine aG λ M1 K1 => ?_
  walk_at "ge"
  refine ⟨b,dx,l,d,ps,rfl,c1,c2,fs,?_⟩
  cases hin:sC .aI ps with
  | false =>
    walk_at "ge"
    refine nP λ R hR => ?_
    walk_at "ge"
    exact ⟨by decide,k2 hin⟩
  | true =>
    walk_at "ge"
    refine K1.use ?_
    walk_at "cl"
    clear K1
    refine aG λ M1 K1 => ?_
    walk_at "ge"
    refine ⟨Dl c2,?_⟩
    walk_at "ge"
    refine N7 c2 rfl fs hin ?_
    walk_at "ge"
    refine K1.use ?_
    walk_at "cl"
    clear K1
    have hlt:=LD hin
    refine aG λ M1 K1 => ?_
    walk_at "ge"
    refine cQ c2 (bG (by omega) (by omega)) ?_
    rw [Int.toNat_natCast]
    have hl2:Led (upd H l (.lst (ps.set (idx ps .aI) (.int n)))) (Aa cS b dx l d (ps.set (idx ps .aI) (.int n)) es++L):=(Led.put (Led.swap (show Led H ((b,.ins cS dx (CJ l d))::(l,.lst ps)::((d,.dK (uO es))::jf es++L)) from hL)) rfl rfl).swap
    generalize upd H l (.lst (ps.set (idx ps .aI) (.int n)))=H2 at hl2 ⊢
    generalize ps.set (idx ps .aI) (.int n)=ps2 at hl2 k1
    walk_at "ge"
    refine K1.use ?_
    walk_at "cl"
    clear K1 c1 c2 hL
    have c1:=hl2.get (NZ (cS:=cS) (b:=b) (dx:=dx) (l:=l) (d:=d) (ps:=ps2) (es:=es) (L:=L))
    have oS:=hl2.get (mA sQ)
    have afv:Led H2 ((b,.ins cS dx (CJ l d))::(l,.lst ps2)::(d,.dK (uO es))::(jf es++L)):=hl2
    clear hl2
    refine aG λ M1 K1 => ?_
    walk_at "ge"
    rename_i a H3 _ hl3 _ _ _ _ _ _ _
    have bT:Led H3 ((d,.dK (uO es))::(b,.ins cS dx (CJ l d))::(l,.lst ps2)::(jf es++((a,.lst (row.map V.int))::L))):=hl3.wk (by walk_at "sp")
    refine Pf (bT.get mS) (by unfold uO;rw [List.length_map];have:=sizeLine_eq;omega) ?_
    rw [Nu hn a row]
    have c7:=bT.put (o' := .dK (uO (es++[(n,a,row)]))) rfl rfl
    walk_at "ge"
    refine K1.use ?_
    walk_at "ge"
    refine k1 hin a _ (c7.wk ?_)
    unfold Aa
    rw [Je]
    simp only [List.cons_append,List.append_assoc,List.nil_append]
    walk_at "sp"
def LF (cS:Addr):Sp:=λ vs H Q _ => ∃ (b dx l d:Addr) (ps:List V) (es:ki) (e:Int×Addr×List Int) (L:Cells),vs = [.ref b,.int e.1]/\Led H (Aa cS b dx l d ps es++L)/\ps.all eE=true/\sC (.int e.1) ps=true/\(es.map (·.1)).Nodup/\e∈es ∧
 ∀ H',Led H' ((e.2.1,.lst (e.2.2.map V.int))::(Aa cS b dx l d (ps.set (idx ps (.int e.1)) .aI) (es.filter λ x=>decide (x.1≠e.1))++L))->Q (.ref e.2.1) H'
theorem N9 (D:bF K cS "take_off" "Shelf.take_off" bX) (B:jd mg) (T:Txt K mg cU cA cB cC cT cF cD cS cI):aM P w K mg base 1 cS "take_off" ["self","sheet"] (LF cS):=by
 have sc:=iF
 refine D.ok iF (λ vs H Q E h => ?_) (λ _ _ _ _ _ _ us hl=>match us,hl with | [_,_],_=>rfl) (λ f cdv A outer s H vs Q E hr h => ?_)
 ·obtain ⟨_,_,_,_,_,_,_,_,rfl,_⟩:=h;rfl
 ·obtain ⟨b,dx,l,d,ps,es,e,L,rfl,hL,fs,hin,nd,he,k⟩:=h
  have hu:=iU hr
  have hf1:(CJ l d).lookup (Str.ofString "placed")=some (.ref l):=rfl
  have hf2:(CJ l d).lookup (Str.ofString "row_by_sheet")=some (.ref d):=rfl
  have mZ:Led H ((b,.ins cS dx (CJ l d))::(l,.lst ps)::(d,.dK (uO es))::(jf es++L)):=hL
  have c2:H l=some (.lst ps):=mZ.get (mC mS)
  have hlt:=LD hin
  have hv:bB (uO es) (.inl e.1)=some (.ref e.2.1):=by rw [Bv,pB nd he];rfl
  refine ⟨_,(@af _ _ _ _ _ (@bJ _ _ _ _ _ _ (@bE _ _ _) (@bN _ _ _ _ _ _ _ (@az _ _ _ _ _ _ _ T.fz T.ia (@aq _ 0 _ _ (by walk_at "v")) (by rfl)) (@sD _ _ _ _ _ _ _ _ _ _ _ _ PySem.F.plainAttrs_list PySem.F.slot_list_index PySem.F.type_list_index pA (@az _ _ _ _ _ _ _ T.fz T.ia (@aq _ 0 _ _ (by walk_at "v")) (by rfl)) (@aa _ _ _ _ _ (@aq _ 1 _ _ (by walk_at "v")) (@aj _) (by rfl)) (by rfl) (by rfl) (by rfl) (by rfl) (by rfl)) set_list (by intro _;rfl)) (by rfl) (by rfl) (by rfl)) (@ao _ _ _ (@aE _ _ _ _ (@J5 _ _ _ _ _ _ _ (@az _ _ _ _ _ _ _ T.fz T.fB (@aq _ 0 _ _ (by walk_at "v")) (by rfl)) (@aq _ 1 _ _ (by walk_at "v")) ⟨rfl,rfl,rfl,rfl⟩)))),?_⟩
  refine aG λ M1 K1 => ?_
  walk_at "ge"
  refine ⟨Dl c2,?_⟩
  walk_at "ge"
  refine N7 c2 rfl fs hin ?_
  walk_at "ge"
  refine cQ c2 (bG (by omega) (by omega)) ?_
  rw [Int.toNat_natCast]
  have hl2:Led (upd H l (.lst (ps.set (idx ps (.int e.1)) .aI))) ((b,.ins cS dx (CJ l d))::(l,.lst (ps.set (idx ps (.int e.1)) .aI))::(d,.dK (uO es))::(jf es++L)):=(Led.put (Led.swap mZ) rfl rfl).swap
  generalize upd H l (.lst (ps.set (idx ps (.int e.1)) .aI))=H2 at hl2 ⊢
  generalize ps.set (idx ps (.int e.1)) .aI=ps2 at hl2 k
  walk_at "ge"
  refine K1.use ?_
  walk_at "cl"
  clear K1 c2 hL mZ
  have c3:H2 d=some (.dK (uO es)):=hl2.get (mC (mC mS))
  walk_at "ge"
  refine QZ λ R5 hR5 => ?_
  walk_at "ge"
  refine Uh c3 hv ?_
  rw [Ku]
  obtain ⟨as,bs,hab,aa8⟩:=HU nd he
  have hl3:Led H2 ((d,.dK (uO es))::(e.2.1,.lst (e.2.2.map V.int))::(b,.ins cS dx (CJ l d))::(l,.lst ps2)::(jf as++(jf bs++L))):=by
   have UA:=hl2
   rw [hab,Kv,<-hab] at UA
   exact UA.wk (by simp only [List.append_assoc,List.cons_append];walk_at "sp")
  have bT:=hl3.put (o' := .dK (uO (es.filter λ x=>decide (x.1≠e.1)))) rfl rfl
  walk_at "ge"
  refine k _ (bT.wk ?_)
  unfold Aa
  rw [aa8,Kw]
  simp only [List.cons_append,List.append_assoc]
  walk_at "sp"
def GU (cS:Addr):Sp:=λ vs H Q _ => ∃ (b dx l d:Addr) (ps:List V) (es:ki) (e:Int×Addr×List Int) (L:Cells),vs = [.ref b,.int e.1]/\Led H (Aa cS b dx l d ps es++L)/\(es.map (·.1)).Nodup/\e∈es ∧ ∀ r H',Led H' ((r,.lst (e.2.2.map V.int))::(Aa cS b dx l d ps es++L))->Q (.ref r) H'
theorem Jf (D:bF K cS "row_of_sheet" "Shelf.row_of_sheet" bx) (B:jd mg) (T:Txt K mg cU cA cB cC cT cF cD cS cI):aM P w K mg base 1 cS "row_of_sheet" ["self","sheet"] (GU cS):=by
 have sc:=fO
 refine D.ok fO (λ vs H Q E h => ?_) (λ _ _ _ _ _ _ us hl=>match us,hl with | [_,_],_=>rfl) (λ f cdv A outer s H vs Q E hr h => ?_)
 ·obtain ⟨_,_,_,_,_,_,_,_,rfl,_⟩:=h;rfl
 ·obtain ⟨b,dx,l,d,ps,es,e,L,rfl,hL,nd,he,k⟩:=h
  have hu:=iU hr
  have hf:(CJ l d).lookup (Str.ofString "row_by_sheet")=some (.ref d):=rfl
  have c1:=hL.get (NZ (cS:=cS) (b:=b) (dx:=dx) (l:=l) (d:=d) (ps:=ps) (es:=es) (L:=L))
  have c3:=hL.get (sk3 (cS:=cS) (b:=b) (dx:=dx) (l:=l) (d:=d) (ps:=ps) (es:=es) (L:=L))
  have c4:=hL.get (sk4 (cS:=cS) (b:=b) (dx:=dx) (l:=l) (d:=d) (ps:=ps) (L:=L) he)
  have hv:bB (uO es) (.inl e.1)=some (.ref e.2.1):=by rw [Bv,pB nd he];rfl
  refine ⟨_,(@ao _ _ _ (@aE _ _ _ _ (@bh _ _ _ _ _ _ _ _ _ (aT (K:=K) rfl) (by rfl) B.list bS (@aa _ _ _ _ _ (@iB _ _ _ _ _ _ hu (@az _ _ _ _ _ _ _ T.fz T.fB (@aq _ 0 _ _ (by walk_at "v")) (by rfl)) (@aq _ 1 _ _ (by walk_at "v")) (λ _ _=>rfl)) (@aj _) (by rfl)) (by decide) (by decide) (by rfl) (by rfl)))),?_⟩
  walk_at "ge"
  refine Ud c3 hv ?_
  walk_at "ge"
  rename_i r H1 _ hl1 _
  exact k r _ hl1
end
section
variable {P:Program} {w:World} {K:PySem.W.Frag} {mg:Str->Option Value} {base:Heap} {cU cA cB cC cT cF cD cS cI:Addr}
def iV (d:Addr):List (Str×V):=[("rows_by_name",.ref d)]
abbrev Jg (cI b dx d:Addr) (es:cR) (R:Cells):Cells:=(b,.ins cI dx (iV d))::(d,.dK (xZ es))::(nQ es++R)
structure FH (cI:Addr) (H:Hp) (b dx d:Addr) (es:cR):Prop where
 cb:H b=some (.ins cI dx (iV d))
 cd:H d=some (.dK (xZ es))
 cf : ∀ e∈es,H e.2.1=some (.lst (oR e.2.2))
 nd:(es.map (·.1)).Nodup
theorem FH.of {cI:Addr} {H:Hp} {b dx d:Addr} {es:cR} {R:Cells} (hL:Led H (Jg cI b dx d es R)) (nd:(es.map (·.1)).Nodup):FH cI H b dx d es :=
 ⟨hL.get mS,hL.get (mC mS),λ e he=>hL.get (mC (mC (mB (Ky he)))),nd⟩
theorem LG (es:cR) (z:Str):(bB (xZ es) (.inr z)).isSome=decide (z∈es.map (·.1)):=by
 by_cases h:z∈es.map (·.1)
 ·rw [decide_eq_true h,By,Option.isSome_map]
  obtain ⟨e,he,rfl⟩:=List.mem_map.mp h
  rw [List.find?_isSome]
  exact ⟨e,he,decide_eq_true rfl⟩
 ·rw [decide_eq_false h,Dm h];rfl
def GV (cI:Addr):Sp:=λ vs H Q _ => ∃ (b dx:Addr) (L:Cells),vs = [.ref b]/\Led H ((b,.ins cI dx [])::L) ∧ ∀ d H',Led H' (Jg cI b dx d [] L)->Q .aI H'
theorem LH (D:nN K cI "Files.__init__" dU) (T:Txt K mg cU cA cB cC cT cF cD cS cI):iC P w K mg base 1 cI ["self"] (GV cI):=by
 have sc:=ni
 refine D.ok ni (λ vs H Q E h => ?_) (λ _ _ _ _ _ _ us hl=>match us,hl with | [_],_=>rfl) (λ f cdv A outer s H vs Q E hr h => ?_)
 ·obtain ⟨_,_,_,rfl,_⟩:=h;rfl
 ·obtain ⟨b,dx,L,rfl,hL,k⟩:=h
  refine ⟨_,(@ao _ _ _ (@cy _ _ _ _ _ _ _ _ _ _ T.gB T.bY (@aq _ 0 _ _ (by walk_at "v")) (@vd _ _) (by rfl))),?_⟩
  walk_at "gd"
  rename_i d H5 _ fL _
  have jx:=(fL.swap).put (o' := .ins cI dx (iV d)) rfl rfl
  exact k d _ jx
def LI (cI cA:Addr):Sp:=λ vs H Q E => ∃ (b dx d:Addr) (es:cR) (z:Str),vs = [.ref b,.str z]/\FH cI H b dx d es/\(z∈es.map (·.1)->Q .aI H)/\(z ∉ es.map (·.1)->E (.ref cA) none H)
theorem DW (D:bF K cI "ask_name" "Files.ask_name" bV) (B:jd mg) (T:Txt K mg cU cA cB cC cT cF cD cS cI):aM P w K mg base 1 cI "ask_name" ["self","name"] (LI cI cA):=by
 have sc:=iD
 refine D.Di iD (λ vs H Q E h => ?_) (λ _ _ _ _ _ _ us hl=>match us,hl with | [_,_],_=>rfl) (λ f cdv A outer s H vs Q E hr h => ?_)
 ·obtain ⟨_,_,_,_,_,rfl,_⟩:=h;rfl
 ·obtain ⟨b,dx,d,es,z,rfl,fh,k1,k2⟩:=h
  have hu:=iU hr
  have hf:(iV d).lookup (Str.ofString "rows_by_name")=some (.ref d):=rfl
  have c1:=fh.cb
  have c2:=fh.cd
  refine ⟨_,(@ao _ _ _ (@aS _ _ _ _ _ _ _ _ (@JC _ _ _ _ _ _ (@HE _ _ _ _ _ hu (@aq _ 1 _ _ (by walk_at "v")) (@az _ _ _ _ _ _ _ T.gB T.bY (@aq _ 0 _ _ (by walk_at "v")) (by rfl))) (by first | exact oV _ (by decide) (by decide) | rfl)) (@ao _ _ _ (@je _ _ _ _ _ _ _ _ _ _ _ _ _ _ _ _ _ _ _ _ _ _ T.Ra (by rfl) (@aa _ _ _ _ _ (@dD _ _ _ _) (@aj _) (by rfl)) (by decide) (by rfl))) (@aF _))),?_⟩
  walk_at "ge"
  refine Up c2 ?_
  rw [LG]
  by_cases hz:z∈es.map (·.1)
  ·rw [decide_eq_true hz]
   walk_at "ge"
   exact k1 hz
  ·rw [decide_eq_false hz]
   walk_at "ge"
   refine nP λ R hR => ?_
   walk_at "ge"
   exact ⟨by decide,k2 hz⟩
def LJ (cI cA:Addr):Sp:=λ vs H Q E => ∃ (b dx d:Addr) (es:cR) (z:Str),vs = [.ref b,.str z]/\FH cI H b dx d es/\(∀ e∈es,e.1=z->Q (.int (e.2.2.length:Nat)) H)/\(z ∉ es.map (·.1)->E (.ref cA) none H)
theorem Oa (D:bF K cI "size_of" "Files.size_of" b3) (B:jd mg) (T:Txt K mg cU cA cB cC cT cF cD cS cI) (rW:aM P w K mg base 1 cI "ask_name" ["self","name"] (LI cI cA)):aM P w K mg base 2 cI "size_of" ["self","name"] (LJ cI cA):=by
 have sc:=jg
 refine D.Di jg (λ vs H Q E h => ?_) (λ _ _ _ _ _ _ us hl=>match us,hl with | [_,_],_=>rfl) (λ f cdv A outer s H vs Q E hr h => ?_)
 ·obtain ⟨_,_,_,_,_,rfl,_⟩:=h;rfl
 ·obtain ⟨b,dx,d,es,z,rfl,fh,k1,k2⟩:=h
  have hu:=iU hr
  have hf:(iV d).lookup (Str.ofString "rows_by_name")=some (.ref d):=rfl
  have c1:=fh.cb
  have c2:=fh.cd
  refine ⟨_,(@af _ _ _ _ _ (@b9 _ _ _ _ (@aU _ _ _ _ _ _ _ _ _ _ _ _ _ _ _ _ T.gB rW (hr.mono (by omega)) jS (@aq _ 0 _ _ (by walk_at "v")) (@aa _ _ _ _ _ (@aq _ 1 _ _ (by walk_at "v")) (@aj _) (by rfl)) (by rfl) (by rfl) (by rfl)) (by rfl)) (@ao _ _ _ (@aE _ _ _ _ (@aJ _ _ _ _ _ _ _ _ _ aO (by rfl) B.len bK (@aa _ _ _ _ _ (@iB _ _ _ _ _ _ hu (@az _ _ _ _ _ _ _ T.gB T.bY (@aq _ 0 _ _ (by walk_at "v")) (by rfl)) (@aq _ 1 _ _ (by walk_at "v")) (λ _ _=>rfl)) (@aj _) (by rfl)) (by decide) (by decide) (by rfl) (by rfl))))),?_⟩
  refine aG λ M1 K1 => ?_
  walk_at "ge"
  refine ⟨b,dx,d,es,z,rfl,fh,λ hz => ?_,λ hz => ?_⟩
  ·obtain ⟨e,he,rfl⟩:=List.mem_map.mp hz
   have c3:=fh.cf e he
   walk_at "ge"
   refine K1.use ?_
   walk_at "cl"
   clear K1
   walk_at "ge"
   refine Kz c2 (vB fh.nd he) ?_
   walk_at "ge"
   rw [gI]
   exact k1 e he rfl
  ·exact k2 hz
def F8 (cI cA cB:Addr):Sp:=λ vs H Q E => ∃ (b dx d:Addr) (es:cR) (z:Str) (p:Int),vs = [.ref b,.str z,.int p]/\FH cI H b dx d es/\(∀ e∈es,e.1=z->0<=p->p < e.2.2.length->Q .aI H)/\(∀ e∈es,e.1=z->¬ (0<=p/\p < e.2.2.length)->E (.ref cB) none H)/\(z ∉ es.map (·.1)->E (.ref cA) none H)
theorem DX (D:bF K cI "ask_page" "Files.ask_page" bW) (B:jd mg) (T:Txt K mg cU cA cB cC cT cF cD cS cI) (uG:aM P w K mg base 2 cI "size_of" ["self","name"] (LJ cI cA)):aM P w K mg base 3 cI "ask_page" ["self","name","page"] (F8 cI cA cB):=by
 have sc:=iE
 refine D.Di iE (λ vs H Q E h => ?_) (λ _ _ _ _ _ _ us hl=>match us,hl with | [_,_,_],_=>rfl) (λ f cdv A outer s H vs Q E hr h => ?_)
 ·obtain ⟨_,_,_,_,_,_,rfl,_⟩:=h;rfl
 ·obtain ⟨b,dx,d,es,z,p,rfl,fh,k1,k2,k3⟩:=h
  have c1:=fh.cb
  refine ⟨_,(@af _ _ _ _ _ (@aK _ _ 3 _ _ _ _ sc.nd rfl (by walk_at "o2") (@aU _ _ _ _ _ _ _ _ _ _ _ _ _ _ _ _ T.gB uG (hr.mono (by omega)) jS (@aq _ 0 _ _ (by walk_at "v")) (@aa _ _ _ _ _ (@aq _ 1 _ _ (by walk_at "v")) (@aj _) (by rfl)) (by rfl) (by rfl) (by rfl)) (by rfl) (by walk_at "o4")) (@ao _ _ _ (@aS _ _ _ _ _ _ _ _ (@PW.pt _ _ _ (@pw_or _ _ _ _ _ _ _ (@aL _ _ _ _ _ _ _ _ Al (@aq _ 2 _ _ (by walk_at "v")) (@ak _ _ _ _) (aP _)) (@pw_or1 _ _ _ _ (@aL _ _ _ _ _ _ _ _ SO (@aq _ 2 _ _ (by walk_at "v")) (@aq _ 3 _ _ (by walk_at "v")) (aP _))))) (@ao _ _ _ (@je _ _ _ _ _ _ _ _ _ _ _ _ _ _ _ _ _ _ _ _ _ _ T.Rb (by rfl) (@aa _ _ _ _ _ (@dD _ _ _ _) (@aj _) (by rfl)) (by decide) (by rfl))) (@aF _)))),?_⟩
  refine aG λ M1 K1 => ?_
  walk_at "ge"
  refine ⟨b,dx,d,es,z,rfl,fh,λ e he hz => ?_,λ hz => ?_⟩
  ·walk_at "ge"
   refine K1.use ?_
   walk_at "cl"
   clear K1
   walk_at "ge"
   ·refine nP λ R hR => ?_
    walk_at "ge"
    exact ⟨by decide,k2 e he hz (by omega)⟩
   ·refine nP λ R hR => ?_
    walk_at "ge"
    exact ⟨by decide,k2 e he hz (by omega)⟩
   ·exact k1 e he hz (by omega) (by omega)
  ·exact k3 hz
def GW (cI cA cB:Addr):Sp:=λ vs H Q E => ∃ (b dx d r0:Addr) (es:cR) (z:Str) (p:Int) (row:List Int) (R:Cells),vs = [.ref b,.str z,.int p,.ref r0]/\Led H (Jg cI b dx d es R)/\(es.map (·.1)).Nodup/\(r0,HO.lst (row.map V.int))∈R/\row.length<=600/\(∀ (as bs:cR) (e:yk),es=as++e::bs->e.1=z->∀ j:Nat,p=((j:Nat):Int)->j < e.2.2.length->∀ (nr:Addr) (H':Hp),Led H' (Jg cI b dx d (as++(e.1,e.2.1,e.2.2.set j (nr,row))::bs) ((nr,.lst (row.map V.int))::R))->Q .aI H')/\(∀ e∈es,e.1=z->¬ (0<=p/\p < e.2.2.length)->E (.ref cB) none H)/\(z ∉ es.map (·.1)->E (.ref cA) none H)
theorem LK (D:bF K cI "store_row" "Files.store_row" bL) (B:jd mg) (T:Txt K mg cU cA cB cC cT cF cD cS cI) (fU:aM P w K mg base 3 cI "ask_page" ["self","name","page"] (F8 cI cA cB)):aM P w K mg base 4 cI "store_row" ["self","name","page","row"] (GW cI cA cB):=by
 have sc:=g7
 refine D.Di g7 (λ vs H Q E h => ?_) (λ _ _ _ _ _ _ us hl=>match us,hl with | [_,_,_,_],_=>rfl) (λ f cdv A outer s H vs Q E hr h => ?_)
 ·obtain ⟨_,_,_,_,_,_,_,_,_,rfl,_⟩:=h;rfl
 ·obtain ⟨b,dx,d,r0,es,z,p,row,R,rfl,hL,nd,sQ,hrl,k1,k2,k3⟩:=h
  have hu:=iU hr
  have hf:(iV d).lookup (Str.ofString "rows_by_name")=some (.ref d):=rfl
  have fh:=FH.of hL nd
  have c1:=fh.cb
  have c2:=fh.cd
  have mr:(row.map V.int).length=row.length:=List.length_map _
  refine ⟨_,(@af _ _ _ _ _ (@b9 _ _ _ _ (@aU _ _ _ _ _ _ _ _ _ _ _ _ _ _ _ _ T.gB fU (hr.mono (by omega)) jS (@aq _ 0 _ _ (by walk_at "v")) (@aa _ _ _ _ _ (@aq _ 1 _ _ (by walk_at "v")) (@aa _ _ _ _ _ (@aq _ 2 _ _ (by walk_at "v")) (@aj _) (by rfl)) (by rfl)) (by rfl) (by rfl) (by rfl)) (by rfl)) (@ao _ _ _ (@bJ _ _ _ _ _ _ (@bh _ _ _ _ _ _ _ _ _ (aT (K:=K) rfl) (by rfl) B.list bS (@aa _ _ _ _ _ (@aq _ 3 _ _ (by walk_at "v")) (@aj _) (by rfl)) (by decide) (by decide) (by rfl) (by rfl)) (@bN _ _ _ _ _ _ _ (@iB _ _ _ _ _ _ hu (@az _ _ _ _ _ _ _ T.gB T.bY (@aq _ 0 _ _ (by walk_at "v")) (by rfl)) (@aq _ 1 _ _ (by walk_at "v")) (λ _ _=>rfl)) (@aq _ 2 _ _ (by walk_at "v")) set_list (by intro _;rfl)) (by rfl) (by rfl) (by rfl)))),?_⟩
  refine aG λ M1 K1 => ?_
  walk_at "ge"
  refine ⟨b,dx,d,es,z,p,rfl,fh,λ e he hz p0 p1 => ?_,λ e he hz hp => ?_,λ hz => ?_⟩
  ·subst hz
   obtain ⟨j,rfl⟩:=Int.eq_ofNat_of_zero_le p0
   have hj:j < e.2.2.length:=by omega
   have hjl:j < (oR e.2.2).length:=by rw [gI];exact hj
   have hkv:=vB nd he
   obtain ⟨as,bs,rfl,_⟩:=Q8 nd he
   have oS:=hL.get (mC (mC (mA sQ)))
   walk_at "ge"
   refine K1.use ?_
   walk_at "cl"
   clear K1
   walk_at "ge"
   rename_i nr H2 _ hl2 _ _ _ _ _ _ _
   have c3:H2 d=some (.dK (xZ (as++e::bs))):=hl2.get (mC (mC mS))
   refine Kz c3 hkv ?_
   walk_at "ge"
   have hl3:Led H2 ((e.2.1,.lst (oR e.2.2))::(b,.ins cI dx (iV d))::(d,.dK (xZ (as++e::bs)))::(nQ as++(nQ bs++((nr,.lst (row.map V.int))::R)))):=hl2.wk (by unfold Jg;rw [Dn];simp only [List.append_assoc,List.cons_append];walk_at "sp")
   refine cQ (hl3.get mS) (bG (by omega) (by omega)) ?_
   rw [Int.toNat_natCast,show (oR e.2.2).set j (V.ref nr)=oR (e.2.2.set j (nr,row)) by unfold oR;rw [List.map_set]]
   have bT:=hl3.put (o' := .lst (oR (e.2.2.set j (nr,row)))) rfl rfl
   walk_at "ge"
   refine k1 as bs e rfl rfl j rfl hj nr _ (bT.wk ?_)
   unfold Jg
   rw [Dn,<-Nz as bs e (e.1,e.2.1,e.2.2.set j (nr,row)) rfl rfl]
   simp only [List.append_assoc,List.cons_append]
   walk_at "sp"
  ·exact k2 e he hz hp
  ·exact k3 hz
def xJ (K:PySem.W.Frag):Sp:=λ vs H Q _ => ∃ (a:Addr) (ns:List Int) (j:Int),vs = [.ref a,.int j]/\0<=j/\fq K H a (ns.map V.int)/\Q (.int (ns.getD j.toNat 0)) H
theorem F9 (D:Def K mg "_law_cell_at" fj) (B:jd mg):dF P w K mg base 1 "_law_cell_at" ["_law_script","_law_k"] (xJ K):=by
 refine D.ok BB (λ vs H Q E h => ?_) (λ _ _ _ _ _ _ us hl=>match us,hl with | [_,_],_=>rfl) (λ f cdv A outer s H vs Q E hr h => ?_)
 ·obtain ⟨_,_,_,rfl,_⟩:=h;rfl
 ·obtain ⟨a,ns,j,rfl,hj0,hS,k⟩:=h
  obtain ⟨j,rfl⟩:=Int.eq_ofNat_of_zero_le hj0
  refine ⟨_,(@af _ _ _ _ _ (@aS _ _ _ _ _ _ _ _ (@aL _ _ _ _ _ _ _ _ Al (@aq _ 1 _ _ (by walk_at "v")) (@aJ _ _ _ _ _ _ _ _ _ (yi (K:=K) rfl) (by rfl) B.len bK (@aa _ _ _ _ _ (@aq _ 0 _ _ (by walk_at "v")) (@aj _) (by rfl)) (by decide) (by decide) (by rfl) (by rfl)) (aP _)) (@ao _ _ _ (@aE _ _ _ _ (@aY _ _ _ _ _ _ _ (Kn (K:=K) rfl) (@aq _ 0 _ _ (by walk_at "v")) (@aq _ 1 _ _ (by walk_at "v")) (λ _ _=>rfl)))) (@aF _)) (@ao _ _ _ (@aE _ _ _ _ (@ak _ _ _ _)))),?_⟩
  simp only [JG,MT,Am,Qk,Ht,L2.start,List.map_cons,List.map_nil,List.length_cons,List.length_nil,Nat.zero_add,Nat.reduceAdd,Nat.reduceSub,List.replicate,List.append_nil,List.getElem?_cons_succ,List.getElem?_cons_zero,Option.some.injEq,SX,Gy,CU,List.cons.injEq,and_true,JP,V.int.injEq,V.bl.injEq,MS,Qv,exists_and_left,exists_eq_left',V.ref.injEq,Gs,tC,decide_eq_true_eq]
  refine ⟨_,.inl hS,?_⟩
  rw [List.length_map]
  rw [Int.toNat_natCast] at k
  refine Wr (λ hlt => ?_) (λ hge => ?_)
  ·refine ⟨_,hS,_,gG (j:=j) (v:=V.int (ns.getD j 0)) ?_,k⟩
   have hj:j < ns.length:=by omega
   simp [hj]
  ·rw [List.getD_eq_getElem?_getD,List.getElem?_eq_none (by omega)] at k
   exact k
def uR:Sp:=λ vs H Q _ => ∃ n:Int,vs = [.int n]/\Q (.bl true) H
theorem LL (D:Def K mg "_law_whole" gU) (B:jd mg) (T:Txt K mg cU cA cB cC cT cF cD cS cI):dF P w K mg base 1 "_law_whole" ["_law_found"] uR:=by
 refine D.ok vG (λ vs H Q E h => ?_) (λ _ _ _ _ _ _ us hl=>match us,hl with | [_],_=>rfl) (λ f cdv A outer s H vs Q E hr h => ?_)
 ·obtain ⟨_,rfl,_⟩:=h;rfl
 ·obtain ⟨n,rfl,k⟩:=h
  have sc:=vG
  refine ⟨_,(@ao _ _ _ (@aE _ _ _ _ (@uZ _ _ _ _ _ _ _ (@aJ _ _ _ _ _ _ _ _ _ dc (by rfl) B.isinstance bA (@aa _ _ _ _ _ (@aq _ 0 _ _ (by walk_at "v")) (@aa _ _ _ _ _ (@fW _ _ (.ty "int") _ _ (by rfl) B.int Kd rfl (by decide) (by decide)) (@aj _) (by rfl)) (by rfl)) (by decide) (by decide) (by rfl) (by rfl)) (@nH _ _ _ _ _ (@Ep _ _ _ _ (@aJ _ _ _ _ _ _ _ _ _ dc (by rfl) B.isinstance bA (@aa _ _ _ _ _ (@aq _ 0 _ _ (by walk_at "v")) (@aa _ _ _ _ _ (@fW _ _ (.ty "bool") _ _ (by rfl) B.bool Be rfl (by decide) (by decide)) (@aj _) (by rfl)) (by rfl)) (by decide) (by decide) (by rfl) (by rfl))))))),?_⟩
  walk_at "ge"
  exact k
def LM (x y:V):Prop:=(x = .aI/\y = .aI)\/(∃ b,x = .bl b/\y = .bl b)\/(∃ n,x = .int n/\y = .int n)\/(∃ z,x = .str z/\y = .str z)
def Alike (H:Hp):Nat->V->V->Prop
 | 0,x,y=>LM x y
 | k+1,x,y=>LM x y ∨ ∃ a b xs ys,x = .ref a/\y = .ref b/\((H a=some (.lst xs)/\H b=some (.lst ys))\/(H a=some (.tup xs)/\H b=some (.tup ys)))/\xs.length=ys.length/\ys.length<=100000 ∧ ∀ (i:Nat) x' y',xs[i]? = some x'->ys[i]? = some y'->Alike H k x' y'
def mF (k:Nat):Sp:=λ vs H Q _ => ∃ x y,vs = [x,y]/\Alike H k x y/\Q (.bl true) H
theorem xK (D:Def K mg "_law_alike" fk) (B:jd mg) (T:Txt K mg cU cA cB cC cT cF cD cS cI) {n:Nat} {sp0:Sp} (cX:dF P w K mg base 1 "_law_whole" ["_law_found"] uR) (aW:dF P w K mg base (n+1) "_law_alike" ["_law_found","_law_due"] sp0) (k:Nat) (hrec : ∀ (H:Hp) (x y:V) (Q:VK) (j:Nat),k=j+1->Alike H j x y->Q (.bl true) H->sp0 [x,y] H Q E0):dF P w K mg base (n+2) "_law_alike" ["_law_found","_law_due"] (mF k):=by
 refine D.ok nR (λ vs H Q E h => ?_) (λ _ _ _ _ _ _ us hl=>match us,hl with | [_,_],_=>rfl) (λ f cdv A outer s H vs Q E hr h => ?_)
 ·obtain ⟨_,_,rfl,_⟩:=h;rfl
 ·obtain ⟨x,y,rfl,ha,kq⟩:=h
  have sc:=nR
  refine ⟨_,(@af _ _ _ _ _ (@aS _ _ _ _ _ _ _ _ (@aL _ _ _ _ _ _ _ _ JR (@aq _ 1 _ _ (by walk_at "v")) (@bE _ _ _) (aP _)) (@ao _ _ _ (@aE _ _ _ _ (@gF _ _ _ _ _ _ _ _ JR (@aq _ 0 _ _ (by walk_at "v")) (@bE _ _ _) (aP _)))) (@aF _)) (@af _ _ _ _ _ (@aS _ _ _ _ _ _ _ _ (@aZ _ _ _ (@aJ _ _ _ _ _ _ _ _ _ dc (by rfl) B.isinstance bA (@aa _ _ _ _ _ (@aq _ 1 _ _ (by walk_at "v")) (@aa _ _ _ _ _ (@fW _ _ (.ty "bool") _ _ (by rfl) B.bool Be rfl (by decide) (by decide)) (@aj _) (by rfl)) (by rfl)) (by decide) (by decide) (by rfl) (by rfl)) (by intro _;rfl)) (@ao _ _ _ (@aE _ _ _ _ (@uZ _ _ _ _ _ _ _ (@aJ _ _ _ _ _ _ _ _ _ dc (by rfl) B.isinstance bA (@aa _ _ _ _ _ (@aq _ 0 _ _ (by walk_at "v")) (@aa _ _ _ _ _ (@fW _ _ (.ty "bool") _ _ (by rfl) B.bool Be rfl (by decide) (by decide)) (@aj _) (by rfl)) (by rfl)) (by decide) (by decide) (by rfl) (by rfl)) (@nH _ _ _ _ _ (@gF _ _ _ _ _ _ _ _ cY (@aq _ 0 _ _ (by walk_at "v")) (@aq _ 1 _ _ (by walk_at "v")) (aP _)))))) (@aF _)) (@af _ _ _ _ _ (@aS _ _ _ _ _ _ _ _ (@aZ _ _ _ (@aJ _ _ _ _ _ _ _ _ _ dc (by rfl) B.isinstance bA (@aa _ _ _ _ _ (@aq _ 1 _ _ (by walk_at "v")) (@aa _ _ _ _ _ (@fW _ _ (.ty "int") _ _ (by rfl) B.int Kd rfl (by decide) (by decide)) (@aj _) (by rfl)) (by rfl)) (by decide) (by decide) (by rfl) (by rfl)) (by intro _;rfl)) (@ao _ _ _ (@aE _ _ _ _ (@uZ _ _ _ _ _ _ _ (@aC _ _ _ _ _ _ _ _ _ _ _ cX (hr.mono (by omega)) (by rfl) aB (@aa _ _ _ _ _ (@aq _ 0 _ _ (by walk_at "v")) (@aj _) (by rfl)) (by decide) (by rfl) (by rfl)) (@nH _ _ _ _ _ (@gF _ _ _ _ _ _ _ _ cY (@aq _ 0 _ _ (by walk_at "v")) (@aq _ 1 _ _ (by walk_at "v")) (aP _)))))) (@aF _)) (@af _ _ _ _ _ (@aS _ _ _ _ _ _ _ _ (@aZ _ _ _ (@aJ _ _ _ _ _ _ _ _ _ dc (by rfl) B.isinstance bA (@aa _ _ _ _ _ (@aq _ 1 _ _ (by walk_at "v")) (@aa _ _ _ _ _ (@fW _ _ (.ty "str") _ _ (by rfl) B.str Ke rfl (by decide) (by decide)) (@aj _) (by rfl)) (by rfl)) (by decide) (by decide) (by rfl) (by rfl)) (by intro _;rfl)) (@ao _ _ _ (@aE _ _ _ _ (@uZ _ _ _ _ _ _ _ (@aJ _ _ _ _ _ _ _ _ _ dc (by rfl) B.isinstance bA (@aa _ _ _ _ _ (@aq _ 0 _ _ (by walk_at "v")) (@aa _ _ _ _ _ (@fW _ _ (.ty "str") _ _ (by rfl) B.str Ke rfl (by decide) (by decide)) (@aj _) (by rfl)) (by rfl)) (by decide) (by decide) (by rfl) (by rfl)) (@nH _ _ _ _ _ (@gF _ _ _ _ _ _ _ _ cY (@aq _ 0 _ _ (by walk_at "v")) (@aq _ 1 _ _ (by walk_at "v")) (aP _)))))) (@aF _)) (@af _ _ _ _ _ (@aS _ _ _ _ _ _ _ _ (@aZ _ _ _ (@aJ _ _ _ _ _ _ _ _ _ dc (by rfl) B.isinstance bA (@aa _ _ _ _ _ (@aq _ 1 _ _ (by walk_at "v")) (@aa _ _ _ _ _ (@fW _ _ (.ty "tuple") _ _ (by rfl) B.tuple C6 rfl (by decide) (by decide)) (@aj _) (by rfl)) (by rfl)) (by decide) (by decide) (by rfl) (by rfl)) (by intro _;rfl)) (@ao _ _ _ (@aS _ _ _ _ _ _ _ _ (@cV _ _ _ _ (@aZ _ _ _ (@aJ _ _ _ _ _ _ _ _ _ dc (by rfl) B.isinstance bA (@aa _ _ _ _ _ (@aq _ 0 _ _ (by walk_at "v")) (@aa _ _ _ _ _ (@fW _ _ (.ty "tuple") _ _ (by rfl) B.tuple C6 rfl (by decide) (by decide)) (@aj _) (by rfl)) (by rfl)) (by decide) (by decide) (by rfl) (by rfl)) (by intro _;rfl))) (@ao _ _ _ (@aE _ _ _ _ (@bP _ _ _ _))) (@aF _))) (@ao _ _ _ (@aS _ _ _ _ _ _ _ _ (@cV _ _ _ _ (@aZ _ _ _ (@aJ _ _ _ _ _ _ _ _ _ dc (by rfl) B.isinstance bA (@aa _ _ _ _ _ (@aq _ 0 _ _ (by walk_at "v")) (@aa _ _ _ _ _ (@fW _ _ (.ty "list") _ _ (by rfl) B.list bS rfl (by decide) (by decide)) (@aj _) (by rfl)) (by rfl)) (by decide) (by decide) (by rfl) (by rfl)) (by intro _;rfl))) (@ao _ _ _ (@aE _ _ _ _ (@bP _ _ _ _))) (@aF _)))) (@af _ _ _ _ _ (@aS _ _ _ _ _ _ _ _ (@aL _ _ _ _ _ _ _ _ OS (@aJ _ _ _ _ _ _ _ _ _ aO (by rfl) B.len bK (@aa _ _ _ _ _ (@aq _ 0 _ _ (by walk_at "v")) (@aj _) (by rfl)) (by decide) (by decide) (by rfl) (by rfl)) (@aJ _ _ _ _ _ _ _ _ _ aO (by rfl) B.len bK (@aa _ _ _ _ _ (@aq _ 1 _ _ (by walk_at "v")) (@aj _) (by rfl)) (by decide) (by decide) (by rfl) (by rfl)) (aP _)) (@ao _ _ _ (@aE _ _ _ _ (@bP _ _ _ _))) (@aF _)) (@af _ _ _ _ _ (@iW _ _ _ _ _ _ _ _ PassesOwn.never rfl (@cE _ _ _ _ _ _ (by rfl) B.range (@aa _ _ _ _ _ (@aJ _ _ _ _ _ _ _ _ _ aO (by rfl) B.len bK (@aa _ _ _ _ _ (@aq _ 1 _ _ (by walk_at "v")) (@aj _) (by rfl)) (by decide) (by decide) (by rfl) (by rfl)) (@aj _) (by rfl)) (by rfl)) (@eK _ _ 2 _ sc.nd rfl (by walk_at "o2") (by walk_at "o4")) (@ao _ _ _ (@aS _ _ _ _ _ _ _ _ (@cV _ _ _ _ (@aZ _ _ _ (@aC _ _ _ _ _ _ _ _ _ _ _ aW (hr.mono (by omega)) (by rfl) aB (@aa _ _ _ _ _ (@aY _ _ _ _ _ _ _ aQ (@aq _ 0 _ _ (by walk_at "v")) (@aq _ 2 _ _ (by walk_at "v")) (λ _ _=>rfl)) (@aa _ _ _ _ _ (@aY _ _ _ _ _ _ _ aQ (@aq _ 1 _ _ (by walk_at "v")) (@aq _ 2 _ _ (by walk_at "v")) (λ _ _=>rfl)) (@aj _) (by rfl)) (by rfl)) (by decide) (by rfl) (by rfl)) (by intro _;rfl))) (@ao _ _ _ (@aE _ _ _ _ (@bP _ _ _ _))) (@aF _))) (by intro _;rfl)) (@ao _ _ _ (@aE _ _ _ _ (@bP _ _ _ _)))))))))),?_⟩
  have ha2:LM x y ∨ ∃ a b xs ys j,k=j+1/\x = .ref a/\y = .ref b/\((H a=some (.lst xs)/\H b=some (.lst ys))\/(H a=some (.tup xs)/\H b=some (.tup ys)))/\xs.length=ys.length/\ys.length<=100000 ∧ ∀ (i:Nat) x' y',xs[i]? = some x'->ys[i]? = some y'->Alike H j x' y':=by
   cases k with
   | zero=>exact .inl ha
   | succ j =>
     rcases ha with h | ⟨a,b,xs,ys,h1,h2,h3,h4,h5,h6⟩
     ·exact .inl h
     ·exact .inr ⟨a,b,xs,ys,j,rfl,h1,h2,h3,h4,h5,h6⟩
  clear ha
  rcases ha2 with (⟨rfl,rfl⟩ | ⟨c,rfl,rfl⟩ | ⟨m,rfl,rfl⟩ | ⟨z,rfl,rfl⟩) | ⟨a,b,xs,ys,j,hk,rfl,rfl,hh,hxy,hyl,hin⟩
  ·walk_at "ge"
   all_goals first | exact kq | (exfalso;simp_all;done)
  ·walk_at "ge"
   all_goals first | (exfalso;simp_all;done) | skip
   rw [decide_eq_true rfl]
   exact kq
  ·walk_at "ge"
   all_goals first | (exfalso;simp_all;done) | skip
   refine ⟨m,rfl,?_⟩
   walk_at "ge"
   rw [decide_eq_true rfl]
   exact kq
  ·walk_at "ge"
   all_goals first | (exfalso;simp_all;done) | skip
   rw [decide_eq_true rfl]
   exact kq
  ·have fin : ∀ (Lx:Hp->Prop),True:=λ _=>True.intro
   rcases hh with ⟨c1,c2⟩ | ⟨c1,c2⟩
   ·refine aG λ M1 K1 => ?_
    walk_at "ge"
    all_goals first | (exfalso;simp_all;done) | skip
    refine K1.use ?_
    walk_at "cl"
    clear K1
    refine aG λ M1 K1 => ?_
    walk_at "ge"
    refine K1.use ?_
    walk_at "cl"
    clear K1
    refine aG λ M1 K1 => ?_
    walk_at "ge"
    refine K1.use ?_
    walk_at "cl"
    clear K1
    refine aG λ M1 K1 => ?_
    walk_at "ge"
    refine K1.use ?_
    walk_at "cl"
    clear K1
    refine aG λ M1 K1 => ?_
    walk_at "ge"
    refine K1.use ?_
    walk_at "cl"
    clear K1
    refine aG λ M1 K1 => ?_
    walk_at "ge"
    all_goals first | (exfalso;omega) | skip
    refine K1.use ?_
    walk_at "cl"
    clear K1
    refine aG λ M1 K1 => ?_
    refine o5 λ Lr nE => ?_
    walk_at "ge"
    refine ⟨_,rfl,by omega,by omega,nE.use ?_⟩
    clear nE
    rw [show ((ys.length:Int)).toNat=ys.length by omega]
    refine o6 (λ i σ H'=>H' = H ∧ ∃ v1,σ = [some (.ref a),some (.ref b),v1]) ⟨rfl,_,rfl⟩ ?_ ?_
    ·rintro i σ H' hi ⟨rfl,v1,rfl⟩
     have a1:iZ xs (0+(i:Int))=some xs[i]:=dN (by omega) (by rw [show (0+(i:Int)).toNat=i by omega];exact List.getElem?_eq_getElem (by omega))
     have a2:iZ ys (0+(i:Int))=some ys[i]:=dN (by omega) (by rw [show (0+(i:Int)).toNat=i by omega];exact List.getElem?_eq_getElem (by omega))
     walk_at "ge"
     refine hrec _ _ _ _ j hk (hin i _ _ (List.getElem?_eq_getElem (by omega)) (List.getElem?_eq_getElem (by omega))) ?_
     walk_at "ge"
     exact ⟨rfl,_,rfl⟩
    ·rintro σ H' ⟨rfl,v1,rfl⟩
     walk_at "ge"
     refine K1.use ?_
     walk_at "ge"
     exact kq
   ·refine aG λ M1 K1 => ?_
    walk_at "ge"
    all_goals first | (exfalso;simp_all;done) | skip
    refine K1.use ?_
    walk_at "cl"
    clear K1
    refine aG λ M1 K1 => ?_
    walk_at "ge"
    refine K1.use ?_
    walk_at "cl"
    clear K1
    refine aG λ M1 K1 => ?_
    walk_at "ge"
    refine K1.use ?_
    walk_at "cl"
    clear K1
    refine aG λ M1 K1 => ?_
    walk_at "ge"
    refine K1.use ?_
    walk_at "cl"
    clear K1
    refine aG λ M1 K1 => ?_
    walk_at "ge"
    refine K1.use ?_
    walk_at "cl"
    clear K1
    refine aG λ M1 K1 => ?_
    walk_at "ge"
    all_goals first | (exfalso;omega) | skip
    refine K1.use ?_
    walk_at "cl"
    clear K1
    refine aG λ M1 K1 => ?_
    refine o5 λ Lr nE => ?_
    walk_at "ge"
    refine ⟨_,rfl,by omega,by omega,nE.use ?_⟩
    clear nE
    rw [show ((ys.length:Int)).toNat=ys.length by omega]
    refine o6 (λ i σ H'=>H' = H ∧ ∃ v1,σ = [some (.ref a),some (.ref b),v1]) ⟨rfl,_,rfl⟩ ?_ ?_
    ·rintro i σ H' hi ⟨rfl,v1,rfl⟩
     have a1:iZ xs (0+(i:Int))=some xs[i]:=dN (by omega) (by rw [show (0+(i:Int)).toNat=i by omega];exact List.getElem?_eq_getElem (by omega))
     have a2:iZ ys (0+(i:Int))=some ys[i]:=dN (by omega) (by rw [show (0+(i:Int)).toNat=i by omega];exact List.getElem?_eq_getElem (by omega))
     walk_at "ge"
     refine hrec _ _ _ _ j hk (hin i _ _ (List.getElem?_eq_getElem (by omega)) (List.getElem?_eq_getElem (by omega))) ?_
     walk_at "ge"
     exact ⟨rfl,_,rfl⟩
    ·rintro σ H' ⟨rfl,v1,rfl⟩
     walk_at "ge"
     refine K1.use ?_
     walk_at "ge"
     exact kq
theorem DY (D:Def K mg "_law_alike" fk):dF P w K mg base 1 "_law_alike" ["_law_found","_law_due"] (λ _ _ _ _=>False) :=
 D.ok nR (λ vs H Q E h=>h.elim) (λ _ _ _ _ _ _ us hl=>match us,hl with | [_,_],_=>rfl) (λ f cdv A outer s H vs Q E hr h=>h.elim)
theorem DZ (D:Def K mg "_law_alike" fk) (B:jd mg) (T:Txt K mg cU cA cB cC cT cF cD cS cI) (cX:dF P w K mg base 1 "_law_whole" ["_law_found"] uR) : ∀ k:Nat,dF P w K mg base (k+2) "_law_alike" ["_law_found","_law_due"] (mF k)
 | 0=>xK D B T cX (DY D) 0 λ _ _ _ _ j h=>nomatch h
 | k+1=>xK D B T cX (DZ D B T cX k) (k+1) λ H x y Q j h ha hq=>by
     cases h
     exact ⟨x,y,rfl,ha,hq⟩
def Rq (j:Int):Int:=if j % 4=0 then 48271 else if j % 4=1 then 10 ^ 20+39 else if j % 4=2 then 10 ^ 40+121 else 10 ^ 59+7
def GX (c j:Int):Int:=c * Rq j+7919 * j * j
def Pp (c j:Int):Int:=(c+5 * j) * 69621 % 15101 % 6
def numAt (big wy:Int):Int:=match iZ [V.int (big % 9),.int (big % (999999999999999999999999999999999999999999999999999999999999+1)),.int (-(big % (999999999999999999999999999999999999999999999999999999999999+1))),.int (999999999999999999999999999999999999999999999999999999999999 - big % 2),.int (big % 2 - 999999999999999999999999999999999999999999999999999999999999),.int (-1 - big % 7)] wy with | some (.int z)=>z | _=>0
def numOf (c j:Int):Int:=numAt (GX c j) (Pp c j)
def rowOf (c:Int):List Int:=(List.range 4).map λ k:Nat=>numOf (c+31 * (k:Int)) (k:Int)
theorem mG (c:Int):(rowOf c).length=4:=by unfold rowOf;rw [List.length_map,List.length_range]
def LN:Sp:=λ vs H Q _ => ∃ (c k:Int) (L:Cells),vs = [.int c,.int k]/\Builtin.Int.intBits c<=1500000/\0<=k/\k<=1000/\Led H L ∧ ∀ (H':Hp),Led H' L->Q (.int (numOf c k)) H'
theorem Rr (D:Def K mg "_law_num" mz) (T:Txt K mg cU cA cB cC cT cF cD cS cI):dF P w K mg base 1 "_law_num" ["_law_cell","_law_k"] LN:=by
 have sc:=Dr
 refine D.ok Dr (λ vs H Q E h => ?_) (λ _ _ _ _ _ _ us hl=>match us,hl with | [_,_],_=>rfl) (λ f cdv A outer s H vs Q E hr h => ?_)
 ·obtain ⟨_,_,_,rfl,_⟩:=h;rfl
 ·obtain ⟨c,j,L,rfl,hb,j0,j1,hL,k⟩:=h
  refine ⟨_,(@af _ _ _ _ _ (@aK _ _ 2 _ _ _ _ sc.nd rfl (by walk_at "o2") (@av _ _ _ _ _ _ _ _ gY (@av _ _ _ _ _ _ _ _ A6 (@ak _ _ _ _) (@ak _ _ _ _)) (@ak _ _ _ _)) (by rfl) (by walk_at "o4")) (@af _ _ _ _ _ (@aK _ _ 3 _ _ _ _ sc.nd rfl (by walk_at "o2") (@av _ _ _ _ _ _ _ _ aV (@av _ _ _ _ _ _ _ _ o8 (@aq _ 0 _ _ (by walk_at "v")) (@aY _ _ _ _ _ _ _ aQ (@iY _ _ _ _ (@aa _ _ _ _ _ (@ak _ _ _ _) (@aa _ _ _ _ _ (@av _ _ _ _ _ _ _ _ aV (@av _ _ _ _ _ _ _ _ A6 (@ak _ _ _ _) (@ak _ _ _ _)) (@ak _ _ _ _)) (@aa _ _ _ _ _ (@av _ _ _ _ _ _ _ _ aV (@av _ _ _ _ _ _ _ _ A6 (@ak _ _ _ _) (@ak _ _ _ _)) (@ak _ _ _ _)) (@aa _ _ _ _ _ (@av _ _ _ _ _ _ _ _ aV (@av _ _ _ _ _ _ _ _ A6 (@ak _ _ _ _) (@ak _ _ _ _)) (@ak _ _ _ _)) (@aj _) (by rfl)) (by rfl)) (by rfl)) (by rfl))) (@av _ _ _ _ _ _ _ _ aH (@aq _ 1 _ _ (by walk_at "v")) (@ak _ _ _ _)) (λ _ _=>rfl))) (@av _ _ _ _ _ _ _ _ gp (@av _ _ _ _ _ _ _ _ gp (@ak _ _ _ _) (@aq _ 1 _ _ (by walk_at "v"))) (@aq _ 1 _ _ (by walk_at "v")))) (by rfl) (by walk_at "o4")) (@af _ _ _ _ _ (@aK _ _ 4 _ _ _ _ sc.nd rfl (by walk_at "o2") (@av _ _ _ _ _ _ _ _ aH (@av _ _ _ _ _ _ _ _ aH (@av _ _ _ _ _ _ _ _ o8 (@av _ _ _ _ _ _ _ _ aV (@aq _ 0 _ _ (by walk_at "v")) (@av _ _ _ _ _ _ _ _ gp (@ak _ _ _ _) (@aq _ 1 _ _ (by walk_at "v")))) (@ak _ _ _ _)) (@ak _ _ _ _)) (@ak _ _ _ _)) (by rfl) (by walk_at "o4")) (@ao _ _ _ (@aE _ _ _ _ (@aY _ _ _ _ _ _ _ aQ (@iY _ _ _ _ (@aa _ _ _ _ _ (@av _ _ _ _ _ _ _ _ aH (@aq _ 3 _ _ (by walk_at "v")) (@ak _ _ _ _)) (@aa _ _ _ _ _ (@av _ _ _ _ _ _ _ _ aH (@aq _ 3 _ _ (by walk_at "v")) (@av _ _ _ _ _ _ _ _ aV (@aq _ 2 _ _ (by walk_at "v")) (@ak _ _ _ _))) (@aa _ _ _ _ _ (@m8 _ _ _ _ _ _ iX (@av _ _ _ _ _ _ _ _ aH (@aq _ 3 _ _ (by walk_at "v")) (@av _ _ _ _ _ _ _ _ aV (@aq _ 2 _ _ (by walk_at "v")) (@ak _ _ _ _)))) (@aa _ _ _ _ _ (@av _ _ _ _ _ _ _ _ gY (@aq _ 2 _ _ (by walk_at "v")) (@av _ _ _ _ _ _ _ _ aH (@aq _ 3 _ _ (by walk_at "v")) (@ak _ _ _ _))) (@aa _ _ _ _ _ (@av _ _ _ _ _ _ _ _ gY (@av _ _ _ _ _ _ _ _ aH (@aq _ 3 _ _ (by walk_at "v")) (@ak _ _ _ _)) (@aq _ 2 _ _ (by walk_at "v"))) (@aa _ _ _ _ _ (@av _ _ _ _ _ _ _ _ gY (@m8 _ _ _ _ _ _ iX (@ak _ _ _ _)) (@av _ _ _ _ _ _ _ _ aH (@aq _ 3 _ _ (by walk_at "v")) (@ak _ _ _ _))) (@aj _) (by rfl)) (by rfl)) (by rfl)) (by rfl)) (by rfl)) (by rfl))) (@aq _ 4 _ _ (by walk_at "v")) (λ _ _=>rfl))))))),?_⟩
  refine aG λ M1 K1 => ?_
  walk_at "ge"
  refine K1.use ?_
  walk_at "cl"
  clear K1
  refine aG λ M1 K1 => ?_
  have rest : ∀ (big:Int) (H':Hp),big=GX c j->Led H' L->M1 [some (.int c),some (.int j),some (.int 999999999999999999999999999999999999999999999999999999999999),some (.int big),none] H':=by
   intro big H' aa9 hl'
   refine K1.use ?_
   clear K1 hL
   refine aG λ M1 K1 => ?_
   walk_at "ge"
   obtain ⟨wy,hwy⟩ : ∃ z:Int,(c+5 * j) * 69621 % 15101 % 6=z:=⟨_,rfl⟩
   have w0:0<=wy:=by rw [<-hwy];exact Int.emod_nonneg _ (by decide)
   have w5:wy<=5:=by have:=Int.emod_lt_of_pos ((c+5 * j) * 69621 % 15101) (show (0:Int) < 6 by decide);omega
   rw [hwy]
   refine K1.use ?_
   walk_at "cl"
   clear K1
   walk_at "ge"
   obtain ⟨z,hz⟩:=W4 (a0:=big % 9) (a1:=big % (999999999999999999999999999999999999999999999999999999999999+1)) (a2 := -(big % (999999999999999999999999999999999999999999999999999999999999+1))) (a3:=999999999999999999999999999999999999999999999999999999999999 - big % 2) (a4:=big % 2 - 999999999999999999999999999999999999999999999999999999999999) (a5 := -1 - big % 7) w0 w5
   have ez:numOf c j=z:=by unfold numOf Pp;rw [<-aa9,hwy];unfold numAt;rw [hz]
   refine QU (by walk_at "cell") hz ?_
   walk_at "ge"
   rw [<-ez]
   exact k _ (Led.tail (by assumption))
  clear K1
  have h4:j % 4=0\/j % 4=1\/j % 4=2\/j % 4=3:=by omega
  walk_at "ge"
  rcases h4 with h4 | h4 | h4 | h4 <;> rw [h4] <;> walk_at "ge" <;> first | exact rest _ _ (by unfold GX Rq;rw [h4];rfl) (Led.tail (by assumption)) | (refine iH (Q6 (Nat.le_trans hb (by decide)) (by decide)) ?_;walk_at "ge";exact rest _ _ (by unfold GX Rq;rw [h4];rfl) (Led.tail (by assumption)))
def LO:Sp:=λ vs H Q _ => ∃ (c:Int) (L:Cells),vs = [.int c]/\Builtin.Int.intBits c<=1400000/\Led H L ∧ ∀ (r:Addr) (H':Hp),Led H' ((r,.lst ((rowOf c).map V.int))::L)->Q (.ref r) H'
theorem Rt (D:Def K mg "_law_row" mD) (B:jd mg) (T:Txt K mg cU cA cB cC cT cF cD cS cI) (oJ:dF P w K mg base 1 "_law_num" ["_law_cell","_law_k"] LN):dF P w K mg base 2 "_law_row" ["_law_cell"] LO:=by
 have sc:=Ds
 refine D.ok Ds (λ vs H Q E h => ?_) (λ _ _ _ _ _ _ us hl=>match us,hl with | [_],_=>rfl) (λ f cdv A outer s H vs Q E hr h => ?_)
 ·obtain ⟨_,_,rfl,_⟩:=h;rfl
 ·obtain ⟨c,L,rfl,hb,hL,k⟩:=h
  refine ⟨_,(@ao _ _ _ (@aE _ _ _ _ (@o7 _ _ "_law_k" _ _ _ _ _ _ _ _ _ rfl rfl rfl rfl O8 (dg (by kernel_rfl)) (@cE _ _ _ _ _ _ (by rfl) B.range (@aa _ _ _ _ _ (@ak _ _ _ _) (@aj _) (by rfl)) (by rfl)) (λ _ _ _ _=>(@jF _)) (λ _ _ _ _=>(@aC _ _ _ _ _ _ _ _ _ _ _ oJ (hr.mono (by omega)) (by rfl) aB (@aa _ _ _ _ _ (@av _ _ _ _ _ _ _ _ aV (@pk _ 1 _ _ (by kernel_rfl) (by kernel_rfl) (by decide) (by decide)) (@av _ _ _ _ _ _ _ _ gp (@ak _ _ _ _) (@pk _ 0 _ _ (by kernel_rfl) (by kernel_rfl) (by decide) (by decide)))) (@aa _ _ _ _ _ (@pk _ 0 _ _ (by kernel_rfl) (by kernel_rfl) (by decide) (by decide)) (@aj _) (by rfl)) (by rfl)) (by decide) (by rfl) (by rfl))) (by intro _;rfl)))),?_⟩
  walk_at "ge"
  refine EN λ Lc mZ => ?_
  walk_at "ge"
  refine ⟨_,rfl,by omega,by omega,mZ.use ?_⟩
  clear mZ
  refine vz (λ i v=>v=V.int (numOf (c+31 * (i:Int)) (i:Int))) hL (by decide) (λ i H2 R q hi hl2 hR => ?_) (λ p acc H2 hlen hacc hl2 => ?_)
  ·have hi4:i < 4:=hi
   walk_at "ge"
   refine ⟨_,_,_,rfl,Nat.le_trans (bits_add hb (by omega) (by omega) (by decide)) (by decide),by omega,by omega,hl2,λ H3 hl3 => ?_⟩
   walk_at "ge"
   exact hR _ _ (by rw [show (0:Int)+(i:Int)=(i:Int) by omega]) hl3
  ·have e:acc=(rowOf c).map V.int:=by
    refine List.ext_getElem? λ i => ?_
    by_cases hi:i < 4
    ·have hl:i < acc.length:=by rw [hlen];exact hi
     rw [List.getElem?_eq_getElem hl,hacc i _ (List.getElem?_eq_getElem hl)]
     rw [List.getElem?_map,rowOf,List.getElem?_map,List.getElem?_range hi]
     rfl
    ·rw [List.getElem?_eq_none (by rw [hlen];exact Nat.le_of_not_lt hi),List.getElem?_eq_none (by rw [List.length_map,mG];exact Nat.le_of_not_lt hi)]
   subst e
   walk_at "ge"
   exact k p _ hl2
end
section
variable {P:Program} {w:World} {K:PySem.W.Frag} {mg:Str->Option Value} {base:Heap} {cU cA cB cC cT cF cD cS cI:Addr}
theorem Led.perm {H:Hp} {L L':Cells} (h:Led H L) (p:L.Perm L'):Led H L':=⟨λ c hc=>h.at_ c (p.mem_iff.mpr hc),((p.filter _).map _).nodup_iff.mp h.nd⟩
structure SS where
 b:Addr
 dx:Addr
 F:FS
 d:Addr
 Jz:Addr
 dm:Addr
 p:Nat
 bs:List Bool
 sb:Addr
 LP:Addr
 sl:Addr
 sd:Addr
 ps:List V
 es:ki
 ib:Addr
 ix:Addr
 im:Addr
 fs:cR
 ho:Addr
 hs:List (Int×Int)
 made:Int
def Ga (S:SS):List (Str×V):=[("frames",.ref S.F.b),("dial",.ref S.d),("shelf",.ref S.sb),("files",.ref S.ib),("holders",.ref S.ho),("sheets_made",.int S.made)]
def Ek (hs:List (Int×Int)):List (Key×V):=hs.map λ e=>(Sum.inl e.1,V.int e.2)
def AS (cT:Addr) (S:SS):Cells:=[(S.b,.ins cT S.dx (Ga S)),(S.ho,.dK (Ek S.hs))]
def qu (cF:Addr) (F:FS):Cells:=[(F.b,.ins cF F.dx (uP F.hl F.rl F.sl)),(F.hl,.lst (F.hs.map aX)),(F.rl,.lst (F.rs.map fK)),(F.sl,.lst (F.bs.map V.bl))]
abbrev D0 (cD:Addr) (S:SS):Cells:=fQ cD S.d S.Jz S.dm S.p S.bs
abbrev D3 (cS:Addr) (S:SS):Cells:=Aa cS S.sb S.LP S.sl S.sd S.ps S.es
def Co (cI:Addr) (S:SS):Cells:=(S.ib,.ins cI S.ix (iV S.im))::(S.im,.dK (xZ S.fs))::nQ S.fs
def bw (cT cF cD cS cI:Addr) (S:SS) (M:Cells):Cells:=AS cT S++(qu cF S.F++(D0 cD S++(D3 cS S++(Co cI S++M))))
section
variable {H:Hp} {S:SS} {M N:Cells}
def rF (cT cD cS cI:Addr) (S:SS) (M:Cells):Cells:=AS cT S++(D0 cD S++(D3 cS S++(Co cI S++M)))
def rD (cT cF cS cI:Addr) (S:SS) (M:Cells):Cells:=AS cT S++(qu cF S.F++(D3 cS S++(Co cI S++M)))
def rS (cT cF cD cI:Addr) (S:SS) (M:Cells):Cells:=AS cT S++(qu cF S.F++(D0 cD S++(Co cI S++M)))
def rI (cT cF cD cS:Addr) (S:SS) (M:Cells):Cells:=AS cT S++(qu cF S.F++(D0 cD S++(D3 cS S++M)))
theorem aN {α : Type} (a b m:List α):(a++(b++m)).Perm (b++(a++m)):=by
 rw [<-List.append_assoc,<-List.append_assoc]
 exact List.Perm.append_right _ List.perm_append_comm
theorem St.toF (h:Led H (bw cT cF cD cS cI S M)):Led H (sP cF S.F (rF cT cD cS cI S M)):=Led.perm h (aN _ _ _)
theorem St.toD (h:Led H (bw cT cF cD cS cI S M)):Led H (fQ cD S.d S.Jz S.dm S.p S.bs++rD cT cF cS cI S M):=Led.perm h ((List.Perm.append_left _ (aN _ _ _)).trans (aN _ _ _))
theorem St.toS (h:Led H (bw cT cF cD cS cI S M)):Led H (Aa cS S.sb S.LP S.sl S.sd S.ps S.es++rS cT cF cD cI S M):=Led.perm h ((List.Perm.append_left _ ((List.Perm.append_left _ (aN _ _ _)).trans (aN _ _ _))).trans (aN _ _ _))
theorem St.UB (h:Led H (bw cT cF cD cS cI S M)):Led H (Jg cI S.ib S.ix S.im S.fs (rI cT cF cD cS S M)):=by
 have h1:Led H (Co cI S++rI cT cF cD cS S M):=Led.perm h ((List.Perm.append_left _ ((List.Perm.append_left _ ((List.Perm.append_left _ (aN _ _ _)).trans (aN _ _ _))).trans (aN _ _ _))).trans (aN _ _ _))
 exact h1
theorem St.Ru {F':FS} (e:F'.b=S.F.b) (h:Led H (sP cF F' (N++rF cT cD cS cI S M))):Led H (bw cT cF cD cS cI { S with F:=F' } (N++M)):=by
 have h1:Led H (qu cF F'++(N++(AS cT S++(D0 cD S++(D3 cS S++(Co cI S++M)))))):=h
 have e2:AS cT S=AS cT { S with F:=F' } := by unfold AS Ga;rw [<-e]
 rw [e2] at h1
 exact Led.perm h1 ((List.Perm.append_left _ ((aN _ _ _).trans (List.Perm.append_left _ ((aN _ _ _).trans (List.Perm.append_left _ ((aN _ _ _).trans (List.Perm.append_left _ (aN _ _ _)))))))).trans (aN _ _ _))
theorem St.ofD {p':Nat} {bs':List Bool} (h:Led H (fQ cD S.d S.Jz S.dm p' bs'++(N++rD cT cF cS cI S M))):Led H (bw cT cF cD cS cI { S with p:=p',bs:=bs' } (N++M)):=by
 have h1:Led H (fQ cD S.d S.Jz S.dm p' bs'++(N++(AS cT S++(qu cF S.F++(D3 cS S++(Co cI S++M)))))):=h
 exact Led.perm h1 ((List.Perm.append_left _ ((aN _ _ _).trans (List.Perm.append_left _ ((aN _ _ _).trans (List.Perm.append_left _ ((aN _ _ _).trans (List.Perm.append_left _ (aN _ _ _)))))))).trans ((aN _ _ _).trans (List.Perm.append_left _ (aN _ _ _))))
theorem St.ofS {ps':List V} {es':ki} (h:Led H (Aa cS S.sb S.LP S.sl S.sd ps' es'++(N++rS cT cF cD cI S M))):Led H (bw cT cF cD cS cI { S with ps:=ps',es:=es' } (N++M)):=by
 have h1:Led H (Aa cS S.sb S.LP S.sl S.sd ps' es'++(N++(AS cT S++(qu cF S.F++(D0 cD S++(Co cI S++M)))))):=h
 exact Led.perm h1 ((List.Perm.append_left _ ((aN _ _ _).trans (List.Perm.append_left _ ((aN _ _ _).trans (List.Perm.append_left _ ((aN _ _ _).trans (List.Perm.append_left _ (aN _ _ _)))))))).trans ((aN _ _ _).trans (List.Perm.append_left _ ((aN _ _ _).trans (List.Perm.append_left _ (aN _ _ _))))))
theorem St.ofI {fs':cR} (h:Led H (Jg cI S.ib S.ix S.im fs' (N++rI cT cF cD cS S M))):Led H (bw cT cF cD cS cI { S with fs:=fs' } (N++M)):=by
 have h1:Led H (Co cI { S with fs:=fs' } ++ (N++(AS cT S++(qu cF S.F++(D0 cD S++(D3 cS S++M)))))):=h
 exact Led.perm h1 ((List.Perm.append_left _ ((aN _ _ _).trans (List.Perm.append_left _ ((aN _ _ _).trans (List.Perm.append_left _ ((aN _ _ _).trans (List.Perm.append_left _ (aN _ _ _)))))))).trans ((aN _ _ _).trans (List.Perm.append_left _ ((aN _ _ _).trans (List.Perm.append_left _ ((aN _ _ _).trans (List.Perm.append_left _ (aN _ _ _))))))))
theorem St.b:(S.b,HO.ins cT S.dx (Ga S))∈bw cT cF cD cS cI S M:=mS
theorem St.ho:(S.ho,HO.dK (Ek S.hs))∈bw cT cF cD cS cI S M:=mC mS
theorem St.up {c:Addr×HO} (h:c∈M):c∈bw cT cF cD cS cI S M:=mA (mA (mA (mA (mA h))))
theorem j6 {c:Addr×HO} (h:c∈M):c∈rF cT cD cS cI S M:=mA (mA (mA (mA h)))
theorem UC {c:Addr×HO} (h:c∈M):c∈rD cT cF cS cI S M:=mA (mA (mA (mA h)))
theorem UD {c:Addr×HO} (h:c∈M):c∈rS cT cF cD cI S M:=mA (mA (mA (mA h)))
theorem LQ {c:Addr×HO} (h:c∈M):c∈rI cT cF cD cS S M:=mA (mA (mA (mA h)))
end
end
section
variable {P:Program} {w:World} {K:PySem.W.Frag} {mg:Str->Option Value} {base:Heap} {cU cA cB cC cT cF cD cS cI:Addr}
def freed (S:SS) (i:Nat):SS := { S with F:=S.F.fill i none none false,bs:=S.bs.set i false }
theorem i7 (S:SS):(Ga S).lookup (Str.ofString "frames")=some (.ref S.F.b):=rfl
theorem oK (S:SS):(Ga S).lookup (Str.ofString "dial")=some (.ref S.d):=rfl
theorem rX (S:SS):(Ga S).lookup (Str.ofString "shelf")=some (.ref S.sb):=rfl
theorem Cp (S:SS):(Ga S).lookup (Str.ofString "files")=some (.ref S.ib):=rfl
theorem Gb (S:SS):(Ga S).lookup (Str.ofString "holders")=some (.ref S.ho):=rfl
theorem Rv (S:SS):(Ga S).lookup (Str.ofString "sheets_made")=some (.int S.made):=rfl
def mH:Sp:=λ vs H Q _ => ∃ (t:Addr) (a:Th),vs = [.ref t]/\H t=some (.tup (gv a))/\(∀ m,a = .own m->Q (.bl true) H)/\(∀ z p,a = .file z p->Q (.bl false) H)
theorem D4 (D:Def K mg "is_sheet" fT) (T:Txt K mg cU cA cB cC cT cF cD cS cI):dF P w K mg base 1 "is_sheet" ["thing"] mH:=by
 have sc:=sG
 refine D.ok sG (λ vs H Q E h => ?_) (λ _ _ _ _ _ _ us hl=>match us,hl with | [_],_=>rfl) (λ f cdv A outer s H vs Q E hr h => ?_)
 ·obtain ⟨_,_,rfl,_⟩:=h;rfl
 ·obtain ⟨t,a,rfl,ht,k1,k2⟩:=h
  refine ⟨_,(@ao _ _ _ (@aE _ _ _ _ (@gF _ _ _ _ _ _ _ _ cY (@aY _ _ _ _ _ _ _ aQ (@aq _ 0 _ _ (by walk_at "v")) (@ak _ _ _ _) (λ _ _=>rfl)) (@dD _ _ _ _) (aP _)))),?_⟩
  cases a with
  | own m =>
    have ht':H t=some (.tup [.str (Str.ofString "own"),.int m]):=ht
    walk_at "ge"
    have:=k1 m rfl
    simpa using this
  | file z p =>
    have ht':H t=some (.tup [.str (Str.ofString "file"),.str z,.int p]):=ht
    walk_at "ge"
    have hne : ¬ Str.ofString "file" = Str.ofString "own" := by decide +kernel
    have:=k2 z p rfl
    simpa [hne] using this
def LR (cT cF cD cS cI:Addr):Sp:=λ vs H Q _ => ∃ (S:SS) (n i:Nat) (M:Cells),vs = [.ref S.b,.int (i:Nat)]/\Led H (bw cT cF cD cS cI S M)/\Ej S.F n M/\S.bs.length=n/\i < n ∧ ∀ H',Led H' (bw cT cF cD cS cI (freed S i) M)->Q .aI H'
theorem Ob (D:Def K mg "free_frame" d7) (T:Txt K mg cU cA cB cC cT cF cD cS cI) (xM:aM P w K mg base 1 cF "empty" ["self","frame"] (GO cF)) (jQ:aM P w K mg base 1 cD "clear" ["self","frame"] (xF cD false)):dF P w K mg base 2 "free_frame" ["store","frame"] (LR cT cF cD cS cI):=by
 have sc:=nt
 refine D.ok nt (λ vs H Q E h => ?_) (λ _ _ _ _ _ _ us hl=>match us,hl with | [_,_],_=>rfl) (λ f cdv A outer s H vs Q E hr h => ?_)
 ·obtain ⟨_,_,_,_,rfl,_⟩:=h;rfl
 ·obtain ⟨S,n,i,M,rfl,hL,g,hb,hi,k⟩:=h
  have f1:=i7 S
  have f2:=oK S
  have i9:=hL.get St.b
  have hF:=St.toF hL
  have kI:=hF.get mS
  refine ⟨_,(@af _ _ _ _ _ (@b9 _ _ _ _ (@aU _ _ _ _ _ _ _ _ _ _ _ _ _ _ _ _ T.Frames xM (hr.mono (by omega)) aB (@az _ _ _ _ _ _ _ T.bz T.cg (@aq _ 0 _ _ (by walk_at "v")) (by rfl)) (@aa _ _ _ _ _ (@aq _ 1 _ _ (by walk_at "v")) (@aj _) (by rfl)) (by rfl) (by rfl) (by rfl)) (by rfl)) (@ao _ _ _ (@b9 _ _ _ _ (@aU _ _ _ _ _ _ _ _ _ _ _ _ _ _ _ _ T.jK jQ (hr.mono (by omega)) aB (@az _ _ _ _ _ _ _ T.bz T.lq (@aq _ 0 _ _ (by walk_at "v")) (by rfl)) (@aa _ _ _ _ _ (@aq _ 1 _ _ (by walk_at "v")) (@aj _) (by rfl)) (by rfl) (by rfl) (by rfl)) (by rfl)))),?_⟩
  refine aG λ M1 K1 => ?_
  walk_at "ge"
  refine ⟨S.F,n,i,_,rfl,hF,g.mono (λ c hc=>j6 hc),hi,λ H1 hl1 => ?_⟩
  have hl2:=St.Ru (S:=S) (N:=[]) (F':=S.F.fill i none none false) rfl hl1
  clear hL hF hl1 kI i9
  have i9:=hl2.get St.b
  have hD:=St.toD hl2
  have Jh:=hD.get Lm
  walk_at "ge"
  refine K1.use ?_
  walk_at "cl"
  clear K1
  walk_at "ge"
  have hb2:((i:Nat):Int) < (S.bs.length:Int):=by omega
  refine ⟨S.d,S.Jz,S.dm,(S.p:Int),((i:Nat):Int),S.bs,_,rfl,hD,by omega,hb2,λ H2 hl3 => ?_⟩
  rw [Int.toNat_natCast] at hl3
  have bT:=St.ofD (S := { S with F:=S.F.fill i none none false }) (N:=[]) (p':=S.p) (bs':=S.bs.set i false) hl3
  walk_at "ge"
  exact k _ bT
structure aR (S:SS) (n q:Nat) (M:Cells):Prop where
 f:Ej S.F n M
 n1:1<=n
 n64:n<=64
 bl:S.bs.length=n
 pn:S.p < n
 rr : ∀ (i:Nat) (t:Addr) (a:Th),S.F.hs[i]? = some (some (t,a))->∃ (r:Addr) (row:List Int),S.F.rs[i]? = some (some (r,row))/\row.length=4
 inj : ∀ (i j:Nat) (t u:Addr) (a:Th),S.F.hs[i]? = some (some (t,a))->S.F.hs[j]? = some (some (u,a))->i=j
 pl:S.ps.length=q
 q6:q<=550
 pe : ∀ v∈S.ps,v = .aI ∨ ∃ m:Int,v = .int m
 nd:(S.es.map (·.1)).Nodup
 pk : ∀ m:Int,V.int m∈S.ps↔m∈S.es.map (·.1)
 pi : ∀ (i j:Nat) (m:Int),S.ps[i]? = some (.int m)->S.ps[j]? = some (.int m)->i=j
 ap : ∀ (i:Nat) (t:Addr) (m:Int),S.F.hs[i]? = some (some (t,Th.own m))->m ∉ S.es.map (·.1)
 er : ∀ e∈S.es,e.2.2.length=4
 fn:(S.fs.map (·.1)).Nodup
 fr : ∀ e∈S.fs,∀ r∈e.2.2,(r.1,HO.lst (r.2.map V.int))∈M/\r.2.length=4
 ff : ∀ (i:Nat) (t:Addr) (z:Str) (p:Int),S.F.hs[i]? = some (some (t,Th.file z p))->∃ e∈S.fs,∃ j:Nat,e.1=z/\p=j/\j < e.2.2.length
theorem aR.mono {S:SS} {n q:Nat} {M M':Cells} (g:aR S n q M) (s : ∀ c∈M,c∈M'):aR S n q M' := { g with f:=g.f.mono s,fr:=λ e he r hr=>⟨s _ (g.fr e he r hr).1,(g.fr e he r hr).2⟩ }
theorem aR.freed {S:SS} {n q:Nat} {M:Cells} (g:aR S n q M) (i:Nat):aR (freed S i) n q M:=by
 have old : ∀ (j:Nat) (x:Addr×Th),(S.F.hs.set i none)[j]? = some (some x)->S.F.hs[j]? = some (some x)/\i≠j:=λ j x h=>by
  rw [List.getElem?_set] at h
  split at h
  ·split at h
   ·cases h
   ·cases h
  ·exact ⟨h,by assumption⟩
 refine { g with f:=g.f.fill (λ t a e=>nomatch e) (λ t a e=>nomatch e),bl:=(List.length_set ..).trans g.bl,rr:=λ j t a h => ?_,inj:=λ j l t u a h1 h2=>g.inj j l t u a (old j _ h1).1 (old l _ h2).1,ap:=λ j t m h=>g.ap j t m (old j _ h).1,ff:=λ j t z p h=>g.ff j t z p (old j _ h).1 }
 obtain ⟨h1,h2⟩:=old j _ h
 obtain ⟨r,row,e,h4⟩:=g.rr j t a h1
 exact ⟨r,row,by show (S.F.rs.set i none)[j]? = _;rw [List.getElem?_set,if_neg h2];exact e,h4⟩
end
section
variable {P:Program} {w:World} {K:PySem.W.Frag} {mg:Str->Option Value} {base:Heap} {cU cA cB cC cT cF cD cS cI:Addr}
def PO (N:Cells) (S:SS) (i:Nat) (S':SS):Th->Prop
 | .own m => ∃ (r:Addr) (row:List Int) (b:Addr),S.F.rs[i]? = some (some (r,row))/\S' = freed { S with ps:=S.ps.set (idx S.ps .aI) (.int m),es:=S.es++[(m,b,row)] } i
 | .file z p => ∃ (r:Addr) (row:List Int),S.F.rs[i]? = some (some (r,row))/\((S.F.bs[i]? = some false/\S' = freed S i)\/(S.F.bs[i]? = some true ∧ ∃ (as bs:cR) (e:yk) (j:Nat) (nr:Addr),S.fs=as++e::bs/\e.1=z/\p=(j:Int)/\j < e.2.2.length/\(nr,HO.lst (row.map V.int))∈N/\S' = freed { S with fs:=as++(e.1,e.2.1,e.2.2.set j (nr,row))::bs } i))
theorem aR.flat {S:SS} {n q:Nat} {M:Cells} (g:aR S n q M):S.ps.all eE=true:=by
 rw [List.all_eq_true]
 intro v hv
 rcases g.pe v hv with rfl | ⟨m,rfl⟩ <;> rfl
theorem aR.LS {S:SS} {n q:Nat} {M:Cells} (g:aR S n q M) (h:sC .aI S.ps=true):S.ps[idx S.ps .aI]? = some .aI:=by
 obtain ⟨v,hv,he⟩:=Cn h
 rcases g.pe v (List.mem_of_getElem? hv) with rfl | ⟨m,rfl⟩
 ·exact hv
 ·cases he
theorem aR.Oc {S:SS} {n q:Nat} {M:Cells} (g:aR S n q M):S.es.length<=q:=by
 have h1:(S.es.map (·.1)).length<=(S.ps.map λ v=>match v with | .int m=>m | _=>0).length:=by
  refine g.nd.length_le_of_subset λ m hm => ?_
  exact List.mem_map.mpr ⟨.int m,(g.pk m).mpr hm,rfl⟩
 rw [List.length_map,List.length_map,g.pl] at h1
 exact h1
theorem aR.LU {S:SS} {n q i:Nat} {M:Cells} {t b:Addr} {m:Int} {row:List Int} (g:aR S n q M) (hi:S.F.hs[i]? = some (some (t,.own m))) (hn:sC .aI S.ps=true) (h4:row.length=4) :
  aR (My.freed { S with ps:=S.ps.set (idx S.ps .aI) (.int m),es:=S.es++[(m,b,row)] } i) n q M:=by
 have hat:=g.LS hn
 have hlt:idx S.ps .aI < S.ps.length:=(List.getElem?_eq_some_iff.mp hat).1
 have Lz:=g.ap i t m hi
 have hmp:V.int m ∉ S.ps:=λ h=>Lz ((g.pk m).mp h)
 have gf:=g.freed i
 have atS : ∀ (j:Nat) (v:V),(S.ps.set (idx S.ps .aI) (.int m))[j]? = some v->(j=idx S.ps .aI/\v = .int m)\/(j≠idx S.ps .aI/\S.ps[j]? = some v):=λ j v h=>by
  rw [List.getElem?_set] at h
  by_cases e:idx S.ps .aI=j
  ·rw [if_pos e,if_pos hlt] at h
   exact .inl ⟨e.symm,(Option.some.inj h).symm⟩
  ·rw [if_neg e] at h
   exact .inr ⟨λ q=>e q.symm,h⟩
 have old : ∀ (j:Nat) (x:Addr×Th),(S.F.hs.set i none)[j]? = some (some x)->S.F.hs[j]? = some (some x)/\i≠j:=λ j x h=>by
  rw [List.getElem?_set] at h
  split at h
  ·split at h
   ·cases h
   ·cases h
  ·exact ⟨h,by assumption⟩
 refine ⟨gf.f,gf.n1,gf.n64,gf.bl,gf.pn,gf.rr,gf.inj,(List.length_set ..).trans g.pl,g.q6,λ v hv => ?_,?_,λ k => ?_,λ j l k h1 h2 => ?_,λ j u k h => ?_,λ e he => ?_,g.fn,gf.fr,gf.ff⟩
 ·rcases List.mem_or_eq_of_mem_set hv with h | h
  ·exact g.pe v h
  ·exact .inr ⟨m,h⟩
 ·show ((S.es++[(m,b,row)]).map (·.1)).Nodup
  rw [List.map_append]
  refine List.nodup_append.mpr ⟨g.nd,by simp,λ x hx y hy e => ?_⟩
  rw [List.map_singleton,List.mem_singleton] at hy
  have hy':y=m:=hy
  exact Lz (hy' ▸ e ▸ hx)
 ·show V.int k∈S.ps.set (idx S.ps .aI) (.int m)↔k∈(S.es++[(m,b,row)]).map (·.1)
  rw [List.map_append,List.mem_append,List.map_singleton,List.mem_singleton,<-g.pk k]
  constructor
  ·intro h
   rcases List.mem_or_eq_of_mem_set h with h | h
   ·exact .inl h
   ·injection h with h;exact .inr h
  ·rintro (h | rfl)
   ·obtain ⟨j,hj⟩:=List.getElem?_of_mem h
    have hne:idx S.ps .aI≠j:=λ e=>by rw [<-e,hat] at hj;cases hj
    exact List.mem_of_getElem? (i:=j) (by rw [List.getElem?_set,if_neg hne];exact hj)
   ·exact List.mem_of_getElem? (i:=idx S.ps .aI) (by rw [List.getElem?_set,if_pos rfl,if_pos hlt])
 ·rcases atS j _ h1 with ⟨e1,e2⟩ | ⟨e1,e2⟩
  ·rcases atS l _ h2 with ⟨e3,e4⟩ | ⟨e3,e4⟩
   ·rw [e1,e3]
   ·injection e2 with e2;subst e2
    exact absurd (List.mem_of_getElem? e4) hmp
  ·rcases atS l _ h2 with ⟨e3,e4⟩ | ⟨e3,e4⟩
   ·injection e4 with e4;subst e4
    exact absurd (List.mem_of_getElem? e2) hmp
   ·exact g.pi j l k e2 e4
 ·obtain ⟨h1,h2⟩:=old j _ h
  show k ∉ (S.es++[(m,b,row)]).map (·.1)
  rw [List.map_append,List.mem_append,List.map_singleton,List.mem_singleton]
  rintro (h3 | rfl)
  ·exact g.ap j u k h1 h3
  ·exact h2 (g.inj i j t u _ hi h1)
 ·rcases List.mem_append.mp he with he | he
  ·exact g.er e he
  ·rw [List.mem_singleton.mp he];exact h4
theorem aR.stored {S:SS} {n q i:Nat} {M:Cells} {as bs:cR} {e:yk} {j:Nat} {nr:Addr} {row:List Int} (g:aR S n q M) (hf:S.fs=as++e::bs) (h4:row.length=4) (hn:(nr,HO.lst (row.map V.int))∈M) :
  aR (My.freed { S with fs:=as++(e.1,e.2.1,e.2.2.set j (nr,row))::bs } i) n q M:=by
 have gf:=g.freed i
 have keys:(as++(e.1,e.2.1,e.2.2.set j (nr,row))::bs).map (·.1)=S.fs.map (·.1):=by rw [hf];simp
 refine ⟨gf.f,gf.n1,gf.n64,gf.bl,gf.pn,gf.rr,gf.inj,g.pl,g.q6,g.pe,g.nd,g.pk,g.pi,gf.ap,g.er,?_,λ x hx r hr => ?_,λ l t z p h => ?_⟩
 ·show ((as++(e.1,e.2.1,e.2.2.set j (nr,row))::bs).map (·.1)).Nodup
  rw [keys];exact g.fn
 ·rcases List.mem_append.mp hx with hx | hx
  ·exact g.fr x (by rw [hf];exact mB hx) r hr
  ·rcases List.mem_cons.mp hx with rfl | hx
   ·rcases List.mem_or_eq_of_mem_set hr with h | rfl
    ·exact g.fr e (by rw [hf];exact mA mS) r h
    ·exact ⟨hn,h4⟩
   ·exact g.fr x (by rw [hf];exact mA (mC hx)) r hr
 ·obtain ⟨x,hx,k,h1,h2,h3⟩:=gf.ff l t z p h
  have hx':x∈as++e::bs:=by rw [<-hf];exact hx
  rcases List.mem_append.mp hx' with hx' | hx'
  ·exact ⟨x,mB hx',k,h1,h2,h3⟩
  ·rcases List.mem_cons.mp hx' with rfl | hx'
   ·exact ⟨_,mA mS,k,h1,h2,by show k < (x.2.2.set j (nr,row)).length;rw [List.length_set];exact h3⟩
   ·exact ⟨x,mA (mC hx'),k,h1,h2,h3⟩
theorem PO.mono {N N':Cells} {S S':SS} {i:Nat} {a:Th} (h:PO N S i S' a) (up : ∀ c∈N,c∈N'):PO N' S i S' a:=by
 cases a with
 | own m=>exact h
 | file z p =>
   obtain ⟨r,row,h1,h2⟩:=h
   refine ⟨r,row,h1,?_⟩
   rcases h2 with h2 | ⟨h2,as,bs,e,j,nr,h3,h4,h5,h6,h7,h8⟩
   ·exact .inl h2
   ·exact .inr ⟨h2,as,bs,e,j,nr,h3,h4,h5,h6,up _ h7,h8⟩
theorem aR.po {N:Cells} {S S':SS} {n q i:Nat} {M:Cells} {t:Addr} {a:Th} (g:aR S n q M) (hi:S.F.hs[i]? = some (some (t,a))) (hn : ∀ m,a = .own m->sC .aI S.ps=true) (h:PO N S i S' a):aR S' n q (N++M):=by
 have up : ∀ c∈M,c∈N++M:=λ c hc=>mA hc
 obtain ⟨r0,jz,hr0,h40⟩:=g.rr i t a hi
 cases a with
 | own m =>
   obtain ⟨r,row,b,h1,rfl⟩:=h
   rw [hr0] at h1
   cases h1
   exact (g.LU hi (hn m rfl) h40).mono up
 | file z p =>
   obtain ⟨r,row,h1,h2⟩:=h
   rw [hr0] at h1
   cases h1
   rcases h2 with ⟨_,rfl⟩ | ⟨_,as,bs,e,j,nr,h3,h4,h5,h6,h7,rfl⟩
   ·exact (g.freed i).mono up
   ·exact (g.mono up).stored h3 h40 (mB h7)
def D5 (cT cF cD cS cI:Addr):Sp:=λ vs H Q _ => ∃ (S:SS) (n q i:Nat) (t:Addr) (a:Th) (M:Cells),vs = [.ref S.b,.int (i:Nat)]/\Led H (bw cT cF cD cS cI S M)/\aR S n q M/\S.F.hs[i]? = some (some (t,a))/\(∀ m,a = .own m->sC .aI S.ps=true) ∧ ∀ (S':SS) (N:Cells) (H':Hp),PO N S i S' a->aR S' n q (N++M)->Led H' (bw cT cF cD cS cI S' (N++M))->Q .aI H'
theorem Gd (D:Def K mg "put_out" gR) (T:Txt K mg cU cA cB cC cT cF cD cS cI) (ql:aM P w K mg base 1 cF "thing_in" ["self","frame"] (AR cF)) (gx:aM P w K mg base 1 cF "row_in" ["self","frame"] (Ck cF)) (oM:aM P w K mg base 1 cF "is_soiled" ["self","frame"] (DV cF)) (xN:aM P w K mg base 2 cS "put_on" ["self","sheet","row"] (Po cS cU)) (qm:aM P w K mg base 4 cI "store_row" ["self","name","page","row"] (GW cI cA cB)) (iy:dF P w K mg base 1 "is_sheet" ["thing"] mH) (Cq:dF P w K mg base 2 "free_frame" ["store","frame"] (LR cT cF cD cS cI)):dF P w K mg base 5 "put_out" ["store","frame"] (D5 cT cF cD cS cI):=by
 have sc:=vD
 refine D.Di vD (λ vs H Q E h => ?_) (λ _ _ _ _ _ _ us hl=>match us,hl with | [_,_],_=>rfl) (λ f cdv A outer s H vs Q E hr h => ?_)
 ·obtain ⟨_,_,_,_,_,_,_,rfl,_⟩:=h;rfl
 ·obtain ⟨S,n,q,i,t,a,M,rfl,hL,g,hi,GY,k⟩:=h
  obtain ⟨r,row,Ab,h4⟩:=g.rr i t a hi
  have hin:i < n:=by rw [<-g.f.h];exact (List.getElem?_eq_some_iff.mp hi).1
  obtain ⟨CK,Pq⟩:=g.f.th t a (List.mem_of_getElem? hi)
  have sQ:=g.f.rw r row (List.mem_of_getElem? Ab)
  have f1:=i7 S
  have f2:=oK S
  have f3:=rX S
  have f4:=Cp S
  have i9:=hL.get St.b
  have hF:=St.toF hL
  have kI:=hF.get mS
  refine ⟨_,(@af _ _ _ _ _ (@aK _ _ 2 _ _ _ _ sc.nd rfl (by walk_at "o2") (@aU _ _ _ _ _ _ _ _ _ _ _ _ _ _ _ _ T.Frames ql (hr.mono (by omega)) aB (@az _ _ _ _ _ _ _ T.bz T.cg (@aq _ 0 _ _ (by walk_at "v")) (by rfl)) (@aa _ _ _ _ _ (@aq _ 1 _ _ (by walk_at "v")) (@aj _) (by rfl)) (by rfl) (by rfl) (by rfl)) (by rfl) (by walk_at "o4")) (@af _ _ _ _ _ (@aK _ _ 3 _ _ _ _ sc.nd rfl (by walk_at "o2") (@aU _ _ _ _ _ _ _ _ _ _ _ _ _ _ _ _ T.Frames gx (hr.mono (by omega)) aB (@az _ _ _ _ _ _ _ T.bz T.cg (@aq _ 0 _ _ (by walk_at "v")) (by rfl)) (@aa _ _ _ _ _ (@aq _ 1 _ _ (by walk_at "v")) (@aj _) (by rfl)) (by rfl) (by rfl) (by rfl)) (by rfl) (by walk_at "o4")) (@af _ _ _ _ _ (@aS _ _ _ _ _ _ _ _ (@aZ _ _ _ (@aC _ _ _ _ _ _ _ _ _ _ _ iy (hr.mono (by omega)) (by rfl) aB (@aa _ _ _ _ _ (@aq _ 2 _ _ (by walk_at "v")) (@aj _) (by rfl)) (by decide) (by rfl) (by rfl)) (by intro _;rfl)) (@ao _ _ _ (@b9 _ _ _ _ (@aU _ _ _ _ _ _ _ _ _ _ _ _ _ _ _ _ T.fz xN (hr.mono (by omega)) jS (@az _ _ _ _ _ _ _ T.bz T.jJ (@aq _ 0 _ _ (by walk_at "v")) (by rfl)) (@aa _ _ _ _ _ (@aY _ _ _ _ _ _ _ aQ (@aq _ 2 _ _ (by walk_at "v")) (@ak _ _ _ _) (λ _ _=>rfl)) (@aa _ _ _ _ _ (@aq _ 3 _ _ (by walk_at "v")) (@aj _) (by rfl)) (by rfl)) (by rfl) (by rfl) (by rfl)) (by rfl))) (@ao _ _ _ (@aS _ _ _ _ _ _ _ _ (@aZ _ _ _ (@aU _ _ _ _ _ _ _ _ _ _ _ _ _ _ _ _ T.Frames oM (hr.mono (by omega)) aB (@az _ _ _ _ _ _ _ T.bz T.cg (@aq _ 0 _ _ (by walk_at "v")) (by rfl)) (@aa _ _ _ _ _ (@aq _ 1 _ _ (by walk_at "v")) (@aj _) (by rfl)) (by rfl) (by rfl) (by rfl)) (by intro _;rfl)) (@ao _ _ _ (@b9 _ _ _ _ (@aU _ _ _ _ _ _ _ _ _ _ _ _ _ _ _ _ T.gB qm (hr.mono (by omega)) jS (@az _ _ _ _ _ _ _ T.bz T.pG (@aq _ 0 _ _ (by walk_at "v")) (by rfl)) (@aa _ _ _ _ _ (@aY _ _ _ _ _ _ _ aQ (@aq _ 2 _ _ (by walk_at "v")) (@ak _ _ _ _) (λ _ _=>rfl)) (@aa _ _ _ _ _ (@aY _ _ _ _ _ _ _ aQ (@aq _ 2 _ _ (by walk_at "v")) (@ak _ _ _ _) (λ _ _=>rfl)) (@aa _ _ _ _ _ (@aq _ 3 _ _ (by walk_at "v")) (@aj _) (by rfl)) (by rfl)) (by rfl)) (by rfl) (by rfl) (by rfl)) (by rfl))) (@aF _)))) (@ao _ _ _ (@b9 _ _ _ _ (@aC _ _ _ _ _ _ _ _ _ _ _ Cq (hr.mono (by omega)) (by rfl) aB (@aa _ _ _ _ _ (@aq _ 0 _ _ (by walk_at "v")) (@aa _ _ _ _ _ (@aq _ 1 _ _ (by walk_at "v")) (@aj _) (by rfl)) (by rfl)) (by decide) (by rfl) (by rfl)) (by rfl)))))),?_⟩
  refine aG λ M1 K1 => ?_
  walk_at "ge"
  refine ⟨S.F,i,some (t,a),_,rfl,hF,hi,?_⟩
  rw [show aX (some (t,a))=V.ref t from rfl]
  walk_at "ge"
  refine K1.use ?_
  walk_at "cl"
  clear K1
  refine aG λ M1 K1 => ?_
  walk_at "ge"
  refine ⟨S.F,i,r,row,_,rfl,hF,Ab,j6 sQ,by omega,λ qr H1 hl1 => ?_⟩
  have hl2:Led H1 (sP cF S.F ([(qr,HO.lst (row.map V.int))]++rF cT cD cS cI S M)):=Led.perm hl1 (aN [(qr,HO.lst (row.map V.int))] (qu cF S.F) _)
  have hl3:=St.Ru (S:=S) (F':=S.F) rfl hl2
  have bT:Led H1 (bw cT cF cD cS cI S ([(qr,HO.lst (row.map V.int))]++M)):=hl3
  clear hl1 hl2 hl3 hL hF i9 kI
  walk_at "ge"
  refine K1.use ?_
  walk_at "cl"
  clear K1
  have up4 : ∀ c∈M,c∈[(qr,HO.lst (row.map V.int))]++M:=λ c hc=>mC hc
  have g4:=g.mono up4
  have AU:=bT.get (St.up (up4 _ CK))
  have i9:=bT.get St.b
  refine aG λ M1 K1 => ?_
  have rest : ∀ (S1:SS) (N:Cells) (H':Hp),S1.b=S.b->S1.bs.length=n->Ej S1.F n (N++M)->PO N S i (freed S1 i) a->aR (freed S1 i) n q (N++M)->Led H' (bw cT cF cD cS cI S1 (N++M))->M1 [some (.ref S.b),some (.int (i:Nat)),some (.ref t),some (.ref qr)] H':=by
   intro S1 N H' e1 e2 e3 e4 e5 hl'
   refine K1.use ?_
   clear K1 bT
   walk_at "ge"
   refine ⟨S1,n,i,_,by rw [e1];rfl,hl',e3,e2,hin,λ H2 hl2 => ?_⟩
   walk_at "ge"
   exact k _ _ _ e4 e5 hl2
  clear K1
  walk_at "ge"
  refine ⟨t,a,rfl,AU,λ m hm => ?_,λ z p hz => ?_⟩
  ·subst hm
   have LV:H1 t=some (.tup [.str (Str.ofString "own"),.int m]):=AU
   have hS:=St.toS bT
   have eS:=hS.get NZ
   walk_at "ge"
   refine ⟨S.sb,S.LP,S.sl,S.sd,qr,m,row,S.ps,S.es,_,rfl,hS,UD mS,g.flat,g.ap i t m hi,by have:=g.Oc;have:=g.q6;omega,λ hn b H2 c7 => ?_,λ hn=>absurd hn (by rw [GY m rfl];decide)⟩
   have fL:=St.ofS (S:=S) (N:=[]) (M:=[(qr,HO.lst (row.map V.int))]++M) c7
   walk_at "ge"
   exact rest { S with ps:=S.ps.set (idx S.ps .aI) (.int m),es:=S.es++[(m,b,row)] } _ _ rfl g.bl g4.f ⟨r,row,b,Ab,rfl⟩ (g4.LU hi hn h4) fL
  ·subst hz
   have LV:H1 t=some (.tup [.str (Str.ofString "file"),.str z,.int p]):=AU
   have hF:=St.toF bT
   have kI:=hF.get mS
   obtain ⟨so,hso⟩ : ∃ b,S.F.bs[i]? = some b:=⟨_,List.getElem?_eq_getElem (by rw [g.f.s];exact hin)⟩
   walk_at "ge"
   refine ⟨S.F,i,so,_,rfl,hF,hso,?_⟩
   cases so with
   | false =>
     walk_at "ge"
     exact rest S _ _ rfl g.bl g4.f ⟨r,row,Ab,.inl ⟨hso,rfl⟩⟩ (g4.freed i) bT
   | true =>
     obtain ⟨e,he,j,e1,e2,e3⟩:=g.ff i t z p hi
     have hI:=St.UB bT
     have UE:=hI.get mS
     walk_at "ge"
     refine ⟨S.ib,S.ix,S.im,qr,S.fs,z,p,row,_,rfl,hI,g.fn,LQ mS,by omega,λ as bs e' hf he1 j' hj1 hj2 nr H2 c7 => ?_,λ e' he' h1 h2 => ?_,λ hz=>absurd (List.mem_map.mpr ⟨e,he,e1⟩) hz⟩
     ·have fL:=St.ofI (S:=S) (N:=[(nr,HO.lst (row.map V.int))]) (M:=[(qr,HO.lst (row.map V.int))]++M) c7
      have g6:=g4.mono (M':=[(nr,HO.lst (row.map V.int))]++([(qr,HO.lst (row.map V.int))]++M)) λ c hc=>mC hc
      walk_at "ge"
      exact rest { S with fs:=as++(e'.1,e'.2.1,e'.2.2.set j' (nr,row))::bs } ([(nr,HO.lst (row.map V.int))]++[(qr,HO.lst (row.map V.int))]) _ rfl g.bl g6.f ⟨r,row,Ab,.inr ⟨hso,as,bs,e',j',nr,hf,he1,hj1,hj2,mS,rfl⟩⟩ (g6.stored hf h4 mS) fL
     ·exfalso
      have:e' = e:=by
       have h3:=findF g.fn he
       have h5:=findF g.fn he'
       rw [h1,<-e1] at h5
       exact Option.some.inj (h5.symm.trans h3)
      subst this
      exact h2 ⟨by omega,by rw [e2];exact_mod_cast e3⟩
end
section
variable {P:Program} {w:World} {K:PySem.W.Frag} {mg:Str->Option Value} {base:Heap} {cU cA cB cC cT cF cD cS cI:Addr}
def bg:Th->Bool
 | .own _=>false
 | .file _ _=>true
def dH (S:SS):List Bool:=S.F.hs.map λ x=>match x with | some y=>bg y.2 || sC .aI S.ps | none=>false
theorem mJ {S:SS} {i:Nat} {t:Addr} {a:Th} (h:S.F.hs[i]? = some (some (t,a))):(dH S)[i]? = some (bg a || sC .aI S.ps):=by unfold dH;rw [List.getElem?_map,h];rfl
theorem LW {vs:List V} {bs:List Bool} (hl:vs.length=bs.length) (h : ∀ (i:Nat) v,vs[i]? = some v->∃ b,bs[i]? = some b/\v = .bl b):vs=bs.map V.bl:=by
 refine List.ext_getElem? λ i => ?_
 rw [List.getElem?_map]
 by_cases hi:i < vs.length
 ·obtain ⟨b,hb,e⟩:=h i _ (List.getElem?_eq_getElem hi)
  rw [List.getElem?_eq_getElem hi,e,hb]
  rfl
 ·rw [List.getElem?_eq_none (by omega),List.getElem?_eq_none (by omega)]
  rfl
theorem aR.turned {S:SS} {n q:Nat} {M:Cells} (g:aR S n q M) {p:Nat} {bs:List Bool} (hp:p < n) (hb:bs.length=n):aR { S with p:=p,bs:=bs } n q M := { g with bl:=hb,pn:=hp }
def Cr (cT cF cD cS cI cU:Addr):Sp:=λ vs H Q E => ∃ (S:SS) (n q:Nat) (M:Cells),vs = [.ref S.b]/\Led H (bw cT cF cD cS cI S M)/\aR S n q M ∧
 (∀ (i:Nat) (H':Hp),S.F.hs[i]? = some none->(∀ (j:Nat) z,j < i->S.F.hs[j]? = some z->z≠none)->Led H' (bw cT cF cD cS cI S M)->Q (.int (i:Nat)) H') ∧
 ((∀ z∈S.F.hs,z≠none)->∀ (f:Nat) (bs':List Bool) (t:Addr) (a:Th),CI (dH S) (2 * n) S.p S.bs=some (f,bs')->S.F.hs[f]? = some (some (t,a))->∀ (S':SS) (N:Cells) (H':Hp),PO N { S with p:=(f+1) % n,bs:=bs' } f S' a->aR S' n q (N++M)->Led H' (bw cT cF cD cS cI S' (N++M))->Q (.int (f:Nat)) H') ∧
 ((∀ z∈S.F.hs,z≠none)->true ∉ dH S->∀ (N:Cells) (H':Hp),Led H' (bw cT cF cD cS cI S (N++M))->E (.ref cU) none H')
theorem Od (D:Def K mg "have_frame" d8) (B:jd mg) (T:Txt K mg cU cA cB cC cT cF cD cS cI) (m5:aM P w K mg base 2 cF "least_free" ["self"] (λ vs H Q E => ∃ b,vs = [.ref b]/\qj cF [.ref b,.aI] H Q E)) (c8:aM P w K mg base 1 cF "things" ["self"] (qk cF)) (gw:aM P w K mg base 1 cS "is_full" ["self"] (F7 cS)) (Ac:aM P w K mg base 1 cD "choose" ["self","may"] (DT cD cU)) (iy:dF P w K mg base 1 "is_sheet" ["thing"] mH) (Ji:dF P w K mg base 5 "put_out" ["store","frame"] (D5 cT cF cD cS cI)):dF P w K mg base 6 "have_frame" ["store"] (Cr cT cF cD cS cI cU):=by
 have sc:=nu
 refine D.Di nu (λ vs H Q E h => ?_) (λ _ _ _ _ _ _ us hl=>match us,hl with | [_],_=>rfl) (λ f cdv A outer s H vs Q E hr h => ?_)
 ·obtain ⟨_,_,_,_,rfl,_⟩:=h;rfl
 ·obtain ⟨S,n,q,M,rfl,hL,g,kf,kg,ke⟩:=h
  have hsz:=sizeLine_eq
  have f1:=i7 S
  have f2:=oK S
  have f3:=rX S
  have i9:=hL.get St.b
  have hF:=St.toF hL
  have kI:=hF.get mS
  have gn:=g.n64
  refine ⟨_,(@af _ _ _ _ _ (@aK _ _ 1 _ _ _ _ sc.nd rfl (by walk_at "o2") (@dh _ _ _ _ _ _ _ _ _ _ _ _ _ T.Frames m5 (hr.mono (by omega)) aB (@az _ _ _ _ _ _ _ T.bz T.cg (@aq _ 0 _ _ (by walk_at "v")) (by rfl)) (by rfl)) (by rfl) (by walk_at "o4")) (@af _ _ _ _ _ (@aS _ _ _ _ _ _ _ _ (@aL _ _ _ _ _ _ _ _ oY (@aq _ 1 _ _ (by walk_at "v")) (@bE _ _ _) (aP _)) (@ao _ _ _ (@aE _ _ _ _ (@aq _ 1 _ _ (by walk_at "v")))) (@aF _)) (@af _ _ _ _ _ (@aK _ _ 2 _ _ _ _ sc.nd rfl (by walk_at "o2") (@dh _ _ _ _ _ _ _ _ _ _ _ _ _ T.fz gw (hr.mono (by omega)) aB (@az _ _ _ _ _ _ _ T.bz T.jJ (@aq _ 0 _ _ (by walk_at "v")) (by rfl)) (by rfl)) (by rfl) (by walk_at "o4")) (@af _ _ _ _ _ (@aK _ _ 3 _ _ _ _ sc.nd rfl (by walk_at "o2") (@aU _ _ _ _ _ _ _ _ _ _ _ _ _ _ _ _ T.jK Ac (hr.mono (by omega)) jS (@az _ _ _ _ _ _ _ T.bz T.lq (@aq _ 0 _ _ (by walk_at "v")) (by rfl)) (@aa _ _ _ _ _ (@o7 _ _ "thing" _ _ _ _ _ _ _ _ _ rfl rfl rfl rfl O6 (dg (by kernel_rfl)) (@gE _ _ _ _ (@dh _ _ _ _ _ _ _ _ _ _ _ _ _ T.Frames c8 (hr.mono (by omega)) aB (@az _ _ _ _ _ _ _ T.bz T.cg (@aq _ 0 _ _ (by walk_at "v")) (by rfl)) (by rfl))) (λ _ _ _ _=>(@jF _)) (λ _ _ _ _=>(@OQ _ _ _ _ _ _ _ (@Ep _ _ _ _ (@aC _ _ _ _ _ _ _ _ _ _ _ iy (hr.mono (by omega)) (by rfl) aB (@aa _ _ _ _ _ (@pk _ 0 _ _ (by kernel_rfl) (by kernel_rfl) (by decide) (by decide)) (@aj _) (by rfl)) (by decide) (by rfl) (by rfl))) (@nH _ _ _ _ _ (@Ep _ _ _ _ (@pk _ 3 _ _ (by kernel_rfl) (by kernel_rfl) (by decide) (by decide)))))) (by intro _;rfl)) (@aj _) (by rfl)) (by rfl) (by rfl) (by rfl)) (by rfl) (by walk_at "o4")) (@af _ _ _ _ _ (@b9 _ _ _ _ (@aC _ _ _ _ _ _ _ _ _ _ _ Ji (hr.mono (by omega)) (by rfl) jS (@aa _ _ _ _ _ (@aq _ 0 _ _ (by walk_at "v")) (@aa _ _ _ _ _ (@aq _ 3 _ _ (by walk_at "v")) (@aj _) (by rfl)) (by rfl)) (by decide) (by rfl) (by rfl)) (by rfl)) (@ao _ _ _ (@aE _ _ _ _ (@aq _ 3 _ _ (by walk_at "v"))))))))),?_⟩
  refine aG λ M1 K1 => ?_
  walk_at "ge"
  have rest:(∀ z∈S.F.hs,z≠none)->M1 [some (.ref S.b),some .aI,none,none] H:=by
   intro hall
   refine K1.use ?_
   clear K1
   refine aG λ M1 K1 => ?_
   walk_at "ge"
   ·exact absurd (rfl:V.aI=V.aI) (by assumption)
   refine K1.use ?_
   walk_at "cl"
   clear K1
   have hS:=St.toS hL
   have eS:=hS.get NZ
   have LX:=hS.get VU
   refine aG λ M1 K1 => ?_
   walk_at "ge"
   refine ⟨S.sb,S.LP,S.sl,S.sd,S.ps,rfl,eS,LX,g.flat,?_⟩
   walk_at "ge"
   refine K1.use ?_
   walk_at "cl"
   clear K1 hS eS LX
   have hD:=St.toD hL
   have Jh:=hD.get Lm
   refine aG λ M1 K1 => ?_
   walk_at "ge"
   refine vv λ Lc mZ => ?_
   walk_at "ge"
   refine ⟨S.F,_,rfl,hF,by rw [g.f.h];omega,λ qt H1 hl1 => ?_⟩
   refine ⟨qt,rfl,⟨_,fq.of (hl1.get mS)⟩,mZ.use ?_⟩
   clear mZ Jh i9 kI hD hF
   have ml:(dH S).length=n:=by unfold dH;rw [List.length_map];exact g.f.h
   refine mh (S.F.hs.map aX) (λ i v C=>C = [] ∧ ∃ b,(dH S)[i]? = some b/\v = .bl b) hl1 List.mem_cons_self (by rw [List.length_map,g.f.h];omega) (λ i y H2 R N hy hl2 hR => ?_) (λ pm vs Cs H2 hv hc hG hl2 => ?_)
   ·rw [List.getElem?_map] at hy
    obtain ⟨x,hx,rfl⟩:=Option.map_eq_some_iff.mp hy
    cases x with
    | none=>exact absurd rfl (hall none (List.mem_of_getElem? hx))
    | some x =>
      have Sl:=hl2.get (mA (mC (mC (mC (mC (mC (j6 (g.f.th x.1 x.2 (List.mem_of_getElem? hx)).1)))))))
      have hm:=mJ (t:=x.1) (a:=x.2) hx
      rw [show aX (some x)=V.ref x.1 from rfl]
      walk_at "ge"
      refine ⟨x.1,x.2,rfl,Sl,λ m e => ?_,λ z p e => ?_⟩
      ·rw [e] at hm
       walk_at "ge"
       rw [Bool.not_not]
       exact hR _ _ [] ⟨rfl,_,hm,rfl⟩ hl2
      ·rw [e] at hm
       walk_at "ge"
       exact hR _ _ [] ⟨rfl,_,hm,rfl⟩ hl2
   ·rw [List.length_map,g.f.h] at hv hc
    have hvs:=LW (by rw [hv,ml]) λ i v hi=>by
     have hlt:i < Cs.length:=by have:=(List.getElem?_eq_some_iff.mp hi).1;omega
     exact (hG i v _ hi (List.getElem?_eq_getElem hlt)).2
    have hcs:Cs.flatten = []:=by
     rw [List.flatten_eq_nil_iff]
     intro C hC
     obtain ⟨i,hi⟩:=List.getElem?_of_mem hC
     have hlt:i < vs.length:=by have:=(List.getElem?_eq_some_iff.mp hi).1;omega
     exact (hG i _ C (List.getElem?_eq_getElem hlt) hi).1
    rw [hvs,hcs] at hl2
    have hl3:Led H2 (sP cF S.F ([(pm,HO.lst ((dH S).map V.bl)),(qt,HO.lst (S.F.hs.map aX))]++rF cT cD cS cI S M)):=Led.perm hl2 (aN [(pm,HO.lst ((dH S).map V.bl)),(qt,HO.lst (S.F.hs.map aX))] (qu cF S.F) _)
    have bT:Led H2 (bw cT cF cD cS cI S ([(pm,HO.lst ((dH S).map V.bl)),(qt,HO.lst (S.F.hs.map aX))]++M)):=St.Ru (S:=S) (F':=S.F) rfl hl3
    clear hl2 hl3 hl1 hG hvs hcs hL
    have hD:=St.toD bT
    have g1:=g.n1
    walk_at "ge"
    refine ⟨S.d,S.Jz,S.dm,pm,S.p,dH S,S.bs,_,rfl,hD,UC mS,by rw [ml,g.bl],by rw [g.bl];omega,by rw [g.bl];omega,λ fr bs' H3 hgo c7 => ?_,λ H3 hno c7 => ?_⟩
    ·rw [ml] at hgo c7
     have fL:=St.ofD (S:=S) (N:=[]) (M:=[(pm,HO.lst ((dH S).map V.bl)),(qt,HO.lst (S.F.hs.map aX))]++M) c7
     obtain ⟨l1,l2,l3⟩:=qi _ _ _ hgo
     rw [ml] at l2
     have hfn:=l2 (by omega)
     obtain ⟨x,hx⟩ : ∃ x,S.F.hs[fr]? = some x:=⟨_,List.getElem?_eq_getElem (by rw [g.f.h];exact hfn)⟩
     cases x with
     | none=>exact absurd rfl (hall none (List.mem_of_getElem? hx))
     | some x =>
       have Q3:=mJ (t:=x.1) (a:=x.2) hx
       rw [List.getD_eq_getElem?_getD,Q3] at l3
       walk_at "ge"
       refine K1.use ?_
       walk_at "cl"
       clear K1 c7 hD bT
       refine aG λ M1 K1 => ?_
       walk_at "ge"
       refine ⟨{ S with p:=(fr+1) % n,bs:=bs' },n,q,fr,x.1,x.2,_,rfl,fL,(g.turned (Nat.mod_lt _ (by omega)) (l1.trans g.bl)).mono (λ c hc=>List.mem_append_right [] (mA hc)),hx,λ m e => ?_,λ S' N H4 LY gk jx => ?_⟩
       ·rw [e] at l3
        exact l3
       ·walk_at "ge"
        refine K1.use ?_
        walk_at "cl"
        clear K1
        walk_at "ge"
        have e2:N++([(pm,HO.lst ((dH S).map V.bl)),(qt,HO.lst (S.F.hs.map aX))]++M)=(N++[(pm,HO.lst ((dH S).map V.bl)),(qt,HO.lst (S.F.hs.map aX))])++M:=(List.append_assoc _ _ _).symm
        have gk':aR S' n q (N++([(pm,HO.lst ((dH S).map V.bl)),(qt,HO.lst (S.F.hs.map aX))]++M)):=gk
        have UG:Led H4 (bw cT cF cD cS cI S' (N++([(pm,HO.lst ((dH S).map V.bl)),(qt,HO.lst (S.F.hs.map aX))]++M))):=jx
        rw [e2] at gk' UG
        exact kg hall fr bs' x.1 x.2 hgo hx S' _ _ (LY.mono λ c hc=>mB hc) gk' UG
    ·have fL:=St.ofD (S:=S) (N:=[]) (M:=[(pm,HO.lst ((dH S).map V.bl)),(qt,HO.lst (S.F.hs.map aX))]++M) c7
     exact ke hall hno _ _ fL
  refine ⟨S.F.b,rfl,S.F,n,none,_,rfl,hF,g.f.mono (λ c hc=>j6 hc),(λ t a e=>nomatch e),by omega,λ hno => ?_,λ j y h1 h2 h3 => ?_⟩
  ·walk_at "ge"
   exact rest λ z hz e=>hno z hz (by rw [e])
  ·walk_at "ge"
   refine K1.use ?_
   walk_at "cl"
   clear K1
   walk_at "ge"
   ·exact kf j _ (by rw [h1];cases y with | none=>rfl | some y=>cases h2) (λ m z hm hz e=>h3 m z hm hz (by rw [e])) hL
   ·exact nomatch (show V.int (j:Nat)=V.aI by assumption)
end
section
variable {P:Program} {w:World} {K:PySem.W.Frag} {mg:Str->Option Value} {base:Heap} {cU cA cB cC cT cF cD cS cI:Addr}
def Ad (hs:List (Int×Int)) (m c:Int):List (Int×Int):=hs.map λ e=>if e.1=m then (e.1,c) else e
theorem AV (hs:List (Int×Int)) (m c:Int):(Ad hs m c).map (·.1)=hs.map (·.1):=by
 unfold Ad
 rw [List.map_map]
 refine List.map_congr_left λ e _ => ?_
 show (if e.1=m then (e.1,c) else e).1=e.1
 split <;> rfl
theorem LZ {hs:List (Int×Int)} {m:Int} (h:m ∉ hs.map (·.1)):bB (Ek hs) (.inl m)=none:=by
 induction hs with
 | nil=>rfl
 | cons e hs ih =>
   rw [List.map_cons,List.mem_cons,not_or] at h
   have hne : ¬ (Sum.inl e.1:Key) = .inl m:=λ z=>h.1 (Sum.inl.inj z).symm
   show bB ((Sum.inl e.1,V.int e.2)::Ek hs) (.inl m)=none
   rw [bC (p:=(Sum.inl e.1,V.int e.2)) hne]
   exact ih h.2
theorem Oe {hs:List (Int×Int)} {m:Int} (c:Int) (h:m ∉ hs.map (·.1)):putK (Ek hs) (.inl m) (.int c)=Ek (hs++[(m,c)]):=by
 unfold putK
 rw [if_neg]
 ·unfold Ek;rw [List.map_append];rfl
 ·rw [c6,LZ h];exact Bool.false_ne_true
theorem St.push {H:Hp} {S:SS} {M:Cells} {c:Addr×HO} (h:Led H (c::bw cT cF cD cS cI S M)):Led H (bw cT cF cD cS cI S (c::M)):=by
 have e : ∀ X:Cells,bw cT cF cD cS cI S X=(AS cT S++(qu cF S.F++(D0 cD S++(D3 cS S++Co cI S))))++X:=λ X=>by unfold bw;simp only [List.append_assoc]
 rw [e] at h ⊢
 exact Led.perm h List.perm_middle.symm
theorem St.Ad {H:Hp} {S:SS} {M:Cells} (h:Led H (bw cT cF cD cS cI S M)) (hs':List (Int×Int)):Led (upd H S.ho (.dK (Ek hs'))) (bw cT cF cD cS cI { S with hs:=hs' } M):=by
 have h1:Led H ((S.b,.ins cT S.dx (Ga S))::(S.ho,.dK (Ek S.hs))::(qu cF S.F++(D0 cD S++(D3 cS S++(Co cI S++M))))):=h
 exact (Led.put (o' := .dK (Ek hs')) h1.swap rfl rfl).swap
theorem St.aba {H:Hp} {S:SS} {M:Cells} (h:Led H (bw cT cF cD cS cI S M)) (k:Int):Led (upd H S.b (.ins cT S.dx (cP (Str.ofString "sheets_made") (.int k) (Ga S)))) (bw cT cF cD cS cI { S with made:=k } M):=by
 have h1:Led H ((S.b,.ins cT S.dx (Ga S))::(S.ho,.dK (Ek S.hs))::(qu cF S.F++(D0 cD S++(D3 cS S++(Co cI S++M))))):=h
 exact Led.put (o' := .ins cT S.dx (Ga { S with made:=k })) h1 rfl rfl
def L0 (cT cF cD cS cI:Addr):Sp:=λ vs H Q _ => ∃ (S:SS) (n q:Nat) (M:Cells),vs = [.ref S.b]/\Led H (bw cT cF cD cS cI S M)/\S.F.hs.length=n/\n<=64/\S.ps.length=q/\q<=550/\S.hs.length<=600 ∧ ∀ (N:Cells) (H':Hp),Led H' (bw cT cF cD cS cI S (N++M))->Q (.int ((n:Int) - 1+(q:Int) - (S.hs.length:Int))) H'
theorem Of (D:Def K mg "room_of" gT) (B:jd mg) (T:Txt K mg cU cA cB cC cT cF cD cS cI) (c8:aM P w K mg base 1 cF "things" ["self"] (qk cF)) (iz:aM P w K mg base 1 cS "sheets" ["self"] (xH cS)):dF P w K mg base 2 "room_of" ["store"] (L0 cT cF cD cS cI):=by
 have sc:=vF
 refine D.ok vF (λ vs H Q E h => ?_) (λ _ _ _ _ _ _ us hl=>match us,hl with | [_],_=>rfl) (λ f cdv A outer s H vs Q E hr h => ?_)
 ·obtain ⟨_,_,_,_,rfl,_⟩:=h;rfl
 ·obtain ⟨S,n,q,M,rfl,hL,hn,h64,hq,afw,hh,k⟩:=h
  have hsz:=sizeLine_eq
  have f1:=i7 S
  have f3:=rX S
  have f5:=Gb S
  have i9:=hL.get St.b
  have hF:=St.toF hL
  have kI:=hF.get mS
  refine ⟨_,(@af _ _ _ _ _ (@aK _ _ 1 _ _ _ _ sc.nd rfl (by walk_at "o2") (@av _ _ _ _ _ _ _ _ aV (@av _ _ _ _ _ _ _ _ gY (@aJ _ _ _ _ _ _ _ _ _ aO (by rfl) B.len bK (@aa _ _ _ _ _ (@dh _ _ _ _ _ _ _ _ _ _ _ _ _ T.Frames c8 (hr.mono (by omega)) aB (@az _ _ _ _ _ _ _ T.bz T.cg (@aq _ 0 _ _ (by walk_at "v")) (by rfl)) (by rfl)) (@aj _) (by rfl)) (by decide) (by decide) (by rfl) (by rfl)) (@ak _ _ _ _)) (@aJ _ _ _ _ _ _ _ _ _ aO (by rfl) B.len bK (@aa _ _ _ _ _ (@dh _ _ _ _ _ _ _ _ _ _ _ _ _ T.fz iz (hr.mono (by omega)) aB (@az _ _ _ _ _ _ _ T.bz T.jJ (@aq _ 0 _ _ (by walk_at "v")) (by rfl)) (by rfl)) (@aj _) (by rfl)) (by decide) (by decide) (by rfl) (by rfl))) (by rfl) (by walk_at "o4")) (@ao _ _ _ (@aE _ _ _ _ (@av _ _ _ _ _ _ _ _ gY (@aq _ 1 _ _ (by walk_at "v")) (@aJ _ _ _ _ _ _ _ _ _ aO (by rfl) B.len bK (@aa _ _ _ _ _ (@az _ _ _ _ _ _ _ T.bz T.qA (@aq _ 0 _ _ (by walk_at "v")) (by rfl)) (@aj _) (by rfl)) (by decide) (by decide) (by rfl) (by rfl)))))),?_⟩
  refine aG λ M1 K1 => ?_
  walk_at "ge"
  refine ⟨S.F,_,rfl,hF,by omega,λ qt H1 hl1 => ?_⟩
  have hl2:Led H1 (sP cF S.F ([(qt,HO.lst (S.F.hs.map aX))]++rF cT cD cS cI S M)):=Led.perm hl1 (aN [(qt,HO.lst (S.F.hs.map aX))] (qu cF S.F) _)
  have Sm:=hl1.get mS
  have hl3:Led H1 (bw cT cF cD cS cI S ([(qt,HO.lst (S.F.hs.map aX))]++M)):=St.Ru (S:=S) (F':=S.F) rfl hl2
  clear hl1 hl2 hF kI i9 hL
  have i9:=hl3.get St.b
  have hS:=St.toS hl3
  have eS:=hS.get NZ
  have LX:=hS.get VU
  walk_at "ge"
  refine ⟨S.sb,S.LP,S.sl,S.sd,S.ps,_,rfl,hl3,eS,LX,λ r H2 bT => ?_⟩
  walk_at "ge"
  have c7:=St.push bT
  clear hl3 bT hS eS LX i9 Sm
  have i9:=c7.get St.b
  have LC:=c7.get St.ho
  refine K1.use ?_
  walk_at "cl"
  clear K1
  walk_at "ge"
  have e1:(Ek S.hs).length=S.hs.length:=by unfold Ek;exact List.length_map ..
  have e2:(S.F.hs.map aX).length=n:=by rw [List.length_map];exact hn
  have:=k [(r,HO.lst S.ps),(qt,HO.lst (S.F.hs.map aX))] _ c7
  rw [e1,e2,hq]
  exact this
end
section
variable {P:Program} {w:World} {K:PySem.W.Frag} {mg:Str->Option Value} {base:Heap} {cU cA cB cC cT cF cD cS cI:Addr}
theorem Og {v:V} {m:Int} (hv:v = .aI ∨ ∃ k:Int,v = .int k) (h:Bb v (.int m)=true):v = .int m:=by
 rcases hv with rfl | ⟨k,rfl⟩
 ·cases h
 ·have:decide (k=m)=true:=h
  rw [of_decide_eq_true this]
theorem aR.int_at {S:SS} {n q:Nat} {M:Cells} (g:aR S n q M) {m:Int} (h:sC (.int m) S.ps=true):S.ps[idx S.ps (.int m)]? = some (.int m):=by
 obtain ⟨v,hv,he⟩:=Cn h
 rw [hv,Og (g.pe v (List.mem_of_getElem? hv)) he]
theorem aR.L1 {S:SS} {n q:Nat} {M:Cells} {m:Int} (g:aR S n q M) (hin:sC (.int m) S.ps=true) :
  aR { S with ps:=S.ps.set (idx S.ps (.int m)) .aI,es:=S.es.filter λ x=>decide (x.1≠m) } n q M:=by
 have hat:=g.int_at hin
 have hlt:idx S.ps (.int m) < S.ps.length:=(List.getElem?_eq_some_iff.mp hat).1
 have atS : ∀ (j:Nat) (k:Int),(S.ps.set (idx S.ps (.int m)) .aI)[j]? = some (.int k)->j≠idx S.ps (.int m)/\S.ps[j]? = some (.int k):=λ j k h=>by
  rw [List.getElem?_set] at h
  by_cases e:idx S.ps (.int m)=j
  ·rw [if_pos e,if_pos hlt] at h
   cases h
  ·rw [if_neg e] at h
   exact ⟨λ z=>e z.symm,h⟩
 refine { g with pl:=(List.length_set ..).trans g.pl,pe:=λ v hv => ?_,nd := ?_,pk:=λ k => ?_,pi:=λ i j k h1 h2=>g.pi i j k (atS i k h1).2 (atS j k h2).2,ap:=λ i t k h hk => ?_,er:=λ e he=>g.er e (List.mem_filter.mp he).1 }
 ·rcases List.mem_or_eq_of_mem_set hv with h | h
  ·exact g.pe v h
  ·exact .inl h
 ·exact g.nd.sublist (List.Sublist.map _ List.filter_sublist)
 ·show V.int k∈S.ps.set (idx S.ps (.int m)) .aI↔k∈(S.es.filter λ x=>decide (x.1≠m)).map (·.1)
  constructor
  ·intro h
   obtain ⟨j,hj⟩:=List.getElem?_of_mem h
   obtain ⟨h1,h2⟩:=atS j k hj
   obtain ⟨e,he,rfl⟩:=List.mem_map.mp ((g.pk k).mp (List.mem_of_getElem? h2))
   refine List.mem_map.mpr ⟨e,List.mem_filter.mpr ⟨he,decide_eq_true λ z=>h1 ?_⟩,rfl⟩
   rw [z] at h2
   exact g.pi j _ m h2 hat
  ·intro h
   obtain ⟨e,he,rfl⟩:=List.mem_map.mp h
   obtain ⟨he,hne⟩:=List.mem_filter.mp he
   obtain ⟨j,hj⟩:=List.getElem?_of_mem ((g.pk e.1).mpr (List.mem_map.mpr ⟨e,he,rfl⟩))
   have hjn:idx S.ps (.int m)≠j:=λ z=>by
    rw [<-z,hat] at hj
    injection hj with hj
    injection hj with hj
    exact of_decide_eq_true hne hj.symm
   refine List.mem_of_getElem? (i:=j) ?_
   rw [List.getElem?_set,if_neg hjn]
   exact hj
 ·obtain ⟨e,he,e2⟩:=List.mem_map.mp hk
  exact g.ap i t k h (List.mem_map.mpr ⟨e,(List.mem_filter.mp he).1,e2⟩)
end
section
variable {P:Program} {w:World} {K:PySem.W.Frag} {mg:Str->Option Value} {base:Heap} {cU cA cB cC cT cF cD cS cI:Addr}
def Lies (S:SS) (m:Int):Prop:=(∃ (i:Nat) (t:Addr),S.F.hs[i]? = some (some (t,Th.own m)))\/m∈S.es.map (·.1)
theorem PO.hs {N:Cells} {S S':SS} {i:Nat} {a:Th} (h:PO N S i S' a):S'.F.hs=S.F.hs.set i none/\S'.hs=S.hs/\S'.made=S.made/\S'.b=S.b/\S'.ho=S.ho:=by
 cases a with
 | own m=>obtain ⟨r,row,b,_,rfl⟩:=h;exact ⟨rfl,rfl,rfl,rfl,rfl⟩
 | file z p =>
   obtain ⟨r,row,_,h⟩:=h
   rcases h with ⟨_,rfl⟩ | ⟨_,as,bs,e,j,nr,_,_,_,_,_,rfl⟩
   ·exact ⟨rfl,rfl,rfl,rfl,rfl⟩
   ·exact ⟨rfl,rfl,rfl,rfl,rfl⟩
theorem PO.es {N:Cells} {S S':SS} {i:Nat} {a:Th} (h:PO N S i S' a):S'.es.map (·.1)=S.es.map (·.1)++(match a with | .own m=>[m] | .file _ _=>[]):=by
 cases a with
 | own m=>obtain ⟨r,row,b,_,rfl⟩:=h;show (S.es++[(m,b,row)]).map (·.1)=_;rw [List.map_append];rfl
 | file z p =>
   obtain ⟨r,row,_,h⟩:=h
   rcases h with ⟨_,rfl⟩ | ⟨_,as,bs,e,j,nr,_,_,_,_,_,rfl⟩
   ·exact (List.append_nil _).symm
   ·exact (List.append_nil _).symm
theorem PO.lies {N:Cells} {S S':SS} {i:Nat} {a:Th} {t:Addr} (hi:S.F.hs[i]? = some (some (t,a))) (h:PO N S i S' a) (k:Int):Lies S' k↔Lies S k:=by
 have hlt:i < S.F.hs.length:=(List.getElem?_eq_some_iff.mp hi).1
 unfold Lies
 rw [h.es,h.hs.1,List.mem_append]
 constructor
 ·rintro (⟨j,u,hj⟩ | hk | hk)
  ·rw [List.getElem?_set] at hj
   by_cases e:i=j
   ·subst e
    rw [if_pos rfl,if_pos hlt] at hj
    cases hj
   ·rw [if_neg e] at hj
    exact .inl ⟨j,u,hj⟩
  ·exact .inr hk
  ·cases a with
   | own m=>rw [List.mem_singleton.mp hk];exact .inl ⟨i,t,hi⟩
   | file z p=>cases hk
 ·rintro (⟨j,u,hj⟩ | hk)
  ·by_cases e:i=j
   ·subst e
    rw [hi] at hj
    cases hj
    exact .inr (.inr mS)
   ·exact .inl ⟨j,u,by rw [List.getElem?_set,if_neg e];exact hj⟩
  ·exact .inr (.inl hk)
def fM (N:Cells) (S:SS) (n i:Nat) (S1:SS):Prop :=
 (S.F.hs[i]? = some none/\(∀ (j:Nat) z,j < i->S.F.hs[j]? = some z->z≠none)/\S1=S) ∨
 ((∀ z∈S.F.hs,z≠none) ∧ ∃ (bs':List Bool) (t:Addr) (a:Th),CI (dH S) (2 * n) S.p S.bs=some (i,bs')/\S.F.hs[i]? = some (some (t,a))/\PO N { S with p:=(i+1) % n,bs:=bs' } i S1 a)
theorem fM.lies {N:Cells} {S S1:SS} {n i:Nat} (h:fM N S n i S1) (k:Int):Lies S1 k↔Lies S k:=by
 rcases h with ⟨_,_,rfl⟩ | ⟨_,bs',t,a,_,hi,h⟩
 ·exact Iff.rfl
 ·exact PO.lies (S := { S with p:=(i+1) % n,bs:=bs' }) hi h k
theorem fM.at {N:Cells} {S S1:SS} {n i:Nat} (h:fM N S n i S1):S1.F.hs[i]? = some none/\S1.hs=S.hs/\S1.made=S.made/\S1.b=S.b/\S1.ho=S.ho:=by
 rcases h with ⟨h,_,rfl⟩ | ⟨_,bs',t,a,_,hi,h⟩
 ·exact ⟨h,rfl,rfl,rfl,rfl⟩
 ·refine ⟨?_,h.hs.2⟩
  have hlt:i < S.F.hs.length:=(List.getElem?_eq_some_iff.mp hi).1
  rw [h.hs.1]
  show (S.F.hs.set i none)[i]? = _
  rw [List.getElem?_set,if_pos rfl,if_pos hlt]
theorem fM.mono {N N':Cells} {S S1:SS} {n i:Nat} (h:fM N S n i S1) (up : ∀ c∈N,c∈N'):fM N' S n i S1:=by
 rcases h with h | ⟨h,bs',t,a,h1,h2,h3⟩
 ·exact .inl h
 ·exact .inr ⟨h,bs',t,a,h1,h2,h3.mono up⟩
theorem aR.had {N:Cells} {S S1:SS} {n q i:Nat} {M:Cells} (g:aR S n q M) (h:fM N S n i S1):aR S1 n q (N++M):=by
 rcases h with ⟨_,_,rfl⟩ | ⟨_,bs',t,a,hgo,hi,h⟩
 ·exact g.mono λ c hc=>mA hc
 ·obtain ⟨l1,l2,l3⟩:=qi _ _ _ hgo
  have n1:=g.n1
  refine aR.po (S := { S with p:=(i+1) % n,bs:=bs' }) (g.turned (Nat.mod_lt _ (by omega)) (l1.trans g.bl)) hi (λ m e => ?_) h
  rw [List.getD_eq_getElem?_getD,mJ hi,e] at l3
  exact l3
theorem aR.filled {S:SS} {n q i:Nat} {M:Cells} (g:aR S n q M) {t r:Addr} {m k:Int} {row:List Int} {hs':List (Int×Int)} (ht:(t,HO.tup (gv (.own m)))∈M) (hr:(r,HO.lst (row.map V.int))∈M) (h4:row.length=4) (hn : ¬ Lies S m) :
  aR { S with made:=k,hs:=hs',F:=S.F.fill i (some (t,.own m)) (some (r,row)) false } n q M:=by
 have old : ∀ (j:Nat) (x:Addr×Th),(S.F.hs.set i (some (t,.own m)))[j]? = some (some x)->(j=i/\x=(t,.own m))\/(i≠j/\S.F.hs[j]? = some (some x)):=λ j x h=>by
  rw [List.getElem?_set] at h
  split at h
  ·split at h
   ·cases h
    exact .inl ⟨by omega,rfl⟩
   ·cases h
  ·exact .inr ⟨by assumption,h⟩
 refine { g with f:=g.f.fill (λ t' a e=>by cases e;exact ⟨ht,True.intro⟩) (λ t' a e=>by cases e;exact hr),rr:=λ j u a h => ?_,inj:=λ j l u v a h1 h2 => ?_,ap:=λ j u k h => ?_,ff:=λ j u z p h => ?_ }
 ·rcases old j _ h with ⟨rfl,_⟩ | ⟨h1,h2⟩
  ·have hlt:j < S.F.rs.length:=by
    have h5:=(List.getElem?_eq_some_iff.mp h).1
    have h6:(S.F.hs.set j (some (t,.own m))).length=n:=(List.length_set ..).trans g.f.h
    rw [g.f.r,<-h6]
    exact h5
   exact ⟨r,row,by show (S.F.rs.set j _)[j]? = _;rw [List.getElem?_set,if_pos rfl,if_pos hlt],h4⟩
  ·obtain ⟨r',fN,e,h5⟩:=g.rr j u a h2
   exact ⟨r',fN,by show (S.F.rs.set i _)[j]? = _;rw [List.getElem?_set,if_neg h1];exact e,h5⟩
 ·rcases old j _ h1 with ⟨e1,x1⟩ | ⟨n1,o1⟩
  ·rcases old l _ h2 with ⟨e2,_⟩ | ⟨n2,o2⟩
   ·rw [e1,e2]
   ·cases x1
    exact absurd (.inl ⟨l,v,o2⟩) hn
  ·rcases old l _ h2 with ⟨e2,x2⟩ | ⟨n2,o2⟩
   ·cases x2
    exact absurd (.inl ⟨j,u,o1⟩) hn
   ·exact g.inj j l u v a o1 o2
 ·rcases old j _ h with ⟨_,x⟩ | ⟨_,o⟩
  ·cases x
   exact λ z=>hn (.inr z)
  ·exact g.ap j u k o
 ·rcases old j _ h with ⟨_,x⟩ | ⟨_,o⟩
  ·cases x
  ·exact g.ff j u z p o
def Pr (cT cF cD cS cI cU:Addr):Sp:=λ vs H Q E => ∃ (S:SS) (n q:Nat) (r0:Addr) (row:List Int) (M:Cells),vs = [.ref S.b,.ref r0]/\Led H (bw cT cF cD cS cI S M)/\aR S n q M/\(r0,HO.lst (row.map V.int))∈M/\row.length=4/\S.hs.length<=600 ∧ ¬ Lies S (S.made+1)/\S.made+1 ∉ S.hs.map (·.1) ∧
 ((n:Int) - 1+(q:Int) - (S.hs.length:Int)=0->∀ (N:Cells) (H':Hp),Led H' (bw cT cF cD cS cI S (N++M))->E (.ref cU) none H') ∧
 ((n:Int) - 1+(q:Int) - (S.hs.length:Int)≠0->(∀ z∈S.F.hs,z≠none)->true ∉ dH S->False) ∧
 ((n:Int) - 1+(q:Int) - (S.hs.length:Int)≠0->∀ (i:Nat) (S1:SS) (t r p:Addr) (N:Cells) (H':Hp),fM N S n i S1->(t,HO.tup (gv (.own (S.made+1))))∈N->(r,HO.lst (row.map V.int))∈N->aR { S1 with made:=S.made+1,hs:=S.hs++[(S.made+1,1)],F:=S1.F.fill i (some (t,.own (S.made+1))) (some (r,row)) false } n q (N++M)->(p,HO.tup [.int (S.made+1),.int (i:Nat)])∈N->Led H' (bw cT cF cD cS cI { S1 with made:=S.made+1,hs:=S.hs++[(S.made+1,1)],F:=S1.F.fill i (some (t,.own (S.made+1))) (some (r,row)) false } (N++M))->Q (.ref p) H')
theorem Rw (D:Def K mg "new_sheet" fc) (B:jd mg) (T:Txt K mg cU cA cB cC cT cF cD cS cI) (i8:aM P w K mg base 1 cF "fill" ["self","frame","thing","row"] (F5 cF)) (Jj:dF P w K mg base 2 "room_of" ["store"] (L0 cT cF cD cS cI)) (eu:dF P w K mg base 6 "have_frame" ["store"] (Cr cT cF cD cS cI cU)):dF P w K mg base 7 "new_sheet" ["store","row"] (Pr cT cF cD cS cI cU):=by
 have sc:=pD
 refine D.Di pD (λ vs H Q E h => ?_) (λ _ _ _ _ _ _ us hl=>match us,hl with | [_,_],_=>rfl) (λ f cdv A outer s H vs Q E hr h => ?_)
 ·obtain ⟨_,_,_,_,_,_,rfl,_⟩:=h;rfl
 ·obtain ⟨S,n,q,r0,row,M,rfl,hL,g,sQ,h4,hh,UH,Lz,ke,kn,k⟩:=h
  have hu:=iU hr
  have hsz:=sizeLine_eq
  refine ⟨_,(@af _ _ _ _ _ (@aS _ _ _ _ _ _ _ _ (@aL _ _ _ _ _ _ _ _ cY (@aC _ _ _ _ _ _ _ _ _ _ _ Jj (hr.mono (by omega)) (by rfl) aB (@aa _ _ _ _ _ (@aq _ 0 _ _ (by walk_at "v")) (@aj _) (by rfl)) (by decide) (by rfl) (by rfl)) (@ak _ _ _ _) (aP _)) (@ao _ _ _ (@je _ _ _ _ _ _ _ _ _ _ _ _ _ _ _ _ _ _ _ _ _ _ T.Full (by rfl) (@aa _ _ _ _ _ (@dD _ _ _ _) (@aj _) (by rfl)) (by decide) (by rfl))) (@aF _)) (@af _ _ _ _ _ (@aK _ _ 2 _ _ _ _ sc.nd rfl (by walk_at "o2") (@aC _ _ _ _ _ _ _ _ _ _ _ eu (hr.mono (by omega)) (by rfl) jS (@aa _ _ _ _ _ (@aq _ 0 _ _ (by walk_at "v")) (@aj _) (by rfl)) (by decide) (by rfl) (by rfl)) (by rfl) (by walk_at "o4")) (@af _ _ _ _ _ (@aK _ _ 3 _ _ _ _ sc.nd rfl (by walk_at "o2") (@av _ _ _ _ _ _ _ _ aV (@az _ _ _ _ _ _ _ T.bz T.i6 (@aq _ 0 _ _ (by walk_at "v")) (by rfl)) (@ak _ _ _ _)) (by rfl) (by walk_at "o4")) (@af _ _ _ _ _ (@cy _ _ _ _ _ _ _ _ _ _ T.bz T.i6 (@aq _ 0 _ _ (by walk_at "v")) (@aq _ 3 _ _ (by walk_at "v")) (by rfl)) (@af _ _ _ _ _ (@l8 _ _ _ _ _ _ _ _ _ hu (@az _ _ _ _ _ _ _ T.bz T.qA (@aq _ 0 _ _ (by walk_at "v")) (by rfl)) (@aq _ 3 _ _ (by walk_at "v")) (@ak _ _ _ _) rfl) (@af _ _ _ _ _ (@b9 _ _ _ _ (@aU _ _ _ _ _ _ _ _ _ _ _ _ _ _ _ _ T.Frames i8 (hr.mono (by omega)) aB (@az _ _ _ _ _ _ _ T.bz T.cg (@aq _ 0 _ _ (by walk_at "v")) (by rfl)) (@aa _ _ _ _ _ (@aq _ 2 _ _ (by walk_at "v")) (@aa _ _ _ _ _ (@fu _ _ _ _ _ (@aa _ _ _ _ _ (@dD _ _ _ _) (@aa _ _ _ _ _ (@aq _ 3 _ _ (by walk_at "v")) (@aj _) (by rfl)) (by rfl))) (@aa _ _ _ _ _ (@aq _ 1 _ _ (by walk_at "v")) (@aj _) (by rfl)) (by rfl)) (by rfl)) (by rfl) (by rfl) (by rfl)) (by rfl)) (@ao _ _ _ (@aE _ _ _ _ (@fu _ _ _ _ _ (@aa _ _ _ _ _ (@aq _ 3 _ _ (by walk_at "v")) (@aa _ _ _ _ _ (@aq _ 2 _ _ (by walk_at "v")) (@aj _) (by rfl)) (by rfl))))))))))),?_⟩
  refine aG λ M1 K1 => ?_
  walk_at "ge"
  refine ⟨S,n,q,M,rfl,hL,g.f.h,g.n64,g.pl,g.q6,hh,λ N1 H1 hl1 => ?_⟩
  have g1:aR S n q (N1++M):=g.mono λ c hc=>mA hc
  walk_at "ge"
  ·refine nP λ R hR => ?_
   walk_at "ge"
   exact ⟨by decide,ke (by assumption) N1 _ hl1⟩
  ·have hroom:(n:Int) - 1+(q:Int) - (S.hs.length:Int)≠0:=by assumption
   refine K1.use ?_
   walk_at "cl"
   clear K1
   refine aG λ M1 K1 => ?_
   have rest : ∀ (i:Nat) (S1:SS) (N:Cells) (H2:Hp),fM N S n i S1->aR S1 n q (N++(N1++M))->Led H2 (bw cT cF cD cS cI S1 (N++(N1++M)))->M1 [some (.ref S.b),some (.ref r0),some (.int (i:Nat)),none] H2:=by
    intro i S1 N H2 Ae gk hl2
    rw [show N++(N1++M)=(N++N1)++M from (List.append_assoc _ _ _).symm] at gk hl2
    obtain ⟨h0,Sn,VV,eb,eho⟩:=Ae.at
    have hi:i < n:=by have:=(List.getElem?_eq_some_iff.mp h0).1;rw [gk.f.h] at this;exact this
    have nl : ¬ Lies S1 (S.made+1):=λ z=>UH ((Ae.lies _).mp z)
    refine K1.use ?_
    clear K1
    have f6:=Rv S1
    have f5:=Gb S1
    have i9:=hl2.get St.b
    rw [<-eb]
    refine aG λ M1 K1 => ?_
    walk_at "ge"
    refine K1.use ?_
    walk_at "cl"
    clear K1
    rw [VV]
    refine aG λ M1 K1 => ?_
    walk_at "ge"
    have hl3:=St.aba hl2 (S.made+1)
    generalize upd H2 S1.b (HO.ins cT S1.dx (cP (Str.ofString "sheets_made") (V.int (S.made+1)) (Ga S1)))=H3 at hl3 ⊢
    refine K1.use ?_
    walk_at "cl"
    clear K1 i9 hl2 f5 f6
    have f5:=Gb { S1 with made:=S.made+1 }
    have i9:=hl3.get St.b
    have LC:=hl3.get St.ho
    refine aG λ M1 K1 => ?_
    walk_at "ge"
    have abb:S.made+1 ∉ S1.hs.map (·.1):=by rw [Sn];exact Lz
    refine Pf LC (by unfold Ek;rw [List.length_map];show S1.hs.length < _;rw [Sn];omega) ?_
    rw [Oe _ abb]
    have bT:=St.Ad hl3 (S1.hs++[(S.made+1,1)])
    obtain ⟨S3,UI⟩ : ∃ S3:SS,S3 = { S1 with made:=S.made+1,hs:=S1.hs++[(S.made+1,1)] } := ⟨_,rfl⟩
    have c7:Led (upd H3 S1.ho (HO.dK (Ek (S1.hs++[(S.made+1,1)])))) (bw cT cF cD cS cI S3 ((N++N1)++M)):=by rw [UI];exact bT
    have g3:aR S3 n q ((N++N1)++M):=by rw [UI];exact { gk with }
    have eb3:S1.b=S3.b:=by rw [UI]
    clear bT hl3 i9 LC f5
    walk_at "ge"
    refine K1.use ?_
    walk_at "cl"
    clear K1
    generalize upd H3 S1.ho (HO.dK (Ek (S1.hs++[(S.made+1,1)])))=H4 at c7 ⊢
    rw [eb3]
    have f1:=i7 S3
    have i9:=c7.get St.b
    have hF:=St.toF c7
    have kI:=hF.get mS
    refine aG λ M1 K1 => ?_
    walk_at "ge"
    rename_i t H5 _ fL _ _ _
    have jx:Led H5 (sP cF S3.F ([(t,HO.tup (gv (.own (S.made+1))))]++rF cT cD cS cI S3 ((N++N1)++M))):=Led.perm fL (aN [(t,HO.tup (gv (.own (S.made+1))))] (qu cF S3.F) _)
    clear fL hF i9 kI c7
    refine ⟨S3.F,n,i,t,r0,.own (S.made+1),row,_,rfl,jx,g3.f.mono (λ c hc=>mA (j6 hc)),hi,mA (j6 (mA sQ)),by omega,λ r H6 nD => ?_⟩
    have jP:Led H6 (bw cT cF cD cS cI { S3 with F:=S3.F.fill i (some (t,.own (S.made+1))) (some (r,row)) false } ([(r,HO.lst (row.map V.int)),(t,HO.tup (gv (.own (S.made+1))))]++((N++N1)++M))):=St.Ru (S:=S3) rfl nD
    have nl3 : ¬ Lies S3 (S.made+1):=by rw [UI];exact nl
    have g4:=(g3.mono (M':=[(r,HO.lst (row.map V.int)),(t,HO.tup (gv (.own (S.made+1))))]++((N++N1)++M)) λ c hc=>mA hc).filled (i:=i) (t:=t) (r:=r) (m:=S.made+1) (k:=S.made+1) (row:=row) (hs':=S3.hs) (mC mS) mS h4 nl3
    clear jx nD
    walk_at "ge"
    refine K1.use ?_
    walk_at "cl"
    clear K1
    walk_at "ge"
    rename_i p H7 _ gO _
    have eV:=St.push gO
    have g5:=g4.mono (M':=(p,HO.tup [V.int (S.made+1),V.int (i:Nat)])::([(r,HO.lst (row.map V.int)),(t,HO.tup (gv (.own (S.made+1))))]++((N++N1)++M))) λ c hc=>mC hc
    subst UI
    rw [Sn] at g5 eV
    exact k hroom i S1 t r p ((p,HO.tup [V.int (S.made+1),V.int (i:Nat)])::(r,HO.lst (row.map V.int))::(t,HO.tup (gv (.own (S.made+1))))::(N++N1)) H7 (Ae.mono λ c hc=>mC (mC (mC (mB hc)))) (mC (mC mS)) (mC mS) g5 mS eV
   walk_at "ge"
   refine ⟨S,n,q,_,rfl,hl1,g1,λ i H2 h1 h2 hl2 => ?_,λ hall i bs' t a hgo hi S1 N H2 LY gk hl2 => ?_,λ hall hno N H2 hl2=>(kn hroom hall hno).elim⟩
   ·walk_at "ge"
    exact rest i S [] H2 (.inl ⟨h1,h2,rfl⟩) g1 hl2
   ·walk_at "ge"
    exact rest i S1 N H2 (.inr ⟨hall,bs',t,a,hgo,hi,LY⟩) gk hl2
end
section
variable {P:Program} {w:World} {K:PySem.W.Frag} {mg:Str->Option Value} {base:Heap} {cU cA cB cC cT cF cD cS cI:Addr}
def S0 (b dx fr Af l r s di Ct mk sh CL pl rd fi CM fd ho:Addr) (n q:Nat):SS := { b:=b,dx:=dx,F:=FS.new fr Af l r s n,d:=di,Jz:=Ct,dm:=mk,p:=0,bs:=List.replicate n false,sb:=sh,LP:=CL,sl:=pl,sd:=rd,ps:=List.replicate q .aI,es:=[],ib:=fi,ix:=CM,im:=fd,fs:=[],ho:=ho,hs:=[],made:=0 }
def GZ (cT cF cD cS cI:Addr):Sp:=λ vs H Q _ => ∃ (b dx:Addr) (n q:Nat) (L:Cells),vs = [.ref b,.int (n:Nat),.int (q:Nat)]/\Led H ((b,.ins cT dx [])::L)/\n<=64/\q<=550 ∧ ∀ fr Af l r s di Ct mk sh CL pl rd fi CM fd ho H',Led H' (bw cT cF cD cS cI (S0 b dx fr Af l r s di Ct mk sh CL pl rd fi CM fd ho n q) L)->Q .aI H'
theorem Rx {α : Type} (fi sh di fr L:List α):(fi++(sh++(di++(fr++L)))).Perm (fr++(di++(sh++(fi++L)))) :=
 (((List.Perm.append_left fi (List.Perm.append_left sh (aN di fr L))).trans (List.Perm.append_left fi (aN sh fr _))).trans (aN fi fr _)).trans (List.Perm.append_left fr (((List.Perm.append_left fi (aN sh di L)).trans (aN fi di _)).trans (List.Perm.append_left di (aN fi sh L))))
theorem L3 (D:nN K cT "Store.__init__" dZ) (T:Txt K mg cU cA cB cC cT cF cD cS cI) (L4:iC P w K mg base 1 cF ["self","many"] (GN cF)) (Ry:iC P w K mg base 1 cD ["self","many"] (GP cD)) (Oh:iC P w K mg base 1 cS ["self","many"] (GS cS)) (Oi:iC P w K mg base 1 cI ["self"] (GV cI)):iC P w K mg base 3 cT ["self","many","places"] (GZ cT cF cD cS cI):=by
 have sc:=nq
 refine D.ok nq (λ vs H Q E h => ?_) (λ _ _ _ _ _ _ us hl=>match us,hl with | [_,_,_],_=>rfl) (λ f cdv A outer s H vs Q E hr h => ?_)
 ·obtain ⟨_,_,_,_,_,rfl,_⟩:=h;rfl
 ·obtain ⟨b,dx,n,q,L,rfl,hL,n64,q6,k⟩:=h
  refine ⟨_,(@af _ _ _ _ _ (@cy _ _ _ _ _ _ _ _ _ _ T.bz T.cg (@aq _ 0 _ _ (by walk_at "v")) (@pq _ _ _ _ _ _ _ _ _ _ _ _ T.Frames L4 (hr.mono (by omega)) (by rfl) aB (@aa _ _ _ _ _ (@aq _ 1 _ _ (by walk_at "v")) (@aj _) (by rfl)) (by decide) (by rfl) (by rfl)) (by rfl)) (@af _ _ _ _ _ (@cy _ _ _ _ _ _ _ _ _ _ T.bz T.lq (@aq _ 0 _ _ (by walk_at "v")) (@pq _ _ _ _ _ _ _ _ _ _ _ _ T.jK Ry (hr.mono (by omega)) (by rfl) aB (@aa _ _ _ _ _ (@aq _ 1 _ _ (by walk_at "v")) (@aj _) (by rfl)) (by decide) (by rfl) (by rfl)) (by rfl)) (@af _ _ _ _ _ (@cy _ _ _ _ _ _ _ _ _ _ T.bz T.jJ (@aq _ 0 _ _ (by walk_at "v")) (@pq _ _ _ _ _ _ _ _ _ _ _ _ T.fz Oh (hr.mono (by omega)) (by rfl) aB (@aa _ _ _ _ _ (@aq _ 2 _ _ (by walk_at "v")) (@aj _) (by rfl)) (by decide) (by rfl) (by rfl)) (by rfl)) (@af _ _ _ _ _ (@cy _ _ _ _ _ _ _ _ _ _ T.bz T.pG (@aq _ 0 _ _ (by walk_at "v")) (@HR _ _ _ _ _ _ _ _ _ T.gB Oi (hr.mono (by omega)) (by rfl) aB (by decide)) (by rfl)) (@af _ _ _ _ _ (@cy _ _ _ _ _ _ _ _ _ _ T.bz T.qA (@aq _ 0 _ _ (by walk_at "v")) (@vd _ _) (by rfl)) (@ao _ _ _ (@cy _ _ _ _ _ _ _ _ _ _ T.bz T.i6 (@aq _ 0 _ _ (by walk_at "v")) (@ak _ _ _ _) (by rfl)))))))),?_⟩
  refine aG λ M1 K1 => ?_
  walk_at "ge"
  intro fr Af z1 z2 z3
  refine ⟨fr,Af,n,_,rfl,hL.make z1 z2 z3,by omega,λ l r s' H1 hl1=>⟨rfl,?_⟩⟩
  clear z1 z2 z3 hL
  have hl2:Led H1 ((b,.ins cT dx [])::(qu cF (FS.new fr Af l r s' n)++L)):=Led.perm hl1 (List.perm_middle (l₁ := qu cF (FS.new fr Af l r s' n)))
  have hl3:Led (upd H1 b (.ins cT dx (cP (Str.ofString "frames") (V.ref fr) []))) ((b,.ins cT dx [("frames",.ref fr)])::_):=hl2.put rfl rfl
  clear hl1
  walk_at "ge"
  refine K1.use ?_
  walk_at "cl"
  clear K1 hl2
  generalize upd H1 b (.ins cT dx (cP (Str.ofString "frames") (V.ref fr) []))=H2 at hl3 ⊢
  refine aG λ M1 K1 => ?_
  walk_at "ge"
  intro di Ct z1 z2 z3
  refine ⟨di,Ct,(n:Int),_,rfl,hl3.make z1 z2 z3,by omega,by omega,λ mk H3 bT=>⟨rfl,?_⟩⟩
  clear z1 z2 z3 hl3
  rw [Int.toNat_natCast] at bT
  have c7:Led H3 ((b,.ins cT dx [("frames",.ref fr)])::(fQ cD di Ct mk 0 (List.replicate n false)++(qu cF (FS.new fr Af l r s' n)++L))):=Led.perm bT List.perm_middle
  have fL:Led (upd H3 b (.ins cT dx (cP (Str.ofString "dial") (V.ref di) [("frames",.ref fr)]))) ((b,.ins cT dx [("frames",.ref fr),("dial",.ref di)])::_):=c7.put rfl rfl
  clear bT
  walk_at "ge"
  refine K1.use ?_
  walk_at "cl"
  clear K1 c7
  generalize upd H3 b (.ins cT dx (cP (Str.ofString "dial") (V.ref di) [("frames",.ref fr)]))=H4 at fL ⊢
  refine aG λ M1 K1 => ?_
  walk_at "ge"
  intro sh CL z1 z2 z3
  refine ⟨sh,CL,(q:Int),_,rfl,fL.make z1 z2 z3,by omega,by omega,λ pl rd H5 jx=>⟨rfl,?_⟩⟩
  clear z1 z2 z3 fL
  rw [Int.toNat_natCast] at jx
  have nD:Led H5 ((b,.ins cT dx [("frames",.ref fr),("dial",.ref di)])::(Aa cS sh CL pl rd (List.replicate q .aI) []++(fQ cD di Ct mk 0 (List.replicate n false)++(qu cF (FS.new fr Af l r s' n)++L)))):=Led.perm jx List.perm_middle
  have jP:Led (upd H5 b (.ins cT dx (cP (Str.ofString "shelf") (V.ref sh) [("frames",.ref fr),("dial",.ref di)]))) ((b,.ins cT dx [("frames",.ref fr),("dial",.ref di),("shelf",.ref sh)])::_):=nD.put rfl rfl
  clear jx
  walk_at "ge"
  refine K1.use ?_
  walk_at "cl"
  clear K1 nD
  generalize upd H5 b (.ins cT dx (cP (Str.ofString "shelf") (V.ref sh) [("frames",.ref fr),("dial",.ref di)]))=H6 at jP ⊢
  refine aG λ M1 K1 => ?_
  walk_at "ge"
  intro fi CM z1 z2 z3
  refine ⟨fi,CM,_,rfl,jP.make z1 z2 z3,λ fd H7 gO=>⟨rfl,?_⟩⟩
  clear z1 z2 z3 jP
  have eV:Led H7 ((b,.ins cT dx [("frames",.ref fr),("dial",.ref di),("shelf",.ref sh)])::(((fi,.ins cI CM (iV fd))::(fd,.dK (xZ []))::nQ [])++(Aa cS sh CL pl rd (List.replicate q .aI) []++(fQ cD di Ct mk 0 (List.replicate n false)++(qu cF (FS.new fr Af l r s' n)++L))))):=Led.perm gO (List.perm_middle (l₁ := (fi,HO.ins cI CM (iV fd))::(fd,.dK (xZ []))::nQ []))
  have gj:Led (upd H7 b (.ins cT dx (cP (Str.ofString "files") (V.ref fi) [("frames",.ref fr),("dial",.ref di),("shelf",.ref sh)]))) ((b,.ins cT dx [("frames",.ref fr),("dial",.ref di),("shelf",.ref sh),("files",.ref fi)])::_):=eV.put rfl rfl
  clear gO
  walk_at "ge"
  refine K1.use ?_
  walk_at "cl"
  clear K1 eV
  generalize upd H7 b (.ins cT dx (cP (Str.ofString "files") (V.ref fi) [("frames",.ref fr),("dial",.ref di),("shelf",.ref sh)]))=H8 at gj ⊢
  refine aG λ M1 K1 => ?_
  walk_at "ge"
  rename_i ho H9 _ gy _
  have lY:Led (upd H9 b (.ins cT dx (cP (Str.ofString "holders") (V.ref ho) [("frames",.ref fr),("dial",.ref di),("shelf",.ref sh),("files",.ref fi)]))) ((b,.ins cT dx [("frames",.ref fr),("dial",.ref di),("shelf",.ref sh),("files",.ref fi),("holders",.ref ho)])::_):=(gy.swap).put rfl rfl
  refine K1.use ?_
  walk_at "cl"
  clear K1 gy gj
  generalize upd H9 b (.ins cT dx (cP (Str.ofString "holders") (V.ref ho) [("frames",.ref fr),("dial",.ref di),("shelf",.ref sh),("files",.ref fi)]))=Nm at lY ⊢
  walk_at "ge"
  have D6:=lY.put (o' := .ins cT dx (Ga (S0 b dx fr Af l r s' di Ct mk sh CL pl rd fi CM fd ho n q))) rfl rfl
  exact k fr Af l r s' di Ct mk sh CL pl rd fi CM fd ho _ (Led.perm D6 (List.Perm.cons _ (List.Perm.cons _ (Rx _ _ _ _ _))))
end
section
variable {P:Program} {w:World} {K:PySem.W.Frag} {mg:Str->Option Value} {base:Heap} {cU cA cB cC cT cF cD cS cI:Addr}
structure El (S:SS) (n q:Nat):Prop where
 nd:(S.hs.map (·.1)).Nodup
 le : ∀ e∈S.hs,1<=e.1/\e.1<=S.made
 c1 : ∀ e∈S.hs,1<=e.2
 Pu : ∀ m,m∈S.hs.map (·.1)↔Lies S m
 most:S.hs.length<=n - 1+q
 m0:0<=S.made
theorem El.key {S:SS} {n q:Nat} (g:El S n q):S.made+1 ∉ S.hs.map (·.1):=λ h=>by
 obtain ⟨e,he,e1⟩:=List.mem_map.mp h
 have:=(g.le e he).2
 have e2:e.1=S.made+1:=e1
 omega
theorem El.fresh {S:SS} {n q:Nat} (g:El S n q) : ¬ Lies S (S.made+1):=λ h=>g.key ((g.Pu _).mpr h)
def ownOf:Hd->Int
 | some (_,.own m)=>m
 | _=>0
def intOf:V->Int
 | .int m=>m
 | _=>0
theorem El.Jk {S:SS} {n q:Nat} {M:Cells} (g:aR S n q M) (h:El S n q) (hall : ∀ z∈S.F.hs,z≠none) (hno:true ∉ dH S):False:=by
 have own : ∀ (i:Nat) (z:Hd),S.F.hs[i]? = some z->∃ t m,z=some (t,Th.own m)/\sC .aI S.ps=false:=λ i z hz=>by
  cases z with
  | none=>exact absurd rfl (hall none (List.mem_of_getElem? hz))
  | some x =>
    have hm:=mJ (t:=x.1) (a:=x.2) hz
    have hf:(bg x.2 || sC .aI S.ps)=false:=by
     cases hb:(bg x.2 || sC .aI S.ps) with
     | false=>rfl
     | true=>rw [hb] at hm;exact absurd (List.mem_of_getElem? hm) hno
    obtain ⟨t,a⟩:=x
    cases a with
    | own m=>exact ⟨t,m,rfl,(Bool.or_eq_false_iff.mp hf).2⟩
    | file z p=>cases (Bool.or_eq_false_iff.mp hf).1
 have n1:=g.n1
 obtain ⟨_,_,_,GY⟩:=own 0 _ (List.getElem?_eq_getElem (by rw [g.f.h];omega))
 have nums : ∀ (i:Nat) (v:V),S.ps[i]? = some v->∃ m,v = .int m:=λ i v hv=>by
  rcases g.pe v (List.mem_of_getElem? hv) with rfl | h
  ·have:sC .aI S.ps=true:=List.any_eq_true.mpr ⟨.aI,List.mem_of_getElem? hv,rfl⟩
   rw [this] at GY
   cases GY
  ·exact h
 have sub : ∀ m∈S.F.hs.map ownOf++S.ps.map intOf,m∈S.hs.map (·.1):=λ m hm=>by
  refine (h.Pu m).mpr ?_
  rcases List.mem_append.mp hm with hm | hm
  ·obtain ⟨z,hz,rfl⟩:=List.mem_map.mp hm
   obtain ⟨i,hi⟩:=List.getElem?_of_mem hz
   obtain ⟨t,m,rfl,_⟩:=own i z hi
   exact .inl ⟨i,t,hi⟩
  ·obtain ⟨v,hv,rfl⟩:=List.mem_map.mp hm
   obtain ⟨i,hi⟩:=List.getElem?_of_mem hv
   obtain ⟨m,rfl⟩:=nums i v hi
   exact .inr ((g.pk m).mp hv)
 have nd:(S.F.hs.map ownOf++S.ps.map intOf).Nodup:=by
  refine List.nodup_append.mpr ⟨?_,?_,?_⟩
  ·refine List.pairwise_iff_getElem.mpr λ i j hi hj hij e => ?_
   rw [List.length_map] at hi hj
   rw [List.getElem_map,List.getElem_map] at e
   obtain ⟨t,m,e1,_⟩:=own i _ (List.getElem?_eq_getElem hi)
   obtain ⟨u,k,e2,_⟩:=own j _ (List.getElem?_eq_getElem hj)
   rw [e1,e2] at e
   have e':m=k:=e
   have:=g.inj i j t u (.own m) (by rw [List.getElem?_eq_getElem hi,e1]) (by rw [List.getElem?_eq_getElem hj,e2,e'])
   omega
  ·refine List.pairwise_iff_getElem.mpr λ i j hi hj hij e => ?_
   rw [List.length_map] at hi hj
   rw [List.getElem_map,List.getElem_map] at e
   obtain ⟨m,e1⟩:=nums i _ (List.getElem?_eq_getElem hi)
   obtain ⟨k,e2⟩:=nums j _ (List.getElem?_eq_getElem hj)
   rw [e1,e2] at e
   have e':m=k:=e
   have:=g.pi i j m (by rw [List.getElem?_eq_getElem hi,e1]) (by rw [List.getElem?_eq_getElem hj,e2,e'])
   omega
  ·intro a ha b hb e
   obtain ⟨z,hz,rfl⟩:=List.mem_map.mp ha
   obtain ⟨v,hv,rfl⟩:=List.mem_map.mp hb
   obtain ⟨i,hi⟩:=List.getElem?_of_mem hz
   obtain ⟨j,hj⟩:=List.getElem?_of_mem hv
   obtain ⟨t,m,rfl,_⟩:=own i z hi
   obtain ⟨k,rfl⟩:=nums j v hj
   have e':m=k:=e
   rw [<-e'] at hv
   exact g.ap i t m hi ((g.pk m).mp hv)
 have:=nd.length_le_of_subset sub
 rw [List.length_append,List.length_map,List.length_map,List.length_map,g.f.h,g.pl] at this
 have:=h.most
 omega
theorem El.count {S:SS} {n q:Nat} (g:El S n q) {m c:Int} (hc:1<=c):El { S with hs:=Ad S.hs m c } n q:=by
 have UJ : ∀ e∈Ad S.hs m c,∃ d∈S.hs,e.1=d.1/\(e.2=c\/e=d):=λ e he=>by
  obtain ⟨d,hd,rfl⟩:=List.mem_map.mp he
  refine ⟨d,hd,?_⟩
  by_cases z:d.1=m
  ·rw [if_pos z];exact ⟨rfl,.inl rfl⟩
  ·rw [if_neg z];exact ⟨rfl,.inr rfl⟩
 refine ⟨by show ((Ad S.hs m c).map (·.1)).Nodup;rw [AV];exact g.nd,λ e he => ?_,λ e he => ?_,λ k => ?_,?_,g.m0⟩
 ·obtain ⟨d,hd,e1,_⟩:=UJ e he
  rw [e1]
  exact g.le d hd
 ·obtain ⟨d,hd,_,e2 | e2⟩:=UJ e he
  ·rw [e2];exact hc
  ·rw [e2];exact g.c1 d hd
 ·show k∈(Ad S.hs m c).map (·.1)↔_
  rw [AV]
  exact g.Pu k
 ·show (Ad S.hs m c).length<=_
  unfold Ad
  rw [List.length_map]
  exact g.most
theorem El.L5 {N:Cells} {S S1:SS} {n q i:Nat} {M:Cells} {t r:Addr} {row:List Int} (g:El S n q) (h:fM N S n i S1) (gs:aR S n q M) (hr:(n:Int) - 1+(q:Int) - (S.hs.length:Int)≠0):El { S1 with made:=S.made+1,hs:=S.hs++[(S.made+1,1)],F:=S1.F.fill i (some (t,.own (S.made+1))) (some (r,row)) false } n q:=by
 have n1:=gs.n1
 have m0:=g.m0
 have hm:=g.most
 have h0:=h.at.1
 have hlt:=(List.getElem?_eq_some_iff.mp h0).1
 refine ⟨?_,λ e he => ?_,λ e he => ?_,λ k => ?_,?_,?_⟩
 ·show ((S.hs++[((S.made+1,1):Int×Int)]).map (λ e:Int×Int=>e.1)).Nodup
  rw [List.map_append]
  refine List.nodup_append.mpr ⟨g.nd,by simp,λ x hx y hy e => ?_⟩
  have hy':y=S.made+1:=by simpa using hy
  exact g.key (hy' ▸ e ▸ hx)
 ·show 1<=e.1/\e.1<=S.made+1
  rcases List.mem_append.mp he with he | he
  ·have:=g.le e he;omega
  ·rw [List.mem_singleton.mp he];show 1<=S.made+1/\S.made+1<=S.made+1;omega
 ·rcases List.mem_append.mp he with he | he
  ·exact g.c1 e he
  ·rw [List.mem_singleton.mp he];exact Int.le_refl 1
 ·show k∈(S.hs++[((S.made+1,1):Int×Int)]).map (λ e:Int×Int=>e.1)↔_
  rw [List.map_append,List.mem_append,g.Pu k,<-h.lies k]
  unfold Lies
  show _↔(∃ (j:Nat) (u:Addr),(S1.F.hs.set i (some (t,.own (S.made+1))))[j]? = some (some (u,Th.own k)))\/k∈S1.es.map (·.1)
  constructor
  ·rintro ((⟨j,u,hj⟩ | hk) | hk)
   ·refine .inl ⟨j,u,?_⟩
    have:i≠j:=λ z=>by rw [<-z,h0] at hj;cases hj
    rw [List.getElem?_set,if_neg this]
    exact hj
   ·exact .inr hk
   ·have hk':k=S.made+1:=by simpa using hk
    refine .inl ⟨i,t,?_⟩
    rw [List.getElem?_set,if_pos rfl,if_pos hlt,hk']
  ·rintro (⟨j,u,hj⟩ | hk)
   ·by_cases z:i=j
    ·rw [List.getElem?_set,if_pos z,if_pos hlt] at hj
     cases hj
     exact .inr mS
    ·rw [List.getElem?_set,if_neg z] at hj
     exact .inl (.inl ⟨j,u,hj⟩)
   ·exact .inl (.inr hk)
 ·show (S.hs++[(S.made+1,1)]).length<=_
  rw [List.length_append]
  show S.hs.length+1<=_
  omega
 ·show 0<=S.made+1
  omega
end
section
variable {P:Program} {w:World} {K:PySem.W.Frag} {mg:Str->Option Value} {base:Heap} {cU cA cB cC cT cF cD cS cI:Addr}
def Cu (cI cA cB:Addr):Sp:=λ vs H Q E => ∃ (b dx d:Addr) (es:cR) (z:Str) (p:Int) (L:Cells),vs = [.ref b,.str z,.int p]/\Led H L/\FH cI H b dx d es/\(∀ e∈es,∀ r∈e.2.2,H r.1=some (.lst (r.2.map V.int))/\r.2.length<=600)/\(∀ e∈es,e.1=z->∀ (j:Nat) r,p=((j:Nat):Int)->e.2.2[j]? = some r->∀ q H',Led H' ((q,.lst (r.2.map V.int))::L)->Q (.ref q) H')/\(∀ e∈es,e.1=z->¬ (0<=p/\p < e.2.2.length)->E (.ref cB) none H)/\(z ∉ es.map (·.1)->E (.ref cA) none H)
theorem Jl (D:bF K cI "row_at" "Files.row_at" cK) (B:jd mg) (T:Txt K mg cU cA cB cC cT cF cD cS cI) (fU:aM P w K mg base 3 cI "ask_page" ["self","name","page"] (F8 cI cA cB)):aM P w K mg base 4 cI "row_at" ["self","name","page"] (Cu cI cA cB):=by
 have sc:=jU
 refine D.Di jU (λ vs H Q E h => ?_) (λ _ _ _ _ _ _ us hl=>match us,hl with | [_,_,_],_=>rfl) (λ f cdv A outer s H vs Q E hr h => ?_)
 ·obtain ⟨_,_,_,_,_,_,_,rfl,_⟩:=h;rfl
 ·obtain ⟨b,dx,d,es,z,p,L,rfl,hL,fh,hr4,k1,k2,k3⟩:=h
  have hu:=iU hr
  have hf:(iV d).lookup (Str.ofString "rows_by_name")=some (.ref d):=rfl
  have c1:=fh.cb
  have c2:=fh.cd
  refine ⟨_,(@af _ _ _ _ _ (@b9 _ _ _ _ (@aU _ _ _ _ _ _ _ _ _ _ _ _ _ _ _ _ T.gB fU (hr.mono (by omega)) jS (@aq _ 0 _ _ (by walk_at "v")) (@aa _ _ _ _ _ (@aq _ 1 _ _ (by walk_at "v")) (@aa _ _ _ _ _ (@aq _ 2 _ _ (by walk_at "v")) (@aj _) (by rfl)) (by rfl)) (by rfl) (by rfl) (by rfl)) (by rfl)) (@ao _ _ _ (@aE _ _ _ _ (@bh _ _ _ _ _ _ _ _ _ (aT (K:=K) rfl) (by rfl) B.list bS (@aa _ _ _ _ _ (@aY _ _ _ _ _ _ _ aQ (@iB _ _ _ _ _ _ hu (@az _ _ _ _ _ _ _ T.gB T.bY (@aq _ 0 _ _ (by walk_at "v")) (by rfl)) (@aq _ 1 _ _ (by walk_at "v")) (λ _ _=>rfl)) (@aq _ 2 _ _ (by walk_at "v")) (λ _ _=>rfl)) (@aj _) (by rfl)) (by decide) (by decide) (by rfl) (by rfl))))),?_⟩
  refine aG λ M1 K1 => ?_
  walk_at "ge"
  refine ⟨b,dx,d,es,z,p,rfl,fh,λ e he hz p0 p1 => ?_,λ e he hz hp => ?_,λ hz => ?_⟩
  ·subst hz
   obtain ⟨j,rfl⟩:=Int.eq_ofNat_of_zero_le p0
   have hj:j < e.2.2.length:=by omega
   have hjr:=List.getElem?_eq_getElem hj
   have c3:=fh.cf e he
   have c4:=hr4 e he _ (List.getElem_mem hj)
   generalize e.2.2[j]=r at hjr c4
   have ha:iZ (oR e.2.2) ((j:Nat):Int)=some (.ref r.1):=dN (by omega) (by unfold oR;rw [Int.toNat_natCast,List.getElem?_map,hjr];rfl)
   have mr:(r.2.map V.int).length=r.2.length:=List.length_map _
   have c5:=c4.1
   have h6:=c4.2
   walk_at "ge"
   refine K1.use ?_
   walk_at "cl"
   clear K1
   walk_at "ge"
   refine Kz c2 (vB fh.nd he) ?_
   walk_at "ge"
   rename Led _ _=>hl2
   exact k1 e he rfl j r rfl hjr _ _ hl2
  ·exact k2 e he hz hp
  ·exact k3 hz
def Back (S:SS) (row:List Int):Th->Prop
 | .own m => ∃ b:Addr,(m,b,row)∈S.es
 | .file z p => ∃ e∈S.fs,e.1=z ∧ ∃ (j:Nat) (r:Addr),p=(j:Int)/\e.2.2[j]? = some (r,row)
def gone (S:SS):Th->SS
 | .own m => { S with ps:=S.ps.set (idx S.ps (.int m)) .aI,es:=S.es.filter λ x=>decide (x.1≠m) }
 | .file _ _=>S
theorem aR.inS {S:SS} {n q:Nat} {M:Cells} {m:Int} (g:aR S n q M) (h:m∈S.es.map (·.1)):sC (.int m) S.ps=true:=List.any_eq_true.mpr ⟨.int m,(g.pk m).mpr h,show decide (m=m)=true from decide_eq_true rfl⟩
theorem Back.key {S:SS} {m:Int} {row:List Int} (h:Back S row (.own m)):m∈S.es.map (·.1):=let ⟨_,hb⟩:=h; List.mem_map.mpr ⟨_,hb,rfl⟩
theorem Back.len {S:SS} {n q:Nat} {M:Cells} {a:Th} {row:List Int} (g:aR S n q M) (h:Back S row a):row.length=4:=by
 cases a with
 | own m=>obtain ⟨b,hb⟩:=h;exact g.er _ hb
 | file z p=>obtain ⟨e,he,_,j,r,_,hr⟩:=h;exact (g.fr e he _ (List.mem_of_getElem? hr)).2
theorem aR.gone {S:SS} {n q:Nat} {M:Cells} {a:Th} {row:List Int} (g:aR S n q M) (h:Back S row a):aR (My.gone S a) n q M:=by
 cases a with
 | own m=>exact g.L1 (g.inS h.key)
 | file z p=>exact g
theorem gz (S:SS) (a:Th):(gone S a).b=S.b/\(gone S a).F=S.F/\(gone S a).hs=S.hs/\(gone S a).made=S.made/\(gone S a).fs=S.fs/\(gone S a).p=S.p/\(gone S a).bs=S.bs:=by cases a <;> exact ⟨rfl,rfl,rfl,rfl,rfl,rfl,rfl⟩
def AW (cT cF cD cS cI:Addr):Sp:=λ vs H Q _ => ∃ (S:SS) (n q:Nat) (t:Addr) (a:Th) (jz:List Int) (M:Cells),vs = [.ref S.b,.ref t]/\Led H (bw cT cF cD cS cI S M)/\aR S n q M/\(t,HO.tup (gv a))∈M/\Back S jz a ∧ ∀ (row:List Int) (r:Addr) (N:Cells) (H':Hp),Back S row a->(r,HO.lst (row.map V.int))∈N->Led H' (bw cT cF cD cS cI (gone S a) (N++M))->Q (.ref r) H'
theorem Ge (D:Def K mg "fetched" gS) (T:Txt K mg cU cA cB cC cT cF cD cS cI) (rY:aM P w K mg base 1 cS "take_off" ["self","sheet"] (LF cS)) (iA:aM P w K mg base 4 cI "row_at" ["self","name","page"] (Cu cI cA cB)) (iy:dF P w K mg base 1 "is_sheet" ["thing"] mH):dF P w K mg base 5 "fetched" ["store","thing"] (AW cT cF cD cS cI):=by
 have sc:=vE
 refine D.Di vE (λ vs H Q E h => ?_) (λ _ _ _ _ _ _ us hl=>match us,hl with | [_,_],_=>rfl) (λ f cdv A outer s H vs Q E hr h => ?_)
 ·obtain ⟨_,_,_,_,_,_,_,rfl,_⟩:=h;rfl
 ·obtain ⟨S,n,q,t,a,jz,M,rfl,hL,g,CK,hb0,k⟩:=h
  have f3:=rX S
  have f4:=Cp S
  have i9:=hL.get St.b
  have AU:=hL.get (St.up CK)
  refine ⟨_,(@af _ _ _ _ _ (@aS _ _ _ _ _ _ _ _ (@aZ _ _ _ (@aC _ _ _ _ _ _ _ _ _ _ _ iy (hr.mono (by omega)) (by rfl) aB (@aa _ _ _ _ _ (@aq _ 1 _ _ (by walk_at "v")) (@aj _) (by rfl)) (by decide) (by rfl) (by rfl)) (by intro _;rfl)) (@ao _ _ _ (@aE _ _ _ _ (@aU _ _ _ _ _ _ _ _ _ _ _ _ _ _ _ _ T.fz rY (hr.mono (by omega)) aB (@az _ _ _ _ _ _ _ T.bz T.jJ (@aq _ 0 _ _ (by walk_at "v")) (by rfl)) (@aa _ _ _ _ _ (@aY _ _ _ _ _ _ _ aQ (@aq _ 1 _ _ (by walk_at "v")) (@ak _ _ _ _) (λ _ _=>rfl)) (@aj _) (by rfl)) (by rfl) (by rfl) (by rfl)))) (@aF _)) (@ao _ _ _ (@aE _ _ _ _ (@aU _ _ _ _ _ _ _ _ _ _ _ _ _ _ _ _ T.gB iA (hr.mono (by omega)) jS (@az _ _ _ _ _ _ _ T.bz T.pG (@aq _ 0 _ _ (by walk_at "v")) (by rfl)) (@aa _ _ _ _ _ (@aY _ _ _ _ _ _ _ aQ (@aq _ 1 _ _ (by walk_at "v")) (@ak _ _ _ _) (λ _ _=>rfl)) (@aa _ _ _ _ _ (@aY _ _ _ _ _ _ _ aQ (@aq _ 1 _ _ (by walk_at "v")) (@ak _ _ _ _) (λ _ _=>rfl)) (@aj _) (by rfl)) (by rfl)) (by rfl) (by rfl) (by rfl))))),?_⟩
  refine aG λ M1 K1 => ?_
  walk_at "ge"
  refine ⟨t,a,rfl,AU,λ m e => ?_,λ z p e => ?_⟩
  ·subst e
   have LV:H t=some (.tup [.str (Str.ofString "own"),.int m]):=AU
   have hin:=g.inS hb0.key
   obtain ⟨e,he,em⟩:=List.mem_map.mp hb0.key
   have VW:e.1=m:=em
   have hS:=St.toS hL
   have eS:=hS.get NZ
   walk_at "ge"
   refine ⟨S.sb,S.LP,S.sl,S.sd,S.ps,S.es,e,_,by rw [VW];rfl,hS,g.flat,by rw [VW];exact hin,g.nd,he,λ H2 hl2 => ?_⟩
   rw [VW] at hl2
   have hl3:Led H2 (bw cT cF cD cS cI (gone S (.own m)) ([(e.2.1,HO.lst (e.2.2.map V.int))]++M)):=St.ofS (S:=S) (N:=[(e.2.1,HO.lst (e.2.2.map V.int))]) (Led.perm hl2 List.perm_middle.symm)
   walk_at "ge"
   exact k e.2.2 e.2.1 _ H2 ⟨e.2.1,by rw [<-VW];exact he⟩ mS hl3
  ·subst e
   have LV:H t=some (.tup [.str (Str.ofString "file"),.str z,.int p]):=AU
   obtain ⟨e,he,e1,j,r,e2,e3⟩:=hb0
   have hI:=St.UB hL
   have UE:=hI.get mS
   have hj:j < e.2.2.length:=(List.getElem?_eq_some_iff.mp e3).1
   have uniq : ∀ e'∈S.fs,e'.1=z->e' = e:=λ e' he' h=>by
    have h3:=findF g.fn he
    have h5:=findF g.fn he'
    rw [h,<-e1] at h5
    exact Option.some.inj (h5.symm.trans h3)
   walk_at "ge"
   refine K1.use ?_
   walk_at "cl"
   clear K1
   walk_at "ge"
   refine ⟨S.ib,S.ix,S.im,S.fs,z,p,_,rfl,hL,FH.of hI g.fn,λ x hx y hy=>⟨hL.get (St.up (g.fr x hx y hy).1),by rw [(g.fr x hx y hy).2];decide⟩,λ e' he' Dc j' r' hp hr' qr H2 hl2 => ?_,λ e' he' Dc hn=>absurd ?_ hn,λ hz=>absurd (List.mem_map.mpr ⟨e,he,e1⟩) hz⟩
   ·walk_at "ge"
    exact k r'.2 qr [(qr,HO.lst (r'.2.map V.int))] H2 ⟨e',he',Dc,j',r'.1,hp,hr'⟩ List.mem_cons_self (St.push hl2)
   ·rw [uniq e' he' Dc,e2]
    exact ⟨by omega,by exact_mod_cast hj⟩
theorem aR.Oj {S:SS} {n q i:Nat} {M:Cells} (g:aR S n q M) {t r:Addr} {a:Th} {row:List Int} (ht:(t,HO.tup (gv a))∈M) (Pq:F4 a) (hr:(r,HO.lst (row.map V.int))∈M) (h4:row.length=4) (hn : ∀ (j:Nat) (u:Addr),S.F.hs[j]? ≠ some (some (u,a))) (ho : ∀ m,a = .own m->m ∉ S.es.map (·.1)) (hf : ∀ z p,a = .file z p->∃ e∈S.fs,∃ j:Nat,e.1=z/\p=j/\j < e.2.2.length) :
  aR { S with F:=S.F.fill i (some (t,a)) (some (r,row)) false } n q M:=by
 have old : ∀ (j:Nat) (x:Addr×Th),(S.F.hs.set i (some (t,a)))[j]? = some (some x)->(j=i/\x=(t,a))\/(i≠j/\S.F.hs[j]? = some (some x)):=λ j x h=>by
  rw [List.getElem?_set] at h
  split at h
  ·split at h
   ·cases h
    exact .inl ⟨by omega,rfl⟩
   ·cases h
  ·exact .inr ⟨by assumption,h⟩
 refine { g with f:=g.f.fill (λ t' a' e=>by cases e;exact ⟨ht,Pq⟩) (λ t' a' e=>by cases e;exact hr),rr:=λ j u b h => ?_,inj:=λ j l u v b h1 h2 => ?_,ap:=λ j u k h => ?_,ff:=λ j u z p h => ?_ }
 ·rcases old j _ h with ⟨rfl,_⟩ | ⟨h1,h2⟩
  ·have hlt:j < S.F.rs.length:=by
    have h5:=(List.getElem?_eq_some_iff.mp h).1
    have h6:(S.F.hs.set j (some (t,a))).length=n:=(List.length_set ..).trans g.f.h
    rw [g.f.r,<-h6]
    exact h5
   exact ⟨r,row,by show (S.F.rs.set j _)[j]? = _;rw [List.getElem?_set,if_pos rfl,if_pos hlt],h4⟩
  ·obtain ⟨r',fN,e,h5⟩:=g.rr j u b h2
   exact ⟨r',fN,by show (S.F.rs.set i _)[j]? = _;rw [List.getElem?_set,if_neg h1];exact e,h5⟩
 ·rcases old j _ h1 with ⟨e1,x1⟩ | ⟨n1,o1⟩
  ·rcases old l _ h2 with ⟨e2,_⟩ | ⟨n2,o2⟩
   ·rw [e1,e2]
   ·cases x1
    exact absurd o2 (hn l v)
  ·rcases old l _ h2 with ⟨e2,x2⟩ | ⟨n2,o2⟩
   ·cases x2
    exact absurd o1 (hn j u)
   ·exact g.inj j l u v b o1 o2
 ·rcases old j _ h with ⟨_,x⟩ | ⟨_,o⟩
  ·cases x
   exact ho k rfl
  ·exact g.ap j u k o
 ·rcases old j _ h with ⟨_,x⟩ | ⟨_,o⟩
  ·cases x
   exact hf z p rfl
  ·exact g.ff j u z p o
def G0 (cT cF cD cS cI:Addr):Sp:=λ vs H Q _ => ∃ (S:SS) (n q:Nat) (t:Addr) (a:Th) (M:Cells),vs = [.ref S.b,.ref t]/\Led H (bw cT cF cD cS cI S M)/\aR S n q M/\(t,HO.tup (gv a))∈M/\F4 a ∧
 ((∀ (j:Nat) (u:Addr),S.F.hs[j]? ≠ some (some (u,a)))->∃ jz,Back S jz a) ∧
 ((∀ z∈S.F.hs,z≠none)->true ∉ dH (gone S a)->False) ∧
 (∀ (j:Nat) (u p:Addr) (N:Cells) (H':Hp),S.F.hs[j]? = some (some (u,a))->(p,HO.tup [.int (j:Nat),.bl false])∈N->Led H' (bw cT cF cD cS cI S (N++M))->Q (.ref p) H') ∧
 ((∀ (j:Nat) (u:Addr),S.F.hs[j]? ≠ some (some (u,a)))->∀ (row:List Int) (i:Nat) (S1:SS) (r p:Addr) (N:Cells) (H':Hp),Back S row a->fM N (gone S a) n i S1->(r,HO.lst (row.map V.int))∈N->(p,HO.tup [.int (i:Nat),.bl true])∈N->Led H' (bw cT cF cD cS cI { S1 with F:=S1.F.fill i (some (t,a)) (some (r,row)) false } (N++M))->Q (.ref p) H')
theorem L6 (D:Def K mg "bring" mw) (B:jd mg) (T:Txt K mg cU cA cB cC cT cF cD cS cI) (iw:aM P w K mg base 1 cF "where" ["self","thing"] (qj cF)) (i8:aM P w K mg base 1 cF "fill" ["self","frame","thing","row"] (F5 cF)) (Jm:dF P w K mg base 5 "fetched" ["store","thing"] (AW cT cF cD cS cI)) (eu:dF P w K mg base 6 "have_frame" ["store"] (Cr cT cF cD cS cI cU)):dF P w K mg base 7 "bring" ["store","thing"] (G0 cT cF cD cS cI):=by
 have sc:=Dq
 refine D.Di Dq (λ vs H Q E h => ?_) (λ _ _ _ _ _ _ us hl=>match us,hl with | [_,_],_=>rfl) (λ f cdv A outer s H vs Q E hr h => ?_)
 ·obtain ⟨_,_,_,_,_,_,rfl,_⟩:=h;rfl
 ·obtain ⟨S,n,q,t,a,M,rfl,hL,g,CK,Pq,UK,hgo,k1,k2⟩:=h
  have n64:=g.n64
  have f1:=i7 S
  have i9:=hL.get St.b
  have hF:=St.toF hL
  have kI:=hF.get mS
  refine ⟨_,(@af _ _ _ _ _ (@aK _ _ 2 _ _ _ _ sc.nd rfl (by walk_at "o2") (@aU _ _ _ _ _ _ _ _ _ _ _ _ _ _ _ _ T.Frames iw (hr.mono (by omega)) aB (@az _ _ _ _ _ _ _ T.bz T.cg (@aq _ 0 _ _ (by walk_at "v")) (by rfl)) (@aa _ _ _ _ _ (@aq _ 1 _ _ (by walk_at "v")) (@aj _) (by rfl)) (by rfl) (by rfl) (by rfl)) (by rfl) (by walk_at "o4")) (@af _ _ _ _ _ (@aS _ _ _ _ _ _ _ _ (@aL _ _ _ _ _ _ _ _ oY (@aq _ 2 _ _ (by walk_at "v")) (@bE _ _ _) (aP _)) (@ao _ _ _ (@aE _ _ _ _ (@fu _ _ _ _ _ (@aa _ _ _ _ _ (@aq _ 2 _ _ (by walk_at "v")) (@aa _ _ _ _ _ (@bP _ _ _ _) (@aj _) (by rfl)) (by rfl))))) (@aF _)) (@af _ _ _ _ _ (@aK _ _ 3 _ _ _ _ sc.nd rfl (by walk_at "o2") (@aC _ _ _ _ _ _ _ _ _ _ _ Jm (hr.mono (by omega)) (by rfl) jS (@aa _ _ _ _ _ (@aq _ 0 _ _ (by walk_at "v")) (@aa _ _ _ _ _ (@aq _ 1 _ _ (by walk_at "v")) (@aj _) (by rfl)) (by rfl)) (by decide) (by rfl) (by rfl)) (by rfl) (by walk_at "o4")) (@af _ _ _ _ _ (@aK _ _ 2 _ _ _ _ sc.nd rfl (by walk_at "o2") (@aC _ _ _ _ _ _ _ _ _ _ _ eu (hr.mono (by omega)) (by rfl) jS (@aa _ _ _ _ _ (@aq _ 0 _ _ (by walk_at "v")) (@aj _) (by rfl)) (by decide) (by rfl) (by rfl)) (by rfl) (by walk_at "o4")) (@af _ _ _ _ _ (@b9 _ _ _ _ (@aU _ _ _ _ _ _ _ _ _ _ _ _ _ _ _ _ T.Frames i8 (hr.mono (by omega)) aB (@az _ _ _ _ _ _ _ T.bz T.cg (@aq _ 0 _ _ (by walk_at "v")) (by rfl)) (@aa _ _ _ _ _ (@aq _ 2 _ _ (by walk_at "v")) (@aa _ _ _ _ _ (@aq _ 1 _ _ (by walk_at "v")) (@aa _ _ _ _ _ (@aq _ 3 _ _ (by walk_at "v")) (@aj _) (by rfl)) (by rfl)) (by rfl)) (by rfl) (by rfl) (by rfl)) (by rfl)) (@ao _ _ _ (@aE _ _ _ _ (@fu _ _ _ _ _ (@aa _ _ _ _ _ (@aq _ 2 _ _ (by walk_at "v")) (@aa _ _ _ _ _ (@bP _ _ _ _) (@aj _) (by rfl)) (by rfl)))))))))),?_⟩
  refine aG λ M1 K1 => ?_
  walk_at "ge"
  refine ⟨S.F,n,some (t,a),_,rfl,hF,g.f.mono (λ c hc=>j6 hc),λ t' a' e => ?_,by omega,λ hno => ?_,λ j y h1 h2 _ => ?_⟩
  ·cases e
   exact ⟨j6 CK,Pq⟩
  ·have hnf : ∀ (j:Nat) (u:Addr),S.F.hs[j]? ≠ some (some (u,a)):=λ j u h=>hno _ (List.mem_of_getElem? h) rfl
   obtain ⟨jz,hb0⟩:=UK hnf
   walk_at "ge"
   refine K1.use ?_
   walk_at "cl"
   clear K1
   refine aG λ M1 K1 => ?_
   walk_at "ge"
   ·exact absurd (rfl:V.aI=V.aI) (by assumption)
   refine K1.use ?_
   walk_at "cl"
   clear K1
   refine aG λ M1 K1 => ?_
   walk_at "ge"
   refine ⟨S,n,q,t,a,jz,M,rfl,hL,g,CK,hb0,λ row r0 N1 H1 hb sQ hl1 => ?_⟩
   clear hL hF i9 kI
   walk_at "ge"
   refine K1.use ?_
   walk_at "cl"
   clear K1
   have g1:aR (gone S a) n q M:=g.gone hb
   have h4:=hb.len g
   obtain ⟨eb,eF,Sn,VV,efs,ep,VX⟩:=gz S a
   refine aG λ M1 K1 => ?_
   have rest : ∀ (i:Nat) (S1:SS) (N:Cells) (H2:Hp),fM N (gone S a) n i S1->Led H2 (bw cT cF cD cS cI S1 (N++(N1++M)))->M1 [some (.ref S.b),some (.ref t),some (.int (i:Nat)),some (.ref r0)] H2:=by
    intro i S1 N H2 Ae hl2
    obtain ⟨h0,e2,e3,e4,e5⟩:=Ae.at
    have gS1:=g1.had Ae
    have hi:i < n:=by have:=(List.getElem?_eq_some_iff.mp h0).1;rw [gS1.f.h] at this;exact this
    have ebS:S1.b=S.b:=e4.trans eb
    refine K1.use ?_
    clear K1
    rw [<-ebS]
    have f1:=i7 S1
    have i9:=hl2.get St.b
    have hF:=St.toF hl2
    have kI:=hF.get mS
    refine aG λ M1 K1 => ?_
    walk_at "ge"
    refine ⟨S1.F,n,i,t,r0,a,row,_,rfl,hF,gS1.f.mono (λ c hc=>j6 ?_),hi,j6 (mA (mB sQ)),by omega,λ r H3 hl3 => ?_⟩
    ·rcases List.mem_append.mp hc with hc | hc
     ·exact mB hc
     ·exact mA (mA hc)
    have bT:Led H3 (bw cT cF cD cS cI { S1 with F:=S1.F.fill i (some (t,a)) (some (r,row)) false } ([(r,HO.lst (row.map V.int))]++(N++(N1++M)))):=St.Ru (S:=S1) rfl hl3
    clear hl3 hl2 hF i9 kI
    walk_at "ge"
    refine K1.use ?_
    walk_at "cl"
    clear K1
    walk_at "ge"
    rename_i p H4 _ c7 _
    have fL:=St.push c7
    refine k2 hnf row i S1 r p ((p,HO.tup [.int (i:Nat),.bl true])::(r,HO.lst (row.map V.int))::(N++N1)) H4 hb (Ae.mono λ c hc=>mC (mC (mB hc))) (mC mS) mS ?_
    rw [List.cons_append,List.cons_append,List.append_assoc]
    exact fL
   walk_at "ge"
   refine ⟨gone S a,n,q,_,by rw [eb];rfl,hl1,g1.mono (λ c hc=>mA hc),λ i H2 q1 q2 hl2 => ?_,λ hall i bs' t' a' hg hi S1 N H2 LY gk hl2 => ?_,λ hall hno N H2 hl2=>(hgo (by rw [<-eF];exact hall) hno).elim⟩
   ·walk_at "ge"
    exact rest i (gone S a) [] H2 (.inl ⟨q1,q2,rfl⟩) hl2
   ·walk_at "ge"
    exact rest i S1 N H2 (.inr ⟨hall,bs',t',a',hg,hi,LY⟩) hl2
  ·walk_at "ge"
   refine K1.use ?_
   walk_at "cl"
   clear K1
   refine aG λ M1 K1 => ?_
   walk_at "ge"
   ·rename_i p H1 _ hl1 _
    cases y with
    | none=>cases h2
    | some y =>
      have h3:y.2=a:=Option.some.inj h2
      exact k1 j y.1 p [(p,_)] H1 (by rw [h1,<-h3]) List.mem_cons_self (St.push (Led.perm hl1 (List.Perm.cons _ (aN (qu cF S.F) (AS cT S) (D0 cD S++(D3 cS S++(Co cI S++M)))))))
   ·exact nomatch (show V.int (j:Nat)=V.aI by assumption)
end
section
variable {P:Program} {w:World} {K:PySem.W.Frag} {mg:Str->Option Value} {base:Heap} {cU cA cB cC cT cF cD cS cI:Addr}
def lZ:Th->List Key
 | .own m=>[.inr (Str.ofString "own"),.inl m]
 | .file z p=>[.inr (Str.ofString "file"),.inr z,.inl p]
theorem sS (a:Th):(lZ a).map kV=gv a:=by cases a <;> rfl
theorem Cv {a b:Th} (h:lZ a=lZ b):a=b:=by
 cases a <;> cases b <;> simp [lZ] at h <;> simp [h]
abbrev Ts:=List (Th×Addr×List Int)
def uI (ts:Ts):List (List Key×V):=ts.map λ e=>(lZ e.1,V.ref e.2.1)
theorem uS (ts:Ts):(uI ts).length=ts.length:=by unfold uI;exact List.length_map ..
theorem Cw {ts:Ts} {e:Th×Addr×List Int} (nd:(ts.map (·.1)).Nodup) (h:e∈ts):bB (uI ts) (lZ e.1)=some (.ref e.2.1):=by
 induction ts with
 | nil=>cases h
 | cons x ts ih =>
   rw [List.map_cons,List.nodup_cons] at nd
   show bB ((lZ x.1,V.ref x.2.1)::uI ts) (lZ e.1)=_
   rcases List.mem_cons.mp h with rfl | h
   ·exact bQ (p:=(lZ e.1,V.ref e.2.1)) rfl
   ·have hne : ¬ lZ x.1=lZ e.1:=λ z=>nd.1 (Cv z ▸ List.mem_map.mpr ⟨e,h,rfl⟩)
    rw [bC (p:=(lZ x.1,V.ref x.2.1)) hne]
    exact ih nd.2 h
theorem L7 {ts:Ts} {a:Th} (h:a ∉ ts.map (·.1)):bB (uI ts) (lZ a)=none:=by
 induction ts with
 | nil=>rfl
 | cons x ts ih =>
   rw [List.map_cons,List.mem_cons,not_or] at h
   have hne : ¬ lZ x.1=lZ a:=λ z=>h.1 (Cv z).symm
   show bB ((lZ x.1,V.ref x.2.1)::uI ts) (lZ a)=none
   rw [bC (p:=(lZ x.1,V.ref x.2.1)) hne]
   exact ih h.2
def Ag (ts:Ts) (a:Th) (r:Addr) (row:List Int):Ts:=ts.map λ e=>if e.1=a then (e.1,r,row) else e
theorem mK (ts:Ts) (a:Th) (r:Addr) (row:List Int):(Ag ts a r row).map (·.1)=ts.map (·.1):=by
 unfold Ag
 rw [List.map_map]
 refine List.map_congr_left λ e _ => ?_
 show (if e.1=a then (e.1,r,row) else e).1=e.1
 split <;> rfl
theorem Ol {ts:Ts} {a:Th} {r:Addr} {row:List Int} {e:Th×Addr×List Int} (h:e∈Ag ts a r row):e=(a,r,row)\/(e.1≠a/\e∈ts):=by
 obtain ⟨d,hd,rfl⟩:=List.mem_map.mp h
 by_cases z:d.1=a
 ·rw [if_pos z,z];exact .inl rfl
 ·rw [if_neg z];exact .inr ⟨z,hd⟩
theorem Om {ts:Ts} {a:Th} (r:Addr) (row:List Int) (h:a∈ts.map (·.1)):putK (uI ts) (lZ a) (.ref r)=uI (Ag ts a r row):=by
 unfold putK
 rw [if_pos]
 ·unfold uI Ag
  rw [List.map_map,List.map_map]
  refine List.map_congr_left λ e _ => ?_
  show (if lZ e.1=lZ a then (lZ e.1,V.ref r) else (lZ e.1,V.ref e.2.1))=(lZ (if e.1=a then (e.1,r,row) else e).1,V.ref (if e.1=a then (e.1,r,row) else e).2.1)
  by_cases q:e.1=a
  ·rw [if_pos q,if_pos (by rw [q])]
  ·rw [if_neg q,if_neg (λ z=>q (Cv z))]
 ·obtain ⟨e,he,rfl⟩:=List.mem_map.mp h
  exact List.any_eq_true.mpr ⟨(lZ e.1,V.ref e.2.1),List.mem_map.mpr ⟨e,he,rfl⟩,decide_eq_true rfl⟩
theorem G1 {ts:Ts} {a:Th} (r:Addr) (row:List Int) (h:a ∉ ts.map (·.1)):putK (uI ts) (lZ a) (.ref r)=uI (ts++[(a,r,row)]):=by
 unfold putK
 rw [if_neg]
 ·unfold uI;rw [List.map_append];rfl
 ·rw [c6,L7 h];exact Bool.false_ne_true
def uT (S:SS) (a:Th):Prop := ∃ (i:Nat) (t:Addr),S.F.hs[i]? = some (some (t,a))
def eG (S:SS) (a:Th) (row:List Int):Prop:=(∃ (i:Nat) (t r:Addr),S.F.hs[i]? = some (some (t,a))/\S.F.rs[i]? = some (some (r,row)))\/(¬ uT S a/\Back S row a)
def Clean (S:SS):Prop := ∀ (i:Nat) (t r:Addr) (z:Str) (p:Int) (row:List Int),S.F.hs[i]? = some (some (t,.file z p))->S.F.rs[i]? = some (some (r,row))->S.F.bs[i]? = some false->Back S row (.file z p)
theorem dP {α : Type} {l:List α} {i j:Nat} {x y : α} (h:i≠j):(l.set i x)[j]? = some y↔l[j]? = some y:=by rw [List.getElem?_set,if_neg h]
theorem Cy {l:List Hd} {i j:Nat} {x:Addr×Th} (h:(l.set i none)[j]? = some (some x)):i≠j/\l[j]? = some (some x):=by
 rw [List.getElem?_set] at h
 split at h
 ·split at h <;> cases h
 ·exact ⟨by assumption,h⟩
theorem PO.rows {N:Cells} {S S':SS} {n q i:Nat} {M:Cells} {t:Addr} {a:Th} (g:aR S n q M) (cl:Clean S) (hi:S.F.hs[i]? = some (some (t,a))) (h:PO N S i S' a):Clean S' ∧ ∀ b row,eG S b row->eG S' b row:=by
 obtain ⟨r0,jz,hr0,_⟩:=g.rr i t a hi
 have hF:S'.F=S.F.fill i none none false:=by
  cases a with
  | own m=>obtain ⟨r,row,b,_,rfl⟩:=h;rfl
  | file z p =>
    obtain ⟨r,row,_,h⟩:=h
    rcases h with ⟨_,rfl⟩ | ⟨_,as,bs,e,j,nr,_,_,_,_,_,rfl⟩ <;> rfl
 have hh:S'.F.hs=S.F.hs.set i none:=by rw [hF];rfl
 have hrs:S'.F.rs=S.F.rs.set i none:=by rw [hF];rfl
 have hbs:S'.F.bs=S.F.bs.set i false:=by rw [hF];rfl
 have self:Back S' jz a:=by
  cases a with
  | own m =>
    obtain ⟨r,row,b,h1,rfl⟩:=h
    rw [hr0] at h1
    cases h1
    exact ⟨b,mA mS⟩
  | file z p =>
    obtain ⟨r,row,h1,h⟩:=h
    rw [hr0] at h1
    cases h1
    rcases h with ⟨h2,rfl⟩ | ⟨_,as,bs,e,j,nr,h3,h4,h5,h6,_,rfl⟩
    ·exact cl i t r0 z p jz hi hr0 h2
    ·exact ⟨_,mA mS,h4,j,nr,h5,by show (e.2.2.set j (nr,jz))[j]? = _;rw [List.getElem?_set,if_pos rfl,if_pos h6]⟩
 have other : ∀ b row,b≠a->Back S row b->Back S' row b:=λ b row hne hb=>by
  cases a with
  | own m =>
    obtain ⟨r,Oo,b1,h1,rfl⟩:=h
    cases b with
    | own k=>obtain ⟨x,hx⟩:=hb;exact ⟨x,mB hx⟩
    | file z p=>exact hb
  | file z p =>
    obtain ⟨r,Oo,h1,h⟩:=h
    rcases h with ⟨h2,rfl⟩ | ⟨_,as,bs,e,j,nr,h3,h4,h5,h6,_,rfl⟩
    ·exact hb
    ·cases b with
     | own k=>exact hb
     | file z2 p2 =>
       obtain ⟨e2,yl,z3,j2,r2,p3,hr2⟩:=hb
       rw [h3] at yl
       rcases List.mem_append.mp yl with yl | yl
       ·exact ⟨e2,mB yl,z3,j2,r2,p3,hr2⟩
       ·rcases List.mem_cons.mp yl with rfl | yl
        ·refine ⟨_,mA mS,z3,j2,r2,p3,?_⟩
         have hj:j≠j2:=λ z=>hne (by rw [<-z3,<-h4,p3,h5,z])
         exact (dP hj).mpr hr2
        ·exact ⟨e2,mA (mC yl),z3,j2,r2,p3,hr2⟩
 have out : ¬ uT S' a:=λ ⟨j,u,hj⟩=>by
  rw [hh] at hj
  obtain ⟨h1,h2⟩:=Cy hj
  exact h1 (g.inj i j t u a hi h2)
 refine ⟨λ j u r z p row h1 h2 h3 => ?_,λ b row hb => ?_⟩
 ·rw [hh] at h1
  obtain ⟨hne,h1⟩:=Cy h1
  rw [hrs] at h2
  rw [hbs] at h3
  have hba:Th.file z p≠a:=λ e=>hne (g.inj i j t u a hi (by rw [h1,e]))
  exact other _ _ hba (cl j u r z p row h1 ((dP hne).mp h2) ((dP hne).mp h3))
 ·by_cases e:b=a
  ·subst e
   rcases hb with ⟨j,u,r,h1,h2⟩ | ⟨h1,_⟩
   ·have:=g.inj i j t u b hi h1
    subst this
    rw [hr0] at h2
    cases h2
    exact .inr ⟨out,self⟩
   ·exact absurd ⟨i,t,hi⟩ h1
  ·rcases hb with ⟨j,u,r,h1,h2⟩ | ⟨h1,h2⟩
   ·have hne:i≠j:=λ z=>by rw [<-z,hi] at h1;cases h1;exact e rfl
    exact .inl ⟨j,u,r,by rw [hh];exact (dP hne).mpr h1,by rw [hrs];exact (dP hne).mpr h2⟩
   ·refine .inr ⟨λ ⟨j,u,hj⟩=>h1 ⟨j,u,?_⟩,other b row e h2⟩
    rw [hh] at hj
    exact (Cy hj).2
theorem fM.rows {N:Cells} {S S1:SS} {n q i:Nat} {M:Cells} (g:aR S n q M) (cl:Clean S) (h:fM N S n i S1):Clean S1 ∧ ∀ b row,eG S b row->eG S1 b row:=by
 rcases h with ⟨_,_,rfl⟩ | ⟨_,bs',t,a,hgo,hi,h⟩
 ·exact ⟨cl,λ _ _ h=>h⟩
 ·obtain ⟨l1,_⟩:=qi _ _ _ hgo
  have n1:=g.n1
  exact PO.rows (S := { S with p:=(i+1) % n,bs:=bs' }) (g.turned (Nat.mod_lt _ (by omega)) (l1.trans g.bl)) cl hi h
theorem eG.fill {S:SS} {n q i:Nat} {M:Cells} {t r:Addr} {a:Th} {row:List Int} {k:Int} {hs':List (Int×Int)} (g:aR S n q M) (h0:S.F.hs[i]? = some none):(∀ b fN,b≠a->eG S b fN->eG { S with made:=k,hs:=hs',F:=S.F.fill i (some (t,a)) (some (r,row)) false } b fN)/\eG { S with made:=k,hs:=hs',F:=S.F.fill i (some (t,a)) (some (r,row)) false } a row:=by
 have hlt:i < S.F.hs.length:=(List.getElem?_eq_some_iff.mp h0).1
 have hlr:i < S.F.rs.length:=by rw [g.f.r,<-g.f.h];exact hlt
 refine ⟨λ b fN hne hb => ?_,.inl ⟨i,t,r,?_,?_⟩⟩
 ·rcases hb with ⟨j,u,r',h1,h2⟩ | ⟨h1,h2⟩
  ·have hij:i≠j:=λ z=>by rw [<-z,h0] at h1;cases h1
   exact .inl ⟨j,u,r',(dP hij).mpr h1,(dP hij).mpr h2⟩
  ·refine .inr ⟨λ ⟨j,u,hj⟩ => ?_,?_⟩
   ·have hj':(S.F.hs.set i (some (t,a)))[j]? = some (some (u,b)):=hj
    by_cases e:i=j
    ·subst e
     rw [List.getElem?_set,if_pos rfl,if_pos hlt] at hj'
     cases hj'
     exact hne rfl
    ·exact h1 ⟨j,u,(dP e).mp hj'⟩
   ·cases b with
    | own m=>exact h2
    | file z p=>exact h2
 ·show (S.F.hs.set i _)[i]? = _
  rw [List.getElem?_set,if_pos rfl,if_pos hlt]
 ·show (S.F.rs.set i _)[i]? = _
  rw [List.getElem?_set,if_pos rfl,if_pos hlr]
theorem Clean.fill {S:SS} {n q i:Nat} {M:Cells} {t r:Addr} {a:Th} {row:List Int} {k:Int} {hs':List (Int×Int)} (g:aR S n q M) (cl:Clean S) (h0:S.F.hs[i]? = some none) (hb : ∀ z p,a = .file z p->Back S row a):Clean { S with made:=k,hs:=hs',F:=S.F.fill i (some (t,a)) (some (r,row)) false } := by
 have hlt:i < S.F.hs.length:=(List.getElem?_eq_some_iff.mp h0).1
 have hlr:i < S.F.rs.length:=by rw [g.f.r,<-g.f.h];exact hlt
 intro j u r' z p fN h1 h2 h3
 have Dc:(S.F.hs.set i (some (t,a)))[j]? = some (some (u,.file z p)):=h1
 have h2':(S.F.rs.set i (some (r,row)))[j]? = some (some (r',fN)):=h2
 have h3':(S.F.bs.set i false)[j]? = some false:=h3
 by_cases e:i=j
 ·subst e
  rw [List.getElem?_set,if_pos rfl,if_pos hlt] at Dc
  rw [List.getElem?_set,if_pos rfl,if_pos hlr] at h2'
  cases Dc
  cases h2'
  exact hb z p rfl
 ·exact cl j u r' z p fN ((dP e).mp Dc) ((dP e).mp h2') ((dP e).mp h3')
end
section
variable {P:Program} {w:World} {K:PySem.W.Frag} {mg:Str->Option Value} {base:Heap} {cU cA cB cC cT cF cD cS cI:Addr}
def sizesOf (c:Int):Int×Int :=
 if c % 16=7 then (1+c / 16 % 64,c / 1024 % 20) else if c % 32=6 then (1+c / 32 % 4,c / 128 % 129) else if c % 8=6 then (1+c / 8 % 9,c / 72 % 30) else (1+c / 8 % 5,c / 40 % 6)
theorem Gf (c:Int):1<=(sizesOf c).1/\(sizesOf c).1<=64/\0<=(sizesOf c).2/\(sizesOf c).2<=128:=by
 unfold sizesOf
 split
 ·dsimp only;omega
 ·split
  ·dsimp only;omega
  ·split
   ·dsimp only;omega
   ·dsimp only;omega
def G2:Sp:=λ vs H Q _ => ∃ (c:Int) (L:Cells),vs = [.int c]/\Led H L ∧ ∀ p H',Led H' ((p,.tup [.int (sizesOf c).1,.int (sizesOf c).2])::L)->Q (.ref p) H'
theorem L8 (D:Def K mg "_law_sizes" gW) (T:Txt K mg cU cA cB cC cT cF cD cS cI):dF P w K mg base 1 "_law_sizes" ["_law_cell"] G2:=by
 have sc:=vH
 refine D.ok vH (λ vs H Q E h => ?_) (λ _ _ _ _ _ _ us hl=>match us,hl with | [_],_=>rfl) (λ f cdv A outer s H vs Q E hr h => ?_)
 ·obtain ⟨_,_,rfl,_⟩:=h;rfl
 ·obtain ⟨c,L,rfl,hL,k⟩:=h
  refine ⟨_,(@af _ _ _ _ _ (@aS _ _ _ _ _ _ _ _ (@aL _ _ _ _ _ _ _ _ cY (@av _ _ _ _ _ _ _ _ aH (@aq _ 0 _ _ (by walk_at "v")) (@ak _ _ _ _)) (@ak _ _ _ _) (aP _)) (@ao _ _ _ (@aE _ _ _ _ (@fu _ _ _ _ _ (@aa _ _ _ _ _ (@av _ _ _ _ _ _ _ _ aV (@ak _ _ _ _) (@av _ _ _ _ _ _ _ _ aH (@av _ _ _ _ _ _ _ _ bI (@aq _ 0 _ _ (by walk_at "v")) (@ak _ _ _ _)) (@ak _ _ _ _))) (@aa _ _ _ _ _ (@av _ _ _ _ _ _ _ _ aH (@av _ _ _ _ _ _ _ _ bI (@aq _ 0 _ _ (by walk_at "v")) (@ak _ _ _ _)) (@ak _ _ _ _)) (@aj _) (by rfl)) (by rfl))))) (@aF _)) (@af _ _ _ _ _ (@aS _ _ _ _ _ _ _ _ (@aL _ _ _ _ _ _ _ _ cY (@av _ _ _ _ _ _ _ _ aH (@aq _ 0 _ _ (by walk_at "v")) (@ak _ _ _ _)) (@ak _ _ _ _) (aP _)) (@ao _ _ _ (@aE _ _ _ _ (@fu _ _ _ _ _ (@aa _ _ _ _ _ (@av _ _ _ _ _ _ _ _ aV (@ak _ _ _ _) (@av _ _ _ _ _ _ _ _ aH (@av _ _ _ _ _ _ _ _ bI (@aq _ 0 _ _ (by walk_at "v")) (@ak _ _ _ _)) (@ak _ _ _ _))) (@aa _ _ _ _ _ (@av _ _ _ _ _ _ _ _ aH (@av _ _ _ _ _ _ _ _ bI (@aq _ 0 _ _ (by walk_at "v")) (@ak _ _ _ _)) (@ak _ _ _ _)) (@aj _) (by rfl)) (by rfl))))) (@aF _)) (@af _ _ _ _ _ (@aS _ _ _ _ _ _ _ _ (@aL _ _ _ _ _ _ _ _ cY (@av _ _ _ _ _ _ _ _ aH (@aq _ 0 _ _ (by walk_at "v")) (@ak _ _ _ _)) (@ak _ _ _ _) (aP _)) (@ao _ _ _ (@aE _ _ _ _ (@fu _ _ _ _ _ (@aa _ _ _ _ _ (@av _ _ _ _ _ _ _ _ aV (@ak _ _ _ _) (@av _ _ _ _ _ _ _ _ aH (@av _ _ _ _ _ _ _ _ bI (@aq _ 0 _ _ (by walk_at "v")) (@ak _ _ _ _)) (@ak _ _ _ _))) (@aa _ _ _ _ _ (@av _ _ _ _ _ _ _ _ aH (@av _ _ _ _ _ _ _ _ bI (@aq _ 0 _ _ (by walk_at "v")) (@ak _ _ _ _)) (@ak _ _ _ _)) (@aj _) (by rfl)) (by rfl))))) (@aF _)) (@ao _ _ _ (@aE _ _ _ _ (@fu _ _ _ _ _ (@aa _ _ _ _ _ (@av _ _ _ _ _ _ _ _ aV (@ak _ _ _ _) (@av _ _ _ _ _ _ _ _ aH (@av _ _ _ _ _ _ _ _ bI (@aq _ 0 _ _ (by walk_at "v")) (@ak _ _ _ _)) (@ak _ _ _ _))) (@aa _ _ _ _ _ (@av _ _ _ _ _ _ _ _ aH (@av _ _ _ _ _ _ _ _ bI (@aq _ 0 _ _ (by walk_at "v")) (@ak _ _ _ _)) (@ak _ _ _ _)) (@aj _) (by rfl)) (by rfl)))))))),?_⟩
  refine aG λ M1 K1 => ?_
  walk_at "ge"
  ·have e:sizesOf c=(1+c / 16 % 64,c / 1024 % 20):=by unfold sizesOf;rw [if_pos (by assumption)]
   rw [e] at k
   rename Led _ _=>hl
   exact k _ _ hl
  have n1 : ¬ c % 16=7:=by assumption
  refine K1.use ?_
  walk_at "cl"
  clear K1
  refine aG λ M1 K1 => ?_
  walk_at "ge"
  ·have e:sizesOf c=(1+c / 32 % 4,c / 128 % 129):=by unfold sizesOf;rw [if_neg n1,if_pos (by assumption)]
   rw [e] at k
   rename Led _ _=>hl
   exact k _ _ hl
  have n2 : ¬ c % 32=6:=by assumption
  refine K1.use ?_
  walk_at "cl"
  clear K1
  refine aG λ M1 K1 => ?_
  walk_at "ge"
  ·have e:sizesOf c=(1+c / 8 % 9,c / 72 % 30):=by unfold sizesOf;rw [if_neg n1,if_neg n2,if_pos (by assumption)]
   rw [e] at k
   rename Led _ _=>hl
   exact k _ _ hl
  have n3 : ¬ c % 8=6:=by assumption
  refine K1.use ?_
  walk_at "cl"
  clear K1
  walk_at "ge"
  have e:sizesOf c=(1+c / 8 % 5,c / 40 % 6):=by unfold sizesOf;rw [if_neg n1,if_neg n2,if_neg n3]
  rw [e] at k
  rename Led _ _=>hl
  exact k _ _ hl
structure j7 (S:SS) (us:List V) (M:Cells):Prop where
 l:us.length=S.F.hs.length
 no : ∀ i:Nat,S.F.hs[i]? = some none->us[i]? = some .aI
 th : ∀ (i:Nat) (t:Addr) (a:Th),S.F.hs[i]? = some (some (t,a))->∃ u,us[i]? = some (.ref u)/\(u,HO.tup (gv a))∈M
theorem Oq {H:Hp} {a:Th} {i:Nat} {x y:V} (h1:(gv a)[i]? = some x) (h2:(gv a)[i]? = some y):Alike H 0 x y:=by
 rw [h1] at h2
 cases h2
 have hm:=List.mem_of_getElem? h1
 cases a with
 | own m =>
   rcases List.mem_cons.mp hm with rfl | hm
   ·exact .inr (.inr (.inr ⟨_,rfl,rfl⟩))
   ·rw [List.mem_singleton.mp hm];exact .inr (.inr (.inl ⟨_,rfl,rfl⟩))
 | file z p =>
   rcases List.mem_cons.mp hm with rfl | hm
   ·exact .inr (.inr (.inr ⟨_,rfl,rfl⟩))
   ·rcases List.mem_cons.mp hm with rfl | hm
    ·exact .inr (.inr (.inr ⟨_,rfl,rfl⟩))
    ·rw [List.mem_singleton.mp hm];exact .inr (.inr (.inl ⟨_,rfl,rfl⟩))
theorem j7.alike {S:SS} {us:List V} {M L:Cells} {n q:Nat} {H:Hp} {p sp:Addr} (g:aR S n q M) (s:j7 S us M) (hL:Led H L) (hM : ∀ c∈M,c∈L) (h1:H p=some (.lst (S.F.hs.map aX))) (h2:H sp=some (.lst us)):Alike H 2 (.ref p) (.ref sp):=by
 have gn:=g.n64
 have gl:=g.f.h
 refine .inr ⟨p,sp,_,_,rfl,rfl,.inl ⟨h1,h2⟩,by rw [List.length_map,s.l],by rw [s.l];omega,λ i x y hx hy => ?_⟩
 rw [List.getElem?_map] at hx
 obtain ⟨z,hz,rfl⟩:=Option.map_eq_some_iff.mp hx
 cases z with
 | none =>
   rw [s.no i hz] at hy
   cases hy
   exact .inl (.inl ⟨rfl,rfl⟩)
 | some z =>
   obtain ⟨u,hu,hc⟩:=s.th i z.1 z.2 hz
   rw [hu] at hy
   cases hy
   have hl:(gv z.2).length<=100000:=by
    cases z.2 with
    | own m=>show 2<=100000;decide
    | file w p=>show 3<=100000;decide
   exact .inr ⟨z.1,u,_,_,rfl,rfl,.inr ⟨hL.get (hM _ (g.f.th z.1 z.2 (List.mem_of_getElem? hz)).1),hL.get (hM _ hc)⟩,rfl,hl,λ j x' y' a b=>Oq a b⟩
theorem Jo {H:Hp} {a b:Addr} {bs:List Bool} (h1:H a=some (.lst (bs.map V.bl))) (h2:H b=some (.lst (bs.map V.bl))) (hl:bs.length<=600):Alike H 2 (.ref a) (.ref b):=by
 refine .inr ⟨a,b,_,_,rfl,rfl,.inl ⟨h1,h2⟩,rfl,by rw [List.length_map];omega,λ i x y hx hy => ?_⟩
 rw [hx] at hy
 cases hy
 obtain ⟨v,_,rfl⟩:=List.mem_map.mp (List.mem_of_getElem? hx)
 exact .inl (.inr (.inl ⟨_,rfl,rfl⟩))
theorem aR.Ma {S:SS} {n q:Nat} {M:Cells} (g:aR S n q M) {H:Hp} {a b:Addr} (h1:H a=some (.lst S.ps)) (h2:H b=some (.lst S.ps)):Alike H 2 (.ref a) (.ref b):=by
 have g6:=g.q6
 refine .inr ⟨a,b,_,_,rfl,rfl,.inl ⟨h1,h2⟩,rfl,by rw [g.pl];omega,λ i x y hx hy => ?_⟩
 rw [hx] at hy
 cases hy
 rcases g.pe x (List.mem_of_getElem? hx) with rfl | ⟨m,rfl⟩
 ·exact .inl (.inl ⟨rfl,rfl⟩)
 ·exact .inl (.inr (.inr (.inl ⟨_,rfl,rfl⟩)))
def rZ (cT cF cD cS cI:Addr):Sp:=λ vs H Q _ => ∃ (S:SS) (n q:Nat) (sp mk sf:Addr) (us:List V) (M:Cells),vs = [.ref S.b,.ref sp,.ref mk,.ref sf,.int (S.p:Nat)]/\Led H (bw cT cF cD cS cI S M)/\aR S n q M/\(sp,HO.lst us)∈M/\(mk,HO.lst (S.bs.map V.bl))∈M/\(sf,HO.lst S.ps)∈M/\j7 S us M ∧ ∀ (N:Cells) (H':Hp),Led H' (bw cT cF cD cS cI S (N++M))->Q (.bl true) H'
theorem D7 (D:Def K mg "_law_is_store" d9) (B:jd mg) (T:Txt K mg cU cA cB cC cT cF cD cS cI) (c8:aM P w K mg base 1 cF "things" ["self"] (qk cF)) (Cz:aM P w K mg base 1 cD "marks" ["self"] (GQ cD)) (xO:aM P w K mg base 1 cD "pointer" ["self"] (AQ cD)) (iz:aM P w K mg base 1 cS "sheets" ["self"] (xH cS)) (aW:dF P w K mg base 4 "_law_alike" ["_law_found","_law_due"] (mF 2)):dF P w K mg base 5 "_law_is_store" ["_law_store","_law_spots","_law_marks","_law_shelf","_law_pointer"] (rZ cT cF cD cS cI):=by
 have sc:=nv
 refine D.ok nv (λ vs H Q E h => ?_) (λ _ _ _ _ _ _ us hl=>match us,hl with | [_,_,_,_,_],_=>rfl) (λ f cdv A outer s H vs Q E hr h => ?_)
 ·obtain ⟨_,_,_,_,_,_,_,_,rfl,_⟩:=h;rfl
 ·obtain ⟨S,n,q,sp,mk,sf,us,M,rfl,hL,g,Pw,i_m,i_f,s1,k⟩:=h
  have gn:=g.n64
  have gl:=g.f.h
  have f1:=i7 S
  have f2:=oK S
  have f3:=rX S
  have i9:=hL.get St.b
  have hF:=St.toF hL
  have kI:=hF.get mS
  refine ⟨_,(@af _ _ _ _ _ (@aS _ _ _ _ _ _ _ _ (@PW.pt _ _ _ (@pw_or _ _ _ _ _ _ _ (@cV _ _ _ _ (@aZ _ _ _ (@aC _ _ _ _ _ _ _ _ _ _ _ aW (hr.mono (by omega)) (by rfl) aB (@aa _ _ _ _ _ (@dh _ _ _ _ _ _ _ _ _ _ _ _ _ T.Frames c8 (hr.mono (by omega)) aB (@az _ _ _ _ _ _ _ T.bz T.cg (@aq _ 0 _ _ (by walk_at "v")) (by rfl)) (by rfl)) (@aa _ _ _ _ _ (@aq _ 1 _ _ (by walk_at "v")) (@aj _) (by rfl)) (by rfl)) (by decide) (by rfl) (by rfl)) (by intro _;rfl))) (@pw_or1 _ _ _ _ (@cV _ _ _ _ (@aZ _ _ _ (@aC _ _ _ _ _ _ _ _ _ _ _ aW (hr.mono (by omega)) (by rfl) aB (@aa _ _ _ _ _ (@dh _ _ _ _ _ _ _ _ _ _ _ _ _ T.jK Cz (hr.mono (by omega)) aB (@az _ _ _ _ _ _ _ T.bz T.lq (@aq _ 0 _ _ (by walk_at "v")) (by rfl)) (by rfl)) (@aa _ _ _ _ _ (@aq _ 2 _ _ (by walk_at "v")) (@aj _) (by rfl)) (by rfl)) (by decide) (by rfl) (by rfl)) (by intro _;rfl)))))) (@ao _ _ _ (@aE _ _ _ _ (@bP _ _ _ _))) (@aF _)) (@ao _ _ _ (@aE _ _ _ _ (@uZ _ _ _ _ _ _ _ (@aC _ _ _ _ _ _ _ _ _ _ _ aW (hr.mono (by omega)) (by rfl) aB (@aa _ _ _ _ _ (@dh _ _ _ _ _ _ _ _ _ _ _ _ _ T.fz iz (hr.mono (by omega)) aB (@az _ _ _ _ _ _ _ T.bz T.jJ (@aq _ 0 _ _ (by walk_at "v")) (by rfl)) (by rfl)) (@aa _ _ _ _ _ (@aq _ 3 _ _ (by walk_at "v")) (@aj _) (by rfl)) (by rfl)) (by decide) (by rfl) (by rfl)) (@nH _ _ _ _ _ (@aC _ _ _ _ _ _ _ _ _ _ _ aW (hr.mono (by omega)) (by rfl) aB (@aa _ _ _ _ _ (@dh _ _ _ _ _ _ _ _ _ _ _ _ _ T.jK xO (hr.mono (by omega)) aB (@az _ _ _ _ _ _ _ T.bz T.lq (@aq _ 0 _ _ (by walk_at "v")) (by rfl)) (by rfl)) (@aa _ _ _ _ _ (@aq _ 4 _ _ (by walk_at "v")) (@aj _) (by rfl)) (by rfl)) (by decide) (by rfl) (by rfl))))))),?_⟩
  refine aG λ M1 K1 => ?_
  walk_at "ge"
  refine ⟨S.F,_,rfl,hF,by omega,λ qt H1 hl1 => ?_⟩
  have hl2:Led H1 ((qt,HO.lst (S.F.hs.map aX))::bw cT cF cD cS cI S M):=Led.perm hl1 (List.Perm.cons _ (aN (qu cF S.F) (AS cT S) (D0 cD S++(D3 cS S++(Co cI S++M)))))
  have hl3:=St.push hl2
  clear hl1 hF kI i9 hL
  have Sm:=hl2.get mS
  have eS:=hl2.get (mC (St.up Pw))
  walk_at "ge"
  refine ⟨_,_,rfl,s1.alike g hl2 (λ c hc=>mC (St.up hc)) Sm eS,?_⟩
  clear hl2
  have i9:=hl3.get St.b
  have hD:=St.toD hl3
  have Jh:=hD.get Lm
  have Rz:=hD.get (Uy (cD:=cD))
  walk_at "ge"
  refine ⟨S.d,S.Jz,S.dm,(S.p:Int),S.bs,_,rfl,hl3,Jh,Rz,λ r H2 bT => ?_⟩
  have c7:=St.push bT
  have a2:=Jo (bT.get mS) (bT.get (mC (St.up (mC i_m)))) (by rw [g.bl];omega)
  clear hD Jh Rz i9 hl3 bT
  walk_at "ge"
  refine ⟨_,_,rfl,a2,?_⟩
  walk_at "ge"
  refine K1.use ?_
  walk_at "cl"
  clear K1
  have i9:=c7.get St.b
  have hS:=St.toS c7
  have LC:=hS.get NZ
  have LX:=hS.get VU
  walk_at "ge"
  refine ⟨S.sb,S.LP,S.sl,S.sd,S.ps,_,rfl,c7,LC,LX,λ r2 H3 fL => ?_⟩
  have jx:=St.push fL
  have a3:=g.Ma (fL.get mS) (fL.get (mC (St.up (mC (mC i_f)))))
  clear hS LC LX i9 c7 fL
  walk_at "ge"
  refine ⟨_,_,rfl,a3,?_⟩
  have i9:=jx.get St.b
  have hD:=St.toD jx
  have Jh:=hD.get Lm
  walk_at "ge"
  refine ⟨S.d,S.Jz,S.dm,(S.p:Int),rfl,Jh,?_⟩
  walk_at "ge"
  refine ⟨_,_,rfl,.inl (.inr (.inr (.inl ⟨_,rfl,rfl⟩))),?_⟩
  walk_at "ge"
  exact k [(r2,_),(r,_),(qt,_)] _ jx
end
section
variable {P:Program} {w:World} {K:PySem.W.Frag} {mg:Str->Option Value} {base:Heap} {cU cA cB cC cT cF cD cS cI:Addr}
def off (p n g:Nat):Nat:=(g+n - p) % n
theorem Mb {p n g:Nat} (h:p < n):off p n g < n:=Nat.mod_lt _ (by omega)
theorem Mc {p n i:Nat} (hp:p < n) (hi:i < n):off p n ((p+i) % n)=i:=by
 unfold off
 by_cases h:p+i < n
 ·rw [Nat.mod_eq_of_lt h,show p+i+n - p=i+n by omega,Nat.add_mod_right,Nat.mod_eq_of_lt hi]
 ·rw [Nat.mod_eq_sub_mod (a:=p+i) (by omega),Nat.mod_eq_of_lt (a:=p+i - n) (by omega),show p+i - n+n - p=i by omega,Nat.mod_eq_of_lt hi]
theorem Me {p n g:Nat} (hp:p < n) (hg:g < n):(p+off p n g) % n=g:=by
 unfold off
 by_cases h:p<=g
 ·rw [show g+n - p=(g - p)+n by omega,Nat.add_mod_right,Nat.mod_eq_of_lt (a:=g - p) (by omega),show p+(g - p)=g by omega,Nat.mod_eq_of_lt hg]
 ·rw [Nat.mod_eq_of_lt (a:=g+n - p) (by omega),show p+(g+n - p)=g+n by omega,Nat.add_mod_right,Nat.mod_eq_of_lt hg]
theorem G3 {p n g:Nat} (hp:p < n):((g:Int) - (p:Int)) % (n:Int)=(off p n g:Nat):=by
 unfold off
 rw [Int.natCast_emod]
 rw [show ((g+n - p:Nat):Int)=((g:Int) - p)+n by omega,Int.add_emod_right]
abbrev ga (bs:List Bool) (g:Nat):Bool:=bs.getD g false
theorem Gg {bs:List Bool} {f g:Nat} {b:Bool} (hf:f < bs.length):ga (bs.set f b) g=if g=f then b else ga bs g:=by
 unfold ga
 rw [List.getD_eq_getElem?_getD,List.getElem?_set,List.getD_eq_getElem?_getD]
 by_cases h:f=g
 ·rw [if_pos h,if_pos hf,if_pos h.symm];rfl
 ·rw [if_neg h,if_neg (λ e=>h e.symm)]
theorem Mf {as bs:List Bool} (h:as.length=bs.length) (hg : ∀ g,g < bs.length->ga as g=ga bs g):as=bs:=by
 refine List.ext_getElem h λ i h1 h2 => ?_
 have:=hg i h2
 unfold ga at this
 rw [List.getD_eq_getElem?_getD,List.getD_eq_getElem?_getD,List.getElem?_eq_getElem h1,List.getElem?_eq_getElem h2] at this
 exact this
theorem G4 {bs:List Bool} {g:Nat} (h:g < bs.length):iZ (bs.map L2.V.bl) ((g:Nat):Int)=some (.bl (ga bs g)):=by
 refine dN (by omega) ?_
 unfold ga
 rw [Int.toNat_natCast,List.getElem?_map,List.getElem?_eq_getElem h,List.getD_eq_getElem?_getD,List.getElem?_eq_getElem h]
 rfl
def Res (may bs:List Bool) (n p f:Nat) (bs':List Bool):Prop:=f < n/\ga may f=true/\bs'.length=n ∧
 ((ga bs f=false/\(∀ g,g < n->ga may g=true->off p n g < off p n f->ga bs g=true) ∧ ∀ g,g < n->ga bs' g=(ga bs g && !(ga may g && decide (off p n g < off p n f)))) ∨
  (ga bs f=true/\(∀ g,g < n->ga may g=true->ga bs g=true ∧ ¬ off p n g < off p n f) ∧ ∀ g,g < n->ga bs' g=(ga bs g && !ga may g)))
def Ph (may bs:List Bool) (n p i:Nat) (cur:List Bool):Prop :=
 (i < n/\(∀ g,g < n->ga cur g=(ga bs g && !(ga may g && decide (off p n g < i)))) ∧ ∀ g,g < n->ga may g=true->off p n g < i->ga bs g=true) ∨
 (n<=i/\(∀ g,g < n->ga cur g=(ga bs g && !ga may g)) ∧ ∀ g,g < n->ga may g=true->ga bs g=true ∧ ¬ off p n g < i - n)
theorem UL {may bs cur:List Bool} {n p i:Nat} (hp:p < n) (hi:i<=n) (h1 : ∀ g,g < n->ga cur g=(ga bs g && !(ga may g && decide (off p n g < i)))) (h2 : ∀ g,g < n->ga may g=true->off p n g < i->ga bs g=true):Ph may bs n p i cur:=by
 by_cases h:i < n
 ·exact .inl ⟨h,h1,h2⟩
 ·have e:i=n:=by omega
  subst e
  refine .inr ⟨Nat.le_refl _,λ g hg => ?_,λ g hg hm=>⟨h2 g hg hm (Mb hp),by omega⟩⟩
  rw [h1 g hg,decide_eq_true (Mb hp),Bool.and_true]
theorem xP {may bs:List Bool} {n p f:Nat} {bs':List Bool} (hp:p < n) (hm:may.length=n) : ∀ (k i:Nat) (cur:List Bool),k+i=2 * n->cur.length=n->Ph may bs n p i cur->CI may k (p+i) cur=some (f,bs')->Res may bs n p f bs'
 | 0,_,_,_,_,_,h=>nomatch h
 | k+1,i,cur,hk,hc,hph,h=>by
   unfold CI at h
   rw [hm] at h
   rcases hph with ⟨hi,h1,h2⟩ | ⟨hi,h1,h2⟩
   ·have Px:(p+i) % n < n:=Nat.mod_lt _ (by omega)
    have ho:=Mc hp hi
    have hat : ∀ g,g < n->off p n g=i->g=(p+i) % n:=λ g hg e=>by rw [<-e,Me hp hg]
    generalize (p+i) % n=g0 at h Px ho hat
    have hcb:ga cur g0=ga bs g0:=by rw [h1 g0 Px,ho];simp
    split at h
    ·rename_i hc2
     rw [Option.some.injEq,Prod.mk.injEq] at h
     rw [<-h.1,<-h.2]
     refine ⟨Px,hc2.1,hc,.inl ⟨by rw [<-hcb];exact hc2.2,λ g hg hmg hlt=>h2 g hg hmg (by rw [<-ho];exact hlt),λ g hg=>by rw [h1 g hg,ho]⟩⟩
    ·rename_i hc2
     refine xP hp hm k (i+1) _ (by omega) (by split <;> first | (rw [List.length_set];exact hc) | exact hc) (UL hp (by omega) (λ g hg => ?_) λ g hg hmg hlt => ?_) h
     ·by_cases xG:ga may g0=true
      ·rw [if_pos xG,Gg (by omega)]
       by_cases e:g=g0
       ·subst e
        rw [if_pos rfl,xG,ho,decide_eq_true (Nat.lt_succ_self _)];simp
       ·rw [if_neg e,h1 g hg]
        have:off p n g≠i:=λ q=>e (hat g hg q)
        rw [decide_eq_decide.mpr (show off p n g < i↔off p n g < i+1 by omega)]
      ·rw [if_neg xG,h1 g hg]
       by_cases e:g=g0
       ·subst e
        rw [Bool.eq_false_iff.mpr xG];simp
       ·have:off p n g≠i:=λ q=>e (hat g hg q)
        rw [decide_eq_decide.mpr (show off p n g < i↔off p n g < i+1 by omega)]
     ·by_cases e:off p n g=i
      ·have:=hat g hg e
       rw [this] at hmg ⊢
       rw [<-hcb]
       cases q:ga cur g0 with
       | true=>rfl
       | false=>exact absurd ⟨hmg,q⟩ hc2
      ·exact h2 g hg hmg (by omega)
   ·have hj:i - n < n:=by omega
    have e0:(p+i) % n=(p+(i - n)) % n:=by rw [show p+i=p+(i - n)+n by omega,Nat.add_mod_right]
    rw [e0] at h
    have Px:(p+(i - n)) % n < n:=Nat.mod_lt _ (by omega)
    have ho:=Mc hp hj
    have hat : ∀ g,g < n->off p n g=i - n->g=(p+(i - n)) % n:=λ g hg e=>by rw [<-e,Me hp hg]
    generalize (p+(i - n)) % n=g0 at h Px ho hat
    by_cases xG:ga may g0=true
    ·have hcf:ga cur g0=false:=by rw [h1 g0 Px,xG];simp
     rw [if_pos ⟨xG,hcf⟩,Option.some.injEq,Prod.mk.injEq] at h
     rw [<-h.1,<-h.2]
     exact ⟨Px,xG,hc,.inr ⟨(h2 g0 Px xG).1,λ g hg hmg=>⟨(h2 g hg hmg).1,by rw [ho];exact (h2 g hg hmg).2⟩,h1⟩⟩
    ·rw [if_neg (λ q=>xG q.1),if_neg xG] at h
     have e2:p+i+1=p+(i+1):=by omega
     rw [e2] at h
     refine xP hp hm k (i+1) cur (by omega) hc (.inr ⟨by omega,h1,λ g hg hmg=>⟨(h2 g hg hmg).1,λ hlt => ?_⟩⟩) h
     have h3:=(h2 g hg hmg).2
     have e:off p n g=i - n:=by omega
     exact xG ((hat g hg e) ▸ hmg)
theorem Ot {may bs:List Bool} {p f:Nat} {bs':List Bool} (hm:may.length=bs.length) (hp:p < bs.length) (h:CI may (2 * may.length) p bs=some (f,bs')):Res may bs bs.length p f bs' :=
 xP hp hm (2 * may.length) 0 bs (by omega) rfl (.inl ⟨by omega,λ g hg=>by simp,λ g hg _ h=>by omega⟩) h
theorem Gh {X:Cx} {K:PySem.W.Frag} (h:X.K=K):nI X (compareOp .In) (Vj K false):=h ▸ HF
theorem St.AX {H:Hp} {S:SS} {M:Cells} (N L:Cells) (h:Led H (bw cT cF cD cS cI S (N++(L++M)))):Led H (L++bw cT cF cD cS cI S (N++M)):=by
 have e : ∀ X:Cells,bw cT cF cD cS cI S X=(AS cT S++(qu cF S.F++(D0 cD S++(D3 cS S++Co cI S))))++X:=λ X=>by unfold bw;simp only [List.append_assoc]
 rw [e] at h ⊢
 exact Led.perm h ((List.Perm.append_left _ (aN N L M)).trans (aN _ L _))
theorem St.j8 {H:Hp} {S:SS} {M:Cells} (L:Cells) (h:Led H (L++bw cT cF cD cS cI S M)):Led H (bw cT cF cD cS cI S (L++M)):=by
 have e : ∀ X:Cells,bw cT cF cD cS cI S X=(AS cT S++(qu cF S.F++(D0 cD S++(D3 cS S++Co cI S))))++X:=λ X=>by unfold bw;simp only [List.append_assoc]
 rw [e] at h ⊢
 exact Led.perm h (aN L _ _)
theorem j7.mono {S:SS} {us:List V} {M M':Cells} (s:j7 S us M) (up : ∀ c∈M,c∈M'):j7 S us M':=⟨s.l,s.no,λ i t a h=>(s.th i t a h).imp λ u hu=>⟨hu.1,up _ hu.2⟩⟩
theorem j7.same {S S':SS} {us:List V} {M:Cells} (e:S'.F.hs=S.F.hs) (s:j7 S us M):j7 S' us M:=⟨by rw [e];exact s.l,λ i h=>s.no i (by rw [<-e];exact h),λ i t a h=>s.th i t a (by rw [<-e];exact h)⟩
theorem j7.out {S S':SS} {us:List V} {M:Cells} {i:Nat} (e:S'.F.hs=S.F.hs.set i none) (s:j7 S us M):j7 S' (us.set i .aI) M:=by
 refine ⟨by rw [e,List.length_set,List.length_set];exact s.l,λ j h => ?_,λ j t a h => ?_⟩
 ·rw [e,List.getElem?_set] at h
  rw [List.getElem?_set]
  by_cases z:i=j
  ·rw [if_pos z] at h ⊢
   by_cases y:i < S.F.hs.length
   ·rw [if_pos (by rw [s.l];exact y)]
   ·rw [if_neg y] at h
    cases h
  ·rw [if_neg z] at h ⊢
   exact s.no j h
 ·rw [e,List.getElem?_set] at h
  rw [List.getElem?_set]
  by_cases z:i=j
  ·rw [if_pos z] at h
   split at h <;> cases h
  ·rw [if_neg z] at h ⊢
   exact s.th j t a h
theorem j7.UJ {S S':SS} {us:List V} {M:Cells} {i:Nat} {t u:Addr} {a:Th} (e:S'.F.hs=S.F.hs.set i (some (t,a))) (hu:(u,HO.tup (gv a))∈M) (s:j7 S us M):j7 S' (us.set i (.ref u)) M:=by
 refine ⟨by rw [e,List.length_set,List.length_set];exact s.l,λ j h => ?_,λ j t' a' h => ?_⟩
 ·rw [e,List.getElem?_set] at h
  rw [List.getElem?_set]
  by_cases z:i=j
  ·rw [if_pos z] at h
   split at h <;> cases h
  ·rw [if_neg z] at h ⊢
   exact s.no j h
 ·rw [e,List.getElem?_set] at h
  rw [List.getElem?_set]
  by_cases z:i=j
  ·rw [if_pos z] at h ⊢
   by_cases y:i < S.F.hs.length
   ·rw [if_pos y] at h
    rw [if_pos (by rw [s.l];exact y)]
    cases h
    exact ⟨u,rfl,hu⟩
   ·rw [if_neg y] at h
    cases h
  ·rw [if_neg z] at h ⊢
   exact s.th j t' a' h
theorem Py {H:Hp} : ∀ {hs:List Hd} {us:List V},us.length=hs.length->(∀ i:Nat,hs[i]? = some none->us[i]? = some .aI)->(∀ (i:Nat) (t:Addr) (a:Th),hs[i]? = some (some (t,a))->∃ u,us[i]? = some (.ref u)/\H u=some (.tup (gv a)))->bR H us (PySem.W.kqdPs (hs.map λ x=>ek (kH x)))
 | [],[],_,_,_ => .nil
 | [],_::_,hl,_,_=>nomatch hl
 | _::_,[],hl,_,_=>nomatch hl
 | x::hs,u::us,hl,h1,h2=>by
   rw [List.map_cons,PySem.W.kqdPs]
   refine .cons ?_ (Py (Nat.succ.inj hl) (λ i h=>h1 (i+1) h) (λ i t a h=>h2 (i+1) t a h))
   cases x with
   | none =>
     have h3:some u=some V.aI:=h1 0 rfl
     cases h3
     show eB H .aI (PySem.W.kqdP .none)
     rw [PySem.W.kqdP]
     exact .aI
   | some x =>
     obtain ⟨w,e,hw⟩:=h2 0 x.1 x.2 rfl
     have e':some u=some (V.ref w):=e
     cases e'
     exact xE hw
theorem j7.dat {S:SS} {us:List V} {M L:Cells} {H:Hp} (s:j7 S us M) (hL:Led H L) (hM : ∀ c∈M,c∈L):bR H us (PySem.W.kqdPs (S.F.hs.map λ x=>ek (kH x))):=Py s.l s.no λ i t a h=>(s.th i t a h).imp λ _ hu=>⟨hu.1,hL.get (hM _ hu.2)⟩
theorem aR.RA {S:SS} {n q:Nat} {M:Cells} (g:aR S n q M) : ∀ e∈S.F.hs.map (λ x=>ek (kH x)),PySem.W.kqdOk 7 e=true:=λ e he=>by
 obtain ⟨y,hy,rfl⟩:=List.mem_map.mp he
 refine uQ (λ a ha => ?_) 6
 cases y with
 | none=>cases ha
 | some y=>cases ha;exact (g.f.th y.1 y.2 hy).2
end
section
variable {P:Program} {w:World} {K:PySem.W.Frag} {mg:Str->Option Value} {base:Heap} {cU cA cB cC cT cF cD cS cI:Addr}
theorem fM.lt {N:Cells} {S S1:SS} {n q i:Nat} {M:Cells} (g:aR S n q M) (h:fM N S n i S1):i < n:=by
 rw [<-g.f.h]
 rcases h with ⟨h,_⟩ | ⟨_,_,_,_,_,h,_⟩
 ·exact (List.getElem?_eq_some_iff.mp h).1
 ·exact (List.getElem?_eq_some_iff.mp h).1
def Mg:Sp:=λ vs H Q _ => ∃ (S S1:SS) (n q i:Nat) (sp mk sf:Addr) (us:List V) (M L N0:Cells),vs = [.ref sp,.ref mk,.ref sf,.int (S.p:Nat),.int (i:Nat)]/\Led H ((sp,.lst us)::(mk,.lst (S.bs.map V.bl))::(sf,.lst S.ps)::L)/\(∀ c∈M,c∈L)/\aR S n q M/\j7 S us M/\fM N0 S n i S1 ∧ ∀ (us':List V) (N:Cells) (H':Hp),j7 S1 us' M->Led H' ((sp,.lst us')::(mk,.lst (S1.bs.map V.bl))::(sf,.lst S1.ps)::(N++L))->Q (.int (S1.p:Nat)) H'
theorem Ou (D:Def K mg "_law_goes" jm) (B:jd mg) (T:Txt K mg cU cA cB cC cT cF cD cS cI) (cX:dF P w K mg base 1 "_law_whole" ["_law_found"] uR):dF P w K mg base 2 "_law_goes" ["_law_spots","_law_marks","_law_shelf","_law_pointer","_law_found"] Mg:=by
 have sc:=AI
 refine D.ok AI (λ vs H Q E h => ?_) (λ _ _ _ _ _ _ us hl=>match us,hl with | [_,_,_,_,_],_=>rfl) (λ f cdv A outer s H vs Q E hr h => ?_)
 ·obtain ⟨_,_,_,_,_,_,_,_,_,_,_,_,rfl,_⟩:=h;rfl
 ·obtain ⟨S,S1,n,q,i,sp,mk,sf,us,M,L,N0,rfl,hL,hML,g,s1,Ae,k⟩:=h
  have hin:=Ae.lt g
  have hsz:=sizeLine_eq
  have n64:=g.n64
  have ul:us.length=n:=s1.l.trans g.f.h
  have RB : ∀ c∈M,c∈(sp,HO.lst us)::(mk,HO.lst (S.bs.map V.bl))::(sf,HO.lst S.ps)::L:=λ c hc=>mC (mC (mC (hML c hc)))
  have eS:=hL.get mS
  have d2:=s1.dat hL RB
  have d1:eB H .aI (PySem.W.kqdP (ek none)):=by show eB H .aI (PySem.W.kqdP .none);rw [PySem.W.kqdP];exact .aI
  have o1:PySem.W.kqdOk 8 (ek none)=true:=rfl
  have o2:=g.RA
  refine ⟨_,(@af _ _ _ _ _ (@aS _ _ _ _ _ _ _ _ (@PW.pt _ _ _ (@pw_or _ _ _ _ _ _ _ (@cV _ _ _ _ (@aZ _ _ _ (@aC _ _ _ _ _ _ _ _ _ _ _ cX (hr.mono (by omega)) (by rfl) aB (@aa _ _ _ _ _ (@aq _ 4 _ _ (by walk_at "v")) (@aj _) (by rfl)) (by decide) (by rfl) (by rfl)) (by intro _;rfl))) (@pw_or1 _ _ _ _ (@cV _ _ _ _ (@JT _ _ _ _ _ _ _ _ _ _ _ _ SN Al (@ak _ _ _ _) (@aq _ 4 _ _ (by walk_at "v")) (@aJ _ _ _ _ _ _ _ _ _ aO (by rfl) B.len bK (@aa _ _ _ _ _ (@aq _ 0 _ _ (by walk_at "v")) (@aj _) (by rfl)) (by decide) (by decide) (by rfl) (by rfl)) (by with_unfolding_all rfl)))))) (@ao _ _ _ (@aE _ _ _ _ (@m8 _ _ _ _ _ _ iX (@ak _ _ _ _)))) (@aF _)) (@af _ _ _ _ _ (@aS _ _ _ _ _ _ _ _ (@aL _ _ _ _ _ _ _ _ (Kq hr.units) (@bE _ _ _) (@aq _ 0 _ _ (by walk_at "v")) (by with_unfolding_all rfl)) (@af _ _ _ _ _ (@aS _ _ _ _ _ _ _ _ (@aL _ _ _ _ _ _ _ _ cY (@aq _ 4 _ _ (by walk_at "v")) (@sD _ _ _ _ _ _ _ _ _ _ _ _ PySem.F.plainAttrs_list PySem.F.slot_list_index PySem.F.type_list_index (mq hr.units) (@aq _ 0 _ _ (by walk_at "v")) (@aa _ _ _ _ _ (@bE _ _ _) (@aj _) (by rfl)) (by rfl) (by rfl) (by rfl) (by rfl) (by rfl)) (aP _)) (@ao _ _ _ (@aE _ _ _ _ (@aq _ 3 _ _ (by walk_at "v")))) (@aF _)) (@ao _ _ _ (@aE _ _ _ _ (@m8 _ _ _ _ _ _ iX (@ak _ _ _ _))))) (@aF _)) (@af _ _ _ _ _ (@gZ _ _ "_law_thing" _ _ _ _ _ _ _ _ _ _ 5 _ _ rfl rfl rfl rfl O8 (dg (by kernel_rfl)) (@gE _ _ _ _ (@aq _ 0 _ _ (by walk_at "v"))) (λ _ _ _ _=>(@jF _)) (λ _ _ _ _=>(@OQ _ _ _ _ _ _ _ (@gF _ _ _ _ _ _ _ _ cY (@aY _ _ _ _ _ _ _ aQ (@pk _ 0 _ _ (by kernel_rfl) (by kernel_rfl) (by decide) (by decide)) (@ak _ _ _ _) (λ _ _=>rfl)) (@dD _ _ _ _) (aP _)) (@nH _ _ _ _ _ (@gF _ _ _ _ _ _ _ _ (Gh (K:=K) rfl) (@bE _ _ _) (@pk _ 3 _ _ (by kernel_rfl) (by kernel_rfl) (by decide) (by decide)) (by with_unfolding_all rfl))))) sc.nd rfl (by walk_at "o2") (by intro _;rfl) (by rfl) (by walk_at "o4")) (@af _ _ _ _ _ (@aK _ _ 6 _ _ _ _ sc.nd rfl (by walk_at "o2") (@av _ _ _ _ _ _ _ _ aH (@av _ _ _ _ _ _ _ _ gY (@aq _ 4 _ _ (by walk_at "v")) (@aq _ 3 _ _ (by walk_at "v"))) (@aJ _ _ _ _ _ _ _ _ _ aO (by rfl) B.len bK (@aa _ _ _ _ _ (@aq _ 0 _ _ (by walk_at "v")) (@aj _) (by rfl)) (by decide) (by decide) (by rfl) (by rfl))) (by rfl) (by walk_at "o4")) (@af _ _ _ _ _ (@aK _ _ 7 _ _ _ _ sc.nd rfl (by walk_at "o2") (@aY _ _ _ _ _ _ _ aQ (@aq _ 1 _ _ (by walk_at "v")) (@aq _ 4 _ _ (by walk_at "v")) (λ _ _=>rfl)) (by rfl) (by walk_at "o4")) (@af _ _ _ _ _ (@aS _ _ _ _ _ _ _ _ (@cV _ _ _ _ (@aZ _ _ _ (@aY _ _ _ _ _ _ _ aQ (@aq _ 5 _ _ (by walk_at "v")) (@aq _ 4 _ _ (by walk_at "v")) (λ _ _=>rfl)) (by intro _;rfl))) (@ao _ _ _ (@aE _ _ _ _ (@m8 _ _ _ _ _ _ iX (@ak _ _ _ _)))) (@aF _)) (@af _ _ _ _ _ (@iW _ _ _ _ _ _ _ _ PassesOwn.never rfl (@cE _ _ _ _ _ _ (by rfl) B.range (@aa _ _ _ _ _ (@aJ _ _ _ _ _ _ _ _ _ aO (by rfl) B.len bK (@aa _ _ _ _ _ (@aq _ 0 _ _ (by walk_at "v")) (@aj _) (by rfl)) (by decide) (by decide) (by rfl) (by rfl)) (@aj _) (by rfl)) (by rfl)) (@eK _ _ 8 _ sc.nd rfl (by walk_at "o2") (by walk_at "o4")) (@af _ _ _ _ _ (@aK _ _ 9 _ _ _ _ sc.nd rfl (by walk_at "o2") (@gF _ _ _ _ _ _ _ _ Al (@av _ _ _ _ _ _ _ _ aH (@av _ _ _ _ _ _ _ _ gY (@aq _ 8 _ _ (by walk_at "v")) (@aq _ 3 _ _ (by walk_at "v"))) (@aJ _ _ _ _ _ _ _ _ _ aO (by rfl) B.len bK (@aa _ _ _ _ _ (@aq _ 0 _ _ (by walk_at "v")) (@aj _) (by rfl)) (by decide) (by decide) (by rfl) (by rfl))) (@aq _ 6 _ _ (by walk_at "v")) (aP _)) (by rfl) (by walk_at "o4")) (@af _ _ _ _ _ (@aS _ _ _ _ _ _ _ _ (@PW.pt _ _ _ (@pw_and _ _ _ _ _ _ _ (@aZ _ _ _ (@aY _ _ _ _ _ _ _ aQ (@aq _ 5 _ _ (by walk_at "v")) (@aq _ 8 _ _ (by walk_at "v")) (λ _ _=>rfl)) (by intro _;rfl)) (@pw_and _ _ _ _ _ _ _ (@aZ _ _ _ (@aq _ 9 _ _ (by walk_at "v")) (by intro _;rfl)) (@pw_and1 _ _ _ _ (@aZ _ _ _ (@aq _ 7 _ _ (by walk_at "v")) (by intro _;rfl)))))) (@ao _ _ _ (@aE _ _ _ _ (@m8 _ _ _ _ _ _ iX (@ak _ _ _ _)))) (@aF _)) (@ao _ _ _ (@aS _ _ _ _ _ _ _ _ (@PW.pt _ _ _ (@pw_and _ _ _ _ _ _ _ (@aZ _ _ _ (@aY _ _ _ _ _ _ _ aQ (@aq _ 5 _ _ (by walk_at "v")) (@aq _ 8 _ _ (by walk_at "v")) (λ _ _=>rfl)) (by intro _;rfl)) (@pw_and1 _ _ _ _ (@PW.pt _ _ _ (@pw_or _ _ _ _ _ _ _ (@aZ _ _ _ (@aq _ 9 _ _ (by walk_at "v")) (by intro _;rfl)) (@pw_or1 _ _ _ _ (@aZ _ _ _ (@aq _ 7 _ _ (by walk_at "v")) (by intro _;rfl)))))))) (@af _ _ _ _ _ (@aS _ _ _ _ _ _ _ _ (@cV _ _ _ _ (@aZ _ _ _ (@aY _ _ _ _ _ _ _ aQ (@aq _ 1 _ _ (by walk_at "v")) (@aq _ 8 _ _ (by walk_at "v")) (λ _ _=>rfl)) (by intro _;rfl))) (@ao _ _ _ (@aE _ _ _ _ (@m8 _ _ _ _ _ _ iX (@ak _ _ _ _)))) (@aF _)) (@ao _ _ _ (@bJ _ _ _ _ _ _ (@bP _ _ _ _) (@bN _ _ _ _ _ _ _ (@aq _ 1 _ _ (by walk_at "v")) (@aq _ 8 _ _ (by walk_at "v")) set_list (by intro _;rfl)) (by rfl) (by rfl) (by rfl)))) (@aF _))))) (by intro _;rfl)) (@af _ _ _ _ _ (@aS _ _ _ _ _ _ _ _ (@aL _ _ _ _ _ _ _ _ cY (@aY _ _ _ _ _ _ _ aQ (@aY _ _ _ _ _ _ _ aQ (@aq _ 0 _ _ (by walk_at "v")) (@aq _ 4 _ _ (by walk_at "v")) (λ _ _=>rfl)) (@ak _ _ _ _) (λ _ _=>rfl)) (@dD _ _ _ _) (aP _)) (@ao _ _ _ (@bJ _ _ _ _ _ _ (@aY _ _ _ _ _ _ _ aQ (@aY _ _ _ _ _ _ _ aQ (@aq _ 0 _ _ (by walk_at "v")) (@aq _ 4 _ _ (by walk_at "v")) (λ _ _=>rfl)) (@ak _ _ _ _) (λ _ _=>rfl)) (@bN _ _ _ _ _ _ _ (@aq _ 2 _ _ (by walk_at "v")) (@sD _ _ _ _ _ _ _ _ _ _ _ _ PySem.F.plainAttrs_list PySem.F.slot_list_index PySem.F.type_list_index pA (@aq _ 2 _ _ (by walk_at "v")) (@aa _ _ _ _ _ (@bE _ _ _) (@aj _) (by rfl)) (by rfl) (by rfl) (by rfl) (by rfl) (by rfl)) set_list (by intro _;rfl)) (by rfl) (by rfl) (by rfl))) (@aF _)) (@af _ _ _ _ _ (@bJ _ _ _ _ _ _ (@bE _ _ _) (@bN _ _ _ _ _ _ _ (@aq _ 0 _ _ (by walk_at "v")) (@aq _ 4 _ _ (by walk_at "v")) set_list (by intro _;rfl)) (by rfl) (by rfl) (by rfl)) (@ao _ _ _ (@aE _ _ _ _ (@av _ _ _ _ _ _ _ _ aH (@av _ _ _ _ _ _ _ _ aV (@aq _ 4 _ _ (by walk_at "v")) (@ak _ _ _ _)) (@aJ _ _ _ _ _ _ _ _ _ aO (by rfl) B.len bK (@aa _ _ _ _ _ (@aq _ 0 _ _ (by walk_at "v")) (@aj _) (by rfl)) (by decide) (by decide) (by rfl) (by rfl)))))))))))))),?_⟩
  refine aG λ M1 K1 => ?_
  walk_at "ge"
  refine ⟨_,rfl,?_⟩
  walk_at "ge"
  simp only [Am,JS]
  walk_at "ge"
  all_goals first | (exfalso;omega) | skip
  refine K1.use ?_
  walk_at "cl"
  clear K1
  refine aG λ M1 K1 => ?_
  walk_at "ge"
  rcases Ae with ⟨h1,h2,rfl⟩ | ⟨hall,bs',t,a,hgo,hi,LY⟩
  ·refine Bw (neg:=false) (b:=true) eS d1 d2 o1 o2 (iff_of_true rfl (List.mem_map.mpr ⟨none,List.mem_of_getElem? h1,rfl⟩)) ?_
   rw [if_neg Bool.false_ne_true]
   walk_at "ge"
   refine ⟨Dl eS,?_⟩
   walk_at "ge"
   refine GK eS d1 d2 o1 o2 (j:=i) (by rw [List.getElem?_map,h1];rfl) (λ m e hm he => ?_) ?_
   ·rw [List.getElem?_map] at he
    obtain ⟨z,hz,rfl⟩:=Option.map_eq_some_iff.mp he
    refine λ w=>h2 m z hm hz ?_
    cases z with
    | none=>rfl
    | some z=>exact nomatch (fJ.mp w)
   ·walk_at "ge"
    all_goals first | (exfalso;omega) | skip
    exact k us [] _ s1 hL
  ·have hnot:ek none ∉ S.F.hs.map λ x=>ek (kH x):=λ hm=>by
    obtain ⟨y,hy,e⟩:=List.mem_map.mp hm
    refine hall y hy ?_
    have e2:=fJ.mp e
    cases y with
    | none=>rfl
    | some y=>cases e2
   refine Bw (neg:=false) (b:=false) eS d1 d2 o1 o2 (iff_of_false Bool.false_ne_true hnot) ?_
   walk_at "ge"
   refine K1.use ?_
   walk_at "cl"
   clear K1 d1 d2 o1 o2
   have ml:(dH S).length=n:=by unfold dH;rw [List.length_map];exact g.f.h
   have uU:=g.bl
   have hpn:=g.pn
   have res:Res (dH S) S.bs S.bs.length S.p i bs':=Ot (by rw [ml,uU]) (by rw [uU];exact hpn) (by rw [ml];exact hgo)
   obtain ⟨hfl,hmf,UM,hres⟩:=res
   obtain ⟨u,hu,cu⟩:=s1.th i t a hi
   have fbs:bs'.set i false=bs':=by
    have e0:ga bs' i=false:=by
     rcases hres with ⟨h1,_,h3⟩ | ⟨h1,_,h3⟩
     ·rw [h3 i hfl,h1];rfl
     ·rw [h3 i hfl,hmf];simp
    refine Mf (List.length_set ..) λ g hg => ?_
    rw [Gg (by omega)]
    by_cases e:g=i
    ·rw [if_pos e,e,e0]
    ·rw [if_neg e]
   refine aG λ M1 K1 => ?_
   walk_at "ge"
   refine vv λ Lc mZ => ?_
   walk_at "ge"
   refine ⟨sp,rfl,⟨_,fq.of eS⟩,mZ.use ?_⟩
   clear mZ
   refine mh us (λ j v C=>C = [] ∧ ∃ b,(dH S)[j]? = some b/\v = .bl b) hL List.mem_cons_self (by rw [ul];omega) (λ j y H2 R N hy hl2 hR => ?_) (λ pm vs Cs H2 hv hc hG hl2 => ?_)
   ·have hj:j < n:=by rw [<-ul];exact (List.getElem?_eq_some_iff.mp hy).1
    obtain ⟨x,hx⟩ : ∃ x,S.F.hs[j]? = some x:=⟨_,List.getElem?_eq_getElem (by rw [g.f.h];exact hj)⟩
    cases x with
    | none=>exact absurd rfl (hall none (List.mem_of_getElem? hx))
    | some x =>
      obtain ⟨v,hv,cv⟩:=s1.th j x.1 x.2 hx
      rw [hv] at hy
      cases hy
      have Sl:=hl2.get (mA (RB _ cv))
      have kI:=hl2.get (mA (mC (mC mS)))
      have hm:=mJ (t:=x.1) (a:=x.2) hx
      obtain ⟨t2,a2⟩:=x
      cases a2 with
      | own m =>
        have abc:H2 v=some (.tup [.str (Str.ofString "own"),.int m]):=Sl
        clear Sl
        have hne : ¬ Str.ofString "own" = Str.ofString "file" := by decide +kernel
        walk_at "ge"
        ·exact absurd (by assumption) hne
        refine Nx kI rfl g.flat ?_
        exact hR _ _ [] ⟨rfl,_,hm,rfl⟩ hl2
      | file z p =>
        have abc:H2 v=some (.tup [.str (Str.ofString "file"),.str z,.int p]):=Sl
        clear Sl
        walk_at "ge"
        ·exact hR _ _ [] ⟨rfl,_,hm,rfl⟩ hl2
        ·exact absurd rfl (by assumption)
   ·rw [ul] at hv hc
    have hvs:=LW (by rw [hv,ml]) λ j v hj=>by
     have hlt:j < Cs.length:=by have:=(List.getElem?_eq_some_iff.mp hj).1;omega
     exact (hG j v _ hj (List.getElem?_eq_getElem hlt)).2
    have hcs:Cs.flatten = []:=by
     rw [List.flatten_eq_nil_iff]
     intro C hC
     obtain ⟨j,hj⟩:=List.getElem?_of_mem hC
     have hlt:j < vs.length:=by have:=(List.getElem?_eq_some_iff.mp hj).1;omega
     exact (hG j _ C (List.getElem?_eq_getElem hlt) hj).1
    rw [hvs,hcs] at hl2
    have hl3:Led H2 ((pm,.lst ((dH S).map V.bl))::(sp,.lst us)::(mk,.lst (S.bs.map V.bl))::(sf,.lst S.ps)::L):=hl2
    clear hl2 hG hvs hcs hL eS
    walk_at "ge"
    refine K1.use ?_
    walk_at "cl"
    clear K1
    have eS:=hl3.get (mC mS)
    have Rz:=hl3.get (mC (mC mS))
    have Pz:=hl3.get mS
    refine aG λ M1 K1 => ?_
    walk_at "ge"
    rw [ul,G3 hpn]
    refine K1.use ?_
    walk_at "cl"
    clear K1
    obtain ⟨bf,hbf⟩ : ∃ b,ga S.bs i=b:=⟨_,rfl⟩
    have a3:=G4 (bs:=S.bs) (g:=i) (by omega)
    rw [hbf] at a3
    have a4:=G4 (bs:=dH S) (g:=i) (by omega)
    rw [hmf] at a4
    refine aG λ M1 K1 => ?_
    walk_at "ge"
    refine K1.use ?_
    walk_at "cl"
    clear K1 Rz a3
    refine aG λ M1 K1 => ?_
    walk_at "ge"
    refine K1.use ?_
    walk_at "cl"
    clear K1 Pz a4
    refine aG λ M1 K1 => ?_
    refine o5 λ Lr nE => ?_
    walk_at "ge"
    refine ⟨_,rfl,by omega,by omega,nE.use ?_⟩
    clear nE eS
    rw [show ((us.length:Int)).toNat=n by omega]
    rw [uU] at hfl UM hres
    refine o6 (λ j σ H' => ∃ cur:List Bool,Led H' ((pm,.lst ((dH S).map V.bl))::(sp,.lst us)::(mk,.lst (cur.map V.bl))::(sf,.lst S.ps)::L)/\cur.length=n/\(∀ g,g < n->ga cur g=if g < j then ga bs' g else ga S.bs g) ∧ ∃ v1 v2,σ = [some (.ref sp),some (.ref mk),some (.ref sf),some (.int (S.p:Nat)),some (.int (i:Nat)),some (.ref pm),some (.int (off S.p n i:Nat)),some (.bl bf),v1,v2]) ⟨S.bs,hl3,uU,λ g _=>by rw [if_neg (Nat.not_lt_zero _)],_,_,rfl⟩ ?_ ?_
    ·clear hl3 K1 k
     rintro j σ H' hj ⟨cur,hl',hcu,hg,v1,v2,rfl⟩
     have Pz:=hl'.get mS
     have eS:=hl'.get (mC mS)
     have Rz:=hl'.get (mC (mC mS))
     have e0:(0+(j:Int))=((j:Nat):Int):=by omega
     have a1:=G4 (bs:=dH S) (g:=j) (by omega)
     have a2:=G4 (bs:=cur) (g:=j) (by omega)
     rw [hg j hj,if_neg (Nat.lt_irrefl _)] at a2
     rw [<-e0] at a1 a2
     refine aG λ M2 K2 => ?_
     walk_at "ge"
     have eo:(0+(j:Int) - (S.p:Int)) % (n:Int)=(off S.p n j:Nat):=by rw [e0];exact G3 hpn
     rw [ul,eo]
     obtain ⟨ah,hah⟩ : ∃ b:Bool,decide (((off S.p n j:Nat):Int) < ((off S.p n i:Nat):Int))=b:=⟨_,rfl⟩
     rw [hah]
     have RC:ah=decide (off S.p n j < off S.p n i):=by rw [<-hah];exact decide_eq_decide.mpr (by omega)
     refine K2.use ?_
     walk_at "cl"
     clear K2 hah eS
     obtain ⟨my,xG⟩ : ∃ b,ga (dH S) j=b:=⟨_,rfl⟩
     obtain ⟨bi,hbi⟩ : ∃ b,ga S.bs j=b:=⟨_,rfl⟩
     rw [xG] at a1
     rw [hbi] at a2
     have stay:ga bs' j=ga S.bs j->∃ cur:List Bool,Led H' ((pm,.lst ((dH S).map V.bl))::(sp,.lst us)::(mk,.lst (cur.map V.bl))::(sf,.lst S.ps)::L)/\cur.length=n/\(∀ g,g < n->ga cur g=if g < j+1 then ga bs' g else ga S.bs g) ∧ ∃ v1 v2,[some (V.ref sp),some (.ref mk),some (.ref sf),some (.int (S.p:Nat)),some (.int (i:Nat)),some (.ref pm),some (.int (off S.p n i:Nat)),some (.bl bf),some (.int (0+(j:Int))),some (.bl ah)] = [some (.ref sp),some (.ref mk),some (.ref sf),some (.int (S.p:Nat)),some (.int (i:Nat)),some (.ref pm),some (.int (off S.p n i:Nat)),some (.bl bf),v1,v2]:=λ he=>by
      refine ⟨cur,hl',hcu,λ g VY => ?_,_,_,rfl⟩
      rw [hg g VY]
      by_cases e:g=j
      ·subst e;rw [if_neg (Nat.lt_irrefl _),if_pos (Nat.lt_succ_self _),he]
      ·by_cases h:g < j
       ·rw [if_pos h,if_pos (by omega)]
       ·rw [if_neg h,if_neg (by omega)]
     have turn:ga bs' j=false->∃ RD:List Bool,Led (upd H' mk (.lst ((cur.set (0+(j:Int)).toNat false).map V.bl))) ((pm,.lst ((dH S).map V.bl))::(sp,.lst us)::(mk,.lst (RD.map V.bl))::(sf,.lst S.ps)::L)/\RD.length=n/\(∀ g,g < n->ga RD g=if g < j+1 then ga bs' g else ga S.bs g) ∧ ∃ v1 v2,[some (V.ref sp),some (.ref mk),some (.ref sf),some (.int (S.p:Nat)),some (.int (i:Nat)),some (.ref pm),some (.int (off S.p n i:Nat)),some (.bl bf),some (.int (0+(j:Int))),some (.bl ah)] = [some (.ref sp),some (.ref mk),some (.ref sf),some (.int (S.p:Nat)),some (.int (i:Nat)),some (.ref pm),some (.int (off S.p n i:Nat)),some (.bl bf),v1,v2]:=λ he=>by
      refine ⟨cur.set (0+(j:Int)).toNat false,hl'.jG 2 rfl rfl rfl,by rw [List.length_set];exact hcu,λ g VY => ?_,_,_,rfl⟩
      rw [show (0+(j:Int)).toNat=j by omega,Gg (by omega)]
      by_cases e:g=j
      ·subst e;rw [if_pos rfl,if_pos (Nat.lt_succ_self _),he]
      ·rw [if_neg e,hg g VY]
       by_cases h:g < j
       ·rw [if_pos h,if_pos (by omega)]
       ·rw [if_neg h,if_neg (by omega)]
     rcases hres with ⟨hf,h1,h2⟩ | ⟨hf,h1,h2⟩
     ·have e1:bf=false:=by rw [<-hbf];exact hf
      subst e1
      have hv:=h2 j hj
      rw [xG,hbi,<-RC] at hv
      cases my with
      | false =>
        walk_at "ge"
        exact stay (by rw [hv,hbi];simp)
      | true =>
        cases ah with
        | false =>
          walk_at "ge"
          exact stay (by rw [hv,hbi];simp)
        | true =>
          have hb1:=h1 j hj xG (of_decide_eq_true RC.symm)
          have e2:bi=true:=by rw [<-hbi];exact hb1
          subst e2
          walk_at "ge"
          refine cQ Rz (bG (by omega) (by rw [List.length_map];omega)) ?_
          rw [sR]
          walk_at "ge"
          exact turn (by rw [hv];rfl)
     ·have e1:bf=true:=by rw [<-hbf];exact hf
      subst e1
      have hv:=h2 j hj
      rw [xG,hbi] at hv
      cases my with
      | false =>
        cases ah <;> walk_at "ge" <;> exact stay (by rw [hv,hbi];simp)
      | true =>
        obtain ⟨hb1,hb2⟩:=h1 j hj xG
        have e2:bi=true:=by rw [<-hbi];exact hb1
        subst e2
        have e3:ah=false:=by rw [RC];exact decide_eq_false hb2
        subst e3
        walk_at "ge"
        refine cQ Rz (bG (by omega) (by rw [List.length_map];omega)) ?_
        rw [sR]
        walk_at "ge"
        exact turn (by rw [hv];rfl)
    ·rintro σ H' ⟨cur,hl',hcu,hg,v1,v2,rfl⟩
     have e:cur=bs':=Mf (by rw [hcu,UM]) λ g VY=>by rw [hg g (by omega),if_pos (by omega)]
     subst e
     walk_at "ge"
     refine K1.use ?_
     walk_at "cl"
     clear K1 hl3
     have eS:=hl'.get (mC mS)
     have kI:=hl'.get (mC (mC (mC mS)))
     have Gi:=hl'.get (mC (mC (mC (mC (hML _ cu)))))
     have au:iZ us ((i:Nat):Int)=some (.ref u):=dN (by omega) (by rw [Int.toNat_natCast];exact hu)
     refine aG λ M1 K1 => ?_
     have rest : ∀ (ps':List V) (H3:Hp),S1.ps=ps'->S1.bs=cur->S1.p=(i+1) % n->Led H3 ((pm,.lst ((dH S).map V.bl))::(sp,.lst us)::(mk,.lst (cur.map V.bl))::(sf,.lst ps')::L)->M1 [some (V.ref sp),some (.ref mk),some (.ref sf),some (.int (S.p:Nat)),some (.int (i:Nat)),some (.ref pm),some (.int (off S.p n i:Nat)),some (.bl bf),v1,v2] H3:=by
      intro ps' H3 e1 e2 e3 bT
      refine K1.use ?_
      clear K1 hl' eS kI Gi
      have eS:=bT.get (mC mS)
      refine aG λ M2 K2 => ?_
      walk_at "ge"
      refine cQ eS (bG (by omega) (by omega)) ?_
      rw [Int.toNat_natCast]
      have c7:=bT.jG (o' := .lst (us.set i .aI)) 1 rfl rfl rfl
      generalize upd H3 sp (.lst (us.set i .aI))=H5 at c7 ⊢
      clear eS bT
      have fL:Led H5 ((pm,.lst ((dH S).map V.bl))::(sp,.lst (us.set i .aI))::(mk,.lst (cur.map V.bl))::(sf,.lst ps')::L):=c7
      have eS:=fL.get (mC mS)
      clear c7
      walk_at "ge"
      refine K2.use ?_
      walk_at "cl"
      clear K2
      walk_at "ge"
      rw [List.length_set,ul]
      have hn0:(0:Int) < (n:Int):=by omega
      walk_at "ge"
      have e4:((i:Int)+1) % (n:Int)=((i+1) % n:Nat):=by simp
      rw [e4,<-e3]
      refine k (us.set i .aI) [(pm,.lst ((dH S).map V.bl))] H5 (j7.out (S:=S) LY.hs.1 s1) ?_
      rw [e1,e2]
      exact Led.perm fL (aN [(pm,HO.lst ((dH S).map V.bl))] [(sp,HO.lst (us.set i .aI)),(mk,HO.lst (cur.map V.bl)),(sf,HO.lst ps')] L)
     clear K1
     cases a with
     | own m =>
       obtain ⟨r,row,b,_,l5⟩:=LY
       have Jp:H' u=some (.tup [.str (Str.ofString "own"),.int m]):=Gi
       clear Gi
       have hnn:sC .aI S.ps=true:=by
        have hm:=mJ hi
        have h5:(dH S).getD i false=true:=hmf
        rw [List.getD_eq_getElem?_getD,hm] at h5
        exact h5
       have hne:Str.ofString "own" = Str.ofString "own" := rfl
       walk_at "ge"
       all_goals first | exact absurd hne (by assumption) | skip
       refine ⟨Dl kI,?_⟩
       walk_at "ge"
       refine N7 kI rfl g.flat hnn ?_
       have hlt:idx S.ps .aI < S.ps.length:=(List.getElem?_eq_some_iff.mp (g.LS hnn)).1
       walk_at "ge"
       refine cQ kI (bG (by omega) (by omega)) ?_
       rw [Int.toNat_natCast]
       have fL:=hl'.jG (o' := .lst (S.ps.set (idx S.ps .aI) (.int m))) 3 rfl rfl rfl
       walk_at "ge"
       exact rest (S.ps.set (idx S.ps .aI) (.int m)) _ (by rw [l5];rfl) (by rw [l5];exact fbs) (by rw [l5];rfl) fL
     | file z p =>
       have Jp:H' u=some (.tup [.str (Str.ofString "file"),.str z,.int p]):=Gi
       clear Gi
       have hne : ¬ Str.ofString "file" = Str.ofString "own" := by decide +kernel
       walk_at "ge"
       ·exact absurd (by assumption) hne
       obtain ⟨r,row,_,h6⟩:=LY
       rcases h6 with ⟨_,l5⟩ | ⟨_,as,bs,e,j,nr,_,_,_,_,_,l5⟩
       ·exact rest S.ps H' (by rw [l5];rfl) (by rw [l5];exact fbs) (by rw [l5];rfl) hl'
       ·exact rest S.ps H' (by rw [l5];rfl) (by rw [l5];exact fbs) (by rw [l5];rfl) hl'
end
section
variable {P:Program} {w:World} {K:PySem.W.Frag} {mg:Str->Option Value} {base:Heap} {cU cA cB cC cT cF cD cS cI:Addr}
theorem F4.dat {a:Th} (h:F4 a):PySem.W.kqdOk 8 (ek (some a))=true:=uQ (λ b hb=>by cases hb;exact h) 7
theorem uT.dat {S:SS} {a:Th} : uT S a↔ek (some a)∈S.F.hs.map λ x=>ek (kH x):=by
 constructor
 ·rintro ⟨i,t,hi⟩
  exact List.mem_map.mpr ⟨_,List.mem_of_getElem? hi,rfl⟩
 ·intro h
  obtain ⟨z,hz,w⟩:=List.mem_map.mp h
  obtain ⟨i,hi⟩:=List.getElem?_of_mem hz
  have w2:=fJ.mp w
  cases z with
  | none=>cases w2
  | some z =>
    have h3:z.2=a:=Option.some.inj w2
    exact ⟨i,z.1,by rw [hi,<-h3]⟩
theorem aR.first {S:SS} {n q i:Nat} {M:Cells} {t:Addr} {a:Th} (g:aR S n q M) (hi:S.F.hs[i]? = some (some (t,a))):(S.F.hs.map λ x=>ek (kH x))[i]? = some (ek (some a)) ∧ ∀ (j:Nat) e,j < i->(S.F.hs.map λ x=>ek (kH x))[j]? = some e->e≠ek (some a):=by
 refine ⟨by rw [List.getElem?_map,hi];rfl,λ j e hj he w => ?_⟩
 rw [List.getElem?_map] at he
 obtain ⟨z,hz,rfl⟩:=Option.map_eq_some_iff.mp he
 have w2:=fJ.mp w
 cases z with
 | none=>cases w2
 | some z =>
   have h3:z.2=a:=Option.some.inj w2
   have:=g.inj j i z.1 t a (by rw [hz,<-h3]) hi
   omega
def oN (cT cF cD cS cI:Addr):Sp:=λ vs H Q _ => ∃ (S:SS) (n q:Nat) (t sp sf:Addr) (a:Th) (row:List Int) (us:List V) (M:Cells),vs = [.ref S.b,.ref sp,.ref sf,.ref t]/\Led H (bw cT cF cD cS cI S M)/\aR S n q M/\j7 S us M/\(sp,HO.lst us)∈M/\(t,HO.tup (gv a))∈M/\F4 a/\eG S a row ∧ ∀ (r:Addr) (N:Cells) (H':Hp),(r,HO.lst (row.map V.int))∈N->Led H' (bw cT cF cD cS cI S (N++M))->Q (.ref r) H'
theorem CA (D:Def K mg "_law_row_there" dB) (B:jd mg) (T:Txt K mg cU cA cB cC cT cF cD cS cI) (gx:aM P w K mg base 1 cF "row_in" ["self","frame"] (Ck cF)) (l6:aM P w K mg base 1 cS "row_of_sheet" ["self","sheet"] (GU cS)) (iA:aM P w K mg base 4 cI "row_at" ["self","name","page"] (Cu cI cA cB)):dF P w K mg base 5 "_law_row_there" ["_law_store","_law_spots","_law_shelf","_law_thing"] (oN cT cF cD cS cI):=by
 have sc:=k9
 refine D.ok k9 (λ vs H Q E h => ?_) (λ _ _ _ _ _ _ us hl=>match us,hl with | [_,_,_,_],_=>rfl) (λ f cdv A outer s H vs Q E hr h => ?_)
 ·obtain ⟨_,_,_,_,_,_,_,_,_,_,rfl,_⟩:=h;rfl
 ·obtain ⟨S,n,q,t,sp,sf,a,row,us,M,rfl,hL,g,s1,Pw,CK,Pq,Ab,k⟩:=h
  have f1:=i7 S
  have f3:=rX S
  have f4:=Cp S
  have i9:=hL.get St.b
  have eS:=hL.get (St.up Pw)
  have AU:=hL.get (St.up CK)
  have d1:eB H (.ref t) (PySem.W.kqdP (ek (some a))):=xE AU
  have d2:=s1.dat hL (λ c hc=>St.up hc)
  have o1:=Pq.dat
  have o2:=g.RA
  refine ⟨_,(@af _ _ _ _ _ (@aS _ _ _ _ _ _ _ _ (@aL _ _ _ _ _ _ _ _ (Kq hr.units) (@aq _ 3 _ _ (by walk_at "v")) (@aq _ 1 _ _ (by walk_at "v")) (by with_unfolding_all rfl)) (@ao _ _ _ (@aE _ _ _ _ (@aU _ _ _ _ _ _ _ _ _ _ _ _ _ _ _ _ T.Frames gx (hr.mono (by omega)) aB (@az _ _ _ _ _ _ _ T.bz T.cg (@aq _ 0 _ _ (by walk_at "v")) (by rfl)) (@aa _ _ _ _ _ (@sD _ _ _ _ _ _ _ _ _ _ _ _ PySem.F.plainAttrs_list PySem.F.slot_list_index PySem.F.type_list_index (mq hr.units) (@aq _ 1 _ _ (by walk_at "v")) (@aa _ _ _ _ _ (@aq _ 3 _ _ (by walk_at "v")) (@aj _) (by rfl)) (by rfl) (by rfl) (by rfl) (by rfl) (by rfl)) (@aj _) (by rfl)) (by rfl) (by rfl) (by rfl)))) (@aF _)) (@af _ _ _ _ _ (@aS _ _ _ _ _ _ _ _ (@aL _ _ _ _ _ _ _ _ cY (@aY _ _ _ _ _ _ _ aQ (@aq _ 3 _ _ (by walk_at "v")) (@ak _ _ _ _) (λ _ _=>rfl)) (@dD _ _ _ _) (aP _)) (@ao _ _ _ (@aE _ _ _ _ (@aU _ _ _ _ _ _ _ _ _ _ _ _ _ _ _ _ T.fz l6 (hr.mono (by omega)) aB (@az _ _ _ _ _ _ _ T.bz T.jJ (@aq _ 0 _ _ (by walk_at "v")) (by rfl)) (@aa _ _ _ _ _ (@aY _ _ _ _ _ _ _ aQ (@aq _ 3 _ _ (by walk_at "v")) (@ak _ _ _ _) (λ _ _=>rfl)) (@aj _) (by rfl)) (by rfl) (by rfl) (by rfl)))) (@aF _)) (@ao _ _ _ (@aE _ _ _ _ (@aU _ _ _ _ _ _ _ _ _ _ _ _ _ _ _ _ T.gB iA (hr.mono (by omega)) aB (@az _ _ _ _ _ _ _ T.bz T.pG (@aq _ 0 _ _ (by walk_at "v")) (by rfl)) (@aa _ _ _ _ _ (@aY _ _ _ _ _ _ _ aQ (@aq _ 3 _ _ (by walk_at "v")) (@ak _ _ _ _) (λ _ _=>rfl)) (@aa _ _ _ _ _ (@aY _ _ _ _ _ _ _ aQ (@aq _ 3 _ _ (by walk_at "v")) (@ak _ _ _ _) (λ _ _=>rfl)) (@aj _) (by rfl)) (by rfl)) (by rfl) (by rfl) (by rfl)))))),?_⟩
  refine aG λ M1 K1 => ?_
  walk_at "ge"
  rcases Ab with ⟨i,t',r,h1,h2⟩ | ⟨hno,hb⟩
  ·refine Bw (neg:=false) (b:=true) eS d1 d2 o1 o2 (iff_of_true rfl (uT.dat.mp ⟨i,t',h1⟩)) ?_
   rw [if_neg Bool.false_ne_true]
   obtain ⟨j1,j2⟩:=g.first h1
   have hF:=St.toF hL
   have kI:=hF.get mS
   obtain ⟨r',fN,e1,e2⟩:=g.rr i t' a h1
   rw [h2] at e1
   cases e1
   walk_at "ge"
   refine ⟨Dl eS,?_⟩
   walk_at "ge"
   refine GK eS d1 d2 o1 o2 j1 j2 ?_
   walk_at "ge"
   refine ⟨S.F,i,r,row,_,rfl,hF,h2,j6 (g.f.rw r row (List.mem_of_getElem? h2)),by omega,λ qr H2 hl2 => ?_⟩
   have hl3:Led H2 ((qr,HO.lst (row.map V.int))::bw cT cF cD cS cI S M):=Led.perm hl2 (List.Perm.cons _ (aN (qu cF S.F) (AS cT S) (D0 cD S++(D3 cS S++(Co cI S++M)))))
   walk_at "ge"
   exact k qr [(qr,_)] H2 List.mem_cons_self (St.push hl3)
  ·refine Bw (neg:=false) (b:=false) eS d1 d2 o1 o2 (iff_of_false Bool.false_ne_true λ z=>hno (uT.dat.mpr z)) ?_
   rw [if_neg Bool.false_ne_true]
   walk_at "ge"
   refine K1.use ?_
   walk_at "cl"
   clear K1 d1 d2 o1 o2 eS
   refine aG λ M1 K1 => ?_
   cases a with
   | own m =>
     have LV:H t=some (.tup [.str (Str.ofString "own"),.int m]):=AU
     obtain ⟨b,hb⟩:=hb
     have hS:=St.toS hL
     have eS:=hS.get NZ
     have hne:Str.ofString "own" = Str.ofString "own" := rfl
     walk_at "ge"
     all_goals first | exact absurd hne (by assumption) | skip
     refine ⟨S.sb,S.LP,S.sl,S.sd,S.ps,S.es,(m,b,row),_,rfl,hS,g.nd,hb,λ qr H2 hl2 => ?_⟩
     have hl3:Led H2 (bw cT cF cD cS cI S ([(qr,HO.lst (row.map V.int))]++M)):=St.ofS (S:=S) (N:=[(qr,HO.lst (row.map V.int))]) (Led.perm hl2 List.perm_middle.symm)
     walk_at "ge"
     exact k qr _ H2 mS hl3
   | file z p =>
     have LV:H t=some (.tup [.str (Str.ofString "file"),.str z,.int p]):=AU
     have hne : ¬ Str.ofString "file" = Str.ofString "own" := by decide +kernel
     obtain ⟨e,he,e1,j,r,e2,e3⟩:=hb
     have hI:=St.UB hL
     have UE:=hI.get mS
     have hj:j < e.2.2.length:=(List.getElem?_eq_some_iff.mp e3).1
     have uniq : ∀ e'∈S.fs,e'.1=z->e' = e:=λ e' he' h=>by
      have h3:=findF g.fn he
      have h5:=findF g.fn he'
      rw [h,<-e1] at h5
      exact Option.some.inj (h5.symm.trans h3)
     walk_at "ge"
     ·exact absurd (by assumption) hne
     refine K1.use ?_
     walk_at "cl"
     clear K1
     walk_at "ge"
     refine ⟨S.ib,S.ix,S.im,S.fs,z,p,_,rfl,hL,FH.of hI g.fn,λ x hx y hy=>⟨hL.get (St.up (g.fr x hx y hy).1),by rw [(g.fr x hx y hy).2];decide⟩,λ e' he' Dc j' r' hp hr' qr H2 hl2 => ?_,λ e' he' Dc hn=>absurd ?_ hn,λ hz=>absurd (List.mem_map.mpr ⟨e,he,e1⟩) hz⟩
     ·have ee:=uniq e' he' Dc
      subst ee
      have hjj:j' = j:=by omega
      subst hjj
      rw [e3] at hr'
      cases hr'
      walk_at "ge"
      exact k qr [(qr,HO.lst (row.map V.int))] H2 List.mem_cons_self (St.push hl2)
     ·rw [uniq e' he' Dc,e2]
      exact ⟨by omega,by exact_mod_cast hj⟩
end
section
variable {P:Program} {w:World} {K:PySem.W.Frag} {mg:Str->Option Value} {base:Heap} {cU cA cB cC cT cF cD cS cI:Addr}
def dM (row:List Int) (c:Nat) (ms:List Int):List Int:=row.take c++ms++row.drop (c+ms.length)
theorem AY {row ms:List Int} {c:Nat} (h:c+ms.length<=row.length):(dM row c ms).length=row.length:=by
 unfold dM
 rw [List.length_append,List.length_append,List.length_take,List.length_drop]
 omega
theorem Jq {row ms:List Int} {c i:Nat} {n:Int} (h:c+ms.length<=row.length) (hn:ms[i]? = some n):(dM row c (ms.take i)).set (c+i) n=dM row c (ms.take (i+1)):=by
 have hi:i < ms.length:=(List.getElem?_eq_some_iff.mp hn).1
 have htl:(ms.take i).length=i:=by rw [List.length_take];omega
 have abd:(ms.take (i+1)).length=i+1:=by rw [List.length_take];omega
 have htc:(row.take c).length=c:=by rw [List.length_take];omega
 have e1:ms.take (i+1)=ms.take i++[n]:=by rw [List.take_succ,hn];rfl
 unfold dM
 rw [htl,abd]
 rw [List.set_append_right (c+i) n (by rw [List.length_append,htc,htl];exact Nat.le_refl _),List.length_append,htc,htl,Nat.sub_self]
 have hd:row.drop (c+i)=row[c+i]'(by omega)::row.drop (c+(i+1)):=by rw [List.drop_eq_getElem_cons (by omega)];rfl
 rw [hd,List.set_cons_zero,e1]
 simp
def Mh:Sp:=λ vs H Q _ => ∃ (r q:Addr) (c:Nat) (row ms:List Int) (L:Cells),vs = [.ref r,.int (c:Nat),.ref q]/\Led H L/\(r,HO.lst (row.map V.int))∈L/\(q,HO.lst (ms.map V.int))∈L/\c+ms.length<=row.length/\row.length<=600 ∧ ∀ p H',Led H' ((p,.lst ((dM row c ms).map V.int))::L)->Q (.ref p) H'
theorem Ov (D:Def K mg "_law_laid_in" fm) (B:jd mg) (T:Txt K mg cU cA cB cC cT cF cD cS cI):dF P w K mg base 1 "_law_laid_in" ["_law_row_here","_law_cell","_law_nums"] Mh:=by
 have sc:=pF
 refine D.ok pF (λ vs H Q E h => ?_) (λ _ _ _ _ _ _ us hl=>match us,hl with | [_,_,_],_=>rfl) (λ f cdv A outer s H vs Q E hr h => ?_)
 ·obtain ⟨_,_,_,_,_,_,rfl,_⟩:=h;rfl
 ·obtain ⟨r,q,c,row,ms,L,rfl,hL,sQ,VT,hc,h6,k⟩:=h
  have mr:(row.map V.int).length=row.length:=List.length_map _
  have mm:(ms.map V.int).length=ms.length:=List.length_map _
  have oS:=hL.get sQ
  refine ⟨_,(@af _ _ _ _ _ (@aK _ _ 3 _ _ _ _ sc.nd rfl (by walk_at "o2") (@bh _ _ _ _ _ _ _ _ _ (aT (K:=K) rfl) (by rfl) B.list bS (@aa _ _ _ _ _ (@aq _ 0 _ _ (by walk_at "v")) (@aj _) (by rfl)) (by decide) (by decide) (by rfl) (by rfl)) (by rfl) (by walk_at "o4")) (@af _ _ _ _ _ (@iW _ _ _ _ _ _ _ _ PassesOwn.never rfl (@cE _ _ _ _ _ _ (by rfl) B.range (@aa _ _ _ _ _ (@aJ _ _ _ _ _ _ _ _ _ aO (by rfl) B.len bK (@aa _ _ _ _ _ (@aq _ 2 _ _ (by walk_at "v")) (@aj _) (by rfl)) (by decide) (by decide) (by rfl) (by rfl)) (@aj _) (by rfl)) (by rfl)) (@eK _ _ 4 _ sc.nd rfl (by walk_at "o2") (by walk_at "o4")) (@ao _ _ _ (@bJ _ _ _ _ _ _ (@aY _ _ _ _ _ _ _ aQ (@aq _ 2 _ _ (by walk_at "v")) (@aq _ 4 _ _ (by walk_at "v")) (λ _ _=>rfl)) (@bN _ _ _ _ _ _ _ (@aq _ 3 _ _ (by walk_at "v")) (@av _ _ _ _ _ _ _ _ aV (@aq _ 1 _ _ (by walk_at "v")) (@aq _ 4 _ _ (by walk_at "v"))) set_list (by intro _;rfl)) (by rfl) (by rfl) (by rfl))) (by intro _;rfl)) (@ao _ _ _ (@aE _ _ _ _ (@aq _ 3 _ _ (by walk_at "v")))))),?_⟩
  refine aG λ M1 K1 => ?_
  walk_at "ge"
  rename_i p H1 _ hl1 _
  refine K1.use ?_
  walk_at "cl"
  clear K1 hL oS
  refine aG λ M1 K1 => ?_
  refine o5 λ Lr nE => ?_
  have Sm:=hl1.get (mC VT)
  walk_at "ge"
  refine ⟨_,rfl,by omega,by omega,nE.use ?_⟩
  clear nE Sm
  rw [mm,show ((ms.length:Nat):Int).toNat=ms.length by omega]
  have abe:dM row c (ms.take 0)=row:=by unfold dM;rw [List.take_zero,List.append_nil,List.length_nil,Nat.add_zero,List.take_append_drop]
  refine o6 (λ i σ H'=>i<=ms.length/\Led H' ((p,.lst ((dM row c (ms.take i)).map V.int))::L) ∧ ∃ v1,σ = [some (.ref r),some (.int c),some (.ref q),some (.ref p),v1]) ⟨Nat.zero_le _,by rw [abe];exact hl1,_,rfl⟩ ?_ ?_
  ·clear K1 k hl1
   rintro i σ H' hi ⟨_,hl',v1,rfl⟩
   have hat:iZ (ms.map V.int) (0+(i:Int))=some (.int ms[i]):=dN (by omega) (by rw [List.getElem?_map,show (0+(i:Int)).toNat=i by omega,List.getElem?_eq_getElem hi];rfl)
   have hst:=Jq (row:=row) (c:=c) hc (List.getElem?_eq_getElem hi)
   have hll:=AY (row:=row) (c:=c) (ms:=ms.take i) (by rw [List.length_take];omega)
   generalize ms[i]=n at hat hst
   have Sm:=hl'.get (mC VT)
   walk_at "ge"
   refine cQ (hl'.get mS) (bG (by omega) (by rw [List.length_map];omega)) ?_
   have c7:=hl'.put (o' := .lst (((dM row c (ms.take i)).map V.int).set ((c:Int)+(0+(i:Int))).toNat (.int n))) rfl rfl
   generalize upd H' p (.lst (((dM row c (ms.take i)).map V.int).set ((c:Int)+(0+(i:Int))).toNat (.int n)))=H5 at c7 ⊢
   rw [show ((c:Int)+(0+(i:Int))).toNat=c+i by omega,<-List.map_set,hst] at c7
   walk_at "ge"
   exact ⟨hi,c7,_,rfl⟩
  ·clear hl1
   rintro σ H' ⟨_,hl',v1,rfl⟩
   rw [List.take_length] at hl'
   walk_at "ge"
   refine K1.use ?_
   walk_at "ge"
   exact k p _ hl'
abbrev qp:Str:=Str.ofString "abcdefghijklmnopqrstuvwxyz"
theorem Gj : ∀ j:Nat,j < 26->iZ qp.cps.toList ((j:Nat):Int)=some (97+j):=by
 intro j h
 have e:qp.cps.toList = [97,98,99,100,101,102,103,104,105,106,107,108,109,110,111,112,113,114,115,116,117,118,119,120,121,122]:=by decide +kernel
 rw [e]
 refine gG (j:=j) ?_
 exact (by decide +kernel : ∀ j:Nat,j < 26->([97,98,99,100,101,102,103,104,105,106,107,108,109,110,111,112,113,114,115,116,117,118,119,120,121,122]:List Nat)[j]? = some (97+j)) j h
def Jr (c t k:Int):Int:=if k=c / 8 % (1+c % 8)/\c / 64 % 3≠1 then ((c / 512+3 * k * k+k) * 48271 % 7919 % 26+t) % 26 else (c / 512+3 * k * k+k) * 48271 % 7919 % 26
theorem Mi (c t k:Int):0<=Jr c t k:=by unfold Jr;split <;> exact Int.emod_nonneg _ (by decide)
theorem Mj (c t k:Int):Jr c t k < 26:=by unfold Jr;split <;> exact Int.emod_lt_of_pos _ (by decide)
def D8 (c t:Int) (i:Nat):List Nat:=(List.range i).map λ k:Nat=>97+(Jr c t (0+(k:Int))).toNat
def Ah (c t:Int):Int:=if c / 64 % 3=1 then 1+(c+t) % 8 else 1+c % 8
def AZ (c t:Int):Str:=⟨((D8 c t 8).take (Ah c t).toNat).toArray⟩
theorem xQ (c t:Int) (i:Nat):(D8 c t i).length=i:=by unfold D8;rw [List.length_map,List.length_range]
theorem RE (c t:Int):1<=Ah c t/\Ah c t<=8:=by unfold Ah;split <;> omega
theorem Ow {z:Str} : Ux z ↔ ∀ c∈z.cps.toList,c < 0x110000:=by
 unfold Ux PyData.strOk
 rw [<-Array.all_toList,List.all_eq_true]
 exact ⟨λ h c hc=>of_decide_eq_true (h c hc),λ h c hc=>decide_eq_true (h c hc)⟩
theorem Ml (c t:Int):Ux (AZ c t):=by
 rw [Ow]
 intro d hd
 have hd:d∈(D8 c t 8).take (Ah c t).toNat:=by simpa [AZ] using hd
 obtain ⟨k,_,rfl⟩:=List.mem_map.mp (List.mem_of_mem_take hd)
 have:=Mj c t (0+(k:Int))
 have:=Mi c t (0+(k:Int))
 omega
theorem RG (x y:Str):(x++y).cps.toList=x.cps.toList++y.cps.toList:=by show (x.cps++y.cps).toList=_;simp
theorem xR {z:Str} {c t:Int} (h:z.cps.toList=D8 c t 8) {j:Int} (h0:j=Ah c t):Txt.slice z none (some j)=AZ c t:=by
 have r:=RE c t
 have hl:z.cps.toList.length=8:=by rw [h,xQ]
 have e:=eq_of_beq (slice_closes_to (x:=z) (j:=j) ⟨by omega,by rw [hl];omega⟩)
 rw [e]
 unfold AZ
 rw [h,show (0:Int).toNat=0 from rfl,List.drop_zero,Int.sub_zero,h0]
def Mm:Sp:=λ vs H Q _ => ∃ (c t:Int),vs = [.int c,.int t]/\(0<=t/\t<=4)/\Q (.str (AZ c t)) H
theorem Ox (D:Def K mg "_law_name" jl) (B:jd mg) (T:Txt K mg cU cA cB cC cT cF cD cS cI):dF P w K mg base 1 "_law_name" ["_law_cell","_law_turn"] Mm:=by
 have sc:=AH
 refine D.ok AH (λ vs H Q E h => ?_) (λ _ _ _ _ _ _ us hl=>match us,hl with | [_,_],_=>rfl) (λ f cdv A outer s H vs Q E hr h => ?_)
 ·obtain ⟨_,_,rfl,_⟩:=h;rfl
 ·obtain ⟨c,t,rfl,ht,k⟩:=h
  have hlz:qp.length<=sizeLine:=by decide +kernel
  refine ⟨_,(@af _ _ _ _ _ (@aK _ _ 2 _ _ _ _ sc.nd rfl (by walk_at "o2") (@dD _ _ _ _) (by rfl) (by walk_at "o4")) (@af _ _ _ _ _ (@aK _ _ 3 _ _ _ _ sc.nd rfl (by walk_at "o2") (@av _ _ _ _ _ _ _ _ aV (@ak _ _ _ _) (@av _ _ _ _ _ _ _ _ aH (@aq _ 0 _ _ (by walk_at "v")) (@ak _ _ _ _))) (by rfl) (by walk_at "o4")) (@af _ _ _ _ _ (@aK _ _ 4 _ _ _ _ sc.nd rfl (by walk_at "o2") (@av _ _ _ _ _ _ _ _ aH (@av _ _ _ _ _ _ _ _ bI (@aq _ 0 _ _ (by walk_at "v")) (@ak _ _ _ _)) (@aq _ 3 _ _ (by walk_at "v"))) (by rfl) (by walk_at "o4")) (@af _ _ _ _ _ (@aK _ _ 5 _ _ _ _ sc.nd rfl (by walk_at "o2") (@dD _ _ _ _) (by rfl) (by walk_at "o4")) (@af _ _ _ _ _ (@iW _ _ _ _ _ _ _ _ PassesOwn.never rfl (@cE _ _ _ _ _ _ (by rfl) B.range (@aa _ _ _ _ _ (@ak _ _ _ _) (@aj _) (by rfl)) (by rfl)) (@eK _ _ 6 _ sc.nd rfl (by walk_at "o2") (by walk_at "o4")) (@af _ _ _ _ _ (@aK _ _ 7 _ _ _ _ sc.nd rfl (by walk_at "o2") (@av _ _ _ _ _ _ _ _ aH (@av _ _ _ _ _ _ _ _ aH (@av _ _ _ _ _ _ _ _ gp (@av _ _ _ _ _ _ _ _ aV (@av _ _ _ _ _ _ _ _ aV (@av _ _ _ _ _ _ _ _ bI (@aq _ 0 _ _ (by walk_at "v")) (@ak _ _ _ _)) (@av _ _ _ _ _ _ _ _ gp (@av _ _ _ _ _ _ _ _ gp (@ak _ _ _ _) (@aq _ 6 _ _ (by walk_at "v"))) (@aq _ 6 _ _ (by walk_at "v")))) (@aq _ 6 _ _ (by walk_at "v"))) (@ak _ _ _ _)) (@ak _ _ _ _)) (@ak _ _ _ _)) (by rfl) (by walk_at "o4")) (@af _ _ _ _ _ (@aS _ _ _ _ _ _ _ _ (@PW.pt _ _ _ (@pw_and _ _ _ _ _ _ _ (@aL _ _ _ _ _ _ _ _ cY (@aq _ 6 _ _ (by walk_at "v")) (@aq _ 4 _ _ (by walk_at "v")) (aP _)) (@pw_and1 _ _ _ _ (@aL _ _ _ _ _ _ _ _ OS (@av _ _ _ _ _ _ _ _ aH (@av _ _ _ _ _ _ _ _ bI (@aq _ 0 _ _ (by walk_at "v")) (@ak _ _ _ _)) (@ak _ _ _ _)) (@ak _ _ _ _) (aP _))))) (@ao _ _ _ (@aK _ _ 7 _ _ _ _ sc.nd rfl (by walk_at "o2") (@av _ _ _ _ _ _ _ _ aH (@av _ _ _ _ _ _ _ _ aV (@aq _ 7 _ _ (by walk_at "v")) (@aq _ 1 _ _ (by walk_at "v"))) (@ak _ _ _ _)) (by rfl) (by walk_at "o4"))) (@aF _)) (@ao _ _ _ (@aK _ _ 5 _ _ _ _ sc.nd rfl (by walk_at "o2") (@av _ _ _ _ _ _ _ _ Es (@aq _ 5 _ _ (by walk_at "v")) (@aY _ _ _ _ _ _ _ Qx (@aq _ 2 _ _ (by walk_at "v")) (@aq _ 7 _ _ (by walk_at "v")) (λ _ _=>rfl))) (by rfl) (by walk_at "o4"))))) (by intro _;rfl)) (@af _ _ _ _ _ (@aS _ _ _ _ _ _ _ _ (@aL _ _ _ _ _ _ _ _ cY (@av _ _ _ _ _ _ _ _ aH (@av _ _ _ _ _ _ _ _ bI (@aq _ 0 _ _ (by walk_at "v")) (@ak _ _ _ _)) (@ak _ _ _ _)) (@ak _ _ _ _) (aP _)) (@ao _ _ _ (@aE _ _ _ _ (@kO _ _ _ _ _ _ _ _ _ _ Kr (@aq _ 5 _ _ (by walk_at "v")) (@uN _) (@l9 _ _ _ (@av _ _ _ _ _ _ _ _ aV (@ak _ _ _ _) (@av _ _ _ _ _ _ _ _ aH (@av _ _ _ _ _ _ _ _ aV (@aq _ 0 _ _ (by walk_at "v")) (@aq _ 1 _ _ (by walk_at "v"))) (@ak _ _ _ _))))))) (@aF _)) (@ao _ _ _ (@aE _ _ _ _ (@kO _ _ _ _ _ _ _ _ _ _ Kr (@aq _ 5 _ _ (by walk_at "v")) (@uN _) (@l9 _ _ _ (@aq _ 3 _ _ (by walk_at "v")))))))))))),?_⟩
  refine aG λ M1 K1 => ?_
  walk_at "ge"
  refine K1.use ?_
  walk_at "cl"
  clear K1
  refine aG λ M1 K1 => ?_
  walk_at "ge"
  refine K1.use ?_
  walk_at "cl"
  clear K1
  refine aG λ M1 K1 => ?_
  walk_at "ge"
  refine K1.use ?_
  walk_at "cl"
  clear K1
  refine aG λ M1 K1 => ?_
  walk_at "ge"
  refine K1.use ?_
  walk_at "cl"
  clear K1
  refine aG λ M1 K1 => ?_
  refine o5 λ Lr nE => ?_
  walk_at "ge"
  refine ⟨_,rfl,by omega,by omega,nE.use ?_⟩
  clear nE
  refine o6 (λ i σ H'=>H' = H/\i<=8 ∧ ∃ (z:Str) (v1 v2:Option V),z.cps.toList=D8 c t i ∧ σ = [some (.int c),some (.int t),some (.str qp),some (.int (1+c % 8)),some (.int (c / 8 % (1+c % 8))),some (.str z),v1,v2]) ⟨rfl,by decide,Str.ofString "",_,_,(by show (Str.ofString "").cps.toList = [];decide +kernel),rfl⟩ ?_ ?_
  ·clear K1
   rintro i σ H' hi ⟨rfl,hi8,z,v1,v2,hz,rfl⟩
   have hi:i < 8:=hi
   have hzl:z.length=i:=by
    have hl:z.cps.toList.length=z.length:=Array.length_toList
    rw [hz,xQ] at hl
    exact hl.symm
   refine aG λ M2 K2 => ?_
   walk_at "ge"
   refine K2.use ?_
   walk_at "cl"
   clear K2
   refine aG λ M2 K2 => ?_
   have rest:M2 [some (.int c),some (.int t),some (.str qp),some (.int (1+c % 8)),some (.int (c / 8 % (1+c % 8))),some (.str z),some (.int (0+(i:Int))),some (.int (Jr c t (0+(i:Int))))] H':=by
    refine K2.use ?_
    clear K2
    have l0:=Mi c t (0+(i:Int))
    have l1:=Mj c t (0+(i:Int))
    have hla:=Gj (Jr c t (0+(i:Int))).toNat (by omega)
    rw [Int.toNat_of_nonneg l0] at hla
    walk_at "ge"
    refine W3 hlz hla ?_
    walk_at "ge"
    refine Ul (by show _+1<=_;have:=sizeLine_eq;omega) ?_
    walk_at "ge"
    refine ⟨rfl,hi,_,_,_,?_,rfl⟩
    rw [RG,hz]
    unfold D8
    rw [List.range_succ,List.map_append]
    rfl
   clear K2
   walk_at "ge"
   ·have hs:Jr c t (0+(i:Int))=((c / 512+3 * (0+(i:Int)) * (0+(i:Int))+(0+(i:Int))) * 48271 % 7919 % 26+t) % 26:=by
     unfold Jr
     rw [if_pos ⟨by assumption,by assumption⟩]
    rw [hs] at rest
    exact rest
   ·have hs:Jr c t (0+(i:Int))=(c / 512+3 * (0+(i:Int)) * (0+(i:Int))+(0+(i:Int))) * 48271 % 7919 % 26:=by
     unfold Jr
     rw [if_neg λ h=>by first | exact absurd h.2 (by assumption) | exact h.2 (by assumption) | exact absurd h.1 (by assumption)]
    rw [hs] at rest
    exact rest
   ·have hs:Jr c t (0+(i:Int))=(c / 512+3 * (0+(i:Int)) * (0+(i:Int))+(0+(i:Int))) * 48271 % 7919 % 26:=by
     unfold Jr
     rw [if_neg λ h=>by first | exact absurd h.2 (by assumption) | exact h.2 (by assumption) | exact absurd h.1 (by assumption)]
    rw [hs] at rest
    exact rest
  ·rintro σ H' ⟨rfl,_,z,v1,v2,hz,rfl⟩
   have hz:z.cps.toList=D8 c t 8:=hz
   have hzl:z.length=8:=by
    have hl:z.cps.toList.length=z.length:=Array.length_toList
    rw [hz,xQ] at hl
    exact hl.symm
   walk_at "ge"
   refine K1.use ?_
   walk_at "cl"
   clear K1
   refine aG λ M1 K1 => ?_
   walk_at "ge"
   ·have h1:c / 64 % 3=1:=by assumption
    refine Uk (by have:=sizeLine_eq;omega) ?_
    rw [xR hz (show 1+(c+t) % 8=Ah c t by unfold Ah;rw [if_pos h1])]
    walk_at "ge"
    exact k
   ·have h1 : ¬ c / 64 % 3=1:=by assumption
    refine K1.use ?_
    walk_at "ge"
    refine Uk (by have:=sizeLine_eq;omega) ?_
    rw [xR hz (show 1+c % 8=Ah c t by unfold Ah;rw [if_neg h1])]
    walk_at "ge"
    exact k
end
section
variable {P:Program} {w:World} {K:PySem.W.Frag} {mg:Str->Option Value} {base:Heap} {cU cA cB cC cT cF cD cS cI:Addr}
def jR (S:SS) (i:Nat) (p:Addr) (row:List Int):SS := { S with F := { S.F with rs:=S.F.rs.set i (some (p,row)),bs:=S.F.bs.set i true } }
section
variable {S:SS} {n q i:Nat} {M:Cells} {t p:Addr} {a:Th} {row:List Int}
theorem aR.oO (g:aR S n q M) (hi:S.F.hs[i]? = some (some (t,a))) (hp:(p,HO.lst (row.map V.int))∈M) (h4:row.length=4):aR (jR S i p row) n q M:=by
 have hlr:i < S.F.rs.length:=by rw [g.f.r,<-g.f.h];exact (List.getElem?_eq_some_iff.mp hi).1
 refine { g with f:=⟨g.f.h,(List.length_set ..).trans g.f.r,(List.length_set ..).trans g.f.s,g.f.th,λ u w h => ?_⟩,rr:=λ j u b h => ?_ }
 ·rcases List.mem_or_eq_of_mem_set h with h | h
  ·exact g.f.rw u w h
  ·cases h;exact hp
 ·by_cases e:i=j
  ·exact ⟨p,row,by show (S.F.rs.set i _)[j]? = _;rw [<-e,List.getElem?_set,if_pos rfl,if_pos hlr],h4⟩
  ·obtain ⟨r',fN,e1,e2⟩:=g.rr j u b h
   exact ⟨r',fN,(dP e).mpr e1,e2⟩
theorem eG.oO (g:aR S n q M) (hi:S.F.hs[i]? = some (some (t,a))):(∀ b fN,b≠a->eG S b fN->eG (jR S i p row) b fN)/\eG (jR S i p row) a row:=by
 have hlr:i < S.F.rs.length:=by rw [g.f.r,<-g.f.h];exact (List.getElem?_eq_some_iff.mp hi).1
 refine ⟨λ b fN hne hb => ?_,.inl ⟨i,t,p,hi,?_⟩⟩
 ·rcases hb with ⟨j,u,r',h1,h2⟩ | ⟨h1,h2⟩
  ·have hij:i≠j:=λ z=>by rw [<-z,hi] at h1;cases h1;exact hne rfl
   exact .inl ⟨j,u,r',h1,(dP hij).mpr h2⟩
  ·refine .inr ⟨h1,?_⟩
   cases b with
   | own m=>exact h2
   | file z p=>exact h2
 ·show (S.F.rs.set i _)[i]? = _
  rw [List.getElem?_set,if_pos rfl,if_pos hlr]
theorem Clean.oO (cl:Clean S):Clean (jR S i p row):=by
 intro j u r' z p' fN h1 h2 h3
 have h3':(S.F.bs.set i true)[j]? = some false:=h3
 have h2':(S.F.rs.set i (some (p,row)))[j]? = some (some (r',fN)):=h2
 by_cases e:i=j
 ·rw [List.getElem?_set,if_pos e] at h3'
  split at h3' <;> cases h3'
 ·exact cl j u r' z p' fN h1 ((dP e).mp h2') ((dP e).mp h3')
end
def eT (sp mk sf rd:Addr) (us:List V) (S:SS) (ts:Ts):Cells:=[(sp,.lst us),(mk,.lst (S.bs.map V.bl)),(sf,.lst S.ps),(rd,.dT (uI ts))]
structure Lr (n q:Nat) (S:SS) (us:List V) (ts:Ts) (M:Cells):Prop where
 g:aR S n q M
 gh:El S n q
 s:j7 S us M
 cl:Clean S
 nd:(ts.map (·.1)).Nodup
 rw : ∀ e∈ts,(e.2.1,HO.lst (e.2.2.map V.int))∈M/\eG S e.1 e.2.2/\F4 e.1
 x8 : ∀ a,(uT S a ∨ ∃ row,Back S row a)->a∈ts.map (·.1)
 hm:(S.hs.length:Int)=S.made
 cnt:((ts.filter λ e => !bg e.1).length:Int)=S.made
theorem Lr.mono {n q:Nat} {S:SS} {us:List V} {ts:Ts} {M M':Cells} (h:Lr n q S us ts M) (up : ∀ c∈M,c∈M'):Lr n q S us ts M' := { h with g:=h.g.mono up,s:=h.s.mono up,rw:=λ e he=>⟨up _ (h.rw e he).1,(h.rw e he).2⟩ }
theorem Lr.bs {n q:Nat} {S:SS} {us:List V} {ts:Ts} {M:Cells} (h:Lr n q S us ts M) {bs:List Bool} (hb:bs.length=n):Lr n q { S with bs:=bs } us ts M := { g:=h.g.turned h.g.pn hb,gh := { h.gh with },s:=j7.same (S:=S) rfl h.s,cl:=h.cl,nd:=h.nd,rw:=h.rw,x8:=h.x8,hm:=h.hm,cnt:=h.cnt }
theorem Mn (ts:Ts) (a:Th) (r:Addr) (row:List Int):((Ag ts a r row).filter λ e => !bg e.1).length=(ts.filter λ e => !bg e.1).length:=by
 have h : ∀ l:Ts,(l.filter λ e => !bg e.1).length=((l.map (·.1)).filter λ b => !bg b).length:=λ l=>by
  rw [List.filter_map,List.length_map]
  rfl
 rw [h,h,mK]
theorem Lr.oO {n q i:Nat} {S:SS} {us:List V} {ts:Ts} {M:Cells} {t p r:Addr} {a:Th} {row:List Int} (h:Lr n q S us ts M) (hi:S.F.hs[i]? = some (some (t,a))) (hp:(p,HO.lst (row.map V.int))∈M) (hr:(r,HO.lst (row.map V.int))∈M) (h4:row.length=4):Lr n q (jR S i p row) us (Ag ts a r row) M:=by
 obtain ⟨r1,r2⟩:=eG.oO (p:=p) (row:=row) h.g hi
 refine { g:=h.g.oO hi hp h4,gh := { h.gh with },s:=j7.same (S:=S) rfl h.s,cl:=h.cl.oO,nd:=by rw [mK];exact h.nd,rw:=λ e he => ?_,x8:=λ b hb => ?_,hm:=h.hm,cnt:=by rw [Mn];exact h.cnt }
 ·rcases Ol he with rfl | ⟨hne,he⟩
  ·obtain ⟨e2,yl,e3⟩:=List.mem_map.mp (h.x8 a (.inl ⟨i,t,hi⟩))
   have e3':e2.1=a:=e3
   exact ⟨hr,r2,by rw [<-e3'];exact (h.rw e2 yl).2.2⟩
  ·exact ⟨(h.rw e he).1,r1 _ _ hne (h.rw e he).2.1,(h.rw e he).2.2⟩
 ·rw [mK]
  refine h.x8 b ?_
  rcases hb with hb | ⟨fN,hb⟩
  ·exact .inl hb
  ·refine .inr ⟨fN,?_⟩
   cases b with
   | own m=>exact hb
   | file z p=>exact hb
end
section
variable {P:Program} {w:World} {K:PySem.W.Frag} {mg:Str->Option Value} {base:Heap} {cU cA cB cC cT cF cD cS cI:Addr}
theorem G5 {H:Hp} {a b:Addr} {kvs:List (List Key×V)} {k:List Key} {v:V} {S:V->Prop} (h1:H a=some (.dT kvs)) (hb:H b=some (.tup (k.map kV))) (h2:bB kvs k=some v) (h:S v) : ∃ c v,V.ref a = .ref c/\gu H c (.ref b) (some v)/\S v:=⟨a,v,rfl,h2 ▸ gu.t h1 hb,h⟩
theorem Mp {H:Hp} {a b:Addr} {kvs:List (List Key×V)} {k:List Key} {v:V} {D:Ends} {σ : L2.St} (h1:H a=some (.dT kvs)) (hb:H b=some (.tup (k.map kV))) (hl:kvs.length < sizeLine) (h:D.nx σ (upd H a (.dT (putK kvs k v)))) : ∃ c H4,V.ref a = .ref c/\nM H c (.ref b) v H4/\D.nx σ H4:=⟨a,_,rfl,nM.t h1 hb hl,h⟩
theorem St.mark {H:Hp} {S:SS} {bs:List Bool} {sp mk sf rd:Addr} {us:List V} {ts:Ts} {M:Cells} (h:Led H (bw cT cF cD cS cI { S with bs:=bs } (eT sp mk sf rd us S ts++M))):Led (upd H mk (.lst (bs.map V.bl))) (bw cT cF cD cS cI { S with bs:=bs } (eT sp mk sf rd us { S with bs:=bs } ts++M)):=by
 have h1:Led H (eT sp mk sf rd us S ts++bw cT cF cD cS cI { S with bs:=bs } M):=St.AX [] _ h
 have h2:=h1.jG (o' := .lst (bs.map V.bl)) 1 rfl rfl rfl
 exact St.j8 _ h2
def Mq (cT cF cD cS cI:Addr):Sp:=λ vs H Q _ => ∃ (S:SS) (n q:Nat) (c:Int) (sp mk sf rd:Addr) (us:List V) (ts:Ts) (M:Cells),vs = [.ref S.b,.ref sp,.ref mk,.ref rd,.int c]/\Led H (bw cT cF cD cS cI S (eT sp mk sf rd us S ts++M))/\Lr n q S us ts M/\ts.length<=1000/\Builtin.Int.intBits c<=1048576 ∧
 ∀ (S':SS) (ts':Ts) (N:Cells) (H':Hp),S'.b=S.b->S'.p=S.p->ts'.map (·.1)=ts.map (·.1)->Lr n q S' us ts' (N++M)->Led H' (bw cT cF cD cS cI S' (eT sp mk sf rd us S' ts'++(N++M)))->Q .aI H'
theorem Oz (D:Def K mg "_law_stir" jn) (B:jd mg) (T:Txt K mg cU cA cB cC cT cF cD cS cI) (qq:aM P w K mg base 1 cD "touch" ["self","frame"] (xF cD true)) (jQ:aM P w K mg base 1 cD "clear" ["self","frame"] (xF cD false)) (uJ:aM P w K mg base 2 cF "put_in" ["self","frame","cell","numbers"] (GR cF)) (oJ:dF P w K mg base 1 "_law_num" ["_law_cell","_law_k"] LN) (xS:dF P w K mg base 1 "_law_laid_in" ["_law_row_here","_law_cell","_law_nums"] Mh):dF P w K mg base 3 "_law_stir" ["_law_store","_law_spots","_law_marks","_law_rows","_law_cell"] (Mq cT cF cD cS cI):=by
 have sc:=AJ
 refine D.ok AJ (λ vs H Q E h => ?_) (λ _ _ _ _ _ _ us hl=>match us,hl with | [_,_,_,_,_],_=>rfl) (λ f cdv A outer s H vs Q E hr h => ?_)
 ·obtain ⟨_,_,_,_,_,_,_,_,_,_,_,rfl,_⟩:=h;rfl
 ·obtain ⟨S,n,q,c,sp,mk,sf,rd,us,ts,M,rfl,hL,lr,hts,Dh,k⟩:=h
  have hu:=iU hr
  have hsz:=sizeLine_eq
  have n1:=lr.g.n1
  have n64:=lr.g.n64
  have ul:us.length=n:=lr.s.l.trans lr.g.f.h
  have eS:=hL.get (St.up mS)
  refine ⟨_,(@af _ _ _ _ _ (@aK _ _ 5 _ _ _ _ sc.nd rfl (by walk_at "o2") (@av _ _ _ _ _ _ _ _ aH (@av _ _ _ _ _ _ _ _ aH (@av _ _ _ _ _ _ _ _ o8 (@aq _ 4 _ _ (by walk_at "v")) (@ak _ _ _ _)) (@ak _ _ _ _)) (@aJ _ _ _ _ _ _ _ _ _ aO (by rfl) B.len bK (@aa _ _ _ _ _ (@aq _ 1 _ _ (by walk_at "v")) (@aj _) (by rfl)) (by decide) (by decide) (by rfl) (by rfl))) (by rfl) (by walk_at "o4")) (@af _ _ _ _ _ (@aS _ _ _ _ _ _ _ _ (@aL _ _ _ _ _ _ _ _ cY (@av _ _ _ _ _ _ _ _ aH (@aq _ 4 _ _ (by walk_at "v")) (@ak _ _ _ _)) (@ak _ _ _ _) (aP _)) (@af _ _ _ _ _ (@b9 _ _ _ _ (@aU _ _ _ _ _ _ _ _ _ _ _ _ _ _ _ _ T.jK qq (hr.mono (by omega)) aB (@az _ _ _ _ _ _ _ T.bz T.lq (@aq _ 0 _ _ (by walk_at "v")) (by rfl)) (@aa _ _ _ _ _ (@aq _ 5 _ _ (by walk_at "v")) (@aj _) (by rfl)) (by rfl) (by rfl) (by rfl)) (by rfl)) (@ao _ _ _ (@bJ _ _ _ _ _ _ (@bP _ _ _ _) (@bN _ _ _ _ _ _ _ (@aq _ 2 _ _ (by walk_at "v")) (@aq _ 5 _ _ (by walk_at "v")) set_list (by intro _;rfl)) (by rfl) (by rfl) (by rfl)))) (@aF _)) (@af _ _ _ _ _ (@aS _ _ _ _ _ _ _ _ (@aL _ _ _ _ _ _ _ _ cY (@av _ _ _ _ _ _ _ _ aH (@aq _ 4 _ _ (by walk_at "v")) (@ak _ _ _ _)) (@ak _ _ _ _) (aP _)) (@af _ _ _ _ _ (@b9 _ _ _ _ (@aU _ _ _ _ _ _ _ _ _ _ _ _ _ _ _ _ T.jK jQ (hr.mono (by omega)) aB (@az _ _ _ _ _ _ _ T.bz T.lq (@aq _ 0 _ _ (by walk_at "v")) (by rfl)) (@aa _ _ _ _ _ (@aq _ 5 _ _ (by walk_at "v")) (@aj _) (by rfl)) (by rfl) (by rfl) (by rfl)) (by rfl)) (@ao _ _ _ (@bJ _ _ _ _ _ _ (@bP _ _ _ _) (@bN _ _ _ _ _ _ _ (@aq _ 2 _ _ (by walk_at "v")) (@aq _ 5 _ _ (by walk_at "v")) set_list (by intro _;rfl)) (by rfl) (by rfl) (by rfl)))) (@aF _)) (@af _ _ _ _ _ (@aS _ _ _ _ _ _ _ _ (@PW.pt _ _ _ (@pw_and _ _ _ _ _ _ _ (@aL _ _ _ _ _ _ _ _ cY (@av _ _ _ _ _ _ _ _ aH (@aq _ 4 _ _ (by walk_at "v")) (@ak _ _ _ _)) (@ak _ _ _ _) (aP _)) (@pw_and1 _ _ _ _ (@aL _ _ _ _ _ _ _ _ cY (@av _ _ _ _ _ _ _ _ aH (@av _ _ _ _ _ _ _ _ bI (@aq _ 4 _ _ (by walk_at "v")) (@ak _ _ _ _)) (@ak _ _ _ _)) (@ak _ _ _ _) (aP _))))) (@ao _ _ _ (@iW _ _ _ _ _ _ _ _ PassesOwn.never rfl (@cE _ _ _ _ _ _ (by rfl) B.range (@aa _ _ _ _ _ (@aJ _ _ _ _ _ _ _ _ _ aO (by rfl) B.len bK (@aa _ _ _ _ _ (@aq _ 1 _ _ (by walk_at "v")) (@aj _) (by rfl)) (by decide) (by decide) (by rfl) (by rfl)) (@aj _) (by rfl)) (by rfl)) (@eK _ _ 6 _ sc.nd rfl (by walk_at "o2") (by walk_at "o4")) (@af _ _ _ _ _ (@b9 _ _ _ _ (@aU _ _ _ _ _ _ _ _ _ _ _ _ _ _ _ _ T.jK qq (hr.mono (by omega)) aB (@az _ _ _ _ _ _ _ T.bz T.lq (@aq _ 0 _ _ (by walk_at "v")) (by rfl)) (@aa _ _ _ _ _ (@aq _ 6 _ _ (by walk_at "v")) (@aj _) (by rfl)) (by rfl) (by rfl) (by rfl)) (by rfl)) (@ao _ _ _ (@bJ _ _ _ _ _ _ (@bP _ _ _ _) (@bN _ _ _ _ _ _ _ (@aq _ 2 _ _ (by walk_at "v")) (@aq _ 6 _ _ (by walk_at "v")) set_list (by intro _;rfl)) (by rfl) (by rfl) (by rfl)))) (by intro _;rfl))) (@aF _)) (@ao _ _ _ (@aS _ _ _ _ _ _ _ _ (@PW.pt _ _ _ (@pw_and _ _ _ _ _ _ _ (@aL _ _ _ _ _ _ _ _ oY (@aY _ _ _ _ _ _ _ aQ (@aq _ 1 _ _ (by walk_at "v")) (@aq _ 5 _ _ (by walk_at "v")) (λ _ _=>rfl)) (@bE _ _ _) (aP _)) (@pw_and1 _ _ _ _ (@aL _ _ _ _ _ _ _ _ cY (@av _ _ _ _ _ _ _ _ aH (@av _ _ _ _ _ _ _ _ bI (@aq _ 4 _ _ (by walk_at "v")) (@ak _ _ _ _)) (@ak _ _ _ _)) (@ak _ _ _ _) (aP _))))) (@af _ _ _ _ _ (@aK _ _ 7 _ _ _ _ sc.nd rfl (by walk_at "o2") (@av _ _ _ _ _ _ _ _ aH (@av _ _ _ _ _ _ _ _ bI (@aq _ 4 _ _ (by walk_at "v")) (@ak _ _ _ _)) (@ak _ _ _ _)) (by rfl) (by walk_at "o4")) (@af _ _ _ _ _ (@gZ _ _ "_law_k" _ _ _ _ _ _ _ _ _ _ 8 _ _ rfl rfl rfl rfl O8 (dg (by kernel_rfl)) (@cE _ _ _ _ _ _ (by rfl) B.range (@aa _ _ _ _ _ (@av _ _ _ _ _ _ _ _ aV (@ak _ _ _ _) (@av _ _ _ _ _ _ _ _ aH (@av _ _ _ _ _ _ _ _ bI (@aq _ 4 _ _ (by walk_at "v")) (@ak _ _ _ _)) (@av _ _ _ _ _ _ _ _ gY (@ak _ _ _ _) (@aq _ 7 _ _ (by walk_at "v"))))) (@aj _) (by rfl)) (by rfl)) (λ _ _ _ _=>(@jF _)) (λ _ _ _ _=>(@aC _ _ _ _ _ _ _ _ _ _ _ oJ (hr.mono (by omega)) (by rfl) aB (@aa _ _ _ _ _ (@av _ _ _ _ _ _ _ _ aV (@pk _ 5 _ _ (by kernel_rfl) (by kernel_rfl) (by decide) (by decide)) (@av _ _ _ _ _ _ _ _ gp (@ak _ _ _ _) (@pk _ 0 _ _ (by kernel_rfl) (by kernel_rfl) (by decide) (by decide)))) (@aa _ _ _ _ _ (@av _ _ _ _ _ _ _ _ aV (@pk _ 0 _ _ (by kernel_rfl) (by kernel_rfl) (by decide) (by decide)) (@ak _ _ _ _)) (@aj _) (by rfl)) (by rfl)) (by decide) (by rfl) (by rfl))) sc.nd rfl (by walk_at "o2") (by intro _;rfl) (by rfl) (by walk_at "o4")) (@af _ _ _ _ _ (@b9 _ _ _ _ (@aU _ _ _ _ _ _ _ _ _ _ _ _ _ _ _ _ T.Frames uJ (hr.mono (by omega)) aB (@az _ _ _ _ _ _ _ T.bz T.cg (@aq _ 0 _ _ (by walk_at "v")) (by rfl)) (@aa _ _ _ _ _ (@aq _ 5 _ _ (by walk_at "v")) (@aa _ _ _ _ _ (@aq _ 7 _ _ (by walk_at "v")) (@aa _ _ _ _ _ (@bh _ _ _ _ _ _ _ _ _ (aT (K:=K) rfl) (by rfl) B.list bS (@aa _ _ _ _ _ (@aq _ 8 _ _ (by walk_at "v")) (@aj _) (by rfl)) (by decide) (by decide) (by rfl) (by rfl)) (@aj _) (by rfl)) (by rfl)) (by rfl)) (by rfl) (by rfl) (by rfl)) (by rfl)) (@ao _ _ _ (@l8 _ _ _ _ _ _ _ _ _ hu (@aq _ 3 _ _ (by walk_at "v")) (@aY _ _ _ _ _ _ _ aQ (@aq _ 1 _ _ (by walk_at "v")) (@aq _ 5 _ _ (by walk_at "v")) (λ _ _=>rfl)) (@aC _ _ _ _ _ _ _ _ _ _ _ xS (hr.mono (by omega)) (by rfl) aB (@aa _ _ _ _ _ (@iB _ _ _ _ _ _ hu (@aq _ 3 _ _ (by walk_at "v")) (@aY _ _ _ _ _ _ _ aQ (@aq _ 1 _ _ (by walk_at "v")) (@aq _ 5 _ _ (by walk_at "v")) (λ _ _=>rfl)) (λ _ _=>rfl)) (@aa _ _ _ _ _ (@aq _ 7 _ _ (by walk_at "v")) (@aa _ _ _ _ _ (@aq _ 8 _ _ (by walk_at "v")) (@aj _) (by rfl)) (by rfl)) (by rfl)) (by decide) (by rfl) (by rfl)) rfl))))) (@aF _))))))),?_⟩
  refine aG λ M1 K1 => ?_
  walk_at "ge"
  rw [ul]
  have e0:=Int.emod_nonneg (c * 48271 % 10007) (show (n:Int)≠0 by omega)
  have e1:=Int.emod_lt_of_pos (c * 48271 % 10007) (show (0:Int) < n by omega)
  obtain ⟨i,hi⟩ : ∃ i:Nat,c * 48271 % 10007 % (n:Int)=(i:Int):=⟨_,(Int.toNat_of_nonneg e0).symm⟩
  rw [hi] at e0 e1 ⊢
  have hin:i < n:=by omega
  clear e0 eS hi
  refine K1.use ?_
  walk_at "cl"
  clear K1
  refine aG λ M1 K1 => ?_
  have xT : ∀ (bs:List Bool) (H1:Hp),bs.length=n->Led H1 (bw cT cF cD cS cI { S with bs:=bs } (eT sp mk sf rd us { S with bs:=bs } ts++M))->M1 [some (.ref S.b),some (.ref sp),some (.ref mk),some (.ref rd),some (.int c),some (.int (i:Nat)),none,none,none] H1:=by
   intro bs H1 uU hl
   refine K1.use ?_
   clear K1 hL
   refine aG λ M1 K1 => ?_
   have nF : ∀ (bs:List Bool) (H1:Hp),bs.length=n->Led H1 (bw cT cF cD cS cI { S with bs:=bs } (eT sp mk sf rd us { S with bs:=bs } ts++M))->M1 [some (.ref S.b),some (.ref sp),some (.ref mk),some (.ref rd),some (.int c),some (.int (i:Nat)),none,none,none] H1:=by
    clear hl uU bs
    intro bs H1 uU hl
    refine K1.use ?_
    clear K1
    refine aG λ M1 K1 => ?_
    have A0 : ∀ (v6:Option V) (bs:List Bool) (H1:Hp),bs.length=n->Led H1 (bw cT cF cD cS cI { S with bs:=bs } (eT sp mk sf rd us { S with bs:=bs } ts++M))->M1 [some (.ref S.b),some (.ref sp),some (.ref mk),some (.ref rd),some (.int c),some (.int (i:Nat)),v6,none,none] H1:=by
     clear hl uU bs
     intro v6 bs H1 uU hl
     refine K1.use ?_
     clear K1
     have Gk:=lr.bs uU
     obtain ⟨S1,l5⟩ : ∃ S1:SS,S1 = { S with bs:=bs } := ⟨_,rfl⟩
     have Em:S1.b=S.b:=by rw [l5]
     have OA:S1.p=S.p:=by rw [l5]
     rw [<-l5] at hl Gk
     rw [<-Em]
     clear l5
     have eS:=hl.get (St.up mS)
     obtain ⟨x,hx⟩ : ∃ x,S1.F.hs[i]? = some x:=⟨_,List.getElem?_eq_getElem (by rw [Gk.g.f.h];exact hin)⟩
     cases x with
     | none =>
       have au:iZ us ((i:Nat):Int)=some .aI:=dN (by omega) (by rw [Int.toNat_natCast];exact Gk.s.no i hx)
       walk_at "ge"
       all_goals first | exact absurd (rfl:V.aI=V.aI) (by assumption) | skip
       exact k S1 ts [] H1 Em OA rfl Gk hl
     | some x =>
       obtain ⟨u,hu,cu⟩:=Gk.s.th i x.1 x.2 hx
       have au:iZ us ((i:Nat):Int)=some (.ref u):=dN (by omega) (by rw [Int.toNat_natCast];exact hu)
       walk_at "ge"
       all_goals first | exact nomatch (show V.ref u=V.aI by assumption) | skip
       ·obtain ⟨t',a⟩:=x
        have lrg:=Gk.g
        obtain ⟨r,row,Ab,h4⟩:=lrg.rr i t' a hx
        obtain ⟨e,he,ea⟩:=List.mem_map.mp (Gk.x8 a (.inl ⟨i,t',hx⟩))
        have ea':e.1=a:=ea
        obtain ⟨ie,rowAt,VZ⟩:=Gk.rw e he
        have abf:e.2.2=row:=by
         rw [ea'] at rowAt
         rcases rowAt with ⟨j,u2,r2,h1,h2⟩ | ⟨h1,_⟩
         ·have:=lrg.inj i j t' u2 a hx h1
          subst this
          rw [Ab] at h2
          cases h2
          rfl
         ·exact absurd ⟨i,t',hx⟩ h1
        obtain ⟨Ai,RH⟩ : ∃ z:Nat,c / 24 % 4=(z:Int):=⟨_,(Int.toNat_of_nonneg (Int.emod_nonneg _ (by decide))).symm⟩
        have at3:Ai < 4:=by omega
        rw [RH]
        refine EN λ Lc mZ => ?_
        have p4:(0:Int) < 4 - (Ai:Int):=by omega
        have m0:=Int.emod_nonneg (c / 96) (show (4 - (Ai:Int))≠0 by omega)
        have m1:=Int.emod_lt_of_pos (c / 96) p4
        walk_at "ge"
        refine ⟨_,rfl,by omega,by omega,mZ.use ?_⟩
        clear mZ eS
        refine vz (λ _ v => ∃ z:Int,v=V.int z) hl (by omega) (λ k2 H2 R q2 hk2 hl2 hR => ?_) (λ pm acc H2 hlen hacc hl2 => ?_)
        ·walk_at "ge"
         refine ⟨_,_,_,rfl,Nat.le_trans (bits_add Dh (by omega) (by omega) (by decide)) (by decide),by omega,by omega,hl2,λ H3 hl3 => ?_⟩
         walk_at "ge"
         exact hR _ _ ⟨_,rfl⟩ hl3
        ·obtain ⟨ms,rfl⟩:=intsOf hacc
         rw [List.length_map] at hlen
         have hms:ms.length<=4 - Ai:=by omega
         clear hl
         have hl3:=St.push hl2
         clear hl2
         have f1:=i7 S1
         have i9:=hl3.get St.b
         have abg:=hl3.get (St.up mS)
         have hF:=St.toF hl3
         have kI:=hF.get mS
         walk_at "ge"
         rename_i q2 H3 _ bT _
         rw [RH]
         have c7:Led H3 (sP cF S1.F ([(q2,HO.lst (ms.map V.int))]++rF cT cD cS cI S1 ((pm,HO.lst (ms.map V.int))::(eT sp mk sf rd us S1 ts++M)))):=Led.perm bT (aN [(q2,HO.lst (ms.map V.int))] (qu cF S1.F) _)
         clear bT hF kI abg i9 hl3
         refine ⟨S1.F,n,i,(Ai:Int),q2,r,row,ms,_,rfl,c7,lrg.f.mono (λ x hx=>mA (j6 (mC (mA hx)))),hin,Ab,mS,by omega,by omega,by omega,λ p H4 fL => ?_⟩
         rw [Int.toNat_natCast] at fL
         have afx:row.take Ai++ms++row.drop (Ai+ms.length)=dM row Ai ms:=rfl
         have jx:Led H4 (bw cT cF cD cS cI (jR S1 i p (dM row Ai ms)) ([(p,HO.lst ((dM row Ai ms).map V.int)),(q2,HO.lst (ms.map V.int))]++((pm,HO.lst (ms.map V.int))::(eT sp mk sf rd us S1 ts++M)))):=St.Ru (S:=S1) (F' := { S1.F with rs:=S1.F.rs.set i (some (p,dM row Ai ms)),bs:=S1.F.bs.set i true }) rfl fL
         clear c7 fL
         obtain ⟨S2,UN⟩ : ∃ S2:SS,S2=jR S1 i p (dM row Ai ms):=⟨_,rfl⟩
         rw [<-UN] at jx
         have UO : ∀ {x:Addr×HO},x∈eT sp mk sf rd us S1 ts++M->x∈bw cT cF cD cS cI S2 ([(p,HO.lst ((dM row Ai ms).map V.int)),(q2,HO.lst (ms.map V.int))]++((pm,HO.lst (ms.map V.int))::(eT sp mk sf rd us S1 ts++M))):=λ hx=>St.up (mA (mC hx))
         have eS:=jx.get (UO mS)
         have oS:=jx.get (UO (mC (mC (mC mS))))
         have Gi:=jx.get (UO (mA cu))
         have Jp:H4 u=some (.tup ((lZ a).map kV)):=by rw [sS];exact Gi
         clear Gi
         have hv:=Cw Gk.nd he
         rw [ea'] at hv
         walk_at "ge"
         refine G5 oS Jp hv ?_
         walk_at "ge"
         rw [RH]
         refine ⟨e.2.1,pm,Ai,row,ms,_,rfl,jx,UO (mA (by rw [<-abf];exact ie)),St.up (mA mS),by omega,by omega,λ p2 H5 nD => ?_⟩
         have jP:=St.push nD
         obtain ⟨N4,eN4⟩ : ∃ N4,[(p2,HO.lst ((dM row Ai ms).map V.int)),(p,HO.lst ((dM row Ai ms).map V.int)),(q2,HO.lst (ms.map V.int)),(pm,HO.lst (ms.map V.int))]=N4:=⟨_,rfl⟩
         have gO:Led H5 (bw cT cF cD cS cI S2 (N4++(eT sp mk sf rd us S1 ts++M))):=by rw [<-eN4];exact jP
         have eV:=St.AX N4 _ gO
         clear jx nD jP gO UO eS oS Jp
         have eS:=eV.get mS
         have oS:=eV.get (mC (mC (mC mS)))
         have Gi:=eV.get (mA (St.up (mA cu)))
         have Jp:H5 u=some (.tup ((lZ a).map kV)):=by rw [sS];exact Gi
         clear Gi
         walk_at "ge"
         refine Mp oS Jp (by rw [uS];omega) ?_
         rw [Om p2 (dM row Ai ms) (by rw [<-ea'];exact List.mem_map.mpr ⟨e,he,rfl⟩)]
         have UP:Led (upd H5 rd (.dT (uI (Ag ts a p2 (dM row Ai ms))))) (eT sp mk sf rd us S1 (Ag ts a p2 (dM row Ai ms))++bw cT cF cD cS cI S2 (N4++M)):=eV.jG 3 rfl rfl rfl
         have gj:=St.j8 _ UP
         walk_at "ge"
         have xU:=(Gk.mono (M':=N4++M) λ x hx=>mA hx).oO (p:=p) (r:=p2) (row:=dM row Ai ms) hx (by rw [<-eN4];exact mB (mC mS)) (by rw [<-eN4];exact mB mS) (by rw [AY (by omega)];exact h4)
         refine k S2 (Ag ts a p2 (dM row Ai ms)) N4 _ (by rw [UN];exact Em) (by rw [UN];exact OA) (mK ..) (by rw [UN];exact xU) ?_
         rw [UN] at gj ⊢
         exact gj
       ·exact k S1 ts [] H1 Em OA rfl Gk hl
    clear K1
    walk_at "ge"
    ·have eS:=hl.get (St.up mS)
     refine o5 λ V0 nE => ?_
     walk_at "ge"
     refine ⟨_,rfl,by omega,by omega,nE.use ?_⟩
     clear nE eS
     rw [show ((us.length:Int)).toNat=n by omega]
     refine o6 (λ j σ H' => ∃ (bs:List Bool) (v6:Option V),bs.length=n/\Led H' (bw cT cF cD cS cI { S with bs:=bs } (eT sp mk sf rd us { S with bs:=bs } ts++M)) ∧ σ = [some (.ref S.b),some (.ref sp),some (.ref mk),some (.ref rd),some (.int c),some (.int (i:Nat)),v6,none,none]) ⟨bs,none,uU,hl,rfl⟩ ?_ ?_
     ·clear hl uU bs
      rintro j σ H' hj ⟨bs,v6,uU,hl,rfl⟩
      have f2:=oK { S with bs:=bs }
      have i9:=hl.get St.b
      have hD:=St.toD hl
      have Jh:=hD.get Lm
      walk_at "ge"
      refine ⟨S.d,S.Jz,S.dm,(S.p:Int),0+(j:Int),bs,_,rfl,hD,by omega,by omega,λ H2 hl3 => ?_⟩
      rw [show (0+(j:Int)).toNat=j by omega] at hl3
      have bT:Led H2 (bw cT cF cD cS cI { S with bs:=bs.set j true } (eT sp mk sf rd us { S with bs:=bs } ts++M)):=St.ofD (S := { S with bs:=bs }) (N:=[]) (p':=S.p) (bs':=bs.set j true) hl3
      clear hl3 hD Jh i9 hl
      have Pz:H2 mk=some (.lst (bs.map V.bl)):=bT.get (St.up (mC mS))
      walk_at "ge"
      refine cQ Pz (bG (by omega) (by rw [List.length_map];omega)) ?_
      rw [show (0+(j:Int)).toNat=j by omega,sR]
      have c7:=St.mark (S := { S with bs:=bs }) bT
      walk_at "ge"
      exact ⟨bs.set j true,_,(List.length_set ..).trans uU,c7,rfl⟩
     ·clear hl uU bs
      rintro σ H' ⟨bs,v6,uU,hl,rfl⟩
      exact A0 v6 bs H' uU hl
    ·exact A0 none bs H1 uU hl
    ·exact A0 none bs H1 uU hl
   clear K1
   walk_at "ge"
   ·have f2:=oK { S with bs:=bs }
    have i9:=hl.get St.b
    have hD:=St.toD hl
    have Jh:=hD.get Lm
    walk_at "ge"
    refine ⟨S.d,S.Jz,S.dm,(S.p:Int),((i:Nat):Int),bs,_,rfl,hD,by omega,by omega,λ H2 hl3 => ?_⟩
    rw [Int.toNat_natCast] at hl3
    have bT:Led H2 (bw cT cF cD cS cI { S with bs:=bs.set i false } (eT sp mk sf rd us { S with bs:=bs } ts++M)):=St.ofD (S := { S with bs:=bs }) (N:=[]) (p':=S.p) (bs':=bs.set i false) hl3
    clear hl3 hD Jh i9 hl
    have Pz:H2 mk=some (.lst (bs.map V.bl)):=bT.get (St.up (mC mS))
    walk_at "ge"
    refine cQ Pz (bG (by omega) (by rw [List.length_map];omega)) ?_
    rw [Int.toNat_natCast,sR]
    have c7:=St.mark (S := { S with bs:=bs }) bT
    walk_at "ge"
    exact nF (bs.set i false) _ ((List.length_set ..).trans uU) c7
   ·exact nF bs H1 uU hl
  clear K1
  obtain ⟨bs,VX,uU⟩ : ∃ bs:List Bool,{ S with bs:=bs } = S/\bs.length=n:=⟨S.bs,rfl,lr.g.bl⟩
  have hl:Led H (bw cT cF cD cS cI { S with bs:=bs } (eT sp mk sf rd us { S with bs:=bs } ts++M)):=by rw [VX];exact hL
  clear hL VX
  walk_at "ge"
  ·have f2:=oK { S with bs:=bs }
   have i9:=hl.get St.b
   have hD:=St.toD hl
   have Jh:=hD.get Lm
   walk_at "ge"
   refine ⟨S.d,S.Jz,S.dm,(S.p:Int),((i:Nat):Int),bs,_,rfl,hD,by omega,by omega,λ H2 hl3 => ?_⟩
   rw [Int.toNat_natCast] at hl3
   have bT:Led H2 (bw cT cF cD cS cI { S with bs:=bs.set i true } (eT sp mk sf rd us { S with bs:=bs } ts++M)):=St.ofD (S := { S with bs:=bs }) (N:=[]) (p':=S.p) (bs':=bs.set i true) hl3
   clear hl3 hD Jh i9 hl
   have Pz:H2 mk=some (.lst (bs.map V.bl)):=bT.get (St.up (mC mS))
   walk_at "ge"
   refine cQ Pz (bG (by omega) (by rw [List.length_map];omega)) ?_
   rw [Int.toNat_natCast,sR]
   have c7:=St.mark (S := { S with bs:=bs }) bT
   walk_at "ge"
   exact xT (bs.set i true) _ ((List.length_set ..).trans uU) c7
  ·exact xT bs H uU hl
end
section
variable {P:Program} {w:World} {K:PySem.W.Frag} {mg:Str->Option Value} {base:Heap} {cU cA cB cC cT cF cD cS cI:Addr}
theorem Led.abh {H:Hp} {L:Cells} {b:Addr} {xs:List V} (h:Led H L) (hb:H b=some (.tup xs)):Led H ((b,.tup xs)::L):=⟨λ c hc=>by
 rcases List.mem_cons.mp hc with rfl | hc
 ·exact hb
 ·exact h.at_ c hc,by rw [List.filter_cons_of_neg (by simp [lasts])];exact h.nd⟩
def OB (ys:List (Addr×Th)):Cells:=ys.map λ y=>(y.1,HO.tup (gv y.2))
theorem Led.PB {H:Hp} {L:Cells} (h:Led H L) : ∀ {ys:List (Addr×Th)},(∀ y∈ys,H y.1=some (.tup (gv y.2)))->Led H (OB ys++L)
 | [],_=>h
 | y::ys,hy=>Led.abh (Led.PB h λ z hz=>hy z (mC hz)) (hy y mS)
theorem r8 {H:Hp} {ts:Ts} {rd:Addr} {Q:VK} {L:Cells} (h1:H rd=some (.dT (uI ts))) (hL:Led H L) (h : ∀ (l:Addr) (ys:List (Addr×Th)) (H':Hp),ys.map (·.2)=ts.map (·.1)->Led H' ((l,.lst (ys.map λ y=>V.ref y.1))::(OB ys++L))->Q (.ref l) H'):BA [.ref rd] H Q:=by
 refine ND h1 λ l as hl hlen hat => ?_
 rw [uS] at hlen
 have e1:(as.zip (ts.map (·.1))).map (·.2)=ts.map (·.1):=List.map_snd_zip (by rw [List.length_map];omega)
 have e2:(as.zip (ts.map (·.1))).map (λ y=>V.ref y.1)=as.map V.ref:=by
  have h3:(as.zip (ts.map (·.1))).map (·.1)=as:=List.map_fst_zip (by rw [List.length_map];omega)
  conv=>rhs;rw [<-h3]
  rw [List.map_map]
  rfl
 have hin : ∀ y∈as.zip (ts.map (·.1)),H y.1=some (.tup (gv y.2)):=λ y hy=>by
  obtain ⟨i,hi⟩:=List.getElem?_of_mem hy
  rw [List.getElem?_zip_eq_some] at hi
  obtain ⟨i1,i2⟩:=hi
  rw [List.getElem?_map] at i2
  obtain ⟨e,he,e3⟩:=Option.map_eq_some_iff.mp i2
  have h4:=hat i y.1 (lZ e.1) (.ref e.2.1) i1 (by unfold uI;rw [List.getElem?_map,he];rfl)
  rw [sS] at h4
  rw [<-e3]
  exact h4
 have h5:=(Led.PB hL hin).new (o := .lst (as.map V.ref)) hl
 rw [<-e2] at h5 ⊢
 exact h l _ _ e1 h5
section
variable {N M:Cells} {S S1:SS} {n q i:Nat} {a b:Th} {row r1 r2:List Int}
theorem Back.uniq (g:aR S n q M) (h1:Back S r1 a) (h2:Back S r2 a):r1=r2:=by
 cases a with
 | own m =>
   obtain ⟨x,hx⟩:=h1
   obtain ⟨y,hy⟩:=h2
   have e1:=pB g.nd hx
   have e2:=pB g.nd hy
   have e3:(m,x,r1)=(m,y,r2):=Option.some.inj (e1.symm.trans e2)
   cases e3
   rfl
 | file z p =>
   obtain ⟨x,hx,x1,j,r,xp,xr⟩:=h1
   obtain ⟨y,hy,y1,k,r',yp,yr⟩:=h2
   have e1:=findF g.fn hx
   have e2:=findF g.fn hy
   rw [x1] at e1
   rw [y1] at e2
   have e3:x=y:=Option.some.inj (e1.symm.trans e2)
   subst e3
   have:j=k:=by omega
   subst this
   rw [xr] at yr
   cases yr
   rfl
theorem Back.gone (h:Back S row b) (hne:b≠a):Back (My.gone S a) row b:=by
 cases a with
 | file z p=>exact h
 | own m =>
   cases b with
   | own k =>
     obtain ⟨x,hx⟩:=h
     exact ⟨x,List.mem_filter.mpr ⟨hx,decide_eq_true λ z=>hne (by show Th.own k = .own m;rw [show k=m from z])⟩⟩
   | file z p=>exact h
theorem Back.RI (h:Back (My.gone S a) row b):Back S row b:=by
 cases a with
 | file z p=>exact h
 | own m =>
   cases b with
   | own k=>obtain ⟨x,hx⟩:=h;exact ⟨x,(List.mem_filter.mp hx).1⟩
   | file z p=>exact h
theorem eG.gone (h:eG S b row) (hne:b≠a):eG (My.gone S a) b row:=by
 have eF:=(gz S a).2.1
 rcases h with ⟨j,t,r,h1,h2⟩ | ⟨h1,h2⟩
 ·exact .inl ⟨j,t,r,by rw [eF];exact h1,by rw [eF];exact h2⟩
 ·exact .inr ⟨λ ⟨j,t,hj⟩=>h1 ⟨j,t,by rw [<-eF];exact hj⟩,h2.gone hne⟩
theorem PO.back {S':SS} {t:Addr} (g:aR S n q M) (hi:S.F.hs[i]? = some (some (t,a))) (h:PO N S i S' a) (hb:Back S' row b):uT S b ∨ ∃ r,Back S r b:=by
 cases a with
 | own m =>
   obtain ⟨r,Oo,b1,h1,rfl⟩:=h
   cases b with
   | own k =>
     obtain ⟨x,hx⟩:=hb
     rcases List.mem_append.mp hx with hx | hx
     ·exact .inr ⟨row,x,hx⟩
     ·have e:=List.mem_singleton.mp hx
      cases e
      exact .inl ⟨i,t,hi⟩
   | file z p=>exact .inr ⟨row,hb⟩
 | file z p =>
   obtain ⟨r,Oo,h1,h⟩:=h
   rcases h with ⟨h2,rfl⟩ | ⟨_,as,bs,e,j,nr,h3,h4,h5,h6,_,rfl⟩
   ·exact .inr ⟨row,by cases b <;> exact hb⟩
   ·cases b with
    | own k=>exact .inr ⟨row,hb⟩
    | file z2 p2 =>
      obtain ⟨e2,yl,z3,j2,r2,p3,hr2⟩:=hb
      rcases List.mem_append.mp yl with yl | yl
      ·exact .inr ⟨row,e2,by rw [h3];exact mB yl,z3,j2,r2,p3,hr2⟩
      ·rcases List.mem_cons.mp yl with rfl | yl
       ·have hl:j2 < e.2.2.length:=by
         have h7:=(List.getElem?_eq_some_iff.mp hr2).1
         have h8:j2 < (e.2.2.set j (nr,Oo)).length:=h7
         rw [List.length_set] at h8
         exact h8
        exact .inr ⟨e.2.2[j2].2,e,by rw [h3];exact mA mS,z3,j2,e.2.2[j2].1,p3,List.getElem?_eq_getElem hl⟩
       ·exact .inr ⟨row,e2,by rw [h3];exact mA (mC yl),z3,j2,r2,p3,hr2⟩
theorem fM.back (g:aR S n q M) (h:fM N S n i S1) (hb:Back S1 row b):uT S b ∨ ∃ r,Back S r b:=by
 rcases h with ⟨_,_,rfl⟩ | ⟨_,bs',t,c,hgo,hi,h⟩
 ·exact .inr ⟨row,hb⟩
 ·obtain ⟨l1,_⟩:=qi _ _ _ hgo
  have n1:=g.n1
  exact PO.back (S := { S with p:=(i+1) % n,bs:=bs' }) (g.turned (Nat.mod_lt _ (by omega)) (l1.trans g.bl)) hi h hb
theorem fM.Uo (h:fM N S n i S1) (hb:uT S1 b):uT S b:=by
 obtain ⟨j,t,hj⟩:=hb
 rcases h with ⟨_,_,rfl⟩ | ⟨_,bs',u,c,hgo,hi,h⟩
 ·exact ⟨j,t,hj⟩
 ·rw [h.hs.1] at hj
  exact ⟨j,t,(Cy hj).2⟩
theorem Lies.gone {m:Int} (g:aR S n q M) (hnf : ¬ uT S a):Lies (My.gone S a) m↔Lies S m/\(a ≠ .own m):=by
 cases a with
 | file z p=>exact ⟨λ h=>⟨h,λ e=>nomatch e⟩,λ h=>h.1⟩
 | own k =>
   constructor
   ·rintro (⟨j,t,hj⟩ | h)
    ·exact ⟨.inl ⟨j,t,hj⟩,λ e=>by cases e;exact hnf ⟨j,t,hj⟩⟩
    ·obtain ⟨e,he,rfl⟩:=List.mem_map.mp h
     obtain ⟨h1,h2⟩:=List.mem_filter.mp he
     exact ⟨.inr (List.mem_map.mpr ⟨e,h1,rfl⟩),λ z=>by cases z;exact (of_decide_eq_true h2) rfl⟩
   ·rintro ⟨⟨j,t,hj⟩ | h,hne⟩
    ·exact .inl ⟨j,t,hj⟩
    ·obtain ⟨e,he,rfl⟩:=List.mem_map.mp h
     exact .inr (List.mem_map.mpr ⟨e,List.mem_filter.mpr ⟨he,decide_eq_true λ z=>hne (by rw [z])⟩,rfl⟩)
end
end
section
variable {P:Program} {w:World} {K:PySem.W.Frag} {mg:Str->Option Value} {base:Heap} {cU cA cB cC cT cF cD cS cI:Addr}
section
variable {N M:Cells} {S S1:SS} {n q i:Nat} {a:Th} {row:List Int} {us CN:List V} {ts:Ts} {t r u d:Addr}
theorem Clean.gone (h:Clean S):Clean (My.gone S a):=by
 have eF:=(gz S a).2.1
 intro j t r z p row h1 h2 h3
 rw [eF] at h1 h2 h3
 have:=h j t r z p row h1 h2 h3
 cases a with
 | own m=>exact this
 | file z2 p2=>exact this
theorem Gm {x:Addr×Th} {j:Nat} {b:Th} {v:Addr} {l:List Hd} (h:(l.set i (some x))[j]? = some (some (v,b))):(j=i/\(v,b)=x)\/(i≠j/\l[j]? = some (some (v,b))):=by
 rw [List.getElem?_set] at h
 split at h
 ·split at h
  ·cases h
   exact .inl ⟨by omega,rfl⟩
  ·cases h
 ·exact .inr ⟨by assumption,h⟩
theorem Lr.G6 (h:Lr n q S us ts M) (hnf : ¬ uT S a) (hb:Back S row a) (Pq:F4 a) (hH:fM N (My.gone S a) n i S1) (ht:(t,HO.tup (gv a))∈N++M) (hr:(r,HO.lst (row.map V.int))∈N++M) (hu:(u,HO.tup (gv a))∈N++M) (hs1:j7 S1 CN (N++M)):Lr n q { S1 with F:=S1.F.fill i (some (t,a)) (some (r,row)) false } (CN.set i (.ref u)) ts (N++M):=by
 obtain ⟨eb,eF,Sn,VV,efs,ep,VX⟩:=gz S a
 have g0:=h.g.gone hb
 have g1:=g0.had hH
 obtain ⟨h0,e1,e2,_,_⟩:=hH.at
 rw [Sn] at e1
 rw [VV] at e2
 have hlt:i < S1.F.hs.length:=(List.getElem?_eq_some_iff.mp h0).1
 obtain ⟨UQ,So⟩:=hH.rows g0 h.cl.gone
 have unF : ∀ b,uT (My.gone S a) b->uT S b:=λ b ⟨j,v,hj⟩=>⟨j,v,by rw [<-eF];exact hj⟩
 have nf1 : ¬ uT S1 a:=λ z=>hnf (unF a (hH.Uo z))
 have bk : ∀ z p,a = .file z p->Back S1 row a:=λ z p e=>by
  have h1:eG (My.gone S a) a row:=by
   rw [e] at hnf hb ⊢
   exact .inr ⟨hnf,hb⟩
  rcases So a row h1 with ⟨j,v,w,h2,_⟩ | ⟨_,h2⟩
  ·exact absurd ⟨j,v,h2⟩ nf1
  ·exact h2
 have lg : ∀ m,Lies S1 m↔Lies S m/\a ≠ .own m:=λ m=>(hH.lies m).trans (Lies.gone h.g hnf)
 have ho : ∀ m,a = .own m->m ∉ S1.es.map (·.1):=λ m e z=>((lg m).mp (.inr z)).2 e
 have Pu : ∀ m,Lies { S1 with F:=S1.F.fill i (some (t,a)) (some (r,row)) false } m↔Lies S m:=λ m=>by
  constructor
  ·rintro (⟨j,v,hj⟩ | hm)
   ·rcases Gm (l:=S1.F.hs) hj with ⟨_,e⟩ | ⟨_,hj⟩
    ·cases e
     exact .inr hb.key
    ·exact ((lg m).mp (.inl ⟨j,v,hj⟩)).1
   ·exact ((lg m).mp (.inr hm)).1
  ·intro hm
   by_cases e:a = .own m
   ·refine .inl ⟨i,t,?_⟩
    show (S1.F.hs.set i _)[i]? = _
    rw [List.getElem?_set,if_pos rfl,if_pos hlt,e]
   ·rcases (lg m).mpr ⟨hm,e⟩ with ⟨j,v,hj⟩ | hm
    ·have hij:i≠j:=λ z=>by rw [<-z,h0] at hj;cases hj
     exact .inl ⟨j,v,(dP hij).mpr hj⟩
    ·exact .inr hm
 obtain ⟨rf1,rf2⟩:=eG.fill (t:=t) (r:=r) (a:=a) (row:=row) (k:=S1.made) (hs':=S1.hs) g1 h0
 refine { g:=g1.Oj ht Pq hr (hb.len h.g) (λ j v hj=>nf1 ⟨j,v,hj⟩) ho (λ z p e => ?_),gh:=⟨by show (S1.hs.map (·.1)).Nodup;rw [e1];exact h.gh.nd,λ e he => ?_,λ e he => ?_,λ m => ?_,by show S1.hs.length<=_;rw [e1];exact h.gh.most,by show 0<=S1.made;rw [e2];exact h.gh.m0⟩,s:=j7.UJ (S:=S1) rfl hu hs1,cl:=Clean.fill (k:=S1.made) (hs':=S1.hs) g1 UQ h0 bk,nd:=h.nd,rw:=λ e he => ?_,x8:=λ b Te => ?_,hm:=by show (S1.hs.length:Int)=S1.made;rw [e1,e2];exact h.hm,cnt:=by show _=S1.made;rw [e2];exact h.cnt }
 ·have h5:=bk z p e
  rw [e] at h5
  obtain ⟨x,hx,x1,j,w,xp,xr⟩:=h5
  exact ⟨x,hx,j,x1,xp,(List.getElem?_eq_some_iff.mp xr).1⟩
 ·have he':e∈S1.hs:=he
  rw [e1] at he'
  show 1<=e.1/\e.1<=S1.made
  rw [e2]
  exact h.gh.le e he'
 ·have he':e∈S1.hs:=he
  rw [e1] at he'
  exact h.gh.c1 e he'
 ·rw [Pu m,<-h.gh.Pu m]
  show m∈S1.hs.map (·.1)↔_
  rw [e1]
 ·obtain ⟨c1,c2,c3⟩:=h.rw e he
  refine ⟨mA c1,?_,c3⟩
  by_cases ea:e.1=a
  ·rw [ea] at c2 ⊢
   rcases c2 with ⟨j,v,w,h2,_⟩ | ⟨_,h2⟩
   ·exact absurd ⟨j,v,h2⟩ hnf
   ·rw [Back.uniq h.g h2 hb]
    exact rf2
  ·exact rf1 _ _ ea (So _ _ (c2.gone ea))
 ·rcases Te with ⟨j,v,hj⟩ | ⟨fN,hb'⟩
  ·rcases Gm (l:=S1.F.hs) hj with ⟨_,e⟩ | ⟨_,hj⟩
   ·cases e
    exact h.x8 _ (.inr ⟨row,hb⟩)
   ·exact h.x8 b (.inl (unF b (hH.Uo ⟨j,v,hj⟩)))
  ·have hb1:Back S1 fN b:=by cases b <;> exact hb'
   rcases hH.back g0 hb1 with h6 | ⟨r6,h6⟩
   ·exact h.x8 b (.inl (unF b h6))
   ·exact h.x8 b (.inr ⟨r6,h6.RI⟩)
theorem Lr.fresh (h:Lr n q S us ts M):Th.own (S.made+1) ∉ ts.map (·.1):=λ z=>by
 obtain ⟨e,he,ea⟩:=List.mem_map.mp z
 have ea':e.1 = .own (S.made+1):=ea
 obtain ⟨_,c2,_⟩:=h.rw e he
 rw [ea'] at c2
 refine h.gh.fresh ?_
 rcases c2 with ⟨j,v,w,h2,_⟩ | ⟨_,h2⟩
 ·exact .inl ⟨j,v,h2⟩
 ·exact .inr h2.key
theorem Lr.L5 (h:Lr n q S us ts M) (hroom:(n:Int) - 1+(q:Int) - (S.hs.length:Int)≠0) (h4:row.length=4) (hH:fM N S n i S1) (ht:(t,HO.tup (gv (.own (S.made+1))))∈N++M) (hr:(r,HO.lst (row.map V.int))∈N++M) (hu:(u,HO.tup (gv (.own (S.made+1))))∈N++M) (hd:(d,HO.lst (row.map V.int))∈N++M) (hs1:j7 S1 CN (N++M)):Lr n q { S1 with made:=S.made+1,hs:=S.hs++[(S.made+1,1)],F:=S1.F.fill i (some (t,.own (S.made+1))) (some (r,row)) false } (CN.set i (.ref u)) (ts++[(.own (S.made+1),d,row)]) (N++M):=by
 have g1:=h.g.had hH
 obtain ⟨h0,e1,e2,_,_⟩:=hH.at
 obtain ⟨UQ,So⟩:=hH.rows h.g h.cl
 have nl : ¬ Lies S1 (S.made+1):=λ z=>h.gh.fresh ((hH.lies _).mp z)
 obtain ⟨rf1,rf2⟩:=eG.fill (t:=t) (r:=r) (a := .own (S.made+1)) (row:=row) (k:=S.made+1) (hs':=S.hs++[(S.made+1,1)]) g1 h0
 refine { g:=g1.filled ht hr h4 nl,gh:=h.gh.L5 hH h.g hroom,s:=j7.UJ (S:=S1) rfl hu hs1,cl:=Clean.fill g1 UQ h0 (λ z p e=>nomatch e),nd := ?_,rw:=λ e he => ?_,x8:=λ b Te => ?_,hm := ?_,cnt := ?_ }
 ·rw [List.map_append]
  refine List.nodup_append.mpr ⟨h.nd,by simp,λ x hx y hy e => ?_⟩
  have hy':y = .own (S.made+1):=by simpa using hy
  exact h.fresh (hy' ▸ e ▸ hx)
 ·rcases List.mem_append.mp he with he | he
  ·obtain ⟨c1,c2,c3⟩:=h.rw e he
   exact ⟨mA c1,rf1 _ _ (λ z=>h.fresh (z ▸ List.mem_map.mpr ⟨e,he,rfl⟩)) (So _ _ c2),c3⟩
  ·rw [List.mem_singleton.mp he]
   exact ⟨hd,rf2,True.intro⟩
 ·rw [List.map_append,List.mem_append]
  rcases Te with ⟨j,v,hj⟩ | ⟨fN,hb'⟩
  ·rcases Gm (l:=S1.F.hs) hj with ⟨_,e⟩ | ⟨_,hj⟩
   ·cases e
    exact .inr mS
   ·exact .inl (h.x8 b (.inl (hH.Uo ⟨j,v,hj⟩)))
  ·have hb1:Back S1 fN b:=by cases b <;> exact hb'
   exact .inl (h.x8 b (hH.back h.g hb1))
 ·show ((S.hs++[(S.made+1,1)]).length:Int)=S.made+1
  have:=h.hm
  rw [List.length_append]
  show ((S.hs.length+1:Nat):Int)=_
  omega
 ·show (((ts++[(Th.own (S.made+1),d,row)]).filter λ e => !bg e.1).length:Int)=S.made+1
  have:=h.cnt
  rw [List.filter_append,List.length_append]
  show (((ts.filter λ e => !bg e.1).length+1:Nat):Int)=_
  omega
end
end
section
variable {P:Program} {w:World} {K:PySem.W.Frag} {mg:Str->Option Value} {base:Heap} {cU cA cB cC cT cF cD cS cI:Addr}
theorem St.nG {H:Hp} {S:SS} {M M':Cells} (h:Led H (bw cT cF cD cS cI S M)) (p:M.Perm M'):Led H (bw cT cF cD cS cI S M'):=Led.perm h (List.Perm.append_left _ (List.Perm.append_left _ (List.Perm.append_left _ (List.Perm.append_left _ (List.Perm.append_left _ p)))))
theorem Js {hs:List Hd} (h : ∃ i:Nat,hs[i]? = some none) : ∃ i:Nat,hs[i]? = some none ∧ ∀ (j:Nat) z,j < i->hs[j]? = some z->z≠none:=by
 obtain ⟨i0,hi0⟩:=h
 have hex : ∃ y∈hs,y.isNone=true:=⟨none,List.mem_of_getElem? hi0,rfl⟩
 have hlt:=List.findIdx_lt_length_of_exists hex
 have I0:(hs[hs.findIdx λ y=>y.isNone]'hlt).isNone=true:=List.findIdx_getElem (w:=hlt)
 refine ⟨hs.findIdx λ y=>y.isNone,?_,λ j z hj hz e => ?_⟩
 ·rw [List.getElem?_eq_getElem hlt]
  cases e:hs[hs.findIdx λ y=>y.isNone]'hlt with
  | none=>rfl
  | some x=>rw [e] at I0;cases I0
 ·have h:=List.not_of_lt_findIdx hj
  have hlm:j < hs.length:=(List.getElem?_eq_some_iff.mp hz).1
  have e2:hs[j]=z:=(List.getElem?_eq_some_iff.mp hz).2
  rw [e2,e] at h
  cases h
def jA:V->Bool
 | .aI=>true
 | _=>false
theorem UR {ps:List V} (pe : ∀ v∈ps,v = .aI ∨ ∃ m:Int,v = .int m) (z:Int):((ps.filter λ v => !jA v).length:Int)=0 ∨ ∃ m:Int,V.int m∈ps/\iZ (ps.filter λ v => !jA v) (z % ((ps.filter λ v => !jA v).length:Int))=some (.int m):=by
 by_cases h0:(ps.filter λ v => !jA v).length=0
 ·exact .inl (by omega)
 ·have e0:=Int.emod_nonneg z (show ((ps.filter λ v => !jA v).length:Int)≠0 by omega)
  have e1:=Int.emod_lt_of_pos z (show (0:Int) < (ps.filter λ v => !jA v).length by omega)
  have hj:(z % ((ps.filter λ v => !jA v).length:Int)).toNat < (ps.filter λ v => !jA v).length:=by omega
  obtain ⟨h1,h2⟩:=List.mem_filter.mp (List.getElem_mem hj)
  rcases pe _ h1 with h3 | ⟨m,h3⟩
  ·rw [h3] at h2;cases h2
  ·exact .inr ⟨m,by rw [<-h3];exact h1,dN e0 (by rw [List.getElem?_eq_getElem hj,h3])⟩
def m7 (S:SS) (a:Th):Bool:=S.F.hs.any λ x=>decide (kH x=some a)
theorem D9 {S:SS} {a:Th} : m7 S a=true↔ek (some a)∈S.F.hs.map λ x=>ek (kH x):=by
 unfold m7
 rw [List.any_eq_true,List.mem_map]
 constructor
 ·rintro ⟨x,hx,e⟩
  exact ⟨x,hx,by rw [of_decide_eq_true e]⟩
 ·rintro ⟨x,hx,e⟩
  exact ⟨x,hx,decide_eq_true (fJ.mp e)⟩
theorem US {S:SS} {ys:List (Addr×Th)} (z:Int):(((ys.filter λ y=>bg y.2 && !m7 S y.2).map λ y=>V.ref y.1).length:Int)=0 ∨ ∃ y∈ys,bg y.2=true/\m7 S y.2=false/\iZ ((ys.filter λ y=>bg y.2 && !m7 S y.2).map λ y=>V.ref y.1) (z % (((ys.filter λ y=>bg y.2 && !m7 S y.2).map λ y=>V.ref y.1).length:Int))=some (.ref y.1):=by
 rw [List.length_map]
 by_cases h0:(ys.filter λ y=>bg y.2 && !m7 S y.2).length=0
 ·exact .inl (by omega)
 ·have e0:=Int.emod_nonneg z (show ((ys.filter λ y=>bg y.2 && !m7 S y.2).length:Int)≠0 by omega)
  have e1:=Int.emod_lt_of_pos z (show (0:Int) < (ys.filter λ y=>bg y.2 && !m7 S y.2).length by omega)
  have hj:(z % ((ys.filter λ y=>bg y.2 && !m7 S y.2).length:Int)).toNat < (ys.filter λ y=>bg y.2 && !m7 S y.2).length:=by omega
  obtain ⟨h1,h2⟩:=List.mem_filter.mp (List.getElem_mem hj)
  obtain ⟨h3,h4⟩:=Bool.and_eq_true_iff.mp h2
  refine .inr ⟨_,h1,h3,by simpa using h4,dN e0 (by rw [List.getElem?_map,List.getElem?_eq_getElem hj];rfl)⟩
def CB (cT cF cD cS cI:Addr):Sp:=λ vs H Q _ => ∃ (S:SS) (n q:Nat) (c:Int) (sp mk sf rd:Addr) (us:List V) (ts:Ts) (M:Cells),vs = [.ref S.b,.ref sp,.ref sf,.ref rd,.int c]/\Led H (bw cT cF cD cS cI S (eT sp mk sf rd us S ts++M))/\Lr n q S us ts M/\q<=128/\ts.length<=1000/\0<=c/\c<=1000000 ∧
 ∀ (S':SS) (us':List V) (ts':Ts) (N:Cells) (H':Hp),S'.b=S.b->S'.p=S.p->ts'.length<=ts.length+1->Lr n q S' us' ts' (N++M)->Led H' (bw cT cF cD cS cI S' (eT sp mk sf rd us' S' ts'++(N++M)))->Q (.bl true) H'
theorem Mr (D:Def K mg "_law_fill" jo) (B:jd mg) (T:Txt K mg cU cA cB cC cT cF cD cS cI) (G7:dF P w K mg base 7 "bring" ["store","thing"] (G0 cT cF cD cS cI)) (Ea:dF P w K mg base 7 "new_sheet" ["store","row"] (Pr cT cF cD cS cI cU)) (oQ:dF P w K mg base 2 "_law_row" ["_law_cell"] LO) (aW:dF P w K mg base 4 "_law_alike" ["_law_found","_law_due"] (mF 2)):dF P w K mg base 8 "_law_fill" ["_law_store","_law_spots","_law_shelf","_law_rows","_law_cell"] (CB cT cF cD cS cI):=by
 have sc:=AK
 refine D.ok AK (λ vs H Q E h => ?_) (λ _ _ _ _ _ _ us hl=>match us,hl with | [_,_,_,_,_],_=>rfl) (λ f cdv A outer s H vs Q E hr h => ?_)
 ·obtain ⟨_,_,_,_,_,_,_,_,_,_,_,rfl,_⟩:=h;rfl
 ·obtain ⟨S,n,q,c,sp,mk,sf,rd,us,ts,M,rfl,hL,lr,UT,hts,c0,c9,k⟩:=h
  have hu:=iU hr
  have hsz:=sizeLine_eq
  have n1:=lr.g.n1
  have n64:=lr.g.n64
  have ul:us.length=n:=lr.s.l.trans lr.g.f.h
  have eS:=hL.get (St.up mS)
  have d1:eB H .aI (PySem.W.kqdP (ek none)):=by show eB H .aI (PySem.W.kqdP .none);rw [PySem.W.kqdP];exact .aI
  have d2:=lr.s.dat hL (λ x hx=>St.up (mA hx))
  have o1:PySem.W.kqdOk 8 (ek none)=true:=rfl
  have o2:=lr.g.RA
  have Ms:ek none∈(S.F.hs.map λ x=>ek (kH x)) ↔ ∃ i:Nat,S.F.hs[i]? = some none:=by
   constructor
   ·intro h
    obtain ⟨z,hz,w⟩:=List.mem_map.mp h
    obtain ⟨i,hi⟩:=List.getElem?_of_mem hz
    have w2:=fJ.mp w
    cases z with
    | none=>exact ⟨i,hi⟩
    | some z=>cases w2
   ·rintro ⟨i,hi⟩
    exact List.mem_map.mpr ⟨none,List.mem_of_getElem? hi,rfl⟩
  refine ⟨_,(@af _ _ _ _ _ (@aS _ _ _ _ _ _ _ _ (@aL _ _ _ _ _ _ _ _ (qz hr.units) (@bE _ _ _) (@aq _ 1 _ _ (by walk_at "v")) (by with_unfolding_all rfl)) (@ao _ _ _ (@aE _ _ _ _ (@bP _ _ _ _))) (@aF _)) (@af _ _ _ _ _ (@aK _ _ 5 _ _ _ _ sc.nd rfl (by walk_at "o2") (@sD _ _ _ _ _ _ _ _ _ _ _ _ PySem.F.plainAttrs_list PySem.F.slot_list_index PySem.F.type_list_index (mq hr.units) (@aq _ 1 _ _ (by walk_at "v")) (@aa _ _ _ _ _ (@bE _ _ _) (@aj _) (by rfl)) (by rfl) (by rfl) (by rfl) (by rfl) (by rfl)) (by rfl) (by walk_at "o4")) (@af _ _ _ _ _ (@gZ _ _ "_law_sheet" _ _ _ _ _ _ _ _ _ _ 6 _ _ rfl rfl rfl rfl O8 (dg (by kernel_rfl)) (@gE _ _ _ _ (@aq _ 2 _ _ (by walk_at "v"))) (λ _ _ _ _=>(@Bp _ _ _ (@aL _ _ _ _ _ _ _ _ oY (@pk _ 0 _ _ (by kernel_rfl) (by kernel_rfl) (by decide) (by decide)) (@bE _ _ _) (aP _)))) (λ _ _ _ _=>(@pk _ 0 _ _ (by kernel_rfl) (by kernel_rfl) (by decide) (by decide))) sc.nd rfl (by walk_at "o2") (by intro _;rfl) (by rfl) (by walk_at "o4")) (@af _ _ _ _ _ (@gZ _ _ "_law_thing" _ _ _ _ _ _ _ _ _ _ 7 _ _ rfl rfl rfl rfl O8 (dg (by kernel_rfl)) (@gE _ _ _ _ (@bh _ _ _ _ _ _ _ _ _ (kZ rfl) (by rfl) B.list bS (@aa _ _ _ _ _ (@aq _ 3 _ _ (by walk_at "v")) (@aj _) (by rfl)) (by decide) (by decide) (by rfl) (by rfl))) (λ _ _ _ _=>(@Bp _ _ _ (@PW.pt _ _ _ (@pw_and _ _ _ _ _ _ _ (@aL _ _ _ _ _ _ _ _ cY (@aY _ _ _ _ _ _ _ aQ (@pk _ 0 _ _ (by kernel_rfl) (by kernel_rfl) (by decide) (by decide)) (@ak _ _ _ _) (λ _ _=>rfl)) (@dD _ _ _ _) (aP _)) (@pw_and1 _ _ _ _ (@aL _ _ _ _ _ _ _ _ (qz hr.units) (@pk _ 0 _ _ (by kernel_rfl) (by kernel_rfl) (by decide) (by decide)) (@pk _ 2 _ _ (by kernel_rfl) (by kernel_rfl) (by decide) (by decide)) (by with_unfolding_all rfl))))))) (λ _ _ _ _=>(@pk _ 0 _ _ (by kernel_rfl) (by kernel_rfl) (by decide) (by decide))) sc.nd rfl (by walk_at "o2") (by intro _;rfl) (by rfl) (by walk_at "o4")) (@af _ _ _ _ _ (@aK _ _ 8 _ _ _ _ sc.nd rfl (by walk_at "o2") (@aJ _ _ _ _ _ _ _ _ _ aO (by rfl) B.len bK (@aa _ _ _ _ _ (@o7 _ _ "_law_thing" _ _ _ _ _ _ _ _ _ rfl rfl rfl rfl O8 (dg (by kernel_rfl)) (@gE _ _ _ _ (@bh _ _ _ _ _ _ _ _ _ (kZ rfl) (by rfl) B.list bS (@aa _ _ _ _ _ (@aq _ 3 _ _ (by walk_at "v")) (@aj _) (by rfl)) (by decide) (by decide) (by rfl) (by rfl))) (λ _ _ _ _=>(@Bp _ _ _ (@aL _ _ _ _ _ _ _ _ cY (@aY _ _ _ _ _ _ _ aQ (@pk _ 0 _ _ (by kernel_rfl) (by kernel_rfl) (by decide) (by decide)) (@ak _ _ _ _) (λ _ _=>rfl)) (@dD _ _ _ _) (aP _)))) (λ _ _ _ _=>(@pk _ 0 _ _ (by kernel_rfl) (by kernel_rfl) (by decide) (by decide))) (by intro _;rfl)) (@aj _) (by rfl)) (by decide) (by decide) (by rfl) (by rfl)) (by rfl) (by walk_at "o4")) (@af _ _ _ _ _ (@aS _ _ _ _ _ _ _ _ (@PW.pt _ _ _ (@pw_and _ _ _ _ _ _ _ (@aL _ _ _ _ _ _ _ _ cY (@av _ _ _ _ _ _ _ _ aH (@aq _ 4 _ _ (by walk_at "v")) (@ak _ _ _ _)) (@ak _ _ _ _) (aP _)) (@pw_and1 _ _ _ _ (@aL _ _ _ _ _ _ _ _ Gx (@aJ _ _ _ _ _ _ _ _ _ aO (by rfl) B.len bK (@aa _ _ _ _ _ (@aq _ 6 _ _ (by walk_at "v")) (@aj _) (by rfl)) (by decide) (by decide) (by rfl) (by rfl)) (@ak _ _ _ _) (aP _))))) (@af _ _ _ _ _ (@aK _ _ 9 _ _ _ _ sc.nd rfl (by walk_at "o2") (@fu _ _ _ _ _ (@aa _ _ _ _ _ (@dD _ _ _ _) (@aa _ _ _ _ _ (@aY _ _ _ _ _ _ _ aQ (@aq _ 6 _ _ (by walk_at "v")) (@av _ _ _ _ _ _ _ _ aH (@av _ _ _ _ _ _ _ _ bI (@aq _ 4 _ _ (by walk_at "v")) (@ak _ _ _ _)) (@aJ _ _ _ _ _ _ _ _ _ aO (by rfl) B.len bK (@aa _ _ _ _ _ (@aq _ 6 _ _ (by walk_at "v")) (@aj _) (by rfl)) (by decide) (by decide) (by rfl) (by rfl))) (λ _ _=>rfl)) (@aj _) (by rfl)) (by rfl))) (by rfl) (by walk_at "o4")) (@af _ _ _ _ _ (@bJ _ _ _ _ _ _ (@bE _ _ _) (@bN _ _ _ _ _ _ _ (@aq _ 2 _ _ (by walk_at "v")) (@sD _ _ _ _ _ _ _ _ _ _ _ _ PySem.F.plainAttrs_list PySem.F.slot_list_index PySem.F.type_list_index pA (@aq _ 2 _ _ (by walk_at "v")) (@aa _ _ _ _ _ (@aY _ _ _ _ _ _ _ aQ (@aq _ 9 _ _ (by walk_at "v")) (@ak _ _ _ _) (λ _ _=>rfl)) (@aj _) (by rfl)) (by rfl) (by rfl) (by rfl) (by rfl) (by rfl)) set_list (by intro _;rfl)) (by rfl) (by rfl) (by rfl)) (@af _ _ _ _ _ (@bJ _ _ _ _ _ _ (@aq _ 9 _ _ (by walk_at "v")) (@bN _ _ _ _ _ _ _ (@aq _ 1 _ _ (by walk_at "v")) (@aq _ 5 _ _ (by walk_at "v")) set_list (by intro _;rfl)) (by rfl) (by rfl) (by rfl)) (@ao _ _ _ (@aE _ _ _ _ (@aC _ _ _ _ _ _ _ _ _ _ _ aW (hr.mono (by omega)) (by rfl) aB (@aa _ _ _ _ _ (@aC _ _ _ _ _ _ _ _ _ _ _ G7 (hr.mono (by omega)) (by rfl) aB (@aa _ _ _ _ _ (@aq _ 0 _ _ (by walk_at "v")) (@aa _ _ _ _ _ (@aq _ 9 _ _ (by walk_at "v")) (@aj _) (by rfl)) (by rfl)) (by decide) (by rfl) (by rfl)) (@aa _ _ _ _ _ (@fu _ _ _ _ _ (@aa _ _ _ _ _ (@aq _ 5 _ _ (by walk_at "v")) (@aa _ _ _ _ _ (@bP _ _ _ _) (@aj _) (by rfl)) (by rfl))) (@aj _) (by rfl)) (by rfl)) (by decide) (by rfl) (by rfl))))))) (@aF _)) (@af _ _ _ _ _ (@aS _ _ _ _ _ _ _ _ (@PW.pt _ _ _ (@pw_and _ _ _ _ _ _ _ (@aL _ _ _ _ _ _ _ _ cY (@av _ _ _ _ _ _ _ _ aH (@aq _ 4 _ _ (by walk_at "v")) (@ak _ _ _ _)) (@ak _ _ _ _) (aP _)) (@pw_and1 _ _ _ _ (@aL _ _ _ _ _ _ _ _ Gx (@aJ _ _ _ _ _ _ _ _ _ aO (by rfl) B.len bK (@aa _ _ _ _ _ (@aq _ 7 _ _ (by walk_at "v")) (@aj _) (by rfl)) (by decide) (by decide) (by rfl) (by rfl)) (@ak _ _ _ _) (aP _))))) (@af _ _ _ _ _ (@aK _ _ 9 _ _ _ _ sc.nd rfl (by walk_at "o2") (@aY _ _ _ _ _ _ _ aQ (@aq _ 7 _ _ (by walk_at "v")) (@av _ _ _ _ _ _ _ _ aH (@av _ _ _ _ _ _ _ _ bI (@aq _ 4 _ _ (by walk_at "v")) (@ak _ _ _ _)) (@aJ _ _ _ _ _ _ _ _ _ aO (by rfl) B.len bK (@aa _ _ _ _ _ (@aq _ 7 _ _ (by walk_at "v")) (@aj _) (by rfl)) (by decide) (by decide) (by rfl) (by rfl))) (λ _ _=>rfl)) (by rfl) (by walk_at "o4")) (@af _ _ _ _ _ (@bJ _ _ _ _ _ _ (@aq _ 9 _ _ (by walk_at "v")) (@bN _ _ _ _ _ _ _ (@aq _ 1 _ _ (by walk_at "v")) (@aq _ 5 _ _ (by walk_at "v")) set_list (by intro _;rfl)) (by rfl) (by rfl) (by rfl)) (@ao _ _ _ (@aE _ _ _ _ (@aC _ _ _ _ _ _ _ _ _ _ _ aW (hr.mono (by omega)) (by rfl) aB (@aa _ _ _ _ _ (@aC _ _ _ _ _ _ _ _ _ _ _ G7 (hr.mono (by omega)) (by rfl) aB (@aa _ _ _ _ _ (@aq _ 0 _ _ (by walk_at "v")) (@aa _ _ _ _ _ (@aq _ 9 _ _ (by walk_at "v")) (@aj _) (by rfl)) (by rfl)) (by decide) (by rfl) (by rfl)) (@aa _ _ _ _ _ (@fu _ _ _ _ _ (@aa _ _ _ _ _ (@aq _ 5 _ _ (by walk_at "v")) (@aa _ _ _ _ _ (@bP _ _ _ _) (@aj _) (by rfl)) (by rfl))) (@aj _) (by rfl)) (by rfl)) (by decide) (by rfl) (by rfl)))))) (@aF _)) (@af _ _ _ _ _ (@aS _ _ _ _ _ _ _ _ (@PW.pt _ _ _ (@pw_and _ _ _ _ _ _ _ (@aL _ _ _ _ _ _ _ _ Gx (@av _ _ _ _ _ _ _ _ aH (@aq _ 4 _ _ (by walk_at "v")) (@ak _ _ _ _)) (@ak _ _ _ _) (aP _)) (@pw_and1 _ _ _ _ (@aL _ _ _ _ _ _ _ _ Gx (@av _ _ _ _ _ _ _ _ gY (@av _ _ _ _ _ _ _ _ aV (@av _ _ _ _ _ _ _ _ gY (@aJ _ _ _ _ _ _ _ _ _ aO (by rfl) B.len bK (@aa _ _ _ _ _ (@aq _ 1 _ _ (by walk_at "v")) (@aj _) (by rfl)) (by decide) (by decide) (by rfl) (by rfl)) (@ak _ _ _ _)) (@aJ _ _ _ _ _ _ _ _ _ aO (by rfl) B.len bK (@aa _ _ _ _ _ (@aq _ 2 _ _ (by walk_at "v")) (@aj _) (by rfl)) (by decide) (by decide) (by rfl) (by rfl))) (@aq _ 8 _ _ (by walk_at "v"))) (@ak _ _ _ _) (aP _))))) (@af _ _ _ _ _ (@aK _ _ 9 _ _ _ _ sc.nd rfl (by walk_at "o2") (@fu _ _ _ _ _ (@aa _ _ _ _ _ (@dD _ _ _ _) (@aa _ _ _ _ _ (@av _ _ _ _ _ _ _ _ aV (@ak _ _ _ _) (@aq _ 8 _ _ (by walk_at "v"))) (@aj _) (by rfl)) (by rfl))) (by rfl) (by walk_at "o4")) (@af _ _ _ _ _ (@l8 _ _ _ _ _ _ _ _ _ hu (@aq _ 3 _ _ (by walk_at "v")) (@aq _ 9 _ _ (by walk_at "v")) (@aC _ _ _ _ _ _ _ _ _ _ _ oQ (hr.mono (by omega)) (by rfl) aB (@aa _ _ _ _ _ (@aq _ 4 _ _ (by walk_at "v")) (@aj _) (by rfl)) (by decide) (by rfl) (by rfl)) rfl) (@af _ _ _ _ _ (@bJ _ _ _ _ _ _ (@aq _ 9 _ _ (by walk_at "v")) (@bN _ _ _ _ _ _ _ (@aq _ 1 _ _ (by walk_at "v")) (@aq _ 5 _ _ (by walk_at "v")) set_list (by intro _;rfl)) (by rfl) (by rfl) (by rfl)) (@ao _ _ _ (@aE _ _ _ _ (@aC _ _ _ _ _ _ _ _ _ _ _ aW (hr.mono (by omega)) (by rfl) aB (@aa _ _ _ _ _ (@aC _ _ _ _ _ _ _ _ _ _ _ Ea (hr.mono (by omega)) (by rfl) aB (@aa _ _ _ _ _ (@aq _ 0 _ _ (by walk_at "v")) (@aa _ _ _ _ _ (@bh _ _ _ _ _ _ _ _ _ (aT (K:=K) rfl) (by rfl) B.list bS (@aa _ _ _ _ _ (@iB _ _ _ _ _ _ hu (@aq _ 3 _ _ (by walk_at "v")) (@aq _ 9 _ _ (by walk_at "v")) (λ _ _=>rfl)) (@aj _) (by rfl)) (by decide) (by decide) (by rfl) (by rfl)) (@aj _) (by rfl)) (by rfl)) (by decide) (by rfl) (by rfl)) (@aa _ _ _ _ _ (@fu _ _ _ _ _ (@aa _ _ _ _ _ (@av _ _ _ _ _ _ _ _ aV (@ak _ _ _ _) (@aq _ 8 _ _ (by walk_at "v"))) (@aa _ _ _ _ _ (@aq _ 5 _ _ (by walk_at "v")) (@aj _) (by rfl)) (by rfl))) (@aj _) (by rfl)) (by rfl)) (by decide) (by rfl) (by rfl))))))) (@aF _)) (@ao _ _ _ (@aE _ _ _ _ (@bP _ _ _ _))))))))))),?_⟩
  refine aG λ M1 K1 => ?_
  walk_at "ge"
  by_cases hf : ∃ i:Nat,S.F.hs[i]? = some none
  ·refine Bw (neg:=true) (b:=true) eS d1 d2 o1 o2 (iff_of_true rfl (Ms.mpr hf)) ?_
   obtain ⟨i,h1,h2⟩:=Js hf
   have hin:i < n:=by rw [<-lr.g.f.h];exact (List.getElem?_eq_some_iff.mp h1).1
   walk_at "ge"
   refine K1.use ?_
   walk_at "cl"
   clear K1
   refine aG λ M1 K1 => ?_
   walk_at "ge"
   refine ⟨Dl eS,?_⟩
   walk_at "ge"
   refine GK eS d1 d2 o1 o2 (j:=i) (by rw [List.getElem?_map,h1];rfl) (λ m e hm he => ?_) ?_
   ·rw [List.getElem?_map] at he
    obtain ⟨z,hz,rfl⟩:=Option.map_eq_some_iff.mp he
    refine λ w=>h2 m z hm hz ?_
    cases z with
    | none=>rfl
    | some z=>exact nomatch (fJ.mp w)
   walk_at "ge"
   refine K1.use ?_
   walk_at "cl"
   clear K1 d1 d2 eS
   refine aG λ M1 K1 => ?_
   have kI:=hL.get (St.up (mC (mC mS)))
   walk_at "ge"
   refine vv λ Lc mZ => ?_
   walk_at "ge"
   refine ⟨sf,rfl,⟨_,fq.of kI⟩,mZ.use ?_⟩
   clear mZ
   have hml:S.ps.map id=S.ps:=List.map_id _
   have hpl:=lr.g.pl
   have hq6:=lr.g.q6
   refine qx S.ps id (λ v => !jA v) hL (by rw [hml];exact St.up (mC (mC mS))) (by omega) (λ v H2 R x hv hl2 hR => ?_) (λ v H2 R x hv hl2 hR => ?_) (λ ly H2 hl2 => ?_)
   ·dsimp only [id]
    rcases lr.g.pe v hv with rfl | ⟨m,rfl⟩
    ·walk_at "ge"
     exact hR _ hl2
    ·walk_at "ge"
     exact hR _ hl2
   ·dsimp only [id]
    walk_at "ge"
    exact hR _ hl2
   ·rw [List.map_id] at hl2
    clear kI
    walk_at "ge"
    refine K1.use ?_
    walk_at "cl"
    clear K1
    refine aG λ M1 K1 => ?_
    have oS:=hl2.get (mC (St.up (mC (mC (mC mS)))))
    walk_at "ge"
    refine vv λ Lc mZ => ?_
    walk_at "ge"
    refine r8 oS hl2 λ l ys H3 ey hl3 => ?_
    refine ⟨l,rfl,⟨_,fq.of (hl3.get mS)⟩,mZ.use ?_⟩
    clear mZ oS
    have hyl:ys.length=ts.length:=by have:=congrArg List.length ey;simpa using this
    have okY : ∀ y∈ys,F4 y.2:=λ y hy=>by
     have:y.2∈ts.map (·.1):=by rw [<-ey];exact List.mem_map.mpr ⟨y,hy,rfl⟩
     obtain ⟨e,he,e2⟩:=List.mem_map.mp this
     have e2':e.1=y.2:=e2
     rw [<-e2']
     exact (lr.rw e he).2.2
    have Tt:Led H3 ((l,HO.lst (ys.map λ y=>V.ref y.1))::(OB ys++((ly,HO.lst (S.ps.filter λ v => !jA v))::bw cT cF cD cS cI S (eT sp mk sf rd us S ts++M)))):=hl3
    have RB : ∀ {x:Addr×HO},x∈eT sp mk sf rd us S ts++M->x∈(l,HO.lst (ys.map λ y=>V.ref y.1))::(OB ys++((ly,HO.lst (S.ps.filter λ v => !jA v))::bw cT cF cD cS cI S (eT sp mk sf rd us S ts++M))):=λ hx=>mC (mA (mC (St.up hx)))
    refine qx ys (λ y=>V.ref y.1) (λ y=>bg y.2 && !m7 S y.2) Tt List.mem_cons_self (by omega) (λ y H4 R x hy bT hR => ?_) (λ y H4 R x hy bT hR => ?_) (λ wa H4 bT => ?_)
    ·have MN:=bT.get (mC (mC (mB (List.mem_map.mpr ⟨y,hy,rfl⟩))))
     have eS:=bT.get (mC (RB mS))
     have d1:eB H4 (.ref y.1) (PySem.W.kqdP (ek (some y.2))):=xE MN
     have d2:=lr.s.dat bT (λ x hx=>mC (RB (mA hx)))
     have o1:=(okY y hy).dat
     obtain ⟨ya,yt⟩:=y
     cases yt with
     | own m =>
       have RJ:H4 ya=some (.tup [.str (Str.ofString "own"),.int m]):=MN
       have hne : ¬ Str.ofString "own" = Str.ofString "file" := by decide +kernel
       clear MN
       dsimp only
       walk_at "ge"
       ·exact absurd (by assumption) hne
       ·exact hR _ bT
     | file z p =>
       have RJ:H4 ya=some (.tup [.str (Str.ofString "file"),.str z,.int p]):=MN
       clear MN
       dsimp only
       walk_at "ge"
       ·refine Bw (neg:=true) (b:=m7 S (.file z p)) eS d1 d2 o1 o2 D9 ?_
        have hR2:=hR H4 bT
        dsimp only [bg] at hR2
        rw [Bool.true_and] at hR2
        rw [if_pos rfl]
        walk_at "ge"
        exact hR2
       ·exact absurd rfl (by assumption)
    ·walk_at "ge"
     exact hR _ bT
    ·clear hl2 hl3 Tt
     walk_at "ge"
     refine K1.use ?_
     walk_at "cl"
     clear K1
     refine aG λ M1 K1 => ?_
     have oS:=bT.get (mC (RB (mC (mC (mC mS)))))
     walk_at "ge"
     refine vv λ Lc mZ => ?_
     walk_at "ge"
     refine r8 oS bT λ l2 Sq H5 ey2 c7 => ?_
     refine ⟨l2,rfl,⟨_,fq.of (c7.get mS)⟩,mZ.use ?_⟩
     clear mZ oS
     have abi:Sq.length=ts.length:=by have:=congrArg List.length ey2;simpa using this
     refine qx Sq (λ y=>V.ref y.1) (λ y => !bg y.2) c7 List.mem_cons_self (by omega) (λ y H6 R x hy fL hR => ?_) (λ y H6 R x hy fL hR => ?_) (λ om H6 fL => ?_)
     ·have MN:=fL.get (mC (mC (mB (List.mem_map.mpr ⟨y,hy,rfl⟩))))
      obtain ⟨ya,yt⟩:=y
      cases yt with
      | own m =>
        have RJ:H6 ya=some (.tup [.str (Str.ofString "own"),.int m]):=MN
        clear MN
        dsimp only
        walk_at "ge"
        exact hR _ fL
      | file z p =>
        have RJ:H6 ya=some (.tup [.str (Str.ofString "file"),.str z,.int p]):=MN
        clear MN
        have hne : ¬ Str.ofString "file" = Str.ofString "own" := by decide +kernel
        dsimp only
        walk_at "ge"
        rw [decide_eq_false hne]
        exact hR _ fL
     ·walk_at "ge"
      exact hR _ fL
     ·have hmade:(((Sq.filter λ y => !bg y.2).map λ y=>V.ref y.1).length:Int)=S.made:=by
       rw [List.length_map,<-lr.cnt]
       have h7 : ∀ l:List (Addr×Th),(l.filter λ y => !bg y.2).length=((l.map (·.2)).filter λ b => !bg b).length:=λ l=>by
        rw [List.filter_map,List.length_map]
        rfl
       have h8 : ∀ l:Ts,(l.filter λ e => !bg e.1).length=((l.map (·.1)).filter λ b => !bg b).length:=λ l=>by
        rw [List.filter_map,List.length_map]
        rfl
       rw [h7,h8,ey2]
      have c_o:=fL.get mS
      walk_at "ge"
      rw [hmade]
      refine K1.use ?_
      walk_at "cl"
      clear K1 c_o
      obtain ⟨A,eA⟩ : ∃ A:Cells,(om,HO.lst ((Sq.filter λ y => !bg y.2).map λ y=>V.ref y.1))::(l2,HO.lst (Sq.map λ y=>V.ref y.1))::(OB Sq++((wa,HO.lst ((ys.filter λ y=>bg y.2 && !m7 S y.2).map λ y=>V.ref y.1))::(l,HO.lst (ys.map λ y=>V.ref y.1))::(OB ys++[(ly,HO.lst (S.ps.filter λ v => !jA v))])))=A:=⟨_,rfl⟩
      have jx:Led H6 (A++bw cT cF cD cS cI S (eT sp mk sf rd us S ts++M)):=by
       rw [<-eA]
       simp only [List.cons_append,List.append_assoc,List.nil_append]
       exact fL
      have abj:(ly,HO.lst (S.ps.filter λ v => !jA v))∈A:=by rw [<-eA];simp
      have abk:(wa,HO.lst ((ys.filter λ y=>bg y.2 && !m7 S y.2).map λ y=>V.ref y.1))∈A:=by rw [<-eA];simp
      have abl : ∀ y∈ys,(y.1,HO.tup (gv y.2))∈A:=λ y hy=>by
       have:(y.1,HO.tup (gv y.2))∈OB ys:=List.mem_map.mpr ⟨y,hy,rfl⟩
       rw [<-eA]
       simp [this]
      have nD:Led H6 (bw cT cF cD cS cI S (eT sp mk sf rd us S ts++(A++M))):=St.nG (St.j8 _ jx) (aN A _ M)
      have xU:=lr.mono (M':=A++M) λ x hx=>mA hx
      clear bT c7 fL jx RB eA hmade abi ey2 hL
      refine aG λ M1 K1 => ?_
      have abm:=nD.get (St.up (mA (mB abj)))
      have xT:M1 [some (.ref S.b),some (.ref sp),some (.ref sf),some (.ref rd),some (.int c),some (.int (i:Nat)),some (.ref ly),some (.ref wa),some (.int S.made),none] H6:=by
       refine K1.use ?_
       clear K1 abm
       have UU:=nD.get (St.up (mA (mB abk)))
       have eV:Led H6 (eT sp mk sf rd us S ts++bw cT cF cD cS cI S (A++M)):=St.AX [] _ nD
       have eS:=eV.get mS
       refine aG λ M1 K1 => ?_
       have nF:M1 [some (.ref S.b),some (.ref sp),some (.ref sf),some (.ref rd),some (.int c),some (.int (i:Nat)),some (.ref ly),some (.ref wa),some (.int S.made),none] H6:=by
        refine K1.use ?_
        clear K1 UU
        have kI:=eV.get (mC (mC mS))
        refine aG λ M1 K1 => ?_
        have A0:M1 [some (.ref S.b),some (.ref sp),some (.ref sf),some (.ref rd),some (.int c),some (.int (i:Nat)),some (.ref ly),some (.ref wa),some (.int S.made),none] H6:=by
         refine K1.use ?_
         walk_at "ge"
         exact k S us ts A H6 rfl rfl (Nat.le_succ _) xU nD
        clear K1
        walk_at "ge"
        ·rename_i t H7 _ jP _ _ _ _ _ _ _ _ _
         have e1m:1+S.made=S.made+1:=Int.add_comm ..
         rw [e1m] at jP
         have hgt:0 < (us.length:Int) - 1+(S.ps.length:Int) - S.made:=by assumption
         have hhm:=lr.hm
         have hroom:(n:Int) - 1+(q:Int) - (S.hs.length:Int)≠0:=by omega
         have afm:=lr.gh.most
         have NW:S.hs.length<=600:=by omega
         have hbc:Builtin.Int.intBits c<=1400000:=Nat.le_trans (vA c0 c9) (by decide)
         refine ⟨c,_,rfl,hbc,jP,λ r0 H8 gO => ?_⟩
         obtain ⟨CO,RK⟩ : ∃ CO:Ts,CO=ts++[(.own (S.made+1),r0,rowOf c)]:=⟨_,rfl⟩
         have Q7:(CO.map (·.1)).Nodup:=by
          rw [RK,List.map_append]
          refine List.nodup_append.mpr ⟨lr.nd,by simp,λ x hx y hy e => ?_⟩
          have hy':y = .own (S.made+1):=by simpa using hy
          exact lr.fresh (hy' ▸ e ▸ hx)
         have hv2:bB (uI CO) (lZ (.own (S.made+1)))=some (.ref r0):=Cw (e:=(.own (S.made+1),r0,rowOf c)) Q7 (by rw [RK];exact mA mS)
         have oS:=gO.get (mC (mC (mC (mC (mC mS)))))
         have AU:H8 t=some (.tup ((lZ (.own (S.made+1))).map kV)):=by rw [sS];exact gO.get (mC mS)
         clear jP eS kI eV nD
         walk_at "ge"
         refine Mp oS AU (by rw [uS];omega) ?_
         rw [G1 r0 (rowOf c) lr.fresh,<-RK]
         have gj:Led (upd H8 rd (.dT (uI CO))) ((r0,HO.lst ((rowOf c).map V.int))::(t,HO.tup (gv (.own (S.made+1))))::([(sp,HO.lst us),(mk,.lst (S.bs.map V.bl)),(sf,.lst S.ps),(rd,.dT (uI CO))]++bw cT cF cD cS cI S (A++M))):=gO.jG 5 rfl rfl rfl
         generalize upd H8 rd (.dT (uI CO))=H9 at gj ⊢
         clear oS AU gO
         have eS:=gj.get (mC (mC mS))
         walk_at "ge"
         refine cQ eS (bG (by omega) (by omega)) ?_
         rw [Int.toNat_natCast]
         have gy:Led (upd H9 sp (.lst (us.set i (.ref t)))) ([(r0,HO.lst ((rowOf c).map V.int)),(t,HO.tup (gv (.own (S.made+1))))]++(eT sp mk sf rd (us.set i (.ref t)) S CO++bw cT cF cD cS cI S (A++M))):=gj.jG 2 rfl rfl rfl
         generalize upd H9 sp (.lst (us.set i (.ref t)))=Nm at gy ⊢
         clear eS gj
         have oS:=gy.get (mA (mC (mC (mC mS))))
         have AU:Nm t=some (.tup ((lZ (.own (S.made+1))).map kV)):=by rw [sS];exact gy.get (mC mS)
         have c_0:=gy.get mS
         walk_at "ge"
         refine G5 oS AU hv2 ?_
         walk_at "ge"
         rename_i r1 O7 _ lY _
         obtain ⟨X2,V1⟩ : ∃ X2:Cells,[(r1,HO.lst ((rowOf c).map V.int)),(r0,HO.lst ((rowOf c).map V.int)),(t,HO.tup (gv (.own (S.made+1))))]=X2:=⟨_,rfl⟩
         have D6:Led O7 ((X2++eT sp mk sf rd (us.set i (.ref t)) S CO)++bw cT cF cD cS cI S (A++M)):=by rw [<-V1];exact lY
         have Jt:=St.j8 _ D6
         rw [List.append_assoc] at Jt
         clear gy lY D6 oS AU c_0
         have i_1:(r1,HO.lst ((rowOf c).map V.int))∈X2:=by rw [<-V1];exact mS
         have i_0:(r0,HO.lst ((rowOf c).map V.int))∈X2:=by rw [<-V1];exact mC mS
         have CK:(t,HO.tup (gv (.own (S.made+1))))∈X2:=by rw [<-V1];exact mC (mC mS)
         have upA : ∀ x∈A++M,x∈X2++(A++M):=λ x hx=>mA hx
         have r9:=xU.mono upA
         refine ⟨S,n,q,r1,rowOf c,_,rfl,Jt,xU.g.mono (λ x hx=>mA (mA hx)),mB i_1,mG c,NW,lr.gh.fresh,lr.gh.key,λ h=>absurd h hroom,λ _ hall _=>hall none (List.mem_of_getElem? h1) rfl,λ _ i' S1 t' r p N H12 hH abn abo g2 PD abp => ?_⟩
         have UW:=hH
         rcases hH with ⟨q1,q2,l5⟩ | ⟨hall,_⟩
         case inr=>exact absurd rfl (hall none (List.mem_of_getElem? h1))
         have ei:i' = i:=by
          rcases Nat.lt_trichotomy i' i with hlt | he | hlt
          ·exact absurd rfl (h2 i' none hlt q1)
          ·exact he
          ·exact absurd rfl (q2 i none hlt h1)
         subst ei
         subst l5
         have hs1:j7 S1 us (N++(X2++(A++M))):=r9.s.mono λ x hx=>mA hx
         have MO:=Lr.L5 (CN:=us) (t:=t') (r:=r) (u:=t) (d:=r0) r9 hroom (mG c) UW (mB abn) (mB abo) (mA (mB CK)) (mA (mB i_0)) hs1
         rw [<-RK] at MO
         have LX:=abp.get (St.up (mB PD))
         walk_at "ge"
         rename_i t2 H13 _ OC _
         rw [e1m] at OC
         have hal:Alike H13 2 (.ref p) (.ref t2) := .inr ⟨p,t2,_,_,rfl,rfl,.inr ⟨OC.get (mC (St.up (mB PD))),OC.get mS⟩,rfl,by show 2<=100000;decide,λ j x y hx hy=>by
          rw [hx] at hy
          cases hy
          match j,hx with
          | 0,hx=>cases hx;exact .inl (.inr (.inr (.inl ⟨_,rfl,rfl⟩)))
          | 1,hx=>cases hx;exact .inl (.inr (.inr (.inl ⟨_,rfl,rfl⟩)))
          | j+2,hx=>cases hx⟩
         refine ⟨_,_,rfl,hal,?_⟩
         walk_at "ge"
         refine k { S1 with made:=S1.made+1,hs:=S1.hs++[(S1.made+1,1)],F:=S1.F.fill i' (some (t',.own (S1.made+1))) (some (r,rowOf c)) false } (us.set i' (.ref t)) CO ((t2,HO.tup [.int (S1.made+1),.int (i':Nat)])::(N++(X2++A))) H13 rfl rfl (by rw [RK,List.length_append];exact Nat.le_refl _) (MO.mono λ x hx => ?_) ?_
         ·have e5:(t2,HO.tup [.int (S1.made+1),.int (i':Nat)])::(N++(X2++A))++M=(t2,HO.tup [.int (S1.made+1),.int (i':Nat)])::(N++(X2++(A++M))):=by simp
          rw [e5]
          exact mC hx
         ·refine St.nG (St.push OC) ?_
          have e6 : ∀ Lw:Cells,(t2,HO.tup [.int (S1.made+1),.int (i':Nat)])::(N++(X2++(Lw++(A++M))))=((t2,HO.tup [.int (S1.made+1),.int (i':Nat)])::(N++X2))++(Lw++(A++M)):=λ Lw=>by simp
          have e7 : ∀ Lw:Cells,Lw++((t2,HO.tup [.int (S1.made+1),.int (i':Nat)])::(N++(X2++A))++M)=Lw++(((t2,HO.tup [.int (S1.made+1),.int (i':Nat)])::(N++X2))++(A++M)):=λ Lw=>by simp
          rw [e7]
          exact e6 (eT sp mk sf rd (us.set i' (.ref t)) S1 CO) ▸ aN _ (eT sp mk sf rd (us.set i' (.ref t)) S1 CO) _
        ·exact A0
        ·exact A0
       clear K1
       rcases US (S:=S) (ys:=ys) (c / 4) with h0 | ⟨y,hy,y1,y2,hat⟩
       ·walk_at "ge"
        ·exfalso;omega
        ·exact nF
        ·exact nF
       ·walk_at "ge"
        ·refine cQ eS (bG (by omega) (by omega)) ?_
         rw [Int.toNat_natCast]
         obtain ⟨t,yt⟩:=y
         cases yt with
         | own m=>cases y1
         | file z pg =>
           have gy:Led (upd H6 sp (.lst (us.set i (.ref t)))) (eT sp mk sf rd (us.set i (.ref t)) (gone S (.file z pg)) ts++bw cT cF cD cS cI S (A++M)):=eV.jG 0 rfl rfl rfl
           generalize upd H6 sp (.lst (us.set i (.ref t)))=H9 at gy ⊢
           clear eV eS UU nD
           have gj:=St.j8 _ gy
           clear gy
           obtain ⟨X3,eX3⟩ : ∃ X3:Cells,A=X3:=⟨_,rfl⟩
           obtain ⟨M3,RL⟩ : ∃ M3:Cells,M3=X3++M:=⟨_,rfl⟩
           have e3:A++M=M3:=by rw [RL,<-eX3]
           rw [e3] at gj
           have CK:(t,HO.tup (gv (.file z pg)))∈M3:=by rw [<-e3];exact mB (abl _ hy)
           have r9:Lr n q S us ts M3:=xU.mono λ x hx=>by rw [<-e3];exact hx
           have OD : ¬ uT S (.file z pg):=λ hx=>by
            have h5:=D9.mpr (uT.dat.mp hx)
            have h6:m7 S (.file z pg)=false:=y2
            rw [h5] at h6
            cases h6
           have UX:F4 (.file z pg):=okY _ hy
           have hkey:Th.file z pg∈ts.map (·.1):=by rw [<-ey];exact List.mem_map.mpr ⟨_,hy,rfl⟩
           obtain ⟨e0,Uz,em0⟩:=List.mem_map.mp hkey
           have RM:e0.1 = .file z pg:=em0
           obtain ⟨jz,Mt⟩ : ∃ jz,jz=e0.2.2:=⟨_,rfl⟩
           have V2:Back S jz (.file z pg):=by
            have h7:=(lr.rw e0 Uz).2.1
            rw [RM,<-Mt] at h7
            rcases h7 with ⟨j,v,w,h8,_⟩ | ⟨_,h8⟩
            ·exact absurd ⟨j,v,h8⟩ OD
            ·exact h8
           have hnf : ¬ uT S (.file z pg):=OD
           have RN : ∀ (j:Nat) (v:Addr),S.F.hs[j]? ≠ some (some (v,.file z pg)):=λ j v hj=>hnf ⟨j,v,hj⟩
           have g3:=r9.g
           have eF:(gone S (.file z pg)).F=S.F:=(gz S (.file z pg)).2.1
           walk_at "ge"
           refine ⟨S,n,q,t,.file z pg,_,rfl,gj,g3.mono (λ x hx=>mA hx),mA CK,UX,λ _=>⟨jz,V2⟩,λ hall _=>hall none (List.mem_of_getElem? h1) rfl,λ j v p N Nm hj=>absurd hj (RN j v),λ _ row i' S1 r p N Nm hb hH sQ PD gy => ?_⟩
           have UW:=hH
           rcases hH with ⟨q1,q2,l5⟩ | ⟨hall,_⟩
           case inr=>exact absurd rfl (hall none (by rw [eF];exact List.mem_of_getElem? h1))
           rw [eF] at q1 q2
           have ei:i' = i:=by
            rcases Nat.lt_trichotomy i' i with hlt | he | hlt
            ·exact absurd rfl (h2 i' none hlt q1)
            ·exact he
            ·exact absurd rfl (q2 i none hlt h1)
           subst ei
           have OA:S1.p=S.p:=by rw [l5];exact (gz S (.file z pg)).2.2.2.2.2.1
           have Em:S1.b=S.b:=by rw [l5];exact (gz S (.file z pg)).1
           have abq:S1.bs=S.bs:=by rw [l5];exact (gz S (.file z pg)).2.2.2.2.2.2
           have hs1:j7 S1 us (N++M3):=j7.same (S:=S) (by rw [l5,eF]) (r9.s.mono λ x hx=>mA hx)
           have MO:=Lr.G6 (CN:=us) (t:=t) (r:=r) (u:=t) r9 hnf hb UX UW (mA CK) (mB sQ) (mA CK) hs1
           have LX:=gy.get (St.up (mB PD))
           walk_at "ge"
           rename_i t2 O7 _ lY _
           have hal:Alike O7 2 (.ref p) (.ref t2) := .inr ⟨p,t2,_,_,rfl,rfl,.inr ⟨lY.get (mC (St.up (mB PD))),lY.get mS⟩,rfl,by show 2<=100000;decide,λ j x y hx hy=>by
            rw [hx] at hy
            cases hy
            match j,hx with
            | 0,hx=>cases hx;exact .inl (.inr (.inr (.inl ⟨_,rfl,rfl⟩)))
            | 1,hx=>cases hx;exact .inl (.inr (.inl ⟨_,rfl,rfl⟩))
            | j+2,hx=>cases hx⟩
           refine ⟨_,_,rfl,hal,?_⟩
           walk_at "ge"
           refine k { S1 with F:=S1.F.fill i' (some (t,.file z pg)) (some (r,row)) false } (us.set i' (.ref t)) ts ((t2,HO.tup [.int (i':Nat),.bl true])::(N++X3)) O7 Em OA (Nat.le_succ _) (MO.mono λ x hx => ?_) ?_
           ·rw [RL] at hx
            rw [List.cons_append,List.append_assoc]
            exact mC hx
           ·have e9:eT sp mk sf rd (us.set i' (.ref t)) { S1 with F:=S1.F.fill i' (some (t,.file z pg)) (some (r,row)) false } ts=eT sp mk sf rd (us.set i' (.ref t)) (gone S (.file z pg)) ts:=by rw [l5];rfl
            rw [e9]
            refine St.nG (St.push lY) ?_
            rw [RL,List.cons_append,List.append_assoc]
            exact (List.Perm.cons _ (aN N _ _)).trans List.perm_middle.symm
        ·exact nF
        ·exact nF
      clear K1
      rcases UR (ps:=S.ps) lr.g.pe (c / 4) with hly | ⟨m,hm,hat⟩
      ·walk_at "ge"
       ·exfalso;omega
       ·exact xT
       ·exact xT
      ·walk_at "ge"
       ·rename_i t H7 _ jP _ _ _ _ _ _ _ _ _ _ _
        have Lz:m∈S.es.map (·.1):=(lr.g.pk m).mp hm
        have UY:=lr.g.inS Lz
        have hlt:idx S.ps (.int m) < S.ps.length:=(List.getElem?_eq_some_iff.mp (lr.g.int_at UY)).1
        have gO:=St.push jP
        have PF:Led H7 (bw cT cF cD cS cI S ([(t,HO.tup (gv (.own m)))]++(eT sp mk sf rd us S ts++(A++M)))):=gO
        have eV:=St.AX _ _ PF
        have kI:=eV.get (mC (mC mS))
        have AU:H7 t=some (.tup [.str (Str.ofString "own"),.int m]):=jP.get mS
        refine ⟨Dl kI,?_⟩
        walk_at "ge"
        refine N7 kI rfl lr.g.flat UY ?_
        walk_at "ge"
        refine cQ kI (bG (by omega) (by omega)) ?_
        rw [Int.toNat_natCast]
        have gj:Led (upd H7 sf (.lst (S.ps.set (idx S.ps (.int m)) .aI))) ([(sp,HO.lst us),(mk,.lst (S.bs.map V.bl)),(sf,.lst (S.ps.set (idx S.ps (.int m)) .aI)),(rd,.dT (uI ts))]++bw cT cF cD cS cI S ([(t,HO.tup (gv (.own m)))]++(A++M))):=eV.jG 2 rfl rfl rfl
        generalize upd H7 sf (.lst (S.ps.set (idx S.ps (.int m)) .aI))=H8 at gj ⊢
        clear jP gO PF eV kI
        have eS:=gj.get mS
        walk_at "ge"
        refine cQ eS (bG (by omega) (by omega)) ?_
        rw [Int.toNat_natCast]
        have gy:Led (upd H8 sp (.lst (us.set i (.ref t)))) (eT sp mk sf rd (us.set i (.ref t)) (gone S (.own m)) ts++bw cT cF cD cS cI S ([(t,HO.tup (gv (.own m)))]++(A++M))):=gj.jG 0 rfl rfl rfl
        generalize upd H8 sp (.lst (us.set i (.ref t)))=H9 at gy ⊢
        clear gj eS
        have gj:=St.j8 _ gy
        clear gy
        obtain ⟨X3,eX3⟩ : ∃ X3:Cells,(t,HO.tup (gv (.own m)))::A=X3:=⟨_,rfl⟩
        obtain ⟨M3,RL⟩ : ∃ M3:Cells,M3=X3++M:=⟨_,rfl⟩
        have e3:[(t,HO.tup (gv (.own m)))]++(A++M)=M3:=by rw [RL,<-eX3];rfl
        rw [e3] at gj
        have CK:(t,HO.tup (gv (.own m)))∈M3:=by rw [<-e3];exact mS
        have r9:Lr n q S us ts M3:=xU.mono λ x hx=>by rw [<-e3];exact mC hx
        obtain ⟨e0,Uz,em0⟩:=List.mem_map.mp Lz
        have RM:e0.1=m:=em0
        have V2:Back S e0.2.2 (.own m):=⟨e0.2.1,by rw [<-RM];exact Uz⟩
        obtain ⟨jz,Mt⟩ : ∃ jz,jz=e0.2.2:=⟨_,rfl⟩
        rw [<-Mt] at V2
        have UX:F4 (.own m):=True.intro
        have OD : ¬ uT S (.own m):=λ ⟨j,v,hj⟩=>lr.g.ap j v m hj Lz
        have hnf : ¬ uT S (.own m):=OD
        have RN : ∀ (j:Nat) (v:Addr),S.F.hs[j]? ≠ some (some (v,.own m)):=λ j v hj=>hnf ⟨j,v,hj⟩
        have g3:=r9.g
        have eF:(gone S (.own m)).F=S.F:=(gz S (.own m)).2.1
        walk_at "ge"
        refine ⟨S,n,q,t,.own m,_,rfl,gj,g3.mono (λ x hx=>mA hx),mA CK,UX,λ _=>⟨jz,V2⟩,λ hall _=>hall none (List.mem_of_getElem? h1) rfl,λ j v p N Nm hj=>absurd hj (RN j v),λ _ row i' S1 r p N Nm hb hH sQ PD gy => ?_⟩
        have UW:=hH
        rcases hH with ⟨q1,q2,l5⟩ | ⟨hall,_⟩
        case inr=>exact absurd rfl (hall none (by rw [eF];exact List.mem_of_getElem? h1))
        rw [eF] at q1 q2
        have ei:i' = i:=by
         rcases Nat.lt_trichotomy i' i with hlt | he | hlt
         ·exact absurd rfl (h2 i' none hlt q1)
         ·exact he
         ·exact absurd rfl (q2 i none hlt h1)
        subst ei
        have OA:S1.p=S.p:=by rw [l5];exact (gz S (.own m)).2.2.2.2.2.1
        have Em:S1.b=S.b:=by rw [l5];exact (gz S (.own m)).1
        have abq:S1.bs=S.bs:=by rw [l5];exact (gz S (.own m)).2.2.2.2.2.2
        have hs1:j7 S1 us (N++M3):=j7.same (S:=S) (by rw [l5,eF]) (r9.s.mono λ x hx=>mA hx)
        have MO:=Lr.G6 (CN:=us) (t:=t) (r:=r) (u:=t) r9 hnf hb UX UW (mA CK) (mB sQ) (mA CK) hs1
        have LX:=gy.get (St.up (mB PD))
        walk_at "ge"
        rename_i t2 O7 _ lY _
        have hal:Alike O7 2 (.ref p) (.ref t2) := .inr ⟨p,t2,_,_,rfl,rfl,.inr ⟨lY.get (mC (St.up (mB PD))),lY.get mS⟩,rfl,by show 2<=100000;decide,λ j x y hx hy=>by
         rw [hx] at hy
         cases hy
         match j,hx with
         | 0,hx=>cases hx;exact .inl (.inr (.inr (.inl ⟨_,rfl,rfl⟩)))
         | 1,hx=>cases hx;exact .inl (.inr (.inl ⟨_,rfl,rfl⟩))
         | j+2,hx=>cases hx⟩
        refine ⟨_,_,rfl,hal,?_⟩
        walk_at "ge"
        refine k { S1 with F:=S1.F.fill i' (some (t,.own m)) (some (r,row)) false } (us.set i' (.ref t)) ts ((t2,HO.tup [.int (i':Nat),.bl true])::(N++X3)) O7 Em OA (Nat.le_succ _) (MO.mono λ x hx => ?_) ?_
        ·rw [RL] at hx
         rw [List.cons_append,List.append_assoc]
         exact mC hx
        ·have e9:eT sp mk sf rd (us.set i' (.ref t)) { S1 with F:=S1.F.fill i' (some (t,.own m)) (some (r,row)) false } ts=eT sp mk sf rd (us.set i' (.ref t)) (gone S (.own m)) ts:=by rw [l5];rfl
         rw [e9]
         refine St.nG (St.push lY) ?_
         rw [RL,List.cons_append,List.append_assoc]
         exact (List.Perm.cons _ (aN N _ _)).trans List.perm_middle.symm
       ·exact xT
       ·exact xT
  ·refine Bw (neg:=true) (b:=false) eS d1 d2 o1 o2 (iff_of_false Bool.false_ne_true λ z=>hf (Ms.mp z)) ?_
   walk_at "ge"
   exact k S us ts [] H rfl rfl (Nat.le_succ _) lr hL
end
section
variable {P:Program} {w:World} {K:PySem.W.Frag} {mg:Str->Option Value} {base:Heap} {cU cA cB cC cT cF cD cS cI:Addr}
theorem sU {H:Hp} {a b:Addr} {row:List Int} (h1:H a=some (.lst (row.map V.int))) (h2:H b=some (.lst (row.map V.int))) (hl:row.length<=100000):Alike H 2 (.ref a) (.ref b):=by
 refine .inr ⟨a,b,_,_,rfl,rfl,.inl ⟨h1,h2⟩,rfl,by rw [List.length_map];exact hl,λ i x y hx hy => ?_⟩
 rw [hx] at hy
 cases hy
 rw [List.getElem?_map] at hx
 obtain ⟨n,_,rfl⟩:=Option.map_eq_some_iff.mp hx
 exact .inl (.inr (.inr (.inl ⟨n,rfl,rfl⟩)))
theorem St.abr {H:Hp} {S:SS} {X:Cells} (A N C:Cells) (h:Led H (A++(N++(C++bw cT cF cD cS cI S X)))):Led H (A++(C++bw cT cF cD cS cI S (N++X))):=by
 have e : ∀ X:Cells,bw cT cF cD cS cI S X=(AS cT S++(qu cF S.F++(D0 cD S++(D3 cS S++Co cI S))))++X:=λ X=>by unfold bw;simp only [List.append_assoc]
 rw [e] at h ⊢
 exact Led.perm h (List.Perm.append_left _ ((aN N C _).trans (List.Perm.append_left _ (aN N _ _))))
theorem Lr.had {N M:Cells} {S S1:SS} {n q i:Nat} {us CN:List V} {ts:Ts} (h:Lr n q S us ts M) (hH:fM N S n i S1) (hs1:j7 S1 CN M):Lr n q S1 CN ts (N++M):=by
 have g1:=h.g.had hH
 obtain ⟨h0,e1,e2,_,_⟩:=hH.at
 obtain ⟨UQ,So⟩:=hH.rows h.g h.cl
 refine { g:=g1,gh:=⟨by rw [e1];exact h.gh.nd,λ e he => ?_,λ e he => ?_,λ m => ?_,by rw [e1];exact h.gh.most,by rw [e2];exact h.gh.m0⟩,s:=hs1.mono λ x hx=>mA hx,cl:=UQ,nd:=h.nd,rw:=λ e he => ?_,x8:=λ b hb => ?_,hm:=by rw [e1,e2];exact h.hm,cnt:=by rw [e2];exact h.cnt }
 ·rw [e1] at he;rw [e2];exact h.gh.le e he
 ·rw [e1] at he;exact h.gh.c1 e he
 ·rw [e1,h.gh.Pu m];exact (hH.lies m).symm
 ·obtain ⟨c1,c2,c3⟩:=h.rw e he
  exact ⟨mA c1,So _ _ c2,c3⟩
 ·rcases hb with hb | ⟨row,hb⟩
  ·exact h.x8 b (.inl (hH.Uo hb))
  ·exact h.x8 b (hH.back h.g hb)
theorem fM.least {N:Cells} {S S1:SS} {n i:Nat} (h:fM N S n i S1) : ∀ (j:Nat) z,j < i->S1.F.hs[j]? = some z->z≠none:=by
 intro j z hj hz
 rcases h with ⟨_,h2,rfl⟩ | ⟨hall,bs',t,a,_,_,h⟩
 ·exact h2 j z hj hz
 ·rw [h.hs.1] at hz
  have hz':(S.F.hs.set i none)[j]? = some z:=hz
  exact hall z (List.mem_of_getElem? ((dP (by omega)).mp hz'))
def Mu (cT cF cD cS cI:Addr):Sp:=λ vs H Q _ => ∃ (S:SS) (n q:Nat) (sp mk sf rd:Addr) (us:List V) (ts:Ts) (M:Cells),vs = [.ref S.b,.ref sp,.ref mk,.ref sf,.ref rd,.int (S.p:Nat)]/\Led H (bw cT cF cD cS cI S (eT sp mk sf rd us S ts++M))/\Lr n q S us ts M ∧
 ∀ (S':SS) (us':List V) (N:Cells) (H':Hp),S'.b=S.b->Lr n q S' us' ts (N++M)->Led H' (bw cT cF cD cS cI S' (eT sp mk sf rd us' S' ts++(N++M)))->Q (.int (S'.p:Nat)) H'
theorem OE (D:Def K mg "_law_had" mE) (B:jd mg) (T:Txt K mg cU cA cB cC cT cF cD cS cI) (eu:dF P w K mg base 6 "have_frame" ["store"] (Cr cT cF cD cS cI cU)) (Eb:dF P w K mg base 2 "_law_goes" ["_law_spots","_law_marks","_law_shelf","_law_pointer","_law_found"] Mg) (eU:dF P w K mg base 5 "_law_is_store" ["_law_store","_law_spots","_law_marks","_law_shelf","_law_pointer"] (rZ cT cF cD cS cI)) (fV:dF P w K mg base 5 "_law_row_there" ["_law_store","_law_spots","_law_shelf","_law_thing"] (oN cT cF cD cS cI)) (aW:dF P w K mg base 4 "_law_alike" ["_law_found","_law_due"] (mF 2)):dF P w K mg base 7 "_law_had" ["_law_store","_law_spots","_law_marks","_law_shelf","_law_rows","_law_pointer"] (Mu cT cF cD cS cI):=by
 have sc:=Dt
 refine D.ok Dt (λ vs H Q E h => ?_) (λ _ _ _ _ _ _ us hl=>match us,hl with | [_,_,_,_,_,_],_=>rfl) (λ f cdv A outer s H vs Q E hr h => ?_)
 ·obtain ⟨_,_,_,_,_,_,_,_,_,_,rfl,_⟩:=h;rfl
 ·obtain ⟨S,n,q,sp,mk,sf,rd,us,ts,M,rfl,hL,lr,k⟩:=h
  have hu:=iU hr
  have hsz:=sizeLine_eq
  have n64:=lr.g.n64
  have ul:us.length=n:=lr.s.l.trans lr.g.f.h
  have eS:=hL.get (St.up mS)
  refine ⟨_,(@af _ _ _ _ _ (@aK _ _ 6 _ _ _ _ sc.nd rfl (by walk_at "o2") (@bh _ _ _ _ _ _ _ _ _ (aT (K:=K) rfl) (by rfl) B.list bS (@aa _ _ _ _ _ (@aq _ 1 _ _ (by walk_at "v")) (@aj _) (by rfl)) (by decide) (by decide) (by rfl) (by rfl)) (by rfl) (by walk_at "o4")) (@af _ _ _ _ _ (@aK _ _ 7 _ _ _ _ sc.nd rfl (by walk_at "o2") (@aC _ _ _ _ _ _ _ _ _ _ _ eu (hr.mono (by omega)) (by rfl) aB (@aa _ _ _ _ _ (@aq _ 0 _ _ (by walk_at "v")) (@aj _) (by rfl)) (by decide) (by rfl) (by rfl)) (by rfl) (by walk_at "o4")) (@af _ _ _ _ _ (@aK _ _ 5 _ _ _ _ sc.nd rfl (by walk_at "o2") (@aC _ _ _ _ _ _ _ _ _ _ _ Eb (hr.mono (by omega)) (by rfl) aB (@aa _ _ _ _ _ (@aq _ 1 _ _ (by walk_at "v")) (@aa _ _ _ _ _ (@aq _ 2 _ _ (by walk_at "v")) (@aa _ _ _ _ _ (@aq _ 3 _ _ (by walk_at "v")) (@aa _ _ _ _ _ (@aq _ 5 _ _ (by walk_at "v")) (@aa _ _ _ _ _ (@aq _ 7 _ _ (by walk_at "v")) (@aj _) (by rfl)) (by rfl)) (by rfl)) (by rfl)) (by rfl)) (by decide) (by rfl) (by rfl)) (by rfl) (by walk_at "o4")) (@af _ _ _ _ _ (@aS _ _ _ _ _ _ _ _ (@PW.pt _ _ _ (@pw_or _ _ _ _ _ _ _ (@aL _ _ _ _ _ _ _ _ Al (@aq _ 5 _ _ (by walk_at "v")) (@ak _ _ _ _) (aP _)) (@pw_or1 _ _ _ _ (@cV _ _ _ _ (@aZ _ _ _ (@aC _ _ _ _ _ _ _ _ _ _ _ eU (hr.mono (by omega)) (by rfl) aB (@aa _ _ _ _ _ (@aq _ 0 _ _ (by walk_at "v")) (@aa _ _ _ _ _ (@aq _ 1 _ _ (by walk_at "v")) (@aa _ _ _ _ _ (@aq _ 2 _ _ (by walk_at "v")) (@aa _ _ _ _ _ (@aq _ 3 _ _ (by walk_at "v")) (@aa _ _ _ _ _ (@aq _ 5 _ _ (by walk_at "v")) (@aj _) (by rfl)) (by rfl)) (by rfl)) (by rfl)) (by rfl)) (by decide) (by rfl) (by rfl)) (by intro _;rfl)))))) (@ao _ _ _ (@aE _ _ _ _ (@m8 _ _ _ _ _ _ iX (@ak _ _ _ _)))) (@aF _)) (@af _ _ _ _ _ (@aK _ _ 8 _ _ _ _ sc.nd rfl (by walk_at "o2") (@aY _ _ _ _ _ _ _ aQ (@aq _ 6 _ _ (by walk_at "v")) (@aq _ 7 _ _ (by walk_at "v")) (λ _ _=>rfl)) (by rfl) (by walk_at "o4")) (@af _ _ _ _ _ (@aS _ _ _ _ _ _ _ _ (@PW.pt _ _ _ (@pw_and _ _ _ _ _ _ _ (@aL _ _ _ _ _ _ _ _ oY (@aq _ 8 _ _ (by walk_at "v")) (@bE _ _ _) (aP _)) (@pw_and1 _ _ _ _ (@cV _ _ _ _ (@aZ _ _ _ (@aC _ _ _ _ _ _ _ _ _ _ _ aW (hr.mono (by omega)) (by rfl) aB (@aa _ _ _ _ _ (@aC _ _ _ _ _ _ _ _ _ _ _ fV (hr.mono (by omega)) (by rfl) aB (@aa _ _ _ _ _ (@aq _ 0 _ _ (by walk_at "v")) (@aa _ _ _ _ _ (@aq _ 1 _ _ (by walk_at "v")) (@aa _ _ _ _ _ (@aq _ 3 _ _ (by walk_at "v")) (@aa _ _ _ _ _ (@aq _ 8 _ _ (by walk_at "v")) (@aj _) (by rfl)) (by rfl)) (by rfl)) (by rfl)) (by decide) (by rfl) (by rfl)) (@aa _ _ _ _ _ (@iB _ _ _ _ _ _ hu (@aq _ 4 _ _ (by walk_at "v")) (@aq _ 8 _ _ (by walk_at "v")) (λ _ _=>rfl)) (@aj _) (by rfl)) (by rfl)) (by decide) (by rfl) (by rfl)) (by intro _;rfl)))))) (@ao _ _ _ (@aE _ _ _ _ (@m8 _ _ _ _ _ _ iX (@ak _ _ _ _)))) (@aF _)) (@af _ _ _ _ _ (@aS _ _ _ _ _ _ _ _ (@PW.pt _ _ _ (@pw_or _ _ _ _ _ _ _ (@cV _ _ _ _ (@aZ _ _ _ (@aC _ _ _ _ _ _ _ _ _ _ _ aW (hr.mono (by omega)) (by rfl) aB (@aa _ _ _ _ _ (@aC _ _ _ _ _ _ _ _ _ _ _ eu (hr.mono (by omega)) (by rfl) aB (@aa _ _ _ _ _ (@aq _ 0 _ _ (by walk_at "v")) (@aj _) (by rfl)) (by decide) (by rfl) (by rfl)) (@aa _ _ _ _ _ (@aq _ 7 _ _ (by walk_at "v")) (@aj _) (by rfl)) (by rfl)) (by decide) (by rfl) (by rfl)) (by intro _;rfl))) (@pw_or1 _ _ _ _ (@cV _ _ _ _ (@aZ _ _ _ (@aC _ _ _ _ _ _ _ _ _ _ _ eU (hr.mono (by omega)) (by rfl) aB (@aa _ _ _ _ _ (@aq _ 0 _ _ (by walk_at "v")) (@aa _ _ _ _ _ (@aq _ 1 _ _ (by walk_at "v")) (@aa _ _ _ _ _ (@aq _ 2 _ _ (by walk_at "v")) (@aa _ _ _ _ _ (@aq _ 3 _ _ (by walk_at "v")) (@aa _ _ _ _ _ (@aq _ 5 _ _ (by walk_at "v")) (@aj _) (by rfl)) (by rfl)) (by rfl)) (by rfl)) (by rfl)) (by decide) (by rfl) (by rfl)) (by intro _;rfl)))))) (@ao _ _ _ (@aE _ _ _ _ (@m8 _ _ _ _ _ _ iX (@ak _ _ _ _)))) (@aF _)) (@ao _ _ _ (@aE _ _ _ _ (@aq _ 5 _ _ (by walk_at "v"))))))))))),?_⟩
  refine aG λ M1 K1 => ?_
  walk_at "ge"
  rename_i bl H1 _ hl1 _
  refine K1.use ?_
  walk_at "cl"
  clear K1 eS
  obtain ⟨M2,Mv⟩ : ∃ M2:Cells,[(bl,HO.lst us)]++M=M2:=⟨_,rfl⟩
  have hl2:Led H1 (bw cT cF cD cS cI S (eT sp mk sf rd us S ts++M2)):=by rw [<-Mv];exact St.nG (St.push hl1) (aN [(bl,HO.lst us)] (eT sp mk sf rd us S ts) M)
  have xU:Lr n q S us ts M2:=lr.mono λ x hx=>by rw [<-Mv];exact mC hx
  have abt:(bl,HO.lst us)∈M2:=by rw [<-Mv];exact mS
  clear hl1 hL
  refine aG λ M1 K1 => ?_
  have rest : ∀ (i:Nat) (S1:SS) (N:Cells) (H2:Hp),fM N S n i S1->Led H2 (bw cT cF cD cS cI S1 (N++(eT sp mk sf rd us S ts++M2)))->M1 [some (.ref S.b),some (.ref sp),some (.ref mk),some (.ref sf),some (.ref rd),some (.int (S.p:Nat)),some (.ref bl),some (.int (i:Nat)),none] H2:=by
   intro i S1 N H2 hH hl3
   have hin:=hH.lt xU.g
   obtain ⟨h0,_,_,Em,_⟩:=hH.at
   have bT:=St.AX N _ hl3
   refine K1.use ?_
   clear K1 hl3 hl2
   refine aG λ M1 K1 => ?_
   walk_at "ge"
   refine ⟨S,S1,n,q,i,sp,mk,sf,us,M2,(rd,.dT (uI ts))::bw cT cF cD cS cI S1 (N++M2),N,rfl,bT,λ x hx=>mC (St.up (mA hx)),xU.g,xU.s,hH,λ us' N2 H3 s2 c7 => ?_⟩
   have fL:Led H3 ([(sp,.lst us'),(mk,.lst (S1.bs.map V.bl)),(sf,.lst S1.ps)]++([(rd,.dT (uI ts))]++bw cT cF cD cS cI S1 (N2++(N++M2)))):=St.abr _ N2 _ c7
   have jx:Led H3 (bw cT cF cD cS cI S1 (eT sp mk sf rd us' S1 ts++(N2++(N++M2)))):=St.j8 (eT sp mk sf rd us' S1 ts) fL
   have r9:Lr n q S1 us' ts (N2++(N++M2)):=(xU.had hH s2).mono λ x hx=>mA hx
   clear bT c7 fL
   walk_at "ge"
   refine K1.use ?_
   walk_at "cl"
   clear K1
   refine aG λ M1 K1 => ?_
   walk_at "ge"
   all_goals first | (exfalso;omega) | skip
   refine ⟨S1,n,q,sp,mk,sf,us',_,by rw [Em];rfl,jx,r9.g.mono (λ x hx=>mA hx),mS,mC mS,mC (mC mS),r9.s.mono (λ x hx=>mA hx),λ N3 H4 nD => ?_⟩
   walk_at "ge"
   refine K1.use ?_
   walk_at "cl"
   clear K1 jx
   have UZ:(bl,HO.lst us)∈N3++(eT sp mk sf rd us' S1 ts++(N2++(N++M2))):=mA (mA (mA (mA abt)))
   have abu:=nD.get (St.up UZ)
   obtain ⟨X,eX⟩ : ∃ X:Cells,eT sp mk sf rd us' S1 ts++(N2++(N++M2))=X:=⟨_,rfl⟩
   have U0:(sp,HO.lst us')∈X:=by rw [<-eX];exact mS
   have abv:(mk,HO.lst (S1.bs.map V.bl))∈X:=by rw [<-eX];exact mC mS
   have abw:(sf,HO.lst S1.ps)∈X:=by rw [<-eX];exact mC (mC mS)
   have abx:(rd,HO.dT (uI ts))∈X:=by rw [<-eX];exact mC (mC (mC mS))
   have RO : ∀ x∈N2++(N++M2),x∈X:=λ x hx=>by rw [<-eX];exact mA hx
   rw [eX] at nD
   obtain ⟨v,hv⟩ : ∃ v,us[i]? = some v:=⟨_,List.getElem?_eq_getElem (by omega)⟩
   have au:iZ us ((i:Nat):Int)=some v:=dN (by omega) (by rw [Int.toNat_natCast];exact hv)
   refine aG λ M1 K1 => ?_
   walk_at "ge"
   refine K1.use ?_
   walk_at "cl"
   clear K1 abu
   refine aG λ M1 K1 => ?_
   have PJ : ∀ (N5:Cells) (H5:Hp),Led H5 (bw cT cF cD cS cI S1 (N5++X))->M1 [some (.ref S.b),some (.ref sp),some (.ref mk),some (.ref sf),some (.ref rd),some (.int (S1.p:Nat)),some (.ref bl),some (.int (i:Nat)),some v] H5:=by
    intro N5 H5 jP
    refine K1.use ?_
    clear K1 nD
    refine aG λ M1 K1 => ?_
    walk_at "ge"
    refine ⟨S1,n,q,_,by rw [Em];rfl,jP,r9.g.mono (λ x hx=>mA (RO x hx)),λ j H6 q1 q2 gO => ?_,λ hall _ _ _ _ _ _=>absurd rfl (hall none (List.mem_of_getElem? h0)),λ hall _=>absurd rfl (hall none (List.mem_of_getElem? h0))⟩
    have ej:j=i:=by
     rcases Nat.lt_trichotomy j i with hlt | he | hlt
     ·exact absurd rfl (hH.least j none hlt q1)
     ·exact he
     ·exact absurd rfl (q2 i none hlt h0)
    subst ej
    walk_at "ge"
    refine ⟨_,_,rfl,.inl (.inr (.inr (.inl ⟨_,rfl,rfl⟩))),?_⟩
    walk_at "ge"
    refine ⟨S1,n,q,sp,mk,sf,us',_,by rw [Em];rfl,gO,r9.g.mono (λ x hx=>mA (RO x hx)),mA U0,mA abv,mA abw,r9.s.mono (λ x hx=>mA (RO x hx)),λ N6 H7 eV => ?_⟩
    walk_at "ge"
    refine K1.use ?_
    walk_at "cl"
    clear K1
    walk_at "ge"
    obtain ⟨Y,eY⟩ : ∃ Y:Cells,N6++(N5++(N2++(N++[(bl,HO.lst us)])))=Y:=⟨_,rfl⟩
    have e5:Y++M=N6++(N5++(N2++(N++M2))):=by rw [<-eY,<-Mv];simp
    refine k S1 us' Y H7 Em (by rw [e5];exact r9.mono λ x hx=>mA (mA hx)) ?_
    rw [e5]
    rw [<-eX] at eV
    refine St.nG eV ?_
    have e6 : ∀ Lw:Cells,N6++(N5++(Lw++(N2++(N++M2))))=(N6++N5)++(Lw++(N2++(N++M2))):=λ Lw=>by simp
    have e7 : ∀ Lw:Cells,Lw++(N6++(N5++(N2++(N++M2))))=Lw++((N6++N5)++(N2++(N++M2))):=λ Lw=>by simp
    rw [e6,e7]
    exact aN _ _ _
   clear K1
   obtain ⟨x,hx⟩ : ∃ x,S.F.hs[i]? = some x:=⟨_,List.getElem?_eq_getElem (by rw [lr.g.f.h];exact hin)⟩
   cases x with
   | none =>
     rw [xU.s.no i hx] at hv
     cases hv
     walk_at "ge"
     all_goals first | exact absurd (rfl:V.aI=V.aI) (by assumption) | skip
     exact PJ N3 H4 nD
   | some x =>
     obtain ⟨u,hu2,cu⟩:=xU.s.th i x.1 x.2 hx
     rw [hu2] at hv
     cases hv
     obtain ⟨e,he,ea⟩:=List.mem_map.mp (xU.x8 x.2 (.inl ⟨i,x.1,hx⟩))
     have ea':e.1=x.2:=ea
     obtain ⟨ie,rat,VZ⟩:=r9.rw e he
     have e4:e.2.2.length=4:=by
      rcases rat with ⟨j,v,r,h5,h6⟩ | ⟨_,h5⟩
      ·obtain ⟨r',fN,h7,h8⟩:=r9.g.rr j v e.1 h5
       rw [h6] at h7
       cases h7
       exact h8
      ·exact h5.len r9.g
     have U1:(u,HO.tup (gv e.1))∈N3++X:=by rw [ea'];exact mA (RO _ (mA (mA cu)))
     walk_at "ge"
     all_goals first | exact nomatch (show V.ref u=V.aI by assumption) | skip
     refine ⟨S1,n,q,u,sp,sf,e.1,e.2.2,us',_,by rw [Em];rfl,nD,r9.g.mono (λ x hx=>mA (RO x hx)),r9.s.mono (λ x hx=>mA (RO x hx)),mA U0,U1,VZ,rat,λ r N5 H5 sQ jP => ?_⟩
     have oS:=jP.get (St.up (mA (mA abx)))
     have Gi:H5 u=some (.tup ((lZ e.1).map kV)):=by rw [sS];exact jP.get (St.up (mA U1))
     walk_at "ge"
     refine G5 oS Gi (Cw lr.nd he) ?_
     walk_at "ge"
     refine ⟨_,_,rfl,sU (jP.get (St.up (mB sQ))) (jP.get (St.up (mA (mA (RO _ ie))))) (by omega),?_⟩
     walk_at "ge"
     refine PJ (N5++N3) H5 ?_
     rw [List.append_assoc]
     exact jP
  clear K1
  walk_at "ge"
  refine ⟨S,n,q,_,rfl,hl2,xU.g.mono (λ x hx=>mA hx),λ i H2 q1 q2 hl3 => ?_,λ hall i bs' t a hg hi S1 N H2 LY gk hl3 => ?_,λ hall hno N H2 hl3=>(lr.gh.Jk lr.g hall hno).elim⟩
  ·walk_at "ge"
   exact rest i S [] H2 (.inl ⟨q1,q2,rfl⟩) hl3
  ·walk_at "ge"
   exact rest i S1 N H2 (.inr ⟨hall,bs',t,a,hg,hi,LY⟩) hl3
end
section
variable {P:Program} {w:World} {K:PySem.W.Frag} {mg:Str->Option Value} {base:Heap} {cU cA cB cC cT cF cD cS cI:Addr}
def Mw (cI cC:Addr):Sp:=λ vs H Q E => ∃ (b dx d l:Addr) (es:cR) (z:Str) (rows:CH) (R:Cells),vs = [.ref b,.str z,.ref l]/\Led H (Jg cI b dx d es R)/\(es.map (·.1)).Nodup/\(l,HO.lst (oR rows))∈R/\(∀ r∈rows,(r.1,HO.lst (r.2.map V.int))∈R/\r.2.length<=600)/\rows.length<=100/\es.length<=600 ∧
 (z ∉ es.map (·.1)->∀ (fa:Addr) (rows':CH) (H':Hp),rows'.map (·.2)=rows.map (·.2)->Led H' (Jg cI b dx d (es++[(z,fa,rows')]) (HV rows'++R))->Q .aI H')/\(z∈es.map (·.1)->E (.ref cC) none H)
theorem A1 {rows rows':CH} (h : ∀ (i:Nat) r,rows'[i]? = some r->rows[i]?.map (·.2)=some r.2) (hl:rows'.length=rows.length):rows'.map (·.2)=rows.map (·.2):=by
 apply List.ext_getElem?
 intro i
 rw [List.getElem?_map,List.getElem?_map]
 cases hi:rows'[i]? with
 | some r=>rw [h i r hi];rfl
 | none =>
   have:rows'.length<=i:=List.getElem?_eq_none_iff.mp hi
   rw [List.getElem?_eq_none (by omega)]
theorem OF (D:bF K cI "make" "Files.make" dW) (B:jd mg) (T:Txt K mg cU cA cB cC cT cF cD cS cI):aM P w K mg base 1 cI "make" ["self","name","rows"] (Mw cI cC):=by
 have sc:=nj
 refine D.Di nj (λ vs H Q E h => ?_) (λ _ _ _ _ _ _ us hl=>match us,hl with | [_,_,_],_=>rfl) (λ f cdv A outer s H vs Q E hr h => ?_)
 ·obtain ⟨_,_,_,_,_,_,_,_,rfl,_⟩:=h;rfl
 ·obtain ⟨b,dx,d,l,es,z,rows,R,rfl,hL,nd,Ss,sQ,hrl,h6,k1,k2⟩:=h
  have hu:=iU hr
  have hf:(iV d).lookup (Str.ofString "rows_by_name")=some (.ref d):=rfl
  have fh:=FH.of hL nd
  have c1:=fh.cb
  have c2:=fh.cd
  have up : ∀ {c:Addr×HO},c∈R->c∈Jg cI b dx d es R:=λ h=>mC (mC (mA h))
  refine ⟨_,(@af _ _ _ _ _ (@aS _ _ _ _ _ _ _ _ (@JC _ _ _ _ _ _ (@Qs _ _ _ _ _ hu (@aq _ 1 _ _ (by walk_at "v")) (@az _ _ _ _ _ _ _ T.gB T.bY (@aq _ 0 _ _ (by walk_at "v")) (by rfl))) (by first | exact oV _ (by decide) (by decide) | rfl)) (@ao _ _ _ (@je _ _ _ _ _ _ _ _ _ _ _ _ _ _ _ _ _ _ _ _ _ _ T.Taken (by rfl) (@aa _ _ _ _ _ (@dD _ _ _ _) (@aj _) (by rfl)) (by decide) (by rfl))) (@aF _)) (@ao _ _ _ (@l8 _ _ _ _ _ _ _ _ _ hu (@az _ _ _ _ _ _ _ T.gB T.bY (@aq _ 0 _ _ (by walk_at "v")) (by rfl)) (@aq _ 1 _ _ (by walk_at "v")) (@o7 _ _ "row" _ _ _ _ _ _ _ _ _ rfl rfl rfl rfl O6 (dg (by kernel_rfl)) (@gE _ _ _ _ (@aq _ 2 _ _ (by walk_at "v"))) (λ _ _ _ _=>(@jF _)) (λ _ _ _ _=>(@bh _ _ _ _ _ _ _ _ _ (aT (K:=K) rfl) (by rfl) B.list bS (@aa _ _ _ _ _ (@pk _ 0 _ _ (by kernel_rfl) (by kernel_rfl) (by decide) (by decide)) (@aj _) (by rfl)) (by decide) (by decide) (by rfl) (by rfl))) (by intro _;rfl)) rfl))),?_⟩
  refine aG λ M1 K1 => ?_
  walk_at "ge"
  refine Up c2 ?_
  rw [LG]
  by_cases hz:z∈es.map (·.1)
  ·rw [decide_eq_true hz]
   walk_at "ge"
   refine nP λ R hR => ?_
   walk_at "ge"
   exact ⟨by decide,k2 hz⟩
  ·rw [decide_eq_false hz]
   walk_at "ge"
   refine K1.use ?_
   walk_at "cl"
   clear K1
   have RP:=hL.get (up Ss)
   walk_at "ge"
   refine vv λ Lc mZ => ?_
   walk_at "ge"
   refine ⟨_,rfl,⟨_,fq.of RP⟩,mZ.use ?_⟩
   clear mZ c1 c2 RP fh
   refine mh (oR rows) (λ i v C => ∃ (r:Addr) (row:List Int),v=V.ref r/\C = [(r,HO.lst (row.map V.int))]/\rows[i]?.map (·.2)=some row) hL (up Ss) (by rw [gI];have:=sizeLine_eq;omega) (λ i x H2 R2 M2 hx hl2 hR => ?_) (λ fa vs Cs H2 hvl hcl hG hl2 => ?_)
   ·unfold oR at hx
    rw [List.getElem?_map] at hx
    obtain ⟨r,hr,rfl⟩:=Option.map_eq_some_iff.mp hx
    have hm:=List.mem_of_getElem? hr
    have c3:=hl2.get (List.mem_append_right M2 (up (sQ r hm).1))
    have h7:=(sQ r hm).2
    have mr:(r.2.map V.int).length=r.2.length:=List.length_map _
    walk_at "ge"
    rename Led _ _=>hl3
    exact hR _ _ [_] ⟨_,r.2,rfl,rfl,by rw [hr];rfl⟩ hl3
   ·obtain ⟨rows',rfl,e2,e3,e4⟩:=rowsOf (by rw [hvl,hcl]) hG
    rw [e2] at hl2
    rw [gI,gI] at hvl
    have hsame:=A1 e4 (by rw [<-hvl])
    have c1:H2 b=some (.ins cI dx (iV d)):=hl2.get (mC (mA mS))
    have c2:H2 d=some (.dK (xZ es)):=hl2.get (mC (mA (mC mS)))
    walk_at "ge"
    refine Uq c2 (by unfold xZ;rw [List.length_map];have:=sizeLine_eq;omega) ?_
    rw [Ny hz fa rows']
    have hl3:Led H2 ((d,.dK (xZ es))::(b,.ins cI dx (iV d))::(nQ es++((fa,.lst (oR rows'))::(HV rows'++R)))):=hl2.wk (by simp only [Jg];walk_at "sp")
    have bT:=hl3.put (o' := .dK (xZ (es++[(z,fa,rows')]))) rfl rfl
    walk_at "ge"
    refine k1 hz fa rows' _ hsame (bT.wk ?_)
    unfold Jg
    rw [show nQ (es++[(z,fa,rows')])=nQ es++[(fa,HO.lst (oR rows'))] by unfold nQ;rw [List.map_append];rfl]
    simp only [List.append_assoc,List.cons_append,List.nil_append]
    walk_at "sp"
def xV (z:Str) (rows:CH):Ts:=rows.mapIdx λ j r=>(.file z (j:Int),r.1,r.2)
theorem G8 (z:Str) (rows:CH):(xV z rows).length=rows.length:=List.length_mapIdx
theorem Gn {z:Str} {rows:CH} {e:Th×Addr×List Int} (h:e∈xV z rows) : ∃ (j:Nat) (r:Addr×List Int),rows[j]? = some r/\e=(.file z (j:Int),r.1,r.2):=by
 obtain ⟨j,hj⟩:=List.getElem?_of_mem h
 unfold xV at hj
 rw [List.getElem?_mapIdx] at hj
 obtain ⟨r,hr,e1⟩:=Option.map_eq_some_iff.mp hj
 exact ⟨j,r,hr,e1.symm⟩
theorem G9 {z:Str} {rows:CH} {a:Th} : a∈(xV z rows).map (·.1) ↔ ∃ j:Nat,j < rows.length/\a = .file z (j:Int):=by
 constructor
 ·intro h
  obtain ⟨e,he,rfl⟩:=List.mem_map.mp h
  obtain ⟨j,r,hj,rfl⟩:=Gn he
  exact ⟨j,(List.getElem?_eq_some_iff.mp hj).1,rfl⟩
 ·rintro ⟨j,hj,rfl⟩
  refine List.mem_map.mpr ⟨(.file z (j:Int),rows[j].1,rows[j].2),?_,rfl⟩
  refine List.mem_of_getElem? (i:=j) ?_
  unfold xV
  rw [List.getElem?_mapIdx,List.getElem?_eq_getElem hj]
  rfl
theorem Mx (z:Str) (rows:CH):(xV z rows).map (·.1)=(List.range rows.length).map λ j:Nat=>Th.file z (j:Int):=by
 refine List.ext_getElem? λ j => ?_
 rw [List.getElem?_map,List.getElem?_map]
 unfold xV
 rw [List.getElem?_mapIdx]
 by_cases hj:j < rows.length
 ·rw [List.getElem?_eq_getElem hj,List.getElem?_range hj]
  rfl
 ·rw [List.getElem?_eq_none (by omega),List.getElem?_eq_none (by rw [List.length_range];omega)]
  rfl
theorem RQ (z:Str) (rows:CH):((xV z rows).map (·.1)).Nodup:=by
 rw [Mx]
 refine List.pairwise_iff_getElem.mpr λ i j hi hj hij e => ?_
 rw [List.getElem_map,List.getElem_map,List.getElem_range,List.getElem_range] at e
 injection e with _ e
 omega
theorem Mz (z:Str) (rows:CH) (r:Addr×List Int):xV z (rows++[r])=xV z rows++[(.file z (rows.length:Int),r.1,r.2)]:=by
 unfold xV
 rw [List.mapIdx_append]
 simp
theorem Lr.U3 {n q:Nat} {S:SS} {us:List V} {M M':Cells} {z:Str} {fa:Addr} {rows rows':CH} (h:Lr n q S us [] M) (h0:S.fs = []) (up : ∀ c∈M,c∈M') (V3:Ux z) (er:rows'.map (·.2)=rows.map (·.2)) (h4 : ∀ r∈rows,r.2.length=4) (c1 : ∀ r∈rows,(r.1,HO.lst (r.2.map V.int))∈M') (c2 : ∀ r∈rows',(r.1,HO.lst (r.2.map V.int))∈M'):Lr n q { S with fs:=[(z,fa,rows')] } us (xV z rows) M':=by
 have V4 : ∀ a,¬ uT S a:=λ a z=>nomatch (h.x8 a (.inl z))
 have aby : ∀ a,¬ uT { S with fs:=[(z,fa,rows')] } a:=λ a w=>V4 a w
 have noE : ∀ m (row:List Int),¬ Back S row (.own m):=λ m row w=>nomatch (h.x8 _ (.inr ⟨row,w⟩))
 have len:rows'.length=rows.length:=by have:=congrArg List.length er;simpa using this
 have g:=h.g.mono up
 have at' : ∀ (j:Nat) (r:Addr×List Int),rows[j]? = some r->∃ r',rows'[j]? = some (r',r.2):=λ j r hj=>by
  have h5:(rows'.map (·.2))[j]? = some r.2:=by rw [er,List.getElem?_map,hj];rfl
  rw [List.getElem?_map] at h5
  obtain ⟨x,hx,e⟩:=Option.map_eq_some_iff.mp h5
  exact ⟨x.1,by rw [hx,<-e]⟩
 refine { g := { g with fn:=by simp,fr:=λ e he r hr => ?_,ff:=λ i t z p hi=>absurd ⟨i,t,hi⟩ (V4 _) },gh := { h.gh with },s:=j7.same (S:=S) rfl (h.s.mono up),cl:=λ i t r z p row hi=>absurd ⟨i,t,hi⟩ (V4 _),nd:=RQ z rows,rw:=λ e he => ?_,x8:=λ a ha => ?_,hm:=h.hm,cnt := ?_ }
 ·have he':=List.mem_singleton.mp he
  subst he'
  refine ⟨c2 r hr,?_⟩
  have:r.2∈rows.map (·.2):=by rw [<-er];exact List.mem_map.mpr ⟨r,hr,rfl⟩
  obtain ⟨x,hx,e⟩:=List.mem_map.mp this
  rw [<-e]
  exact h4 x hx
 ·obtain ⟨j,r,hj,rfl⟩:=Gn he
  obtain ⟨r',hr'⟩:=at' j r hj
  exact ⟨c1 r (List.mem_of_getElem? hj),.inr ⟨aby _,(z,fa,rows'),mS,rfl,j,r',rfl,hr'⟩,V3⟩
 ·rcases ha with ha | ⟨row,ha⟩
  ·exact absurd ha (V4 a)
  ·cases a with
   | own m=>exact absurd ha (noE m row)
   | file z2 p2 =>
     obtain ⟨e,he,e1,j,r,e2,e3⟩:=ha
     have he':=List.mem_singleton.mp he
     subst he'
     have hj:=(List.getElem?_eq_some_iff.mp e3).1
     have e1':z=z2:=e1
     rw [<-e1',e2]
     exact G9.mpr ⟨j,by rw [<-len];exact hj,rfl⟩
 ·have h5:(0:Int)=S.made:=h.cnt
  show (((xV z rows).filter λ e => !bg e.1).length:Int)=S.made
  have h6:((xV z rows).filter λ e => !bg e.1) = []:=by
   rw [List.filter_eq_nil_iff]
   intro e he
   obtain ⟨j,r,_,rfl⟩:=Gn he
   simp [bg]
  rw [h6]
  exact h5
end
section
variable {P:Program} {w:World} {K:PySem.W.Frag} {mg:Str->Option Value} {base:Heap} {cU cA cB cC cT cF cD cS cI:Addr}
theorem Led.right {H:Hp} : ∀ {A L:Cells},Led H (A++L)->Led H L
 | [],_,h=>h
 | _::_,_,h=>Led.right (Led.tail h)
theorem St.rest {H:Hp} {S:SS} {M:Cells} (h:Led H (bw cT cF cD cS cI S M)):Led H M:=by
 have e:bw cT cF cD cS cI S M=(AS cT S++(qu cF S.F++(D0 cD S++(D3 cS S++Co cI S))))++M:=by unfold bw;simp only [List.append_assoc]
 rw [e] at h
 exact Led.right h
def Hf (K:PySem.W.Frag) (cT cF cD cS cI:Addr):Sp:=λ vs H Q _ => ∃ (S:SS) (n q:Nat) (sp mk sf rd a:Addr) (ns:List Int) (us:List V) (M:Cells),vs = [.ref S.b,.ref sp,.ref sf,.ref rd,.ref a]/\Led H (bw cT cF cD cS cI S (eT sp mk sf rd us S []++M))/\Lr n q S us [] M/\S.fs = []/\q<=128/\(∀ H',Led H' M->fq K H' a (ns.map V.int)) ∧
 ∀ (S':SS) (us':List V) (ts':Ts) (N:Cells) (H':Hp),S'.b=S.b->S'.p=S.p->ts'.length<=128->Lr n q S' us' ts' (N++M)->Led H' (bw cT cF cD cS cI S' (eT sp mk sf rd us' S' ts'++(N++M)))->Q (.bl true) H'
theorem MA (D:Def K mg "_law_begun" gX) (B:jd mg) (T:Txt K mg cU cA cB cC cT cF cD cS cI) (CC:aM P w K mg base 1 cI "make" ["self","name","rows"] (Mw cI cC)) (br:dF P w K mg base 1 "_law_cell_at" ["_law_script","_law_k"] (xJ K)) (Ec:dF P w K mg base 1 "_law_name" ["_law_cell","_law_turn"] Mm) (oQ:dF P w K mg base 2 "_law_row" ["_law_cell"] LO) (l7:dF P w K mg base 8 "_law_fill" ["_law_store","_law_spots","_law_shelf","_law_rows","_law_cell"] (CB cT cF cD cS cI)):dF P w K mg base 9 "_law_begun" ["_law_store","_law_spots","_law_shelf","_law_rows","_law_script"] (Hf K cT cF cD cS cI):=by
 have sc:=vI
 refine D.ok vI (λ vs H Q E h => ?_) (λ _ _ _ _ _ _ us hl=>match us,hl with | [_,_,_,_,_],_=>rfl) (λ f cdv A outer s H vs Q E hr h => ?_)
 ·obtain ⟨_,_,_,_,_,_,_,_,_,_,_,rfl,_⟩:=h;rfl
 ·obtain ⟨S,n,q,sp,mk,sf,rd,a,ns,us,M,rfl,hL,lr,hfs,UT,RS,k⟩:=h
  have hu:=iU hr
  have hsz:=sizeLine_eq
  have n64:=lr.g.n64
  have ul:us.length=n:=lr.s.l.trans lr.g.f.h
  have sq:fq K H a (ns.map V.int):=RS _ (Led.right (St.rest hL))
  obtain ⟨x2,V5⟩ : ∃ x,ns.getD (Int.toNat 2) 0=x:=⟨_,rfl⟩
  obtain ⟨x3,hx3⟩ : ∃ x,ns.getD (Int.toNat 3) 0=x:=⟨_,rfl⟩
  refine ⟨_,(@af _ _ _ _ _ (@aK _ _ 5 _ _ _ _ sc.nd rfl (by walk_at "o2") (@aC _ _ _ _ _ _ _ _ _ _ _ Ec (hr.mono (by omega)) (by rfl) aB (@aa _ _ _ _ _ (@aC _ _ _ _ _ _ _ _ _ _ _ br (hr.mono (by omega)) (by rfl) aB (@aa _ _ _ _ _ (@aq _ 4 _ _ (by walk_at "v")) (@aa _ _ _ _ _ (@ak _ _ _ _) (@aj _) (by rfl)) (by rfl)) (by decide) (by rfl) (by rfl)) (@aa _ _ _ _ _ (@ak _ _ _ _) (@aj _) (by rfl)) (by rfl)) (by decide) (by rfl) (by rfl)) (by rfl) (by walk_at "o4")) (@af _ _ _ _ _ (@aK _ _ 6 _ _ _ _ sc.nd rfl (by walk_at "o2") (@av _ _ _ _ _ _ _ _ aV (@ak _ _ _ _) (@av _ _ _ _ _ _ _ _ aH (@aC _ _ _ _ _ _ _ _ _ _ _ br (hr.mono (by omega)) (by rfl) aB (@aa _ _ _ _ _ (@aq _ 4 _ _ (by walk_at "v")) (@aa _ _ _ _ _ (@ak _ _ _ _) (@aj _) (by rfl)) (by rfl)) (by decide) (by rfl) (by rfl)) (@ak _ _ _ _))) (by rfl) (by walk_at "o4")) (@af _ _ _ _ _ (@aS _ _ _ _ _ _ _ _ (@aL _ _ _ _ _ _ _ _ cY (@av _ _ _ _ _ _ _ _ aH (@av _ _ _ _ _ _ _ _ bI (@aC _ _ _ _ _ _ _ _ _ _ _ br (hr.mono (by omega)) (by rfl) aB (@aa _ _ _ _ _ (@aq _ 4 _ _ (by walk_at "v")) (@aa _ _ _ _ _ (@ak _ _ _ _) (@aj _) (by rfl)) (by rfl)) (by decide) (by rfl) (by rfl)) (@ak _ _ _ _)) (@ak _ _ _ _)) (@ak _ _ _ _) (aP _)) (@ao _ _ _ (@aK _ _ 6 _ _ _ _ sc.nd rfl (by walk_at "o2") (@av _ _ _ _ _ _ _ _ aV (@ak _ _ _ _) (@av _ _ _ _ _ _ _ _ aH (@av _ _ _ _ _ _ _ _ bI (@aC _ _ _ _ _ _ _ _ _ _ _ br (hr.mono (by omega)) (by rfl) aB (@aa _ _ _ _ _ (@aq _ 4 _ _ (by walk_at "v")) (@aa _ _ _ _ _ (@ak _ _ _ _) (@aj _) (by rfl)) (by rfl)) (by decide) (by rfl) (by rfl)) (@ak _ _ _ _)) (@ak _ _ _ _))) (by rfl) (by walk_at "o4"))) (@aF _)) (@af _ _ _ _ _ (@gZ _ _ "_law_k" _ _ _ _ _ _ _ _ _ _ 7 _ _ rfl rfl rfl rfl O8 (dg (by kernel_rfl)) (@cE _ _ _ _ _ _ (by rfl) B.range (@aa _ _ _ _ _ (@aq _ 6 _ _ (by walk_at "v")) (@aj _) (by rfl)) (by rfl)) (λ _ _ _ _=>(@jF _)) (λ _ _ _ _=>(@aC _ _ _ _ _ _ _ _ _ _ _ oQ (hr.mono (by omega)) (by rfl) aB (@aa _ _ _ _ _ (@av _ _ _ _ _ _ _ _ aV (@av _ _ _ _ _ _ _ _ aH (@aC _ _ _ _ _ _ _ _ _ _ _ br (hr.mono (by omega)) (by rfl) aB (@aa _ _ _ _ _ (@pk _ 5 _ _ (by kernel_rfl) (by kernel_rfl) (by decide) (by decide)) (@aa _ _ _ _ _ (@ak _ _ _ _) (@aj _) (by rfl)) (by rfl)) (by decide) (by rfl) (by rfl)) (@ak _ _ _ _)) (@av _ _ _ _ _ _ _ _ gp (@ak _ _ _ _) (@pk _ 0 _ _ (by kernel_rfl) (by kernel_rfl) (by decide) (by decide)))) (@aj _) (by rfl)) (by decide) (by rfl) (by rfl))) sc.nd rfl (by walk_at "o2") (by intro _;rfl) (by rfl) (by walk_at "o4")) (@af _ _ _ _ _ (@b9 _ _ _ _ (@aU _ _ _ _ _ _ _ _ _ _ _ _ _ _ _ _ T.gB CC (hr.mono (by omega)) aB (@az _ _ _ _ _ _ _ T.bz T.pG (@aq _ 0 _ _ (by walk_at "v")) (by rfl)) (@aa _ _ _ _ _ (@aq _ 5 _ _ (by walk_at "v")) (@aa _ _ _ _ _ (@o7 _ _ "_law_row_here" _ _ _ _ _ _ _ _ _ rfl rfl rfl rfl O8 (dg (by kernel_rfl)) (@gE _ _ _ _ (@aq _ 7 _ _ (by walk_at "v"))) (λ _ _ _ _=>(@jF _)) (λ _ _ _ _=>(@bh _ _ _ _ _ _ _ _ _ (aT (K:=K) rfl) (by rfl) B.list bS (@aa _ _ _ _ _ (@pk _ 0 _ _ (by kernel_rfl) (by kernel_rfl) (by decide) (by decide)) (@aj _) (by rfl)) (by decide) (by decide) (by rfl) (by rfl))) (by intro _;rfl)) (@aj _) (by rfl)) (by rfl)) (by rfl) (by rfl) (by rfl)) (by rfl)) (@af _ _ _ _ _ (@iW _ _ _ _ _ _ _ _ PassesOwn.never rfl (@cE _ _ _ _ _ _ (by rfl) B.range (@aa _ _ _ _ _ (@aq _ 6 _ _ (by walk_at "v")) (@aj _) (by rfl)) (by rfl)) (@eK _ _ 8 _ sc.nd rfl (by walk_at "o2") (by walk_at "o4")) (@ao _ _ _ (@l8 _ _ _ _ _ _ _ _ _ hu (@aq _ 3 _ _ (by walk_at "v")) (@fu _ _ _ _ _ (@aa _ _ _ _ _ (@dD _ _ _ _) (@aa _ _ _ _ _ (@aq _ 5 _ _ (by walk_at "v")) (@aa _ _ _ _ _ (@aq _ 8 _ _ (by walk_at "v")) (@aj _) (by rfl)) (by rfl)) (by rfl))) (@aY _ _ _ _ _ _ _ aQ (@aq _ 7 _ _ (by walk_at "v")) (@aq _ 8 _ _ (by walk_at "v")) (λ _ _=>rfl)) rfl)) (by intro _;rfl)) (@af _ _ _ _ _ (@aK _ _ 9 _ _ _ _ sc.nd rfl (by walk_at "o2") (@aJ _ _ _ _ _ _ _ _ _ aO (by rfl) B.len bK (@aa _ _ _ _ _ (@aq _ 1 _ _ (by walk_at "v")) (@aj _) (by rfl)) (by decide) (by decide) (by rfl) (by rfl)) (by rfl) (by walk_at "o4")) (@af _ _ _ _ _ (@aS _ _ _ _ _ _ _ _ (@aL _ _ _ _ _ _ _ _ cY (@av _ _ _ _ _ _ _ _ aH (@aC _ _ _ _ _ _ _ _ _ _ _ br (hr.mono (by omega)) (by rfl) aB (@aa _ _ _ _ _ (@aq _ 4 _ _ (by walk_at "v")) (@aa _ _ _ _ _ (@ak _ _ _ _) (@aj _) (by rfl)) (by rfl)) (by decide) (by rfl) (by rfl)) (@ak _ _ _ _)) (@ak _ _ _ _) (aP _)) (@ao _ _ _ (@aK _ _ 9 _ _ _ _ sc.nd rfl (by walk_at "o2") (@av _ _ _ _ _ _ _ _ aH (@av _ _ _ _ _ _ _ _ bI (@aC _ _ _ _ _ _ _ _ _ _ _ br (hr.mono (by omega)) (by rfl) aB (@aa _ _ _ _ _ (@aq _ 4 _ _ (by walk_at "v")) (@aa _ _ _ _ _ (@ak _ _ _ _) (@aj _) (by rfl)) (by rfl)) (by decide) (by rfl) (by rfl)) (@ak _ _ _ _)) (@av _ _ _ _ _ _ _ _ aV (@aq _ 9 _ _ (by walk_at "v")) (@ak _ _ _ _))) (by rfl) (by walk_at "o4"))) (@aF _)) (@af _ _ _ _ _ (@iW _ _ _ _ _ _ _ _ PassesOwn.never rfl (@cE _ _ _ _ _ _ (by rfl) B.range (@aa _ _ _ _ _ (@aq _ 9 _ _ (by walk_at "v")) (@aj _) (by rfl)) (by rfl)) (@eK _ _ 10 _ sc.nd rfl (by walk_at "o2") (by walk_at "o4")) (@af _ _ _ _ _ (@aK _ _ 11 _ _ _ _ sc.nd rfl (by walk_at "o2") (@av _ _ _ _ _ _ _ _ aH (@av _ _ _ _ _ _ _ _ o8 (@av _ _ _ _ _ _ _ _ aV (@aC _ _ _ _ _ _ _ _ _ _ _ br (hr.mono (by omega)) (by rfl) aB (@aa _ _ _ _ _ (@aq _ 4 _ _ (by walk_at "v")) (@aa _ _ _ _ _ (@ak _ _ _ _) (@aj _) (by rfl)) (by rfl)) (by decide) (by rfl) (by rfl)) (@av _ _ _ _ _ _ _ _ gp (@aq _ 10 _ _ (by walk_at "v")) (@aq _ 10 _ _ (by walk_at "v")))) (@ak _ _ _ _)) (@ak _ _ _ _)) (by rfl) (by walk_at "o4")) (@ao _ _ _ (@aS _ _ _ _ _ _ _ _ (@cV _ _ _ _ (@aZ _ _ _ (@aC _ _ _ _ _ _ _ _ _ _ _ l7 (hr.mono (by omega)) (by rfl) aB (@aa _ _ _ _ _ (@aq _ 0 _ _ (by walk_at "v")) (@aa _ _ _ _ _ (@aq _ 1 _ _ (by walk_at "v")) (@aa _ _ _ _ _ (@aq _ 2 _ _ (by walk_at "v")) (@aa _ _ _ _ _ (@aq _ 3 _ _ (by walk_at "v")) (@aa _ _ _ _ _ (@av _ _ _ _ _ _ _ _ aV (@av _ _ _ _ _ _ _ _ aV (@av _ _ _ _ _ _ _ _ gp (@ak _ _ _ _) (@aq _ 11 _ _ (by walk_at "v"))) (@ak _ _ _ _)) (@av _ _ _ _ _ _ _ _ aH (@aq _ 11 _ _ (by walk_at "v")) (@ak _ _ _ _))) (@aj _) (by rfl)) (by rfl)) (by rfl)) (by rfl)) (by rfl)) (by decide) (by rfl) (by rfl)) (by intro _;rfl))) (@ao _ _ _ (@aE _ _ _ _ (@bP _ _ _ _))) (@aF _)))) (by intro _;rfl)) (@ao _ _ _ (@aE _ _ _ _ (@bP _ _ _ _)))))))))))),?_⟩
  refine aG λ M1 K1 => ?_
  walk_at "ge"
  refine ⟨a,ns,1,rfl,by decide,sq,?_⟩
  walk_at "ge"
  refine ⟨_,0,rfl,⟨by decide,by decide⟩,?_⟩
  generalize ns.getD (Int.toNat 1) 0=x1
  have V3:=Ml x1 0
  generalize AZ x1 0=z at V3 ⊢
  walk_at "ge"
  refine K1.use ?_
  walk_at "cl"
  clear K1
  refine aG λ M1 K1 => ?_
  walk_at "ge"
  refine ⟨a,ns,2,rfl,by decide,sq,?_⟩
  rw [V5]
  walk_at "ge"
  refine K1.use ?_
  walk_at "cl"
  clear K1
  refine aG λ M1 K1 => ?_
  have rest : ∀ m:Nat,1<=m->m<=64->M1 [some (.ref S.b),some (.ref sp),some (.ref sf),some (.ref rd),some (.ref a),some (.str z),some (.int (m:Nat)),none,none,none,none,none] H:=by
   intro m m1 m64
   refine K1.use ?_
   clear K1
   refine aG λ M1 K1 => ?_
   walk_at "ge"
   refine EN λ Lc mZ => ?_
   walk_at "ge"
   refine ⟨_,rfl,by omega,by omega,mZ.use ?_⟩
   clear mZ
   rw [show ((m:Nat):Int).toNat=m by omega]
   refine ER (λ _ v C => ∃ (r:Addr) (row:List Int),v=V.ref r/\C = [(r,HO.lst (row.map V.int))]/\row.length=4) hL (by omega) (λ i H2 R M2 hi hl2 hR => ?_) (λ l vs Cs H2 hvl hcl hG hl2 => ?_)
   ·have sq2:fq K H2 a (ns.map V.int):=RS _ (Led.right (St.rest (Led.right hl2)))
    walk_at "ge"
    refine ⟨a,ns,2,rfl,by decide,sq2,?_⟩
    rw [V5]
    walk_at "ge"
    refine ⟨_,_,rfl,Nat.le_trans (vA (by omega) (by omega)) (by decide),hl2,λ r H3 hl3 => ?_⟩
    walk_at "ge"
    exact hR _ _ [_] ⟨r,_,rfl,rfl,mG _⟩ hl3
   ·obtain ⟨rows,rfl,e2,e3,e4⟩:=rowsOf (p:=λ _ row=>row.length=4) (by rw [hvl,hcl]) hG
    rw [e2] at hl2
    rw [gI] at hvl
    have h4 : ∀ r∈rows,r.2.length=4:=λ r hr=>by
     obtain ⟨i,hi⟩:=List.getElem?_of_mem hr
     exact e4 i r hi
    clear hG e2 e3 e4 hcl
    walk_at "ge"
    refine K1.use ?_
    walk_at "cl"
    clear K1 hL sq
    obtain ⟨M2,Mv⟩ : ∃ M2:Cells,((l,HO.lst (oR rows))::HV rows)++M=M2:=⟨_,rfl⟩
    have hl3:Led H2 (bw cT cF cD cS cI S (eT sp mk sf rd us S []++M2)):=by
     rw [<-Mv]
     exact St.nG (St.j8 ((l,HO.lst (oR rows))::HV rows) hl2) (aN _ _ _)
    have xU:Lr n q S us [] M2:=lr.mono λ x hx=>by rw [<-Mv];exact mA hx
    have Ss:(l,HO.lst (oR rows))∈M2:=by rw [<-Mv];exact mS
    have U4 : ∀ r∈rows,(r.1,HO.lst (r.2.map V.int))∈M2:=λ r hr=>by rw [<-Mv];exact mB (mC (Bx hr))
    have afy : ∀ H',Led H' M2->Led H' M:=λ H' h=>by rw [<-Mv] at h;exact Led.right h
    clear hl2
    refine aG λ M1 K1 => ?_
    have f4:=Cp S
    have i9:=hl3.get St.b
    have RP:=hl3.get (St.up (mA Ss))
    have hI:=St.UB hl3
    have UE:=hI.get mS
    walk_at "ge"
    refine vv λ Lc mZ => ?_
    walk_at "ge"
    refine ⟨l,rfl,⟨_,fq.of RP⟩,mZ.use ?_⟩
    clear mZ
    refine mh (oR rows) (λ i v C => ∃ (r:Addr) (row:List Int),v=V.ref r/\C = [(r,HO.lst (row.map V.int))]/\rows[i]?.map (·.2)=some row) hl3 (St.up (mA Ss)) (by rw [gI];omega) (λ i y H4 R N hy bT hR => ?_) (λ l2 vs Cs H4 RT U5 hG bT => ?_)
    ·unfold oR at hy
     rw [List.getElem?_map] at hy
     obtain ⟨r,hr,rfl⟩:=Option.map_eq_some_iff.mp hy
     have oS:=bT.get (mA (St.up (mA (U4 r (List.mem_of_getElem? hr)))))
     clear hl3 hI i9 RP UE
     walk_at "ge"
     rename_i q2 H5 _ c7 _
     exact hR _ _ [_] ⟨q2,r.2,rfl,rfl,by rw [hr];rfl⟩ c7
    ·obtain ⟨sV,rfl,e2,e3,e4⟩:=rowsOf (p:=λ i row=>rows[i]?.map (·.2)=some row) (by rw [RT,U5]) hG
     rw [e2] at bT
     rw [gI,gI] at RT
     have same:=A1 (λ i r hi=>e4 i r hi) RT
     have h42 : ∀ r∈sV,r.2.length=4:=λ r hr=>by
      have h5:r.2∈rows.map (·.2):=by rw [<-same];exact List.mem_map.mpr ⟨r,hr,rfl⟩
      obtain ⟨x,hx,e⟩:=List.mem_map.mp h5
      rw [<-e]
      exact h4 x hx
     clear hG e2 e3 e4 U5 hI i9 RP UE hl3
     have c7:=St.j8 ((l2,HO.lst (oR sV))::HV sV) bT
     have hI:=St.UB c7
     clear bT
     walk_at "ge"
     refine ⟨S.ib,S.ix,S.im,l2,S.fs,z,sV,_,rfl,hI,lr.g.fn,LQ (mB mS),λ r hr=>⟨LQ (mB (mC (Bx hr))),by rw [h42 r hr];decide⟩,by omega,by rw [hfs];decide,λ _ fa rows' H5 er fL => ?_,λ hz=>absurd hz (by rw [hfs];simp)⟩
     have jx:Led H5 (bw cT cF cD cS cI { S with fs:=S.fs++[(z,fa,rows')] } (HV rows'++(((l2,HO.lst (oR sV))::HV sV)++(eT sp mk sf rd us S []++M2)))):=St.ofI (S:=S) (N:=HV rows') fL
     rw [hfs,List.nil_append] at jx
     obtain ⟨B2,eB2⟩ : ∃ B2:Cells,HV rows'++((l2,HO.lst (oR sV))::HV sV)=B2:=⟨_,rfl⟩
     have nD:Led H5 (bw cT cF cD cS cI { S with fs:=[(z,fa,rows')] } (eT sp mk sf rd us { S with fs:=[(z,fa,rows')] } []++(B2++M2))):=by
      rw [<-List.append_assoc,eB2] at jx
      exact St.nG jx (aN B2 (eT sp mk sf rd us { S with fs:=[(z,fa,rows')] } []) M2)
     have r9:=xU.U3 (fa:=fa) (M':=B2++M2) hfs (λ x hx=>mA hx) V3 (er.trans same) h4 (λ r hr=>mA (U4 r hr)) (λ r hr=>by rw [<-eB2];exact mB (mB (Bx hr)))
     obtain ⟨S1,l5⟩ : ∃ S1:SS,S1 = { S with fs:=[(z,fa,rows')] } := ⟨_,rfl⟩
     rw [<-l5] at nD r9
     have Em:S1.b=S.b:=by rw [l5]
     have OA:S1.p=S.p:=by rw [l5]
     clear c7 fL jx hI l5
     walk_at "ge"
     refine K1.use ?_
     walk_at "cl"
     clear K1
     have hrl:rows.length=m:=hvl
     refine aG λ M1 K1 => ?_
     refine o5 λ V0 nE => ?_
     walk_at "ge"
     refine ⟨_,rfl,by omega,by omega,nE.use ?_⟩
     clear nE
     rw [show ((m:Nat):Int).toNat=m by omega]
     refine o6 (λ i σ H' => ∃ (N:Cells) (v8:Option V),Led H' (bw cT cF cD cS cI S1 (eT sp mk sf rd us S1 (xV z (rows.take i))++(N++(B2++M2)))) ∧ σ = [some (.ref S.b),some (.ref sp),some (.ref sf),some (.ref rd),some (.ref a),some (.str z),some (.int (m:Nat)),some (.ref l),v8,none,none,none]) ⟨[],none,nD,rfl⟩ ?_ ?_
     ·clear nD K1 k
      rintro i σ H' hi ⟨N,v8,hl',rfl⟩
      have e0:(0+(i:Int))=((i:Nat):Int):=by omega
      have hir:i < rows.length:=by omega
      have al:iZ (oR rows) (0+(i:Int))=some (.ref rows[i].1):=dN (by omega) (by rw [e0,Int.toNat_natCast];unfold oR;rw [List.getElem?_map,List.getElem?_eq_getElem hir];rfl)
      have RP:=hl'.get (St.up (mA (mA (mA Ss))))
      walk_at "ge"
      rename_i t H6 _ jP _
      rw [e0] at jP
      have gO:Led H6 (bw cT cF cD cS cI S1 ([(t,HO.tup (gv (.file z ((i:Nat):Int))))]++(eT sp mk sf rd us S1 (xV z (rows.take i))++(N++(B2++M2))))):=St.push jP
      have eV:=St.AX _ _ gO
      have oS:=eV.get (mC (mC (mC mS)))
      have AU:H6 t=some (.tup ((lZ (.file z ((i:Nat):Int))).map kV)):=by rw [sS];exact jP.get mS
      have hnew:Th.file z ((i:Nat):Int) ∉ (xV z (rows.take i)).map (·.1):=λ h=>by
       obtain ⟨j,hj,e⟩:=G9.mp h
       rw [List.length_take] at hj
       injection e with _ e
       omega
      have RK:xV z (rows.take i)++[(.file z ((i:Nat):Int),rows[i].1,rows[i].2)]=xV z (rows.take (i+1)):=by
       rw [<-List.take_append_getElem hir,Mz,List.length_take,Nat.min_eq_left (by omega)]
      refine Mp oS AU (by rw [uS,G8,List.length_take];omega) ?_
      rw [G1 rows[i].1 rows[i].2 hnew,RK]
      have gj:Led (upd H6 rd (.dT (uI (xV z (rows.take (i+1)))))) (eT sp mk sf rd us S1 (xV z (rows.take (i+1)))++bw cT cF cD cS cI S1 ([(t,HO.tup (gv (.file z ((i:Nat):Int))))]++(N++(B2++M2)))):=eV.jG 3 rfl rfl rfl
      have gy:=St.j8 _ gj
      walk_at "ge"
      exact ⟨[(t,HO.tup (gv (.file z ((i:Nat):Int))))]++N,_,by rw [List.append_assoc];exact gy,rfl⟩
     ·clear nD
      rintro σ H' ⟨N,v8,hl',rfl⟩
      rw [List.take_of_length_le (by omega)] at hl'
      walk_at "ge"
      refine K1.use ?_
      walk_at "cl"
      clear K1
      obtain ⟨N0,eN0⟩ : ∃ N0:Cells,N++(B2++((l,HO.lst (oR rows))::HV rows))=N0:=⟨_,rfl⟩
      have e5:N++(B2++M2)=N0++M:=by rw [<-eN0,<-Mv];simp
      rw [e5] at hl'
      have MO:Lr n q S1 us (xV z rows) (N0++M):=by rw [<-e5];exact r9.mono λ x hx=>mA hx
      have tl:(xV z rows).length<=64:=by rw [G8];omega
      have eS:=hl'.get (St.up mS)
      have V6:fq K H' a (ns.map V.int):=RS _ (Led.right (Led.right (St.rest hl')))
      refine aG λ M1 K1 => ?_
      walk_at "ge"
      rw [ul]
      refine K1.use ?_
      walk_at "cl"
      clear K1 eS
      refine aG λ M1 K1 => ?_
      have nF : ∀ mm:Nat,mm<=64->M1 [some (.ref S.b),some (.ref sp),some (.ref sf),some (.ref rd),some (.ref a),some (.str z),some (.int (m:Nat)),some (.ref l),v8,some (.int (mm:Nat)),none,none] H':=by
       intro mm h64
       refine K1.use ?_
       clear K1
       refine aG λ M1 K1 => ?_
       refine o5 λ V0 nE => ?_
       walk_at "ge"
       refine ⟨_,rfl,by omega,by omega,nE.use ?_⟩
       clear nE
       rw [show ((mm:Nat):Int).toNat=mm by omega]
       refine o6 (λ i σ H' => ∃ (S':SS) (us':List V) (ts':Ts) (N:Cells) (v10 v11:Option V),S'.b=S.b/\S'.p=S.p/\ts'.length<=64+i/\Lr n q S' us' ts' (N++M)/\Led H' (bw cT cF cD cS cI S' (eT sp mk sf rd us' S' ts'++(N++M))) ∧ σ = [some (.ref S.b),some (.ref sp),some (.ref sf),some (.ref rd),some (.ref a),some (.str z),some (.int (m:Nat)),some (.ref l),v8,some (.int (mm:Nat)),v10,v11]) ⟨S1,us,_,N0,none,none,Em,OA,tl,MO,hl',rfl⟩ ?_ ?_
       ·clear hl' V6 K1 k
        rintro i σ H' hi ⟨S',us',ts',N,v10,v11,q1,q2,q3,lr',hl',rfl⟩
        have sq4:fq K H' a (ns.map V.int):=RS _ (Led.right (Led.right (St.rest hl')))
        refine aG λ M2 K2 => ?_
        walk_at "ge"
        refine ⟨a,ns,3,rfl,by decide,sq4,?_⟩
        rw [hx3]
        walk_at "ge"
        obtain ⟨c,hc⟩ : ∃ c:Int,(x3+(0+(i:Int)) * (0+(i:Int))) * 48271 % 7919=c:=⟨_,rfl⟩
        have c0:0<=c:=by rw [<-hc];exact Int.emod_nonneg _ (by decide)
        have c9:c < 7919:=by rw [<-hc];exact Int.emod_lt_of_pos _ (by decide)
        rw [hc]
        refine K2.use ?_
        walk_at "cl"
        clear K2 hc
        walk_at "ge"
        refine ⟨S',n,q,_,sp,mk,sf,rd,us',ts',_,by rw [q1];rfl,hl',lr',UT,by omega,by omega,by omega,λ S2 us2 CO N2 H2 r1 r2 r3 abz hl2 => ?_⟩
        walk_at "ge"
        exact ⟨S2,us2,CO,N2++N,_,_,r1.trans q1,r2.trans q2,by omega,by rw [List.append_assoc];exact abz,by rw [List.append_assoc];exact hl2,rfl⟩
       ·clear hl' V6
        rintro σ H' ⟨S',us',ts',N,v10,v11,q1,q2,q3,lr',hl',rfl⟩
        walk_at "ge"
        refine K1.use ?_
        walk_at "ge"
        exact k S' us' ts' N H' q1 q2 (by omega) lr' hl'
      clear K1
      walk_at "ge"
      refine ⟨a,ns,3,rfl,by decide,V6,?_⟩
      rw [hx3]
      walk_at "ge"
      ·refine ⟨a,ns,3,rfl,by decide,V6,?_⟩
       rw [hx3]
       have hpos:(0:Int) < (n:Int)+1:=by omega
       walk_at "ge"
       have z0:=Int.emod_nonneg (x3 / 2) (show (n:Int)+1≠0 by omega)
       have z1:=Int.emod_lt_of_pos (x3 / 2) hpos
       obtain ⟨mm,Sj⟩ : ∃ mm:Nat,x3 / 2 % ((n:Int)+1)=(mm:Int):=⟨_,(Int.toNat_of_nonneg z0).symm⟩
       rw [Sj] at z1 ⊢
       exact nF mm (by omega)
      ·exact nF n n64
  clear K1
  walk_at "ge"
  refine ⟨a,ns,2,rfl,by decide,sq,?_⟩
  rw [V5]
  walk_at "ge"
  ·refine ⟨a,ns,2,rfl,by decide,sq,?_⟩
   rw [V5]
   walk_at "ge"
   obtain ⟨m,hm⟩ : ∃ m:Nat,1+x2 / 24 % 64=((m:Nat):Int):=⟨(1+x2 / 24 % 64).toNat,by omega⟩
   rw [hm]
   exact rest m (by omega) (by omega)
  ·obtain ⟨m,hm⟩ : ∃ m:Nat,1+x2 % 6=((m:Nat):Int):=⟨(1+x2 % 6).toNat,by omega⟩
   rw [hm]
   exact rest m (by omega) (by omega)
end
section
variable {P:Program} {w:World} {K:PySem.W.Frag} {mg:Str->Option Value} {base:Heap} {cU cA cB cC cT cF cD cS cI:Addr}
theorem xW {α : Type} {n i:Nat} {x y : α} (h:(List.replicate n x)[i]? = some y):y=x:=List.eq_of_mem_replicate (List.mem_of_getElem? h)
section
variable {b dx fr Af l r s di Ct mk sh CL pl rd fi CM fd ho:Addr} {n q:Nat} {M:Cells}
theorem aR.laid (n1:1<=n) (n64:n<=64) (q6:q<=550):aR (S0 b dx fr Af l r s di Ct mk sh CL pl rd fi CM fd ho n q) n q M:=by
 have no : ∀ (i:Nat) (x:Addr×Th),(S0 b dx fr Af l r s di Ct mk sh CL pl rd fi CM fd ho n q).F.hs[i]? = some (some x)->False:=λ i x h=>nomatch (xW (α := Hd) (x:=none) h)
 exact { f:=Ej.new,n1:=n1,n64:=n64,bl:=List.length_replicate,pn:=n1,rr:=λ i t a h=>(no i _ h).elim,inj:=λ i _ t _ a h _=>(no i _ h).elim,pl:=List.length_replicate,q6:=q6,pe:=λ v hv => .inl (List.eq_of_mem_replicate hv),nd:=List.nodup_nil,pk:=λ m=>⟨λ h=>(nomatch (List.eq_of_mem_replicate h)),λ h=>(nomatch h)⟩,pi:=λ i j m h _=>(nomatch (xW (α := V) (x := .aI) h)),ap:=λ i t m h=>(no i _ h).elim,er:=λ e he=>(nomatch he),fn:=List.nodup_nil,fr:=λ e he=>(nomatch he),ff:=λ i t z p h=>(no i _ h).elim }
theorem El.laid:El (S0 b dx fr Af l r s di Ct mk sh CL pl rd fi CM fd ho n q) n q:=by
 refine ⟨List.nodup_nil,λ e he=>(nomatch he),λ e he=>(nomatch he),λ m=>⟨λ h=>(nomatch h),λ h => ?_⟩,Nat.zero_le _,Int.le_refl 0⟩
 rcases h with ⟨i,t,h⟩ | h
 ·exact nomatch (xW (α := Hd) (x:=none) h)
 ·exact (nomatch h)
end
theorem j7.laid {S:SS} {n:Nat} {M:Cells} (h:S.F.hs=List.replicate n none):j7 S (List.replicate n .aI) M:=by
 refine ⟨by rw [h,List.length_replicate,List.length_replicate],λ i hi => ?_,λ i t a hi => ?_⟩
 ·rw [h] at hi
  have hl:=(List.getElem?_eq_some_iff.mp hi).1
  rw [List.length_replicate] at hl
  rw [List.getElem?_replicate,if_pos hl]
 ·rw [h] at hi
  exact nomatch (xW (α := Hd) (x:=none) hi)
theorem Lr.laid {b dx fr Af l r s di Ct mk sh CL pl rd fi CM fd ho:Addr} {n q:Nat} {M:Cells} (n1:1<=n) (n64:n<=64) (q6:q<=550):Lr n q (S0 b dx fr Af l r s di Ct mk sh CL pl rd fi CM fd ho n q) (List.replicate n .aI) [] M:=by
 have no : ∀ a,¬ uT (S0 b dx fr Af l r s di Ct mk sh CL pl rd fi CM fd ho n q) a:=λ a ⟨i,t,h⟩=>nomatch (xW (α := Hd) (x:=none) h)
 refine { g:=aR.laid n1 n64 q6,gh:=El.laid,s:=j7.laid rfl,cl:=λ i t r z p row h=>absurd ⟨i,t,h⟩ (no _),nd:=List.nodup_nil,rw:=λ e he=>(nomatch he),x8:=λ a ha => ?_,hm:=rfl,cnt:=rfl }
 rcases ha with ha | ⟨row,ha⟩
 ·exact absurd ha (no a)
 ·cases a with
  | own m=>obtain ⟨b,hb⟩:=ha;exact nomatch hb
  | file z p=>obtain ⟨e,he,_⟩:=ha;exact nomatch he
end
section
variable {P:Program} {w:World} {K:PySem.W.Frag} {mg:Str->Option Value} {base:Heap} {cU cA cB cC cT cF cD cS cI:Addr}
theorem RU {f:Addr} {fd:FuncData} (F:HK K "law" "law" vJ f fd) (B:jd mg) (T:Txt K mg cU cA cB cC cT cF cD cS cI) (OG:iC P w K mg base 3 cT ["self","many","places"] (GZ cT cF cD cS cI)) (br:dF P w K mg base 1 "_law_cell_at" ["_law_script","_law_k"] (xJ K)) (CD:dF P w K mg base 1 "_law_sizes" ["_law_cell"] G2) (CF:dF P w K mg base 9 "_law_begun" ["_law_store","_law_spots","_law_shelf","_law_rows","_law_script"] (Hf K cT cF cD cS cI)) (eU:dF P w K mg base 5 "_law_is_store" ["_law_store","_law_spots","_law_marks","_law_shelf","_law_pointer"] (rZ cT cF cD cS cI)) (Ed:dF P w K mg base 3 "_law_stir" ["_law_store","_law_spots","_law_marks","_law_rows","_law_cell"] (Mq cT cF cD cS cI)) (Gp:dF P w K mg base 7 "_law_had" ["_law_store","_law_spots","_law_marks","_law_shelf","_law_rows","_law_pointer"] (Mu cT cF cD cS cI)) (l7:dF P w K mg base 8 "_law_fill" ["_law_store","_law_spots","_law_shelf","_law_rows","_law_cell"] (CB cT cF cD cS cI)) (fV:dF P w K mg base 5 "_law_row_there" ["_law_store","_law_spots","_law_shelf","_law_thing"] (oN cT cF cD cS cI)) (aW:dF P w K mg base 4 "_law_alike" ["_law_found","_law_due"] (mF 2)):gq P w K mg base (xY P w) 10 f fd ["_law_script"] (EM K):=by
 have sc:=Q9
 refine F.okN sc (λ vs H Q E h => ?_) (λ cdv A outer s H vs Q E hr h => ?_)
 ·obtain ⟨a,ns,rfl,_⟩:=h;rfl
 ·obtain ⟨a,ns,rfl,hS,hlen,Dh,hO,k⟩:=h
  have hu:=iU hr
  refine ⟨_,(@af _ _ _ _ _ (@bJ _ _ _ _ _ _ (@aC _ _ _ _ _ _ _ _ _ _ _ CD (hr.mono (by omega)) (by rfl) aB (@aa _ _ _ _ _ (@aC _ _ _ _ _ _ _ _ _ _ _ br (hr.mono (by omega)) (by rfl) aB (@aa _ _ _ _ _ (@aq _ 0 _ _ (by walk_at "v")) (@aa _ _ _ _ _ (@ak _ _ _ _) (@aj _) (by rfl)) (by rfl)) (by decide) (by rfl) (by rfl)) (@aj _) (by rfl)) (by decide) (by rfl) (by rfl)) (@Qg _ _ _ _ _ _ rfl (@CT _ _ _ _ _ (@eK _ _ 1 _ sc.nd rfl (by walk_at "o2") (by walk_at "o4")) (@CT _ _ _ _ _ (@eK _ _ 2 _ sc.nd rfl (by walk_at "o2") (by walk_at "o4")) (@MU _) (by rfl)) (by rfl)) (by rfl) (by rfl)) (by rfl) (by rfl) (by rfl)) (@af _ _ _ _ _ (@aK _ _ 3 _ _ _ _ sc.nd rfl (by walk_at "o2") (@pq _ _ _ _ _ _ _ _ _ _ _ _ T.bz OG (hr.mono (by omega)) (by rfl) aB (@aa _ _ _ _ _ (@aq _ 1 _ _ (by walk_at "v")) (@aa _ _ _ _ _ (@aq _ 2 _ _ (by walk_at "v")) (@aj _) (by rfl)) (by rfl)) (by decide) (by rfl) (by rfl)) (by rfl) (by walk_at "o4")) (@af _ _ _ _ _ (@aK _ _ 4 _ _ _ _ sc.nd rfl (by walk_at "o2") (@av _ _ _ _ _ _ _ _ kR (@iY _ _ _ _ (@aa _ _ _ _ _ (@bE _ _ _) (@aj _) (by rfl))) (@aq _ 1 _ _ (by walk_at "v"))) (by rfl) (by walk_at "o4")) (@af _ _ _ _ _ (@aK _ _ 5 _ _ _ _ sc.nd rfl (by walk_at "o2") (@av _ _ _ _ _ _ _ _ kR (@iY _ _ _ _ (@aa _ _ _ _ _ (@bP _ _ _ _) (@aj _) (by rfl))) (@aq _ 1 _ _ (by walk_at "v"))) (by rfl) (by walk_at "o4")) (@af _ _ _ _ _ (@aK _ _ 6 _ _ _ _ sc.nd rfl (by walk_at "o2") (@av _ _ _ _ _ _ _ _ kR (@iY _ _ _ _ (@aa _ _ _ _ _ (@bE _ _ _) (@aj _) (by rfl))) (@aq _ 2 _ _ (by walk_at "v"))) (by rfl) (by walk_at "o4")) (@af _ _ _ _ _ (@aK _ _ 7 _ _ _ _ sc.nd rfl (by walk_at "o2") (@J4 _ _) (by rfl) (by walk_at "o4")) (@af _ _ _ _ _ (@aK _ _ 8 _ _ _ _ sc.nd rfl (by walk_at "o2") (@ak _ _ _ _) (by rfl) (by walk_at "o4")) (@af _ _ _ _ _ (@aS _ _ _ _ _ _ _ _ (@cV _ _ _ _ (@aZ _ _ _ (@aC _ _ _ _ _ _ _ _ _ _ _ CF (hr.mono (by omega)) (by rfl) aB (@aa _ _ _ _ _ (@aq _ 3 _ _ (by walk_at "v")) (@aa _ _ _ _ _ (@aq _ 4 _ _ (by walk_at "v")) (@aa _ _ _ _ _ (@aq _ 6 _ _ (by walk_at "v")) (@aa _ _ _ _ _ (@aq _ 7 _ _ (by walk_at "v")) (@aa _ _ _ _ _ (@aq _ 0 _ _ (by walk_at "v")) (@aj _) (by rfl)) (by rfl)) (by rfl)) (by rfl)) (by rfl)) (by decide) (by rfl) (by rfl)) (by intro _;rfl))) (@ao _ _ _ (@aE _ _ _ _ (@bP _ _ _ _))) (@aF _)) (@af _ _ _ _ _ (@aS _ _ _ _ _ _ _ _ (@cV _ _ _ _ (@aZ _ _ _ (@aC _ _ _ _ _ _ _ _ _ _ _ eU (hr.mono (by omega)) (by rfl) aB (@aa _ _ _ _ _ (@aq _ 3 _ _ (by walk_at "v")) (@aa _ _ _ _ _ (@aq _ 4 _ _ (by walk_at "v")) (@aa _ _ _ _ _ (@aq _ 5 _ _ (by walk_at "v")) (@aa _ _ _ _ _ (@aq _ 6 _ _ (by walk_at "v")) (@aa _ _ _ _ _ (@aq _ 8 _ _ (by walk_at "v")) (@aj _) (by rfl)) (by rfl)) (by rfl)) (by rfl)) (by rfl)) (by decide) (by rfl) (by rfl)) (by intro _;rfl))) (@ao _ _ _ (@aE _ _ _ _ (@bP _ _ _ _))) (@aF _)) (@af _ _ _ _ _ (@iW _ _ _ _ _ _ _ _ PassesOwn.never rfl (@gE _ _ _ _ (@kO _ _ _ _ _ _ _ _ _ _ (vt (K:=K) rfl) (@aq _ 0 _ _ (by walk_at "v")) (@l9 _ _ _ (@ak _ _ _ _)) (@l9 _ _ _ (@ak _ _ _ _)))) (@eK _ _ 9 _ sc.nd rfl (by walk_at "o2") (by walk_at "o4")) (@af _ _ _ _ _ (@b9 _ _ _ _ (@aC _ _ _ _ _ _ _ _ _ _ _ Ed (hr.mono (by omega)) (by rfl) aB (@aa _ _ _ _ _ (@aq _ 3 _ _ (by walk_at "v")) (@aa _ _ _ _ _ (@aq _ 4 _ _ (by walk_at "v")) (@aa _ _ _ _ _ (@aq _ 5 _ _ (by walk_at "v")) (@aa _ _ _ _ _ (@aq _ 7 _ _ (by walk_at "v")) (@aa _ _ _ _ _ (@aq _ 9 _ _ (by walk_at "v")) (@aj _) (by rfl)) (by rfl)) (by rfl)) (by rfl)) (by rfl)) (by decide) (by rfl) (by rfl)) (by rfl)) (@af _ _ _ _ _ (@aK _ _ 8 _ _ _ _ sc.nd rfl (by walk_at "o2") (@aC _ _ _ _ _ _ _ _ _ _ _ Gp (hr.mono (by omega)) (by rfl) aB (@aa _ _ _ _ _ (@aq _ 3 _ _ (by walk_at "v")) (@aa _ _ _ _ _ (@aq _ 4 _ _ (by walk_at "v")) (@aa _ _ _ _ _ (@aq _ 5 _ _ (by walk_at "v")) (@aa _ _ _ _ _ (@aq _ 6 _ _ (by walk_at "v")) (@aa _ _ _ _ _ (@aq _ 7 _ _ (by walk_at "v")) (@aa _ _ _ _ _ (@aq _ 8 _ _ (by walk_at "v")) (@aj _) (by rfl)) (by rfl)) (by rfl)) (by rfl)) (by rfl)) (by rfl)) (by decide) (by rfl) (by rfl)) (by rfl) (by walk_at "o4")) (@af _ _ _ _ _ (@aS _ _ _ _ _ _ _ _ (@aL _ _ _ _ _ _ _ _ Al (@aq _ 8 _ _ (by walk_at "v")) (@ak _ _ _ _) (aP _)) (@ao _ _ _ (@aE _ _ _ _ (@bP _ _ _ _))) (@aF _)) (@ao _ _ _ (@aS _ _ _ _ _ _ _ _ (@cV _ _ _ _ (@aZ _ _ _ (@aC _ _ _ _ _ _ _ _ _ _ _ l7 (hr.mono (by omega)) (by rfl) aB (@aa _ _ _ _ _ (@aq _ 3 _ _ (by walk_at "v")) (@aa _ _ _ _ _ (@aq _ 4 _ _ (by walk_at "v")) (@aa _ _ _ _ _ (@aq _ 6 _ _ (by walk_at "v")) (@aa _ _ _ _ _ (@aq _ 7 _ _ (by walk_at "v")) (@aa _ _ _ _ _ (@av _ _ _ _ _ _ _ _ aH (@av _ _ _ _ _ _ _ _ o8 (@av _ _ _ _ _ _ _ _ aV (@aq _ 9 _ _ (by walk_at "v")) (@ak _ _ _ _)) (@ak _ _ _ _)) (@ak _ _ _ _)) (@aj _) (by rfl)) (by rfl)) (by rfl)) (by rfl)) (by rfl)) (by decide) (by rfl) (by rfl)) (by intro _;rfl))) (@ao _ _ _ (@aE _ _ _ _ (@bP _ _ _ _))) (@aF _)))))) (by intro _;rfl)) (@af _ _ _ _ _ (@iW _ _ _ _ _ _ _ _ PassesOwn.never rfl (@gE _ _ _ _ (@bh _ _ _ _ _ _ _ _ _ (kZ rfl) (by rfl) B.list bS (@aa _ _ _ _ _ (@aq _ 7 _ _ (by walk_at "v")) (@aj _) (by rfl)) (by decide) (by decide) (by rfl) (by rfl))) (@eK _ _ 10 _ sc.nd rfl (by walk_at "o2") (by walk_at "o4")) (@ao _ _ _ (@aS _ _ _ _ _ _ _ _ (@cV _ _ _ _ (@aZ _ _ _ (@aC _ _ _ _ _ _ _ _ _ _ _ aW (hr.mono (by omega)) (by rfl) aB (@aa _ _ _ _ _ (@aC _ _ _ _ _ _ _ _ _ _ _ fV (hr.mono (by omega)) (by rfl) aB (@aa _ _ _ _ _ (@aq _ 3 _ _ (by walk_at "v")) (@aa _ _ _ _ _ (@aq _ 4 _ _ (by walk_at "v")) (@aa _ _ _ _ _ (@aq _ 6 _ _ (by walk_at "v")) (@aa _ _ _ _ _ (@aq _ 10 _ _ (by walk_at "v")) (@aj _) (by rfl)) (by rfl)) (by rfl)) (by rfl)) (by decide) (by rfl) (by rfl)) (@aa _ _ _ _ _ (@iB _ _ _ _ _ _ hu (@aq _ 7 _ _ (by walk_at "v")) (@aq _ 10 _ _ (by walk_at "v")) (λ _ _=>rfl)) (@aj _) (by rfl)) (by rfl)) (by decide) (by rfl) (by rfl)) (by intro _;rfl))) (@ao _ _ _ (@aE _ _ _ _ (@bP _ _ _ _))) (@aF _))) (by intro _;rfl)) (@ao _ _ _ (@aE _ _ _ _ (@bP _ _ _ _)))))))))))))),?_⟩
  obtain ⟨L,hL,hs⟩:=HS hS hO
  clear hO
  refine aG λ M1 K1 => ?_
  walk_at "ge"
  refine ⟨a,ns,0,rfl,by decide,hS,?_⟩
  walk_at "ge"
  generalize ns.getD (Int.toNat 0) 0=first
  refine ⟨first,L,rfl,hL,λ p0 H1 hl1 => ?_⟩
  obtain ⟨z1,z2,z3,z4⟩:=Gf first
  obtain ⟨n,hn⟩ : ∃ n:Nat,(sizesOf first).1=n:=⟨_,(Int.toNat_of_nonneg (by omega)).symm⟩
  obtain ⟨q,hq⟩ : ∃ q:Nat,(sizesOf first).2=q:=⟨_,(Int.toNat_of_nonneg z3).symm⟩
  rw [hn,hq] at hl1
  rw [hn] at z1 z2
  rw [hq] at z3 z4
  clear hn hq
  walk_at "ge"
  refine Ui (hl1.get mS) ?_
  walk_at "ge"
  refine K1.use ?_
  walk_at "cl"
  clear K1
  refine aG λ M1 K1 => ?_
  walk_at "ge"
  intro st dx y1 y2 y3
  refine ⟨st,dx,n,q,_,rfl,hl1.make y1 y2 y3,by omega,by omega,λ fr Af l r s' di Ct mk0 sh CL pl rdd fi CM fd ho H2 hl2=>⟨rfl,?_⟩⟩
  clear y1 y2 y3
  walk_at "ge"
  refine K1.use ?_
  walk_at "cl"
  clear K1
  obtain ⟨PK,RV⟩ : ∃ S,S=S0 st dx fr Af l r s' di Ct mk0 sh CL pl rdd fi CM fd ho n q:=⟨_,rfl⟩
  rw [<-RV] at hl2
  refine aG λ M1 K1 => ?_
  walk_at "ge"
  rename Led _ _=>hl3
  refine Dk (hl3.get mS) ⟨by omega,by omega⟩ (by have:=sizeLine_eq;simp only [List.length_cons,List.length_nil];omega) (Led.alloc hl3 λ sp H3 _ bT _ => ?_)
  rw [Lj,Int.toNat_natCast] at bT
  walk_at "ge"
  refine K1.use ?_
  walk_at "cl"
  clear K1
  refine aG λ M1 K1 => ?_
  walk_at "ge"
  rename Led _ _=>c7
  refine Dk (c7.get mS) ⟨by omega,by omega⟩ (by have:=sizeLine_eq;simp only [List.length_cons,List.length_nil];omega) (Led.alloc c7 λ mk H4 _ fL _ => ?_)
  rw [Ln,Int.toNat_natCast] at fL
  walk_at "ge"
  refine K1.use ?_
  walk_at "cl"
  clear K1
  refine aG λ M1 K1 => ?_
  walk_at "ge"
  rename Led _ _=>jx
  refine Dk (jx.get mS) ⟨by omega,by omega⟩ (by have:=sizeLine_eq;simp only [List.length_cons,List.length_nil];omega) (Led.alloc jx λ sf H5 _ nD _ => ?_)
  rw [Lj,Int.toNat_natCast] at nD
  walk_at "ge"
  refine K1.use ?_
  walk_at "cl"
  clear K1
  refine aG λ M1 K1 => ?_
  walk_at "ge"
  refine Led.alloc nD λ rd H6 _ jP _ => ?_
  walk_at "ge"
  refine K1.use ?_
  walk_at "cl"
  clear K1
  have gO:Led H6 ((sp,.lst (List.replicate n .aI))::(mk,.lst ((List.replicate n false).map V.bl))::(sf,.lst (List.replicate q .aI))::(rd,.dT [])::bw cT cF cD cS cI PK ((p0,.tup [.int (n:Nat),.int (q:Nat)])::L)):=jP.wk (by walk_at "sp")
  clear jP nD jx fL c7 bT hl3 hl2 hl1
  obtain ⟨M0,eM0⟩ : ∃ M0:Cells,(p0,HO.tup [.int (n:Nat),.int (q:Nat)])::L=M0:=⟨_,rfl⟩
  have eV:Led H6 (bw cT cF cD cS cI PK (eT sp mk sf rd (List.replicate n .aI) PK []++M0)):=St.j8 [_,_,_,_] (by rw [RV,<-eM0] at *;exact gO)
  have lr0:Lr n q PK (List.replicate n .aI) [] M0:=by rw [RV];exact Lr.laid (by omega) (by omega) (by omega)
  have eb0:PK.b=st:=by rw [RV];rfl
  have ep0:PK.p=0:=by rw [RV];rfl
  have ef0:PK.fs = []:=by rw [RV];rfl
  have RS : ∀ H',Led H' M0->fq K H' a (ns.map V.int):=λ H' h=>hs.seq (by rw [<-eM0] at h;exact h.tail)
  clear gO RV
  refine aG λ M1 K1 => ?_
  walk_at "ge"
  refine K1.use ?_
  walk_at "cl"
  clear K1
  refine aG λ M1 K1 => ?_
  walk_at "ge"
  refine ⟨PK,n,q,sp,mk,sf,rd,a,ns,_,M0,by rw [eb0];rfl,eV,lr0,ef0,by omega,RS,λ S1 CN Su N1 H7 b1 p1 t1 Gk gj => ?_⟩
  rw [eb0] at b1
  rw [ep0] at p1
  walk_at "ge"
  refine K1.use ?_
  walk_at "cl"
  clear K1 eV
  refine aG λ M1 K1 => ?_
  walk_at "ge"
  refine ⟨S1,n,q,sp,mk,sf,CN,_,by rw [b1,p1];rfl,gj,Gk.g.mono (λ x hx=>mA hx),mS,mC mS,mC (mC mS),Gk.s.mono (λ x hx=>mA hx),λ N2 H8 gy => ?_⟩
  walk_at "ge"
  refine K1.use ?_
  walk_at "cl"
  clear K1 gj
  have lY:Led H8 (bw cT cF cD cS cI S1 (eT sp mk sf rd CN S1 Su++((N2++N1)++M0))):=St.nG gy (by rw [List.append_assoc N2];exact aN N2 _ _)
  have xU:Lr n q S1 CN Su ((N2++N1)++M0):=Gk.mono λ x hx=>by rw [List.append_assoc];exact mA hx
  have sq:fq K H8 a (ns.map V.int):=RS _ (Led.right (Led.right (St.rest lY)))
  clear gy
  refine aG λ M1 K1 => ?_
  refine forL λ V0 nE => ?_
  walk_at "ge"
  obtain ⟨cs,hcs,hcl⟩:=Kp ns (some 4) (some 64)
  have hmem : ∀ x∈cs,x∈ns:=λ x hx=>by
   have h1:V.int x∈kP (ns.map V.int) (some 4) (some 64):=by rw [hcs];exact List.mem_map.mpr ⟨x,hx,rfl⟩
   unfold kP at h1
   have h2:=List.mem_of_mem_drop (List.mem_of_mem_take h1)
   obtain ⟨y,hy,e⟩:=List.mem_map.mp h2
   cases e
   exact hy
  refine Ua sq λ sl hsl => ?_
  rw [hcs]
  refine ⟨sl,rfl,⟨_,fq.of ja⟩,nE.use ?_⟩
  have D6:=lY.new (o := .lst (cs.map V.int)) hsl
  generalize upd H8 sl (.lst (cs.map V.int))=H9 at D6 ⊢
  obtain ⟨N3,eN3⟩ : ∃ N3:Cells,(sl,HO.lst (cs.map V.int))::(N2++N1)=N3:=⟨_,rfl⟩
  have e3:[(sl,HO.lst (cs.map V.int))]++((N2++N1)++M0)=N3++M0:=by rw [<-eN3];simp
  have Jt:Led H9 (bw cT cF cD cS cI S1 (eT sp mk sf rd CN S1 Su++(N3++M0))):=by
   rw [<-e3]
   exact St.nG (St.push D6) (aN [(sl,HO.lst (cs.map V.int))] (eT sp mk sf rd CN S1 Su) ((N2++N1)++M0))
  have r9:Lr n q S1 CN Su (N3++M0):=by rw [<-e3];exact xU.mono λ x hx=>mA hx
  have abA:(sl,HO.lst (cs.map V.int))∈N3:=by rw [<-eN3];exact mS
  clear nE sq lY hsl D6 hcs xU
  walk_at "cl"
  refine OZ (cs.map V.int) (λ i σ H' => ∃ (S:SS) (us:List V) (ts:Ts) (N:Cells),S.b=st/\ts.length<=128+i/\Lr n q S us ts (N++M0)/\Led H' (bw cT cF cD cS cI S (eT sp mk sf rd us S ts++(N++M0)))/\(sl,HO.lst (cs.map V.int))∈N ∧ ∃ v9,σ = [some (.ref a),some (.int (n:Nat)),some (.int (q:Nat)),some (.ref st),some (.ref sp),some (.ref mk),some (.ref sf),some (.ref rd),some (.int (S.p:Nat)),v9,none]) ⟨S1,CN,Su,N3,b1,t1,r9,Jt,abA,none,by rw [p1];rfl⟩ (λ i σ H' _ h => ?_) ?_ ?_
  ·obtain ⟨S,us,ts,N,_,_,_,hl,Pw,_⟩:=h
   exact fq.of (hl.get (St.up (mA (mB Pw))))
  ·clear Jt K1 k
   rintro i v σ H' hv ⟨S,us,ts,N,q1,q2,lr,hl,Pw,v9,rfl⟩
   rw [List.getElem?_map] at hv
   obtain ⟨cell,hcell,rfl⟩:=Option.map_eq_some_iff.mp hv
   have hcb:=Dh cell (hmem cell (List.mem_of_getElem? hcell))
   have hi:i < cs.length:=(List.getElem?_eq_some_iff.mp hcell).1
   walk_at "ge"
   refine ⟨S,n,q,cell,sp,mk,sf,rd,us,ts,_,by rw [q1];rfl,hl,lr,by omega,hcb,λ S2 CO N4 H2 r1 r2 r3 xU hl2 => ?_⟩
   have tl2:CO.length=ts.length:=by have:=congrArg List.length r3;simpa using this
   walk_at "ge"
   refine ⟨S2,n,q,sp,mk,sf,rd,us,CO,_,by rw [r1,r2,q1];rfl,hl2,xU,λ S3 us3 N5 H3 w1 MO bT => ?_⟩
   walk_at "ge"
   all_goals first | (exfalso;omega) | skip
   obtain ⟨c,hc⟩ : ∃ c:Int,(cell+7) * 69621 % 15101=c:=⟨_,rfl⟩
   have c0:0<=c:=by rw [<-hc];exact Int.emod_nonneg _ (by decide)
   have c9:c < 15101:=by rw [<-hc];exact Int.emod_lt_of_pos _ (by decide)
   rw [hc]
   refine ⟨S3,n,q,c,sp,mk,sf,rd,us3,CO,_,by rw [w1,r1,q1];rfl,bT,MO,by omega,by omega,c0,by omega,λ S4 us4 ts4 N6 H4 y1 y2 y3 lr5 c7 => ?_⟩
   walk_at "ge"
   have e8:N6++(N5++(N4++(N++M0)))=(N6++(N5++(N4++N)))++M0:=by simp
   rw [e8] at lr5 c7
   exact ⟨S4,us4,ts4,_,y1.trans (w1.trans (r1.trans q1)),by omega,lr5,c7,mA (mA (mA Pw)),_,by rw [y2];rfl⟩
  ·clear Jt
   rintro σ H' ⟨S,us,ts,N,q1,q2,lr,hl,Pw,v9,rfl⟩
   walk_at "ge"
   refine K1.use ?_
   walk_at "cl"
   clear K1
   refine aG λ M1 K1 => ?_
   refine forL λ V0 nE => ?_
   have oS:=hl.get (St.up (mC (mC (mC mS))))
   walk_at "ge"
   refine r8 oS hl λ ky ys H2 ey hl2 => ?_
   refine ⟨ky,rfl,⟨_,fq.of (hl2.get mS)⟩,nE.use ?_⟩
   clear nE oS hl
   have hl3:=St.j8 ((ky,HO.lst (ys.map λ y=>V.ref y.1))::OB ys) hl2
   obtain ⟨Z,eZ⟩ : ∃ Z:Cells,((ky,HO.lst (ys.map λ y=>V.ref y.1))::OB ys)++(eT sp mk sf rd us S ts++(N++M0))=Z:=⟨_,rfl⟩
   rw [eZ] at hl3
   have abB:(ky,HO.lst (ys.map λ y=>V.ref y.1))∈Z:=by rw [<-eZ];exact mS
   have i_y : ∀ y∈ys,(y.1,HO.tup (gv y.2))∈Z:=λ y hy=>by rw [<-eZ];exact mB (mC (List.mem_map.mpr ⟨y,hy,rfl⟩))
   have U6 : ∀ x∈eT sp mk sf rd us S ts++(N++M0),x∈Z:=λ x hx=>by rw [<-eZ];exact mA hx
   clear hl2
   walk_at "cl"
   refine OZ (ys.map λ y=>V.ref y.1) (λ i σ H' => ∃ (W:Cells) (v10:Option V),Led H' (bw cT cF cD cS cI S (W++Z)) ∧ σ = [some (.ref a),some (.int (n:Nat)),some (.int (q:Nat)),some (.ref st),some (.ref sp),some (.ref mk),some (.ref sf),some (.ref rd),some (.int (S.p:Nat)),v9,v10]) ⟨[],none,hl3,rfl⟩ (λ i σ H' _ h => ?_) ?_ ?_
   ·obtain ⟨W,_,hl,_⟩:=h
    exact fq.of (hl.get (St.up (mA abB)))
   ·clear hl3 K1 k
    rintro i v σ H' hv ⟨W,v10,hl,rfl⟩
    rw [List.getElem?_map] at hv
    obtain ⟨y,hyi,rfl⟩:=Option.map_eq_some_iff.mp hv
    have hy:=List.mem_of_getElem? hyi
    have hk:y.2∈ts.map (·.1):=by rw [<-ey];exact List.mem_map.mpr ⟨y,hy,rfl⟩
    obtain ⟨e,he,ea⟩:=List.mem_map.mp hk
    have ea':e.1=y.2:=ea
    obtain ⟨ie,rat,VZ⟩:=lr.rw e he
    have e4:e.2.2.length=4:=by
     rcases rat with ⟨j,v,r,h5,h6⟩ | ⟨_,h5⟩
     ·obtain ⟨r',fN,h7,h8⟩:=lr.g.rr j v e.1 h5
      rw [h6] at h7
      cases h7
      exact h8
     ·exact h5.len lr.g
    have U1:(y.1,HO.tup (gv e.1))∈W++Z:=by rw [ea'];exact mA (i_y y hy)
    walk_at "ge"
    refine ⟨S,n,q,y.1,sp,sf,e.1,e.2.2,us,_,by rw [q1];rfl,hl,lr.g.mono (λ x hx=>mA (U6 _ (mA hx))),lr.s.mono (λ x hx=>mA (U6 _ (mA hx))),mA (U6 _ mS),U1,VZ,rat,λ r N5 H5 sQ jP => ?_⟩
    have oS:=jP.get (St.up (mA (mA (U6 _ (mC (mC (mC mS)))))))
    have Gi:H5 y.1=some (.tup ((lZ e.1).map kV)):=by rw [sS];exact jP.get (St.up (mA U1))
    walk_at "ge"
    refine G5 oS Gi (Cw lr.nd he) ?_
    walk_at "ge"
    refine ⟨_,_,rfl,sU (jP.get (St.up (mB sQ))) (jP.get (St.up (mA (mA (U6 _ (mA ie)))))) (by omega),?_⟩
    walk_at "ge"
    exact ⟨N5++W,_,by rw [List.append_assoc];exact jP,rfl⟩
   ·clear hl3
    rintro σ H' ⟨W,v10,hl,rfl⟩
    walk_at "ge"
    refine K1.use ?_
    walk_at "ge"
    exact k _
end
section
variable {P:Program} {w:World} {K:PySem.W.Frag} {mg:Str->Option Value} {base:Heap} {cU cA cB cC cT cF cD cS cI:Addr}
theorem RW {f:Addr} {fd:FuncData} (F:HK K "law" "law" vJ f fd) (B:jd mg) (T:Txt K mg cU cA cB cC cT cF cD cS cI):gq P w K mg base (xY P w) 10 f fd ["_law_script"] (EM K):=by
 have Hg:=LB (P:=P) (w:=w) (base:=base) T.vL B T
 have xX:=Ja (P:=P) (w:=w) (base:=base) T.tE B T
 have PL:=IZ (P:=P) (w:=w) (base:=base) T.tw B T
 have MB:=NX (P:=P) (w:=w) (base:=base) T.yo B T
 have OH:=Jb (P:=P) (w:=w) (base:=base) T.tD B T (NY T.BG B)
 have Hh:=Lq (P:=P) (w:=w) (base:=base) T.BD T
 have OI:=Lp (P:=P) (w:=w) (base:=base) T.BC T
 have MC:=N8 (P:=P) (w:=w) (base:=base) T.tF T
 have Ef:=Jd (P:=P) (w:=w) (base:=base) T.vO B T
 have U7:=Rp (P:=P) (w:=w) (base:=base) T.vN B T MC
 have RX:=N9 (P:=P) (w:=w) (base:=base) T.qC B T
 have OJ:=Jf (P:=P) (w:=w) (base:=base) T.lz B T
 have RY:=DW (P:=P) (w:=w) (base:=base) T.qD B T
 have RZ:=Oa (P:=P) (w:=w) (base:=base) T.tG B T RY
 have MD:=DX (P:=P) (w:=w) (base:=base) T.qE B T RZ
 have OL:=LK (P:=P) (w:=w) (base:=base) T.pI B T MD
 have Hi:=Jl (P:=P) (w:=w) (base:=base) T.vP B T MD
 have R0:=D4 (P:=P) (w:=w) (base:=base) T.ET T
 have R1:=Ob (P:=P) (w:=w) (base:=base) T.BH T (Ll T.vK B T) Hh
 have U8:=Gd (P:=P) (w:=w) (base:=base) T.HX T (DU T.pH T) PL (IY T.nU T) U7 OL R0 R1
 have Gq:=Od (P:=P) (w:=w) (base:=base) T.BI B T (zZ T.mL T Hg) xX MC (IX T.yq B T) R0 U8
 have R4:=Of (P:=P) (w:=w) (base:=base) T.HZ B T xX Ef
 have U9:=Rw (P:=P) (w:=w) (base:=base) T.Du B T MB R4 Gq
 have Ju:=Ge (P:=P) (w:=w) (base:=base) T.HY T RX Hi R0
 have OM:=L6 (P:=P) (w:=w) (base:=base) T.NJ B T Hg MB Ju Gq
 have Hj:=LL (P:=P) (w:=w) (base:=base) T.Ia B T
 have uV:=DZ (P:=P) (w:=w) (base:=base) T.Ic B T Hj 2
 have g_num:=Rr (P:=P) (w:=w) (base:=base) T.NK T
 have g_row:=Rt (P:=P) (w:=w) (base:=base) T.NL B T g_num
 have ME:=F9 (P:=P) (w:=w) (base:=base) T.Dv B
 have Va:=D7 (P:=P) (w:=w) (base:=base) T.BJ B T xX (Ls T.BE B T) (F6 T.vM T) Ef uV
 have Hl:=CA (P:=P) (w:=w) (base:=base) T.yu B T PL OJ Hi
 have R6:=Oz (P:=P) (w:=w) (base:=base) T.KI B T OI Hh OH g_num (Ov T.Dw B T)
 have MF:=Mr (P:=P) (w:=w) (base:=base) T.KJ B T OM U9 g_row uV
 have Vb:=OE (P:=P) (w:=w) (base:=base) T.NO B T Gq (Ou T.KH B T Hj) Va Hl uV
 have ON:=MA (P:=P) (w:=w) (base:=base) T.Ig B T (OF T.BF B T) ME (Ox T.KG B T) g_row MF
 exact RU F B T (L3 T.NG T (Lk T.KD T) (Lo T.Rc T) (Jc T.NH T) (LH T.NI T)) ME (L8 T.Ie T) ON Va R6 Vb MF Hl uV
end
end My
set_option Elab.async false
set_option linter.all false
set_option maxRecDepth 100000
def PySem.W.Fast.tw8714047763779788923:Unit:=()
def PySem.W.Fast.tw5549124420706753868:Unit:=()
def PySem.W.Fast.tw8856805418425903270:Unit:=()
def PySem.W.Fast.tw16468565174509662473:Unit:=()
def PySem.W.Fast.tw13722360021337236910:Unit:=()
def PySem.W.Fast.tw6636768773487581320:Unit:=()
def PySem.W.Fast.tw3447110281437233457:Unit:=()
def PySem.W.Fast.tw10647301136378059442:Unit:=()
def PySem.W.Fast.tw3228366026855943804:Unit:=()
def PySem.W.Fast.tw18086961758231281595:Unit:=()
def PySem.W.Fast.tw9323828496881741759:Unit:=()
def PySem.W.Fast.tw4040731495221062239:Unit:=()
def PySem.W.Fast.tw14169353324054947366:Unit:=()
def PySem.W.Fast.tw376904186302520892:Unit:=()
def PySem.W.Fast.tw3932211903684486229:Unit:=()
def PySem.W.Fast.tw9198560805517341286:Unit:=()
def PySem.W.Fast.tw17191962384054631395:Unit:=()
def PySem.W.Fast.tw18211633771497844061:Unit:=()
def PySem.W.Fast.tw13196966113047092052:Unit:=()
def PySem.W.Fast.tw13903394325643614981:Unit:=()
def PySem.W.Fast.tw17182062264653698128:Unit:=()
def PySem.W.Fast.tw7843644895199852:Unit:=()
def PySem.W.Fast.tw3586236725476116530:Unit:=()
def PySem.W.Fast.tw8301307570784194597:Unit:=()
def PySem.W.Fast.tw16878431649409490277:Unit:=()
def PySem.W.Fast.tw3185284166889186465:Unit:=()
def PySem.W.Fast.tw10191038397499331135:Unit:=()
def PySem.W.Fast.tw15902486823934716934:Unit:=()
def PySem.W.Fast.tw1228059534552401679:Unit:=()
def PySem.W.Fast.tw13816037372597280603:Unit:=()
def PySem.W.Fast.tw17313905566984335603:Unit:=()
def PySem.W.Fast.tw14154768123937492043:Unit:=()
def PySem.W.Fast.tw16012161098080919072:Unit:=()
def PySem.W.Fast.tw3149131530942822197:Unit:=()
def PySem.W.Fast.tw16696309796941507836:Unit:=()
def PySem.W.Fast.tw13087512121549841103:Unit:=()
def PySem.W.Fast.tw3343894137292911734:Unit:=()
def PySem.W.Fast.tw15193376204000462532:Unit:=()
def PySem.W.Fast.tw4918305942860817013:Unit:=()
def PySem.W.Fast.tw3185241795765413079:Unit:=()
def PySem.W.Fast.tw3318447626599116136:Unit:=()
def PySem.W.Fast.tw262942111825669837:Unit:=()
def PySem.W.Fast.tw8886207889151330227:Unit:=()
def PySem.W.Fast.tw124190608490465547:Unit:=()
def PySem.W.Fast.tw14308804150784036401:Unit:=()
def PySem.W.Fast.tw12717623031717930012:Unit:=()
def PySem.W.Fast.tw4108021483752089357:Unit:=()
def PySem.W.Fast.tw8184584455102034477:Unit:=()
def PySem.W.Fast.tw5732620921892570200:Unit:=()
def PySem.W.Fast.tw7084867764712884604:Unit:=()
def PySem.W.Fast.tw3102132750880128842:Unit:=()
def PySem.W.Fast.tw14600326902598650100:Unit:=()
def PySem.W.Fast.tw6690118707008943667:Unit:=()
def PySem.W.Fast.tw9425053252083430842:Unit:=()
def PySem.W.Fast.tw15828620986235436876:Unit:=()
def PySem.W.Fast.tw5312113602872541290:Unit:=()
def PySem.W.Fast.tw6703424548066821565:Unit:=()
def PySem.W.Fast.tw7198177201802391523:Unit:=()
def PySem.W.Fast.tw178650082551260914:Unit:=()
def PySem.W.Fast.tw13237005638570419402:Unit:=()
def PySem.W.Fast.tw14979348826735750851:Unit:=()
def PySem.W.Fast.tw15203137144391034298:Unit:=()
def PySem.W.Fast.tw13445542137291772996:Unit:=()
def PySem.W.Fast.tw13290822872781880881:Unit:=()
def PySem.W.Fast.tw450091579443591012:Unit:=()
def PySem.W.Fast.tw3326301371510022696:Unit:=()
def PySem.W.Fast.tw3442192219938865731:Unit:=()
def PySem.W.Fast.tw15200421208409165683:Unit:=()
def PySem.W.Fast.tw13907368861015066632:Unit:=()
def PySem.W.Fast.tw2160431512533054018:Unit:=()
def PySem.W.Fast.tw9225171878563339888:Unit:=()
def PySem.W.Fast.tw10471991722312899897:Unit:=()
def PySem.W.Fast.tw6351459098420553880:Unit:=()
def PySem.W.Fast.tw529920421628303243:Unit:=()
def PySem.W.Fast.tw14407247520282303674:Unit:=()
def PySem.W.Fast.tw10579354959572373214:Unit:=()
def PySem.W.Fast.tw4017436003402436650:Unit:=()
def PySem.W.Fast.tw1193248738802731362:Unit:=()
def PySem.W.Fast.tw4233970793094626108:Unit:=()
def PySem.W.Fast.tw9646268435901699256:Unit:=()
def PySem.W.Fast.tw2286416111253082155:Unit:=()
def PySem.W.Fast.tw2660543399876201287:Unit:=()
def PySem.W.Fast.tw12997679741486589672:Unit:=()
def PySem.W.Fast.tw16538190120061663256:Unit:=()
def PySem.W.Fast.tw8354888934322198416:Unit:=()
def PySem.W.Fast.tw9692818462421893143:Unit:=()
def PySem.W.Fast.tw7384297922467809564:Unit:=()
def PySem.W.Fast.tw4085508409544482899:Unit:=()
def PySem.W.Fast.tw6105035480658058721:Unit:=()
def PySem.W.Fast.tw7625215298971192008:Unit:=()
def PySem.W.Fast.tw13602942506446291535:Unit:=()
def PySem.W.Fast.tw9304316278480444710:Unit:=()
def PySem.W.Fast.tw7642704361584429281:Unit:=()
def PySem.W.Fast.tw10464168967434487964:Unit:=()
def PySem.W.Fast.tw1787281212892398313:Unit:=()
def PySem.W.Fast.tw6256371546980370397:Unit:=()
def PySem.W.Fast.tw2368561120603410216:Unit:=()
def PySem.W.Fast.tw5336939681411833605:Unit:=()
def PySem.W.Fast.tw14544381550422518471:Unit:=()
def PySem.W.Fast.tw17245087863843487535:Unit:=()
def PySem.W.Fast.tw6144831268145747270:Unit:=()
def PySem.W.Fast.tw14961499617650648775:Unit:=()
def PySem.W.Fast.tw10417988477165754193:Unit:=()
def PySem.W.Fast.tw13530341956112684583:Unit:=()
def PySem.W.Fast.tw14547129121593564826:Unit:=()
def PySem.W.Fast.tw636311772920189058:Unit:=()
def PySem.W.Fast.tw5563183611713415527:Unit:=()
def PySem.W.Fast.tw17363111325352054326:Unit:=()
def PySem.W.Fast.tw5021263233334497692:Unit:=()
def PySem.W.Fast.tw18337694914304396636:Unit:=()
def PySem.W.Fast.tw9144245749242470944:Unit:=()
def PySem.W.Fast.tw17566125411116855703:Unit:=()
def PySem.W.Fast.tw892464423753356585:Unit:=()
def PySem.W.Fast.tw15869142111925200626:Unit:=()
def PySem.W.Fast.tw11202711485444747731:Unit:=()
def PySem.W.Fast.tw9026347684372525426:Unit:=()
def PySem.W.Fast.tw6304049212543544531:Unit:=()
def PySem.W.Fast.tw8826261107399264212:Unit:=()
def PySem.W.Fast.tw9040509269063610667:Unit:=()
def PySem.W.Fast.tw14965785037067731394:Unit:=()
def PySem.W.Fast.tw323804604090423799:Unit:=()
def PySem.W.Fast.tw2069464586066260728:Unit:=()
def PySem.W.Fast.tw8833189985066666166:Unit:=()
def PySem.W.Fast.tw1631298359450993160:Unit:=()
def PySem.W.Fast.tw15501927657278638470:Unit:=()
def PySem.W.Fast.tw13172421571861809401:Unit:=()
def PySem.W.Fast.tw6588586150297429828:Unit:=()
def PySem.W.Fast.tw1887612904860517702:Unit:=()
def PySem.W.Fast.tw3894710872029104070:Unit:=()
def PySem.W.Fast.tw11823168153912093720:Unit:=()
def PySem.W.Fast.tw5441749533302021479:Unit:=()
def PySem.W.Fast.tw52038104946396460:Unit:=()
def PySem.W.Fast.tw7485147344457387503:Unit:=()
def PySem.W.Fast.tw16462520559710248435:Unit:=()
def PySem.W.Fast.tw7691791499777709006:Unit:=()
def PySem.W.Fast.tw16607100590722244943:Unit:=()
def PySem.W.Fast.tw14812276253315582564:Unit:=()
def PySem.W.Fast.tw8220852108552649773:Unit:=()
def PySem.W.Fast.tw9015510565274776516:Unit:=()
def PySem.W.Fast.tw7710500197822287820:Unit:=()
def PySem.W.Fast.tw3784250014661792877:Unit:=()
def PySem.W.Fast.tw18194114160317386851:Unit:=()
def PySem.W.Fast.tw11016399837482340091:Unit:=()
def PySem.W.Fast.tw10102041858450470363:Unit:=()
def PySem.W.Fast.tw2330548965373648763:Unit:=()
def PySem.W.Fast.tw9605214479884304423:Unit:=()
def PySem.W.Fast.tw5192378008178430034:Unit:=()
def PySem.W.Fast.tw6284862792747907774:Unit:=()
def PySem.W.Fast.tw10802600864374385678:Unit:=()
def PySem.W.Fast.tw7029997570744634685:Unit:=()
def PySem.W.Fast.tw6513797536605509906:Unit:=()
def PySem.W.Fast.tw7587487193549412264:Unit:=()
def PySem.W.Fast.tw8223483656252005225:Unit:=()
def PySem.W.Fast.tw14678867517556090104:Unit:=()
def PySem.W.Fast.tw1392863485368595516:Unit:=()
def PySem.W.Fast.tw13693092355513468897:Unit:=()
def PySem.W.Fast.tw16323947161500287406:Unit:=()
def PySem.W.Fast.tw11748324021607140474:Unit:=()
def PySem.W.Fast.tw5988437587302570011:Unit:=()
def PySem.W.Fast.tw17857819786083325568:Unit:=()
def PySem.W.Fast.tw9862962642265654652:Unit:=()
def PySem.W.Fast.tw1303563380163604397:Unit:=()
def PySem.W.Fast.tw15158186619060502830:Unit:=()
def PySem.W.Fast.tw9949311160493430115:Unit:=()
def PySem.W.Fast.tw1869827708759832745:Unit:=()
def PySem.W.Fast.tw14754288203719332601:Unit:=()
def PySem.W.Fast.tw10070418770163004078:Unit:=()
def PySem.W.Fast.tw9238572251016394802:Unit:=()
def PySem.W.Fast.tw8451543081665667032:Unit:=()
def PySem.W.Fast.tw7523032355236217049:Unit:=()
def PySem.W.Fast.tw410590646656144332:Unit:=()
def PySem.W.Fast.tw10869308494671947829:Unit:=()
def PySem.W.Fast.tw15854737819739553169:Unit:=()
def PySem.W.Fast.tw1323529791991661340:Unit:=()
def PySem.W.Fast.tw16316902885114232441:Unit:=()
def PySem.W.Fast.tw4242214730961336381:Unit:=()
def PySem.W.Fast.tw16842153015028508746:Unit:=()
def PySem.W.Fast.tw2160016022024398171:Unit:=()
def PySem.W.Fast.tw16163467756658564112:Unit:=()
def PySem.W.Fast.tw8225914151617717121:Unit:=()
def PySem.W.Fast.tw14484194380708517343:Unit:=()
def PySem.W.Fast.tw9422099515913143092:Unit:=()
def PySem.W.Fast.tw9672209354619746466:Unit:=()
def PySem.W.Fast.tw787277243972461358:Unit:=()
def PySem.W.Fast.tw6772636399293253869:Unit:=()
def PySem.W.Fast.tw14455335445538628913:Unit:=()
def PySem.W.Fast.tw5319368843244101587:Unit:=()
def PySem.W.Fast.tw2062281769020731111:Unit:=()
def PySem.W.Fast.tw5729192378935955341:Unit:=()
def PySem.W.Fast.tw4928120119464801368:Unit:=()
def PySem.W.Fast.tw6993410730277427245:Unit:=()
def PySem.W.Fast.tw10770863838037297087:Unit:=()
def PySem.W.Fast.tw9850833556925872868:Unit:=()
def PySem.W.Fast.tw14718917028521234721:Unit:=()
def PySem.W.Fast.tw11878891116016649047:Unit:=()
def PySem.W.Fast.tw13577711433107316777:Unit:=()
def PySem.W.Fast.tw10946402077688980431:Unit:=()
def PySem.W.Fast.tw18428975141485094932:Unit:=()
def PySem.W.Fast.tw4963790842185498083:Unit:=()
def PySem.W.Fast.tw13249256335553965070:Unit:=()
def PySem.W.Fast.tw6645396394400142937:Unit:=()
def PySem.W.Fast.tw7151072133642239287:Unit:=()
def PySem.W.Fast.tw8195454636105122635:Unit:=()
def PySem.W.Fast.tw16765387551625066156:Unit:=()
def PySem.W.Fast.tw8425460271687872741:Unit:=()
def PySem.W.Fast.tw5234091040263429937:Unit:=()
def PySem.W.Fast.tw11262239363243737293:Unit:=()
def PySem.W.Fast.tw16714787974645813469:Unit:=()
def PySem.W.Fast.tw3536364098368696772:Unit:=()
def PySem.W.Fast.tw2888125793170839064:Unit:=()
def PySem.W.Fast.tw8329260829115031182:Unit:=()
def PySem.W.Fast.tw9485429841763424241:Unit:=()
def PySem.W.Fast.tw13793021465670852520:Unit:=()
def PySem.W.Fast.tw13772910002292545216:Unit:=()
def PySem.W.Fast.tw15538291745919010351:Unit:=()
def PySem.W.Fast.tw165080182120769912:Unit:=()
def PySem.W.Fast.tw11300749840628039984:Unit:=()
def PySem.W.Fast.tw15145079001057959236:Unit:=()
def PySem.W.Fast.tw10898025062934001744:Unit:=()
def PySem.W.Fast.tw3354839768286936781:Unit:=()
def PySem.W.Fast.tw8643045393437958366:Unit:=()
def PySem.W.Fast.tw10431325600535160423:Unit:=()
def PySem.W.Fast.tw14052697809579043874:Unit:=()
def PySem.W.Fast.tw15859564111133035156:Unit:=()
def PySem.W.Fast.tw6336732045729085151:Unit:=()
def PySem.W.Fast.tw3249587354553351437:Unit:=()
def PySem.W.Fast.tw3782384716784466945:Unit:=()
def PySem.W.Fast.tw11966575048371882504:Unit:=()
def PySem.W.Fast.tw11481992560538036557:Unit:=()
def PySem.W.Fast.tw16466560861362566972:Unit:=()
def PySem.W.Fast.tw3573810862000683352:Unit:=()
def PySem.W.Fast.tw8110563820985982236:Unit:=()
def PySem.W.Fast.tw13309602353518991220:Unit:=()
def PySem.W.Fast.tw11770943419316069215:Unit:=()
def PySem.W.Fast.tw17688089769405322156:Unit:=()
def PySem.W.Fast.tw11643272173863702975:Unit:=()
def PySem.W.Fast.tw18310615352733821662:Unit:=()
def PySem.W.Fast.tw720399829846756620:Unit:=()
def PySem.W.Fast.tw10414822944174162430:Unit:=()
def PySem.W.Fast.tw2820864442441130569:Unit:=()
def PySem.W.Fast.tw7289904259020727408:Unit:=()
def PySem.W.Fast.tw2774858267319667354:Unit:=()
def PySem.W.Fast.tw15957910820043274698:Unit:=()
def PySem.W.Fast.tw6746764029077583863:Unit:=()
def PySem.W.Fast.tw5875641134459594189:Unit:=()
def PySem.W.Fast.tw5783357288473768171:Unit:=()
def PySem.W.Fast.tw12703060423789287117:Unit:=()
def PySem.W.Fast.tw7848803226256779635:Unit:=()
def PySem.W.Fast.tw15331641979893182348:Unit:=()
def PySem.W.Fast.tw11122780914637939427:Unit:=()
def PySem.W.Fast.tw16406971816546529689:Unit:=()
def PySem.W.Fast.tw6077329387874508399:Unit:=()
def PySem.W.Fast.tw13783602360799958241:Unit:=()
def PySem.W.Fast.tw17664191087969689772:Unit:=()
def PySem.W.Fast.tw8175157668312145744:Unit:=()
def PySem.W.Fast.tw9806945700281429168:Unit:=()
def PySem.W.Fast.tw2459758522442052915:Unit:=()
def PySem.W.Fast.tw11707098835982099614:Unit:=()
def PySem.W.Fast.tw134276302754925033:Unit:=()
def PySem.W.Fast.tw8454295150129382487:Unit:=()
def PySem.W.Fast.tw5509048903695193363:Unit:=()
def PySem.W.Fast.tw3911362504986893411:Unit:=()
def PySem.W.Fast.tw17912083573435428566:Unit:=()
def PySem.W.Fast.tw4741754363571867026:Unit:=()
def PySem.W.Fast.tw2642461964926135952:Unit:=()
def PySem.W.Fast.tw13745402097361099105:Unit:=()
def PySem.W.Fast.tw657955004414954295:Unit:=()
def PySem.W.Fast.tw15659364337913003998:Unit:=()
def PySem.W.Fast.tw10826947486133347594:Unit:=()
def PySem.W.Fast.tw9348543365875151801:Unit:=()
def PySem.W.Fast.tw13822407648437284731:Unit:=()
def PySem.W.Fast.tw3014069769669895584:Unit:=()
def PySem.W.Fast.tw1385686346166958417:Unit:=()
def PySem.W.Fast.tw718135096556738652:Unit:=()
def PySem.W.Fast.tw7608467007899832828:Unit:=()
def PySem.W.Fast.tw16360602161095334246:Unit:=()
def PySem.W.Fast.tw13765155568960063825:Unit:=()
def PySem.W.Fast.tw5202298538266283773:Unit:=()
def PySem.W.Fast.tw2381406139859461425:Unit:=()
def PySem.W.Fast.tw15114186410536825139:Unit:=()
def PySem.W.Fast.tw18404257327572499794:Unit:=()
def PySem.W.Fast.tw2150896967932578949:Unit:=()
def PySem.W.Fast.tw4740953568359420198:Unit:=()
def PySem.W.Fast.tw9496787358220434206:Unit:=()
def PySem.W.Fast.tw18426291998875249945:Unit:=()
def PySem.W.Fast.tw11233864293482474726:Unit:=()
def PySem.W.Fast.tw196826374885555360:Unit:=()
def PySem.W.Fast.tw9816090221543292804:Unit:=()
def PySem.W.Fast.tw14255491424199717356:Unit:=()
def PySem.W.Fast.tw9924074272418302635:Unit:=()
def PySem.W.Fast.tw9164809733350791288:Unit:=()
def PySem.W.Fast.tw4051097329406673319:Unit:=()
def PySem.W.Fast.tw15496360412322045542:Unit:=()
def PySem.W.Fast.tw2712026653558538052:Unit:=()
def PySem.W.Fast.tw2602585935273666837:Unit:=()
def PySem.W.Fast.tw10329849657049045220:Unit:=()
def PySem.W.Fast.tw17244712755503135381:Unit:=()
def PySem.W.Fast.tw15812598247535795194:Unit:=()
open PySem PySem.W PyProof.Rows
set_option maxRecDepth 100000 in
set_option maxHeartbeats 0 in
theorem PySem.Challenge.cw_paneworks_k40_a_frame_is_had_holds : PySem.Challenge.rw_paneworks_k40_a_frame_is_had.Holds := by
 w_on;o_law;k_head; (case hw=>w_witness2)
 k_fill
 refine L2.HQ (l := PySem.Challenge.rw_paneworks_k40_a_frame_is_had) (k := 10) (x := "_law_script") rfl rfl ⟨rfl, by decide, by decide⟩ (fun w h Y => PySem.W.kIn_of Y) ?F
 case F =>
  intro w mg fa h KX G hmg
  have B:L2.jd mg:=by
   refine' L2.QF KX G ?z0 ?z1 ?z2 ?z3 ?z4 ?z5 ?z6 ?z7 ?z8 ?z9 ?Vp ?Vq ?Vr ?Vs ?Vt ?Vu ?Vv
   all_goals k_is
  have T : ∃ cU cA cB cC cT cF cD cS cI,My.Txt (L2.KOf KX) mg cU cA cB cC cT cF cD cS cI:=by
   dsimp only [L2.KOf]
   refine' My.EG KX G ?y1 ?y2 ?y3 ?y4 ?y5 ?y6 ?y7 ?y8 ?y9 ?y10 ?y11 ?y12 ?y13 ?y14 ?y15 ?y16 ?y17 ?y18 ?y19 ?y20 ?y21 ?y22 ?y23 ?y24 ?y25 ?y26 ?y27 ?y28 ?y29 ?y30 ?y31 ?y32 ?y33 ?y34 ?y35 ?y36 ?y37 ?y38 ?y39 ?y40 ?y41 ?y42 ?y43 ?y44 ?y45 ?y46 ?y47 ?y48 ?y49 ?y50 ?y51 ?y52 ?y53 ?y54 ?y55 ?y56 ?y57 ?y58 ?y59 ?y60 ?y61 ?y62 ?y63 ?y64 ?y65 ?y66 ?y67 ?y68 ?y69 ?y70 ?y71 ?y72 ?y73 ?y74 ?y75 ?y76 ?y77 ?y78 ?y79 ?y80 ?y81 ?y82 ?y83 ?y84 ?y85 ?y86 ?y87 ?y88 ?y89 ?y90 ?y91 ?y92 ?y93 ?y94 ?y95 ?y96 ?y97 ?y98 ?y99 ?abC ?abD ?abE ?abF ?abG ?abH ?abI ?abJ ?abK ?abL ?abM ?abN ?abO ?abP ?abQ ?abR ?abS ?abT ?abU ?abV ?abW ?abX ?abY ?abZ ?ab0 ?ab1 ?ab2 ?ab3 ?ab4 ?ab5 ?ab6 ?ab7 ?ab8 ?ab9 ?acd ?ace ?acf ?acg ?ach ?aci ?acj ?ack ?acm ?acn ?aco ?acp ?acq ?acr ?acs ?acu ?acv ?acw ?acy ?acz ?acA ?acB ?acC ?acD ?acE ?acF ?acG ?acH ?acI ?acJ ?acK ?acL ?acM ?acN ?acO ?acP ?acQ ?acR ?acS ?acT ?acU ?acV ?acW ?acX ?acY ?acZ ?ac0 ?ac1 ?ac2 ?ac3 ?ac4 ?ac5 ?ac6 ?ac7 ?ac8 ?ac9 ?ada ?adb ?ade ?adf ?adg ?adh ?adi ?adj ?adk ?adl ?adm ?adn ?ado ?adp ?adq ?ads ?adt ?adu ?adv ?adw ?adx ?ady ?adz ?adA ?adB ?adC ?adD ?adE ?adF ?adG ?adH ?adI ?adJ ?adK ?adL ?adM ?adN ?adO ?adP ?adQ ?adR ?adS ?adT ?adU ?adV ?adW ?adX ?adY ?adZ ?ad0 ?ad1 ?ad2 ?ad3 ?ad4 ?ad5 ?ad6 ?ad7 ?ad8 ?ad9 ?aea ?aeb ?aec ?aed ?aee ?aef ?aeg ?aeh ?aei ?aej ?aek ?ael ?aem ?aen ?aeo ?aep ?aeq ?aer ?aes ?aet ?aeu ?aev ?aew ?aex ?aey ?aez ?aeA ?aeB ?aeC ?aeD ?aeE ?aeF ?aeG ?aeH ?aeI ?aeJ ?aeK ?aeL ?aeM ?aeN ?aeO ?aeP ?aeQ ?aeR ?aeS ?aeT ?aeU ?aeV ?aeW ?aeX ?aeY ?aeZ ?ae0 ?ae1 ?ae2 ?ae3 ?ae4 ?ae5 ?ae6
   (case y1=>walk_at "kr")
   (case y2=>walk_at "kr")
   (case y3=>walk_at "kr")
   (case y4=>walk_at "kr")
   (case y5=>walk_at "kr")
   (case y6=>walk_at "kr")
   (case y7=>walk_at "kr")
   (case y8=>walk_at "kr")
   (case y9=>walk_at "kr")
   (case y10=>walk_at "kr")
   (case y11=>walk_at "kr")
   (case y12=>walk_at "kr")
   (case y13=>walk_at "kr")
   (case y14=>walk_at "kr")
   (case y15=>walk_at "kr")
   (case y16=>walk_at "kr")
   (case y17=>walk_at "kr")
   (case y18=>walk_at "kr")
   (case y19=>walk_at "kr")
   (case y20=>walk_at "kr")
   (case y21=>walk_at "kr")
   (case y22=>walk_at "kr")
   (case y23=>walk_at "kr")
   (case y24=>walk_at "kr")
   (case y25=>walk_at "kr")
   (case y26=>walk_at "kr")
   (case y27=>walk_at "kr")
   (case y28=>walk_at "kr")
   (case y29=>walk_at "kr")
   (case y30=>walk_at "kr")
   (case y31=>walk_at "kr")
   (case y32=>walk_at "kr")
   (case y33=>walk_at "kr")
   (case y34=>walk_at "kr")
   (case y35=>walk_at "kr")
   (case y36=>walk_at "kr")
   (case y37=>walk_at "kr")
   (case y38=>walk_at "kr")
   (case y39=>walk_at "kr")
   (case y40=>walk_at "kr")
   (case y41=>walk_at "kr")
   (case y42=>walk_at "kr")
   (case y43=>walk_at "kr")
   (case y44=>walk_at "kr")
   (case y45=>walk_at "kr")
   (case y46=>walk_at "kr")
   (case y47=>walk_at "kr")
   (case y48=>walk_at "kr")
   (case y49=>walk_at "kr")
   (case y50=>walk_at "kr")
   (case y51=>walk_at "kr")
   (case y52=>walk_at "kr")
   (case y53=>walk_at "kr")
   (case y54=>walk_at "kr")
   (case y55=>walk_at "kr")
   (case y56=>walk_at "kr")
   (case y57=>walk_at "kr")
   (case y58=>walk_at "kr")
   (case y59=>walk_at "kr")
   (case y60=>walk_at "kr")
   (case y61=>walk_at "kr")
   (case y62=>walk_at "kr")
   (case y63=>walk_at "kr")
   (case y64=>walk_at "kr")
   (case y65=>walk_at "kr")
   (case y66=>walk_at "kr")
   (case y67=>walk_at "kr")
   (case y68=>walk_at "kr")
   (case y69=>walk_at "kr")
   (case y70=>walk_at "kr")
   (case y71=>walk_at "kr")
   (case y72=>walk_at "kr")
   (case y73=>walk_at "kr")
   (case y74=>walk_at "kr")
   (case y75=>walk_at "kr")
   (case y76=>walk_at "kr")
   (case y77=>walk_at "kr")
   (case y78=>walk_at "kr")
   (case y79=>walk_at "kr")
   (case y80=>walk_at "kr")
   (case y81=>walk_at "kr")
   (case y82=>walk_at "kr")
   (case y83=>walk_at "kr")
   (case y84=>walk_at "kr")
   (case y85=>walk_at "kr")
   (case y86=>walk_at "kr")
   (case y87=>walk_at "kr")
   (case y88=>walk_at "kr")
   (case y89=>walk_at "kr")
   (case y90=>walk_at "kr")
   (case y91=>walk_at "kr")
   (case y92=>walk_at "kr")
   (case y93=>walk_at "kr")
   (case y94=>walk_at "kr")
   (case y95=>walk_at "kr")
   (case y96=>walk_at "kr")
   (case y97=>walk_at "kr")
   (case y98=>walk_at "kr")
   (case y99=>walk_at "kr")
   (case abC=>walk_at "kr")
   (case abD=>walk_at "kr")
   (case abE=>walk_at "kr")
   (case abF=>walk_at "kr")
   (case abG=>walk_at "kr")
   (case abH=>walk_at "kr")
   (case abI=>walk_at "kr")
   (case abJ=>walk_at "kr")
   (case abK=>walk_at "kr")
   (case abL=>walk_at "kr")
   (case abM=>walk_at "kr")
   (case abN=>walk_at "kr")
   (case abO=>walk_at "kr")
   (case abP=>walk_at "kr")
   (case abQ=>walk_at "kr")
   (case abR=>walk_at "kr")
   (case abS=>walk_at "kr")
   (case abT=>walk_at "kr")
   (case abU=>walk_at "kr")
   (case abV=>walk_at "kr")
   (case abW=>walk_at "kr")
   (case abX=>walk_at "kr")
   (case abY=>walk_at "kr")
   (case abZ=>walk_at "kr")
   (case ab0=>walk_at "kr")
   (case ab1=>walk_at "kr")
   (case ab2=>walk_at "kr")
   (case ab3=>walk_at "kr")
   (case ab4=>walk_at "kr")
   (case ab5=>walk_at "kr")
   (case ab6=>walk_at "kr")
   (case ab7=>walk_at "kr")
   (case ab8=>walk_at "kr")
   (case ab9=>walk_at "kr")
   (case acd=>walk_at "kr")
   (case ace=>walk_at "kr")
   (case acf=>walk_at "kr")
   (case acg=>walk_at "kr")
   (case ach=>walk_at "kr")
   (case aci=>walk_at "kr")
   (case acj=>walk_at "kr")
   (case ack=>walk_at "kr")
   (case acm=>walk_at "kr")
   (case acn=>walk_at "kr")
   (case aco=>walk_at "kr")
   (case acp=>walk_at "kr")
   (case acq=>walk_at "kr")
   (case acr=>walk_at "kr")
   (case acs=>walk_at "kr")
   (case acu=>walk_at "kr")
   (case acv=>walk_at "kr")
   (case acw=>walk_at "kr")
   (case acy=>walk_at "kr")
   (case acz=>walk_at "kr")
   (case acA=>walk_at "kr")
   (case acB=>walk_at "kr")
   (case acC=>walk_at "kr")
   (case acD=>walk_at "kr")
   (case acE=>walk_at "kr")
   (case acF=>walk_at "kr")
   (case acG=>walk_at "kr")
   (case acH=>walk_at "kr")
   (case acI=>walk_at "kr")
   (case acJ=>walk_at "kr")
   (case acK=>walk_at "kr")
   (case acL=>walk_at "kr")
   (case acM=>walk_at "kr")
   (case acN=>walk_at "kr")
   (case acO=>walk_at "kr")
   (case acP=>walk_at "kr")
   (case acQ=>walk_at "kr")
   (case acR=>walk_at "kr")
   (case acS=>walk_at "kr")
   (case acT=>walk_at "kr")
   (case acU=>walk_at "kr")
   (case acV=>walk_at "kr")
   (case acW=>walk_at "kr")
   (case acX=>walk_at "kr")
   (case acY=>walk_at "kr")
   (case acZ=>walk_at "kr")
   (case ac0=>walk_at "kr")
   (case ac1=>walk_at "kr")
   (case ac2=>walk_at "kr")
   (case ac3=>walk_at "kr")
   (case ac4=>walk_at "kr")
   (case ac5=>walk_at "kr")
   (case ac6=>walk_at "kr")
   (case ac7=>walk_at "kr")
   (case ac8=>walk_at "kr")
   (case ac9=>walk_at "kr")
   (case ada=>walk_at "kr")
   (case adb=>walk_at "kr")
   (case ade=>walk_at "kr")
   (case adf=>walk_at "kr")
   (case adg=>walk_at "kr")
   (case adh=>walk_at "kr")
   (case adi=>walk_at "kr")
   (case adj=>walk_at "kr")
   (case adk=>walk_at "kr")
   (case adl=>walk_at "kr")
   (case adm=>walk_at "kr")
   (case adn=>walk_at "kr")
   (case ado=>walk_at "kr")
   (case adp=>walk_at "kr")
   (case adq=>walk_at "kr")
   (case ads=>walk_at "kr")
   (case adt=>walk_at "kr")
   (case adu=>walk_at "kr")
   (case adv=>walk_at "kr")
   (case adw=>walk_at "kr")
   (case adx=>walk_at "kr")
   (case ady=>walk_at "kr")
   (case adz=>walk_at "kr")
   (case adA=>walk_at "kr")
   (case adB=>walk_at "kr")
   (case adC=>walk_at "kr")
   (case adD=>walk_at "kr")
   (case adE=>walk_at "kr")
   (case adF=>walk_at "kr")
   (case adG=>walk_at "kr")
   (case adH=>walk_at "kr")
   (case adI=>walk_at "kr")
   (case adJ=>walk_at "kr")
   (case adK=>walk_at "kr")
   (case adL=>walk_at "kr")
   (case adM=>walk_at "kr")
   (case adN=>walk_at "kr")
   (case adO=>walk_at "kr")
   (case adP=>walk_at "kr")
   (case adQ=>walk_at "kr")
   (case adR=>walk_at "kr")
   (case adS=>walk_at "kr")
   (case adT=>walk_at "kr")
   (case adU=>walk_at "kr")
   (case adV=>walk_at "kr")
   (case adW=>walk_at "kr")
   (case adX=>walk_at "kr")
   (case adY=>walk_at "kr")
   (case adZ=>walk_at "kr")
   (case ad0=>walk_at "kr")
   (case ad1=>walk_at "kr")
   (case ad2=>walk_at "kr")
   (case ad3=>walk_at "kr")
   (case ad4=>walk_at "kr")
   (case ad5=>walk_at "kr")
   (case ad6=>walk_at "kr")
   (case ad7=>walk_at "kr")
   (case ad8=>walk_at "kr")
   (case ad9=>walk_at "kr")
   (case aea=>walk_at "kr")
   (case aeb=>walk_at "kr")
   (case aec=>walk_at "kr")
   (case aed=>walk_at "kr")
   (case aee=>walk_at "kr")
   (case aef=>walk_at "kr")
   (case aeg=>walk_at "kr")
   (case aeh=>walk_at "kr")
   (case aei=>walk_at "kr")
   (case aej=>walk_at "kr")
   (case aek=>walk_at "kr")
   (case ael=>walk_at "kr")
   (case aem=>walk_at "kr")
   (case aen=>walk_at "kr")
   (case aeo=>walk_at "kr")
   (case aep=>walk_at "kr")
   (case aeq=>walk_at "kr")
   (case aer=>walk_at "kr")
   (case aes=>walk_at "kr")
   (case aet=>walk_at "kr")
   (case aeu=>walk_at "kr")
   (case aev=>walk_at "kr")
   (case aew=>walk_at "kr")
   (case aex=>walk_at "kr")
   (case aey=>walk_at "kr")
   (case aez=>walk_at "kr")
   (case aeA=>walk_at "kr")
   (case aeB=>walk_at "kr")
   (case aeC=>walk_at "kr")
   (case aeD=>walk_at "kr")
   (case aeE=>walk_at "kr")
   (case aeF=>walk_at "kr")
   (case aeG=>walk_at "kr")
   (case aeH=>walk_at "kr")
   (case aeI=>walk_at "kr")
   (case aeJ=>walk_at "kr")
   (case aeK=>walk_at "kr")
   (case aeL=>walk_at "kr")
   (case aeM=>walk_at "kr")
   (case aeN=>walk_at "kr")
   (case aeO=>walk_at "kr")
   (case aeP=>walk_at "kr")
   (case aeQ=>walk_at "kr")
   (case aeR=>walk_at "kr")
   (case aeS=>walk_at "kr")
   (case aeT=>walk_at "kr")
   (case aeU=>walk_at "kr")
   (case aeV=>walk_at "kr")
   (case aeW=>walk_at "kr")
   (case aeX=>walk_at "kr")
   (case aeY=>walk_at "kr")
   (case aeZ=>walk_at "kr")
   (case ae0=>walk_at "kr")
   (case ae1=>walk_at "kr")
   (case ae2=>walk_at "kr")
   (case ae3=>walk_at "kr")
   (case ae4=>walk_at "kr")
   (case ae5=>walk_at "kr")
   (case ae6=>walk_at "kr")
  obtain ⟨cU,cA,cB,cC,cT,cF,cD,cS,cI,T⟩:=T
  exact L2.Ti T.Uw hmg (λ _ _ _ _ _ _ _=>rfl) λ base f fd F=>My.RW F B T
#print axioms PySem.Challenge.cw_paneworks_k40_a_frame_is_had_holds

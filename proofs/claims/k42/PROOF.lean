import PyProof.Rows.All
import Wide.All
import OpenK.AllK
import Wide.FinOn
import Lean
import PyProof.EqAt
import PyProof.EqKinds
import PyProof.TupleCall
import PyProof.Rows.SortWalk
import KE.KDictSum
import KE.LcSums
import KE.KEqDat
import KE.KRevIter
import PyProof.P3In
import PyProof.SliceStr2
import PyProof.MeetsStr
import PyProof.StrBlockI
import PyProof.StrWalks
import PyProof.FitsReplace
import PyProof.ListStr
import PyProof.ZipIter
import KE.KIntText
import KE.IntTextLaws
import PyProof.StrLawsIn
import PyProof.StrCalls2
import PyProof.Rows.CatFin
import PyProof.Rows.StrClose
import KE.IntTextText
import PyProof.StrLawsTight
import PyProof.StrLawsChain
import PyProof.Rows.StrItems
import PyProof.Rows.ReprOcc
import PyProof.Rows.SortStr
import PyProof.Rows.SetFrom
import PySem.Challenge.RW_paneworks_k42_things_brought
set_option Elab.async false
set_option compiler.extract_closed false
set_option linter.all false
set_option maxRecDepth 100000
local macro_rules | `(tactic| walk_at "o3") => `(tactic| first | exact Or.inl rfl | exact Or.inr (Or.inl rfl) | exact Or.inr (Or.inr rfl))
local macro_rules | `(tactic| walk_at "o2") => `(tactic| first | exact Or.inl rfl | exact Or.inr rfl)
local macro_rules | `(tactic| walk_at "sc") => `(tactic| exact ⟨rfl,rfl,rfl,by decide +kernel,rfl,by decide +kernel,by decide +kernel⟩)
local macro_rules | `(tactic| walk_at "o4") => `(tactic| first | exact .inl rfl | exact .inr rfl | assumption)
local macro_rules | `(tactic| walk_at "v") => `(tactic| exact ⟨by rfl,by walk_at "o3",by decide,by decide⟩)
local macro_rules | `(tactic| walk_at "kr") => `(tactic| first | k_is | kernel_rfl)
namespace L2
open PySem PySem.Spec PyProof.Rows
abbrev Key:=Sum Int Str
def Bd:Key->Value->Bool
 | .inl k,v=>Value.isInt k v
 | .inr x,v=>Value.isStrOf x v
def XY (w:World):Key->Int
 | .inl k=>hashInt k
 | .inr x=>hashStr w x
theorem cL : ∀ {k:Key} {v:Value},Bd k v=true->(∃ i t,k=Sum.inl i/\v=Value.int i t)\/(∃ x t,k=Sum.inr x/\v=Value.str x t)
 | .inl i,v,h=>by
   obtain ⟨t,e⟩:=Value.isInt_shape (k:=i) (v:=v) h
   exact .inl ⟨i,t,rfl,e⟩
 | .inr x,v,h=>by
   obtain ⟨t,e⟩:=Value.isStrOf_shape (x:=x) (v:=v) h
   exact .inr ⟨x,t,rfl,e⟩
theorem I0 (i:Int) (t:Tok):Bd (.inl i) (.int i t)=true:=by simp [Bd,Value.isInt]
theorem Ja (x:Str) (t:Tok):Bd (.inr x) (.str x t)=true:=by simp [Bd,Value.isStrOf]
theorem RM (a b:Int):decide ((Sum.inl a:Key)=Sum.inl b)=(a == b):=by
 by_cases e:a=b
 ·subst e;simp
 ·have h : ¬ (Sum.inl a:Key)=Sum.inl b:=λ q=>e (Sum.inl.inj q)
  rw [decide_eq_false h]
  exact (beq_eq_false_iff_ne.mpr e).symm
theorem RN (a b:Str):decide ((Sum.inr a:Key)=Sum.inr b)=decide (a=b):=by
 by_cases e:a=b
 ·subst e;simp
 ·have h : ¬ (Sum.inr a:Key)=Sum.inr b:=λ q=>e (Sum.inr.inj q)
  rw [decide_eq_false h,decide_eq_false e]
theorem RO (a:Int) (b:Str):decide ((Sum.inl a:Key)=Sum.inr b)=false:=decide_eq_false (λ q=>nomatch q)
theorem RP (a:Str) (b:Int):decide ((Sum.inr a:Key)=Sum.inl b)=false:=decide_eq_false (λ q=>nomatch q)
def b8 (prog:Program) (w:World):PySem.KeyKind prog w Key where
 is:=Bd
 hash:=XY w
 inj:=λ v a b ha hb=>by
  rcases cL ha with ⟨i,t,rfl,rfl⟩ | ⟨x,t,rfl,rfl⟩
  ·rcases cL hb with ⟨j,u,rfl,e⟩ | ⟨y,u,rfl,e⟩
   ·injection e with e1 _;rw [e1]
   ·exact nomatch e
  ·rcases cL hb with ⟨j,u,rfl,e⟩ | ⟨y,u,rfl,e⟩
   ·exact nomatch e
   ·injection e with e1 _;rw [e1]
 byValue:=λ k v h=>by
  rcases cL h with ⟨i,t,rfl,rfl⟩ | ⟨x,t,rfl,rfl⟩ <;> rfl
 pyHash:=λ hv h=>by
  rcases cL hv with ⟨i,t,rfl,rfl⟩ | ⟨x,t,rfl,rfl⟩
  ·exact wpAny_pyHash_int h
  ·exact wpAny_pyHash_str h
 eqBool:=λ hu hv h=>by
  rcases cL hu with ⟨i,t,rfl,rfl⟩ | ⟨x,t,rfl,rfl⟩
  ·rcases cL hv with ⟨j,u,rfl,rfl⟩ | ⟨y,u,rfl,rfl⟩
   ·rw [RM] at h;exact wpAny_eqBool_int h
   ·rw [RO] at h;exact SeqAt.EqAt.int_str i t y u _ _ _ _ h
  ·rcases cL hv with ⟨j,u,rfl,rfl⟩ | ⟨y,u,rfl,rfl⟩
   ·rw [RP] at h;exact SeqAt.EqAt.str_int x t j u _ _ _ _ h
   ·rw [RN] at h;exact wpAny_eqBool_str h
 «strs» := λ k x t v h=>by
  rcases cL h with ⟨i,u,rfl,e⟩ | ⟨y,u,rfl,e⟩
  ·exact nomatch e
  ·injection e with e1 _
   subst e1
   cases v <;> rfl
theorem DW (prog:Program) (w:World) (i:Int) (t:Tok):(b8 prog w).is (.inl i) (.int i t)=true:=I0 i t
theorem DX (prog:Program) (w:World) (x:Str) (t:Tok):(b8 prog w).is (.inr x) (.str x t)=true:=Ja x t
end L2
namespace L2
open PySem PySem.Spec PyProof.Rows
inductive V where
 | aM | bl (b:Bool) | int (i:Int) | str (x:Str) | Ld (b:Array UInt8) | RQ (b:UInt64) | ref (a:Addr) | ty (n:String)
 deriving DecidableEq
def RelV:V->Value->Prop
 | .aM,u=>u=Value.none
 | .bl b,u=>u=Value.bool b
 | .int i,u => ∃ t,u=Value.int i t
 | .str x,u => ∃ t,u=Value.str x t
 | .Ld b,u => ∃ t,u=Value.bytes b t
 | .RQ b,u => ∃ t,u=Value.float b t
 | .ref a,u=>u=Value.ref a
 | .ty n,u=>u=Value.type n
abbrev Vals:List V->List Value->Prop:=Paired RelV
theorem Vals.length {xs:List V} {us:List Value} (r:Vals xs us):xs.length=us.length:=Paired.length r
theorem Vals.get : ∀ {xs:List V} {us:List Value} {i:Nat} {x:V},Vals xs us->xs[i]? = some x->∃ u,us[i]? = some u/\RelV x u
 | _,_,_,_,.nil,e=>by simp at e
 | _,_,0,_,.cons r _,e=>by simp at e;subst e;exact ⟨_,rfl,r⟩
 | _,_,i+1,x,.cons _ t,e=>by
   obtain ⟨u,h1,h2⟩:=Vals.get (i:=i) (x:=x) t (by simpa using e)
   exact ⟨u,by simpa using h1,h2⟩
theorem Vals.set {x:V} {u:Value} (r:RelV x u) : ∀ {xs:List V} {us:List Value} (i:Nat),Vals xs us->Vals (xs.set i x) (us.set i u)
 | _,_,_,.nil => .nil
 | _,_,0,.cons _ t => .cons r t
 | _,_,i+1,.cons q t => .cons q (Vals.set r i t)
theorem Vals.append : ∀ {xs ys:List V} {us ws:List Value},Vals xs us->Vals ys ws->Vals (xs++ys) (us++ws)
 | _,_,_,_,.nil,s=>s
 | _,_,_,_,.cons r t,s => .cons r (Vals.append t s)
theorem Vals.take : ∀ {xs:List V} {us:List Value} (n:Nat),Vals xs us->Vals (xs.take n) (us.take n)
 | _,_,0,_ => .nil
 | _,_,_+1,.nil => .nil
 | _,_,n+1,.cons r t => .cons r (Vals.take n t)
theorem Vals.drop : ∀ {xs:List V} {us:List Value} (n:Nat),Vals xs us->Vals (xs.drop n) (us.drop n)
 | _,_,0,r=>r
 | _,_,_+1,.nil => .nil
 | _,_,n+1,.cons _ t=>Vals.drop n t
def j6:Option V->Option Value->Prop
 | some v,some u=>RelV v u
 | none,none=>True
 | _,_=>False
def KV {κ : Type} : List (κ × V)->List (κ × Value)->Prop:=Paired fun (p : κ × V) (q : κ × Value)=>p.1=q.1/\RelV p.2 q.2
def kV:Key->V
 | .inl i => .int i
 | .inr x => .str x
inductive HO where
  | lst (xs:List V)
  | tup (xs:List V)
  | dK (kvs:List (Key×V)) | dT (kvs:List (List Key×V))
  | set (S:Int->Bool) (n:Nat)
  | ins (C dx:Addr) (fs:List (Str×V))
  | own (x:Addr)
  | xd (fs:List (Str×V))
  | met (f x:Addr)
  | WU (lo hi:Int)
  | DP (o:Obj) (u:HO)
  | QY (ps:Array Value)
  | ext (φ : Heap->Prop)
abbrev Hp:=Addr->Option HO
def upd (H:Hp) (a:Addr) (o:HO):Hp:=λ b=>if b=a then some o else H b
theorem ju {H:Hp} {a:Addr} {o:HO} : upd H a o a=some o:=by unfold upd;rw [if_pos rfl]
theorem cj {H:Hp} {a b:Addr} {o:HO} (h:b≠a):upd H a o b=H b:=by unfold upd;rw [if_neg h]
theorem UN {H:Hp} {a b:Addr} {o u:HO} (h:H a=some o) (h':H b=some u) (d:o≠u):a≠b:=by
 intro e;subst e;rw [h] at h';exact d (Option.some.inj h')
theorem gb {H:Hp} {a b:Addr} {o:HO} (h:H a=some o) (h':H b=none):a≠b:=by
 intro e;subst e;rw [h] at h';cases h'
section
variable (P:Program) (w:World)
def bY (H:Hp) (h:Heap) (a:Addr):HO->Prop
 | .lst xs=>xs.length<=sizeLine ∧ ∃ (its:List Value) (n:Nat),Vals xs its/\h.get? a=some { cls := .type "list",data := .seq its.toArray n }
 | .tup xs=>xs.length<=sizeLine ∧ ∃ its:List Value,Vals xs its/\IsTup h a its.toArray
 | .dK kvs=>kvs.length<=sizeLine/\(a == sysModules)=false ∧ ∃ vs,KV kvs vs/\h.DictOf (b8 P w) a vs
 | .dT kvs=>kvs.length<=sizeLine/\(a == sysModules)=false ∧ ∃ xs:List (List Key×Addr×Value),
   Paired (fun (p:List Key×V) (q:List Key×Addr×Value)=>p.1=q.1/\H q.2.1=some (.tup (p.1.map kV))/\RelV p.2 q.2.2) kvs xs ∧
   ∃ o es ep,h.get? a=some o/\o.ExactDict/\o.data = .dict es ep/\es.toList=xs.map (entryOfKey (tupleKind (b8 P w)))/\(xs.map (·.1)).Nodup
 | .set S n=>h.SetOf (intKind P w) a S n
 | .ins C dx fs=>H dx=some (.own a)/\fs.length<=1000/\dx≠a/\h.get? a=some (PySem.W.instObj C dx) ∧
   ∃ mA,h.Ns1 dx mA/\(∀ f,j6 (fs.lookup f) (mA f))/\PySem.Within mA (fs.map (·.1))
 | .own _ => ∃ o,h.get? a=some o
 | .xd fs => ∃ mA,h.Ns1 a mA ∧ ∀ f,j6 (fs.lookup f) (mA f)
 | .WU lo hi => ∃ t u v,h.get? a=some { cls := .type "range",data := .fields #[.int lo t,.int hi u,.int 1 v] }
 | .DP o u=>h.get? a=some o/\bY H h a u
 | .QY ps=>h.get? a=some { cls := .none,data := .fields ps }
 | .met f x=>h.get? a=some (PySem.W.methodObj (.ref f) (.ref x))
 | .ext φ => φ h/\(∃ o,h.get? a=some o) ∧ ∀ h1 h2:Heap,φ h1->(∀ o,h1.get? a=some o->h2.get? a=some o)->φ h2
def k6 (H:Hp) (h:Heap):Prop := ∀ a o,H a=some o->bY P w H h a o
end
section
variable {P:Program} {w:World} {H H':Hp} {h h':Heap} {a:Addr} {o:HO}
theorem bY.lt (x:bY P w H h a o):a < h.objs.size:=by
 cases o with
 | lst xs=>obtain ⟨_,_,_,_,e⟩:=x;exact Heap.lt_size e
 | tup xs=>obtain ⟨_,_,_,p⟩:=x;exact p.lt
 | dK kvs=>obtain ⟨_,_,_,_,o,_,_,e,_⟩:=x;exact Heap.lt_size e
 | dT kvs=>obtain ⟨_,_,_,_,o,_,_,e,_⟩:=x;exact Heap.lt_size e
 | set S n=>obtain ⟨o,_,_,_,e,_⟩:=x;exact Heap.lt_size e
 | ins C dx fs=>obtain ⟨_,_,_,e,_⟩:=x;exact Heap.lt_size e
 | own y=>obtain ⟨_,e⟩:=x;exact Heap.lt_size e
 | xd fs=>obtain ⟨_,⟨_,_,_,e,_⟩,_⟩:=x;exact Heap.lt_size e
 | WU lo hi=>obtain ⟨_,_,_,e⟩:=x;exact Heap.lt_size e
 | DP ob u=>obtain ⟨e,_⟩:=x;exact Heap.lt_size e
 | QY ps=>exact Heap.lt_size (show h.get? a=some _ from x)
 | met f y=>exact Heap.lt_size (show h.get? a=some _ from x)
 | ext φ => obtain ⟨_,⟨_,e⟩,_⟩:=x;exact Heap.lt_size e
theorem Paired.RS {α β : Type} {F G : α->β->Prop} : ∀ {l₁ : List α} {l₂ : List β},Paired F l₁ l₂->(∀ a b,F a b->G a b)->Paired G l₁ l₂
 | _,_,.nil,_ => .nil
 | _,_,.cons r t,f => .cons (f _ _ r) (Paired.RS t f)
theorem bY.stay (x:bY P w H h a o) (k : ∀ b u,(b=a\/H b=some (.own a))->h.get? b=some u->h'.get? b=some u)
  (ho : ∀ b,H b=some (.own a)->H' b=some (.own a)) (ht : ∀ b xs,H b=some (.tup xs)->H' b=some (.tup xs)):bY P w H' h' a o:=by
 induction o with
 | lst xs=>obtain ⟨z,its,n,r,e⟩:=x;exact ⟨z,its,n,r,k _ _ (.inl rfl) e⟩
 | tup xs=>obtain ⟨z,its,r,ob,e,c⟩:=x;exact ⟨z,its,r,ob,k _ _ (.inl rfl) e,c⟩
 | dK kvs=>obtain ⟨z,y,vs,r,ob,es,ep,e,c⟩:=x;exact ⟨z,y,vs,r,ob,es,ep,k _ _ (.inl rfl) e,c⟩
 | dT kvs =>
   obtain ⟨z,y,xs,r,ob,es,ep,e,c⟩:=x
   exact ⟨z,y,xs,Paired.RS r λ p q z=>⟨z.1,ht _ _ z.2.1,z.2.2⟩,ob,es,ep,k _ _ (.inl rfl) e,c⟩
 | set S n=>obtain ⟨ob,es,ep,t,e,c⟩:=x;exact ⟨ob,es,ep,t,k _ _ (.inl rfl) e,c⟩
 | ins C dx fs =>
   obtain ⟨d,z,ne,e,mA,⟨od,es,ep,e2,c⟩,r⟩:=x
   exact ⟨ho _ d,z,ne,k _ _ (.inl rfl) e,mA,⟨od,es,ep,k _ _ (.inr d) e2,c⟩,r⟩
 | own y=>obtain ⟨ob,e⟩:=x;exact ⟨ob,k _ _ (.inl rfl) e⟩
 | xd fs=>obtain ⟨mA,⟨od,es,ep,e,c⟩,r⟩:=x;exact ⟨mA,⟨od,es,ep,k _ _ (.inl rfl) e,c⟩,r⟩
 | WU lo hi=>obtain ⟨t,u,v,e⟩:=x;exact ⟨t,u,v,k _ _ (.inl rfl) e⟩
 | DP ob u ih=>obtain ⟨e,q⟩:=x;exact ⟨k _ _ (.inl rfl) e,ih q⟩
 | QY ps =>
   have e:h.get? a=some { cls := .none,data := .fields ps } := x
   show h'.get? a=some { cls := .none,data := .fields ps }
   exact k a _ (.inl rfl) e
 | met f y =>
   have e:h.get? a=some (PySem.W.methodObj (.ref f) (.ref y)):=x
   show h'.get? a=some (PySem.W.methodObj (.ref f) (.ref y))
   exact k a _ (.inl rfl) e
 | ext φ => obtain ⟨p,⟨o,e⟩,st⟩:=x;exact ⟨st _ _ p λ o q=>k _ _ (.inl rfl) q,⟨o,k _ _ (.inl rfl) e⟩,st⟩
theorem k6.lt (x:k6 P w H h) (e:H a=some o):a < h.objs.size:=(x a o e).lt
theorem k6.fresh (x:k6 P w H h) (e:h.objs.size<=a):H a=none:=by
 cases q:H a with
 | none=>rfl
 | some u=>exact absurd (Nat.lt_of_lt_of_le (x.lt q) e) (Nat.lt_irrefl _)
theorem k6.kept (x:k6 P w H h) (k : ∀ b u,h.get? b=some u->h'.get? b=some u):k6 P w H h':=λ a o e =>
 (x a o e).stay (λ b u _ q=>k b u q) (λ _ q=>q) λ _ _ q=>q
theorem k6.laid (x:k6 P w H h) (k : ∀ b u,h.get? b=some u->h'.get? b=some u) (hp:h.objs.size<=a) (new:bY P w (upd H a o) h' a o):k6 P w (upd H a o) h':=λ b u e=>by
 have hn:=x.fresh hp
 by_cases hb:b=a
 ·subst hb;rw [ju] at e;cases e;exact new
 ·rw [cj hb] at e
  exact (x b u e).stay (λ c v _ q=>k c v q) (λ c q=>by rw [cj (gb q hn)];exact q) λ c xs q=>by rw [cj (gb q hn)];exact q
end
def Rd (H:Hp) (a:Addr) (u:HO):Prop:=H a=some u ∨ ∃ o,H a=some (.DP o u)
theorem Rd.of {H:Hp} {a:Addr} {u:HO} (h:H a=some u):Rd H a u := .inl h
theorem Rd.ok {P:Program} {w:World} {H:Hp} {h:Heap} {a:Addr} {u:HO} (r:Rd H a u) (x:k6 P w H h):bY P w H h a u:=by
 rcases r with r | ⟨o,r⟩
 ·exact x a u r
 ·obtain ⟨_,q⟩:=x a _ r
  exact q
def UO:Option HO->Prop
 | some (.lst _)=>True
 | some (.dK _)=>True
 | some (.dT _)=>True
 | some (.set _ _)=>True
 | some (.ins _ _ _)=>True
 | some (.ext _)=>True
 | _=>False
section
variable {P:Program} {w:World} {H:Hp} {h h':Heap} {x e:Addr} {o':HO}
theorem k6.write (ok:k6 P w H h) (mu:UO (H x)) (he:e=x\/H e=some (.own x)) (k : ∀ b u,b≠e->h.get? b=some u->h'.get? b=some u) (Ut : ∃ u,h'.get? e=some u)
  (new:bY P w (upd H x o') h' x o'):k6 P w (upd H x o') h':=λ b u q=>by
 have UP : ∀ c y,H c=some (.own y)->c≠x:=λ c y r z=>by subst z;rw [r] at mu;exact mu
 have XZ : ∀ c xs,H c=some (.tup xs)->c≠x:=λ c xs r z=>by subst z;rw [r] at mu;exact mu
 by_cases hb:b=x
 ·subst hb;rw [ju] at q;cases q;exact new
 ·rw [cj hb] at q
  by_cases RT:b=e
  ·have q':H b=some (.own x):=by
    rcases he with z | z
    ·exact absurd (RT.trans z) hb
    ·rw [RT];exact z
   rw [q] at q';cases q'
   obtain ⟨v,hv⟩:=Ut
   exact ⟨v,by rw [RT];exact hv⟩
  ·refine (ok b u q).stay (λ c v hc r=>k c v ?_ r) (λ c r=>by rw [cj (UP c b r)];exact r) λ c xs r=>by rw [cj (XZ c xs r)];exact r
   rcases hc with rfl | hc
   ·exact RT
   ·rintro rfl
    rcases he with z | z
    ·exact UP c b hc z
    ·rw [hc] at z;cases z;exact hb rfl
end
structure Un (fs ex:List Addr) (H H':Hp) (h h':Heap):Prop where
 keep : ∀ b o,h.get? b=some o->H b=none->b ∉ fs->b ∉ ex->h'.get? b=some o
 slot : ∀ b o,h.get? b=some o->H b=none->b∈fs->b ∉ ex->∃ sl,h'.get? b=some { o with slots:=sl }
 free : ∀ b o,h.get? b=some o->H b=none->b ∉ ex->H' b=none
 there : ∀ b o,h.get? b=some o->b ∉ ex->∃ o',h'.get? b=some o'
 tups : ∀ b xs,H b=some (.tup xs)->H' b=some (.tup xs)
 k7 : ∀ b o u,H b=some (.DP o u)->H' b=some (.DP o u)
 lI : ∀ b ps,H b=some (.QY ps)->∃ more,H' b=some (.QY (ps++more))
section
variable {fs fs' ex ex':List Addr} {H H1 H2:Hp} {h h1 h2 h':Heap} {a x e:Addr} {o:HO}
theorem Un.any (u:Un fs ex H H1 h h1) {b:Addr} {ob:Obj} (q:h.get? b=some ob) (n:H b=none) (hx:b ∉ ex) : ∃ sl,h1.get? b=some { ob with slots:=sl } := by
 by_cases hb:b∈fs
 ·exact u.slot b ob q n hb hx
 ·exact ⟨ob.slots,u.keep b ob q n hb hx⟩
theorem Un.trans (a:Un fs ex H H1 h h1) (b:Un fs ex H1 H2 h1 h2):Un fs ex H H2 h h2 where
 keep:=λ c ob q n hc hx=>b.keep c ob (a.keep c ob q n hc hx) (a.free c ob q n hx) hc hx
 slot:=λ c ob q n hc hx=>by
  obtain ⟨sl,e1⟩:=a.slot c ob q n hc hx
  obtain ⟨Ln,e2⟩:=b.slot c _ e1 (a.free c ob q n hx) hc hx
  exact ⟨Ln,e2⟩
 free:=λ c ob q n hx=>by
  obtain ⟨o',e1⟩:=a.there c ob q hx
  exact b.free c o' e1 (a.free c ob q n hx) hx
 there:=λ c ob q hx=>by
  obtain ⟨o',e1⟩:=a.there c ob q hx
  exact b.there c o' e1 hx
 tups:=λ c xs q=>b.tups c xs (a.tups c xs q)
 k7:=λ c ob xs q=>b.k7 c ob xs (a.k7 c ob xs q)
 lI:=λ c ps q=>by
  obtain ⟨m1,e1⟩:=a.lI c ps q
  obtain ⟨m2,e2⟩:=b.lI c _ e1
  exact ⟨m1++m2,by rw [e2,Array.append_assoc]⟩
theorem Un.kept (k : ∀ b u,h.get? b=some u->h'.get? b=some u):Un fs ex H H h h' :=
 ⟨λ b ob q _ _ _=>k b ob q,λ b ob q _ _ _=>⟨ob.slots,k b ob q⟩,λ _ _ _ n _=>n,λ b ob q _=>⟨ob,k b ob q⟩,λ _ _ q=>q,λ _ _ _ q=>q,λ _ ps q=>⟨#[],by rw [q];simp⟩⟩
theorem Un.refl:Un fs ex H H h h:=Un.kept λ _ _ q=>q
theorem Un.laid (k : ∀ b u,h.get? b=some u->h'.get? b=some u) (hp:h.objs.size<=a) (hn:H a=none):Un fs ex H (upd H a o) h h' where
 keep:=λ b u q _ _ _=>k b u q
 slot:=λ b u q _ _ _=>⟨u.slots,k b u q⟩
 free:=λ b u q n _=>by rw [cj (Nat.ne_of_lt (Nat.lt_of_lt_of_le (Heap.lt_size q) hp))];exact n
 there:=λ b u q _=>⟨u,k b u q⟩
 tups:=λ b xs q=>by rw [cj (gb q hn)];exact q
 k7:=λ b u xs q=>by rw [cj (gb q hn)];exact q
 lI:=λ b ps q=>⟨#[],by rw [cj (gb q hn),q];simp⟩
theorem Un.write (mu:UO (H x)) (he:e=x\/H e=some (.own x)) (k : ∀ b u,b≠e->h.get? b=some u->h'.get? b=some u) (Ut : ∃ u,h'.get? e=some u):Un fs ex H (upd H x o) h h':=by
 have hx : ∀ b,H b=none->b≠x:=λ b n z=>by subst z;rw [n] at mu;exact mu
 have hb : ∀ b,H b=none->b≠e:=λ b n z=>by
  subst z
  rcases he with r | r
  ·exact hx b n r
  ·rw [n] at r;cases r
 have hm : ∀ b u,H b=some u->¬ UO (some u)->b≠x:=λ b u q nm z=>by subst z;rw [q] at mu;exact nm mu
 refine ⟨λ b u q n _ _=>k b u (hb b n) q,λ b u q n _ _=>⟨u.slots,k b u (hb b n) q⟩,λ b u q n _=>by rw [cj (hx b n)];exact n,λ b u q _ => ?_,
  λ b xs q=>by rw [cj (hm b _ q λ z=>z)];exact q,λ b u xs q=>by rw [cj (hm b _ q λ z=>z)];exact q,λ b ps q=>⟨#[],by rw [cj (hm b _ q λ z=>z),q];simp⟩⟩
 by_cases RT:b=e
 ·subst RT;exact Ut
 ·exact ⟨u,k b u RT q⟩
theorem Un.mono (u:Un fs ex H H1 h h1) (hs : ∀ b∈fs,b∈fs') (hx : ∀ b∈ex,b∈ex'):Un fs' ex' H H1 h h1 :=
 ⟨λ b ob q n hb he=>u.keep b ob q n (λ z=>hb (hs b z)) λ z=>he (hx b z),λ _ _ q n _ he=>u.any q n λ z=>he (hx _ z),λ b ob q n he=>u.free b ob q n λ z=>he (hx b z),λ b ob q he=>u.there b ob q λ z=>he (hx b z),u.tups,u.k7,u.lI⟩
end
def WV (h:Heap) (H:Hp):List Addr:=(List.range h.objs.size).filter λ a=>(H a).isSome
def BV (h:Heap) (H:Hp):Heap:=PySem.W.hideAll h (WV h H)
theorem Jb (h:Heap) (H:Hp):(BV h H).objs.size=h.objs.size:=PySem.W.hideAll_size _ _
theorem Lo {h:Heap} {H:Hp} {b:Addr} {o:Obj} (e:h.get? b=some o) (n:H b=none):(BV h H).get? b=some o :=
 PySem.W.hideAll_get _ e λ hm=>by
  have q:(H b).isSome=true:=(List.mem_filter.mp hm).2
  rw [n] at q;simp at q
theorem OS {h:Heap} {H:Hp} {b:Addr} {o:Obj} (e:(BV h H).get? b=some o):h.get? b=some o/\H b=none:=by
 have e':h.get? b=some o:=PySem.W.of_hideAll (WV h H) e
 refine ⟨e',?_⟩
 cases q:H b with
 | none=>rfl
 | some x =>
   have hm:b∈WV h H:=List.mem_filter.mpr ⟨List.mem_range.mpr (Heap.lt_size e'),by simp [q]⟩
   have z:(BV h H).get? b=none:=PySem.W.hideAll_none (WV h H) hm
   rw [z] at e;cases e
def OT (g h:Heap) (L:Addr):List (Addr×Obj):=(List.range h.objs.size).filterMap λ a=>if a=L\/(g.get? a).isSome=true then none else (h.get? a).map λ o=>(a,o)
def rest (g h:Heap) (L d:Addr):List (Addr×Obj):=(OT g h L).filter λ p=>decide (p.1≠d)
end L2
namespace L2
open PySem PySem.Spec PyProof.Rows
structure Mod (K:PySem.W.Frag) (mg:Str->Option Value) (base:Heap):Prop where
 Uu:K.In base
 glob:base.Ns mainGlobals mg
 blt : ∃ mb,base.Ns builtinsNs mb ∧ ∀ x:Str,x ≠ "__name__"->mb x=bootBuiltins x
 nolimit:base.NoLimit
structure Cx where
 prog:Program
 w:World
 K:PySem.W.Frag
 mg:Str->Option Value
 base:Heap
 A:Around
 N:List Str
 s₀ : Shared
 H₀ : Hp
 env:Env
 outer:List Env
 stack:List Env
 ex:List Addr
 fn:Str->Bool
 calm:Bool
 pn:List (Addr×Obj)
 xe:Value->Shared->Prop
def frs (l:List Env):List Addr:=l.filterMap (·.frame)
abbrev Cx.fs (X:Cx):List Addr:=frs X.outer
def RU (sc:Scope) (x:Str):Prop:=sc.names.lookup x=some .local\/sc.names.lookup x=some .cell\/sc.names.lookup x=some .free
def Loc (sc:Scope) (x:Str):Prop:=sc.names.lookup x=some .local\/sc.names.lookup x=some .cell
def Look (env:Env) (h:Heap) (m:Str->Option Value) (x:Str) (u:Value):Prop :=
 (env.kindOf x=some .local/\m x=some u)\/((env.kindOf x=some .cell\/env.kindOf x=some .free) ∧ ∃ c,env.cells.lookup x=some c/\h.IsCell c (some u))
structure Cx.Ok (X:Cx):Prop where
 mod:Mod X.K X.mg X.base
 kind:X.env.scope.kind = .function
 glob:X.env.globals=mainGlobals
 blt:X.env.builtins=builtinsNs
 above:X.s₀.heap.objs.size<=X.env.locals
 inj : ∀ x y c,X.env.cells.lookup x=some c->X.env.cells.lookup y=some c->x=y
 has : ∀ x,(X.env.kindOf x=some .cell\/X.env.kindOf x=some .free)->∃ c,X.env.cells.lookup x=some c
 RV : ∀ x c,X.fn x=true->X.env.cells.lookup x=some c->X.s₀.heap.objs.size<=c
 hd:X.calm=true->X.A.handled=none
 frames:X.A.frames=some X.stack
 stk:X.stack=X.outer\/(X.stack=X.env::X.outer/\X.env.frame=some X.env.locals)
 WW : ∀ b∈X.ex,b≠X.env.locals ∧ ∀ x c,X.env.cells.lookup x=some c->c≠b
 bs : ∀ b o,X.base.get? b=some o->X.s₀.heap.get? b=some o/\X.H₀ b=none
 Le:X.base.objs.size<=X.s₀.heap.objs.size
 FI : ∀ b o,X.base.get? b=some o->b ∉ X.ex
 Jc : ∀ b∈X.ex,b ∉ X.fs
 pU:X.s₀.heap.FunFrames X.base X.outer
 OU : ∀ b∈X.fs,X.H₀ b=none
structure Inv (X:Cx) (pins:List (Addr×Obj)) (σ : List (Option V)) (H:Hp) (s:Shared):Prop where
 ok:X.Ok
 os:s.os=X.s₀.os
 bare:AllBare s.gens
 base:Un X.fs X.ex X.H₀ H X.s₀.heap s.heap
 loc : ∃ m,s.heap.Ns X.env.locals m ∧ ∀ (i:Nat) (x:Str) (v:V),X.N[i]? = some x->σ[i]? = some (some v)->RU X.env.scope x->∃ u,RelV v u/\Look X.env s.heap m x u
 cell : ∀ x c,X.env.cells.lookup x=some c->∃ v,s.heap.IsCell c v
 free:H X.env.locals=none
 lJ : ∀ x c,X.env.cells.lookup x=some c->H c=none
 pin : ∀ p∈X.pn++pins,s.heap.get? p.1=some p.2/\H p.1=none/\p.1≠X.env.locals/\p.1 ∉ X.fs ∧ ∀ v,p.2.data ≠ .cell v
 hok:k6 X.prog X.w H s.heap
 len : σ.length=X.N.length
section
variable {X:Cx} {pins:List (Addr×Obj)} {σ : List (Option V)} {H H':Hp} {s:Shared} {h':Heap}
theorem Cx.Ok.X0 (ok:X.Ok) {b:Addr} {o:Obj} (e:X.base.get? b=some o):b ∉ X.fs:=λ hb=>by
 have:=(ok.pU.mem hb).1
 rw [e] at this;cases this
theorem Inv.bs (I:Inv X pins σ H s) : ∀ b o,X.base.get? b=some o->s.heap.get? b=some o/\H b=none:=λ b o e =>
 ⟨I.base.keep b o (I.ok.bs b o e).1 (I.ok.bs b o e).2 (I.ok.X0 e) (I.ok.FI b o e),I.base.free b o (I.ok.bs b o e).1 (I.ok.bs b o e).2 (I.ok.FI b o e)⟩
theorem Inv.bk (I:Inv X pins σ H s) : ∀ b o,X.base.get? b=some o->s.heap.get? b=some o:=λ b o e=>(I.bs b o e).1
theorem Inv.mod (I:Inv X pins σ H s):Mod X.K X.mg X.base:=I.ok.mod
theorem Inv.tP (I:Inv X pins σ H s):X.K.In s.heap:=I.ok.mod.Uu.keeps I.bk
theorem Inv.fr (I:Inv X pins σ H s) : ∃ m,Fr X.base X.env.locals s.heap m :=
 let ⟨m,hn,_⟩:=I.loc
 ⟨m,hn,I.bk,Nat.le_trans I.ok.Le I.ok.above⟩
theorem Inv.lt (I:Inv X pins σ H s):X.env.locals < s.heap.objs.size:=let ⟨_,hn,_⟩:=I.loc;hn.lt
theorem Inv.sz (I:Inv X pins σ H s):X.s₀.heap.objs.size<=s.heap.objs.size:=Nat.le_trans I.ok.above (Nat.le_of_lt I.lt)
theorem Inv.X4 (I:Inv X pins σ H s) {a:Addr} (h:s.heap.objs.size<=a):a ∉ X.fs:=λ hb=>by
 obtain ⟨_,o,ho,_⟩:=I.ok.pU.mem hb
 exact absurd (Nat.lt_of_lt_of_le (Heap.lt_size ho) (Nat.le_trans I.sz h)) (Nat.lt_irrefl _)
theorem Inv.RW (I:Inv X pins σ H s) : ∀ x c,X.env.cells.lookup x=some c->c≠X.env.locals:=λ x c e z=>by
 obtain ⟨v,o,ho,hd⟩:=I.cell x c e
 obtain ⟨m,⟨o',es,ep,ho',hd',_⟩,_⟩:=I.loc
 rw [z,ho'] at ho;cases ho;rw [hd'] at hd;cases hd
theorem Inv.pU (I:Inv X pins σ H s):s.heap.FunFrames X.base X.outer:=by
 have all : ∀ (l:List Env),(∀ b∈frs l,b∈X.fs)->X.s₀.heap.FunFrames X.base l->s.heap.FunFrames X.base l:=by
  intro l
  induction l with
  | nil=>intro _ _;trivial
  | cons env r ih =>
    intro hs hl
    obtain ⟨hk,⟨L,o,hf,hn,ho,hd⟩,hr⟩:=hl
    have hL:L∈X.fs:=hs L (by unfold frs;rw [List.filterMap_cons,hf];exact List.mem_cons_self)
    obtain ⟨sl,e⟩:=I.base.slot L o ho (I.ok.OU L hL) hL λ z=>I.ok.Jc L z hL
    exact ⟨hk,⟨L,_,hf,hn,e,hd⟩,ih (λ b hb=>hs b (by unfold frs;rw [List.filterMap_cons,hf];exact List.mem_cons_of_mem _ hb)) hr⟩
 exact all X.outer (λ _ hb=>hb) I.ok.pU
theorem Inv.stack (I:Inv X pins σ H s):s.heap.FunFrames X.base X.stack:=by
 rcases I.ok.stk with e | ⟨e,hf⟩
 ·rw [e];exact I.pU
 ·rw [e]
  obtain ⟨m,hn,_⟩:=I.loc
  refine .cons (by rw [I.ok.kind];decide) hf hn ?_ I.pU
  exact Heap.get?_none_of_le (Nat.le_trans I.ok.Le I.ok.above)
theorem Inv.vO (I:Inv X pins σ H s) : ∀ b∈frs X.stack,b∈X.env.locals::X.fs:=λ b hb=>by
 rcases I.ok.stk with e | ⟨e,hf⟩
 ·rw [e] at hb;exact List.mem_cons_of_mem _ hb
 ·rw [e] at hb
  unfold frs at hb
  rw [List.filterMap_cons,hf] at hb
  exact hb
theorem Inv.BW (I:Inv X pins σ H s) : ∀ b∈frs X.stack,H b=none:=λ b hb=>by
 rcases List.mem_cons.mp (I.vO b hb) with e | hb
 ·rw [e];exact I.free
 ·obtain ⟨_,o,ho,_⟩:=I.ok.pU.mem hb
  exact I.base.free b o ho (I.ok.OU b hb) λ z=>I.ok.Jc b z hb
theorem Inv.step {g':Array GenState} {t':Nat} {d':Drawn} {ch:List Addr} (I:Inv X pins σ H s)
  (hch : ∀ b∈ch,(b∈X.ex\/X.s₀.heap.objs.size<=b)/\b≠X.env.locals/\(∀ x c,X.env.cells.lookup x=some c->c≠b) ∧ ∀ p∈X.pn++pins,p.1≠b)
  (keep : ∀ b o,b≠X.env.locals->b ∉ X.fs->b ∉ ch->s.heap.get? b=some o->H b=none->h'.get? b=some o)
  (slot : ∀ b o,b≠X.env.locals->b∈X.fs->b ∉ ch->s.heap.get? b=some o->H b=none->∃ sl,h'.get? b=some { o with slots:=sl }) (free : ∀ b o,b ∉ ch->s.heap.get? b=some o->H b=none->H' b=none)
  (there : ∀ b o,b ∉ ch->s.heap.get? b=some o->∃ o',h'.get? b=some o')
  (tups : ∀ b xs,H b=some (.tup xs)->H' b=some (.tup xs)) (k7 : ∀ b o u,H b=some (.DP o u)->H' b=some (.DP o u)) (lI : ∀ b ps,H b=some (.QY ps)->∃ more,H' b=some (.QY (ps++more)))
  (ns : ∀ m,s.heap.Ns X.env.locals m->h'.Ns X.env.locals m) (hok:k6 X.prog X.w H' h') (hg:AllBare g') :
  Inv X pins σ H' { s with heap:=h',gens:=g',drawn:=d',toks:=t' } := by
 have neL : ∀ b o,X.s₀.heap.get? b=some o->b≠X.env.locals:=λ b o e=>Nat.ne_of_lt (Nat.lt_of_lt_of_le (Heap.lt_size e) I.ok.above)
 have Uv : ∀ b o,X.s₀.heap.get? b=some o->b ∉ X.ex->b ∉ ch:=λ b o e hx hb=>by
  rcases (hch b hb).1 with z | z
  ·exact hx z
  ·exact absurd (Nat.lt_of_lt_of_le (Heap.lt_size e) z) (Nat.lt_irrefl _)
 have cellK : ∀ x c,X.env.cells.lookup x=some c->∀ v,s.heap.IsCell c v->h'.IsCell c v:=λ x c e v ⟨o,ho,hd⟩=>by
  have UQ:c ∉ ch:=λ z=>(hch c z).2.2.1 x c e rfl
  by_cases hc:c∈X.fs
  ·obtain ⟨sl,q⟩:=slot c o (I.RW x c e) hc UQ ho (I.lJ x c e)
   exact ⟨_,q,hd⟩
  ·exact ⟨o,keep c o (I.RW x c e) hc UQ ho (I.lJ x c e),hd⟩
 refine ⟨I.ok,I.os,hg,⟨λ b o e n hb hx => ?_,λ b o e n hb hx => ?_,λ b o e n hx => ?_,λ b o e hx => ?_,λ b xs e=>tups b xs (I.base.tups b xs e),λ b o xs e=>k7 b o xs (I.base.k7 b o xs e),λ b ps e => ?_⟩,?_,λ x c e => ?_,?_,λ x c e => ?_,λ p hp => ?_,hok,I.len⟩
 ·exact keep b o (neL b o e) hb (Uv b o e hx) (I.base.keep b o e n hb hx) (I.base.free b o e n hx)
 ·obtain ⟨sl,e1⟩:=I.base.slot b o e n hb hx
  obtain ⟨Ln,e2⟩:=slot b _ (neL b o e) hb (Uv b o e hx) e1 (I.base.free b o e n hx)
  exact ⟨Ln,e2⟩
 ·obtain ⟨o',e1⟩:=I.base.there b o e hx
  exact free b o' (Uv b o e hx) e1 (I.base.free b o e n hx)
 ·obtain ⟨o',e1⟩:=I.base.there b o e hx
  exact there b o' (Uv b o e hx) e1
 ·obtain ⟨m1,e1⟩:=I.base.lI b ps e
  obtain ⟨m2,e2⟩:=lI b _ e1
  exact ⟨m1++m2,by rw [e2,Array.append_assoc]⟩
 ·obtain ⟨m,hn,hl⟩:=I.loc
  refine ⟨m,ns m hn,λ i x v e1 e2 e3 => ?_⟩
  obtain ⟨u,r,l⟩:=hl i x v e1 e2 e3
  refine ⟨u,r,?_⟩
  rcases l with l | ⟨k,c,e,z⟩
  ·exact .inl l
  ·exact .inr ⟨k,c,e,cellK x c e _ z⟩
 ·obtain ⟨v,z⟩:=I.cell x c e
  exact ⟨v,cellK x c e v z⟩
 ·obtain ⟨m,⟨o,_,_,ho,_⟩,_⟩:=I.loc
  exact free _ o (λ z=>(hch _ z).2.1 rfl) ho I.free
 ·obtain ⟨v,o,ho,hd⟩:=I.cell x c e
  exact free c o (λ z=>(hch c z).2.2.1 x c e rfl) ho (I.lJ x c e)
 ·obtain ⟨e,n,ne,nf,d⟩:=I.pin p hp
  have UQ:p.1 ∉ ch:=λ z=>(hch p.1 z).2.2.2 p hp rfl
  exact ⟨keep p.1 p.2 ne nf UQ e n,free p.1 p.2 UQ e n,ne,nf,d⟩
theorem Inv.un {t':Nat} (I:Inv X pins σ H s) (u:Un X.fs [] H H' s.heap h') (hok:k6 X.prog X.w H' h'):Inv X pins σ H' { s with heap:=h',toks:=t' } := by
 obtain ⟨m,⟨o,es,ep,ho,r⟩,_⟩:=id I.loc
 obtain ⟨sl,hL⟩:=u.any ho I.free (by simp)
 exact I.step (g':=s.gens) (d':=s.drawn) (ch:=[]) (λ _ z=>nomatch z) (λ b o _ hb _ e n=>u.keep b o e n hb (by simp)) (λ b o _ hb _ e n=>u.slot b o e n hb (by simp)) (λ b o _ e n=>u.free b o e n (by simp)) (λ b o _ e=>u.there b o e (by simp)) u.tups u.k7 u.lI (λ m' hm=>by
  obtain ⟨o',es',X5,ho',r'⟩:=hm
  rw [ho] at ho';cases ho'
  exact ⟨_,es',X5,hL,r'⟩) hok I.bare
theorem Inv.call {g':Array GenState} {t':Nat} {d':Drawn} {ch:List Addr} (I:Inv X pins σ H s) (u:Un (frs X.stack) ch H H' s.heap h') (hok:k6 X.prog X.w H' h') (hg:AllBare g')
  (hch : ∀ b∈ch,(b∈X.ex\/X.s₀.heap.objs.size<=b)/\b≠X.env.locals/\(∀ x c,X.env.cells.lookup x=some c->c≠b) ∧ ∀ p∈X.pn++pins,p.1≠b) :
  Inv X pins σ H' { s with heap:=h',gens:=g',drawn:=d',toks:=t' } := by
 obtain ⟨m,⟨o,es,ep,ho,r⟩,_⟩:=id I.loc
 obtain ⟨sl,hL⟩:=u.any ho I.free λ z=>(hch _ z).2.1 rfl
 exact I.step (ch:=ch) hch (λ b o hL hb hc e n=>u.keep b o e n (λ z=>(List.mem_cons.mp (I.vO b z)).elim hL hb) hc) (λ b o _ _ hc e n=>u.any e n hc) (λ b o hc e n=>u.free b o e n hc) (λ b o hc e=>u.there b o e hc) u.tups u.k7 u.lI (λ m' hm=>by
  obtain ⟨o',es',X5,ho',r'⟩:=hm
  rw [ho] at ho';cases ho'
  exact ⟨_,es',X5,hL,r'⟩) hok hg
theorem Inv.turned {t':Nat} {it:Addr} (I:Inv X pins σ H s) (k : ∀ b o,b≠it->s.heap.get? b=some o->h'.get? b=some o) (hn:H it=none) (hL:it≠X.env.locals)
  (h1:it∈X.ex\/X.s₀.heap.objs.size<=it) (h2 : ∀ x c,X.env.cells.lookup x=some c->c≠it) (h3 : ∀ p∈X.pn++pins,p.1≠it):Inv X pins σ H { s with heap:=h',toks:=t' } := by
 have nit : ∀ b u,H b=some u->b≠it:=λ b u e z=>by rw [z,hn] at e;cases e
 refine I.step (g':=s.gens) (d':=s.drawn) (ch:=[it]) (λ b hb => ?_) (λ b o _ _ hc e _=>k b o (λ z=>hc (by simp [z])) e) (λ b o _ _ hc e _=>⟨o.slots,k b o (λ z=>hc (by simp [z])) e⟩) (λ _ _ _ _ n=>n)
  (λ b o hc e=>⟨o,k b o (λ z=>hc (by simp [z])) e⟩) (λ _ _ e=>e) (λ _ _ _ e=>e) (λ b ps e=>⟨#[],by rw [e];simp⟩) (λ m hm => ?_) (λ b u e => ?_) I.bare
 ·have e:b=it:=by simpa using hb
  subst e
  exact ⟨h1,hL,h2,h3⟩
 ·obtain ⟨o,es,ep,ho,r⟩:=hm
  exact ⟨o,es,ep,k _ o (Ne.symm hL) ho,r⟩
 ·refine (I.hok b u e).stay (λ c v hc q=>k c v ?_ q) (λ _ q=>q) λ _ _ q=>q
  rcases hc with z | z
  ·rw [z];exact nit b u e
  ·exact nit c _ z
theorem Inv.tok (I:Inv X pins σ H s) (t:Nat):Inv X pins σ H { s with toks:=t } := I.un (h':=s.heap) (t':=t) Un.refl I.hok
theorem Inv.kept {t':Nat} (I:Inv X pins σ H s) (k : ∀ b u,s.heap.get? b=some u->h'.get? b=some u):Inv X pins σ H { s with heap:=h',toks:=t' } := I.un (Un.kept k) (I.hok.kept k)
theorem Inv.laid {a:Addr} {o:HO} {t':Nat} (I:Inv X pins σ H s) (k : ∀ b u,s.heap.get? b=some u->h'.get? b=some u) (hp:s.heap.objs.size<=a) (new:bY X.prog X.w (upd H a o) h' a o) :
  Inv X pins σ (upd H a o) { s with heap:=h',toks:=t' } := I.un (Un.laid k hp (I.hok.fresh hp)) (I.hok.laid k hp new)
theorem Inv.write {x e:Addr} {o:HO} {t':Nat} (I:Inv X pins σ H s) (mu:UO (H x)) (he:e=x\/H e=some (.own x)) (k : ∀ b u,b≠e->s.heap.get? b=some u->h'.get? b=some u) (Ut : ∃ u,h'.get? e=some u)
  (new:bY X.prog X.w (upd H x o) h' x o):Inv X pins σ (upd H x o) { s with heap:=h',toks:=t' } := I.un (Un.write mu he k Ut) (I.hok.write mu he k Ut new)
theorem Inv.HQ {vP:List (Addr×Obj)} (I:Inv X pins σ H s) (h : ∀ p∈vP,s.heap.get? p.1=some p.2/\H p.1=none/\p.1≠X.env.locals/\p.1 ∉ X.fs ∧ ∀ v,p.2.data ≠ .cell v):Inv X vP σ H s :=
 ⟨I.ok,I.os,I.bare,I.base,I.loc,I.cell,I.free,I.lJ,λ p hp=>(List.mem_append.mp hp).elim (λ z=>I.pin p (List.mem_append_left _ z)) (h p),I.hok,I.len⟩
theorem DY {N:List Str} (hN:N.Nodup) {i j:Nat} {x:Str} (a:N[i]? = some x) (b:N[j]? = some x):i=j:=by
 obtain ⟨h1,e1⟩:=List.getElem?_eq_some_iff.mp a
 obtain ⟨h2,e2⟩:=List.getElem?_eq_some_iff.mp b
 exact (List.getElem_inj hN).mp (e1.trans e2.symm)
theorem Be {M:Model} {A:Around} {E:Value->Shared->Prop} {i:Nat} {x:Str} {v:V} {u:Value} {Q:Unit->Shared->Prop} (I:Inv X pins σ H s) (hN:X.N.Nodup) (hi:X.N[i]? = some x) (hx:Loc X.env.scope x) (r:RelV v u)
  (h : ∀ s',Inv X pins (σ.set i (some v)) H s'->(∃ a,Heap.SameBut a s.heap s'.heap/\(a=X.env.locals\/X.env.cells.lookup x=some a))->Q () s') (hf:X.fn x=true\/X.env.scope.names.lookup x=some .local:=by first | exact .inl rfl | exact .inr rfl | assumption):wpAny M A (storeName X.env x u) Q E s:=by
 obtain ⟨m,hn,hl⟩:=id I.loc
 have hcls:(X.env.scope.kind == .class || (X.env.scope.kind == .module && X.env.locals != X.env.globals))=false:=by rw [I.ok.kind];rfl
 have hiσ : i < σ.length:=by rw [I.len];exact (List.getElem?_eq_some_iff.mp hi).1
 have RW:=I.RW
 have tracked : ∀ {a:Addr} {h':Heap},(∃ o,s.heap.get? a=some o/\H a=none)->Heap.SameBut a s.heap h'->k6 X.prog X.w H h':=fun {a h'} ha hs b ob e=>by
  obtain ⟨_,_,hfree⟩:=ha
  refine (I.hok b ob e).stay (λ c w' hc q=>(hs.2 c ?_).trans q) (λ _ q=>q) λ _ _ q=>q
  rintro rfl
  rcases hc with rfl | hc
  ·rw [hfree] at e;cases e
  ·rw [hfree] at hc;cases hc
 rcases hx with hk | hk
 ·refine wpAny_storeName_local hk hn (λ h' hn' hs => ?_) hcls
  obtain ⟨oL,_,_,hoL,_⟩:=id hn
  refine h _ ⟨I.ok,I.os,I.bare,⟨λ b o e n hb hx => ?_,λ b o e n hb hx => ?_,I.base.free,λ b o e hx => ?_,I.base.tups,I.base.k7,I.base.lI⟩,⟨_,hn',λ j y v' e1 e2 e3 => ?_⟩,λ y c e => ?_,I.free,I.lJ,λ p hp => ?_,tracked ⟨oL,hoL,I.free⟩ hs,by simpa using I.len⟩ ⟨_,hs,.inl rfl⟩
  ·exact (hs.2 b (Nat.ne_of_lt (Nat.lt_of_lt_of_le (Heap.lt_size e) I.ok.above))).trans (I.base.keep b o e n hb hx)
  ·obtain ⟨sl,e1⟩:=I.base.slot b o e n hb hx
   exact ⟨sl,(hs.2 b (Nat.ne_of_lt (Nat.lt_of_lt_of_le (Heap.lt_size e) I.ok.above))).trans e1⟩
  ·obtain ⟨o',e1⟩:=I.base.there b o e hx
   exact ⟨o',(hs.2 b (Nat.ne_of_lt (Nat.lt_of_lt_of_le (Heap.lt_size e) I.ok.above))).trans e1⟩
  ·by_cases hj:j=i
   ·subst hj
    rw [hi] at e1;cases e1
    rw [List.getElem?_set_self hiσ] at e2
    cases e2
    exact ⟨u,r,.inl ⟨hk,by simp⟩⟩
   ·rw [List.getElem?_set_ne (Ne.symm hj)] at e2
    obtain ⟨u',r',q⟩:=hl j y v' e1 e2 e3
    refine ⟨u',r',?_⟩
    rcases q with ⟨k,e⟩ | ⟨k,c,e,z⟩
    ·refine .inl ⟨k,?_⟩
     have:y≠x:=λ e=>hj (DY hN e1 (e ▸ hi))
     simp [this,e]
    ·exact .inr ⟨k,c,e,z.sameBut hs (RW y c e)⟩
  ·obtain ⟨w',z⟩:=I.cell y c e
   exact ⟨w',z.sameBut hs (RW y c e)⟩
  ·obtain ⟨e,n,ne,nf,d⟩:=I.pin p hp
   exact ⟨(hs.2 p.1 ne).trans e,n,ne,nf,d⟩
 ·have hfn:X.fn x=true:=by
   rcases hf with z | z
   ·exact z
   ·rw [z] at hk;cases hk
  obtain ⟨c,hc⟩:=I.ok.has x (.inl hk)
  obtain ⟨w',z⟩:=I.cell x c hc
  refine wpAny_storeName_cell I.ok.kind hk hc z (λ h' hc' hs => ?_)
  obtain ⟨oc,hoc,X6⟩:=id z
  refine h { s with heap:=h' } ⟨I.ok,I.os,I.bare,⟨λ b o e n hb hx => ?_,λ b o e n hb hx => ?_,I.base.free,λ b o e hx => ?_,I.base.tups,I.base.k7,I.base.lI⟩,⟨m,hn.sameBut hs (Ne.symm (RW x c hc)),λ j y v' e1 e2 e3 => ?_⟩,λ y c' e => ?_,I.free,I.lJ,λ p hp => ?_,tracked ⟨oc,hoc,I.lJ x c hc⟩ hs,by simpa using I.len⟩ ⟨c,hs,.inr hc⟩
  ·exact (hs.2 b (Nat.ne_of_lt (Nat.lt_of_lt_of_le (Heap.lt_size e) (I.ok.RV x c hfn hc)))).trans (I.base.keep b o e n hb hx)
  ·obtain ⟨sl,e1⟩:=I.base.slot b o e n hb hx
   exact ⟨sl,(hs.2 b (Nat.ne_of_lt (Nat.lt_of_lt_of_le (Heap.lt_size e) (I.ok.RV x c hfn hc)))).trans e1⟩
  ·obtain ⟨o',e1⟩:=I.base.there b o e hx
   exact ⟨o',(hs.2 b (Nat.ne_of_lt (Nat.lt_of_lt_of_le (Heap.lt_size e) (I.ok.RV x c hfn hc)))).trans e1⟩
  ·by_cases hj:j=i
   ·subst hj
    rw [hi] at e1;cases e1
    rw [List.getElem?_set_self hiσ] at e2
    cases e2
    exact ⟨u,r,.inr ⟨.inl hk,c,hc,hc'⟩⟩
   ·rw [List.getElem?_set_ne (Ne.symm hj)] at e2
    obtain ⟨u',r',q⟩:=hl j y v' e1 e2 e3
    refine ⟨u',r',?_⟩
    rcases q with q | ⟨k,c',e,z'⟩
    ·exact .inl q
    ·refine .inr ⟨k,c',e,z'.sameBut hs ?_⟩
     rintro rfl
     exact hj (DY hN e1 (I.ok.inj _ _ _ e hc ▸ hi))
  ·by_cases hcc:c' = c
   ·subst hcc;exact ⟨_,hc'⟩
   ·obtain ⟨w2,z2⟩:=I.cell y c' e
    exact ⟨w2,z2.sameBut hs hcc⟩
  ·obtain ⟨e,n,ne,nf,d⟩:=I.pin p hp
   refine ⟨(hs.2 p.1 ?_).trans e,n,ne,nf,d⟩
   intro q
   rw [q,hoc] at e
   have q':oc=p.2:=Option.some.inj e
   exact d w' (by rw [<-q'];exact X6)
theorem vQ {M:Model} {A:Around} {E:Value->Shared->Prop} {i:Nat} {x:Str} {v:V} {u:Value} {Q:Unit->Shared->Prop} (I:Inv X pins σ H s) (hN:X.N.Nodup) (hi:X.N[i]? = some x) (hx:Loc X.env.scope x) (r:RelV v u)
  (h : ∀ s',Inv X pins (σ.set i (some v)) H s'->Q () s') (hf:X.fn x=true\/X.env.scope.names.lookup x=some .local:=by first | exact .inl rfl | exact .inr rfl | assumption):wpAny M A (storeName X.env x u) Q E s :=
 Be I hN hi hx r (λ s' I' _=>h s' I') hf
theorem Inv.QZ {s':Shared} {ch:List Addr} (I:Inv X pins σ H s) (ho:s'.os=s.os) (u:Un (frs X.stack) ch H H' s.heap s'.heap) (hok:k6 X.prog X.w H' s'.heap) (hg:AllBare s'.gens)
  (hch : ∀ b∈ch,(b∈X.ex\/X.s₀.heap.objs.size<=b)/\b≠X.env.locals/\(∀ x c,X.env.cells.lookup x=some c->c≠b) ∧ ∀ p∈X.pn++pins,p.1≠b):Inv X pins σ H' s':=by
 obtain ⟨h',g',d',t',o'⟩:=s'
 have e:o' = s.os:=ho
 subst e
 exact I.call (g':=g') (t':=t') (d':=d') u hok hg hch
end
abbrev XK:=Value->Option Addr->Hp->Prop
abbrev St:=List (Option V)
abbrev VK:=V->Hp->Prop
abbrev TE:=St->Hp->VK->Prop
abbrev TT:=St->Hp->(Bool->Hp->Prop)->Prop
abbrev TA:=St->Hp->(List V->Hp->Prop)->Prop
structure Ends where
 nx:St->Hp->Prop
 rt:VK
 bk:St->Hp->Prop:=λ _ _=>False
 ct:St->Hp->Prop:=λ _ _=>False
abbrev TS:=Ends->St->Hp->Prop
def EP (X:Cx) (pins:List (Addr×Obj)) (σ : St) (Q:VK) (u:Value) (s':Shared):Prop := ∃ v H',Inv X pins σ H' s'/\RelV v u/\Q v H'
def TP (X:Cx) (pins:List (Addr×Obj)) (σ : St) (Q:Bool->Hp->Prop) (b:Bool) (s':Shared):Prop := ∃ H',Inv X pins σ H' s'/\Q b H'
def AP (X:Cx) (pins:List (Addr×Obj)) (σ : St) (Q:List V->Hp->Prop) (us:List Value) (s':Shared):Prop := ∃ vs H',Inv X pins σ H' s'/\Vals vs us/\Q vs H'
def SP (X:Cx) (pins:List (Addr×Obj)) (D:Ends) (f:Flow) (s':Shared):Prop :=
 match f with
 | .next => ∃ σ' H',Inv X pins σ' H' s'/\D.nx σ' H'
 | .brk => ∃ σ' H',Inv X pins σ' H' s'/\D.bk σ' H'
 | .cont => ∃ σ' H',Inv X pins σ' H' s'/\D.ct σ' H'
 | .ret u => ∃ v σ' H',Inv X pins σ' H' s'/\RelV v u/\D.rt v H'
def PE (X:Cx) (e:Expr) (t:TE):Prop :=
 ∀ (pins:List (Addr×Obj)) (s:Shared) (σ : St) (H:Hp) (Q:VK),Inv X pins σ H s->t σ H Q->wpAny (model X.prog X.w) X.A (eval e X.env) (EP X pins σ Q) X.xe s
def PT (X:Cx) (e:Expr) (t:TT):Prop :=
 ∀ (pins:List (Addr×Obj)) (s:Shared) (σ : St) (H:Hp) (Q:Bool->Hp->Prop),Inv X pins σ H s->t σ H Q->wpAny (model X.prog X.w) X.A (isTrue e X.env (eval e X.env)) (TP X pins σ Q) X.xe s
def PW (X:Cx) (e:Expr) (t:TT):Prop :=
 ∀ (whole:Sem Value) (pins:List (Addr×Obj)) (s:Shared) (σ : St) (H:Hp) (Q:Bool->Hp->Prop),Inv X pins σ H s->t σ H Q->wpAny (model X.prog X.w) X.A (isTrue e X.env whole) (TP X pins σ Q) X.xe s
theorem PW.pt {X:Cx} {e:Expr} {t:TT} (h:PW X e t):PT X e t:=h _
def PA (X:Cx) (es:List Expr) (t:TA):Prop :=
 ∀ (pos:Pos) (pins:List (Addr×Obj)) (s:Shared) (σ : St) (H:Hp) (Q:List V->Hp->Prop),Inv X pins σ H s->t σ H Q->wpAny (model X.prog X.w) X.A (spliced (backTo pos (starEach es X.env))) (AP X pins σ Q) X.xe s
def PS (X:Cx) (st:Stmt) (t:TS):Prop :=
 ∀ (pins:List (Addr×Obj)) (s:Shared) (σ : St) (H:Hp) (D:Ends),Inv X pins σ H s->t D σ H->wpAny (model X.prog X.w) X.A (exec st X.env) (SP X pins D) X.xe s
def BX (X:Cx) (st:List Stmt) (t:TS):Prop :=
 ∀ (pins:List (Addr×Obj)) (s:Shared) (σ : St) (H:Hp) (D:Ends),Inv X pins σ H s->t D σ H->wpAny (model X.prog X.w) X.A (execs st X.env) (SP X pins D) X.xe s
theorem cP {α : Type} {t:Sem α} {Q Q' : α->Shared->Prop} {M:Model} {A:Around} {E:Value->Shared->Prop} {s:Shared} (h:wpAny M A t Q E s) (hQ : ∀ a s,Q a s->Q' a s):wpAny M A t Q' E s:=wpAny_mono h hQ λ _ _ x=>x
end L2
namespace L2
open PySem PySem.Spec PyProof.Rows
section
variable {X:Cx}
theorem bin {a b:Expr} {ta tb:TE} (ha:PE X a ta) (hb:PE X b tb) {pins:List (Addr×Obj)} {s:Shared} {σ : St} {H:Hp} {R:V->V->Hp->Prop} (I:Inv X pins σ H s) (h:ta σ H λ x H1=>tb σ H1 λ y H2=>R x y H2)
  {α : Type} {Q : α->Shared->Prop} {f:Value->Value->Sem α}
  (hf : ∀ v u s2 x y H2,Inv X pins σ H2 s2->RelV x v->RelV y u->R x y H2->wpAny (model X.prog X.w) X.A (f v u) Q X.xe s2) :
  wpAny (model X.prog X.w) X.A (eval a X.env) (λ v s₁ => wpAny (model X.prog X.w) X.A (eval b X.env) (λ u s₂ => wpAny (model X.prog X.w) X.A (f v u) Q X.xe s₂) X.xe s₁) X.xe s:=by
 refine cP (ha pins s σ H _ I h) λ v s1 ⟨x,H1,I1,r1,q1⟩ => ?_
 refine cP (hb pins s1 σ H1 _ I1 q1) λ u s2 ⟨y,H2,I2,r2,q2⟩ => ?_
 exact hf v u s2 x y H2 I2 r1 r2 q2
def FJ (i:Nat):TE:=fun σ H Q => ∃ v,σ[i]? = some (some v)/\Q v H
def tC (v:V):TE:=λ _ H Q=>Q v H
theorem FL {i:Nat} {x:Str} {pos:Pos} (hN:X.N[i]? = some x) (hv:RU X.env.scope x) (hd:(x == ("__debug__" : Str))=false:=by decide) (hcd:(x == ("__classdict__" : Str))=false:=by decide):PE X (.Name x pos) (FJ i):=by
 intro pins s σ H Q I h
 obtain ⟨v,e,h⟩:=h
 obtain ⟨m,hn,hl⟩:=I.loc
 obtain ⟨u,r,l⟩:=hl i x v hN e hv
 have fin:EP X pins σ Q u s:=⟨v,H,I,r,h⟩
 rcases l with ⟨hk,hm⟩ | ⟨hk,c,hc,hcell⟩
 ·exact wpAny_Name (wpAny_loadName_local I.ok.kind hk hn hm fin) hd
 ·rcases hk with hk | hk
  ·exact wpAny_Name (wpAny_loadName_cell I.ok.kind hk hc hcell fin) hd
  ·exact wpAny_Name (wpAny_loadName_free I.ok.kind hk hc hcell fin hcd) hd
theorem aj {i j pos} : PE X (.Constant (.int i) j pos) (tC (.int i)):=λ _ _ _ H _ I h=>wpAny_Constant_int ⟨.int i,H,I.tok _,⟨_,rfl⟩,h⟩
theorem bP {b j pos} : PE X (.Constant (.bool b) j pos) (tC (.bl b)):=λ _ _ _ H _ I h=>Constant_bool ⟨.bl b,H,I,rfl,h⟩
theorem bJ {j pos} : PE X (.Constant .none j pos) (tC .aM):=λ _ _ _ H _ I h=>Constant_none ⟨.aM,H,I,rfl,h⟩
theorem bV {x j pos} : PE X (.Constant (.str x) j pos) (tC (.str x)):=λ _ _ _ H _ I h=>Calls.Constant_str ⟨.str x,H,I.tok _,⟨_,rfl⟩,h⟩
def Gl (X:Cx) (x:Str):Prop:=X.env.kindOf x=some .globalImplicit
theorem vC {E:Value->Shared->Prop} {pins:List (Addr×Obj)} {s:Shared} {σ : St} {H:Hp} {x:Str} {u:Value} {pos:Pos} {Q:Value->Shared->Prop} (I:Inv X pins σ H s) (hg:Gl X x) (hm:X.mg x=some u) (h:Q u s)
  (hd:(x == ("__debug__" : Str))=false:=by decide):wpAny (model X.prog X.w) X.A (eval (.Name x pos) X.env) Q E s :=
 Calls.Name_function_global I.ok.kind hg (Calls.loadGlobal_global (by rw [I.ok.glob];exact I.mod.glob.keeps I.bk) hm h) hd
theorem BY {E:Value->Shared->Prop} {pins:List (Addr×Obj)} {s:Shared} {σ : St} {H:Hp} {x:Str} {u:Value} {pos:Pos} {Q:Value->Shared->Prop} (I:Inv X pins σ H s) (hg:Gl X x) (hm:X.mg x=none) (hv:bootBuiltins x=some u) (h:Q u s)
  (hn:x ≠ "__name__" := by decide) (hd:(x == ("__debug__" : Str))=false:=by decide):wpAny (model X.prog X.w) X.A (eval (.Name x pos) X.env) Q E s:=by
 obtain ⟨mb,h1,h2⟩:=I.mod.blt
 exact Calls.Name_function_global I.ok.kind hg (Calls.loadGlobal_builtin (by rw [I.ok.glob];exact I.mod.glob.keeps I.bk) hm (by rw [I.ok.blt];exact h1.keeps I.bk) ((h2 x hn).trans hv) h) hd
theorem fc {x:Str} {v:V} {u:Value} {pos:Pos} (hg:Gl X x) (hm:X.mg x=none) (hv:bootBuiltins x=some u) (r:RelV v u) (hn:x ≠ "__name__" := by decide) (hd:(x == ("__debug__" : Str))=false:=by decide):PE X (.Name x pos) (tC v) :=
 λ _ _ _ H _ I h=>BY I hg hm hv ⟨v,H,I,r,h⟩ hn hd
variable {a b:Expr} {ta tb:TE} {pos:Pos}
def PC (X:Cx) (op:CmpOp) (a b:Expr) (t:TE):Prop :=
 ∀ (pins:List (Addr×Obj)) (s:Shared) (σ : St) (H:Hp) (Q:VK),Inv X pins σ H s->t σ H Q →
   wpAny (model X.prog X.w) X.A (eval a X.env) (λ v s₁ => wpAny (model X.prog X.w) X.A (eval b X.env) (λ u s₂ => wpAny (model X.prog X.w) X.A (compareOp op v u) (EP X pins σ Q) X.xe s₂) X.xe s₁) X.xe s
theorem pV (b:Expr) {op:CmpOp} (h:op ≠ .In) (h2:op ≠ .NotIn):behindInMarks op b=false:=by
 have e1:(op == CmpOp.In)=false:=by cases op <;> first | rfl | exact absurd rfl h
 have e2:(op == CmpOp.NotIn)=false:=by cases op <;> first | rfl | exact absurd rfl h2
 cases b <;> simp [behindInMarks,e1,e2]
def tB (t:TE):TT:=fun σ H Q=>t σ H λ x H1 => ∃ c,x = .bl c/\Q c H1
theorem X7 {op:CmpOp} {t:TE} (h:PC X op a b t) (h1:behindInMarks op b=false:=by first | exact pV _ (by decide) (by decide) | rfl):PE X (.Compare a [op] [b] pos) t:=λ pins s σ H Q I hw=>wpAny_Compare1 (h pins s σ H Q I hw) h1
theorem Lp {op:CmpOp} {t:TE} (h:PC X op a b t) (h1:behindInMarks op b=false:=by first | exact pV _ (by decide) (by decide) | rfl):PT X (.Compare a [op] [b] pos) (tB t):=by
 intro pins s σ H Q I hw
 refine wpAny_isTrue_Compare1 (cP (h pins s σ H _ I hw) λ v s1 h1=>cP h1 λ u s2 h2=>cP h2 λ c s3 ⟨x,H1,I1,r1,q1⟩ => ?_) h1
 obtain ⟨d,rfl,q⟩:=q1
 cases r1
 exact wpAny_truthy_bool ⟨H1,I1,q⟩
theorem aZ {e:Expr} {t:TE} (h:PE X e t) (he : ∀ whole,isTrue e X.env whole=(do let v <-whole;standAt e.pos;holding [v] (truthy v)):=by intro _;rfl):PT X e (tB t):=by
 intro pins s σ H Q I hw
 refine isTrue_plain (cP (h pins s σ H _ I hw) λ v s1 ⟨x,H1,I1,r1,q1⟩ => ?_) (he _)
 obtain ⟨d,rfl,q⟩:=q1
 cases r1
 exact wpAny_truthy_bool ⟨H1,I1,q⟩
variable {tA WX:TT} {rest:List Expr}
def RX (t u:TT):TT:=fun σ H Q=>t σ H λ c H1=>if c=true then u σ H1 Q else Q false H1
def X8 (t u:TT):TT:=fun σ H Q=>t σ H λ c H1=>if c=true then Q true H1 else u σ H1 Q
def RY (t:TT):TT:=fun σ H Q=>t σ H λ c H1=>Q (!c) H1
theorem pw_and1 (ha:PT X a tA):PW X (.BoolOp .And [a] pos) tA:=by
 intro wh pins s σ H Q I h
 refine isTrue_and (cP (ha pins s σ H Q I h) λ c s1 e => ?_)
 cases c with
 | true=>exact isTrue_and_nil e
 | false=>exact e
theorem pw_or1 (ha:PT X a tA):PW X (.BoolOp .Or [a] pos) tA:=by
 intro wh pins s σ H Q I h
 refine isTrue_or (cP (ha pins s σ H Q I h) λ c s1 e => ?_)
 cases c with
 | false=>exact isTrue_or_nil e
 | true=>exact e
theorem pw_and (ha:PT X a tA) (hb:PW X (.BoolOp .And (b::rest) pos) WX):PW X (.BoolOp .And (a::b::rest) pos) (RX tA WX):=by
 intro wh pins s σ H Q I h
 refine isTrue_and (cP (ha pins s σ H _ I h) λ c s1 ⟨H1,I1,q1⟩ => ?_)
 cases c with
 | true=>exact hb wh pins s1 σ H1 Q I1 q1
 | false=>exact ⟨H1,I1,q1⟩
theorem pw_or (ha:PT X a tA) (hb:PW X (.BoolOp .Or (b::rest) pos) WX):PW X (.BoolOp .Or (a::b::rest) pos) (X8 tA WX):=by
 intro wh pins s σ H Q I h
 refine isTrue_or (cP (ha pins s σ H _ I h) λ c s1 ⟨H1,I1,q1⟩ => ?_)
 cases c with
 | true=>exact ⟨H1,I1,q1⟩
 | false=>exact hb wh pins s1 σ H1 Q I1 q1
theorem bW (ha:PT X a tA):PT X (.UnaryOp .Not a pos) (RY tA):=by
 intro pins s σ H Q I h
 exact isTrue_not (ha pins s σ H (λ c H1=>Q (!c) H1) I h)
def Lq (ta tb:TE):TE:=fun σ H Q=>ta σ H λ x H1 => ∃ c,x = .bl c/\if c=true then tb σ H1 Q else Q (.bl false) H1
def RZ (ta tb:TE):TE:=fun σ H Q=>ta σ H λ x H1 => ∃ c,x = .bl c/\if c=true then Q (.bl true) H1 else tb σ H1 Q
def Ls (ta:TE):TE:=fun σ H Q=>ta σ H λ x H1 => ∃ c,x = .bl c/\Q (.bl (!c)) H1
theorem lK {op} {t:TE} (h:PE X a t):PE X (.BoolOp op [a] pos) t:=λ pins s σ H Q I hw=>BoolOp_one (h pins s σ H Q I hw)
theorem rB (ha:PE X a ta) (hb:PE X (.BoolOp .And (b::rest) pos) tb):PE X (.BoolOp .And (a::b::rest) pos) (Lq ta tb):=by
 intro pins s σ H Q I h
 refine BoolOp_and (cP (ha pins s σ H _ I h) λ v s1 ⟨x,H1,I1,r1,q1⟩ => ?_)
 obtain ⟨c,rfl,q1⟩:=q1
 cases r1
 refine wpAny_truthy_bool ?_
 cases c with
 | true=>exact hb pins s1 σ H1 Q I1 q1
 | false=>exact ⟨.bl false,H1,I1,rfl,q1⟩
theorem Q0 (ha:PE X a ta) (hb:PE X (.BoolOp .Or (b::rest) pos) tb):PE X (.BoolOp .Or (a::b::rest) pos) (RZ ta tb):=by
 intro pins s σ H Q I h
 refine BoolOp_or (cP (ha pins s σ H _ I h) λ v s1 ⟨x,H1,I1,r1,q1⟩ => ?_)
 obtain ⟨c,rfl,q1⟩:=q1
 cases r1
 refine wpAny_truthy_bool ?_
 cases c with
 | false=>exact hb pins s1 σ H1 Q I1 q1
 | true=>exact ⟨.bl true,H1,I1,rfl,q1⟩
theorem FN (ha:PE X a ta):PE X (.UnaryOp .Not a pos) (Ls ta):=by
 intro pins s σ H Q I h
 refine UnaryOp_ (cP (ha pins s σ H _ I h) λ v s1 ⟨x,H1,I1,r1,q1⟩ => ?_)
 obtain ⟨c,rfl,q1⟩:=q1
 cases r1
 exact not_of (wpAny_truthy_bool ⟨.bl (!c),H1,I1,rfl,q1⟩)
end
end L2
namespace L2
open PySem PySem.Spec PyProof.Rows
def fj (K:PySem.W.Frag) (H:Hp) (a:Addr) (xs:List V):Prop :=
 Rd H a (.lst xs) ∨
  ∃ (o:Obj) (its:Array Value) (n:Nat),K.lookup a=some o/\o.cls = .type "list" ∧ o.dict=none/\o.data = .seq its n/\its.size<=sizeLine/\Vals xs its.toList
def Fw (K:PySem.W.Frag) (H:Hp) (a:Addr) (xs:List V):Prop :=
 Rd H a (.tup xs) ∨
  ∃ (o:Obj) (its:Array Value) (n:Nat),K.lookup a=some o/\o.cls = .type "tuple" ∧ o.data = .seq its n/\its.size<=sizeLine/\Vals xs its.toList
def Yb:Value->Option V
 | .none=>some .aM
 | .bool b=>some (.bl b)
 | .int i _=>some (.int i)
 | .str x _=>some (.str x)
 | .bytes b _=>some (.Ld b)
 | .float b _=>some (.RQ b)
 | .ref a=>some (.ref a)
 | .type n=>some (.ty n)
 | _=>none
theorem RelV.abs {x:V} {u:Value} (r:RelV x u):Yb u=some x:=by
 cases x with
 | aM=>cases r;rfl
 | bl _=>cases r;rfl
 | int _=>obtain ⟨t,rfl⟩:=r;rfl
 | str _=>obtain ⟨t,rfl⟩:=r;rfl
 | Ld _=>obtain ⟨t,rfl⟩:=r;rfl
 | RQ _=>obtain ⟨t,rfl⟩:=r;rfl
 | ref _=>cases r;rfl
 | ty _=>cases r;rfl
theorem RelV.inj {x y:V} {u:Value} (r:RelV x u) (q:RelV y u):x=y:=Option.some.inj (r.abs.symm.trans q.abs)
theorem Vals.inj : ∀ {xs ys:List V} {us:List Value},Vals xs us->Vals ys us->xs=ys
 | _,_,_,.nil,.nil=>rfl
 | _,_,_,.cons r t,.cons r' t'=>by rw [r.inj r',Vals.inj t t']
section
variable {X:Cx} {pins:List (Addr×Obj)} {σ : St} {H:Hp} {s:Shared} {a:Addr} {xs ys:List V}
theorem fj.of {K:PySem.W.Frag} (h:H a=some (.lst xs)):fj K H a xs := .inl (.inl h)
theorem Fw.of {K:PySem.W.Frag} (h:H a=some (.tup xs)):Fw K H a xs := .inl (.inl h)
theorem Inv.list (I:Inv X pins σ H s) (h:fj X.K H a xs) : ∃ its:List Value,Vals xs its/\PlainL s.heap a its.toArray/\xs.length<=sizeLine:=by
 rcases h with h | ⟨o,its,n,hk,hc,hd,hs,hz,r⟩
 ·obtain ⟨z,its,n,r,e⟩:=h.ok I.hok
  exact ⟨its,r,⟨_,n,e,rfl,rfl,rfl⟩,z⟩
 ·refine ⟨its.toList,r,⟨o,n,I.tP a o hk,hc,hd,by simpa using hs⟩,?_⟩
  have e:=r.length
  simp only [Array.length_toList] at e
  omega
theorem Inv.tuple (I:Inv X pins σ H s) (h:Fw X.K H a xs) : ∃ its:List Value,Vals xs its/\IsTup s.heap a its.toArray/\xs.length<=sizeLine:=by
 rcases h with h | ⟨o,its,n,hk,hc,hs,hz,r⟩
 ·obtain ⟨z,its,r,p⟩:=h.ok I.hok
  exact ⟨its,r,p,z⟩
 ·refine ⟨its.toList,r,⟨o,I.tP a o hk,hc,n,by simpa using hs⟩,?_⟩
  have e:=r.length
  simp only [Array.length_toList] at e
  omega
theorem Inv.Lu (I:Inv X pins σ H s) (h:fj X.K H a xs) (h':fj X.K H a ys):xs=ys:=by
 obtain ⟨its,r,⟨o,n,e,_,_,d⟩,_⟩:=I.list h
 obtain ⟨its',r',⟨o',n',e',_,_,d'⟩,_⟩:=I.list h'
 rw [e] at e';cases e'
 rw [d] at d'
 injection d' with d1 _
 have:its=its':=by simpa using congrArg Array.toList d1
 subst this
 exact r.inj r'
end
abbrev Cx.lM (X:Cx) (E:Value->Shared->Prop):Cx := { X with xe:=E }
abbrev Cx.Fx (X:Cx):Cx:=X.lM λ _ _=>False
theorem Cx.Ok.lM {X:Cx} (ok:X.Ok) (E:Value->Shared->Prop):(X.lM E).Ok :=
 ⟨ok.mod,ok.kind,ok.glob,ok.blt,ok.above,ok.inj,ok.has,ok.RV,ok.hd,ok.frames,ok.stk,ok.WW,ok.bs,ok.Le,ok.FI,ok.Jc,ok.pU,ok.OU⟩
theorem Cx.Ok.gJ {X:Cx} {E:Value->Shared->Prop} (ok:(X.lM E).Ok):X.Ok :=
 ⟨ok.mod,ok.kind,ok.glob,ok.blt,ok.above,ok.inj,ok.has,ok.RV,ok.hd,ok.frames,ok.stk,ok.WW,ok.bs,ok.Le,ok.FI,ok.Jc,ok.pU,ok.OU⟩
section
variable {X:Cx} {pins:List (Addr×Obj)} {σ : St} {H:Hp} {s:Shared} {E:Value->Shared->Prop}
theorem Inv.lM (I:Inv X pins σ H s) (E:Value->Shared->Prop):Inv (X.lM E) pins σ H s:=⟨I.ok.lM E,I.os,I.bare,I.base,I.loc,I.cell,I.free,I.lJ,I.pin,I.hok,I.len⟩
theorem Inv.gJ (I:Inv (X.lM E) pins σ H s):Inv X pins σ H s:=⟨I.ok.gJ,I.os,I.bare,I.base,I.loc,I.cell,I.free,I.lJ,I.pin,I.hok,I.len⟩
theorem SP.gJ {D:Ends} {f:Flow} {s':Shared} (h:SP (X.lM E) pins D f s'):SP X pins D f s':=by
 cases f with
 | next=>obtain ⟨σ',H',I,q⟩:=h;exact ⟨σ',H',I.gJ,q⟩
 | brk=>obtain ⟨σ',H',I,q⟩:=h;exact ⟨σ',H',I.gJ,q⟩
 | cont=>obtain ⟨σ',H',I,q⟩:=h;exact ⟨σ',H',I.gJ,q⟩
 | ret u=>obtain ⟨v,σ',H',I,r,q⟩:=h;exact ⟨v,σ',H',I.gJ,r,q⟩
theorem PE.Fx {e:Expr} {t:TE} (h:PE X.Fx e t):PE X e t:=λ pins s σ H Q I hw =>
 wpAny_mono (h pins s σ H Q (I.lM _) hw) (λ _ _ ⟨v,H',I',r,q⟩=>⟨v,H',I'.gJ,r,q⟩) λ _ _ z=>False.elim z
theorem PT.Fx {e:Expr} {t:TT} (h:PT X.Fx e t):PT X e t:=λ pins s σ H Q I hw =>
 wpAny_mono (h pins s σ H Q (I.lM _) hw) (λ _ _ ⟨H',I',q⟩=>⟨H',I'.gJ,q⟩) λ _ _ z=>False.elim z
theorem BX.Fx {st:List Stmt} {t:TS} (h:BX X.Fx st t):BX X st t:=λ pins s σ H D I hw =>
 wpAny_mono (h pins s σ H D (I.lM _) hw) (λ _ _ q=>q.gJ) λ _ _ z=>False.elim z
end
section
variable {X:Cx} {st:Stmt} {rest:List Stmt} {t u:TS} {e:Expr} {te:TE} {pos:Pos}
def HR:TS:=λ D σ H=>D.nx σ H
def Lv (t u:TS):TS:=λ D σ H=>t { D with nx:=u D } σ H
theorem aF:BX X [] HR:=λ _ _ σ H _ I h=>wpAny_execs_nil ⟨σ,H,I,h⟩
theorem af (h1:PS X st t) (h2:BX X rest u):BX X (st::rest) (Lv t u):=by
 intro pins s σ H D I h
 refine wpAny_execs_cons (cP (h1 pins s σ H { D with nx:=u D } I h) λ f s1 q => ?_)
 cases f with
 | next =>
   obtain ⟨σ',H',I',q⟩:=q
   exact h2 pins s1 σ' H' D I' q
 | ret v=>exact q
 | brk=>exact q
 | cont=>exact q
theorem ao (h1:PS X st t):BX X [st] t:=by
 intro pins s σ H D I h
 refine wpAny_execs_cons (cP (h1 pins s σ H D I h) λ f s1 q => ?_)
 cases f with
 | next=>exact wpAny_execs_nil q
 | ret v=>exact q
 | brk=>exact q
 | cont=>exact q
theorem Inv.quiet {pins:List (Addr×Obj)} {σ : St} {H:Hp} {s:Shared} (I:Inv X pins σ H s):interactive X.env=false:=by simp [interactive,I.ok.kind]
def Ly (te:TE):TS:=λ D σ H=>te σ H λ _ H1=>D.nx σ H1
theorem cM (he:PE X e te) (hs:swapsWith e none pos.line X.env=pure false:=by rfl):PS X (.Expr e pos) (Ly te):=by
 intro pins s σ H D I h
 exact wpAny_Expr_any (cP (he pins s σ H _ I h) λ v s1 ⟨x,H1,I1,r1,q1⟩=>⟨σ,H1,I1,q1⟩) I.quiet hs
def OV (te:TE):TS:=λ D σ H=>te σ H D.rt
theorem aE (he:PE X e te):PS X (.Return (some e) pos) (OV te):=by
 intro pins s σ H D I h
 exact wpAny_Return_some (cP (he pins s σ H _ I h) λ v s1 ⟨x,H1,I1,r1,q1⟩=>⟨x,σ,H1,I1,r1,q1⟩)
def Lz (c:TT) (t u:TS):TS:=λ D σ H=>c σ H λ b H1=>if b=true then t D σ H1 else u D σ H1
theorem aS {c:Expr} {a b:List Stmt} {tc:TT} (hc:PT X c tc) (ha:BX X a t) (hb:BX X b u):PS X (.If c a b pos) (Lz tc t u):=by
 intro pins s σ H D I h
 refine wpAny_If (cP (hc pins s σ H _ I h) λ d s1 ⟨H1,I1,q1⟩ => ?_)
 cases d with
 | true=>exact ha pins s1 σ H1 D I1 q1
 | false=>exact hb pins s1 σ H1 D I1 q1
end
abbrev TG:=V->St->Hp->(St->Hp->Prop)->Prop
abbrev R0:=List V->St->Hp->(St->Hp->Prop)->Prop
def PG (X:Cx) (target:Expr) (t:TG):Prop :=
 ∀ (pins:List (Addr×Obj)) (s:Shared) (σ : St) (H:Hp) (v:V) (u:Value) (Q:St->Hp->Prop),Inv X pins σ H s->RelV v u->t v σ H Q →
   wpAny (model X.prog X.w) X.A (assign target X.env u) (λ _ s' => ∃ σ' H',Inv X pins σ' H' s'/\Q σ' H') X.xe s
def WY (X:Cx) (ts:List Expr) (t:R0):Prop :=
 ∀ (pins:List (Addr×Obj)) (s:Shared) (σ : St) (H:Hp) (vs:List V) (us:List Value) (Q:St->Hp->Prop),Inv X pins σ H s->Vals vs us->t vs σ H Q →
   wpAny (model X.prog X.w) X.A (assignInOrder ((assignEach ts X.env).map (·.2)) us) (λ _ s' => ∃ σ' H',Inv X pins σ' H' s'/\Q σ' H') X.xe s
abbrev LA:=V->V->V->Hp->(Hp->Prop)->Prop
def UR (X:Cx) (t:LA):Prop :=
 ∀ (pins:List (Addr×Obj)) (s:Shared) (σ : St) (H:Hp) (o i v:V) (ov iv u:Value) (Q:Hp->Prop),Inv X pins σ H s->RelV o ov->RelV i iv->RelV v u->t o i v H Q →
   wpAny (model X.prog X.w) X.A (setItem ov iv u) (λ _ s' => ∃ H',Inv X pins σ H' s'/\Q H') X.xe s
section
variable {X:Cx} {pos:Pos}
def tQ (i:Nat):TG:=λ v σ H Q=>Q (σ.set i (some v)) H
theorem d9 {i:Nat} {x:Str} (hN:X.N.Nodup) (hi:X.N[i]? = some x) (hx:Loc X.env.scope x) (hf:X.fn x=true\/X.env.scope.names.lookup x=some .local:=by first | exact .inl rfl | exact .inr rfl | assumption):PG X (.Name x pos) (tQ i):=by
 intro pins s σ H v u Q I r h
 exact wpAny_assign_Name (vQ I hN hi hx r (λ s' I'=>⟨_,H,I',h⟩) hf)
def US:R0:=λ vs σ H Q=>vs = []/\Q σ H
def LB (t:TG) (u:R0):R0:=λ vs σ H Q => ∃ v r,vs=v::r/\t v σ H fun σ' H'=>u r σ' H' Q
theorem OW:WY X [] US:=by
 intro pins s σ H vs us Q I r h
 obtain ⟨e,h⟩:=h
 subst e
 cases r
 exact assignInOrder_nil ⟨σ,H,I,h⟩
theorem DZ {e:Expr} {es:List Expr} {t:TG} {u:R0} (h1:PG X e t) (h2:WY X es u)
  (hs:(assignEach (e::es) X.env).map (·.2)=assign e X.env::(assignEach es X.env).map (·.2):=by rfl):WY X (e::es) (LB t u):=by
 intro pins s σ H vs us Q I r h
 obtain ⟨v,vr,e1,h⟩:=h
 subst e1
 cases r with
 | cons r rr =>
   rw [hs]
   refine assignInOrder_cons (cP (h1 pins s σ H _ _ _ I r h) λ _ s1 ⟨σ1,H1,I1,q1⟩ => ?_)
   exact h2 pins s1 σ1 H1 _ _ Q I1 rr q1
def UT (K:PySem.W.Frag) (n:Nat) (t:R0):TG:=λ v σ H Q => ∃ a xs,v = .ref a/\Fw K H a xs/\xs.length=n/\t xs σ H Q
theorem R1 {es:List Expr} {k:Nat} {t:R0} {n:Nat} (hc:X.calm=true) (h:WY X es t)
  (hn:(assignEach es X.env).length=n:=by rfl) (hst:(assignEach es X.env).findIdx? (·.1)=none:=by rfl):PG X (.Tuple es k pos) (UT X.K n t):=by
 intro pins s σ H v u Q I r hw
 obtain ⟨a,xs,e1,hq,hl,hw⟩:=hw
 subst e1
 cases r
 obtain ⟨its,rv,ht,hz⟩:=I.tuple hq
 refine assign_Tuple_tuple (I.ok.hd hc) ht (by simp [hn,<-hl,rv.length]) hst λ h' hx => ?_
 have I1:Inv X pins σ H { s with heap:=h' } := I.kept (t':=s.toks) λ b o e=>hx b o (Nat.ne_of_lt (Heap.lt_size e)) e
 exact h pins _ σ H xs _ Q I1 (by simpa using rv) hw
def R4 (to ti:TE) (t:LA):TG:=λ v σ H Q=>to σ H λ o H1=>ti σ H1 λ i H2=>t o i v H2 λ H3=>Q σ H3
theorem bG {o i:Expr} {to ti:TE} {t:LA} (ho:PE X o to) (hi:PE X i ti) (hs:UR X t)
  (ha : ∀ v,assign (.Subscript o i pos) X.env v=(do
   let ov <-holding [v] (eval o X.env)
   let iv <-holding [v,ov] (eval i X.env)
   standAt pos
   holding [v,ov,iv] (setItem ov iv v)
   release [v,ov,iv] []):=by intro _;rfl):PG X (.Subscript o i pos) (R4 to ti t):=by
 intro pins s σ H v u Q I r h
 rw [ha]
 refine wpAny_bind (wpAny_holding (cP (ho pins s σ H _ I h) λ ov s1 ⟨x,H1,I1,r1,q1⟩ => ?_))
 refine wpAny_bind (wpAny_holding (cP (hi pins s1 σ H1 _ I1 q1) λ iv s2 ⟨y,H2,I2,r2,q2⟩ => ?_))
 refine wpAny_bind (wpAny_standAt (wpAny_bind (wpAny_holding (cP (hs pins s2 σ H2 x y v ov iv u _ I2 r1 r2 r q2) λ _ s3 ⟨H3,I3,q3⟩ => ?_))))
 exact wpAny_release ⟨σ,H3,I3,q3⟩
def LC (te:TE) (g:TG):TS:=λ D σ H=>te σ H λ x H1=>g x σ H1 D.nx
theorem bF {tg e:Expr} {te:TE} {g:TG} (he:PE X e te) (hg:PG X tg g) (hs:swapsWithSole [tg] e pos.line X.env=pure false:=by rfl) (hw:swappedStores [tg] e X.env=pure none:=by rfl)
  (h1:(assignEach [tg] X.env).map (·.2) = [assign tg X.env]:=by rfl):PS X (.Assign [tg] e pos) (LC te g):=by
 intro pins s σ H D I h
 refine wpAny_Assign_stores (cP (he pins s σ H _ I h) λ v s1 ⟨x,H1,I1,r1,q1⟩ => ?_) hs hw
 rw [h1]
 exact cP (hg pins s1 σ H1 x v _ I1 r1 q1) λ _ s2 q=>q
theorem aI {i:Nat} {x:Str} {e:Expr} {te:TE} {pos':Pos} (hN:X.N.Nodup) (hi:X.N[i]? = some x) (hx:Loc X.env.scope x) (he:PE X e te) (hs:swapsWith e (some (.Name x pos')) pos.line X.env=pure false:=by rfl) (hf:X.fn x=true\/X.env.scope.names.lookup x=some .local:=by first | exact .inl rfl | exact .inr rfl | assumption) :
  PS X (.Assign [.Name x pos'] e pos) (LC te (tQ i)):=by
 intro pins s σ H D I h
 refine wpAny_Assign_Name (cP (he pins s σ H _ I h) λ v s1 ⟨y,H1,I1,r1,q1⟩ => ?_) hs
 exact vQ I1 hN hi hx r1 (λ s2 I2=>⟨_,H1,I2,q1⟩) hf
end
section
variable {X:Cx} {pos:Pos}
end
structure It where
 go:Nat->Hp->Prop
 OX:Nat->Hp->V->Hp->Prop
 stop:Nat->Hp->Prop
def pW (X:Cx) (pins:List (Addr×Obj)) (H:Hp) (b:Addr):Prop :=
 H b=none/\b≠X.env.locals/\b ∉ X.fs/\(b∈X.ex\/X.s₀.heap.objs.size<=b)/\(∀ x c,X.env.cells.lookup x=some c->c≠b) ∧ ∀ p∈X.pn++pins,p.1≠b
theorem Inv.UU {X:Cx} {pins:List (Addr×Obj)} {σ : St} {H H':Hp} {s:Shared} {b:Addr} (I:Inv X pins σ H s) (hb:s.heap.objs.size<=b) (hn:H' b=none):pW X pins H' b:=by
 refine ⟨hn,Nat.ne_of_gt (Nat.lt_of_lt_of_le I.lt hb),I.X4 hb,.inr (Nat.le_trans I.sz hb),λ x c e z => ?_,λ p hp z => ?_⟩
 ·obtain ⟨v,q⟩:=I.cell x c e
  exact absurd (Nat.lt_of_lt_of_le q.lt (by rw [z];exact hb)) (Nat.lt_irrefl _)
 ·exact absurd (Nat.lt_of_lt_of_le (Heap.lt_size (I.pin p hp).1) (by rw [z];exact hb)) (Nat.lt_irrefl _)
structure Turn (P:Program) (w:World) (K:PySem.W.Frag) (tg:Expr) (J:It) (fp:List Addr) (it:Addr) (tn:Nat->Heap->Prop):Prop where
 mem:it∈fp
 obj : ∀ i h,tn i h->∀ b∈fp,∃ o,h.get? b=some o ∧ ∀ v,o.data ≠ .cell v
 keep : ∀ i h h',tn i h->(∀ b∈fp,∀ o,h.get? b=some o->h'.get? b=some o)->tn i h'
 item : ∀ (X:Cx),X.prog=P->X.w=w->X.K=K->X.calm=true->∀ (i:Nat) (pins:List (Addr×Obj)) (s:Shared) (σ : St) (H:Hp) (E:Value->Shared->Prop),Inv X pins σ H s->(∀ b∈fp,pW X pins H b)->tn i s.heap->J.go i H →
  wpAny (model P w) X.A (pyNext (.ref it)) (λ r s1 => ∃ u,r=some u ∧
   wpAny (model P w) X.A (letOwnedTupleGo tg (.ref it) u) (λ _ s2 => ∃ x H',Inv X pins σ H' s2/\RelV x u/\J.OX i H x H'/\tn (i+1) s2.heap ∧ ∀ b∈fp,H' b=none) E s1) E s
 done : ∀ (X:Cx),X.prog=P->X.w=w->X.K=K->X.calm=true->∀ (i:Nat) (pins:List (Addr×Obj)) (s:Shared) (σ : St) (H:Hp) (E:Value->Shared->Prop),Inv X pins σ H s->(∀ b∈fp,pW X pins H b)->tn i s.heap->J.stop i H →
  wpAny (model P w) X.A (pyNext (.ref it)) (λ r s1=>r=none/\Inv X pins σ H s1) E s
 self : ∀ (A:Around) (i:Nat) (s:Shared) (Q:Value->Shared->Prop) (E:Value->Shared->Prop),tn i s.heap->Q (.ref it) s->wpAny (model P w) A (pyIter (.ref it)) Q E s
abbrev TI:=St->Hp->(It->Hp->Prop)->Prop
def PIE (X:Cx) (pins:List (Addr×Obj)) (σ : St) (tg:Expr) (R:It->Hp->Prop) (itv:Value) (s2:Shared):Prop :=
 ∃ (it:Addr) (fp:List Addr) (tn:Nat->Heap->Prop) (J:It) (H':Hp),itv = .ref it/\Inv X pins σ H' s2/\Turn X.prog X.w X.K tg J fp it tn/\tn 0 s2.heap/\(∀ b∈fp,pW X pins H' b)/\R J H'
def PI (X:Cx) (tg iter:Expr) (wi:TI):Prop :=
 ∀ (pins:List (Addr×Obj)) (s:Shared) (σ : St) (H:Hp) (R:It->Hp->Prop),Inv X pins σ H s->wi σ H R →
   wpAny (model X.prog X.w) X.A (eval iter X.env) (λ v s1=>wpAny (model X.prog X.w) X.A (pyIter v) (PIE X pins σ tg R) X.xe s1) X.xe s
theorem Q2 {M:Model} {A:Around} {E:Value->Shared->Prop} {s:Shared} {tg:Expr} {it:Addr} {u:Value} {o:Obj} {n:String} {vs:Array Value} {Q:Unit->Shared->Prop} (ho:s.heap.get? it=some o) (hc:o.cls = .type n) (hd:o.data = .fields vs)
  (hn:["enumerate","zip","dict_itemiterator","dict_reverseitemiterator","odict_iterator","itertools.zip_longest","itertools.pairwise"].contains n=false) (hQ:Q () s):wpAny M A (letOwnedTupleGo tg (.ref it) u) Q E s:=by
 unfold letOwnedTupleGo
 cases tg <;> first
  | exact wpAny_pure hQ
  | (cases u <;> first
    | exact wpAny_pure hQ
    | (refine wpAny_bind (wpAny_load ho ?_)
       rw [hc,hd]
       show wpAny M A (if (["enumerate","zip","dict_itemiterator","dict_reverseitemiterator","odict_iterator","itertools.zip_longest","itertools.pairwise"].contains n && vs[0]? == some (rawInt _))=true then _ else _) Q E s
       rw [if_neg (by intro h;rw [hn,Bool.false_and] at h;cases h)]
       exact wpAny_pure hQ))
def Lf (K:PySem.W.Frag) (a:Addr):It :=
 ⟨λ i H => ∃ xs x,fj K H a xs/\xs[i]? = some x,λ i H x H'=>H' = H ∧ ∀ xs,fj K H a xs->xs[i]? = some x,λ i H => ∃ xs,fj K H a xs/\xs.length<=i⟩
def Jd (lo:Int) (n:Nat):It:=⟨λ i _=>i < n,λ i H x H'=>H' = H/\x = .int (lo+i),λ i _=>n<=i⟩
theorem Je {P:Program} {w:World} {K:PySem.W.Frag} {tg:Expr} (a it:Addr):Turn P w K tg (Lf K a) [it] it (λ i h=>h.IsListIter it a i) where
 mem:=by simp
 obj:=λ i h st b hb=>by
  have e:b=it:=by simpa using hb
  subst e
  obtain ⟨o,e,c,d⟩:=st
  exact ⟨o,e,λ v z=>by rw [d] at z;cases z⟩
 keep:=λ i h h' st k=>st.at λ o e=>k it (by simp) o e
 item:=by
  intro X hP hw hK hc i pins s σ H E I hf st hg
  subst hP hw hK
  obtain ⟨xs,x,hq,hx⟩:=hg
  obtain ⟨its,rv,p,hz⟩:=I.list hq
  obtain ⟨u,hu,ru⟩:=rv.get hx
  obtain ⟨f0,f1,f2,f3,f4,f5⟩:=hf it (by simp)
  refine wpAny_pyNext_list_item st p.isList (x:=u) (by simpa using hu) λ h' st' sb => ?_
  have I1:Inv X pins σ H { s with heap:=h' } := I.turned (t':=s.toks) (λ b o hb e=>(sb.2 b hb).trans e) f0 f1 f3 f4 f5
  obtain ⟨o,e,c,d⟩:=id st'
  exact ⟨u,rfl,Q2 (s := { s with heap:=h' }) e c d (by decide) ⟨x,H,I1,ru,⟨rfl,λ ys hy=>by rw [I.Lu hy hq];exact hx⟩,st',λ b hb=>(hf b hb).1⟩⟩
 done:=by
  intro X hP hw hK hc i pins s σ H E I hf st hg
  subst hP hw hK
  obtain ⟨xs,hq,hx⟩:=hg
  obtain ⟨its,rv,p,hz⟩:=I.list hq
  obtain ⟨f0,f1,f2,f3,f4,f5⟩:=hf it (by simp)
  have hl:=rv.length
  exact wpAny_pyNext_list_end (I.ok.hd hc) st p.isList (by simp;omega) λ h' eb=>⟨rfl,I.turned (t':=s.toks) (λ b o hb e=>eb b o hb e) f0 f1 f3 f4 f5⟩
 self:=λ _ _ _ _ _ st h=>wpAny_pyIter_listiter st h
theorem FO {P:Program} {w:World} {K:PySem.W.Frag} {tg:Expr} (it:Addr) (lo:Int) (n:Nat):Turn P w K tg (Jd lo n) [it] it (λ i h=>IsRangeIter h it (lo+(i:Nat) * 1) ((n:Int) - (i:Nat)) 1) where
 mem:=by simp
 obj:=λ i h st b hb=>by
  have e:b=it:=by simpa using hb
  subst e
  exact ⟨_,st,λ v z=>by
   have z':Data.fields _=Data.cell v:=z
   cases z'⟩
 keep:=λ i h h' st k=>k it (by simp) _ st
 item:=by
  intro X hP hw hK hc i pins s σ H E I hf st hg
  subst hP hw hK
  obtain ⟨f0,f1,f2,f3,f4,f5⟩:=hf it (by simp)
  have W:=Walks.range (prog:=X.prog) (w:=X.w) (I.ok.hd hc) it lo 1 n
  refine W.item i s _ _ hg st λ v h' tk hv st' kk => ?_
  obtain ⟨t,rfl⟩:=hv
  have I1:Inv X pins σ H { s with heap:=h',toks:=tk } := I.turned (λ b o hb e=>kk b o (by simpa using hb) e) f0 f1 f3 f4 f5
  refine ⟨_,rfl,Q2 (s := { s with heap:=h',toks:=tk }) (n := "range_iterator") st' rfl rfl (by decide) ⟨.int (lo+i),H,I1,⟨t,?_⟩,⟨rfl,rfl⟩,st',λ b hb=>(hf b hb).1⟩⟩
  rw [Int.mul_one]
 done:=by
  intro X hP hw hK hc i pins s σ H E I hf st hg
  subst hP hw hK
  obtain ⟨f0,f1,f2,f3,f4,f5⟩:=hf it (by simp)
  exact wpAny_pyNext_range_end (I.ok.hd hc) st (by have:n<=i:=hg;omega) λ h' eb=>⟨rfl,I.turned (t':=s.toks) (λ b o hb e=>eb b o hb e) f0 f1 f3 f4 f5⟩
 self:=λ _ _ _ _ _ st h=>wpAny_pyIter_rangeiter st h
end L2
namespace L2
open PySem PySem.Spec PyProof.Rows
section
variable {X:Cx} {tg:Expr}
def LD (K:PySem.W.Frag) (tl:TE):TI:=fun σ H R=>tl σ H λ x H1 => ∃ a,x = .ref a/\(∃ xs,fj K H1 a xs)/\R (Lf K a) H1
theorem fK {l:Expr} {tl:TE} (hl:PE X l tl):PI X tg l (LD X.K tl):=by
 intro pins s σ H R I h
 refine cP (hl pins s σ H _ I h) λ v s1 ⟨x,H1,I1,r1,q1⟩ => ?_
 obtain ⟨a,e,⟨xs,hq⟩,q⟩:=q1
 subst e
 cases r1
 obtain ⟨its,rv,p,hz⟩:=I1.list hq
 refine wpAny_pyIter_list p.isList ?_
 refine ⟨s1.heap.objs.size,[s1.heap.objs.size],_,_,H1,rfl,I1.kept (t':=s1.toks) λ b o e=>Heap.get?_push_of_some _ e,Je a _,⟨_,Heap.get?_push_size _ rfl,rfl,rfl⟩,λ b hb => ?_,q⟩
 have e:b=s1.heap.objs.size:=by simpa using hb
 subst e
 exact I1.UU (Nat.le_refl _) (I1.hok.fresh (Nat.le_refl _))
theorem LF {pins:List (Addr×Obj)} {σ : St} {H:Hp} {s:Shared} {R:It->Hp->Prop} {E:Value->Shared->Prop} {lo hi:Int} {t u v:Tok} {tk:Nat} (I:Inv X pins σ H s) (h1 : -(2 ^ 62)<=lo) (h2:lo < 2 ^ 62) (h3 : -(2 ^ 62)<=hi) (h4:hi < 2 ^ 62)
  (q:R (Jd lo (hi - lo).toNat) H):wpAny (model X.prog X.w) X.A (pyIter (.ref s.heap.objs.size)) (PIE X pins σ tg R) E { s with heap:=s.heap.push { cls := .type "range",data := .fields #[.int lo t,.int hi u,.int 1 v] },toks:=tk } := by
 refine wpAny_pyIter_range (IsRange.new ..) (small_one h1 h2 h3 h4) ?_
 have I1:Inv X pins σ H { s with heap:=s.heap.push { cls := .type "range",data := .fields #[.int lo t,.int hi u,.int 1 v] },toks:=tk } := I.kept λ b o e=>Heap.get?_push_of_some _ e
 refine ⟨(s.heap.push { cls := .type "range",data := .fields #[.int lo t,.int hi u,.int 1 v] }).objs.size,[(s.heap.push { cls := .type "range",data := .fields #[.int lo t,.int hi u,.int 1 v] }).objs.size],_,_,H,rfl,
  I1.kept (t':=tk) λ b o e=>Heap.get?_push_of_some _ e,FO _ lo (hi - lo).toNat,?_,λ b hb => ?_,q⟩
 ·have e1:lo+((0:Nat):Int) * 1=lo:=by simp
  have e2:(((hi - lo).toNat:Nat):Int) - ((0:Nat):Int)=Builtin.Range.rangeSize lo hi 1:=by rw [rangeSize_one];split <;> omega
  show IsRangeIter _ _ (lo+((0:Nat):Int) * 1) ((((hi - lo).toNat:Nat):Int) - ((0:Nat):Int)) 1
  rw [e1,e2]
  exact Heap.get?_push_size _ rfl
 ·have e:b=(s.heap.push { cls := .type "range",data := .fields #[.int lo t,.int hi u,.int 1 v] }).objs.size:=by simpa using hb
  subst e
  exact I1.UU (Nat.le_refl _) (I1.hok.fresh (Nat.le_refl _))
def LG (ta:TA):TI:=fun σ H R=>ta σ H λ vs H1 => ∃ j:Int,vs = [.int j] ∧ -(2 ^ 62)<=j/\j < 2 ^ 62/\R (Jd 0 j.toNat) H1
theorem ck {a:Expr} {ta:TA} {p pos:Pos} (hg:Gl X "range") (hm:X.mg "range" = none) (ha:PA X [a] ta) (hs:starEach [a] X.env = [(false,eval a X.env)]:=by rfl):PI X tg (.Call (.Name "range" p) [a] [] pos) (LG ta):=by
 intro pins s σ H R I h
 refine Call_ (BY I hg hm boot_range (PyProof.Rows.callWith_type1 (cP (ha pos pins s σ H _ I h) λ us s1 ⟨vs,H1,I1,r1,q1⟩ => ?_) hs rfl))
 obtain ⟨j,e,q1,q2,q⟩:=q1
 subst e
 cases r1 with
 | cons r rr =>
   cases rr
   obtain ⟨t,rfl⟩:=r
   exact call_range_1 (LF I1 (by omega) (by omega) q1 q2 (by simpa using q))
def R6 (wi:TI) (g:TG) (tb:TS):TS:=λ D σ H=>wi σ H λ J H1 => ∃ W:Nat->Nat->St->Hp->Prop,(∃ m,W 0 m σ H1) ∧ ∀ i m σ H,W i m σ H →
 (J.stop i H/\D.nx σ H)\/(J.go i H ∧ ∃ N:St->Hp->Prop,(∀ σ' H',N σ' H'->∃ m',m' < m/\W (i+1) m' σ' H') ∧ ∀ x H',J.OX i H x H'->g x σ H' fun σ2 H2=>tb { D with nx:=N,ct:=N,bk:=D.nx } σ2 H2)
def vR (fp:List Addr) (h:Heap):List (Addr×Obj):=fp.filterMap λ b=>(h.get? b).map λ o=>(b,o)
theorem j7 {fp:List Addr} {h:Heap} {b:Addr} {o:Obj} (hb:b∈fp) (e:h.get? b=some o):(b,o)∈vR fp h:=List.mem_filterMap.mpr ⟨b,hb,by rw [e];rfl⟩
theorem Jf {fp:List Addr} {h:Heap} {p:Addr×Obj} (hp:p∈vR fp h):p.1∈fp/\h.get? p.1=some p.2:=by
 obtain ⟨b,hb,e⟩:=List.mem_filterMap.mp hp
 cases q:h.get? b with
 | none=>rw [q] at e;cases e
 | some o =>
   rw [q] at e
   have e':(b,o)=p:=Option.some.inj e
   subst e'
   exact ⟨hb,q⟩
theorem Inv.pinned {pins:List (Addr×Obj)} {σ : St} {H:Hp} {s:Shared} {fp:List Addr} (I:Inv X pins σ H s) (hf : ∀ b∈fp,pW X pins H b) (ho : ∀ b∈fp,∃ o,s.heap.get? b=some o ∧ ∀ v,o.data ≠ .cell v):Inv X (pins++vR fp s.heap) σ H s :=
 I.HQ λ p hp=>(List.mem_append.mp hp).elim (λ z=>I.pin p (List.mem_append_right _ z)) λ z=>by
  obtain ⟨hb,e⟩:=Jf z
  obtain ⟨f0,f1,f2,_⟩:=hf p.1 hb
  obtain ⟨o,e',d⟩:=ho p.1 hb
  rw [e] at e';cases e'
  exact ⟨e,f0,f1,f2,d⟩
theorem Inv.pX {pins pl:List (Addr×Obj)} {σ : St} {H:Hp} {s:Shared} (I:Inv X (pins++pl) σ H s):Inv X pins σ H s:=I.HQ λ p hp=>I.pin p (List.mem_append_right _ (List.mem_append_left _ hp))
theorem iD {iter:Expr} {body:List Stmt} {wi:TI} {g:TG} {tb:TS} {pos:Pos} (hp:PassesOwn (model X.prog X.w) X.A X.env X.xe) (hc:X.calm=true) (hi:PI X tg iter wi) (hg:PG X tg g) (hb:BX X body tb)
  (hs : ∀ x,foldedSetIterable iter X.env x=pure x:=by intro _;rfl):PS X (.For tg iter body [] pos) (R6 wi g tb):=by
 intro pins s σ H D I h
 refine wpAny_For (cP (hi pins s σ H _ I h) λ v s1 h1=>cP h1 λ itv s2 h2 => ?_) hs
 obtain ⟨it,fp,tn,J,H2,e,I2,T,st2,f2,W,⟨m0,w0⟩,turn⟩:=h2
 subst e
 -- what stays true of OG R7 objects through OG loop
 have stat : ∀ {H':Hp},(∀ b∈fp,H' b=none)->∀ b∈fp,pW X pins H' b:=λ hn b hb=>⟨hn b hb,(f2 b hb).2⟩
 refine codeAny_forLoop_any (λ n s' => ∃ i σ' H',Inv X pins σ' H' s'/\tn i s'.heap/\(∀ b∈fp,H' b=none)/\W i n σ' H') ?_ m0 ⟨0,σ,H2,I2,st2,λ b hb=>(f2 b hb).1,w0⟩
 rintro n s3 ⟨i,σ3,H3,I3,st3,fr3,w3⟩
 rcases turn i n σ3 H3 w3 with ⟨stop,qn⟩ | ⟨go,N,hN,step⟩
 ·refine wpAny_passesOwn hp (cP (T.done X rfl rfl rfl hc i pins s3 σ3 H3 X.xe I3 (stat fr3) st3 stop) λ r s4 ⟨hr,I4⟩ => ?_)
  subst hr
  exact wpAny_execs_nil ⟨σ3,H3,I4,qn⟩
 ·refine wpAny_passesOwn hp (cP (T.item X rfl rfl rfl hc i pins s3 σ3 H3 X.xe I3 (stat fr3) st3 go) λ r s4 ⟨u,hr,h4⟩ => ?_)
  subst hr
  refine wpAny_passesOwn hp (cP h4 λ _ s5 ⟨x,H5,I5,r5,y5,Uw,WZ⟩ => ?_)
  have I5':=I5.pinned (stat WZ) (T.obj _ _ Uw)
  refine wpAny_passesOwn hp (cP (hg _ s5 σ3 H5 x u _ I5' r5 (step x H5 y5)) λ _ s6 ⟨σ6,H6,I6,q6⟩ => ?_)
  refine wpAny_passesOwn hp (cP (hb _ s6 σ6 H6 _ I6 q6) λ f s7 q7 => ?_)
  have again : ∀ {σ7:St} {H7:Hp},Inv X (pins++vR fp s5.heap) σ7 H7 s7->N σ7 H7->∃ m,m < n ∧ ∃ i σ' H',Inv X pins σ' H' s7/\tn i s7.heap/\(∀ b∈fp,H' b=none)/\W i m σ' H':=fun {σ7 H7} I7 n7=>by
   obtain ⟨m',hm,w7⟩:=hN σ7 H7 n7
   refine ⟨m',hm,i+1,σ7,H7,I7.pX,T.keep _ _ _ Uw λ b hb o e=>(I7.pin (b,o) (List.mem_append_right _ (List.mem_append_right _ (j7 hb e)))).1,λ b hb => ?_,w7⟩
   obtain ⟨o,e,d⟩:=T.obj _ _ Uw b hb
   exact (I7.pin (b,o) (List.mem_append_right _ (List.mem_append_right _ (j7 hb e)))).2.1
  cases f with
  | next=>obtain ⟨σ7,H7,I7,n7⟩:=q7;exact again I7 n7
  | cont=>obtain ⟨σ7,H7,I7,n7⟩:=q7;exact again I7 n7
  | brk=>obtain ⟨σ7,H7,I7,q7⟩:=q7;exact ⟨σ7,H7,I7.pX,q7⟩
  | ret v=>obtain ⟨x7,σ7,H7,I7,r7,q7⟩:=q7;exact ⟨x7,σ7,H7,I7.pX,r7,q7⟩
end
theorem LH {K:PySem.W.Frag} {a:Addr} {xs:List V} {g:TG} {tb:TS} {D:Ends} {σ : St} {H:Hp} (Pv:Nat->St->Hp->Prop) (h0:Pv 0 σ H) (hl : ∀ i σ H,i<=xs.length->Pv i σ H->fj K H a xs)
  (hs : ∀ i x σ H,xs[i]? = some x->Pv i σ H->g x σ H fun σ2 H2=>tb { D with nx:=Pv (i+1),ct:=Pv (i+1),bk:=D.nx } σ2 H2) (hd : ∀ σ H,Pv xs.length σ H->D.nx σ H) :
  ∃ W:Nat->Nat->St->Hp->Prop,(∃ m,W 0 m σ H) ∧ ∀ i m σ H,W i m σ H →
    ((Lf K a).stop i H/\D.nx σ H)\/((Lf K a).go i H ∧ ∃ N:St->Hp->Prop,(∀ σ' H',N σ' H'->∃ m',m' < m/\W (i+1) m' σ' H') ∧ ∀ x H',(Lf K a).OX i H x H'->g x σ H' fun σ2 H2=>tb { D with nx:=N,ct:=N,bk:=D.nx } σ2 H2):=by
 refine ⟨λ i m σ H=>m=xs.length - i/\i<=xs.length/\Pv i σ H,⟨xs.length,by simp,Nat.zero_le _,h0⟩,?_⟩
 rintro i m σ H ⟨rfl,hi,p⟩
 have q:=hl i σ H hi p
 by_cases hlt:i < xs.length
 ·refine .inr ⟨⟨xs,xs[i],q,by simp [hlt]⟩,Pv (i+1),fun σ' H' p'=>⟨xs.length - (i+1),by omega,rfl,hlt,p'⟩,λ x H' y => ?_⟩
  obtain ⟨e,y⟩:=y
  subst e
  exact hs i x σ _ (y xs q) p
 ·have e:i=xs.length:=by omega
  subst e
  exact .inl ⟨⟨xs,q,Nat.le_refl _⟩,hd σ H p⟩
theorem Jg {lo:Int} {n:Nat} {g:TG} {tb:TS} {D:Ends} {σ : St} {H:Hp} (Pv:Nat->St->Hp->Prop) (h0:Pv 0 σ H)
  (hs : ∀ i σ H,i < n->Pv i σ H->g (.int (lo+i)) σ H fun σ2 H2=>tb { D with nx:=Pv (i+1),ct:=Pv (i+1),bk:=D.nx } σ2 H2) (hd : ∀ σ H,Pv n σ H->D.nx σ H) :
  ∃ W:Nat->Nat->St->Hp->Prop,(∃ m,W 0 m σ H) ∧ ∀ i m σ H,W i m σ H →
    ((Jd lo n).stop i H/\D.nx σ H)\/((Jd lo n).go i H ∧ ∃ N:St->Hp->Prop,(∀ σ' H',N σ' H'->∃ m',m' < m/\W (i+1) m' σ' H') ∧ ∀ x H',(Jd lo n).OX i H x H'->g x σ H' fun σ2 H2=>tb { D with nx:=N,ct:=N,bk:=D.nx } σ2 H2):=by
 refine ⟨λ i m σ H=>m=n - i/\i<=n/\Pv i σ H,⟨n,by simp,Nat.zero_le _,h0⟩,?_⟩
 rintro i m σ H ⟨rfl,hi,p⟩
 by_cases hlt:i < n
 ·refine .inr ⟨hlt,Pv (i+1),fun σ' H' p'=>⟨n - (i+1),by omega,rfl,hlt,p'⟩,λ x H' y => ?_⟩
  obtain ⟨e,y⟩:=y
  subst e y
  exact hs i σ _ hlt p
 ·have e:i=n:=by omega
  subst e
  exact .inl ⟨Nat.le_refl _,hd σ H p⟩
end L2
namespace L2
open PySem PySem.Spec PyProof.Rows
abbrev R2:=V->V->Hp->VK->Prop
def oF (X:Cx) (f:Value->Value->Sem Value) (r:R2):Prop :=
 ∀ (pins:List (Addr×Obj)) (s:Shared) (σ : St) (H:Hp) (x y:V) (v u:Value) (Q:VK),Inv X pins σ H s->RelV x v->RelV y u->r x y H Q →
   wpAny (model X.prog X.w) X.A (f v u) (EP X pins σ Q) X.xe s
def Yc (X:Cx) (f:Value->Sem Value) (r:V->Hp->VK->Prop):Prop :=
 ∀ (pins:List (Addr×Obj)) (s:Shared) (σ : St) (H:Hp) (x:V) (v:Value) (Q:VK),Inv X pins σ H s->RelV x v->r x H Q →
   wpAny (model X.prog X.w) X.A (f v) (EP X pins σ Q) X.xe s
def lN (X:Cx) (f:Value) (r:List V->Hp->VK->Prop):Prop :=
 ∀ (pins:List (Addr×Obj)) (s:Shared) (σ : St) (H:Hp) (xs:List V) (us:List Value) (Q:VK),Inv X pins σ H s->Vals xs us->r xs H Q →
   wpAny (model X.prog X.w) X.A (call f us) (EP X pins σ Q) X.xe s
def R8 (r:R2) (ta tb:TE):TE:=fun σ H Q=>ta σ H λ x H1=>tb σ H1 λ y H2=>r x y H2 Q
def Yd (r:V->Hp->VK->Prop) (ta:TE):TE:=fun σ H Q=>ta σ H λ x H1=>r x H1 Q
def rI (C:Int->Int->Prop) (g:Int->Int->V):R2:=λ x y H Q => ∃ i j,x = .int i/\y = .int j/\C i j/\Q (g i j) H
def LI (g:Int->Int->V):R2:=λ x y H Q => ∃ i j,x = .int i/\y = .int j/\Q (g i j) H
def rU (g:Int->V):V->Hp->VK->Prop:=λ x H Q => ∃ i,x = .int i/\Q (g i) H
section
variable {X:Cx} {a b c:Expr} {ta tb tc:TE} {pos:Pos}
theorem R9 (ha:PE X a ta) (hb:PE X b tb) {pins:List (Addr×Obj)} {s:Shared} {σ : St} {H:Hp} {R:V->V->Hp->Prop} (I:Inv X pins σ H s)
  (h:ta σ H λ x H1=>tb σ H1 λ y H2=>R x y H2) {Q:Value->Shared->Prop} {f:Value->Value->Sem Value}
  (hf : ∀ v u s2 x y H2,Inv X pins σ H2 s2->RelV x v->RelV y u->R x y H2->wpAny (model X.prog X.w) X.A (f v u) Q X.xe s2) :
  wpAny (model X.prog X.w) X.A (eval a X.env) (λ v s₁ => wpAny (model X.prog X.w) X.A (eval b X.env) (λ u s₂ => wpAny (model X.prog X.w) X.A (f v u) Q X.xe s₂) X.xe s₁) X.xe s:=by
 refine cP (ha pins s σ H _ I h) λ v s1 ⟨x,H1,I1,r1,q1⟩ => ?_
 refine cP (hb pins s1 σ H1 _ I1 q1) λ u s2 ⟨y,H2,I2,r2,q2⟩ => ?_
 exact hf v u s2 x y H2 I2 r1 r2 q2
theorem av {op:Operator} {r:R2} (ho:oF X (binaryOp op) r) (ha:PE X a ta) (hb:PE X b tb):PE X (.BinOp a op b pos) (R8 r ta tb):=by
 intro pins s σ H Q I h
 exact wpAny_BinOp (R9 ha hb I h λ v u s2 x y H2 I2 rx ry q=>ho pins s2 σ H2 x y v u Q I2 rx ry q)
theorem gQ {op:UnaryOp} {r:V->Hp->VK->Prop} (ho:Yc X (unaryOp op) r) (ha:PE X a ta):PE X (.UnaryOp op a pos) (Yd r ta):=by
 intro pins s σ H Q I h
 exact UnaryOp_ (cP (ha pins s σ H _ I h) λ v s1 ⟨x,H1,I1,r1,q1⟩=>ho pins s1 σ H1 x v Q I1 r1 q1)
theorem UW {f:Value->Value->Sem Value} {C:Int->Int->Prop} {g:Int->Int->Int}
  (rule : ∀ (i j:Int) (t u:Tok) (s:Shared) (Q:Value->Shared->Prop) (E:Value->Shared->Prop),C i j->Q (.int (g i j) s.toks) { s with toks:=s.toks+1 }->wpAny (model X.prog X.w) X.A (f (.int i t) (.int j u)) Q E s) :
  oF X f (rI C λ i j => .int (g i j)):=by
 intro pins s σ H x y v u Q I rx ry h
 obtain ⟨i,j,rfl,rfl,hc,q⟩:=h
 obtain ⟨t,rfl⟩:=rx
 obtain ⟨t',rfl⟩:=ry
 exact rule i j t t' s _ _ hc ⟨.int (g i j),H,I.tok _,⟨_,rfl⟩,q⟩
theorem UX {f:Value->Value->Sem Value} {g:Int->Int->Int}
  (rule : ∀ (i j:Int) (t u:Tok) (s:Shared) (Q:Value->Shared->Prop) (E:Value->Shared->Prop),Q (.int (g i j) s.toks) { s with toks:=s.toks+1 }->wpAny (model X.prog X.w) X.A (f (.int i t) (.int j u)) Q E s) :
  oF X f (LI λ i j => .int (g i j)):=by
 intro pins s σ H x y v u Q I rx ry h
 obtain ⟨i,j,rfl,rfl,q⟩:=h
 obtain ⟨t,rfl⟩:=rx
 obtain ⟨t',rfl⟩:=ry
 exact rule i j t t' s _ _ ⟨.int (g i j),H,I.tok _,⟨_,rfl⟩,q⟩
theorem OY {f:Value->Value->Sem Value} {g:Int->Int->Bool}
  (rule : ∀ (i j:Int) (t u:Tok) (s:Shared) (Q:Value->Shared->Prop) (E:Value->Shared->Prop),Q (.bool (g i j)) s->wpAny (model X.prog X.w) X.A (f (.int i t) (.int j u)) Q E s) :
  oF X f (LI λ i j => .bl (g i j)):=by
 intro pins s σ H x y v u Q I rx ry h
 obtain ⟨i,j,rfl,rfl,q⟩:=h
 obtain ⟨t,rfl⟩:=rx
 obtain ⟨t',rfl⟩:=ry
 exact rule i j t t' s _ _ ⟨.bl (g i j),H,I,rfl,q⟩
def UY (i j:Int):Prop:=0 < j/\j < 1073741824
def UZ (i j:Int):Prop:=j≠0/\j.natAbs < 1073741824
def oG (i j:Int):Prop:=0<=j/\j<=1000000/\i.natAbs < 2 ^ 64
def OZ (i j:Int):Prop:=(-(2 ^ 64) < i/\i < 2 ^ 64)\/(-(2 ^ 64) < j/\j < 2 ^ 64)
theorem OZ.ok {i j:Int} (h:OZ i j):IntMulOk i j:=by
 rcases h with ⟨h1,h2⟩ | ⟨h1,h2⟩
 ·exact .of_left (intBits_le_64 h1 h2)
 ·exact .of_right (intBits_le_64 h1 h2)
theorem aT:oF X (binaryOp .Add) (LI λ i j => .int (i+j)):=UX λ _ _ _ _ _ _ _ q=>add_int q
theorem fL:oF X (binaryOp .Sub) (LI λ i j => .int (i - j)):=UX λ _ _ _ _ _ _ _ q=>sub_int q
theorem gc:oF X (binaryOp .Mult) (rI OZ λ i j => .int (i * j)):=UW λ _ _ _ _ _ _ _ hc q=>mul_int q hc.ok
theorem bA:oF X (binaryOp .FloorDiv) (rI UY λ i j => .int (i / j)):=UW λ i j _ _ _ _ _ hc q=>by
 have h1:(0:Int) < j:=hc.1
 have h2:j < 1073741824:=hc.2
 exact floordiv_int (by omega) (by rw [Int.fdiv_eq_ediv_of_nonneg i (by omega)];exact q) (.inl (PyProof.noPylong_small (by omega)))
theorem aJ:oF X (binaryOp .Mod) (rI (λ _ j=>0 < j) λ i j => .int (i % j)):=UW λ i j _ _ _ _ _ hc q=>by
 have h1:(0:Int) < j:=hc
 exact mod_int' (by omega) (by rw [Int.fmod_eq_emod_of_nonneg i (by omega)];exact q)
theorem vS:oF X (binaryOp .Pow) (rI oG λ i j => .int (i ^ j.toNat)):=UW λ _ _ _ _ _ _ _ hc q=>pow_int_small hc.1 hc.2.1 hc.2.2 q
theorem unI {f:Value->Sem Value} {g:Int->Int}
  (rule : ∀ (i:Int) (t:Tok) (s:Shared) (Q:Value->Shared->Prop) (E:Value->Shared->Prop),Q (.int (g i) s.toks) { s with toks:=s.toks+1 }->wpAny (model X.prog X.w) X.A (f (.int i t)) Q E s) :
  Yc X f (rU λ i => .int (g i)):=by
 intro pins s σ H x v Q I rx h
 obtain ⟨i,rfl,q⟩:=h
 obtain ⟨t,rfl⟩:=rx
 exact rule i t s _ _ ⟨.int (g i),H,I.tok _,⟨_,rfl⟩,q⟩
theorem eU:Yc X (unaryOp .USub) (rU λ i => .int (-i)):=unI λ _ _ _ _ _ q=>neg_int q
end
def U0:V->V->Bool
 | .aM,.aM=>true | .aM,.int _=>true | .int _,.aM=>true | .aM,.bl _=>true | .bl _,.aM=>true | .aM,.str _=>true | .str _,.aM=>true
 | .int _,.int _=>true | .bl _,.bl _=>true | .str _,.str _=>true | .Ld _,.Ld _=>true
 | .int _,.str _=>true | .str _,.int _=>true | .bl _,.str _=>true | .str _,.bl _=>true
 | _,_=>false
def Sa:R2:=λ x y H Q=>U0 x y=true/\Q (.bl (decide (x=y))) H
def Ye:R2:=λ x y H Q=>U0 x y=true/\Q (.bl (!decide (x=y))) H
theorem HS {i j:Int} : decide (V.int i=V.int j)=(i == j):=by
 rw [Bool.eq_iff_iff]
 simp
theorem LJ {i j:Bool} : decide (V.bl i=V.bl j)=(i == j):=by
 rw [Bool.eq_iff_iff]
 simp
theorem HU {i j:Str} : decide (V.str i=V.str j)=(i == j):=by
 rw [Bool.eq_iff_iff]
 simp
theorem HV {i j:Array UInt8} : decide (V.Ld i=V.Ld j)=(i.toList == j.toList):=by
 rw [Bool.eq_iff_iff]
 cases i
 cases j
 simp
section
variable {X:Cx} {a b c:Expr} {ta tb tc:TE} {pos:Pos}
theorem bB {pins:List (Addr×Obj)} {σ : St} {H:Hp} {s:Shared} {Q:VK} {k k':Bool} (I:Inv X pins σ H s) (q:Q (.bl k) H) (e:k=k'):EP X pins σ Q (.bool k') s:=by
 subst e
 exact ⟨.bl k,H,I,rfl,q⟩
theorem b9:oF X (compareOp .Eq) Sa:=by
 intro pins s σ H x y v u Q I rx ry h
 obtain ⟨hs,q⟩:=h
 cases x with
 | aM =>
   cases rx
   cases y with
   | aM=>cases ry;exact PySem.EqNone.eq_none_none (bB I q (by simp))
   | bl j=>cases ry;exact PySem.EqNone.eq_none_bool (bB I q (by simp))
   | int j=>obtain ⟨t',rfl⟩:=ry;exact PySem.EqNone.eq_none_int (bB I q (by simp))
   | str j=>obtain ⟨t',rfl⟩:=ry;exact PySem.EqNone.eq_none_str (bB I q (by simp))
   | _=>exact absurd (show false=true from hs) Bool.false_ne_true
 | bl i =>
   cases rx
   cases y with
   | aM=>cases ry;exact PySem.EqNone.eq_bool_none (bB I q (by simp))
   | bl j=>cases ry;exact eq_bool (bB I q LJ)
   | str j=>obtain ⟨t',rfl⟩:=ry;exact PySem.EqMixed.eq_bool_str (bB I q (by simp))
   | _=>exact absurd (show false=true from hs) Bool.false_ne_true
 | int i =>
   obtain ⟨t,rfl⟩:=rx
   cases y with
   | aM=>cases ry;exact PySem.EqNone.eq_int_none (bB I q (by simp))
   | int j=>obtain ⟨t',rfl⟩:=ry;exact eq_int (bB I q HS)
   | str j=>obtain ⟨t',rfl⟩:=ry;exact PySem.EqMixed.eq_int_str (bB I q (by simp))
   | _=>exact absurd (show false=true from hs) Bool.false_ne_true
 | str i =>
   obtain ⟨t,rfl⟩:=rx
   cases y with
   | aM=>cases ry;exact PySem.EqNone.eq_str_none (bB I q (by simp))
   | bl j=>cases ry;exact PySem.EqMixed.eq_str_bool (bB I q (by simp))
   | int j=>obtain ⟨t',rfl⟩:=ry;exact PySem.EqMixed.eq_str_int (bB I q (by simp))
   | str j=>obtain ⟨t',rfl⟩:=ry;exact eq_str (bB I q HU)
   | _=>exact absurd (show false=true from hs) Bool.false_ne_true
 | Ld i =>
   obtain ⟨t,rfl⟩:=rx
   cases y with
   | Ld j=>obtain ⟨t',rfl⟩:=ry;exact PySem.W.eq_bytes (bB I q HV)
   | _=>exact absurd (show false=true from hs) Bool.false_ne_true
 | _=>cases y <;> exact absurd (show false=true from hs) Bool.false_ne_true
theorem HW:oF X (compareOp .NotEq) Ye:=by
 intro pins s σ H x y v u Q I rx ry h
 obtain ⟨hs,q⟩:=h
 cases x with
 | aM =>
   cases rx
   cases y with
   | aM=>cases ry;exact PySem.EqNone.ne_none_none (bB I q (by simp))
   | bl j=>cases ry;exact PySem.EqNone.ne_none_bool (bB I q (by simp))
   | int j=>obtain ⟨t',rfl⟩:=ry;exact PySem.EqNone.ne_none_int (bB I q (by simp))
   | str j=>obtain ⟨t',rfl⟩:=ry;exact PySem.EqNone.ne_none_str (bB I q (by simp))
   | _=>exact absurd (show false=true from hs) Bool.false_ne_true
 | bl i =>
   cases rx
   cases y with
   | aM=>cases ry;exact PySem.EqNone.ne_bool_none (bB I q (by simp))
   | bl j=>cases ry;exact ne_bool (bB I q (congrArg not LJ))
   | str j=>obtain ⟨t',rfl⟩:=ry;exact PySem.EqMixed.ne_bool_str (bB I q (by simp))
   | _=>exact absurd (show false=true from hs) Bool.false_ne_true
 | int i =>
   obtain ⟨t,rfl⟩:=rx
   cases y with
   | aM=>cases ry;exact PySem.EqNone.ne_int_none (bB I q (by simp))
   | int j=>obtain ⟨t',rfl⟩:=ry;exact ne_int (bB I q (congrArg not HS))
   | str j=>obtain ⟨t',rfl⟩:=ry;exact PySem.EqMixed.ne_int_str (bB I q (by simp))
   | _=>exact absurd (show false=true from hs) Bool.false_ne_true
 | str i =>
   obtain ⟨t,rfl⟩:=rx
   cases y with
   | aM=>cases ry;exact PySem.EqNone.ne_str_none (bB I q (by simp))
   | bl j=>cases ry;exact PySem.EqMixed.ne_str_bool (bB I q (by simp))
   | int j=>obtain ⟨t',rfl⟩:=ry;exact PySem.EqMixed.ne_str_int (bB I q (by simp))
   | str j=>obtain ⟨t',rfl⟩:=ry;exact ne_str (bB I q (congrArg not HU))
   | _=>exact absurd (show false=true from hs) Bool.false_ne_true
 | Ld i =>
   obtain ⟨t,rfl⟩:=rx
   cases y with
   | Ld j=>obtain ⟨t',rfl⟩:=ry;exact PySem.W.ne_bytes (bB I q (congrArg not HV))
   | _=>exact absurd (show false=true from hs) Bool.false_ne_true
 | _=>cases y <;> exact absurd (show false=true from hs) Bool.false_ne_true
theorem vU:oF X (compareOp .Lt) (LI λ i j => .bl (decide (i < j))):=OY λ _ _ _ _ _ _ _ q=>lt_int q
theorem U1:oF X (compareOp .LtE) (LI λ i j => .bl (decide (i<=j))):=OY λ _ _ _ _ _ _ _ q=>le_int q
theorem Bf:oF X (compareOp .Gt) (LI λ i j => .bl (decide (j < i))):=OY λ _ _ _ _ _ _ _ q=>gt_int q
theorem U3:oF X (compareOp .GtE) (LI λ i j => .bl (decide (j<=i))):=OY λ _ _ _ _ _ _ _ q=>ge_int q
theorem LK:oF X (compareOp .Is) (λ x y H Q=>y = .aM/\Q (.bl (decide (x = .aM))) H):=by
 intro pins s σ H x y v u Q I rx ry h
 obtain ⟨rfl,q⟩:=h
 cases ry
 refine is_none_gen (bB I q ?_)
 cases x <;> first
  | (cases rx;rfl)
  | (obtain ⟨t,rfl⟩:=rx;rfl)
theorem pY:oF X (compareOp .IsNot) (λ x y H Q=>y = .aM/\Q (.bl (!decide (x = .aM))) H):=by
 intro pins s σ H x y v u Q I rx ry h
 obtain ⟨rfl,q⟩:=h
 cases ry
 refine isnot_none_gen (bB I q ?_)
 cases x <;> first
  | (cases rx;rfl)
  | (obtain ⟨t,rfl⟩:=rx;rfl)
theorem aQ (b:Expr) {op:CmpOp} (h:op ≠ .In:=by decide) (h2:op ≠ .NotIn:=by decide):behindInMarks op b=false:=by
 have e1:(op == CmpOp.In)=false:=by cases op <;> first | rfl | exact absurd rfl h
 have e2:(op == CmpOp.NotIn)=false:=by cases op <;> first | rfl | exact absurd rfl h2
 cases b <;> simp [behindInMarks,e1,e2]
theorem fM {op:CmpOp} {r:R2} (ho:oF X (compareOp op) r) (ha:PE X a ta) (hb:PE X b tb) (hm:behindInMarks op b=false):PE X (.Compare a [op] [b] pos) (R8 r ta tb):=by
 intro pins s σ H Q I h
 exact wpAny_Compare1 (R9 ha hb I h λ v u s2 x y H2 I2 rx ry q=>ho pins s2 σ H2 x y v u Q I2 rx ry q) hm
def Bg (t:TE):TT:=fun σ H Q=>t σ H λ x H' => ∃ k,x = .bl k/\Q k H'
theorem aK {op:CmpOp} {r:R2} (ho:oF X (compareOp op) r) (ha:PE X a ta) (hb:PE X b tb) (hm:behindInMarks op b=false):PT X (.Compare a [op] [b] pos) (Bg (R8 r ta tb)):=by
 intro pins s σ H Q I h
 refine wpAny_isTrue_Compare1 (cP (ha pins s σ H _ I h) λ v s1 ⟨x,H1,I1,r1,q1⟩=>cP (hb pins s1 σ H1 _ I1 q1) λ u s2 ⟨y,H2,I2,r2,q2⟩ =>
  cP (ho pins s2 σ H2 x y v u _ I2 r1 r2 q2) λ c s3 ⟨z,H3,I3,r3,k,e,q3⟩ => ?_) hm
 subst e
 cases r3
 exact wpAny_truthy_bool ⟨H3,I3,q3⟩
def LL (r r':R2) (ta tb tc:TE):TE:=fun σ H Q=>ta σ H λ x H1=>tb σ H1 λ y H2=>r x y H2 λ z H3 => ∃ k,z = .bl k ∧
 (if k=true then tc σ H3 λ w' H4=>r' y w' H4 Q else Q (.bl false) H3)
theorem LM {op op':CmpOp} {r r':R2} (ho:oF X (compareOp op) r) (ho':oF X (compareOp op') r') (ha:PE X a ta) (hb:PE X b tb) (hc:PE X c tc)
  (hm:lastMarks [op,op'] [b,c]=false:=by with_unfolding_all rfl):PT X (.Compare a [op,op'] [b,c] pos) (Bg (LL r r' ta tb tc)):=by
 intro pins s σ H Q I h
 refine isTrue_chain (cP (ha pins s σ H _ I h) λ v s1 ⟨x,H1,I1,r1,q1⟩=>test_link (cP (hb pins s1 σ H1 _ I1 q1) λ u s2 ⟨y,H2,I2,r2,q2⟩ =>
  cP (ho pins s2 σ H2 x y v u _ I2 r1 r2 q2) λ d s3 ⟨z,H3,I3,r3,k,e,q3⟩ => ?_)) hm
 subst e
 cases r3
 refine wpAny_truthy_bool ?_
 cases k with
 | false =>
   obtain ⟨k',e',q'⟩:=q3
   cases e'
   exact ite_ff ⟨H3,I3,q'⟩
 | true =>
   refine ite_tt (test_last (cP (hc pins s3 σ H3 _ I3 q3) λ w' s4 ⟨z',H4,I4,r4,q4⟩=>cP (ho' pins s4 σ H4 y z' u w' _ I4 r2 r4 q4) λ d' s5 ⟨z2,H5,I5,r5,k2,e2,q5⟩ => ?_))
   subst e2
   cases r5
   exact wpAny_truthy_bool ⟨H5,I5,q5⟩
theorem oH:(sizeLine:Nat) < 2 ^ 63:=by rw [sizeLine_eq];decide
theorem FP:oF X (binaryOp .Add) (λ x y H Q => ∃ i j,x = .str i/\y = .str j/\i.length+j.length<=sizeLine/\Q (.str (i++j)) H):=by
 intro pins s σ H x y v u Q I rx ry h
 obtain ⟨i,j,rfl,rfl,hz,q⟩:=h
 obtain ⟨t,rfl⟩:=rx
 obtain ⟨t',rfl⟩:=ry
 exact add_str (λ t' tk=>⟨.str (i++j),H,I.tok _,⟨_,rfl⟩,q⟩) hz
theorem vals1 {x:V} {us:List Value} (r:Vals [x] us) : ∃ u,us = [u]/\RelV x u:=by
 cases r with
 | cons r1 r2=>cases r2;exact ⟨_,rfl,r1⟩
end
end L2
namespace L2
open PySem PySem.Spec PyProof.Rows
structure FQ (h:Heap) (x dx C:Addr) (mA:Str->Option Value):Prop where
 obj:h.get? x=some (PySem.W.instObj C dx)
 ns:h.Ns1 dx mA
 ne:dx≠x
theorem Jh {h:Heap} {dx:Addr} {mA:Str->Option Value} (n:h.Ns1 dx mA) : ∃ od,h.get? dx=some od ∧ ∀ name,PySem.W.lookIn name od=some (mA name):=by
 obtain ⟨o,es,ep,ho,hd,hk,_,hm⟩:=n
 refine ⟨o,ho,λ name => ?_⟩
 have e:=hm name
 unfold nsFind findBy at e
 rw [<-Array.find?_toList] at e
 unfold PySem.W.lookIn
 rw [hd]
 dsimp only
 split
 ·rename_i y q
  rw [q] at e
  exact congrArg some e
 ·rename_i q
  rw [q] at e
  have a:es.toList.any (·.refKey)=false:=by
   rw [List.any_eq_false]
   intro y hy
   obtain ⟨z,t,hkey⟩:=hk y (Array.mem_toList_iff.mp hy)
   simp [DictEntry.refKey,hkey]
  have a' : ¬ es.toList.any (·.refKey)=true:=by rw [a];exact Bool.false_ne_true
  rw [if_neg a']
  exact congrArg some e
theorem FQ.look {h:Heap} {x dx C:Addr} {mA:Str->Option Value} (I:FQ h x dx C mA) : ∃ od,PySem.W.InstAt h x (PySem.W.instObj C dx) C (some od) ∧ ∀ name,PySem.W.lookIn name od=some (mA name) :=
 let ⟨od,ho,hl⟩:=Jh I.ns
 ⟨od,⟨I.obj,rfl,rfl,ho⟩,hl⟩
section
variable {prog:Program} {w:World} {A:Around} {E:Value->Shared->Prop} {s:Shared} {K:PySem.W.Frag} {x dx C f:Addr} {mA:Str->Option Value} {name:Str} {v:Value}
theorem get_map {expr:Bool} {Q:Value->Shared->Prop} (X:K.In s.heap) (I:FQ s.heap x dx C mA) (hg:PySem.W.plainGet K C name=true) (hh:PySem.W.hasDictIn K C=true)
  (ha:PySem.W.findIn K (.ref C) name=some none) (hv:mA name=some v) (hv':PySem.W.handedIn v=true) (h:Q v { s with toks:=s.toks+1 }) :
  wpAny (model prog w) A (getAttr (.ref x) name expr) Q E s:=by
 obtain ⟨od,J,hl⟩:=I.look
 exact PySem.W.get_value X J (PySem.W.plainGet_of hg).1 (PySem.W.findObj_own hh ha rfl (by rw [hl,hv])) hv' h
theorem LN {pl:Sem Bool} {Q:Value×List Value->Shared->Prop} (X:K.In s.heap) (I:FQ s.heap x dx C mA) (hg:PySem.W.plainGet K C name=true)
  (hf:PySem.W.findIn K (.ref C) name=some (some (.ref f))) (ht:PySem.W.isFn K (.ref f)=true) (hv:mA name=none) (h:Q (.ref f,[.ref x]) s) :
  wpAny (model prog w) A (getMethod (.ref x) name pl) Q E s:=by
 obtain ⟨od,J,hl⟩:=I.look
 exact PySem.W.method_fn X J (PySem.W.plainGet_of hg).1 (PySem.W.plainGet_of hg).2 hf (beq_iff_eq.mp ht) (by show (PySem.W.lookIn name od).map (·.isSome)=some false;rw [hl,hv];rfl) h
theorem O0 {ns:List Str} {Q:Unit->Shared->Prop} (X:K.In s.heap) (I:FQ s.heap x dx C mA)
  (hs:PySem.W.findIn K (.ref C) "__setattr__" = some (some (.builtin "object.__setattr__"))) (hp:PySem.W.plainOver K C=true) (ht:PySem.W.takerIn K C name=some none) (hh:PySem.W.hasDictIn K C=true)
  (hw:PySem.Within mA ns) (hsz:ns.length<=sizeLine)
  (h : ∀ h',FQ h' x dx C (λ y=>if y=name then some v else mA y)->Heap.SameBut dx s.heap h'->Q () { s with heap:=h',toks:=s.toks+2 }) :
  wpAny (model prog w) A (setAttr (.ref x) name v) Q E s:=by
 obtain ⟨od,J,hl⟩:=I.look
 refine PySem.W.set_plain X J hs (PySem.W.osa_open (s := { s with toks:=s.toks+1 }) (r:=none) X J hp ht λ b => ?_)
 obtain ⟨cd,hc,hd'⟩:=PySem.W.any_some hh
 have hx:s.heap.get? x=some ⟨.ref C,some dx,.plain,#[]⟩:=I.obj
 refine wpAny_bind (wpAny_pure (wpAny_bind (wpAny_bind (wpAny_loadPart hx (wpAny_bind (PySem.W.Looks.here (s := { s with toks:=s.toks+1 }) (PySem.W.looks_clsIn X hc) ?_))))))
 rw [hd']
 refine wpAny_pure (a:=some dx) (wpAny_bind (wpAny_pure (wpAny_bind ?_)))
 refine wpAny_nsSet1 (s := { s with toks:=s.toks+1 }) I.ns λ h' hn2 hs2 => ?_
 obtain ⟨oD,esD,epD,hoD,hdD,hcD⟩:=hn2.count (PySem.Within.cons name v hw)
 refine wpAny_bind (wpAny_lookBehind hoD (by rw [hdD];exact pastItsLine_dict (Nat.le_trans hcD (by rw [List.length_cons];omega))) ?_)
 exact wpAny_pure (h _ ⟨(hs2.2 _ (Ne.symm I.ne)).trans I.obj,hn2,I.ne⟩ hs2)
theorem LO {R:Result->Shared->Prop} {vs:List Value} {kw:List (Str×Value)} (X:K.In s.heap) (hm:PySem.W.makesIn K C=true)
  (hi:PySem.W.findIn K (.ref C) "__init__" = some (some (.ref f))) (hf:PySem.W.typeIn K (.ref f)=some (.type "function"))
  (h:codeAny (model prog w) (A.under (.builtin "type.__call__" ⟨.ref C::vs,kw⟩)) (.call (.ref f) ⟨.ref (s.heap.objs.size+1)::vs,kw⟩) (PySem.W.InitBack (s.heap.objs.size+1) R)
   { s with heap:=(s.heap.push PySem.W.emptyDict).push (PySem.W.instObj C s.heap.objs.size) }) :
  codeAny (model prog w) A (.call (.ref C) ⟨vs,kw⟩) R s:=by
 obtain ⟨hh,g,d,t,os⟩:=s
 exact PySem.W.make_core (PySem.W.makes_of X hm) (PySem.W.looks_findIn X hi) (λ self=>PySem.W.bind_fn X self hf) (.inl rfl) h
end
def dg (f:Str) (v:V):List (Str×V)->List (Str×V)
 | []=>[(f,v)]
 | (g,x)::r=>if g=f then (g,v)::r else (g,x)::dg f v r
theorem tR (f g:Str) (v:V) : ∀ fs:List (Str×V),(dg f v fs).lookup g=if g=f then some v else fs.lookup g
 | []=>by
   show List.lookup g [(f,v)]=_
   by_cases h:g=f
   ·have hb:(g == f)=true:=beq_iff_eq.mpr h
    simp only [List.lookup,hb,if_pos h]
   ·have hb:(g == f)=false:=beq_eq_false_iff_ne.mpr h
    simp only [List.lookup,hb,if_neg h]
 | (k,x)::r=>by
   have ih:=tR f g v r
   rw [show dg f v ((k,x)::r)=(if k=f then (k,v)::r else (k,x)::dg f v r) from rfl]
   by_cases hk:k=f
   ·rw [if_pos hk]
    by_cases h:g=k
    ·have hb:(g == k)=true:=beq_iff_eq.mpr h
     simp only [List.lookup,hb,if_pos (h.trans hk)]
    ·have hb:(g == k)=false:=beq_eq_false_iff_ne.mpr h
     simp only [List.lookup,hb,if_neg (λ e:g=f=>h (e.trans hk.symm))]
   ·rw [if_neg hk]
    by_cases h:g=k
    ·have hb:(g == k)=true:=beq_iff_eq.mpr h
     simp only [List.lookup,hb,if_neg (λ e:g=f=>hk (h.symm.trans e))]
    ·have hb:(g == k)=false:=beq_eq_false_iff_ne.mpr h
     simp only [List.lookup,hb]
     exact ih
theorem rC (f:Str) (v:V) : ∀ fs:List (Str×V),f∈(dg f v fs).map (·.1) ∧ ∀ g,g∈fs.map (·.1)->g∈(dg f v fs).map (·.1)
 | []=>⟨by simp [dg],λ g h=>by simp at h⟩
 | (k,x)::r=>by
   obtain ⟨i1,i2⟩:=rC f v r
   rw [show dg f v ((k,x)::r)=(if k=f then (k,v)::r else (k,x)::dg f v r) from rfl]
   by_cases hk:k=f
   ·rw [if_pos hk]
    subst hk
    exact ⟨by simp,λ g h=>by simpa using h⟩
   ·rw [if_neg hk]
    refine ⟨?_,λ g h => ?_⟩
    ·rw [List.map_cons]
     exact List.mem_cons_of_mem _ i1
    ·rw [List.map_cons] at h ⊢
     rcases List.mem_cons.mp h with e | e
     ·exact List.mem_cons.mpr (.inl e)
     ·exact List.mem_cons_of_mem _ (i2 g e)
theorem tS (f:Str) (v:V) : ∀ fs:List (Str×V),(dg f v fs).length<=fs.length+1
 | []=>by simp [dg]
 | (k,x)::r=>by
   have ih:=tS f v r
   rw [show dg f v ((k,x)::r)=(if k=f then (k,v)::r else (k,x)::dg f v r) from rfl]
   by_cases hk:k=f
   ·rw [if_pos hk,List.length_cons,List.length_cons];omega
   ·rw [if_neg hk,List.length_cons,List.length_cons];omega
theorem j6.some_of {v:V} {o:Option Value} (r:j6 (some v) o) : ∃ u,o=some u/\RelV v u:=by
 cases o with
 | none=>exact (show False from r).elim
 | some u=>exact ⟨u,rfl,r⟩
theorem j6.none_of {o:Option Value} (r:j6 none o):o=none:=by
 cases o with
 | none=>rfl
 | some u=>exact (show False from r).elim
theorem Ji {v:V} {u:Value} (r:RelV v u):PySem.W.handedIn u=true:=by
 cases v with
 | aM=>cases (show u=Value.none from r);rfl
 | bl b=>cases (show u=Value.bool b from r);rfl
 | int i=>obtain ⟨t,e⟩:=(show ∃ t,u=Value.int i t from r);cases e;rfl
 | str x=>obtain ⟨t,e⟩:=(show ∃ t,u=Value.str x t from r);cases e;rfl
 | Ld b=>obtain ⟨t,e⟩:=(show ∃ t,u=Value.bytes b t from r);cases e;rfl
 | RQ b=>obtain ⟨t,e⟩:=(show ∃ t,u=Value.float b t from r);cases e;rfl
 | ref a=>cases (show u=Value.ref a from r);rfl
 | ty n=>cases (show u=Value.type n from r);rfl
section
variable {P:Program} {w:World} {H H':Hp} {h h':Heap} {a C dx:Addr} {fs fs':List (Str×V)}
theorem vD (hok:k6 P w H h) (e:H a=some (.ins C dx fs)) : ∃ mA,FQ h a dx C mA/\(∀ f,j6 (fs.lookup f) (mA f))/\PySem.Within mA (fs.map (·.1))/\fs.length<=1000/\H dx=some (.own a):=by
 obtain ⟨d,z,ne,ob,mA,n,r,q⟩:=(show bY P w H h a (.ins C dx fs) from hok a _ e)
 exact ⟨mA,⟨ob,n,ne⟩,r,q,z,d⟩
end
structure OH (K:PySem.W.Frag) (C:Addr):Prop where
 pg:PySem.W.plainGet K C Str.empty=true
 hd:PySem.W.hasDictIn K C=true
 po:PySem.W.plainOver K C=true
 sa:PySem.W.findIn K (.ref C) "__setattr__" = some (some (.builtin "object.__setattr__"))
theorem OH.get {K:PySem.W.Frag} {C:Addr} (c:OH K C) (f:Str):PySem.W.plainGet K C f=true:=c.pg
def cW (K:PySem.W.Frag) (C:Addr) (f:Str):Prop:=PySem.W.findIn K (.ref C) f=some none
theorem cW.U4 {K:PySem.W.Frag} {C:Addr} {f:Str} (n:cW K C f):PySem.W.takerIn K C f=some none:=by
 unfold PySem.W.takerIn
 rw [show PySem.W.findIn K (.ref C) f=some none from n]
 rfl
structure Meth (K:PySem.W.Frag) (C:Addr) (m:Str) (f:Addr):Prop where
 at_:PySem.W.findIn K (.ref C) m=some (some (.ref f))
 fn:PySem.W.isFn K (.ref f)=true
 kp:PySem.W.keepIn K (.ref f)=true
section
variable {X:Cx} {pins:List (Addr×Obj)} {σ : St} {H:Hp} {s:Shared} {a C dx:Addr} {fs:List (Str×V)} {f:Str} {v:V} {A:Around} {E:Value->Shared->Prop}
theorem FT {b:Bool} {Q:Value->Shared->Prop} (I:Inv X pins σ H s) (e:H a=some (.ins C dx fs)) (c:OH X.K C) (n:cW X.K C f) (l:fs.lookup f=some v)
  (h : ∀ u s',Inv X pins σ H s'->RelV v u->Q u s'):wpAny (model X.prog X.w) A (getAttr (.ref a) f b) Q E s:=by
 obtain ⟨mA,O,r,_,_,_⟩:=vD I.hok e
 obtain ⟨u,hu,ru⟩:=j6.some_of (v:=v) (o:=mA f) (by rw [<-l];exact r f)
 exact get_map I.tP O (c.get f) c.hd n hu (Ji ru) (h u _ (I.tok _) ru)
theorem oJ {m:Str} {g:Addr} {pl:Sem Bool} {Q:Value×List Value->Shared->Prop} (I:Inv X pins σ H s) (e:H a=some (.ins C dx fs)) (c:OH X.K C) (k:Meth X.K C m g) (l:fs.lookup m=none)
  (h:Q (.ref g,[.ref a]) s):wpAny (model X.prog X.w) A (getMethod (.ref a) m pl) Q E s:=by
 obtain ⟨mA,O,r,_,_,_⟩:=vD I.hok e
 have hn:mA m=none:=j6.none_of (by rw [<-l];exact r m)
 exact LN I.tP O (c.get m) k.at_ k.fn hn h
theorem FU {y:V} {u:Value} {Q:Unit->Shared->Prop} (I:Inv X pins σ H s) (e:H a=some (.ins C dx fs)) (c:OH X.K C) (n:cW X.K C f) (hl:fs.length < 1000) (ry:RelV y u)
  (h : ∀ s',Inv X pins σ (upd H a (.ins C dx (dg f y fs))) s'->Q () s'):wpAny (model X.prog X.w) A (setAttr (.ref a) f u) Q E s:=by
 obtain ⟨mA,O,r,wi,_,ho⟩:=vD I.hok e
 have hz:(fs.map (·.1)).length<=sizeLine:=by rw [List.length_map,sizeLine_eq];omega
 refine O0 I.tP O c.sa c.po n.U4 c.hd wi hz λ h' O' sb=>h _ ?_
 have hd : ∃ o,h'.get? dx=some o:=let ⟨o,_,_,e',_⟩:=O'.ns; ⟨o,e'⟩
 refine I.write (x:=a) (e:=dx) (by rw [e];exact True.intro) (.inr ho) (λ b q hb z=>(sb.2 b hb).trans z) hd ?_
 refine ⟨by rw [cj O.ne];exact ho,?_,O.ne,O'.obj,_,O'.ns,λ g => ?_,λ g hg => ?_⟩
 ·have:=tS f y fs;omega
 ·show j6 ((dg f y fs).lookup g) (if g=f then some u else mA g)
  rw [tR]
  by_cases q:g=f
  ·rw [if_pos q,if_pos q];exact ry
  ·rw [if_neg q,if_neg q];exact r g
 ·by_cases q:g=f
  ·rw [q];exact (rC f y fs).1
  ·refine (rC f y fs).2 g (wi g λ z=>hg ?_)
   show (if g=f then some u else mA g)=none
   rw [if_neg q];exact z
theorem Inv.made (I:Inv X pins σ H s):Inv X pins σ (upd (upd H s.heap.objs.size (.own (s.heap.objs.size+1))) (s.heap.objs.size+1) (.ins C s.heap.objs.size []))
  { s with heap:=(s.heap.push PySem.W.emptyDict).push (PySem.W.instObj C s.heap.objs.size) } := by
 have e1:(s.heap.push PySem.W.emptyDict).get? s.heap.objs.size=some PySem.W.emptyDict:=Heap.get?_push_size s.heap rfl
 have e2:((s.heap.push PySem.W.emptyDict).push (PySem.W.instObj C s.heap.objs.size)).get? (s.heap.objs.size+1)=some (PySem.W.instObj C s.heap.objs.size):=by
  have:=Heap.get?_push_size (s.heap.push PySem.W.emptyDict) (o:=PySem.W.instObj C s.heap.objs.size) rfl
  rwa [Heap.size_push] at this
 have e3:(s.heap.push PySem.W.emptyDict).Ns s.heap.objs.size (λ _=>none):=⟨PySem.W.emptyDict,#[],_,e1,rfl,(λ e he=>absurd he (by simp)),λ _=>rfl⟩
 have I1:=I.laid (a:=s.heap.objs.size) (o := .own (s.heap.objs.size+1)) (h':=s.heap.push PySem.W.emptyDict) (t':=s.toks) (λ b u q=>Heap.get?_push_of_some _ q) (Nat.le_refl _) ⟨_,e1⟩
 refine I1.laid (a:=s.heap.objs.size+1) (o := .ins C s.heap.objs.size []) (t':=s.toks) (λ b u q=>Heap.get?_push_of_some _ q) (Nat.le_of_eq (Heap.size_push _ _)) ?_
 have ne:s.heap.objs.size≠s.heap.objs.size+1:=Nat.ne_of_lt (Nat.lt_succ_self _)
 refine ⟨by rw [cj ne,ju],Nat.zero_le _,ne,e2,λ _=>none,(Heap.Ns1.of_empty e3).at λ o q=>Heap.get?_push_of_some _ q,λ _=>True.intro,λ y hy=>absurd rfl hy⟩
theorem O1 {prog:Program} {w:World} {env:Env} {e:Expr} {f:Str} {pos:Pos} {s:Shared} {Q:Value->Shared->Prop} (hb:attributeBase e f env (eval e env)=eval e env)
  (h:wpAny (model prog w) A (eval e env) (λ o s₁ => wpAny (model prog w) A (getAttr o f true) Q E s₁) E s):wpAny (model prog w) A (eval (.Attribute e f pos) env) Q E s :=
 Attribute_any_ h (by rw [arm_eval_Attribute,hb])
end
section
variable {X:Cx} {o e value:Expr} {f:Str} {pos pos' tpos:Pos} {ta tv:TE}
theorem Q3 {pl:Sem Bool} {m:Str} {apos:Pos} {args:List Expr} {pins:List (Addr×Obj)} {s:Shared} {σ : St} {H:Hp} {Q:Value->Shared->Prop} {te:TE} (he:PE X e te) (I:Inv X pins σ H s)
  (h:te σ H λ x H1 => ∃ a C dx fs g,x = .ref a/\H1 a=some (.ins C dx fs)/\OH X.K C/\Meth X.K C m g/\fs.lookup m=none ∧
   ∀ s1,Inv X pins σ H1 s1->wpAny (model X.prog X.w) X.A (callWith pos (.ref g) [.ref a] (backTo pos (starEach args X.env)) (backToKw pos (keywordEach [] X.env))) Q X.xe s1)
  (ht:eval (.Call (.Attribute e m apos) args [] pos) X.env=(do
   let ov <-eval e X.env
   standAt apos.atName
   let (f,first) <-holding [ov] (getMethod ov m pl)
   callWith pos f first (backTo pos (starEach args X.env)) (backToKw pos (keywordEach [] X.env)))) :
  wpAny (model X.prog X.w) X.A (eval (.Call (.Attribute e m apos) args [] pos) X.env) Q X.xe s:=by
 refine PySem.W.methodCall_KW (pl:=pl) (cP (he pins s σ H _ I h) λ u s1 ⟨x,H1,I1,rx,a,C,dx,fs,g,ex,ea,c,k,l,q⟩ => ?_) ht
 subst ex
 obtain rfl:u=Value.ref a:=rx
 exact oJ I1 ea c k l (q s1 I1)
end
section
variable {X:Cx} {pins:List (Addr×Obj)} {σ : St} {H:Hp} {s:Shared} {A:Around} {E:Value->Shared->Prop} {Q:Value->Shared->Prop} {c:Value} {b:Bool}
inductive pZ (K:PySem.W.Frag) (H:Hp):V->Value->Prop where
 | aM:pZ K H .aM (.type "NoneType")
 | bl (x:Bool):pZ K H (.bl x) (.type "bool")
 | int (i:Int):pZ K H (.int i) (.type "int")
 | str (x:Str):pZ K H (.str x) (.type "str")
 | RQ (x:UInt64):pZ K H (.RQ x) (.type "float")
 | lst {a:Addr} {xs:List V} (e:H a=some (.lst xs)):pZ K H (.ref a) (.type "list")
 | DP {a:Addr} {o:Obj} {xs:List V} (e:H a=some (.DP o (.lst xs))):pZ K H (.ref a) (.type "list")
 | tup {a:Addr} {xs:List V} (e:H a=some (.tup xs)):pZ K H (.ref a) (.type "tuple")
 | dK {a:Addr} {kvs:List (Key×V)} (e:H a=some (.dK kvs)):pZ K H (.ref a) (.type "dict")
 | dT {a:Addr} {kvs:List (List Key×V)} (e:H a=some (.dT kvs)):pZ K H (.ref a) (.type "dict")
 | ins {a C dx:Addr} {fs:List (Str×V)} (e:H a=some (.ins C dx fs)) (cl:OH K C) (ha:PySem.W.findIn K (.ref C) "__class__" = some (some (.builtin "object.__class__")))
   (hn:PySem.W.specialIn K (.builtin "object.__class__") "__get__" = some (some (.builtin "getset_descriptor.__get__"))) (htk:PySem.W.takesIn K (.builtin "object.__class__")=some true)
   (hm:PySem.W.mroIn K C (.type "object")=some true):pZ K H (.ref a) (.ref C)
theorem Bh {x:V} {u t:Value} (I:Inv X pins σ H s) (rx:RelV x u) (ty:pZ X.K H x t) (e:PySem.W.kitOne X.K t c=some b) (h : ∀ tk,Q (.bool b) { s with toks:=tk }) :
  wpAny (model X.prog X.w) A (call (.builtin "isinstance") [u,c]) Q E s:=by
 cases ty with
 | aM=>cases (show u=Value.none from rx);exact PySem.W.kia_one PySem.W.kitx_none I.tP True.intro e (λ z=>nomatch z) h
 | bl y=>cases (show u=Value.bool y from rx);exact PySem.W.kia_one PySem.W.kitx_bool I.tP True.intro e (λ z=>nomatch z) h
 | int i=>obtain ⟨t,q⟩:=(show ∃ t,u=Value.int i t from rx);cases q;exact PySem.W.kia_one PySem.W.kitx_int I.tP True.intro e (λ z=>nomatch z) h
 | str y=>obtain ⟨t,q⟩:=(show ∃ t,u=Value.str y t from rx);cases q;exact PySem.W.kia_one PySem.W.kitx_str I.tP True.intro e (λ z=>nomatch z) h
 | RQ y=>obtain ⟨t,q⟩:=(show ∃ t,u=Value.float y t from rx);cases q;exact PySem.W.kia_one PySem.W.kitx_float I.tP True.intro e (λ z=>nomatch z) h
 | @lst a xs ea =>
   cases (show u=Value.ref a from rx)
   obtain ⟨_,_,n,_,h1⟩:=(show bY X.prog X.w H s.heap a (.lst xs) from I.hok a _ ea)
   exact PySem.W.kia_one PySem.W.kitx_list I.tP ⟨_,h1,rfl⟩ e (λ z=>nomatch z) h
 | @DP a ob xs ea =>
   cases (show u=Value.ref a from rx)
   obtain ⟨_,_,_,n,_,h1⟩:=(show bY X.prog X.w H s.heap a (.DP ob (.lst xs)) from I.hok a _ ea)
   exact PySem.W.kia_one PySem.W.kitx_list I.tP ⟨_,h1,rfl⟩ e (λ z=>nomatch z) h
 | @tup a xs ea =>
   cases (show u=Value.ref a from rx)
   obtain ⟨_,_,_,p⟩:=(show bY X.prog X.w H s.heap a (.tup xs) from I.hok a _ ea)
   obtain ⟨o,h1,h2,_⟩:=p
   exact PySem.W.kia_one PySem.W.kitx_tuple I.tP ⟨o,h1,h2⟩ e (λ z=>nomatch z) h
 | @dK a kvs ea =>
   cases (show u=Value.ref a from rx)
   obtain ⟨_,_,vs,_,p⟩:=(show bY X.prog X.w H s.heap a (.dK kvs) from I.hok a _ ea)
   obtain ⟨o,es,ep,h1,h2,_⟩:=p
   exact PySem.W.kia_one PySem.W.kitx_dict I.tP ⟨o,h1,h2.1⟩ e (λ z=>nomatch z) h
 | @dT a kvs ea =>
   cases (show u=Value.ref a from rx)
   obtain ⟨_,_,xs,_,o,es,ep,h1,h2,_⟩:=(show bY X.prog X.w H s.heap a (.dT kvs) from I.hok a _ ea)
   exact PySem.W.kia_one PySem.W.kitx_dict I.tP ⟨o,h1,h2.1⟩ e (λ z=>nomatch z) h
 | @ins a C dx fs ea cl ha hn htk hm =>
   cases (show u=Value.ref a from rx)
   obtain ⟨mA,O,_⟩:=vD I.hok ea
   obtain ⟨od,J,_⟩:=O.look
   exact PySem.W.kia_one (PySem.W.kitx_own (cl.get _) cl.hd ha hn htk hm) I.tP J e (λ z=>nomatch z) h
end
end L2
namespace L2
open PySem PySem.Spec PyProof.Rows
structure dH (k:Nat) (A:Around):Prop where
 hd:A.handled=none
 dp:A.depth+3 * k+5 < recursionLimit
 un:A.units+16 * k+200 < cLine
theorem dH.mono {j k:Nat} {A:Around} (r:dH k A) (h:j<=k):dH j A:=⟨r.hd,by have:=r.dp;omega,by have:=r.un;omega⟩
theorem dH.deeper {k:Nat} {A:Around} (r:dH (k+1) A) (env:Env):dH k (A.deeper env) :=
 ⟨r.hd,by have:=r.dp;show A.depth+1+3 * k+5 < _;omega,by have:=r.un;show A.units+3+16 * k+200 < _;omega⟩
theorem FW {A:Around} {C:Addr} {us:List Value} {kw:List (Str×Value)} : (A.under (.builtin "type.__call__" ⟨.ref C::us,kw⟩)).depth=A.depth+1:=by
 first | rfl | simp [Around.under,Code.weight,Code.isCreation,Code.isGuard,Code.isCaller,Code.frames,Code.isFrame,guardIds]
theorem FY {A:Around} {C:Addr} {us:List Value} {kw:List (Str×Value)} : (A.under (.builtin "type.__call__" ⟨.ref C::us,kw⟩)).units=A.units+1:=by
 first | rfl | simp [Around.under,Code.cUnits,Code.frames,Code.isFrame]
theorem dH.make {k:Nat} {A:Around} (r:dH (k+1) A) (C:Addr) (us:List Value) (kw:List (Str×Value)):dH k (A.under (.builtin "type.__call__" ⟨.ref C::us,kw⟩)) :=
 ⟨r.hd,by have:=r.dp;rw [FW];omega,by have:=r.un;rw [FY];omega⟩
theorem dH.depth {k:Nat} {A:Around} (r:dH k A):A.depth < recursionLimit:=by have:=r.dp;omega
theorem dH.units {k:Nat} {A:Around} (r:dH k A):A.units+64 < cLine:=by have:=r.un;omega
def D0:TA:=λ _ H Q=>Q [] H
def HX (ta:TE) (tr:TA):TA:=fun σ H Q=>ta σ H λ x H1=>tr σ H1 λ xs H2=>Q (x::xs) H2
section
variable {X:Cx} {e:Expr} {es:List Expr} {te:TE} {t:TA} {pos:Pos}
theorem ak:PA X [] D0:=λ _ _ _ _ H Q I h=>Calls.spliced_nil ⟨[],H,I,.nil,h⟩
theorem aa (ha:PE X e te) (hr:PA X es t) (hs:starEach (e::es) X.env=(false,eval e X.env)::starEach es X.env:=by rfl):PA X (e::es) (HX te t):=by
 intro pos pins s σ H Q I h
 rw [hs]
 show wpAny _ _ (spliced ((false,eval e X.env)::backTo pos (starEach es X.env))) _ _ s
 refine Calls.spliced_cons (cP (ha pins s σ H _ I h) λ u s1 ⟨x,H1,I1,r1,q1⟩ => ?_)
 exact cP (hr pos pins s1 σ H1 _ I1 q1) λ us s2 ⟨xs,H2,I2,r2,q2⟩=>⟨x::xs,H2,I2,.cons r1 r2,q2⟩
def Sb (t:TA):TE:=fun σ H Q=>t σ H λ xs H1=>xs.length<=sizeLine ∧ ∀ p,H1 p=none->Q (.ref p) (upd H1 p (.tup xs))
def Sd (t:TA):TE:=fun σ H Q=>t σ H λ xs H1=>xs.length<=sizeLine ∧ ∀ p,H1 p=none->Q (.ref p) (upd H1 p (.lst xs))
theorem dS {x1} (h:PA X es t):PE X (.Tuple es x1 pos) (Sb t):=by
 intro pins s σ H Q I hq
 refine wpAny_Tuple_spliced (cP (h pos pins s σ H _ I hq) λ us s1 ⟨xs,H1,I1,r,z,q⟩=>⟨by rw [<-r.length];exact z,?_⟩)
 have hf:H1 s1.heap.objs.size=none:=I1.hok.fresh (Nat.le_refl _)
 refine ⟨.ref s1.heap.objs.size,upd H1 s1.heap.objs.size (.tup xs),I1.laid (t':=s1.toks) (λ b u e=>Heap.get?_push_of_some _ e) (Nat.le_refl _) ?_,rfl,q _ hf⟩
 exact ⟨z,us,r,⟨_,Heap.get?_push_size _ rfl,rfl,_,rfl⟩⟩
theorem jo (h:PA X es t):PE X (.List es pos) (Sd t):=by
 intro pins s σ H Q I hq
 refine wpAny_List_spliced (cP (h pos pins s σ H _ I hq) λ us s1 ⟨xs,H1,I1,r,z,q⟩=>⟨by rw [<-r.length];exact z,?_⟩)
 have hf:H1 s1.heap.objs.size=none:=I1.hok.fresh (Nat.le_refl _)
 refine ⟨.ref s1.heap.objs.size,upd H1 s1.heap.objs.size (.lst xs),I1.laid (t':=s1.toks) (λ b u e=>Heap.get?_push_of_some _ e) (Nat.le_refl _) ?_,rfl,q _ hf⟩
 exact ⟨z,us,0,r,Heap.get?_push_size _ rfl⟩
end
abbrev Sp:=List V->Hp->VK->XK->Prop
abbrev Jj:=List Env->Hp->Shared->XK->Value->Shared->Prop
structure FZ (P:Program) (w:World) (K:PySem.W.Frag) (mg:Str->Option Value) (base:Heap) (A:Around) (outer:List Env) (s:Shared) (H:Hp):Prop where
 frames:A.frames=some outer
 mod:Mod K mg base
 bs : ∀ b o,base.get? b=some o->s.heap.get? b=some o/\H b=none
 Le:base.objs.size<=s.heap.objs.size
 pU:s.heap.FunFrames base outer
 OU : ∀ b∈frs outer,H b=none
 hok:k6 P w H s.heap
 bare:AllBare s.gens
def CE (outer:List Env) (P:Program) (w:World) (H:Hp) (s:Shared) (Q:VK) (u:Value) (s':Shared):Prop :=
 ∃ v H',s'.os=s.os/\AllBare s'.gens/\Un (frs outer) [] H H' s.heap s'.heap/\k6 P w H' s'.heap/\RelV v u/\Q v H'
def CR (CX:Jj) (outer:List Env) (P:Program) (w:World) (H:Hp) (s:Shared) (Q:VK) (E:XK) (r:Result) (s':Shared):Prop :=
 match r with
 | .ok (.ret u)=>CE outer P w H s Q u s'
 | .ok _=>False
 | .error e=>CX outer H s E e s'
structure gK (P:Program) (w:World) (K:PySem.W.Frag) (mg:Str->Option Value) (base:Heap) (CX:Jj) (k:Nat) (f:Addr) (fd:FuncData) (ps:List Str) (sp:Sp):Prop where
 len : ∀ vs H Q E,sp vs H Q E->vs.length=ps.length
 run : ∀ (A:Around) (outer:List Env) (s:Shared) (H:Hp) (args:Args) (us:List Value) (vs:List V) (Q:VK) (E:XK),dH k A->FZ P w K mg base A outer s H->BindsTo s fd args (ps.zip us)->Vals vs us->sp vs H Q E →
  codeAny (model P w) A (.call (.ref f) args) (CR CX outer P w H s Q E) s
theorem gK.mono {P:Program} {w:World} {K:PySem.W.Frag} {mg:Str->Option Value} {base:Heap} {CX:Jj} {j k:Nat} {f:Addr} {fd:FuncData} {ps:List Str} {sp:Sp} (F:gK P w K mg base CX j f fd ps sp) (h:j<=k) :
  gK P w K mg base CX k f fd ps sp:=⟨F.len,λ A outer s H args us vs Q E hr=>F.run A outer s H args us vs Q E (hr.mono h)⟩
theorem gK.imp {P:Program} {w:World} {K:PySem.W.Frag} {mg:Str->Option Value} {base:Heap} {CX:Jj} {k:Nat} {f:Addr} {fd:FuncData} {ps:List Str} {sp U5:Sp} (F:gK P w K mg base CX k f fd ps sp)
  (h : ∀ vs H Q E,U5 vs H Q E->sp vs H Q E):gK P w K mg base CX k f fd ps U5 :=
 ⟨λ vs H Q E q=>F.len vs H Q E (h _ _ _ _ q),λ A outer s H args us vs Q E hr he hb hv hs=>F.run A outer s H args us vs Q E hr he hb hv (h _ _ _ _ hs)⟩
theorem FZ.make {P:Program} {w:World} {K:PySem.W.Frag} {mg:Str->Option Value} {base:Heap} {A:Around} {outer:List Env} {s:Shared} {H:Hp} (e:FZ P w K mg base A outer s H) (C:Addr) (us:List Value) (kw:List (Str×Value)) :
  FZ P w K mg base (A.under (.builtin "type.__call__" ⟨.ref C::us,kw⟩)) outer s H:=⟨by first | exact e.frames | (simpa [Around.under,Code.envs,Code.isFrame,pushEnvs] using e.frames),e.mod,e.bs,e.Le,e.pU,e.OU,e.hok,e.bare⟩
section
variable {X:Cx} {pins:List (Addr×Obj)} {σ : St} {H:Hp} {s s':Shared}
theorem Inv.U6 (I:Inv X pins σ H s):FZ X.prog X.w X.K X.mg X.base X.A X.stack s H :=
 ⟨I.ok.frames,I.ok.mod,I.bs,Nat.le_trans I.ok.Le I.sz,I.stack,I.BW,I.hok,I.bare⟩
theorem Inv.after {Q:VK} {u:Value} (I:Inv X pins σ H s) (h:CE X.stack X.prog X.w H s Q u s'):EP X pins σ Q u s':=by
 obtain ⟨v,H',os,bare,un,hok,r,q⟩:=h
 obtain ⟨hh,g,d,t,os'⟩:=s'
 obtain rfl:os' = s.os:=os
 exact ⟨v,H',I.call (h':=hh) (g':=g) (d':=d) (t':=t) (ch:=[]) un hok bare (λ b z=>absurd z (by simp)),r,q⟩
end
def HY (sp:Sp) (jv:List V) (E:XK) (t:TA):TE:=fun σ H Q=>t σ H λ vs H1=>sp (vs++jv) H1 Q E
def Bj (C:Addr) (m:Str) (sp:Sp) (jv:List V) (E:XK) (ta:TE) (t:TA):TE:=fun σ H Q=>ta σ H λ x H1 => ∃ a dx fs,x = .ref a/\H1 a=some (.ins C dx fs)/\fs.lookup m=none ∧
 t σ H1 λ vs H2=>sp (x::(vs++jv)) H2 Q E
def Bk (C:Addr) (sp:Sp) (jv:List V) (E:XK) (t:TA):TE:=fun σ H Q=>t σ H λ vs H1 => ∀ x dx,H1 x=none->H1 dx=none->dx≠x →
 sp (.ref x::(vs++jv)) (upd (upd H1 dx (.own x)) x (.ins C dx [])) (λ v H2=>v = .aM/\Q (.ref x) H2) E
def Binds (K:PySem.W.Frag) (fd:FuncData) (ps:List Str) (ds:List Value):Prop :=
 ∀ (s:Shared) (us:List Value),K.In s.heap->(us++ds).length=ps.length->BindsTo s fd ⟨us,[]⟩ (ps.zip (us++ds))
theorem Binds.all {K:PySem.W.Frag} {fd:FuncData} {ps:List Str} (h : ∀ us:List Value,us.length=ps.length->bindArgs fd ⟨us,[]⟩ = pure (ps.zip us)):Binds K fd ps []:=λ s us _ hl=>by
 rw [List.append_nil] at hl ⊢
 exact .of_eq (h us hl)
def Passes (CX:Jj) (X:Cx) (E:XK):Prop := ∀ (pins:List (Addr×Obj)) (σ : St) (H:Hp) (s:Shared) (e:Value) (s':Shared),Inv X pins σ H s->CX X.stack H s E e s'->X.xe e s'
section
variable {X:Cx} {CX:Jj} {k:Nat} {f C:Addr} {fd:FuncData} {ps:List Str} {sp:Sp} {jv:List V} {ds:List Value} {E:XK} {x m:Str} {p pos apos:Pos} {e o:Expr} {es:List Expr} {ta:TE} {t:TA}
theorem F0 {pins:List (Addr×Obj)} {σ : St} {H:Hp} {s:Shared} {Q:VK} {us:List Value} {vs:List V} (F:gK X.prog X.w X.K X.mg X.base CX k f fd ps sp) (hr:dH k X.A) (hb:Binds X.K fd ps ds) (hd:Vals jv ds) (hx:Passes CX X E)
  (I:Inv X pins σ H s) (r:Vals vs us) (h:sp (vs++jv) H Q E):wpAny (model X.prog X.w) X.A (call (.ref f) us) (EP X pins σ Q) X.xe s:=by
 have r2:Vals (vs++jv) (us++ds):=r.append hd
 have hl:(us++ds).length=ps.length:=by rw [<-r2.length];exact F.len _ _ _ _ h
 refine wpAny_call (codeAny_mono (F.run X.A X.stack s H ⟨us,[]⟩ (us++ds) (vs++jv) Q E hr I.U6 (hb s us I.tP hl) r2 h) λ r s' hq => ?_)
 cases r with
 | error e=>exact hx pins σ H s e s' I hq
 | ok fl =>
   cases fl with
   | ret u=>exact I.after hq
   | next=>exact False.elim hq
   | brk=>exact False.elim hq
   | cont=>exact False.elim hq
theorem O2 (F:gK X.prog X.w X.K X.mg X.base CX k f fd ps sp) (hr:dH k X.A) (hg:Gl X x) (hm:X.mg x=some (.ref f)) (hk:PySem.W.keepIn X.K (.ref f)=true) (hb:Binds X.K fd ps ds) (hd:Vals jv ds) (hx:Passes CX X E)
  (ha:PA X (e::es) t) (hdb:(x == ("__debug__" : Str))=false:=by decide) (he:starEach (e::es) X.env=(false,eval e X.env)::starEach es X.env:=by rfl) (hpl:(backTo pos (starEach es X.env)).any (·.1)=false:=by rfl) :
  PE X (.Call (.Name x p) (e::es) [] pos) (HY sp jv E t):=by
 intro pins s σ H Q I h
 refine wpAny_Call_Name_kw (vC I hg hm ?_ hdb)
 refine PySem.W.callWith_K (h₀ := X.base) I.ok.mod.Uu hk (cP (ha pos pins s σ H _ I h) λ us s1 ⟨vs,H1,I1,r,q⟩=>⟨I1.tP,?_⟩) he hpl
 exact F0 F hr hb hd hx I1 r q
theorem O3 {pl:Sem Bool} (he:PE X o ta) (c:OH X.K C) (hm:Meth X.K C m f) (F:gK X.prog X.w X.K X.mg X.base CX k f fd ps sp) (hr:dH k X.A) (hb:Binds X.K fd ps ds) (hd:Vals jv ds) (hx:Passes CX X E) (ha:PA X (e::es) t)
  (hst:starEach (e::es) X.env=(false,eval e X.env)::starEach es X.env:=by rfl) (hpl:(backTo pos (starEach es X.env)).any (·.1)=false:=by rfl)
  (ht:eval (.Call (.Attribute o m apos) (e::es) [] pos) X.env=(do
   let ov <-eval o X.env
   standAt apos.atName
   let (f,first) <-holding [ov] (getMethod ov m pl)
   callWith pos f first (backTo pos (starEach (e::es) X.env)) (backToKw pos (keywordEach [] X.env))):=by rfl) :
  PE X (.Call (.Attribute o m apos) (e::es) [] pos) (Bj C m sp jv E ta t):=by
 intro pins s σ H Q I h
 refine PySem.W.methodCall_KW (pl:=pl) (cP (he pins s σ H _ I h) λ u s1 ⟨x,H1,I1,rx,a,dx,fs,ex,ea,l,q⟩ => ?_) ht
 subst ex
 obtain rfl:u=Value.ref a:=rx
 refine oJ I1 ea c hm l ?_
 refine PySem.W.callWith_K (first:=[.ref a]) (h₀ := X.base) I.ok.mod.Uu hm.kp (cP (ha pos pins s1 σ H1 _ I1 q) λ us s2 ⟨vs,H2,I2,r,q2⟩=>⟨I2.tP,?_⟩) hst hpl
 exact F0 (us := .ref a::us) (vs := .ref a::vs) F hr hb hd hx I2 (.cons rfl r) q2
theorem LP {pl:Sem Bool} (he:PE X o ta) (c:OH X.K C) (hm:Meth X.K C m f) (F:gK X.prog X.w X.K X.mg X.base CX k f fd ps sp) (hr:dH k X.A) (hb:Binds X.K fd ps ds) (hd:Vals jv ds) (hx:Passes CX X E)
  (ht:eval (.Call (.Attribute o m apos) [] [] pos) X.env=(do
   let ov <-eval o X.env
   standAt apos.atName
   let (f,first) <-holding [ov] (getMethod ov m pl)
   callWith pos f first (backTo pos (starEach [] X.env)) (backToKw pos (keywordEach [] X.env))):=by rfl) :
  PE X (.Call (.Attribute o m apos) [] [] pos) (Bj C m sp jv E ta D0):=by
 intro pins s σ H Q I h
 refine PySem.W.methodCall_KW (pl:=pl) (cP (he pins s σ H _ I h) λ u s1 ⟨x,H1,I1,rx,a,dx,fs,ex,ea,l,q⟩ => ?_) ht
 subst ex
 obtain rfl:u=Value.ref a:=rx
 refine oJ I1 ea c hm l ?_
 exact PySem.W.callWith_K0 (first:=[.ref a]) I1.tP hm.kp (F0 (us:=[.ref a]) (vs:=[.ref a]) F hr hb hd hx I1 (.cons rfl .nil) q)
structure Mk (K:PySem.W.Frag) (C f:Addr):Prop where
 makes:PySem.W.makesIn K C=true
 init:PySem.W.findIn K (.ref C) "__init__" = some (some (.ref f))
 fn:PySem.W.isFn K (.ref f)=true
 kp:PySem.W.keepIn K (.ref C)=true
theorem D3 {pins:List (Addr×Obj)} {σ : St} {H:Hp} {s:Shared} {Q:VK} {us:List Value} {vs:List V} (M:Mk X.K C f) (F:gK X.prog X.w X.K X.mg X.base CX k f fd ps sp) (hr:dH (k+1) X.A) (hb:Binds X.K fd ps ds) (hd:Vals jv ds)
  (hx:Passes CX X E) (I:Inv X pins σ H s) (r:Vals vs us)
  (h : ∀ x dx,H x=none->H dx=none->dx≠x->sp (.ref x::(vs++jv)) (upd (upd H dx (.own x)) x (.ins C dx [])) (λ v H2=>v = .aM/\Q (.ref x) H2) E) :
  wpAny (model X.prog X.w) X.A (call (.ref C) us) (EP X pins σ Q) X.xe s:=by
 have hq:=h (s.heap.objs.size+1) s.heap.objs.size (I.hok.fresh (Nat.le_succ _)) (I.hok.fresh (Nat.le_refl _)) (Nat.ne_of_lt (Nat.lt_succ_self _))
 have I2:=Inv.made (C:=C) I
 have r2:Vals (V.ref (s.heap.objs.size+1)::(vs++jv)) (Value.ref (s.heap.objs.size+1)::(us++ds)) := .cons rfl (r.append hd)
 have hl:(Value.ref (s.heap.objs.size+1)::us++ds).length=ps.length:=by
  have e:=r2.length
  rw [F.len _ _ _ _ hq] at e
  exact e.symm
 refine wpAny_call (LO (f:=f) I.tP M.makes M.init (beq_iff_eq.mp M.fn) (codeAny_mono (F.run _ X.stack _ _ ⟨Value.ref (s.heap.objs.size+1)::us,[]⟩ (Value.ref (s.heap.objs.size+1)::(us++ds)) _ _ E (hr.make C us [])
  (I2.U6.make C us []) (hb _ (Value.ref (s.heap.objs.size+1)::us) I2.tP hl) r2 hq) λ r s' hq' => ?_))
 cases r with
 | error e=>exact hx pins σ _ _ e s' I2 hq'
 | ok fl =>
   cases fl with
   | ret u =>
     obtain ⟨v,H',I3,rv,ev,q3⟩:=I2.after hq'
     subst ev
     exact ⟨rv,⟨V.ref (s.heap.objs.size+1),H',I3,rfl,q3⟩⟩
   | next=>exact False.elim hq'
   | brk=>exact False.elim hq'
   | cont=>exact False.elim hq'
theorem O4 (M:Mk X.K C f) (F:gK X.prog X.w X.K X.mg X.base CX k f fd ps sp) (hr:dH (k+1) X.A) (hg:Gl X x) (hm:X.mg x=some (.ref C)) (hb:Binds X.K fd ps ds) (hd:Vals jv ds) (hx:Passes CX X E)
  (ha:PA X (e::es) t) (hdb:(x == ("__debug__" : Str))=false:=by decide) (he:starEach (e::es) X.env=(false,eval e X.env)::starEach es X.env:=by rfl) (hpl:(backTo pos (starEach es X.env)).any (·.1)=false:=by rfl) :
  PE X (.Call (.Name x p) (e::es) [] pos) (Bk C sp jv E t):=by
 intro pins s σ H Q I h
 refine wpAny_Call_Name_kw (vC I hg hm ?_ hdb)
 refine PySem.W.callWith_K (h₀ := X.base) I.ok.mod.Uu M.kp (cP (ha pos pins s σ H _ I h) λ us s1 ⟨vs,H1,I1,r,q⟩=>⟨I1.tP,?_⟩) he hpl
 exact D3 M F hr hb hd hx I1 r q
theorem LQ (M:Mk X.K C f) (F:gK X.prog X.w X.K X.mg X.base CX k f fd ps sp) (hr:dH (k+1) X.A) (hg:Gl X x) (hm:X.mg x=some (.ref C)) (hb:Binds X.K fd ps ds) (hd:Vals jv ds) (hx:Passes CX X E)
  (hdb:(x == ("__debug__" : Str))=false:=by decide):PE X (.Call (.Name x p) [] [] pos) (Bk C sp jv E D0):=by
 intro pins s σ H Q I h
 refine wpAny_Call_Name_kw (vC I hg hm ?_ hdb)
 exact PySem.W.callWith_K0 I.tP M.kp (D3 (us:=[]) M F hr hb hd hx I .nil h)
end
section
variable {X:Cx} {CX:Jj} {k:Nat} {f C:Addr} {fd:FuncData} {ps ks:List Str} {sp:Sp} {E:XK} {x m:Str} {p pos apos kpos:Pos} {e o:Expr} {es:List Expr} {kws:List Keyword} {te ta:TE} {t tk:TA} {nm:Option Str}
variable {g:List Value->List Value->List Value} {gV:List V->List V->List V}
end
structure aD (N P:List Str) (sc:Scope):Prop where
 kind:sc.kind = .function
 co:sc.isCoroutine=false
 gen:sc.isGenerator=false
 nd:N.Nodup
 pre:N.take P.length=P
 par : ∀ x∈P,sc.names.lookup x=some .local\/sc.names.lookup x=some .cell
 Se : ∀ y∈sc.names,y.2 ≠ .free
theorem Bl {kindOf:Str->Option NameKind} {x:Str} : ∀ {binds:List (Str×Value)} {m:Str->Option Value},(∀ v,(x,v) ∉ binds)->bindL kindOf binds m x=m x
 | [],_,_=>rfl
 | (n,v)::r,m,h=>by
   unfold bindL
   rw [Bl λ w hw=>h w (List.mem_cons_of_mem _ hw)]
   split
   ·have:x≠n:=by rintro rfl;exact h v List.mem_cons_self
    simp [this]
   ·rfl
theorem Bm {kindOf:Str->Option NameKind} {x:Str} : ∀ {binds:List (Str×Value)} {m:Str->Option Value},(∀ v,(x,v) ∉ binds)->bindC kindOf binds m x=m x
 | [],_,_=>rfl
 | (n,v)::r,m,h=>by
   unfold bindC
   rw [Bm λ w hw=>h w (List.mem_cons_of_mem _ hw)]
   split
   ·rfl
   ·have:x≠n:=by rintro rfl;exact h v List.mem_cons_self
    simp [this]
theorem Bo {kindOf:Str->Option NameKind} {x:Str} {v:Value} : ∀ {P:List Str} {vs:List Value} {i:Nat} {m:Str->Option Value},P.Nodup->P[i]? = some x->vs[i]? = some v->kindOf x=some .local →
  bindL kindOf (P.zip vs) m x=some v
 | [],_,_,_,_,h,_,_=>by simp at h
 | _::_,[],_,_,_,_,h,_=>by simp at h
 | p::P,w::vs,0,m,nd,h1,h2,hk=>by
   simp at h1 h2;subst h1;subst h2
   show bindL kindOf ((p,w)::P.zip vs) m p=_
   unfold bindL
   rw [Bl λ v hv=>(List.nodup_cons.mp nd).1 (List.of_mem_zip hv).1,if_pos hk]
   simp
 | p::P,w::vs,i+1,m,nd,h1,h2,hk=>by
   show bindL kindOf ((p,w)::P.zip vs) m x=_
   unfold bindL
   exact Bo (i:=i) (List.nodup_cons.mp nd).2 (by simpa using h1) (by simpa using h2) hk
theorem Bp {kindOf:Str->Option NameKind} {x:Str} {v:Value} : ∀ {P:List Str} {vs:List Value} {i:Nat} {m:Str->Option Value},P.Nodup->P[i]? = some x->vs[i]? = some v->kindOf x≠some .local →
  bindC kindOf (P.zip vs) m x=some v
 | [],_,_,_,_,h,_,_=>by simp at h
 | _::_,[],_,_,_,_,h,_=>by simp at h
 | p::P,w::vs,0,m,nd,h1,h2,hk=>by
   simp at h1 h2;subst h1;subst h2
   show bindC kindOf ((p,w)::P.zip vs) m p=_
   unfold bindC
   rw [Bm λ v hv=>(List.nodup_cons.mp nd).1 (List.of_mem_zip hv).1,if_neg hk]
   simp
 | p::P,w::vs,i+1,m,nd,h1,h2,hk=>by
   show bindC kindOf ((p,w)::P.zip vs) m x=_
   unfold bindC
   exact Bp (i:=i) (List.nodup_cons.mp nd).2 (by simpa using h1) (by simpa using h2) hk
def start (N:List Str) (vs:List V):St:=vs.map some++List.replicate (N.length - vs.length) none
def vV (CX:Jj) (P:Program) (w:World) (K:PySem.W.Frag) (mg:Str->Option Value) (base:Heap) (N:List Str) (qual:Str) (scope:Scope) (f:Addr) (cd:Value) (A:Around) (outer:List Env) (s:Shared) (H:Hp) (E:XK):Cx where
 prog:=P
 w:=w
 K:=K
 mg:=mg
 base:=base
 A:=A.deeper (envOfC qual scope s.heap.objs.size f cd)
 N:=N
 s₀ := s
 H₀ := H
 env:=envOfC qual scope s.heap.objs.size f cd
 outer:=outer
 stack:=envOfC qual scope s.heap.objs.size f cd::outer
 ex:=[]
 calm:=true
 fn:=λ _=>true
 pn:=[]
 xe:=λ e s'=>wpAny (model P w) (A.deeper (envOfC qual scope s.heap.objs.size f cd)) (leaving (envOfC qual scope s.heap.objs.size f cd) e) (λ _ s''=>CX outer H s E e s'') (λ e' s''=>CX outer H s E e' s'') s'
theorem D4 {sc:Scope} {n:Nat} {x:Str} (h:sc.names.lookup x=some .cell) : ∃ c,(cellsFrom n sc.names []).lookup x=some c:=by
 have q:=PySem.W.cellsFrom_some sc.names n [] (.inl h)
 exact Option.isSome_iff_exists.mp q
theorem Jk {CX:Jj} {P:Program} {w:World} {K:PySem.W.Frag} {mg:Str->Option Value} {base:Heap} {N ps:List Str} {qual:Str} {scope:Scope} {f:Addr} {cd:Value} {A:Around} {outer:List Env} {s s1:Shared} {H:Hp} {E:XK} {us:List Value} {vs:List V}
  (S:aD N ps scope) (hd:A.handled=none) (e0:FZ P w K mg base A outer s H) (hl:vs.length=ps.length) (r:Vals vs us)
  (x:InCallC s s.heap.objs.size (bindL (envOfC qual scope s.heap.objs.size f cd).kindOf (ps.zip us) λ _=>none) (cellsFrom (s.heap.objs.size+1) scope.names []) (bindC (envOfC qual scope s.heap.objs.size f cd).kindOf (ps.zip us) λ _=>none) s1) :
  Inv (vV CX P w K mg base N qual scope f cd A outer s H E) [] (start N vs) H s1:=by
 have hpl:ps.length<=N.length:=by have:=congrArg List.length S.pre;rw [List.length_take] at this;omega
 obtain ⟨h1,tk,rfl,hk⟩:=x.done
 have U7 : ∀ b:Addr,b ∉ (vV CX P w K mg base N qual scope f cd A outer s H E).ex:=λ b z=>absurd (show b∈([]:List Addr) from z) (by simp)
 refine ⟨⟨e0.mod,S.kind,rfl,rfl,Nat.le_refl _,λ y z c h1 h2 => ?_,λ y hy => ?_,λ y c _ h => ?_,λ _=>hd,Around.frames_deeper e0.frames,.inr ⟨rfl,rfl⟩,λ b z=>absurd z (U7 b),e0.bs,e0.Le,λ b _ _=>U7 b,λ b z=>absurd z (U7 b),e0.pU,e0.OU⟩,
  rfl,e0.bare,Un.kept hk,⟨_,x.toInCall.ns,λ i y v h1 h2 h3 => ?_⟩,λ y c h=>⟨_,x.cell y c h⟩,e0.hok.fresh (Nat.le_refl _),λ y c h => ?_,λ p hp=>absurd (show p∈([]:List (Addr×Obj)) from hp) (by simp),e0.hok.kept hk,?_⟩
 ·exact name_of_addr x.apart (PySem.mem_of_lookup h1) (PySem.mem_of_lookup h2)
 ·have hy:scope.names.lookup y=some .cell\/scope.names.lookup y=some .free:=hy
  rcases hy with hy | hy
  ·exact D4 hy
  ·exact absurd rfl (S.Se _ (PySem.mem_of_lookup hy))
 ·exact Nat.le_of_lt (x.above y c (PySem.mem_of_lookup h))
 ·have hi:i < vs.length:=by
   unfold start at h2
   by_cases hi:i < vs.length
   ·exact hi
   ·rw [List.getElem?_append_right (by simpa using hi)] at h2
    rw [List.getElem?_replicate] at h2
    split at h2 <;> cases h2
  have ha:vs[i]? = some v:=by
   unfold start at h2
   rw [List.getElem?_append_left (by simpa using hi),List.getElem?_map] at h2
   cases e:vs[i]? with
   | none=>rw [e] at h2;cases h2
   | some a=>rw [e] at h2;cases h2;rfl
  obtain ⟨u,hu,rv⟩:=r.get ha
  have hp:ps[i]? = some y:=by
   rw [<-S.pre,List.getElem?_take_of_lt (by omega)];exact h1
  have ndP:ps.Nodup:=by rw [<-S.pre];exact S.nd.sublist (List.take_sublist _ _)
  refine ⟨u,rv,?_⟩
  rcases S.par y (List.mem_of_getElem? hp) with k | k
  ·exact .inl ⟨k,Bo ndP hp hu k⟩
  ·obtain ⟨c,e⟩:=D4 (n:=s.heap.objs.size+1) k
   refine .inr ⟨.inl k,c,e,?_⟩
   have q:=x.cell y c e
   rw [Bp ndP hp hu (by show scope.names.lookup y≠_;rw [k];decide)] at q
   exact q
 ·exact e0.hok.fresh (Nat.le_of_lt (x.above y c (PySem.mem_of_lookup h)))
 ·unfold start
  show _=N.length
  rw [List.length_append,List.length_map,List.length_replicate]
  omega
theorem Bq {CX:Jj} {P:Program} {w:World} {K:PySem.W.Frag} {mg:Str->Option Value} {base:Heap} {k:Nat} {f:Addr} {name qual:Str} {params:Arguments} {body:List Stmt} {scope:Scope} {dV kV doc pm cdv ct oc:Value} {an od:Option Addr}
  {osl:Array (Option Value)} {N ps:List Str} {sp:Sp} (lk:K.lookup f=some ⟨oc,od,.func (PySem.W.fnOf name qual params body scope dV kV doc pm an cdv ct),osl⟩) (hcd:PySem.W.codeIn K cdv qual=true) (S:aD N ps scope)
  (len : ∀ vs H Q E,sp vs H Q E->vs.length=ps.length)
  (hbody : ∀ (A:Around) (outer:List Env) (s:Shared) (H:Hp) (vs:List V) (Q:VK) (E:XK),dH k (A.deeper (envOfC qual scope s.heap.objs.size f cdv))->sp vs H Q E →
   ∃ t,BX (vV CX P w K mg base N qual scope f cdv A outer s H E) body t/\t { nx:=λ _ H'=>Q .aM H',rt:=Q } (start N vs) H) :
  gK P w K mg base CX (k+1) f (PySem.W.fnOf name qual params body scope dV kV doc pm an cdv ct) ps sp:=by
 refine ⟨len,λ A outer s H args us vs Q E hr e0 hb r Fy => ?_⟩
 have hl:=len _ _ _ _ Fy
 have KX:K.In s.heap:=e0.mod.Uu.keeps λ b o e=>(e0.bs b o e).1
 have lim:s.heap.NoLimit:=e0.mod.nolimit.keeps λ b o e=>(e0.bs b o e).1
 have hkind : ∀ y∈ps.zip us,scope.names.lookup y.1=some .local\/(scope.names.lookup y.1=some .cell/\((cellsFrom (s.heap.objs.size+1) scope.names []).lookup y.1).isSome=true):=λ ⟨n,v⟩ hy=>by
  rcases S.par n (List.of_mem_zip hy).1 with q | q
  ·exact .inl q
  ·exact .inr ⟨q,PySem.W.cellsFrom_some _ _ _ (.inl q)⟩
 refine codeAny_call_function hr.depth (KX _ _ lk) rfl S.co S.gen rfl (PySem.W.codeRec_of KX hcd) (hb _ _ _ _ ?_)
 refine wpAny_newFunctionEnv_cells S.kind hkind λ env he s1 x => ?_
 subst he
 refine ⟨lim.keeps x.toInCall.keep,codeAny_func ?_⟩
 obtain ⟨t,ht,hq⟩:=hbody A outer s H vs Q E (hr.deeper _) Fy
 have I:Inv (vV CX P w K mg base N qual scope f cdv A outer s H E) [] (start N vs) H s1:=Jk S hr.hd e0 hl r x
 refine wpAny_mono (ht [] s1 (start N vs) H _ I hq) (λ fl s' hs => ?_) λ e s' hs=>hs
 have fin : ∀ {σ':St} {H':Hp} {v:V} {u:Value},Inv (vV CX P w K mg base N qual scope f cdv A outer s H E) [] σ' H' s'->RelV v u->Q v H'->CE outer P w H s Q u s' :=
  fun {σ' H' v u} J rv q=>⟨v,H',J.os,J.bare,J.base,J.hok,rv,q⟩
 cases fl with
 | ret u =>
   obtain ⟨v,σ',H',J,rv,q⟩:=hs
   exact fin J rv q
 | next =>
   obtain ⟨σ',H',J,q⟩:=hs
   exact fin (v:=V.aM) (u:=Value.none) J rfl q
 | brk =>
   obtain ⟨_,_,_,q⟩:=hs
   exact False.elim q
 | cont =>
   obtain ⟨_,_,_,q⟩:=hs
   exact False.elim q
end L2
namespace L2
open PySem PySem.Spec PyProof.Rows
section
variable {X:Cx} {x:Str} {p pos:Pos} {e:Expr} {es:List Expr} {t:TA} {id T:String} {r:List V->Hp->VK->Prop}
def U8 (r:List V->Hp->VK->Prop) (t:TA):TE:=fun σ H Q=>t σ H λ vs H1=>r vs H1 Q
theorem aH (hc:lN X (.builtin id) r) (hg:Gl X x) (hm:X.mg x=none) (hv:bootBuiltins x=some (.builtin id)) (ha:PA X (e::es) t) (hn:x ≠ "__name__" := by decide) (hdb:(x == ("__debug__" : Str))=false:=by decide)
  (he:starEach (e::es) X.env=(false,eval e X.env)::starEach es X.env:=by rfl) (hpl:(backTo pos (starEach es X.env)).any (·.1)=false:=by rfl):PE X (.Call (.Name x p) (e::es) [] pos) (U8 r t):=by
 intro pins s σ H Q I h
 refine wpAny_Call_Name_kw (BY I hg hm hv ?_ hn hdb)
 exact PyProof.Rows.callWith_builtin1 (cP (ha pos pins s σ H _ I h) λ us s1 ⟨vs,H1,I1,r1,q1⟩=>hc pins s1 σ H1 vs us Q I1 r1 q1) he hpl
theorem bh (hc:lN X (.type T) r) (hg:Gl X x) (hm:X.mg x=none) (hv:bootBuiltins x=some (.type T)) (ha:PA X (e::es) t) (hn:x ≠ "__name__" := by decide) (hdb:(x == ("__debug__" : Str))=false:=by decide)
  (he:starEach (e::es) X.env=(false,eval e X.env)::starEach es X.env:=by rfl) (hpl:(backTo pos (starEach es X.env)).any (·.1)=false:=by rfl):PE X (.Call (.Name x p) (e::es) [] pos) (U8 r t):=by
 intro pins s σ H Q I h
 refine wpAny_Call_Name_kw (BY I hg hm hv ?_ hn hdb)
 exact PyProof.Rows.callWith_type1 (cP (ha pos pins s σ H _ I h) λ us s1 ⟨vs,H1,I1,r1,q1⟩=>hc pins s1 σ H1 vs us Q I1 r1 q1) he hpl
end
end L2
namespace L2
open PySem PySem.Spec PyProof.Rows
section
variable {κ : Type} [DecidableEq κ]
def bx (kvs:List (κ × V)) (k : κ):Option V:=(kvs.find? λ kv=>decide (kv.1=k)).map (·.2)
def putK (kvs:List (κ × V)) (k : κ) (v:V):List (κ × V) :=
 if (kvs.any λ kv=>decide (kv.1=k))=true then kvs.map (λ kv=>if kv.1=k then (kv.1,v) else kv) else kvs++[(k,v)]
def dW (kvs:List (κ × V)) (k : κ):List (κ × V):=kvs.filter λ kv=>decide (kv.1≠k)
theorem bT {p : κ × V} {r:List (κ × V)} {k : κ} (e:p.1=k):bx (p::r) k=some p.2:=by simp [bx,List.find?_cons,e]
theorem bH {p : κ × V} {r:List (κ × V)} {k : κ} (e : ¬ p.1=k):bx (p::r) k=bx r k:=by simp [bx,List.find?_cons,e]
theorem dI (k : κ) : ∀ kvs:List (κ × V),(kvs.any λ kv=>decide (kv.1=k))=(bx kvs k).isSome
 | []=>rfl
 | p::r=>by
   rw [List.any_cons]
   by_cases e:p.1=k
   ·simp only [bT e,decide_eq_true e,Bool.true_or,Option.isSome_some]
   ·rw [bH e,decide_eq_false e,Bool.false_or];exact dI k r
theorem D5 (k j : κ) (y:V) : ∀ kvs:List (κ × V),bx (kvs.map λ kv=>if kv.1=k then (kv.1,y) else kv) j=(bx kvs j).map λ x=>if j=k then y else x
 | []=>rfl
 | p::r=>by
   have ih:=D5 k j y r
   rw [List.map_cons]
   by_cases h:p.1=k
   ·rw [if_pos h]
    by_cases e:p.1=j
    ·rw [bT (p:=(p.1,y)) e,bT e,Option.map_some,if_pos (e.symm.trans h)]
    ·rw [bH (p:=(p.1,y)) e,bH e,ih]
   ·rw [if_neg h]
    by_cases e:p.1=j
    ·rw [bT (p:=p) e,bT e,Option.map_some,if_neg (λ z=>h (e.trans z))]
    ·rw [bH (p:=p) e,bH e,ih]
theorem Br (k j : κ) (y:V) : ∀ kvs:List (κ × V),bx kvs k=none->bx (kvs++[(k,y)]) j=if j=k then some y else bx kvs j
 | [],_=>by
   by_cases e:k=j
   ·rw [if_pos e.symm];exact bT (p:=(k,y)) e
   ·rw [if_neg (λ z=>e z.symm)];exact bH (p:=(k,y)) e
 | p::r,hn=>by
   rw [List.cons_append]
   have hk : ¬ p.1=k:=λ z=>by rw [bT z] at hn;cases hn
   rw [bH hk] at hn
   have ih:=Br k j y r hn
   by_cases e:p.1=j
   ·rw [bT e,bT e,if_neg (λ z=>hk (e.trans z))]
   ·rw [bH e,bH e,ih]
theorem D6 (kvs:List (κ × V)) (k j : κ) (y:V):bx (putK kvs k y) j=if j=k then some y else bx kvs j:=by
 unfold putK
 by_cases a:(kvs.any λ kv=>decide (kv.1=k))=true
 ·rw [if_pos a,D5]
  rw [dI] at a
  by_cases e:j=k
  ·obtain ⟨x,hx⟩:=Option.isSome_iff_exists.mp a
   rw [if_pos e,e,hx,Option.map_some,if_pos rfl]
  ·rw [if_neg e]
   cases bx kvs j with
   | none=>rfl
   | some x=>rw [Option.map_some,if_neg e]
 ·rw [if_neg a]
  refine Br k j y kvs ?_
  rw [dI] at a
  cases q:bx kvs k with
  | none=>rfl
  | some x=>rw [q] at a;exact (a rfl).elim
theorem gz (kvs:List (κ × V)) (k : κ) (v:V):(putK kvs k v).length<=kvs.length+1:=by
 unfold putK
 split
 ·rw [List.length_map];omega
 ·rw [List.length_append,List.length_cons,List.length_nil];omega
theorem D7 {kvs:List (κ × V)} {k : κ} (v:V) (h:bx kvs k=none):putK kvs k v=kvs++[(k,v)]:=by
 unfold putK
 rw [dI,h]
 exact if_neg (by decide)
theorem j6.ig {o:Option V} {u:Option Value} (r:j6 o u):o.isSome=u.isSome:=by
 cases o with
 | none=>cases u with
   | none=>rfl
   | some _=>exact (show False from r).elim
 | some _=>cases u with
   | none=>exact (show False from r).elim
   | some _=>rfl
theorem j6.getD {o:Option V} {u:Option Value} {d:V} {d':Value} (r:j6 o u) (rd:RelV d d'):RelV (o.getD d) (u.getD d'):=by
 cases o with
 | none=>cases u with
   | none=>exact rd
   | some _=>exact (show False from r).elim
 | some _=>cases u with
   | none=>exact (show False from r).elim
   | some _=>exact r
theorem KV.val {kvs:List (κ × V)} {vs:List (κ × Value)} (r:KV kvs vs) (k : κ):j6 (bx kvs k) (valueAt vs k):=by
 unfold KV at r
 induction r with
 | nil=>exact True.intro
 | @cons p q ps qs h t ih =>
   obtain ⟨h1,h2⟩:=h
   by_cases e:p.1=k
   ·have e':q.1=k:=h1.symm.trans e
    have b:valueAt (q::qs) k=some q.2:=by simp [valueAt,List.find?_cons,e']
    rw [bT e,b];exact h2
   ·have e' : ¬ q.1=k:=λ z=>e (h1.trans z)
    have b:valueAt (q::qs) k=valueAt qs k:=by simp [valueAt,List.find?_cons,e']
    rw [bH e,b];exact ih
theorem KV.any {kvs:List (κ × V)} {vs:List (κ × Value)} (r:KV kvs vs) (k : κ):(kvs.any λ kv=>decide (kv.1=k))=vs.any λ kv=>decide (kv.1=k):=by
 unfold KV at r
 induction r with
 | nil=>rfl
 | cons h t ih=>rw [List.any_cons,List.any_cons,ih,h.1]
theorem KV.repl {kvs:List (κ × V)} {vs:List (κ × Value)} (r:KV kvs vs) (k : κ) {y:V} {u:Value} (ry:RelV y u) :
  KV (kvs.map λ kv=>if kv.1=k then (kv.1,y) else kv) (vs.map λ kv=>if kv.1=k then (kv.1,u) else kv):=by
 unfold KV at r ⊢
 induction r with
 | nil=>exact .nil
 | @cons p q ps qs h t ih =>
   rw [List.map_cons,List.map_cons]
   refine .cons ?_ ih
   obtain ⟨h1,h2⟩:=h
   by_cases e:p.1=k
   ·rw [if_pos e,if_pos (h1.symm.trans e)];exact ⟨h1,ry⟩
   ·rw [if_neg e,if_neg (λ z=>e (h1.trans z))];exact ⟨h1,h2⟩
theorem KV.put {kvs:List (κ × V)} {vs:List (κ × Value)} (r:KV kvs vs) (k : κ) {y:V} {u:Value} (ry:RelV y u):KV (putK kvs k y) (stored vs k u):=by
 unfold putK stored
 rw [r.any k]
 by_cases e:(vs.any λ kv=>decide (kv.1=k))=true
 ·rw [if_pos e,if_pos e];exact r.repl k ry
 ·rw [if_neg e,if_neg e];exact Paired.snoc r ⟨rfl,ry⟩
theorem KV.drop {kvs:List (κ × V)} {vs:List (κ × Value)} (r:KV kvs vs) (k : κ):KV (dW kvs k) (without vs k):=by
 unfold KV at r ⊢
 unfold dW without
 induction r with
 | nil=>exact .nil
 | @cons p q ps qs h t ih =>
   obtain ⟨h1,h2⟩:=h
   rw [List.filter_cons,List.filter_cons]
   by_cases e:p.1=k
   ·have a : ¬ decide (p.1≠k)=true:=by simp [e]
    have b : ¬ decide (q.1≠k)=true:=by simp [h1.symm.trans e]
    rw [if_neg a,if_neg b];exact ih
   ·have e' : ¬ q.1=k:=λ z=>e (h1.trans z)
    have a:decide (p.1≠k)=true:=by simp [e]
    have b:decide (q.1≠k)=true:=by simp [e']
    rw [if_pos a,if_pos b];exact .cons ⟨h1,h2⟩ ih
theorem KV.keys {kvs:List (κ × V)} {vs:List (κ × Value)} (r:KV kvs vs):kvs.map (·.1)=vs.map (·.1):=by
 unfold KV at r
 induction r with
 | nil=>rfl
 | cons h t ih=>rw [List.map_cons,List.map_cons,ih,h.1]
theorem KV.length {kvs:List (κ × V)} {vs:List (κ × Value)} (r:KV kvs vs):kvs.length=vs.length:=Paired.length r
theorem vW (kvs:List (κ × V)) (k : κ):(dW kvs k).length<=kvs.length:=List.length_filter_le _ _
end
theorem tT {P:Program} {w:World} {k:Key} {u:Value} (r:RelV (kV k) u):(b8 P w).is k u=true:=by
 cases k with
 | inl i=>obtain ⟨t,e⟩:=(show ∃ t,u=Value.int i t from r);subst e;exact DW P w i t
 | inr x=>obtain ⟨t,e⟩:=(show ∃ t,u=Value.str x t from r);subst e;exact DX P w x t
theorem Bs {P:Program} {w:World} : ∀ {ks:List Key} {us:List Value},Vals (ks.map kV) us->ItemsAre (b8 P w) ks us
 | [],_,r=>by rw [List.map_nil] at r;cases r;exact .nil
 | k::ks,_,r=>by
   rw [List.map_cons] at r
   cases r with
   | cons h t=>exact .cons (tT h) (Bs t)
abbrev KT (H:Hp):List (List Key×V)->List (List Key×Addr×Value)->Prop:=Paired λ p q=>p.1=q.1/\H q.2.1=some (.tup (p.1.map kV))/\RelV p.2 q.2.2
theorem KT.val {H:Hp} {kvs:List (List Key×V)} {xs:List (List Key×Addr×Value)} (r:KT H kvs xs) (k:List Key):j6 (bx kvs k) ((atKey xs k).map (·.2)):=by
 induction r with
 | nil=>exact True.intro
 | @cons p q ps qs h t ih =>
   obtain ⟨h1,_,h2⟩:=h
   by_cases e:p.1=k
   ·have e':q.1=k:=h1.symm.trans e
    have b:atKey (q::qs) k=some q.2:=by simp [atKey,List.find?_cons,e']
    rw [bT e,b];exact h2
   ·have e' : ¬ q.1=k:=λ z=>e (h1.trans z)
    have b:atKey (q::qs) k=atKey qs k:=by simp [atKey,List.find?_cons,e']
    rw [bH e,b];exact ih
theorem KT.repl {H:Hp} {kvs:List (List Key×V)} {xs:List (List Key×Addr×Value)} (r:KT H kvs xs) (k:List Key) {y:V} {u:Value} (ry:RelV y u) :
  KT H (kvs.map λ kv=>if kv.1=k then (kv.1,y) else kv) (xs.map (putAt k u)):=by
 induction r with
 | nil=>exact .nil
 | @cons p q ps qs h t ih =>
   rw [List.map_cons,List.map_cons]
   refine .cons ?_ ih
   obtain ⟨h1,h2,h3⟩:=h
   unfold putAt
   by_cases e:p.1=k
   ·rw [if_pos e,if_pos (h1.symm.trans e)];exact ⟨h1,h2,ry⟩
   ·rw [if_neg e,if_neg (λ z=>e (h1.trans z))];exact ⟨h1,h2,h3⟩
theorem KT.put {H:Hp} {kvs:List (List Key×V)} {xs:List (List Key×Addr×Value)} (r:KT H kvs xs) (k:List Key) {b:Addr} {y:V} {u:Value} (hb:H b=some (.tup (k.map kV))) (ry:RelV y u) :
  KT H (putK kvs k y) (storedH xs k b u):=by
 have e:(kvs.any λ kv=>decide (kv.1=k))=(atKey xs k).isSome:=by
  rw [dI,(r.val k).ig,Option.isSome_map]
 unfold putK storedH
 rw [e]
 by_cases q:(atKey xs k).isSome=true
 ·rw [if_pos q,if_pos q];exact r.repl k ry
 ·rw [if_neg q,if_neg q];exact Paired.snoc r ⟨rfl,hb,ry⟩
theorem KT.keeps {H H':Hp} {kvs:List (List Key×V)} {xs:List (List Key×Addr×Value)} (r:KT H kvs xs) (ht : ∀ b ys,H b=some (.tup ys)->H' b=some (.tup ys)):KT H' kvs xs :=
 Paired.RS r λ _ _ z=>⟨z.1,ht _ _ z.2.1,z.2.2⟩
section
variable {P:Program} {w:World} {H:Hp} {h:Heap} {a:Addr}
theorem Q4 {u:HO} (ok:k6 P w H h) (e:Rd H a u):bY P w H h a u:=e.ok ok
theorem tU {kvs:List (Key×V)} (ok:k6 P w H h) (e:Rd H a (.dK kvs)):kvs.length<=sizeLine/\(a == sysModules)=false ∧ ∃ vs,KV kvs vs/\h.DictOf (b8 P w) a vs :=
 show bY P w H h a (.dK kvs) from Q4 ok e
theorem LR {kvs:List (Key×V)} (ok:k6 P w H h) (e:H a=some (.dK kvs)):kvs.length<=sizeLine/\(a == sysModules)=false ∧ ∃ vs,KV kvs vs/\h.DictOf (b8 P w) a vs:=tU ok (.inl e)
theorem rE {ks:List Key} (ok:k6 P w H h) (e:H a=some (.tup (ks.map kV))):(tupleKind (b8 P w)).is h ks a:=by
 obtain ⟨_,its,r,o,h1,h2,n,h3⟩:=(show bY P w H h a (.tup (ks.map kV)) from ok a _ e)
 exact ⟨o,its.toArray,n,h1,h2,h3,by simpa using Bs r⟩
theorem vX {kvs:List (List Key×V)} (ok:k6 P w H h) (e:Rd H a (.dT kvs)):kvs.length<=sizeLine/\(a == sysModules)=false ∧
  ∃ xs,KT H kvs xs/\h.DictOfH (tupleKind (b8 P w)) a xs:=by
 obtain ⟨z,y,xs,r,o,es,ep,h1,h2,h3,h4,h5⟩:=(show bY P w H h a (.dT kvs) from Q4 ok e)
 refine ⟨z,y,xs,r,o,es,ep,h1,h2,h3,h4,λ x hx => ?_,h5⟩
 have all : ∀ {l:List (List Key×V)} {m:List (List Key×Addr×Value)},KT H l m->∀ x∈m,(tupleKind (b8 P w)).is h x.1 x.2.1:=by
  intro l m q
  induction q with
  | nil=>intro x hx;exact nomatch hx
  | @cons p q ps qs hq t ih =>
    intro x hx
    rcases List.mem_cons.mp hx with e | hx
    ·subst e
     exact rE ok (by rw [<-hq.1];exact hq.2.1)
    ·exact ih x hx
 exact all r x hx
theorem Q5 {kvs:List (List Key×V)} (ok:k6 P w H h) (e:H a=some (.dT kvs)):kvs.length<=sizeLine/\(a == sysModules)=false ∧
  ∃ xs,KT H kvs xs/\h.DictOfH (tupleKind (b8 P w)) a xs:=vX ok (.inl e)
end
def fY (H:Hp) (a:Addr) (y:V) (r:Option V):Prop :=
 (∃ kvs k,Rd H a (.dK kvs)/\y=kV k/\r=bx kvs k) ∨ ∃ kvs k b,Rd H a (.dT kvs)/\y = .ref b/\H b=some (.tup (k.map kV))/\r=bx kvs k
def oK (H:Hp) (a:Addr) (y v:V) (H':Hp):Prop :=
 (∃ kvs k,H a=some (.dK kvs)/\y=kV k/\kvs.length < sizeLine/\H' = upd H a (.dK (putK kvs k v))) ∨
 ∃ kvs k b,H a=some (.dT kvs)/\y = .ref b/\H b=some (.tup (k.map kV))/\kvs.length < sizeLine/\H' = upd H a (.dT (putK kvs k v))
theorem fY.k {H:Hp} {a:Addr} {kvs:List (Key×V)} {k:Key} (e:H a=some (.dK kvs)):fY H a (kV k) (bx kvs k) := .inl ⟨kvs,k,.inl e,rfl,rfl⟩
theorem fY.t {H:Hp} {a b:Addr} {kvs:List (List Key×V)} {k:List Key} (e:H a=some (.dT kvs)) (eb:H b=some (.tup (k.map kV))):fY H a (.ref b) (bx kvs k) := .inr ⟨kvs,k,b,.inl e,rfl,eb,rfl⟩
theorem oK.k {H:Hp} {a:Addr} {kvs:List (Key×V)} {k:Key} {v:V} (e:H a=some (.dK kvs)) (hl:kvs.length < sizeLine):oK H a (kV k) v (upd H a (.dK (putK kvs k v))) := .inl ⟨kvs,k,e,rfl,hl,rfl⟩
theorem oK.t {H:Hp} {a b:Addr} {kvs:List (List Key×V)} {k:List Key} {v:V} (e:H a=some (.dT kvs)) (eb:H b=some (.tup (k.map kV))) (hl:kvs.length < sizeLine) :
  oK H a (.ref b) v (upd H a (.dT (putK kvs k v))) := .inr ⟨kvs,k,b,e,rfl,eb,hl,rfl⟩
section
variable {X:Cx} {pins:List (Addr×Obj)} {σ : St} {H:Hp} {s:Shared} {a:Addr} {y v:V} {u r:Value} {o:Option V} {A:Around} {E:Value->Shared->Prop}
theorem Inv.big (I:Inv X pins σ H s):sysModules < s.heap.objs.size:=by
 have h:mainGlobals < s.heap.objs.size:=(I.mod.glob.keeps I.bk).lt
 exact Nat.lt_trans (by decide) h
theorem Jl {Q:Value->Shared->Prop} (hu:A.units+1 < cLine) (I:Inv X pins σ H s) (g:fY H a y (some v)) (ry:RelV y u) (h : ∀ w' s',Inv X pins σ H s'->RelV v w'->Q w' s') :
  wpAny (model X.prog X.w) A (getItem (.ref a) u) Q E s:=by
 rcases g with ⟨kvs,k,e,ey,l⟩ | ⟨kvs,k,b,e,ey,eb,l⟩
 ·subst ey
  obtain ⟨z,hd,vs,rel,dd⟩:=tU I.hok e
  obtain ⟨w',hw,rw'⟩:=j6.some_of (v:=v) (o:=valueAt vs k) (by rw [l];exact rel.val k)
  exact wpAny_getItem_of (tT ry) dd.mapOf hw (h w' _ (I.tok _) rw')
 ·subst ey
  cases (show u=Value.ref b from ry)
  obtain ⟨z,hd,xs,rel,dd⟩:=vX I.hok e
  obtain ⟨w',hw,rw'⟩:=j6.some_of (v:=v) (o:=(atKey xs k).map (·.2)) (by rw [l];exact rel.val k)
  obtain ⟨p,hp,hp2⟩:=Option.map_eq_some_iff.mp hw
  refine wpAny_getItem_heap (tupleKind_room_in1 hu) (rE I.hok eb) dd hp ?_
  rw [hp2]
  exact h w' _ (I.tok _) rw'
theorem Yg {Q:Value->Shared->Prop} (hu:A.units+1 < cLine) (I:Inv X pins σ H s) (g:fY H a y o) (ry:RelV y u) (h : ∀ s',Inv X pins σ H s'->Q (.bool o.isSome) s') :
  wpAny (model X.prog X.w) A (compareOp .In u (.ref a)) Q E s:=by
 rcases g with ⟨kvs,k,e,ey,l⟩ | ⟨kvs,k,b,e,ey,eb,l⟩
 ·subst ey
  obtain ⟨z,hd,vs,rel,dd⟩:=tU I.hok e
  refine wpAny_in_of (tT ry) hd dd.mapOf ?_
  rw [<-(rel.val k).ig,<-l]
  exact h _ (I.tok _)
 ·subst ey
  cases (show u=Value.ref b from ry)
  obtain ⟨z,hd,xs,rel,dd⟩:=vX I.hok e
  refine wpAny_in_heap (tupleKind_room_in1 hu) (rE I.hok eb) hd dd ?_
  have q:=(rel.val k).ig
  rw [Option.isSome_map] at q
  rw [<-q,<-l]
  exact h _ (I.tok _)
theorem O5 {Q:Value->Shared->Prop} (hu:A.units+1 < cLine) (I:Inv X pins σ H s) (g:fY H a y o) (ry:RelV y u) (h : ∀ s',Inv X pins σ H s'->Q (.bool (!o.isSome)) s') :
  wpAny (model X.prog X.w) A (compareOp .NotIn u (.ref a)) Q E s:=by
 rcases g with ⟨kvs,k,e,ey,l⟩ | ⟨kvs,k,b,e,ey,eb,l⟩
 ·subst ey
  obtain ⟨z,hd,vs,rel,dd⟩:=tU I.hok e
  refine wpAny_notIn_of (tT ry) hd dd.mapOf ?_
  rw [<-(rel.val k).ig,<-l]
  exact h _ (I.tok _)
 ·subst ey
  cases (show u=Value.ref b from ry)
  obtain ⟨z,hd,xs,rel,dd⟩:=vX I.hok e
  refine wpAny_notIn_heap (tupleKind_room_in1 hu) (rE I.hok eb) hd dd ?_
  have q:=(rel.val k).ig
  rw [Option.isSome_map] at q
  rw [<-q,<-l]
  exact h _ (I.tok _)
theorem vE {h':Heap} {t':Nat} {ob:HO} (I:Inv X pins σ H s) (mu:UO (H a)) (hs:Heap.SameBut a s.heap h') (he : ∃ q,h'.get? a=some q) (new:bY X.prog X.w (upd H a ob) h' a ob) :
  Inv X pins σ (upd H a ob) { s with heap:=h',toks:=t' } :=
 I.write (x:=a) (e:=a) mu (.inl rfl) (λ b q hb z=>(hs.2 b hb).trans z) he new
theorem F1 {P:Program} {w:World} {H':Hp} {h':Heap} {kvs:List (Key×V)} {vs:List (Key×Value)} (z:kvs.length<=sizeLine) (hd:(a == sysModules)=false) (rel:KV kvs vs) (dd:h'.DictOf (b8 P w) a vs) :
  bY P w H' h' a (.dK kvs):=⟨z,hd,vs,rel,dd⟩
theorem Jm {H':Hp} {Q:Unit->Shared->Prop} (hu:A.units+1 < cLine) (I:Inv X pins σ H s) (g:oK H a y v H') (ry:RelV y u) (rv:RelV v r) (h : ∀ s',Inv X pins σ H' s'->Q () s') :
  wpAny (model X.prog X.w) A (setItem (.ref a) u r) Q E s:=by
 rcases g with ⟨kvs,k,e,ey,l,eH⟩ | ⟨kvs,k,b,e,ey,eb,l,eH⟩
 ·subst ey eH
  obtain ⟨z,hd,vs,rel,dd⟩:=LR I.hok e
  have hz:vs.length<=sizeLine:=by rw [<-rel.length];exact z
  have hl:(putK kvs k v).length<=sizeLine:=by have:=gz kvs k v;omega
  refine wpAny_setItem_pairs (hsz:=hz) (tT ry) dd λ h' OI hs=>h _ ?_
  have he : ∃ q,h'.get? a=some q:=let ⟨q,_,_,hq,_⟩:=OI; ⟨q,hq⟩
  exact vE I (by rw [e];exact True.intro) hs he (F1 hl hd (rel.put k rv) OI)
 ·subst ey eH
  cases (show u=Value.ref b from ry)
  obtain ⟨z,hd,xs,rel,dd⟩:=Q5 I.hok e
  have hz:xs.length<=sizeLine:=by rw [<-Paired.length rel];exact z
  have hl:(putK kvs k v).length<=sizeLine:=by have:=gz kvs k v;omega
  refine wpAny_setItem_heap (hsz:=hz) (tupleKind_room_in1 hu) (rE I.hok eb) dd λ h' OI hs=>h _ ?_
  obtain ⟨q,es,ep,hq,h2,h3,h4,_,h5⟩:=OI
  refine vE I (by rw [e];exact True.intro) hs ⟨q,hq⟩ ⟨hl,hd,_,(rel.put k eb rv).keeps λ c ys ec => ?_,q,es,ep,hq,h2,h3,h4,h5⟩
  rw [cj (UN ec e (λ z=>nomatch z))]
  exact ec
end
section
variable {X:Cx} {pins:List (Addr×Obj)} {σ : St} {H:Hp} {s:Shared} {a:Addr} {kvs:List (Key×V)} {k:Key} {u:Value} {A:Around} {E:Value->Shared->Prop}
theorem Ux {Q:Unit->Shared->Prop} (I:Inv X pins σ H s) (e:H a=some (.dK kvs)) (ry:RelV (kV k) u) (l:(bx kvs k).isSome=true) (h : ∀ s',Inv X pins σ (upd H a (.dK (dW kvs k))) s'->Q () s') :
  wpAny (model X.prog X.w) A (delItem (.ref a) u) Q E s:=by
 obtain ⟨z,hd,vs,rel,dd⟩:=LR I.hok e
 refine wpAny_delItem_slot dd.typeIs (by decide) PySem.F.slot_dict_delitem
  (call_meetsIn PySem.F.slot_dict_delitem dd.typeIs PySem.F.entry_dict_delitem (PySem.F.args_dict_delitem_2 _ _) (meets_dict_delitem_pairs (b8 X.prog X.w) a (tT ry)) ⟨vs,dd,by rw [<-rel.length];exact z,by rw [<-(rel.val k).ig];exact l,λ h' OI hs=>h _ ?_⟩)
 have he : ∃ q,h'.get? a=some q:=let ⟨q,_,_,hq,_⟩:=OI; ⟨q,hq⟩
 exact vE I (by rw [e];exact True.intro) hs he (F1 (Nat.le_trans (vW kvs k) z) hd (rel.drop k) OI)
theorem U9 {v:V} {more:List Value} {Q:Value->Shared->Prop} (I:Inv X pins σ H s) (e:H a=some (.dK kvs)) (ry:RelV (kV k) u) (l:bx kvs k=some v) (hm:more = [] ∨ ∃ x,more = [x])
  (h : ∀ w' s',Inv X pins σ (upd H a (.dK (dW kvs k))) s'->RelV v w'->Q w' s'):wpAny (model X.prog X.w) A (call (.builtin "dict.pop") (.ref a::u::more)) Q E s:=by
 obtain ⟨z,hd,vs,rel,dd⟩:=LR I.hok e
 obtain ⟨w',hw,rw'⟩:=j6.some_of (v:=v) (o:=valueAt vs k) (by rw [<-l];exact rel.val k)
 have hp:(keyPart u).isSome=true:=by
  cases k with
  | inl i=>obtain ⟨t,q⟩:=(show ∃ t,u=Value.int i t from ry);subst q;rfl
  | inr x=>obtain ⟨t,q⟩:=(show ∃ t,u=Value.str x t from ry);subst q;rfl
 have ha:argsOk "dict.pop" ⟨.ref a::u::more,[]⟩:=by
  rcases hm with q | ⟨x,q⟩
  ·subst q;exact PySem.F.args_dict_pop_2 _ _
  ·subst q;exact PySem.F.args_dict_pop_3 _ _ _
 refine call_meetsIn PySem.F.slot_dict_pop dd.typeIs PySem.F.entry_dict_pop ha (meets_dict_pop_there (b8 X.prog X.w) a (tT ry) more hm hp)
  ⟨vs,w',dd,by rw [<-rel.length];exact z,hw,λ h' OI hs=>h w' _ ?_ rw'⟩
 have he : ∃ q,h'.get? a=some q:=let ⟨q,_,_,hq,_⟩:=OI; ⟨q,hq⟩
 exact vE I (by rw [e];exact True.intro) hs he (F1 (Nat.le_trans (vW kvs k) z) hd (rel.drop k) OI)
theorem Va {Q:Value->Shared->Prop} (I:Inv X pins σ H s) (e:Rd H a (.dK kvs)) (h : ∀ t s',Inv X pins σ H s'->Q (.int kvs.length t) s'):wpAny (model X.prog X.w) A (call (.builtin "len") [.ref a]) Q E s:=by
 obtain ⟨z,hd,vs,rel,dd⟩:=tU I.hok e
 refine call_len_dict hd dd (by rw [<-rel.length];rw [sizeLine_eq] at z;omega) ?_
 rw [<-rel.length]
 exact h _ _ (I.tok _)
end
def Vb (i:Expr):Prop := ∀ ov iv,subscripted i false ov iv=operate [ov,iv] (getItem ov iv)
theorem O6 {prog:Program} {w:World} {A:Around} {E:Value->Shared->Prop} {s:Shared} {env:Env} {value slice:Expr} {pos:Pos} {T id:String} {Q:Value->Shared->Prop}
  (hl:typeLookup (.type T) "__getitem__" = pure (some (.builtin id))) (hs:Vb slice)
  (h:wpAny (model prog w) A (eval value env) (λ o s₁ => wpAny (model prog w) A (eval slice env) (λ i s₂ => s₂.TypeIs o T/\wpAny (model prog w) A (getItem o i) Q E s₂) E s₁) E s) :
  wpAny (model prog w) A (eval (.Subscript value slice pos) env) Q E s:=by
 refine Subscript_ (wpAny_mono h (λ o s₁ h₁ => wpAny_mono h₁ (λ i s₂ h₂ => ?_) λ _ _ x=>x) λ _ _ x=>x)
 obtain ⟨hT,h₂⟩:=h₂
 unfold subscriptTail
 refine wpAny_bind ?_
 rw [getitemInPython_of_ne hT.not_modules]
 refine wpAny_bind (wpAny_specialOf hT hl ?_)
 have fin:wpAny (model prog w) A (subscripted slice false o i) (λ r s₃ => wpAny (model prog w) A (letTemporaryGo value o r >>= λ _=>pure r) Q E s₃) E s₂ := by
  rw [hs o i]
  exact wpAny_operating (wpAny_mono h₂ (λ r s₃ h₃ => wpAny_bind (wpAny_letTemporaryGo (wpAny_pure h₃))) λ _ _ x=>x)
 first
  | exact wpAny_pure (wpAny_bind fin)
  | exact wpAny_bind (wpAny_pure (wpAny_bind fin))
  | exact wpAny_bind fin
theorem D8 {X:Cx} {pins:List (Addr×Obj)} {σ : St} {H:Hp} {s:Shared} {a:Addr} {y:V} {o:Option V} (I:Inv X pins σ H s) (g:fY H a y o):s.TypeIs (.ref a) "dict" := by
 rcases g with ⟨kvs,k,e,_,_⟩ | ⟨kvs,k,b,e,_,_,_⟩
 ·obtain ⟨_,_,vs,_,dd⟩:=tU I.hok e
  exact dd.typeIs
 ·obtain ⟨_,_,xs,_,dd⟩:=vX I.hok e
  exact dd.typeIs
def LS (td ty:TE):TE:=fun σ H Q=>td σ H λ x H1=>ty σ H1 λ y H2 => ∃ a v,x = .ref a/\fY H2 a y (some v)/\Q v H2
def Sf (ty td:TE):TE:=fun σ H Q=>ty σ H λ y H1=>td σ H1 λ x H2 => ∃ a o,x = .ref a/\fY H2 a y o/\Q (.bl o.isSome) H2
def BZ (ty td:TE):TE:=fun σ H Q=>ty σ H λ y H1=>td σ H1 λ x H2 => ∃ a o,x = .ref a/\fY H2 a y o/\Q (.bl (!o.isSome)) H2
def LU (td ty tv:TE):TS:=λ D σ H=>tv σ H λ v H1=>td σ H1 λ x H2=>ty σ H2 λ y H3 => ∃ a H4,x = .ref a/\oK H3 a y v H4/\D.nx σ H4
section
variable {X:Cx} {o i e value:Expr} {pos pos' tpos:Pos} {td ty tv:TE}
theorem iU (hu:X.A.units+1 < cLine) (ho:PE X o td) (hi:PE X i ty) (hs:Vb i):PE X (.Subscript o i pos) (LS td ty):=by
 intro pins s σ H Q I h
 refine O6 PySem.F.slot_dict_getitem.lookup hs (cP (ho pins s σ H _ I h) λ u s1 ⟨x,H1,I1,rx,q1⟩=>cP (hi pins s1 σ H1 _ I1 q1) λ iv s2 ⟨y,H2,I2,ry,a,v,ex,g,q2⟩ => ?_)
 subst ex
 obtain rfl:u=Value.ref a:=rx
 exact ⟨D8 I2 g,Jl hu I2 g ry λ w' s3 I3 rw'=>⟨v,H2,I3,rw',q2⟩⟩
theorem Sg (hu:X.A.units+1 < cLine) (hi:PE X i ty) (ho:PE X o td):PC X .In i o (Sf ty td):=by
 intro pins s σ H Q I h
 refine cP (hi pins s σ H _ I h) λ iv s1 ⟨y,H1,I1,ry,q1⟩=>cP (ho pins s1 σ H1 _ I1 q1) λ u s2 ⟨x,H2,I2,rx,a,ov,ex,g,q2⟩ => ?_
 subst ex
 obtain rfl:u=Value.ref a:=rx
 exact Yg hu I2 g ry λ s3 I3=>⟨.bl ov.isSome,H2,I3,rfl,q2⟩
theorem Jo (hu:X.A.units+1 < cLine) (hi:PE X i ty) (ho:PE X o td):PC X .NotIn i o (BZ ty td):=by
 intro pins s σ H Q I h
 refine cP (hi pins s σ H _ I h) λ iv s1 ⟨y,H1,I1,ry,q1⟩=>cP (ho pins s1 σ H1 _ I1 q1) λ u s2 ⟨x,H2,I2,rx,a,ov,ex,g,q2⟩ => ?_
 subst ex
 obtain rfl:u=Value.ref a:=rx
 exact O5 hu I2 g ry λ s3 I3=>⟨.bl (!ov.isSome),H2,I3,rfl,q2⟩
theorem gX (hu:X.A.units+1 < cLine) (ho:PE X o td) (hi:PE X i ty) (hv:PE X value tv) (hs:swapsWith value (some (.Subscript o i pos')) pos.line X.env=pure false) :
  PS X (.Assign [.Subscript o i pos'] value pos) (LU td ty tv):=by
 intro pins s σ H D I h
 refine wpAny_Assign_Subscript (cP (hv pins s σ H _ I h) λ r s1 ⟨v,H1,I1,rv,q1⟩=>cP (ho pins s1 σ H1 _ I1 q1) λ u s2 ⟨x,H2,I2,rx,q2⟩=>cP (hi pins s2 σ H2 _ I2 q2) λ iv s3 ⟨y,H3,I3,ry,a,H4,ex,g,q3⟩ => ?_) hs
 subst ex
 obtain rfl:u=Value.ref a:=rx
 exact Jm hu I3 g ry rv λ s4 I4=>⟨σ,H4,I4,q3⟩
end
theorem LV {P:Program} {w:World} {H:Hp} (h:Heap) (hb:sysModules < h.objs.size):bY P w H (h.push { cls := .type "dict",data := .dict #[] }) h.objs.size (.dK []) :=
 ⟨Nat.zero_le _,beq_eq_false_iff_ne.mpr (Ne.symm (Nat.ne_of_lt hb)),[],.nil,Heap.DictOf.new h⟩
theorem LW {P:Program} {w:World} {H:Hp} (h:Heap) (hb:sysModules < h.objs.size):bY P w H (h.push { cls := .type "dict",data := .dict #[] }) h.objs.size (.dT []) :=
 ⟨Nat.zero_le _,beq_eq_false_iff_ne.mpr (Ne.symm (Nat.ne_of_lt hb)),[],.nil,_,#[],0,Heap.get?_push_size _ rfl,⟨rfl,rfl,rfl⟩,rfl,rfl,List.nodup_nil⟩
def F2:TE:=λ _ H Q => ∀ p,H p=none->Q (.ref p) (upd H p (.dK []))
def Sh:TE:=λ _ H Q => ∀ p,H p=none->Q (.ref p) (upd H p (.dT []))
section
variable {X:Cx} {pos:Pos}
theorem vY:PE X (.Dict [] [] pos) F2:=λ pins s σ H Q I h =>
 wpAny_Dict_empty ⟨.ref s.heap.objs.size,_,I.laid (a:=s.heap.objs.size) (o := .dK []) (t':=s.toks) (λ _ _ q=>Heap.get?_push_of_some _ q) (Nat.le_refl _) (LV s.heap I.big),rfl,h _ (I.hok.fresh (Nat.le_refl _))⟩
theorem D9:PE X (.Dict [] [] pos) Sh:=λ pins s σ H Q I h =>
 wpAny_Dict_empty ⟨.ref s.heap.objs.size,_,I.laid (a:=s.heap.objs.size) (o := .dT []) (t':=s.toks) (λ _ _ q=>Heap.get?_push_of_some _ q) (Nat.le_refl _) (LW s.heap I.big),rfl,h _ (I.hok.fresh (Nat.le_refl _))⟩
end
structure M1 (X:Cx) (o:Expr) (m:Str) (apos:Pos) (e:Expr) (cpos:Pos):Prop where
 base:attributeBase o m X.env (eval o X.env)=eval o X.env
 few:((backTo cpos (starEach [e] X.env)).all (λ x => !x.1) && (backToKw cpos (keywordEach [] X.env)).all (λ x=>x.1.isSome)
  && decide (([e]:List Expr).length+([]:List Keyword).length+(if ([]:List Keyword).isEmpty then 0 else 1) < 30))=true
 line:(apos.endLine == cpos.line)=true
 trees:backTo cpos (starEach [e] X.env) = [(false,eval e X.env)]
structure M2 (X:Cx) (o:Expr) (m:Str) (apos:Pos) (e f:Expr) (cpos:Pos):Prop where
 base:attributeBase o m X.env (eval o X.env)=eval o X.env
 few:((backTo cpos (starEach [e,f] X.env)).all (λ x => !x.1) && (backToKw cpos (keywordEach [] X.env)).all (λ x=>x.1.isSome)
  && decide (([e,f]:List Expr).length+([]:List Keyword).length+(if ([]:List Keyword).isEmpty then 0 else 1) < 30))=true
 line:(apos.endLine == cpos.line)=true
 trees:backTo cpos (starEach [e,f] X.env) = [(false,eval e X.env),(false,eval f X.env)]
def Si (H:Hp) (a:Addr):Prop:=(∃ kvs,Rd H a (.dK kvs)) ∨ ∃ kvs,Rd H a (.dT kvs)
theorem LX {X:Cx} {pins:List (Addr×Obj)} {σ : St} {H:Hp} {s:Shared} {a:Addr} (I:Inv X pins σ H s) (d:Si H a) :
  s.TypeIs (.ref a) "dict" ∧ (∀ b,Value.ref a = .ref b->∃ ob,s.heap.get? b=some ob/\ob.dict=none)/\(a == sysModules)=false:=by
 rcases d with ⟨kvs,e⟩ | ⟨kvs,e⟩
 ·obtain ⟨_,hd,vs,_,dd⟩:=tU I.hok e
  refine ⟨dd.typeIs,λ b q => ?_,hd⟩
  cases q
  obtain ⟨ob,_,_,h1,h2,_⟩:=dd
  exact ⟨ob,h1,h2.2.1⟩
 ·obtain ⟨_,hd,xs,_,dd⟩:=vX I.hok e
  refine ⟨dd.typeIs,λ b q => ?_,hd⟩
  cases q
  obtain ⟨ob,_,_,h1,h2,_⟩:=dd
  exact ⟨ob,h1,h2.2.1⟩
section
variable {X:Cx} {pins:List (Addr×Obj)} {σ : St} {H:Hp} {s:Shared} {a:Addr} {y d:V} {u r:Value} {o:Option V} {A:Around} {E:Value->Shared->Prop}
theorem Sj {Q:Value->Shared->Prop} (hu:A.units+1 < cLine) (I:Inv X pins σ H s) (g:fY H a y o) (ry:RelV y u) (rd:RelV d r) (h : ∀ w' s',Inv X pins σ H s'->RelV (o.getD d) w'->Q w' s') :
  wpAny (model X.prog X.w) A (call (.builtin "dict.get") [.ref a,u,r]) Q E s:=by
 rcases g with ⟨kvs,k,e,ey,l⟩ | ⟨kvs,k,b,e,ey,eb,l⟩
 ·subst ey
  obtain ⟨z,hd,vs,rel,dd⟩:=tU I.hok e
  refine call_meetsIn PySem.F.slot_dict_get dd.typeIs PySem.F.entry_dict_get (PySem.F.args_dict_get_3 _ _ _) (meets_dict_get_default (b8 X.prog X.w) a (tT ry) hd r) ⟨_,dd.mapOf,h _ _ (I.tok _) ?_⟩
  rw [l]
  exact (rel.val k).getD rd
 ·subst ey
  cases (show u=Value.ref b from ry)
  obtain ⟨z,hd,xs,rel,dd⟩:=vX I.hok e
  refine call_meetsIn PySem.F.slot_dict_get dd.typeIs PySem.F.entry_dict_get (PySem.F.args_dict_get_3 _ _ _) (meetsH_dict_get_default (tupleKind (b8 X.prog X.w)) a b hd r) ⟨tupleKind_room_in1 hu,k,xs,rE I.hok eb,dd,h _ _ (I.tok _) ?_⟩
  rw [l]
  exact (rel.val k).getD rd
end
def LY (td ty tx:TE):TE:=fun σ H Q=>td σ H λ x H1 => ∃ a,x = .ref a/\Si H1 a/\ty σ H1 λ y H2=>tx σ H2 λ z H3 => ∃ o,fY H3 a y o/\Q (o.getD z) H3
def F3 (td ty:TE):TE:=fun σ H Q=>td σ H λ x H1 => ∃ a,x = .ref a/\Si H1 a/\ty σ H1 λ y H2 => ∃ kvs k v,H2 a=some (.dK kvs)/\y=kV k/\bx kvs k=some v/\Q v (upd H2 a (.dK (dW kvs k)))
section
variable {X:Cx} {o e f:Expr} {apos cpos:Pos} {td ty tx:TE}
theorem LZ (hu:X.A.units+1 < cLine) (ho:PE X o td) (he:PE X e ty) (hf:PE X f tx) (m:M2 X o "get" apos e f cpos):PE X (.Call (.Attribute o "get" apos) [e,f] [] cpos) (LY td ty tx):=by
 intro pins s σ H Q I h
 refine wpAny_Call_method m.base m.few m.line PySem.F.plainAttrs_dict PySem.F.slot_dict_get PySem.F.type_dict_get (cP (ho pins s σ H _ I h) λ u s1 ⟨x,H1,I1,rx,a,ex,d,q1⟩ => ?_)
 subst ex
 obtain rfl:u=Value.ref a:=rx
 obtain ⟨t1,t2,_⟩:=LX I1 d
 refine ⟨t1,t2,?_⟩
 rw [m.trees]
 refine Calls.callWith_builtin rfl (Calls.evalArgs_plain (Calls.spliced_cons (cP (he pins s1 σ H1 _ I1 q1) λ iv s2 ⟨y,H2,I2,ry,q2⟩ =>
  Calls.spliced_cons (cP (hf pins s2 σ H2 _ I2 q2) λ fv s3 ⟨z,H3,I3,rz,ov,g,q3⟩=>Calls.spliced_nil ?_))))
 exact Sj hu I3 g ry rz λ w' s4 I4 rw'=>⟨_,H3,I4,rw',q3⟩
theorem L0 (ho:PE X o td) (he:PE X e ty) (m:M1 X o "pop" apos e cpos):PE X (.Call (.Attribute o "pop" apos) [e] [] cpos) (F3 td ty):=by
 intro pins s σ H Q I h
 refine wpAny_Call_method m.base m.few m.line PySem.F.plainAttrs_dict PySem.F.slot_dict_pop PySem.F.type_dict_pop (cP (ho pins s σ H _ I h) λ u s1 ⟨x,H1,I1,rx,a,ex,d,q1⟩ => ?_)
 subst ex
 obtain rfl:u=Value.ref a:=rx
 obtain ⟨t1,t2,_⟩:=LX I1 d
 refine ⟨t1,t2,?_⟩
 rw [m.trees]
 refine Calls.callWith_builtin rfl (Calls.evalArgs_plain (Calls.spliced_cons (cP (he pins s1 σ H1 _ I1 q1) λ iv s2 ⟨y,H2,I2,ry,kvs,k,v,ea,ey,l,q2⟩=>Calls.spliced_nil ?_)))
 subst ey
 exact U9 I2 ea ry l (.inl rfl) λ w' s3 I3 rw'=>⟨v,_,I3,rw',q2⟩
end
section
variable {X:Cx} {pins:List (Addr×Obj)} {σ : St} {H:Hp} {s:Shared} {a:Addr} {kvs:List (Key×V)} {A:Around} {E:Value->Shared->Prop}
end
section
variable {X:Cx} {pins:List (Addr×Obj)} {σ : St} {H:Hp} {s:Shared} {a:Addr} {y:V} {u:Value} {A:Around} {E:Value->Shared->Prop}
end
end L2
namespace HT
open PySem PyProof.Rows
section
open PySem.SeqAt
open PySem.AutoSeq1 (wpAny_loadPart')
open PySem.MeetsSeq PySem.MeetsSeq2 PySem.MeetsSeq3
end
section
variable {prog:Program} {w:World} {A:Around} {E:Value->Shared->Prop} {s:Shared}
def tV (n d:Nat):Option Int->Nat
 | none=>d
 | some v=>if v < 0 then (v+(n:Int)).toNat else min v.toNat n
theorem Ea (n d:Nat):tV n d none=d:=rfl
theorem HZ (n d k:Nat):tV n d (some (k:Int))=min k n:=by
 show (if (k:Int) < 0 then ((k:Int)+(n:Int)).toNat else min (k:Int).toNat n)=min k n
 rw [if_neg (by omega),Int.toNat_natCast]
end
end HT
namespace L2
open PySem PySem.Spec PyProof.Rows
abbrev TO:=St->Hp->(Option Int->Hp->Prop)->Prop
def PO (X:Cx) (e:Option Expr) (t:TO):Prop :=
 ∀ (pins:List (Addr×Obj)) (s:Shared) (σ : St) (H:Hp) (Q:Option Int->Hp->Prop),Inv X pins σ H s->t σ H Q →
   wpAny (model X.prog X.w) X.A (evalPart e X.env) (λ u s' => ∃ o H',Inv X pins σ H' s'/\IsPart u o/\Q o H') X.xe s
def B0:TO:=λ _ H Q=>Q none H
def L1 (t:TE):TO:=fun σ H Q=>t σ H λ x H1 => ∃ i,x = .int i/\Q (some i) H1
section
variable {X:Cx} {e:Expr} {te:TE} {lo hi:Option Expr} {tl th:TO} {pos p2:Pos}
theorem vF:PO X none B0:=by
 intro pins s σ H Q I h
 rw [evalPart_none]
 exact wpAny_pure ⟨none,H,I,.none,h⟩
theorem nh (h:PE X e te):PO X (some e) (L1 te):=by
 intro pins s σ H Q I hw
 rw [evalPart_some]
 refine cP (h pins s σ H _ I hw) λ u s1 ⟨x,H1,I1,r1,q1⟩ => ?_
 obtain ⟨i,rfl,q⟩:=q1
 obtain ⟨t,rfl⟩:=r1
 exact ⟨some i,H1,I1,.int i t,q⟩
def W0 (X:Cx) (r:V->Option Int->Option Int->Hp->VK->Prop):Prop :=
 ∀ (pins:List (Addr×Obj)) (s:Shared) (σ : St) (H:Hp) (x:V) (v vl vu:Value) (lo hi:Option Int) (sl:Addr) (Q:VK),Inv X pins σ H s->RelV x v->s.heap.IsSliceOf sl vl vu .none->IsPart vl lo->IsPart vu hi->r x lo hi H Q →
   ∃ T id,typeLookup (.type T) "__getitem__" = pure (some (.builtin id))/\s.TypeIs v T/\wpAny (model X.prog X.w) X.A (getItem v (.ref sl)) (EP X pins σ Q) X.xe s
def Yh (r:V->Option Int->Option Int->Hp->VK->Prop) (te:TE) (tl th:TO):TE:=fun σ H Q=>te σ H λ x H1=>tl σ H1 λ l H2=>th σ H2 λ u H3=>r x l u H3 Q
theorem lO {r:V->Option Int->Option Int->Hp->VK->Prop} (hr:W0 X r) (he:PE X e te) (hl:PO X lo tl) (hu:PO X hi th):PE X (.Subscript e (.Slice lo hi none p2) pos) (Yh r te tl th):=by
 intro pins s σ H Q I h
 refine Subscript_ (cP (he pins s σ H _ I h) λ v s1 ⟨x,H1,I1,r1,q1⟩ => ?_)
 refine wpAny_Slice (cP (hl pins s1 σ H1 _ I1 q1) λ vl s2 ⟨l,H2,I2,pl,q2⟩=>cP (hu pins s2 σ H2 _ I2 q2) λ vu s3 ⟨u,H3,I3,pu,q3⟩ => ?_)
 rw [evalPart_none]
 refine wpAny_pure ?_
 have I4:Inv X pins σ H3 { s3 with heap:=s3.heap.push { cls := .type "slice",data := .fields #[vl,vu,.none] } } := I3.kept (t':=s3.toks) λ b ob q=>Heap.get?_push_of_some _ q
 obtain ⟨T,id,hT,ht,hg⟩:=hr pins { s3 with heap:=s3.heap.push { cls := .type "slice",data := .fields #[vl,vu,.none] } } σ H3 x v vl vu l u s3.heap.objs.size Q I4 r1 (Heap.IsSliceOf.new ..) pl pu q3
 show wpAny (model X.prog X.w) X.A (subscriptTail e (.Slice lo hi none p2) v (.ref s3.heap.objs.size)) (EP X pins σ Q) X.xe { s3 with heap:=s3.heap.push { cls := .type "slice",data := .fields #[vl,vu,.none] } }
 exact tail_any (ops:=[.ref s3.heap.objs.size,v]) ht hT hg (by with_unfolding_all rfl)
def lP (xs:List V) (lo hi:Option Int):List V:=(xs.drop (HT.tV xs.length 0 lo)).take (HT.tV xs.length xs.length hi - HT.tV xs.length 0 lo)
theorem lQ (xs:List V) (lo hi:Option Int):(lP xs lo hi).length<=xs.length:=by
 unfold lP
 rw [List.length_take,List.length_drop]
 omega
def O7 (K:PySem.W.Frag):V->Option Int->Option Int->Hp->VK->Prop:=λ x lo hi H Q => ∃ a xs,x = .ref a/\Fw K H a xs ∧
 ¬ (HT.tV xs.length 0 lo=0/\HT.tV xs.length xs.length hi=xs.length) ∧ ∀ p,H p=none->Q (.ref p) (upd H p (.tup (lP xs lo hi)))
end
end L2
namespace L2
open PySem PySem.Spec PyProof.Rows
def OJ (n:Nat) (i:Int):Option Nat:=if 0<=i then (if i < n then some i.toNat else none) else if -(n:Int)<=i then some (i+n).toNat else none
def iT {α : Type} (xs:List α) (i:Int):Option α := (OJ xs.length i).bind λ j=>xs[j]?
theorem Ia {n:Nat} {i:Int} {j:Nat} (h:OJ n i=some j):seqIndex? i n=some j/\j < n ∧ -(n:Int)<=i/\i < n:=by
 unfold OJ at h
 by_cases h0:0<=i
 ·rw [if_pos h0] at h
  by_cases h1:i < n
  ·rw [if_pos h1] at h
   have e:i.toNat=j:=Option.some.inj h
   exact ⟨by rw [seqIndex_of h0 h1,e],by omega,by omega,h1⟩
  ·rw [if_neg h1] at h;cases h
 ·rw [if_neg h0] at h
  by_cases h1 : -(n:Int)<=i
  ·rw [if_pos h1] at h
   have e:(i+n).toNat=j:=Option.some.inj h
   exact ⟨by rw [seqIndex_neg (by omega) h1,e],by omega,h1,by omega⟩
  ·rw [if_neg h1] at h;cases h
theorem B3 {α : Type} {xs:List α} {i:Int} {v : α} (h:iT xs i=some v) : ∃ j,seqIndex? i xs.length=some j/\xs[j]? = some v/\j < xs.length ∧ -(xs.length:Int)<=i/\i < xs.length:=by
 unfold iT at h
 cases e:OJ xs.length i with
 | none=>rw [e] at h;cases h
 | some j =>
   rw [e] at h
   obtain ⟨h1,h2,h3,h4⟩:=Ia e
   exact ⟨j,h1,h,h2,h3,h4⟩
theorem gY {α : Type} {xs:List α} {j:Nat} {v : α} (h:xs[j]? = some v):iT xs (j:Int)=some v:=by
 have hj:j < xs.length:=(List.getElem?_eq_some_iff.mp h).1
 have e:OJ xs.length (j:Int)=some j:=by
  unfold OJ
  rw [if_pos (by omega),if_pos (by omega)];simp
 unfold iT;rw [e];exact h
def O8 (b:Expr):Prop := ∀ o i,subscripted b false o i=operate [o,i] (getItem o i)
def Uy (X:Cx) (r:R2):Prop :=
 ∀ (value slice:Expr) (pins:List (Addr×Obj)) (s:Shared) (σ : St) (H:Hp) (x y:V) (v u:Value) (Q:VK),Inv X pins σ H s->RelV x v->RelV y u->r x y H Q →
   subscripted slice false v u=operate [v,u] (getItem v u)->wpAny (model X.prog X.w) X.A (subscriptTail value slice v u) (EP X pins σ Q) X.xe s
def MtR (X:Cx) (id:String) (r:V->List V->Hp->VK->Prop):Prop :=
 ∀ (pins:List (Addr×Obj)) (s:Shared) (σ : St) (H:Hp) (x:V) (xs:List V) (v:Value) (us:List Value) (Q:VK),Inv X pins σ H s->RelV x v->Vals xs us->r x xs H Q →
   wpAny (model X.prog X.w) X.A (call (.builtin id) (v::us)) (EP X pins σ Q) X.xe s
section
variable {X:Cx} {a b:Expr} {ta tb:TE} {pos:Pos}
theorem aX {r:R2} (hr:Uy X r) (ha:PE X a ta) (hb:PE X b tb) (hs:O8 b):PE X (.Subscript a b pos) (R8 r ta tb):=by
 intro pins s σ H Q I h
 exact Subscript_ (R9 ha hb I h λ v u s2 x y H2 I2 rx ry q=>hr a b pins s2 σ H2 x y v u Q I2 rx ry q (hs _ _))
def Sk (K:PySem.W.Frag):R2:=λ x y H Q => ∃ p xs i v,x = .ref p/\y = .int i/\fj K H p xs/\iT xs i=some v/\Q v H
def Yi (K:PySem.W.Frag):R2:=λ x y H Q => ∃ p xs i v,x = .ref p/\y = .int i/\Fw K H p xs/\iT xs i=some v/\Q v H
def Vc:R2:=λ x y H Q => ∃ z i c,x = .str z/\y = .int i/\z.length<=sizeLine/\iT z.cps.toList i=some c/\Q (.str ⟨#[c]⟩) H
theorem Ic:Uy X (Sk X.K):=by
 intro value slice pins s σ H x y v u Q I rx ry h hs
 obtain ⟨p,xs,i,z,rfl,rfl,hq,he,q⟩:=h
 cases rx
 obtain ⟨t,rfl⟩:=ry
 obtain ⟨its,r,pl,hz⟩:=I.list hq
 obtain ⟨j,h1,h2,h3,h4,h5⟩:=B3 he
 obtain ⟨w,ew,rw'⟩:=r.get h2
 have hl:=r.length
 have hn:=oH
 have fin:EP X pins σ Q w s:=⟨z,H,I,rw',q⟩
 by_cases h0:0<=i
 ·have hj:i.toNat=j:=by
   rw [seqIndex_of h0 h5] at h1
   exact Option.some.inj h1
  exact item_listR pl.isList h0 (by omega) (by rw [hj];simpa using ew) fin hs
 ·have hj:(i+(its.toArray.size:Int)).toNat=j:=by
   rw [seqIndex_neg (by omega) h4] at h1
   rw [List.size_toArray,<-hl]
   exact Option.some.inj h1
  exact subscriptTail_builtinR (x:=w) pl.isList.typeIs slot_list_getitem.lookup
   (wpAny_getItem_list_neg (Q:=λ r s'=>r=w/\EP X pins σ Q r s') pl.isList (by omega) (by rw [List.size_toArray] <;> omega) (by omega) (by rw [hj];simpa using ew) ⟨rfl,fin⟩) hs
theorem Sl:Uy X (Yi X.K):=by
 intro value slice pins s σ H x y v u Q I rx ry h hs
 obtain ⟨p,xs,i,z,rfl,rfl,hq,he,q⟩:=h
 cases rx
 obtain ⟨t,rfl⟩:=ry
 obtain ⟨its,r,pl,hz⟩:=I.tuple hq
 obtain ⟨j,h1,h2,h3,h4,h5⟩:=B3 he
 obtain ⟨w,ew,rw'⟩:=r.get h2
 have hl:=r.length
 have hn:=oH
 have fin:EP X pins σ Q w s:=⟨z,H,I,rw',q⟩
 exact subscriptTail_builtinR (x:=w) pl.typeIs slot_tuple_getitem.lookup
  (getItem_tuple (j:=j) (Q:=λ r s'=>r=w/\EP X pins σ Q r s') pl (by omega) (by omega) (by rw [List.size_toArray,<-hl];exact h1) (by simpa using ew) ⟨rfl,fin⟩) hs
theorem Sm:Uy X Vc:=by
 intro value slice pins s σ H x y v u Q I rx ry h hs
 obtain ⟨z,i,c,rfl,rfl,hz,he,q⟩:=h
 obtain ⟨t,rfl⟩:=rx
 obtain ⟨t',rfl⟩:=ry
 obtain ⟨j,h1,h2,h3,h4,h5⟩:=B3 he
 have hl:z.cps.toList.length=z.length:=by simp [Str.length]
 rw [hl] at h1 h4 h5
 have hn:=oH
 exact tail_any (typeIs_str s z t) slot_str_getitem.lookup (getItem_str (c:=c) (by
  have e1:decide (i < -(2 ^ 63:Int))=false:=decide_eq_false (by omega)
  have e2:decide (i ≥ 2 ^ 63)=false:=decide_eq_false (by omega)
  rw [e1,e2,Bool.or_false]) (by rw [h1];simpa using h2) ⟨.str ⟨#[c]⟩,H,I.tok _,⟨_,rfl⟩,q⟩) hs
theorem F4 (its:List Value) (n j:Nat) (u:Value):Obj.mapSeq (·.setIfInBounds j u) { cls := .type "list",data := .seq its.toArray n } = { cls := .type "list",data := .seq (its.set j u).toArray n } := by
 simp [Obj.mapSeq]
theorem Inv.lst {pins:List (Addr×Obj)} {σ : St} {H:Hp} {s:Shared} {p:Addr} {xs:List V} (I:Inv X pins σ H s) (h:H p=some (.lst xs)) :
  ∃ (its:List Value) (n:Nat),Vals xs its/\s.heap.get? p=some { cls := .type "list",data := .seq its.toArray n } ∧ xs.length<=sizeLine:=by
 obtain ⟨z,its,n,r,e⟩:=I.hok p _ h
 exact ⟨its,n,r,e,z⟩
theorem Inv.Sn {pins:List (Addr×Obj)} {σ : St} {H:Hp} {s:Shared} {p:Addr} {xs ys:List V} {its its':List Value} {n n':Nat} {f:Obj->Obj} (I:Inv X pins σ H s) (h:H p=some (.lst xs))
  (ho:s.heap.get? p=some { cls := .type "list",data := .seq its.toArray n }) (hf:f { cls := .type "list",data := .seq its.toArray n } = { cls := .type "list",data := .seq its'.toArray n' }) (r:Vals ys its') (hz:ys.length<=sizeLine) (t:Nat) :
  Inv X pins σ (upd H p (.lst ys)) { s with heap:=s.heap.update p f,toks:=t } := by
 have e:(s.heap.update p f).get? p=some { cls := .type "list",data := .seq its'.toArray n' } := by
  rw [Heap.get?_update_self f ho (by rw [hf] <;> rfl),hf]
 refine I.write (x:=p) (e:=p) (by rw [h];trivial) (.inl rfl) (λ b u hb q=>(Heap.get?_update_other _ _ (Ne.symm hb)).trans q) ⟨_,e⟩ ?_
 exact ⟨hz,its',n',r,e⟩
def Q6:V->V->V->Hp->(Hp->Prop)->Prop:=λ o i v H Q => ∃ p xs k j,o = .ref p/\i = .int k/\H p=some (.lst xs)/\OJ xs.length k=some j/\Q (upd H p (.lst (xs.set j v)))
theorem set_list:UR X Q6:=by
 intro pins s σ H o i v ov iv u Q I ro ri rv h
 obtain ⟨p,xs,k,j,rfl,rfl,hp,hj,q⟩:=h
 cases ro
 obtain ⟨t,rfl⟩:=ri
 obtain ⟨its,n,r,ho,hz⟩:=I.lst hp
 obtain ⟨h1,h2,h3,h4⟩:=Ia hj
 have hl:=r.length
 have hn:=oH
 have I':Inv X pins σ (upd H p (.lst (xs.set j v))) { s with heap:=s.heap.update p (Obj.mapSeq (·.setIfInBounds j u)) } :=
  I.Sn hp ho (F4 its n j u) (r.set rv j) (by rw [List.length_set];exact hz) s.toks
 by_cases h0:0<=k
 ·have hk:k.toNat=j:=by
   rw [seqIndex_of h0 h4] at h1
   exact Option.some.inj h1
  exact PySem.W.ki_setAt ho h0 (by omega) (by rw [List.size_toArray,<-hl];exact h4) (by rw [hk];exact ⟨_,I',q⟩)
 ·have hk:(k+(its.toArray.size:Int)).toNat=j:=by
   rw [seqIndex_neg (by omega) h3] at h1
   rw [List.size_toArray,<-hl]
   exact Option.some.inj h1
  exact PySem.W.ki_setBack ho (by omega) (by rw [List.size_toArray,<-hl];exact h3) (by omega) (by rw [hk];exact ⟨_,I',q⟩)
theorem B4 (lo hi:Option Int) (n:Nat):(sliceBounds lo hi none n).1=((HT.tV n 0 lo:Nat):Int)/\(sliceBounds lo hi none n).2.1=((HT.tV n n hi:Nat):Int)/\(sliceBounds lo hi none n).2.2=1:=by
 refine ⟨?_,?_,rfl⟩
 ·cases lo with
  | none=>simp [sliceBounds,HT.tV]
  | some i =>
    simp only [sliceBounds,HT.tV,Option.getD_none,show (1:Int) > 0 by decide,if_true]
    by_cases h:i < 0
    ·simp only [h,if_true] <;> omega
    ·simp only [h,if_false] <;> omega
 ·cases hi with
  | none=>simp [sliceBounds,HT.tV]
  | some i =>
    simp only [sliceBounds,HT.tV,Option.getD_none,show (1:Int) > 0 by decide,if_true]
    by_cases h:i < 0
    ·simp only [h,if_true] <;> omega
    ·simp only [h,if_false] <;> omega
theorem zd (its:List Value) (lo hi:Option Int):slicePick its.toArray lo hi none=((its.drop (HT.tV its.length 0 lo)).take (HT.tV its.length its.length hi - HT.tV its.length 0 lo)).toArray:=by
 obtain ⟨h1,h2,h3⟩:=B4 lo hi its.toArray.size
 unfold slicePick
 rw [h1,h2,h3]
 simp only [sliceRange_one,pick_run,List.size_toArray] <;> rfl
def O9 (K:PySem.W.Frag):V->Option Int->Option Int->Hp->VK->Prop:=λ x lo hi H Q => ∃ a xs,x = .ref a/\fj K H a xs ∧ ∀ p,H p=none->Q (.ref p) (upd H p (.lst (lP xs lo hi)))
theorem Pa:W0 X (O9 X.K):=by
 intro pins s σ H x v vl vu lo hi sl Q I rx hs pl pu h
 obtain ⟨a,xs,rfl,hx,q⟩:=h
 cases rx
 obtain ⟨its,r,ht,hz⟩:=I.list hx
 have hlen:=r.length
 refine ⟨"list",_,slot_list_getitem.lookup,ht.isList.typeIs,?_⟩
 refine wpAny_getItem_list_slice ht.isList hs pl pu .none (by simp) ?_ (by rw [List.size_toArray] <;> omega)
 rw [zd,<-hlen]
 refine ⟨.ref s.heap.objs.size,_,I.laid (t':=s.toks) (o := .lst (lP xs lo hi)) (λ b ob q=>Heap.get?_push_of_some _ q) (Nat.le_refl _) ?_,rfl,q _ (I.hok.fresh (Nat.le_refl _))⟩
 exact ⟨Nat.le_trans (lQ xs lo hi) hz,_,0,(r.drop (HT.tV xs.length 0 lo)).take (HT.tV xs.length xs.length hi - HT.tV xs.length 0 lo),Heap.get?_push_size _ rfl⟩
def eX:V->Bool
 | .aM=>true
 | .bl _=>true
 | .int _=>true
 | .str _=>true
 | _=>false
def B5:V->V->Bool
 | .aM,.aM=>true
 | .bl a,.bl b=>a == b
 | .bl a,.int b=>(if a then 1 else 0) == b
 | .int a,.bl b=>a == (if b then 1 else 0)
 | .int a,.int b=>a == b
 | .str a,.str b=>a == b
 | _,_=>false
theorem Sq {A:Around} {s:Shared} {y x:V} {u v:Value} (ry:RelV y u) (rx:RelV x v) (fy:eX y=true) (fx:eX x=true):SeqAt.EqAt A s u v (B5 y x):=by
 cases y with
 | aM =>
   cases ry
   cases x with
   | aM=>cases rx;exact SeqAt.EqAt.same _
   | bl b=>cases rx;exact SeqAt.EqAt.none_bool b
   | int b=>obtain ⟨t,rfl⟩:=rx;exact SeqAt.EqAt.none_int b t
   | str b=>obtain ⟨t,rfl⟩:=rx;exact SeqAt.EqAt.none_str b t
   | _=>exact absurd (show false=true from fx) Bool.false_ne_true
 | bl a =>
   cases ry
   cases x with
   | aM=>cases rx;exact SeqAt.EqAt.bool_none a
   | bl b=>cases rx;exact SeqAt.EqAt.bool_bool a b
   | int b=>obtain ⟨t,rfl⟩:=rx;exact SeqAt.EqAt.bool_int a b t
   | str b=>obtain ⟨t,rfl⟩:=rx;exact SeqAt.EqAt.bool_str a b t
   | _=>exact absurd (show false=true from fx) Bool.false_ne_true
 | int a =>
   obtain ⟨t',rfl⟩:=ry
   cases x with
   | aM=>cases rx;exact SeqAt.EqAt.int_none a t'
   | bl b=>cases rx;exact SeqAt.EqAt.int_bool a t' b
   | int b=>obtain ⟨t,rfl⟩:=rx;exact SeqAt.EqAt.int_int a t' b t
   | str b=>obtain ⟨t,rfl⟩:=rx;exact SeqAt.EqAt.int_str a t' b t
   | _=>exact absurd (show false=true from fx) Bool.false_ne_true
 | str a =>
   obtain ⟨t',rfl⟩:=ry
   cases x with
   | aM=>cases rx;exact SeqAt.EqAt.str_none a t'
   | bl b=>cases rx;exact SeqAt.EqAt.str_bool a t' b
   | int b=>obtain ⟨t,rfl⟩:=rx;exact SeqAt.EqAt.str_int a t' b t
   | str b=>obtain ⟨t,rfl⟩:=rx;exact SeqAt.EqAt.str_str a t' b t
   | _=>exact absurd (show false=true from fx) Bool.false_ne_true
 | _=>exact absurd (show false=true from fy) Bool.false_ne_true
def Eb (x:V) (u:Value):Bool:=match u with
 | .none=>B5 .aM x
 | .bool b=>B5 (.bl b) x
 | .int i _=>B5 (.int i) x
 | .str z _=>B5 (.str z) x
 | _=>false
theorem F5 {x y:V} {u:Value} (r:RelV y u) (f:eX y=true):Eb x u=B5 y x:=by
 cases y with
 | aM=>cases r;rfl
 | bl b=>cases r;rfl
 | int i=>obtain ⟨t,rfl⟩:=r;rfl
 | str z=>obtain ⟨t,rfl⟩:=r;rfl
 | _=>exact absurd (show false=true from f) Bool.false_ne_true
theorem p5 {x:V} : ∀ {xs:List V} {us:List Value},Vals xs us->xs.all eX=true->us.any (Eb x)=xs.any λ y=>B5 y x
 | _,_,.nil,_=>rfl
 | y::xs,u::us,.cons r t,f=>by
   rw [List.all_cons,Bool.and_eq_true] at f
   rw [List.any_cons,List.any_cons,F5 r f.1,p5 t f.2]
theorem jw {A:Around} {s:Shared} {x:V} {v:Value} (rx:RelV x v) (fx:eX x=true) : ∀ {xs:List V} {us:List Value},Vals xs us->xs.all eX=true->∀ u∈us,SeqAt.EqAt A s u v (Eb x u)
 | _,_,.nil,_=>λ u hu=>by cases hu
 | y::xs,u::us,.cons r t,f=>λ u' hu=>by
   rw [List.all_cons,Bool.and_eq_true] at f
   rcases List.mem_cons.mp hu with rfl | hu
   ·rw [F5 r f.1];exact Sq r rx f.1 fx
   ·exact jw rx fx t f.2 u' hu
def p6 (x:V) (xs:List V):Bool:=xs.any λ y=>B5 y x
def W2 (K:PySem.W.Frag) (neg:Bool):R2:=λ x y H Q => ∃ p xs,y = .ref p/\(fj K H p xs\/Fw K H p xs)/\eX x=true/\xs.all eX=true/\Q (.bl (if neg then !p6 x xs else p6 x xs)) H
theorem Jp:oF X (compareOp .In) (W2 X.K false):=by
 intro pins s σ H x y v u Q I rx ry h
 obtain ⟨p,xs,rfl,hq,fx,fs,q⟩:=h
 cases ry
 rcases hq with hq | hq
 ·obtain ⟨its,r,pl,hz⟩:=I.list hq
  refine SeqAt.in_listAt (Eb x) pl.isList (λ w hw=>jw rx fx r fs w (by simpa using hw)) ⟨.bl _,H,I,rfl,?_⟩
  rw [show its.toArray.any (Eb x)=its.any (Eb x) by simp,p5 r fs]
  exact q
 ·obtain ⟨its,r,pl,hz⟩:=I.tuple hq
  refine SeqAt.in_tupleAt (Eb x) pl (λ w hw=>jw rx fx r fs w (by simpa using hw)) ⟨.bl _,H,I,rfl,?_⟩
  rw [show its.toArray.any (Eb x)=its.any (Eb x) by simp,p5 r fs]
  exact q
theorem B6:oF X (compareOp .NotIn) (W2 X.K true):=by
 intro pins s σ H x y v u Q I rx ry h
 obtain ⟨p,xs,rfl,hq,fx,fs,q⟩:=h
 cases ry
 rcases hq with hq | hq
 ·obtain ⟨its,r,pl,hz⟩:=I.list hq
  refine SeqAt.notIn_listAt (Eb x) pl.isList (λ w hw=>jw rx fx r fs w (by simpa using hw)) ⟨.bl _,H,I,rfl,?_⟩
  rw [show its.toArray.any (Eb x)=its.any (Eb x) by simp,p5 r fs]
  exact q
 ·obtain ⟨its,r,pl,hz⟩:=I.tuple hq
  refine SeqAt.notIn_tupleAt (Eb x) pl (λ w hw=>jw rx fx r fs w (by simpa using hw)) ⟨.bl _,H,I,rfl,?_⟩
  rw [show its.toArray.any (Eb x)=its.any (Eb x) by simp,p5 r fs]
  exact q
theorem j8:lN X (.builtin "len") (λ xs H Q => ∃ p ys,xs = [.ref p]/\(fj X.K H p ys\/Fw X.K H p ys)/\Q (.int ys.length) H):=by
 intro pins s σ H xs us Q I r h
 obtain ⟨p,ys,rfl,hq,q⟩:=h
 obtain ⟨u,rfl,rx⟩:=vals1 r
 cases rx
 have hn:=oH
 rcases hq with hq | hq
 ·obtain ⟨its,r',pl,hz⟩:=I.list hq
  have hlen:=r'.length
  exact Calls.call_len_list pl.isList (by simp only [List.size_toArray] <;> omega) ⟨.int ys.length,H,I.tok _,⟨s.toks+1,by rw [List.size_toArray,hlen]⟩,q⟩
 ·obtain ⟨its,r',pl,hz⟩:=I.tuple hq
  have hlen:=r'.length
  exact len_tuple pl (by simp only [List.size_toArray] <;> omega) ⟨.int ys.length,H,I.tok _,⟨s.toks+1,by rw [List.size_toArray,hlen]⟩,q⟩
theorem B7:lN X (.type "list") (λ xs H Q => ∃ p ys,xs = [.ref p]/\(fj X.K H p ys\/Fw X.K H p ys) ∧ ∀ l,H l=none->Q (.ref l) (upd H l (.lst ys))):=by
 intro pins s σ H xs us Q I r h
 obtain ⟨p,ys,rfl,hq,q⟩:=h
 obtain ⟨u,rfl,rx⟩:=vals1 r
 cases rx
 have fin : ∀ (its:List Value),Vals ys its->ys.length<=sizeLine->∀ (h':Heap) (c':Nat),(∀ b o',s.heap.get? b=some o'->h'.get? b=some o') →
   h'.get? s.heap.objs.size=some { cls := .type "list",dict:=none,data := .seq its.toArray c',slots := #[] }->EP X pins σ Q (.ref s.heap.objs.size) { s with heap:=h' } := λ its r' hz h' c' kp e =>
  ⟨.ref s.heap.objs.size,_,I.laid (t':=s.toks) kp (Nat.le_refl _) (show bY X.prog X.w _ h' _ (.lst ys) from ⟨hz,its,c',r',e⟩),rfl,q _ (I.hok.fresh (Nat.le_refl _))⟩
 rcases hq with hq | hq
 ·obtain ⟨its,r',pl,hz⟩:=I.list hq
  have hlen:=r'.length
  obtain ⟨o,ho,hc,n,hd⟩:=pl.isList
  exact call_list_seq p (.inl rfl) ho hc hd (λ h' c' kp e=>fin its r' hz h' c' kp e) (by simp only [List.size_toArray] <;> omega)
 ·obtain ⟨its,r',pl,hz⟩:=I.tuple hq
  have hlen:=r'.length
  obtain ⟨o,ho,hc,n,hd⟩:=pl
  exact call_list_seq p (.inr rfl) ho hc hd (λ h' c' kp e=>fin its r' hz h' c' kp e) (by simp only [List.size_toArray] <;> omega)
def Vd (K:PySem.W.Frag) (T:String) (x:V) (H:Hp):Prop:=match x with
 | .str _=>T = "str"
 | .int _=>T = "int"
 | .ref p=>(T = "list" ∧ ∃ xs,fj K H p xs)\/(T = "tuple" ∧ ∃ o,K.lookup p=some o/\o.cls = .type "tuple" ∧ o.dict=none) ∨
   (T = "dict" ∧ ((∃ kvs,H p=some (.dK kvs)) ∨ ∃ kvs,H p=some (.dT kvs)))\/(T = "set" ∧ ∃ S n,H p=some (.set S n))
 | _=>False
theorem Ss {pins:List (Addr×Obj)} {σ : St} {H:Hp} {s:Shared} {T:String} {x:V} {v:Value} (I:Inv X pins σ H s) (r:RelV x v) (ty:Vd X.K T x H) :
  s.TypeIs v T ∧ ∀ a,v = .ref a->∃ ob,s.heap.get? a=some ob/\ob.dict=none:=by
 cases x with
 | str z =>
   obtain ⟨t,rfl⟩:=r
   cases (show T = "str" from ty)
   exact ⟨typeIs_str s z t,λ _ e=>nomatch e⟩
 | int i =>
   obtain ⟨t,rfl⟩:=r
   cases (show T = "int" from ty)
   exact ⟨typeIs_int s i t,λ _ e=>nomatch e⟩
 | ref p =>
   cases r
   rcases ty with ⟨rfl,xs,hq⟩ | ⟨rfl,o,hk,hc,hd⟩ | ⟨rfl,hk⟩ | ⟨rfl,S,n,hk⟩
   ·obtain ⟨its,_,pl,_⟩:=I.list hq
    refine ⟨pl.isList.typeIs,λ a e => ?_⟩
    cases e
    obtain ⟨o,n,e,c,hd,_⟩:=pl
    exact ⟨o,e,hd⟩
   ·refine ⟨⟨o,I.tP p o hk,hc⟩,λ a e => ?_⟩
    cases e
    exact ⟨o,I.tP _ o hk,hd⟩
   ·have z : ∃ o,s.heap.get? p=some o/\o.ExactDict:=by
     rcases hk with ⟨kvs,hk⟩ | ⟨kvs,hk⟩
     ·obtain ⟨_,_,_,_,o,_,_,e,ex,_⟩:=I.hok p _ hk
      exact ⟨o,e,ex⟩
     ·obtain ⟨_,_,_,_,o,_,_,e,ex,_⟩:=I.hok p _ hk
      exact ⟨o,e,ex⟩
    obtain ⟨o,e,ex⟩:=z
    refine ⟨⟨o,e,ex.1⟩,λ a e2 => ?_⟩
    cases e2
    exact ⟨o,e,ex.2.1⟩
   ·obtain ⟨o,_,_,_,e,ex,_⟩:=I.hok p _ hk
    refine ⟨⟨o,e,ex.1⟩,λ a e2 => ?_⟩
    cases e2
    exact ⟨o,e,ex.2.1⟩
 | _=>exact False.elim ty
def Yj (K:PySem.W.Frag) (T:String) (r:V->List V->Hp->VK->Prop) (to:TE) (t:TA):TE:=fun σ H Q=>to σ H λ x H1=>Vd K T x H1/\t σ H1 λ xs H2=>r x xs H2 Q
variable {o e:Expr} {es:List Expr} {to:TE} {t:TA} {name:Str} {apos cpos:Pos} {T id:String} {r:V->List V->Hp->VK->Prop}
theorem nP (pa:PlainAttrs T) (slot:Slot T name id) (hty:typeOf (.builtin id)=pure (.type "method_descriptor")) (hm:MtR X id r) (ho:PE X o to) (ha:PA X (e::es) t)
  (hbase:attributeBase o name X.env (eval o X.env)=eval o X.env:=by rfl)
  (hfew:((backTo cpos (starEach (e::es) X.env)).all (λ x => !x.1) && (backToKw cpos (keywordEach [] X.env)).all (λ x=>x.1.isSome)
   && decide ((e::es).length+([]:List Keyword).length+(if ([]:List Keyword).isEmpty then 0 else 1) < 30))=true:=by rfl)
  (hline:(apos.endLine == cpos.line)=true:=by rfl) (hs:starEach (e::es) X.env=(false,eval e X.env)::starEach es X.env:=by rfl) (hplain:(backTo cpos (starEach es X.env)).any (·.1)=false:=by rfl) :
  PE X (.Call (.Attribute o name apos) (e::es) [] cpos) (Yj X.K T r to t):=by
 intro pins s σ H Q I h
 refine wpAny_Call_method_late hbase hfew hline rfl (cP (ho pins s σ H _ I h) λ v s1 ⟨x,H1,I1,r1,ty,q1⟩ => ?_)
 obtain ⟨h1,h2⟩:=Ss I1 r1 ty
 refine ⟨T,id,pa,slot,hty,h1,h2,?_⟩
 have hA:=ha cpos pins s1 σ H1 _ I1 q1
 rw [hs] at hA ⊢
 refine Calls.callWith_builtin (by show (false || (backTo cpos (starEach es X.env)).any (·.1))=false;rw [hplain] <;> rfl) (Calls.evalArgs_plain ?_)
 exact cP hA λ us s2 ⟨vs,H2,I2,r2,q2⟩=>hm pins s2 σ H2 x vs v us Q I2 r1 r2 q2
/- xs.append(e),list.index on a L3 tuple .. are MtR facts of 06m -/
end
end L2
namespace L2
open PySem PySem.Spec PyProof.Rows
def W3 (X:Cx) (id:String) (r:V->List V->Hp->VK->Prop):Prop :=
 ∀ (pins:List (Addr×Obj)) (s:Shared) (σ : St) (H:Hp) (x:V) (xs:List V) (v:Value) (us:List Value) (Q:VK),Inv X pins σ H s->RelV x v->Vals xs us->r x xs H Q →
   wpAny (model X.prog X.w) X.A (call (.builtin id) (v::us)) (EP X pins σ Q) X.xe s
theorem Vals.one : ∀ {x:V} {us:List Value},Vals [x] us->∃ u,us = [u]/\RelV x u
 | _,_,.cons r .nil=>⟨_,rfl,r⟩
theorem Vals.two : ∀ {x y:V} {us:List Value},Vals [x,y] us->∃ u v,us = [u,v]/\RelV x u/\RelV y v
 | _,_,_,.cons r (.cons q .nil)=>⟨_,_,rfl,r,q⟩
theorem Vals.rep {xs:List V} {us:List Value} (h:Vals xs us) : ∀ k:Nat,Vals (List.replicate k xs).flatten (List.replicate k us).flatten
 | 0 => .nil
 | k+1=>by
   rw [List.replicate_succ,List.replicate_succ,List.flatten_cons,List.flatten_cons]
   exact Vals.append h (Vals.rep h k)
theorem foldl_rep (its:List Value) : ∀ (k:Nat) (acc:List Value),
  List.foldl (λ x1 x2=>x1++x2) acc.toArray (List.replicate k its.toArray)=(acc++(List.replicate k its).flatten).toArray
 | 0,acc=>by simp
 | k+1,acc=>by
   have e:acc.toArray++its.toArray=(acc++its).toArray:=by simp
   have e2:(acc++its)++(List.replicate k its).flatten=acc++(List.replicate (k+1) its).flatten:=by
    rw [List.replicate_succ,List.flatten_cons,List.append_assoc]
   rw [<-e2,<-foldl_rep its k (acc++its),<-e,List.replicate_succ,List.foldl_cons]
section
variable {X:Cx} {pins:List (Addr×Obj)} {σ : St} {H:Hp} {s:Shared} {l b:Addr} {xs ys zs:List V}
theorem Inv.Ve {its its':List Value} {n:Nat} {f:Array Value->Array Value} {t':Nat} (I:Inv X pins σ H s) (hH:H l=some (.lst xs))
  (e:s.heap.get? l=some { cls := .type "list",data := .seq its.toArray n }) (hf:f its.toArray=its'.toArray) (hv:Vals ys its') (hz:ys.length<=sizeLine) :
  Inv X pins σ (upd H l (.lst ys)) { s with heap:=s.heap.update l (Obj.mapSeq f),toks:=t' } := by
 have q:=PySem.IsL.update e f
 rw [hf] at q
 refine I.write (x:=l) (e:=l) (by rw [hH];exact trivial) (.inl rfl) (λ b' u hb hu=>(Heap.get?_update_other s.heap (Obj.mapSeq f) (Ne.symm hb)).trans hu) ⟨_,q⟩ ?_
 exact ⟨hz,its',_,hv,q⟩
theorem Inv.Vf {its:List Value} {t':Nat} (I:Inv X pins σ H s) (hv:Vals ys its) (hz:ys.length<=sizeLine) :
  Inv X pins σ (upd H s.heap.objs.size (.lst ys)) { s with heap:=s.heap.push { cls := .type "list",data := .seq its.toArray },toks:=t' } :=
 I.laid (λ _ _ q=>Heap.get?_push_of_some _ q) (Nat.le_refl _) ⟨hz,its,0,hv,Heap.get?_push_size _ rfl⟩
theorem Inv.fresh (I:Inv X pins σ H s):H s.heap.objs.size=none:=I.hok.fresh (Nat.le_refl _)
theorem Inv.Ec (I:Inv X pins σ H s) (hH:H l=some (.lst xs)):xs.length<=sizeLine ∧ ∃ (its:List Value) (n:Nat),Vals xs its/\xs.length=its.length/\s.heap.get? l=some { cls := .type "list",data := .seq its.toArray n } := by
 obtain ⟨z,its,n,r,e⟩:=I.hok l _ hH
 exact ⟨z,its,n,r,r.length,e⟩
theorem Ed {n:Nat} (h:n<=sizeLine):Builtin.List.listTooLong n=false:=by
 unfold Builtin.List.listTooLong
 exact decide_eq_false (by omega)
end
section
variable {X:Cx}
def Pb:V->List V->Hp->VK->Prop:=λ x vs H Q => ∃ l xs y,x = .ref l/\vs = [y]/\H l=some (.lst xs)/\xs.length < sizeLine/\Q .aM (upd H l (.lst (xs++[y])))
theorem Jq:W3 X "list.append" Pb:=by
 intro pins s σ H x vs v us Q I rx rv h
 obtain ⟨l,xs,y,rfl,rfl,hH,hz,q⟩:=h
 cases rx
 obtain ⟨u,rfl,ru⟩:=rv.one
 obtain ⟨z,its,n,r,hl,e⟩:=I.Ec hH
 refine call_meets F.slot_list_append ⟨_,e,rfl⟩ F.entry_list_append (F.args_list_append_2 _ _) (PySem.list_append l its.toArray n u (by rw [List.size_toArray];omega)) ⟨e,?_⟩
 refine ⟨.aM,_,I.Ve (its':=its++[u]) hH e (by simp) (r.append (.cons ru .nil)) ?_,rfl,q⟩
 rw [List.length_append,List.length_singleton]
 omega
def Pc:V->List V->Hp->VK->Prop:=λ x vs H Q => ∃ l b xs zs,x = .ref l/\vs = [.ref b]/\H l=some (.lst xs)/\H b=some (.lst zs)/\xs.length+zs.length<=sizeLine/\Q .aM (upd H l (.lst (xs++zs)))
theorem Uz:W3 X "list.extend" Pc:=by
 intro pins s σ H x vs v us Q I rx rv h
 obtain ⟨l,b,xs,zs,rfl,rfl,hH,hB,hz,q⟩:=h
 cases rx
 obtain ⟨u,rfl,ru⟩:=rv.one
 cases ru
 obtain ⟨z,its,n,r,hl,e⟩:=I.Ec hH
 obtain ⟨z2,its2,n2,r2,hl2,e2⟩:=I.Ec hB
 have hsz:its.toArray.size+its2.toArray.size<=sizeLine:=by rw [List.size_toArray,List.size_toArray];omega
 have L4 : ¬ (!its.toArray.isEmpty && Builtin.List.listTooLong (its.toArray.size+its2.toArray.size))=true:=by
  rw [Ed hsz,Bool.and_false]
  exact Bool.false_ne_true
 refine call_meets F.slot_list_extend ⟨_,e,rfl⟩ F.entry_list_extend (F.args_list_extend_2 _ _)
  (AutoSeq1.list_extend_list_list_0 l its.toArray n b its2.toArray n2 L4 (by rw [List.size_toArray];omega) (by omega)) ⟨e,e2,?_⟩
 refine ⟨.aM,_,I.Ve (its':=its++its2) hH e (by simp) (r.append r2) ?_,rfl,q⟩
 rw [List.length_append]
 omega
def Su:R2:=λ x y H Q => ∃ l b xs zs,x = .ref l/\y = .ref b/\H l=some (.lst xs)/\H b=some (.lst zs)/\xs.length+zs.length<=sizeLine ∧ ∀ p,H p=none->Q (.ref p) (upd H p (.lst (xs++zs)))
theorem L5:oF X (binaryOp .Add) Su:=by
 intro pins s σ H x y v u Q I rx ry h
 obtain ⟨l,b,xs,zs,rfl,rfl,hH,hB,hz,q⟩:=h
 cases rx
 cases ry
 obtain ⟨z,its,n,r,hl,e⟩:=I.Ec hH
 obtain ⟨z2,its2,n2,r2,hl2,e2⟩:=I.Ec hB
 refine PySem.P.add_list e e2 ?_ (by rw [List.size_toArray,List.size_toArray];omega)
 have ea:its.toArray++its2.toArray=(its++its2).toArray:=by simp
 rw [ea]
 exact ⟨.ref _,_,I.Vf (t':=s.toks) (r.append r2) (by rw [List.length_append];omega),rfl,q _ I.fresh⟩
def Vg:R2:=λ x y H Q => ∃ l k xs,x = .ref l/\y = .int k/\H l=some (.lst xs) ∧ -(2 ^ 63)<=k/\k < 2 ^ 63/\xs.length * k.toNat<=sizeLine ∧
 ∀ p,H p=none->Q (.ref p) (upd H p (.lst (List.replicate k.toNat xs).flatten))
theorem len_rep {α : Type} (xs:List α) (k:Nat):(List.replicate k xs).flatten.length=k * xs.length:=by
 induction k with
 | zero=>simp
 | succ k ih=>rw [List.replicate_succ,List.flatten_cons,List.length_append,ih,Nat.succ_mul,Nat.add_comm]
theorem lR:oF X (binaryOp .Mult) Vg:=by
 intro pins s σ H x y v u Q I rx ry h
 obtain ⟨l,k,xs,rfl,rfl,hH,h1,h2,hz,q⟩:=h
 cases rx
 obtain ⟨t,rfl⟩:=ry
 obtain ⟨z,its,n,r,hl,e⟩:=I.Ec hH
 have hlen:its.toArray.size * k.toNat<=sizeLine:=by rw [List.size_toArray,<-hl];exact hz
 have hcap : ¬ its.toArray.size * k.toNat > (2 ^ 63 - 1) / 8:=by
  have:(sizeLine:Nat)<=(2 ^ 63 - 1) / 8:=by decide
  omega
 have hfit : ¬ (!Builtin.List.listFitsIndex k)=true:=by
  rw [fitsIndex_both h1 h2]
  exact Bool.false_ne_true
 have L4 : ¬ Builtin.List.listTooLong (its.toArray.size * k.toNat)=true:=by
  rw [Ed hlen]
  exact Bool.false_ne_true
 have hnew:List.foldl (λ x1 x2=>x1++x2) #[] (List.replicate (if its.toArray.isEmpty=true then 0 else k.toNat) its.toArray)=(List.replicate k.toNat its).flatten.toArray:=by
  have f0 : ∀ m:Nat,List.foldl (λ x1 x2=>x1++x2) #[] (List.replicate m its.toArray)=(List.replicate m its).flatten.toArray:=λ m=>by
   have:=foldl_rep its m []
   rw [List.nil_append] at this
   exact this
  rw [f0]
  cases its with
  | nil=>simp
  | cons a r'=>rw [if_neg (by simp)]
 refine wpAny_binaryOp_repeat_ref (T := "list") (U := "int") (by decide) ⟨_,e,rfl⟩ (λ s'=>typeIs_int s' k t) noFill_list_mul F.fills_int_mul F.slot_int_rmul repeat_list F.slot_int_index.lookup
  (call_meets F.slot_int_rmul (typeIs_int s k t) F.entry_int_rmul (F.args_int_rmul_2 _ _) (int___rmul___int_list k t l its.toArray n)
   ⟨e,rfl,⟨_,e,rfl⟩,call_meets F.slot_list_mul ⟨_,e,rfl⟩ F.entry_list_mul (F.args_list_mul_2 _ _) (AutoListH.list___mul___list_int_3 l its.toArray n k t hfit hcap L4) ⟨e,?_⟩⟩)
 rw [hnew]
 exact ⟨.ref _,_,I.Vf (t':=s.toks) (r.rep k.toNat) (by rw [len_rep,Nat.mul_comm];exact hz),rfl,q _ I.fresh⟩
end
section
variable {prog:Program} {w:World} {A:Around} {E:Value->Shared->Prop} {s:Shared}
end
section
variable {X:Cx}
end
end L2
namespace W4
open PySem PySem.W PySem.Calls PyProof.Rows
theorem uh {P:Params} {h:Heap} : ∀ (ns:List Int) (vs:List Value),WellAll P h vs (ns.map WData.int)->IntsAre vs ns:=by
 intro ns
 induction ns with
 | nil =>
   intro vs w
   rw [List.map_nil] at w
   cases w
   exact .nil
 | cons n ns ih =>
   intro vs w
   rw [List.map_cons] at w
   cases w with
   | cons a b =>
     cases a
     exact .cons _ _ (ih _ b)
theorem Jr {l:OpenLaw} {n:Nat} (hn:l.most=some n) {P:Params} {h:Heap} {args:List WData} {vals:List Value}
  (hpre:l.row.toRowW.claim.pre args=true) (hwl:WellAll P h vals args) :
  ∃ a vs ns,vals = [Value.ref a]/\args = [WData.list (ns.map WData.int)]/\h.get? a=some { cls := .type "list",data := .seq vs.toArray } ∧ IntsAre vs ns/\ns.length<=n:=by
 have hsh:WShape.hasAll [] args [.list .int]=true:=(pre_splitW hpre).1
 have hc:l.pre.holds [] { args:=args } = true:=(pre_splitW hpre).2
 obtain ⟨d,r,rfl,h1,h2⟩:=hasAllW_cons hsh
 obtain rfl:=hasAllW_nil h2
 obtain ⟨xs,rfl,h3⟩:=hasW_list h1
 obtain ⟨ns,rfl⟩:=items_int h3
 have hlen:ns.length<=n:=by
  unfold OpenLaw.pre at hc
  have h4:(WTm.not (.lt (.lit (.int (n:Int))) (.len (.arg 0)))).holds [] { args:=[.list (ns.map .int)] } = true:=by
   have h4:=(holds_andW hc).1
   rw [hn] at h4
   exact h4
  have h5:=condW_of h4 (w_not (w_lt w_lit (w_len_list (w_arg rfl))))
  rw [List.length_map] at h5
  refine Nat.le_of_not_lt λ q => ?_
  have q':(n:Int) < ((ns.length:Nat):Int):=by omega
  first
   | (rw [decide_eq_true q'] at h5;exact absurd h5 (by decide))
   | (simp at h5;omega)
 cases hwl with
 | cons w1 w2 =>
   cases w2
   cases w1 with
   | list ho hall=>exact ⟨_,_,ns,rfl,rfl,ho,uh ns _ hall,hlen⟩
theorem Js (l:OpenLaw) (args:List WData):l.row.toRowW.claim.post args (.bool true) args=true :=
 postW_of (r:=l.row.toRowW) (X:=(true == true))
  (show WShape.has [] (.bool true) .bool=true by first | rfl | decide | simp [WShape.has,WShape.arms,WShape.armsAll])
  (show (WTm.eq .res (.lit (.bool true))).value [] { args:=args,res:=some (.bool true),after:=args } = some (.bool (true == true)) from w_eq_bool (w_res rfl) w_lit) rfl
section
variable {prog:Program} {w:World} {A:Around} {E:Value->Shared->Prop} {s:Shared} {K:Frag}
def ledger (h:Heap) (L d:Addr):List (Addr×Obj):=(List.range h.objs.size).filterMap λ a=>if a=L\/a=d then none else (h.get? a).map λ o=>(a,o)
end
end W4
namespace L2
open PySem PySem.Spec PyProof.Rows
theorem Bt : ∀ {vs:List Value} {ns:List Int},IntsAre vs ns->Vals (ns.map V.int) vs
 | _,_,.nil => .nil
 | _,_,.cons n t h => .cons ⟨t,rfl⟩ (Bt h)
def Pd (H:Hp):Prop := ∀ b,H b=none ∨ ∃ o xs,H b=some (.DP o (.lst xs))
theorem L6 {P:Program} {w:World} {K:PySem.W.Frag} {mg mb:Str->Option Value} {CX:Jj} {k:Nat} {fa a:Addr} {fd:FuncData} {x:Str} {sp:Sp} {s₁ : Shared} {vs:List Value} {ns:List Int}
  (KX:K.In s₁.heap) (hns:s₁.heap.Ns mainGlobals mg) (hb:s₁.heap.Ns builtinsNs mb) (Vh : ∀ x:Str,x ≠ "__name__"->mb x=bootBuiltins x) (hlim:s₁.heap.NoLimit) (hg:s₁.gens = #[])
  (ha:s₁.heap.get? a=some { cls := .type "list",data := .seq vs.toArray }) (hi:IntsAre vs ns) (hl:ns.length<=sizeLine) (hr:dH k callerA)
  (F : ∀ base:Heap,K.In base->base.Ns mainGlobals mg->gK P w K mg base CX k fa fd [x] sp) (hbind : ∀ (s:Shared) (u:Value),BindsTo s fd ⟨[u],[]⟩ [(x,u)])
  (Fy : ∀ H:Hp,Pd H->fj K H a (ns.map V.int)->sp [.ref a] H (λ v _=>v = .bl true) λ _ _ _=>False)
  (hCX : ∀ H e s',CX [] H s₁ (λ _ _ _=>False) e s'->False) :
  codeAny (model P w) callerA (.call (.ref fa) ⟨[.ref a],[]⟩) (λ r s'=>r = .ok (.ret (.bool true))/\OldK s₁.heap s'.heap/\s'.os=s₁.os/\AllBare s'.gens) s₁ := by
 have rv:=Bt hi
 have Yk:=hi.length
 -- from an abstract heap in which nothing but OG script may be tracked
 have core : ∀ H:Hp,Pd H->fj K H a (ns.map V.int)->k6 P w H s₁.heap->(∀ b,H b≠none->b=a)->(H a≠none->K.lookup a=none) →
   codeAny (model P w) callerA (.call (.ref fa) ⟨[.ref a],[]⟩) (λ r s'=>r = .ok (.ret (.bool true))/\OldK s₁.heap s'.heap/\s'.os=s₁.os/\AllBare s'.gens) s₁ := by
  intro H hO hS hok hA hK
  have Ie : ∀ {b:Addr} {o:Obj},s₁.heap.get? b=some o->H b=none->(BV s₁.heap H).get? b=some o:=λ e n=>Lo e n
  have U7 : ∀ {b:Addr} {o:Obj} {es:Array DictEntry} {ep:Nat},s₁.heap.get? b=some o->o.data = .dict es ep->H b=none:=fun {b o es ep} e d=>by
   cases q:H b with
   | none=>rfl
   | some u =>
     have e':b=a:=hA b (by rw [q];simp)
     subst e'
     rw [ha] at e;cases e
     have d':Data.seq vs.toArray _=Data.dict es ep:=d
     cases d'
  have W5 : ∀ {b:Addr} {m:Str->Option Value},s₁.heap.Ns b m->(BV s₁.heap H).Ns b m:=fun {b m} ⟨o,es,ep,e,d,r⟩=>⟨o,es,ep,Ie e (U7 e d),d,r⟩
  have hKb:K.In (BV s₁.heap H):=λ b o e=>Ie (KX b o e) (by
   cases q:H b with
   | none=>rfl
   | some u =>
     have e':b=a:=hA b (by rw [q];simp)
     subst e'
     rw [hK (by rw [q];simp)] at e;cases e)
  have hM:Mod K mg (BV s₁.heap H):=⟨hKb,W5 hns,⟨mb,W5 hb,Vh⟩,let ⟨mc,h1,h2⟩:=hlim; ⟨mc,W5 h1,h2⟩⟩
  have e0:FZ P w K mg (BV s₁.heap H) callerA [] s₁ H:=⟨rfl,hM,λ b o e=>OS e,Nat.le_of_eq (Jb _ _),trivial,λ b hb=>absurd (show b∈([]:List Addr) from hb) (by simp),hok,.of_eq hg⟩
  refine codeAny_mono ((F _ hKb (W5 hns)).run callerA [] s₁ H ⟨[.ref a],[]⟩ [.ref a] [.ref a] _ _ hr e0 (hbind s₁ (.ref a)) (.cons rfl .nil) (Fy H hO hS)) λ r s' h => ?_
  cases r with
  | error e=>exact (hCX H e s' h).elim
  | ok fl =>
    cases fl with
    | next=>exact False.elim h
    | brk=>exact False.elim h
    | cont=>exact False.elim h
    | ret u =>
      obtain ⟨v,H',os,bare,un,Yl,r',q⟩:=h
      have q':v = .bl true:=q
      subst q'
      obtain rfl:u=Value.bool true:=r'
      refine ⟨rfl,OldK.of_keep λ b o e => ?_,os,bare⟩
      cases q:H b with
      | none=>exact un.keep b o e q (by intro z;exact absurd (show b∈([]:List Addr) from z) (by simp)) (by simp)
      | some u =>
        rcases hO b with z | ⟨ob,xs,z⟩
        ·rw [q] at z;cases z
        ·have z2:=un.k7 b ob _ z
         obtain ⟨e1,_⟩:=hok b _ z
         obtain ⟨e2,_⟩:=Yl b _ z2
         rw [e] at e1;cases e1
         exact e2
 cases hk:K.lookup a with
 | some o =>
   -- OG script is one of OG L3 own objects
   have e:=KX a o hk
   rw [ha] at e
   cases e
   refine core (λ _=>none) (λ _ => .inl rfl) (.inr ⟨_,vs.toArray,_,hk,rfl,rfl,rfl,by rw [List.size_toArray,Yk];exact hl,by simpa using rv⟩) (λ b u z=>by have z':(none:Option HO)=some u:=z;cases z') (λ b z=>absurd rfl z) λ z=>absurd rfl z
 | none =>
   refine core (λ b=>if b=a then some (.DP { cls := .type "list",data := .seq vs.toArray } (.lst (ns.map V.int))) else none) (λ b => ?_) (.inl (.inr ⟨{ cls := .type "list",data := .seq vs.toArray },if_pos rfl⟩)) (λ b u z => ?_) (λ b z => ?_) λ _=>hk
   ·by_cases hb:b=a
    ·exact .inr ⟨_,_,if_pos hb⟩
    ·exact .inl (if_neg hb)
   ·by_cases hb:b=a
    ·have z':=(if_pos hb).symm.trans z
     cases z'
     subst hb
     exact ⟨ha,by rw [List.length_map];exact hl,vs,_,rv,ha⟩
    ·have z':=(if_neg hb).symm.trans z
     cases z'
   ·by_cases hb:b=a
    ·exact hb
    ·exact absurd (if_neg hb) z
end L2
namespace L2
open PySem PySem.Spec PyProof.Rows
abbrev KOf {K:PySem.W.Frag} {h:Heap} (_:K.In h):PySem.W.Frag:=K
end L2
/- THE ahm W6 (shape; LID,My.* are ag7):
   My.Adr: a structure of OG addresses ahn aho ag8 names (classes,UA); My.Txt K t: a structure (Prop) of OG equations over K;
   My.F6 : {K} {implicit addresses ..} (e1:nsIn K mainGlobals "law" = some (some (.ref f))) (e2:K.lookup f=some ⟨oc,od,.func (fnOf "law" "law" params body scope dV kV doc pm an cdv ct),sl⟩) (e3:codeIn K cdv "law" = true) .. : ∃ t,My.Txt K t
set_option maxRecDepth 100000 in
set_option maxHeartbeats 0 in
theorem PySem.Challenge.cw_LID_holds : PySem.Challenge.rw_LID.Holds := by
 w_on;o_law;k_head; (case hw=>w_witness2)
 k_fill
 refine L2.W7 (l := PySem.Challenge.rw_LID) (n := 63) (k := 40) (x := "script") (CX := fun w => ..) (sp := fun _ => My.Ym) rfl (by decide) rfl ⟨rfl, by decide, by decide⟩ (fun w h Y => PySem.W.kIn_of Y) ?F ?S ?C
 case F =>
  intro w mg fa h KX G hmg
  have T : ∃ t,My.Txt (L2.KOf KX) t:=by
   dsimp only [L2.KOf]                          -- K ahp stand as «<heap const> w.params» for k_is
   refine' My.F6 ?e1 ?e2 ?e3 ..
   (case e1=>PySem.W.k_is)                    -- in OG order: a name -> its address -> its object -> its parts
   (case e2=>PySem.W.k_is)
   ..
  obtain ⟨t,T⟩:=T
  have e0:=hmg.symm.trans (PySem.W.mg_of KX G T.law)
  cases e0                                       -- fa is OG ag9 own address
  exact ⟨_,λ s u => .of_eq rfl,λ base kb nb=>My.Sv T kb nb⟩     -- if «.of_eq rfl» comes too early: refine' ⟨_,?b,λ base kb nb=>My.Sv T kb nb⟩;exact λ s u => .of_eq rfl
 case S=>exact λ w H a ns hl hO hS => ..
 case C=>exact ..
(OG tactic k_is has no namespace: write k_is) -/
namespace L2
open PySem PySem.Spec PyProof.Rows
def inClass (s:Stmt) (j:Nat):Stmt:=match s with
 | .ClassDef _ _ _ body _ _ _ _ _ _ _=>body.getD j (.Pass ⟨0,0,0,0⟩)
 | _ => .Pass ⟨0,0,0,0⟩
def aC (s:Stmt):Arguments:=match s with
 | .FunctionDef _ a _ _ _ _ _ _ _ _=>a
 | _ => { posonlyargs:=[],args:=[],vararg:=none,kwonlyargs:=[],kw_defaults:=[],kwarg:=none,defaults:=[] }
def ay (s:Stmt):List Stmt:=match s with
 | .FunctionDef _ _ b _ _ _ _ _ _ _=>b
 | _=>[]
def ai (s:Stmt):Scope:=match s with
 | .FunctionDef _ _ _ _ _ _ sc _ _ _=>sc
 | _ => { kind := .function,names:=[],isGenerator:=false,isCoroutine:=false }
abbrev CX0:Jj:=λ _ _ _ _ _ _=>False
abbrev E0:XK:=λ _ _ _=>False
structure Jt (K:PySem.W.Frag) (x qual:Str) (st:Stmt) (f:Addr) (fd:FuncData):Prop where
 ex : ∃ (oc:Value) (od:Option Addr) (kV doc pm:Value) (an:Option Addr) (cdv ct:Value) (osl:Array (Option Value)),
  fd=PySem.W.fnOf x qual (aC st) (ay st) (ai st) .none kV doc pm an cdv ct/\K.lookup f=some ⟨oc,od,.func fd,osl⟩/\PySem.W.codeIn K cdv qual=true
 kp:PySem.W.keepIn K (.ref f)=true
section
variable {P:Program} {w:World} {K:PySem.W.Frag} {mg:Str->Option Value} {base:Heap}
theorem Jt.ok {x qual:Str} {st:Stmt} {f:Addr} {fd:FuncData} {N ps:List Str} {k:Nat} {sp:Sp} (F:Jt K x qual st f fd) (S:aD N ps (ai st)) (len : ∀ vs H Q E,sp vs H Q E->vs.length=ps.length)
  (hbody : ∀ (cdv:Value) (A:Around) (outer:List Env) (s:Shared) (H:Hp) (vs:List V) (Q:VK) (E:XK),dH k (A.deeper (envOfC qual (ai st) s.heap.objs.size f cdv))->sp vs H Q E →
   ∃ t,BX (vV CX0 P w K mg base N qual (ai st) f cdv A outer s H E).Fx (ay st) t/\t { nx:=λ _ H'=>Q .aM H',rt:=Q } (start N vs) H):gK P w K mg base CX0 (k+1) f fd ps sp:=by
 obtain ⟨oc,od,kV,doc,pm,an,cdv,ct,osl,rfl,lk,hcd⟩:=F.ex
 refine Bq lk hcd S len λ A outer s H vs Q E hr Fy => ?_
 obtain ⟨t,h,q⟩:=hbody cdv A outer s H vs Q E hr Fy
 exact ⟨t,h.Fx,q⟩
theorem Jt.binds {x qual:Str} {st:Stmt} {f:Addr} {fd:FuncData} {ps:List Str} (F:Jt K x qual st f fd)
  (h : ∀ (kV doc pm:Value) (an:Option Addr) (cdv ct:Value) (us:List Value),us.length=ps.length->bindArgs (PySem.W.fnOf x qual (aC st) (ay st) (ai st) .none kV doc pm an cdv ct) ⟨us,[]⟩ = pure (ps.zip us)):Binds K fd ps []:=by
 obtain ⟨oc,od,kV,doc,pm,an,cdv,ct,osl,rfl,lk,hcd⟩:=F.ex
 exact .all (h kV doc pm an cdv ct)
theorem F7 {x qual:Str} {st:Stmt} {f:Addr} {oc:Value} {od an:Option Addr} {osl:Array (Option Value)} {kV doc pm cdv ct:Value} (l:K.lookup f=some ⟨oc,od,.func (PySem.W.fnOf x qual (aC st) (ay st) (ai st) .none kV doc pm an cdv ct),osl⟩)
  (c:PySem.W.codeIn K cdv qual=true) (k:PySem.W.keepIn K (.ref f)=true):Jt K x qual st f (PySem.W.fnOf x qual (aC st) (ay st) (ai st) .none kV doc pm an cdv ct):=⟨⟨oc,od,kV,doc,pm,an,cdv,ct,osl,rfl,l,c⟩,k⟩
end
section
variable {X:Cx}
theorem pv (i:Nat) {x:Str} {pos:Pos} (hN:X.N[i]? = some x:=by rfl) (hv:RU X.env.scope x:=by first | exact Or.inl rfl | exact Or.inr (Or.inl rfl) | exact Or.inr (Or.inr rfl)) (hd:(x == ("__debug__" : Str))=false:=by decide)
  (hcd:(x == ("__classdict__" : Str))=false:=by decide):PE X (.Name x pos) (FJ i):=FL hN hv hd hcd
theorem aq (i:Nat) {x:Str} {pos:Pos} (h:X.N[i]? = some x/\RU X.env.scope x/\(x == ("__debug__" : Str))=false/\(x == ("__classdict__" : Str))=false):PE X (.Name x pos) (FJ i):=FL h.1 h.2.1 h.2.2.1 h.2.2.2
theorem Ju:lN X (.builtin "len") (λ xs H Q => ∃ a kvs,xs = [V.ref a]/\H a=some (.dK kvs)/\Q (.int kvs.length) H):=by
 intro pins s σ H xs us Q I r h
 obtain ⟨a,kvs,rfl,ha,q⟩:=h
 obtain ⟨u,rfl,ru⟩:=vals1 r
 cases ru
 exact Va I (.inl ha) λ t s' I'=>⟨.int kvs.length,H,I',⟨t,rfl⟩,q⟩
end
theorem Vi {A B:Prop} (h:B):if false=true then A else B:=by
 rw [if_neg Bool.false_ne_true]
 exact h
theorem Vj {A B:Prop} (h:A):if true=true then A else B:=by
 rw [if_pos rfl]
 exact h
theorem Yn {c A B:Prop} [Decidable c] (h1:c->A) (h2 : ¬ c->B):if c then A else B:=by
 by_cases h:c
 ·rw [if_pos h]
  exact h1 h
 ·rw [if_neg h]
  exact h2 h
def k8 (H H':Hp):Prop := ∀ b o,H b=some o->H' b=some o
theorem k8.trans {H H1 H2:Hp} (a:k8 H H1) (b:k8 H1 H2):k8 H H2:=λ c o h=>b c o (a c o h)
theorem k8.free {H H':Hp} (e:k8 H H') {l:Addr} (h:H' l=Option.none):H l=Option.none:=by
 cases q:H l with
 | none=>rfl
 | some o =>
   rw [e l o q] at h
   cases h
theorem k8.seq {K:PySem.W.Frag} {H H':Hp} {a:Addr} {xs:List V} (e:k8 H H') (h:fj K H a xs):fj K H' a xs:=by
 rcases h with (h | ⟨o,h⟩) | h
 ·exact .inl (.inl (e _ _ h))
 ·exact .inl (.inr ⟨o,e _ _ h⟩)
 ·exact .inr h
section
variable {κ : Type} [DecidableEq κ]
theorem Ef {kvs:List (κ × V)} {k : κ} (h:bx kvs k=none) : ¬ k∈kvs.map (·.1):=by
 intro m
 obtain ⟨p,hp,e⟩:=List.mem_map.mp m
 have q:(kvs.any λ kv=>decide (kv.1=k))=true:=List.any_eq_true.mpr ⟨p,hp,decide_eq_true e⟩
 rw [dI,h] at q
 exact absurd q (by simp)
theorem Pe {kvs:List (κ × V)} {k : κ} {v:V} (h:bx kvs k=some v):k∈kvs.map (·.1):=by
 have q:(kvs.any λ kv=>decide (kv.1=k))=true:=by
  rw [dI,h]
  all_goals rfl
 obtain ⟨p,hp,e⟩:=List.any_eq_true.mp q
 exact List.mem_map.mpr ⟨p,hp,of_decide_eq_true e⟩
theorem Ig : ∀ {l:List κ} {k : κ},l.Nodup->¬ k∈l->(l++[k]).Nodup
 | [],k,_,_=>by simp
 | a::r,k,h,hk=>by
   obtain ⟨h1,h2⟩:=List.nodup_cons.mp h
   show (a::(r++[k])).Nodup
   refine List.nodup_cons.mpr ⟨λ m => ?_,Ig h2 λ m=>hk (List.mem_cons.mpr (Or.inr m))⟩
   rcases List.mem_append.mp m with q | q
   ·exact h1 q
   ·exact hk (List.mem_cons.mpr (Or.inl (List.mem_singleton.mp q).symm))
theorem Pf {kvs:List (κ × V)} {k : κ} (v:V) (hn:(kvs.map (·.1)).Nodup) (h:bx kvs k=none):((putK kvs k v).map (·.1)).Nodup:=by
 rw [D7 v h,List.map_append]
 exact Ig hn (Ef h)
theorem Bu {p : κ × V} {r:List (κ × V)} {k : κ} (e:p.1=k):dW (p::r) k=dW r k:=by
 unfold dW
 rw [List.filter_cons,if_neg (by simp [e])]
theorem Bv {p : κ × V} {r:List (κ × V)} {k : κ} (e : ¬ p.1=k):dW (p::r) k=p::dW r k:=by
 unfold dW
 rw [List.filter_cons,if_pos (by simp [e])]
theorem Bw {kvs:List (κ × V)} {k : κ} {p : κ × V} (h:p∈dW kvs k):p∈kvs:=(List.mem_filter.mp h).1
theorem vZ : ∀ {kvs:List (κ × V)} {k : κ},(kvs.map (·.1)).Nodup->((dW kvs k).map (·.1)).Nodup
 | [],_,_=>List.nodup_nil
 | p::r,k,h=>by
   have h:(p.1::r.map (·.1)).Nodup:=h
   obtain ⟨h1,h2⟩:=List.nodup_cons.mp h
   by_cases e:p.1=k
   ·rw [Bu e]
    exact vZ h2
   ·rw [Bv e]
    show (p.1::(dW r k).map (·.1)).Nodup
    refine List.nodup_cons.mpr ⟨λ m=>h1 ?_,vZ h2⟩
    obtain ⟨q,hq,eq⟩:=List.mem_map.mp m
    exact List.mem_map.mpr ⟨q,Bw hq,eq⟩
end
end L2
namespace L2
open PySem PySem.Spec PyProof.Rows
structure Q7 (P:Program) (w:World) (l:List Env) (H:Hp) (h0:Heap) (H':Hp) (h:Heap) (ea:Addr) (cls:Value):Prop where
 un:Un (frs l) [] H H' h0 h
 hok:k6 P w H' h
 new:h0.get? ea=none
 fly : ∃ B a0,Heap.FlyingW B l ea cls a0 h/\(∀ b u o,H' b=some u->h.get? b=some o->B.get? b=some o) ∧ ∀ b o o',h0.get? b=some o->h.get? b=some o'->b ∉ frs l->B.get? b=some o'
def yZ (P:Program) (w:World):Jj:=λ outer H s E e s' => ∃ (H':Hp) (ea:Addr) (cls:Value),e = .ref ea/\s'.os=s.os/\AllBare s'.gens/\Q7 P w outer H s.heap H' s'.heap ea cls/\E cls none H'
theorem az {P:Program} {w:World} {X:Cx} : Passes (yZ P w) X E0:=λ _ _ _ _ _ _ _ ⟨_,_,_,_,_,_,_,h⟩=>h.elim
def Def (K:PySem.W.Frag) (mg:Str->Option Value) (x:Str) (st:Stmt):Prop := ∃ f fd,mg x=some (.ref f)/\Jt K x x st f fd
structure cQ (P:Program) (w:World) (K:PySem.W.Frag) (mg:Str->Option Value) (base:Heap) (k:Nat) (x:Str) (ps:List Str) (sp:Sp):Prop where
 ex : ∃ f fd,mg x=some (.ref f)/\PySem.W.keepIn K (.ref f)=true/\Binds K fd ps []/\gK P w K mg base (yZ P w) k f fd ps sp
theorem cQ.mono {P:Program} {w:World} {K:PySem.W.Frag} {mg:Str->Option Value} {base:Heap} {j k:Nat} {x:Str} {ps:List Str} {sp:Sp} (F:cQ P w K mg base j x ps sp) (h:j<=k):cQ P w K mg base k x ps sp:=by
 obtain ⟨f,fd,h1,h2,h3,h4⟩:=F.ex
 exact ⟨f,fd,h1,h2,h3,h4.mono h⟩
section
variable {P:Program} {w:World} {K:PySem.W.Frag} {mg:Str->Option Value} {base:Heap}
theorem Jt.okN {x qual:Str} {st:Stmt} {f:Addr} {fd:FuncData} {N ps:List Str} {k:Nat} {sp:Sp} (F:Jt K x qual st f fd) (S:aD N ps (ai st)) (len : ∀ vs H Q E,sp vs H Q E->vs.length=ps.length)
  (hbody : ∀ (cdv:Value) (A:Around) (outer:List Env) (s:Shared) (H:Hp) (vs:List V) (Q:VK) (E:XK),dH k (A.deeper (envOfC qual (ai st) s.heap.objs.size f cdv))->sp vs H Q E →
   ∃ t,BX (vV (yZ P w) P w K mg base N qual (ai st) f cdv A outer s H E).Fx (ay st) t/\t { nx:=λ _ H'=>Q .aM H',rt:=Q } (start N vs) H):gK P w K mg base (yZ P w) (k+1) f fd ps sp:=by
 obtain ⟨oc,od,kV,doc,pm,an,cdv,ct,osl,rfl,lk,hcd⟩:=F.ex
 refine Bq lk hcd S len λ A outer s H vs Q E hr Fy => ?_
 obtain ⟨t,h,q⟩:=hbody cdv A outer s H vs Q E hr Fy
 exact ⟨t,h.Fx,q⟩
theorem Def.ok {x:Str} {st:Stmt} {N ps:List Str} {k:Nat} {sp:Sp} (D:Def K mg x st) (S:aD N ps (ai st)) (len : ∀ vs H Q E,sp vs H Q E->vs.length=ps.length)
  (hb : ∀ (kV doc pm:Value) (an:Option Addr) (cdv ct:Value) (us:List Value),us.length=ps.length->bindArgs (PySem.W.fnOf x x (aC st) (ay st) (ai st) .none kV doc pm an cdv ct) ⟨us,[]⟩ = pure (ps.zip us))
  (hbody : ∀ (f:Addr) (cdv:Value) (A:Around) (outer:List Env) (s:Shared) (H:Hp) (vs:List V) (Q:VK) (E:XK),dH k (A.deeper (envOfC x (ai st) s.heap.objs.size f cdv))->sp vs H Q E →
   ∃ t,BX (vV (yZ P w) P w K mg base N x (ai st) f cdv A outer s H E).Fx (ay st) t/\t { nx:=λ _ H'=>Q .aM H',rt:=Q } (start N vs) H):cQ P w K mg base (k+1) x ps sp:=by
 obtain ⟨f,fd,hm,F⟩:=D
 refine ⟨f,fd,hm,F.kp,F.binds hb,?_⟩
 obtain ⟨oc,od,kV,doc,pm,an,cdv,ct,osl,rfl,lk,hcd⟩:=F.ex
 refine Bq lk hcd S len λ A outer s H vs Q E hr Fy => ?_
 obtain ⟨t,h,q⟩:=hbody f cdv A outer s H vs Q E hr Fy
 exact ⟨t,h.Fx,q⟩
end
section
variable {X:Cx} {k:Nat} {ps:List Str} {sp:Sp} {E:XK} {x:Str} {p pos:Pos} {e:Expr} {es:List Expr} {t:TA}
theorem aA (F:cQ X.prog X.w X.K X.mg X.base k x ps sp) (hr:dH k X.A) (hg:Gl X x) (hx:Passes (yZ X.prog X.w) X E) (ha:PA X (e::es) t)
  (hdb:(x == ("__debug__" : Str))=false:=by decide) (he:starEach (e::es) X.env=(false,eval e X.env)::starEach es X.env:=by rfl) (hpl:(backTo pos (starEach es X.env)).any (·.1)=false:=by rfl) :
  PE X (.Call (.Name x p) (e::es) [] pos) (HY sp [] E t):=by
 obtain ⟨f,fd,h1,h2,h3,h4⟩:=F.ex
 exact O2 h4 hr hg h1 h2 h3 .nil hx ha hdb he hpl
end
section
variable {X:Cx}
def Yo (K:PySem.W.Frag):List V->Hp->VK->Prop:=λ xs H Q => ∃ x c t b,xs = [x,c]/\pZ K H x t/\((∃ n,c = .ty n/\PySem.W.kitOne K t (.type n)=some b) ∨ ∃ a,c = .ref a/\PySem.W.kitOne K t (.ref a)=some b)/\Q (.bl b) H
theorem L7:lN X (.builtin "isinstance") (Yo X.K):=by
 intro pins s σ H xs us Q I r h
 obtain ⟨x,c,t,b,rfl,ty,hc,q⟩:=h
 obtain ⟨u,v,rfl,ru,rv⟩:=Vals.two r
 rcases hc with ⟨n,rfl,e⟩ | ⟨a,rfl,e⟩
 ·cases (show v=Value.type n from rv)
  exact Bh I ru ty e λ tk=>⟨.bl b,H,I.tok tk,rfl,q⟩
 ·cases (show v=Value.ref a from rv)
  exact Bh I ru ty e λ tk=>⟨.bl b,H,I.tok tk,rfl,q⟩
end
theorem bu:bootBuiltins "isinstance" = some (.builtin "isinstance"):=by decide +kernel
theorem bw:bootBuiltins "len" = some (.builtin "len"):=by decide +kernel
theorem L8:bootBuiltins "int" = some (.type "int"):=by decide +kernel
theorem B8:bootBuiltins "bool" = some (.type "bool"):=by decide +kernel
theorem Ma:bootBuiltins "str" = some (.type "str"):=by decide +kernel
theorem bO:bootBuiltins "list" = some (.type "list"):=by decide +kernel
theorem p7:bootBuiltins "tuple" = some (.type "tuple"):=by decide +kernel
structure iV (mg:Str->Option Value):Prop where
 isinstance:mg "isinstance" = none
 len:mg "len" = none
 int:mg "int" = none
 bool:mg "bool" = none
 str:mg "str" = none
 list:mg "list" = none
 tuple:mg "tuple" = none
 dict:mg "dict" = none
 range:mg "range" = none
 sorted:mg "sorted" = none
 min:mg "min" = none
 max:mg "max" = none
 all:mg "all" = none
 any:mg "any" = none
 enumerate:mg "enumerate" = none
 sum:mg "sum" = none
 ValueError:mg "ValueError" = none
theorem Sw {K:PySem.W.Frag} {h:Heap} {mg:Str->Option Value} (X:K.In h) (G:h.Ns mainGlobals mg)
  (z0:PySem.W.nsIn K mainGlobals "isinstance" = some none)
  (z1:PySem.W.nsIn K mainGlobals "len" = some none)
  (z2:PySem.W.nsIn K mainGlobals "int" = some none)
  (z3:PySem.W.nsIn K mainGlobals "bool" = some none)
  (z4:PySem.W.nsIn K mainGlobals "str" = some none)
  (z5:PySem.W.nsIn K mainGlobals "list" = some none)
  (z6:PySem.W.nsIn K mainGlobals "tuple" = some none)
  (z7:PySem.W.nsIn K mainGlobals "dict" = some none)
  (z8:PySem.W.nsIn K mainGlobals "range" = some none)
  (z9:PySem.W.nsIn K mainGlobals "sorted" = some none)
  (W8:PySem.W.nsIn K mainGlobals "min" = some none)
  (W9:PySem.W.nsIn K mainGlobals "max" = some none)
  (Xa:PySem.W.nsIn K mainGlobals "all" = some none)
  (Xc:PySem.W.nsIn K mainGlobals "any" = some none)
  (Xd:PySem.W.nsIn K mainGlobals "enumerate" = some none)
  (Xe:PySem.W.nsIn K mainGlobals "sum" = some none)
  (Xf:PySem.W.nsIn K mainGlobals "ValueError" = some none)
  : iV mg:=⟨PySem.W.mg_none_of X G z0,PySem.W.mg_none_of X G z1,PySem.W.mg_none_of X G z2,PySem.W.mg_none_of X G z3,PySem.W.mg_none_of X G z4,PySem.W.mg_none_of X G z5,PySem.W.mg_none_of X G z6,PySem.W.mg_none_of X G z7,PySem.W.mg_none_of X G z8,PySem.W.mg_none_of X G z9,PySem.W.mg_none_of X G W8,PySem.W.mg_none_of X G W9,PySem.W.mg_none_of X G Xa,PySem.W.mg_none_of X G Xc,PySem.W.mg_none_of X G Xd,PySem.W.mg_none_of X G Xe,PySem.W.mg_none_of X G Xf⟩
theorem bK {K:PySem.W.Frag} {h:Heap} {mg:Str->Option Value} {x:Str} {st:Stmt} {f:Addr} {oc:Value} {od an:Option Addr} {osl:Array (Option Value)} {kV doc pm cdv ct:Value} (X:K.In h) (G:h.Ns mainGlobals mg)
  (a:PySem.W.nsIn K mainGlobals x=some (some (.ref f))) (l:K.lookup f=some ⟨oc,od,.func (PySem.W.fnOf x x (aC st) (ay st) (ai st) .none kV doc pm an cdv ct),osl⟩)
  (c:PySem.W.codeIn K cdv x=true) (k:PySem.W.keepIn K (.ref f)=true):Def K mg x st:=⟨f,_,PySem.W.mg_of X G a,F7 l c k⟩
theorem Vk {P:Program} {w:World} {K:PySem.W.Frag} {mg:Str->Option Value} {st:Stmt} {fa:Addr} {k:Nat} {sp:Sp} {x:Str} (D:Def K mg "law" st) (hmg:mg "law" = some (.ref fa))
  (hb : ∀ (kV doc pm:Value) (an:Option Addr) (cdv ct u:Value),bindArgs (PySem.W.fnOf "law" "law" (aC st) (ay st) (ai st) .none kV doc pm an cdv ct) ⟨[u],[]⟩ = pure [(x,u)])
  (ok : ∀ (base:Heap) (f:Addr) (fd:FuncData),Jt K "law" "law" st f fd->gK P w K mg base (yZ P w) k f fd [x] sp) :
  ∃ fd:FuncData,(∀ (s:Shared) (u:Value),BindsTo s fd ⟨[u],[]⟩ [(x,u)]) ∧ ∀ base:Heap,K.In base->base.Ns mainGlobals mg->gK P w K mg base (yZ P w) k fa fd [x] sp:=by
 obtain ⟨f,fd,hm,F⟩:=D
 rw [hm] at hmg
 cases hmg
 obtain ⟨oc,od,kV,doc,pm,an,cdv,ct,osl,rfl,lk,hcd⟩:=id F.ex
 exact ⟨_,λ s u => .of_eq (hb kV doc pm an cdv ct u),λ base _ _=>ok base _ _ F⟩
end L2
namespace L2
open PySem PySem.Spec PyProof.Rows
def Is {α : Sort _} (a b : α):Prop:=a=b
theorem Is.eq {α : Sort _} {a b : α} (h:Is a b):a=b:=h
theorem Is.rfl {α : Sort _} {a : α} : Is a a:=Eq.refl a
theorem Yp {t u:TS} {D:Ends} {σ : St} {H:Hp} (h : ∀ M,Is M (u D)->t { D with nx:=M } σ H):Lv t u D σ H:=h _ Is.rfl
def Q8 (K:PySem.W.Frag) (a:Addr) (g:TG) (tb:TS) (D:Ends) (σ : St) (H:Hp):Prop :=
 ∃ W:Nat->Nat->St->Hp->Prop,(∃ m,W 0 m σ H) ∧ ∀ i m σ H,W i m σ H →
     ((Lf K a).stop i H/\D.nx σ H)\/((Lf K a).go i H ∧ ∃ N:St->Hp->Prop,(∀ σ' H',N σ' H'->∃ m',m' < m/\W (i+1) m' σ' H') ∧ ∀ x H',(Lf K a).OX i H x H'->g x σ H' fun σ2 H2=>tb { D with nx:=N,ct:=N,bk:=D.nx } σ2 H2)
theorem forL {K:PySem.W.Frag} {tl:TE} {g:TG} {tb:TS} {D:Ends} {σ : St} {H:Hp}
  (h : ∀ L,Is L (λ a H1=>Q8 K a g tb D σ H1)->tl σ H λ x H1 => ∃ a,x = .ref a/\(∃ xs,fj K H1 a xs)/\L a H1):R6 (LD K tl) g tb D σ H:=h _ Is.rfl
theorem Q9 {K:PySem.W.Frag} {a:Addr} {g:TG} {tb:TS} {D:Ends} {σ : St} {H:Hp} (xs:List V) (Pv:Nat->St->Hp->Prop) (h0:Pv 0 σ H) (hl : ∀ i σ H,i<=xs.length->Pv i σ H->fj K H a xs)
  (hs : ∀ i x σ H,xs[i]? = some x->Pv i σ H->g x σ H fun σ2 H2=>tb { D with nx:=Pv (i+1),ct:=Pv (i+1),bk:=D.nx } σ2 H2) (hd : ∀ σ H,Pv xs.length σ H->D.nx σ H):Q8 K a g tb D σ H:=LH Pv h0 hl hs hd
def Ra (lo:Int) (n:Nat) (g:TG) (tb:TS) (D:Ends) (σ : St) (H:Hp):Prop :=
 ∃ W:Nat->Nat->St->Hp->Prop,(∃ m,W 0 m σ H) ∧ ∀ i m σ H,W i m σ H →
     ((Jd lo n).stop i H/\D.nx σ H)\/((Jd lo n).go i H ∧ ∃ N:St->Hp->Prop,(∀ σ' H',N σ' H'->∃ m',m' < m/\W (i+1) m' σ' H') ∧ ∀ x H',(Jd lo n).OX i H x H'->g x σ H' fun σ2 H2=>tb { D with nx:=N,ct:=N,bk:=D.nx } σ2 H2)
theorem nQ {ta:TA} {g:TG} {tb:TS} {D:Ends} {σ : St} {H:Hp}
  (h : ∀ L,Is L (λ n H1=>Ra 0 n g tb D σ H1)->ta σ H λ vs H1 => ∃ j:Int,vs = [.int j] ∧ -(2 ^ 62)<=j/\j < 2 ^ 62/\L j.toNat H1):R6 (LG ta) g tb D σ H:=h _ Is.rfl
theorem nR {lo:Int} {n:Nat} {g:TG} {tb:TS} {D:Ends} {σ : St} {H:Hp} (Pv:Nat->St->Hp->Prop) (h0:Pv 0 σ H)
  (hs : ∀ i σ H,i < n->Pv i σ H->g (.int (lo+i)) σ H fun σ2 H2=>tb { D with nx:=Pv (i+1),ct:=Pv (i+1),bk:=D.nx } σ2 H2) (hd : ∀ σ H,Pv n σ H->D.nx σ H):Ra lo n g tb D σ H:=Jg Pv h0 hs hd
theorem Vl {c:Prop} [Decidable c] {A B:Prop} (h1:c->A) (h2 : ¬ c->B):if decide c=true then A else B:=by
 by_cases h:c
 ·rw [decide_eq_true h];exact Vj (h1 h)
 ·rw [decide_eq_false h];exact Vi (h2 h)
theorem wc {H:Hp} {a:Addr} {o:HO} (h:H a=none):k8 H (upd H a o):=λ b o' e=>by rw [cj (gb e h)];exact e
end L2
namespace L2
open PySem PySem.Spec PyProof.Rows
section
variable {X:Cx}
def F8:R2:=λ x y H Q => ∃ p i,x = .ref p/\y = .int i/\((∃ xs,H p=some (.lst xs) ∧ ∃ v,iT xs i=some v/\Q v H)\/(∃ xs,H p=some (.tup xs) ∧ ∃ v,iT xs i=some v/\Q v H))
theorem aO:Uy X F8:=by
 intro value slice pins s σ H x y v u Q I rx ry h hs
 obtain ⟨p,i,e1,e2,⟨xs,hp,z,ha,q⟩ | ⟨xs,hp,z,ha,q⟩⟩:=h
 ·exact Ic value slice pins s σ H x y v u Q I rx ry ⟨p,xs,i,z,e1,e2,fj.of hp,ha,q⟩ hs
 ·exact Sl value slice pins s σ H x y v u Q I rx ry ⟨p,xs,i,z,e1,e2,Fw.of hp,ha,q⟩ hs
def we:List V->Hp->VK->Prop:=λ xs H Q => ∃ p,xs = [.ref p]/\((∃ ys,H p=some (.lst ys)/\Q (.int ys.length) H)\/(∃ ys,H p=some (.tup ys)/\Q (.int ys.length) H)\/(∃ kvs,H p=some (.dK kvs)/\Q (.int kvs.length) H))
theorem aL:lN X (.builtin "len") we:=by
 intro pins s σ H xs us Q I r h
 obtain ⟨p,e1,⟨ys,hp,q⟩ | ⟨ys,hp,q⟩ | ⟨kvs,hp,q⟩⟩:=h
 ·exact j8 pins s σ H xs us Q I r ⟨p,ys,e1,.inl (fj.of hp),q⟩
 ·exact j8 pins s σ H xs us Q I r ⟨p,ys,e1,.inr (Fw.of hp),q⟩
 ·exact Ju pins s σ H xs us Q I r ⟨p,kvs,e1,hp,q⟩
theorem Rb {α : Type} {x : α} {xs:List α} : iT (x::xs) 0=some x:=gY (j:=0) rfl
theorem Rc {α : Type} {x y : α} {xs:List α} : iT (x::y::xs) 1=some y:=gY (j:=1) rfl
theorem Rf {α : Type} {x y z : α} {xs:List α} : iT (x::y::z::xs) 2=some z:=gY (j:=2) rfl
theorem Rg {α : Type} {x y z t : α} {xs:List α} : iT (x::y::z::t::xs) 3=some t:=gY (j:=3) rfl
theorem Rh {α : Type} {x y z t r : α} {xs:List α} : iT (x::y::z::t::r::xs) 4=some r:=gY (j:=4) rfl
def gZ (t n:String):Option Bool:=PySem.W.kitOne [] (.type t) (.type n)
def Lg (H:Hp):V->Option String
 | .aM=>some "NoneType"
 | .bl _=>some "bool"
 | .int _=>some "int"
 | .str _=>some "str"
 | .ref a=>match H a with
   | some (.lst _)=>some "list"
   | some (.tup _)=>some "tuple"
   | some (.dK _)=>some "dict"
   | _=>none
 | _=>none
theorem Sx {K:PySem.W.Frag} {H:Hp} {x:V} {t:String} (h:Lg H x=some t):pZ K H x (.type t):=by
 cases x with
 | aM=>cases h;exact .aM
 | bl b=>cases h;exact .bl b
 | int i=>cases h;exact .int i
 | str i=>cases h;exact .str i
 | ref a =>
   unfold Lg at h
   cases e:H a with
   | none=>simp only [e] at h;cases h
   | some o =>
     simp only [e] at h
     cases o with
     | lst xs=>cases h;exact .lst e
     | tup xs=>cases h;exact .tup e
     | dK xs=>cases h;exact .dK e
     | _=>cases h
 | _=>cases h
theorem Sy (K:PySem.W.Frag) (t n:String):PySem.W.kitOne K (.type t) (.type n)=gZ t n:=by
 unfold gZ PySem.W.kitOne PySem.W.kitCls PySem.W.subIn
 rfl
def Mb:List V->Hp->VK->Prop:=λ xs H Q => ∃ x n t b,xs = [x,.ty n]/\Lg H x=some t/\gZ t n=some b/\Q (.bl b) H
theorem cy:lN X (.builtin "isinstance") Mb:=by
 intro pins s σ H xs us Q I r h
 obtain ⟨x,n,t,b,e1,e2,e3,q⟩:=h
 exact L7 pins s σ H xs us Q I r ⟨x,.ty n,.type t,b,e1,Sx e2,.inl ⟨n,rfl,by rw [Sy];exact e3⟩,q⟩
theorem Eg:gZ "int" "int" = some true:=rfl
theorem B9:gZ "int" "bool" = some false:=rfl
theorem ze:gZ "bool" "bool" = some true:=rfl
theorem Ca:gZ "NoneType" "int" = some false:=rfl
theorem zf:gZ "NoneType" "bool" = some false:=rfl
theorem Eh:gZ "str" "int" = some false:=rfl
theorem Cb:gZ "str" "bool" = some false:=rfl
theorem Cc:gZ "list" "int" = some false:=rfl
theorem zg:gZ "list" "bool" = some false:=rfl
theorem zh:gZ "tuple" "int" = some false:=rfl
theorem wg:gZ "tuple" "bool" = some false:=rfl
theorem zj:gZ "list" "list" = some true:=rfl
theorem um:gZ "tuple" "tuple" = some true:=rfl
theorem wj:gZ "list" "tuple" = some false:=rfl
theorem zk:gZ "NoneType" "list" = some false:=rfl
theorem wm:gZ "NoneType" "tuple" = some false:=rfl
theorem Ei:gZ "str" "str" = some true:=rfl
end
section
variable {X:Cx} {o e:Expr} {to:TE} {t:TA} {apos pos:Pos}
end
end L2
namespace L2
open PySem PySem.Spec PyProof.Rows
theorem bY.there {P:Program} {w:World} {H:Hp} {h:Heap} {a:Addr} {o:HO} (x:bY P w H h a o) : ∃ u,h.get? a=some u:=by
 cases o with
 | lst xs=>obtain ⟨_,_,_,_,e⟩:=x;exact ⟨_,e⟩
 | tup xs=>obtain ⟨_,_,_,o,e,_⟩:=x;exact ⟨_,e⟩
 | dK kvs=>obtain ⟨_,_,_,_,o,_,_,e,_⟩:=x;exact ⟨_,e⟩
 | dT kvs=>obtain ⟨_,_,_,_,o,_,_,e,_⟩:=x;exact ⟨_,e⟩
 | set S n=>obtain ⟨o,_,_,_,e,_⟩:=x;exact ⟨_,e⟩
 | ins C dx fs=>obtain ⟨_,_,_,e,_⟩:=x;exact ⟨_,e⟩
 | own y=>obtain ⟨_,e⟩:=x;exact ⟨_,e⟩
 | xd fs=>obtain ⟨_,⟨_,_,_,e,_⟩,_⟩:=x;exact ⟨_,e⟩
 | WU lo hi=>obtain ⟨_,_,_,e⟩:=x;exact ⟨_,e⟩
 | DP ob u=>obtain ⟨e,_⟩:=x;exact ⟨_,e⟩
 | QY ps=>exact ⟨_,(show h.get? a=some _ from x)⟩
 | met f y=>exact ⟨_,(show h.get? a=some _ from x)⟩
 | ext φ => obtain ⟨_,⟨_,e⟩,_⟩:=x;exact ⟨_,e⟩
theorem Cd {P:Program} {w:World} {l:List Env} {H H':Hp} {h0 h h2 B:Heap} (un:Un (frs l) [] H H' h0 h) (hok:k6 P w H' h) (fr:h.FunFrames B l)
  (tr : ∀ b u o,H' b=some u->h.get? b=some o->B.get? b=some o) (kp : ∀ b o o',h0.get? b=some o->h.get? b=some o'->b ∉ frs l->B.get? b=some o') (st:B.StaysIn h2) (sm:h.UpToSlots h2) :
  Un (frs l) [] H H' h0 h2/\k6 P w H' h2:=by
 refine ⟨⟨λ b o q n hb hx => ?_,λ b o q n hb hx => ?_,un.free,λ b o q hx => ?_,un.tups,un.k7,un.lI⟩,λ a o e => ?_⟩
 ·exact st b o (kp b o o q (un.keep b o q n hb hx) hb)
 ·obtain ⟨sl,e⟩:=un.slot b o q n hb hx
  obtain ⟨_,o',ho',hd⟩:=fr.mem hb
  rw [e] at ho';cases ho'
  obtain ⟨Ln,e'⟩:=sm b _ e hd
  exact ⟨Ln,e'⟩
 ·obtain ⟨o',e⟩:=un.there b o q hx
  by_cases hb:b∈frs l
  ·obtain ⟨_,o2,ho2,hd⟩:=fr.mem hb
   obtain ⟨Ln,e'⟩:=sm b _ ho2 hd
   exact ⟨_,e'⟩
  ·exact ⟨o',st b o' (kp b o o' q e hb)⟩
 ·refine (hok a o e).stay (λ b u hb q => ?_) (λ _ q=>q) λ _ _ q=>q
  rcases hb with rfl | hb
  ·exact st b u (tr b _ u e q)
  ·exact st b u (tr b _ u hb q)
theorem Ih {fs fs':List Addr} {L:Addr} {H H1 H2:Hp} {h h1 h2:Heap} (a:Un fs [] H H1 h h1) (b:Un fs' [] H1 H2 h1 h2) (hL:h.get? L=none) (sub : ∀ x∈fs',x=L\/x∈fs):Un fs [] H H2 h h2 where
 keep:=λ c ob q n hc hx=>b.keep c ob (a.keep c ob q n hc hx) (a.free c ob q n hx) (λ z=>(sub c z).elim (λ e=>by rw [e,hL] at q;cases q) hc) hx
 slot:=λ c ob q n hc hx=>by
  obtain ⟨sl,e1⟩:=a.slot c ob q n hc hx
  obtain ⟨Ln,e2⟩:=b.any e1 (a.free c ob q n hx) hx
  exact ⟨Ln,e2⟩
 free:=λ c ob q n hx=>by
  obtain ⟨o',e1⟩:=a.there c ob q hx
  exact b.free c o' e1 (a.free c ob q n hx) hx
 there:=λ c ob q hx=>by
  obtain ⟨o',e1⟩:=a.there c ob q hx
  exact b.there c o' e1 hx
 tups:=λ c xs q=>b.tups c xs (a.tups c xs q)
 k7:=λ c ob xs q=>b.k7 c ob xs (a.k7 c ob xs q)
 lI:=λ c ps q=>by
  obtain ⟨m1,e1⟩:=a.lI c ps q
  obtain ⟨m2,e2⟩:=b.lI c _ e1
  exact ⟨m1++m2,by rw [e2,Array.append_assoc]⟩
section
variable {P:Program} {w:World} {K:PySem.W.Frag} {mg:Str->Option Value} {base:Heap} {N:List Str} {qual:Str} {scope:Scope} {f:Addr} {cd:Value} {A:Around} {outer:List Env} {s:Shared} {H:Hp} {E:XK}
abbrev Jv (P:Program) (w:World) (K:PySem.W.Frag) (mg:Str->Option Value) (base:Heap) (N:List Str) (qual:Str) (scope:Scope) (f:Addr) (cd:Value) (A:Around) (outer:List Env) (s:Shared) (H:Hp) (E:XK):Cx :=
 vV (yZ P w) P w K mg base N qual scope f cd A outer s H E
theorem lS {L:Addr} {env:Env} {l:List Env} (h:env.frame=some L):frs (env::l)=L::frs l:=by unfold frs;rw [List.filterMap_cons,h]
theorem kM:Passes (yZ P w) (Jv P w K mg base N qual scope f cd A outer s H E) E:=by
 intro pins σ H1 s1 e s' I h
 obtain ⟨H',ea,cls,rfl,os,bare,fl,hE⟩:=h
 obtain ⟨B,a0,hfl,tr,kp⟩:=fl.fly
 have fr:=hfl.2.2.1
 show wpAny _ _ (leaving _ _) _ _ s'
 refine wpAny_leaves_onW (I.ok.frames) (L:=s.heap.objs.size) rfl hfl λ h2 uo sm => ?_
 obtain ⟨Sz,F9⟩:=Cd fl.un fl.hok fr tr kp uo.1 sm
 have hfs:frs (envOfC qual scope s.heap.objs.size f cd::outer)=s.heap.objs.size::frs outer:=lS rfl
 have hL:s.heap.get? s.heap.objs.size=none:=Heap.get?_none_of_le (Nat.le_refl _)
 have sub : ∀ x∈frs (envOfC qual scope s.heap.objs.size f cd::outer),x=s.heap.objs.size\/x∈frs outer:=λ x hx=>by rw [hfs] at hx;exact List.mem_cons.mp hx
 refine ⟨H',ea,cls,rfl,os.trans I.os,bare,⟨Ih I.base Sz hL sub,F9,?_,B,a0,uo,λ b u o e q => ?_,λ b o o2 q q2 hb => ?_⟩,hE⟩
 ·cases q:s.heap.get? ea with
  | none=>rfl
  | some o =>
    obtain ⟨o',e⟩:=I.base.there ea o q (by intro z;cases z)
    rw [fl.new] at e;cases e
 ·obtain ⟨o',e'⟩:=(fl.hok b u e).there
  have h1:=tr b u o' e e'
  have h2':=uo.1 b o' h1
  rw [q] at h2';cases h2';exact h1
 ·obtain ⟨o1,e1⟩:=I.base.there b o q (by intro z;cases z)
  obtain ⟨o',e'⟩:=fl.un.there b o1 e1 (by intro z;cases z)
  have nb:b ∉ frs (envOfC qual scope s.heap.objs.size f cd::outer):=λ z=>(sub b z).elim (λ e=>by rw [e,hL] at q;cases q) hb
  have h1:=kp b o1 o' e1 e' nb
  have h2':=uo.1 b o' h1
  rw [q2] at h2';cases h2';exact h1
theorem Ce {pins:List (Addr×Obj)} {σ : St} {H1:Hp} {s2:Shared} {h':Heap} {e C:Addr} {vs:List Value} (I:Inv (Jv P w K mg base N qual scope f cd A outer s H E) pins σ H1 s2)
  (hx:Heap.MadeExcOf s2.heap h' e (.ref C) vs) (hE:E (.ref C) none H1):(Jv P w K mg base N qual scope f cd A outer s H E).xe (.ref e) { s2 with heap:=h' } := by
 have hfs:frs (envOfC qual scope s.heap.objs.size f cd::outer)=s.heap.objs.size::frs outer:=lS rfl
 have hL:s.heap.get? s.heap.objs.size=none:=Heap.get?_none_of_le (Nat.le_refl _)
 have sub : ∀ x∈frs (envOfC qual scope s.heap.objs.size f cd::outer),x=s.heap.objs.size\/x∈frs outer:=λ x hx=>by rw [hfs] at hx;exact List.mem_cons.mp hx
 have hin : ∀ env∈(envOfC qual scope s.heap.objs.size f cd::outer),∀ b,env.frame=some b->b∈(envOfC qual scope s.heap.objs.size f cd::outer).filterMap (·.frame):=λ env he b hb=>List.mem_filterMap.mpr ⟨env,he,hb⟩
 have fr0:s2.heap.FunFrames (PySem.W.hideAll s2.heap (frs (envOfC qual scope s.heap.objs.size f cd::outer))) (envOfC qual scope s.heap.objs.size f cd::outer):=PySem.W.funFrames_hide I.stack hin
 have kB : ∀ b o,s2.heap.get? b=some o->b ∉ frs (envOfC qual scope s.heap.objs.size f cd::outer)->(PySem.W.hideAll s2.heap (frs (envOfC qual scope s.heap.objs.size f cd::outer))).get? b=some o:=λ b o q hb=>PySem.W.hideAll_get _ q hb
 show wpAny _ _ (leaving _ _) _ _ _
 refine wpAny_leaves_madeW (s := { s2 with heap:=h' }) (base:=PySem.W.hideAll s2.heap (frs (envOfC qual scope s.heap.objs.size f cd::outer))) (h:=s2.heap) I.ok.frames (L:=s.heap.objs.size) rfl (λ b o q=>PySem.W.of_hideAll _ q) fr0 hx λ h2 t uo _ _ sm => ?_
 have UB : ∀ b u,H1 b=some u->b ∉ frs (envOfC qual scope s.heap.objs.size f cd::outer):=λ b u q z=>by rw [I.BW b z] at q;cases q
 have tr : ∀ b u o,H1 b=some u->h'.get? b=some o->(PySem.W.hideAll s2.heap (frs (envOfC qual scope s.heap.objs.size f cd::outer))).get? b=some o:=λ b u o q qo=>by
  obtain ⟨o',e'⟩:=(I.hok b u q).there
  have:=hx.keeps b o' e'
  rw [qo] at this;cases this
  exact kB b _ e' (UB b u q)
 have kp : ∀ b o o',s2.heap.get? b=some o->h'.get? b=some o'->b ∉ frs (envOfC qual scope s.heap.objs.size f cd::outer)->(PySem.W.hideAll s2.heap (frs (envOfC qual scope s.heap.objs.size f cd::outer))).get? b=some o':=λ b o o' q q' hb=>by
  have:=hx.keeps b o q
  rw [q'] at this;cases this
  exact kB b _ q hb
 obtain ⟨Sz,F9⟩:=Cd (l:=envOfC qual scope s.heap.objs.size f cd::outer) (H:=H1) (H':=H1) (h0:=s2.heap) (Un.kept hx.keeps) (I.hok.kept hx.keeps) (fr0.of_keeps λ b o q _=>⟨o,hx.keeps b o q,rfl⟩) tr kp uo.1 sm
 refine ⟨H1,e,.ref C,rfl,I.os,I.bare,⟨Ih I.base Sz hL sub,F9,?_,_,_,uo,λ b u o q qo => ?_,λ b o o2 q q2 hb => ?_⟩,hE⟩
 ·cases q:s.heap.get? e with
  | none=>rfl
  | some o =>
    obtain ⟨o',e'⟩:=I.base.there e o q (by intro z;cases z)
    rw [hx.new] at e';cases e'
 ·obtain ⟨o',e'⟩:=(I.hok b u q).there
  have h1:=kB b o' e' (UB b u q)
  have h2':=uo.1 b o' h1
  rw [qo] at h2';cases h2';exact h1
 ·obtain ⟨o1,e1⟩:=I.base.there b o q (by intro z;cases z)
  have nb:b ∉ frs (envOfC qual scope s.heap.objs.size f cd::outer):=λ z=>(sub b z).elim (λ e=>by rw [e,hL] at q;cases q) hb
  have h1:=kB b o1 e1 nb
  have h2':=uo.1 b o1 h1
  rw [q2] at h2';cases h2';exact h1
end
structure Exc (K:PySem.W.Frag) (mg:Str->Option Value) (x:Str) (C:Addr):Prop where
 Vm:mg x=some (.ref C)
 ex:PySem.W.excIn K C [.type "ValueError",.type "Exception",.type "BaseException",.type "object"] "ValueError.__new__" = true
theorem Exc.own {K:PySem.W.Frag} {mg:Str->Option Value} {x:Str} {C:Addr} {h:Heap} (O:Exc K mg x C) (X:K.In h):OwnCls x C [.type "ValueError",.type "Exception",.type "BaseException",.type "object"] "ValueError.__new__" mg h:=by
 refine ⟨O.Vm,?_⟩
 have q:=O.ex
 unfold PySem.W.excIn at q
 split at q
 ·rename_i dd cd sl ho
  split at q
  ·rename_i C' bm k0 k1 k2 k3 n k5 hm hs
   simp only [Bool.and_eq_true,beq_iff_eq,Bool.not_eq_true'] at q
   obtain ⟨⟨⟨⟨⟨rfl,rfl⟩,Vn⟩,ht⟩,hok⟩,hni⟩:=q
   obtain ⟨nm,bs,mro,ns,qn,hd,sn,sub,ab,col,del⟩:=cd
   dsimp only at hm Vn hok hni
   subst hm Vn
   have hsl:sl = #[k0,k1,k2,k3,some (.builtin "ValueError.__new__"),k5]:=by
    obtain ⟨l⟩:=sl
    simp only at hs
    rw [hs]
   subst hsl
   exact ⟨bm,ns,nm,qn,bs,hd,sn,sub,ab,col,dd,k0,k1,k2,k3,k5,_,X _ _ ho,.of_isNs (PySem.W.isNs_of_in X hok),PySem.W.nsMap_none_of_in X hok hni,PySem.W.tail_of_in X ht⟩
  ·cases q
 ·cases q
theorem Cf {K:PySem.W.Frag} {h:Heap} {mg:Str->Option Value} {x:Str} {C:Addr} (X:K.In h) (G:h.Ns mainGlobals mg) (a:PySem.W.nsIn K mainGlobals x=some (some (.ref C)))
  (q:PySem.W.excIn K C [.type "ValueError",.type "Exception",.type "BaseException",.type "object"] "ValueError.__new__" = true):Exc K mg x C:=⟨PySem.W.mg_of X G a,q⟩
section
variable {P:Program} {w:World} {K:PySem.W.Frag} {mg:Str->Option Value} {base:Heap} {N:List Str} {qual:Str} {scope:Scope} {f:Addr} {cd:Value} {A:Around} {outer:List Env} {s:Shared} {H:Hp} {E:XK}
def Mc (E:XK) (C:Addr) (ta:TA):TS:=λ _ σ H=>ta σ H λ vs H1=>vs.length<=sizeLine/\E (.ref C) none H1
theorem jx {x:Str} {C:Addr} {e₀ : Expr} {np cpos pos:Pos} {ta:TA} (O:Exc K mg x C) (hg:Gl (Jv P w K mg base N qual scope f cd A outer s H E) x) (ha:PA (Jv P w K mg base N qual scope f cd A outer s H E) [e₀] ta)
  (hd:(x == ("__debug__" : Str))=false:=by decide) (he:starEach [e₀] (Jv P w K mg base N qual scope f cd A outer s H E).env = [(false,eval e₀ (Jv P w K mg base N qual scope f cd A outer s H E).env)]:=by rfl) :
  PS (Jv P w K mg base N qual scope f cd A outer s H E) (.Raise (some (.Call (.Name x np) [e₀] [] cpos)) none pos) (Mc E C ta):=by
 intro pins s1 σ H1 D I h
 have own:=O.own I.mod.Uu
 obtain ⟨tl,NN,nm,q,bs,hdct,sn,sub,ab,col,dd,k0,k1,k2,k3,k5,mN,hC,hN,hni,T⟩:=own.obj
 refine wpAny_Raise_call_subT (C:=C) (nm:=nm) (q:=q) (N:=NN) (bs:=bs) (bm:=tl) (hdct:=hdct) (sn:=sn) (sub:=sub) (ab:=ab) (col:=col) (dd:=dd) (k0:=k0) (k1:=k1) (k2:=k2) (k3:=k3) (k5:=k5)
  PySem.F.excBase_ValueError (mN:=mN) (T.hasType PySem.F.excBase_ValueError.hasBase) (I.ok.hd rfl) (by rw [he];rfl) hni (vC I hg O.Vm ⟨rfl,?_⟩ hd)
 rw [he]
 have ha':=ha cpos pins s1 σ H1 _ I h
 rw [he] at ha'
 refine Calls.evalArgs_plain (wpAny_mono ha' (λ us s2 hq => ?_) λ _ _ y=>y)
 obtain ⟨vs,H2,I2,r,hl,hE⟩:=hq
 exact ⟨rfl,by rw [<-r.length];exact hl,I2.bk _ _ hC,hN.keeps I2.bk,T.keeps I2.bk,λ h' e hx=>Ce I2 hx hE⟩
end
end L2
namespace L2
open PySem PySem.Spec PyProof.Rows
abbrev Cx.Me (X:Cx) (ea:Addr):Cx := { X with A:=X.A.mark (some (.ref ea)),calm:=false }
section
variable {X:Cx} {pins:List (Addr×Obj)} {σ : St} {H:Hp} {s:Shared}
theorem Inv.Me (I:Inv X pins σ H s) (ea:Addr):Inv (X.Me ea) pins σ H s :=
 ⟨⟨I.ok.mod,I.ok.kind,I.ok.glob,I.ok.blt,I.ok.above,I.ok.inj,I.ok.has,I.ok.RV,(λ z=>nomatch z),I.ok.frames,I.ok.stk,I.ok.WW,I.ok.bs,I.ok.Le,I.ok.FI,I.ok.Jc,I.ok.pU,I.ok.OU⟩,I.os,I.bare,I.base,I.loc,I.cell,I.free,I.lJ,I.pin,I.hok,I.len⟩
end
section
variable {X:Cx}
end
end L2
namespace PySem.W
open PySem PySem.Spec PySem.Calls PyProof.Rows Builtin Builtin.ObjectAttr Builtin.Getset_descriptor
section
variable {prog:Program} {w:World} {A:Around} {E:Value->Shared->Prop} {s:Shared} {K:Frag} {x C:Addr} {R:Result->Shared->Prop}
end
end PySem.W
namespace L2
open PySem PySem.Spec PyProof.Rows
section
variable {X:Cx}
end
section
variable {X:Cx} {k:Nat} {f C:Addr} {fd:FuncData} {ps:List Str} {sp:Sp} {x m:Str} {p pos apos:Pos} {e o:Expr} {es:List Expr} {ta:TE} {t:TA}
end
end L2
namespace L2
open PySem PySem.Spec PyProof.Rows
def dU (cells:List (Str×Addr)):List (Str×NameKind)->List (Str×Addr)->List (Str×Addr)
 | [],cs=>cs
 | (n,k)::r,cs=>dU cells r (if k == .free then (n,(cells.lookup n).getD 0)::cs else cs)
theorem nS {scope:Scope} {env:Env} (h : ∀ y∈scope.names,y.2 = .free->∃ c,env.cells.lookup y.1=some c):closureFor scope env=pure (dU env.cells scope.names []):=by
 simp only [closureFor]
 have all : ∀ (l:List (Str×NameKind)) (cs:List (Str×Addr)),(∀ y∈l,y.2 = .free->∃ c,env.cells.lookup y.1=some c) →
   (forIn l cs fun (x:Str×NameKind) (r:List (Str×Addr))=>match x with
    | (name,kind)=>if (kind == NameKind.free)=true then do
      let __do_lift <-cellOf env name
      pure (ForInStep.yield ((name,__do_lift)::r))
     else pure (ForInStep.yield r))=(pure (dU env.cells l cs):Sem (List (Str×Addr))):=by
  intro l
  induction l with
  | nil=>intro cs _;rfl
  | cons y r ih =>
    intro cs hy
    obtain ⟨n,k⟩:=y
    rw [List.forIn_cons]
    have hr : ∀ y∈r,y.2 = .free->∃ c,env.cells.lookup y.1=some c:=λ y hm=>hy y (List.mem_cons_of_mem _ hm)
    by_cases hk:k = .free
    ·subst hk
     obtain ⟨c,hc⟩:=hy (n,.free) List.mem_cons_self rfl
     have hc':env.cells.lookup n=some c:=hc
     have e1:cellOf env n=pure c:=by unfold cellOf;rw [hc']
     simp only [beq_self_eq_true,if_true,e1,pure_bind]
     rw [ih _ hr]
     simp only [dU,beq_self_eq_true,if_true,hc',Option.getD_some]
    ·have hb:(k == NameKind.free)=false:=by simpa using hk
     simp only [hb,Bool.false_eq_true,if_false,pure_bind]
     rw [ih _ hr]
     simp only [dU,hb,Bool.false_eq_true,if_false]
 first
  | (rw [all scope.names [] h];rfl)
  | (have:=all scope.names [] h;simp only [this,pure_bind])
theorem wo {cells:List (Str×Addr)} : ∀ (l:List (Str×NameKind)) (cs:List (Str×Addr)) {y:Str} {c:Addr},(dU cells l cs).lookup y=some c->((y,.free)∈l/\c=(cells.lookup y).getD 0)\/cs.lookup y=some c
 | [],_,_,_,h => .inr h
 | (n,k)::r,cs,y,c,h=>by
   rw [dU] at h
   rcases wo r _ h with ⟨a,b⟩ | q
   ·exact .inl ⟨List.mem_cons_of_mem _ a,b⟩
   ·by_cases hk:k = .free
    ·subst hk
     simp only [beq_self_eq_true,if_true,List.lookup_cons] at q
     by_cases hy:y=n
     ·subst hy
      simp only [beq_self_eq_true] at q
      cases q
      exact .inl ⟨List.mem_cons_self,rfl⟩
     ·have:(y == n)=false:=by simpa using hy
      simp only [this] at q
      exact .inr q
    ·have hb:(k == NameKind.free)=false:=by simpa using hk
     simp only [hb,Bool.false_eq_true,if_false] at q
     exact .inr q
theorem j9 {cells:List (Str×Addr)} : ∀ (l:List (Str×NameKind)) (cs:List (Str×Addr)) {y:Str},(∃ c,cs.lookup y=some c)\/(y,NameKind.free)∈l->∃ c,(dU cells l cs).lookup y=some c
 | [],_,_,h=>by
   rcases h with h | h
   ·exact h
   ·cases h
 | (n,k)::r,cs,y,h=>by
   rw [dU]
   refine j9 r _ ?_
   rcases h with ⟨c,h⟩ | h
   ·refine .inl ?_
    split
    ·rw [List.lookup_cons]
     split
     ·exact ⟨_,rfl⟩
     ·exact ⟨c,h⟩
    ·exact ⟨c,h⟩
   ·rcases List.mem_cons.mp h with e | e
    ·cases e
     refine .inl ⟨(List.lookup n cells).getD 0,?_⟩
     simp only [beq_self_eq_true,if_true,List.lookup_cons]
    ·exact .inr e
structure lT (scope es:Scope) (x:Str) (N:List Str):Prop where
 kind:scope.kind = .function
 cell : ∀ y∈scope.names,y.2 ≠ .cell
 nms : ∀ y∈scope.names,y.2 = .local->scope.names.lookup y.1=some .local
 loc:scope.names.lookup x=some .local
 noe:scope.names.lookup ("" : Str)=none
 Xg : ∀ y∈scope.names,y.2 = .free->es.names.lookup y.1=some .cell\/es.names.lookup y.1=some .free
 only : ∀ y∈scope.names,y.2 = .local->y.1=x\/y.1 ∉ N
 nd:(x::N.map λ y=>if y=x then ("" : Str) else y).Nodup
theorem lookup_mem {α β : Type} [BEq α] [LawfulBEq α] : ∀ {l:List (α × β)} {x : α} {v : β},l.lookup x=some v->(x,v)∈l
 | (n,k)::r,x,v,h=>by
   rw [List.lookup_cons] at h
   split at h
   ·rename_i e;cases h;rw [eq_of_beq e];exact List.mem_cons_self
   ·exact List.mem_cons_of_mem _ (lookup_mem h)
theorem cX {scope:Scope} {env:Env} : ∀ {l:List (Str×NameKind)} {y:Str} {k:NameKind},(l.map fun (p:Str×NameKind)=>match p with | (n,k)=>if (k == .free && env.scope.kind == .function && env.kindOf n == some .cell) then (n,NameKind.cell) else (n,k)).lookup y=some k →
  l.lookup y=some k\/(k = .cell/\l.lookup y=some .free)
 | [],_,_,h=>by simp at h
 | (n,k0)::r,y,k,h=>by
   rw [List.map_cons,List.lookup_cons] at h
   rw [List.lookup_cons]
   dsimp only at h
   split at h
   ·rename_i e
    split at e
    ·rename_i hc
     dsimp only at e h
     cases h
     have:k0 = .free:=by simp only [Bool.and_eq_true,beq_iff_eq] at hc;exact hc.1.1
     subst this
     rw [e,if_pos hc]
     exact .inr ⟨rfl,rfl⟩
    ·rename_i hc
     dsimp only at e h
     rw [e]
     rw [if_neg hc] at h
     exact .inl h
   ·rename_i e
    have e':(y == n)=false:=by
     split at e <;> exact e
    rw [e']
    exact cX (scope:=scope) h
def iu (M:Model) (A:Around) (E:Value->Shared->Prop) (use:Option (Value->Sem Unit)) (Q:Value->Shared->Prop) (acc:Value) (cenv:Env) (r:Result) (s':Shared):Prop :=
 match r,use with
 | .ok _,none => ∃ m,s'.heap.Ns cenv.locals m ∧ ∀ h',Heap.SameBut cenv.locals s'.heap h'->Q acc { s' with heap:=h' }
 | .ok _,some u=>wpAny M A (u acc) (λ _ s'' => ∃ m,s''.heap.Ns cenv.locals m ∧ ∀ h',Heap.SameBut cenv.locals s''.heap h'->Q .none { s'' with heap:=h' }) E s'
 | .error x,_ => ∃ m,s'.heap.Ns cenv.locals m ∧ ∀ h',Heap.SameBut cenv.locals s'.heap h'->wpAny M A (passOn "comprehension.variables-let-go" x cenv:Sem Value) (λ _ _=>False) E { s' with heap:=h' }
theorem gA {M:Model} {A:Around} {E:Value->Shared->Prop} {s:Shared} {env:Env} {e:Expr} {scope:Scope} {pos:Pos} {newAcc first:Sem Value} {g:Comprehension} {gs:List Comprehension} {cl:List (Str×Addr)} {use:Option (Value->Sem Unit)}
  {Q:Value->Shared->Prop}
  (hcl:clausesOf e=g::gs) (hs : ∀ x,foldedSetIterable g.iter env x=pure x) (hclos:closureFor scope env=pure cl)
  (hkind:scope.kind = .function) (hnames : ∀ x∈scope.names,x.2 = .local->scope.names.lookup x.1=some .local)
  (h:wpAny M A first (λ x s₁ => wpAny M A (pyIter x) (λ it s₂ => wpAny M A newAcc (λ acc s₃ =>
   wpAny M A (newFunctionEnv scope env.globals cl [] env.qual none .none (some env)) (λ cenv s₄ =>
    codeAny M A (.compStart e 0 it acc { cenv with scope:=relabel scope env }) (iu M A E use Q acc { cenv with scope:=relabel scope env }) s₄) E s₃) E s₂) E s₁) E s) :
  wpAny M A (comprehension e scope env pos newAcc false first use) Q E s:=by
 unfold comprehension
 rw [hclos,hcl]
 refine wpAny_bind (wpAny_mono h (λ x s₁ h₁ => wpAny_bind (wpAny_standAt (wpAny_bind (wpAny_of_eq (hs x) (wpAny_bind (wpAny_holding (wpAny_mono h₁ (λ it s₂ h₂ =>
  wpAny_standIf (wpAny_bind (wpAny_mono h₂ (λ acc s₃ h₃ => wpAny_bind (wpAny_pure (wpAny_bind (wpAny_mono h₃ (λ cenv s₄ h₄ => ?_) λ _ _ h'=>h')))) λ _ _ h'=>h')))
   λ _ _ h'=>h'))))))) λ _ _ h'=>h')
 dsimp only
 have hv : ∀ x∈(scope.names.filter λ x=>(x.2 == .local || x.2 == .cell) && x.1 != (".0" : Str)).reverse,x.2 = .local →
   Env.kindOf { cenv with scope:=relabel scope env } x.1=some .local:=λ x hx hl=>lookup_relabel_local (hnames x (List.mem_filter.mp (List.mem_reverse.mp hx)).1 hl)
 have hv' : ∀ x∈(scope.names.filter λ x=>(x.2 == .local || x.2 == .cell) && x.1 != (".0" : Str)).reverse.drop 1++(scope.names.filter λ x=>(x.2 == .local || x.2 == .cell) && x.1 != (".0" : Str)).reverse.take 1,
   x.2 = .local->Env.kindOf { cenv with scope:=relabel scope env } x.1=some .local:=λ x hx hl=>by
  rcases List.mem_append.mp hx with h1 | h1
  ·exact hv x (List.mem_of_mem_drop h1) hl
  ·exact hv x (List.mem_of_mem_take h1) hl
 refine wpAny_holding (wpAny_bind (wpAny_attempt (wpAny_holding (wpAny_run (codeAny_mono h₄ λ r s' hr => ?_)))))
 cases r with
 | ok f =>
   cases use with
   | none =>
     obtain ⟨m,hn,hr⟩:=hr
     exact wpAny_bind (wpAny_holding (wpAny_comp_letGo (cenv := { cenv with scope:=relabel scope env }) hkind _ s' m hv hn λ h' m' _ hs'=>wpAny_pure (hr h' hs')))
   | some u =>
     refine wpAny_bind (wpAny_rule (wpAny_bind (wpAny_holding (wpAny_mono hr (λ _ s'' hr' => ?_) λ _ _ h'=>h'))))
     obtain ⟨m,hn,hr'⟩:=hr'
     exact wpAny_bind (wpAny_comp_letGo (cenv := { cenv with scope:=relabel scope env }) hkind _ s'' m hv' hn λ h' m' _ hs'=>wpAny_pure (hr' h' hs'))
 | error x =>
   have hr' : ∃ m,s'.heap.Ns cenv.locals m ∧ ∀ h',Heap.SameBut cenv.locals s'.heap h'->wpAny M A (passOn "comprehension.variables-let-go" x { cenv with scope:=relabel scope env } : Sem Value) (λ _ _=>False) E { s' with heap:=h' } := by cases use <;> exact hr
   obtain ⟨m,hn,hr⟩:=hr'
   exact wpAny_bind (wpAny_holding (wpAny_comp_letGo (cenv := { cenv with scope:=relabel scope env }) hkind _ s' m hv hn λ h' m' _ hs'=>wpAny_mono (hr h' hs') (λ _ _ f=>f.elim) λ _ _ y=>y))
def Cx.comp (X:Cx) (scope:Scope) (x:Str) (pins:List (Addr×Obj)) (fp:List Addr) (s3:Shared) (H3:Hp) (E:Value->Shared->Prop):Cx where
 prog:=X.prog
 w:=X.w
 K:=X.K
 mg:=X.mg
 base:=X.base
 A:=X.A
 N:=x::X.N.map λ y=>if y=x then ("" : Str) else y
 s₀ := s3
 H₀ := H3
 env:=compEnvC scope (dU X.env.cells scope.names []) s3.heap.objs.size X.env
 outer:=X.stack
 stack:=X.stack
 ex:=fp
 fn:=λ _=>false
 calm:=X.calm
 pn:=X.pn++pins
 xe:=E
section
variable {X:Cx} {pins:List (Addr×Obj)} {σ : St} {H3:Hp} {s3:Shared} {scope:Scope} {x:Str} {fp:List Addr} {E:Value->Shared->Prop}
theorem rG {y:Str} (h:(compEnvC scope (dU X.env.cells scope.names []) s3.heap.objs.size X.env).kindOf y=some .cell\/(compEnvC scope (dU X.env.cells scope.names []) s3.heap.objs.size X.env).kindOf y=some .free) (hc : ∀ y∈scope.names,y.2 ≠ .cell):(y,NameKind.free)∈scope.names:=by
 rcases h with h | h
 ·rcases cX (scope:=scope) (env:=X.env) h with q | ⟨_,q⟩
  ·exact absurd rfl (hc _ (lookup_mem q))
  ·exact lookup_mem q
 ·rcases cX (scope:=scope) (env:=X.env) h with q | ⟨z,_⟩
  ·exact lookup_mem q
  ·cases z
theorem gg (ok:X.Ok) (S:lT scope X.env.scope x X.N) {y:Str} {c:Addr} (h:(dU X.env.cells scope.names []).lookup y=some c):(y,NameKind.free)∈scope.names/\X.env.cells.lookup y=some c:=by
 rcases wo scope.names [] h with ⟨a,b⟩ | q
 ·obtain ⟨c',e⟩:=ok.has y (S.Xg _ a rfl)
  rw [e] at b
  exact ⟨a,by rw [e,b];rfl⟩
 ·simp at q
theorem Pg (I:Inv X pins σ H3 s3) (S:lT scope X.env.scope x X.N) (hfp : ∀ b∈fp,pW X pins H3 b) (hfo : ∀ b∈fp,∃ o,s3.heap.get? b=some o):(X.comp scope x pins fp s3 H3 E).Ok where
 mod:=I.ok.mod
 kind:=S.kind
 glob:=I.ok.glob
 blt:=I.ok.blt
 above:=Nat.le_refl _
 inj:=λ y z c h1 h2=>I.ok.inj y z c (gg I.ok S h1).2 (gg I.ok S h2).2
 has:=λ y h=>j9 scope.names [] (.inr (rG h S.cell))
 RV:=λ _ _ h=>nomatch h
 hd:=I.ok.hd
 frames:=I.ok.frames
 stk := .inl rfl
 WW:=λ b hb=>by
  obtain ⟨o,e⟩:=hfo b hb
  refine ⟨Nat.ne_of_lt (Heap.lt_size e),λ y c h => ?_⟩
  exact (hfp b hb).2.2.2.2.1 y c (gg I.ok S h).2
 bs:=I.bs
 Le:=Nat.le_trans I.ok.Le I.sz
 FI:=λ b o e hb=>by
  rcases (hfp b hb).2.2.2.1 with z | z
  ·exact I.ok.FI b o e z
  ·exact absurd (Nat.lt_of_lt_of_le (Heap.lt_size e) (Nat.le_trans I.ok.Le z)) (Nat.lt_irrefl _)
 Jc:=λ b hb z=>by
  rcases List.mem_cons.mp (I.vO b z) with q | q
  ·exact (hfp b hb).2.1 q
  ·exact (hfp b hb).2.2.1 q
 pU:=I.stack
 OU:=I.BW
theorem Ga {s4:Shared} (I:Inv X pins σ H3 s3) (S:lT scope X.env.scope x X.N) (hfp : ∀ b∈fp,pW X pins H3 b) (hfo : ∀ b∈fp,∃ o,s3.heap.get? b=some o) {m:Str->Option Value} (hn:s4.heap.Ns s3.heap.objs.size m) (kk : ∀ b o,s3.heap.get? b=some o->s4.heap.get? b=some o)
  (os:s4.os=s3.os) (bare:AllBare s4.gens):Inv (X.comp scope x pins fp s3 H3 E) [] (none :: σ) H3 s4:=by
 refine ⟨Pg I S hfp hfo,os,bare,Un.kept kk,⟨m,hn,λ i y v h1 h2 h3 => ?_⟩,λ y c h => ?_,I.hok.fresh (Nat.le_refl _),λ y c h=>I.lJ y c (gg I.ok S h).2,λ p hp => ?_,I.hok.kept kk,?_⟩
 ·cases i with
  | zero=>cases h2
  | succ i =>
    have Ej:(X.N.map λ y=>if y=x then ("" : Str) else y)[i]? = some y:=h1
    have h2' : σ[i]? = some (some v):=h2
    rw [List.getElem?_map] at Ej
    cases hN:X.N[i]? with
    | none=>rw [hN] at Ej;cases Ej
    | some z =>
      rw [hN] at Ej
      have Pj:(if z=x then ("" : Str) else z)=y:=Option.some.inj Ej
      have vis : ∀ y,RU (relabel scope X.env) y->y≠("" : Str):=λ y hv e=>by
       subst e
       have no : ∀ k,(relabel scope X.env).names.lookup ("" : Str)=some k->False:=λ k h=>by
        rcases cX (scope:=scope) (env:=X.env) h with q | ⟨_,q⟩ <;> (rw [S.noe] at q;cases q)
       rcases hv with q | q | q <;> exact no _ q
      have hz:z≠x:=λ e=>by rw [if_pos e] at Pj;exact vis y h3 Pj.symm
      rw [if_neg hz] at Pj
      subst Pj
      -- z is seen by OG block,and is no local of it: it is free there
      have hf:(z,NameKind.free)∈scope.names\/(relabel scope X.env).names.lookup z=some .local:=by
       rcases h3 with q | q | q
       ·exact .inr q
       ·exact .inl (rG (X:=X) (s3:=s3) (.inl q) S.cell)
       ·exact .inl (rG (X:=X) (s3:=s3) (.inr q) S.cell)
      have hfr:(z,NameKind.free)∈scope.names:=by
       rcases hf with q | q
       ·exact q
       ·rcases cX (scope:=scope) (env:=X.env) q with q | ⟨e,_⟩
        ·rcases S.only _ (lookup_mem q) rfl with e | e
         ·exact absurd e hz
         ·exact absurd (List.mem_of_getElem? hN) e
        ·cases e
      have hnl:(relabel scope X.env).names.lookup z≠some .local:=λ q=>by
       rcases cX (scope:=scope) (env:=X.env) q with q | ⟨e,_⟩
       ·rcases S.only _ (lookup_mem q) rfl with e | e
        ·exact absurd e hz
        ·exact absurd (List.mem_of_getElem? hN) e
       ·cases e
      have hk:=S.Xg _ hfr rfl
      obtain ⟨m0,hn0,hl0⟩:=I.loc
      obtain ⟨u,r,l⟩:=hl0 i z v hN h2' (hk.elim (λ q => .inr (.inl q)) λ q => .inr (.inr q))
      refine ⟨u,r,.inr ⟨?_,?_⟩⟩
      ·rcases h3 with q | q | q
       ·exact absurd q hnl
       ·exact .inl q
       ·exact .inr q
      ·rcases l with ⟨k,_⟩ | ⟨_,c,e,hc⟩
       ·have k':X.env.scope.names.lookup z=some .local:=k
        rcases hk with q | q <;> (rw [show List.lookup z X.env.scope.names=_ from k'] at q;cases q)
       ·obtain ⟨c',e'⟩:=j9 (cells:=X.env.cells) scope.names [] (.inr hfr)
        have:=(gg I.ok S e').2
        rw [e] at this;cases this
        obtain ⟨o,ho,hd⟩:=hc
        exact ⟨c,e',o,kk _ _ ho,hd⟩
 ·obtain ⟨v,o,ho,hd⟩:=I.cell y c (gg I.ok S h).2
  exact ⟨v,o,kk _ _ ho,hd⟩
 ·have hp':p∈X.pn++pins:=by simpa [Cx.comp] using hp
  obtain ⟨a,b,c,d,e⟩:=I.pin p hp'
  refine ⟨kk _ _ a,b,Nat.ne_of_lt (Heap.lt_size a),λ z => ?_,e⟩
  rcases List.mem_cons.mp (I.vO _ z) with q | q
  ·exact c q
  ·exact d q
 ·show (none :: σ).length=(x::X.N.map λ y=>if y=x then ("" : Str) else y).length
  rw [List.length_cons,List.length_cons,List.length_map,I.len]
end
end L2
namespace L2
open PySem PySem.Spec PyProof.Rows
theorem Pk {P:Program} {w:World} {l:List Env} {ex:List Addr} {H H':Hp} {h0 h h2 B:Heap} (un:Un (frs l) ex H H' h0 h) (hok:k6 P w H' h) (fr:h.FunFrames B l)
  (tr : ∀ b u o,H' b=some u->h.get? b=some o->B.get? b=some o) (kp : ∀ b o o',h0.get? b=some o->h.get? b=some o'->b ∉ frs l->b ∉ ex->B.get? b=some o') (st:B.StaysIn h2)
  (sm : ∀ b∈frs l,∀ o,h.get? b=some o->(∀ vs,o.data ≠ .fields vs)->∃ sl,h2.get? b=some { o with slots:=sl }):Un (frs l) ex H H' h0 h2/\k6 P w H' h2:=by
 refine ⟨⟨λ b o q n hb hx => ?_,λ b o q n hb hx => ?_,un.free,λ b o q hx => ?_,un.tups,un.k7,un.lI⟩,λ a o e => ?_⟩
 ·exact st b o (kp b o o q (un.keep b o q n hb hx) hb hx)
 ·obtain ⟨sl,e⟩:=un.slot b o q n hb hx
  obtain ⟨_,o',ho',hd⟩:=fr.mem hb
  rw [e] at ho';cases ho'
  obtain ⟨Ln,e'⟩:=sm b hb _ e hd
  exact ⟨Ln,e'⟩
 ·obtain ⟨o',e⟩:=un.there b o q hx
  by_cases hb:b∈frs l
  ·obtain ⟨_,o2,ho2,hd⟩:=fr.mem hb
   obtain ⟨Ln,e'⟩:=sm b hb _ ho2 hd
   exact ⟨_,e'⟩
  ·exact ⟨o',st b o' (kp b o o' q e hb hx)⟩
 ·refine (hok a o e).stay (λ b u hb q => ?_) (λ _ q=>q) λ _ _ q=>q
  rcases hb with rfl | hb
  ·exact st b u (tr b _ u e q)
  ·exact st b u (tr b _ u hb q)
def UC (X:Cx) (E:XK):Value->Shared->Prop:=λ e s'' => ∃ (pins:List (Addr×Obj)) (σ : St) (H':Hp) (ea:Addr) (cls a0:Value) (B:Heap),Inv X pins σ H' s''/\e = .ref ea/\X.s₀.heap.get? ea=none/\Heap.HeldW B X.stack ea cls a0 X.env.locals s''.heap ∧
 (∀ b u o,H' b=some u->s''.heap.get? b=some o->B.get? b=some o)/\(∀ b o o',X.s₀.heap.get? b=some o->s''.heap.get? b=some o'->b ∉ frs X.stack->B.get? b=some o')/\E cls none H'
section
variable {P:Program} {w:World} {K:PySem.W.Frag} {mg:Str->Option Value} {base:Heap} {N:List Str} {qual:Str} {scope:Scope} {f:Addr} {cd:Value} {A:Around} {outer:List Env} {s:Shared} {H:Hp} {E:XK}
theorem Ri : ∀ e s',UC (Jv P w K mg base N qual scope f cd A outer s H E) E e s'->(Jv P w K mg base N qual scope f cd A outer s H E).xe e s':=by
 rintro e s' ⟨pins,σ,H',ea,cls,a0,B,I,rfl,new,hh,tr,kp,hE⟩
 have hfs:frs (envOfC qual scope s.heap.objs.size f cd::outer)=s.heap.objs.size::frs outer:=lS rfl
 have hL:s.heap.get? s.heap.objs.size=none:=Heap.get?_none_of_le (Nat.le_refl _)
 have sub : ∀ x∈frs (envOfC qual scope s.heap.objs.size f cd::outer),x=s.heap.objs.size\/x∈frs outer:=λ x hx=>by rw [hfs] at hx;exact List.mem_cons.mp hx
 show wpAny _ _ (leaving _ _) _ _ s'
 unfold leaving
 refine wpAny_bind (wpAny_noteFrame_againW (L:=s.heap.objs.size) rfl hh.2.2.2 ?_)
 refine wpAny_landsW hh λ h2 uo sm => ?_
 have fr:s'.heap.FunFrames B outer:=hh.2.2.1.2.2
 have Vo : ∀ b o o',s.heap.get? b=some o->s'.heap.get? b=some o'->b ∉ frs outer->B.get? b=some o':=λ b o o' q q' hb=>kp b o o' q q' λ z=>(sub b z).elim (λ e=>by rw [e,hL] at q;cases q) hb
 obtain ⟨Sz,F9⟩:=Cd (l:=outer) I.base I.hok fr tr Vo uo.1 sm
 obtain ⟨k1,k2,⟨_,_,k3⟩,k4⟩:=uo
 refine ⟨H',ea,cls,rfl,I.os,I.bare,⟨Sz,F9,new,B,a0,⟨k1,k2,k3,k4⟩,λ b u o e q => ?_,λ b o o2 q q2 hb => ?_⟩,hE⟩
 ·obtain ⟨o',e'⟩:=(I.hok b u e).there
  have h1:=tr b u o' e e'
  have h2':=k1 b o' h1
  rw [q] at h2';cases h2';exact h1
 ·obtain ⟨o1,e1⟩:=I.base.there b o q (by intro z;cases z)
  have h1:=Vo b o o1 q e1 hb
  have h2':=k1 b o1 h1
  rw [q2] at h2';cases h2';exact h1
end
theorem lU {C:Addr} {h h' base:Heap} (hs:Heap.SameBut C h h') : ∀ {l:List Env},(∀ b∈frs l,b≠C)->h.FunFrames base l->h'.FunFrames base l
 | [],_,_=>trivial
 | env::l,hc,⟨hk,⟨L,o,hf,hn,ho,hd⟩,hr⟩=>⟨hk,⟨L,o,hf,hn,(hs.2 L (hc L (by rw [lS hf];exact List.mem_cons_self))).trans ho,hd⟩,lU hs (λ b hb=>hc b (by rw [lS hf];exact List.mem_cons_of_mem _ hb)) hr⟩
theorem lV {M:Model} {A:Around} {E:Value->Shared->Prop} {s:Shared} {base:Heap} {l:List Env} {e L:Addr} {cls a0:Value} {Q:Unit->Shared->Prop} (R:Heap.HeldW base l e cls a0 L s.heap)
  (h : ∀ h',Heap.HeldW base l e cls a0 L h'->s.heap.UpToSlots h'->Q () { s with heap:=h' }):wpAny M A (setFlight (.ref e) (some L)) Q E s:=by
 obtain ⟨hkb,hen,hl,oe,vs,T,oT,ts,he,hcls,hd,h1,hnT,hTe,hT,Xh,h3⟩:=R
 have Vp:3 < ts.size:=(Array.getElem?_eq_some_iff.mp h3).1
 have other : ∀ b,b≠T->(s.heap.update T (Obj.mapFields (·.setIfInBounds 3 ((some L).elim Value.none λ f=>rawInt f)))).get? b=s.heap.get? b :=
  λ b hb=>Heap.get?_update_other _ _ (Ne.symm hb)
 have Ek : ∀ b o,s.heap.get? b=some o->(∀ vs,o.data ≠ .fields vs)->b≠T:=λ b o hb hnf q=>by
  rw [q,hT] at hb;injection hb with hb;subst hb;exact hnf ts Xh
 unfold setFlight
 refine wpAny_bind (wpAny_field he hd h1 ?_)
 rw [if_pos (show (Value.ref T != Value.none)=true from by simp)]
 refine wpAny_setField hT Xh Vp (h _ ⟨λ b o Yq=>(other b λ q=>by rw [q,hnT] at Yq;cases Yq).trans (hkb b o Yq),hen,
  hl.of_keeps λ b o hb hnf=>⟨o,(other b (Ek b o hb hnf)).trans hb,rfl⟩,?_⟩ λ b o hb hnf=>⟨o.slots,(other b (Ek b o hb hnf)).trans hb⟩)
 exact ⟨oe,vs,T,_,_,(other e (Ne.symm hTe)).trans he,hcls,hd,h1,hnT,hTe,Heap.get?_update_self _ hT (Obj.isFreed_of_fields (Obj.data_mapFields Xh _)),Obj.data_mapFields Xh _,by simp [Vp]⟩
theorem El {α : Type} {M:Model} {A:Around} {E:Value->Shared->Prop} {s:Shared} {base:Heap} {l:List Env} {e L:Addr} {cls a0:Value} {what:String} {env:Env} {Q : α->Shared->Prop} (hf:env.frame=some L) (R:Heap.HeldW base l e cls a0 L s.heap)
  (h : ∀ h',Heap.HeldW base l e cls a0 L h'->s.heap.UpToSlots h'->E (.ref e) { s with heap:=h' }):wpAny M A (PySem.passOn what (.ref e) env:Sem α) Q E s:=by
 obtain ⟨_,_,_,oe,vs,T,oT,ts,he,hcls,hd,h1,_⟩:=id R
 unfold PySem.passOn
 refine wpAny_bind (wpAny_field he hd h1 ?_)
 rw [if_neg (show ¬ ((Value.ref T == Value.none)=true) from by simp),hf]
 first
  | exact wpAny_bind (wpAny_pure (wpAny_bind (lV R λ h' hh hs=>wpAny_throw (h h' hh hs))))
  | exact wpAny_bind (lV R λ h' hh hs=>wpAny_throw (h h' hh hs))
theorem Jw {C L e:Addr} {h h' B:Heap} {l:List Env} {cls a0:Value} {m:Str->Option Value} (R:Heap.HeldW B l e cls a0 L h) (hn:h.Ns C m) (hc : ∀ b∈frs l,b≠C) (hs:Heap.SameBut C h h'):Heap.HeldW (PySem.W.hideAll B [C]) l e cls a0 L h':=by
 have hB:(PySem.W.hideAll B [C]).StaysIn B:=λ b o q=>PySem.W.of_hideAll _ q
 obtain ⟨f1,f2,f3,oe,vs,T,oT,ts,a1,a2,a3,a4,a5,a6,a7,a8,a9⟩:=PySem.W.heldW_base hB R
 obtain ⟨oC,es,ep,hoC,hdC,_⟩:=hn
 have ne:e≠C:=λ z=>by rw [z,hoC] at a1;cases a1;rw [hdC] at a3;cases a3
 have nT:T≠C:=λ z=>by rw [z,hoC] at a7;cases a7;rw [hdC] at a8;cases a8
 refine ⟨λ b o q => ?_,f2,lU hs hc f3,oe,vs,T,oT,ts,(hs.2 e ne).trans a1,a2,a3,a4,a5,a6,(hs.2 T nT).trans a7,a8,a9⟩
 have nb:b≠C:=λ z=>by rw [z,PySem.W.hideAll_none _ (by simp)] at q;cases q
 exact (hs.2 b nb).trans (f1 b o q)
section
variable {X:Cx} {pins:List (Addr×Obj)} {σ : St} {H3:Hp} {s3:Shared} {scope:Scope} {x:Str} {fp:List Addr}
abbrev XC (Xb:Cx) (E:XK):Value->Shared->Prop:=λ e s' => ∃ (vP:List (Addr×Obj)) (σ':St) (H1:Hp) (s1:Shared),Inv Xb vP σ' H1 s1/\yZ Xb.prog Xb.w Xb.stack H1 s1 E e s'
theorem Cg {e:Value} {env env':Env} (h:env.frame=env'.frame):noteFrame e env=noteFrame e env':=by
 unfold noteFrame PySem.frameOf
 rw [h]
theorem Em {E:XK} {Q:Value->Shared->Prop} {use:Option (Value->Sem Unit)} {acc:Value} {cenv:Env} {e:Value} {s':Shared} (hst:X.stack=X.env::X.outer) (hf:X.env.frame=some X.env.locals) (hex:X.ex = []) (I:Inv X pins σ H3 s3)
  (hfp : ∀ b∈fp,pW X pins H3 b) (SA : ∀ e s,UC X E e s->X.xe e s) (hcf:cenv.frame=X.env.frame) (hcl:cenv.locals=s3.heap.objs.size) (h:XC (X.comp scope x pins fp s3 H3 λ _ _=>False) E e s') :
  notedBy (model X.prog X.w) X.A cenv (λ x s''=>iu (model X.prog X.w) X.A X.xe use Q acc cenv (.error x) s'') e s':=by
 obtain ⟨vP,σ',H1,s1,Ib,H',ea,cls,rfl,os,bare,fl,hE⟩:=h
 have fl:Q7 X.prog X.w X.stack H1 s1.heap H' s'.heap ea cls:=fl
 have osb:s1.os=s3.os:=Ib.os
 have Yr:Un (frs X.stack) fp H3 H1 s3.heap s1.heap:=Ib.base
 obtain ⟨B,a0,hfl,tr,kp⟩:=fl.fly
 have fr:=hfl.2.2.1
 have Ys:Heap.FlyingW B (X.env::X.outer) ea cls a0 s'.heap:=by rw [<-hst];exact hfl
 have UB : ∀ b∈frs X.stack,b≠s3.heap.objs.size:=λ b hb z=>by
  obtain ⟨_,o,ho,_⟩:=I.stack.mem hb
  exact absurd (Heap.lt_size ho) (by rw [z];exact Nat.lt_irrefl _)
 show wpAny _ _ (noteFrame _ cenv) _ _ _
 rw [Cg hcf]
 refine wpAny_looks_onW (by rw [I.ok.frames,hst]) hf Ys λ h4 hh4 sm4 => ?_
 obtain ⟨m1,hn1,_⟩:=Ib.loc
 have hn1:s1.heap.Ns s3.heap.objs.size m1:=hn1
 obtain ⟨un4,ahq⟩:=Cd fl.un fl.hok fr tr kp hh4.1 sm4
 have hC1:H1 s3.heap.objs.size=none:=Ib.free
 have hC':H' s3.heap.objs.size=none:=by
  obtain ⟨o,_,_,ho,_⟩:=hn1
  exact fl.un.free _ o ho hC1 (by intro z;cases z)
 have hn4:h4.Ns s3.heap.objs.size m1:=hn1.at' λ o ho=>un4.keep _ o ho hC1 (λ z=>UB _ z rfl) (by intro z;cases z)
 refine ⟨m1,by rw [hcl];exact hn4,λ h' hs' => ?_⟩
 rw [hcl] at hs'
 have hh':Heap.HeldW (PySem.W.hideAll B [s3.heap.objs.size]) X.stack ea cls a0 X.env.locals h':=Jw (by rw [hst];exact hh4) hn4 UB hs'
 refine El (s := { s' with heap:=h' }) (hcf.trans hf) hh' λ h2 Xi sm2 => ?_
 have hB : ∀ b o,B.get? b=some o->b≠s3.heap.objs.size->(PySem.W.hideAll B [s3.heap.objs.size]).get? b=some o:=λ b o q n=>PySem.W.hideAll_get _ q (by simpa using n)
 have tr' : ∀ b u o,H' b=some u->s'.heap.get? b=some o->(PySem.W.hideAll B [s3.heap.objs.size]).get? b=some o:=λ b u o q qo=>hB b o (tr b u o q qo) λ z=>by rw [z,hC'] at q;cases q
 have Vo : ∀ b o o',s3.heap.get? b=some o->s'.heap.get? b=some o'->b ∉ frs X.stack->b ∉ fp->(PySem.W.hideAll B [s3.heap.objs.size]).get? b=some o':=λ b o o' q q' hb hx=>by
  obtain ⟨o1,e1⟩:=Yr.there b o q hx
  exact hB b o' (kp b o1 o' e1 q' hb) (Nat.ne_of_lt (Heap.lt_size q))
 have fr':s'.heap.FunFrames (PySem.W.hideAll B [s3.heap.objs.size]) X.stack:=PySem.W.funFrames_base (λ b o q=>PySem.W.of_hideAll _ q) fr
 have sm' : ∀ b∈frs X.stack,∀ o,s'.heap.get? b=some o->(∀ vs,o.data ≠ .fields vs)->∃ sl,h2.get? b=some { o with slots:=sl } := λ b hb o q hd=>by
  obtain ⟨sl,e⟩:=sm4 b o q hd
  have e':h'.get? b=some { o with slots:=sl } := (hs'.2 b (UB b hb)).trans e
  obtain ⟨sl2,e2⟩:=sm2 b _ e' hd
  exact ⟨sl2,e2⟩
 have unA:Un (frs X.stack) fp H3 H' s3.heap s'.heap:=Yr.trans (fl.un.mono (λ _ z=>z) (λ _ z=>nomatch z))
 obtain ⟨Sz,F9⟩:=Pk unA fl.hok fr' tr' Vo Xi.1 sm'
 have I2:Inv X pins σ H' { s' with heap:=h2 } := I.QZ (s' := { s' with heap:=h2 }) (ch:=fp) (os.trans osb) Sz F9 bare λ b hb=>⟨(hfp b hb).2.2.2.1,(hfp b hb).2.1,(hfp b hb).2.2.2.2.1,(hfp b hb).2.2.2.2.2⟩
 have nx : ∀ b o,X.s₀.heap.get? b=some o->b ∉ fp:=λ b o q z=>by
  rcases (hfp b z).2.2.2.1 with y | y
  ·rw [hex] at y;cases y
  ·exact absurd (Nat.lt_of_lt_of_le (Heap.lt_size q) y) (Nat.lt_irrefl _)
 have in3 : ∀ b o,X.s₀.heap.get? b=some o->∃ o',s3.heap.get? b=some o':=λ b o q=>I.base.there b o q (by rw [hex];intro z;cases z)
 refine SA _ _ ⟨pins,σ,H',ea,cls,a0,_,I2,rfl,?_,Xi,λ b u o q qo => ?_,λ b o o2 q q2 hb => ?_,hE⟩
 ·cases q:X.s₀.heap.get? ea with
  | none=>rfl
  | some o =>
    obtain ⟨o3,e3⟩:=in3 ea o q
    obtain ⟨o1,e1⟩:=Yr.there ea o3 e3 (nx ea o q)
    rw [fl.new] at e1;cases e1
 ·obtain ⟨o',e'⟩:=(fl.hok b u q).there
  have h1:=tr' b u o' q e'
  have h2':=Xi.1 b o' h1
  rw [qo] at h2';cases h2';exact h1
 ·obtain ⟨o3,e3⟩:=in3 b o q
  obtain ⟨o1,e1⟩:=unA.there b o3 e3 (nx b o q)
  have h1:=Vo b o3 o1 e3 e1 hb (nx b o q)
  have h2':=Xi.1 b o1 h1
  rw [q2] at h2';cases h2';exact h1
end
end L2
namespace L2
open PySem PySem.Spec PyProof.Rows
def Ii (wi:TI) (tt:TT) (te:TE):TE:=fun σ H Q=>wi σ H λ J H1 => ∀ p,H1 p=none->∃ W:Nat->Nat->List V->Hp->Prop,(∃ m,W 0 m [] (upd H1 p (.lst []))) ∧ ∀ i m acc H2,W i m acc H2 →
 H2 p=some (.lst acc)/\((J.stop i H2/\Q (.ref p) H2)\/(J.go i H2 ∧ ∃ N:List V->Hp->Prop,(∀ acc' H',N acc' H'->∃ m',m' < m/\W (i+1) m' acc' H') ∧ ∀ x H3,J.OX i H2 x H3->tt (some x :: σ) H3 λ b H4 =>
  if b=true then te (some x :: σ) H4 λ v H5=>H5 p=some (.lst acc)/\acc.length < sizeLine/\N (acc++[v]) (upd H5 p (.lst (acc++[v]))) else N acc H4))
def Gb:TT:=λ _ H Q=>Q true H
def Vq (X:Cx) (ifs:List Expr) (t:TT):Prop :=
 ∀ (pins:List (Addr×Obj)) (s:Shared) (σ : St) (H:Hp) (Q:Bool->Hp->Prop),Inv X pins σ H s->t σ H Q->wpAny (model X.prog X.w) X.A (forIn ifs true λ c r=>if r=true then do let ok <-isTrue c X.env (eval c X.env);pure (ForInStep.yield ok) else pure (ForInStep.yield r)) (TP X pins σ Q) X.xe s
theorem kc {X:Cx} : Vq X [] Gb:=λ pins s σ H Q I h=>wpAny_tests_nil ⟨H,I,h⟩
theorem p8 {X:Cx} {c:Expr} {t:TT} (h:PT X c t):Vq X [c] t:=λ pins s σ H Q I q=>wpAny_tests_one (h pins s σ H Q I q)
section
variable {X:Cx} {pins:List (Addr×Obj)} {σ : St} {H3:Hp} {s3:Shared} {scope:Scope} {x:Str} {fp:List Addr}
theorem Ci {E:Value->Shared->Prop} {H':Hp} (I:Inv X pins σ H3 s3) (S:lT scope X.env.scope x X.N) (hfp : ∀ b∈fp,pW X pins H3 b) (hfo : ∀ b∈fp,∃ o,s3.heap.get? b=some o) (hn : ∀ b∈fp,H' b=none) : ∀ b∈fp,pW (X.comp scope x pins fp s3 H3 E) [] H' b:=λ b hb=>by
 obtain ⟨o,e⟩:=hfo b hb
 refine ⟨hn b hb,Nat.ne_of_lt (Heap.lt_size e),λ z => ?_,.inl hb,λ y c h=>(hfp b hb).2.2.2.2.1 y c (gg I.ok S h).2,λ p hp=>(hfp b hb).2.2.2.2.2 p (by simpa [Cx.comp] using hp)⟩
 rcases List.mem_cons.mp (I.vO b z) with q | q
 ·exact (hfp b hb).2.1 q
 ·exact (hfp b hb).2.2.1 q
theorem Jx {E:Value->Shared->Prop} {vP:List (Addr×Obj)} {σ':St} {H':Hp} {s':Shared} (I:Inv X pins σ H3 s3) (hfp : ∀ b∈fp,pW X pins H3 b) (J:Inv (X.comp scope x pins fp s3 H3 E) vP σ' H' s'):Inv X pins σ H' s' :=
 I.QZ (ch:=fp) J.os J.base J.hok J.bare λ b hb=>⟨(hfp b hb).2.2.2.1,(hfp b hb).2.1,(hfp b hb).2.2.2.2.1,(hfp b hb).2.2.2.2.2⟩
theorem tW {E:Value->Shared->Prop} {H':Hp} {σ'':St} {s' s'':Shared} {h':Heap} (I:Inv X pins σ H3 s3) (J:Inv X pins σ'' H' s'') (hC:H' s3.heap.objs.size=none) (hs:Heap.SameBut s3.heap.objs.size s''.heap h'):Inv X pins σ'' H' { s'' with heap:=h' } := by
 refine J.turned (t':=s''.toks) (λ b o hb e=>(hs.2 b hb).trans e) hC (Nat.ne_of_gt I.lt) (.inr I.sz) (λ y c e z => ?_) λ p hp z => ?_
 ·obtain ⟨v,q⟩:=I.cell y c e
  exact absurd q.lt (by rw [z];exact Nat.lt_irrefl _)
 ·exact absurd (Heap.lt_size (I.pin p hp).1) (by rw [z];exact Nat.lt_irrefl _)
theorem Cj {prog:Program} {w:World} {A:Around} {R:Result->Shared->Prop} {s:Shared} {elt target iter:Expr} {ifs:List Expr} {scope:Scope} {pos:Pos} {it acc:Value} {env:Env} (I:Nat->Shared->Prop)
  (turn : ∀ n s,I n s->wpAny (model prog w) A (pyNext it) (λ r s₁ => match r with
   | none=>R (.ok .next) s₁
   | some v=>wpAny (model prog w) A (letOwnedTupleGo target it v) (λ _ s₁'=>wpAny (model prog w) A (assign target env v) (λ _ s₂ =>
     wpAny (model prog w) A (forIn ifs true λ c r=>if r=true then do let ok <-isTrue c env (eval c env);pure (ForInStep.yield ok) else pure (ForInStep.yield r)) (λ ok s₃ =>
      if ok=true then wpAny (model prog w) A (eval elt env) (λ x s₄ =>
       wpAny (model prog w) A (call (.builtin "list.append") [acc,x]) (λ _ s₅ => ∃ m,m < n/\I m s₅) (notedBy (model prog w) A env λ e s'=>R (.error e) s') s₄) (notedBy (model prog w) A env λ e s'=>R (.error e) s') s₃
      else ∃ m,m < n/\I m s₃) (notedBy (model prog w) A env λ e s'=>R (.error e) s') s₂) (notedBy (model prog w) A env λ e s'=>R (.error e) s') s₁') (notedBy (model prog w) A env λ e s'=>R (.error e) s') s₁) (notedBy (model prog w) A env λ e s'=>R (.error e) s') s)
  (n:Nat) (h:I n s) :
  codeAny (model prog w) A (.compLoop (.ListComp elt [⟨target,iter,ifs,0⟩] scope pos) 0 it acc env) R s:=by
 refine codeAny_loop rfl I (λ n s hI => ?_) n h
 show wpAny _ A ((compTurn (.ListComp elt [⟨target,iter,ifs,0⟩] scope pos) 0 it acc env).onRaise (λ x=>do noteFrame x env;theTreesLotGoes x)) _ _ s
 refine wpAny_noted ?_
 rw [compTurn_list]
 refine wpAny_bind (wpAny_standAt (wpAny_bind (wpAny_mono (turn n s hI) (λ r s₁ h₁ => ?_) λ _ _ h'=>h')))
 cases r with
 | none=>exact wpAny_pure h₁
 | some v =>
   refine wpAny_bind (wpAny_mono h₁ (λ _ s₁' h₁' => ?_) λ _ _ h'=>h')
   refine wpAny_bind (wpAny_mono h₁' (λ _ s₂ h₂ => wpAny_bind (wpAny_mono h₂ (λ ok s₃ h₃ => ?_) λ _ _ h'=>h')) λ _ _ h'=>h')
   cases ok with
   | false=>exact wpAny_pure ⟨rfl,h₃⟩
   | true =>
     exact wpAny_bind (wpAny_bind (wpAny_mono h₃ (λ x s₄ h₄ => wpAny_bind (wpAny_mono h₄ (λ _ s₅ h₅ => wpAny_pure (wpAny_pure ⟨rfl,h₅⟩)) λ _ _ h'=>h')) λ _ _ h'=>h'))
theorem wu {E:XK} {use:Option (Value->Sem Unit)} {QQ:Value->Shared->Prop} {elt iter:Expr} {px:Pos} {ifs:List Expr} {pos:Pos} {tt:TT} {te:TE} {it:Addr} {tn:Nat->Heap->Prop} {J:It} {Q:VK} {H2:Hp} {s2:Shared}
  (hc:X.calm=true) (hst:X.stack=X.env::X.outer) (hf:X.env.frame=some X.env.locals) (hex:X.ex = []) (SA : ∀ e s,UC X E e s->X.xe e s) (S:lT scope X.env.scope x X.N)
  (ht : ∀ (pins:List (Addr×Obj)) (fp:List Addr) (s3:Shared) (H3:Hp),Vq ((X.comp scope x pins fp s3 H3 λ _ _=>False).lM (XC (X.comp scope x pins fp s3 H3 λ _ _=>False) E)) ifs tt)
  (he : ∀ (pins:List (Addr×Obj)) (fp:List Addr) (s3:Shared) (H3:Hp),PE ((X.comp scope x pins fp s3 H3 λ _ _=>False).lM (XC (X.comp scope x pins fp s3 H3 λ _ _=>False) E)) elt te)
  (I2:Inv X pins σ H2 s2) (T:Turn X.prog X.w X.K (.Name x px) J fp it tn) (st2:tn 0 s2.heap) (f2 : ∀ b∈fp,pW X pins H2 b)
  (h : ∀ p,H2 p=none->∃ W:Nat->Nat->List V->Hp->Prop,(∃ m,W 0 m [] (upd H2 p (.lst []))) ∧ ∀ i m acc H2,W i m acc H2 →
   H2 p=some (.lst acc)/\((J.stop i H2/\Q (.ref p) H2)\/(J.go i H2 ∧ ∃ N:List V->Hp->Prop,(∀ acc' H',N acc' H'->∃ m',m' < m/\W (i+1) m' acc' H') ∧ ∀ x H3,J.OX i H2 x H3->tt (some x :: σ) H3 λ b H4 =>
    if b=true then te (some x :: σ) H4 λ v H5=>H5 p=some (.lst acc)/\acc.length < sizeLine/\N (acc++[v]) (upd H5 p (.lst (acc++[v]))) else N acc H4)))
  (fin : ∀ (s3:Shared) (H3:Hp) (p:Addr) (s':Shared) (H':Hp) (m:Str->Option Value),Inv X pins σ H3 s3->Inv X pins σ H' s'->H' s3.heap.objs.size=none->s'.heap.Ns s3.heap.objs.size m->Q (.ref p) H'->∀ cenv:Env,cenv.locals=s3.heap.objs.size->iu (model X.prog X.w) X.A X.xe use QQ (.ref p) cenv (.ok .next) s') :
  wpAny (model X.prog X.w) X.A (newList []) (λ acc s₃ => wpAny (model X.prog X.w) X.A (newFunctionEnv scope X.env.globals (dU X.env.cells scope.names []) [] X.env.qual none .none (some X.env)) (λ cenv s₄ =>
   codeAny (model X.prog X.w) X.A (.compStart (.ListComp elt [⟨.Name x px,iter,ifs,0⟩] scope pos) 0 (.ref it) acc { cenv with scope:=relabel scope X.env }) (iu (model X.prog X.w) X.A X.xe use QQ acc { cenv with scope:=relabel scope X.env }) s₄) X.xe s₃) X.xe s2:=by
 have hp:H2 s2.heap.objs.size=none:=I2.hok.fresh (Nat.le_refl _)
 obtain ⟨W,⟨m0,w0⟩,turn⟩:=h _ hp
 refine wpAny_newObj_type (wpAny_newFunctionEnv S.cell (by intro y hy;simp at hy) (λ h₁ SD Yt => ?_) S.kind)
 generalize Vr:({ s2 with heap:=s2.heap.push { cls := .type "list",dict:=none,data := .seq ([]:List Value).toArray } } : Shared)=s3
 have Vs:s3.heap=s2.heap.push { cls := .type "list",dict:=none,data := .seq ([]:List Value).toArray } := by rw [<-Vr]
 have I3:Inv X pins σ (upd H2 s2.heap.objs.size (.lst [])) s3:=by
  rw [<-Vr]
  exact I2.laid (t':=s2.toks) (λ b o e=>Heap.get?_push_of_some _ e) (Nat.le_refl _) ⟨by show 0<=sizeLine;exact Nat.zero_le _,[],0,.nil,Heap.get?_push_size _ rfl⟩
 have f3 : ∀ b∈fp,pW X pins (upd H2 s2.heap.objs.size (.lst [])) b:=λ b hb=>⟨by
  obtain ⟨o,e,_⟩:=T.obj _ _ st2 b hb
  rw [cj (Nat.ne_of_lt (Heap.lt_size e))];exact (f2 b hb).1,(f2 b hb).2⟩
 have o3 : ∀ b∈fp,∃ o,s3.heap.get? b=some o:=λ b hb=>by
  obtain ⟨o,e,_⟩:=T.obj _ _ st2 b hb
  exact ⟨o,by rw [Vs];exact Heap.get?_push_of_some _ e⟩
 have SD:h₁.Ns s3.heap.objs.size (λ x=>([]:List (Str×Value)).reverse.lookup x):=by rw [Vs];exact SD
 have kk : ∀ b o,s3.heap.get? b=some o->h₁.get? b=some o:=λ b o e=>Yt.extBut b o (by
  have:=Heap.lt_size e
  rw [Vs] at this
  exact Nat.ne_of_lt this) (Heap.get?_push_of_some _ (by rw [<-Vs];exact e))
 generalize Yu:({ s3 with heap:=h₁,toks:=s3.toks+([]:List (Str×Value)).length } : Shared)=s4
 have Yv:s4.heap=h₁ := by rw [<-Yu]
 have I4:Inv (X.comp scope x pins fp s3 (upd H2 s2.heap.objs.size (.lst [])) λ _ _=>False) [] (none :: σ) (upd H2 s2.heap.objs.size (.lst [])) s4:=Ga I3 S f3 o3 (by rw [Yv];exact SD) (by rw [Yv];exact kk) (by rw [<-Yu]) (by rw [<-Yu];exact I3.bare)
 have st4:tn 0 s4.heap:=T.keep _ _ _ st2 λ b hb o e=>by rw [Yv];exact kk b o (by rw [Vs];exact Heap.get?_push_of_some _ e)
 have loop:codeAny (model X.prog X.w) X.A (.compLoop (.ListComp elt [⟨.Name x px,iter,ifs,0⟩] scope pos) 0 (.ref it) (.ref s2.heap.objs.size) (compEnvC scope (dU X.env.cells scope.names []) s3.heap.objs.size X.env))
   (iu (model X.prog X.w) X.A X.xe use QQ (.ref s2.heap.objs.size) (compEnvC scope (dU X.env.cells scope.names []) s3.heap.objs.size X.env)) s4:=by
  have raised : ∀ e s',XC (X.comp scope x pins fp s3 (upd H2 s2.heap.objs.size (.lst [])) λ _ _=>False) E e s'->notedBy (model X.prog X.w) X.A (compEnvC scope (dU X.env.cells scope.names []) s3.heap.objs.size X.env) (λ x s''=>iu (model X.prog X.w) X.A X.xe use QQ (.ref s2.heap.objs.size) (compEnvC scope (dU X.env.cells scope.names []) s3.heap.objs.size X.env) (.error x) s'') e s' :=
   λ e s' h=>Em hst hf hex I3 f3 SA rfl rfl h
  refine Cj (λ n s' => ∃ i acc H' v0,Inv (X.comp scope x pins fp s3 (upd H2 s2.heap.objs.size (.lst [])) λ _ _=>False) [] (v0 :: σ) H' s'/\tn i s'.heap/\(∀ b∈fp,H' b=none)/\W i n acc H') ?_ m0 ⟨0,[],_,none,I4,st4,λ b hb=>(f3 b hb).1,w0⟩
  rintro n s5 ⟨i,acc,H5,v0,I5,Uw,WZ,w5⟩
  obtain ⟨hacc,hh⟩:=turn i n acc H5 w5
  rcases hh with ⟨stop,q⟩ | ⟨go,N,hN,step⟩
  ·refine cP (T.done (X.comp scope x pins fp s3 (upd H2 s2.heap.objs.size (.lst [])) λ _ _=>False) rfl rfl rfl hc i [] s5 _ H5 _ I5 (Ci I3 S f3 o3 WZ) Uw stop) λ r s6 ⟨hr,I6⟩ => ?_
   subst hr
   obtain ⟨m6,hn6,_⟩:=id I6.loc
   exact fin s3 _ _ s6 H5 m6 I3 (Jx I3 f3 I6) I6.free hn6 q _ rfl
  ·refine cP (T.item (X.comp scope x pins fp s3 (upd H2 s2.heap.objs.size (.lst [])) λ _ _=>False) rfl rfl rfl hc i [] s5 _ H5 _ I5 (Ci I3 S f3 o3 WZ) Uw go) λ r s6 ⟨u,hr,h6⟩ => ?_
   subst hr
   refine cP h6 λ _ s7 ⟨y,H7,I7,r7,y7,Yw,fr7⟩ => ?_
   have I7':=I7.pinned (Ci I3 S f3 o3 fr7) (T.obj _ _ Yw)
   have again : ∀ {n':List V} {v1:Option V} {H9:Hp} {s9:Shared},Inv (X.comp scope x pins fp s3 (upd H2 s2.heap.objs.size (.lst [])) λ _ _=>False) ([]++vR fp s7.heap) (v1 :: σ) H9 s9->N n' H9->∃ m,m < n ∧ ∃ i acc H' v0,Inv (X.comp scope x pins fp s3 (upd H2 s2.heap.objs.size (.lst [])) λ _ _=>False) [] (v0 :: σ) H' s9/\tn i s9.heap/\(∀ b∈fp,H' b=none)/\W i m acc H':=fun {n' v1 H9 s9} I9 n9=>by
    obtain ⟨m',hm,w9⟩:=hN n' H9 n9
    refine ⟨m',hm,i+1,n',H9,v1,I9.pX,T.keep _ _ _ Yw λ b hb o e=>(I9.pin (b,o) (List.mem_append_right _ (List.mem_append_right _ (j7 hb e)))).1,λ b hb => ?_,w9⟩
    obtain ⟨o,e,d⟩:=T.obj _ _ Yw b hb
    exact (I9.pin (b,o) (List.mem_append_right _ (List.mem_append_right _ (j7 hb e)))).2.1
   refine wpAny_assign_Name (vQ (X:=X.comp scope x pins fp s3 (upd H2 s2.heap.objs.size (.lst [])) λ _ _=>False) (i:=0) I7' S.nd rfl (Or.inl (lookup_relabel_local S.loc)) r7 (λ s8 I8 => ?_) (Or.inr (lookup_relabel_local S.loc)))
   refine wpAny_mono (ht pins fp s3 _ _ s8 _ H7 _ (I8.lM _) (step y H7 y7)) (λ ok s9 ⟨H9,I9,q9⟩ => ?_) raised
   cases ok with
   | false =>
     rw [if_neg Bool.false_ne_true]
     have Yx:N acc H9:=by simpa using q9
     exact again I9.gJ Yx
   | true =>
     rw [if_pos rfl]
     have Yx:te (some y :: σ) H9 (λ v H5=>H5 s2.heap.objs.size=some (.lst acc)/\acc.length < sizeLine/\N (acc++[v]) (upd H5 s2.heap.objs.size (.lst (acc++[v])))):=q9
     refine wpAny_mono (he pins fp s3 _ _ s9 _ H9 _ I9 Yx) (λ u10 s10 ⟨v,Mf,I10,r10,ha,hl,n10⟩ => ?_) raised
     refine wpAny_mono (Jq (X:=(X.comp scope x pins fp s3 (upd H2 s2.heap.objs.size (.lst [])) λ _ _=>False).lM (XC (X.comp scope x pins fp s3 (upd H2 s2.heap.objs.size (.lst [])) λ _ _=>False) E)) _ s10 _ Mf (.ref s2.heap.objs.size) [v] (.ref s2.heap.objs.size) [u10] (λ w H'=>w = .aM/\H' = upd Mf s2.heap.objs.size (.lst (acc++[v]))) I10 rfl (.cons r10 .nil) ⟨_,acc,v,rfl,rfl,ha,hl,rfl,rfl⟩) (λ u11 s11 ⟨v11,OL,I11,r11,q11,e11⟩ => ?_) raised
     rw [e11] at I11
     exact again I11.gJ n10
 exact codeAny_compStart_list loop (T.self _ 0 _ _ _ st4 loop)
end
section
variable {X:Cx} {scope:Scope} {x:Str} {E:XK} {elt iter:Expr} {px pos:Pos} {ifs:List Expr} {wi:TI} {tt:TT} {te:TE}
abbrev Cx.Xj (X:Cx) (scope:Scope) (x:Str) (pins:List (Addr×Obj)) (fp:List Addr) (s3:Shared) (H3:Hp) (E:XK):Cx:=(X.comp scope x pins fp s3 H3 λ _ _=>False).lM (XC (X.comp scope x pins fp s3 H3 λ _ _=>False) E)
theorem kh (hc:X.calm=true) (hst:X.stack=X.env::X.outer) (hf:X.env.frame=some X.env.locals) (hex:X.ex = []) (SA : ∀ e s,UC X E e s->X.xe e s) (S:lT scope X.env.scope x X.N) (hi:PI X (.Name x px) iter wi)
  (ht : ∀ pins fp s3 H3,Vq (X.Xj scope x pins fp s3 H3 E) ifs tt) (he : ∀ pins fp s3 H3,PE (X.Xj scope x pins fp s3 H3 E) elt te) (hs : ∀ x,foldedSetIterable iter X.env x=pure x:=by intro _;rfl) :
  PE X (.ListComp elt [⟨.Name x px,iter,ifs,0⟩] scope pos) (Ii wi tt te):=by
 intro pins s σ H Q I h
 rw [eval_ListComp]
 refine gA (use:=none) rfl hs (nS λ y hy e=>I.ok.has y.1 (S.Xg y hy e)) S.kind S.nms (cP (hi pins s σ H _ I h) λ v s1 h1=>cP h1 λ itv s2 h2 => ?_)
 obtain ⟨it,fp,tn,J,H2,e,I2,T,st2,f2,hW⟩:=h2
 subst e
 refine wu hc hst hf hex SA S ht he I2 T st2 f2 hW λ s3 H3 p s' H' m I3 I' hC hn q cenv hcl => ?_
 refine ⟨m,by rw [hcl];exact hn,λ h' hs'=>⟨.ref p,H',tW (E:=X.xe) (s':=s') I3 I' hC (by rw [<-hcl];exact hs'),rfl,q⟩⟩
theorem iE {y:Str} {i:Nat} {py spos:Pos} (hc:X.calm=true) (hst:X.stack=X.env::X.outer) (hf:X.env.frame=some X.env.locals) (hex:X.ex = []) (SA : ∀ e s,UC X E e s->X.xe e s) (S:lT scope X.env.scope x X.N) (hi:PI X (.Name x px) iter wi)
  (ht : ∀ pins fp s3 H3,Vq (X.Xj scope x pins fp s3 H3 E) ifs tt) (he : ∀ pins fp s3 H3,PE (X.Xj scope x pins fp s3 H3 E) elt te) (hN:X.N.Nodup) (hy:X.N[i]? = some y) (hl:Loc X.env.scope y)
  (hs : ∀ x,foldedSetIterable iter X.env x=pure x:=by intro _;rfl) (hsw:swapsWith (.ListComp elt [⟨.Name x px,iter,ifs,0⟩] scope pos) (some (.Name y py)) spos.line X.env=pure true:=by rfl)
  (hfn:X.fn y=true\/X.env.scope.names.lookup y=some .local:=by first | exact .inl rfl | exact .inr rfl | assumption) :
  PS X (.Assign [.Name y py] (.ListComp elt [⟨.Name x px,iter,ifs,0⟩] scope pos) spos) (LC (Ii wi tt te) (tQ i)):=by
 intro pins s σ H D I h
 rw [exec_Assign_Name_used _ _ _ _ hsw]
 refine wpAny_bind (wpAny_standAt (wpAny_bind ?_))
 show wpAny _ X.A (do let _ <-comprehension (.ListComp elt [⟨.Name x px,iter,ifs,0⟩] scope pos) scope X.env _ (newList []) false (eval iter X.env) (some (assign (.Name y py) X.env))) _ _ s
 refine wpAny_bind (wpAny_mono (gA (use:=some (assign (.Name y py) X.env)) (Q:=λ _ s'=>SP X pins D .next s') rfl hs (nS λ y hy e=>I.ok.has y.1 (S.Xg y hy e)) S.kind S.nms
  (cP (hi pins s σ H _ I h) λ v s1 h1=>cP h1 λ itv s2 h2 => ?_)) (λ _ s' hq=>wpAny_pure (wpAny_pure hq)) λ _ _ e=>e)
 obtain ⟨it,fp,tn,J,H2,e,I2,T,st2,f2,hW⟩:=h2
 subst e
 refine wu (Q:=λ v H1=>tQ i v σ H1 D.nx) hc hst hf hex SA S ht he I2 T st2 f2 hW λ s3 H3 p s' H' m I3 I' hC hn q cenv hcl => ?_
 show wpAny _ X.A (assign (.Name y py) X.env (.ref p)) _ _ s'
 refine wpAny_assign_Name (Be I' hN hy hl (v := .ref p) rfl (λ s'' I'' hch => ?_) hfn)
 obtain ⟨a,hsb,ha⟩:=hch
 have Uv:s3.heap.objs.size≠a:=by
  rcases ha with rfl | ha
  ·exact Nat.ne_of_gt I3.lt
  ·obtain ⟨w,z⟩:=I3.cell y a ha
   exact Nat.ne_of_gt z.lt
 refine ⟨m,by rw [hcl];exact hn.sameBut hsb Uv,λ h' hs'=>⟨_,H',tW (E:=X.xe) (s':=s') I3 I'' hC (by rw [<-hcl];exact hs'),q⟩⟩
end
end L2
namespace L2
open PySem PySem.Spec PyProof.Rows
mutual
inductive dZ (H:Hp):V->PyData->Prop
 | aM:dZ H .aM .none
 | bl (b:Bool):dZ H (.bl b) (.bool b)
 | int (i:Int):dZ H (.int i) (.int i)
 | str (x:Str):dZ H (.str x) (.str x)
 | lst {a:Addr} {xs:List V} {ds:List PyData} (e:H a=some (.lst xs)) (h:bU H xs ds):dZ H (.ref a) (.list ds)
 | tup {a:Addr} {xs:List V} {ds:List PyData} (e:H a=some (.tup xs)) (h:bU H xs ds):dZ H (.ref a) (.tuple ds)
inductive bU (H:Hp):List V->List PyData->Prop
 | nil:bU H [] []
 | cons {x:V} {xs:List V} {d:PyData} {ds:List PyData} : dZ H x d->bU H xs ds->bU H (x::xs) (d::ds)
end
mutual
theorem dZ.reads {P:Program} {w:World} {H:Hp} {h:Heap} (ok:k6 P w H h) : ∀ {x:V} {d:PyData} {u:Value},dZ H x d->RelV x u->∃ as,Reads h u d as
 | _,_,_,.aM,r=>by cases r;exact ⟨_,.none⟩
 | _,_,_,.bl b,r=>by cases r;exact ⟨_,.bool b⟩
 | _,_,_,.int i,r=>by obtain ⟨t,rfl⟩:=r;exact ⟨_,.int i t⟩
 | _,_,_,.str x,r=>by obtain ⟨t,rfl⟩:=r;exact ⟨_,.str x t⟩
 | _,_,_,.lst e hs,r=>by
   cases r
   obtain ⟨_,its,n,rv,ho⟩:=(show bY P w H h _ (.lst _) from ok _ _ e)
   obtain ⟨as,ra⟩:=bU.reads ok hs rv
   exact ⟨_,.list ho rfl rfl ra⟩
 | _,_,_,.tup e hs,r=>by
   cases r
   obtain ⟨_,its,rv,o,ho,hc,n,hd⟩:=(show bY P w H h _ (.tup _) from ok _ _ e)
   obtain ⟨as,ra⟩:=bU.reads ok hs rv
   exact ⟨_,.tuple ho hc hd ra⟩
theorem bU.reads {P:Program} {w:World} {H:Hp} {h:Heap} (ok:k6 P w H h) : ∀ {xs:List V} {ds:List PyData} {us:List Value},bU H xs ds->Vals xs us->∃ as,ReadsAll h us ds as
 | _,_,_,.nil,.nil=>⟨_,.nil⟩
 | _,_,_,.cons a b,.cons r t=>by
   obtain ⟨_,ra⟩:=dZ.reads ok a r
   obtain ⟨_,rb⟩:=bU.reads ok b t
   exact ⟨_,.cons ra rb⟩
end
mutual
theorem dZ.mono {H H':Hp} (k : ∀ a xs,H a=some (.lst xs)->H' a=some (.lst xs)) (k2 : ∀ a xs,H a=some (.tup xs)->H' a=some (.tup xs)) : ∀ {x:V} {d:PyData},dZ H x d->dZ H' x d
 | _,_,.aM => .aM
 | _,_,.bl b => .bl b
 | _,_,.int i => .int i
 | _,_,.str x => .str x
 | _,_,.lst e hs => .lst (k _ _ e) (bU.mono k k2 hs)
 | _,_,.tup e hs => .tup (k2 _ _ e) (bU.mono k k2 hs)
theorem bU.mono {H H':Hp} (k : ∀ a xs,H a=some (.lst xs)->H' a=some (.lst xs)) (k2 : ∀ a xs,H a=some (.tup xs)->H' a=some (.tup xs)) : ∀ {xs:List V} {ds:List PyData},bU H xs ds->bU H' xs ds
 | _,_,.nil => .nil
 | _,_,.cons a b => .cons (dZ.mono k k2 a) (bU.mono k k2 b)
end
theorem dZ.same {H H':Hp} (s:k8 H H') {x:V} {d:PyData} (h:dZ H x d):dZ H' x d:=h.mono (λ _ _ e=>s _ _ e) λ _ _ e=>s _ _ e
theorem bU.same {H H':Hp} (s:k8 H H') {xs:List V} {ds:List PyData} (h:bU H xs ds):bU H' xs ds:=h.mono (λ _ _ e=>s _ _ e) λ _ _ e=>s _ _ e
theorem bU.append {H:Hp} : ∀ {xs ys:List V} {ds es:List PyData},bU H xs ds->bU H ys es->bU H (xs++ys) (ds++es)
 | _,_,_,_,.nil,h=>h
 | _,_,_,_,.cons a b,h => .cons a (bU.append b h)
theorem bU.length {H:Hp} : ∀ {xs:List V} {ds:List PyData},bU H xs ds->xs.length=ds.length
 | _,_,.nil=>rfl
 | _,_,.cons _ b=>by rw [List.length_cons,List.length_cons,bU.length b]
abbrev shaped:=PySem.SeqAt.shaped
section
variable {X:Cx}
end
end L2
namespace L2
open PySem PySem.Spec PyProof.Rows
theorem lW : ∀ (ns:List Int),∀ n∈ns,Builtin.Int.intBits n<=PySem.W.WData.weightAll (ns.map PySem.W.WData.int)
 | m::r,n,h=>by
   simp only [List.map_cons,PySem.W.WData.weightAll]
   rcases List.mem_cons.mp h with rfl | h
   ·have:PySem.W.WData.weight (.int n)=Builtin.Int.intBits n:=by simp only [PySem.W.WData.weight,Builtin.Int.intBits]
    omega
   ·have:=lW r n h
    omega
theorem En {ns:List Int} (h:PySem.W.WData.layableAll [.list (ns.map PySem.W.WData.int)]=true) : ∀ n∈ns,Builtin.Int.intBits n<=1048576:=λ n hn=>by
 have h1:PySem.W.WData.layable (.list (ns.map PySem.W.WData.int))=true:=by simpa [PySem.W.WData.layableAll] using h
 unfold PySem.W.WData.layable at h1
 have h2:=of_decide_eq_true (Bool.and_eq_true_iff.mp h1).2
 have e:(2:Nat) ^ 20=1048576:=by decide
 simp only [PySem.W.WData.weight,e] at h2
 exact Nat.le_trans (lW ns n hn) h2
end L2
namespace W4
open PySem PySem.W PySem.Calls PyProof.Rows
theorem Ck {l:OpenLaw} {n:Nat} {q:Program} {loose:List Str} {XP:(Str->Option Value)->Heap->Prop} {YP:World->Heap->Prop} {d:DefRec}
  (hn:l.most=some n) (hdf:d.params.defaults = [])
  (call : ∀ (w:World) (s₀ s₁ : Shared) (mg mb:Str->Option Value) (fa:Addr) (o:Obj) (pm cd doc:Value) (a:Addr) (vs:List Value) (ns:List Int),
   Ground q loose [] XP w s₀ mg mb s₁.heap->YP w s₁.heap →
   s₁.heap.get? fa=some o->o.data = .func (docDef d.name d.params d.body d.scope pm cd doc)->s₁.heap.CodeRec cd d.name->mg d.name=some (.ref fa) →
   s₁.heap.get? a=some { cls := .type "list",data := .seq vs.toArray }->IntsAre vs ns->ns.length<=n->(∀ n∈ns,Builtin.Int.intBits n<=1048576)->s₁.gens = #[] →
   codeAny (model l.prog w) callerA (.call (.ref fa) ⟨[.ref a],[]⟩) (λ r s'=>r = .ok (.ret (.bool true))/\OldK s₁.heap s'.heap/\s'.os=s₁.os/\AllBare s'.gens) s₁) :
  WalkO q loose XP YP l.row.toRowW d [] (λ f vs=>PySem.call f vs):=by
 intro w s₀ s₁ mg mb G Y fa o pm cd doc dV kV ho hd hcd hD hmg hg args vals as hpre hlay hrd hwl hlo
 obtain rfl:dV = .none:=Dflts.none hD hdf
 obtain rfl:kV = .none:=Dflts.noKw hD
 obtain ⟨a,vs,ns,rfl,rfl,hobj,hints,hlen⟩:=Jr hn hpre hwl
 refine enter_call (codeAny_mono (call w s₀ s₁ mg mb fa o pm cd doc a vs ns G Y ho (fd_plain hd) hcd hmg hobj hints hlen (L2.En hlay) hg) λ r s' hq => ?_)
 obtain ⟨rfl,h2,h3,h4⟩:=hq
 exact ⟨.inl ⟨.bool true,.bool true,[],rfl,λ _=>rfl,.bool true,Js l _,λ _=>⟨List.Pairwise.nil,λ _ hm=>(nomatch hm)⟩⟩,h2,h3,h4⟩
end W4
namespace L2
open PySem PySem.Spec PyProof.Rows
def Gd (K:PySem.W.Frag):Sp:=λ vs H Q _ => ∃ (a:Addr) (ns:List Int),vs = [.ref a]/\fj K H a (ns.map V.int)/\ns.length<=63/\(∀ n∈ns,Builtin.Int.intBits n<=1048576)/\Pd H ∧ ∀ H',Q (.bl true) H'
theorem Jy {l:PySem.W.OpenLaw} {q:Program} {loose:List Str} {XP:(Str->Option Value)->Heap->Prop} {YP:World->Heap->Prop} {d:DefRec} {K:Params->PySem.W.Frag} {k:Nat} {x:Str} (hn:l.most=some 63) (hdf:d.params.defaults = [])
  (hr:dH k callerA) (hY : ∀ (w:World) (h:Heap),YP w h->(K w.params).In h)
  (F : ∀ (w:World) (mg:Str->Option Value) (fa:Addr) (h:Heap),(K w.params).In h->h.Ns mainGlobals mg->mg d.name=some (.ref fa) →
   ∃ fd:FuncData,(∀ (s:Shared) (u:Value),BindsTo s fd ⟨[u],[]⟩ [(x,u)]) ∧ ∀ base:Heap,(K w.params).In base->base.Ns mainGlobals mg->gK l.prog w (K w.params) mg base (yZ l.prog w) k fa fd [x] (Gd (K w.params))) :
  PySem.W.WalkO q loose XP YP l.row.toRowW d [] (λ f vs=>PySem.call f vs):=by
 refine W4.Ck hn hdf λ w s₀ s₁ mg mb fa o pm cd doc a vs ns G Y ho hd hcd hmg hobj hints hlen Eo hg => ?_
 have KX:=hY w _ Y
 obtain ⟨fd,hb,hF⟩:=F w mg fa _ KX G.T.g hmg
 exact L6 KX G.T.g G.T.b G.T.builtins G.T.nolimit hg hobj hints (Nat.le_trans hlen (by decide)) hr hF hb (λ H hO hS=>⟨a,ns,rfl,hS,hlen,Eo,hO,λ _=>rfl⟩) λ H e s' ⟨_,_,_,_,_,_,_,z⟩=>z
theorem ni {X:Cx} : oF X (binaryOp .Mult) (rI (λ i j=>IntMulOk i j) λ i j => .int (i * j)):=UW λ _ _ _ _ _ _ _ hc q=>mul_int q hc
end L2
namespace L2
open PySem PySem.Spec PyProof.Rows
def Ij (scope es:Scope) (x:Str) (N:List Str):Bool :=
 decide (scope.kind = .function) && (scope.names.all λ y=>decide (y.2 ≠ .cell)) && (scope.names.all λ y=>decide (y.2 ≠ .local) || decide (scope.names.lookup y.1=some .local)) && decide (scope.names.lookup x=some .local) &&
 decide (scope.names.lookup ("" : Str)=none) && (scope.names.all λ y=>decide (y.2 ≠ .free) || (decide (es.names.lookup y.1=some .cell) || decide (es.names.lookup y.1=some .free))) &&
 (scope.names.all λ y=>decide (y.2 ≠ .local) || (decide (y.1=x) || !N.contains y.1)) && decide (x::N.map λ y=>if y=x then ("" : Str) else y).Nodup
theorem cz {scope es:Scope} {x:Str} {N:List Str} (h:Ij scope es x N=true):lT scope es x N:=by
 unfold Ij at h
 simp only [Bool.and_eq_true,decide_eq_true_eq,List.all_eq_true,Bool.or_eq_true,Bool.not_eq_true'] at h
 obtain ⟨⟨⟨⟨⟨⟨⟨h1,h2⟩,h3⟩,h4⟩,h5⟩,h6⟩,h7⟩,h8⟩:=h
 refine ⟨h1,h2,λ y hy e=>(h3 y hy).resolve_left λ z=>z e,h4,h5,λ y hy e=>(h6 y hy).resolve_left λ z=>z e,λ y hy e => ?_,h8⟩
 rcases (h7 y hy).resolve_left λ z=>z e with q | q
 ·exact .inl q
 ·exact .inr λ m=>by
   have:N.contains y.1=true:=List.contains_iff_mem.mpr m
   rw [q] at this;cases this
def SE (sc:Scope) (x:Str):Bool:=match sc.names.lookup x with
 | some .local=>true
 | some .cell=>true
 | some .free=>true
 | _=>false
theorem SG {sc:Scope} {x:Str} (h:SE sc x=true):RU sc x:=by
 unfold SE at h
 unfold RU
 split at h <;> simp_all
section
variable {X:Cx}
theorem pk (i:Nat) {x:Str} {pos:Pos} (hN:X.N[i]? = some x:=by kernel_rfl) (hv:SE X.env.scope x=true:=by kernel_rfl) (hd:(x == ("__debug__" : Str))=false:=by decide)
  (hcd:(x == ("__classdict__" : Str))=false:=by decide):PE X (.Name x pos) (FJ i):=FL hN (SG hv) hd hcd
theorem OM {X:Cx} : ∀ e s,UC X E0 e s->X.xe e s:=λ _ _ ⟨_,_,_,_,_,_,_,_,_,_,_,_,_,z⟩=>z.elim
end
section
variable {P:Program} {w:World} {K:PySem.W.Frag} {mg:Str->Option Value} {base:Heap}
theorem Def.Ep {x:Str} {st:Stmt} {N ps:List Str} {k:Nat} {sp:Sp} (D:Def K mg x st) (S:aD N ps (ai st)) (len : ∀ vs H Q E,sp vs H Q E->vs.length=ps.length)
  (hb : ∀ (kV doc pm:Value) (an:Option Addr) (cdv ct:Value) (us:List Value),us.length=ps.length->bindArgs (PySem.W.fnOf x x (aC st) (ay st) (ai st) .none kV doc pm an cdv ct) ⟨us,[]⟩ = pure (ps.zip us))
  (hbody : ∀ (f:Addr) (cdv:Value) (A:Around) (outer:List Env) (s:Shared) (H:Hp) (vs:List V) (Q:VK) (E:XK),dH k (A.deeper (envOfC x (ai st) s.heap.objs.size f cdv))->sp vs H Q E →
   ∃ t,BX (Jv P w K mg base N x (ai st) f cdv A outer s H E) (ay st) t/\t { nx:=λ _ H'=>Q .aM H',rt:=Q } (start N vs) H):cQ P w K mg base (k+1) x ps sp:=by
 obtain ⟨f,fd,hm,F⟩:=D
 refine ⟨f,fd,hm,F.kp,F.binds hb,?_⟩
 obtain ⟨oc,od,kV,doc,pm,an,cdv,ct,osl,rfl,lk,hcd⟩:=F.ex
 exact Bq lk hcd S len λ A outer s H vs Q E hr Fy=>hbody _ cdv A outer s H vs Q E hr Fy
structure uq (K:PySem.W.Frag) (mg:Str->Option Value) (x:Str) (C:Addr):Prop where
 cl:OH K C
 Vm:mg x=some (.ref C)
def bM (K:PySem.W.Frag) (C:Addr) (m qual:Str) (st:Stmt):Prop := ∃ f fd,Meth K C m f/\Jt K m qual st f fd
structure aR (P:Program) (w:World) (K:PySem.W.Frag) (mg:Str->Option Value) (base:Heap) (k:Nat) (C:Addr) (m:Str) (ps:List Str) (sp:Sp):Prop where
 ex : ∃ f fd,Meth K C m f/\Binds K fd ps []/\gK P w K mg base (yZ P w) k f fd ps sp
def oM (K:PySem.W.Frag) (C:Addr) (qual:Str) (st:Stmt):Prop := ∃ f fd,Mk K C f/\Jt K "__init__" qual st f fd
structure iW (P:Program) (w:World) (K:PySem.W.Frag) (mg:Str->Option Value) (base:Heap) (k:Nat) (C:Addr) (ps:List Str) (sp:Sp):Prop where
 ex : ∃ f fd,Mk K C f/\Binds K fd ps []/\gK P w K mg base (yZ P w) k f fd ps sp
theorem aR.mono {C:Addr} {m:Str} {ps:List Str} {sp:Sp} {j k:Nat} (F:aR P w K mg base j C m ps sp) (h:j<=k):aR P w K mg base k C m ps sp:=by
 obtain ⟨f,fd,h1,h3,h4⟩:=F.ex
 exact ⟨f,fd,h1,h3,h4.mono h⟩
theorem bM.Ep {C:Addr} {m qual:Str} {st:Stmt} {N ps:List Str} {k:Nat} {sp:Sp} (D:bM K C m qual st) (S:aD N ps (ai st)) (len : ∀ vs H Q E,sp vs H Q E->vs.length=ps.length)
  (hb : ∀ (kV doc pm:Value) (an:Option Addr) (cdv ct:Value) (us:List Value),us.length=ps.length->bindArgs (PySem.W.fnOf m qual (aC st) (ay st) (ai st) .none kV doc pm an cdv ct) ⟨us,[]⟩ = pure (ps.zip us))
  (hbody : ∀ (f:Addr) (cdv:Value) (A:Around) (outer:List Env) (s:Shared) (H:Hp) (vs:List V) (Q:VK) (E:XK),dH k (A.deeper (envOfC qual (ai st) s.heap.objs.size f cdv))->sp vs H Q E →
   ∃ t,BX (Jv P w K mg base N qual (ai st) f cdv A outer s H E) (ay st) t/\t { nx:=λ _ H'=>Q .aM H',rt:=Q } (start N vs) H):aR P w K mg base (k+1) C m ps sp:=by
 obtain ⟨f,fd,hm,F⟩:=D
 refine ⟨f,fd,hm,F.binds hb,?_⟩
 obtain ⟨oc,od,kV,doc,pm,an,cdv,ct,osl,rfl,lk,hcd⟩:=F.ex
 exact Bq lk hcd S len λ A outer s H vs Q E hr Fy=>hbody _ cdv A outer s H vs Q E hr Fy
theorem bM.ok {C:Addr} {m qual:Str} {st:Stmt} {N ps:List Str} {k:Nat} {sp:Sp} (D:bM K C m qual st) (S:aD N ps (ai st)) (len : ∀ vs H Q E,sp vs H Q E->vs.length=ps.length)
  (hb : ∀ (kV doc pm:Value) (an:Option Addr) (cdv ct:Value) (us:List Value),us.length=ps.length->bindArgs (PySem.W.fnOf m qual (aC st) (ay st) (ai st) .none kV doc pm an cdv ct) ⟨us,[]⟩ = pure (ps.zip us))
  (hbody : ∀ (f:Addr) (cdv:Value) (A:Around) (outer:List Env) (s:Shared) (H:Hp) (vs:List V) (Q:VK) (E:XK),dH k (A.deeper (envOfC qual (ai st) s.heap.objs.size f cdv))->sp vs H Q E →
   ∃ t,BX (vV (yZ P w) P w K mg base N qual (ai st) f cdv A outer s H E).Fx (ay st) t/\t { nx:=λ _ H'=>Q .aM H',rt:=Q } (start N vs) H):aR P w K mg base (k+1) C m ps sp:=by
 refine D.Ep S len hb λ f cdv A outer s H vs Q E hr h => ?_
 obtain ⟨t,h,q⟩:=hbody f cdv A outer s H vs Q E hr h
 exact ⟨t,h.Fx,q⟩
theorem oM.Ep {C:Addr} {qual:Str} {st:Stmt} {N ps:List Str} {k:Nat} {sp:Sp} (D:oM K C qual st) (S:aD N ps (ai st)) (len : ∀ vs H Q E,sp vs H Q E->vs.length=ps.length)
  (hb : ∀ (kV doc pm:Value) (an:Option Addr) (cdv ct:Value) (us:List Value),us.length=ps.length->bindArgs (PySem.W.fnOf "__init__" qual (aC st) (ay st) (ai st) .none kV doc pm an cdv ct) ⟨us,[]⟩ = pure (ps.zip us))
  (hbody : ∀ (f:Addr) (cdv:Value) (A:Around) (outer:List Env) (s:Shared) (H:Hp) (vs:List V) (Q:VK) (E:XK),dH k (A.deeper (envOfC qual (ai st) s.heap.objs.size f cdv))->sp vs H Q E →
   ∃ t,BX (Jv P w K mg base N qual (ai st) f cdv A outer s H E) (ay st) t/\t { nx:=λ _ H'=>Q .aM H',rt:=Q } (start N vs) H):iW P w K mg base (k+1) C ps sp:=by
 obtain ⟨f,fd,hm,F⟩:=D
 refine ⟨f,fd,hm,F.binds hb,?_⟩
 obtain ⟨oc,od,kV,doc,pm,an,cdv,ct,osl,rfl,lk,hcd⟩:=F.ex
 exact Bq lk hcd S len λ A outer s H vs Q E hr Fy=>hbody _ cdv A outer s H vs Q E hr Fy
theorem oM.ok {C:Addr} {qual:Str} {st:Stmt} {N ps:List Str} {k:Nat} {sp:Sp} (D:oM K C qual st) (S:aD N ps (ai st)) (len : ∀ vs H Q E,sp vs H Q E->vs.length=ps.length)
  (hb : ∀ (kV doc pm:Value) (an:Option Addr) (cdv ct:Value) (us:List Value),us.length=ps.length->bindArgs (PySem.W.fnOf "__init__" qual (aC st) (ay st) (ai st) .none kV doc pm an cdv ct) ⟨us,[]⟩ = pure (ps.zip us))
  (hbody : ∀ (f:Addr) (cdv:Value) (A:Around) (outer:List Env) (s:Shared) (H:Hp) (vs:List V) (Q:VK) (E:XK),dH k (A.deeper (envOfC qual (ai st) s.heap.objs.size f cdv))->sp vs H Q E →
   ∃ t,BX (vV (yZ P w) P w K mg base N qual (ai st) f cdv A outer s H E).Fx (ay st) t/\t { nx:=λ _ H'=>Q .aM H',rt:=Q } (start N vs) H):iW P w K mg base (k+1) C ps sp:=by
 refine D.Ep S len hb λ f cdv A outer s H vs Q E hr h => ?_
 obtain ⟨t,h,q⟩:=hbody f cdv A outer s H vs Q E hr h
 exact ⟨t,h.Fx,q⟩
theorem wz {h:Heap} {x:Str} {C:Addr} (X:K.In h) (G:h.Ns mainGlobals mg) (a:PySem.W.nsIn K mainGlobals x=some (some (.ref C))) (h1:PySem.W.plainGet K C Str.empty=true) (h2:PySem.W.hasDictIn K C=true) (h3:PySem.W.plainOver K C=true)
  (h4:PySem.W.findIn K (.ref C) "__setattr__" = some (some (.builtin "object.__setattr__"))):uq K mg x C:=⟨⟨h1,h2,h3,h4⟩,PySem.W.mg_of X G a⟩
theorem bC {C f:Addr} {m qual:Str} {st:Stmt} {oc:Value} {od an:Option Addr} {osl:Array (Option Value)} {kV doc pm cdv ct:Value} (a:PySem.W.findIn K (.ref C) m=some (some (.ref f))) (fn:PySem.W.isFn K (.ref f)=true)
  (l:K.lookup f=some ⟨oc,od,.func (PySem.W.fnOf m qual (aC st) (ay st) (ai st) .none kV doc pm an cdv ct),osl⟩) (c:PySem.W.codeIn K cdv qual=true) (k:PySem.W.keepIn K (.ref f)=true):bM K C m qual st:=⟨f,_,⟨a,fn,k⟩,F7 l c k⟩
theorem p9 {C f:Addr} {qual:Str} {st:Stmt} {oc:Value} {od an:Option Addr} {osl:Array (Option Value)} {kV doc pm cdv ct:Value} (m:PySem.W.makesIn K C=true) (a:PySem.W.findIn K (.ref C) "__init__" = some (some (.ref f))) (fn:PySem.W.isFn K (.ref f)=true) (kC:PySem.W.keepIn K (.ref C)=true)
  (l:K.lookup f=some ⟨oc,od,.func (PySem.W.fnOf "__init__" qual (aC st) (ay st) (ai st) .none kV doc pm an cdv ct),osl⟩) (c:PySem.W.codeIn K cdv qual=true) (k:PySem.W.keepIn K (.ref f)=true):oM K C qual st:=⟨f,_,⟨m,a,fn,kC⟩,F7 l c k⟩
end
section
variable {X:Cx} {k:Nat} {C:Addr} {ps:List Str} {sp:Sp} {E:XK} {x m:Str} {p pos apos:Pos} {e o:Expr} {es:List Expr} {ta:TE} {t:TA}
theorem aV {pl:Sem Bool} (T:uq X.K X.mg x C) (F:aR X.prog X.w X.K X.mg X.base k C m ps sp) (hr:dH k X.A) (hx:Passes (yZ X.prog X.w) X E) (he:PE X o ta) (ha:PA X (e::es) t)
  (hst:starEach (e::es) X.env=(false,eval e X.env)::starEach es X.env:=by rfl) (hpl:(backTo pos (starEach es X.env)).any (·.1)=false:=by rfl)
  (ht:eval (.Call (.Attribute o m apos) (e::es) [] pos) X.env=(do
   let ov <-eval o X.env
   standAt apos.atName
   let (f,first) <-holding [ov] (getMethod ov m pl)
   callWith pos f first (backTo pos (starEach (e::es) X.env)) (backToKw pos (keywordEach [] X.env))):=by rfl) :
  PE X (.Call (.Attribute o m apos) (e::es) [] pos) (Bj C m sp [] E ta t):=by
 obtain ⟨f,fd,h1,h3,h4⟩:=F.ex
 exact O3 he T.cl h1 h4 hr h3 .nil hx ha hst hpl ht
theorem dN {pl:Sem Bool} (T:uq X.K X.mg x C) (F:aR X.prog X.w X.K X.mg X.base k C m ps sp) (hr:dH k X.A) (hx:Passes (yZ X.prog X.w) X E) (he:PE X o ta)
  (ht:eval (.Call (.Attribute o m apos) [] [] pos) X.env=(do
   let ov <-eval o X.env
   standAt apos.atName
   let (f,first) <-holding [ov] (getMethod ov m pl)
   callWith pos f first (backTo pos (starEach [] X.env)) (backToKw pos (keywordEach [] X.env))):=by rfl) :
  PE X (.Call (.Attribute o m apos) [] [] pos) (Bj C m sp [] E ta D0):=by
 obtain ⟨f,fd,h1,h3,h4⟩:=F.ex
 exact LP he T.cl h1 h4 hr h3 .nil hx ht
theorem qa (T:uq X.K X.mg x C) (F:iW X.prog X.w X.K X.mg X.base k C ps sp) (hr:dH (k+1) X.A) (hg:Gl X x) (hx:Passes (yZ X.prog X.w) X E) (ha:PA X (e::es) t)
  (hdb:(x == ("__debug__" : Str))=false:=by decide) (he:starEach (e::es) X.env=(false,eval e X.env)::starEach es X.env:=by rfl) (hpl:(backTo pos (starEach es X.env)).any (·.1)=false:=by rfl) :
  PE X (.Call (.Name x p) (e::es) [] pos) (Bk C sp [] E t):=by
 obtain ⟨f,fd,h1,h3,h4⟩:=F.ex
 exact O4 h1 h4 hr hg T.Vm h3 .nil hx ha hdb he hpl
theorem Jz (T:uq X.K X.mg x C) (F:iW X.prog X.w X.K X.mg X.base k C ps sp) (hr:dH (k+1) X.A) (hg:Gl X x) (hx:Passes (yZ X.prog X.w) X E)
  (hdb:(x == ("__debug__" : Str))=false:=by decide):PE X (.Call (.Name x p) [] [] pos) (Bk C sp [] E D0):=by
 obtain ⟨f,fd,h1,h3,h4⟩:=F.ex
 exact LQ h1 h4 hr hg T.Vm h3 .nil hx hdb
def Mg (C:Addr) (ta:TE) (f:Str):TE:=fun σ H Q=>ta σ H λ x H1 => ∃ a dx fs v,x = .ref a/\H1 a=some (.ins C dx fs)/\fs.lookup f=some v/\Q v H1
theorem aB {f:Str} (T:uq X.K X.mg x C) (na:cW X.K C f) (he:PE X o ta) (hb:attributeBase o f X.env (eval o X.env)=eval o X.env:=by rfl):PE X (.Attribute o f pos) (Mg C ta f):=by
 intro pins s σ H Q I h
 refine O1 hb (cP (he pins s σ H _ I h) λ u s1 ⟨x,H1,I1,rx,a,dx,fs,v,ex,ea,l,q⟩ => ?_)
 subst ex
 obtain rfl:u=Value.ref a:=rx
 exact FT I1 ea T.cl na l λ u' s2 I2 ru=>⟨v,H1,I2,ru,q⟩
def Mh (C:Addr) (ta tv:TE) (f:Str):TS:=λ D σ H=>tv σ H λ y H1=>ta σ H1 λ x H2 => ∃ a dx fs,x = .ref a/\H2 a=some (.ins C dx fs)/\fs.length < 1000/\D.nx σ (upd H2 a (.ins C dx (dg f y fs)))
theorem cR {f:Str} {value:Expr} {tv:TE} {pos':Pos} (T:uq X.K X.mg x C) (na:cW X.K C f) (ha:PE X o ta) (hv:PE X value tv) (hs:swapsWith value (some (.Attribute o f pos')) pos.line X.env=pure false:=by rfl):PS X (.Assign [.Attribute o f pos'] value pos) (Mh C ta tv f):=by
 intro pins s σ H D I h
 refine plainObj_wpAny_Assign_Attribute (cP (hv pins s σ H _ I h) λ u s1 ⟨y,H1,I1,ry,q⟩=>cP (ha pins s1 σ H1 _ I1 q) λ ov s2 ⟨x,H2,I2,rx,a,dx,fs,ex,ea,l,q2⟩ => ?_) hs
 subst ex
 obtain rfl:ov=Value.ref a:=rx
 exact FU I2 ea T.cl na l ry λ s3 I3=>⟨σ,_,I3,q2⟩
end
end L2
namespace L2
open PySem PySem.Spec PyProof.Rows
theorem Cm:gZ "NoneType" "str" = some false:=rfl
theorem Cn:gZ "list" "str" = some false:=rfl
theorem zl:gZ "tuple" "str" = some false:=rfl
theorem Pn:oG 10 60=True:=eq_true ⟨by decide,by decide,by decide⟩
theorem Po:oG 10 59=True:=eq_true ⟨by decide,by decide,by decide⟩
theorem Pp:oG 10 20=True:=eq_true ⟨by decide,by decide,by decide⟩
section
variable {X:Cx} {K:PySem.W.Frag}
theorem Mi (h:X.K=K):Uy X (Sk K):=by subst h;exact Ic
theorem wA (h:X.K=K):W0 X (O9 K):=by subst h;exact Pa
theorem zm (h:X.K=K):lN X (.builtin "len") (λ xs H Q => ∃ p ys,xs = [.ref p]/\(fj K H p ys\/Fw K H p ys)/\Q (.int ys.length) H):=by subst h;exact j8
theorem aY (h:X.K=K):lN X (.type "list") (λ xs H Q => ∃ p ys,xs = [.ref p]/\(fj K H p ys\/Fw K H p ys) ∧ ∀ l,H l=none->Q (.ref l) (upd H l (.lst ys))):=by subst h;exact B7
end
end L2
namespace L2
open PySem PySem.Spec PyProof.Rows
def tX (J:It) (tt:TT) (te:TE) (σ : St) (Q:VK) (H1:Hp):Prop := ∀ p,H1 p=none->∃ W:Nat->Nat->List V->Hp->Prop,(∃ m,W 0 m [] (upd H1 p (.lst []))) ∧ ∀ i m acc H2,W i m acc H2 →
 H2 p=some (.lst acc)/\((J.stop i H2/\Q (.ref p) H2)\/(J.go i H2 ∧ ∃ N:List V->Hp->Prop,(∀ acc' H',N acc' H'->∃ m',m' < m/\W (i+1) m' acc' H') ∧ ∀ x H3,J.OX i H2 x H3->tt (some x :: σ) H3 λ b H4 =>
  if b=true then te (some x :: σ) H4 λ v H5=>H5 p=some (.lst acc)/\acc.length < sizeLine/\N (acc++[v]) (upd H5 p (.lst (acc++[v]))) else N acc H4))
theorem qb {K:PySem.W.Frag} {tl:TE} {tt:TT} {te:TE} {σ : St} {H:Hp} {Q:VK}
  (h : ∀ L,Is L (λ a H1=>tX (Lf K a) tt te σ Q H1)->tl σ H λ x H1 => ∃ a,x = .ref a/\(∃ xs,fj K H1 a xs)/\L a H1):Ii (LD K tl) tt te σ H Q:=h _ Is.rfl
theorem Ge {ta:TA} {tt:TT} {te:TE} {σ : St} {H:Hp} {Q:VK}
  (h : ∀ L,Is L (λ n H1=>tX (Jd 0 n) tt te σ Q H1)->ta σ H λ vs H1 => ∃ j:Int,vs = [.int j] ∧ -(2 ^ 62)<=j/\j < 2 ^ 62/\L j.toNat H1):Ii (LG ta) tt te σ H Q:=h _ Is.rfl
theorem Er {K:PySem.W.Frag} {a:Addr} {tt:TT} {te:TE} {σ : St} {Q:VK} {H1:Hp} (xs:List V) (Pv:Addr->Nat->List V->Hp->Prop) (h0 : ∀ p,H1 p=none->Pv p 0 [] (upd H1 p (.lst [])))
  (hl : ∀ p i acc H,H1 p=none->Pv p i acc H->H p=some (.lst acc)/\fj K H a xs)
  (hs : ∀ p i x acc H,H1 p=none->xs[i]? = some x->Pv p i acc H->tt (some x :: σ) H λ b H4=>if b=true then te (some x :: σ) H4 λ v H5=>H5 p=some (.lst acc)/\acc.length < sizeLine/\Pv p (i+1) (acc++[v]) (upd H5 p (.lst (acc++[v]))) else Pv p (i+1) acc H4)
  (hd : ∀ p acc H,H1 p=none->Pv p xs.length acc H->Q (.ref p) H):tX (Lf K a) tt te σ Q H1:=by
 intro p hp
 refine ⟨λ i m acc H=>Pv p i acc H/\i<=xs.length/\m=xs.length - i,⟨_,h0 p hp,Nat.zero_le _,rfl⟩,?_⟩
 rintro i m acc H2 ⟨hP,hi,rfl⟩
 obtain ⟨ha,hq⟩:=hl p i acc H2 hp hP
 refine ⟨ha,?_⟩
 by_cases e:i=xs.length
 ·subst e
  exact .inl ⟨⟨xs,hq,Nat.le_refl _⟩,hd p acc H2 hp hP⟩
 ·have hlt:i < xs.length:=by omega
  refine .inr ⟨⟨xs,xs[i],hq,by simp [hlt]⟩,λ acc' H'=>Pv p (i+1) acc' H',λ acc' H' h'=>⟨_,?_,h',hlt,rfl⟩,?_⟩
  ·omega
  ·rintro x H3 ⟨rfl,hx⟩
   exact hs p i x acc H3 hp (hx xs hq) hP
theorem Bx {lo:Int} {n:Nat} {tt:TT} {te:TE} {σ : St} {Q:VK} {H1:Hp} (Pv:Addr->Nat->List V->Hp->Prop) (h0 : ∀ p,H1 p=none->Pv p 0 [] (upd H1 p (.lst [])))
  (hl : ∀ p i acc H,H1 p=none->Pv p i acc H->H p=some (.lst acc))
  (hs : ∀ p i acc H,H1 p=none->i < n->Pv p i acc H->tt (some (.int (lo+i)) :: σ) H λ b H4=>if b=true then te (some (.int (lo+i)) :: σ) H4 λ v H5=>H5 p=some (.lst acc)/\acc.length < sizeLine/\Pv p (i+1) (acc++[v]) (upd H5 p (.lst (acc++[v]))) else Pv p (i+1) acc H4)
  (hd : ∀ p acc H,H1 p=none->Pv p n acc H->Q (.ref p) H):tX (Jd lo n) tt te σ Q H1:=by
 intro p hp
 refine ⟨λ i m acc H=>Pv p i acc H/\i<=n/\m=n - i,⟨_,h0 p hp,Nat.zero_le _,rfl⟩,?_⟩
 rintro i m acc H2 ⟨hP,hi,rfl⟩
 refine ⟨hl p i acc H2 hp hP,?_⟩
 by_cases e:i=n
 ·subst e
  exact .inl ⟨Nat.le_refl _,hd p acc H2 hp hP⟩
 ·have hlt:i < n:=by omega
  refine .inr ⟨hlt,λ acc' H'=>Pv p (i+1) acc' H',λ acc' H' h'=>⟨_,?_,h',hlt,rfl⟩,?_⟩
  ·omega
  ·rintro x H3 ⟨rfl,rfl⟩
   exact hs p i acc H3 hp hlt hP
theorem Rj {α : Type} {x0 x1 x2 x3 x4 x5 : α} {xs:List α} : iT (x0::x1::x2::x3::x4::x5::xs) 5=some x5:=gY (j:=5) rfl
theorem Vt {α : Type} {x0 x1 x2 x3 x4 x5 x6 x7 : α} {xs:List α} : iT (x0::x1::x2::x3::x4::x5::x6::x7::xs) 7=some x7:=gY (j:=7) rfl
theorem SH (xs:List V) {j:Int} (h:0<=j):lP xs none (some j)=xs.take j.toNat:=by
 obtain ⟨j,rfl⟩:=Int.eq_ofNat_of_zero_le h
 have e:=HT.HZ xs.length xs.length j
 unfold lP
 rw [HT.Ea,e,List.drop_zero,Nat.sub_zero,Int.toNat_natCast]
 by_cases hj:j<=xs.length
 ·rw [Nat.min_eq_left hj]
 ·rw [Nat.min_eq_right (by omega),List.take_of_length_le (Nat.le_refl _),List.take_of_length_le (by omega)]
theorem Mj (xs:List V) {i:Int} (h:0<=i):lP xs (some i) none=xs.drop i.toNat:=by
 obtain ⟨i,rfl⟩:=Int.eq_ofNat_of_zero_le h
 have e:=HT.HZ xs.length 0 i
 unfold lP
 rw [HT.Ea,e,Int.toNat_natCast]
 by_cases hi:i<=xs.length
 ·rw [Nat.min_eq_left hi,List.take_of_length_le (by simp)]
 ·rw [Nat.min_eq_right (by omega),List.drop_of_length_le (Nat.le_refl _),List.drop_of_length_le (by omega)];simp
structure New (H:Hp) (p:Addr) (H':Hp):Prop where
 free:H p=none
 same:k8 H H'
theorem New.upd {H:Hp} {p:Addr} {o:HO} (h:H p=none):New H p (L2.upd H p o):=⟨h,wc h⟩
end L2
namespace L2
open PySem PySem.Spec PyProof.Rows
theorem Is.use {α β : Type} {R S : α->β->Prop} (h:Is R S) {x : α} {y : β} (k:S x y):R x y:=by cases h;exact k
def Hid {α β : Type} (S : α->β->Prop) (g:(α->β->Prop)->Prop):Prop := ∀ R,(∀ x y,S x y->R x y)->g R
theorem Yy {α β : Type} {S : α->β->Prop} {g:(α->β->Prop)->Prop} (h : ∀ R,(∀ x y,S x y->R x y)->g R):Hid S g:=h
section
variable {σ : St} {H:Hp} {Q:VK} {D:Ends} {ta tb tc te:TE} {t u:TA} {r:R2} {b:TS} {QB:Bool->Hp->Prop} {c d:TT} {QA:List V->Hp->Prop}
theorem Yz {g:TG} (h : ∀ R,Is R (λ x H1=>g x σ H1 D.nx)->te σ H R):LC te g D σ H:=h _ Is.rfl
theorem Vu (h : ∀ R,Is R (λ _ H1=>D.nx σ H1)->te σ H R):Ly te D σ H:=h _ Is.rfl
theorem YA (h : ∀ R,Is R (λ x H1=>D.rt x H1)->te σ H R):OV te D σ H:=h _ Is.rfl
theorem ifH {a b:TS} (h : ∀ R,Is R (λ k H1=>if k=true then a D σ H1 else b D σ H1)->c σ H R):Lz c a b D σ H:=h _ Is.rfl
theorem Vv (h : ∀ R,Is R (λ x H1 => ∃ k,x = .bl k/\QB k H1)->te σ H R):Bg te σ H QB:=h _ Is.rfl
theorem tBH (h : ∀ R,Is R (λ x H1 => ∃ k,x = .bl k/\QB k H1)->te σ H R):tB te σ H QB:=h _ Is.rfl
theorem YB (h : ∀ R,Is R (λ k H1=>QB (!k) H1)->c σ H R):RY c σ H QB:=h _ Is.rfl
theorem YC (h : ∀ R,Is R (λ k H1=>if k=true then d σ H1 QB else QB false H1)->c σ H R):RX c d σ H QB:=h _ Is.rfl
theorem orH (h : ∀ R,Is R (λ k H1=>if k=true then QB true H1 else d σ H1 QB)->c σ H R):X8 c d σ H QB:=h _ Is.rfl
theorem Vw {α β : Type} {R S : α->β->Prop} (h : ∀ x y,S x y->R x y) {x : α} {y : β} (k:S x y):R x y:=h x y k
theorem Vx (h : ∀ R,Is R (λ x H1 => ∃ c,x = .bl c/\if c=true then tb σ H1 Q else Q (.bl false) H1)->ta σ H R):Lq ta tb σ H Q:=h _ Is.rfl
theorem YD (h : ∀ R,Is R (λ x H1 => ∃ c,x = .bl c/\if c=true then Q (.bl true) H1 else tb σ H1 Q)->ta σ H R):RZ ta tb σ H Q:=h _ Is.rfl
theorem Vy (h : ∀ R,Is R (λ x H1 => ∃ c,x = .bl c/\Q (.bl (!c)) H1)->ta σ H R):Ls ta σ H Q:=h _ Is.rfl
theorem opH (h : ∀ R,(∀ x H1,Hid (λ y H2=>r x y H2 Q) (λ R2=>tb σ H1 R2)->R x H1)->ta σ H R):R8 r ta tb σ H Q:=h (λ x H1=>tb σ H1 λ y H2=>r x y H2 Q) λ _ _ z=>z _ λ _ _ z2=>z2
theorem unH {q:V->Hp->VK->Prop} (h : ∀ R,Is R (λ x H1=>q x H1 Q)->ta σ H R):Yd q ta σ H Q:=h _ Is.rfl
theorem slH {q:V->Option Int->Option Int->Hp->VK->Prop} {tl th:TO} (h : ∀ R,Is R (λ x H1=>tl σ H1 λ l H2=>th σ H2 λ u H3=>q x l u H3 Q)->te σ H R):Yh q te tl th σ H Q:=h _ Is.rfl
theorem Vz {QO:Option Int->Hp->Prop} (h : ∀ R,Is R (λ x H1 => ∃ i,x = .int i/\QO (some i) H1)->te σ H R):L1 te σ H QO:=h _ Is.rfl
theorem VA (h : ∀ R,Is R (λ x H1=>t σ H1 λ xs H2=>QA (x::xs) H2)->te σ H R):HX te t σ H QA:=h _ Is.rfl
theorem YE (h : ∀ R,Is R (λ xs H1=>xs.length<=sizeLine ∧ ∀ p,H1 p=none->Q (.ref p) (upd H1 p (.tup xs)))->t σ H R):Sb t σ H Q:=h _ Is.rfl
theorem YF (h : ∀ R,Is R (λ xs H1=>xs.length<=sizeLine ∧ ∀ p,H1 p=none->Q (.ref p) (upd H1 p (.lst xs)))->t σ H R):Sd t σ H Q:=h _ Is.rfl
theorem VB {sp:Sp} {jv:List V} {E:XK} (h : ∀ R,Is R (λ vs H1=>sp (vs++jv) H1 Q E)->t σ H R):HY sp jv E t σ H Q:=h _ Is.rfl
theorem cbH {q:List V->Hp->VK->Prop} (h : ∀ R,Is R (λ vs H1=>q vs H1 Q)->t σ H R):U8 q t σ H Q:=h _ Is.rfl
theorem VC {C:Addr} {m:Str} {sp:Sp} {jv:List V} {E:XK} (h : ∀ R,Is R (λ x H1 => ∃ a dx fs,x = .ref a/\H1 a=some (.ins C dx fs)/\fs.lookup m=none/\t σ H1 λ vs H2=>sp (x::(vs++jv)) H2 Q E)->ta σ H R):Bj C m sp jv E ta t σ H Q:=h _ Is.rfl
theorem VD {C:Addr} {sp:Sp} {jv:List V} {E:XK} (h : ∀ R,Is R (λ vs H1 => ∀ x dx,H1 x=none->H1 dx=none->dx≠x->sp (.ref x::(vs++jv)) (upd (upd H1 dx (.own x)) x (.ins C dx [])) (λ v H2=>v = .aM/\Q (.ref x) H2) E)->t σ H R):Bk C sp jv E t σ H Q:=h _ Is.rfl
theorem YG {C:Addr} {f:Str} (h : ∀ R,Is R (λ x H1 => ∃ a dx fs v,x = .ref a/\H1 a=some (.ins C dx fs)/\fs.lookup f=some v/\Q v H1)->ta σ H R):Mg C ta f σ H Q:=h _ Is.rfl
theorem VE {C:Addr} {f:Str} (h : ∀ R,Is R (λ y H1=>ta σ H1 λ x H2 => ∃ a dx fs,x = .ref a/\H2 a=some (.ins C dx fs)/\fs.length < 1000/\D.nx σ (upd H2 a (.ins C dx (dg f y fs))))->te σ H R):Mh C ta te f D σ H:=h _ Is.rfl
theorem bmH {K:PySem.W.Frag} {T:String} {q:V->List V->Hp->VK->Prop} (h : ∀ R,Is R (λ x H1=>Vd K T x H1/\t σ H1 λ xs H2=>q x xs H2 Q)->ta σ H R):Yj K T q ta t σ H Q:=h _ Is.rfl
theorem VF (h : ∀ R,(∀ v H1,Hid (λ x H2=>Hid (λ y H3 => ∃ a H4,x = .ref a/\oK H3 a y v H4/\D.nx σ H4) (λ R3=>tb σ H2 R3)) (λ R2=>ta σ H1 R2)->R v H1)->te σ H R):LU ta tb te D σ H:=h (λ v H1=>ta σ H1 λ x H2=>tb σ H2 λ y H3 => ∃ a H4,x = .ref a/\oK H3 a y v H4/\D.nx σ H4) λ v H1 z=>z _ λ x H2 z2=>z2 _ λ _ _ z3=>z3
theorem VG {to ti:TE} {tt:LA} {v:V} {QS:St->Hp->Prop} (h : ∀ R,(∀ o H1,Hid (λ i H2=>tt o i v H2 λ H3=>QS σ H3) (λ R2=>ti σ H1 R2)->R o H1)->to σ H R):R4 to ti tt v σ H QS:=h (λ o H1=>ti σ H1 λ i H2=>tt o i v H2 λ H3=>QS σ H3) λ _ _ z=>z _ λ _ _ z2=>z2
theorem VH (h : ∀ R,Is R (λ x H1=>tb σ H1 λ y H2 => ∃ a v,x = .ref a/\fY H2 a y (some v)/\Q v H2)->ta σ H R):LS ta tb σ H Q:=h _ Is.rfl
theorem YH (h : ∀ R,Is R (λ y H1=>tb σ H1 λ x H2 => ∃ a o,x = .ref a/\fY H2 a y o/\Q (.bl o.isSome) H2)->ta σ H R):Sf ta tb σ H Q:=h _ Is.rfl
theorem VI (h : ∀ R,Is R (λ y H1=>tb σ H1 λ x H2 => ∃ a o,x = .ref a/\fY H2 a y o/\Q (.bl (!o.isSome)) H2)->ta σ H R):BZ ta tb σ H Q:=h _ Is.rfl
theorem VJ {i:Nat} {v:V} (e : σ[i]? = some (some v)) (h:Q v H):FJ i σ H Q:=⟨v,e,h⟩
theorem YI {v:V} (h:Q v H):tC v σ H Q:=h
theorem YJ (h:QA [] H):D0 σ H QA:=h
theorem Pq {QO:Option Int->Hp->Prop} (h:QO none H):B0 σ H QO:=h
theorem VL (h:D.nx σ H):HR D σ H:=h
theorem VM {i:Nat} {v:V} {QS:St->Hp->Prop} (h:QS (σ.set i (some v)) H):tQ i v σ H QS:=h
theorem i0H {g:Int->Int->V} {i j:Int} (h:Q (g i j) H):LI g (.int i) (.int j) H Q:=⟨i,j,rfl,rfl,h⟩
theorem iH {C:Int->Int->Prop} {g:Int->Int->V} {i j:Int} (c:C i j) (h:Q (g i j) H):rI C g (.int i) (.int j) H Q:=⟨i,j,rfl,rfl,c,h⟩
theorem uH {g:Int->V} {i:Int} (h:Q (g i) H):rU g (.int i) H Q:=⟨i,rfl,h⟩
theorem blH {b:Bool} {S:Bool->Prop} (h:S b) : ∃ k,V.bl b = .bl k/\S k:=⟨b,rfl,h⟩
theorem YK {n:Int} {S:Int->Prop} (h:S n) : ∃ k,V.int n = .int k/\S k:=⟨n,rfl,h⟩
end
def lasts:HO->Bool
 | .tup _=>true
 | .DP _ _=>true
 | _=>false
abbrev Cells:=List (Addr×HO)
structure Led (H:Hp) (L:Cells):Prop where
 at_ : ∀ p∈L,H p.1=some p.2
 nd:((L.filter λ p => !lasts p.2).map (·.1)).Nodup
theorem Led.get {H:Hp} {L:Cells} (h:Led H L) {a:Addr} {o:HO} (m:(a,o)∈L):H a=some o:=h.at_ _ m
theorem Led.nil {H:Hp} : Led H []:=⟨λ _ h=>(nomatch h),List.nodup_nil⟩
theorem Led.new {H:Hp} {L:Cells} (h:Led H L) {p:Addr} {o:HO} (hp:H p=none):Led (upd H p o) ((p,o)::L):=by
 have ne : ∀ q∈L,q.1≠p:=λ q hq e=>by have:=h.at_ q hq;rw [e,hp] at this;cases this
 refine ⟨λ q hq => ?_,?_⟩
 ·rcases List.mem_cons.mp hq with rfl | hq
  ·exact ju
  ·rw [cj (ne q hq)];exact h.at_ q hq
 ·rw [List.filter_cons]
  split
  ·rw [List.map_cons]
   refine List.nodup_cons.mpr ⟨λ m => ?_,h.nd⟩
   obtain ⟨q,hq,e⟩:=List.mem_map.mp m
   exact ne q (List.mem_filter.mp hq).1 e
  ·exact h.nd
theorem Led.perm {H:Hp} {L L':Cells} (h:Led H L) (e:L.Perm L'):Led H L':=by
 refine ⟨λ p hp=>h.at_ p (e.mem_iff.mpr hp),?_⟩
 exact ((e.filter _).map _).nodup_iff.mp h.nd
theorem Led.put {H:Hp} {L:Cells} {a:Addr} {o o':HO} (h:Led H ((a,o)::L)) (hl:lasts o=false) (hl':lasts o' = false):Led (upd H a o') ((a,o')::L):=by
 have ha:=h.at_ _ List.mem_cons_self
 have nd:=h.nd
 rw [List.filter_cons,if_pos (by simp [hl]),List.map_cons] at nd
 obtain ⟨n1,n2⟩:=List.nodup_cons.mp nd
 have ne : ∀ q∈L,q.1≠a:=λ q hq e=>by
  have hq':=h.at_ q (List.mem_cons_of_mem _ hq)
  rw [e,ha] at hq'
  have e2:o=q.2:=Option.some.inj hq'
  refine n1 (List.mem_map.mpr ⟨q,List.mem_filter.mpr ⟨hq,by rw [<-e2,hl];rfl⟩,e⟩)
 refine ⟨λ q hq => ?_,?_⟩
 ·rcases List.mem_cons.mp hq with rfl | hq
  ·exact ju
  ·rw [cj (ne q hq)];exact h.at_ q (List.mem_cons_of_mem _ hq)
 ·rw [List.filter_cons,if_pos (by simp [hl']),List.map_cons]
  exact List.nodup_cons.mpr ⟨n1,n2⟩
theorem Led.sub {H:Hp} {L L':Cells} (h:Led H L) (s:L'.Sublist L):Led H L':=⟨λ p hp=>h.at_ p (s.subset hp),List.Nodup.sublist ((s.filter _).map _) h.nd⟩
theorem Led.tail {H:Hp} {L:Cells} {p:Addr×HO} (h:Led H (p::L)):Led H L:=h.sub (List.sublist_cons_self p L)
theorem Led.again {H:Hp} {L:Cells} {a:Addr} {o:HO} (h:Led H L) (ha:H a=some o) (hl:lasts o=true):Led H ((a,o)::L):=by
 refine ⟨λ q hq => ?_,?_⟩
 ·rcases List.mem_cons.mp hq with rfl | hq
  ·exact ha
  ·exact h.at_ q hq
 ·rw [List.filter_cons,if_neg (by simp [hl])];exact h.nd
theorem Led.swap {H:Hp} {L:Cells} {p q:Addr×HO} (h:Led H (p::q::L)):Led H (q::p::L):=h.perm (List.Perm.swap q p L)
theorem Led.pull {H:Hp} {L M:Cells} {p:Addr×HO} (h:Led H (L++p::M)):Led H (p::(L++M)):=h.perm List.perm_middle
theorem Led.push {H:Hp} {L M:Cells} {p:Addr×HO} (h:Led H (p::(L++M))):Led H (L++p::M):=h.perm List.perm_middle.symm
theorem Led.alloc {H:Hp} {L:Cells} {o:HO} {Q:VK} (h:Led H L) (k : ∀ p H',H p=none->Led H' ((p,o)::L)->k8 H H'->Q (.ref p) H') : ∀ p,H p=none->Q (.ref p) (upd H p o):=λ p hp=>k p _ hp (h.new hp) (wc hp)
theorem Led.same {H H':Hp} {L:Cells} (h:Led H L) (s:k8 H H'):Led H' L:=⟨λ p hp=>s _ _ (h.at_ p hp),h.nd⟩
theorem cQ.imp {P:Program} {w:World} {K:PySem.W.Frag} {mg:Str->Option Value} {base:Heap} {k:Nat} {x:Str} {ps:List Str} {sp U5:Sp} (F:cQ P w K mg base k x ps sp) (h : ∀ vs H Q E,U5 vs H Q E->sp vs H Q E):cQ P w K mg base k x ps U5:=by
 obtain ⟨f,fd,h1,h2,h3,h4⟩:=F.ex
 exact ⟨f,fd,h1,h2,h3,h4.imp h⟩
def Rk (K:PySem.W.Frag) (L:Cells) (a:Addr) (xs:List V):Prop:=(∃ o,(a,HO.DP o (.lst xs))∈L) ∨ ∀ H,fj K H a xs
theorem Rk.seq {K:PySem.W.Frag} {L:Cells} {a:Addr} {xs:List V} {H:Hp} (s:Rk K L a xs) (h:Led H L):fj K H a xs:=by
 rcases s with ⟨o,m⟩ | s
 ·exact .inl (.inr ⟨o,h.get m⟩)
 ·exact s H
theorem Rk.mono {K:PySem.W.Frag} {L L':Cells} {a:Addr} {xs:List V} (s:Rk K L a xs) (h : ∀ p∈L,p∈L'):Rk K L' a xs:=by
 rcases s with ⟨o,m⟩ | s
 ·exact .inl ⟨o,h _ m⟩
 ·exact .inr s
theorem JA {K:PySem.W.Frag} {H:Hp} {a:Addr} {xs:List V} (hS:fj K H a xs) (hO:Pd H) : ∃ L,Led H L/\Rk K L a xs:=by
 rcases hS with (h | ⟨o,h⟩) | h
 ·rcases hO a with z | ⟨o,ys,z⟩
  ·rw [h] at z;cases z
  ·rw [h] at z;cases z
 ·exact ⟨[(a,.DP o (.lst xs))],Led.nil.again h rfl,.inl ⟨o,List.mem_cons_self⟩⟩
 ·exact ⟨[],Led.nil,.inr λ H' => .inr h⟩
theorem Es {H:Hp} {Q:VK} {l:Addr} {k:Int} {xs:List V} (h1:H l=some (.lst xs)) (hk : -(2 ^ 63)<=k/\k < 2 ^ 63) (hl:xs.length * k.toNat<=sizeLine) (h : ∀ p,H p=none->Q (.ref p) (upd H p (.lst (List.replicate k.toNat xs).flatten))):Vg (.ref l) (.int k) H Q:=⟨l,k,xs,rfl,rfl,h1,hk.1,hk.2,hl,h⟩
theorem Led.gB {H:Hp} {L:Cells} {a:Addr} {o o':HO} (i:Nat) (h:Led H L) (e:L[i]? = some (a,o)) (hl:lasts o=false) (hl':lasts o' = false):Led (upd H a o') (L.set i (a,o')):=by
 have hi:i < L.length:=(List.getElem?_eq_some_iff.mp e).1
 have e1:L=L.take i++(a,o)::L.drop (i+1):=by
  have:=(List.getElem?_eq_some_iff.mp e).2
  rw [<-this,List.getElem_cons_drop,List.take_append_drop]
 have e2:L.set i (a,o')=L.take i++(a,o')::L.drop (i+1):=by
  rw [List.set_eq_take_append_cons_drop,if_pos hi]
 rw [e1] at h
 rw [e2]
 exact ((h.pull).put hl hl').push
section
variable {H:Hp} {Q:VK} {x y v:V} {a:Addr} {xs:List V} {i:Int}
theorem YL {m n:Int} (h:Q (.bl (decide (m=n))) H):Sa (.int m) (.int n) H Q:=⟨rfl,by rw [show decide (V.int m=V.int n)=decide (m=n) by simp];exact h⟩
theorem YM {m n:Int} (h:Q (.bl (!decide (m=n))) H):Ye (.int m) (.int n) H Q:=⟨rfl,by rw [show decide (V.int m=V.int n)=decide (m=n) by simp];exact h⟩
theorem YN {m n:Str} (h:Q (.bl (decide (m=n))) H):Sa (.str m) (.str n) H Q:=⟨rfl,by rw [show decide (V.str m=V.str n)=decide (m=n) by simp];exact h⟩
theorem YO {m n:Bool} (h:Q (.bl (decide (m=n))) H):Sa (.bl m) (.bl n) H Q:=⟨rfl,by rw [show decide (V.bl m=V.bl n)=decide (m=n) by simp];exact h⟩
theorem YQ {n t:String} {b:Bool} (h1:Lg H x=some t) (h2:gZ t n=some b) (h:Q (.bl b) H):Mb [x,.ty n] H Q:=⟨x,n,t,b,rfl,h1,h2,h⟩
theorem SJ (h1:H a=some (.lst xs)) (h2:iT xs i=some v) (h:Q v H):F8 (.ref a) (.int i) H Q:=⟨a,i,rfl,rfl,.inl ⟨xs,h1,v,h2,h⟩⟩
theorem VN (h1:H a=some (.tup xs)) (h2:iT xs i=some v) (h:Q v H):F8 (.ref a) (.int i) H Q:=⟨a,i,rfl,rfl,.inr ⟨xs,h1,v,h2,h⟩⟩
theorem VO (h1:H a=some (.lst xs)) (h:Q (.int xs.length) H):we [.ref a] H Q:=⟨a,rfl,.inl ⟨xs,h1,h⟩⟩
theorem VP (h1:H a=some (.tup xs)) (h:Q (.int xs.length) H):we [.ref a] H Q:=⟨a,rfl,.inr (.inl ⟨xs,h1,h⟩)⟩
theorem VQ {kvs:List (Key×V)} (h1:H a=some (.dK kvs)) (h:Q (.int kvs.length) H):we [.ref a] H Q:=⟨a,rfl,.inr (.inr ⟨kvs,h1,h⟩)⟩
theorem tyL (h:H a=some (.lst xs)):Lg H (.ref a)=some "list" := by unfold Lg;simp only [h]
theorem tyT (h:H a=some (.tup xs)):Lg H (.ref a)=some "tuple" := by unfold Lg;simp only [h]
theorem YR {b:Addr} {zs:List V} (h1:H a=some (.lst xs)) (h2:H b=some (.lst zs)) (hl:xs.length+zs.length<=sizeLine) (h : ∀ p,H p=none->Q (.ref p) (upd H p (.lst (xs++zs)))):Su (.ref a) (.ref b) H Q:=⟨a,b,xs,zs,rfl,rfl,h1,h2,hl,h⟩
theorem VR {K:PySem.W.Frag} {lo hi:Option Int} (h1:fj K H a xs) (h : ∀ p,H p=none->Q (.ref p) (upd H p (.lst (lP xs lo hi)))):O9 K (.ref a) lo hi H Q:=⟨a,xs,rfl,h1,h⟩
theorem cg {QH:Hp->Prop} {p:Addr} {k:Int} {j:Nat} (h1:H p=some (.lst xs)) (h2:OJ xs.length k=some j) (h:QH (upd H p (.lst (xs.set j v)))):Q6 (.ref p) (.int k) v H QH:=⟨p,xs,k,j,rfl,rfl,h1,h2,h⟩
theorem rtH {n b' c':St->Hp->Prop} {q:VK} (h:q x H):(Ends.mk n q b' c').rt x H:=h
theorem nxH {n b' c':St->Hp->Prop} {q:VK} {σ : St} (h:n σ H):(Ends.mk n q b' c').nx σ H:=h
theorem Rl {A B:Prop} (h:B):if (!true)=true then A else B:=by simpa using h
theorem Rm {A B:Prop} (h:A):if (!false)=true then A else B:=by simpa using h
theorem Rn {c:Prop} [Decidable c] {A B:Prop} (h1 : ¬ c->A) (h2:c->B):if (!decide c)=true then A else B:=by
 by_cases h:c
 ·rw [decide_eq_true h];exact Rl (h2 h)
 ·rw [decide_eq_false h];exact Rm (h1 h)
theorem Pr {m:Int} (e:(10:Int) ^ i.toNat=m) (c:oG 10 i) (h:Q (.int m) H):rI oG (λ i j => .int (i ^ j.toNat)) (.int 10) (.int i) H Q:=⟨10,i,rfl,rfl,c,by dsimp only;rw [e];exact h⟩
theorem SK (h:Q (.int 1000000000000000000000000000000000000000000000000000000000000) H):rI oG (λ i j => .int (i ^ j.toNat)) (.int 10) (.int 60) H Q:=Pr (by decide) (of_eq_true Pn) h
theorem SM (h:Q (.int 100000000000000000000000000000000000000000000000000000000000) H):rI oG (λ i j => .int (i ^ j.toNat)) (.int 10) (.int 59) H Q:=Pr (by decide) (of_eq_true Po) h
theorem SN (h:Q (.int 100000000000000000000) H):rI oG (λ i j => .int (i ^ j.toNat)) (.int 10) (.int 20) H Q:=Pr (by decide) (of_eq_true Pp) h
theorem tyI {n:Int} : Lg H (.int n)=some "int" := rfl
theorem tyB {n:Bool} : Lg H (.bl n)=some "bool" := rfl
theorem tyS {n:Str} : Lg H (.str n)=some "str" := rfl
theorem tyO:Lg H .aM=some "NoneType" := rfl
theorem zo {K:PySem.W.Frag} (h:H a=some (.lst xs)):Vd K "list" (.ref a) H := .inl ⟨rfl,xs,fj.of h⟩
end
def SO (p:Prop):Prop:=p/\True
theorem aG {t u:TS} {D:Ends} {σ : St} {H:Hp} (h : ∀ M,SO (Is M (u D))->t { D with nx:=M } σ H):Lv t u D σ H:=h _ ⟨Is.rfl,trivial⟩
theorem SO.use {M N:St->Hp->Prop} (h:SO (Is M N)) {σ : St} {H:Hp} (k:N σ H):M σ H:=by cases h.1;exact k
theorem VS {K:PySem.W.Frag} {H:Hp} {Q:VK} {a:Addr} {ys:List V} (h1:fj K H a ys) (h : ∀ l,H l=none->Q (.ref l) (upd H l (.lst ys))) : ∃ p ys,[V.ref a] = [.ref p]/\(fj K H p ys\/Fw K H p ys) ∧ ∀ l,H l=none->Q (.ref l) (upd H l (.lst ys)):=⟨a,ys,rfl,.inl h1,h⟩
theorem bD {n:Nat} {i:Int} (h0:0<=i) (h1:i < n):OJ n i=some i.toNat:=by unfold OJ;rw [if_pos h0,if_pos h1]
theorem dz {xs:List V} {i:Int} {v:V} (h0:0<=i) (h:xs[i.toNat]? = some v):iT xs i=some v:=by
 have hj:i.toNat < xs.length:=(List.getElem?_eq_some_iff.mp h).1
 unfold iT
 rw [bD h0 (by omega)]
 exact h
theorem wB {lo:Int} {n:Nat} {te:TE} {σ : St} {Q:VK} {H1:Hp} {L:Cells} (F:Nat->V->Prop) (hL:Led H1 L) (hn:n<=sizeLine)
  (hs : ∀ (i:Nat) (H:Hp) (R:VK) (q:Addr×HO),i < n->Led H (q::L)->(∀ v H',F i v->Led H' (q::L)->R v H')->te (some (.int (lo+i)) :: σ) H R)
  (hd : ∀ p acc H',acc.length=n->(∀ i v,acc[i]? = some v->F i v)->Led H' ((p,.lst acc)::L)->Q (.ref p) H'):tX (Jd lo n) Gb te σ Q H1:=by
 refine Bx (λ p i acc H=>i<=n/\acc.length=i/\(∀ j v,acc[j]? = some v->F j v)/\Led H ((p,.lst acc)::L)) (λ p hp=>⟨Nat.zero_le _,rfl,λ j v h=>by simp at h,hL.new hp⟩) (λ p i acc H hp h=>h.2.2.2.get List.mem_cons_self) ?_ ?_
 ·rintro p i acc H hp hi ⟨_,rfl,hF,hl⟩
  unfold Gb
  dsimp only
  rw [if_pos rfl]
  refine hs _ _ _ (p,.lst acc) hi hl λ v H' fv hl'=>⟨hl'.get List.mem_cons_self,by omega,hi,by simp,λ j u hj => ?_,hl'.put rfl rfl⟩
  rw [List.getElem?_append] at hj
  split at hj
  ·exact hF j u hj
  ·rename_i hge
   have:j - acc.length=0:=by
    rcases Nat.lt_or_ge (j - acc.length) 1 with h | h
    ·omega
    ·rw [List.getElem?_eq_none (by simpa using h)] at hj;cases hj
   rw [this] at hj
   have e:j=acc.length:=by omega
   subst e
   cases hj
   exact fv
 ·rintro p acc H hp ⟨_,e,hF,hl⟩
  exact hd p acc H e hF hl
end L2
namespace L2
open PySem PySem.Spec PyProof.Rows PySem.W
section
variable {X:Cx}
end
end L2
namespace L2
open PySem PySem.Spec PyProof.Rows
section
variable {X:Cx} {pins:List (Addr×Obj)} {σ : St} {H:Hp} {s:Shared} {h':Heap}
end
section
variable {X:Cx}
end
end L2
namespace L2
open PySem PySem.Spec PyProof.Rows
section
variable {H:Hp} {Q:VK} {a:Addr} {σ : St} {D:Ends}
theorem VT {C dx:Addr} {fs:List (Str×V)} {f:Str} {v:V} {S:V->Prop} (h1:H a=some (.ins C dx fs)) (h2:fs.lookup f=some v) (h:S v) : ∃ b dx fs v,V.ref a = .ref b/\H b=some (.ins C dx fs)/\fs.lookup f=some v/\S v:=⟨a,dx,fs,v,rfl,h1,h2,h⟩
theorem Ro {C dx:Addr} {fs:List (Str×V)} {m:Str} {S:Prop} (h1:H a=some (.ins C dx fs)) (h2:fs.lookup m=none) (h:S) : ∃ b dx fs,V.ref a = .ref b/\H b=some (.ins C dx fs)/\fs.lookup m=none/\S:=⟨a,dx,fs,rfl,h1,h2,h⟩
theorem VU {kvs:List (Key×V)} {n:Int} {v:V} {S:V->Prop} (h1:H a=some (.dK kvs)) (h2:bx kvs (.inl n)=some v) (h:S v) : ∃ b v,V.ref a = .ref b/\fY H b (.int n) (some v)/\S v:=⟨a,v,rfl,h2 ▸ fY.k (k := .inl n) h1,h⟩
theorem Rp {kvs:List (Key×V)} {n:Int} {v:V} (h1:H a=some (.dK kvs)) (hl:kvs.length < sizeLine) (h:D.nx σ (upd H a (.dK (putK kvs (.inl n) v)))) : ∃ b H4,V.ref a = .ref b/\oK H b (.int n) v H4/\D.nx σ H4:=⟨a,_,rfl,oK.k (k := .inl n) h1 hl,h⟩
theorem VV {C dx:Addr} {fs:List (Str×V)} {f:Str} {y:V} (h1:H a=some (.ins C dx fs)) (h2:fs.length < 1000) (h:D.nx σ (upd H a (.ins C dx (dg f y fs)))) : ∃ b dx fs,V.ref a = .ref b/\H b=some (.ins C dx fs)/\fs.length < 1000/\D.nx σ (upd H b (.ins C dx (dg f y fs))):=⟨a,dx,fs,rfl,h1,h2,h⟩
theorem VW {L:Cells} (hL:Led H L) (h : ∀ p H',H p=none->Led H' ((p,.dK [])::L)->k8 H H'->Q (.ref p) H'):F2 σ H Q:=λ p hp=>h p _ hp (hL.new hp) (wc hp)
theorem isH {x:V} (h:Q (.bl (decide (x = .aM))) H):V.aM = .aM/\Q (.bl (decide (x = .aM))) H:=⟨rfl,h⟩
theorem YS {x:V} (h:Q (.bl (!decide (x = .aM))) H):V.aM = .aM/\Q (.bl (!decide (x = .aM))) H:=⟨rfl,h⟩
theorem SQ {td ty:TE} (h : ∀ R,(∀ x H1,Hid (λ y H2 => ∃ a kvs k v,x = .ref a/\H2 a=some (.dK kvs)/\y=kV k/\bx kvs k=some v/\Q v (upd H2 a (.dK (dW kvs k)))) (λ R2=>(∃ a,x = .ref a/\Si H1 a)/\ty σ H1 R2)->R x H1)->td σ H R):F3 td ty σ H Q:=by
 unfold F3
 refine h (λ x H1 => ∃ a,x = .ref a/\Si H1 a/\ty σ H1 λ y H2 => ∃ kvs k v,H2 a=some (.dK kvs)/\y=kV k/\bx kvs k=some v/\Q v (upd H2 a (.dK (dW kvs k)))) λ x H1 z => ?_
 obtain ⟨a,e,hd⟩:=(z (λ _ _=>True) λ _ _ _=>True.intro).1
 subst e
 refine ⟨a,rfl,hd,(z _ λ y H2 q => ?_).2⟩
 obtain ⟨b,kvs,k,v,e,q⟩:=q
 cases e
 exact ⟨kvs,k,v,q⟩
theorem SR {kvs:List (Key×V)} (h:H a=some (.dK kvs)) : ∃ b,V.ref a = .ref b/\Si H b:=⟨a,rfl,.inl ⟨kvs,.inl h⟩⟩
theorem VX {kvs:List (Key×V)} {n:Int} {v:V} (h1:H a=some (.dK kvs)) (h2:bx kvs (.inl n)=some v) (h:Q v (upd H a (.dK (dW kvs (.inl n))))) : ∃ b kvs k v,V.ref a = .ref b/\H b=some (.dK kvs)/\V.int n=kV k/\bx kvs k=some v/\Q v (upd H b (.dK (dW kvs k))):=⟨a,kvs,.inl n,v,rfl,h1,rfl,h2,h⟩
end
end L2
namespace L2
open PySem PySem.Spec PyProof.Rows
theorem nj {K:PySem.W.Frag} {a:Addr} {te:TE} {σ : St} {Q:VK} {H1:Hp} {L:Cells} (xs:List V) (G:Nat->V->Cells->Prop) (hL:Led H1 L) (ha:(a,HO.lst xs)∈L) (hn:xs.length<=sizeLine)
  (hs : ∀ (i:Nat) (x:V) (H:Hp) (R:VK) (M:Cells),xs[i]? = some x->Led H (M++L)->(∀ v H' C,G i v C->Led H' (C++(M++L))->R v H')->te (some x :: σ) H R)
  (hd : ∀ (p:Addr) (vs:List V) (Cs:List Cells) (H':Hp),vs.length=xs.length->Cs.length=xs.length->(∀ (i:Nat) v C,vs[i]? = some v->Cs[i]? = some C->G i v C)->Led H' ((p,.lst vs)::(Cs.flatten++L))->Q (.ref p) H'):tX (Lf K a) Gb te σ Q H1:=by
 refine Er xs (λ p i acc H=>i<=xs.length/\acc.length=i ∧ ∃ Cs:List Cells,Cs.length=i/\(∀ (j:Nat) v C,acc[j]? = some v->Cs[j]? = some C->G j v C)/\Led H ((p,.lst acc)::(Cs.flatten++L))) (λ p hp=>⟨Nat.zero_le _,rfl,[],rfl,λ j v C h=>by simp at h,hL.new hp⟩) (λ p i acc H hp h => ?_) ?_ ?_
 ·obtain ⟨_,_,Cs,_,_,hl⟩:=h
  exact ⟨hl.get List.mem_cons_self,fj.of (hl.get (List.mem_cons_of_mem _ (List.mem_append_right _ ha)))⟩
 ·rintro p i x acc H hp hx ⟨_,rfl,Cs,hc,hG,hl⟩
  have hi:acc.length < xs.length:=(List.getElem?_eq_some_iff.mp hx).1
  unfold Gb
  dsimp only
  rw [if_pos rfl]
  refine hs _ x H _ ((p,.lst acc)::Cs.flatten) hx hl λ v H' C g hl' => ?_
  have h1:Led H' ((p,.lst acc)::(C++(Cs.flatten++L))):=Led.pull hl'
  refine ⟨h1.get List.mem_cons_self,by omega,hi,by simp,Cs++[C],by simp [hc],λ j u D hu hD => ?_,?_⟩
  ·rw [List.getElem?_append] at hu hD
   rw [hc] at hD
   by_cases hj:j < acc.length
   ·rw [if_pos hj] at hu hD
    exact hG j u D hu hD
   ·rw [if_neg hj] at hu hD
    have h0:j - acc.length=0:=by
     rcases Nat.lt_or_ge (j - acc.length) 1 with h | h
     ·omega
     ·rw [List.getElem?_eq_none (by simpa using h)] at hu;cases hu
    rw [h0] at hu hD
    have e:j=acc.length:=by omega
    subst e
    cases hu
    cases hD
    exact g
  ·refine (h1.put (o' := .lst (acc++[v])) rfl rfl).perm (List.Perm.cons _ ?_)
   rw [List.flatten_append,List.flatten_cons,List.flatten_nil,List.append_nil,List.append_assoc,<-List.append_assoc,<-List.append_assoc]
   exact List.Perm.append_right _ List.perm_append_comm
 ·rintro p acc H hp ⟨_,e,Cs,hc,hG,hl⟩
  exact hd p acc Cs H e hc hG hl
end L2
namespace L2
open PySem PySem.Spec PyProof.Rows
section
variable {H:Hp} {Q:VK} {a:Addr} {σ : St} {D:Ends}
end
section
variable {α : Type} {A B B' X Y:List α} {a b : α}
theorem pcC (h:(a::B').Perm B):(a::b::B').Perm (b::B):=(List.Perm.swap _ _ _).trans (h.cons b)
theorem pcA (h:(a::B').Perm B):(a::(Y++B')).Perm (Y++B):=(List.perm_middle.symm).trans (List.Perm.append_left Y h)
theorem paC (h:(X++B').Perm B):(X++(b::B')).Perm (b::B):=List.perm_middle.trans (h.cons b)
theorem paA (h:(X++B').Perm B):(X++(Y++B')).Perm (Y++B):=by
 refine List.Perm.trans ?_ (List.Perm.append_left Y h)
 rw [<-List.append_assoc,<-List.append_assoc]
 exact List.Perm.append_right _ List.perm_append_comm
def zp (B A:List α):Prop := ∃ A',B.Perm A'/\A'.Sublist A
theorem spR:zp A A:=⟨A,.refl _,.refl _⟩
theorem spC (h1:(a::A).Perm B) (h2:zp Y A):zp (a::Y) B:=by
 obtain ⟨A',p,s⟩:=h2
 obtain ⟨C,p2,s2⟩:=List.exists_perm_sublist (s.cons₂ a) h1
 exact ⟨C,(p.cons a).trans p2.symm,s2⟩
theorem spA (h1:(X++A).Perm B) (h2:zp Y A):zp (X++Y) B:=by
 obtain ⟨A',p,s⟩:=h2
 obtain ⟨C,p2,s2⟩:=List.exists_perm_sublist (List.Sublist.append_left s X) h1
 exact ⟨C,(List.Perm.append_left X p).trans p2.symm,s2⟩
theorem spD (h:zp B A):zp B (a::A):=by
 obtain ⟨A',p,s⟩:=h
 exact ⟨A',p,s.cons a⟩
theorem YT (h:zp B A):zp B (X++A):=by
 obtain ⟨A',p,s⟩:=h
 exact ⟨A',p,s.trans (List.sublist_append_right X A)⟩
end
theorem Led.wk {H:Hp} {L L':Cells} (h:Led H L) (s:zp L' L):Led H L':=by
 obtain ⟨A',p,q⟩:=s
 exact (h.sub q).perm p.symm
theorem Led.make {H:Hp} {L:Cells} {C x dx:Addr} (hL:Led H L) (h1:H x=none) (h2:H dx=none) (hn:dx≠x):Led (upd (upd H dx (.own x)) x (.ins C dx [])) ((x,.ins C dx [])::L):=by
 have:=(hL.new (o := .own x) h2).new (p:=x) (o := .ins C dx []) (by rw [cj (Ne.symm hn)];exact h1)
 exact this.sub (.cons₂ _ (.cons _ (.refl _)))
end L2
namespace L2
open PySem PySem.Spec PyProof.Rows PySem.W
theorem ki {d:Dat} (h:kqdOk 8 d=true):shaped (kqdP d)=true:=by
 have l:=kqd_lay 8 d h
 show ((kqdP d).canLay0 && decide ((kqdP d).depth<=64))=true
 rw [l.1,Bool.true_and]
 exact decide_eq_true (Nat.le_trans l.2 (by decide))
theorem nk : ∀ ds:List Dat,kqdPs ds=ds.map kqdP
 | []=>rfl
 | d::ds=>by rw [kqdPs,nk ds];rfl
theorem jy {K:PySem.W.Frag} {β : Type} {a:Addr} {tt:TT} {te:TE} {σ : St} {Q:VK} {H1:Hp} {L:Cells} (ys:List β) (g : β->V) (p : β->Bool) (hL:Led H1 L) (ha:(a,HO.lst (ys.map g))∈L) (hn:ys.length<=sizeLine)
  (ht : ∀ (y : β) (H:Hp) (R:Bool->Hp->Prop) (q:Addr×HO),y∈ys->Led H (q::L)->(∀ H',Led H' (q::L)->R (p y) H')->tt (some (g y) :: σ) H R)
  (he : ∀ (y : β) (H:Hp) (R:VK) (q:Addr×HO),y∈ys->Led H (q::L)->(∀ H',Led H' (q::L)->R (g y) H')->te (some (g y) :: σ) H R)
  (hd : ∀ (r:Addr) (H':Hp),Led H' ((r,.lst ((ys.filter p).map g))::L)->Q (.ref r) H'):tX (Lf K a) tt te σ Q H1:=by
 refine Er (ys.map g) (λ r i acc H=>acc=((ys.take i).filter p).map g/\Led H ((r,.lst acc)::L)) (λ r hr=>⟨rfl,hL.new hr⟩) (λ r i acc H hr h=>⟨h.2.get List.mem_cons_self,fj.of (h.2.get (List.mem_cons_of_mem _ ha))⟩) ?_ ?_
 ·rintro r i x acc H hr hx ⟨rfl,hl⟩
  rw [List.getElem?_map] at hx
  obtain ⟨y,hy,rfl⟩:=Option.map_eq_some_iff.mp hx
  have hm:y∈ys:=List.mem_of_getElem? hy
  have hi:i < ys.length:=(List.getElem?_eq_some_iff.mp hy).1
  have e:ys.take (i+1)=ys.take i++[y]:=by rw [List.take_succ,hy];rfl
  have hlen:(((ys.take i).filter p).map g).length < sizeLine:=by
   rw [List.length_map]
   have h1:=List.length_filter_le p (ys.take i)
   rw [List.length_take] at h1
   omega
  refine ht y H _ _ hm hl λ H2 hl2 => ?_
  cases hp:p y with
  | true =>
    rw [if_pos rfl]
    refine he y H2 _ _ hm hl2 λ H3 hl3=>⟨hl3.get List.mem_cons_self,hlen,?_,hl3.put rfl rfl⟩
    rw [e,List.filter_append,List.map_append,List.filter_cons,if_pos hp]
    rfl
  | false =>
    rw [if_neg Bool.false_ne_true]
    refine ⟨?_,hl2⟩
    rw [e,List.filter_append,List.map_append,List.filter_cons,if_neg (by rw [hp];exact Bool.false_ne_true)]
    simp
 ·rintro r acc H hr ⟨rfl,hl⟩
  rw [List.length_map,List.take_length] at hl
  exact hd r H hl
theorem YU {H:Hp} {Q:VK} {K:PySem.W.Frag} {a:Addr} {xs:List V} {lo hi:Option Int} (h1:H a=some (.tup xs)) (h2 : ¬ (HT.tV xs.length 0 lo=0/\HT.tV xs.length xs.length hi=xs.length)) (h : ∀ p,H p=none->Q (.ref p) (upd H p (.tup (lP xs lo hi)))):O7 K (.ref a) lo hi H Q:=⟨a,xs,rfl,Fw.of h1,h2,h⟩
end L2
namespace L2
open PySem PySem.Spec PyProof.Rows
theorem rH (k j:Key) : ∀ kvs:List (Key×V),bx (dW kvs k) j=if j=k then none else bx kvs j
 | []=>by simp [dW,bx]
 | p::r=>by
   by_cases e:p.1=k
   ·rw [Bu e,rH k j r]
    by_cases hj:j=k
    ·rw [if_pos hj,if_pos hj]
    ·rw [if_neg hj,if_neg hj,bH (λ z=>hj (by rw [<-z,e]))]
   ·rw [Bv e]
    by_cases hp:p.1=j
    ·rw [bT hp,bT hp,if_neg (λ z=>e (by rw [hp,z]))]
    ·rw [bH hp,bH hp,rH k j r]
structure WD (kvs:List (Key×V)) (f:Int->V) (n:Nat):Prop where
 nd:(kvs.map (·.1)).Nodup
 ik : ∀ k∈kvs.map (·.1),∃ m:Int,k=Sum.inl m
 le:kvs.length<=n
 vl : ∀ m,bx kvs (.inl m)=if f m = .aM then none else some (f m)
theorem WD.keys {kvs:List (Key×V)} (h : ∀ k∈kvs.map (·.1),∃ m:Int,k=Sum.inl m) : ∃ ns:List Int,kvs.map (·.1)=ns.map Sum.inl:=by
 induction kvs with
 | nil=>exact ⟨[],rfl⟩
 | cons p r ih =>
   obtain ⟨ns,e⟩:=ih λ k hk=>h k (List.mem_cons_of_mem _ hk)
   obtain ⟨m,hm⟩:=h p.1 List.mem_cons_self
   exact ⟨m::ns,by rw [List.map_cons,List.map_cons,e,hm]⟩
theorem WD.ns {kvs:List (Key×V)} {f:Int->V} {n:Nat} (h:WD kvs f n) : ∃ ns:List Int,kvs.map (·.1)=ns.map Sum.inl/\ns.length<=n/\ns.Nodup ∧ ∀ m,m∈ns↔f m ≠ .aM:=by
 obtain ⟨ns,e⟩:=WD.keys h.ik
 refine ⟨ns,e,?_,?_,λ m => ?_⟩
 ·have:=congrArg List.length e
  rw [List.length_map,List.length_map] at this
  have:=h.le
  omega
 ·have:=h.nd
  rw [e] at this
  exact (List.pairwise_map.mp this).imp fun {a b} hab z=>hab (by rw [z])
 ·have h1:m∈ns↔(Sum.inl m:Key)∈kvs.map (·.1):=by
   rw [e,List.mem_map]
   constructor
   ·intro hm;exact ⟨m,hm,rfl⟩
   ·rintro ⟨m',hm,z⟩;cases z;exact hm
  rw [h1]
  have hv:=h.vl m
  constructor
  ·intro hk z
   rw [if_pos z] at hv
   exact Ef hv hk
  ·intro z
   rw [if_neg z] at hv
   exact Pe hv
theorem WD.start:WD [] (λ _ => .aM) 0:=⟨List.nodup_nil,(λ _ h=>nomatch h),Nat.le_refl _,λ m=>by rw [if_pos rfl];rfl⟩
theorem By {kvs:List (Key×V)} {k:Key} {v:V} (h:(bx kvs k).isSome=true):(putK kvs k v).map (·.1)=kvs.map (·.1):=by
 unfold putK
 rw [dI,h,if_pos rfl,List.map_map]
 refine List.map_congr_left λ p hp => ?_
 dsimp only [Function.comp]
 split <;> rfl
theorem WD.put {kvs:List (Key×V)} {f:Int->V} {n:Nat} (h:WD kvs f n) (p:Int) {v:V} (hv:v ≠ .aM):WD (putK kvs (.inl p) v) (λ m=>if m=p then v else f m) (n+1):=by
 refine ⟨?_,?_,?_,λ m => ?_⟩
 ·cases e:bx kvs (.inl p) with
  | none=>exact Pf v h.nd e
  | some u=>rw [By (by rw [e];rfl)];exact h.nd
 ·cases e:bx kvs (.inl p) with
  | none =>
    rw [D7 v e,List.map_append]
    intro k hk
    rcases List.mem_append.mp hk with hk | hk
    ·exact h.ik k hk
    ·simp only [List.map_cons,List.map_nil,List.mem_cons,List.not_mem_nil,or_false] at hk
     exact ⟨p,hk⟩
  | some u=>rw [By (by rw [e];rfl)];exact h.ik
 ·exact Nat.le_trans (gz kvs _ v) (Nat.succ_le_succ h.le)
 ·rw [D6,h.vl m]
  by_cases hm:m=p
  ·rw [if_pos (by rw [hm]),if_pos hm,if_neg hv]
  ·rw [if_neg (λ z=>hm (Sum.inl.inj z)),if_neg hm]
theorem WD.drop {kvs:List (Key×V)} {f:Int->V} {n:Nat} (h:WD kvs f n) (p:Int):WD (dW kvs (.inl p)) (λ m=>if m=p then .aM else f m) n:=by
 refine ⟨vZ h.nd,λ k hk => ?_,Nat.le_trans (vW kvs _) h.le,λ m => ?_⟩
 ·obtain ⟨q,hq,rfl⟩:=List.mem_map.mp hk
  exact h.ik _ (List.mem_map.mpr ⟨q,Bw hq,rfl⟩)
 ·rw [rH,h.vl m]
  by_cases hm:m=p
  ·rw [if_pos (by rw [hm]),if_pos hm,if_pos rfl]
  ·rw [if_neg (λ z=>hm (Sum.inl.inj z)),if_neg hm]
theorem WD.mono {kvs:List (Key×V)} {f:Int->V} {n n':Nat} (h:WD kvs f n) (hn:n<=n'):WD kvs f n':=⟨h.nd,h.ik,Nat.le_trans h.le hn,h.vl⟩
theorem WD.get {kvs:List (Key×V)} {f:Int->V} {n:Nat} (h:WD kvs f n) (m:Int):(bx kvs (.inl m)).getD .aM=f m:=by
 rw [h.vl]
 split
 ·rename_i e;rw [e];rfl
 ·rfl
theorem Ml (ns:List Int) (lo hi:Option Int) : ∃ ms:List Int,lP (ns.map V.int) lo hi=ms.map V.int/\ms.length<=ns.length:=by
 refine ⟨(ns.drop (HT.tV (ns.map V.int).length 0 lo)).take (HT.tV (ns.map V.int).length (ns.map V.int).length hi - HT.tV (ns.map V.int).length 0 lo),?_,?_⟩
 ·unfold lP
  rw [List.map_take,List.map_drop]
 ·rw [List.length_take,List.length_drop]
  omega
theorem YV {H:Hp} {Q:VK} {K:PySem.W.Frag} {p:Addr} {a b c d:V} (h1:H p=some (.tup [a,b,c,d])) (h : ∀ q,H q=none->Q (.ref q) (upd H q (.tup [c,d]))):O7 K (.ref p) (some 2) none H Q:=YU h1 (show ¬ (HT.tV 4 0 (some 2)=0/\HT.tV 4 4 none=4) by decide) h
end L2
namespace L2
open PySem PySem.Spec PyProof.Rows
end L2
namespace L2
open PySem PySem.Spec PyProof.Rows PySem.W
section
variable {X:Cx}
end
section
variable {X:Cx}
def SV (neg:Bool):R2:=λ x y H Q => ∃ d ds,dZ H x d/\dZ H y (.list ds)/\d.depth<=60/\shaped d=true/\shaped (.list ds)=true/\Q (.bl (if neg then !(ds.any λ e=>PyData.eqv e d) else ds.any λ e=>PyData.eqv e d)) H
theorem kj {d:PyData} (h:shaped d=true):d.canLay0=true/\d.depth<=64:=by
 have h':(d.canLay0 && decide (d.depth<=64))=true:=h
 rw [Bool.and_eq_true,decide_eq_true_iff] at h'
 exact h'
theorem oN {ds:List PyData} (h:shaped (.list ds)=true):PyData.canLayAll0 ds=true:=by
 have:=(kj h).1
 simpa [PyData.canLay0] using this
theorem Mm (hu:X.A.units+64 < cLine):oF X (compareOp .In) (SV false):=by
 intro pins s σ H x y u v Q I rx ry h
 obtain ⟨d,ds,hd,he,h60,sd,se,q⟩:=h
 obtain ⟨_,ra⟩:=hd.reads I.hok rx
 obtain ⟨_,rb⟩:=he.reads I.hok ry
 have h1:=kj sd
 exact SeqAt.in_list_reads rb ra (oN se) h1.1 (by have:=Nat.min_le_right (PyData.depthAll ds) d.depth;omega) ⟨.bl _,H,I,rfl,q⟩
theorem nq (hu:X.A.units+64 < cLine):oF X (compareOp .NotIn) (SV true):=by
 intro pins s σ H x y u v Q I rx ry h
 obtain ⟨d,ds,hd,he,h60,sd,se,q⟩:=h
 obtain ⟨_,ra⟩:=hd.reads I.hok rx
 obtain ⟨_,rb⟩:=he.reads I.hok ry
 have h1:=kj sd
 exact SeqAt.notIn_list_reads rb ra (oN se) h1.1 (by have:=Nat.min_le_right (PyData.depthAll ds) d.depth;omega) ⟨.bl _,H,I,rfl,q⟩
end
end L2
namespace L2
open PySem PySem.Spec PyProof.Rows PySem.W
theorem oO {E:XK} {C:Addr} {ta:TA} {D:Ends} {σ : St} {H:Hp} (h : ∀ R,Is R (λ vs H1=>vs.length<=sizeLine/\E (.ref C) none H1)->ta σ H R):Mc E C ta D σ H:=h _ Is.rfl
section
variable {X:Cx} {k:Nat} {C:Addr} {ps:List Str} {sp:Sp} {x m:Str} {pos apos:Pos} {e o:Expr} {es:List Expr} {ta:TE} {t:TA}
end
theorem VY {K:PySem.W.Frag} {H:Hp} {p:Addr} {x y:V} {σ : L2.St} {i j:Nat} {Q:L2.St->Hp->Prop} (h:H p=some (.tup [x,y])) (hq:Q ((σ.set i (some x)).set j (some y)) H):UT K 2 (LB (tQ i) (LB (tQ j) US)) (.ref p) σ H Q:=⟨p,[x,y],rfl,Fw.of h,rfl,x,[y],rfl,y,[],rfl,rfl,hq⟩
end L2
namespace L2
open PySem PySem.Spec PyProof.Rows PySem.W
section
variable {X:Cx}
def VZ:V->Option Int->Option Int->Hp->VK->Prop:=λ x lo hi H Q => ∃ z,x = .str z/\z.length<=sizeLine/\Q (.str (Txt.slice z lo hi)) H
theorem part_of {v:Value} {o:Option Int} (h:IsPart v o) : ∃ l:Option (Int×Tok),v=partValue l/\o=l.map (·.1):=by
 cases h with
 | none=>exact ⟨none,rfl,rfl⟩
 | int i t=>exact ⟨some (i,t),rfl,rfl⟩
theorem Mn:W0 X VZ:=by
 intro pins s σ H x v vl vu lo hi sl Q I rx hs pl pu h
 obtain ⟨z,rfl,hz,q⟩:=h
 obtain ⟨t,rfl⟩:=rx
 obtain ⟨l,rfl,rfl⟩:=part_of pl
 obtain ⟨u,rfl,rfl⟩:=part_of pu
 refine ⟨"str",_,F.slot_str_getitem.lookup,typeIs_str _ z t,wpAny_getItem_str_slice (l:=l) (u:=u) (st:=none) hs rfl ?_⟩
 have hle:=Txt.slice_le z (l.map (·.1)) (u.map (·.1))
 unfold sliceMade
 unfold Txt.slice at q hle
 by_cases c:(((none:Option (Int×Tok)).map (·.1)).getD 1 == 1 && (slicePicked z l u none).length == z.length)=true
 ·rw [if_pos c]
  have c':((1:Int) == 1 && (Builtin.Str.strSliceIndices (l.map (·.1)) (u.map (·.1)) 1 z.length).length == z.length)=true:=c
  rw [if_pos c'] at q
  exact ⟨.str z,H,I,⟨t,rfl⟩,q⟩
 ·rw [if_neg c]
  have c' : ¬ ((1:Int) == 1 && (Builtin.Str.strSliceIndices (l.map (·.1)) (u.map (·.1)) 1 z.length).length == z.length)=true:=c
  rw [if_neg c'] at q hle
  exact ⟨Nat.le_trans hle hz,.str _,H,I.tok _,⟨_,rfl⟩,q⟩
theorem V0 {H:Hp} {Q:VK} {z:Str} {lo hi:Option Int} (hz:z.length<=sizeLine) (h:Q (.str (Txt.slice z lo hi)) H):VZ (.str z) lo hi H Q:=⟨z,rfl,hz,h⟩
abbrev sg (c:Nat):V := .str ⟨#[c]⟩
end
theorem YW {H:Hp} {Q:VK} {z:Str} {i:Int} {c:Nat} (hz:z.length<=sizeLine) (h1:iT z.cps.toList i=some c) (h:Q (sg c) H):Vc (.str z) (.int i) H Q:=⟨z,i,c,rfl,rfl,hz,h1,h⟩
theorem V1 {H:Hp} {Q:VK} {i j:Str} (hz:i.length+j.length<=sizeLine) (h:Q (.str (i++j)) H) : ∃ a b,V.str i = .str a/\V.str j = .str b/\a.length+b.length<=sizeLine/\Q (.str (a++b)) H:=⟨i,j,rfl,rfl,hz,h⟩
end L2
namespace L2
open PySem PySem.Spec PyProof.Rows PySem.W
section
variable {X:Cx}
def Gf:V->List V->Hp->VK->Prop:=λ x vs H Q => ∃ l xs y j,x = .ref l/\vs = [y]/\H l=some (.lst xs)/\eX y=true/\xs.all eX=true/\(∃ v,xs[j]? = some v/\B5 v y=true)/\(∀ m v,m < j->xs[m]? = some v->B5 v y=false)/\Q (.int (j:Nat)) H
theorem lX:W3 X "list.index" Gf:=by
 intro pins s σ H x vs v us Q I rx rv h
 obtain ⟨l,xs,y,j,rfl,rfl,hH,fy,fs,⟨vj,hvj,hit⟩,hno,q⟩:=h
 cases rx
 obtain ⟨u,rfl,ru⟩:=rv.one
 obtain ⟨z,its,n,r,hl,e⟩:=I.Ec hH
 have hj:j < xs.length:=(List.getElem?_eq_some_iff.mp hvj).1
 have at_ : ∀ (m:Nat) (hm:m < its.toArray.size) (w:V),xs[m]? = some w->Eb y its.toArray[m]=B5 w y:=λ m hm w hw=>by
  obtain ⟨u',hu',ru'⟩:=r.get hw
  have fw:eX w=true:=List.all_eq_true.mp fs w (List.mem_of_getElem? hw)
  have e1:its.toArray[m]=u':=by
   have:its[m]? = some u':=hu'
   simpa [List.getElem?_eq_some_iff] using (List.getElem?_eq_some_iff.mp this).2
  rw [e1]
  exact F5 ru' fw
 have hsz:its.toArray.size=xs.length:=by rw [List.size_toArray];omega
 have hl2:=oH
 refine call_meets F.slot_list_index ⟨_,e,rfl⟩ F.entry_list_index (F.args_list_index_2 _ _) (SeqAt.list_indexAt l its.toArray n none #[] u (Eb y) j (by omega) (by omega) ?_ ?_) ⟨e,λ w hw=>jw ru fy r fs w (by simpa using hw),?_⟩
 ·rw [at_ j (by omega) vj hvj];exact hit
 ·intro m hm hlt
  have SW:m < xs.length:=by omega
  rw [at_ m hm _ (List.getElem?_eq_getElem SW)]
  exact hno m _ hlt (List.getElem?_eq_getElem SW)
 ·exact ⟨.int j,H,I.tok _,⟨_,rfl⟩,q⟩
theorem SX {H:Hp} {Q:VK} {l:Addr} {xs:List V} {y v:V} {j:Nat} (h1:H l=some (.lst xs)) (fy:eX y=true) (fs:xs.all eX=true) (hj:xs[j]? = some v) (hit:B5 v y=true) (hno : ∀ m v,m < j->xs[m]? = some v->B5 v y=false) (h:Q (.int (j:Nat)) H):Gf (.ref l) [y] H Q:=⟨l,xs,y,j,rfl,rfl,h1,fy,fs,⟨v,hj,hit⟩,hno,h⟩
end
abbrev k9:=List (Int×Addr×List Int)
def vG (es:k9):List (Key×V):=es.map λ e=>(Sum.inl e.1,V.ref e.2.1)
def jz (es:k9):Cells:=es.map λ e=>(e.2.1,HO.lst (e.2.2.map V.int))
theorem Co (es:k9) (n:Int):bx (vG es) (.inl n)=(es.find? λ e=>decide (e.1=n)).map λ e => .ref e.2.1:=by
 induction es with
 | nil=>rfl
 | cons e es ih =>
   unfold vG at ih ⊢
   rw [List.map_cons,List.find?_cons]
   by_cases h:e.1=n
   ·rw [bT (by rw [h]),decide_eq_true h];rfl
   ·rw [bH (λ q=>h (Sum.inl.inj q)),decide_eq_false h];exact ih
theorem Mp {es:k9} {n:Int} (h:n ∉ es.map (·.1)):bx (vG es) (.inl n)=none:=by
 rw [Co,List.find?_eq_none.mpr]
 ·rfl
 ·intro e he q
  exact h (List.mem_map.mpr ⟨e,he,of_decide_eq_true q⟩)
theorem Pu {es:k9} {n:Int} (h:n ∉ es.map (·.1)) (a:Addr) (row:List Int):putK (vG es) (.inl n) (.ref a)=vG (es++[(n,a,row)]):=by
 unfold putK
 rw [if_neg]
 ·unfold vG;rw [List.map_append];rfl
 ·rw [dI,Mp h];exact Bool.false_ne_true
theorem Mq (es:k9) (n:Int):dW (vG es) (.inl n)=vG (es.filter λ e=>decide (e.1≠n)):=by
 unfold dW vG
 rw [List.filter_map]
 congr 1
 refine List.filter_congr λ e _ => ?_
 show decide ((Sum.inl e.1:Key)≠Sum.inl n)=decide (e.1≠n)
 exact decide_eq_decide.mpr ⟨λ q z=>q (by rw [z]),λ q z=>q (Sum.inl.inj z)⟩
theorem qc {es:k9} {e:Int×Addr×List Int} (nd:(es.map (·.1)).Nodup) (h:e∈es):es.find? (λ x=>decide (x.1=e.1))=some e:=by
 induction es with
 | nil=>cases h
 | cons x es ih =>
   rw [List.map_cons,List.nodup_cons] at nd
   rw [List.find?_cons]
   rcases List.mem_cons.mp h with rfl | h
   ·rw [decide_eq_true rfl]
   ·have:x.1≠e.1:=λ q=>nd.1 (q ▸ List.mem_map.mpr ⟨e,h,rfl⟩)
    rw [decide_eq_false this]
    exact ih nd.2 h
theorem Pw:oG 10 40=True:=eq_true ⟨by decide,by decide,by decide⟩
section
variable {H:Hp} {Q:VK}
theorem SY (h:Q (.int 10000000000000000000000000000000000000000) H):rI oG (λ i j => .int (i ^ j.toNat)) (.int 10) (.int 40) H Q:=Pr (by decide) (of_eq_true Pw) h
end
theorem bits_add {x y:Int} {n:Nat} (hx:Builtin.Int.intBits x<=n) (h0:0<=y) (h1:y<=1000000) (hn:20<=n):Builtin.Int.intBits (x+y)<=n+1:=by
 have hy:Builtin.Int.intBits y<=20:=intBits_le_iff.mpr (by omega)
 exact Nat.le_trans (intBits_add_le hx hy) (by omega)
theorem oQ {x:Int} (h0:0<=x) (h1:x<=1000000):Builtin.Int.intBits x<=20:=intBits_le_iff.mpr (by omega)
theorem S5 {c m:Int} (hb:Builtin.Int.intBits c<=2000000) (hm:Builtin.Int.intBits m<=1000):IntMulOk c m:=IntMulOk.of_le hb hm (by decide)
theorem YX {a0 a1 a2 a3 a4 a5 t:Int} (h0:0<=t) (h5:t<=5) : ∃ z:Int,iT [V.int a0,.int a1,.int a2,.int a3,.int a4,.int a5] t=some (.int z):=by
 have h:t=0\/t=1\/t=2\/t=3\/t=4\/t=5:=by omega
 rcases h with rfl | rfl | rfl | rfl | rfl | rfl
 ·exact ⟨_,Rb⟩
 ·exact ⟨_,Rc⟩
 ·exact ⟨_,Rf⟩
 ·exact ⟨_,Rg⟩
 ·exact ⟨_,Rh⟩
 ·exact ⟨_,Rj⟩
theorem intsOf : ∀ {vs:List V},(∀ (i:Nat) v,vs[i]? = some v->∃ z:Int,v=V.int z)->∃ zs:List Int,vs=zs.map V.int
 | [],_=>⟨[],rfl⟩
 | v::vs,h=>by
   obtain ⟨z,rfl⟩:=h 0 v rfl
   obtain ⟨zs,rfl⟩:=intsOf (vs:=vs) λ i u hu=>h (i+1) u hu
   exact ⟨z::zs,rfl⟩
theorem JB {es:k9} {e:Int×Addr×List Int} (nd:(es.map (·.1)).Nodup) (h:e∈es) : ∃ as bs,es=as++e::bs/\es.filter (λ x=>decide (x.1≠e.1))=as++bs:=by
 obtain ⟨as,bs,rfl⟩:=List.append_of_mem h
 refine ⟨as,bs,rfl,?_⟩
 rw [List.map_append,List.map_cons] at nd
 have h1 : ∀ x∈as++bs,x.1≠e.1:=λ x hx q=>by
  have S6:=(List.perm_middle (l₁ := as.map (·.1)) (a:=e.1) (l₂ := bs.map (·.1))).nodup_iff.mp nd
  rw [List.nodup_cons] at S6
  refine S6.1 ?_
  rw [<-List.map_append,<-q]
  exact List.mem_map.mpr ⟨x,hx,rfl⟩
 rw [List.filter_append,List.filter_cons,if_neg (by simp)]
 rw [List.filter_eq_self.mpr,List.filter_eq_self.mpr]
 ·intro x hx;exact decide_eq_true (h1 x (List.mem_append_right _ hx))
 ·intro x hx;exact decide_eq_true (h1 x (List.mem_append_left _ hx))
theorem Mr (as bs:k9) (e:Int×Addr×List Int):jz (as++e::bs)=jz as++(e.2.1,HO.lst (e.2.2.map V.int))::jz bs:=by unfold jz;rw [List.map_append];rfl
theorem Ms (as bs:k9):jz (as++bs)=jz as++jz bs:=by unfold jz;rw [List.map_append]
theorem Px {K:PySem.W.Frag} {H:Hp} {Q:VK} {p:Addr} {xs:List V} {y:V} (h1:H p=some (.lst xs)) (fy:eX y=true) (fs:xs.all eX=true) (h:Q (.bl (p6 y xs)) H):W2 K false y (.ref p) H Q:=⟨p,xs,rfl,.inl (fj.of h1),fy,fs,h⟩
end L2
namespace L2
open PySem PySem.Spec PyProof.Rows PySem.W
section
variable {X:Cx} {pins:List (Addr×Obj)} {σ : St} {H:Hp} {s:Shared} {h':Heap}
end
section
variable {X:Cx}
end
end L2
namespace L2
open PySem PySem.Spec PyProof.Rows PySem.W
abbrev V2:Str:=Str.ofString "0123456789"
def V3 (c:Nat):Bool := !(Builtin.Str.occurrences V2 ⟨#[c]⟩ 0 V2.length 1).isEmpty
end L2
namespace L2
open PySem PySem.Spec PyProof.Rows PySem.W
end L2
namespace L2
open PySem PySem.Spec PyProof.Rows PySem.W
section
variable {X:Cx}
def Ik:V->List V->Hp->VK->Prop:=λ x vs H Q => ∃ l xs y d ds j,x = .ref l/\vs = [y]/\H l=some (.lst xs)/\dZ H y d/\bU H xs ds/\d.depth<=60/\shaped d=true/\shaped (.list ds)=true/\(∃ e,ds[j]? = some e/\PyData.eqv e d=true)/\(∀ (m:Nat) e,m < j->ds[m]? = some e->PyData.eqv e d=false)/\Q (.int (j:Nat)) H
theorem jA (hu:X.A.units+64 < cLine):W3 X "list.index" Ik:=by
 intro pins s σ H x vs v us Q I rx rv h
 obtain ⟨l,xs,y,d,ds,j,rfl,rfl,hH,hd,hds,h60,sd,se,⟨ej,hej,hit⟩,hno,q⟩:=h
 cases rx
 obtain ⟨u,rfl,ru⟩:=rv.one
 obtain ⟨z,its,n,r,hl,e⟩:=I.Ec hH
 obtain ⟨_,ra⟩:=hd.reads I.hok ru
 obtain ⟨_,rb⟩:=hds.reads I.hok r
 have h1:=kj sd
 have hcl:=oN se
 have hm:=SeqAt.readsAll_map ds its _ hcl rb
 have hdl:=hds.length
 have hj:j < ds.length:=(List.getElem?_eq_some_iff.mp hej).1
 have hsz:its.toArray.size=ds.length:=by rw [List.size_toArray,<-hm,List.length_map]
 have at_ : ∀ (m:Nat) (UD:m < its.toArray.size) (w:PyData),ds[m]? = some w->SeqAt.readOf s.heap its.toArray[m]=w:=λ m UD w hw=>by
  rw [<-hm,List.getElem?_map] at hw
  have hm2:m < its.length:=by simpa using UD
  rw [List.getElem?_eq_getElem hm2] at hw
  simpa using hw
 have hl2:=oH
 refine call_meets F.slot_list_index ⟨_,e,rfl⟩ F.entry_list_index (F.args_list_index_2 _ _) (SeqAt.list_indexAt l its.toArray n none #[] u (λ v=>PyData.eqv (SeqAt.readOf s.heap v) d) j (by omega) (by omega) ?_ ?_) ⟨e,SeqAt.items_eqAt (by simpa using rb) ra hcl h1.1 (by have:=Nat.min_le_right (PyData.depthAll ds) d.depth;omega),?_⟩
 ·show PyData.eqv (SeqAt.readOf s.heap its.toArray[j]) d=true
  rw [at_ j (by omega) ej hej];exact hit
 ·intro m UD hlt
  have SW:m < ds.length:=by omega
  show PyData.eqv (SeqAt.readOf s.heap its.toArray[m]) d=false
  rw [at_ m UD _ (List.getElem?_eq_getElem SW)]
  exact hno m _ hlt (List.getElem?_eq_getElem SW)
 ·exact ⟨.int j,H,I.tok _,⟨_,rfl⟩,q⟩
end
theorem Et {H:Hp} {Q:VK} {l:Addr} {xs:List V} {y:V} {d:Dat} {ds:List Dat} {j:Nat} (h1:H l=some (.lst xs)) (hd:dZ H y (kqdP d)) (hds:bU H xs (kqdPs ds)) (o1:kqdOk 8 d=true) (o2 : ∀ e∈ds,kqdOk 7 e=true) (hj:ds[j]? = some d) (hno : ∀ (m:Nat) e,m < j->ds[m]? = some e->e≠d) (h:Q (.int (j:Nat)) H):Ik (.ref l) [y] H Q:=by
 have s1:kqdOk 8 (.list ds)=true:=by rw [kqdOk,List.all_eq_true];exact o2
 have s2:=ki s1
 rw [kqdP] at s2
 have dp:=(kqd_lay 8 d o1).2
 refine ⟨l,xs,y,kqdP d,kqdPs ds,j,rfl,rfl,h1,hd,hds,by omega,ki o1,s2,⟨kqdP d,by rw [nk,List.getElem?_map,hj];rfl,(kqd_eqv 8 d d 8 o1 o1).mpr rfl⟩,λ m e hm he => ?_,h⟩
 rw [nk,List.getElem?_map] at he
 obtain ⟨e',he',rfl⟩:=Option.map_eq_some_iff.mp he
 exact Bool.eq_false_iff.mpr λ z=>hno m e' hm he' ((kqd_eqv 7 e' d 8 (o2 e' (List.mem_of_getElem? he')) o1).mp z)
theorem wC {H:Hp} {Q:VK} {l:Addr} {y:V} {d:Dat} {ds:List Dat} {xs:List V} {neg b:Bool} (h1:H l=some (.lst xs)) (hd:dZ H y (kqdP d)) (hds:bU H xs (kqdPs ds)) (o1:kqdOk 8 d=true) (o2 : ∀ e∈ds,kqdOk 7 e=true) (hb:b=true↔d∈ds) (h:Q (.bl (if neg then !b else b)) H):SV neg y (.ref l) H Q:=by
 have s1:kqdOk 8 (.list ds)=true:=by rw [kqdOk,List.all_eq_true];exact o2
 have s2:=ki s1
 rw [kqdP] at s2
 have dp:=(kqd_lay 8 d o1).2
 have e:((kqdPs ds).any λ e=>PyData.eqv e (kqdP d))=b:=by
  rw [Bool.eq_iff_iff,hb,nk,List.any_map,List.any_eq_true]
  constructor
  ·rintro ⟨x,hx,hz⟩
   rw [<-(kqd_eqv 7 x d 8 (o2 x hx) o1).mp hz]
   exact hx
  ·intro hx
   exact ⟨d,hx,(kqd_eqv 8 d d 8 o1 o1).mpr rfl⟩
 exact ⟨kqdP d,kqdPs ds,hd,.lst h1 hds,by omega,ki o1,s2,by rw [e];exact h⟩
end L2
namespace L2
open PySem PySem.Spec PyProof.Rows PySem.W
section
variable {X:Cx}
end
end L2
namespace L2
open PySem PySem.Spec PyProof.Rows PySem.W
theorem Gg {lo:Int} {n:Nat} {te:TE} {σ : St} {Q:VK} {H1:Hp} {L:Cells} (G:Nat->V->Cells->Prop) (hL:Led H1 L) (hn:n<=sizeLine)
  (hs : ∀ (i:Nat) (H:Hp) (R:VK) (M:Cells),i < n->Led H (M++L)->(∀ v H' C,G i v C->Led H' (C++(M++L))->R v H')->te (some (.int (lo+i)) :: σ) H R)
  (hd : ∀ (p:Addr) (vs:List V) (Cs:List Cells) (H':Hp),vs.length=n->Cs.length=n->(∀ (i:Nat) v C,vs[i]? = some v->Cs[i]? = some C->G i v C)->Led H' ((p,.lst vs)::(Cs.flatten++L))->Q (.ref p) H'):tX (Jd lo n) Gb te σ Q H1:=by
 refine Bx (λ p i acc H=>i<=n/\acc.length=i ∧ ∃ Cs:List Cells,Cs.length=i/\(∀ (j:Nat) v C,acc[j]? = some v->Cs[j]? = some C->G j v C)/\Led H ((p,.lst acc)::(Cs.flatten++L))) (λ p hp=>⟨Nat.zero_le _,rfl,[],rfl,λ j v C h=>by simp at h,hL.new hp⟩) (λ p i acc H hp h => ?_) ?_ ?_
 ·obtain ⟨_,_,Cs,_,_,hl⟩:=h
  exact hl.get List.mem_cons_self
 ·rintro p i acc H hp hi ⟨_,rfl,Cs,hc,hG,hl⟩
  unfold Gb
  dsimp only
  rw [if_pos rfl]
  refine hs _ H _ ((p,.lst acc)::Cs.flatten) hi hl λ v H' C g hl' => ?_
  have h1:Led H' ((p,.lst acc)::(C++(Cs.flatten++L))):=Led.pull hl'
  refine ⟨h1.get List.mem_cons_self,by omega,hi,by simp,Cs++[C],by simp [hc],λ j u D hu hD => ?_,?_⟩
  ·rw [List.getElem?_append] at hu hD
   rw [hc] at hD
   by_cases hj:j < acc.length
   ·rw [if_pos hj] at hu hD
    exact hG j u D hu hD
   ·rw [if_neg hj] at hu hD
    have h0:j - acc.length=0:=by
     rcases Nat.lt_or_ge (j - acc.length) 1 with h | h
     ·omega
     ·rw [List.getElem?_eq_none (by simpa using h)] at hu;cases hu
    rw [h0] at hu hD
    have e:j=acc.length:=by omega
    subst e
    cases hu
    cases hD
    exact g
  ·refine (h1.put (o' := .lst (acc++[v])) rfl rfl).perm (List.Perm.cons _ ?_)
   rw [List.flatten_append,List.flatten_cons,List.flatten_nil,List.append_nil,List.append_assoc,<-List.append_assoc,<-List.append_assoc]
   exact List.Perm.append_right _ List.perm_append_comm
 ·rintro p acc H hp ⟨_,e,Cs,hc,hG,hl⟩
  exact hd p acc Cs H e hc hG hl
abbrev DQ:=List (Addr×List Int)
def pQ (rs:DQ):List V:=rs.map λ r=>V.ref r.1
def JC (rs:DQ):Cells:=rs.map λ r=>(r.1,HO.lst (r.2.map V.int))
theorem g7 (rs:DQ):(pQ rs).length=rs.length:=List.length_map _
theorem Cp {rs:DQ} {r:Addr×List Int} (h:r∈rs):(r.1,HO.lst (r.2.map V.int))∈JC rs:=List.mem_map.mpr ⟨r,h,rfl⟩
theorem rowsOf {p:Nat->List Int->Prop} : ∀ {vs:List V} {Cs:List Cells},vs.length=Cs.length->(∀ (i:Nat) v C,vs[i]? = some v->Cs[i]? = some C->∃ (r:Addr) (row:List Int),v=V.ref r/\C = [(r,HO.lst (row.map V.int))]/\p i row)->∃ rs:DQ,vs=pQ rs/\Cs.flatten=JC rs/\rs.length=vs.length ∧ ∀ (i:Nat) r,rs[i]? = some r->p i r.2:=by
 intro vs
 induction vs generalizing p with
 | nil=>intro Cs h _;cases Cs with
   | nil=>exact ⟨[],rfl,rfl,rfl,λ i r h=>by simp at h⟩
   | cons _ _=>cases h
 | cons v vs ih=>intro Cs hl h;cases Cs with
   | nil=>cases hl
   | cons C Cs =>
     obtain ⟨r,row,rfl,rfl,hp⟩:=h 0 v C rfl rfl
     obtain ⟨rs,rfl,e2,e3,e4⟩:=ih (p:=λ i row=>p (i+1) row) (Cs:=Cs) (Nat.succ.inj hl) λ i u D hu hD=>h (i+1) u D hu hD
     refine ⟨(r,row)::rs,rfl,by rw [List.flatten_cons,e2];rfl,by rw [List.length_cons,List.length_cons,e3],λ i q hq => ?_⟩
     cases i with
     | zero=>cases hq;exact hp
     | succ i=>exact e4 i q hq
abbrev zq:=Str×Addr×DQ
abbrev dj:=List zq
def za (es:dj):List (Key×V):=es.map λ e=>(Sum.inr e.1,V.ref e.2.1)
def oR (es:dj):Cells:=es.map λ e=>(e.2.1,HO.lst (pQ e.2.2))
theorem Cq (es:dj) (z:Str):bx (za es) (.inr z)=(es.find? λ e=>decide (e.1=z)).map λ e => .ref e.2.1:=by
 induction es with
 | nil=>rfl
 | cons e es ih =>
   unfold za at ih ⊢
   rw [List.map_cons,List.find?_cons]
   by_cases h:e.1=z
   ·rw [bT (by rw [h]),decide_eq_true h];rfl
   ·rw [bH (λ q=>h (Sum.inr.inj q)),decide_eq_false h];exact ih
theorem Eu {es:dj} {z:Str} (h:z ∉ es.map (·.1)):bx (za es) (.inr z)=none:=by
 rw [Cq,List.find?_eq_none.mpr]
 ·rfl
 ·intro e he q
  exact h (List.mem_map.mpr ⟨e,he,of_decide_eq_true q⟩)
theorem findF {es:dj} {e:zq} (nd:(es.map (·.1)).Nodup) (h:e∈es):es.find? (λ x=>decide (x.1=e.1))=some e:=by
 induction es with
 | nil=>cases h
 | cons x es ih =>
   rw [List.map_cons,List.nodup_cons] at nd
   rw [List.find?_cons]
   rcases List.mem_cons.mp h with rfl | h
   ·rw [decide_eq_true rfl]
   ·have:x.1≠e.1:=λ q=>nd.1 (q ▸ List.mem_map.mpr ⟨e,h,rfl⟩)
    rw [decide_eq_false this]
    exact ih nd.2 h
theorem wD {es:dj} {e:zq} (nd:(es.map (·.1)).Nodup) (h:e∈es):bx (za es) (.inr e.1)=some (.ref e.2.1):=by rw [Cq,findF nd h];rfl
theorem Py {es:dj} {z:Str} (h:z ∉ es.map (·.1)) (a:Addr) (rs:DQ):putK (za es) (.inr z) (.ref a)=za (es++[(z,a,rs)]):=by
 unfold putK
 rw [if_neg]
 ·unfold za;rw [List.map_append];rfl
 ·rw [dI,Eu h];exact Bool.false_ne_true
theorem S7 {es:dj} {e:zq} (nd:(es.map (·.1)).Nodup) (h:e∈es) : ∃ as bs,es=as++e::bs/\es.filter (λ x=>decide (x.1≠e.1))=as++bs:=by
 obtain ⟨as,bs,rfl⟩:=List.append_of_mem h
 refine ⟨as,bs,rfl,?_⟩
 rw [List.map_append,List.map_cons] at nd
 have h1 : ∀ x∈as++bs,x.1≠e.1:=λ x hx q=>by
  have S6:=(List.perm_middle (l₁ := as.map (·.1)) (a:=e.1) (l₂ := bs.map (·.1))).nodup_iff.mp nd
  rw [List.nodup_cons] at S6
  refine S6.1 ?_
  rw [<-List.map_append,<-q]
  exact List.mem_map.mpr ⟨x,hx,rfl⟩
 rw [List.filter_append,List.filter_cons,if_neg (by simp)]
 rw [List.filter_eq_self.mpr,List.filter_eq_self.mpr]
 ·intro x hx;exact decide_eq_true (h1 x (List.mem_append_right _ hx))
 ·intro x hx;exact decide_eq_true (h1 x (List.mem_append_left _ hx))
theorem Ew (as bs:dj) (e:zq):oR (as++e::bs)=oR as++(e.2.1,HO.lst (pQ e.2.2))::oR bs:=by unfold oR;rw [List.map_append];rfl
theorem Mt {es:dj} {e:zq} (h:e∈es):(e.2.1,HO.lst (pQ e.2.2))∈oR es:=List.mem_map.mpr ⟨e,h,rfl⟩
theorem Pz (as bs:dj) (e e':zq) (h1:e.1=e'.1) (h2:e.2.1=e'.2.1):za (as++e::bs)=za (as++e'::bs):=by unfold za;rw [List.map_append,List.map_append,List.map_cons,List.map_cons,h1,h2]
section
variable {H:Hp} {a:Addr} {Q:VK} {D:Ends} {σ : St}
theorem V4 {kvs:List (Key×V)} {z:Str} {S:Option V->Prop} (h1:H a=some (.dK kvs)) (h:S (bx kvs (.inr z))) : ∃ b o,V.ref a = .ref b/\fY H b (.str z) o/\S o:=⟨a,_,rfl,fY.k (k := .inr z) h1,h⟩
theorem Mu {kvs:List (Key×V)} {z:Str} {v:V} {S:V->Prop} (h1:H a=some (.dK kvs)) (h2:bx kvs (.inr z)=some v) (h:S v) : ∃ b v,V.ref a = .ref b/\fY H b (.str z) (some v)/\S v:=⟨a,v,rfl,h2 ▸ fY.k (k := .inr z) h1,h⟩
theorem V5 {kvs:List (Key×V)} {z:Str} {v:V} (h1:H a=some (.dK kvs)) (hl:kvs.length < sizeLine) (h:D.nx σ (upd H a (.dK (putK kvs (.inr z) v)))) : ∃ b H4,V.ref a = .ref b/\oK H b (.str z) v H4/\D.nx σ H4:=⟨a,_,rfl,oK.k (k := .inr z) h1 hl,h⟩
end
end L2
namespace L2
open PySem PySem.Spec PyProof.Rows PySem.W
section
variable {X:Cx}
end
section
variable {X:Cx} {k:Nat} {f C:Addr} {fd:FuncData} {ps:List Str} {sp:Sp} {x:Str} {p pos:Pos} {e:Expr} {es:List Expr} {t:TA}
end
end L2
namespace L2
open PySem PySem.Spec PyProof.Rows PySem.W
section
variable {X:Cx}
end
section
variable {P:Program} {w:World} {K:PySem.W.Frag} {mg:Str->Option Value} {base:Heap}
end
section
variable {X:Cx} {ea:Addr} {k:Nat} {ps:List Str} {sp:Sp} {x:Str} {p pos:Pos} {e:Expr} {es:List Expr} {t:TA}
end
end L2
namespace L2
open PySem PySem.Spec PyProof.Rows PySem.W
section
variable {X:Cx}
end
end L2
namespace L2
open PySem PySem.Spec PyProof.Rows PySem.W
section
variable {prog:Program} {w:World} {A:Around} {E:Value->Shared->Prop} {s:Shared}
end
end L2
namespace L2
open PySem PySem.Spec PyProof.Rows PySem.W
namespace SI
end SI
section
variable {prog:Program} {w:World} {A:Around} {E:Value->Shared->Prop} {s:Shared}
end
end L2
namespace L2
open PySem PySem.Spec PyProof.Rows PySem.W
section
variable {prog:Program} {w:World} {A:Around} {E:Value->Shared->Prop} {s:Shared}
end
end L2
namespace L2
open PySem PySem.Spec PyProof.Rows PySem.W
section
variable {prog:Program} {w:World} {A:Around} {E:Value->Shared->Prop} {s:Shared}
end
section
variable {X:Cx} {pins:List (Addr×Obj)} {σ : St} {H:Hp} {s:Shared}
end
end L2
namespace L2
open PySem PySem.Spec PyProof.Rows PySem.W
section
variable {prog:Program} {w:World} {A:Around} {E:Value->Shared->Prop} {s:Shared} {d it:Addr} {es:Array DictEntry} {ep i:Nat}
def ur (h:Heap) (d:Addr) (es:Array DictEntry) (ep:Nat):Prop := ∃ o,h.get? d=some o/\o.ExactDict/\o.data = .dict es ep
theorem ur.ty (x:ur s.heap d es ep):s.TypeIs (.ref d) "dict" := let ⟨o,ho,hc,_⟩:=x; ⟨o,ho,hc.1⟩
theorem ur.lt {h:Heap} (x:ur h d es ep):d < h.objs.size:=let ⟨_,ho,_⟩:=x; Heap.lt_size ho
theorem ur.to {h h':Heap} (x:ur h d es ep) (k : ∀ o,h.get? d=some o->h'.get? d=some o):ur h' d es ep:=let ⟨o,ho,r⟩:=x; ⟨o,k o ho,r⟩
theorem Mv {Q:Value->Shared->Prop} (lo:(d == sysModules)=false) (m:ur s.heap d es ep)
  (q:Q (.ref s.heap.objs.size) { s with heap:=s.heap.push { cls := .type "dict_keyiterator",data := .fields #[.ref d,.int 0 0,.int es.size 0,.int ep 0] } }):wpAny (model prog w) A (pyIter (.ref d)) Q E s:=by
 obtain ⟨o,ho,hc,hdat⟩:=id m
 have ty:=m.ty
 refine wpAny_pyIter_slot ty F.slot_dict_iter (wpAny_call_entry F.slot_dict_iter ty F.entry_dict_iter ?_ (F.args_dict_iter_1 _))
 unfold Builtin.«dict.__iter__»
 refine wpAny_bind ?_;unfold Builtin.Dict.dictSlotNone
 refine wpAny_bind (wpAny_notOrdered_dict ty ?_)
 show wpAny _ _ (pure (Value.ref d)) _ _ s;refine wpAny_pure ?_
 show wpAny _ _ (Builtin.Dict.showsAll d >>= _) _ _ s;unfold Builtin.Dict.showsAll
 rw [if_neg (by rw [lo];exact Bool.false_ne_true)];refine wpAny_bind (wpAny_pure ?_)
 refine wpAny_bind (wpAny_dictEntries ho hdat (wpAny_bind (wpAny_dictEpoch ho hdat ?_)))
 refine wpAny_bind (wpAny_newObj_type (wpAny_pure ⟨_,rfl,"dict_keyiterator",_,⟨_,Heap.get?_push_size _ rfl,rfl⟩,F.slot_dict_keyiterator_next.lookup,?_⟩))
 simpa [rawInt] using q
theorem Mw {Q:Option Value->Shared->Prop} (ti:s.heap.IsKeyIter it d i es.size ep) (m:ur s.heap d es ep) (hi:i < es.size)
  (q : ∀ h',h'.IsKeyIter it d (i+1) es.size ep->Heap.SameBut it s.heap h'->Q (some es[i].key) { s with heap:=h' }):wpAny (model prog w) A (pyNext (.ref it)) Q E s:=by
 obtain ⟨o,ho,hc,hd⟩:=id ti
 obtain ⟨od,hod,hcd,V6⟩:=id m
 unfold pyNext
 refine wpAny_bind (wpAny_attempt (wpAny_callSpecial?_slot (name:=Str.ofString "__next__") ti.typeIs F.slot_dict_keyiterator_next (wpAny_call_entry F.slot_dict_keyiterator_next ti.typeIs F.entry_dict_keyiterator_next ?_ (F.args_dict_keyiterator_next_1 _))))
 refine wpAny_bind (wpAny_pure (wpAny_bind (wpAny_bind ?_)))
 first | refine wpAny_bind (wpAny_typeNameOfWhole_keyiter ti.typeIs (wpAny_pure ?_)) | refine wpAny_bind (wpAny_typeNameOf_keyiter ti.typeIs (wpAny_pure ?_))
 refine wpAny_bind (wpAny_fieldsOf ho hd ?_)
 have own:Builtin.Dict_items.ownsTuple "dict_keyiterator" = false:=by decide
 simp only [own,Bool.false_eq_true,if_false];show wpAny _ _ (if (Value.ref d == Value.none)=true then _ else _) _ _ s
 rw [if_neg (show ¬ ((Value.ref d == Value.none)=true) from Bool.false_ne_true)];refine wpAny_bind (wpAny_pure ?_)
 refine wpAny_bind (wpAny_dictEntries hod V6 ?_);rw [if_neg (by simp)]
 refine wpAny_bind (wpAny_pure (wpAny_bind (wpAny_dictEpoch hod V6 ?_)));rw [if_neg (by simp)]
 refine wpAny_pure ?_
 simp only [show ¬ ((i:Int) < 0) from by omega,if_false,Int.toNat_natCast,Array.getElem?_eq_getElem hi]
 refine wpAny_bind ?_;first | refine wpAny_bind (wpAny_typeNameOfWhole_keyiter ti.typeIs (wpAny_pure ?_)) | refine wpAny_bind (wpAny_typeNameOf_keyiter ti.typeIs (wpAny_pure ?_))
 refine wpAny_bind (wpAny_isOneOf_keyiter ti.typeIs ?_);show wpAny _ _ (setField (.ref it) 1 (rawInt ((i:Int)+1)) >>= _) _ _ s
 refine wpAny_bind (wpAny_setField ho hd (by simp) ?_)
 have ti':(s.heap.update it (Obj.mapFields (·.setIfInBounds 1 (rawInt ((i:Int)+1))))).IsKeyIter it d (i+1) es.size ep :=
  ⟨_,Heap.get?_update_self _ ho (Obj.isFreed_of_fields (Obj.data_mapFields hd _)),(Obj.cls_mapFields ..).trans hc,by rw [Obj.data_mapFields hd];simp [rawInt]⟩
 refine wpAny_bind (wpAny_holding (wpAny_bind (wpAny_isOneOf_keyiter (s := { s with heap:=s.heap.update it (Obj.mapFields (·.setIfInBounds 1 (rawInt ((i:Int)+1)))) }) ti'.typeIs ?_)))
 show wpAny _ _ (pure es[i].key) _ _ _;exact wpAny_pure (wpAny_pure ⟨_,rfl,wpAny_pure (q _ ti' (Heap.SameBut.update ..))⟩)
theorem PB {Q:Option Value->Shared->Prop} (hh:A.handled=none) (ti:s.heap.IsKeyIter it d es.size es.size ep) (m:ur s.heap d es ep)
  (q : ∀ h',Heap.ExtBut it s.heap h'->Q none { s with heap:=h' }):wpAny (model prog w) A (pyNext (.ref it)) Q E s:=by
 obtain ⟨o,ho,hc,hd⟩:=id ti
 obtain ⟨od,hod,hcd,V6⟩:=id m
 unfold pyNext
 refine wpAny_bind (wpAny_attempt (wpAny_callSpecial?_slot (name:=Str.ofString "__next__") ti.typeIs F.slot_dict_keyiterator_next (wpAny_call_entry F.slot_dict_keyiterator_next ti.typeIs F.entry_dict_keyiterator_next ?_ (F.args_dict_keyiterator_next_1 _))))
 refine wpAny_bind (wpAny_pure (wpAny_bind (wpAny_bind ?_)))
 first | refine wpAny_bind (wpAny_typeNameOfWhole_keyiter ti.typeIs (wpAny_pure ?_)) | refine wpAny_bind (wpAny_typeNameOf_keyiter ti.typeIs (wpAny_pure ?_))
 refine wpAny_bind (wpAny_fieldsOf ho hd ?_)
 have own:Builtin.Dict_items.ownsTuple "dict_keyiterator" = false:=by decide
 simp only [own,Bool.false_eq_true,if_false];show wpAny _ _ (if (Value.ref d == Value.none)=true then _ else _) _ _ s
 rw [if_neg (show ¬ ((Value.ref d == Value.none)=true) from Bool.false_ne_true)];refine wpAny_bind (wpAny_pure ?_)
 refine wpAny_bind (wpAny_dictEntries hod V6 ?_);rw [if_neg (by simp)]
 refine wpAny_bind (wpAny_pure (wpAny_bind (wpAny_dictEpoch hod V6 ?_)));rw [if_neg (by simp)]
 refine wpAny_pure ?_
 simp only [show ¬ ((es.size:Int) < 0) from by omega,if_false,Int.toNat_natCast,Array.getElem?_eq_none (Nat.le_refl es.size)]
 refine wpAny_bind ?_;first | refine wpAny_bind (wpAny_typeNameOfWhole_keyiter ti.typeIs (wpAny_pure ?_)) | refine wpAny_bind (wpAny_typeNameOf_keyiter ti.typeIs (wpAny_pure ?_))
 show wpAny _ _ (setField (.ref it) 0 .none >>= _) _ _ s;refine wpAny_bind (wpAny_setField ho hd (by simp) ?_)
 show wpAny _ _ (newExc (.type "StopIteration") [] >>= _) _ _ _;refine wpAny_bind ?_;simp only [newExc,newTuple]
 refine wpAny_bind (wpAny_newObj_type ?_ (by size_fits));refine wpAny_bind (m:=firstArgMember _ _) (wpAny_of_eq (a:=Value.none) (by first | rfl | (simp only [firstArgMember];rfl)) ?_)
 refine wpAny_newObj_type ?_ (by size_fits);simp only [raiseNew];refine wpAny_bind (wpAny_handled ?_);rw [show A.in1.handled=none from hh]
 refine wpAny_bind (wpAny_pure (wpAny_throw ?_));refine wpAny_bind (wpAny_isInstance (T := "StopIteration") (b:=true) ⟨_,Heap.get?_push_size _ rfl,rfl⟩ isSubtype_stop ?_)
 exact wpAny_pure (q _ (((Heap.SameBut.update ..).extBut.push _).push _))
theorem JD (hh:A.handled=none) (I d:Addr) (hne:d≠I) (es:Array DictEntry) (ep:Nat) :
  Walks prog w A I [I,d] [I] es.size (λ i v => ∃ e,es[i]? = some e/\v=e.key) (λ i h=>h.IsKeyIter I d i es.size ep/\ur h d es ep) where
 sub:=λ b hb=>by simp at hb;simp [hb]
 frame:=λ _ _ _ st hk=>⟨st.1.at λ o e=>hk I (by simp) o e,st.2.to λ o e=>hk d (by simp) o e⟩
 item:=λ i s Q E hi st hQ=>Mw st.1 st.2 hi λ h' ti' hs'=>hQ _ h' s.toks ⟨es[i],by simp [hi],rfl⟩ ⟨ti',st.2.to λ o e=>hs'.extBut d o hne e⟩ λ b o hb e=>hs'.extBut b o (λ h=>hb (by simp [h])) e
 done:=λ s Q E st hQ=>PB hh st.1 st.2 λ h' he'=>hQ h' s.toks λ b o hb e=>he' b o (λ h=>hb (by simp [h])) e
 self:=λ _ _ _ _ st hQ=>wpAny_pyIter_keyiter st.1 hQ
theorem PD (lo:(d == sysModules)=false):KdlSrc prog w "dict" d d es.size (λ i v => ∃ e,es[i]? = some e/\v=e.key) (λ h=>ur h d es ep) where
 type:=λ _ m=>m.ty
 there:=λ _ m=>⟨m.lt,m.lt⟩
 keep:=λ _ _ m k=>m.to λ o e=>k d (.inl rfl) o e
 notList:=by decide
 notTuple:=by decide
 hint:=λ _ _ _ _ m q=>kdl_hint_dict m.ty q
 iter:=λ _ _ hh m=>⟨_,_,(λ _ _ q=>Mv lo m q),JD hh _ d (Nat.ne_of_lt m.lt) es ep,⟨⟨_,Heap.get?_push_size _ rfl,rfl,rfl⟩,m.to λ o e=>Heap.get?_push_of_some _ e⟩⟩
end
section
variable {X:Cx}
def Cr:List V->Hp->VK->Prop:=λ xs H Q => ∃ (p:Addr) (kvs:List (List Key×V)),xs = [.ref p]/\H p=some (.dT kvs) ∧ ∀ (l:Addr) (as:List Addr),H l=none->as.length=kvs.length->(∀ (i:Nat) b k v,as[i]? = some b->kvs[i]? = some (k,v)->H b=some (.tup (k.map kV)))->Q (.ref l) (upd H l (.lst (as.map V.ref)))
theorem kt_at {H:Hp} : ∀ {kvs:List (List Key×V)} {xs:List (List Key×Addr×Value)},KT H kvs xs->∀ (i:Nat) x k v,xs[i]? = some x->kvs[i]? = some (k,v)->H x.2.1=some (.tup (k.map kV)):=by
 intro kvs xs r
 induction r with
 | nil=>intro i x k v h;simp at h
 | @cons p q ps qs hq t ih =>
   intro i x k v h1 h2
   cases i with
   | zero =>
     simp only [List.getElem?_cons_zero,Option.some.injEq] at h1 h2
     subst h1
     rw [h2] at hq
     exact hq.2.1
   | succ i=>exact ih i x k v (by simpa using h1) (by simpa using h2)
theorem Gh {us:List Value} {as:List Addr} (h:us=as.map Value.ref):Vals (as.map V.ref) us:=by
 subst h
 induction as with
 | nil=>exact .nil
 | cons a as ih=>exact .cons rfl ih
theorem gC (hc:X.calm=true):lN X (.type "list") Cr:=by
 intro pins s σ H xs us Q I r h
 obtain ⟨p,kvs,rfl,hp,q⟩:=h
 obtain ⟨u,rfl,rx⟩:=vals1 r
 cases rx
 obtain ⟨hz,hS,zs,rr,o,es,ep,h1,h2,h3,h4,_,_⟩:=Q5 I.hok hp
 have hl:kvs.length=zs.length:=Paired.length rr
 have hsz:es.size=zs.length:=by rw [<-Array.length_toList,h4,List.length_map]
 refine kdl_call (PD (es:=es) (ep:=ep) hS) (I.ok.hd hc) ⟨o,h1,h2,h3⟩ (by omega) λ h' tk acc' c' hk' hS' hacc => ?_
 have hat:acc'.toList=(zs.map λ z=>z.2.1).map Value.ref:=by
  refine List.ext_getElem? λ i => ?_
  by_cases hi:i < zs.length
  ·have hi2:i < acc'.toList.length:=by rw [Array.length_toList,hacc.1];omega
   rw [List.getElem?_eq_getElem hi2]
   obtain ⟨e,he,ev⟩:=hacc.2 i _ (by rw [<-Array.getElem?_toList];exact List.getElem?_eq_getElem hi2)
   have zu:es.toList[i]? = some e:=by rw [Array.getElem?_toList];exact he
   rw [h4,List.getElem?_map,List.getElem?_eq_getElem hi] at zu
   rw [ev,List.getElem?_map,List.getElem?_map,List.getElem?_eq_getElem hi]
   have:e=entryOfKey (tupleKind (b8 X.prog X.w)) zs[i]:=(Option.some.inj zu).symm
   rw [this]
   rfl
  ·rw [List.getElem?_eq_none (by rw [Array.length_toList,hacc.1];omega),List.getElem?_eq_none (by simp;omega)]
 refine ⟨.ref s.heap.objs.size,_,I.laid (t':=tk) hk' (Nat.le_refl _) (show bY X.prog X.w _ h' _ (.lst ((zs.map λ z=>z.2.1).map V.ref)) from ⟨by rw [List.length_map,List.length_map];omega,acc'.toList,c',Gh hat,by simpa using hS'⟩),rfl,q _ (zs.map λ z=>z.2.1) (I.hok.fresh (Nat.le_refl _)) (by rw [List.length_map];omega) λ i b k v hb hkv => ?_⟩
 rw [List.getElem?_map] at hb
 obtain ⟨x,hx,rfl⟩:=Option.map_eq_some_iff.mp hb
 exact kt_at rr i x k v hx hkv
theorem PF {H:Hp} {Q:VK} {p:Addr} {kvs:List (List Key×V)} (h1:H p=some (.dT kvs)) (h : ∀ (l:Addr) (as:List Addr),H l=none->as.length=kvs.length->(∀ (i:Nat) b k v,as[i]? = some b->kvs[i]? = some (k,v)->H b=some (.tup (k.map kV)))->Q (.ref l) (upd H l (.lst (as.map V.ref)))):Cr [.ref p] H Q:=⟨p,kvs,rfl,h1,h⟩
end
end L2
namespace L2
open PySem PySem.Spec PyProof.Rows
class wF (G:Prop) (P:outParam Prop):Prop where
 h:P->G
class d7 (G:Prop) (P:outParam Prop):Prop where
 h:P->G
section
variable {σ : St} {H:Hp} {Q:VK} {D:Ends} {ta tb tc te:TE} {t u:TA} {r:R2} {b:TS} {QB:Bool->Hp->Prop} {c d:TT} {QA:List V->Hp->Prop}
instance YY {α β : Type} {S : α->β->Prop} {g:(α->β->Prop)->Prop} : d7 (Hid S g) (∀ R,(∀ x y,S x y->R x y)->g R):=⟨Yy⟩
instance YZ {t u:TS} {D:Ends} {σ : St} {H:Hp} : d7 (Lv t u D σ H) (∀ M,Is M (u D)->t { D with nx:=M } σ H):=⟨Yp⟩
instance Xk  : d7 (HX te t σ H QA) (∀ R,Is R (λ x H1=>t σ H1 λ xs H2=>QA (x::xs) H2)->te σ H R):=⟨VA⟩
instance aha  : d7 (R8 r ta tb σ H Q) (∀ R,(∀ x H1,Hid (λ y H2=>r x y H2 Q) (λ R2=>tb σ H1 R2)->R x H1)->ta σ H R):=⟨opH⟩
instance Y0 {g:TG} : d7 (LC te g D σ H) (∀ R,Is R (λ x H1=>g x σ H1 D.nx)->te σ H R):=⟨Yz⟩
instance Y3  : d7 (OV te D σ H) (∀ R,Is R (λ x H1=>D.rt x H1)->te σ H R):=⟨YA⟩
instance Xl  : d7 (Ly te D σ H) (∀ R,Is R (λ _ H1=>D.nx σ H1)->te σ H R):=⟨Vu⟩
instance ahb {a b:TS} : d7 (Lz c a b D σ H) (∀ R,Is R (λ k H1=>if k=true then a D σ H1 else b D σ H1)->c σ H R):=⟨ifH⟩
instance Xm  : d7 (Bg te σ H QB) (∀ R,Is R (λ x H1 => ∃ k,x = .bl k/\QB k H1)->te σ H R):=⟨Vv⟩
instance ahc  : d7 (tB te σ H QB) (∀ R,Is R (λ x H1 => ∃ k,x = .bl k/\QB k H1)->te σ H R):=⟨tBH⟩
instance Y4  : d7 (RY c σ H QB) (∀ R,Is R (λ k H1=>QB (!k) H1)->c σ H R):=⟨YB⟩
instance Y5  : d7 (RX c d σ H QB) (∀ R,Is R (λ k H1=>if k=true then d σ H1 QB else QB false H1)->c σ H R):=⟨YC⟩
instance ahd  : d7 (X8 c d σ H QB) (∀ R,Is R (λ k H1=>if k=true then QB true H1 else d σ H1 QB)->c σ H R):=⟨orH⟩
instance Xn  : d7 (Lq ta tb σ H Q) (∀ R,Is R (λ x H1 => ∃ c,x = .bl c/\if c=true then tb σ H1 Q else Q (.bl false) H1)->ta σ H R):=⟨Vx⟩
instance Y6  : d7 (RZ ta tb σ H Q) (∀ R,Is R (λ x H1 => ∃ c,x = .bl c/\if c=true then Q (.bl true) H1 else tb σ H1 Q)->ta σ H R):=⟨YD⟩
instance Xo  : d7 (Ls ta σ H Q) (∀ R,Is R (λ x H1 => ∃ c,x = .bl c/\Q (.bl (!c)) H1)->ta σ H R):=⟨Vy⟩
instance ahe {q:V->Hp->VK->Prop} : d7 (Yd q ta σ H Q) (∀ R,Is R (λ x H1=>q x H1 Q)->ta σ H R):=⟨unH⟩
instance ahf {q:V->Option Int->Option Int->Hp->VK->Prop} {tl th:TO} : d7 (Yh q te tl th σ H Q) (∀ R,Is R (λ x H1=>tl σ H1 λ l H2=>th σ H2 λ u H3=>q x l u H3 Q)->te σ H R):=⟨slH⟩
instance Xp {QO:Option Int->Hp->Prop} : d7 (L1 te σ H QO) (∀ R,Is R (λ x H1 => ∃ i,x = .int i/\QO (some i) H1)->te σ H R):=⟨Vz⟩
instance Y7  : d7 (Sb t σ H Q) (∀ R,Is R (λ xs H1=>xs.length<=sizeLine ∧ ∀ p,H1 p=none->Q (.ref p) (upd H1 p (.tup xs)))->t σ H R):=⟨YE⟩
instance Y8  : d7 (Sd t σ H Q) (∀ R,Is R (λ xs H1=>xs.length<=sizeLine ∧ ∀ p,H1 p=none->Q (.ref p) (upd H1 p (.lst xs)))->t σ H R):=⟨YF⟩
instance Xq {sp:Sp} {jv:List V} {E:XK} : d7 (HY sp jv E t σ H Q) (∀ R,Is R (λ vs H1=>sp (vs++jv) H1 Q E)->t σ H R):=⟨VB⟩
instance ahg {q:List V->Hp->VK->Prop} : d7 (U8 q t σ H Q) (∀ R,Is R (λ vs H1=>q vs H1 Q)->t σ H R):=⟨cbH⟩
instance Xr {C:Addr} {m:Str} {sp:Sp} {jv:List V} {E:XK} : d7 (Bj C m sp jv E ta t σ H Q) (∀ R,Is R (λ x H1 => ∃ a dx fs,x = .ref a/\H1 a=some (.ins C dx fs)/\fs.lookup m=none/\t σ H1 λ vs H2=>sp (x::(vs++jv)) H2 Q E)->ta σ H R):=⟨VC⟩
instance Xs {C:Addr} {sp:Sp} {jv:List V} {E:XK} : d7 (Bk C sp jv E t σ H Q) (∀ R,Is R (λ vs H1 => ∀ x dx,H1 x=none->H1 dx=none->dx≠x->sp (.ref x::(vs++jv)) (upd (upd H1 dx (.own x)) x (.ins C dx [])) (λ v H2=>v = .aM/\Q (.ref x) H2) E)->t σ H R):=⟨VD⟩
instance Y9 {C:Addr} {f:Str} : d7 (Mg C ta f σ H Q) (∀ R,Is R (λ x H1 => ∃ a dx fs v,x = .ref a/\H1 a=some (.ins C dx fs)/\fs.lookup f=some v/\Q v H1)->ta σ H R):=⟨YG⟩
instance Xu {C:Addr} {f:Str} : d7 (Mh C ta te f D σ H) (∀ R,Is R (λ y H1=>ta σ H1 λ x H2 => ∃ a dx fs,x = .ref a/\H2 a=some (.ins C dx fs)/\fs.length < 1000/\D.nx σ (upd H2 a (.ins C dx (dg f y fs))))->te σ H R):=⟨VE⟩
instance ahh {K:PySem.W.Frag} {T:String} {q:V->List V->Hp->VK->Prop} : d7 (Yj K T q ta t σ H Q) (∀ R,Is R (λ x H1=>Vd K T x H1/\t σ H1 λ xs H2=>q x xs H2 Q)->ta σ H R):=⟨bmH⟩
instance Xv  : d7 (LU ta tb te D σ H) (∀ R,(∀ v H1,Hid (λ x H2=>Hid (λ y H3 => ∃ a H4,x = .ref a/\oK H3 a y v H4/\D.nx σ H4) (λ R3=>tb σ H2 R3)) (λ R2=>ta σ H1 R2)->R v H1)->te σ H R):=⟨VF⟩
instance Xw {to ti:TE} {tt:LA} {v:V} {QS:St->Hp->Prop} : d7 (R4 to ti tt v σ H QS) (∀ R,(∀ o H1,Hid (λ i H2=>tt o i v H2 λ H3=>QS σ H3) (λ R2=>ti σ H1 R2)->R o H1)->to σ H R):=⟨VG⟩
instance Xx  : d7 (LS ta tb σ H Q) (∀ R,Is R (λ x H1=>tb σ H1 λ y H2 => ∃ a v,x = .ref a/\fY H2 a y (some v)/\Q v H2)->ta σ H R):=⟨VH⟩
instance Za  : d7 (Sf ta tb σ H Q) (∀ R,Is R (λ y H1=>tb σ H1 λ x H2 => ∃ a o,x = .ref a/\fY H2 a y o/\Q (.bl o.isSome) H2)->ta σ H R):=⟨YH⟩
instance Xy  : d7 (BZ ta tb σ H Q) (∀ R,Is R (λ y H1=>tb σ H1 λ x H2 => ∃ a o,x = .ref a/\fY H2 a y o/\Q (.bl (!o.isSome)) H2)->ta σ H R):=⟨VI⟩
instance Zb {v:V} : wF (tC v σ H Q) (Q v H):=⟨YI⟩
instance Zc  : wF (D0 σ H QA) (QA [] H):=⟨YJ⟩
instance ahi {g:Int->Int->V} {i j:Int} : wF (LI g (.int i) (.int j) H Q) (Q (g i j) H):=⟨i0H⟩
instance Xz {i:Nat} {v:V} {QS:St->Hp->Prop} : wF (tQ i v σ H QS) (QS (σ.set i (some v)) H):=⟨VM⟩
instance XA  : wF (HR D σ H) (D.nx σ H):=⟨VL⟩
instance ahr {g:Int->V} {i:Int} : wF (rU g (.int i) H Q) (Q (g i) H):=⟨uH⟩
instance UE {QO:Option Int->Hp->Prop} : wF (B0 σ H QO) (QO none H):=⟨Pq⟩
instance ahj {b:Bool} {S:Bool->Prop} : wF (∃ k,V.bl b = .bl k/\S k) (S b):=⟨blH⟩
instance Zd {n:Int} {S:Int->Prop} : wF (∃ k,V.int n = .int k/\S k) (S n):=⟨YK⟩
instance Ze {m n:Int} : wF (Sa (.int m) (.int n) H Q) (Q (.bl (decide (m=n))) H):=⟨YL⟩
instance Zf {m n:Int} : wF (Ye (.int m) (.int n) H Q) (Q (.bl (!decide (m=n))) H):=⟨YM⟩
instance Zg {m n:Str} : wF (Sa (.str m) (.str n) H Q) (Q (.bl (decide (m=n))) H):=⟨YN⟩
instance Zh {m n:Bool} : wF (Sa (.bl m) (.bl n) H Q) (Q (.bl (decide (m=n))) H):=⟨YO⟩
instance Zi {A B:Prop} : wF (if true=true then A else B) (A):=⟨Vj⟩
instance Zj {A B:Prop} : wF (if false=true then A else B) (B):=⟨Vi⟩
instance XD {A B:Prop} : wF (if (!true)=true then A else B) (B):=⟨Rl⟩
instance XE {A B:Prop} : wF (if (!false)=true then A else B) (A):=⟨Rm⟩
instance V7  : wF (rI oG (λ i j => .int (i ^ j.toNat)) (.int 10) (.int 60) H Q) (Q (.int 1000000000000000000000000000000000000000000000000000000000000) H):=⟨SK⟩
instance V8  : wF (rI oG (λ i j => .int (i ^ j.toNat)) (.int 10) (.int 59) H Q) (Q (.int 100000000000000000000000000000000000000000000000000000000000) H):=⟨SM⟩
instance V9  : wF (rI oG (λ i j => .int (i ^ j.toNat)) (.int 10) (.int 20) H Q) (Q (.int 100000000000000000000) H):=⟨SN⟩
instance Wa  : wF (rI oG (λ i j => .int (i ^ j.toNat)) (.int 10) (.int 40) H Q) (Q (.int 10000000000000000000000000000000000000000) H):=⟨SY⟩
end
end L2
set_option maxHeartbeats 4000000
namespace My
open PySem PySem.Spec PyProof.Rows L2
def top (i : Nat) : Stmt := PySem.Challenge.pw_paneworks_k42_things_brought.main.body.getD i (.Pass ⟨0, 0, 0, 0⟩)
abbrev fz:Stmt:=inClass (top 8) 0
theorem qd:aD ["self","many"] ["self","many"] (ai fz):=by walk_at "sc"
abbrev cY:Stmt:=inClass (top 8) 1
theorem kN:aD ["self"] ["self"] (ai cY):=by walk_at "sc"
abbrev ef:Stmt:=inClass (top 8) 2
theorem nU:aD ["self","frame"] ["self","frame"] (ai ef):=by walk_at "sc"
abbrev eg:Stmt:=inClass (top 8) 3
theorem nV:aD ["self","frame"] ["self","frame"] (ai eg):=by walk_at "sc"
abbrev ek:Stmt:=inClass (top 8) 4
theorem nW:aD ["self"] ["self"] (ai ek):=by walk_at "sc"
abbrev dO:Stmt:=inClass (top 8) 5
theorem lY:aD ["self","may","many","step","frame"] ["self","may"] (ai dO):=by walk_at "sc"
abbrev eu:Stmt:=inClass (top 10) 0
theorem nX:aD ["self"] ["self"] (ai eu):=by walk_at "sc"
abbrev eB:Stmt:=inClass (top 10) 1
theorem nY:aD ["self","name","rows"] ["self","name","rows"] (ai eB):=by walk_at "sc"
abbrev cE:Stmt:=inClass (top 10) 2
theorem jB:aD ["self","name"] ["self","name"] (ai cE):=by walk_at "sc"
abbrev cZ:Stmt:=inClass (top 10) 3
theorem kO:aD ["self","name","page"] ["self","name","page"] (ai cZ):=by walk_at "sc"
abbrev bQ:Stmt:=inClass (top 10) 4
theorem iF:aD ["self","name","page","row"] ["self","name","page","row"] (ai bQ):=by walk_at "sc"
abbrev b3:Stmt:=inClass (top 10) 7
theorem iX:aD ["self","name"] ["self","name"] (ai b3):=by walk_at "sc"
abbrev b4:Stmt:=inClass (top 10) 8
theorem iY:aD ["self","name","page","size"] ["self","name","page"] (ai b4):=by walk_at "sc"
abbrev eE:Stmt:=top 12
theorem zv:aD ["row","cell","numbers"] ["row","cell","numbers"] (ai eE):=by walk_at "sc"
abbrev dP:Stmt:=inClass (top 14) 0
theorem lZ:aD ["self","many"] ["self","many"] (ai dP):=by walk_at "sc"
abbrev dQ:Stmt:=inClass (top 14) 1
theorem l5:aD ["self","frame","thing","row"] ["self","frame","thing","row"] (ai dQ):=by walk_at "sc"
abbrev c6:Stmt:=inClass (top 14) 2
theorem kP:aD ["self","frame"] ["self","frame"] (ai c6):=by walk_at "sc"
abbrev bR:Stmt:=inClass (top 14) 3
theorem iG:aD ["self","frame"] ["self","frame"] (ai bR):=by walk_at "sc"
abbrev cG:Stmt:=inClass (top 14) 4
theorem jC:aD ["self","frame"] ["self","frame"] (ai cG):=by walk_at "sc"
abbrev cH:Stmt:=inClass (top 14) 5
theorem jD:aD ["self","frame","cell","numbers"] ["self","frame","cell","numbers"] (ai cH):=by walk_at "sc"
abbrev bN:Stmt:=inClass (top 14) 6
theorem gR:aD ["self","frame"] ["self","frame"] (ai bN):=by walk_at "sc"
abbrev bI:Stmt:=inClass (top 14) 7
theorem gD:aD ["self"] ["self"] (ai bI):=by walk_at "sc"
abbrev c7:Stmt:=inClass (top 14) 8
theorem kQ:aD ["self","thing"] ["self","thing"] (ai c7):=by walk_at "sc"
abbrev cJ:Stmt:=inClass (top 14) 9
theorem jE:aD ["self"] ["self"] (ai cJ):=by walk_at "sc"
abbrev eG:Stmt:=inClass (top 16) 0
theorem nZ:aD ["self","many"] ["self","many"] (ai eG):=by walk_at "sc"
abbrev c8:Stmt:=inClass (top 16) 1
theorem kR:aD ["self","sheet","row","place"] ["self","sheet","row"] (ai c8):=by walk_at "sc"
abbrev b5:Stmt:=inClass (top 16) 2
theorem iZ:aD ["self","sheet"] ["self","sheet"] (ai b5):=by walk_at "sc"
abbrev bE:Stmt:=inClass (top 16) 3
theorem fZ:aD ["self","sheet"] ["self","sheet"] (ai bE):=by walk_at "sc"
abbrev Ex:Stmt:=inClass (top 16) 4
theorem PJ:aD ["self","sheet"] ["self","sheet"] (ai Ex):=by walk_at "sc"
abbrev cK:Stmt:=inClass (top 16) 5
theorem jF:aD ["self"] ["self"] (ai cK):=by walk_at "sc"
abbrev dc:Stmt:=inClass (top 16) 6
theorem kT:aD ["self"] ["self"] (ai dc):=by walk_at "sc"
abbrev eK:Stmt:=inClass (top 18) 0
theorem n5:aD ["self","many","places"] ["self","many","places"] (ai eK):=by walk_at "sc"
abbrev gi:Stmt:=top 19
theorem tY:aD ["thing"] ["thing"] (ai gi):=by walk_at "sc"
abbrev eL:Stmt:=top 20
theorem n6:aD ["store","frame"] ["store","frame"] (ai eL):=by walk_at "sc"
abbrev iw:Stmt:=top 21
theorem wG:aD ["store","frame","thing","row"] ["store","frame"] (ai iw):=by walk_at "sc"
abbrev eN:Stmt:=top 22
theorem n8:aD ["store","free","full","frame"] ["store"] (ai eN):=by walk_at "sc"
abbrev iy:Stmt:=top 23
theorem wH:aD ["store","thing"] ["store","thing"] (ai iy):=by walk_at "sc"
abbrev nt:Stmt:=top 24
theorem Ey:aD ["store","thing","frame","row"] ["store","thing"] (ai nt):=by walk_at "sc"
abbrev iz:Stmt:=top 26
theorem wI:aD ["store","most"] ["store"] (ai iz):=by walk_at "sc"
abbrev fB:Stmt:=top 27
theorem qe:aD ["store","row","frame","sheet"] ["store","row"] (ai fB):=by walk_at "sc"
abbrev fC:Stmt:=top 29
theorem Ct:aD ["_law_script","_law_k"] ["_law_script","_law_k"] (ai fC):=by walk_at "sc"
abbrev iA:Stmt:=top 30
theorem wJ:aD ["_law_found"] ["_law_found"] (ai iA):=by walk_at "sc"
abbrev fD:Stmt:=top 31
theorem oS:aD ["_law_found","_law_due","_law_k"] ["_law_found","_law_due"] (ai fD):=by walk_at "sc"
abbrev nu:Stmt:=top 32
theorem Ez:aD ["_law_cell","_law_k","_law_most","_law_big","_law_way"] ["_law_cell","_law_k"] (ai nu):=by walk_at "sc"
abbrev nv:Stmt:=top 33
theorem EA:aD ["_law_cell"] ["_law_cell"] (ai nv):=by walk_at "sc"
abbrev jG:Stmt:=top 34
theorem BA:aD ["_law_cell","_law_turn","_law_letters","_law_size","_law_spot","_law_name_here","_law_k","_law_sign"] ["_law_cell","_law_turn"] (ai jG):=by walk_at "sc"
abbrev fE:Stmt:=top 35
theorem qf:aD ["_law_row_here","_law_cell","_law_nums","_law_due","_law_k"] ["_law_row_here","_law_cell","_law_nums"] (ai fE):=by walk_at "sc"
abbrev iB:Stmt:=top 36
theorem wK:aD ["_law_cell"] ["_law_cell"] (ai iB):=by walk_at "sc"
abbrev jH:Stmt:=top 37
theorem BB:aD ["_law_spots","_law_marks","_law_shelf","_law_pointer","_law_found","_law_may","_law_far","_law_marked","_law_frame","_law_ahead"] ["_law_spots","_law_marks","_law_shelf","_law_pointer","_law_found"] (ai jH):=by walk_at "sc"
abbrev eO:Stmt:=top 38
theorem oh:aD ["_law_store","_law_spots","_law_marks","_law_shelf","_law_pointer"] ["_law_store","_law_spots","_law_marks","_law_shelf","_law_pointer"] (ai eO):=by walk_at "sc"
abbrev jI:Stmt:=top 39
theorem BC:aD ["_law_store","_law_spots","_law_marks","_law_rows","_law_soil","_law_cell","_law_spot","_law_frame","_law_at","_law_nums"] ["_law_store","_law_spots","_law_marks","_law_rows","_law_soil","_law_cell"] (ai jI):=by walk_at "sc"
abbrev dR:Stmt:=top 40
theorem l6:aD ["_law_store","_law_spots","_law_shelf","_law_thing"] ["_law_store","_law_spots","_law_shelf","_law_thing"] (ai dR):=by walk_at "sc"
abbrev jJ:Stmt:=top 41
theorem BD:aD ["_law_store","_law_spots","_law_shelf","_law_rows","_law_cell","_law_spot","_law_lying","_law_waiting","_law_made_here","_law_thing"] ["_law_store","_law_spots","_law_shelf","_law_rows","_law_cell"] (ai jJ):=by walk_at "sc"
abbrev iC:Stmt:=top 42
theorem wL:aD ["_law_store","_law_spots","_law_shelf","_law_rows","_law_script","_law_turn","_law_name_here","_law_pages","_law_made_here","_law_page","_law_many","_law_k","_law_cell"] ["_law_store","_law_spots","_law_shelf","_law_rows","_law_script"] (ai iC):=by walk_at "sc"
abbrev fF:Stmt:=top 43
theorem qg:aD ["_law_store","_law_spots","_law_soil","_law_cell","_law_frame","_law_due"] ["_law_store","_law_spots","_law_soil","_law_cell"] (ai fF):=by walk_at "sc"
abbrev fG:Stmt:=top 44
theorem qh:aD ["_law_store","_law_spots","_law_marks","_law_shelf","_law_rows","_law_soil","_law_pointer","_law_thing","_law_found","_law_filled","_law_spot"] ["_law_store","_law_spots","_law_marks","_law_shelf","_law_rows","_law_soil","_law_pointer","_law_thing"] (ai fG):=by walk_at "sc"
abbrev jK:Stmt:=top 45
theorem BE:aD ["_law_store","_law_spots","_law_marks","_law_shelf","_law_rows","_law_pointer","_law_cell","_law_made_here","_law_row_here","_law_handed","_law_found"] ["_law_store","_law_spots","_law_marks","_law_shelf","_law_rows","_law_pointer","_law_cell"] (ai jK):=by walk_at "sc"
abbrev jL:Stmt:=top 46
theorem BF:aD ["_law_store","_law_spots","_law_marks","_law_shelf","_law_rows","_law_soil","_law_pointer","_law_cell","_law_things","_law_made_here","_law_thing"] ["_law_store","_law_spots","_law_marks","_law_shelf","_law_rows","_law_soil","_law_pointer","_law_cell"] (ai jL):=by walk_at "sc"
abbrev wM:Stmt:=top 47
theorem S8:aD ["_law_script","_law_many","_law_places","_law_store","_law_spots","_law_marks","_law_shelf","_law_rows","_law_soil","_law_pointer","_law_cell","_law_thing"] ["_law_script"] (ai wM):=by walk_at "sc"
structure Txt (K:PySem.W.Frag) (mg:Str->Option Value) (cU cA cB cC cT cF cD cS cI:Addr):Prop where
 Full:Exc K mg "Full" cU
 S9:Exc K mg "NoFile" cA
 Tc:Exc K mg "NoPage" cB
 Taken:Exc K mg "Taken" cC
 bz:uq K mg "Store" cT
 bL:cW K cT "frames"
 l7:cW K cT "dial"
 ko:cW K cT "shelf"
 qi:cW K cT "files"
 rJ:cW K cT "holders"
 jq:cW K cT "sheets_made"
 PK:oM K cT "Store.__init__" eK
 Frames:uq K mg "Frames" cF
 oU:cW K cF "held"
 rK:cW K cF "rows"
 l8:cW K cF "soiled"
 Mx:oM K cF "Frames.__init__" dP
 zw:bM K cF "fill" "Frames.fill" dQ
 wN:bM K cF "empty" "Frames.empty" c6
 qj:bM K cF "thing_in" "Frames.thing_in" bR
 uu:bM K cF "row_in" "Frames.row_in" cG
 uv:bM K cF "put_in" "Frames.put_in" cH
 oV:bM K cF "is_soiled" "Frames.is_soiled" bN
 nB:bM K cF "least_free" "Frames.least_free" bI
 wO:bM K cF "where" "Frames.where" c7
 uw:bM K cF "things" "Frames.things" cJ
 kr:uq K mg "Dial" cD
 i6:cW K cD "stands_at"
 iI:cW K cD "marked"
 Td:oM K cD "Dial.__init__" fz
 wQ:bM K cD "pointer" "Dial.pointer" cY
 Cu:bM K cD "touch" "Dial.touch" ef
 Cv:bM K cD "clear" "Dial.clear" eg
 Cw:bM K cD "marks" "Dial.marks" ek
 zx:bM K cD "choose" "Dial.choose" dO
 fN:uq K mg "Shelf" cS
 iJ:cW K cS "placed"
 fO:cW K cS "row_by_sheet"
 PL:oM K cS "Shelf.__init__" eG
 wR:bM K cS "put_on" "Shelf.put_on" c8
 rL:bM K cS "take_off" "Shelf.take_off" b5
 l9:bM K cS "row_of_sheet" "Shelf.row_of_sheet" bE
 ux:bM K cS "is_full" "Shelf.is_full" cK
 wU:bM K cS "sheets" "Shelf.sheets" dc
 gS:uq K mg "Files" cI
 b6:cW K cI "rows_by_name"
 PM:oM K cI "Files.__init__" eu
 Cy:bM K cI "make" "Files.make" eB
 uy:bM K cI "size_of" "Files.size_of" cE
 wV:bM K cI "row_at" "Files.row_at" cZ
 qk:bM K cI "store_row" "Files.store_row" bQ
 rM:bM K cI "ask_name" "Files.ask_name" b3
 rN:bM K cI "ask_page" "Files.ask_page" b4
 Cz:Def K mg "with_cells" eE
 Gi:Def K mg "is_sheet" gi
 CA:Def K mg "free_frame" eL
 JE:Def K mg "put_out" iw
 CB:Def K mg "have_frame" eN
 JF:Def K mg "fetched" iy
 PN:Def K mg "bring" nt
 JG:Def K mg "room_of" iz
 EB:Def K mg "new_sheet" fB
 EC:Def K mg "_law_cell_at" fC
 JH:Def K mg "_law_whole" iA
 JI:Def K mg "_law_alike" fD
 PR:Def K mg "_law_num" nu
 PU:Def K mg "_law_row" nv
 Mz:Def K mg "_law_name" jG
 ED:Def K mg "_law_laid_in" fE
 JJ:Def K mg "_law_sizes" iB
 MA:Def K mg "_law_goes" jH
 CC:Def K mg "_law_is_store" eO
 MB:Def K mg "_law_stir" jI
 zy:Def K mg "_law_row_there" dR
 MC:Def K mg "_law_fill" jJ
 JK:Def K mg "_law_begun" iC
 EE:Def K mg "_law_is_soil" fF
 EF:Def K mg "_law_brought" fG
 MD:Def K mg "_law_made" jK
 ME:Def K mg "_law_deed" jL
 Wb:Def K mg "law" wM
theorem F6 {K:PySem.W.Frag} {h:Heap} {mg:Str->Option Value} {cU cA cB cC cT cF cD cS cI:Addr} {i7:Addr} {zA:Value} {zB zC:Option Addr} {wW:Array (Option Value)} {zD wX zE mh zF:Value} {g8:Addr} {wY:Value} {wZ w4:Option Addr} {uz:Array (Option Value)} {w6 uA xg kU xh:Value} {g9:Addr} {xj:Value} {xm xo:Option Addr} {uB:Array (Option Value)} {xq uC xu kW xw:Value} {gq:Addr} {uD:Value} {uE uF:Option Addr} {rO:Array (Option Value)} {uG rP uI jM uJ:Value} {eS:Addr} {oW:Value} {oX oY:Option Addr} {nC:Array (Option Value)} {oZ nD o4 gT o5:Value} {fP:Addr} {rQ:Value} {rR rT:Option Addr} {ql:Array (Option Value)} {rV qm rW i8 rX:Value} {fQ:Addr} {rY:Value} {rZ r8:Option Addr} {qp:Array (Option Value)} {r9 qq sj i9 sr:Value} {dX:Addr} {nE:Value} {nF nG:Option Addr} {mj:Array (Option Value)} {nH mq nI gE nJ:Value} {dB:Addr} {mw:Value} {mz mD:Option Addr} {lq:Array (Option Value)} {mE lu mF f7 mG:Value} {gu:Addr} {uK:Value} {uL uM:Option Addr} {su:Array (Option Value)} {uN sy uO jN uP:Value} {fR:Addr} {sA:Value} {sC sD:Option Addr} {qu:Array (Option Value)} {sE qv sF ja sG:Value} {ku:Addr} {CD:Value} {CF CG:Option Addr} {zG:Array (Option Value)} {CH zH CI oi CJ:Value} {gv:Addr} {uQ:Value} {uR uS:Option Addr} {sH:Array (Option Value)} {uT sI uU jO uV:Value} {jb:Addr} {zI:Value} {zJ zK:Option Addr} {xx:Array (Option Value)} {zL xy zM mH zN:Value} {jc:Addr} {zO:Value} {zP zQ:Option Addr} {xA:Array (Option Value)} {zR xB zS mJ zT:Value} {jd:Addr} {zU:Value} {zV zW:Option Addr} {xC:Array (Option Value)} {zX xD zY mK zZ:Value} {ia:Addr} {xE:Value} {xF xG:Option Addr} {uW:Array (Option Value)} {xH uX xJ kX xK:Value} {je:Addr} {Aa:Value} {Ab Ac:Option Addr} {xM:Array (Option Value)} {Ad xN Ae mL Af:Value} {gw:Addr} {uY:Value} {uZ u0:Option Addr} {sJ:Array (Option Value)} {u5 sL u6 jP u7:Value} {fk:Addr} {qw:Value} {qx qy:Option Addr} {o6:Array (Option Value)} {qz o7 qA iK qB:Value} {cV:Addr} {lz:Value} {lA lB:Option Addr} {kD:Array (Option Value)} {lC kE lD fS lE:Value} {fT:Addr} {sM:Value} {sN sO:Option Addr} {qC:Array (Option Value)} {sP qD sQ jf sR:Value} {gx:Addr} {u9:Value} {vc vd:Option Addr} {sS:Array (Option Value)} {ve sU vf jQ vg:Value} {jg:Addr} {Ag:Value} {Ah Ai:Option Addr} {xO:Array (Option Value)} {Aj xP Ak mO Al:Value} {jh:Addr} {Am:Value} {An Ao:Option Addr} {xQ:Array (Option Value)} {Aq xR Ar mP As:Value} {fU:Addr} {sV:Value} {sW sX:Option Addr} {qE:Array (Option Value)} {sY qF sZ ji tw:Value} {gy:Addr} {vh:Value} {vm vn:Option Addr} {tD:Array (Option Value)} {vo tE vp jR vq:Value} {eT:Addr} {o8:Value} {o9 pq:Option Addr} {nK:Array (Option Value)} {pA nL pB gU pC:Value} {fm:Addr} {qG:Value} {qH qI:Option Addr} {pD:Array (Option Value)} {qJ pF qK iL qL:Value} {fq:Addr} {qM:Value} {qN qO:Option Addr} {pG:Array (Option Value)} {qP pH qQ iM qR:Value} {mQ:Addr} {Au:Value} {Av Aw:Option Addr} {xS:Array (Option Value)} {Ax xT Ay mR Az:Value} {tF:Addr} {EG:Value} {EH EI:Option Addr} {CK:Array (Option Value)} {EJ CL EK qS EL:Value} {mT:Addr} {AA:Value} {AB AD:Option Addr} {xU:Array (Option Value)} {AE xV AF mU AG:Value} {xW:Addr} {Gj:Value} {Gk Gm:Option Addr} {EM:Array (Option Value)} {Gn EN Gp tZ Gq:Value} {mV:Addr} {AH:Value} {AI AJ:Option Addr} {xX:Array (Option Value)} {AK xY AL mW AM:Value} {xZ:Addr} {Gr:Value} {Gs Gu:Option Addr} {EO:Array (Option Value)} {Gv ER Gw t6 Gx:Value} {Gy:Addr} {MF:Value} {MG MH:Option Addr} {JL:Array (Option Value)} {MI JM MJ BG MK:Value} {x8:Addr} {Gz:Value} {GA GB:Option Addr} {ES:Array (Option Value)} {GC ET GD t7 GF:Value} {pI:Addr} {CM:Value} {CN CO:Option Addr} {AN:Array (Option Value)} {CP AO CQ oj CS:Value} {pJ:Addr} {CT:Value} {CU CV:Option Addr} {AQ:Array (Option Value)} {CW AR CY oq CZ:Value} {x9:Addr} {GG:Value} {GH GI:Option Addr} {EU:Array (Option Value)} {GJ EV GK t8 GL:Value} {yb:Addr} {GN:Value} {GO GP:Option Addr} {EW:Array (Option Value)} {GQ EX GR t9 GS:Value} {GU:Addr} {ML:Value} {MM MN:Option Addr} {JN:Array (Option Value)} {MO JO MP BH MQ:Value} {GV:Addr} {MR:Value} {MS MT:Option Addr} {JP:Array (Option Value)} {MU JQ MV BI MW:Value} {C0:Addr} {JR:Value} {JS JT:Option Addr} {GW:Array (Option Value)} {JU GX JV yc JW:Value} {pK:Addr} {C1:Value} {C2 C3:Option Addr} {AS:Array (Option Value)} {C4 AU C5 ou C6:Value} {yd:Addr} {GY:Value} {GZ G0:Option Addr} {EY:Array (Option Value)} {G1 EZ G2 ua G3:Value} {C7:Addr} {JX:Value} {JY JZ:Option Addr} {G4:Array (Option Value)} {J0 G5 J1 ye J2:Value} {mX:Addr} {AV:Value} {AW AX:Option Addr} {yf:Array (Option Value)} {AY yg AZ mY A0:Value} {C8:Addr} {J3:Value} {J4 J5:Option Addr} {G6:Array (Option Value)} {J6 G7 J7 yh J8:Value} {kF:Addr} {yi:Value} {yj yk:Option Addr} {vt:Array (Option Value)} {yl vv ym kY yo:Value} {C9:Addr} {J9:Value} {Ka Kc:Option Addr} {G8:Array (Option Value)} {Kd G9 Ke yq Kf:Value} {yu:Addr} {Hf:Value} {Hg Hh:Option Addr} {E1:Array (Option Value)} {Hi E2 Hj uc Hl:Value} {pL:Addr} {Dc:Value} {Dd De:Option Addr} {A1:Array (Option Value)} {Df A2 Dg ow Dh:Value} {pM:Addr} {Di:Value} {Dj Dk:Option Addr} {A3:Array (Option Value)} {Dl A4 Dm oz Dn:Value} {Dp:Addr} {Kg:Value} {Kh Kl:Option Addr} {Ho:Array (Option Value)} {Km Hq Kn yv Ko:Value} {Dq:Addr} {Kp:Value} {Kq Kr:Option Addr} {Hr:Array (Option Value)} {Ks Hs Ku yw Kw:Value} {Te:Addr} {Tf:Value} {Tg Ti:Option Addr} {PV:Array (Option Value)} {Tj PX Tn Il To:Value} (X:K.In h) (G:h.Ns mainGlobals mg)
  (z1:PySem.W.nsIn K mainGlobals "Full" = some (some (.ref cU)))
  (z2:PySem.W.excIn K cU [.type "ValueError",.type "Exception",.type "BaseException",.type "object"] "ValueError.__new__" = true)
  (z3:PySem.W.nsIn K mainGlobals "NoFile" = some (some (.ref cA)))
  (z4:PySem.W.excIn K cA [.type "ValueError",.type "Exception",.type "BaseException",.type "object"] "ValueError.__new__" = true)
  (z5:PySem.W.nsIn K mainGlobals "NoPage" = some (some (.ref cB)))
  (z6:PySem.W.excIn K cB [.type "ValueError",.type "Exception",.type "BaseException",.type "object"] "ValueError.__new__" = true)
  (z7:PySem.W.nsIn K mainGlobals "Taken" = some (some (.ref cC)))
  (z8:PySem.W.excIn K cC [.type "ValueError",.type "Exception",.type "BaseException",.type "object"] "ValueError.__new__" = true)
  (z9:PySem.W.nsIn K mainGlobals "Store" = some (some (.ref cT)))
  (W8:PySem.W.plainGet K cT Str.empty=true)
  (W9:PySem.W.hasDictIn K cT=true)
  (Xa:PySem.W.plainOver K cT=true)
  (Xc:PySem.W.findIn K (.ref cT) "__setattr__" = some (some (.builtin "object.__setattr__")))
  (Xd:PySem.W.findIn K (.ref cT) "frames" = some none)
  (Xe:PySem.W.findIn K (.ref cT) "dial" = some none)
  (Xf:PySem.W.findIn K (.ref cT) "shelf" = some none)
  (z17:PySem.W.findIn K (.ref cT) "files" = some none)
  (z18:PySem.W.findIn K (.ref cT) "holders" = some none)
  (z19:PySem.W.findIn K (.ref cT) "sheets_made" = some none)
  (z20:PySem.W.makesIn K cT=true)
  (z21:PySem.W.findIn K (.ref cT) "__init__" = some (some (.ref i7)))
  (z22:PySem.W.isFn K (.ref i7)=true)
  (z23:PySem.W.keepIn K (.ref cT)=true)
  (z24:K.lookup i7=some ⟨zA,zB,.func (PySem.W.fnOf "__init__" "Store.__init__" (aC eK) (ay eK) (ai eK) .none zD wX zE zC mh zF),wW⟩)
  (z25:PySem.W.codeIn K mh "Store.__init__" = true)
  (z26:PySem.W.keepIn K (.ref i7)=true)
  (z27:PySem.W.nsIn K mainGlobals "Frames" = some (some (.ref cF)))
  (z28:PySem.W.plainGet K cF Str.empty=true)
  (z29:PySem.W.hasDictIn K cF=true)
  (z30:PySem.W.plainOver K cF=true)
  (z31:PySem.W.findIn K (.ref cF) "__setattr__" = some (some (.builtin "object.__setattr__")))
  (z32:PySem.W.findIn K (.ref cF) "held" = some none)
  (z33:PySem.W.findIn K (.ref cF) "rows" = some none)
  (z34:PySem.W.findIn K (.ref cF) "soiled" = some none)
  (z35:PySem.W.makesIn K cF=true)
  (z36:PySem.W.findIn K (.ref cF) "__init__" = some (some (.ref g8)))
  (z37:PySem.W.isFn K (.ref g8)=true)
  (z38:PySem.W.keepIn K (.ref cF)=true)
  (z39:K.lookup g8=some ⟨wY,wZ,.func (PySem.W.fnOf "__init__" "Frames.__init__" (aC dP) (ay dP) (ai dP) .none w6 uA xg w4 kU xh),uz⟩)
  (z40:PySem.W.codeIn K kU "Frames.__init__" = true)
  (z41:PySem.W.keepIn K (.ref g8)=true)
  (z42:PySem.W.findIn K (.ref cF) "fill" = some (some (.ref g9)))
  (z43:PySem.W.isFn K (.ref g9)=true)
  (z44:K.lookup g9=some ⟨xj,xm,.func (PySem.W.fnOf "fill" "Frames.fill" (aC dQ) (ay dQ) (ai dQ) .none xq uC xu xo kW xw),uB⟩)
  (z45:PySem.W.codeIn K kW "Frames.fill" = true)
  (z46:PySem.W.keepIn K (.ref g9)=true)
  (z47:PySem.W.findIn K (.ref cF) "empty" = some (some (.ref gq)))
  (z48:PySem.W.isFn K (.ref gq)=true)
  (z49:K.lookup gq=some ⟨uD,uE,.func (PySem.W.fnOf "empty" "Frames.empty" (aC c6) (ay c6) (ai c6) .none uG rP uI uF jM uJ),rO⟩)
  (z50:PySem.W.codeIn K jM "Frames.empty" = true)
  (z51:PySem.W.keepIn K (.ref gq)=true)
  (z52:PySem.W.findIn K (.ref cF) "thing_in" = some (some (.ref eS)))
  (z53:PySem.W.isFn K (.ref eS)=true)
  (z54:K.lookup eS=some ⟨oW,oX,.func (PySem.W.fnOf "thing_in" "Frames.thing_in" (aC bR) (ay bR) (ai bR) .none oZ nD o4 oY gT o5),nC⟩)
  (z55:PySem.W.codeIn K gT "Frames.thing_in" = true)
  (z56:PySem.W.keepIn K (.ref eS)=true)
  (z57:PySem.W.findIn K (.ref cF) "row_in" = some (some (.ref fP)))
  (z58:PySem.W.isFn K (.ref fP)=true)
  (z59:K.lookup fP=some ⟨rQ,rR,.func (PySem.W.fnOf "row_in" "Frames.row_in" (aC cG) (ay cG) (ai cG) .none rV qm rW rT i8 rX),ql⟩)
  (z60:PySem.W.codeIn K i8 "Frames.row_in" = true)
  (z61:PySem.W.keepIn K (.ref fP)=true)
  (z62:PySem.W.findIn K (.ref cF) "put_in" = some (some (.ref fQ)))
  (z63:PySem.W.isFn K (.ref fQ)=true)
  (z64:K.lookup fQ=some ⟨rY,rZ,.func (PySem.W.fnOf "put_in" "Frames.put_in" (aC cH) (ay cH) (ai cH) .none r9 qq sj r8 i9 sr),qp⟩)
  (z65:PySem.W.codeIn K i9 "Frames.put_in" = true)
  (z66:PySem.W.keepIn K (.ref fQ)=true)
  (z67:PySem.W.findIn K (.ref cF) "is_soiled" = some (some (.ref dX)))
  (z68:PySem.W.isFn K (.ref dX)=true)
  (z69:K.lookup dX=some ⟨nE,nF,.func (PySem.W.fnOf "is_soiled" "Frames.is_soiled" (aC bN) (ay bN) (ai bN) .none nH mq nI nG gE nJ),mj⟩)
  (z70:PySem.W.codeIn K gE "Frames.is_soiled" = true)
  (z71:PySem.W.keepIn K (.ref dX)=true)
  (z72:PySem.W.findIn K (.ref cF) "least_free" = some (some (.ref dB)))
  (z73:PySem.W.isFn K (.ref dB)=true)
  (z74:K.lookup dB=some ⟨mw,mz,.func (PySem.W.fnOf "least_free" "Frames.least_free" (aC bI) (ay bI) (ai bI) .none mE lu mF mD f7 mG),lq⟩)
  (z75:PySem.W.codeIn K f7 "Frames.least_free" = true)
  (z76:PySem.W.keepIn K (.ref dB)=true)
  (z77:PySem.W.findIn K (.ref cF) "where" = some (some (.ref gu)))
  (z78:PySem.W.isFn K (.ref gu)=true)
  (z79:K.lookup gu=some ⟨uK,uL,.func (PySem.W.fnOf "where" "Frames.where" (aC c7) (ay c7) (ai c7) .none uN sy uO uM jN uP),su⟩)
  (z80:PySem.W.codeIn K jN "Frames.where" = true)
  (z81:PySem.W.keepIn K (.ref gu)=true)
  (z82:PySem.W.findIn K (.ref cF) "things" = some (some (.ref fR)))
  (z83:PySem.W.isFn K (.ref fR)=true)
  (z84:K.lookup fR=some ⟨sA,sC,.func (PySem.W.fnOf "things" "Frames.things" (aC cJ) (ay cJ) (ai cJ) .none sE qv sF sD ja sG),qu⟩)
  (z85:PySem.W.codeIn K ja "Frames.things" = true)
  (z86:PySem.W.keepIn K (.ref fR)=true)
  (z87:PySem.W.nsIn K mainGlobals "Dial" = some (some (.ref cD)))
  (z88:PySem.W.plainGet K cD Str.empty=true)
  (z89:PySem.W.hasDictIn K cD=true)
  (z90:PySem.W.plainOver K cD=true)
  (z91:PySem.W.findIn K (.ref cD) "__setattr__" = some (some (.builtin "object.__setattr__")))
  (z92:PySem.W.findIn K (.ref cD) "stands_at" = some none)
  (z93:PySem.W.findIn K (.ref cD) "marked" = some none)
  (z94:PySem.W.makesIn K cD=true)
  (z95:PySem.W.findIn K (.ref cD) "__init__" = some (some (.ref ku)))
  (z96:PySem.W.isFn K (.ref ku)=true)
  (z97:PySem.W.keepIn K (.ref cD)=true)
  (z98:K.lookup ku=some ⟨CD,CF,.func (PySem.W.fnOf "__init__" "Dial.__init__" (aC fz) (ay fz) (ai fz) .none CH zH CI CG oi CJ),zG⟩)
  (z99:PySem.W.codeIn K oi "Dial.__init__" = true)
  (Zk:PySem.W.keepIn K (.ref ku)=true)
  (Zl:PySem.W.findIn K (.ref cD) "pointer" = some (some (.ref gv)))
  (Zm:PySem.W.isFn K (.ref gv)=true)
  (Zn:K.lookup gv=some ⟨uQ,uR,.func (PySem.W.fnOf "pointer" "Dial.pointer" (aC cY) (ay cY) (ai cY) .none uT sI uU uS jO uV),sH⟩)
  (Zo:PySem.W.codeIn K jO "Dial.pointer" = true)
  (Zp:PySem.W.keepIn K (.ref gv)=true)
  (Zq:PySem.W.findIn K (.ref cD) "touch" = some (some (.ref jb)))
  (Zr:PySem.W.isFn K (.ref jb)=true)
  (Zs:K.lookup jb=some ⟨zI,zJ,.func (PySem.W.fnOf "touch" "Dial.touch" (aC ef) (ay ef) (ai ef) .none zL xy zM zK mH zN),xx⟩)
  (Zt:PySem.W.codeIn K mH "Dial.touch" = true)
  (Zu:PySem.W.keepIn K (.ref jb)=true)
  (Zv:PySem.W.findIn K (.ref cD) "clear" = some (some (.ref jc)))
  (Zw:PySem.W.isFn K (.ref jc)=true)
  (Zx:K.lookup jc=some ⟨zO,zP,.func (PySem.W.fnOf "clear" "Dial.clear" (aC eg) (ay eg) (ai eg) .none zR xB zS zQ mJ zT),xA⟩)
  (Zy:PySem.W.codeIn K mJ "Dial.clear" = true)
  (Zz:PySem.W.keepIn K (.ref jc)=true)
  (ZA:PySem.W.findIn K (.ref cD) "marks" = some (some (.ref jd)))
  (ZC:PySem.W.isFn K (.ref jd)=true)
  (ZD:K.lookup jd=some ⟨zU,zV,.func (PySem.W.fnOf "marks" "Dial.marks" (aC ek) (ay ek) (ai ek) .none zX xD zY zW mK zZ),xC⟩)
  (ZE:PySem.W.codeIn K mK "Dial.marks" = true)
  (ZF:PySem.W.keepIn K (.ref jd)=true)
  (ZG:PySem.W.findIn K (.ref cD) "choose" = some (some (.ref ia)))
  (ZH:PySem.W.isFn K (.ref ia)=true)
  (ZI:K.lookup ia=some ⟨xE,xF,.func (PySem.W.fnOf "choose" "Dial.choose" (aC dO) (ay dO) (ai dO) .none xH uX xJ xG kX xK),uW⟩)
  (ZJ:PySem.W.codeIn K kX "Dial.choose" = true)
  (ZK:PySem.W.keepIn K (.ref ia)=true)
  (ZL:PySem.W.nsIn K mainGlobals "Shelf" = some (some (.ref cS)))
  (ZM:PySem.W.plainGet K cS Str.empty=true)
  (ZN:PySem.W.hasDictIn K cS=true)
  (ZO:PySem.W.plainOver K cS=true)
  (ZP:PySem.W.findIn K (.ref cS) "__setattr__" = some (some (.builtin "object.__setattr__")))
  (ZQ:PySem.W.findIn K (.ref cS) "placed" = some none)
  (ZR:PySem.W.findIn K (.ref cS) "row_by_sheet" = some none)
  (ZS:PySem.W.makesIn K cS=true)
  (ZT:PySem.W.findIn K (.ref cS) "__init__" = some (some (.ref je)))
  (ZU:PySem.W.isFn K (.ref je)=true)
  (ZV:PySem.W.keepIn K (.ref cS)=true)
  (ZW:K.lookup je=some ⟨Aa,Ab,.func (PySem.W.fnOf "__init__" "Shelf.__init__" (aC eG) (ay eG) (ai eG) .none Ad xN Ae Ac mL Af),xM⟩)
  (ZX:PySem.W.codeIn K mL "Shelf.__init__" = true)
  (ZY:PySem.W.keepIn K (.ref je)=true)
  (ZZ:PySem.W.findIn K (.ref cS) "put_on" = some (some (.ref gw)))
  (Z0:PySem.W.isFn K (.ref gw)=true)
  (Z1:K.lookup gw=some ⟨uY,uZ,.func (PySem.W.fnOf "put_on" "Shelf.put_on" (aC c8) (ay c8) (ai c8) .none u5 sL u6 u0 jP u7),sJ⟩)
  (Z2:PySem.W.codeIn K jP "Shelf.put_on" = true)
  (Z3:PySem.W.keepIn K (.ref gw)=true)
  (Z4:PySem.W.findIn K (.ref cS) "take_off" = some (some (.ref fk)))
  (Z5:PySem.W.isFn K (.ref fk)=true)
  (Z6:K.lookup fk=some ⟨qw,qx,.func (PySem.W.fnOf "take_off" "Shelf.take_off" (aC b5) (ay b5) (ai b5) .none qz o7 qA qy iK qB),o6⟩)
  (Z7:PySem.W.codeIn K iK "Shelf.take_off" = true)
  (Z8:PySem.W.keepIn K (.ref fk)=true)
  (Z9:PySem.W.findIn K (.ref cS) "row_of_sheet" = some (some (.ref cV)))
  (aaa:PySem.W.isFn K (.ref cV)=true)
  (aab:K.lookup cV=some ⟨lz,lA,.func (PySem.W.fnOf "row_of_sheet" "Shelf.row_of_sheet" (aC bE) (ay bE) (ai bE) .none lC kE lD lB fS lE),kD⟩)
  (aac:PySem.W.codeIn K fS "Shelf.row_of_sheet" = true)
  (aad:PySem.W.keepIn K (.ref cV)=true)
  (aae:PySem.W.findIn K (.ref cS) "is_full" = some (some (.ref fT)))
  (aaf:PySem.W.isFn K (.ref fT)=true)
  (aag:K.lookup fT=some ⟨sM,sN,.func (PySem.W.fnOf "is_full" "Shelf.is_full" (aC cK) (ay cK) (ai cK) .none sP qD sQ sO jf sR),qC⟩)
  (aah:PySem.W.codeIn K jf "Shelf.is_full" = true)
  (aai:PySem.W.keepIn K (.ref fT)=true)
  (aaj:PySem.W.findIn K (.ref cS) "sheets" = some (some (.ref gx)))
  (aak:PySem.W.isFn K (.ref gx)=true)
  (aal:K.lookup gx=some ⟨u9,vc,.func (PySem.W.fnOf "sheets" "Shelf.sheets" (aC dc) (ay dc) (ai dc) .none ve sU vf vd jQ vg),sS⟩)
  (aam:PySem.W.codeIn K jQ "Shelf.sheets" = true)
  (aan:PySem.W.keepIn K (.ref gx)=true)
  (aao:PySem.W.nsIn K mainGlobals "Files" = some (some (.ref cI)))
  (aap:PySem.W.plainGet K cI Str.empty=true)
  (aaq:PySem.W.hasDictIn K cI=true)
  (aar:PySem.W.plainOver K cI=true)
  (aas:PySem.W.findIn K (.ref cI) "__setattr__" = some (some (.builtin "object.__setattr__")))
  (aat:PySem.W.findIn K (.ref cI) "rows_by_name" = some none)
  (aau:PySem.W.makesIn K cI=true)
  (aav:PySem.W.findIn K (.ref cI) "__init__" = some (some (.ref jg)))
  (aaw:PySem.W.isFn K (.ref jg)=true)
  (aax:PySem.W.keepIn K (.ref cI)=true)
  (aay:K.lookup jg=some ⟨Ag,Ah,.func (PySem.W.fnOf "__init__" "Files.__init__" (aC eu) (ay eu) (ai eu) .none Aj xP Ak Ai mO Al),xO⟩)
  (aaz:PySem.W.codeIn K mO "Files.__init__" = true)
  (aaA:PySem.W.keepIn K (.ref jg)=true)
  (aaB:PySem.W.findIn K (.ref cI) "make" = some (some (.ref jh)))
  (aaC:PySem.W.isFn K (.ref jh)=true)
  (aaD:K.lookup jh=some ⟨Am,An,.func (PySem.W.fnOf "make" "Files.make" (aC eB) (ay eB) (ai eB) .none Aq xR Ar Ao mP As),xQ⟩)
  (aaE:PySem.W.codeIn K mP "Files.make" = true)
  (aaF:PySem.W.keepIn K (.ref jh)=true)
  (aaG:PySem.W.findIn K (.ref cI) "size_of" = some (some (.ref fU)))
  (aaH:PySem.W.isFn K (.ref fU)=true)
  (aaI:K.lookup fU=some ⟨sV,sW,.func (PySem.W.fnOf "size_of" "Files.size_of" (aC cE) (ay cE) (ai cE) .none sY qF sZ sX ji tw),qE⟩)
  (aaJ:PySem.W.codeIn K ji "Files.size_of" = true)
  (aaK:PySem.W.keepIn K (.ref fU)=true)
  (aaL:PySem.W.findIn K (.ref cI) "row_at" = some (some (.ref gy)))
  (aaM:PySem.W.isFn K (.ref gy)=true)
  (aaN:K.lookup gy=some ⟨vh,vm,.func (PySem.W.fnOf "row_at" "Files.row_at" (aC cZ) (ay cZ) (ai cZ) .none vo tE vp vn jR vq),tD⟩)
  (aaO:PySem.W.codeIn K jR "Files.row_at" = true)
  (aaP:PySem.W.keepIn K (.ref gy)=true)
  (aaQ:PySem.W.findIn K (.ref cI) "store_row" = some (some (.ref eT)))
  (aaR:PySem.W.isFn K (.ref eT)=true)
  (aaS:K.lookup eT=some ⟨o8,o9,.func (PySem.W.fnOf "store_row" "Files.store_row" (aC bQ) (ay bQ) (ai bQ) .none pA nL pB pq gU pC),nK⟩)
  (aaT:PySem.W.codeIn K gU "Files.store_row" = true)
  (aaU:PySem.W.keepIn K (.ref eT)=true)
  (aaV:PySem.W.findIn K (.ref cI) "ask_name" = some (some (.ref fm)))
  (aaW:PySem.W.isFn K (.ref fm)=true)
  (aaX:K.lookup fm=some ⟨qG,qH,.func (PySem.W.fnOf "ask_name" "Files.ask_name" (aC b3) (ay b3) (ai b3) .none qJ pF qK qI iL qL),pD⟩)
  (aaY:PySem.W.codeIn K iL "Files.ask_name" = true)
  (aaZ:PySem.W.keepIn K (.ref fm)=true)
  (aa0:PySem.W.findIn K (.ref cI) "ask_page" = some (some (.ref fq)))
  (aa1:PySem.W.isFn K (.ref fq)=true)
  (aa2:K.lookup fq=some ⟨qM,qN,.func (PySem.W.fnOf "ask_page" "Files.ask_page" (aC b4) (ay b4) (ai b4) .none qP pH qQ qO iM qR),pG⟩)
  (aa3:PySem.W.codeIn K iM "Files.ask_page" = true)
  (aa4:PySem.W.keepIn K (.ref fq)=true)
  (aa5:PySem.W.nsIn K mainGlobals "with_cells" = some (some (.ref mQ)))
  (aa6:K.lookup mQ=some ⟨Au,Av,.func (PySem.W.fnOf "with_cells" "with_cells" (aC eE) (ay eE) (ai eE) .none Ax xT Ay Aw mR Az),xS⟩)
  (aa7:PySem.W.codeIn K mR "with_cells" = true)
  (aa8:PySem.W.keepIn K (.ref mQ)=true)
  (aa9:PySem.W.nsIn K mainGlobals "is_sheet" = some (some (.ref tF)))
  (aba:K.lookup tF=some ⟨EG,EH,.func (PySem.W.fnOf "is_sheet" "is_sheet" (aC gi) (ay gi) (ai gi) .none EJ CL EK EI qS EL),CK⟩)
  (abb:PySem.W.codeIn K qS "is_sheet" = true)
  (abc:PySem.W.keepIn K (.ref tF)=true)
  (abd:PySem.W.nsIn K mainGlobals "free_frame" = some (some (.ref mT)))
  (abe:K.lookup mT=some ⟨AA,AB,.func (PySem.W.fnOf "free_frame" "free_frame" (aC eL) (ay eL) (ai eL) .none AE xV AF AD mU AG),xU⟩)
  (abf:PySem.W.codeIn K mU "free_frame" = true)
  (abg:PySem.W.keepIn K (.ref mT)=true)
  (abh:PySem.W.nsIn K mainGlobals "put_out" = some (some (.ref xW)))
  (abi:K.lookup xW=some ⟨Gj,Gk,.func (PySem.W.fnOf "put_out" "put_out" (aC iw) (ay iw) (ai iw) .none Gn EN Gp Gm tZ Gq),EM⟩)
  (abj:PySem.W.codeIn K tZ "put_out" = true)
  (abk:PySem.W.keepIn K (.ref xW)=true)
  (abl:PySem.W.nsIn K mainGlobals "have_frame" = some (some (.ref mV)))
  (abm:K.lookup mV=some ⟨AH,AI,.func (PySem.W.fnOf "have_frame" "have_frame" (aC eN) (ay eN) (ai eN) .none AK xY AL AJ mW AM),xX⟩)
  (abn:PySem.W.codeIn K mW "have_frame" = true)
  (abo:PySem.W.keepIn K (.ref mV)=true)
  (abp:PySem.W.nsIn K mainGlobals "fetched" = some (some (.ref xZ)))
  (abq:K.lookup xZ=some ⟨Gr,Gs,.func (PySem.W.fnOf "fetched" "fetched" (aC iy) (ay iy) (ai iy) .none Gv ER Gw Gu t6 Gx),EO⟩)
  (abr:PySem.W.codeIn K t6 "fetched" = true)
  (abt:PySem.W.keepIn K (.ref xZ)=true)
  (abu:PySem.W.nsIn K mainGlobals "bring" = some (some (.ref Gy)))
  (abv:K.lookup Gy=some ⟨MF,MG,.func (PySem.W.fnOf "bring" "bring" (aC nt) (ay nt) (ai nt) .none MI JM MJ MH BG MK),JL⟩)
  (abw:PySem.W.codeIn K BG "bring" = true)
  (abx:PySem.W.keepIn K (.ref Gy)=true)
  (aby:PySem.W.nsIn K mainGlobals "room_of" = some (some (.ref x8)))
  (abz:K.lookup x8=some ⟨Gz,GA,.func (PySem.W.fnOf "room_of" "room_of" (aC iz) (ay iz) (ai iz) .none GC ET GD GB t7 GF),ES⟩)
  (abA:PySem.W.codeIn K t7 "room_of" = true)
  (abB:PySem.W.keepIn K (.ref x8)=true)
  (abC:PySem.W.nsIn K mainGlobals "new_sheet" = some (some (.ref pI)))
  (abD:K.lookup pI=some ⟨CM,CN,.func (PySem.W.fnOf "new_sheet" "new_sheet" (aC fB) (ay fB) (ai fB) .none CP AO CQ CO oj CS),AN⟩)
  (abE:PySem.W.codeIn K oj "new_sheet" = true)
  (abF:PySem.W.keepIn K (.ref pI)=true)
  (abG:PySem.W.nsIn K mainGlobals "_law_cell_at" = some (some (.ref pJ)))
  (abH:K.lookup pJ=some ⟨CT,CU,.func (PySem.W.fnOf "_law_cell_at" "_law_cell_at" (aC fC) (ay fC) (ai fC) .none CW AR CY CV oq CZ),AQ⟩)
  (abI:PySem.W.codeIn K oq "_law_cell_at" = true)
  (abJ:PySem.W.keepIn K (.ref pJ)=true)
  (abK:PySem.W.nsIn K mainGlobals "_law_whole" = some (some (.ref x9)))
  (abL:K.lookup x9=some ⟨GG,GH,.func (PySem.W.fnOf "_law_whole" "_law_whole" (aC iA) (ay iA) (ai iA) .none GJ EV GK GI t8 GL),EU⟩)
  (abM:PySem.W.codeIn K t8 "_law_whole" = true)
  (abN:PySem.W.keepIn K (.ref x9)=true)
  (abO:PySem.W.nsIn K mainGlobals "_law_alike" = some (some (.ref yb)))
  (abP:K.lookup yb=some ⟨GN,GO,.func (PySem.W.fnOf "_law_alike" "_law_alike" (aC fD) (ay fD) (ai fD) .none GQ EX GR GP t9 GS),EW⟩)
  (abQ:PySem.W.codeIn K t9 "_law_alike" = true)
  (abR:PySem.W.keepIn K (.ref yb)=true)
  (abS:PySem.W.nsIn K mainGlobals "_law_num" = some (some (.ref GU)))
  (abT:K.lookup GU=some ⟨ML,MM,.func (PySem.W.fnOf "_law_num" "_law_num" (aC nu) (ay nu) (ai nu) .none MO JO MP MN BH MQ),JN⟩)
  (abU:PySem.W.codeIn K BH "_law_num" = true)
  (abV:PySem.W.keepIn K (.ref GU)=true)
  (abW:PySem.W.nsIn K mainGlobals "_law_row" = some (some (.ref GV)))
  (abX:K.lookup GV=some ⟨MR,MS,.func (PySem.W.fnOf "_law_row" "_law_row" (aC nv) (ay nv) (ai nv) .none MU JQ MV MT BI MW),JP⟩)
  (abY:PySem.W.codeIn K BI "_law_row" = true)
  (abZ:PySem.W.keepIn K (.ref GV)=true)
  (ab0:PySem.W.nsIn K mainGlobals "_law_name" = some (some (.ref C0)))
  (ab1:K.lookup C0=some ⟨JR,JS,.func (PySem.W.fnOf "_law_name" "_law_name" (aC jG) (ay jG) (ai jG) .none JU GX JV JT yc JW),GW⟩)
  (ab2:PySem.W.codeIn K yc "_law_name" = true)
  (ab3:PySem.W.keepIn K (.ref C0)=true)
  (ab4:PySem.W.nsIn K mainGlobals "_law_laid_in" = some (some (.ref pK)))
  (ab5:K.lookup pK=some ⟨C1,C2,.func (PySem.W.fnOf "_law_laid_in" "_law_laid_in" (aC fE) (ay fE) (ai fE) .none C4 AU C5 C3 ou C6),AS⟩)
  (ab6:PySem.W.codeIn K ou "_law_laid_in" = true)
  (ab7:PySem.W.keepIn K (.ref pK)=true)
  (ab8:PySem.W.nsIn K mainGlobals "_law_sizes" = some (some (.ref yd)))
  (ab9:K.lookup yd=some ⟨GY,GZ,.func (PySem.W.fnOf "_law_sizes" "_law_sizes" (aC iB) (ay iB) (ai iB) .none G1 EZ G2 G0 ua G3),EY⟩)
  (acd:PySem.W.codeIn K ua "_law_sizes" = true)
  (ace:PySem.W.keepIn K (.ref yd)=true)
  (acf:PySem.W.nsIn K mainGlobals "_law_goes" = some (some (.ref C7)))
  (acg:K.lookup C7=some ⟨JX,JY,.func (PySem.W.fnOf "_law_goes" "_law_goes" (aC jH) (ay jH) (ai jH) .none J0 G5 J1 JZ ye J2),G4⟩)
  (ach:PySem.W.codeIn K ye "_law_goes" = true)
  (aci:PySem.W.keepIn K (.ref C7)=true)
  (acj:PySem.W.nsIn K mainGlobals "_law_is_store" = some (some (.ref mX)))
  (ack:K.lookup mX=some ⟨AV,AW,.func (PySem.W.fnOf "_law_is_store" "_law_is_store" (aC eO) (ay eO) (ai eO) .none AY yg AZ AX mY A0),yf⟩)
  (acm:PySem.W.codeIn K mY "_law_is_store" = true)
  (acn:PySem.W.keepIn K (.ref mX)=true)
  (aco:PySem.W.nsIn K mainGlobals "_law_stir" = some (some (.ref C8)))
  (acp:K.lookup C8=some ⟨J3,J4,.func (PySem.W.fnOf "_law_stir" "_law_stir" (aC jI) (ay jI) (ai jI) .none J6 G7 J7 J5 yh J8),G6⟩)
  (acq:PySem.W.codeIn K yh "_law_stir" = true)
  (acr:PySem.W.keepIn K (.ref C8)=true)
  (acs:PySem.W.nsIn K mainGlobals "_law_row_there" = some (some (.ref kF)))
  (acu:K.lookup kF=some ⟨yi,yj,.func (PySem.W.fnOf "_law_row_there" "_law_row_there" (aC dR) (ay dR) (ai dR) .none yl vv ym yk kY yo),vt⟩)
  (acv:PySem.W.codeIn K kY "_law_row_there" = true)
  (acw:PySem.W.keepIn K (.ref kF)=true)
  (acy:PySem.W.nsIn K mainGlobals "_law_fill" = some (some (.ref C9)))
  (acz:K.lookup C9=some ⟨J9,Ka,.func (PySem.W.fnOf "_law_fill" "_law_fill" (aC jJ) (ay jJ) (ai jJ) .none Kd G9 Ke Kc yq Kf),G8⟩)
  (acA:PySem.W.codeIn K yq "_law_fill" = true)
  (acB:PySem.W.keepIn K (.ref C9)=true)
  (acC:PySem.W.nsIn K mainGlobals "_law_begun" = some (some (.ref yu)))
  (acD:K.lookup yu=some ⟨Hf,Hg,.func (PySem.W.fnOf "_law_begun" "_law_begun" (aC iC) (ay iC) (ai iC) .none Hi E2 Hj Hh uc Hl),E1⟩)
  (acE:PySem.W.codeIn K uc "_law_begun" = true)
  (acF:PySem.W.keepIn K (.ref yu)=true)
  (acG:PySem.W.nsIn K mainGlobals "_law_is_soil" = some (some (.ref pL)))
  (acH:K.lookup pL=some ⟨Dc,Dd,.func (PySem.W.fnOf "_law_is_soil" "_law_is_soil" (aC fF) (ay fF) (ai fF) .none Df A2 Dg De ow Dh),A1⟩)
  (acI:PySem.W.codeIn K ow "_law_is_soil" = true)
  (acJ:PySem.W.keepIn K (.ref pL)=true)
  (acK:PySem.W.nsIn K mainGlobals "_law_brought" = some (some (.ref pM)))
  (acL:K.lookup pM=some ⟨Di,Dj,.func (PySem.W.fnOf "_law_brought" "_law_brought" (aC fG) (ay fG) (ai fG) .none Dl A4 Dm Dk oz Dn),A3⟩)
  (acM:PySem.W.codeIn K oz "_law_brought" = true)
  (acN:PySem.W.keepIn K (.ref pM)=true)
  (acO:PySem.W.nsIn K mainGlobals "_law_made" = some (some (.ref Dp)))
  (acP:K.lookup Dp=some ⟨Kg,Kh,.func (PySem.W.fnOf "_law_made" "_law_made" (aC jK) (ay jK) (ai jK) .none Km Hq Kn Kl yv Ko),Ho⟩)
  (acQ:PySem.W.codeIn K yv "_law_made" = true)
  (acR:PySem.W.keepIn K (.ref Dp)=true)
  (acS:PySem.W.nsIn K mainGlobals "_law_deed" = some (some (.ref Dq)))
  (acT:K.lookup Dq=some ⟨Kp,Kq,.func (PySem.W.fnOf "_law_deed" "_law_deed" (aC jL) (ay jL) (ai jL) .none Ks Hs Ku Kr yw Kw),Hr⟩)
  (acU:PySem.W.codeIn K yw "_law_deed" = true)
  (acV:PySem.W.keepIn K (.ref Dq)=true)
  (acW:PySem.W.nsIn K mainGlobals "law" = some (some (.ref Te)))
  (acX:K.lookup Te=some ⟨Tf,Tg,.func (PySem.W.fnOf "law" "law" (aC wM) (ay wM) (ai wM) .none Tj PX Tn Ti Il To),PV⟩)
  (acY:PySem.W.codeIn K Il "law" = true)
  (acZ:PySem.W.keepIn K (.ref Te)=true) : ∃ cU cA cB cC cT cF cD cS cI,Txt K mg cU cA cB cC cT cF cD cS cI :=
 ⟨cU,cA,cB,cC,cT,cF,cD,cS,cI,Cf X G z1 z2,Cf X G z3 z4,Cf X G z5 z6,Cf X G z7 z8,wz X G z9 W8 W9 Xa Xc,Xd,Xe,Xf,z17,z18,z19,p9 z20 z21 z22 z23 z24 z25 z26,wz X G z27 z28 z29 z30 z31,z32,z33,z34,p9 z35 z36 z37 z38 z39 z40 z41,bC z42 z43 z44 z45 z46,bC z47 z48 z49 z50 z51,bC z52 z53 z54 z55 z56,bC z57 z58 z59 z60 z61,bC z62 z63 z64 z65 z66,bC z67 z68 z69 z70 z71,bC z72 z73 z74 z75 z76,bC z77 z78 z79 z80 z81,bC z82 z83 z84 z85 z86,wz X G z87 z88 z89 z90 z91,z92,z93,p9 z94 z95 z96 z97 z98 z99 Zk,bC Zl Zm Zn Zo Zp,bC Zq Zr Zs Zt Zu,bC Zv Zw Zx Zy Zz,bC ZA ZC ZD ZE ZF,bC ZG ZH ZI ZJ ZK,wz X G ZL ZM ZN ZO ZP,ZQ,ZR,p9 ZS ZT ZU ZV ZW ZX ZY,bC ZZ Z0 Z1 Z2 Z3,bC Z4 Z5 Z6 Z7 Z8,bC Z9 aaa aab aac aad,bC aae aaf aag aah aai,bC aaj aak aal aam aan,wz X G aao aap aaq aar aas,aat,p9 aau aav aaw aax aay aaz aaA,bC aaB aaC aaD aaE aaF,bC aaG aaH aaI aaJ aaK,bC aaL aaM aaN aaO aaP,bC aaQ aaR aaS aaT aaU,bC aaV aaW aaX aaY aaZ,bC aa0 aa1 aa2 aa3 aa4,bK X G aa5 aa6 aa7 aa8,bK X G aa9 aba abb abc,bK X G abd abe abf abg,bK X G abh abi abj abk,bK X G abl abm abn abo,bK X G abp abq abr abt,bK X G abu abv abw abx,bK X G aby abz abA abB,bK X G abC abD abE abF,bK X G abG abH abI abJ,bK X G abK abL abM abN,bK X G abO abP abQ abR,bK X G abS abT abU abV,bK X G abW abX abY abZ,bK X G ab0 ab1 ab2 ab3,bK X G ab4 ab5 ab6 ab7,bK X G ab8 ab9 acd ace,bK X G acf acg ach aci,bK X G acj ack acm acn,bK X G aco acp acq acr,bK X G acs acu acv acw,bK X G acy acz acA acB,bK X G acC acD acE acF,bK X G acG acH acI acJ,bK X G acK acL acM acN,bK X G acO acP acQ acR,bK X G acS acT acU acV,bK X G acW acX acY acZ⟩
local macro_rules | `(tactic| walk_at $_:str) => `(tactic| fail)
theorem mC {α : Type} {b a : α} {l:List α} (h:a∈l):a∈b::l:=List.mem_cons_of_mem b h
theorem mA {α : Type} {a : α} {k l:List α} (h:a∈l):a∈k++l:=List.mem_append_right k h
theorem mB {α : Type} {a : α} {k l:List α} (h:a∈k):a∈k++l:=List.mem_append_left l h
theorem mS {α : Type} {a : α} {l:List α} : a∈a::l:=List.mem_cons_self
local macro_rules | `(tactic| walk_at "mem") => `(tactic| repeat (first | with_reducible exact List.mem_cons_self | with_reducible assumption | with_reducible refine List.mem_cons_of_mem _ ?_))
local macro_rules | `(tactic| walk_at "sub") => `(tactic| repeat (first | with_reducible exact List.Sublist.refl _ | with_reducible apply List.Sublist.cons₂ | with_reducible apply List.Sublist.cons))
local macro_rules | `(tactic| walk_at "led") => `(tactic| first | with_reducible assumption | exact L2.Led.sub (by assumption) (by walk_at "sub"))
local macro_rules | `(tactic| walk_at "cell") => `(tactic| first | with_reducible assumption | with_reducible exact L2.Led.get (by assumption) (by walk_at "mem"))
local macro_rules | `(tactic| walk_at "atc") => `(tactic| first | with_reducible assumption | with_reducible exact L2.Rb | with_reducible exact L2.Rc | with_reducible exact L2.Rf | with_reducible exact L2.Rg | with_reducible exact L2.Rh | with_reducible exact L2.Rj | with_reducible exact L2.ahk | with_reducible exact L2.Vt)
local macro_rules | `(tactic| walk_at "szs") => `(tactic| first | decide | (simp only [List.length_cons,List.length_nil,List.length_append,List.length_map];have hsz:=PySem.sizeLine_eq;omega) | (have hsz:=PySem.sizeLine_eq;omega))
local macro_rules | `(tactic| walk_at "tyc") => `(tactic| first | with_reducible exact L2.tyI | with_reducible exact L2.tyB | with_reducible exact L2.tyS | with_reducible exact L2.tyO | exact L2.tyL (by walk_at "cell") | exact L2.tyT (by walk_at "cell") | exact L2.tyD (by walk_at "cell") | with_reducible assumption)
local macro_rules | `(tactic| walk_at "cnd") => `(tactic| first | omega | (unfold L2.UY;omega) | (unfold L2.OZ;omega) | (unfold L2.UZ;omega) | (dsimp only;omega) | exact PySem.IntMulOk.of_right (by decide +kernel) | exact PySem.IntMulOk.of_left (by decide +kernel))
local macro_rules | `(tactic| walk_at "seq") => `(tactic| first | assumption | exact L2.fj.of (by walk_at "cell") | exact L2.k8.seq (by assumption) (by assumption) | exact L2.Rk.seq (by assumption) (by walk_at "led"))
local macro_rules | `(tactic| walk_at "isi") => `(tactic| first | with_reducible exact L2.Eg | with_reducible exact L2.B9 | with_reducible exact L2.PY | with_reducible exact L2.ze | with_reducible exact L2.Ca | with_reducible exact L2.zf | with_reducible exact L2.Eh | with_reducible exact L2.Cb | with_reducible exact L2.Cc | with_reducible exact L2.zg | with_reducible exact L2.zh | with_reducible exact L2.wg | with_reducible exact L2.zj | with_reducible exact L2.um | with_reducible exact L2.MX | with_reducible exact L2.wj | with_reducible exact L2.zk | with_reducible exact L2.wm | with_reducible exact L2.PZ | with_reducible exact L2.P0 | with_reducible exact L2.ON | with_reducible exact L2.OO | with_reducible exact L2.MY | with_reducible exact L2.Ei | with_reducible exact L2.OP | with_reducible exact L2.Rq | with_reducible exact L2.Qa | with_reducible exact L2.Cm | with_reducible exact L2.Cn | with_reducible exact L2.zl | rfl)
local macro_rules | `(tactic| walk_at "cl") => `(tactic| ((repeat (with_reducible rename L2.Is _ _=>zz;clear zz)); (repeat (with_reducible rename L2.k8 _ _=>zz;clear zz)); (repeat (with_reducible rename L2.VK=>zz;clear zz))))
local macro_rules | `(tactic| walk_at "g1") => `(tactic| first
 | ((with_reducible show L2.we _ _ _);with_reducible refine L2.VO (by walk_at "cell") ?_)
 | ((with_reducible show L2.we _ _ _);with_reducible refine L2.VP (by walk_at "cell") ?_)
 | ((with_reducible show L2.we _ _ _);with_reducible refine L2.VQ (by walk_at "cell") ?_)
 | ((with_reducible show L2.Mb _ _ _);with_reducible refine L2.YQ (by walk_at "tyc") (by walk_at "isi") ?_)
 | ((with_reducible show L2.Su _ _ _ _);with_reducible refine L2.YR (by walk_at "cell") (by walk_at "cell") (by walk_at "szs") (L2.Led.alloc (by assumption) λ _ _ _ _ _ => ?_))
 | ((with_reducible show ∃ (p:Addr) (ys:List L2.V),_ = [L2.V.ref p]/\_);with_reducible refine L2.VS (by walk_at "seq") (L2.Led.alloc (by assumption) λ _ _ _ _ _ => ?_))
 | ((with_reducible show ∃ (p:Addr) (ys:List L2.V),_ = [L2.V.ref p]/\_);with_reducible refine L2.ac3 (by walk_at "seq") (L2.Led.alloc (by assumption) λ _ _ _ _ _ => ?_))
 | ((with_reducible show L2.O9 _ _ _ _ _ _);with_reducible refine L2.VR (by first | assumption | exact L2.fj.of (by walk_at "cell") | exact L2.k8.seq (by assumption) (by assumption) | exact L2.Rk.seq (by assumption) (by walk_at "led")) (L2.Led.alloc (by assumption) λ _ _ _ _ _ => ?_)))
local macro_rules | `(tactic| walk_at "g2") => `(tactic| first
 | walk_at "g1"
 | ((with_reducible show ∃ (b:Addr) (dx:Addr) (fs:List (Str×L2.V)),_/\_);with_reducible refine L2.VV (by walk_at "cell") (by first | decide | with_unfolding_all exact Nat.le_of_ble_eq_true rfl) ?_)
 | ((with_reducible show ∃ (b:Addr) (o:Option L2.V),_/\_);with_reducible refine L2.ahs (by walk_at "cell") ?_)
 | ((with_reducible show L2.F2 _ _ _);with_reducible refine L2.VW (by assumption) λ _ _ _ _ _ => ?_)
 | with_reducible refine L2.isH ?_
 | with_reducible refine L2.YS ?_)
local macro_rules | `(tactic| walk_at "gd") => `(tactic| repeat' first
 | (with_reducible refine L2.d7.h ?_;intro _ _)
 | with_reducible refine L2.wF.h ?_
 | with_reducible refine L2.VJ rfl ?_
 | with_reducible refine L2.Is.use (by assumption) ?_
 | with_reducible refine L2.Vw (by assumption) ?_
 | ((with_reducible show L2.Ends.rt _ _ _);with_reducible refine L2.rtH ?_)
 | ((with_reducible show L2.Ends.nx _ _ _);with_reducible refine L2.nxH ?_)
 | with_reducible refine L2.Vl (λ _ => ?_) (λ _ => ?_)
 | with_reducible refine L2.Rn (λ _ => ?_) (λ _ => ?_)
 | ((with_reducible show L2.rI _ _ _ _ _ _);with_reducible refine L2.iH (by walk_at "cnd") ?_)
 | ((with_reducible show (_<=PySem.sizeLine)/\_);with_reducible refine And.intro (by walk_at "szs") (L2.Led.alloc (by assumption) λ _ _ _ _ _ => ?_))
 | ((with_reducible show L2.F8 _ _ _ _);with_reducible refine L2.SJ (by walk_at "cell") (by walk_at "atc") ?_)
 | ((with_reducible show L2.F8 _ _ _ _);with_reducible refine L2.VN (by walk_at "cell") (by walk_at "atc") ?_)
 | ((with_reducible show ∃ (b:Addr) (dx:Addr) (fs:List (Str×L2.V)) (v:L2.V),_/\_);with_reducible refine L2.VT (by walk_at "cell") (by first | assumption | with_unfolding_all rfl) ?_)
 | ((with_reducible show ∃ (b:Addr) (dx:Addr) (fs:List (Str×L2.V)),_/\_);with_reducible refine L2.Ro (by walk_at "cell") (by first | assumption | with_unfolding_all rfl) ?_)
 | walk_at "g2")
local macro_rules | `(tactic| walk_at "pf") => `(tactic| repeat (first | with_reducible exact List.Perm.refl _ | with_reducible apply L2.pcC | with_reducible apply L2.pcA | with_reducible apply L2.paC | with_reducible apply L2.paA))
local macro_rules | `(tactic| walk_at "sp") => `(tactic| repeat (first | (with_reducible apply L2.spC; · walk_at "pf") | (with_reducible apply L2.spA; · walk_at "pf") | with_reducible exact L2.spR | with_reducible exact L2.spN | with_reducible apply L2.spD | with_reducible apply L2.YT))
local macro_rules | `(tactic| walk_at "g3") => `(tactic| first
 | walk_at "g2"
 | with_reducible refine L2.ac4 (λ _ _ => ?_) L2.ac5
 | ((with_reducible show (∃ (a:Addr),_/\L2.Si _ _)/\_);with_reducible refine And.intro (L2.SR (by walk_at "cell")) ?_)
 | ((with_reducible show ∃ (b:Addr) (o:Option L2.V),_/\_);with_reducible refine L2.ac6 (by walk_at "cell") ?_)
 | ((with_reducible show L2.O7 _ _ none (some 2) _ _);with_reducible refine L2.aht (by walk_at "cell") (L2.Led.alloc (by assumption) λ _ _ _ _ _ => ?_))
 | ((with_reducible show L2.O7 _ _ (some 2) none _ _);with_reducible refine L2.YV (by walk_at "cell") (L2.Led.alloc (by assumption) λ _ _ _ _ _ => ?_)))
local macro_rules | `(tactic| walk_at "ge") => `(tactic| repeat' first
 | (with_reducible refine L2.d7.h ?_;intro _ _)
 | with_reducible refine L2.wF.h ?_
 | with_reducible refine L2.VJ rfl ?_
 | with_reducible refine L2.Is.use (by assumption) ?_
 | with_reducible refine L2.Vw (by assumption) ?_
 | ((with_reducible show L2.Ends.rt _ _ _);with_reducible refine L2.rtH ?_)
 | ((with_reducible show L2.Ends.nx _ _ _);with_reducible refine L2.nxH ?_)
 | with_reducible refine L2.Vl (λ _ => ?_) (λ _ => ?_)
 | with_reducible refine L2.Rn (λ _ => ?_) (λ _ => ?_)
 | ((with_reducible show L2.rI _ _ _ _ _ _);with_reducible refine L2.iH (by walk_at "cnd") ?_)
 | ((with_reducible show (_<=PySem.sizeLine)/\_);with_reducible refine And.intro (by walk_at "szs") (L2.Led.alloc (by assumption) λ _ _ _ _ _ => ?_))
 | ((with_reducible show L2.F8 _ _ _ _);with_reducible refine L2.SJ (by walk_at "cell") (by walk_at "atc") ?_)
 | ((with_reducible show L2.F8 _ _ _ _);with_reducible refine L2.VN (by walk_at "cell") (by walk_at "atc") ?_)
 | ((with_reducible show ∃ (b:Addr) (dx:Addr) (fs:List (Str×L2.V)) (v:L2.V),_/\_);with_reducible refine L2.VT (by walk_at "cell") (by first | assumption | with_unfolding_all rfl) ?_)
 | ((with_reducible show ∃ (b:Addr) (dx:Addr) (fs:List (Str×L2.V)),_/\_);with_reducible refine L2.Ro (by walk_at "cell") (by first | assumption | with_unfolding_all rfl) ?_)
 | walk_at "g3")
section
variable {P:Program} {w:World} {K:PySem.W.Frag} {mg:Str->Option Value} {base:Heap} {cU cA cB cC cT cF cD cS cI:Addr}
theorem gF {A:Around} {k:Nat} (hr:dH k A):A.units+1 < cLine:=Nat.lt_of_le_of_lt (Nat.add_le_add_left (by decide) _) hr.units
def Wc (z:Str):Prop:=PyData.strOk z=true
inductive Th
 | own (n:Int)
 | file (z:Str) (p:Int)
deriving DecidableEq
def eV:Th->List V
 | .own n=>[.str (Str.ofString "own"),.int n]
 | .file z p=>[.str (Str.ofString "file"),.str z,.int p]
def Fz:Th->Prop
 | .own _=>True
 | .file z _=>Wc z
def qT:Th->PySem.W.Dat
 | .own n => .tuple [.str (Str.ofString "own"),.int n]
 | .file z p => .tuple [.str (Str.ofString "file"),.str z,.int p]
theorem MZ {a b:Th} : qT a=qT b↔a=b:=by
 cases a <;> cases b <;> simp [qT]
theorem Qc {a:Th} (h:Fz a) (k:Nat):PySem.W.kqdOk (k+1) (qT a)=true:=by
 have h1:PyData.strOk (Str.ofString "own")=true:=by decide +kernel
 have h2:PyData.strOk (Str.ofString "file")=true:=by decide +kernel
 cases a with
 | own n=>unfold qT;rw [PySem.W.kqdOk];cases k <;> simp [PySem.W.kqdOk,h1]
 | file z p =>
   have h3:PyData.strOk z=true:=h
   unfold qT;rw [PySem.W.kqdOk];cases k <;> simp [PySem.W.kqdOk,h2,h3]
theorem pN {H:Hp} {p:Addr} {a:Th} (h:H p=some (.tup (eV a))):dZ H (.ref p) (PySem.W.kqdP (qT a)):=by
 cases a with
 | own n =>
   unfold qT
   rw [PySem.W.kqdP,PySem.W.kqdPs,PySem.W.kqdPs,PySem.W.kqdPs,PySem.W.kqdP,PySem.W.kqdP]
   exact .tup h (.cons (.str _) (.cons (.int _) .nil))
 | file z q =>
   unfold qT
   rw [PySem.W.kqdP,PySem.W.kqdPs,PySem.W.kqdPs,PySem.W.kqdPs,PySem.W.kqdPs,PySem.W.kqdP,PySem.W.kqdP,PySem.W.kqdP]
   exact .tup h (.cons (.str _) (.cons (.str _) (.cons (.int _) .nil)))
abbrev Hd:=Option (Addr×Th)
def bq:Hd->V
 | none => .aM
 | some x => .ref x.1
def lG (x:Hd):Option Th:=x.map (·.2)
def dY:Option Th->PySem.W.Dat
 | none => .none
 | some a=>qT a
theorem fV {a b:Option Th} : dY a=dY b↔a=b:=by
 cases a with
 | none=>cases b with
   | none=>exact iff_of_true rfl rfl
   | some b=>cases b <;> simp [dY,qT]
 | some a=>cases b with
   | none=>cases a <;> simp [dY,qT]
   | some b=>show qT a=qT b↔_;rw [MZ,Option.some.injEq]
def fW:Option (Addr×List Int)->V
 | none => .aM
 | some x => .ref x.1
structure FS where
 b:Addr
 dx:Addr
 hl:Addr
 rl:Addr
 sl:Addr
 hs:List Hd
 rs:List (Option (Addr×List Int))
 bs:List Bool
def vH (hl rl sl:Addr):List (Str×V):=[("held",.ref hl),("rows",.ref rl),("soiled",.ref sl)]
abbrev ud (cF:Addr) (F:FS) (M:Cells):Cells:=(F.b,.ins cF F.dx (vH F.hl F.rl F.sl))::(F.hl,.lst (F.hs.map bq))::(F.rl,.lst (F.rs.map fW))::(F.sl,.lst (F.bs.map V.bl))::M
structure FA (F:FS) (n:Nat) (M:Cells):Prop where
 h:F.hs.length=n
 r:F.rs.length=n
 s:F.bs.length=n
 th : ∀ t a,some (t,a)∈F.hs->(t,HO.tup (eV a))∈M/\Fz a
 rw : ∀ t row,some (t,row)∈F.rs->(t,HO.lst (row.map V.int))∈M
theorem FA.mono {F:FS} {n:Nat} {M M':Cells} (g:FA F n M) (h : ∀ c∈M,c∈M'):FA F n M':=⟨g.h,g.r,g.s,λ t a ha=>⟨h _ (g.th t a ha).1,(g.th t a ha).2⟩,λ t a ha=>h _ (g.rw t a ha)⟩
def FS.fill (F:FS) (i:Nat) (x:Hd) (y:Option (Addr×List Int)) (b:Bool):FS := { F with hs:=F.hs.set i x,rs:=F.rs.set i y,bs:=F.bs.set i b }
theorem FA.fill {F:FS} {n:Nat} {M:Cells} (g:FA F n M) {i:Nat} {x:Hd} {y:Option (Addr×List Int)} {b:Bool} (hx : ∀ t a,x=some (t,a)->(t,HO.tup (eV a))∈M/\Fz a) (hy : ∀ t row,y=some (t,row)->(t,HO.lst (row.map V.int))∈M):FA (F.fill i x y b) n M:=by
 refine ⟨by show (F.hs.set i x).length=n;rw [List.length_set];exact g.h,by show (F.rs.set i y).length=n;rw [List.length_set];exact g.r,by show (F.bs.set i b).length=n;rw [List.length_set];exact g.s,λ t a ha => ?_,λ t a ha => ?_⟩
 ·rcases List.mem_or_eq_of_mem_set ha with h | h
  ·exact g.th t a h
  ·exact hx t a h.symm
 ·rcases List.mem_or_eq_of_mem_set ha with h | h
  ·exact g.rw t a h
  ·exact hy t a h.symm
theorem M4 (v:V) (n:Nat):(List.replicate n [v]).flatten=List.replicate n v:=by
 induction n with
 | zero=>rfl
 | succ n ih=>rw [List.replicate_succ,List.flatten_cons,ih,List.replicate_succ];rfl
def FS.new (b dx hl rl sl:Addr) (n:Nat):FS:=⟨b,dx,hl,rl,sl,List.replicate n none,List.replicate n none,List.replicate n false⟩
 local macro_rules | `(tactic| walk_at "spf") => `(tactic| (simp only [ud,FS.fill,FS.new,List.cons_append,List.nil_append];walk_at "sp"))
theorem FA.new {b dx hl rl sl:Addr} {n:Nat} {M:Cells} : FA (FS.new b dx hl rl sl n) n M:=by
 refine ⟨List.length_replicate,List.length_replicate,List.length_replicate,λ t a h => ?_,λ t a h => ?_⟩
 ·exact nomatch (List.mem_replicate.mp h).2
 ·exact nomatch (List.mem_replicate.mp h).2
def Im (cF:Addr):Sp:=λ vs H Q _ => ∃ (b dx:Addr) (n:Nat) (L:Cells),vs = [.ref b,.int (n:Nat)]/\Led H ((b,.ins cF dx [])::L)/\n<=600 ∧ ∀ hl rl sl H',Led H' (ud cF (FS.new b dx hl rl sl n) L)->Q .aM H'
theorem M5 (D:oM K cF "Frames.__init__" dP) (T:Txt K mg cU cA cB cC cT cF cD cS cI):iW P w K mg base 1 cF ["self","many"] (Im cF):=by
 have sc:=lZ
 refine D.ok lZ (λ vs H Q E h => ?_) (λ _ _ _ _ _ _ us hl=>match us,hl with | [_,_],_=>rfl) (λ f cdv A outer s H vs Q E hr h => ?_)
 ·obtain ⟨_,_,_,_,rfl,_⟩:=h;rfl
 ·obtain ⟨b,dx,n,L,rfl,hL,Ky,k⟩:=h
  refine ⟨_,(@af _ _ _ _ _ (@cR _ _ _ _ _ _ _ _ _ _ T.Frames T.oU (@aq _ 0 _ _ (by walk_at "v")) (@av _ _ _ _ _ _ _ _ lR (@jo _ _ _ _ (@aa _ _ _ _ _ (@bJ _ _ _) (@ak _) (by rfl))) (@aq _ 1 _ _ (by walk_at "v"))) (by rfl)) (@af _ _ _ _ _ (@cR _ _ _ _ _ _ _ _ _ _ T.Frames T.rK (@aq _ 0 _ _ (by walk_at "v")) (@av _ _ _ _ _ _ _ _ lR (@jo _ _ _ _ (@aa _ _ _ _ _ (@bJ _ _ _) (@ak _) (by rfl))) (@aq _ 1 _ _ (by walk_at "v"))) (by rfl)) (@ao _ _ _ (@cR _ _ _ _ _ _ _ _ _ _ T.Frames T.l8 (@aq _ 0 _ _ (by walk_at "v")) (@av _ _ _ _ _ _ _ _ lR (@jo _ _ _ _ (@aa _ _ _ _ _ (@bP _ _ _ _) (@ak _) (by rfl))) (@aq _ 1 _ _ (by walk_at "v"))) (by rfl))))),?_⟩
  refine aG λ M1 K1 => ?_
  walk_at "gd"
  rename Led _ _=>hl2
  refine Es (hl2.get mS) ⟨by omega,by omega⟩ (by have:=sizeLine_eq;simp only [List.length_cons,List.length_nil];omega) (Led.alloc hl2 λ l H3 _ hl3 _ => ?_)
  rw [M4,Int.toNat_natCast] at hl3
  walk_at "gd"
  refine K1.use ?_
  walk_at "cl"
  clear K1
  have bZ:Led H3 ((b,.ins cF dx [])::(l,.lst (List.replicate n .aM))::L):=hl3.wk (by walk_at "sp")
  have cN:Led (upd H3 b (.ins cF dx (dg (Str.ofString "held") (V.ref l) []))) ((b,.ins cF dx [("held",.ref l)])::(l,.lst (List.replicate n .aM))::L):=bZ.put rfl rfl
  generalize upd H3 b (.ins cF dx (dg (Str.ofString "held") (V.ref l) []))=H4 at cN ⊢
  clear bZ hl3 hl2 hL
  refine aG λ M1 K1 => ?_
  walk_at "gd"
  rename Led _ _=>hl2
  refine Es (hl2.get mS) ⟨by omega,by omega⟩ (by have:=sizeLine_eq;simp only [List.length_cons,List.length_nil];omega) (Led.alloc hl2 λ r H5 _ cO _ => ?_)
  rw [M4,Int.toNat_natCast] at cO
  walk_at "gd"
  refine K1.use ?_
  walk_at "cl"
  clear K1
  have fH:Led H5 ((b,.ins cF dx [("held",.ref l)])::(l,.lst (List.replicate n .aM))::(r,.lst (List.replicate n .aM))::L):=cO.wk (by walk_at "sp")
  have jS:Led (upd H5 b (.ins cF dx (dg (Str.ofString "rows") (V.ref r) [("held",.ref l)]))) ((b,.ins cF dx [("held",.ref l),("rows",.ref r)])::(l,.lst (List.replicate n .aM))::(r,.lst (List.replicate n .aM))::L):=fH.put rfl rfl
  generalize upd H5 b (.ins cF dx (dg (Str.ofString "rows") (V.ref r) [("held",.ref l)]))=H6 at jS ⊢
  clear fH cO hl2 cN
  walk_at "gd"
  rename Led _ _=>hl2
  refine Es (hl2.get mS) ⟨by omega,by omega⟩ (by have:=sizeLine_eq;simp only [List.length_cons,List.length_nil];omega) (Led.alloc hl2 λ q H7 _ ic _ => ?_)
  rw [M4,Int.toNat_natCast] at ic
  walk_at "gd"
  have fu:Led H7 ((b,.ins cF dx [("held",.ref l),("rows",.ref r)])::(l,.lst (List.replicate n .aM))::(r,.lst (List.replicate n .aM))::(q,.lst (List.replicate n (.bl false)))::L):=ic.wk (by walk_at "sp")
  have dD:=fu.put (o' := .ins cF dx (vH l r q)) rfl rfl
  refine k l r q _ ?_
  unfold ud FS.new
  simp only [List.map_replicate]
  exact dD
def Ht (cF:Addr):Sp:=λ vs H Q _ => ∃ (F:FS) (n i:Nat) (t r0:Addr) (a:Th) (row:List Int) (M:Cells),vs = [.ref F.b,.int (i:Nat),.ref t,.ref r0]/\Led H (ud cF F M)/\FA F n M/\i < n/\(r0,HO.lst (row.map V.int))∈M/\row.length<=600 ∧
 ∀ r H',Led H' (ud cF (F.fill i (some (t,a)) (some (r,row)) false) ((r,.lst (row.map V.int))::M))->Q .aM H'
theorem Qd (D:bM K cF "fill" "Frames.fill" dQ) (B:iV mg) (T:Txt K mg cU cA cB cC cT cF cD cS cI):aR P w K mg base 1 cF "fill" ["self","frame","thing","row"] (Ht cF):=by
 have sc:=l5
 refine D.ok l5 (λ vs H Q E h => ?_) (λ _ _ _ _ _ _ us hl=>match us,hl with | [_,_,_,_],_=>rfl) (λ f cdv A outer s H vs Q E hr h => ?_)
 ·obtain ⟨_,_,_,_,_,_,_,_,rfl,_⟩:=h;rfl
 ·obtain ⟨F,n,i,t,r0,a,row,M,rfl,hL,g,hi,nM,hrl,k⟩:=h
  have hf1:(vH F.hl F.rl F.sl).lookup (Str.ofString "held")=some (.ref F.hl):=rfl
  have hf2:(vH F.hl F.rl F.sl).lookup (Str.ofString "rows")=some (.ref F.rl):=rfl
  have hf3:(vH F.hl F.rl F.sl).lookup (Str.ofString "soiled")=some (.ref F.sl):=rfl
  have gh:=g.h
  have gr:=g.r
  have gs:=g.s
  have m1:(F.hs.map bq).length=F.hs.length:=List.length_map _
  have m2:(F.rs.map fW).length=F.rs.length:=List.length_map _
  have m3:(F.bs.map V.bl).length=F.bs.length:=List.length_map _
  refine ⟨_,(@af _ _ _ _ _ (@bF _ _ _ _ _ _ (@aq _ 2 _ _ (by walk_at "v")) (@bG _ _ _ _ _ _ _ (@aB _ _ _ _ _ _ _ T.Frames T.oU (@aq _ 0 _ _ (by walk_at "v")) (by rfl)) (@aq _ 1 _ _ (by walk_at "v")) set_list (by intro _;rfl)) (by rfl) (by rfl) (by rfl)) (@af _ _ _ _ _ (@bF _ _ _ _ _ _ (@bh _ _ _ _ _ _ _ _ _ (aY (K:=K) rfl) (by rfl) B.list bO (@aa _ _ _ _ _ (@aq _ 3 _ _ (by walk_at "v")) (@ak _) (by rfl)) (by decide) (by decide) (by rfl) (by rfl)) (@bG _ _ _ _ _ _ _ (@aB _ _ _ _ _ _ _ T.Frames T.rK (@aq _ 0 _ _ (by walk_at "v")) (by rfl)) (@aq _ 1 _ _ (by walk_at "v")) set_list (by intro _;rfl)) (by rfl) (by rfl) (by rfl)) (@ao _ _ _ (@bF _ _ _ _ _ _ (@bP _ _ _ _) (@bG _ _ _ _ _ _ _ (@aB _ _ _ _ _ _ _ T.Frames T.l8 (@aq _ 0 _ _ (by walk_at "v")) (by rfl)) (@aq _ 1 _ _ (by walk_at "v")) set_list (by intro _;rfl)) (by rfl) (by rfl) (by rfl))))),?_⟩
  refine aG λ M1 K1 => ?_
  walk_at "ge"
  refine cg (hL.get (mC mS)) (bD (by omega) (by omega)) ?_
  rw [Int.toNat_natCast,show (F.hs.map bq).set i (V.ref t)=(F.hs.set i (some (t,a))).map bq by rw [List.map_set];rfl]
  have hl2:Led (upd H F.hl (.lst ((F.hs.set i (some (t,a))).map bq))) ((F.b,.ins cF F.dx (vH F.hl F.rl F.sl))::(F.hl,.lst ((F.hs.set i (some (t,a))).map bq))::(F.rl,.lst (F.rs.map fW))::(F.sl,.lst (F.bs.map V.bl))::M):=hL.gB 1 rfl rfl rfl
  generalize upd H F.hl (.lst ((F.hs.set i (some (t,a))).map bq))=H2 at hl2 ⊢
  walk_at "ge"
  refine K1.use ?_
  walk_at "cl"
  clear K1 hL
  refine aG λ M1 K1 => ?_
  walk_at "ge"
  rename_i r H3 _ hl3 _ _ _ _ _ _ _
  refine cg (hl3.get (mC (mC (mC mS)))) (bD (by omega) (by omega)) ?_
  rw [Int.toNat_natCast,show (F.rs.map fW).set i (V.ref r)=(F.rs.set i (some (r,row))).map fW by rw [List.map_set];rfl]
  have bZ:Led (upd H3 F.rl (.lst ((F.rs.set i (some (r,row))).map fW))) ((r,.lst (row.map V.int))::(F.b,.ins cF F.dx (vH F.hl F.rl F.sl))::(F.hl,.lst ((F.hs.set i (some (t,a))).map bq))::(F.rl,.lst ((F.rs.set i (some (r,row))).map fW))::(F.sl,.lst (F.bs.map V.bl))::M):=hl3.gB 3 rfl rfl rfl
  generalize upd H3 F.rl (.lst ((F.rs.set i (some (r,row))).map fW))=H4 at bZ ⊢
  walk_at "ge"
  refine K1.use ?_
  walk_at "cl"
  clear K1 hl2 hl3
  walk_at "ge"
  refine cg (bZ.get (mC (mC (mC (mC mS))))) (bD (by omega) (by omega)) ?_
  rw [Int.toNat_natCast,show (F.bs.map V.bl).set i (V.bl false)=(F.bs.set i false).map V.bl by rw [List.map_set]]
  have cN:Led (upd H4 F.sl (.lst ((F.bs.set i false).map V.bl))) ((r,.lst (row.map V.int))::(F.b,.ins cF F.dx (vH F.hl F.rl F.sl))::(F.hl,.lst ((F.hs.set i (some (t,a))).map bq))::(F.rl,.lst ((F.rs.set i (some (r,row))).map fW))::(F.sl,.lst ((F.bs.set i false).map V.bl))::M):=bZ.gB 4 rfl rfl rfl
  walk_at "ge"
  exact k r _ (cN.wk (by walk_at "spf"))
def Io (cF:Addr):Sp:=λ vs H Q _ => ∃ (F:FS) (n i:Nat) (M:Cells),vs = [.ref F.b,.int (i:Nat)]/\Led H (ud cF F M)/\FA F n M/\i < n ∧ ∀ H',Led H' (ud cF (F.fill i none none false) M)->Q .aM H'
theorem M6 (D:bM K cF "empty" "Frames.empty" c6) (B:iV mg) (T:Txt K mg cU cA cB cC cT cF cD cS cI):aR P w K mg base 1 cF "empty" ["self","frame"] (Io cF):=by
 have sc:=kP
 refine D.ok kP (λ vs H Q E h => ?_) (λ _ _ _ _ _ _ us hl=>match us,hl with | [_,_],_=>rfl) (λ f cdv A outer s H vs Q E hr h => ?_)
 ·obtain ⟨_,_,_,_,rfl,_⟩:=h;rfl
 ·obtain ⟨F,n,i,M,rfl,hL,g,hi,k⟩:=h
  have hf1:(vH F.hl F.rl F.sl).lookup (Str.ofString "held")=some (.ref F.hl):=rfl
  have hf2:(vH F.hl F.rl F.sl).lookup (Str.ofString "rows")=some (.ref F.rl):=rfl
  have hf3:(vH F.hl F.rl F.sl).lookup (Str.ofString "soiled")=some (.ref F.sl):=rfl
  have gh:=g.h
  have gr:=g.r
  have gs:=g.s
  have m1:(F.hs.map bq).length=F.hs.length:=List.length_map _
  have m2:(F.rs.map fW).length=F.rs.length:=List.length_map _
  have m3:(F.bs.map V.bl).length=F.bs.length:=List.length_map _
  refine ⟨_,(@af _ _ _ _ _ (@bF _ _ _ _ _ _ (@bJ _ _ _) (@bG _ _ _ _ _ _ _ (@aB _ _ _ _ _ _ _ T.Frames T.oU (@aq _ 0 _ _ (by walk_at "v")) (by rfl)) (@aq _ 1 _ _ (by walk_at "v")) set_list (by intro _;rfl)) (by rfl) (by rfl) (by rfl)) (@af _ _ _ _ _ (@bF _ _ _ _ _ _ (@bJ _ _ _) (@bG _ _ _ _ _ _ _ (@aB _ _ _ _ _ _ _ T.Frames T.rK (@aq _ 0 _ _ (by walk_at "v")) (by rfl)) (@aq _ 1 _ _ (by walk_at "v")) set_list (by intro _;rfl)) (by rfl) (by rfl) (by rfl)) (@ao _ _ _ (@bF _ _ _ _ _ _ (@bP _ _ _ _) (@bG _ _ _ _ _ _ _ (@aB _ _ _ _ _ _ _ T.Frames T.l8 (@aq _ 0 _ _ (by walk_at "v")) (by rfl)) (@aq _ 1 _ _ (by walk_at "v")) set_list (by intro _;rfl)) (by rfl) (by rfl) (by rfl))))),?_⟩
  refine aG λ M1 K1 => ?_
  walk_at "ge"
  refine cg (hL.get (mC mS)) (bD (by omega) (by omega)) ?_
  rw [Int.toNat_natCast,show (F.hs.map bq).set i V.aM=(F.hs.set i none).map bq by rw [List.map_set];rfl]
  have hl2:Led (upd H F.hl (.lst ((F.hs.set i none).map bq))) ((F.b,.ins cF F.dx (vH F.hl F.rl F.sl))::(F.hl,.lst ((F.hs.set i none).map bq))::(F.rl,.lst (F.rs.map fW))::(F.sl,.lst (F.bs.map V.bl))::M):=hL.gB 1 rfl rfl rfl
  generalize upd H F.hl (.lst ((F.hs.set i none).map bq))=H2 at hl2 ⊢
  walk_at "ge"
  refine K1.use ?_
  walk_at "cl"
  clear K1 hL
  refine aG λ M1 K1 => ?_
  walk_at "ge"
  refine cg (hl2.get (mC (mC mS))) (bD (by omega) (by omega)) ?_
  rw [Int.toNat_natCast,show (F.rs.map fW).set i V.aM=(F.rs.set i none).map fW by rw [List.map_set];rfl]
  have bZ:Led (upd H2 F.rl (.lst ((F.rs.set i none).map fW))) ((F.b,.ins cF F.dx (vH F.hl F.rl F.sl))::(F.hl,.lst ((F.hs.set i none).map bq))::(F.rl,.lst ((F.rs.set i none).map fW))::(F.sl,.lst (F.bs.map V.bl))::M):=hl2.gB 2 rfl rfl rfl
  generalize upd H2 F.rl (.lst ((F.rs.set i none).map fW))=H4 at bZ ⊢
  walk_at "ge"
  refine K1.use ?_
  walk_at "cl"
  clear K1 hl2
  walk_at "ge"
  refine cg (bZ.get (mC (mC (mC mS)))) (bD (by omega) (by omega)) ?_
  rw [Int.toNat_natCast,show (F.bs.map V.bl).set i (V.bl false)=(F.bs.set i false).map V.bl by rw [List.map_set]]
  have cN:Led (upd H4 F.sl (.lst ((F.bs.set i false).map V.bl))) ((F.b,.ins cF F.dx (vH F.hl F.rl F.sl))::(F.hl,.lst ((F.hs.set i none).map bq))::(F.rl,.lst ((F.rs.set i none).map fW))::(F.sl,.lst ((F.bs.set i false).map V.bl))::M):=bZ.gB 3 rfl rfl rfl
  walk_at "ge"
  exact k _ cN
def jT (p:Int) (m:Addr):List (Str×V):=[("stands_at",.int p),("marked",.ref m)]
def f9 (cD d dx m:Addr) (p:Int) (bs:List Bool):Cells:=[(d,.ins cD dx (jT p m)),(m,.lst (bs.map V.bl))]
theorem M7 {cD d dx m:Addr} {p:Int} {bs:List Bool} {L:Cells} : (d,HO.ins cD dx (jT p m))∈f9 cD d dx m p bs++L:=mS
theorem Wd {cD d dx m:Addr} {p:Int} {bs:List Bool} {L:Cells} : (m,HO.lst (bs.map V.bl))∈f9 cD d dx m p bs++L:=mC mS
theorem ue (bs:List Bool) (j:Nat) (b:Bool):(bs.map V.bl).set j (.bl b)=(bs.set j b).map V.bl:=by rw [List.map_set]
theorem Led.Tp {H:Hp} {cD d dx m:Addr} {p:Int} {bs bs':List Bool} {L:Cells} (h:Led H (f9 cD d dx m p bs++L)):Led (upd H m (.lst (bs'.map V.bl))) (f9 cD d dx m p bs'++L) :=
 (Led.put (Led.swap (show Led H ((d,.ins cD dx (jT p m))::(m,.lst (bs.map V.bl))::L) from h)) rfl rfl).swap
theorem M8 (n:Nat):(List.replicate n [V.bl false]).flatten=(List.replicate n false).map V.bl:=by
 induction n with
 | zero=>rfl
 | succ n ih=>rw [List.replicate_succ,List.flatten_cons,ih,List.replicate_succ];rfl
def Ip (cD:Addr):Sp:=λ vs H Q _ => ∃ (d dx:Addr) (n:Int) (L:Cells),vs = [.ref d,.int n]/\Led H ((d,.ins cD dx [])::L)/\0<=n/\n<=64 ∧ ∀ m H',Led H' (f9 cD d dx m 0 (List.replicate n.toNat false)++L)->Q .aM H'
theorem M9 (D:oM K cD "Dial.__init__" fz) (T:Txt K mg cU cA cB cC cT cF cD cS cI):iW P w K mg base 1 cD ["self","many"] (Ip cD):=by
 have sc:=qd
 refine D.ok qd (λ vs H Q E h => ?_) (λ _ _ _ _ _ _ us hl=>match us,hl with | [_,_],_=>rfl) (λ f cdv A outer s H vs Q E hr h => ?_)
 ·obtain ⟨_,_,_,_,rfl,_⟩:=h;rfl
 ·obtain ⟨d,dx,n,L,rfl,hL,h0,h64,k⟩:=h
  refine ⟨_,(@af _ _ _ _ _ (@cR _ _ _ _ _ _ _ _ _ _ T.kr T.i6 (@aq _ 0 _ _ (by walk_at "v")) (@aj _ _ _ _) (by rfl)) (@ao _ _ _ (@cR _ _ _ _ _ _ _ _ _ _ T.kr T.iI (@aq _ 0 _ _ (by walk_at "v")) (@av _ _ _ _ _ _ _ _ lR (@jo _ _ _ _ (@aa _ _ _ _ _ (@bP _ _ _ _) (@ak _) (by rfl))) (@aq _ 1 _ _ (by walk_at "v"))) (by rfl)))),?_⟩
  refine aG λ M1 K1 => ?_
  walk_at "gd"
  refine K1.use ?_
  clear K1
  have hL1:Led (upd H d (.ins cD dx (dg (Str.ofString "stands_at") (V.int 0) []))) ((d,.ins cD dx [("stands_at",.int 0)])::L):=hL.put rfl rfl
  generalize upd H d (.ins cD dx (dg (Str.ofString "stands_at") (V.int 0) []))=H1 at hL1 ⊢
  walk_at "gd"
  rename_i l0 H2 _ hl2 _ _ _
  have hsz:1 * n.toNat<=sizeLine:=by have:=sizeLine_eq;omega
  refine Es (hl2.get mS) ⟨by omega,by omega⟩ hsz (Led.alloc hl2 λ m H3 _ hl3 _ => ?_)
  rw [M8] at hl3
  walk_at "gd"
  have bZ:Led H3 ((d,.ins cD dx [("stands_at",.int 0)])::(m,.lst ((List.replicate n.toNat false).map V.bl))::L):=hl3.wk (by walk_at "sp")
  exact k m _ (bZ.put (o' := .ins cD dx (jT 0 m)) rfl rfl)
def BJ (cD:Addr):Sp:=λ vs H Q _ => ∃ (d dx m:Addr) (p:Int),vs = [.ref d]/\H d=some (.ins cD dx (jT p m))/\Q (.int p) H
theorem Hu (D:bM K cD "pointer" "Dial.pointer" cY) (T:Txt K mg cU cA cB cC cT cF cD cS cI):aR P w K mg base 1 cD "pointer" ["self"] (BJ cD):=by
 have sc:=kN
 refine D.ok kN (λ vs H Q E h => ?_) (λ _ _ _ _ _ _ us hl=>match us,hl with | [_],_=>rfl) (λ f cdv A outer s H vs Q E hr h => ?_)
 ·obtain ⟨_,_,_,_,rfl,_⟩:=h;rfl
 ·obtain ⟨d,dx,m,p,rfl,hd,k⟩:=h
  have hf:(jT p m).lookup (Str.ofString "stands_at")=some (.int p):=rfl
  refine ⟨_,(@ao _ _ _ (@aE _ _ _ _ (@aB _ _ _ _ _ _ _ T.kr T.i6 (@aq _ 0 _ _ (by walk_at "v")) (by rfl)))),?_⟩
  walk_at "gd"
  exact k
def yx (cD:Addr) (b:Bool):Sp:=λ vs H Q _ => ∃ (d dx m:Addr) (p f:Int) (bs:List Bool) (L:Cells),vs = [.ref d,.int f]/\Led H (f9 cD d dx m p bs++L)/\0<=f/\f < bs.length ∧ ∀ H',Led H' (f9 cD d dx m p (bs.set f.toNat b)++L)->Q .aM H'
theorem Na (D:bM K cD "touch" "Dial.touch" ef) (T:Txt K mg cU cA cB cC cT cF cD cS cI):aR P w K mg base 1 cD "touch" ["self","frame"] (yx cD true):=by
 have sc:=nU
 refine D.ok nU (λ vs H Q E h => ?_) (λ _ _ _ _ _ _ us hl=>match us,hl with | [_,_],_=>rfl) (λ f cdv A outer s H vs Q E hr h => ?_)
 ·obtain ⟨_,_,_,_,_,_,_,rfl,_⟩:=h;rfl
 ·obtain ⟨d,dx,m,p,fr,bs,L,rfl,hL,f0,f1,k⟩:=h
  have hf:(jT p m).lookup (Str.ofString "marked")=some (.ref m):=rfl
  have c1:=hL.get (M7 (cD:=cD) (d:=d) (dx:=dx) (m:=m) (p:=p) (bs:=bs) (L:=L))
  have c2:=hL.get (Wd (cD:=cD) (d:=d) (dx:=dx) (m:=m) (p:=p) (bs:=bs) (L:=L))
  refine ⟨_,(@ao _ _ _ (@bF _ _ _ _ _ _ (@bP _ _ _ _) (@bG _ _ _ _ _ _ _ (@aB _ _ _ _ _ _ _ T.kr T.iI (@aq _ 0 _ _ (by walk_at "v")) (by rfl)) (@aq _ 1 _ _ (by walk_at "v")) set_list (by intro _;rfl)) (by rfl) (by rfl) (by rfl))),?_⟩
  walk_at "gd"
  refine cg c2 (bD f0 (by rw [List.length_map];exact f1)) ?_
  rw [ue]
  walk_at "gd"
  exact k _ (Led.Tp hL)
theorem Nb (D:bM K cD "clear" "Dial.clear" eg) (T:Txt K mg cU cA cB cC cT cF cD cS cI):aR P w K mg base 1 cD "clear" ["self","frame"] (yx cD false):=by
 have sc:=nV
 refine D.ok nV (λ vs H Q E h => ?_) (λ _ _ _ _ _ _ us hl=>match us,hl with | [_,_],_=>rfl) (λ f cdv A outer s H vs Q E hr h => ?_)
 ·obtain ⟨_,_,_,_,_,_,_,rfl,_⟩:=h;rfl
 ·obtain ⟨d,dx,m,p,fr,bs,L,rfl,hL,f0,f1,k⟩:=h
  have hf:(jT p m).lookup (Str.ofString "marked")=some (.ref m):=rfl
  have c1:=hL.get (M7 (cD:=cD) (d:=d) (dx:=dx) (m:=m) (p:=p) (bs:=bs) (L:=L))
  have c2:=hL.get (Wd (cD:=cD) (d:=d) (dx:=dx) (m:=m) (p:=p) (bs:=bs) (L:=L))
  refine ⟨_,(@ao _ _ _ (@bF _ _ _ _ _ _ (@bP _ _ _ _) (@bG _ _ _ _ _ _ _ (@aB _ _ _ _ _ _ _ T.kr T.iI (@aq _ 0 _ _ (by walk_at "v")) (by rfl)) (@aq _ 1 _ _ (by walk_at "v")) set_list (by intro _;rfl)) (by rfl) (by rfl) (by rfl))),?_⟩
  walk_at "gd"
  refine cg c2 (bD f0 (by rw [List.length_map];exact f1)) ?_
  rw [ue]
  walk_at "gd"
  exact k _ (Led.Tp hL)
def Iq (cD:Addr):Sp:=λ vs H Q _ => ∃ (d dx m:Addr) (p:Int) (bs:List Bool) (L:Cells),vs = [.ref d]/\Led H L/\H d=some (.ins cD dx (jT p m))/\H m=some (.lst (bs.map V.bl)) ∧ ∀ r H',Led H' ((r,.lst (bs.map V.bl))::L)->Q (.ref r) H'
theorem Nc (D:bM K cD "marks" "Dial.marks" ek) (B:iV mg) (T:Txt K mg cU cA cB cC cT cF cD cS cI):aR P w K mg base 1 cD "marks" ["self"] (Iq cD):=by
 have sc:=nW
 refine D.ok nW (λ vs H Q E h => ?_) (λ _ _ _ _ _ _ us hl=>match us,hl with | [_],_=>rfl) (λ f cdv A outer s H vs Q E hr h => ?_)
 ·obtain ⟨_,_,_,_,_,_,rfl,_⟩:=h;rfl
 ·obtain ⟨d,dx,m,p,bs,L,rfl,hL,c1,c2,k⟩:=h
  have hf:(jT p m).lookup (Str.ofString "marked")=some (.ref m):=rfl
  refine ⟨_,(@ao _ _ _ (@aE _ _ _ _ (@bh _ _ _ _ _ _ _ _ _ (aY (K:=K) rfl) (by rfl) B.list bO (@aa _ _ _ _ _ (@aB _ _ _ _ _ _ _ T.kr T.iI (@aq _ 0 _ _ (by walk_at "v")) (by rfl)) (@ak _) (by rfl)) (by decide) (by decide) (by rfl) (by rfl)))),?_⟩
  walk_at "gd"
  rename_i r H1 _ hl1 _
  exact k r _ hl1
def DR (may:List Bool):Nat->Nat->List Bool->Option (Nat×List Bool)
 | 0,_,_=>none
 | k+1,p,bs=>if may.getD (p % may.length) false=true/\bs.getD (p % may.length) false=false then some (p % may.length,bs) else DR may k (p+1) (if may.getD (p % may.length) false=true then bs.set (p % may.length) false else bs)
theorem Nd (may:List Bool) (k p:Nat) (bs:List Bool):DR may (k+1) p bs=if may.getD (p % may.length) false=true/\bs.getD (p % may.length) false=false then some (p % may.length,bs) else DR may k (p+1) (if may.getD (p % may.length) false=true then bs.set (p % may.length) false else bs):=rfl
theorem Kz {bs:List Bool} {f g:Nat} (h:bs.getD f false=false):(bs.set g false).getD f false=false:=by
 rw [List.getD_eq_getElem?_getD] at h ⊢
 rw [List.getElem?_set]
 split
 ·split
  ·rfl
  ·rfl
 ·exact h
theorem Nf {bs:List Bool} {f:Nat} : (bs.set f false).getD f false=false:=by
 rw [List.getD_eq_getElem?_getD,List.getElem?_set]
 rw [if_pos rfl]
 split <;> rfl
theorem Rr {may:List Bool} {f:Nat} (hf:may.getD f false=true) : ∀ (k p:Nat) (bs:List Bool),bs.getD f false=false->(∃ j,j < k/\(p+j) % may.length=f)->∃ r,DR may k p bs=some r
 | 0,_,_,_,⟨j,hj,_⟩=>absurd hj (Nat.not_lt_zero _)
 | k+1,p,bs,hb,⟨j,hj,hm⟩=>by
   unfold DR
   by_cases h:may.getD (p % may.length) false=true/\bs.getD (p % may.length) false=false
   ·rw [if_pos h];exact ⟨_,rfl⟩
   ·rw [if_neg h]
    cases j with
    | zero=>rw [Nat.add_zero] at hm;rw [hm] at h;exact absurd ⟨hf,hb⟩ h
    | succ j =>
      refine Rr hf k (p+1) _ ?_ ⟨j,by omega,by rw [<-hm];congr 1;omega⟩
      split
      ·exact Kz hb
      ·exact hb
theorem Rt {may:List Bool} {f:Nat} (hf:may.getD f false=true) (hn:0 < may.length) : ∀ (k p:Nat) (bs:List Bool),(∃ j,j+may.length < k/\(p+j) % may.length=f)->∃ r,DR may k p bs=some r
 | 0,_,_,⟨j,hj,_⟩=>absurd hj (Nat.not_lt_zero _)
 | k+1,p,bs,⟨j,hj,hm⟩=>by
   unfold DR
   by_cases h:may.getD (p % may.length) false=true/\bs.getD (p % may.length) false=false
   ·rw [if_pos h];exact ⟨_,rfl⟩
   ·rw [if_neg h]
    cases j with
    | zero =>
      rw [Nat.add_zero] at hm
      rw [hm,if_pos hf]
      refine Rr hf k (p+1) _ Nf ⟨may.length - 1,by omega,?_⟩
      rw [show p+1+(may.length - 1)=p+may.length by omega,Nat.add_mod_right,hm]
    | succ j=>exact Rt hf hn k (p+1) _ ⟨j,by omega,by rw [<-hm];congr 1;omega⟩
theorem reach (p f n:Nat) (hf:f < n) : ∃ j,j < n/\(p+j) % n=f:=by
 have hr:p % n < n:=Nat.mod_lt _ (by omega)
 by_cases h:p % n<=f
 ·refine ⟨f - p % n,by omega,?_⟩
  rw [<-Nat.mod_add_mod,show p % n+(f - p % n)=f by omega,Nat.mod_eq_of_lt hf]
 ·refine ⟨f+n - p % n,by omega,?_⟩
  rw [<-Nat.mod_add_mod,show p % n+(f+n - p % n)=f+n by omega,Nat.add_mod_right,Nat.mod_eq_of_lt hf]
theorem Ng {may:List Bool} (h:true∈may) (p:Nat) (bs:List Bool) : ∃ r,DR may (2 * may.length) p bs=some r:=by
 obtain ⟨f,hf,e⟩:=List.getElem_of_mem h
 obtain ⟨j,hj,hm⟩:=reach p f may.length hf
 refine Rt (f:=f) ?_ (by omega) _ p bs ⟨j,by omega,hm⟩
 rw [List.getD_eq_getElem?_getD,List.getElem?_eq_getElem hf,e]
 rfl
theorem qU {may:List Bool} : ∀ (k p:Nat) (bs:List Bool) {f:Nat} {bs':List Bool},DR may k p bs=some (f,bs')->bs'.length=bs.length/\(0 < may.length->f < may.length)/\may.getD f false=true
 | 0,_,_,_,_,h=>nomatch h
 | k+1,p,bs,f,bs',h=>by
   unfold DR at h
   split at h
   ·rename_i hc
    cases h
    exact ⟨rfl,λ hp=>Nat.mod_lt _ hp,hc.1⟩
   ·obtain ⟨h1,h2,h3⟩:=qU k (p+1) _ h
    refine ⟨?_,h2,h3⟩
    rw [h1]
    split
    ·rw [List.length_set]
    ·rfl
def E3 (cD cU:Addr):Sp:=λ vs H Q E => ∃ (d dx m q:Addr) (p:Nat) (may bs:List Bool) (L:Cells),vs = [.ref d,.ref q]/\Led H (f9 cD d dx m p bs++L)/\(q,HO.lst (may.map V.bl))∈L/\may.length=bs.length/\0 < bs.length/\bs.length<=64 ∧
 (∀ f bs' H',DR may (2 * may.length) p bs=some (f,bs')->Led H' (f9 cD d dx m ((f+1) % may.length:Nat) bs'++L)->Q (.int f) H')/\(∀ H',true ∉ may->Led H' (f9 cD d dx m p bs++L)->E (.ref cU) none H')
theorem KA (D:bM K cD "choose" "Dial.choose" dO) (B:iV mg) (T:Txt K mg cU cA cB cC cT cF cD cS cI):aR P w K mg base 1 cD "choose" ["self","may"] (E3 cD cU):=by
 have sc:=lY
 refine D.Ep lY (λ vs H Q E h => ?_) (λ _ _ _ _ _ _ us hl=>match us,hl with | [_,_],_=>rfl) (λ f cdv A outer s H vs Q E hr h => ?_)
 ·obtain ⟨_,_,_,_,_,_,_,_,rfl,_⟩:=h;rfl
 ·obtain ⟨d,dx,m,q,p,may,bs,L,rfl,hL,iq,hml,hn0,h64,k1,k2⟩:=h
  have hf1:(jT p m).lookup (Str.ofString "marked")=some (.ref m):=rfl
  have hf2:(jT p m).lookup (Str.ofString "stands_at")=some (.int p):=rfl
  have c1:=hL.get (M7 (cD:=cD) (d:=d) (dx:=dx) (m:=m) (p:=p) (bs:=bs) (L:=L))
  have c2:=hL.get (Wd (cD:=cD) (d:=d) (dx:=dx) (m:=m) (p:=p) (bs:=bs) (L:=L))
  have hlb:((bs.map V.bl).length:Int)=bs.length:=by rw [List.length_map]
  refine ⟨_,(@af _ _ _ _ _ (@aI _ _ 2 _ _ _ _ sc.nd rfl (by walk_at "o2") (@aH _ _ _ _ _ _ _ _ _ aL (by rfl) B.len bw (@aa _ _ _ _ _ (@aB _ _ _ _ _ _ _ T.kr T.iI (@aq _ 0 _ _ (by walk_at "v")) (by rfl)) (@ak _) (by rfl)) (by decide) (by decide) (by rfl) (by rfl)) (by rfl) (by walk_at "o4")) (@af _ _ _ _ _ (@iD _ _ _ _ _ _ _ _ PassesOwn.leaving rfl (@ck _ _ _ _ _ _ (by rfl) B.range (@aa _ _ _ _ _ (@av _ _ _ _ _ _ _ _ gc (@aj _ _ _ _) (@aq _ 2 _ _ (by walk_at "v"))) (@ak _) (by rfl)) (by rfl)) (@d9 _ _ 3 _ sc.nd rfl (by walk_at "o2") (by walk_at "o4")) (@af _ _ _ _ _ (@aI _ _ 4 _ _ _ _ sc.nd rfl (by walk_at "o2") (@av _ _ _ _ _ _ _ _ aJ (@av _ _ _ _ _ _ _ _ aT (@aB _ _ _ _ _ _ _ T.kr T.i6 (@aq _ 0 _ _ (by walk_at "v")) (by rfl)) (@aq _ 3 _ _ (by walk_at "v"))) (@aq _ 2 _ _ (by walk_at "v"))) (by rfl) (by walk_at "o4")) (@af _ _ _ _ _ (@aS _ _ _ _ _ _ _ _ (@PW.pt _ _ _ (@pw_and _ _ _ _ _ _ _ (@aZ _ _ _ (@aX _ _ _ _ _ _ _ aO (@aq _ 1 _ _ (by walk_at "v")) (@aq _ 4 _ _ (by walk_at "v")) (λ _ _=>rfl)) (by intro _;rfl)) (@pw_and1 _ _ _ _ (@bW _ _ _ _ (@aZ _ _ _ (@aX _ _ _ _ _ _ _ aO (@aB _ _ _ _ _ _ _ T.kr T.iI (@aq _ 0 _ _ (by walk_at "v")) (by rfl)) (@aq _ 4 _ _ (by walk_at "v")) (λ _ _=>rfl)) (by intro _;rfl)))))) (@af _ _ _ _ _ (@cR _ _ _ _ _ _ _ _ _ _ T.kr T.i6 (@aq _ 0 _ _ (by walk_at "v")) (@av _ _ _ _ _ _ _ _ aJ (@av _ _ _ _ _ _ _ _ aT (@aq _ 4 _ _ (by walk_at "v")) (@aj _ _ _ _)) (@aq _ 2 _ _ (by walk_at "v"))) (by rfl)) (@ao _ _ _ (@aE _ _ _ _ (@aq _ 4 _ _ (by walk_at "v"))))) (@aF _)) (@ao _ _ _ (@aS _ _ _ _ _ _ _ _ (@aZ _ _ _ (@aX _ _ _ _ _ _ _ aO (@aq _ 1 _ _ (by walk_at "v")) (@aq _ 4 _ _ (by walk_at "v")) (λ _ _=>rfl)) (by intro _;rfl)) (@ao _ _ _ (@bF _ _ _ _ _ _ (@bP _ _ _ _) (@bG _ _ _ _ _ _ _ (@aB _ _ _ _ _ _ _ T.kr T.iI (@aq _ 0 _ _ (by walk_at "v")) (by rfl)) (@aq _ 4 _ _ (by walk_at "v")) set_list (by intro _;rfl)) (by rfl) (by rfl) (by rfl))) (@aF _))))) (by intro _;rfl)) (@ao _ _ _ (@jx _ _ _ _ _ _ _ _ _ _ _ _ _ _ _ _ _ _ _ _ _ _ T.Full (by rfl) (@aa _ _ _ _ _ (@bV _ _ _ _) (@ak _) (by rfl)) (by decide) (by rfl))))),?_⟩
  refine aG λ M1 K1 => ?_
  walk_at "gd"
  rw [hlb]
  refine K1.use ?_
  walk_at "cl"
  clear K1
  refine aG λ M1 K1 => ?_
  refine nQ λ Lr mZ => ?_
  walk_at "gd"
  refine ⟨_,rfl,by omega,by omega,mZ.use ?_⟩
  clear mZ
  have hlr:(2 * (bs.length:Int)).toNat=2 * bs.length:=by omega
  rw [hlr]
  clear c1 c2
  refine nR (λ i σ H' => ∃ cur:List Bool,Led H' (f9 cD d dx m p cur++L)/\cur.length=bs.length/\DR may (2 * may.length - i) (p+i) cur=DR may (2 * may.length) p bs/\(cur=bs\/true∈may) ∧ ∃ v1 v2,σ = [some (.ref d),some (.ref q),some (.int bs.length),v1,v2]) ⟨bs,hL,rfl,rfl,.inl rfl,_,_,rfl⟩ ?_ ?_
  ·clear hL K1
   rintro i σ H' hi ⟨cur,hl',hcl,hgo,Tq,v1,v2,rfl⟩
   have c1:=hl'.get (M7 (cD:=cD) (d:=d) (dx:=dx) (m:=m) (p:=p) (bs:=cur) (L:=L))
   have c2:=hl'.get (Wd (cD:=cD) (d:=d) (dx:=dx) (m:=m) (p:=p) (bs:=cur) (L:=L))
   have c3:=hl'.get (mA iq)
   refine aG λ M2 K2 => ?_
   walk_at "gd"
   have hfr:((p:Int)+(0+(i:Int))) % (bs.length:Int)=((p+i) % may.length:Nat):=by rw [hml];simp
   rw [hfr]
   refine K2.use ?_
   walk_at "cl"
   clear K2
   obtain ⟨f,hf⟩ : ∃ f:Nat,(p+i) % may.length=f:=⟨_,rfl⟩
   have hfl:f < may.length:=by rw [<-hf];exact Nat.mod_lt _ (by omega)
   obtain ⟨r,hr2⟩ : ∃ r,2 * may.length - i=r+1:=⟨2 * may.length - i - 1,by omega⟩
   rw [hr2] at hgo
   rw [Nd,hf] at hgo
   rw [hf]
   obtain ⟨my,yy⟩ : ∃ b,may.getD f false=b:=⟨_,rfl⟩
   obtain ⟨mk,Nh⟩ : ∃ b,cur.getD f false=b:=⟨_,rfl⟩
   rw [yy,Nh] at hgo
   have a1:iT (may.map V.bl) ((f:Nat):Int)=some (.bl my):=dz (by omega) (by rw [Int.toNat_natCast,List.getElem?_map,List.getElem?_eq_getElem hfl,<-yy,List.getD_eq_getElem?_getD,List.getElem?_eq_getElem hfl];rfl)
   have hfc:f < cur.length:=by omega
   have a2:iT (cur.map V.bl) ((f:Nat):Int)=some (.bl mk):=dz (by omega) (by rw [Int.toNat_natCast,List.getElem?_map,List.getElem?_eq_getElem hfc,<-Nh,List.getD_eq_getElem?_getD,List.getElem?_eq_getElem hfc];rfl)
   have hr3:2 * may.length - (i+1)=r:=by omega
   cases my with
   | false =>
     rw [if_neg (by simp),if_neg (by simp)] at hgo
     walk_at "gd"
     exact ⟨cur,hl',hcl,by rw [hr3];exact hgo,Tq,_,_,rfl⟩
   | true =>
     have hin:true∈may:=by
      rw [List.getD_eq_getElem?_getD,List.getElem?_eq_getElem hfl] at yy
      exact yy ▸ List.getElem_mem hfl
     cases mk with
     | false =>
       rw [if_pos ⟨rfl,rfl⟩] at hgo
       walk_at "gd"
       have hl2:=hl'.put (o' := .ins cD dx (jT ((f+1) % may.length:Nat) m)) rfl rfl
       have e1:((f:Int)+1) % (bs.length:Int)=((f+1) % may.length:Nat):=by rw [hml];simp
       rw [e1]
       exact k1 f cur _ hgo.symm hl2
     | true =>
       rw [if_neg (by simp),if_pos rfl] at hgo
       walk_at "gd"
       refine cg c2 (bD (by omega) (by rw [List.length_map];omega)) ?_
       rw [ue,Int.toNat_natCast]
       walk_at "gd"
       exact ⟨cur.set f false,Led.Tp hl',by rw [List.length_set];exact hcl,by rw [hr3];exact hgo,.inr hin,_,_,rfl⟩
  ·clear hL
   rintro σ H' ⟨cur,hl',hcl,hgo,Tq,v1,v2,rfl⟩
   walk_at "gd"
   refine K1.use ?_
   walk_at "cl"
   clear K1
   have hno:true ∉ may:=λ hin=>by
    obtain ⟨r,hr2⟩:=Ng hin p bs
    rw [<-hgo,show 2 * may.length - 2 * bs.length=0 by omega] at hr2
    cases hr2
   have hc:cur=bs:=Tq.resolve_right hno
   subst hc
   refine oO λ R hR => ?_
   walk_at "gd"
   exact ⟨by decide,k2 _ hno hl'⟩
end
 local macro_rules | `(tactic| walk_at "spf") => `(tactic| (simp only [ud,FS.fill,FS.new,List.cons_append,List.nil_append];walk_at "sp"))
section
variable {P:Program} {w:World} {K:PySem.W.Frag} {mg:Str->Option Value} {base:Heap} {cU cA cB cC cT cF cD cS cI:Addr}
def Ni:Sp:=λ vs H Q _ => ∃ (a b:Addr) (c:Int) (rs ms:List Int) (L:Cells),vs = [.ref a,.int c,.ref b]/\Led H L/\(a,HO.lst (rs.map V.int))∈L/\(b,HO.lst (ms.map V.int))∈L/\0<=c/\rs.length<=100/\ms.length<=100 ∧ ∀ p H',Led H' ((p,.lst ((rs.take c.toNat++ms++rs.drop (c.toNat+ms.length)).map V.int))::L)->Q (.ref p) H'
theorem Qe (D:Def K mg "with_cells" eE) (B:iV mg):cQ P w K mg base 1 "with_cells" ["row","cell","numbers"] Ni:=by
 refine D.ok zv (λ vs H Q E h => ?_) (λ _ _ _ _ _ _ us hl=>match us,hl with | [_,_,_],_=>rfl) (λ f cdv A outer s H vs Q E hr h => ?_)
 ·obtain ⟨_,_,_,_,_,_,rfl,_⟩:=h;rfl
 ·obtain ⟨a,b,c,rs,ms,L,rfl,hL,ha,hb,hc,h1,h2,k⟩:=h
  refine ⟨_,(@ao _ _ _ (@aE _ _ _ _ (@av _ _ _ _ _ _ _ _ L5 (@av _ _ _ _ _ _ _ _ L5 (@lO _ _ _ _ _ _ _ _ _ _ (wA (K:=K) rfl) (@aq _ 0 _ _ (by walk_at "v")) (@vF _) (@nh _ _ _ (@aq _ 1 _ _ (by walk_at "v")))) (@aq _ 2 _ _ (by walk_at "v"))) (@lO _ _ _ _ _ _ _ _ _ _ (wA (K:=K) rfl) (@aq _ 0 _ _ (by walk_at "v")) (@nh _ _ _ (@av _ _ _ _ _ _ _ _ aT (@aq _ 1 _ _ (by walk_at "v")) (@aH _ _ _ _ _ _ _ _ _ aL (by rfl) B.len bw (@aa _ _ _ _ _ (@aq _ 2 _ _ (by walk_at "v")) (@ak _) (by rfl)) (by decide) (by decide) (by rfl) (by rfl)))) (@vF _))))),?_⟩
  have c1:=lQ (rs.map V.int) none (some c)
  have c2:=lQ (rs.map V.int) (some (c+(ms.map V.int).length)) none
  simp only [List.length_map] at c1 c2
  have hsz:sizeLine=16777216:=sizeLine_eq
  walk_at "ge"
  rename_i p H' _ hL' _
  refine k p H' ?_
  have e:lP (rs.map V.int) none (some c)++ms.map V.int++lP (rs.map V.int) (some (c+(ms.map V.int).length)) none=(rs.take c.toNat++ms++rs.drop (c.toNat+ms.length)).map V.int:=by
   rw [SH _ hc,Mj _ (by omega),List.map_append,List.map_append,List.map_take,List.map_drop,List.length_map]
   congr 2
   omega
  rw [e] at hL'
  walk_at "led"
theorem Dr {α : Type} {f : α->V} {l:List α} {i:Nat} {x : α} (h:l[i]? = some x):iT (l.map f) ((i:Nat):Int)=some (f x):=dz (by omega) (by rw [Int.toNat_natCast,List.getElem?_map,h];rfl)
def BK (cF:Addr):Sp:=λ vs H Q _ => ∃ (F:FS) (i:Nat) (x:Hd) (M:Cells),vs = [.ref F.b,.int (i:Nat)]/\Led H (ud cF F M)/\F.hs[i]? = some x/\Q (bq x) H
theorem E4 (D:bM K cF "thing_in" "Frames.thing_in" bR) (T:Txt K mg cU cA cB cC cT cF cD cS cI):aR P w K mg base 1 cF "thing_in" ["self","frame"] (BK cF):=by
 have sc:=iG
 refine D.ok iG (λ vs H Q E h => ?_) (λ _ _ _ _ _ _ us hl=>match us,hl with | [_,_],_=>rfl) (λ f cdv A outer s H vs Q E hr h => ?_)
 ·obtain ⟨_,_,_,_,rfl,_⟩:=h;rfl
 ·obtain ⟨F,i,x,M,rfl,hL,hx,k⟩:=h
  have hf1:(vH F.hl F.rl F.sl).lookup (Str.ofString "held")=some (.ref F.hl):=rfl
  have ha:=Dr (f:=bq) hx
  refine ⟨_,(@ao _ _ _ (@aE _ _ _ _ (@aX _ _ _ _ _ _ _ aO (@aB _ _ _ _ _ _ _ T.Frames T.oU (@aq _ 0 _ _ (by walk_at "v")) (by rfl)) (@aq _ 1 _ _ (by walk_at "v")) (λ _ _=>rfl)))),?_⟩
  walk_at "ge"
  exact k
def qV (cF:Addr):Sp:=λ vs H Q _ => ∃ (F:FS) (i:Nat) (x:Bool) (M:Cells),vs = [.ref F.b,.int (i:Nat)]/\Led H (ud cF F M)/\F.bs[i]? = some x/\Q (.bl x) H
theorem KC (D:bM K cF "is_soiled" "Frames.is_soiled" bN) (T:Txt K mg cU cA cB cC cT cF cD cS cI):aR P w K mg base 1 cF "is_soiled" ["self","frame"] (qV cF):=by
 have sc:=gR
 refine D.ok gR (λ vs H Q E h => ?_) (λ _ _ _ _ _ _ us hl=>match us,hl with | [_,_],_=>rfl) (λ f cdv A outer s H vs Q E hr h => ?_)
 ·obtain ⟨_,_,_,_,rfl,_⟩:=h;rfl
 ·obtain ⟨F,i,x,M,rfl,hL,hx,k⟩:=h
  have hf1:(vH F.hl F.rl F.sl).lookup (Str.ofString "soiled")=some (.ref F.sl):=rfl
  have ha:=Dr (f:=V.bl) hx
  refine ⟨_,(@ao _ _ _ (@aE _ _ _ _ (@aX _ _ _ _ _ _ _ aO (@aB _ _ _ _ _ _ _ T.Frames T.l8 (@aq _ 0 _ _ (by walk_at "v")) (by rfl)) (@aq _ 1 _ _ (by walk_at "v")) (λ _ _=>rfl)))),?_⟩
  walk_at "ge"
  exact k
def qW (cF:Addr):Sp:=λ vs H Q _ => ∃ (F:FS) (i:Nat) (r:Addr) (row:List Int) (M:Cells),vs = [.ref F.b,.int (i:Nat)]/\Led H (ud cF F M)/\F.rs[i]? = some (some (r,row))/\(r,HO.lst (row.map V.int))∈M/\row.length<=600 ∧ ∀ q H',Led H' ((q,.lst (row.map V.int))::ud cF F M)->Q (.ref q) H'
theorem KD (D:bM K cF "row_in" "Frames.row_in" cG) (B:iV mg) (T:Txt K mg cU cA cB cC cT cF cD cS cI):aR P w K mg base 1 cF "row_in" ["self","frame"] (qW cF):=by
 have sc:=jC
 refine D.ok jC (λ vs H Q E h => ?_) (λ _ _ _ _ _ _ us hl=>match us,hl with | [_,_],_=>rfl) (λ f cdv A outer s H vs Q E hr h => ?_)
 ·obtain ⟨_,_,_,_,_,rfl,_⟩:=h;rfl
 ·obtain ⟨F,i,r,row,M,rfl,hL,hx,nM,hrl,k⟩:=h
  have hf1:(vH F.hl F.rl F.sl).lookup (Str.ofString "rows")=some (.ref F.rl):=rfl
  have ha:iT (F.rs.map fW) ((i:Nat):Int)=some (.ref r):=Dr (f:=fW) hx
  have hrm:(row.map V.int).length=row.length:=List.length_map _
  refine ⟨_,(@ao _ _ _ (@aE _ _ _ _ (@bh _ _ _ _ _ _ _ _ _ (aY (K:=K) rfl) (by rfl) B.list bO (@aa _ _ _ _ _ (@aX _ _ _ _ _ _ _ aO (@aB _ _ _ _ _ _ _ T.Frames T.rK (@aq _ 0 _ _ (by walk_at "v")) (by rfl)) (@aq _ 1 _ _ (by walk_at "v")) (λ _ _=>rfl)) (@ak _) (by rfl)) (by decide) (by decide) (by rfl) (by rfl)))),?_⟩
  walk_at "ge"
  rename Led _ _=>hl1
  exact k _ _ hl1
theorem Ru {H:Hp} : ∀ {hs:List Hd},(∀ t a,some (t,a)∈hs->H t=some (.tup (eV a)))->bU H (hs.map bq) (PySem.W.kqdPs (hs.map λ x=>dY (lG x)))
 | [],_ => .nil
 | x::hs,h=>by
   rw [List.map_cons,List.map_cons,PySem.W.kqdPs]
   refine .cons ?_ (Ru λ t a ha=>h t a (mC ha))
   cases x with
   | none=>show dZ H .aM (PySem.W.kqdP .none);rw [PySem.W.kqdP];exact .aM
   | some x=>exact pN (h x.1 x.2 mS)
theorem vI {x:Option Th} (h : ∀ a,x=some a->Fz a) (k:Nat):PySem.W.kqdOk (k+1) (dY x)=true:=by
 cases x with
 | none=>rfl
 | some a=>exact Qc (h a rfl) k
def qX (cF:Addr):Sp:=λ vs H Q _ => ∃ (F:FS) (n:Nat) (x:Hd) (M:Cells),vs = [.ref F.b,bq x]/\Led H (ud cF F M)/\FA F n M/\(∀ t a,x=some (t,a)->(t,HO.tup (eV a))∈M/\Fz a)/\n<=600 ∧
 ((∀ y∈F.hs,lG y≠lG x)->Q .aM H) ∧ ∀ (j:Nat) y,F.hs[j]? = some y->lG y=lG x->(∀ (m:Nat) z,m < j->F.hs[m]? = some z->lG z≠lG x)->Q (.int (j:Nat)) H
theorem Nj (D:bM K cF "where" "Frames.where" c7) (B:iV mg) (T:Txt K mg cU cA cB cC cT cF cD cS cI):aR P w K mg base 1 cF "where" ["self","thing"] (qX cF):=by
 have sc:=kQ
 refine D.ok kQ (λ vs H Q E h => ?_) (λ _ _ _ _ _ _ us hl=>match us,hl with | [_,_],_=>rfl) (λ f cdv A outer s H vs Q E hr h => ?_)
 ·obtain ⟨_,_,_,_,rfl,_⟩:=h;rfl
 ·obtain ⟨F,n,x,M,rfl,hL,g,hx,hn,k0,k1⟩:=h
  have hf1:(vH F.hl F.rl F.sl).lookup (Str.ofString "held")=some (.ref F.hl):=rfl
  have up : ∀ {c:Addr×HO},c∈M->c∈ud cF F M:=λ h=>mC (mC (mC (mC h)))
  have Ir:H F.hl=some (.lst (F.hs.map bq)):=hL.get (mC mS)
  have d1:dZ H (bq x) (PySem.W.kqdP (dY (lG x))):=by
   cases x with
   | none=>show dZ H .aM (PySem.W.kqdP .none);rw [PySem.W.kqdP];exact .aM
   | some x=>exact pN (hL.get (up (hx x.1 x.2 rfl).1))
  have d2:=Ru (H:=H) (hs:=F.hs) λ t a ha=>hL.get (up (g.th t a ha).1)
  have o1:PySem.W.kqdOk 8 (dY (lG x))=true:=vI (λ a ha=>by
   cases x with
   | none=>cases ha
   | some x=>cases ha;exact (hx x.1 x.2 rfl).2) 7
  have o2 : ∀ e∈F.hs.map (λ x=>dY (lG x)),PySem.W.kqdOk 7 e=true:=λ e he=>by
   obtain ⟨y,hy,rfl⟩:=List.mem_map.mp he
   refine vI (λ a ha => ?_) 6
   cases y with
   | none=>cases ha
   | some y=>cases ha;exact (g.th y.1 y.2 hy).2
  refine ⟨_,(@af _ _ _ _ _ (@aS _ _ _ _ _ _ _ _ (@aK _ _ _ _ _ _ _ _ (nq hr.units) (@aq _ 1 _ _ (by walk_at "v")) (@aB _ _ _ _ _ _ _ T.Frames T.oU (@aq _ 0 _ _ (by walk_at "v")) (by rfl)) (by with_unfolding_all rfl)) (@ao _ _ _ (@aE _ _ _ _ (@bJ _ _ _))) (@aF _)) (@ao _ _ _ (@aE _ _ _ _ (@nP _ _ _ _ _ _ _ _ _ _ _ _ PySem.F.plainAttrs_list PySem.F.slot_list_index PySem.F.type_list_index (jA hr.units) (@aB _ _ _ _ _ _ _ T.Frames T.oU (@aq _ 0 _ _ (by walk_at "v")) (by rfl)) (@aa _ _ _ _ _ (@aq _ 1 _ _ (by walk_at "v")) (@ak _) (by rfl)) (by rfl) (by rfl) (by rfl) (by rfl) (by rfl))))),?_⟩
  refine aG λ M1 K1 => ?_
  walk_at "ge"
  by_cases hin:dY (lG x)∈F.hs.map λ x=>dY (lG x)
  ·refine wC (neg:=true) (b:=true) Ir d1 d2 o1 o2 (iff_of_true rfl hin) ?_
   walk_at "ge"
   refine K1.use ?_
   walk_at "cl"
   clear K1
   walk_at "ge"
   refine ⟨zo Ir,?_⟩
   walk_at "ge"
   obtain ⟨y0,hy0,We⟩:=List.mem_map.mp hin
   have hex : ∃ y∈F.hs,decide (lG y=lG x)=true:=⟨y0,hy0,decide_eq_true (fV.mp We)⟩
   have hlt:F.hs.findIdx (λ y=>decide (lG y=lG x)) < F.hs.length:=List.findIdx_lt_length_of_exists hex
   have hat:=List.getElem?_eq_getElem hlt
   have KG:lG (F.hs[F.hs.findIdx λ y=>decide (lG y=lG x)]'hlt)=lG x:=of_decide_eq_true (List.findIdx_getElem (w:=hlt))
   have hno : ∀ (m:Nat) z,m < F.hs.findIdx (λ y=>decide (lG y=lG x))->F.hs[m]? = some z->lG z≠lG x:=λ m z hm hz=>by
    have h:=List.not_of_lt_findIdx hm
    have hlm:m < F.hs.length:=(List.getElem?_eq_some_iff.mp hz).1
    have e:F.hs[m]=z:=(List.getElem?_eq_some_iff.mp hz).2
    rw [<-e]
    simpa using h
   generalize F.hs.findIdx (λ y=>decide (lG y=lG x))=j at hlt hat KG hno
   refine Et Ir d1 d2 o1 o2 (j:=j) (by rw [List.getElem?_map,hat];show some (dY _)=_;rw [KG]) (λ m e hm he => ?_) ?_
   ·rw [List.getElem?_map] at he
    obtain ⟨z,hz,rfl⟩:=Option.map_eq_some_iff.mp he
    exact λ q=>hno m z hm hz (fV.mp q)
   ·walk_at "ge"
    exact k1 j _ hat KG hno
  ·refine wC (neg:=true) (b:=false) Ir d1 d2 o1 o2 (iff_of_false Bool.false_ne_true hin) ?_
   walk_at "ge"
   exact k0 λ y hy e=>hin (List.mem_map.mpr ⟨y,hy,by rw [e]⟩)
theorem A5 (D:bM K cF "least_free" "Frames.least_free" bI) (T:Txt K mg cU cA cB cC cT cF cD cS cI) (iN:aR P w K mg base 1 cF "where" ["self","thing"] (qX cF)):aR P w K mg base 2 cF "least_free" ["self"] (λ vs H Q E => ∃ b,vs = [.ref b]/\qX cF [.ref b,.aM] H Q E):=by
 have sc:=gD
 refine D.ok gD (λ vs H Q E h => ?_) (λ _ _ _ _ _ _ us hl=>match us,hl with | [_],_=>rfl) (λ f cdv A outer s H vs Q E hr h => ?_)
 ·obtain ⟨_,rfl,_⟩:=h;rfl
 ·obtain ⟨b,rfl,F,n,x,M,e,hL,g,hx,hn,k0,k1⟩:=h
  obtain ⟨rfl,ex⟩:b=F.b/\bq x = .aM:=by
   injection e with e1 e2
   injection e1 with e1
   injection e2 with e2
   exact ⟨e1,e2.symm⟩
  refine ⟨_,(@ao _ _ _ (@aE _ _ _ _ (@aV _ _ _ _ _ _ _ _ _ _ _ _ _ _ _ _ T.Frames iN (hr.mono (by omega)) az (@aq _ 0 _ _ (by walk_at "v")) (@aa _ _ _ _ _ (@bJ _ _ _) (@ak _) (by rfl)) (by rfl) (by rfl) (by rfl)))),?_⟩
  walk_at "ge"
  refine ⟨F,n,x,M,by rw [ex];rfl,hL,g,hx,hn,λ h => ?_,λ j y h1 h2 h3 => ?_⟩
  ·walk_at "ge"
   exact k0 h
  ·walk_at "ge"
   exact k1 j y h1 h2 h3
def qY (cF:Addr):Sp:=λ vs H Q _ => ∃ (F:FS) (M:Cells),vs = [.ref F.b]/\Led H (ud cF F M)/\F.hs.length<=600 ∧ ∀ q H',Led H' ((q,.lst (F.hs.map bq))::ud cF F M)->Q (.ref q) H'
theorem KH (D:bM K cF "things" "Frames.things" cJ) (B:iV mg) (T:Txt K mg cU cA cB cC cT cF cD cS cI):aR P w K mg base 1 cF "things" ["self"] (qY cF):=by
 have sc:=jE
 refine D.ok jE (λ vs H Q E h => ?_) (λ _ _ _ _ _ _ us hl=>match us,hl with | [_],_=>rfl) (λ f cdv A outer s H vs Q E hr h => ?_)
 ·obtain ⟨_,_,rfl,_⟩:=h;rfl
 ·obtain ⟨F,M,rfl,hL,hn,k⟩:=h
  have hf1:(vH F.hl F.rl F.sl).lookup (Str.ofString "held")=some (.ref F.hl):=rfl
  have m1:(F.hs.map bq).length=F.hs.length:=List.length_map _
  refine ⟨_,(@ao _ _ _ (@aE _ _ _ _ (@bh _ _ _ _ _ _ _ _ _ (aY (K:=K) rfl) (by rfl) B.list bO (@aa _ _ _ _ _ (@aB _ _ _ _ _ _ _ T.Frames T.oU (@aq _ 0 _ _ (by walk_at "v")) (by rfl)) (@ak _) (by rfl)) (by decide) (by decide) (by rfl) (by rfl)))),?_⟩
  walk_at "ge"
  rename Led _ _=>hl1
  exact k _ _ hl1
def Iu (cF:Addr):Sp:=λ vs H Q _ => ∃ (F:FS) (n i:Nat) (c:Int) (q r:Addr) (row ms:List Int) (M:Cells),vs = [.ref F.b,.int (i:Nat),.int c,.ref q]/\Led H (ud cF F M)/\FA F n M/\i < n/\F.rs[i]? = some (some (r,row))/\(q,HO.lst (ms.map V.int))∈M/\0<=c/\row.length<=100/\ms.length<=100 ∧
 ∀ p H',Led H' (ud cF { F with rs:=F.rs.set i (some (p,row.take c.toNat++ms++row.drop (c.toNat+ms.length))),bs:=F.bs.set i true } ((p,.lst ((row.take c.toNat++ms++row.drop (c.toNat+ms.length)).map V.int))::M))->Q .aM H'
theorem KI (D:bM K cF "put_in" "Frames.put_in" cH) (B:iV mg) (T:Txt K mg cU cA cB cC cT cF cD cS cI) (Ds:cQ P w K mg base 1 "with_cells" ["row","cell","numbers"] Ni):aR P w K mg base 2 cF "put_in" ["self","frame","cell","numbers"] (Iu cF):=by
 have sc:=jD
 refine D.ok jD (λ vs H Q E h => ?_) (λ _ _ _ _ _ _ us hl=>match us,hl with | [_,_,_,_],_=>rfl) (λ f cdv A outer s H vs Q E hr h => ?_)
 ·obtain ⟨_,_,_,_,_,_,_,_,_,rfl,_⟩:=h;rfl
 ·obtain ⟨F,n,i,c,q,r,row,ms,M,rfl,hL,g,hi,hx,XF,c0,h1,h2,k⟩:=h
  have hf2:(vH F.hl F.rl F.sl).lookup (Str.ofString "rows")=some (.ref F.rl):=rfl
  have hf3:(vH F.hl F.rl F.sl).lookup (Str.ofString "soiled")=some (.ref F.sl):=rfl
  have nM:=g.rw r row (List.mem_of_getElem? hx)
  have ha:iT (F.rs.map fW) ((i:Nat):Int)=some (.ref r):=Dr (f:=fW) hx
  have gr:=g.r
  have gs:=g.s
  have m2:(F.rs.map fW).length=F.rs.length:=List.length_map _
  have m3:(F.bs.map V.bl).length=F.bs.length:=List.length_map _
  have up : ∀ {c:Addr×HO},c∈M->c∈ud cF F M:=λ h=>mC (mC (mC (mC h)))
  refine ⟨_,(@af _ _ _ _ _ (@bF _ _ _ _ _ _ (@aA _ _ _ _ _ _ _ _ _ _ _ Ds (hr.mono (by omega)) (by rfl) az (@aa _ _ _ _ _ (@aX _ _ _ _ _ _ _ aO (@aB _ _ _ _ _ _ _ T.Frames T.rK (@aq _ 0 _ _ (by walk_at "v")) (by rfl)) (@aq _ 1 _ _ (by walk_at "v")) (λ _ _=>rfl)) (@aa _ _ _ _ _ (@aq _ 2 _ _ (by walk_at "v")) (@aa _ _ _ _ _ (@aq _ 3 _ _ (by walk_at "v")) (@ak _) (by rfl)) (by rfl)) (by rfl)) (by decide) (by rfl) (by rfl)) (@bG _ _ _ _ _ _ _ (@aB _ _ _ _ _ _ _ T.Frames T.rK (@aq _ 0 _ _ (by walk_at "v")) (by rfl)) (@aq _ 1 _ _ (by walk_at "v")) set_list (by intro _;rfl)) (by rfl) (by rfl) (by rfl)) (@ao _ _ _ (@bF _ _ _ _ _ _ (@bP _ _ _ _) (@bG _ _ _ _ _ _ _ (@aB _ _ _ _ _ _ _ T.Frames T.l8 (@aq _ 0 _ _ (by walk_at "v")) (by rfl)) (@aq _ 1 _ _ (by walk_at "v")) set_list (by intro _;rfl)) (by rfl) (by rfl) (by rfl)))),?_⟩
  refine aG λ M1 K1 => ?_
  walk_at "ge"
  refine ⟨r,q,c,row,ms,_,rfl,hL,up nM,up XF,c0,h1,h2,λ p H2 hl2 => ?_⟩
  generalize row.take c.toNat++ms++row.drop (c.toNat+ms.length)=nw at hl2 k
  walk_at "ge"
  refine cg (hl2.get (mC (mC (mC mS)))) (bD (by omega) (by omega)) ?_
  rw [Int.toNat_natCast,show (F.rs.map fW).set i (V.ref p)=(F.rs.set i (some (p,nw))).map fW by rw [List.map_set];rfl]
  have bZ:Led (upd H2 F.rl (.lst ((F.rs.set i (some (p,nw))).map fW))) ((p,.lst (nw.map V.int))::(F.b,.ins cF F.dx (vH F.hl F.rl F.sl))::(F.hl,.lst (F.hs.map bq))::(F.rl,.lst ((F.rs.set i (some (p,nw))).map fW))::(F.sl,.lst (F.bs.map V.bl))::M):=hl2.gB 3 rfl rfl rfl
  generalize upd H2 F.rl (.lst ((F.rs.set i (some (p,nw))).map fW))=H4 at bZ ⊢
  walk_at "ge"
  refine K1.use ?_
  walk_at "cl"
  clear K1 hl2 hL
  walk_at "ge"
  refine cg (bZ.get (mC (mC (mC (mC mS))))) (bD (by omega) (by omega)) ?_
  rw [Int.toNat_natCast,show (F.bs.map V.bl).set i (V.bl true)=(F.bs.set i true).map V.bl by rw [List.map_set]]
  have cN:Led (upd H4 F.sl (.lst ((F.bs.set i true).map V.bl))) ((p,.lst (nw.map V.int))::(F.b,.ins cF F.dx (vH F.hl F.rl F.sl))::(F.hl,.lst (F.hs.map bq))::(F.rl,.lst ((F.rs.set i (some (p,nw))).map fW))::(F.sl,.lst ((F.bs.set i true).map V.bl))::M):=bZ.gB 4 rfl rfl rfl
  walk_at "ge"
  exact k p _ (cN.wk (by walk_at "spf"))
def DS (l d:Addr):List (Str×V):=[("placed",.ref l),("row_by_sheet",.ref d)]
def A6 (cS b dx l d:Addr) (ps:List V) (es:k9):Cells:=(b,.ins cS dx (DS l d))::(l,.lst ps)::(d,.dK (vG es))::jz es
section
variable {b dx l d:Addr} {ps:List V} {es:k9} {L:Cells}
theorem Qf:(b,HO.ins cS dx (DS l d))∈A6 cS b dx l d ps es++L:=mS
theorem XG:(l,HO.lst ps)∈A6 cS b dx l d ps es++L:=mC mS
theorem sk3:(d,HO.dK (vG es))∈A6 cS b dx l d ps es++L:=mC (mC mS)
theorem sk4 {e:Int×Addr×List Int} (h:e∈es):(e.2.1,HO.lst (e.2.2.map V.int))∈A6 cS b dx l d ps es++L:=mB (mC (mC (mC (List.mem_map.mpr ⟨e,h,rfl⟩))))
end
def idx (ps:List V) (y:V):Nat:=ps.findIdx λ v=>B5 v y
theorem Dt {ps:List V} {y:V} (h:p6 y ps=true) : ∃ v,ps[idx ps y]? = some v/\B5 v y=true:=by
 unfold p6 at h
 rw [List.any_eq_true] at h
 obtain ⟨v,hv,he⟩:=h
 have hlt:ps.findIdx (λ v=>B5 v y) < ps.length:=List.findIdx_lt_length_of_exists ⟨v,hv,he⟩
 exact ⟨ps[ps.findIdx λ v=>B5 v y],List.getElem?_eq_getElem hlt,List.findIdx_getElem (w:=hlt)⟩
theorem Tr {ps:List V} {y:V} {m:Nat} {v:V} (hm:m < idx ps y) (hv:ps[m]? = some v):B5 v y=false:=by
 unfold idx at hm
 have h:=List.not_of_lt_findIdx hm
 have hlt:m < ps.length:=(List.getElem?_eq_some_iff.mp hv).1
 have e:ps[m]=v:=(List.getElem?_eq_some_iff.mp hv).2
 rw [<-e]
 simpa using h
theorem Nk {ps:List V} {y:V} (h:p6 y ps=true):idx ps y < ps.length:=by
 obtain ⟨v,hv,_⟩:=Dt h
 exact (List.getElem?_eq_some_iff.mp hv).1
theorem Nl {H:Hp} {Q:VK} {l:Addr} {ps:List V} {y:V} (h1:H l=some (.lst ps)) (fy:eX y=true) (fs:ps.all eX=true) (hin:p6 y ps=true) (h:Q (.int (idx ps y:Nat)) H):Gf (.ref l) [y] H Q:=by
 obtain ⟨v,hv,he⟩:=Dt hin
 exact SX h1 fy fs hv he (λ m w hm hw=>Tr hm hw) h
theorem ac7 (n:Nat):(List.replicate n [V.aM]).flatten=List.replicate n V.aM:=by
 induction n with
 | zero=>rfl
 | succ n ih=>rw [List.replicate_succ,List.flatten_cons,ih,List.replicate_succ];rfl
def Iv (cS:Addr):Sp:=λ vs H Q _ => ∃ (b dx:Addr) (n:Int) (L:Cells),vs = [.ref b,.int n]/\Led H ((b,.ins cS dx [])::L)/\0<=n/\n<=600 ∧ ∀ l d H',Led H' (A6 cS b dx l d (List.replicate n.toNat .aM) []++L)->Q .aM H'
theorem KJ (D:oM K cS "Shelf.__init__" eG) (T:Txt K mg cU cA cB cC cT cF cD cS cI):iW P w K mg base 1 cS ["self","many"] (Iv cS):=by
 have sc:=nZ
 refine D.ok nZ (λ vs H Q E h => ?_) (λ _ _ _ _ _ _ us hl=>match us,hl with | [_,_],_=>rfl) (λ f cdv A outer s H vs Q E hr h => ?_)
 ·obtain ⟨_,_,_,_,rfl,_⟩:=h;rfl
 ·obtain ⟨b,dx,n,L,rfl,hL,h0,Ky,k⟩:=h
  refine ⟨_,(@af _ _ _ _ _ (@cR _ _ _ _ _ _ _ _ _ _ T.fN T.iJ (@aq _ 0 _ _ (by walk_at "v")) (@av _ _ _ _ _ _ _ _ lR (@jo _ _ _ _ (@aa _ _ _ _ _ (@bJ _ _ _) (@ak _) (by rfl))) (@aq _ 1 _ _ (by walk_at "v"))) (by rfl)) (@ao _ _ _ (@cR _ _ _ _ _ _ _ _ _ _ T.fN T.fO (@aq _ 0 _ _ (by walk_at "v")) (@vY _ _) (by rfl)))),?_⟩
  refine aG λ M1 K1 => ?_
  walk_at "gd"
  rename_i l0 H2 _ hl2 _ _ _
  refine Es (hl2.get mS) ⟨by omega,by omega⟩ (by have:=sizeLine_eq;simp only [List.length_cons,List.length_nil];omega) (Led.alloc hl2 λ l H3 _ hl3 _ => ?_)
  rw [ac7] at hl3
  walk_at "gd"
  refine K1.use ?_
  walk_at "cl"
  clear K1
  have bZ:Led H3 ((b,.ins cS dx [])::(l,.lst (List.replicate n.toNat .aM))::L):=hl3.wk (by walk_at "sp")
  have cN:Led (upd H3 b (.ins cS dx (dg (Str.ofString "placed") (V.ref l) []))) ((b,.ins cS dx [("placed",.ref l)])::(l,.lst (List.replicate n.toNat .aM))::L):=bZ.put rfl rfl
  generalize upd H3 b (.ins cS dx (dg (Str.ofString "placed") (V.ref l) []))=H4 at cN ⊢
  clear bZ hl3 hl2 hL
  walk_at "gd"
  rename_i d H5 _ cO _
  have fH:=(cO.swap).put (o' := .ins cS dx (DS l d)) rfl rfl
  exact k l d _ (fH.wk (by unfold A6 jz;simp only [vG,List.map_nil,List.cons_append,List.nil_append];walk_at "sp"))
def Hv (cS:Addr):Sp:=λ vs H Q _ => ∃ (b dx l d:Addr) (ps:List V),vs = [.ref b]/\H b=some (.ins cS dx (DS l d))/\H l=some (.lst ps)/\ps.all eX=true/\Q (.bl (!p6 .aM ps)) H
theorem Qg (D:bM K cS "is_full" "Shelf.is_full" cK) (T:Txt K mg cU cA cB cC cT cF cD cS cI):aR P w K mg base 1 cS "is_full" ["self"] (Hv cS):=by
 have sc:=jF
 refine D.ok jF (λ vs H Q E h => ?_) (λ _ _ _ _ _ _ us hl=>match us,hl with | [_],_=>rfl) (λ f cdv A outer s H vs Q E hr h => ?_)
 ·obtain ⟨_,_,_,_,_,rfl,_⟩:=h;rfl
 ·obtain ⟨b,dx,l,d,ps,rfl,c1,c2,fs,k⟩:=h
  have hf:(DS l d).lookup (Str.ofString "placed")=some (.ref l):=rfl
  refine ⟨_,(@ao _ _ _ (@aE _ _ _ _ (@fM _ _ _ _ _ _ _ _ B6 (@bJ _ _ _) (@aB _ _ _ _ _ _ _ T.fN T.iJ (@aq _ 0 _ _ (by walk_at "v")) (by rfl)) (by with_unfolding_all rfl)))),?_⟩
  walk_at "gd"
  refine ⟨l,ps,rfl,.inl (fj.of c2),rfl,fs,?_⟩
  walk_at "gd"
  exact k
def yz (cS:Addr):Sp:=λ vs H Q _ => ∃ (b dx l d:Addr) (ps:List V) (L:Cells),vs = [.ref b]/\Led H L/\H b=some (.ins cS dx (DS l d))/\H l=some (.lst ps) ∧ ∀ r H',Led H' ((r,.lst ps)::L)->Q (.ref r) H'
theorem KL (D:bM K cS "sheets" "Shelf.sheets" dc) (B:iV mg) (T:Txt K mg cU cA cB cC cT cF cD cS cI):aR P w K mg base 1 cS "sheets" ["self"] (yz cS):=by
 have sc:=kT
 refine D.ok kT (λ vs H Q E h => ?_) (λ _ _ _ _ _ _ us hl=>match us,hl with | [_],_=>rfl) (λ f cdv A outer s H vs Q E hr h => ?_)
 ·obtain ⟨_,_,_,_,_,_,rfl,_⟩:=h;rfl
 ·obtain ⟨b,dx,l,d,ps,L,rfl,hL,c1,c2,k⟩:=h
  have hf:(DS l d).lookup (Str.ofString "placed")=some (.ref l):=rfl
  refine ⟨_,(@ao _ _ _ (@aE _ _ _ _ (@bh _ _ _ _ _ _ _ _ _ (aY (K:=K) rfl) (by rfl) B.list bO (@aa _ _ _ _ _ (@aB _ _ _ _ _ _ _ T.fN T.iJ (@aq _ 0 _ _ (by walk_at "v")) (by rfl)) (@ak _) (by rfl)) (by decide) (by decide) (by rfl) (by rfl)))),?_⟩
  walk_at "gd"
  rename_i r H1 _ hl1 _
  exact k r _ hl1
def Rv (cS cU:Addr):Sp:=λ vs H Q E => ∃ (b dx l d r:Addr) (n:Int) (row:List Int) (ps:List V) (es:k9) (L:Cells),vs = [.ref b,.int n,.ref r]/\Led H (A6 cS b dx l d ps es++L)/\(r,HO.lst (row.map V.int))∈L/\ps.all eX=true/\n ∉ es.map (·.1)/\es.length<=600 ∧
 (p6 .aM ps=true->∀ a H',Led H' (A6 cS b dx l d (ps.set (idx ps .aM) (.int n)) (es++[(n,a,row)])++L)->Q (.int (idx ps .aM:Nat)) H')/\(p6 .aM ps=false->E (.ref cU) none H)
theorem KN (es:k9) (n:Int) (a:Addr) (row:List Int):jz (es++[(n,a,row)])=jz es++[(a,HO.lst (row.map V.int))]:=by unfold jz;rw [List.map_append];rfl
theorem Tt (D:bM K cS "put_on" "Shelf.put_on" c8) (B:iV mg) (T:Txt K mg cU cA cB cC cT cF cD cS cI) (gM:aR P w K mg base 1 cS "is_full" ["self"] (Hv cS)):aR P w K mg base 2 cS "put_on" ["self","sheet","row"] (Rv cS cU):=by
 have sc:=kR
 refine D.Ep kR (λ vs H Q E h => ?_) (λ _ _ _ _ _ _ us hl=>match us,hl with | [_,_,_],_=>rfl) (λ f cdv A outer s H vs Q E hr h => ?_)
 ·obtain ⟨_,_,_,_,_,_,_,_,_,_,rfl,_⟩:=h;rfl
 ·obtain ⟨b,dx,l,d,r,n,row,ps,es,L,rfl,hL,nM,fs,hn,Ky,k1,k2⟩:=h
  have hu:=gF hr
  have hf1:(DS l d).lookup (Str.ofString "placed")=some (.ref l):=rfl
  have hf2:(DS l d).lookup (Str.ofString "row_by_sheet")=some (.ref d):=rfl
  have c1:=hL.get (Qf (cS:=cS) (b:=b) (dx:=dx) (l:=l) (d:=d) (ps:=ps) (es:=es) (L:=L))
  have c2:=hL.get (XG (cS:=cS) (b:=b) (dx:=dx) (l:=l) (d:=d) (ps:=ps) (es:=es) (L:=L))
  refine ⟨_,(@af _ _ _ _ _ (@aS _ _ _ _ _ _ _ _ (@aZ _ _ _ (@dN _ _ _ _ _ _ _ _ _ _ _ _ _ T.fN gM (hr.mono (by omega)) az (@aq _ 0 _ _ (by walk_at "v")) (by rfl)) (by intro _;rfl)) (@ao _ _ _ (@jx _ _ _ _ _ _ _ _ _ _ _ _ _ _ _ _ _ _ _ _ _ _ T.Full (by rfl) (@aa _ _ _ _ _ (@bV _ _ _ _) (@ak _) (by rfl)) (by decide) (by rfl))) (@aF _)) (@af _ _ _ _ _ (@aI _ _ 3 _ _ _ _ sc.nd rfl (by walk_at "o2") (@nP _ _ _ _ _ _ _ _ _ _ _ _ PySem.F.plainAttrs_list PySem.F.slot_list_index PySem.F.type_list_index lX (@aB _ _ _ _ _ _ _ T.fN T.iJ (@aq _ 0 _ _ (by walk_at "v")) (by rfl)) (@aa _ _ _ _ _ (@bJ _ _ _) (@ak _) (by rfl)) (by rfl) (by rfl) (by rfl) (by rfl) (by rfl)) (by rfl) (by walk_at "o4")) (@af _ _ _ _ _ (@bF _ _ _ _ _ _ (@aq _ 1 _ _ (by walk_at "v")) (@bG _ _ _ _ _ _ _ (@aB _ _ _ _ _ _ _ T.fN T.iJ (@aq _ 0 _ _ (by walk_at "v")) (by rfl)) (@aq _ 3 _ _ (by walk_at "v")) set_list (by intro _;rfl)) (by rfl) (by rfl) (by rfl)) (@af _ _ _ _ _ (@gX _ _ _ _ _ _ _ _ _ hu (@aB _ _ _ _ _ _ _ T.fN T.fO (@aq _ 0 _ _ (by walk_at "v")) (by rfl)) (@aq _ 1 _ _ (by walk_at "v")) (@bh _ _ _ _ _ _ _ _ _ (aY (K:=K) rfl) (by rfl) B.list bO (@aa _ _ _ _ _ (@aq _ 2 _ _ (by walk_at "v")) (@ak _) (by rfl)) (by decide) (by decide) (by rfl) (by rfl)) rfl) (@ao _ _ _ (@aE _ _ _ _ (@aq _ 3 _ _ (by walk_at "v")))))))),?_⟩
  refine aG λ M1 K1 => ?_
  walk_at "ge"
  refine ⟨b,dx,l,d,ps,rfl,c1,c2,fs,?_⟩
  cases hin:p6 .aM ps with
  | false =>
    walk_at "ge"
    refine oO λ R hR => ?_
    walk_at "ge"
    exact ⟨by decide,k2 hin⟩
  | true =>
    walk_at "ge"
    refine K1.use ?_
    walk_at "cl"
    clear K1
    refine aG λ M1 K1 => ?_
    walk_at "ge"
    refine ⟨zo c2,?_⟩
    walk_at "ge"
    refine Nl c2 rfl fs hin ?_
    walk_at "ge"
    refine K1.use ?_
    walk_at "cl"
    clear K1
    have hlt:=Nk hin
    refine aG λ M1 K1 => ?_
    walk_at "ge"
    refine cg c2 (bD (by omega) (by omega)) ?_
    rw [Int.toNat_natCast]
    have hl2:Led (upd H l (.lst (ps.set (idx ps .aM) (.int n)))) (A6 cS b dx l d (ps.set (idx ps .aM) (.int n)) es++L):=(Led.put (Led.swap (show Led H ((b,.ins cS dx (DS l d))::(l,.lst ps)::((d,.dK (vG es))::jz es++L)) from hL)) rfl rfl).swap
    generalize upd H l (.lst (ps.set (idx ps .aM) (.int n)))=H2 at hl2 ⊢
    generalize ps.set (idx ps .aM) (.int n)=ps2 at hl2 k1
    walk_at "ge"
    refine K1.use ?_
    walk_at "cl"
    clear K1 c1 c2 hL
    have c1:=hl2.get (Qf (cS:=cS) (b:=b) (dx:=dx) (l:=l) (d:=d) (ps:=ps2) (es:=es) (L:=L))
    have jU:=hl2.get (mA nM)
    have ahu:Led H2 ((b,.ins cS dx (DS l d))::(l,.lst ps2)::(d,.dK (vG es))::(jz es++L)):=hl2
    clear hl2
    refine aG λ M1 K1 => ?_
    walk_at "ge"
    rename_i a H3 _ hl3 _ _ _ _ _ _ _
    have bZ:Led H3 ((d,.dK (vG es))::(b,.ins cS dx (DS l d))::(l,.lst ps2)::(jz es++((a,.lst (row.map V.int))::L))):=hl3.wk (by walk_at "sp")
    refine Rp (bZ.get mS) (by unfold vG;rw [List.length_map];have:=sizeLine_eq;omega) ?_
    rw [Pu hn a row]
    have cN:=bZ.put (o' := .dK (vG (es++[(n,a,row)]))) rfl rfl
    walk_at "ge"
    refine K1.use ?_
    walk_at "ge"
    refine k1 hin a _ (cN.wk ?_)
    unfold A6
    rw [KN]
    simp only [List.cons_append,List.append_assoc,List.nil_append]
    walk_at "sp"
def Nm (cS:Addr):Sp:=λ vs H Q _ => ∃ (b dx l d:Addr) (ps:List V) (es:k9) (e:Int×Addr×List Int) (L:Cells),vs = [.ref b,.int e.1]/\Led H (A6 cS b dx l d ps es++L)/\ps.all eX=true/\p6 (.int e.1) ps=true/\(es.map (·.1)).Nodup/\e∈es ∧
 ∀ H',Led H' ((e.2.1,.lst (e.2.2.map V.int))::(A6 cS b dx l d (ps.set (idx ps (.int e.1)) .aM) (es.filter λ x=>decide (x.1≠e.1))++L))->Q (.ref e.2.1) H'
theorem Qh (D:bM K cS "take_off" "Shelf.take_off" b5) (B:iV mg) (T:Txt K mg cU cA cB cC cT cF cD cS cI):aR P w K mg base 1 cS "take_off" ["self","sheet"] (Nm cS):=by
 have sc:=iZ
 refine D.ok iZ (λ vs H Q E h => ?_) (λ _ _ _ _ _ _ us hl=>match us,hl with | [_,_],_=>rfl) (λ f cdv A outer s H vs Q E hr h => ?_)
 ·obtain ⟨_,_,_,_,_,_,_,_,rfl,_⟩:=h;rfl
 ·obtain ⟨b,dx,l,d,ps,es,e,L,rfl,hL,fs,hin,nd,he,k⟩:=h
  have hu:=gF hr
  have hf1:(DS l d).lookup (Str.ofString "placed")=some (.ref l):=rfl
  have hf2:(DS l d).lookup (Str.ofString "row_by_sheet")=some (.ref d):=rfl
  have kG:Led H ((b,.ins cS dx (DS l d))::(l,.lst ps)::(d,.dK (vG es))::(jz es++L)):=hL
  have c2:H l=some (.lst ps):=kG.get (mC mS)
  have hlt:=Nk hin
  have hv:bx (vG es) (.inl e.1)=some (.ref e.2.1):=by rw [Co,qc nd he];rfl
  refine ⟨_,(@af _ _ _ _ _ (@bF _ _ _ _ _ _ (@bJ _ _ _) (@bG _ _ _ _ _ _ _ (@aB _ _ _ _ _ _ _ T.fN T.iJ (@aq _ 0 _ _ (by walk_at "v")) (by rfl)) (@nP _ _ _ _ _ _ _ _ _ _ _ _ PySem.F.plainAttrs_list PySem.F.slot_list_index PySem.F.type_list_index lX (@aB _ _ _ _ _ _ _ T.fN T.iJ (@aq _ 0 _ _ (by walk_at "v")) (by rfl)) (@aa _ _ _ _ _ (@aq _ 1 _ _ (by walk_at "v")) (@ak _) (by rfl)) (by rfl) (by rfl) (by rfl) (by rfl) (by rfl)) set_list (by intro _;rfl)) (by rfl) (by rfl) (by rfl)) (@ao _ _ _ (@aE _ _ _ _ (@L0 _ _ _ _ _ _ _ (@aB _ _ _ _ _ _ _ T.fN T.fO (@aq _ 0 _ _ (by walk_at "v")) (by rfl)) (@aq _ 1 _ _ (by walk_at "v")) ⟨rfl,rfl,rfl,rfl⟩)))),?_⟩
  refine aG λ M1 K1 => ?_
  walk_at "ge"
  refine ⟨zo c2,?_⟩
  walk_at "ge"
  refine Nl c2 rfl fs hin ?_
  walk_at "ge"
  refine cg c2 (bD (by omega) (by omega)) ?_
  rw [Int.toNat_natCast]
  have hl2:Led (upd H l (.lst (ps.set (idx ps (.int e.1)) .aM))) ((b,.ins cS dx (DS l d))::(l,.lst (ps.set (idx ps (.int e.1)) .aM))::(d,.dK (vG es))::(jz es++L)):=(Led.put (Led.swap kG) rfl rfl).swap
  generalize upd H l (.lst (ps.set (idx ps (.int e.1)) .aM))=H2 at hl2 ⊢
  generalize ps.set (idx ps (.int e.1)) .aM=ps2 at hl2 k
  walk_at "ge"
  refine K1.use ?_
  walk_at "cl"
  clear K1 c2 hL kG
  have c3:H2 d=some (.dK (vG es)):=hl2.get (mC (mC mS))
  walk_at "ge"
  refine SQ λ R5 hR5 => ?_
  walk_at "ge"
  refine VX c3 hv ?_
  rw [Mq]
  obtain ⟨as,bs,hab,ac8⟩:=JB nd he
  have hl3:Led H2 ((d,.dK (vG es))::(e.2.1,.lst (e.2.2.map V.int))::(b,.ins cS dx (DS l d))::(l,.lst ps2)::(jz as++(jz bs++L))):=by
   have Wf:=hl2
   rw [hab,Mr,<-hab] at Wf
   exact Wf.wk (by simp only [List.append_assoc,List.cons_append];walk_at "sp")
  have bZ:=hl3.put (o' := .dK (vG (es.filter λ x=>decide (x.1≠e.1)))) rfl rfl
  walk_at "ge"
  refine k _ (bZ.wk ?_)
  unfold A6
  rw [ac8,Ms]
  simp only [List.cons_append,List.append_assoc]
  walk_at "sp"
def Iw (cS:Addr):Sp:=λ vs H Q _ => ∃ (b dx l d:Addr) (ps:List V) (es:k9) (e:Int×Addr×List Int) (L:Cells),vs = [.ref b,.int e.1]/\Led H (A6 cS b dx l d ps es++L)/\(es.map (·.1)).Nodup/\e∈es ∧ ∀ r H',Led H' ((r,.lst (e.2.2.map V.int))::(A6 cS b dx l d ps es++L))->Q (.ref r) H'
theorem KO (D:bM K cS "row_of_sheet" "Shelf.row_of_sheet" bE) (B:iV mg) (T:Txt K mg cU cA cB cC cT cF cD cS cI):aR P w K mg base 1 cS "row_of_sheet" ["self","sheet"] (Iw cS):=by
 have sc:=fZ
 refine D.ok fZ (λ vs H Q E h => ?_) (λ _ _ _ _ _ _ us hl=>match us,hl with | [_,_],_=>rfl) (λ f cdv A outer s H vs Q E hr h => ?_)
 ·obtain ⟨_,_,_,_,_,_,_,_,rfl,_⟩:=h;rfl
 ·obtain ⟨b,dx,l,d,ps,es,e,L,rfl,hL,nd,he,k⟩:=h
  have hu:=gF hr
  have hf:(DS l d).lookup (Str.ofString "row_by_sheet")=some (.ref d):=rfl
  have c1:=hL.get (Qf (cS:=cS) (b:=b) (dx:=dx) (l:=l) (d:=d) (ps:=ps) (es:=es) (L:=L))
  have c3:=hL.get (sk3 (cS:=cS) (b:=b) (dx:=dx) (l:=l) (d:=d) (ps:=ps) (es:=es) (L:=L))
  have c4:=hL.get (sk4 (cS:=cS) (b:=b) (dx:=dx) (l:=l) (d:=d) (ps:=ps) (L:=L) he)
  have hv:bx (vG es) (.inl e.1)=some (.ref e.2.1):=by rw [Co,qc nd he];rfl
  refine ⟨_,(@ao _ _ _ (@aE _ _ _ _ (@bh _ _ _ _ _ _ _ _ _ (aY (K:=K) rfl) (by rfl) B.list bO (@aa _ _ _ _ _ (@iU _ _ _ _ _ _ hu (@aB _ _ _ _ _ _ _ T.fN T.fO (@aq _ 0 _ _ (by walk_at "v")) (by rfl)) (@aq _ 1 _ _ (by walk_at "v")) (λ _ _=>rfl)) (@ak _) (by rfl)) (by decide) (by decide) (by rfl) (by rfl)))),?_⟩
  walk_at "ge"
  refine VU c3 hv ?_
  walk_at "ge"
  rename_i r H1 _ hl1 _
  exact k r _ hl1
end
section
variable {P:Program} {w:World} {K:PySem.W.Frag} {mg:Str->Option Value} {base:Heap} {cU cA cB cC cT cF cD cS cI:Addr}
def jj (d:Addr):List (Str×V):=[("rows_by_name",.ref d)]
abbrev KP (cI b dx d:Addr) (es:dj) (R:Cells):Cells:=(b,.ins cI dx (jj d))::(d,.dK (za es))::(oR es++R)
structure FH (cI:Addr) (H:Hp) (b dx d:Addr) (es:dj):Prop where
 cb:H b=some (.ins cI dx (jj d))
 cd:H d=some (.dK (za es))
 cf : ∀ e∈es,H e.2.1=some (.lst (pQ e.2.2))
 nd:(es.map (·.1)).Nodup
theorem FH.of {cI:Addr} {H:Hp} {b dx d:Addr} {es:dj} {R:Cells} (hL:Led H (KP cI b dx d es R)) (nd:(es.map (·.1)).Nodup):FH cI H b dx d es :=
 ⟨hL.get mS,hL.get (mC mS),λ e he=>hL.get (mC (mC (mB (Mt he)))),nd⟩
theorem Nn (es:dj) (z:Str):(bx (za es) (.inr z)).isSome=decide (z∈es.map (·.1)):=by
 by_cases h:z∈es.map (·.1)
 ·rw [decide_eq_true h,Cq,Option.isSome_map]
  obtain ⟨e,he,rfl⟩:=List.mem_map.mp h
  rw [List.find?_isSome]
  exact ⟨e,he,decide_eq_true rfl⟩
 ·rw [decide_eq_false h,Eu h];rfl
def Iz (cI:Addr):Sp:=λ vs H Q _ => ∃ (b dx:Addr) (L:Cells),vs = [.ref b]/\Led H ((b,.ins cI dx [])::L) ∧ ∀ d H',Led H' (KP cI b dx d [] L)->Q .aM H'
theorem Np (D:oM K cI "Files.__init__" eu) (T:Txt K mg cU cA cB cC cT cF cD cS cI):iW P w K mg base 1 cI ["self"] (Iz cI):=by
 have sc:=nX
 refine D.ok nX (λ vs H Q E h => ?_) (λ _ _ _ _ _ _ us hl=>match us,hl with | [_],_=>rfl) (λ f cdv A outer s H vs Q E hr h => ?_)
 ·obtain ⟨_,_,_,rfl,_⟩:=h;rfl
 ·obtain ⟨b,dx,L,rfl,hL,k⟩:=h
  refine ⟨_,(@ao _ _ _ (@cR _ _ _ _ _ _ _ _ _ _ T.gS T.b6 (@aq _ 0 _ _ (by walk_at "v")) (@vY _ _) (by rfl))),?_⟩
  walk_at "gd"
  rename_i d H5 _ cO _
  have fH:=(cO.swap).put (o' := .ins cI dx (jj d)) rfl rfl
  exact k d _ fH
def Nq (cI cA:Addr):Sp:=λ vs H Q E => ∃ (b dx d:Addr) (es:dj) (z:Str),vs = [.ref b,.str z]/\FH cI H b dx d es/\(z∈es.map (·.1)->Q .aM H)/\(z ∉ es.map (·.1)->E (.ref cA) none H)
theorem E5 (D:bM K cI "ask_name" "Files.ask_name" b3) (B:iV mg) (T:Txt K mg cU cA cB cC cT cF cD cS cI):aR P w K mg base 1 cI "ask_name" ["self","name"] (Nq cI cA):=by
 have sc:=iX
 refine D.Ep iX (λ vs H Q E h => ?_) (λ _ _ _ _ _ _ us hl=>match us,hl with | [_,_],_=>rfl) (λ f cdv A outer s H vs Q E hr h => ?_)
 ·obtain ⟨_,_,_,_,_,rfl,_⟩:=h;rfl
 ·obtain ⟨b,dx,d,es,z,rfl,fh,k1,k2⟩:=h
  have hu:=gF hr
  have hf:(jj d).lookup (Str.ofString "rows_by_name")=some (.ref d):=rfl
  have c1:=fh.cb
  have c2:=fh.cd
  refine ⟨_,(@ao _ _ _ (@aS _ _ _ _ _ _ _ _ (@Lp _ _ _ _ _ _ (@Jo _ _ _ _ _ hu (@aq _ 1 _ _ (by walk_at "v")) (@aB _ _ _ _ _ _ _ T.gS T.b6 (@aq _ 0 _ _ (by walk_at "v")) (by rfl))) (by first | exact pV _ (by decide) (by decide) | rfl)) (@ao _ _ _ (@jx _ _ _ _ _ _ _ _ _ _ _ _ _ _ _ _ _ _ _ _ _ _ T.S9 (by rfl) (@aa _ _ _ _ _ (@bV _ _ _ _) (@ak _) (by rfl)) (by decide) (by rfl))) (@aF _))),?_⟩
  walk_at "ge"
  refine V4 c2 ?_
  rw [Nn]
  by_cases hz:z∈es.map (·.1)
  ·rw [decide_eq_true hz]
   walk_at "ge"
   exact k1 hz
  ·rw [decide_eq_false hz]
   walk_at "ge"
   refine oO λ R hR => ?_
   walk_at "ge"
   exact ⟨by decide,k2 hz⟩
def Nr (cI cA:Addr):Sp:=λ vs H Q E => ∃ (b dx d:Addr) (es:dj) (z:Str),vs = [.ref b,.str z]/\FH cI H b dx d es/\(∀ e∈es,e.1=z->Q (.int (e.2.2.length:Nat)) H)/\(z ∉ es.map (·.1)->E (.ref cA) none H)
theorem Qi (D:bM K cI "size_of" "Files.size_of" cE) (B:iV mg) (T:Txt K mg cU cA cB cC cT cF cD cS cI) (tG:aR P w K mg base 1 cI "ask_name" ["self","name"] (Nq cI cA)):aR P w K mg base 2 cI "size_of" ["self","name"] (Nr cI cA):=by
 have sc:=jB
 refine D.Ep jB (λ vs H Q E h => ?_) (λ _ _ _ _ _ _ us hl=>match us,hl with | [_,_],_=>rfl) (λ f cdv A outer s H vs Q E hr h => ?_)
 ·obtain ⟨_,_,_,_,_,rfl,_⟩:=h;rfl
 ·obtain ⟨b,dx,d,es,z,rfl,fh,k1,k2⟩:=h
  have hu:=gF hr
  have hf:(jj d).lookup (Str.ofString "rows_by_name")=some (.ref d):=rfl
  have c1:=fh.cb
  have c2:=fh.cd
  refine ⟨_,(@af _ _ _ _ _ (@cM _ _ _ _ (@aV _ _ _ _ _ _ _ _ _ _ _ _ _ _ _ _ T.gS tG (hr.mono (by omega)) kM (@aq _ 0 _ _ (by walk_at "v")) (@aa _ _ _ _ _ (@aq _ 1 _ _ (by walk_at "v")) (@ak _) (by rfl)) (by rfl) (by rfl) (by rfl)) (by rfl)) (@ao _ _ _ (@aE _ _ _ _ (@aH _ _ _ _ _ _ _ _ _ aL (by rfl) B.len bw (@aa _ _ _ _ _ (@iU _ _ _ _ _ _ hu (@aB _ _ _ _ _ _ _ T.gS T.b6 (@aq _ 0 _ _ (by walk_at "v")) (by rfl)) (@aq _ 1 _ _ (by walk_at "v")) (λ _ _=>rfl)) (@ak _) (by rfl)) (by decide) (by decide) (by rfl) (by rfl))))),?_⟩
  refine aG λ M1 K1 => ?_
  walk_at "ge"
  refine ⟨b,dx,d,es,z,rfl,fh,λ hz => ?_,λ hz => ?_⟩
  ·obtain ⟨e,he,rfl⟩:=List.mem_map.mp hz
   have c3:=fh.cf e he
   walk_at "ge"
   refine K1.use ?_
   walk_at "cl"
   clear K1
   walk_at "ge"
   refine Mu c2 (wD fh.nd he) ?_
   walk_at "ge"
   rw [g7]
   exact k1 e he rfl
  ·exact k2 hz
def Hw (cI cA cB:Addr):Sp:=λ vs H Q E => ∃ (b dx d:Addr) (es:dj) (z:Str) (p:Int),vs = [.ref b,.str z,.int p]/\FH cI H b dx d es/\(∀ e∈es,e.1=z->0<=p->p < e.2.2.length->Q .aM H)/\(∀ e∈es,e.1=z->¬ (0<=p/\p < e.2.2.length)->E (.ref cB) none H)/\(z ∉ es.map (·.1)->E (.ref cA) none H)
theorem E6 (D:bM K cI "ask_page" "Files.ask_page" b4) (B:iV mg) (T:Txt K mg cU cA cB cC cT cF cD cS cI) (vz:aR P w K mg base 2 cI "size_of" ["self","name"] (Nr cI cA)):aR P w K mg base 3 cI "ask_page" ["self","name","page"] (Hw cI cA cB):=by
 have sc:=iY
 refine D.Ep iY (λ vs H Q E h => ?_) (λ _ _ _ _ _ _ us hl=>match us,hl with | [_,_,_],_=>rfl) (λ f cdv A outer s H vs Q E hr h => ?_)
 ·obtain ⟨_,_,_,_,_,_,rfl,_⟩:=h;rfl
 ·obtain ⟨b,dx,d,es,z,p,rfl,fh,k1,k2,k3⟩:=h
  have c1:=fh.cb
  refine ⟨_,(@af _ _ _ _ _ (@aI _ _ 3 _ _ _ _ sc.nd rfl (by walk_at "o2") (@aV _ _ _ _ _ _ _ _ _ _ _ _ _ _ _ _ T.gS vz (hr.mono (by omega)) kM (@aq _ 0 _ _ (by walk_at "v")) (@aa _ _ _ _ _ (@aq _ 1 _ _ (by walk_at "v")) (@ak _) (by rfl)) (by rfl) (by rfl) (by rfl)) (by rfl) (by walk_at "o4")) (@ao _ _ _ (@aS _ _ _ _ _ _ _ _ (@PW.pt _ _ _ (@pw_or _ _ _ _ _ _ _ (@aK _ _ _ _ _ _ _ _ vU (@aq _ 2 _ _ (by walk_at "v")) (@aj _ _ _ _) (aQ _)) (@pw_or1 _ _ _ _ (@aK _ _ _ _ _ _ _ _ U3 (@aq _ 2 _ _ (by walk_at "v")) (@aq _ 3 _ _ (by walk_at "v")) (aQ _))))) (@ao _ _ _ (@jx _ _ _ _ _ _ _ _ _ _ _ _ _ _ _ _ _ _ _ _ _ _ T.Tc (by rfl) (@aa _ _ _ _ _ (@bV _ _ _ _) (@ak _) (by rfl)) (by decide) (by rfl))) (@aF _)))),?_⟩
  refine aG λ M1 K1 => ?_
  walk_at "ge"
  refine ⟨b,dx,d,es,z,rfl,fh,λ e he hz => ?_,λ hz => ?_⟩
  ·walk_at "ge"
   refine K1.use ?_
   walk_at "cl"
   clear K1
   walk_at "ge"
   ·refine oO λ R hR => ?_
    walk_at "ge"
    exact ⟨by decide,k2 e he hz (by omega)⟩
   ·refine oO λ R hR => ?_
    walk_at "ge"
    exact ⟨by decide,k2 e he hz (by omega)⟩
   ·exact k1 e he hz (by omega) (by omega)
  ·exact k3 hz
def IA (cI cA cB:Addr):Sp:=λ vs H Q E => ∃ (b dx d r0:Addr) (es:dj) (z:Str) (p:Int) (row:List Int) (R:Cells),vs = [.ref b,.str z,.int p,.ref r0]/\Led H (KP cI b dx d es R)/\(es.map (·.1)).Nodup/\(r0,HO.lst (row.map V.int))∈R/\row.length<=600/\(∀ (as bs:dj) (e:zq),es=as++e::bs->e.1=z->∀ j:Nat,p=((j:Nat):Int)->j < e.2.2.length->∀ (nr:Addr) (H':Hp),Led H' (KP cI b dx d (as++(e.1,e.2.1,e.2.2.set j (nr,row))::bs) ((nr,.lst (row.map V.int))::R))->Q .aM H')/\(∀ e∈es,e.1=z->¬ (0<=p/\p < e.2.2.length)->E (.ref cB) none H)/\(z ∉ es.map (·.1)->E (.ref cA) none H)
theorem Nt (D:bM K cI "store_row" "Files.store_row" bQ) (B:iV mg) (T:Txt K mg cU cA cB cC cT cF cD cS cI) (gj:aR P w K mg base 3 cI "ask_page" ["self","name","page"] (Hw cI cA cB)):aR P w K mg base 4 cI "store_row" ["self","name","page","row"] (IA cI cA cB):=by
 have sc:=iF
 refine D.Ep iF (λ vs H Q E h => ?_) (λ _ _ _ _ _ _ us hl=>match us,hl with | [_,_,_,_],_=>rfl) (λ f cdv A outer s H vs Q E hr h => ?_)
 ·obtain ⟨_,_,_,_,_,_,_,_,_,rfl,_⟩:=h;rfl
 ·obtain ⟨b,dx,d,r0,es,z,p,row,R,rfl,hL,nd,nM,hrl,k1,k2,k3⟩:=h
  have hu:=gF hr
  have hf:(jj d).lookup (Str.ofString "rows_by_name")=some (.ref d):=rfl
  have fh:=FH.of hL nd
  have c1:=fh.cb
  have c2:=fh.cd
  have mr:(row.map V.int).length=row.length:=List.length_map _
  refine ⟨_,(@af _ _ _ _ _ (@cM _ _ _ _ (@aV _ _ _ _ _ _ _ _ _ _ _ _ _ _ _ _ T.gS gj (hr.mono (by omega)) kM (@aq _ 0 _ _ (by walk_at "v")) (@aa _ _ _ _ _ (@aq _ 1 _ _ (by walk_at "v")) (@aa _ _ _ _ _ (@aq _ 2 _ _ (by walk_at "v")) (@ak _) (by rfl)) (by rfl)) (by rfl) (by rfl) (by rfl)) (by rfl)) (@ao _ _ _ (@bF _ _ _ _ _ _ (@bh _ _ _ _ _ _ _ _ _ (aY (K:=K) rfl) (by rfl) B.list bO (@aa _ _ _ _ _ (@aq _ 3 _ _ (by walk_at "v")) (@ak _) (by rfl)) (by decide) (by decide) (by rfl) (by rfl)) (@bG _ _ _ _ _ _ _ (@iU _ _ _ _ _ _ hu (@aB _ _ _ _ _ _ _ T.gS T.b6 (@aq _ 0 _ _ (by walk_at "v")) (by rfl)) (@aq _ 1 _ _ (by walk_at "v")) (λ _ _=>rfl)) (@aq _ 2 _ _ (by walk_at "v")) set_list (by intro _;rfl)) (by rfl) (by rfl) (by rfl)))),?_⟩
  refine aG λ M1 K1 => ?_
  walk_at "ge"
  refine ⟨b,dx,d,es,z,p,rfl,fh,λ e he hz p0 p1 => ?_,λ e he hz hp => ?_,λ hz => ?_⟩
  ·subst hz
   obtain ⟨j,rfl⟩:=Int.eq_ofNat_of_zero_le p0
   have hj:j < e.2.2.length:=by omega
   have hjl:j < (pQ e.2.2).length:=by rw [g7];exact hj
   have hkv:=wD nd he
   obtain ⟨as,bs,rfl,_⟩:=S7 nd he
   have jU:=hL.get (mC (mC (mA nM)))
   walk_at "ge"
   refine K1.use ?_
   walk_at "cl"
   clear K1
   walk_at "ge"
   rename_i nr H2 _ hl2 _ _ _ _ _ _ _
   have c3:H2 d=some (.dK (za (as++e::bs))):=hl2.get (mC (mC mS))
   refine Mu c3 hkv ?_
   walk_at "ge"
   have hl3:Led H2 ((e.2.1,.lst (pQ e.2.2))::(b,.ins cI dx (jj d))::(d,.dK (za (as++e::bs)))::(oR as++(oR bs++((nr,.lst (row.map V.int))::R)))):=hl2.wk (by unfold KP;rw [Ew];simp only [List.append_assoc,List.cons_append];walk_at "sp")
   refine cg (hl3.get mS) (bD (by omega) (by omega)) ?_
   rw [Int.toNat_natCast,show (pQ e.2.2).set j (V.ref nr)=pQ (e.2.2.set j (nr,row)) by unfold pQ;rw [List.map_set]]
   have bZ:=hl3.put (o' := .lst (pQ (e.2.2.set j (nr,row)))) rfl rfl
   walk_at "ge"
   refine k1 as bs e rfl rfl j rfl hj nr _ (bZ.wk ?_)
   unfold KP
   rw [Ew,<-Pz as bs e (e.1,e.2.1,e.2.2.set j (nr,row)) rfl rfl]
   simp only [List.append_assoc,List.cons_append]
   walk_at "sp"
  ·exact k2 e he hz hp
  ·exact k3 hz
def yC (K:PySem.W.Frag):Sp:=λ vs H Q _ => ∃ (a:Addr) (ns:List Int) (j:Int),vs = [.ref a,.int j]/\0<=j/\fj K H a (ns.map V.int)/\Q (.int (ns.getD j.toNat 0)) H
theorem Hx (D:Def K mg "_law_cell_at" fC) (B:iV mg):cQ P w K mg base 1 "_law_cell_at" ["_law_script","_law_k"] (yC K):=by
 refine D.ok Ct (λ vs H Q E h => ?_) (λ _ _ _ _ _ _ us hl=>match us,hl with | [_,_],_=>rfl) (λ f cdv A outer s H vs Q E hr h => ?_)
 ·obtain ⟨_,_,_,rfl,_⟩:=h;rfl
 ·obtain ⟨a,ns,j,rfl,hj0,hS,k⟩:=h
  obtain ⟨j,rfl⟩:=Int.eq_ofNat_of_zero_le hj0
  refine ⟨_,(@af _ _ _ _ _ (@aS _ _ _ _ _ _ _ _ (@aK _ _ _ _ _ _ _ _ vU (@aq _ 1 _ _ (by walk_at "v")) (@aH _ _ _ _ _ _ _ _ _ (zm (K:=K) rfl) (by rfl) B.len bw (@aa _ _ _ _ _ (@aq _ 0 _ _ (by walk_at "v")) (@ak _) (by rfl)) (by decide) (by decide) (by rfl) (by rfl)) (aQ _)) (@ao _ _ _ (@aE _ _ _ _ (@aX _ _ _ _ _ _ _ (Mi (K:=K) rfl) (@aq _ 0 _ _ (by walk_at "v")) (@aq _ 1 _ _ (by walk_at "v")) (λ _ _=>rfl)))) (@aF _)) (@ao _ _ _ (@aE _ _ _ _ (@aj _ _ _ _)))),?_⟩
  simp only [Lv,Lz,Bg,R8,FJ,L2.start,List.map_cons,List.map_nil,List.length_cons,List.length_nil,Nat.zero_add,Nat.reduceAdd,Nat.reduceSub,List.replicate,List.append_nil,List.getElem?_cons_succ,List.getElem?_cons_zero,Option.some.injEq,U8,HX,D0,List.cons.injEq,and_true,LI,V.int.injEq,V.bl.injEq,OV,Sk,exists_and_left,exists_eq_left',V.ref.injEq,HR,tC,decide_eq_true_eq]
  refine ⟨_,.inl hS,?_⟩
  rw [List.length_map]
  rw [Int.toNat_natCast] at k
  refine Yn (λ hlt => ?_) (λ hge => ?_)
  ·refine ⟨_,hS,_,gY (j:=j) (v:=V.int (ns.getD j 0)) ?_,k⟩
   have hj:j < ns.length:=by omega
   simp [hj]
  ·rw [List.getD_eq_getElem?_getD,List.getElem?_eq_none (by omega)] at k
   exact k
def vJ:Sp:=λ vs H Q _ => ∃ n:Int,vs = [.int n]/\Q (.bl true) H
theorem Nu (D:Def K mg "_law_whole" iA) (B:iV mg) (T:Txt K mg cU cA cB cC cT cF cD cS cI):cQ P w K mg base 1 "_law_whole" ["_law_found"] vJ:=by
 refine D.ok wJ (λ vs H Q E h => ?_) (λ _ _ _ _ _ _ us hl=>match us,hl with | [_],_=>rfl) (λ f cdv A outer s H vs Q E hr h => ?_)
 ·obtain ⟨_,rfl,_⟩:=h;rfl
 ·obtain ⟨n,rfl,k⟩:=h
  have sc:=wJ
  refine ⟨_,(@ao _ _ _ (@aE _ _ _ _ (@rB _ _ _ _ _ _ _ (@aH _ _ _ _ _ _ _ _ _ cy (by rfl) B.isinstance bu (@aa _ _ _ _ _ (@aq _ 0 _ _ (by walk_at "v")) (@aa _ _ _ _ _ (@fc _ _ (.ty "int") _ _ (by rfl) B.int L8 rfl (by decide) (by decide)) (@ak _) (by rfl)) (by rfl)) (by decide) (by decide) (by rfl) (by rfl)) (@lK _ _ _ _ _ (@FN _ _ _ _ (@aH _ _ _ _ _ _ _ _ _ cy (by rfl) B.isinstance bu (@aa _ _ _ _ _ (@aq _ 0 _ _ (by walk_at "v")) (@aa _ _ _ _ _ (@fc _ _ (.ty "bool") _ _ (by rfl) B.bool B8 rfl (by decide) (by decide)) (@ak _) (by rfl)) (by rfl)) (by decide) (by decide) (by rfl) (by rfl))))))),?_⟩
  walk_at "ge"
  exact k
def Nv (x y:V):Prop:=(x = .aM/\y = .aM)\/(∃ b,x = .bl b/\y = .bl b)\/(∃ n,x = .int n/\y = .int n)\/(∃ z,x = .str z/\y = .str z)
def Alike (H:Hp):Nat->V->V->Prop
 | 0,x,y=>Nv x y
 | k+1,x,y=>Nv x y ∨ ∃ a b xs ys,x = .ref a/\y = .ref b/\((H a=some (.lst xs)/\H b=some (.lst ys))\/(H a=some (.tup xs)/\H b=some (.tup ys)))/\xs.length=ys.length/\ys.length<=100000 ∧ ∀ (i:Nat) x' y',xs[i]? = some x'->ys[i]? = some y'->Alike H k x' y'
def jk (k:Nat):Sp:=λ vs H Q _ => ∃ x y,vs = [x,y]/\Alike H k x y/\Q (.bl true) H
theorem yD (D:Def K mg "_law_alike" fD) (B:iV mg) (T:Txt K mg cU cA cB cC cT cF cD cS cI) {n:Nat} {sp0:Sp} (dF:cQ P w K mg base 1 "_law_whole" ["_law_found"] vJ) (aN:cQ P w K mg base (n+1) "_law_alike" ["_law_found","_law_due"] sp0) (k:Nat) (hrec : ∀ (H:Hp) (x y:V) (Q:VK) (j:Nat),k=j+1->Alike H j x y->Q (.bl true) H->sp0 [x,y] H Q E0):cQ P w K mg base (n+2) "_law_alike" ["_law_found","_law_due"] (jk k):=by
 refine D.ok oS (λ vs H Q E h => ?_) (λ _ _ _ _ _ _ us hl=>match us,hl with | [_,_],_=>rfl) (λ f cdv A outer s H vs Q E hr h => ?_)
 ·obtain ⟨_,_,rfl,_⟩:=h;rfl
 ·obtain ⟨x,y,rfl,ha,kq⟩:=h
  have sc:=oS
  refine ⟨_,(@af _ _ _ _ _ (@aS _ _ _ _ _ _ _ _ (@aK _ _ _ _ _ _ _ _ LK (@aq _ 1 _ _ (by walk_at "v")) (@bJ _ _ _) (aQ _)) (@ao _ _ _ (@aE _ _ _ _ (@fM _ _ _ _ _ _ _ _ LK (@aq _ 0 _ _ (by walk_at "v")) (@bJ _ _ _) (aQ _)))) (@aF _)) (@af _ _ _ _ _ (@aS _ _ _ _ _ _ _ _ (@aZ _ _ _ (@aH _ _ _ _ _ _ _ _ _ cy (by rfl) B.isinstance bu (@aa _ _ _ _ _ (@aq _ 1 _ _ (by walk_at "v")) (@aa _ _ _ _ _ (@fc _ _ (.ty "bool") _ _ (by rfl) B.bool B8 rfl (by decide) (by decide)) (@ak _) (by rfl)) (by rfl)) (by decide) (by decide) (by rfl) (by rfl)) (by intro _;rfl)) (@ao _ _ _ (@aE _ _ _ _ (@rB _ _ _ _ _ _ _ (@aH _ _ _ _ _ _ _ _ _ cy (by rfl) B.isinstance bu (@aa _ _ _ _ _ (@aq _ 0 _ _ (by walk_at "v")) (@aa _ _ _ _ _ (@fc _ _ (.ty "bool") _ _ (by rfl) B.bool B8 rfl (by decide) (by decide)) (@ak _) (by rfl)) (by rfl)) (by decide) (by decide) (by rfl) (by rfl)) (@lK _ _ _ _ _ (@fM _ _ _ _ _ _ _ _ b9 (@aq _ 0 _ _ (by walk_at "v")) (@aq _ 1 _ _ (by walk_at "v")) (aQ _)))))) (@aF _)) (@af _ _ _ _ _ (@aS _ _ _ _ _ _ _ _ (@aZ _ _ _ (@aH _ _ _ _ _ _ _ _ _ cy (by rfl) B.isinstance bu (@aa _ _ _ _ _ (@aq _ 1 _ _ (by walk_at "v")) (@aa _ _ _ _ _ (@fc _ _ (.ty "int") _ _ (by rfl) B.int L8 rfl (by decide) (by decide)) (@ak _) (by rfl)) (by rfl)) (by decide) (by decide) (by rfl) (by rfl)) (by intro _;rfl)) (@ao _ _ _ (@aE _ _ _ _ (@rB _ _ _ _ _ _ _ (@aA _ _ _ _ _ _ _ _ _ _ _ dF (hr.mono (by omega)) (by rfl) az (@aa _ _ _ _ _ (@aq _ 0 _ _ (by walk_at "v")) (@ak _) (by rfl)) (by decide) (by rfl) (by rfl)) (@lK _ _ _ _ _ (@fM _ _ _ _ _ _ _ _ b9 (@aq _ 0 _ _ (by walk_at "v")) (@aq _ 1 _ _ (by walk_at "v")) (aQ _)))))) (@aF _)) (@af _ _ _ _ _ (@aS _ _ _ _ _ _ _ _ (@aZ _ _ _ (@aH _ _ _ _ _ _ _ _ _ cy (by rfl) B.isinstance bu (@aa _ _ _ _ _ (@aq _ 1 _ _ (by walk_at "v")) (@aa _ _ _ _ _ (@fc _ _ (.ty "str") _ _ (by rfl) B.str Ma rfl (by decide) (by decide)) (@ak _) (by rfl)) (by rfl)) (by decide) (by decide) (by rfl) (by rfl)) (by intro _;rfl)) (@ao _ _ _ (@aE _ _ _ _ (@rB _ _ _ _ _ _ _ (@aH _ _ _ _ _ _ _ _ _ cy (by rfl) B.isinstance bu (@aa _ _ _ _ _ (@aq _ 0 _ _ (by walk_at "v")) (@aa _ _ _ _ _ (@fc _ _ (.ty "str") _ _ (by rfl) B.str Ma rfl (by decide) (by decide)) (@ak _) (by rfl)) (by rfl)) (by decide) (by decide) (by rfl) (by rfl)) (@lK _ _ _ _ _ (@fM _ _ _ _ _ _ _ _ b9 (@aq _ 0 _ _ (by walk_at "v")) (@aq _ 1 _ _ (by walk_at "v")) (aQ _)))))) (@aF _)) (@af _ _ _ _ _ (@aS _ _ _ _ _ _ _ _ (@aZ _ _ _ (@aH _ _ _ _ _ _ _ _ _ cy (by rfl) B.isinstance bu (@aa _ _ _ _ _ (@aq _ 1 _ _ (by walk_at "v")) (@aa _ _ _ _ _ (@fc _ _ (.ty "tuple") _ _ (by rfl) B.tuple p7 rfl (by decide) (by decide)) (@ak _) (by rfl)) (by rfl)) (by decide) (by decide) (by rfl) (by rfl)) (by intro _;rfl)) (@ao _ _ _ (@aS _ _ _ _ _ _ _ _ (@bW _ _ _ _ (@aZ _ _ _ (@aH _ _ _ _ _ _ _ _ _ cy (by rfl) B.isinstance bu (@aa _ _ _ _ _ (@aq _ 0 _ _ (by walk_at "v")) (@aa _ _ _ _ _ (@fc _ _ (.ty "tuple") _ _ (by rfl) B.tuple p7 rfl (by decide) (by decide)) (@ak _) (by rfl)) (by rfl)) (by decide) (by decide) (by rfl) (by rfl)) (by intro _;rfl))) (@ao _ _ _ (@aE _ _ _ _ (@bP _ _ _ _))) (@aF _))) (@ao _ _ _ (@aS _ _ _ _ _ _ _ _ (@bW _ _ _ _ (@aZ _ _ _ (@aH _ _ _ _ _ _ _ _ _ cy (by rfl) B.isinstance bu (@aa _ _ _ _ _ (@aq _ 0 _ _ (by walk_at "v")) (@aa _ _ _ _ _ (@fc _ _ (.ty "list") _ _ (by rfl) B.list bO rfl (by decide) (by decide)) (@ak _) (by rfl)) (by rfl)) (by decide) (by decide) (by rfl) (by rfl)) (by intro _;rfl))) (@ao _ _ _ (@aE _ _ _ _ (@bP _ _ _ _))) (@aF _)))) (@af _ _ _ _ _ (@aS _ _ _ _ _ _ _ _ (@aK _ _ _ _ _ _ _ _ HW (@aH _ _ _ _ _ _ _ _ _ aL (by rfl) B.len bw (@aa _ _ _ _ _ (@aq _ 0 _ _ (by walk_at "v")) (@ak _) (by rfl)) (by decide) (by decide) (by rfl) (by rfl)) (@aH _ _ _ _ _ _ _ _ _ aL (by rfl) B.len bw (@aa _ _ _ _ _ (@aq _ 1 _ _ (by walk_at "v")) (@ak _) (by rfl)) (by decide) (by decide) (by rfl) (by rfl)) (aQ _)) (@ao _ _ _ (@aE _ _ _ _ (@bP _ _ _ _))) (@aF _)) (@af _ _ _ _ _ (@iD _ _ _ _ _ _ _ _ PassesOwn.never rfl (@ck _ _ _ _ _ _ (by rfl) B.range (@aa _ _ _ _ _ (@aH _ _ _ _ _ _ _ _ _ aL (by rfl) B.len bw (@aa _ _ _ _ _ (@aq _ 1 _ _ (by walk_at "v")) (@ak _) (by rfl)) (by decide) (by decide) (by rfl) (by rfl)) (@ak _) (by rfl)) (by rfl)) (@d9 _ _ 2 _ sc.nd rfl (by walk_at "o2") (by walk_at "o4")) (@ao _ _ _ (@aS _ _ _ _ _ _ _ _ (@bW _ _ _ _ (@aZ _ _ _ (@aA _ _ _ _ _ _ _ _ _ _ _ aN (hr.mono (by omega)) (by rfl) az (@aa _ _ _ _ _ (@aX _ _ _ _ _ _ _ aO (@aq _ 0 _ _ (by walk_at "v")) (@aq _ 2 _ _ (by walk_at "v")) (λ _ _=>rfl)) (@aa _ _ _ _ _ (@aX _ _ _ _ _ _ _ aO (@aq _ 1 _ _ (by walk_at "v")) (@aq _ 2 _ _ (by walk_at "v")) (λ _ _=>rfl)) (@ak _) (by rfl)) (by rfl)) (by decide) (by rfl) (by rfl)) (by intro _;rfl))) (@ao _ _ _ (@aE _ _ _ _ (@bP _ _ _ _))) (@aF _))) (by intro _;rfl)) (@ao _ _ _ (@aE _ _ _ _ (@bP _ _ _ _)))))))))),?_⟩
  have ha2:Nv x y ∨ ∃ a b xs ys j,k=j+1/\x = .ref a/\y = .ref b/\((H a=some (.lst xs)/\H b=some (.lst ys))\/(H a=some (.tup xs)/\H b=some (.tup ys)))/\xs.length=ys.length/\ys.length<=100000 ∧ ∀ (i:Nat) x' y',xs[i]? = some x'->ys[i]? = some y'->Alike H j x' y':=by
   cases k with
   | zero=>exact .inl ha
   | succ j =>
     rcases ha with h | ⟨a,b,xs,ys,h1,h2,h3,h4,h5,h6⟩
     ·exact .inl h
     ·exact .inr ⟨a,b,xs,ys,j,rfl,h1,h2,h3,h4,h5,h6⟩
  clear ha
  rcases ha2 with (⟨rfl,rfl⟩ | ⟨c,rfl,rfl⟩ | ⟨m,rfl,rfl⟩ | ⟨z,rfl,rfl⟩) | ⟨a,b,xs,ys,j,hk,rfl,rfl,hh,hxy,hyl,hin⟩
  ·walk_at "ge"
   all_goals first | exact kq | (exfalso;simp_all;done)
  ·walk_at "ge"
   all_goals first | (exfalso;simp_all;done) | skip
   rw [decide_eq_true rfl]
   exact kq
  ·walk_at "ge"
   all_goals first | (exfalso;simp_all;done) | skip
   refine ⟨m,rfl,?_⟩
   walk_at "ge"
   rw [decide_eq_true rfl]
   exact kq
  ·walk_at "ge"
   all_goals first | (exfalso;simp_all;done) | skip
   rw [decide_eq_true rfl]
   exact kq
  ·have fin : ∀ (Lx:Hp->Prop),True:=λ _=>True.intro
   rcases hh with ⟨c1,c2⟩ | ⟨c1,c2⟩
   ·refine aG λ M1 K1 => ?_
    walk_at "ge"
    all_goals first | (exfalso;simp_all;done) | skip
    refine K1.use ?_
    walk_at "cl"
    clear K1
    refine aG λ M1 K1 => ?_
    walk_at "ge"
    refine K1.use ?_
    walk_at "cl"
    clear K1
    refine aG λ M1 K1 => ?_
    walk_at "ge"
    refine K1.use ?_
    walk_at "cl"
    clear K1
    refine aG λ M1 K1 => ?_
    walk_at "ge"
    refine K1.use ?_
    walk_at "cl"
    clear K1
    refine aG λ M1 K1 => ?_
    walk_at "ge"
    refine K1.use ?_
    walk_at "cl"
    clear K1
    refine aG λ M1 K1 => ?_
    walk_at "ge"
    all_goals first | (exfalso;omega) | skip
    refine K1.use ?_
    walk_at "cl"
    clear K1
    refine aG λ M1 K1 => ?_
    refine nQ λ Lr mZ => ?_
    walk_at "ge"
    refine ⟨_,rfl,by omega,by omega,mZ.use ?_⟩
    clear mZ
    rw [show ((ys.length:Int)).toNat=ys.length by omega]
    refine nR (λ i σ H'=>H' = H ∧ ∃ v1,σ = [some (.ref a),some (.ref b),v1]) ⟨rfl,_,rfl⟩ ?_ ?_
    ·rintro i σ H' hi ⟨rfl,v1,rfl⟩
     have a1:iT xs (0+(i:Int))=some xs[i]:=dz (by omega) (by rw [show (0+(i:Int)).toNat=i by omega];exact List.getElem?_eq_getElem (by omega))
     have a2:iT ys (0+(i:Int))=some ys[i]:=dz (by omega) (by rw [show (0+(i:Int)).toNat=i by omega];exact List.getElem?_eq_getElem (by omega))
     walk_at "ge"
     refine hrec _ _ _ _ j hk (hin i _ _ (List.getElem?_eq_getElem (by omega)) (List.getElem?_eq_getElem (by omega))) ?_
     walk_at "ge"
     exact ⟨rfl,_,rfl⟩
    ·rintro σ H' ⟨rfl,v1,rfl⟩
     walk_at "ge"
     refine K1.use ?_
     walk_at "ge"
     exact kq
   ·refine aG λ M1 K1 => ?_
    walk_at "ge"
    all_goals first | (exfalso;simp_all;done) | skip
    refine K1.use ?_
    walk_at "cl"
    clear K1
    refine aG λ M1 K1 => ?_
    walk_at "ge"
    refine K1.use ?_
    walk_at "cl"
    clear K1
    refine aG λ M1 K1 => ?_
    walk_at "ge"
    refine K1.use ?_
    walk_at "cl"
    clear K1
    refine aG λ M1 K1 => ?_
    walk_at "ge"
    refine K1.use ?_
    walk_at "cl"
    clear K1
    refine aG λ M1 K1 => ?_
    walk_at "ge"
    refine K1.use ?_
    walk_at "cl"
    clear K1
    refine aG λ M1 K1 => ?_
    walk_at "ge"
    all_goals first | (exfalso;omega) | skip
    refine K1.use ?_
    walk_at "cl"
    clear K1
    refine aG λ M1 K1 => ?_
    refine nQ λ Lr mZ => ?_
    walk_at "ge"
    refine ⟨_,rfl,by omega,by omega,mZ.use ?_⟩
    clear mZ
    rw [show ((ys.length:Int)).toNat=ys.length by omega]
    refine nR (λ i σ H'=>H' = H ∧ ∃ v1,σ = [some (.ref a),some (.ref b),v1]) ⟨rfl,_,rfl⟩ ?_ ?_
    ·rintro i σ H' hi ⟨rfl,v1,rfl⟩
     have a1:iT xs (0+(i:Int))=some xs[i]:=dz (by omega) (by rw [show (0+(i:Int)).toNat=i by omega];exact List.getElem?_eq_getElem (by omega))
     have a2:iT ys (0+(i:Int))=some ys[i]:=dz (by omega) (by rw [show (0+(i:Int)).toNat=i by omega];exact List.getElem?_eq_getElem (by omega))
     walk_at "ge"
     refine hrec _ _ _ _ j hk (hin i _ _ (List.getElem?_eq_getElem (by omega)) (List.getElem?_eq_getElem (by omega))) ?_
     walk_at "ge"
     exact ⟨rfl,_,rfl⟩
    ·rintro σ H' ⟨rfl,v1,rfl⟩
     walk_at "ge"
     refine K1.use ?_
     walk_at "ge"
     exact kq
theorem E7 (D:Def K mg "_law_alike" fD):cQ P w K mg base 1 "_law_alike" ["_law_found","_law_due"] (λ _ _ _ _=>False) :=
 D.ok oS (λ vs H Q E h=>h.elim) (λ _ _ _ _ _ _ us hl=>match us,hl with | [_,_],_=>rfl) (λ f cdv A outer s H vs Q E hr h=>h.elim)
theorem E8 (D:Def K mg "_law_alike" fD) (B:iV mg) (T:Txt K mg cU cA cB cC cT cF cD cS cI) (dF:cQ P w K mg base 1 "_law_whole" ["_law_found"] vJ) : ∀ k:Nat,cQ P w K mg base (k+2) "_law_alike" ["_law_found","_law_due"] (jk k)
 | 0=>yD D B T dF (E7 D) 0 λ _ _ _ _ j h=>nomatch h
 | k+1=>yD D B T dF (E8 D B T dF k) (k+1) λ H x y Q j h ha hq=>by
     cases h
     exact ⟨x,y,rfl,ha,hq⟩
def Tu (j:Int):Int:=if j % 4=0 then 48271 else if j % 4=1 then 10 ^ 20+39 else if j % 4=2 then 10 ^ 40+121 else 10 ^ 59+7
def IB (c j:Int):Int:=c * Tu j+7919 * j * j
def Rw (c j:Int):Int:=(c+5 * j) * 69621 % 15101 % 6
def numAt (big wy:Int):Int:=match iT [V.int (big % 9),.int (big % (999999999999999999999999999999999999999999999999999999999999+1)),.int (-(big % (999999999999999999999999999999999999999999999999999999999999+1))),.int (999999999999999999999999999999999999999999999999999999999999 - big % 2),.int (big % 2 - 999999999999999999999999999999999999999999999999999999999999),.int (-1 - big % 7)] wy with | some (.int z)=>z | _=>0
def numOf (c j:Int):Int:=numAt (IB c j) (Rw c j)
def rowOf (c:Int):List Int:=(List.range 4).map λ k:Nat=>numOf (c+31 * (k:Int)) (k:Int)
theorem jV (c:Int):(rowOf c).length=4:=by unfold rowOf;rw [List.length_map,List.length_range]
def Nx:Sp:=λ vs H Q _ => ∃ (c k:Int) (L:Cells),vs = [.int c,.int k]/\Builtin.Int.intBits c<=1500000/\0<=k/\k<=1000/\Led H L ∧ ∀ (H':Hp),Led H' L->Q (.int (numOf c k)) H'
theorem Tv (D:Def K mg "_law_num" nu) (T:Txt K mg cU cA cB cC cT cF cD cS cI):cQ P w K mg base 1 "_law_num" ["_law_cell","_law_k"] Nx:=by
 have sc:=Ez
 refine D.ok Ez (λ vs H Q E h => ?_) (λ _ _ _ _ _ _ us hl=>match us,hl with | [_,_],_=>rfl) (λ f cdv A outer s H vs Q E hr h => ?_)
 ·obtain ⟨_,_,_,rfl,_⟩:=h;rfl
 ·obtain ⟨c,j,L,rfl,hb,j0,j1,hL,k⟩:=h
  refine ⟨_,(@af _ _ _ _ _ (@aI _ _ 2 _ _ _ _ sc.nd rfl (by walk_at "o2") (@av _ _ _ _ _ _ _ _ fL (@av _ _ _ _ _ _ _ _ vS (@aj _ _ _ _) (@aj _ _ _ _)) (@aj _ _ _ _)) (by rfl) (by walk_at "o4")) (@af _ _ _ _ _ (@aI _ _ 3 _ _ _ _ sc.nd rfl (by walk_at "o2") (@av _ _ _ _ _ _ _ _ aT (@av _ _ _ _ _ _ _ _ ni (@aq _ 0 _ _ (by walk_at "v")) (@aX _ _ _ _ _ _ _ aO (@jo _ _ _ _ (@aa _ _ _ _ _ (@aj _ _ _ _) (@aa _ _ _ _ _ (@av _ _ _ _ _ _ _ _ aT (@av _ _ _ _ _ _ _ _ vS (@aj _ _ _ _) (@aj _ _ _ _)) (@aj _ _ _ _)) (@aa _ _ _ _ _ (@av _ _ _ _ _ _ _ _ aT (@av _ _ _ _ _ _ _ _ vS (@aj _ _ _ _) (@aj _ _ _ _)) (@aj _ _ _ _)) (@aa _ _ _ _ _ (@av _ _ _ _ _ _ _ _ aT (@av _ _ _ _ _ _ _ _ vS (@aj _ _ _ _) (@aj _ _ _ _)) (@aj _ _ _ _)) (@ak _) (by rfl)) (by rfl)) (by rfl)) (by rfl))) (@av _ _ _ _ _ _ _ _ aJ (@aq _ 1 _ _ (by walk_at "v")) (@aj _ _ _ _)) (λ _ _=>rfl))) (@av _ _ _ _ _ _ _ _ gc (@av _ _ _ _ _ _ _ _ gc (@aj _ _ _ _) (@aq _ 1 _ _ (by walk_at "v"))) (@aq _ 1 _ _ (by walk_at "v")))) (by rfl) (by walk_at "o4")) (@af _ _ _ _ _ (@aI _ _ 4 _ _ _ _ sc.nd rfl (by walk_at "o2") (@av _ _ _ _ _ _ _ _ aJ (@av _ _ _ _ _ _ _ _ aJ (@av _ _ _ _ _ _ _ _ ni (@av _ _ _ _ _ _ _ _ aT (@aq _ 0 _ _ (by walk_at "v")) (@av _ _ _ _ _ _ _ _ gc (@aj _ _ _ _) (@aq _ 1 _ _ (by walk_at "v")))) (@aj _ _ _ _)) (@aj _ _ _ _)) (@aj _ _ _ _)) (by rfl) (by walk_at "o4")) (@ao _ _ _ (@aE _ _ _ _ (@aX _ _ _ _ _ _ _ aO (@jo _ _ _ _ (@aa _ _ _ _ _ (@av _ _ _ _ _ _ _ _ aJ (@aq _ 3 _ _ (by walk_at "v")) (@aj _ _ _ _)) (@aa _ _ _ _ _ (@av _ _ _ _ _ _ _ _ aJ (@aq _ 3 _ _ (by walk_at "v")) (@av _ _ _ _ _ _ _ _ aT (@aq _ 2 _ _ (by walk_at "v")) (@aj _ _ _ _))) (@aa _ _ _ _ _ (@gQ _ _ _ _ _ _ eU (@av _ _ _ _ _ _ _ _ aJ (@aq _ 3 _ _ (by walk_at "v")) (@av _ _ _ _ _ _ _ _ aT (@aq _ 2 _ _ (by walk_at "v")) (@aj _ _ _ _)))) (@aa _ _ _ _ _ (@av _ _ _ _ _ _ _ _ fL (@aq _ 2 _ _ (by walk_at "v")) (@av _ _ _ _ _ _ _ _ aJ (@aq _ 3 _ _ (by walk_at "v")) (@aj _ _ _ _))) (@aa _ _ _ _ _ (@av _ _ _ _ _ _ _ _ fL (@av _ _ _ _ _ _ _ _ aJ (@aq _ 3 _ _ (by walk_at "v")) (@aj _ _ _ _)) (@aq _ 2 _ _ (by walk_at "v"))) (@aa _ _ _ _ _ (@av _ _ _ _ _ _ _ _ fL (@gQ _ _ _ _ _ _ eU (@aj _ _ _ _)) (@av _ _ _ _ _ _ _ _ aJ (@aq _ 3 _ _ (by walk_at "v")) (@aj _ _ _ _))) (@ak _) (by rfl)) (by rfl)) (by rfl)) (by rfl)) (by rfl)) (by rfl))) (@aq _ 4 _ _ (by walk_at "v")) (λ _ _=>rfl))))))),?_⟩
  refine aG λ M1 K1 => ?_
  walk_at "ge"
  refine K1.use ?_
  walk_at "cl"
  clear K1
  refine aG λ M1 K1 => ?_
  have rest : ∀ (big:Int) (H':Hp),big=IB c j->Led H' L->M1 [some (.int c),some (.int j),some (.int 999999999999999999999999999999999999999999999999999999999999),some (.int big),none] H':=by
   intro big H' ac9 hl'
   refine K1.use ?_
   clear K1 hL
   refine aG λ M1 K1 => ?_
   walk_at "ge"
   obtain ⟨wy,hwy⟩ : ∃ z:Int,(c+5 * j) * 69621 % 15101 % 6=z:=⟨_,rfl⟩
   have w0:0<=wy:=by rw [<-hwy];exact Int.emod_nonneg _ (by decide)
   have w5:wy<=5:=by have:=Int.emod_lt_of_pos ((c+5 * j) * 69621 % 15101) (show (0:Int) < 6 by decide);omega
   rw [hwy]
   refine K1.use ?_
   walk_at "cl"
   clear K1
   walk_at "ge"
   obtain ⟨z,hz⟩:=YX (a0:=big % 9) (a1:=big % (999999999999999999999999999999999999999999999999999999999999+1)) (a2 := -(big % (999999999999999999999999999999999999999999999999999999999999+1))) (a3:=999999999999999999999999999999999999999999999999999999999999 - big % 2) (a4:=big % 2 - 999999999999999999999999999999999999999999999999999999999999) (a5 := -1 - big % 7) w0 w5
   have ez:numOf c j=z:=by unfold numOf Rw;rw [<-ac9,hwy];unfold numAt;rw [hz]
   refine SJ (by walk_at "cell") hz ?_
   walk_at "ge"
   rw [<-ez]
   exact k _ (Led.tail (by assumption))
  clear K1
  have h4:j % 4=0\/j % 4=1\/j % 4=2\/j % 4=3:=by omega
  walk_at "ge"
  rcases h4 with h4 | h4 | h4 | h4 <;> rw [h4] <;> walk_at "ge" <;> first | exact rest _ _ (by unfold IB Tu;rw [h4];rfl) (Led.tail (by assumption)) | (refine iH (S5 (Nat.le_trans hb (by decide)) (by decide)) ?_;walk_at "ge";exact rest _ _ (by unfold IB Tu;rw [h4];rfl) (Led.tail (by assumption)))
def IC:Sp:=λ vs H Q _ => ∃ (c:Int) (L:Cells),vs = [.int c]/\Builtin.Int.intBits c<=1400000/\Led H L ∧ ∀ (r:Addr) (H':Hp),Led H' ((r,.lst ((rowOf c).map V.int))::L)->Q (.ref r) H'
theorem Tw (D:Def K mg "_law_row" nv) (B:iV mg) (T:Txt K mg cU cA cB cC cT cF cD cS cI) (pO:cQ P w K mg base 1 "_law_num" ["_law_cell","_law_k"] Nx):cQ P w K mg base 2 "_law_row" ["_law_cell"] IC:=by
 have sc:=EA
 refine D.ok EA (λ vs H Q E h => ?_) (λ _ _ _ _ _ _ us hl=>match us,hl with | [_],_=>rfl) (λ f cdv A outer s H vs Q E hr h => ?_)
 ·obtain ⟨_,_,rfl,_⟩:=h;rfl
 ·obtain ⟨c,L,rfl,hb,hL,k⟩:=h
  refine ⟨_,(@ao _ _ _ (@aE _ _ _ _ (@kh _ _ "_law_k" _ _ _ _ _ _ _ _ _ rfl rfl rfl rfl OM (cz (by kernel_rfl)) (@ck _ _ _ _ _ _ (by rfl) B.range (@aa _ _ _ _ _ (@aj _ _ _ _) (@ak _) (by rfl)) (by rfl)) (λ _ _ _ _=>(@kc _)) (λ _ _ _ _=>(@aA _ _ _ _ _ _ _ _ _ _ _ pO (hr.mono (by omega)) (by rfl) az (@aa _ _ _ _ _ (@av _ _ _ _ _ _ _ _ aT (@pk _ 1 _ _ (by kernel_rfl) (by kernel_rfl) (by decide) (by decide)) (@av _ _ _ _ _ _ _ _ gc (@aj _ _ _ _) (@pk _ 0 _ _ (by kernel_rfl) (by kernel_rfl) (by decide) (by decide)))) (@aa _ _ _ _ _ (@pk _ 0 _ _ (by kernel_rfl) (by kernel_rfl) (by decide) (by decide)) (@ak _) (by rfl)) (by rfl)) (by decide) (by rfl) (by rfl))) (by intro _;rfl)))),?_⟩
  walk_at "ge"
  refine Ge λ Lc kG => ?_
  walk_at "ge"
  refine ⟨_,rfl,by omega,by omega,kG.use ?_⟩
  clear kG
  refine wB (λ i v=>v=V.int (numOf (c+31 * (i:Int)) (i:Int))) hL (by decide) (λ i H2 R q hi hl2 hR => ?_) (λ p acc H2 hlen hacc hl2 => ?_)
  ·have hi4:i < 4:=hi
   walk_at "ge"
   refine ⟨_,_,_,rfl,Nat.le_trans (bits_add hb (by omega) (by omega) (by decide)) (by decide),by omega,by omega,hl2,λ H3 hl3 => ?_⟩
   walk_at "ge"
   exact hR _ _ (by rw [show (0:Int)+(i:Int)=(i:Int) by omega]) hl3
  ·have e:acc=(rowOf c).map V.int:=by
    refine List.ext_getElem? λ i => ?_
    by_cases hi:i < 4
    ·have hl:i < acc.length:=by rw [hlen];exact hi
     rw [List.getElem?_eq_getElem hl,hacc i _ (List.getElem?_eq_getElem hl)]
     rw [List.getElem?_map,rowOf,List.getElem?_map,List.getElem?_range hi]
     rfl
    ·rw [List.getElem?_eq_none (by rw [hlen];exact Nat.le_of_not_lt hi),List.getElem?_eq_none (by rw [List.length_map,jV];exact Nat.le_of_not_lt hi)]
   subst e
   walk_at "ge"
   exact k p _ hl2
end
section
variable {P:Program} {w:World} {K:PySem.W.Frag} {mg:Str->Option Value} {base:Heap} {cU cA cB cC cT cF cD cS cI:Addr}
theorem Led.perm {H:Hp} {L L':Cells} (h:Led H L) (p:L.Perm L'):Led H L':=⟨λ c hc=>h.at_ c (p.mem_iff.mpr hc),((p.filter _).map _).nodup_iff.mp h.nd⟩
structure SS where
 b:Addr
 dx:Addr
 F:FS
 d:Addr
 Lh:Addr
 dm:Addr
 p:Nat
 bs:List Bool
 sb:Addr
 Ny:Addr
 sl:Addr
 sd:Addr
 ps:List V
 es:k9
 ib:Addr
 ix:Addr
 im:Addr
 fs:dj
 ho:Addr
 hs:List (Int×Int)
 made:Int
def Hy (S:SS):List (Str×V):=[("frames",.ref S.F.b),("dial",.ref S.d),("shelf",.ref S.sb),("files",.ref S.ib),("holders",.ref S.ho),("sheets_made",.int S.made)]
def FD (hs:List (Int×Int)):List (Key×V):=hs.map λ e=>(Sum.inl e.1,V.int e.2)
def zb (cT:Addr) (S:SS):Cells:=[(S.b,.ins cT S.dx (Hy S)),(S.ho,.dK (FD S.hs))]
def pR (cF:Addr) (F:FS):Cells:=[(F.b,.ins cF F.dx (vH F.hl F.rl F.sl)),(F.hl,.lst (F.hs.map bq)),(F.rl,.lst (F.rs.map fW)),(F.sl,.lst (F.bs.map V.bl))]
abbrev E9 (cD:Addr) (S:SS):Cells:=f9 cD S.d S.Lh S.dm S.p S.bs
abbrev Fb (cS:Addr) (S:SS):Cells:=A6 cS S.sb S.Ny S.sl S.sd S.ps S.es
def Du (cI:Addr) (S:SS):Cells:=(S.ib,.ins cI S.ix (jj S.im))::(S.im,.dK (za S.fs))::oR S.fs
def bg (cT cF cD cS cI:Addr) (S:SS) (M:Cells):Cells:=zb cT S++(pR cF S.F++(E9 cD S++(Fb cS S++(Du cI S++M))))
section
variable {H:Hp} {S:SS} {M N:Cells}
def rF (cT cD cS cI:Addr) (S:SS) (M:Cells):Cells:=zb cT S++(E9 cD S++(Fb cS S++(Du cI S++M)))
def rD (cT cF cS cI:Addr) (S:SS) (M:Cells):Cells:=zb cT S++(pR cF S.F++(Fb cS S++(Du cI S++M)))
def rS (cT cF cD cI:Addr) (S:SS) (M:Cells):Cells:=zb cT S++(pR cF S.F++(E9 cD S++(Du cI S++M)))
def rI (cT cF cD cS:Addr) (S:SS) (M:Cells):Cells:=zb cT S++(pR cF S.F++(E9 cD S++(Fb cS S++M)))
theorem aP {α : Type} (a b m:List α):(a++(b++m)).Perm (b++(a++m)):=by
 rw [<-List.append_assoc,<-List.append_assoc]
 exact List.Perm.append_right _ List.perm_append_comm
theorem St.toF (h:Led H (bg cT cF cD cS cI S M)):Led H (ud cF S.F (rF cT cD cS cI S M)):=Led.perm h (aP _ _ _)
theorem St.toD (h:Led H (bg cT cF cD cS cI S M)):Led H (f9 cD S.d S.Lh S.dm S.p S.bs++rD cT cF cS cI S M):=Led.perm h ((List.Perm.append_left _ (aP _ _ _)).trans (aP _ _ _))
theorem St.toS (h:Led H (bg cT cF cD cS cI S M)):Led H (A6 cS S.sb S.Ny S.sl S.sd S.ps S.es++rS cT cF cD cI S M):=Led.perm h ((List.Perm.append_left _ ((List.Perm.append_left _ (aP _ _ _)).trans (aP _ _ _))).trans (aP _ _ _))
theorem St.Wg (h:Led H (bg cT cF cD cS cI S M)):Led H (KP cI S.ib S.ix S.im S.fs (rI cT cF cD cS S M)):=by
 have h1:Led H (Du cI S++rI cT cF cD cS S M):=Led.perm h ((List.Perm.append_left _ ((List.Perm.append_left _ ((List.Perm.append_left _ (aP _ _ _)).trans (aP _ _ _))).trans (aP _ _ _))).trans (aP _ _ _))
 exact h1
theorem St.Tz {F':FS} (e:F'.b=S.F.b) (h:Led H (ud cF F' (N++rF cT cD cS cI S M))):Led H (bg cT cF cD cS cI { S with F:=F' } (N++M)):=by
 have h1:Led H (pR cF F'++(N++(zb cT S++(E9 cD S++(Fb cS S++(Du cI S++M)))))):=h
 have e2:zb cT S=zb cT { S with F:=F' } := by unfold zb Hy;rw [<-e]
 rw [e2] at h1
 exact Led.perm h1 ((List.Perm.append_left _ ((aP _ _ _).trans (List.Perm.append_left _ ((aP _ _ _).trans (List.Perm.append_left _ ((aP _ _ _).trans (List.Perm.append_left _ (aP _ _ _)))))))).trans (aP _ _ _))
theorem St.ofD {p':Nat} {bs':List Bool} (h:Led H (f9 cD S.d S.Lh S.dm p' bs'++(N++rD cT cF cS cI S M))):Led H (bg cT cF cD cS cI { S with p:=p',bs:=bs' } (N++M)):=by
 have h1:Led H (f9 cD S.d S.Lh S.dm p' bs'++(N++(zb cT S++(pR cF S.F++(Fb cS S++(Du cI S++M)))))):=h
 exact Led.perm h1 ((List.Perm.append_left _ ((aP _ _ _).trans (List.Perm.append_left _ ((aP _ _ _).trans (List.Perm.append_left _ ((aP _ _ _).trans (List.Perm.append_left _ (aP _ _ _)))))))).trans ((aP _ _ _).trans (List.Perm.append_left _ (aP _ _ _))))
theorem St.ofS {ps':List V} {es':k9} (h:Led H (A6 cS S.sb S.Ny S.sl S.sd ps' es'++(N++rS cT cF cD cI S M))):Led H (bg cT cF cD cS cI { S with ps:=ps',es:=es' } (N++M)):=by
 have h1:Led H (A6 cS S.sb S.Ny S.sl S.sd ps' es'++(N++(zb cT S++(pR cF S.F++(E9 cD S++(Du cI S++M)))))):=h
 exact Led.perm h1 ((List.Perm.append_left _ ((aP _ _ _).trans (List.Perm.append_left _ ((aP _ _ _).trans (List.Perm.append_left _ ((aP _ _ _).trans (List.Perm.append_left _ (aP _ _ _)))))))).trans ((aP _ _ _).trans (List.Perm.append_left _ ((aP _ _ _).trans (List.Perm.append_left _ (aP _ _ _))))))
theorem St.ofI {fs':dj} (h:Led H (KP cI S.ib S.ix S.im fs' (N++rI cT cF cD cS S M))):Led H (bg cT cF cD cS cI { S with fs:=fs' } (N++M)):=by
 have h1:Led H (Du cI { S with fs:=fs' } ++ (N++(zb cT S++(pR cF S.F++(E9 cD S++(Fb cS S++M)))))):=h
 exact Led.perm h1 ((List.Perm.append_left _ ((aP _ _ _).trans (List.Perm.append_left _ ((aP _ _ _).trans (List.Perm.append_left _ ((aP _ _ _).trans (List.Perm.append_left _ (aP _ _ _)))))))).trans ((aP _ _ _).trans (List.Perm.append_left _ ((aP _ _ _).trans (List.Perm.append_left _ ((aP _ _ _).trans (List.Perm.append_left _ (aP _ _ _))))))))
theorem St.b:(S.b,HO.ins cT S.dx (Hy S))∈bg cT cF cD cS cI S M:=mS
theorem St.ho:(S.ho,HO.dK (FD S.hs))∈bg cT cF cD cS cI S M:=mC mS
theorem St.up {c:Addr×HO} (h:c∈M):c∈bg cT cF cD cS cI S M:=mA (mA (mA (mA (mA h))))
theorem jl {c:Addr×HO} (h:c∈M):c∈rF cT cD cS cI S M:=mA (mA (mA (mA h)))
theorem Wh {c:Addr×HO} (h:c∈M):c∈rD cT cF cS cI S M:=mA (mA (mA (mA h)))
theorem Wi {c:Addr×HO} (h:c∈M):c∈rS cT cF cD cI S M:=mA (mA (mA (mA h)))
theorem Nz {c:Addr×HO} (h:c∈M):c∈rI cT cF cD cS S M:=mA (mA (mA (mA h)))
end
end
section
variable {P:Program} {w:World} {K:PySem.W.Frag} {mg:Str->Option Value} {base:Heap} {cU cA cB cC cT cF cD cS cI:Addr}
def freed (S:SS) (i:Nat):SS := { S with F:=S.F.fill i none none false,bs:=S.bs.set i false }
theorem fX (S:SS):(Hy S).lookup (Str.ofString "frames")=some (.ref S.F.b):=rfl
theorem pP (S:SS):(Hy S).lookup (Str.ofString "dial")=some (.ref S.d):=rfl
theorem tH (S:SS):(Hy S).lookup (Str.ofString "shelf")=some (.ref S.sb):=rfl
theorem Dv (S:SS):(Hy S).lookup (Str.ofString "files")=some (.ref S.ib):=rfl
theorem Hz (S:SS):(Hy S).lookup (Str.ofString "holders")=some (.ref S.ho):=rfl
theorem TF (S:SS):(Hy S).lookup (Str.ofString "sheets_made")=some (.int S.made):=rfl
def ny:Sp:=λ vs H Q _ => ∃ (t:Addr) (a:Th),vs = [.ref t]/\H t=some (.tup (eV a))/\(∀ m,a = .own m->Q (.bl true) H)/\(∀ z p,a = .file z p->Q (.bl false) H)
theorem Fc (D:Def K mg "is_sheet" gi) (T:Txt K mg cU cA cB cC cT cF cD cS cI):cQ P w K mg base 1 "is_sheet" ["thing"] ny:=by
 have sc:=tY
 refine D.ok tY (λ vs H Q E h => ?_) (λ _ _ _ _ _ _ us hl=>match us,hl with | [_],_=>rfl) (λ f cdv A outer s H vs Q E hr h => ?_)
 ·obtain ⟨_,_,rfl,_⟩:=h;rfl
 ·obtain ⟨t,a,rfl,ht,k1,k2⟩:=h
  refine ⟨_,(@ao _ _ _ (@aE _ _ _ _ (@fM _ _ _ _ _ _ _ _ b9 (@aX _ _ _ _ _ _ _ aO (@aq _ 0 _ _ (by walk_at "v")) (@aj _ _ _ _) (λ _ _=>rfl)) (@bV _ _ _ _) (aQ _)))),?_⟩
  cases a with
  | own m =>
    have ht':H t=some (.tup [.str (Str.ofString "own"),.int m]):=ht
    walk_at "ge"
    have:=k1 m rfl
    simpa using this
  | file z p =>
    have ht':H t=some (.tup [.str (Str.ofString "file"),.str z,.int p]):=ht
    walk_at "ge"
    have hne : ¬ Str.ofString "file" = Str.ofString "own" := by decide +kernel
    have:=k2 z p rfl
    simpa [hne] using this
def NB (cT cF cD cS cI:Addr):Sp:=λ vs H Q _ => ∃ (S:SS) (n i:Nat) (M:Cells),vs = [.ref S.b,.int (i:Nat)]/\Led H (bg cT cF cD cS cI S M)/\FA S.F n M/\S.bs.length=n/\i < n ∧ ∀ H',Led H' (bg cT cF cD cS cI (freed S i) M)->Q .aM H'
theorem Qj (D:Def K mg "free_frame" eL) (T:Txt K mg cU cA cB cC cT cF cD cS cI) (yE:aR P w K mg base 1 cF "empty" ["self","frame"] (Io cF)) (kH:aR P w K mg base 1 cD "clear" ["self","frame"] (yx cD false)):cQ P w K mg base 2 "free_frame" ["store","frame"] (NB cT cF cD cS cI):=by
 have sc:=n6
 refine D.ok n6 (λ vs H Q E h => ?_) (λ _ _ _ _ _ _ us hl=>match us,hl with | [_,_],_=>rfl) (λ f cdv A outer s H vs Q E hr h => ?_)
 ·obtain ⟨_,_,_,_,rfl,_⟩:=h;rfl
 ·obtain ⟨S,n,i,M,rfl,hL,g,hb,hi,k⟩:=h
  have f1:=fX S
  have f2:=pP S
  have gO:=hL.get St.b
  have hF:=St.toF hL
  have jr:=hF.get mS
  refine ⟨_,(@af _ _ _ _ _ (@cM _ _ _ _ (@aV _ _ _ _ _ _ _ _ _ _ _ _ _ _ _ _ T.Frames yE (hr.mono (by omega)) az (@aB _ _ _ _ _ _ _ T.bz T.bL (@aq _ 0 _ _ (by walk_at "v")) (by rfl)) (@aa _ _ _ _ _ (@aq _ 1 _ _ (by walk_at "v")) (@ak _) (by rfl)) (by rfl) (by rfl) (by rfl)) (by rfl)) (@ao _ _ _ (@cM _ _ _ _ (@aV _ _ _ _ _ _ _ _ _ _ _ _ _ _ _ _ T.kr kH (hr.mono (by omega)) az (@aB _ _ _ _ _ _ _ T.bz T.l7 (@aq _ 0 _ _ (by walk_at "v")) (by rfl)) (@aa _ _ _ _ _ (@aq _ 1 _ _ (by walk_at "v")) (@ak _) (by rfl)) (by rfl) (by rfl) (by rfl)) (by rfl)))),?_⟩
  refine aG λ M1 K1 => ?_
  walk_at "ge"
  refine ⟨S.F,n,i,_,rfl,hF,g.mono (λ c hc=>jl hc),hi,λ H1 hl1 => ?_⟩
  have hl2:=St.Tz (S:=S) (N:=[]) (F':=S.F.fill i none none false) rfl hl1
  clear hL hF hl1 jr gO
  have gO:=hl2.get St.b
  have hD:=St.toD hl2
  have KQ:=hD.get M7
  walk_at "ge"
  refine K1.use ?_
  walk_at "cl"
  clear K1
  walk_at "ge"
  have hb2:((i:Nat):Int) < (S.bs.length:Int):=by omega
  refine ⟨S.d,S.Lh,S.dm,(S.p:Int),((i:Nat):Int),S.bs,_,rfl,hD,by omega,hb2,λ H2 hl3 => ?_⟩
  rw [Int.toNat_natCast] at hl3
  have bZ:=St.ofD (S := { S with F:=S.F.fill i none none false }) (N:=[]) (p':=S.p) (bs':=S.bs.set i false) hl3
  walk_at "ge"
  exact k _ bZ
structure aU (S:SS) (n q:Nat) (M:Cells):Prop where
 f:FA S.F n M
 n1:1<=n
 n64:n<=64
 bl:S.bs.length=n
 pn:S.p < n
 rr : ∀ (i:Nat) (t:Addr) (a:Th),S.F.hs[i]? = some (some (t,a))->∃ (r:Addr) (row:List Int),S.F.rs[i]? = some (some (r,row))/\row.length=4
 inj : ∀ (i j:Nat) (t u:Addr) (a:Th),S.F.hs[i]? = some (some (t,a))->S.F.hs[j]? = some (some (u,a))->i=j
 pl:S.ps.length=q
 q6:q<=550
 pe : ∀ v∈S.ps,v = .aM ∨ ∃ m:Int,v = .int m
 nd:(S.es.map (·.1)).Nodup
 pk : ∀ m:Int,V.int m∈S.ps↔m∈S.es.map (·.1)
 pi : ∀ (i j:Nat) (m:Int),S.ps[i]? = some (.int m)->S.ps[j]? = some (.int m)->i=j
 ap : ∀ (i:Nat) (t:Addr) (m:Int),S.F.hs[i]? = some (some (t,Th.own m))->m ∉ S.es.map (·.1)
 er : ∀ e∈S.es,e.2.2.length=4
 fn:(S.fs.map (·.1)).Nodup
 fr : ∀ e∈S.fs,∀ r∈e.2.2,(r.1,HO.lst (r.2.map V.int))∈M/\r.2.length=4
 ff : ∀ (i:Nat) (t:Addr) (z:Str) (p:Int),S.F.hs[i]? = some (some (t,Th.file z p))->∃ e∈S.fs,∃ j:Nat,e.1=z/\p=j/\j < e.2.2.length
theorem aU.mono {S:SS} {n q:Nat} {M M':Cells} (g:aU S n q M) (s : ∀ c∈M,c∈M'):aU S n q M' := { g with f:=g.f.mono s,fr:=λ e he r hr=>⟨s _ (g.fr e he r hr).1,(g.fr e he r hr).2⟩ }
theorem aU.freed {S:SS} {n q:Nat} {M:Cells} (g:aU S n q M) (i:Nat):aU (freed S i) n q M:=by
 have old : ∀ (j:Nat) (x:Addr×Th),(S.F.hs.set i none)[j]? = some (some x)->S.F.hs[j]? = some (some x)/\i≠j:=λ j x h=>by
  rw [List.getElem?_set] at h
  split at h
  ·split at h
   ·cases h
   ·cases h
  ·exact ⟨h,by assumption⟩
 refine { g with f:=g.f.fill (λ t a e=>nomatch e) (λ t a e=>nomatch e),bl:=(List.length_set ..).trans g.bl,rr:=λ j t a h => ?_,inj:=λ j l t u a h1 h2=>g.inj j l t u a (old j _ h1).1 (old l _ h2).1,ap:=λ j t m h=>g.ap j t m (old j _ h).1,ff:=λ j t z p h=>g.ff j t z p (old j _ h).1 }
 obtain ⟨h1,h2⟩:=old j _ h
 obtain ⟨r,row,e,h4⟩:=g.rr j t a h1
 exact ⟨r,row,by show (S.F.rs.set i none)[j]? = _;rw [List.getElem?_set,if_neg h2];exact e,h4⟩
end
section
variable {P:Program} {w:World} {K:PySem.W.Frag} {mg:Str->Option Value} {base:Heap} {cU cA cB cC cT cF cD cS cI:Addr}
def PO (N:Cells) (S:SS) (i:Nat) (S':SS):Th->Prop
 | .own m => ∃ (r:Addr) (row:List Int) (b:Addr),S.F.rs[i]? = some (some (r,row))/\S' = freed { S with ps:=S.ps.set (idx S.ps .aM) (.int m),es:=S.es++[(m,b,row)] } i
 | .file z p => ∃ (r:Addr) (row:List Int),S.F.rs[i]? = some (some (r,row))/\((S.F.bs[i]? = some false/\S' = freed S i)\/(S.F.bs[i]? = some true ∧ ∃ (as bs:dj) (e:zq) (j:Nat) (nr:Addr),S.fs=as++e::bs/\e.1=z/\p=(j:Int)/\j < e.2.2.length/\(nr,HO.lst (row.map V.int))∈N/\S' = freed { S with fs:=as++(e.1,e.2.1,e.2.2.set j (nr,row))::bs } i))
theorem aU.flat {S:SS} {n q:Nat} {M:Cells} (g:aU S n q M):S.ps.all eX=true:=by
 rw [List.all_eq_true]
 intro v hv
 rcases g.pe v hv with rfl | ⟨m,rfl⟩ <;> rfl
theorem aU.HA {S:SS} {n q:Nat} {M:Cells} (g:aU S n q M) (h:p6 .aM S.ps=true):S.ps[idx S.ps .aM]? = some .aM:=by
 obtain ⟨v,hv,he⟩:=Dt h
 rcases g.pe v (List.mem_of_getElem? hv) with rfl | ⟨m,rfl⟩
 ·exact hv
 ·cases he
theorem aU.Qk {S:SS} {n q:Nat} {M:Cells} (g:aU S n q M):S.es.length<=q:=by
 have h1:(S.es.map (·.1)).length<=(S.ps.map λ v=>match v with | .int m=>m | _=>0).length:=by
  refine g.nd.length_le_of_subset λ m hm => ?_
  exact List.mem_map.mpr ⟨.int m,(g.pk m).mpr hm,rfl⟩
 rw [List.length_map,List.length_map,g.pl] at h1
 exact h1
theorem aU.NC {S:SS} {n q i:Nat} {M:Cells} {t b:Addr} {m:Int} {row:List Int} (g:aU S n q M) (hi:S.F.hs[i]? = some (some (t,.own m))) (hn:p6 .aM S.ps=true) (h4:row.length=4) :
  aU (My.freed { S with ps:=S.ps.set (idx S.ps .aM) (.int m),es:=S.es++[(m,b,row)] } i) n q M:=by
 have hat:=g.HA hn
 have hlt:idx S.ps .aM < S.ps.length:=(List.getElem?_eq_some_iff.mp hat).1
 have Nh:=g.ap i t m hi
 have hmp:V.int m ∉ S.ps:=λ h=>Nh ((g.pk m).mp h)
 have gf:=g.freed i
 have atS : ∀ (j:Nat) (v:V),(S.ps.set (idx S.ps .aM) (.int m))[j]? = some v->(j=idx S.ps .aM/\v = .int m)\/(j≠idx S.ps .aM/\S.ps[j]? = some v):=λ j v h=>by
  rw [List.getElem?_set] at h
  by_cases e:idx S.ps .aM=j
  ·rw [if_pos e,if_pos hlt] at h
   exact .inl ⟨e.symm,(Option.some.inj h).symm⟩
  ·rw [if_neg e] at h
   exact .inr ⟨λ q=>e q.symm,h⟩
 have old : ∀ (j:Nat) (x:Addr×Th),(S.F.hs.set i none)[j]? = some (some x)->S.F.hs[j]? = some (some x)/\i≠j:=λ j x h=>by
  rw [List.getElem?_set] at h
  split at h
  ·split at h
   ·cases h
   ·cases h
  ·exact ⟨h,by assumption⟩
 refine ⟨gf.f,gf.n1,gf.n64,gf.bl,gf.pn,gf.rr,gf.inj,(List.length_set ..).trans g.pl,g.q6,λ v hv => ?_,?_,λ k => ?_,λ j l k h1 h2 => ?_,λ j u k h => ?_,λ e he => ?_,g.fn,gf.fr,gf.ff⟩
 ·rcases List.mem_or_eq_of_mem_set hv with h | h
  ·exact g.pe v h
  ·exact .inr ⟨m,h⟩
 ·show ((S.es++[(m,b,row)]).map (·.1)).Nodup
  rw [List.map_append]
  refine List.nodup_append.mpr ⟨g.nd,by simp,λ x hx y hy e => ?_⟩
  rw [List.map_singleton,List.mem_singleton] at hy
  have hy':y=m:=hy
  exact Nh (hy' ▸ e ▸ hx)
 ·show V.int k∈S.ps.set (idx S.ps .aM) (.int m)↔k∈(S.es++[(m,b,row)]).map (·.1)
  rw [List.map_append,List.mem_append,List.map_singleton,List.mem_singleton,<-g.pk k]
  constructor
  ·intro h
   rcases List.mem_or_eq_of_mem_set h with h | h
   ·exact .inl h
   ·injection h with h;exact .inr h
  ·rintro (h | rfl)
   ·obtain ⟨j,hj⟩:=List.getElem?_of_mem h
    have hne:idx S.ps .aM≠j:=λ e=>by rw [<-e,hat] at hj;cases hj
    exact List.mem_of_getElem? (i:=j) (by rw [List.getElem?_set,if_neg hne];exact hj)
   ·exact List.mem_of_getElem? (i:=idx S.ps .aM) (by rw [List.getElem?_set,if_pos rfl,if_pos hlt])
 ·rcases atS j _ h1 with ⟨e1,e2⟩ | ⟨e1,e2⟩
  ·rcases atS l _ h2 with ⟨e3,e4⟩ | ⟨e3,e4⟩
   ·rw [e1,e3]
   ·injection e2 with e2;subst e2
    exact absurd (List.mem_of_getElem? e4) hmp
  ·rcases atS l _ h2 with ⟨e3,e4⟩ | ⟨e3,e4⟩
   ·injection e4 with e4;subst e4
    exact absurd (List.mem_of_getElem? e2) hmp
   ·exact g.pi j l k e2 e4
 ·obtain ⟨h1,h2⟩:=old j _ h
  show k ∉ (S.es++[(m,b,row)]).map (·.1)
  rw [List.map_append,List.mem_append,List.map_singleton,List.mem_singleton]
  rintro (h3 | rfl)
  ·exact g.ap j u k h1 h3
  ·exact h2 (g.inj i j t u _ hi h1)
 ·rcases List.mem_append.mp he with he | he
  ·exact g.er e he
  ·rw [List.mem_singleton.mp he];exact h4
theorem aU.stored {S:SS} {n q i:Nat} {M:Cells} {as bs:dj} {e:zq} {j:Nat} {nr:Addr} {row:List Int} (g:aU S n q M) (hf:S.fs=as++e::bs) (h4:row.length=4) (hn:(nr,HO.lst (row.map V.int))∈M) :
  aU (My.freed { S with fs:=as++(e.1,e.2.1,e.2.2.set j (nr,row))::bs } i) n q M:=by
 have gf:=g.freed i
 have keys:(as++(e.1,e.2.1,e.2.2.set j (nr,row))::bs).map (·.1)=S.fs.map (·.1):=by rw [hf];simp
 refine ⟨gf.f,gf.n1,gf.n64,gf.bl,gf.pn,gf.rr,gf.inj,g.pl,g.q6,g.pe,g.nd,g.pk,g.pi,gf.ap,g.er,?_,λ x hx r hr => ?_,λ l t z p h => ?_⟩
 ·show ((as++(e.1,e.2.1,e.2.2.set j (nr,row))::bs).map (·.1)).Nodup
  rw [keys];exact g.fn
 ·rcases List.mem_append.mp hx with hx | hx
  ·exact g.fr x (by rw [hf];exact mB hx) r hr
  ·rcases List.mem_cons.mp hx with rfl | hx
   ·rcases List.mem_or_eq_of_mem_set hr with h | rfl
    ·exact g.fr e (by rw [hf];exact mA mS) r h
    ·exact ⟨hn,h4⟩
   ·exact g.fr x (by rw [hf];exact mA (mC hx)) r hr
 ·obtain ⟨x,hx,k,h1,h2,h3⟩:=gf.ff l t z p h
  have hx':x∈as++e::bs:=by rw [<-hf];exact hx
  rcases List.mem_append.mp hx' with hx' | hx'
  ·exact ⟨x,mB hx',k,h1,h2,h3⟩
  ·rcases List.mem_cons.mp hx' with rfl | hx'
   ·exact ⟨_,mA mS,k,h1,h2,by show k < (x.2.2.set j (nr,row)).length;rw [List.length_set];exact h3⟩
   ·exact ⟨x,mA (mC hx'),k,h1,h2,h3⟩
theorem PO.mono {N N':Cells} {S S':SS} {i:Nat} {a:Th} (h:PO N S i S' a) (up : ∀ c∈N,c∈N'):PO N' S i S' a:=by
 cases a with
 | own m=>exact h
 | file z p =>
   obtain ⟨r,row,h1,h2⟩:=h
   refine ⟨r,row,h1,?_⟩
   rcases h2 with h2 | ⟨h2,as,bs,e,j,nr,h3,h4,h5,h6,h7,h8⟩
   ·exact .inl h2
   ·exact .inr ⟨h2,as,bs,e,j,nr,h3,h4,h5,h6,up _ h7,h8⟩
theorem aU.po {N:Cells} {S S':SS} {n q i:Nat} {M:Cells} {t:Addr} {a:Th} (g:aU S n q M) (hi:S.F.hs[i]? = some (some (t,a))) (hn : ∀ m,a = .own m->p6 .aM S.ps=true) (h:PO N S i S' a):aU S' n q (N++M):=by
 have up : ∀ c∈M,c∈N++M:=λ c hc=>mA hc
 obtain ⟨r0,jW,hr0,h40⟩:=g.rr i t a hi
 cases a with
 | own m =>
   obtain ⟨r,row,b,h1,rfl⟩:=h
   rw [hr0] at h1
   cases h1
   exact (g.NC hi (hn m rfl) h40).mono up
 | file z p =>
   obtain ⟨r,row,h1,h2⟩:=h
   rw [hr0] at h1
   cases h1
   rcases h2 with ⟨_,rfl⟩ | ⟨_,as,bs,e,j,nr,h3,h4,h5,h6,h7,rfl⟩
   ·exact (g.freed i).mono up
   ·exact (g.mono up).stored h3 h40 (mB h7)
def Fd (cT cF cD cS cI:Addr):Sp:=λ vs H Q _ => ∃ (S:SS) (n q i:Nat) (t:Addr) (a:Th) (M:Cells),vs = [.ref S.b,.int (i:Nat)]/\Led H (bg cT cF cD cS cI S M)/\aU S n q M/\S.F.hs[i]? = some (some (t,a))/\(∀ m,a = .own m->p6 .aM S.ps=true) ∧ ∀ (S':SS) (N:Cells) (H':Hp),PO N S i S' a->aU S' n q (N++M)->Led H' (bg cT cF cD cS cI S' (N++M))->Q .aM H'
theorem HB (D:Def K mg "put_out" iw) (T:Txt K mg cU cA cB cC cT cF cD cS cI) (qZ:aR P w K mg base 1 cF "thing_in" ["self","frame"] (BK cF)) (bS:aR P w K mg base 1 cF "row_in" ["self","frame"] (qW cF)) (b7:aR P w K mg base 1 cF "is_soiled" ["self","frame"] (qV cF)) (yF:aR P w K mg base 2 cS "put_on" ["self","sheet","row"] (Rv cS cU)) (q8:aR P w K mg base 4 cI "store_row" ["self","name","page","row"] (IA cI cA cB)) (iO:cQ P w K mg base 1 "is_sheet" ["thing"] ny) (Dw:cQ P w K mg base 2 "free_frame" ["store","frame"] (NB cT cF cD cS cI)):cQ P w K mg base 5 "put_out" ["store","frame"] (Fd cT cF cD cS cI):=by
 have sc:=wG
 refine D.Ep wG (λ vs H Q E h => ?_) (λ _ _ _ _ _ _ us hl=>match us,hl with | [_,_],_=>rfl) (λ f cdv A outer s H vs Q E hr h => ?_)
 ·obtain ⟨_,_,_,_,_,_,_,rfl,_⟩:=h;rfl
 ·obtain ⟨S,n,q,i,t,a,M,rfl,hL,g,hi,ID,k⟩:=h
  obtain ⟨r,row,A7,h4⟩:=g.rr i t a hi
  have hin:i < n:=by rw [<-g.f.h];exact (List.getElem?_eq_some_iff.mp hi).1
  obtain ⟨BL,Rx⟩:=g.f.th t a (List.mem_of_getElem? hi)
  have nM:=g.f.rw r row (List.mem_of_getElem? A7)
  have f1:=fX S
  have f2:=pP S
  have f3:=tH S
  have f4:=Dv S
  have gO:=hL.get St.b
  have hF:=St.toF hL
  have jr:=hF.get mS
  refine ⟨_,(@af _ _ _ _ _ (@aI _ _ 2 _ _ _ _ sc.nd rfl (by walk_at "o2") (@aV _ _ _ _ _ _ _ _ _ _ _ _ _ _ _ _ T.Frames qZ (hr.mono (by omega)) az (@aB _ _ _ _ _ _ _ T.bz T.bL (@aq _ 0 _ _ (by walk_at "v")) (by rfl)) (@aa _ _ _ _ _ (@aq _ 1 _ _ (by walk_at "v")) (@ak _) (by rfl)) (by rfl) (by rfl) (by rfl)) (by rfl) (by walk_at "o4")) (@af _ _ _ _ _ (@aI _ _ 3 _ _ _ _ sc.nd rfl (by walk_at "o2") (@aV _ _ _ _ _ _ _ _ _ _ _ _ _ _ _ _ T.Frames bS (hr.mono (by omega)) az (@aB _ _ _ _ _ _ _ T.bz T.bL (@aq _ 0 _ _ (by walk_at "v")) (by rfl)) (@aa _ _ _ _ _ (@aq _ 1 _ _ (by walk_at "v")) (@ak _) (by rfl)) (by rfl) (by rfl) (by rfl)) (by rfl) (by walk_at "o4")) (@af _ _ _ _ _ (@aS _ _ _ _ _ _ _ _ (@aZ _ _ _ (@aA _ _ _ _ _ _ _ _ _ _ _ iO (hr.mono (by omega)) (by rfl) az (@aa _ _ _ _ _ (@aq _ 2 _ _ (by walk_at "v")) (@ak _) (by rfl)) (by decide) (by rfl) (by rfl)) (by intro _;rfl)) (@ao _ _ _ (@cM _ _ _ _ (@aV _ _ _ _ _ _ _ _ _ _ _ _ _ _ _ _ T.fN yF (hr.mono (by omega)) kM (@aB _ _ _ _ _ _ _ T.bz T.ko (@aq _ 0 _ _ (by walk_at "v")) (by rfl)) (@aa _ _ _ _ _ (@aX _ _ _ _ _ _ _ aO (@aq _ 2 _ _ (by walk_at "v")) (@aj _ _ _ _) (λ _ _=>rfl)) (@aa _ _ _ _ _ (@aq _ 3 _ _ (by walk_at "v")) (@ak _) (by rfl)) (by rfl)) (by rfl) (by rfl) (by rfl)) (by rfl))) (@ao _ _ _ (@aS _ _ _ _ _ _ _ _ (@aZ _ _ _ (@aV _ _ _ _ _ _ _ _ _ _ _ _ _ _ _ _ T.Frames b7 (hr.mono (by omega)) az (@aB _ _ _ _ _ _ _ T.bz T.bL (@aq _ 0 _ _ (by walk_at "v")) (by rfl)) (@aa _ _ _ _ _ (@aq _ 1 _ _ (by walk_at "v")) (@ak _) (by rfl)) (by rfl) (by rfl) (by rfl)) (by intro _;rfl)) (@ao _ _ _ (@cM _ _ _ _ (@aV _ _ _ _ _ _ _ _ _ _ _ _ _ _ _ _ T.gS q8 (hr.mono (by omega)) kM (@aB _ _ _ _ _ _ _ T.bz T.qi (@aq _ 0 _ _ (by walk_at "v")) (by rfl)) (@aa _ _ _ _ _ (@aX _ _ _ _ _ _ _ aO (@aq _ 2 _ _ (by walk_at "v")) (@aj _ _ _ _) (λ _ _=>rfl)) (@aa _ _ _ _ _ (@aX _ _ _ _ _ _ _ aO (@aq _ 2 _ _ (by walk_at "v")) (@aj _ _ _ _) (λ _ _=>rfl)) (@aa _ _ _ _ _ (@aq _ 3 _ _ (by walk_at "v")) (@ak _) (by rfl)) (by rfl)) (by rfl)) (by rfl) (by rfl) (by rfl)) (by rfl))) (@aF _)))) (@ao _ _ _ (@cM _ _ _ _ (@aA _ _ _ _ _ _ _ _ _ _ _ Dw (hr.mono (by omega)) (by rfl) az (@aa _ _ _ _ _ (@aq _ 0 _ _ (by walk_at "v")) (@aa _ _ _ _ _ (@aq _ 1 _ _ (by walk_at "v")) (@ak _) (by rfl)) (by rfl)) (by decide) (by rfl) (by rfl)) (by rfl)))))),?_⟩
  refine aG λ M1 K1 => ?_
  walk_at "ge"
  refine ⟨S.F,i,some (t,a),_,rfl,hF,hi,?_⟩
  rw [show bq (some (t,a))=V.ref t from rfl]
  walk_at "ge"
  refine K1.use ?_
  walk_at "cl"
  clear K1
  refine aG λ M1 K1 => ?_
  walk_at "ge"
  refine ⟨S.F,i,r,row,_,rfl,hF,A7,jl nM,by omega,λ qr H1 hl1 => ?_⟩
  have hl2:Led H1 (ud cF S.F ([(qr,HO.lst (row.map V.int))]++rF cT cD cS cI S M)):=Led.perm hl1 (aP [(qr,HO.lst (row.map V.int))] (pR cF S.F) _)
  have hl3:=St.Tz (S:=S) (F':=S.F) rfl hl2
  have bZ:Led H1 (bg cT cF cD cS cI S ([(qr,HO.lst (row.map V.int))]++M)):=hl3
  clear hl1 hl2 hl3 hL hF gO jr
  walk_at "ge"
  refine K1.use ?_
  walk_at "cl"
  clear K1
  have up4 : ∀ c∈M,c∈[(qr,HO.lst (row.map V.int))]++M:=λ c hc=>mC hc
  have g4:=g.mono up4
  have yG:=bZ.get (St.up (up4 _ BL))
  have gO:=bZ.get St.b
  refine aG λ M1 K1 => ?_
  have rest : ∀ (S1:SS) (N:Cells) (H':Hp),S1.b=S.b->S1.bs.length=n->FA S1.F n (N++M)->PO N S i (freed S1 i) a->aU (freed S1 i) n q (N++M)->Led H' (bg cT cF cD cS cI S1 (N++M))->M1 [some (.ref S.b),some (.int (i:Nat)),some (.ref t),some (.ref qr)] H':=by
   intro S1 N H' e1 e2 e3 e4 e5 hl'
   refine K1.use ?_
   clear K1 bZ
   walk_at "ge"
   refine ⟨S1,n,i,_,by rw [e1];rfl,hl',e3,e2,hin,λ H2 hl2 => ?_⟩
   walk_at "ge"
   exact k _ _ _ e4 e5 hl2
  clear K1
  walk_at "ge"
  refine ⟨t,a,rfl,yG,λ m hm => ?_,λ z p hz => ?_⟩
  ·subst hm
   have ND:H1 t=some (.tup [.str (Str.ofString "own"),.int m]):=yG
   have hS:=St.toS bZ
   have dG:=hS.get Qf
   walk_at "ge"
   refine ⟨S.sb,S.Ny,S.sl,S.sd,qr,m,row,S.ps,S.es,_,rfl,hS,Wi mS,g.flat,g.ap i t m hi,by have:=g.Qk;have:=g.q6;omega,λ hn b H2 cN => ?_,λ hn=>absurd hn (by rw [ID m rfl];decide)⟩
   have cO:=St.ofS (S:=S) (N:=[]) (M:=[(qr,HO.lst (row.map V.int))]++M) cN
   walk_at "ge"
   exact rest { S with ps:=S.ps.set (idx S.ps .aM) (.int m),es:=S.es++[(m,b,row)] } _ _ rfl g.bl g4.f ⟨r,row,b,A7,rfl⟩ (g4.NC hi hn h4) cO
  ·subst hz
   have ND:H1 t=some (.tup [.str (Str.ofString "file"),.str z,.int p]):=yG
   have hF:=St.toF bZ
   have jr:=hF.get mS
   obtain ⟨so,hso⟩ : ∃ b,S.F.bs[i]? = some b:=⟨_,List.getElem?_eq_getElem (by rw [g.f.s];exact hin)⟩
   walk_at "ge"
   refine ⟨S.F,i,so,_,rfl,hF,hso,?_⟩
   cases so with
   | false =>
     walk_at "ge"
     exact rest S _ _ rfl g.bl g4.f ⟨r,row,A7,.inl ⟨hso,rfl⟩⟩ (g4.freed i) bZ
   | true =>
     obtain ⟨e,he,j,e1,e2,e3⟩:=g.ff i t z p hi
     have hI:=St.Wg bZ
     have Wj:=hI.get mS
     walk_at "ge"
     refine ⟨S.ib,S.ix,S.im,qr,S.fs,z,p,row,_,rfl,hI,g.fn,Nz mS,by omega,λ as bs e' hf he1 j' hj1 hj2 nr H2 cN => ?_,λ e' he' h1 h2 => ?_,λ hz=>absurd (List.mem_map.mpr ⟨e,he,e1⟩) hz⟩
     ·have cO:=St.ofI (S:=S) (N:=[(nr,HO.lst (row.map V.int))]) (M:=[(qr,HO.lst (row.map V.int))]++M) cN
      have g6:=g4.mono (M':=[(nr,HO.lst (row.map V.int))]++([(qr,HO.lst (row.map V.int))]++M)) λ c hc=>mC hc
      walk_at "ge"
      exact rest { S with fs:=as++(e'.1,e'.2.1,e'.2.2.set j' (nr,row))::bs } ([(nr,HO.lst (row.map V.int))]++[(qr,HO.lst (row.map V.int))]) _ rfl g.bl g6.f ⟨r,row,A7,.inr ⟨hso,as,bs,e',j',nr,hf,he1,hj1,hj2,mS,rfl⟩⟩ (g6.stored hf h4 mS) cO
     ·exfalso
      have:e' = e:=by
       have h3:=findF g.fn he
       have h5:=findF g.fn he'
       rw [h1,<-e1] at h5
       exact Option.some.inj (h5.symm.trans h3)
      subst this
      exact h2 ⟨by omega,by rw [e2];exact_mod_cast e3⟩
end
section
variable {P:Program} {w:World} {K:PySem.W.Frag} {mg:Str->Option Value} {base:Heap} {cU cA cB cC cT cF cD cS cI:Addr}
def aW:Th->Bool
 | .own _=>false
 | .file _ _=>true
def dh (S:SS):List Bool:=S.F.hs.map λ x=>match x with | some y=>aW y.2 || p6 .aM S.ps | none=>false
theorem kI {S:SS} {i:Nat} {t:Addr} {a:Th} (h:S.F.hs[i]? = some (some (t,a))):(dh S)[i]? = some (aW a || p6 .aM S.ps):=by unfold dh;rw [List.getElem?_map,h];rfl
theorem NF {vs:List V} {bs:List Bool} (hl:vs.length=bs.length) (h : ∀ (i:Nat) v,vs[i]? = some v->∃ b,bs[i]? = some b/\v = .bl b):vs=bs.map V.bl:=by
 refine List.ext_getElem? λ i => ?_
 rw [List.getElem?_map]
 by_cases hi:i < vs.length
 ·obtain ⟨b,hb,e⟩:=h i _ (List.getElem?_eq_getElem hi)
  rw [List.getElem?_eq_getElem hi,e,hb]
  rfl
 ·rw [List.getElem?_eq_none (by omega),List.getElem?_eq_none (by omega)]
  rfl
theorem aU.turned {S:SS} {n q:Nat} {M:Cells} (g:aU S n q M) {p:Nat} {bs:List Bool} (hp:p < n) (hb:bs.length=n):aU { S with p:=p,bs:=bs } n q M := { g with bl:=hb,pn:=hp }
def HC (cT cF cD cS cI cU:Addr):Sp:=λ vs H Q E => ∃ (S:SS) (n q:Nat) (M:Cells),vs = [.ref S.b]/\Led H (bg cT cF cD cS cI S M)/\aU S n q M ∧
 (∀ (i:Nat) (H':Hp),S.F.hs[i]? = some none->(∀ (j:Nat) z,j < i->S.F.hs[j]? = some z->z≠none)->Led H' (bg cT cF cD cS cI S M)->Q (.int (i:Nat)) H') ∧
 ((∀ z∈S.F.hs,z≠none)->∀ (f:Nat) (bs':List Bool) (t:Addr) (a:Th),DR (dh S) (2 * n) S.p S.bs=some (f,bs')->S.F.hs[f]? = some (some (t,a))->∀ (S':SS) (N:Cells) (H':Hp),PO N { S with p:=(f+1) % n,bs:=bs' } f S' a->aU S' n q (N++M)->Led H' (bg cT cF cD cS cI S' (N++M))->Q (.int (f:Nat)) H') ∧
 ((∀ z∈S.F.hs,z≠none)->true ∉ dh S->∀ (N:Cells) (H':Hp),Led H' (bg cT cF cD cS cI S (N++M))->E (.ref cU) none H')
theorem Ql (D:Def K mg "have_frame" eN) (B:iV mg) (T:Txt K mg cU cA cB cC cT cF cD cS cI) (nN:aR P w K mg base 2 cF "least_free" ["self"] (λ vs H Q E => ∃ b,vs = [.ref b]/\qX cF [.ref b,.aM] H Q E)) (dJ:aR P w K mg base 1 cF "things" ["self"] (qY cF)) (gM:aR P w K mg base 1 cS "is_full" ["self"] (Hv cS)) (A8:aR P w K mg base 1 cD "choose" ["self","may"] (E3 cD cU)) (iO:cQ P w K mg base 1 "is_sheet" ["thing"] ny) (KR:cQ P w K mg base 5 "put_out" ["store","frame"] (Fd cT cF cD cS cI)):cQ P w K mg base 6 "have_frame" ["store"] (HC cT cF cD cS cI cU):=by
 have sc:=n8
 refine D.Ep n8 (λ vs H Q E h => ?_) (λ _ _ _ _ _ _ us hl=>match us,hl with | [_],_=>rfl) (λ f cdv A outer s H vs Q E hr h => ?_)
 ·obtain ⟨_,_,_,_,rfl,_⟩:=h;rfl
 ·obtain ⟨S,n,q,M,rfl,hL,g,kf,kg,ke⟩:=h
  have hsz:=sizeLine_eq
  have f1:=fX S
  have f2:=pP S
  have f3:=tH S
  have gO:=hL.get St.b
  have hF:=St.toF hL
  have jr:=hF.get mS
  have gn:=g.n64
  refine ⟨_,(@af _ _ _ _ _ (@aI _ _ 1 _ _ _ _ sc.nd rfl (by walk_at "o2") (@dN _ _ _ _ _ _ _ _ _ _ _ _ _ T.Frames nN (hr.mono (by omega)) az (@aB _ _ _ _ _ _ _ T.bz T.bL (@aq _ 0 _ _ (by walk_at "v")) (by rfl)) (by rfl)) (by rfl) (by walk_at "o4")) (@af _ _ _ _ _ (@aS _ _ _ _ _ _ _ _ (@aK _ _ _ _ _ _ _ _ pY (@aq _ 1 _ _ (by walk_at "v")) (@bJ _ _ _) (aQ _)) (@ao _ _ _ (@aE _ _ _ _ (@aq _ 1 _ _ (by walk_at "v")))) (@aF _)) (@af _ _ _ _ _ (@aI _ _ 2 _ _ _ _ sc.nd rfl (by walk_at "o2") (@dN _ _ _ _ _ _ _ _ _ _ _ _ _ T.fN gM (hr.mono (by omega)) az (@aB _ _ _ _ _ _ _ T.bz T.ko (@aq _ 0 _ _ (by walk_at "v")) (by rfl)) (by rfl)) (by rfl) (by walk_at "o4")) (@af _ _ _ _ _ (@aI _ _ 3 _ _ _ _ sc.nd rfl (by walk_at "o2") (@aV _ _ _ _ _ _ _ _ _ _ _ _ _ _ _ _ T.kr A8 (hr.mono (by omega)) kM (@aB _ _ _ _ _ _ _ T.bz T.l7 (@aq _ 0 _ _ (by walk_at "v")) (by rfl)) (@aa _ _ _ _ _ (@kh _ _ "thing" _ _ _ _ _ _ _ _ _ rfl rfl rfl rfl Ri (cz (by kernel_rfl)) (@fK _ _ _ _ (@dN _ _ _ _ _ _ _ _ _ _ _ _ _ T.Frames dJ (hr.mono (by omega)) az (@aB _ _ _ _ _ _ _ T.bz T.bL (@aq _ 0 _ _ (by walk_at "v")) (by rfl)) (by rfl))) (λ _ _ _ _=>(@kc _)) (λ _ _ _ _=>(@Q0 _ _ _ _ _ _ _ (@FN _ _ _ _ (@aA _ _ _ _ _ _ _ _ _ _ _ iO (hr.mono (by omega)) (by rfl) az (@aa _ _ _ _ _ (@pk _ 0 _ _ (by kernel_rfl) (by kernel_rfl) (by decide) (by decide)) (@ak _) (by rfl)) (by decide) (by rfl) (by rfl))) (@lK _ _ _ _ _ (@FN _ _ _ _ (@pk _ 3 _ _ (by kernel_rfl) (by kernel_rfl) (by decide) (by decide)))))) (by intro _;rfl)) (@ak _) (by rfl)) (by rfl) (by rfl) (by rfl)) (by rfl) (by walk_at "o4")) (@af _ _ _ _ _ (@cM _ _ _ _ (@aA _ _ _ _ _ _ _ _ _ _ _ KR (hr.mono (by omega)) (by rfl) kM (@aa _ _ _ _ _ (@aq _ 0 _ _ (by walk_at "v")) (@aa _ _ _ _ _ (@aq _ 3 _ _ (by walk_at "v")) (@ak _) (by rfl)) (by rfl)) (by decide) (by rfl) (by rfl)) (by rfl)) (@ao _ _ _ (@aE _ _ _ _ (@aq _ 3 _ _ (by walk_at "v"))))))))),?_⟩
  refine aG λ M1 K1 => ?_
  walk_at "ge"
  have rest:(∀ z∈S.F.hs,z≠none)->M1 [some (.ref S.b),some .aM,none,none] H:=by
   intro hall
   refine K1.use ?_
   clear K1
   refine aG λ M1 K1 => ?_
   walk_at "ge"
   ·exact absurd (rfl:V.aM=V.aM) (by assumption)
   refine K1.use ?_
   walk_at "cl"
   clear K1
   have hS:=St.toS hL
   have dG:=hS.get Qf
   have yH:=hS.get XG
   refine aG λ M1 K1 => ?_
   walk_at "ge"
   refine ⟨S.sb,S.Ny,S.sl,S.sd,S.ps,rfl,dG,yH,g.flat,?_⟩
   walk_at "ge"
   refine K1.use ?_
   walk_at "cl"
   clear K1 hS dG yH
   have hD:=St.toD hL
   have KQ:=hD.get M7
   refine aG λ M1 K1 => ?_
   walk_at "ge"
   refine qb λ Lc kG => ?_
   walk_at "ge"
   refine ⟨S.F,_,rfl,hF,by rw [g.f.h];omega,λ qt H1 hl1 => ?_⟩
   refine ⟨qt,rfl,⟨_,fj.of (hl1.get mS)⟩,kG.use ?_⟩
   clear kG KQ gO jr hD hF
   have ml:(dh S).length=n:=by unfold dh;rw [List.length_map];exact g.f.h
   refine nj (S.F.hs.map bq) (λ i v C=>C = [] ∧ ∃ b,(dh S)[i]? = some b/\v = .bl b) hl1 List.mem_cons_self (by rw [List.length_map,g.f.h];omega) (λ i y H2 R N hy hl2 hR => ?_) (λ pm vs Cs H2 hv hc hG hl2 => ?_)
   ·rw [List.getElem?_map] at hy
    obtain ⟨x,hx,rfl⟩:=Option.map_eq_some_iff.mp hy
    cases x with
    | none=>exact absurd rfl (hall none (List.mem_of_getElem? hx))
    | some x =>
      have UG:=hl2.get (mA (mC (mC (mC (mC (mC (jl (g.f.th x.1 x.2 (List.mem_of_getElem? hx)).1)))))))
      have hm:=kI (t:=x.1) (a:=x.2) hx
      rw [show bq (some x)=V.ref x.1 from rfl]
      walk_at "ge"
      refine ⟨x.1,x.2,rfl,UG,λ m e => ?_,λ z p e => ?_⟩
      ·rw [e] at hm
       walk_at "ge"
       rw [Bool.not_not]
       exact hR _ _ [] ⟨rfl,_,hm,rfl⟩ hl2
      ·rw [e] at hm
       walk_at "ge"
       exact hR _ _ [] ⟨rfl,_,hm,rfl⟩ hl2
   ·rw [List.length_map,g.f.h] at hv hc
    have hvs:=NF (by rw [hv,ml]) λ i v hi=>by
     have hlt:i < Cs.length:=by have:=(List.getElem?_eq_some_iff.mp hi).1;omega
     exact (hG i v _ hi (List.getElem?_eq_getElem hlt)).2
    have hcs:Cs.flatten = []:=by
     rw [List.flatten_eq_nil_iff]
     intro C hC
     obtain ⟨i,hi⟩:=List.getElem?_of_mem hC
     have hlt:i < vs.length:=by have:=(List.getElem?_eq_some_iff.mp hi).1;omega
     exact (hG i _ C (List.getElem?_eq_getElem hlt) hi).1
    rw [hvs,hcs] at hl2
    have hl3:Led H2 (ud cF S.F ([(pm,HO.lst ((dh S).map V.bl)),(qt,HO.lst (S.F.hs.map bq))]++rF cT cD cS cI S M)):=Led.perm hl2 (aP [(pm,HO.lst ((dh S).map V.bl)),(qt,HO.lst (S.F.hs.map bq))] (pR cF S.F) _)
    have bZ:Led H2 (bg cT cF cD cS cI S ([(pm,HO.lst ((dh S).map V.bl)),(qt,HO.lst (S.F.hs.map bq))]++M)):=St.Tz (S:=S) (F':=S.F) rfl hl3
    clear hl2 hl3 hl1 hG hvs hcs hL
    have hD:=St.toD bZ
    have g1:=g.n1
    walk_at "ge"
    refine ⟨S.d,S.Lh,S.dm,pm,S.p,dh S,S.bs,_,rfl,hD,Wh mS,by rw [ml,g.bl],by rw [g.bl];omega,by rw [g.bl];omega,λ fr bs' H3 hgo cN => ?_,λ H3 hno cN => ?_⟩
    ·rw [ml] at hgo cN
     have cO:=St.ofD (S:=S) (N:=[]) (M:=[(pm,HO.lst ((dh S).map V.bl)),(qt,HO.lst (S.F.hs.map bq))]++M) cN
     obtain ⟨l1,l2,l3⟩:=qU _ _ _ hgo
     rw [ml] at l2
     have hfn:=l2 (by omega)
     obtain ⟨x,hx⟩ : ∃ x,S.F.hs[fr]? = some x:=⟨_,List.getElem?_eq_getElem (by rw [g.f.h];exact hfn)⟩
     cases x with
     | none=>exact absurd rfl (hall none (List.mem_of_getElem? hx))
     | some x =>
       have SW:=kI (t:=x.1) (a:=x.2) hx
       rw [List.getD_eq_getElem?_getD,SW] at l3
       walk_at "ge"
       refine K1.use ?_
       walk_at "cl"
       clear K1 cN hD bZ
       refine aG λ M1 K1 => ?_
       walk_at "ge"
       refine ⟨{ S with p:=(fr+1) % n,bs:=bs' },n,q,fr,x.1,x.2,_,rfl,cO,(g.turned (Nat.mod_lt _ (by omega)) (l1.trans g.bl)).mono (λ c hc=>List.mem_append_right [] (mA hc)),hx,λ m e => ?_,λ S' N H4 Li gk fH => ?_⟩
       ·rw [e] at l3
        exact l3
       ·walk_at "ge"
        refine K1.use ?_
        walk_at "cl"
        clear K1
        walk_at "ge"
        have e2:N++([(pm,HO.lst ((dh S).map V.bl)),(qt,HO.lst (S.F.hs.map bq))]++M)=(N++[(pm,HO.lst ((dh S).map V.bl)),(qt,HO.lst (S.F.hs.map bq))])++M:=(List.append_assoc _ _ _).symm
        have gk':aU S' n q (N++([(pm,HO.lst ((dh S).map V.bl)),(qt,HO.lst (S.F.hs.map bq))]++M)):=gk
        have Wk:Led H4 (bg cT cF cD cS cI S' (N++([(pm,HO.lst ((dh S).map V.bl)),(qt,HO.lst (S.F.hs.map bq))]++M))):=fH
        rw [e2] at gk' Wk
        exact kg hall fr bs' x.1 x.2 hgo hx S' _ _ (Li.mono λ c hc=>mB hc) gk' Wk
    ·have cO:=St.ofD (S:=S) (N:=[]) (M:=[(pm,HO.lst ((dh S).map V.bl)),(qt,HO.lst (S.F.hs.map bq))]++M) cN
     exact ke hall hno _ _ cO
  refine ⟨S.F.b,rfl,S.F,n,none,_,rfl,hF,g.f.mono (λ c hc=>jl hc),(λ t a e=>nomatch e),by omega,λ hno => ?_,λ j y h1 h2 h3 => ?_⟩
  ·walk_at "ge"
   exact rest λ z hz e=>hno z hz (by rw [e])
  ·walk_at "ge"
   refine K1.use ?_
   walk_at "cl"
   clear K1
   walk_at "ge"
   ·exact kf j _ (by rw [h1];cases y with | none=>rfl | some y=>cases h2) (λ m z hm hz e=>h3 m z hm hz (by rw [e])) hL
   ·exact nomatch (show V.int (j:Nat)=V.aM by assumption)
end
section
variable {P:Program} {w:World} {K:PySem.W.Frag} {mg:Str->Option Value} {base:Heap} {cU cA cB cC cT cF cD cS cI:Addr}
def A9 (hs:List (Int×Int)) (m c:Int):List (Int×Int):=hs.map λ e=>if e.1=m then (e.1,c) else e
theorem BN (hs:List (Int×Int)) (m c:Int):(A9 hs m c).map (·.1)=hs.map (·.1):=by
 unfold A9
 rw [List.map_map]
 refine List.map_congr_left λ e _ => ?_
 show (if e.1=m then (e.1,c) else e).1=e.1
 split <;> rfl
theorem NG {hs:List (Int×Int)} {m:Int} (h:m ∉ hs.map (·.1)):bx (FD hs) (.inl m)=none:=by
 induction hs with
 | nil=>rfl
 | cons e hs ih =>
   rw [List.map_cons,List.mem_cons,not_or] at h
   have hne : ¬ (Sum.inl e.1:Key) = .inl m:=λ z=>h.1 (Sum.inl.inj z).symm
   show bx ((Sum.inl e.1,V.int e.2)::FD hs) (.inl m)=none
   rw [bH (p:=(Sum.inl e.1,V.int e.2)) hne]
   exact ih h.2
theorem Qm {hs:List (Int×Int)} {m:Int} (c:Int) (h:m ∉ hs.map (·.1)):putK (FD hs) (.inl m) (.int c)=FD (hs++[(m,c)]):=by
 unfold putK
 rw [if_neg]
 ·unfold FD;rw [List.map_append];rfl
 ·rw [dI,NG h];exact Bool.false_ne_true
theorem St.push {H:Hp} {S:SS} {M:Cells} {c:Addr×HO} (h:Led H (c::bg cT cF cD cS cI S M)):Led H (bg cT cF cD cS cI S (c::M)):=by
 have e : ∀ X:Cells,bg cT cF cD cS cI S X=(zb cT S++(pR cF S.F++(E9 cD S++(Fb cS S++Du cI S))))++X:=λ X=>by unfold bg;simp only [List.append_assoc]
 rw [e] at h ⊢
 exact Led.perm h List.perm_middle.symm
theorem St.A9 {H:Hp} {S:SS} {M:Cells} (h:Led H (bg cT cF cD cS cI S M)) (hs':List (Int×Int)):Led (upd H S.ho (.dK (FD hs'))) (bg cT cF cD cS cI { S with hs:=hs' } M):=by
 have h1:Led H ((S.b,.ins cT S.dx (Hy S))::(S.ho,.dK (FD S.hs))::(pR cF S.F++(E9 cD S++(Fb cS S++(Du cI S++M))))):=h
 exact (Led.put (o' := .dK (FD hs')) h1.swap rfl rfl).swap
theorem St.ada {H:Hp} {S:SS} {M:Cells} (h:Led H (bg cT cF cD cS cI S M)) (k:Int):Led (upd H S.b (.ins cT S.dx (dg (Str.ofString "sheets_made") (.int k) (Hy S)))) (bg cT cF cD cS cI { S with made:=k } M):=by
 have h1:Led H ((S.b,.ins cT S.dx (Hy S))::(S.ho,.dK (FD S.hs))::(pR cF S.F++(E9 cD S++(Fb cS S++(Du cI S++M))))):=h
 exact Led.put (o' := .ins cT S.dx (Hy { S with made:=k })) h1 rfl rfl
def NH (cT cF cD cS cI:Addr):Sp:=λ vs H Q _ => ∃ (S:SS) (n q:Nat) (M:Cells),vs = [.ref S.b]/\Led H (bg cT cF cD cS cI S M)/\S.F.hs.length=n/\n<=64/\S.ps.length=q/\q<=550/\S.hs.length<=600 ∧ ∀ (N:Cells) (H':Hp),Led H' (bg cT cF cD cS cI S (N++M))->Q (.int ((n:Int) - 1+(q:Int) - (S.hs.length:Int))) H'
theorem Qn (D:Def K mg "room_of" iz) (B:iV mg) (T:Txt K mg cU cA cB cC cT cF cD cS cI) (dJ:aR P w K mg base 1 cF "things" ["self"] (qY cF)) (iP:aR P w K mg base 1 cS "sheets" ["self"] (yz cS)):cQ P w K mg base 2 "room_of" ["store"] (NH cT cF cD cS cI):=by
 have sc:=wI
 refine D.ok wI (λ vs H Q E h => ?_) (λ _ _ _ _ _ _ us hl=>match us,hl with | [_],_=>rfl) (λ f cdv A outer s H vs Q E hr h => ?_)
 ·obtain ⟨_,_,_,_,rfl,_⟩:=h;rfl
 ·obtain ⟨S,n,q,M,rfl,hL,hn,h64,hq,ahv,hh,k⟩:=h
  have hsz:=sizeLine_eq
  have f1:=fX S
  have f3:=tH S
  have f5:=Hz S
  have gO:=hL.get St.b
  have hF:=St.toF hL
  have jr:=hF.get mS
  refine ⟨_,(@af _ _ _ _ _ (@aI _ _ 1 _ _ _ _ sc.nd rfl (by walk_at "o2") (@av _ _ _ _ _ _ _ _ aT (@av _ _ _ _ _ _ _ _ fL (@aH _ _ _ _ _ _ _ _ _ aL (by rfl) B.len bw (@aa _ _ _ _ _ (@dN _ _ _ _ _ _ _ _ _ _ _ _ _ T.Frames dJ (hr.mono (by omega)) az (@aB _ _ _ _ _ _ _ T.bz T.bL (@aq _ 0 _ _ (by walk_at "v")) (by rfl)) (by rfl)) (@ak _) (by rfl)) (by decide) (by decide) (by rfl) (by rfl)) (@aj _ _ _ _)) (@aH _ _ _ _ _ _ _ _ _ aL (by rfl) B.len bw (@aa _ _ _ _ _ (@dN _ _ _ _ _ _ _ _ _ _ _ _ _ T.fN iP (hr.mono (by omega)) az (@aB _ _ _ _ _ _ _ T.bz T.ko (@aq _ 0 _ _ (by walk_at "v")) (by rfl)) (by rfl)) (@ak _) (by rfl)) (by decide) (by decide) (by rfl) (by rfl))) (by rfl) (by walk_at "o4")) (@ao _ _ _ (@aE _ _ _ _ (@av _ _ _ _ _ _ _ _ fL (@aq _ 1 _ _ (by walk_at "v")) (@aH _ _ _ _ _ _ _ _ _ aL (by rfl) B.len bw (@aa _ _ _ _ _ (@aB _ _ _ _ _ _ _ T.bz T.rJ (@aq _ 0 _ _ (by walk_at "v")) (by rfl)) (@ak _) (by rfl)) (by decide) (by decide) (by rfl) (by rfl)))))),?_⟩
  refine aG λ M1 K1 => ?_
  walk_at "ge"
  refine ⟨S.F,_,rfl,hF,by omega,λ qt H1 hl1 => ?_⟩
  have hl2:Led H1 (ud cF S.F ([(qt,HO.lst (S.F.hs.map bq))]++rF cT cD cS cI S M)):=Led.perm hl1 (aP [(qt,HO.lst (S.F.hs.map bq))] (pR cF S.F) _)
  have UH:=hl1.get mS
  have hl3:Led H1 (bg cT cF cD cS cI S ([(qt,HO.lst (S.F.hs.map bq))]++M)):=St.Tz (S:=S) (F':=S.F) rfl hl2
  clear hl1 hl2 hF jr gO hL
  have gO:=hl3.get St.b
  have hS:=St.toS hl3
  have dG:=hS.get Qf
  have yH:=hS.get XG
  walk_at "ge"
  refine ⟨S.sb,S.Ny,S.sl,S.sd,S.ps,_,rfl,hl3,dG,yH,λ r H2 bZ => ?_⟩
  walk_at "ge"
  have cN:=St.push bZ
  clear hl3 bZ hS dG yH gO UH
  have gO:=cN.get St.b
  have Ir:=cN.get St.ho
  refine K1.use ?_
  walk_at "cl"
  clear K1
  walk_at "ge"
  have e1:(FD S.hs).length=S.hs.length:=by unfold FD;exact List.length_map ..
  have e2:(S.F.hs.map bq).length=n:=by rw [List.length_map];exact hn
  have:=k [(r,HO.lst S.ps),(qt,HO.lst (S.F.hs.map bq))] _ cN
  rw [e1,e2,hq]
  exact this
end
section
variable {P:Program} {w:World} {K:PySem.W.Frag} {mg:Str->Option Value} {base:Heap} {cU cA cB cC cT cF cD cS cI:Addr}
theorem Qo {v:V} {m:Int} (hv:v = .aM ∨ ∃ k:Int,v = .int k) (h:B5 v (.int m)=true):v = .int m:=by
 rcases hv with rfl | ⟨k,rfl⟩
 ·cases h
 ·have:decide (k=m)=true:=h
  rw [of_decide_eq_true this]
theorem aU.int_at {S:SS} {n q:Nat} {M:Cells} (g:aU S n q M) {m:Int} (h:p6 (.int m) S.ps=true):S.ps[idx S.ps (.int m)]? = some (.int m):=by
 obtain ⟨v,hv,he⟩:=Dt h
 rw [hv,Qo (g.pe v (List.mem_of_getElem? hv)) he]
theorem aU.NI {S:SS} {n q:Nat} {M:Cells} {m:Int} (g:aU S n q M) (hin:p6 (.int m) S.ps=true) :
  aU { S with ps:=S.ps.set (idx S.ps (.int m)) .aM,es:=S.es.filter λ x=>decide (x.1≠m) } n q M:=by
 have hat:=g.int_at hin
 have hlt:idx S.ps (.int m) < S.ps.length:=(List.getElem?_eq_some_iff.mp hat).1
 have atS : ∀ (j:Nat) (k:Int),(S.ps.set (idx S.ps (.int m)) .aM)[j]? = some (.int k)->j≠idx S.ps (.int m)/\S.ps[j]? = some (.int k):=λ j k h=>by
  rw [List.getElem?_set] at h
  by_cases e:idx S.ps (.int m)=j
  ·rw [if_pos e,if_pos hlt] at h
   cases h
  ·rw [if_neg e] at h
   exact ⟨λ z=>e z.symm,h⟩
 refine { g with pl:=(List.length_set ..).trans g.pl,pe:=λ v hv => ?_,nd := ?_,pk:=λ k => ?_,pi:=λ i j k h1 h2=>g.pi i j k (atS i k h1).2 (atS j k h2).2,ap:=λ i t k h hk => ?_,er:=λ e he=>g.er e (List.mem_filter.mp he).1 }
 ·rcases List.mem_or_eq_of_mem_set hv with h | h
  ·exact g.pe v h
  ·exact .inl h
 ·exact g.nd.sublist (List.Sublist.map _ List.filter_sublist)
 ·show V.int k∈S.ps.set (idx S.ps (.int m)) .aM↔k∈(S.es.filter λ x=>decide (x.1≠m)).map (·.1)
  constructor
  ·intro h
   obtain ⟨j,hj⟩:=List.getElem?_of_mem h
   obtain ⟨h1,h2⟩:=atS j k hj
   obtain ⟨e,he,rfl⟩:=List.mem_map.mp ((g.pk k).mp (List.mem_of_getElem? h2))
   refine List.mem_map.mpr ⟨e,List.mem_filter.mpr ⟨he,decide_eq_true λ z=>h1 ?_⟩,rfl⟩
   rw [z] at h2
   exact g.pi j _ m h2 hat
  ·intro h
   obtain ⟨e,he,rfl⟩:=List.mem_map.mp h
   obtain ⟨he,hne⟩:=List.mem_filter.mp he
   obtain ⟨j,hj⟩:=List.getElem?_of_mem ((g.pk e.1).mpr (List.mem_map.mpr ⟨e,he,rfl⟩))
   have hjn:idx S.ps (.int m)≠j:=λ z=>by
    rw [<-z,hat] at hj
    injection hj with hj
    injection hj with hj
    exact of_decide_eq_true hne hj.symm
   refine List.mem_of_getElem? (i:=j) ?_
   rw [List.getElem?_set,if_neg hjn]
   exact hj
 ·obtain ⟨e,he,e2⟩:=List.mem_map.mp hk
  exact g.ap i t k h (List.mem_map.mpr ⟨e,(List.mem_filter.mp he).1,e2⟩)
end
section
variable {P:Program} {w:World} {K:PySem.W.Frag} {mg:Str->Option Value} {base:Heap} {cU cA cB cC cT cF cD cS cI:Addr}
def Lies (S:SS) (m:Int):Prop:=(∃ (i:Nat) (t:Addr),S.F.hs[i]? = some (some (t,Th.own m)))\/m∈S.es.map (·.1)
theorem PO.hs {N:Cells} {S S':SS} {i:Nat} {a:Th} (h:PO N S i S' a):S'.F.hs=S.F.hs.set i none/\S'.hs=S.hs/\S'.made=S.made/\S'.b=S.b/\S'.ho=S.ho:=by
 cases a with
 | own m=>obtain ⟨r,row,b,_,rfl⟩:=h;exact ⟨rfl,rfl,rfl,rfl,rfl⟩
 | file z p =>
   obtain ⟨r,row,_,h⟩:=h
   rcases h with ⟨_,rfl⟩ | ⟨_,as,bs,e,j,nr,_,_,_,_,_,rfl⟩
   ·exact ⟨rfl,rfl,rfl,rfl,rfl⟩
   ·exact ⟨rfl,rfl,rfl,rfl,rfl⟩
theorem PO.es {N:Cells} {S S':SS} {i:Nat} {a:Th} (h:PO N S i S' a):S'.es.map (·.1)=S.es.map (·.1)++(match a with | .own m=>[m] | .file _ _=>[]):=by
 cases a with
 | own m=>obtain ⟨r,row,b,_,rfl⟩:=h;show (S.es++[(m,b,row)]).map (·.1)=_;rw [List.map_append];rfl
 | file z p =>
   obtain ⟨r,row,_,h⟩:=h
   rcases h with ⟨_,rfl⟩ | ⟨_,as,bs,e,j,nr,_,_,_,_,_,rfl⟩
   ·exact (List.append_nil _).symm
   ·exact (List.append_nil _).symm
theorem PO.lies {N:Cells} {S S':SS} {i:Nat} {a:Th} {t:Addr} (hi:S.F.hs[i]? = some (some (t,a))) (h:PO N S i S' a) (k:Int):Lies S' k↔Lies S k:=by
 have hlt:i < S.F.hs.length:=(List.getElem?_eq_some_iff.mp hi).1
 unfold Lies
 rw [h.es,h.hs.1,List.mem_append]
 constructor
 ·rintro (⟨j,u,hj⟩ | hk | hk)
  ·rw [List.getElem?_set] at hj
   by_cases e:i=j
   ·subst e
    rw [if_pos rfl,if_pos hlt] at hj
    cases hj
   ·rw [if_neg e] at hj
    exact .inl ⟨j,u,hj⟩
  ·exact .inr hk
  ·cases a with
   | own m=>rw [List.mem_singleton.mp hk];exact .inl ⟨i,t,hi⟩
   | file z p=>cases hk
 ·rintro (⟨j,u,hj⟩ | hk)
  ·by_cases e:i=j
   ·subst e
    rw [hi] at hj
    cases hj
    exact .inr (.inr mS)
   ·exact .inl ⟨j,u,by rw [List.getElem?_set,if_neg e];exact hj⟩
  ·exact .inr (.inl hk)
def gG (N:Cells) (S:SS) (n i:Nat) (S1:SS):Prop :=
 (S.F.hs[i]? = some none/\(∀ (j:Nat) z,j < i->S.F.hs[j]? = some z->z≠none)/\S1=S) ∨
 ((∀ z∈S.F.hs,z≠none) ∧ ∃ (bs':List Bool) (t:Addr) (a:Th),DR (dh S) (2 * n) S.p S.bs=some (i,bs')/\S.F.hs[i]? = some (some (t,a))/\PO N { S with p:=(i+1) % n,bs:=bs' } i S1 a)
theorem gG.lies {N:Cells} {S S1:SS} {n i:Nat} (h:gG N S n i S1) (k:Int):Lies S1 k↔Lies S k:=by
 rcases h with ⟨_,_,rfl⟩ | ⟨_,bs',t,a,_,hi,h⟩
 ·exact Iff.rfl
 ·exact PO.lies (S := { S with p:=(i+1) % n,bs:=bs' }) hi h k
theorem gG.at {N:Cells} {S S1:SS} {n i:Nat} (h:gG N S n i S1):S1.F.hs[i]? = some none/\S1.hs=S.hs/\S1.made=S.made/\S1.b=S.b/\S1.ho=S.ho:=by
 rcases h with ⟨h,_,rfl⟩ | ⟨_,bs',t,a,_,hi,h⟩
 ·exact ⟨h,rfl,rfl,rfl,rfl⟩
 ·refine ⟨?_,h.hs.2⟩
  have hlt:i < S.F.hs.length:=(List.getElem?_eq_some_iff.mp hi).1
  rw [h.hs.1]
  show (S.F.hs.set i none)[i]? = _
  rw [List.getElem?_set,if_pos rfl,if_pos hlt]
theorem gG.mono {N N':Cells} {S S1:SS} {n i:Nat} (h:gG N S n i S1) (up : ∀ c∈N,c∈N'):gG N' S n i S1:=by
 rcases h with h | ⟨h,bs',t,a,h1,h2,h3⟩
 ·exact .inl h
 ·exact .inr ⟨h,bs',t,a,h1,h2,h3.mono up⟩
theorem aU.had {N:Cells} {S S1:SS} {n q i:Nat} {M:Cells} (g:aU S n q M) (h:gG N S n i S1):aU S1 n q (N++M):=by
 rcases h with ⟨_,_,rfl⟩ | ⟨_,bs',t,a,hgo,hi,h⟩
 ·exact g.mono λ c hc=>mA hc
 ·obtain ⟨l1,l2,l3⟩:=qU _ _ _ hgo
  have n1:=g.n1
  refine aU.po (S := { S with p:=(i+1) % n,bs:=bs' }) (g.turned (Nat.mod_lt _ (by omega)) (l1.trans g.bl)) hi (λ m e => ?_) h
  rw [List.getD_eq_getElem?_getD,kI hi,e] at l3
  exact l3
theorem aU.filled {S:SS} {n q i:Nat} {M:Cells} (g:aU S n q M) {t r:Addr} {m k:Int} {row:List Int} {hs':List (Int×Int)} (ht:(t,HO.tup (eV (.own m)))∈M) (hr:(r,HO.lst (row.map V.int))∈M) (h4:row.length=4) (hn : ¬ Lies S m) :
  aU { S with made:=k,hs:=hs',F:=S.F.fill i (some (t,.own m)) (some (r,row)) false } n q M:=by
 have old : ∀ (j:Nat) (x:Addr×Th),(S.F.hs.set i (some (t,.own m)))[j]? = some (some x)->(j=i/\x=(t,.own m))\/(i≠j/\S.F.hs[j]? = some (some x)):=λ j x h=>by
  rw [List.getElem?_set] at h
  split at h
  ·split at h
   ·cases h
    exact .inl ⟨by omega,rfl⟩
   ·cases h
  ·exact .inr ⟨by assumption,h⟩
 refine { g with f:=g.f.fill (λ t' a e=>by cases e;exact ⟨ht,True.intro⟩) (λ t' a e=>by cases e;exact hr),rr:=λ j u a h => ?_,inj:=λ j l u v a h1 h2 => ?_,ap:=λ j u k h => ?_,ff:=λ j u z p h => ?_ }
 ·rcases old j _ h with ⟨rfl,_⟩ | ⟨h1,h2⟩
  ·have hlt:j < S.F.rs.length:=by
    have h5:=(List.getElem?_eq_some_iff.mp h).1
    have h6:(S.F.hs.set j (some (t,.own m))).length=n:=(List.length_set ..).trans g.f.h
    rw [g.f.r,<-h6]
    exact h5
   exact ⟨r,row,by show (S.F.rs.set j _)[j]? = _;rw [List.getElem?_set,if_pos rfl,if_pos hlt],h4⟩
  ·obtain ⟨r',gm,e,h5⟩:=g.rr j u a h2
   exact ⟨r',gm,by show (S.F.rs.set i _)[j]? = _;rw [List.getElem?_set,if_neg h1];exact e,h5⟩
 ·rcases old j _ h1 with ⟨e1,x1⟩ | ⟨n1,o1⟩
  ·rcases old l _ h2 with ⟨e2,_⟩ | ⟨n2,o2⟩
   ·rw [e1,e2]
   ·cases x1
    exact absurd (.inl ⟨l,v,o2⟩) hn
  ·rcases old l _ h2 with ⟨e2,x2⟩ | ⟨n2,o2⟩
   ·cases x2
    exact absurd (.inl ⟨j,u,o1⟩) hn
   ·exact g.inj j l u v a o1 o2
 ·rcases old j _ h with ⟨_,x⟩ | ⟨_,o⟩
  ·cases x
   exact λ z=>hn (.inr z)
  ·exact g.ap j u k o
 ·rcases old j _ h with ⟨_,x⟩ | ⟨_,o⟩
  ·cases x
  ·exact g.ff j u z p o
def NJ (cT cF cD cS cI cU:Addr):Sp:=λ vs H Q E => ∃ (S:SS) (n q:Nat) (r0:Addr) (row:List Int) (M:Cells),vs = [.ref S.b,.ref r0]/\Led H (bg cT cF cD cS cI S M)/\aU S n q M/\(r0,HO.lst (row.map V.int))∈M/\row.length=4/\S.hs.length<=600 ∧ ¬ Lies S (S.made+1)/\S.made+1 ∉ S.hs.map (·.1) ∧
 ((n:Int) - 1+(q:Int) - (S.hs.length:Int)=0->∀ (N:Cells) (H':Hp),Led H' (bg cT cF cD cS cI S (N++M))->E (.ref cU) none H') ∧
 ((n:Int) - 1+(q:Int) - (S.hs.length:Int)≠0->(∀ z∈S.F.hs,z≠none)->true ∉ dh S->False) ∧
 ((n:Int) - 1+(q:Int) - (S.hs.length:Int)≠0->∀ (i:Nat) (S1:SS) (t r p:Addr) (N:Cells) (H':Hp),gG N S n i S1->(t,HO.tup (eV (.own (S.made+1))))∈N->(r,HO.lst (row.map V.int))∈N->aU { S1 with made:=S.made+1,hs:=S.hs++[(S.made+1,1)],F:=S1.F.fill i (some (t,.own (S.made+1))) (some (r,row)) false } n q (N++M)->(p,HO.tup [.int (S.made+1),.int (i:Nat)])∈N->Led H' (bg cT cF cD cS cI { S1 with made:=S.made+1,hs:=S.hs++[(S.made+1,1)],F:=S1.F.fill i (some (t,.own (S.made+1))) (some (r,row)) false } (N++M))->Q (.ref p) H')
theorem TH (D:Def K mg "new_sheet" fB) (B:iV mg) (T:Txt K mg cU cA cB cC cT cF cD cS cI) (jt:aR P w K mg base 1 cF "fill" ["self","frame","thing","row"] (Ht cF)) (KS:cQ P w K mg base 2 "room_of" ["store"] (NH cT cF cD cS cI)) (kJ:cQ P w K mg base 6 "have_frame" ["store"] (HC cT cF cD cS cI cU)):cQ P w K mg base 7 "new_sheet" ["store","row"] (NJ cT cF cD cS cI cU):=by
 have sc:=qe
 refine D.Ep qe (λ vs H Q E h => ?_) (λ _ _ _ _ _ _ us hl=>match us,hl with | [_,_],_=>rfl) (λ f cdv A outer s H vs Q E hr h => ?_)
 ·obtain ⟨_,_,_,_,_,_,rfl,_⟩:=h;rfl
 ·obtain ⟨S,n,q,r0,row,M,rfl,hL,g,nM,h4,hh,Wl,Nh,ke,kn,k⟩:=h
  have hu:=gF hr
  have hsz:=sizeLine_eq
  refine ⟨_,(@af _ _ _ _ _ (@aS _ _ _ _ _ _ _ _ (@aK _ _ _ _ _ _ _ _ b9 (@aA _ _ _ _ _ _ _ _ _ _ _ KS (hr.mono (by omega)) (by rfl) az (@aa _ _ _ _ _ (@aq _ 0 _ _ (by walk_at "v")) (@ak _) (by rfl)) (by decide) (by rfl) (by rfl)) (@aj _ _ _ _) (aQ _)) (@ao _ _ _ (@jx _ _ _ _ _ _ _ _ _ _ _ _ _ _ _ _ _ _ _ _ _ _ T.Full (by rfl) (@aa _ _ _ _ _ (@bV _ _ _ _) (@ak _) (by rfl)) (by decide) (by rfl))) (@aF _)) (@af _ _ _ _ _ (@aI _ _ 2 _ _ _ _ sc.nd rfl (by walk_at "o2") (@aA _ _ _ _ _ _ _ _ _ _ _ kJ (hr.mono (by omega)) (by rfl) kM (@aa _ _ _ _ _ (@aq _ 0 _ _ (by walk_at "v")) (@ak _) (by rfl)) (by decide) (by rfl) (by rfl)) (by rfl) (by walk_at "o4")) (@af _ _ _ _ _ (@aI _ _ 3 _ _ _ _ sc.nd rfl (by walk_at "o2") (@av _ _ _ _ _ _ _ _ aT (@aB _ _ _ _ _ _ _ T.bz T.jq (@aq _ 0 _ _ (by walk_at "v")) (by rfl)) (@aj _ _ _ _)) (by rfl) (by walk_at "o4")) (@af _ _ _ _ _ (@cR _ _ _ _ _ _ _ _ _ _ T.bz T.jq (@aq _ 0 _ _ (by walk_at "v")) (@aq _ 3 _ _ (by walk_at "v")) (by rfl)) (@af _ _ _ _ _ (@gX _ _ _ _ _ _ _ _ _ hu (@aB _ _ _ _ _ _ _ T.bz T.rJ (@aq _ 0 _ _ (by walk_at "v")) (by rfl)) (@aq _ 3 _ _ (by walk_at "v")) (@aj _ _ _ _) rfl) (@af _ _ _ _ _ (@cM _ _ _ _ (@aV _ _ _ _ _ _ _ _ _ _ _ _ _ _ _ _ T.Frames jt (hr.mono (by omega)) az (@aB _ _ _ _ _ _ _ T.bz T.bL (@aq _ 0 _ _ (by walk_at "v")) (by rfl)) (@aa _ _ _ _ _ (@aq _ 2 _ _ (by walk_at "v")) (@aa _ _ _ _ _ (@dS _ _ _ _ _ (@aa _ _ _ _ _ (@bV _ _ _ _) (@aa _ _ _ _ _ (@aq _ 3 _ _ (by walk_at "v")) (@ak _) (by rfl)) (by rfl))) (@aa _ _ _ _ _ (@aq _ 1 _ _ (by walk_at "v")) (@ak _) (by rfl)) (by rfl)) (by rfl)) (by rfl) (by rfl) (by rfl)) (by rfl)) (@ao _ _ _ (@aE _ _ _ _ (@dS _ _ _ _ _ (@aa _ _ _ _ _ (@aq _ 3 _ _ (by walk_at "v")) (@aa _ _ _ _ _ (@aq _ 2 _ _ (by walk_at "v")) (@ak _) (by rfl)) (by rfl))))))))))),?_⟩
  refine aG λ M1 K1 => ?_
  walk_at "ge"
  refine ⟨S,n,q,M,rfl,hL,g.f.h,g.n64,g.pl,g.q6,hh,λ N1 H1 hl1 => ?_⟩
  have g1:aU S n q (N1++M):=g.mono λ c hc=>mA hc
  walk_at "ge"
  ·refine oO λ R hR => ?_
   walk_at "ge"
   exact ⟨by decide,ke (by assumption) N1 _ hl1⟩
  ·have hroom:(n:Int) - 1+(q:Int) - (S.hs.length:Int)≠0:=by assumption
   refine K1.use ?_
   walk_at "cl"
   clear K1
   refine aG λ M1 K1 => ?_
   have rest : ∀ (i:Nat) (S1:SS) (N:Cells) (H2:Hp),gG N S n i S1->aU S1 n q (N++(N1++M))->Led H2 (bg cT cF cD cS cI S1 (N++(N1++M)))->M1 [some (.ref S.b),some (.ref r0),some (.int (i:Nat)),none] H2:=by
    intro i S1 N H2 Ba gk hl2
    rw [show N++(N1++M)=(N++N1)++M from (List.append_assoc _ _ _).symm] at gk hl2
    obtain ⟨h0,Ry,UI,eb,eho⟩:=Ba.at
    have hi:i < n:=by have:=(List.getElem?_eq_some_iff.mp h0).1;rw [gk.f.h] at this;exact this
    have nl : ¬ Lies S1 (S.made+1):=λ z=>Wl ((Ba.lies _).mp z)
    refine K1.use ?_
    clear K1
    have f6:=TF S1
    have f5:=Hz S1
    have gO:=hl2.get St.b
    rw [<-eb]
    refine aG λ M1 K1 => ?_
    walk_at "ge"
    refine K1.use ?_
    walk_at "cl"
    clear K1
    rw [UI]
    refine aG λ M1 K1 => ?_
    walk_at "ge"
    have hl3:=St.ada hl2 (S.made+1)
    generalize upd H2 S1.b (HO.ins cT S1.dx (dg (Str.ofString "sheets_made") (V.int (S.made+1)) (Hy S1)))=H3 at hl3 ⊢
    refine K1.use ?_
    walk_at "cl"
    clear K1 gO hl2 f5 f6
    have f5:=Hz { S1 with made:=S.made+1 }
    have gO:=hl3.get St.b
    have Ir:=hl3.get St.ho
    refine aG λ M1 K1 => ?_
    walk_at "ge"
    have adb:S.made+1 ∉ S1.hs.map (·.1):=by rw [Ry];exact Nh
    refine Rp Ir (by unfold FD;rw [List.length_map];show S1.hs.length < _;rw [Ry];omega) ?_
    rw [Qm _ adb]
    have bZ:=St.A9 hl3 (S1.hs++[(S.made+1,1)])
    obtain ⟨S3,Wm⟩ : ∃ S3:SS,S3 = { S1 with made:=S.made+1,hs:=S1.hs++[(S.made+1,1)] } := ⟨_,rfl⟩
    have cN:Led (upd H3 S1.ho (HO.dK (FD (S1.hs++[(S.made+1,1)])))) (bg cT cF cD cS cI S3 ((N++N1)++M)):=by rw [Wm];exact bZ
    have g3:aU S3 n q ((N++N1)++M):=by rw [Wm];exact { gk with }
    have eb3:S1.b=S3.b:=by rw [Wm]
    clear bZ hl3 gO Ir f5
    walk_at "ge"
    refine K1.use ?_
    walk_at "cl"
    clear K1
    generalize upd H3 S1.ho (HO.dK (FD (S1.hs++[(S.made+1,1)])))=H4 at cN ⊢
    rw [eb3]
    have f1:=fX S3
    have gO:=cN.get St.b
    have hF:=St.toF cN
    have jr:=hF.get mS
    refine aG λ M1 K1 => ?_
    walk_at "ge"
    rename_i t H5 _ cO _ _ _
    have fH:Led H5 (ud cF S3.F ([(t,HO.tup (eV (.own (S.made+1))))]++rF cT cD cS cI S3 ((N++N1)++M))):=Led.perm cO (aP [(t,HO.tup (eV (.own (S.made+1))))] (pR cF S3.F) _)
    clear cO hF gO jr cN
    refine ⟨S3.F,n,i,t,r0,.own (S.made+1),row,_,rfl,fH,g3.f.mono (λ c hc=>mA (jl hc)),hi,mA (jl (mA nM)),by omega,λ r H6 jS => ?_⟩
    have ic:Led H6 (bg cT cF cD cS cI { S3 with F:=S3.F.fill i (some (t,.own (S.made+1))) (some (r,row)) false } ([(r,HO.lst (row.map V.int)),(t,HO.tup (eV (.own (S.made+1))))]++((N++N1)++M))):=St.Tz (S:=S3) rfl jS
    have nl3 : ¬ Lies S3 (S.made+1):=by rw [Wm];exact nl
    have g4:=(g3.mono (M':=[(r,HO.lst (row.map V.int)),(t,HO.tup (eV (.own (S.made+1))))]++((N++N1)++M)) λ c hc=>mA hc).filled (i:=i) (t:=t) (r:=r) (m:=S.made+1) (k:=S.made+1) (row:=row) (hs':=S3.hs) (mC mS) mS h4 nl3
    clear fH jS
    walk_at "ge"
    refine K1.use ?_
    walk_at "cl"
    clear K1
    walk_at "ge"
    rename_i p H7 _ fu _
    have dD:=St.push fu
    have g5:=g4.mono (M':=(p,HO.tup [V.int (S.made+1),V.int (i:Nat)])::([(r,HO.lst (row.map V.int)),(t,HO.tup (eV (.own (S.made+1))))]++((N++N1)++M))) λ c hc=>mC hc
    subst Wm
    rw [Ry] at g5 dD
    exact k hroom i S1 t r p ((p,HO.tup [V.int (S.made+1),V.int (i:Nat)])::(r,HO.lst (row.map V.int))::(t,HO.tup (eV (.own (S.made+1))))::(N++N1)) H7 (Ba.mono λ c hc=>mC (mC (mC (mB hc)))) (mC (mC mS)) (mC mS) g5 mS dD
   walk_at "ge"
   refine ⟨S,n,q,_,rfl,hl1,g1,λ i H2 h1 h2 hl2 => ?_,λ hall i bs' t a hgo hi S1 N H2 Li gk hl2 => ?_,λ hall hno N H2 hl2=>(kn hroom hall hno).elim⟩
   ·walk_at "ge"
    exact rest i S [] H2 (.inl ⟨h1,h2,rfl⟩) g1 hl2
   ·walk_at "ge"
    exact rest i S1 N H2 (.inr ⟨hall,bs',t,a,hgo,hi,Li⟩) gk hl2
end
section
variable {P:Program} {w:World} {K:PySem.W.Frag} {mg:Str->Option Value} {base:Heap} {cU cA cB cC cT cF cD cS cI:Addr}
def S0 (b dx fr Bb l r s di Dy mk sh DT pl rd fi DU fd ho:Addr) (n q:Nat):SS := { b:=b,dx:=dx,F:=FS.new fr Bb l r s n,d:=di,Lh:=Dy,dm:=mk,p:=0,bs:=List.replicate n false,sb:=sh,Ny:=DT,sl:=pl,sd:=rd,ps:=List.replicate q .aM,es:=[],ib:=fi,ix:=DU,im:=fd,fs:=[],ho:=ho,hs:=[],made:=0 }
def IE (cT cF cD cS cI:Addr):Sp:=λ vs H Q _ => ∃ (b dx:Addr) (n q:Nat) (L:Cells),vs = [.ref b,.int (n:Nat),.int (q:Nat)]/\Led H ((b,.ins cT dx [])::L)/\n<=64/\q<=550 ∧ ∀ fr Bb l r s di Dy mk sh DT pl rd fi DU fd ho H',Led H' (bg cT cF cD cS cI (S0 b dx fr Bb l r s di Dy mk sh DT pl rd fi DU fd ho n q) L)->Q .aM H'
theorem TJ {α : Type} (fi sh di fr L:List α):(fi++(sh++(di++(fr++L)))).Perm (fr++(di++(sh++(fi++L)))) :=
 (((List.Perm.append_left fi (List.Perm.append_left sh (aP di fr L))).trans (List.Perm.append_left fi (aP sh fr _))).trans (aP fi fr _)).trans (List.Perm.append_left fr (((List.Perm.append_left fi (aP sh di L)).trans (aP fi di _)).trans (List.Perm.append_left di (aP fi sh L))))
theorem NK (D:oM K cT "Store.__init__" eK) (T:Txt K mg cU cA cB cC cT cF cD cS cI) (NL:iW P w K mg base 1 cF ["self","many"] (Im cF)) (TL:iW P w K mg base 1 cD ["self","many"] (Ip cD)) (Qp:iW P w K mg base 1 cS ["self","many"] (Iv cS)) (Qq:iW P w K mg base 1 cI ["self"] (Iz cI)):iW P w K mg base 3 cT ["self","many","places"] (IE cT cF cD cS cI):=by
 have sc:=n5
 refine D.ok n5 (λ vs H Q E h => ?_) (λ _ _ _ _ _ _ us hl=>match us,hl with | [_,_,_],_=>rfl) (λ f cdv A outer s H vs Q E hr h => ?_)
 ·obtain ⟨_,_,_,_,_,rfl,_⟩:=h;rfl
 ·obtain ⟨b,dx,n,q,L,rfl,hL,n64,q6,k⟩:=h
  refine ⟨_,(@af _ _ _ _ _ (@cR _ _ _ _ _ _ _ _ _ _ T.bz T.bL (@aq _ 0 _ _ (by walk_at "v")) (@qa _ _ _ _ _ _ _ _ _ _ _ _ T.Frames NL (hr.mono (by omega)) (by rfl) az (@aa _ _ _ _ _ (@aq _ 1 _ _ (by walk_at "v")) (@ak _) (by rfl)) (by decide) (by rfl) (by rfl)) (by rfl)) (@af _ _ _ _ _ (@cR _ _ _ _ _ _ _ _ _ _ T.bz T.l7 (@aq _ 0 _ _ (by walk_at "v")) (@qa _ _ _ _ _ _ _ _ _ _ _ _ T.kr TL (hr.mono (by omega)) (by rfl) az (@aa _ _ _ _ _ (@aq _ 1 _ _ (by walk_at "v")) (@ak _) (by rfl)) (by decide) (by rfl) (by rfl)) (by rfl)) (@af _ _ _ _ _ (@cR _ _ _ _ _ _ _ _ _ _ T.bz T.ko (@aq _ 0 _ _ (by walk_at "v")) (@qa _ _ _ _ _ _ _ _ _ _ _ _ T.fN Qp (hr.mono (by omega)) (by rfl) az (@aa _ _ _ _ _ (@aq _ 2 _ _ (by walk_at "v")) (@ak _) (by rfl)) (by decide) (by rfl) (by rfl)) (by rfl)) (@af _ _ _ _ _ (@cR _ _ _ _ _ _ _ _ _ _ T.bz T.qi (@aq _ 0 _ _ (by walk_at "v")) (@Jz _ _ _ _ _ _ _ _ _ T.gS Qq (hr.mono (by omega)) (by rfl) az (by decide)) (by rfl)) (@af _ _ _ _ _ (@cR _ _ _ _ _ _ _ _ _ _ T.bz T.rJ (@aq _ 0 _ _ (by walk_at "v")) (@vY _ _) (by rfl)) (@ao _ _ _ (@cR _ _ _ _ _ _ _ _ _ _ T.bz T.jq (@aq _ 0 _ _ (by walk_at "v")) (@aj _ _ _ _) (by rfl)))))))),?_⟩
  refine aG λ M1 K1 => ?_
  walk_at "ge"
  intro fr Bb z1 z2 z3
  refine ⟨fr,Bb,n,_,rfl,hL.make z1 z2 z3,by omega,λ l r s' H1 hl1=>⟨rfl,?_⟩⟩
  clear z1 z2 z3 hL
  have hl2:Led H1 ((b,.ins cT dx [])::(pR cF (FS.new fr Bb l r s' n)++L)):=Led.perm hl1 (List.perm_middle (l₁ := pR cF (FS.new fr Bb l r s' n)))
  have hl3:Led (upd H1 b (.ins cT dx (dg (Str.ofString "frames") (V.ref fr) []))) ((b,.ins cT dx [("frames",.ref fr)])::_):=hl2.put rfl rfl
  clear hl1
  walk_at "ge"
  refine K1.use ?_
  walk_at "cl"
  clear K1 hl2
  generalize upd H1 b (.ins cT dx (dg (Str.ofString "frames") (V.ref fr) []))=H2 at hl3 ⊢
  refine aG λ M1 K1 => ?_
  walk_at "ge"
  intro di Dy z1 z2 z3
  refine ⟨di,Dy,(n:Int),_,rfl,hl3.make z1 z2 z3,by omega,by omega,λ mk H3 bZ=>⟨rfl,?_⟩⟩
  clear z1 z2 z3 hl3
  rw [Int.toNat_natCast] at bZ
  have cN:Led H3 ((b,.ins cT dx [("frames",.ref fr)])::(f9 cD di Dy mk 0 (List.replicate n false)++(pR cF (FS.new fr Bb l r s' n)++L))):=Led.perm bZ List.perm_middle
  have cO:Led (upd H3 b (.ins cT dx (dg (Str.ofString "dial") (V.ref di) [("frames",.ref fr)]))) ((b,.ins cT dx [("frames",.ref fr),("dial",.ref di)])::_):=cN.put rfl rfl
  clear bZ
  walk_at "ge"
  refine K1.use ?_
  walk_at "cl"
  clear K1 cN
  generalize upd H3 b (.ins cT dx (dg (Str.ofString "dial") (V.ref di) [("frames",.ref fr)]))=H4 at cO ⊢
  refine aG λ M1 K1 => ?_
  walk_at "ge"
  intro sh DT z1 z2 z3
  refine ⟨sh,DT,(q:Int),_,rfl,cO.make z1 z2 z3,by omega,by omega,λ pl rd H5 fH=>⟨rfl,?_⟩⟩
  clear z1 z2 z3 cO
  rw [Int.toNat_natCast] at fH
  have jS:Led H5 ((b,.ins cT dx [("frames",.ref fr),("dial",.ref di)])::(A6 cS sh DT pl rd (List.replicate q .aM) []++(f9 cD di Dy mk 0 (List.replicate n false)++(pR cF (FS.new fr Bb l r s' n)++L)))):=Led.perm fH List.perm_middle
  have ic:Led (upd H5 b (.ins cT dx (dg (Str.ofString "shelf") (V.ref sh) [("frames",.ref fr),("dial",.ref di)]))) ((b,.ins cT dx [("frames",.ref fr),("dial",.ref di),("shelf",.ref sh)])::_):=jS.put rfl rfl
  clear fH
  walk_at "ge"
  refine K1.use ?_
  walk_at "cl"
  clear K1 jS
  generalize upd H5 b (.ins cT dx (dg (Str.ofString "shelf") (V.ref sh) [("frames",.ref fr),("dial",.ref di)]))=H6 at ic ⊢
  refine aG λ M1 K1 => ?_
  walk_at "ge"
  intro fi DU z1 z2 z3
  refine ⟨fi,DU,_,rfl,ic.make z1 z2 z3,λ fd H7 fu=>⟨rfl,?_⟩⟩
  clear z1 z2 z3 ic
  have dD:Led H7 ((b,.ins cT dx [("frames",.ref fr),("dial",.ref di),("shelf",.ref sh)])::(((fi,.ins cI DU (jj fd))::(fd,.dK (za []))::oR [])++(A6 cS sh DT pl rd (List.replicate q .aM) []++(f9 cD di Dy mk 0 (List.replicate n false)++(pR cF (FS.new fr Bb l r s' n)++L))))):=Led.perm fu (List.perm_middle (l₁ := (fi,HO.ins cI DU (jj fd))::(fd,.dK (za []))::oR []))
  have d8:Led (upd H7 b (.ins cT dx (dg (Str.ofString "files") (V.ref fi) [("frames",.ref fr),("dial",.ref di),("shelf",.ref sh)]))) ((b,.ins cT dx [("frames",.ref fr),("dial",.ref di),("shelf",.ref sh),("files",.ref fi)])::_):=dD.put rfl rfl
  clear fu
  walk_at "ge"
  refine K1.use ?_
  walk_at "cl"
  clear K1 dD
  generalize upd H7 b (.ins cT dx (dg (Str.ofString "files") (V.ref fi) [("frames",.ref fr),("dial",.ref di),("shelf",.ref sh)]))=H8 at d8 ⊢
  refine aG λ M1 K1 => ?_
  walk_at "ge"
  rename_i ho H9 _ gp _
  have lF:Led (upd H9 b (.ins cT dx (dg (Str.ofString "holders") (V.ref ho) [("frames",.ref fr),("dial",.ref di),("shelf",.ref sh),("files",.ref fi)]))) ((b,.ins cT dx [("frames",.ref fr),("dial",.ref di),("shelf",.ref sh),("files",.ref fi),("holders",.ref ho)])::_):=(gp.swap).put rfl rfl
  refine K1.use ?_
  walk_at "cl"
  clear K1 gp d8
  generalize upd H9 b (.ins cT dx (dg (Str.ofString "holders") (V.ref ho) [("frames",.ref fr),("dial",.ref di),("shelf",.ref sh),("files",.ref fi)]))=Mf at lF ⊢
  walk_at "ge"
  have yI:=lF.put (o' := .ins cT dx (Hy (S0 b dx fr Bb l r s' di Dy mk sh DT pl rd fi DU fd ho n q))) rfl rfl
  exact k fr Bb l r s' di Dy mk sh DT pl rd fi DU fd ho _ (Led.perm yI (List.Perm.cons _ (List.Perm.cons _ (TJ _ _ _ _ _))))
end
section
variable {P:Program} {w:World} {K:PySem.W.Frag} {mg:Str->Option Value} {base:Heap} {cU cA cB cC cT cF cD cS cI:Addr}
structure FE (S:SS) (n q:Nat):Prop where
 nd:(S.hs.map (·.1)).Nodup
 le : ∀ e∈S.hs,1<=e.1/\e.1<=S.made
 c1 : ∀ e∈S.hs,1<=e.2
 Rz : ∀ m,m∈S.hs.map (·.1)↔Lies S m
 most:S.hs.length<=n - 1+q
 m0:0<=S.made
theorem FE.key {S:SS} {n q:Nat} (g:FE S n q):S.made+1 ∉ S.hs.map (·.1):=λ h=>by
 obtain ⟨e,he,e1⟩:=List.mem_map.mp h
 have:=(g.le e he).2
 have e2:e.1=S.made+1:=e1
 omega
theorem FE.fresh {S:SS} {n q:Nat} (g:FE S n q) : ¬ Lies S (S.made+1):=λ h=>g.key ((g.Rz _).mpr h)
def ownOf:Hd->Int
 | some (_,.own m)=>m
 | _=>0
def intOf:V->Int
 | .int m=>m
 | _=>0
theorem FE.BO {S:SS} {n q:Nat} {M:Cells} (g:aU S n q M) (h:FE S n q) (hall : ∀ z∈S.F.hs,z≠none) (hno:true ∉ dh S):False:=by
 have own : ∀ (i:Nat) (z:Hd),S.F.hs[i]? = some z->∃ t m,z=some (t,Th.own m)/\p6 .aM S.ps=false:=λ i z hz=>by
  cases z with
  | none=>exact absurd rfl (hall none (List.mem_of_getElem? hz))
  | some x =>
    have hm:=kI (t:=x.1) (a:=x.2) hz
    have hf:(aW x.2 || p6 .aM S.ps)=false:=by
     cases hb:(aW x.2 || p6 .aM S.ps) with
     | false=>rfl
     | true=>rw [hb] at hm;exact absurd (List.mem_of_getElem? hm) hno
    obtain ⟨t,a⟩:=x
    cases a with
    | own m=>exact ⟨t,m,rfl,(Bool.or_eq_false_iff.mp hf).2⟩
    | file z p=>cases (Bool.or_eq_false_iff.mp hf).1
 have n1:=g.n1
 obtain ⟨_,_,_,ID⟩:=own 0 _ (List.getElem?_eq_getElem (by rw [g.f.h];omega))
 have nums : ∀ (i:Nat) (v:V),S.ps[i]? = some v->∃ m,v = .int m:=λ i v hv=>by
  rcases g.pe v (List.mem_of_getElem? hv) with rfl | h
  ·have:p6 .aM S.ps=true:=List.any_eq_true.mpr ⟨.aM,List.mem_of_getElem? hv,rfl⟩
   rw [this] at ID
   cases ID
  ·exact h
 have sub : ∀ m∈S.F.hs.map ownOf++S.ps.map intOf,m∈S.hs.map (·.1):=λ m hm=>by
  refine (h.Rz m).mpr ?_
  rcases List.mem_append.mp hm with hm | hm
  ·obtain ⟨z,hz,rfl⟩:=List.mem_map.mp hm
   obtain ⟨i,hi⟩:=List.getElem?_of_mem hz
   obtain ⟨t,m,rfl,_⟩:=own i z hi
   exact .inl ⟨i,t,hi⟩
  ·obtain ⟨v,hv,rfl⟩:=List.mem_map.mp hm
   obtain ⟨i,hi⟩:=List.getElem?_of_mem hv
   obtain ⟨m,rfl⟩:=nums i v hi
   exact .inr ((g.pk m).mp hv)
 have nd:(S.F.hs.map ownOf++S.ps.map intOf).Nodup:=by
  refine List.nodup_append.mpr ⟨?_,?_,?_⟩
  ·refine List.pairwise_iff_getElem.mpr λ i j hi hj hij e => ?_
   rw [List.length_map] at hi hj
   rw [List.getElem_map,List.getElem_map] at e
   obtain ⟨t,m,e1,_⟩:=own i _ (List.getElem?_eq_getElem hi)
   obtain ⟨u,k,e2,_⟩:=own j _ (List.getElem?_eq_getElem hj)
   rw [e1,e2] at e
   have e':m=k:=e
   have:=g.inj i j t u (.own m) (by rw [List.getElem?_eq_getElem hi,e1]) (by rw [List.getElem?_eq_getElem hj,e2,e'])
   omega
  ·refine List.pairwise_iff_getElem.mpr λ i j hi hj hij e => ?_
   rw [List.length_map] at hi hj
   rw [List.getElem_map,List.getElem_map] at e
   obtain ⟨m,e1⟩:=nums i _ (List.getElem?_eq_getElem hi)
   obtain ⟨k,e2⟩:=nums j _ (List.getElem?_eq_getElem hj)
   rw [e1,e2] at e
   have e':m=k:=e
   have:=g.pi i j m (by rw [List.getElem?_eq_getElem hi,e1]) (by rw [List.getElem?_eq_getElem hj,e2,e'])
   omega
  ·intro a ha b hb e
   obtain ⟨z,hz,rfl⟩:=List.mem_map.mp ha
   obtain ⟨v,hv,rfl⟩:=List.mem_map.mp hb
   obtain ⟨i,hi⟩:=List.getElem?_of_mem hz
   obtain ⟨j,hj⟩:=List.getElem?_of_mem hv
   obtain ⟨t,m,rfl,_⟩:=own i z hi
   obtain ⟨k,rfl⟩:=nums j v hj
   have e':m=k:=e
   rw [<-e'] at hv
   exact g.ap i t m hi ((g.pk m).mp hv)
 have:=nd.length_le_of_subset sub
 rw [List.length_append,List.length_map,List.length_map,List.length_map,g.f.h,g.pl] at this
 have:=h.most
 omega
theorem FE.count {S:SS} {n q:Nat} (g:FE S n q) {m c:Int} (hc:1<=c):FE { S with hs:=A9 S.hs m c } n q:=by
 have Wn : ∀ e∈A9 S.hs m c,∃ d∈S.hs,e.1=d.1/\(e.2=c\/e=d):=λ e he=>by
  obtain ⟨d,hd,rfl⟩:=List.mem_map.mp he
  refine ⟨d,hd,?_⟩
  by_cases z:d.1=m
  ·rw [if_pos z];exact ⟨rfl,.inl rfl⟩
  ·rw [if_neg z];exact ⟨rfl,.inr rfl⟩
 refine ⟨by show ((A9 S.hs m c).map (·.1)).Nodup;rw [BN];exact g.nd,λ e he => ?_,λ e he => ?_,λ k => ?_,?_,g.m0⟩
 ·obtain ⟨d,hd,e1,_⟩:=Wn e he
  rw [e1]
  exact g.le d hd
 ·obtain ⟨d,hd,_,e2 | e2⟩:=Wn e he
  ·rw [e2];exact hc
  ·rw [e2];exact g.c1 d hd
 ·show k∈(A9 S.hs m c).map (·.1)↔_
  rw [BN]
  exact g.Rz k
 ·show (A9 S.hs m c).length<=_
  unfold A9
  rw [List.length_map]
  exact g.most
theorem FE.IF {N:Cells} {S S1:SS} {n q i:Nat} {M:Cells} {t r:Addr} {row:List Int} (g:FE S n q) (h:gG N S n i S1) (gs:aU S n q M) (hr:(n:Int) - 1+(q:Int) - (S.hs.length:Int)≠0):FE { S1 with made:=S.made+1,hs:=S.hs++[(S.made+1,1)],F:=S1.F.fill i (some (t,.own (S.made+1))) (some (r,row)) false } n q:=by
 have n1:=gs.n1
 have m0:=g.m0
 have hm:=g.most
 have h0:=h.at.1
 have hlt:=(List.getElem?_eq_some_iff.mp h0).1
 refine ⟨?_,λ e he => ?_,λ e he => ?_,λ k => ?_,?_,?_⟩
 ·show ((S.hs++[((S.made+1,1):Int×Int)]).map (λ e:Int×Int=>e.1)).Nodup
  rw [List.map_append]
  refine List.nodup_append.mpr ⟨g.nd,by simp,λ x hx y hy e => ?_⟩
  have hy':y=S.made+1:=by simpa using hy
  exact g.key (hy' ▸ e ▸ hx)
 ·show 1<=e.1/\e.1<=S.made+1
  rcases List.mem_append.mp he with he | he
  ·have:=g.le e he;omega
  ·rw [List.mem_singleton.mp he];show 1<=S.made+1/\S.made+1<=S.made+1;omega
 ·rcases List.mem_append.mp he with he | he
  ·exact g.c1 e he
  ·rw [List.mem_singleton.mp he];exact Int.le_refl 1
 ·show k∈(S.hs++[((S.made+1,1):Int×Int)]).map (λ e:Int×Int=>e.1)↔_
  rw [List.map_append,List.mem_append,g.Rz k,<-h.lies k]
  unfold Lies
  show _↔(∃ (j:Nat) (u:Addr),(S1.F.hs.set i (some (t,.own (S.made+1))))[j]? = some (some (u,Th.own k)))\/k∈S1.es.map (·.1)
  constructor
  ·rintro ((⟨j,u,hj⟩ | hk) | hk)
   ·refine .inl ⟨j,u,?_⟩
    have:i≠j:=λ z=>by rw [<-z,h0] at hj;cases hj
    rw [List.getElem?_set,if_neg this]
    exact hj
   ·exact .inr hk
   ·have hk':k=S.made+1:=by simpa using hk
    refine .inl ⟨i,t,?_⟩
    rw [List.getElem?_set,if_pos rfl,if_pos hlt,hk']
  ·rintro (⟨j,u,hj⟩ | hk)
   ·by_cases z:i=j
    ·rw [List.getElem?_set,if_pos z,if_pos hlt] at hj
     cases hj
     exact .inr mS
    ·rw [List.getElem?_set,if_neg z] at hj
     exact .inl (.inl ⟨j,u,hj⟩)
   ·exact .inl (.inr hk)
 ·show (S.hs++[(S.made+1,1)]).length<=_
  rw [List.length_append]
  show S.hs.length+1<=_
  omega
 ·show 0<=S.made+1
  omega
end
section
variable {P:Program} {w:World} {K:PySem.W.Frag} {mg:Str->Option Value} {base:Heap} {cU cA cB cC cT cF cD cS cI:Addr}
def Dz (cI cA cB:Addr):Sp:=λ vs H Q E => ∃ (b dx d:Addr) (es:dj) (z:Str) (p:Int) (L:Cells),vs = [.ref b,.str z,.int p]/\Led H L/\FH cI H b dx d es/\(∀ e∈es,∀ r∈e.2.2,H r.1=some (.lst (r.2.map V.int))/\r.2.length<=600)/\(∀ e∈es,e.1=z->∀ (j:Nat) r,p=((j:Nat):Int)->e.2.2[j]? = some r->∀ q H',Led H' ((q,.lst (r.2.map V.int))::L)->Q (.ref q) H')/\(∀ e∈es,e.1=z->¬ (0<=p/\p < e.2.2.length)->E (.ref cB) none H)/\(z ∉ es.map (·.1)->E (.ref cA) none H)
theorem KU (D:bM K cI "row_at" "Files.row_at" cZ) (B:iV mg) (T:Txt K mg cU cA cB cC cT cF cD cS cI) (gj:aR P w K mg base 3 cI "ask_page" ["self","name","page"] (Hw cI cA cB)):aR P w K mg base 4 cI "row_at" ["self","name","page"] (Dz cI cA cB):=by
 have sc:=kO
 refine D.Ep kO (λ vs H Q E h => ?_) (λ _ _ _ _ _ _ us hl=>match us,hl with | [_,_,_],_=>rfl) (λ f cdv A outer s H vs Q E hr h => ?_)
 ·obtain ⟨_,_,_,_,_,_,_,rfl,_⟩:=h;rfl
 ·obtain ⟨b,dx,d,es,z,p,L,rfl,hL,fh,hr4,k1,k2,k3⟩:=h
  have hu:=gF hr
  have hf:(jj d).lookup (Str.ofString "rows_by_name")=some (.ref d):=rfl
  have c1:=fh.cb
  have c2:=fh.cd
  refine ⟨_,(@af _ _ _ _ _ (@cM _ _ _ _ (@aV _ _ _ _ _ _ _ _ _ _ _ _ _ _ _ _ T.gS gj (hr.mono (by omega)) kM (@aq _ 0 _ _ (by walk_at "v")) (@aa _ _ _ _ _ (@aq _ 1 _ _ (by walk_at "v")) (@aa _ _ _ _ _ (@aq _ 2 _ _ (by walk_at "v")) (@ak _) (by rfl)) (by rfl)) (by rfl) (by rfl) (by rfl)) (by rfl)) (@ao _ _ _ (@aE _ _ _ _ (@bh _ _ _ _ _ _ _ _ _ (aY (K:=K) rfl) (by rfl) B.list bO (@aa _ _ _ _ _ (@aX _ _ _ _ _ _ _ aO (@iU _ _ _ _ _ _ hu (@aB _ _ _ _ _ _ _ T.gS T.b6 (@aq _ 0 _ _ (by walk_at "v")) (by rfl)) (@aq _ 1 _ _ (by walk_at "v")) (λ _ _=>rfl)) (@aq _ 2 _ _ (by walk_at "v")) (λ _ _=>rfl)) (@ak _) (by rfl)) (by decide) (by decide) (by rfl) (by rfl))))),?_⟩
  refine aG λ M1 K1 => ?_
  walk_at "ge"
  refine ⟨b,dx,d,es,z,p,rfl,fh,λ e he hz p0 p1 => ?_,λ e he hz hp => ?_,λ hz => ?_⟩
  ·subst hz
   obtain ⟨j,rfl⟩:=Int.eq_ofNat_of_zero_le p0
   have hj:j < e.2.2.length:=by omega
   have hjr:=List.getElem?_eq_getElem hj
   have c3:=fh.cf e he
   have c4:=hr4 e he _ (List.getElem_mem hj)
   generalize e.2.2[j]=r at hjr c4
   have ha:iT (pQ e.2.2) ((j:Nat):Int)=some (.ref r.1):=dz (by omega) (by unfold pQ;rw [Int.toNat_natCast,List.getElem?_map,hjr];rfl)
   have mr:(r.2.map V.int).length=r.2.length:=List.length_map _
   have c5:=c4.1
   have h6:=c4.2
   walk_at "ge"
   refine K1.use ?_
   walk_at "cl"
   clear K1
   walk_at "ge"
   refine Mu c2 (wD fh.nd he) ?_
   walk_at "ge"
   rename Led _ _=>hl2
   exact k1 e he rfl j r rfl hjr _ _ hl2
  ·exact k2 e he hz hp
  ·exact k3 hz
def Back (S:SS) (row:List Int):Th->Prop
 | .own m => ∃ b:Addr,(m,b,row)∈S.es
 | .file z p => ∃ e∈S.fs,e.1=z ∧ ∃ (j:Nat) (r:Addr),p=(j:Int)/\e.2.2[j]? = some (r,row)
def gone (S:SS):Th->SS
 | .own m => { S with ps:=S.ps.set (idx S.ps (.int m)) .aM,es:=S.es.filter λ x=>decide (x.1≠m) }
 | .file _ _=>S
theorem aU.XH {S:SS} {n q:Nat} {M:Cells} {m:Int} (g:aU S n q M) (h:m∈S.es.map (·.1)):p6 (.int m) S.ps=true:=List.any_eq_true.mpr ⟨.int m,(g.pk m).mpr h,show decide (m=m)=true from decide_eq_true rfl⟩
theorem Back.key {S:SS} {m:Int} {row:List Int} (h:Back S row (.own m)):m∈S.es.map (·.1):=let ⟨_,hb⟩:=h; List.mem_map.mpr ⟨_,hb,rfl⟩
theorem Back.len {S:SS} {n q:Nat} {M:Cells} {a:Th} {row:List Int} (g:aU S n q M) (h:Back S row a):row.length=4:=by
 cases a with
 | own m=>obtain ⟨b,hb⟩:=h;exact g.er _ hb
 | file z p=>obtain ⟨e,he,_,j,r,_,hr⟩:=h;exact (g.fr e he _ (List.mem_of_getElem? hr)).2
theorem aU.gone {S:SS} {n q:Nat} {M:Cells} {a:Th} {row:List Int} (g:aU S n q M) (h:Back S row a):aU (My.gone S a) n q M:=by
 cases a with
 | own m=>exact g.NI (g.XH h.key)
 | file z p=>exact g
theorem eW (S:SS) (a:Th):(gone S a).b=S.b/\(gone S a).F=S.F/\(gone S a).hs=S.hs/\(gone S a).made=S.made/\(gone S a).fs=S.fs/\(gone S a).p=S.p/\(gone S a).bs=S.bs:=by cases a <;> exact ⟨rfl,rfl,rfl,rfl,rfl,rfl,rfl⟩
def BP (cT cF cD cS cI:Addr):Sp:=λ vs H Q _ => ∃ (S:SS) (n q:Nat) (t:Addr) (a:Th) (jW:List Int) (M:Cells),vs = [.ref S.b,.ref t]/\Led H (bg cT cF cD cS cI S M)/\aU S n q M/\(t,HO.tup (eV a))∈M/\Back S jW a ∧ ∀ (row:List Int) (r:Addr) (N:Cells) (H':Hp),Back S row a->(r,HO.lst (row.map V.int))∈N->Led H' (bg cT cF cD cS cI (gone S a) (N++M))->Q (.ref r) H'
theorem HD (D:Def K mg "fetched" iy) (T:Txt K mg cU cA cB cC cT cF cD cS cI) (tK:aR P w K mg base 1 cS "take_off" ["self","sheet"] (Nm cS)) (iQ:aR P w K mg base 4 cI "row_at" ["self","name","page"] (Dz cI cA cB)) (iO:cQ P w K mg base 1 "is_sheet" ["thing"] ny):cQ P w K mg base 5 "fetched" ["store","thing"] (BP cT cF cD cS cI):=by
 have sc:=wH
 refine D.Ep wH (λ vs H Q E h => ?_) (λ _ _ _ _ _ _ us hl=>match us,hl with | [_,_],_=>rfl) (λ f cdv A outer s H vs Q E hr h => ?_)
 ·obtain ⟨_,_,_,_,_,_,_,rfl,_⟩:=h;rfl
 ·obtain ⟨S,n,q,t,a,jW,M,rfl,hL,g,BL,hb0,k⟩:=h
  have f3:=tH S
  have f4:=Dv S
  have gO:=hL.get St.b
  have yG:=hL.get (St.up BL)
  refine ⟨_,(@af _ _ _ _ _ (@aS _ _ _ _ _ _ _ _ (@aZ _ _ _ (@aA _ _ _ _ _ _ _ _ _ _ _ iO (hr.mono (by omega)) (by rfl) az (@aa _ _ _ _ _ (@aq _ 1 _ _ (by walk_at "v")) (@ak _) (by rfl)) (by decide) (by rfl) (by rfl)) (by intro _;rfl)) (@ao _ _ _ (@aE _ _ _ _ (@aV _ _ _ _ _ _ _ _ _ _ _ _ _ _ _ _ T.fN tK (hr.mono (by omega)) az (@aB _ _ _ _ _ _ _ T.bz T.ko (@aq _ 0 _ _ (by walk_at "v")) (by rfl)) (@aa _ _ _ _ _ (@aX _ _ _ _ _ _ _ aO (@aq _ 1 _ _ (by walk_at "v")) (@aj _ _ _ _) (λ _ _=>rfl)) (@ak _) (by rfl)) (by rfl) (by rfl) (by rfl)))) (@aF _)) (@ao _ _ _ (@aE _ _ _ _ (@aV _ _ _ _ _ _ _ _ _ _ _ _ _ _ _ _ T.gS iQ (hr.mono (by omega)) kM (@aB _ _ _ _ _ _ _ T.bz T.qi (@aq _ 0 _ _ (by walk_at "v")) (by rfl)) (@aa _ _ _ _ _ (@aX _ _ _ _ _ _ _ aO (@aq _ 1 _ _ (by walk_at "v")) (@aj _ _ _ _) (λ _ _=>rfl)) (@aa _ _ _ _ _ (@aX _ _ _ _ _ _ _ aO (@aq _ 1 _ _ (by walk_at "v")) (@aj _ _ _ _) (λ _ _=>rfl)) (@ak _) (by rfl)) (by rfl)) (by rfl) (by rfl) (by rfl))))),?_⟩
  refine aG λ M1 K1 => ?_
  walk_at "ge"
  refine ⟨t,a,rfl,yG,λ m e => ?_,λ z p e => ?_⟩
  ·subst e
   have ND:H t=some (.tup [.str (Str.ofString "own"),.int m]):=yG
   have hin:=g.XH hb0.key
   obtain ⟨e,he,em⟩:=List.mem_map.mp hb0.key
   have XI:e.1=m:=em
   have hS:=St.toS hL
   have dG:=hS.get Qf
   walk_at "ge"
   refine ⟨S.sb,S.Ny,S.sl,S.sd,S.ps,S.es,e,_,by rw [XI];rfl,hS,g.flat,by rw [XI];exact hin,g.nd,he,λ H2 hl2 => ?_⟩
   rw [XI] at hl2
   have hl3:Led H2 (bg cT cF cD cS cI (gone S (.own m)) ([(e.2.1,HO.lst (e.2.2.map V.int))]++M)):=St.ofS (S:=S) (N:=[(e.2.1,HO.lst (e.2.2.map V.int))]) (Led.perm hl2 List.perm_middle.symm)
   walk_at "ge"
   exact k e.2.2 e.2.1 _ H2 ⟨e.2.1,by rw [<-XI];exact he⟩ mS hl3
  ·subst e
   have ND:H t=some (.tup [.str (Str.ofString "file"),.str z,.int p]):=yG
   obtain ⟨e,he,e1,j,r,e2,e3⟩:=hb0
   have hI:=St.Wg hL
   have Wj:=hI.get mS
   have hj:j < e.2.2.length:=(List.getElem?_eq_some_iff.mp e3).1
   have uniq : ∀ e'∈S.fs,e'.1=z->e' = e:=λ e' he' h=>by
    have h3:=findF g.fn he
    have h5:=findF g.fn he'
    rw [h,<-e1] at h5
    exact Option.some.inj (h5.symm.trans h3)
   walk_at "ge"
   refine K1.use ?_
   walk_at "cl"
   clear K1
   walk_at "ge"
   refine ⟨S.ib,S.ix,S.im,S.fs,z,p,_,rfl,hL,FH.of hI g.fn,λ x hx y hy=>⟨hL.get (St.up (g.fr x hx y hy).1),by rw [(g.fr x hx y hy).2];decide⟩,λ e' he' Ej j' r' hp hr' qr H2 hl2 => ?_,λ e' he' Ej hn=>absurd ?_ hn,λ hz=>absurd (List.mem_map.mpr ⟨e,he,e1⟩) hz⟩
   ·walk_at "ge"
    exact k r'.2 qr [(qr,HO.lst (r'.2.map V.int))] H2 ⟨e',he',Ej,j',r'.1,hp,hr'⟩ List.mem_cons_self (St.push hl2)
   ·rw [uniq e' he' Ej,e2]
    exact ⟨by omega,by exact_mod_cast hj⟩
theorem aU.Qs {S:SS} {n q i:Nat} {M:Cells} (g:aU S n q M) {t r:Addr} {a:Th} {row:List Int} (ht:(t,HO.tup (eV a))∈M) (Rx:Fz a) (hr:(r,HO.lst (row.map V.int))∈M) (h4:row.length=4) (hn : ∀ (j:Nat) (u:Addr),S.F.hs[j]? ≠ some (some (u,a))) (ho : ∀ m,a = .own m->m ∉ S.es.map (·.1)) (hf : ∀ z p,a = .file z p->∃ e∈S.fs,∃ j:Nat,e.1=z/\p=j/\j < e.2.2.length) :
  aU { S with F:=S.F.fill i (some (t,a)) (some (r,row)) false } n q M:=by
 have old : ∀ (j:Nat) (x:Addr×Th),(S.F.hs.set i (some (t,a)))[j]? = some (some x)->(j=i/\x=(t,a))\/(i≠j/\S.F.hs[j]? = some (some x)):=λ j x h=>by
  rw [List.getElem?_set] at h
  split at h
  ·split at h
   ·cases h
    exact .inl ⟨by omega,rfl⟩
   ·cases h
  ·exact .inr ⟨by assumption,h⟩
 refine { g with f:=g.f.fill (λ t' a' e=>by cases e;exact ⟨ht,Rx⟩) (λ t' a' e=>by cases e;exact hr),rr:=λ j u b h => ?_,inj:=λ j l u v b h1 h2 => ?_,ap:=λ j u k h => ?_,ff:=λ j u z p h => ?_ }
 ·rcases old j _ h with ⟨rfl,_⟩ | ⟨h1,h2⟩
  ·have hlt:j < S.F.rs.length:=by
    have h5:=(List.getElem?_eq_some_iff.mp h).1
    have h6:(S.F.hs.set j (some (t,a))).length=n:=(List.length_set ..).trans g.f.h
    rw [g.f.r,<-h6]
    exact h5
   exact ⟨r,row,by show (S.F.rs.set j _)[j]? = _;rw [List.getElem?_set,if_pos rfl,if_pos hlt],h4⟩
  ·obtain ⟨r',gm,e,h5⟩:=g.rr j u b h2
   exact ⟨r',gm,by show (S.F.rs.set i _)[j]? = _;rw [List.getElem?_set,if_neg h1];exact e,h5⟩
 ·rcases old j _ h1 with ⟨e1,x1⟩ | ⟨n1,o1⟩
  ·rcases old l _ h2 with ⟨e2,_⟩ | ⟨n2,o2⟩
   ·rw [e1,e2]
   ·cases x1
    exact absurd o2 (hn l v)
  ·rcases old l _ h2 with ⟨e2,x2⟩ | ⟨n2,o2⟩
   ·cases x2
    exact absurd o1 (hn j u)
   ·exact g.inj j l u v b o1 o2
 ·rcases old j _ h with ⟨_,x⟩ | ⟨_,o⟩
  ·cases x
   exact ho k rfl
  ·exact g.ap j u k o
 ·rcases old j _ h with ⟨_,x⟩ | ⟨_,o⟩
  ·cases x
   exact hf z p rfl
  ·exact g.ff j u z p o
def DA (cT cF cD cS cI:Addr):Sp:=λ vs H Q _ => ∃ (S:SS) (n q:Nat) (t:Addr) (a:Th) (M:Cells),vs = [.ref S.b,.ref t]/\Led H (bg cT cF cD cS cI S M)/\aU S n q M/\(t,HO.tup (eV a))∈M/\Fz a ∧
 ((∀ (j:Nat) (u:Addr),S.F.hs[j]? ≠ some (some (u,a)))->∃ jW,Back S jW a) ∧
 ((∀ z∈S.F.hs,z≠none)->true ∉ dh (gone S a)->False) ∧
 (∀ (j:Nat) (u p:Addr) (N:Cells) (H':Hp),S.F.hs[j]? = some (some (u,a))->(p,HO.tup [.int (j:Nat),.bl false])∈N->Led H' (bg cT cF cD cS cI S (N++M))->Q (.ref p) H') ∧
 ((∀ (j:Nat) (u:Addr),S.F.hs[j]? ≠ some (some (u,a)))->∀ (row:List Int) (i:Nat) (S1:SS) (r p:Addr) (N:Cells) (H':Hp),Back S row a->gG N (gone S a) n i S1->(r,HO.lst (row.map V.int))∈N->(p,HO.tup [.int (i:Nat),.bl true])∈N->Led H' (bg cT cF cD cS cI { S1 with F:=S1.F.fill i (some (t,a)) (some (r,row)) false } (N++M))->Q (.ref p) H')
theorem NO (D:Def K mg "bring" nt) (B:iV mg) (T:Txt K mg cU cA cB cC cT cF cD cS cI) (iN:aR P w K mg base 1 cF "where" ["self","thing"] (qX cF)) (jt:aR P w K mg base 1 cF "fill" ["self","frame","thing","row"] (Ht cF)) (KW:cQ P w K mg base 5 "fetched" ["store","thing"] (BP cT cF cD cS cI)) (kJ:cQ P w K mg base 6 "have_frame" ["store"] (HC cT cF cD cS cI cU)):cQ P w K mg base 7 "bring" ["store","thing"] (DA cT cF cD cS cI):=by
 have sc:=Ey
 refine D.Ep Ey (λ vs H Q E h => ?_) (λ _ _ _ _ _ _ us hl=>match us,hl with | [_,_],_=>rfl) (λ f cdv A outer s H vs Q E hr h => ?_)
 ·obtain ⟨_,_,_,_,_,_,rfl,_⟩:=h;rfl
 ·obtain ⟨S,n,q,t,a,M,rfl,hL,g,BL,Rx,Wo,hgo,k1,k2⟩:=h
  have n64:=g.n64
  have f1:=fX S
  have gO:=hL.get St.b
  have hF:=St.toF hL
  have jr:=hF.get mS
  refine ⟨_,(@af _ _ _ _ _ (@aI _ _ 2 _ _ _ _ sc.nd rfl (by walk_at "o2") (@aV _ _ _ _ _ _ _ _ _ _ _ _ _ _ _ _ T.Frames iN (hr.mono (by omega)) az (@aB _ _ _ _ _ _ _ T.bz T.bL (@aq _ 0 _ _ (by walk_at "v")) (by rfl)) (@aa _ _ _ _ _ (@aq _ 1 _ _ (by walk_at "v")) (@ak _) (by rfl)) (by rfl) (by rfl) (by rfl)) (by rfl) (by walk_at "o4")) (@af _ _ _ _ _ (@aS _ _ _ _ _ _ _ _ (@aK _ _ _ _ _ _ _ _ pY (@aq _ 2 _ _ (by walk_at "v")) (@bJ _ _ _) (aQ _)) (@ao _ _ _ (@aE _ _ _ _ (@dS _ _ _ _ _ (@aa _ _ _ _ _ (@aq _ 2 _ _ (by walk_at "v")) (@aa _ _ _ _ _ (@bP _ _ _ _) (@ak _) (by rfl)) (by rfl))))) (@aF _)) (@af _ _ _ _ _ (@aI _ _ 3 _ _ _ _ sc.nd rfl (by walk_at "o2") (@aA _ _ _ _ _ _ _ _ _ _ _ KW (hr.mono (by omega)) (by rfl) kM (@aa _ _ _ _ _ (@aq _ 0 _ _ (by walk_at "v")) (@aa _ _ _ _ _ (@aq _ 1 _ _ (by walk_at "v")) (@ak _) (by rfl)) (by rfl)) (by decide) (by rfl) (by rfl)) (by rfl) (by walk_at "o4")) (@af _ _ _ _ _ (@aI _ _ 2 _ _ _ _ sc.nd rfl (by walk_at "o2") (@aA _ _ _ _ _ _ _ _ _ _ _ kJ (hr.mono (by omega)) (by rfl) kM (@aa _ _ _ _ _ (@aq _ 0 _ _ (by walk_at "v")) (@ak _) (by rfl)) (by decide) (by rfl) (by rfl)) (by rfl) (by walk_at "o4")) (@af _ _ _ _ _ (@cM _ _ _ _ (@aV _ _ _ _ _ _ _ _ _ _ _ _ _ _ _ _ T.Frames jt (hr.mono (by omega)) az (@aB _ _ _ _ _ _ _ T.bz T.bL (@aq _ 0 _ _ (by walk_at "v")) (by rfl)) (@aa _ _ _ _ _ (@aq _ 2 _ _ (by walk_at "v")) (@aa _ _ _ _ _ (@aq _ 1 _ _ (by walk_at "v")) (@aa _ _ _ _ _ (@aq _ 3 _ _ (by walk_at "v")) (@ak _) (by rfl)) (by rfl)) (by rfl)) (by rfl) (by rfl) (by rfl)) (by rfl)) (@ao _ _ _ (@aE _ _ _ _ (@dS _ _ _ _ _ (@aa _ _ _ _ _ (@aq _ 2 _ _ (by walk_at "v")) (@aa _ _ _ _ _ (@bP _ _ _ _) (@ak _) (by rfl)) (by rfl)))))))))),?_⟩
  refine aG λ M1 K1 => ?_
  walk_at "ge"
  refine ⟨S.F,n,some (t,a),_,rfl,hF,g.f.mono (λ c hc=>jl hc),λ t' a' e => ?_,by omega,λ hno => ?_,λ j y h1 h2 _ => ?_⟩
  ·cases e
   exact ⟨jl BL,Rx⟩
  ·have hnf : ∀ (j:Nat) (u:Addr),S.F.hs[j]? ≠ some (some (u,a)):=λ j u h=>hno _ (List.mem_of_getElem? h) rfl
   obtain ⟨jW,hb0⟩:=Wo hnf
   walk_at "ge"
   refine K1.use ?_
   walk_at "cl"
   clear K1
   refine aG λ M1 K1 => ?_
   walk_at "ge"
   ·exact absurd (rfl:V.aM=V.aM) (by assumption)
   refine K1.use ?_
   walk_at "cl"
   clear K1
   refine aG λ M1 K1 => ?_
   walk_at "ge"
   refine ⟨S,n,q,t,a,jW,M,rfl,hL,g,BL,hb0,λ row r0 N1 H1 hb nM hl1 => ?_⟩
   clear hL hF gO jr
   walk_at "ge"
   refine K1.use ?_
   walk_at "cl"
   clear K1
   have g1:aU (gone S a) n q M:=g.gone hb
   have h4:=hb.len g
   obtain ⟨eb,eF,Ry,UI,efs,ep,Wq⟩:=eW S a
   refine aG λ M1 K1 => ?_
   have rest : ∀ (i:Nat) (S1:SS) (N:Cells) (H2:Hp),gG N (gone S a) n i S1->Led H2 (bg cT cF cD cS cI S1 (N++(N1++M)))->M1 [some (.ref S.b),some (.ref t),some (.int (i:Nat)),some (.ref r0)] H2:=by
    intro i S1 N H2 Ba hl2
    obtain ⟨h0,e2,e3,e4,e5⟩:=Ba.at
    have Wr:=g1.had Ba
    have hi:i < n:=by have:=(List.getElem?_eq_some_iff.mp h0).1;rw [Wr.f.h] at this;exact this
    have ebS:S1.b=S.b:=e4.trans eb
    refine K1.use ?_
    clear K1
    rw [<-ebS]
    have f1:=fX S1
    have gO:=hl2.get St.b
    have hF:=St.toF hl2
    have jr:=hF.get mS
    refine aG λ M1 K1 => ?_
    walk_at "ge"
    refine ⟨S1.F,n,i,t,r0,a,row,_,rfl,hF,Wr.f.mono (λ c hc=>jl ?_),hi,jl (mA (mB nM)),by omega,λ r H3 hl3 => ?_⟩
    ·rcases List.mem_append.mp hc with hc | hc
     ·exact mB hc
     ·exact mA (mA hc)
    have bZ:Led H3 (bg cT cF cD cS cI { S1 with F:=S1.F.fill i (some (t,a)) (some (r,row)) false } ([(r,HO.lst (row.map V.int))]++(N++(N1++M)))):=St.Tz (S:=S1) rfl hl3
    clear hl3 hl2 hF gO jr
    walk_at "ge"
    refine K1.use ?_
    walk_at "cl"
    clear K1
    walk_at "ge"
    rename_i p H4 _ cN _
    have cO:=St.push cN
    refine k2 hnf row i S1 r p ((p,HO.tup [.int (i:Nat),.bl true])::(r,HO.lst (row.map V.int))::(N++N1)) H4 hb (Ba.mono λ c hc=>mC (mC (mB hc))) (mC mS) mS ?_
    rw [List.cons_append,List.cons_append,List.append_assoc]
    exact cO
   walk_at "ge"
   refine ⟨gone S a,n,q,_,by rw [eb];rfl,hl1,g1.mono (λ c hc=>mA hc),λ i H2 q1 q2 hl2 => ?_,λ hall i bs' t' a' hg hi S1 N H2 Li gk hl2 => ?_,λ hall hno N H2 hl2=>(hgo (by rw [<-eF];exact hall) hno).elim⟩
   ·walk_at "ge"
    exact rest i (gone S a) [] H2 (.inl ⟨q1,q2,rfl⟩) hl2
   ·walk_at "ge"
    exact rest i S1 N H2 (.inr ⟨hall,bs',t',a',hg,hi,Li⟩) hl2
  ·walk_at "ge"
   refine K1.use ?_
   walk_at "cl"
   clear K1
   refine aG λ M1 K1 => ?_
   walk_at "ge"
   ·rename_i p H1 _ hl1 _
    cases y with
    | none=>cases h2
    | some y =>
      have h3:y.2=a:=Option.some.inj h2
      exact k1 j y.1 p [(p,_)] H1 (by rw [h1,<-h3]) List.mem_cons_self (St.push (Led.perm hl1 (List.Perm.cons _ (aP (pR cF S.F) (zb cT S) (E9 cD S++(Fb cS S++(Du cI S++M)))))))
   ·exact nomatch (show V.int (j:Nat)=V.aM by assumption)
end
section
variable {P:Program} {w:World} {K:PySem.W.Frag} {mg:Str->Option Value} {base:Heap} {cU cA cB cC cT cF cD cS cI:Addr}
def fJ:Th->List Key
 | .own m=>[.inr (Str.ofString "own"),.inl m]
 | .file z p=>[.inr (Str.ofString "file"),.inr z,.inl p]
theorem kZ (a:Th):(fJ a).map kV=eV a:=by cases a <;> rfl
theorem vK {a b:Th} (h:fJ a=fJ b):a=b:=by
 cases a <;> cases b <;> simp [fJ] at h <;> simp [h]
abbrev Ts:=List (Th×Addr×List Int)
def m5 (ts:Ts):List (List Key×V):=ts.map λ e=>(fJ e.1,V.ref e.2.1)
theorem rj (ts:Ts):(m5 ts).length=ts.length:=by unfold m5;exact List.length_map ..
theorem DB {ts:Ts} {e:Th×Addr×List Int} (nd:(ts.map (·.1)).Nodup) (h:e∈ts):bx (m5 ts) (fJ e.1)=some (.ref e.2.1):=by
 induction ts with
 | nil=>cases h
 | cons x ts ih =>
   rw [List.map_cons,List.nodup_cons] at nd
   show bx ((fJ x.1,V.ref x.2.1)::m5 ts) (fJ e.1)=_
   rcases List.mem_cons.mp h with rfl | h
   ·exact bT (p:=(fJ e.1,V.ref e.2.1)) rfl
   ·have hne : ¬ fJ x.1=fJ e.1:=λ z=>nd.1 (vK z ▸ List.mem_map.mpr ⟨e,h,rfl⟩)
    rw [bH (p:=(fJ x.1,V.ref x.2.1)) hne]
    exact ih nd.2 h
theorem NP {ts:Ts} {a:Th} (h:a ∉ ts.map (·.1)):bx (m5 ts) (fJ a)=none:=by
 induction ts with
 | nil=>rfl
 | cons x ts ih =>
   rw [List.map_cons,List.mem_cons,not_or] at h
   have hne : ¬ fJ x.1=fJ a:=λ z=>h.1 (vK z).symm
   show bx ((fJ x.1,V.ref x.2.1)::m5 ts) (fJ a)=none
   rw [bH (p:=(fJ x.1,V.ref x.2.1)) hne]
   exact ih h.2
def vA (ts:Ts) (a:Th) (r:Addr) (row:List Int):Ts:=ts.map λ e=>if e.1=a then (e.1,r,row) else e
theorem jX (ts:Ts) (a:Th) (r:Addr) (row:List Int):(vA ts a r row).map (·.1)=ts.map (·.1):=by
 unfold vA
 rw [List.map_map]
 refine List.map_congr_left λ e _ => ?_
 show (if e.1=a then (e.1,r,row) else e).1=e.1
 split <;> rfl
theorem Qt {ts:Ts} {a:Th} {r:Addr} {row:List Int} {e:Th×Addr×List Int} (h:e∈vA ts a r row):e=(a,r,row)\/(e.1≠a/\e∈ts):=by
 obtain ⟨d,hd,rfl⟩:=List.mem_map.mp h
 by_cases z:d.1=a
 ·rw [if_pos z,z];exact .inl rfl
 ·rw [if_neg z];exact .inr ⟨z,hd⟩
theorem Qu {ts:Ts} {a:Th} (r:Addr) (row:List Int) (h:a∈ts.map (·.1)):putK (m5 ts) (fJ a) (.ref r)=m5 (vA ts a r row):=by
 unfold putK
 rw [if_pos]
 ·unfold m5 vA
  rw [List.map_map,List.map_map]
  refine List.map_congr_left λ e _ => ?_
  show (if fJ e.1=fJ a then (fJ e.1,V.ref r) else (fJ e.1,V.ref e.2.1))=(fJ (if e.1=a then (e.1,r,row) else e).1,V.ref (if e.1=a then (e.1,r,row) else e).2.1)
  by_cases q:e.1=a
  ·rw [if_pos q,if_pos (by rw [q])]
  ·rw [if_neg q,if_neg (λ z=>q (vK z))]
 ·obtain ⟨e,he,rfl⟩:=List.mem_map.mp h
  exact List.any_eq_true.mpr ⟨(fJ e.1,V.ref e.2.1),List.mem_map.mpr ⟨e,he,rfl⟩,decide_eq_true rfl⟩
theorem DC {ts:Ts} {a:Th} (r:Addr) (row:List Int) (h:a ∉ ts.map (·.1)):putK (m5 ts) (fJ a) (.ref r)=m5 (ts++[(a,r,row)]):=by
 unfold putK
 rw [if_neg]
 ·unfold m5;rw [List.map_append];rfl
 ·rw [dI,NP h];exact Bool.false_ne_true
def oA (S:SS) (a:Th):Prop := ∃ (i:Nat) (t:Addr),S.F.hs[i]? = some (some (t,a))
def eY (S:SS) (a:Th) (row:List Int):Prop:=(∃ (i:Nat) (t r:Addr),S.F.hs[i]? = some (some (t,a))/\S.F.rs[i]? = some (some (r,row)))\/(¬ oA S a/\Back S row a)
def Clean (S:SS):Prop := ∀ (i:Nat) (t r:Addr) (z:Str) (p:Int) (row:List Int),S.F.hs[i]? = some (some (t,.file z p))->S.F.rs[i]? = some (some (r,row))->S.F.bs[i]? = some false->Back S row (.file z p)
theorem bX {α : Type} {l:List α} {i j:Nat} {x y : α} (h:i≠j):(l.set i x)[j]? = some y↔l[j]? = some y:=by rw [List.getElem?_set,if_neg h]
theorem yJ {l:List Hd} {i j:Nat} {x:Addr×Th} (h:(l.set i none)[j]? = some (some x)):i≠j/\l[j]? = some (some x):=by
 rw [List.getElem?_set] at h
 split at h
 ·split at h <;> cases h
 ·exact ⟨by assumption,h⟩
theorem PO.rows {N:Cells} {S S':SS} {n q i:Nat} {M:Cells} {t:Addr} {a:Th} (g:aU S n q M) (cl:Clean S) (hi:S.F.hs[i]? = some (some (t,a))) (h:PO N S i S' a):Clean S' ∧ ∀ b row,eY S b row->eY S' b row:=by
 obtain ⟨r0,jW,hr0,_⟩:=g.rr i t a hi
 have hF:S'.F=S.F.fill i none none false:=by
  cases a with
  | own m=>obtain ⟨r,row,b,_,rfl⟩:=h;rfl
  | file z p =>
    obtain ⟨r,row,_,h⟩:=h
    rcases h with ⟨_,rfl⟩ | ⟨_,as,bs,e,j,nr,_,_,_,_,_,rfl⟩ <;> rfl
 have hh:S'.F.hs=S.F.hs.set i none:=by rw [hF];rfl
 have hrs:S'.F.rs=S.F.rs.set i none:=by rw [hF];rfl
 have hbs:S'.F.bs=S.F.bs.set i false:=by rw [hF];rfl
 have self:Back S' jW a:=by
  cases a with
  | own m =>
    obtain ⟨r,row,b,h1,rfl⟩:=h
    rw [hr0] at h1
    cases h1
    exact ⟨b,mA mS⟩
  | file z p =>
    obtain ⟨r,row,h1,h⟩:=h
    rw [hr0] at h1
    cases h1
    rcases h with ⟨h2,rfl⟩ | ⟨_,as,bs,e,j,nr,h3,h4,h5,h6,_,rfl⟩
    ·exact cl i t r0 z p jW hi hr0 h2
    ·exact ⟨_,mA mS,h4,j,nr,h5,by show (e.2.2.set j (nr,jW))[j]? = _;rw [List.getElem?_set,if_pos rfl,if_pos h6]⟩
 have other : ∀ b row,b≠a->Back S row b->Back S' row b:=λ b row hne hb=>by
  cases a with
  | own m =>
    obtain ⟨r,Qv,b1,h1,rfl⟩:=h
    cases b with
    | own k=>obtain ⟨x,hx⟩:=hb;exact ⟨x,mB hx⟩
    | file z p=>exact hb
  | file z p =>
    obtain ⟨r,Qv,h1,h⟩:=h
    rcases h with ⟨h2,rfl⟩ | ⟨_,as,bs,e,j,nr,h3,h4,h5,h6,_,rfl⟩
    ·exact hb
    ·cases b with
     | own k=>exact hb
     | file z2 p2 =>
       obtain ⟨e2,zu,z3,j2,r2,p3,hr2⟩:=hb
       rw [h3] at zu
       rcases List.mem_append.mp zu with zu | zu
       ·exact ⟨e2,mB zu,z3,j2,r2,p3,hr2⟩
       ·rcases List.mem_cons.mp zu with rfl | zu
        ·refine ⟨_,mA mS,z3,j2,r2,p3,?_⟩
         have hj:j≠j2:=λ z=>hne (by rw [<-z3,<-h4,p3,h5,z])
         exact (bX hj).mpr hr2
        ·exact ⟨e2,mA (mC zu),z3,j2,r2,p3,hr2⟩
 have out : ¬ oA S' a:=λ ⟨j,u,hj⟩=>by
  rw [hh] at hj
  obtain ⟨h1,h2⟩:=yJ hj
  exact h1 (g.inj i j t u a hi h2)
 refine ⟨λ j u r z p row h1 h2 h3 => ?_,λ b row hb => ?_⟩
 ·rw [hh] at h1
  obtain ⟨hne,h1⟩:=yJ h1
  rw [hrs] at h2
  rw [hbs] at h3
  have hba:Th.file z p≠a:=λ e=>hne (g.inj i j t u a hi (by rw [h1,e]))
  exact other _ _ hba (cl j u r z p row h1 ((bX hne).mp h2) ((bX hne).mp h3))
 ·by_cases e:b=a
  ·subst e
   rcases hb with ⟨j,u,r,h1,h2⟩ | ⟨h1,_⟩
   ·have:=g.inj i j t u b hi h1
    subst this
    rw [hr0] at h2
    cases h2
    exact .inr ⟨out,self⟩
   ·exact absurd ⟨i,t,hi⟩ h1
  ·rcases hb with ⟨j,u,r,h1,h2⟩ | ⟨h1,h2⟩
   ·have hne:i≠j:=λ z=>by rw [<-z,hi] at h1;cases h1;exact e rfl
    exact .inl ⟨j,u,r,by rw [hh];exact (bX hne).mpr h1,by rw [hrs];exact (bX hne).mpr h2⟩
   ·refine .inr ⟨λ ⟨j,u,hj⟩=>h1 ⟨j,u,?_⟩,other b row e h2⟩
    rw [hh] at hj
    exact (yJ hj).2
theorem gG.rows {N:Cells} {S S1:SS} {n q i:Nat} {M:Cells} (g:aU S n q M) (cl:Clean S) (h:gG N S n i S1):Clean S1 ∧ ∀ b row,eY S b row->eY S1 b row:=by
 rcases h with ⟨_,_,rfl⟩ | ⟨_,bs',t,a,hgo,hi,h⟩
 ·exact ⟨cl,λ _ _ h=>h⟩
 ·obtain ⟨l1,_⟩:=qU _ _ _ hgo
  have n1:=g.n1
  exact PO.rows (S := { S with p:=(i+1) % n,bs:=bs' }) (g.turned (Nat.mod_lt _ (by omega)) (l1.trans g.bl)) cl hi h
theorem eY.fill {S:SS} {n q i:Nat} {M:Cells} {t r:Addr} {a:Th} {row:List Int} {k:Int} {hs':List (Int×Int)} (g:aU S n q M) (h0:S.F.hs[i]? = some none):(∀ b gm,b≠a->eY S b gm->eY { S with made:=k,hs:=hs',F:=S.F.fill i (some (t,a)) (some (r,row)) false } b gm)/\eY { S with made:=k,hs:=hs',F:=S.F.fill i (some (t,a)) (some (r,row)) false } a row:=by
 have hlt:i < S.F.hs.length:=(List.getElem?_eq_some_iff.mp h0).1
 have hlr:i < S.F.rs.length:=by rw [g.f.r,<-g.f.h];exact hlt
 refine ⟨λ b gm hne hb => ?_,.inl ⟨i,t,r,?_,?_⟩⟩
 ·rcases hb with ⟨j,u,r',h1,h2⟩ | ⟨h1,h2⟩
  ·have hij:i≠j:=λ z=>by rw [<-z,h0] at h1;cases h1
   exact .inl ⟨j,u,r',(bX hij).mpr h1,(bX hij).mpr h2⟩
  ·refine .inr ⟨λ ⟨j,u,hj⟩ => ?_,?_⟩
   ·have hj':(S.F.hs.set i (some (t,a)))[j]? = some (some (u,b)):=hj
    by_cases e:i=j
    ·subst e
     rw [List.getElem?_set,if_pos rfl,if_pos hlt] at hj'
     cases hj'
     exact hne rfl
    ·exact h1 ⟨j,u,(bX e).mp hj'⟩
   ·cases b with
    | own m=>exact h2
    | file z p=>exact h2
 ·show (S.F.hs.set i _)[i]? = _
  rw [List.getElem?_set,if_pos rfl,if_pos hlt]
 ·show (S.F.rs.set i _)[i]? = _
  rw [List.getElem?_set,if_pos rfl,if_pos hlr]
theorem Clean.fill {S:SS} {n q i:Nat} {M:Cells} {t r:Addr} {a:Th} {row:List Int} {k:Int} {hs':List (Int×Int)} (g:aU S n q M) (cl:Clean S) (h0:S.F.hs[i]? = some none) (hb : ∀ z p,a = .file z p->Back S row a):Clean { S with made:=k,hs:=hs',F:=S.F.fill i (some (t,a)) (some (r,row)) false } := by
 have hlt:i < S.F.hs.length:=(List.getElem?_eq_some_iff.mp h0).1
 have hlr:i < S.F.rs.length:=by rw [g.f.r,<-g.f.h];exact hlt
 intro j u r' z p gm h1 h2 h3
 have Ej:(S.F.hs.set i (some (t,a)))[j]? = some (some (u,.file z p)):=h1
 have h2':(S.F.rs.set i (some (r,row)))[j]? = some (some (r',gm)):=h2
 have h3':(S.F.bs.set i false)[j]? = some false:=h3
 by_cases e:i=j
 ·subst e
  rw [List.getElem?_set,if_pos rfl,if_pos hlt] at Ej
  rw [List.getElem?_set,if_pos rfl,if_pos hlr] at h2'
  cases Ej
  cases h2'
  exact hb z p rfl
 ·exact cl j u r' z p gm ((bX e).mp Ej) ((bX e).mp h2') ((bX e).mp h3')
end
section
variable {P:Program} {w:World} {K:PySem.W.Frag} {mg:Str->Option Value} {base:Heap} {cU cA cB cC cT cF cD cS cI:Addr}
def sizesOf (c:Int):Int×Int :=
 if c % 16=7 then (1+c / 16 % 64,c / 1024 % 20) else if c % 32=6 then (1+c / 32 % 4,c / 128 % 129) else if c % 8=6 then (1+c / 8 % 9,c / 72 % 30) else (1+c / 8 % 5,c / 40 % 6)
theorem HE (c:Int):1<=(sizesOf c).1/\(sizesOf c).1<=64/\0<=(sizesOf c).2/\(sizesOf c).2<=128:=by
 unfold sizesOf
 split
 ·dsimp only;omega
 ·split
  ·dsimp only;omega
  ·split
   ·dsimp only;omega
   ·dsimp only;omega
def IG:Sp:=λ vs H Q _ => ∃ (c:Int) (L:Cells),vs = [.int c]/\Led H L ∧ ∀ p H',Led H' ((p,.tup [.int (sizesOf c).1,.int (sizesOf c).2])::L)->Q (.ref p) H'
theorem NQ (D:Def K mg "_law_sizes" iB) (T:Txt K mg cU cA cB cC cT cF cD cS cI):cQ P w K mg base 1 "_law_sizes" ["_law_cell"] IG:=by
 have sc:=wK
 refine D.ok wK (λ vs H Q E h => ?_) (λ _ _ _ _ _ _ us hl=>match us,hl with | [_],_=>rfl) (λ f cdv A outer s H vs Q E hr h => ?_)
 ·obtain ⟨_,_,rfl,_⟩:=h;rfl
 ·obtain ⟨c,L,rfl,hL,k⟩:=h
  refine ⟨_,(@af _ _ _ _ _ (@aS _ _ _ _ _ _ _ _ (@aK _ _ _ _ _ _ _ _ b9 (@av _ _ _ _ _ _ _ _ aJ (@aq _ 0 _ _ (by walk_at "v")) (@aj _ _ _ _)) (@aj _ _ _ _) (aQ _)) (@ao _ _ _ (@aE _ _ _ _ (@dS _ _ _ _ _ (@aa _ _ _ _ _ (@av _ _ _ _ _ _ _ _ aT (@aj _ _ _ _) (@av _ _ _ _ _ _ _ _ aJ (@av _ _ _ _ _ _ _ _ bA (@aq _ 0 _ _ (by walk_at "v")) (@aj _ _ _ _)) (@aj _ _ _ _))) (@aa _ _ _ _ _ (@av _ _ _ _ _ _ _ _ aJ (@av _ _ _ _ _ _ _ _ bA (@aq _ 0 _ _ (by walk_at "v")) (@aj _ _ _ _)) (@aj _ _ _ _)) (@ak _) (by rfl)) (by rfl))))) (@aF _)) (@af _ _ _ _ _ (@aS _ _ _ _ _ _ _ _ (@aK _ _ _ _ _ _ _ _ b9 (@av _ _ _ _ _ _ _ _ aJ (@aq _ 0 _ _ (by walk_at "v")) (@aj _ _ _ _)) (@aj _ _ _ _) (aQ _)) (@ao _ _ _ (@aE _ _ _ _ (@dS _ _ _ _ _ (@aa _ _ _ _ _ (@av _ _ _ _ _ _ _ _ aT (@aj _ _ _ _) (@av _ _ _ _ _ _ _ _ aJ (@av _ _ _ _ _ _ _ _ bA (@aq _ 0 _ _ (by walk_at "v")) (@aj _ _ _ _)) (@aj _ _ _ _))) (@aa _ _ _ _ _ (@av _ _ _ _ _ _ _ _ aJ (@av _ _ _ _ _ _ _ _ bA (@aq _ 0 _ _ (by walk_at "v")) (@aj _ _ _ _)) (@aj _ _ _ _)) (@ak _) (by rfl)) (by rfl))))) (@aF _)) (@af _ _ _ _ _ (@aS _ _ _ _ _ _ _ _ (@aK _ _ _ _ _ _ _ _ b9 (@av _ _ _ _ _ _ _ _ aJ (@aq _ 0 _ _ (by walk_at "v")) (@aj _ _ _ _)) (@aj _ _ _ _) (aQ _)) (@ao _ _ _ (@aE _ _ _ _ (@dS _ _ _ _ _ (@aa _ _ _ _ _ (@av _ _ _ _ _ _ _ _ aT (@aj _ _ _ _) (@av _ _ _ _ _ _ _ _ aJ (@av _ _ _ _ _ _ _ _ bA (@aq _ 0 _ _ (by walk_at "v")) (@aj _ _ _ _)) (@aj _ _ _ _))) (@aa _ _ _ _ _ (@av _ _ _ _ _ _ _ _ aJ (@av _ _ _ _ _ _ _ _ bA (@aq _ 0 _ _ (by walk_at "v")) (@aj _ _ _ _)) (@aj _ _ _ _)) (@ak _) (by rfl)) (by rfl))))) (@aF _)) (@ao _ _ _ (@aE _ _ _ _ (@dS _ _ _ _ _ (@aa _ _ _ _ _ (@av _ _ _ _ _ _ _ _ aT (@aj _ _ _ _) (@av _ _ _ _ _ _ _ _ aJ (@av _ _ _ _ _ _ _ _ bA (@aq _ 0 _ _ (by walk_at "v")) (@aj _ _ _ _)) (@aj _ _ _ _))) (@aa _ _ _ _ _ (@av _ _ _ _ _ _ _ _ aJ (@av _ _ _ _ _ _ _ _ bA (@aq _ 0 _ _ (by walk_at "v")) (@aj _ _ _ _)) (@aj _ _ _ _)) (@ak _) (by rfl)) (by rfl)))))))),?_⟩
  refine aG λ M1 K1 => ?_
  walk_at "ge"
  ·have e:sizesOf c=(1+c / 16 % 64,c / 1024 % 20):=by unfold sizesOf;rw [if_pos (by assumption)]
   rw [e] at k
   rename Led _ _=>hl
   exact k _ _ hl
  have n1 : ¬ c % 16=7:=by assumption
  refine K1.use ?_
  walk_at "cl"
  clear K1
  refine aG λ M1 K1 => ?_
  walk_at "ge"
  ·have e:sizesOf c=(1+c / 32 % 4,c / 128 % 129):=by unfold sizesOf;rw [if_neg n1,if_pos (by assumption)]
   rw [e] at k
   rename Led _ _=>hl
   exact k _ _ hl
  have n2 : ¬ c % 32=6:=by assumption
  refine K1.use ?_
  walk_at "cl"
  clear K1
  refine aG λ M1 K1 => ?_
  walk_at "ge"
  ·have e:sizesOf c=(1+c / 8 % 9,c / 72 % 30):=by unfold sizesOf;rw [if_neg n1,if_neg n2,if_pos (by assumption)]
   rw [e] at k
   rename Led _ _=>hl
   exact k _ _ hl
  have n3 : ¬ c % 8=6:=by assumption
  refine K1.use ?_
  walk_at "cl"
  clear K1
  walk_at "ge"
  have e:sizesOf c=(1+c / 8 % 5,c / 40 % 6):=by unfold sizesOf;rw [if_neg n1,if_neg n2,if_neg n3]
  rw [e] at k
  rename Led _ _=>hl
  exact k _ _ hl
structure kK (S:SS) (us:List V) (M:Cells):Prop where
 l:us.length=S.F.hs.length
 no : ∀ i:Nat,S.F.hs[i]? = some none->us[i]? = some .aM
 th : ∀ (i:Nat) (t:Addr) (a:Th),S.F.hs[i]? = some (some (t,a))->∃ u,us[i]? = some (.ref u)/\(u,HO.tup (eV a))∈M
theorem Qw {H:Hp} {a:Th} {i:Nat} {x y:V} (h1:(eV a)[i]? = some x) (h2:(eV a)[i]? = some y):Alike H 0 x y:=by
 rw [h1] at h2
 cases h2
 have hm:=List.mem_of_getElem? h1
 cases a with
 | own m =>
   rcases List.mem_cons.mp hm with rfl | hm
   ·exact .inr (.inr (.inr ⟨_,rfl,rfl⟩))
   ·rw [List.mem_singleton.mp hm];exact .inr (.inr (.inl ⟨_,rfl,rfl⟩))
 | file z p =>
   rcases List.mem_cons.mp hm with rfl | hm
   ·exact .inr (.inr (.inr ⟨_,rfl,rfl⟩))
   ·rcases List.mem_cons.mp hm with rfl | hm
    ·exact .inr (.inr (.inr ⟨_,rfl,rfl⟩))
    ·rw [List.mem_singleton.mp hm];exact .inr (.inr (.inl ⟨_,rfl,rfl⟩))
theorem kK.alike {S:SS} {us:List V} {M L:Cells} {n q:Nat} {H:Hp} {p sp:Addr} (g:aU S n q M) (s:kK S us M) (hL:Led H L) (hM : ∀ c∈M,c∈L) (h1:H p=some (.lst (S.F.hs.map bq))) (h2:H sp=some (.lst us)):Alike H 2 (.ref p) (.ref sp):=by
 have gn:=g.n64
 have gl:=g.f.h
 refine .inr ⟨p,sp,_,_,rfl,rfl,.inl ⟨h1,h2⟩,by rw [List.length_map,s.l],by rw [s.l];omega,λ i x y hx hy => ?_⟩
 rw [List.getElem?_map] at hx
 obtain ⟨z,hz,rfl⟩:=Option.map_eq_some_iff.mp hx
 cases z with
 | none =>
   rw [s.no i hz] at hy
   cases hy
   exact .inl (.inl ⟨rfl,rfl⟩)
 | some z =>
   obtain ⟨u,hu,hc⟩:=s.th i z.1 z.2 hz
   rw [hu] at hy
   cases hy
   have hl:(eV z.2).length<=100000:=by
    cases z.2 with
    | own m=>show 2<=100000;decide
    | file w p=>show 3<=100000;decide
   exact .inr ⟨z.1,u,_,_,rfl,rfl,.inr ⟨hL.get (hM _ (g.f.th z.1 z.2 (List.mem_of_getElem? hz)).1),hL.get (hM _ hc)⟩,rfl,hl,λ j x' y' a b=>Qw a b⟩
theorem KY {H:Hp} {a b:Addr} {bs:List Bool} (h1:H a=some (.lst (bs.map V.bl))) (h2:H b=some (.lst (bs.map V.bl))) (hl:bs.length<=600):Alike H 2 (.ref a) (.ref b):=by
 refine .inr ⟨a,b,_,_,rfl,rfl,.inl ⟨h1,h2⟩,rfl,by rw [List.length_map];omega,λ i x y hx hy => ?_⟩
 rw [hx] at hy
 cases hy
 obtain ⟨v,_,rfl⟩:=List.mem_map.mp (List.mem_of_getElem? hx)
 exact .inl (.inr (.inl ⟨_,rfl,rfl⟩))
theorem aU.NR {S:SS} {n q:Nat} {M:Cells} (g:aU S n q M) {H:Hp} {a b:Addr} (h1:H a=some (.lst S.ps)) (h2:H b=some (.lst S.ps)):Alike H 2 (.ref a) (.ref b):=by
 have g6:=g.q6
 refine .inr ⟨a,b,_,_,rfl,rfl,.inl ⟨h1,h2⟩,rfl,by rw [g.pl];omega,λ i x y hx hy => ?_⟩
 rw [hx] at hy
 cases hy
 rcases g.pe x (List.mem_of_getElem? hx) with rfl | ⟨m,rfl⟩
 ·exact .inl (.inl ⟨rfl,rfl⟩)
 ·exact .inl (.inr (.inr (.inl ⟨_,rfl,rfl⟩)))
def tL (cT cF cD cS cI:Addr):Sp:=λ vs H Q _ => ∃ (S:SS) (n q:Nat) (sp mk sf:Addr) (us:List V) (M:Cells),vs = [.ref S.b,.ref sp,.ref mk,.ref sf,.int (S.p:Nat)]/\Led H (bg cT cF cD cS cI S M)/\aU S n q M/\(sp,HO.lst us)∈M/\(mk,HO.lst (S.bs.map V.bl))∈M/\(sf,HO.lst S.ps)∈M/\kK S us M ∧ ∀ (N:Cells) (H':Hp),Led H' (bg cT cF cD cS cI S (N++M))->Q (.bl true) H'
theorem Fe (D:Def K mg "_law_is_store" eO) (B:iV mg) (T:Txt K mg cU cA cB cC cT cF cD cS cI) (dJ:aR P w K mg base 1 cF "things" ["self"] (qY cF)) (DE:aR P w K mg base 1 cD "marks" ["self"] (Iq cD)) (yK:aR P w K mg base 1 cD "pointer" ["self"] (BJ cD)) (iP:aR P w K mg base 1 cS "sheets" ["self"] (yz cS)) (aN:cQ P w K mg base 4 "_law_alike" ["_law_found","_law_due"] (jk 2)):cQ P w K mg base 5 "_law_is_store" ["_law_store","_law_spots","_law_marks","_law_shelf","_law_pointer"] (tL cT cF cD cS cI):=by
 have sc:=oh
 refine D.ok oh (λ vs H Q E h => ?_) (λ _ _ _ _ _ _ us hl=>match us,hl with | [_,_,_,_,_],_=>rfl) (λ f cdv A outer s H vs Q E hr h => ?_)
 ·obtain ⟨_,_,_,_,_,_,_,_,rfl,_⟩:=h;rfl
 ·obtain ⟨S,n,q,sp,mk,sf,us,M,rfl,hL,g,RA,i_m,i_f,s1,k⟩:=h
  have gn:=g.n64
  have gl:=g.f.h
  have f1:=fX S
  have f2:=pP S
  have f3:=tH S
  have gO:=hL.get St.b
  have hF:=St.toF hL
  have jr:=hF.get mS
  refine ⟨_,(@af _ _ _ _ _ (@aS _ _ _ _ _ _ _ _ (@PW.pt _ _ _ (@pw_or _ _ _ _ _ _ _ (@bW _ _ _ _ (@aZ _ _ _ (@aA _ _ _ _ _ _ _ _ _ _ _ aN (hr.mono (by omega)) (by rfl) az (@aa _ _ _ _ _ (@dN _ _ _ _ _ _ _ _ _ _ _ _ _ T.Frames dJ (hr.mono (by omega)) az (@aB _ _ _ _ _ _ _ T.bz T.bL (@aq _ 0 _ _ (by walk_at "v")) (by rfl)) (by rfl)) (@aa _ _ _ _ _ (@aq _ 1 _ _ (by walk_at "v")) (@ak _) (by rfl)) (by rfl)) (by decide) (by rfl) (by rfl)) (by intro _;rfl))) (@pw_or1 _ _ _ _ (@bW _ _ _ _ (@aZ _ _ _ (@aA _ _ _ _ _ _ _ _ _ _ _ aN (hr.mono (by omega)) (by rfl) az (@aa _ _ _ _ _ (@dN _ _ _ _ _ _ _ _ _ _ _ _ _ T.kr DE (hr.mono (by omega)) az (@aB _ _ _ _ _ _ _ T.bz T.l7 (@aq _ 0 _ _ (by walk_at "v")) (by rfl)) (by rfl)) (@aa _ _ _ _ _ (@aq _ 2 _ _ (by walk_at "v")) (@ak _) (by rfl)) (by rfl)) (by decide) (by rfl) (by rfl)) (by intro _;rfl)))))) (@ao _ _ _ (@aE _ _ _ _ (@bP _ _ _ _))) (@aF _)) (@ao _ _ _ (@aE _ _ _ _ (@rB _ _ _ _ _ _ _ (@aA _ _ _ _ _ _ _ _ _ _ _ aN (hr.mono (by omega)) (by rfl) az (@aa _ _ _ _ _ (@dN _ _ _ _ _ _ _ _ _ _ _ _ _ T.fN iP (hr.mono (by omega)) az (@aB _ _ _ _ _ _ _ T.bz T.ko (@aq _ 0 _ _ (by walk_at "v")) (by rfl)) (by rfl)) (@aa _ _ _ _ _ (@aq _ 3 _ _ (by walk_at "v")) (@ak _) (by rfl)) (by rfl)) (by decide) (by rfl) (by rfl)) (@lK _ _ _ _ _ (@aA _ _ _ _ _ _ _ _ _ _ _ aN (hr.mono (by omega)) (by rfl) az (@aa _ _ _ _ _ (@dN _ _ _ _ _ _ _ _ _ _ _ _ _ T.kr yK (hr.mono (by omega)) az (@aB _ _ _ _ _ _ _ T.bz T.l7 (@aq _ 0 _ _ (by walk_at "v")) (by rfl)) (by rfl)) (@aa _ _ _ _ _ (@aq _ 4 _ _ (by walk_at "v")) (@ak _) (by rfl)) (by rfl)) (by decide) (by rfl) (by rfl))))))),?_⟩
  refine aG λ M1 K1 => ?_
  walk_at "ge"
  refine ⟨S.F,_,rfl,hF,by omega,λ qt H1 hl1 => ?_⟩
  have hl2:Led H1 ((qt,HO.lst (S.F.hs.map bq))::bg cT cF cD cS cI S M):=Led.perm hl1 (List.Perm.cons _ (aP (pR cF S.F) (zb cT S) (E9 cD S++(Fb cS S++(Du cI S++M)))))
  have hl3:=St.push hl2
  clear hl1 hF jr gO hL
  have UH:=hl2.get mS
  have dG:=hl2.get (mC (St.up RA))
  walk_at "ge"
  refine ⟨_,_,rfl,s1.alike g hl2 (λ c hc=>mC (St.up hc)) UH dG,?_⟩
  clear hl2
  have gO:=hl3.get St.b
  have hD:=St.toD hl3
  have KQ:=hD.get M7
  have Lj:=hD.get (Wd (cD:=cD))
  walk_at "ge"
  refine ⟨S.d,S.Lh,S.dm,(S.p:Int),S.bs,_,rfl,hl3,KQ,Lj,λ r H2 bZ => ?_⟩
  have cN:=St.push bZ
  have a2:=KY (bZ.get mS) (bZ.get (mC (St.up (mC i_m)))) (by rw [g.bl];omega)
  clear hD KQ Lj gO hl3 bZ
  walk_at "ge"
  refine ⟨_,_,rfl,a2,?_⟩
  walk_at "ge"
  refine K1.use ?_
  walk_at "cl"
  clear K1
  have gO:=cN.get St.b
  have hS:=St.toS cN
  have Ir:=hS.get Qf
  have yH:=hS.get XG
  walk_at "ge"
  refine ⟨S.sb,S.Ny,S.sl,S.sd,S.ps,_,rfl,cN,Ir,yH,λ r2 H3 cO => ?_⟩
  have fH:=St.push cO
  have a3:=g.NR (cO.get mS) (cO.get (mC (St.up (mC (mC i_f)))))
  clear hS Ir yH gO cN cO
  walk_at "ge"
  refine ⟨_,_,rfl,a3,?_⟩
  have gO:=fH.get St.b
  have hD:=St.toD fH
  have KQ:=hD.get M7
  walk_at "ge"
  refine ⟨S.d,S.Lh,S.dm,(S.p:Int),rfl,KQ,?_⟩
  walk_at "ge"
  refine ⟨_,_,rfl,.inl (.inr (.inr (.inl ⟨_,rfl,rfl⟩))),?_⟩
  walk_at "ge"
  exact k [(r2,_),(r,_),(qt,_)] _ fH
end
section
variable {P:Program} {w:World} {K:PySem.W.Frag} {mg:Str->Option Value} {base:Heap} {cU cA cB cC cT cF cD cS cI:Addr}
def off (p n g:Nat):Nat:=(g+n - p) % n
theorem NS {p n g:Nat} (h:p < n):off p n g < n:=Nat.mod_lt _ (by omega)
theorem NT {p n i:Nat} (hp:p < n) (hi:i < n):off p n ((p+i) % n)=i:=by
 unfold off
 by_cases h:p+i < n
 ·rw [Nat.mod_eq_of_lt h,show p+i+n - p=i+n by omega,Nat.add_mod_right,Nat.mod_eq_of_lt hi]
 ·rw [Nat.mod_eq_sub_mod (a:=p+i) (by omega),Nat.mod_eq_of_lt (a:=p+i - n) (by omega),show p+i - n+n - p=i by omega,Nat.mod_eq_of_lt hi]
theorem NU {p n g:Nat} (hp:p < n) (hg:g < n):(p+off p n g) % n=g:=by
 unfold off
 by_cases h:p<=g
 ·rw [show g+n - p=(g - p)+n by omega,Nat.add_mod_right,Nat.mod_eq_of_lt (a:=g - p) (by omega),show p+(g - p)=g by omega,Nat.mod_eq_of_lt hg]
 ·rw [Nat.mod_eq_of_lt (a:=g+n - p) (by omega),show p+(g+n - p)=g+n by omega,Nat.add_mod_right,Nat.mod_eq_of_lt hg]
theorem II {p n g:Nat} (hp:p < n):((g:Int) - (p:Int)) % (n:Int)=(off p n g:Nat):=by
 unfold off
 rw [Int.natCast_emod]
 rw [show ((g+n - p:Nat):Int)=((g:Int) - p)+n by omega,Int.add_emod_right]
abbrev ga (bs:List Bool) (g:Nat):Bool:=bs.getD g false
theorem HF {bs:List Bool} {f g:Nat} {b:Bool} (hf:f < bs.length):ga (bs.set f b) g=if g=f then b else ga bs g:=by
 unfold ga
 rw [List.getD_eq_getElem?_getD,List.getElem?_set,List.getD_eq_getElem?_getD]
 by_cases h:f=g
 ·rw [if_pos h,if_pos hf,if_pos h.symm];rfl
 ·rw [if_neg h,if_neg (λ e=>h e.symm)]
theorem NV {as bs:List Bool} (h:as.length=bs.length) (hg : ∀ g,g < bs.length->ga as g=ga bs g):as=bs:=by
 refine List.ext_getElem h λ i h1 h2 => ?_
 have:=hg i h2
 unfold ga at this
 rw [List.getD_eq_getElem?_getD,List.getD_eq_getElem?_getD,List.getElem?_eq_getElem h1,List.getElem?_eq_getElem h2] at this
 exact this
theorem IJ {bs:List Bool} {g:Nat} (h:g < bs.length):iT (bs.map L2.V.bl) ((g:Nat):Int)=some (.bl (ga bs g)):=by
 refine dz (by omega) ?_
 unfold ga
 rw [Int.toNat_natCast,List.getElem?_map,List.getElem?_eq_getElem h,List.getD_eq_getElem?_getD,List.getElem?_eq_getElem h]
 rfl
def Res (may bs:List Bool) (n p f:Nat) (bs':List Bool):Prop:=f < n/\ga may f=true/\bs'.length=n ∧
 ((ga bs f=false/\(∀ g,g < n->ga may g=true->off p n g < off p n f->ga bs g=true) ∧ ∀ g,g < n->ga bs' g=(ga bs g && !(ga may g && decide (off p n g < off p n f)))) ∨
  (ga bs f=true/\(∀ g,g < n->ga may g=true->ga bs g=true ∧ ¬ off p n g < off p n f) ∧ ∀ g,g < n->ga bs' g=(ga bs g && !ga may g)))
def Ph (may bs:List Bool) (n p i:Nat) (cur:List Bool):Prop :=
 (i < n/\(∀ g,g < n->ga cur g=(ga bs g && !(ga may g && decide (off p n g < i)))) ∧ ∀ g,g < n->ga may g=true->off p n g < i->ga bs g=true) ∨
 (n<=i/\(∀ g,g < n->ga cur g=(ga bs g && !ga may g)) ∧ ∀ g,g < n->ga may g=true->ga bs g=true ∧ ¬ off p n g < i - n)
theorem Ws {may bs cur:List Bool} {n p i:Nat} (hp:p < n) (hi:i<=n) (h1 : ∀ g,g < n->ga cur g=(ga bs g && !(ga may g && decide (off p n g < i)))) (h2 : ∀ g,g < n->ga may g=true->off p n g < i->ga bs g=true):Ph may bs n p i cur:=by
 by_cases h:i < n
 ·exact .inl ⟨h,h1,h2⟩
 ·have e:i=n:=by omega
  subst e
  refine .inr ⟨Nat.le_refl _,λ g hg => ?_,λ g hg hm=>⟨h2 g hg hm (NS hp),by omega⟩⟩
  rw [h1 g hg,decide_eq_true (NS hp),Bool.and_true]
theorem yL {may bs:List Bool} {n p f:Nat} {bs':List Bool} (hp:p < n) (hm:may.length=n) : ∀ (k i:Nat) (cur:List Bool),k+i=2 * n->cur.length=n->Ph may bs n p i cur->DR may k (p+i) cur=some (f,bs')->Res may bs n p f bs'
 | 0,_,_,_,_,_,h=>nomatch h
 | k+1,i,cur,hk,hc,hph,h=>by
   unfold DR at h
   rw [hm] at h
   rcases hph with ⟨hi,h1,h2⟩ | ⟨hi,h1,h2⟩
   ·have RB:(p+i) % n < n:=Nat.mod_lt _ (by omega)
    have ho:=NT hp hi
    have hat : ∀ g,g < n->off p n g=i->g=(p+i) % n:=λ g hg e=>by rw [<-e,NU hp hg]
    generalize (p+i) % n=g0 at h RB ho hat
    have hcb:ga cur g0=ga bs g0:=by rw [h1 g0 RB,ho];simp
    split at h
    ·rename_i hc2
     rw [Option.some.injEq,Prod.mk.injEq] at h
     rw [<-h.1,<-h.2]
     refine ⟨RB,hc2.1,hc,.inl ⟨by rw [<-hcb];exact hc2.2,λ g hg hmg hlt=>h2 g hg hmg (by rw [<-ho];exact hlt),λ g hg=>by rw [h1 g hg,ho]⟩⟩
    ·rename_i hc2
     refine yL hp hm k (i+1) _ (by omega) (by split <;> first | (rw [List.length_set];exact hc) | exact hc) (Ws hp (by omega) (λ g hg => ?_) λ g hg hmg hlt => ?_) h
     ·by_cases yy:ga may g0=true
      ·rw [if_pos yy,HF (by omega)]
       by_cases e:g=g0
       ·subst e
        rw [if_pos rfl,yy,ho,decide_eq_true (Nat.lt_succ_self _)];simp
       ·rw [if_neg e,h1 g hg]
        have:off p n g≠i:=λ q=>e (hat g hg q)
        rw [decide_eq_decide.mpr (show off p n g < i↔off p n g < i+1 by omega)]
      ·rw [if_neg yy,h1 g hg]
       by_cases e:g=g0
       ·subst e
        rw [Bool.eq_false_iff.mpr yy];simp
       ·have:off p n g≠i:=λ q=>e (hat g hg q)
        rw [decide_eq_decide.mpr (show off p n g < i↔off p n g < i+1 by omega)]
     ·by_cases e:off p n g=i
      ·have:=hat g hg e
       rw [this] at hmg ⊢
       rw [<-hcb]
       cases q:ga cur g0 with
       | true=>rfl
       | false=>exact absurd ⟨hmg,q⟩ hc2
      ·exact h2 g hg hmg (by omega)
   ·have hj:i - n < n:=by omega
    have e0:(p+i) % n=(p+(i - n)) % n:=by rw [show p+i=p+(i - n)+n by omega,Nat.add_mod_right]
    rw [e0] at h
    have RB:(p+(i - n)) % n < n:=Nat.mod_lt _ (by omega)
    have ho:=NT hp hj
    have hat : ∀ g,g < n->off p n g=i - n->g=(p+(i - n)) % n:=λ g hg e=>by rw [<-e,NU hp hg]
    generalize (p+(i - n)) % n=g0 at h RB ho hat
    by_cases yy:ga may g0=true
    ·have hcf:ga cur g0=false:=by rw [h1 g0 RB,yy];simp
     rw [if_pos ⟨yy,hcf⟩,Option.some.injEq,Prod.mk.injEq] at h
     rw [<-h.1,<-h.2]
     exact ⟨RB,yy,hc,.inr ⟨(h2 g0 RB yy).1,λ g hg hmg=>⟨(h2 g hg hmg).1,by rw [ho];exact (h2 g hg hmg).2⟩,h1⟩⟩
    ·rw [if_neg (λ q=>yy q.1),if_neg yy] at h
     have e2:p+i+1=p+(i+1):=by omega
     rw [e2] at h
     refine yL hp hm k (i+1) cur (by omega) hc (.inr ⟨by omega,h1,λ g hg hmg=>⟨(h2 g hg hmg).1,λ hlt => ?_⟩⟩) h
     have h3:=(h2 g hg hmg).2
     have e:off p n g=i - n:=by omega
     exact yy ((hat g hg e) ▸ hmg)
theorem Qx {may bs:List Bool} {p f:Nat} {bs':List Bool} (hm:may.length=bs.length) (hp:p < bs.length) (h:DR may (2 * may.length) p bs=some (f,bs')):Res may bs bs.length p f bs' :=
 yL hp hm (2 * may.length) 0 bs (by omega) rfl (.inl ⟨by omega,λ g hg=>by simp,λ g hg _ h=>by omega⟩) h
theorem HG {X:Cx} {K:PySem.W.Frag} (h:X.K=K):oF X (compareOp .In) (W2 K false):=h ▸ Jp
theorem St.yM {H:Hp} {S:SS} {M:Cells} (N L:Cells) (h:Led H (bg cT cF cD cS cI S (N++(L++M)))):Led H (L++bg cT cF cD cS cI S (N++M)):=by
 have e : ∀ X:Cells,bg cT cF cD cS cI S X=(zb cT S++(pR cF S.F++(E9 cD S++(Fb cS S++Du cI S))))++X:=λ X=>by unfold bg;simp only [List.append_assoc]
 rw [e] at h ⊢
 exact Led.perm h ((List.Perm.append_left _ (aP N L M)).trans (aP _ L _))
theorem St.gW {H:Hp} {S:SS} {M:Cells} (L:Cells) (h:Led H (L++bg cT cF cD cS cI S M)):Led H (bg cT cF cD cS cI S (L++M)):=by
 have e : ∀ X:Cells,bg cT cF cD cS cI S X=(zb cT S++(pR cF S.F++(E9 cD S++(Fb cS S++Du cI S))))++X:=λ X=>by unfold bg;simp only [List.append_assoc]
 rw [e] at h ⊢
 exact Led.perm h (aP L _ _)
theorem kK.mono {S:SS} {us:List V} {M M':Cells} (s:kK S us M) (up : ∀ c∈M,c∈M'):kK S us M':=⟨s.l,s.no,λ i t a h=>(s.th i t a h).imp λ u hu=>⟨hu.1,up _ hu.2⟩⟩
theorem kK.same {S S':SS} {us:List V} {M:Cells} (e:S'.F.hs=S.F.hs) (s:kK S us M):kK S' us M:=⟨by rw [e];exact s.l,λ i h=>s.no i (by rw [<-e];exact h),λ i t a h=>s.th i t a (by rw [<-e];exact h)⟩
theorem kK.out {S S':SS} {us:List V} {M:Cells} {i:Nat} (e:S'.F.hs=S.F.hs.set i none) (s:kK S us M):kK S' (us.set i .aM) M:=by
 refine ⟨by rw [e,List.length_set,List.length_set];exact s.l,λ j h => ?_,λ j t a h => ?_⟩
 ·rw [e,List.getElem?_set] at h
  rw [List.getElem?_set]
  by_cases z:i=j
  ·rw [if_pos z] at h ⊢
   by_cases y:i < S.F.hs.length
   ·rw [if_pos (by rw [s.l];exact y)]
   ·rw [if_neg y] at h
    cases h
  ·rw [if_neg z] at h ⊢
   exact s.no j h
 ·rw [e,List.getElem?_set] at h
  rw [List.getElem?_set]
  by_cases z:i=j
  ·rw [if_pos z] at h
   split at h <;> cases h
  ·rw [if_neg z] at h ⊢
   exact s.th j t a h
theorem kK.Wn {S S':SS} {us:List V} {M:Cells} {i:Nat} {t u:Addr} {a:Th} (e:S'.F.hs=S.F.hs.set i (some (t,a))) (hu:(u,HO.tup (eV a))∈M) (s:kK S us M):kK S' (us.set i (.ref u)) M:=by
 refine ⟨by rw [e,List.length_set,List.length_set];exact s.l,λ j h => ?_,λ j t' a' h => ?_⟩
 ·rw [e,List.getElem?_set] at h
  rw [List.getElem?_set]
  by_cases z:i=j
  ·rw [if_pos z] at h
   split at h <;> cases h
  ·rw [if_neg z] at h ⊢
   exact s.no j h
 ·rw [e,List.getElem?_set] at h
  rw [List.getElem?_set]
  by_cases z:i=j
  ·rw [if_pos z] at h ⊢
   by_cases y:i < S.F.hs.length
   ·rw [if_pos y] at h
    rw [if_pos (by rw [s.l];exact y)]
    cases h
    exact ⟨u,rfl,hu⟩
   ·rw [if_neg y] at h
    cases h
  ·rw [if_neg z] at h ⊢
   exact s.th j t' a' h
theorem RC {H:Hp} : ∀ {hs:List Hd} {us:List V},us.length=hs.length->(∀ i:Nat,hs[i]? = some none->us[i]? = some .aM)->(∀ (i:Nat) (t:Addr) (a:Th),hs[i]? = some (some (t,a))->∃ u,us[i]? = some (.ref u)/\H u=some (.tup (eV a)))->bU H us (PySem.W.kqdPs (hs.map λ x=>dY (lG x)))
 | [],[],_,_,_ => .nil
 | [],_::_,hl,_,_=>nomatch hl
 | _::_,[],hl,_,_=>nomatch hl
 | x::hs,u::us,hl,h1,h2=>by
   rw [List.map_cons,PySem.W.kqdPs]
   refine .cons ?_ (RC (Nat.succ.inj hl) (λ i h=>h1 (i+1) h) (λ i t a h=>h2 (i+1) t a h))
   cases x with
   | none =>
     have h3:some u=some V.aM:=h1 0 rfl
     cases h3
     show dZ H .aM (PySem.W.kqdP .none)
     rw [PySem.W.kqdP]
     exact .aM
   | some x =>
     obtain ⟨w,e,hw⟩:=h2 0 x.1 x.2 rfl
     have e':some u=some (V.ref w):=e
     cases e'
     exact pN hw
theorem kK.dat {S:SS} {us:List V} {M L:Cells} {H:Hp} (s:kK S us M) (hL:Led H L) (hM : ∀ c∈M,c∈L):bU H us (PySem.W.kqdPs (S.F.hs.map λ x=>dY (lG x))):=RC s.l s.no λ i t a h=>(s.th i t a h).imp λ _ hu=>⟨hu.1,hL.get (hM _ hu.2)⟩
theorem aU.KZ {S:SS} {n q:Nat} {M:Cells} (g:aU S n q M) : ∀ e∈S.F.hs.map (λ x=>dY (lG x)),PySem.W.kqdOk 7 e=true:=λ e he=>by
 obtain ⟨y,hy,rfl⟩:=List.mem_map.mp he
 refine vI (λ a ha => ?_) 6
 cases y with
 | none=>cases ha
 | some y=>cases ha;exact (g.f.th y.1 y.2 hy).2
end
section
variable {P:Program} {w:World} {K:PySem.W.Frag} {mg:Str->Option Value} {base:Heap} {cU cA cB cC cT cF cD cS cI:Addr}
theorem gG.lt {N:Cells} {S S1:SS} {n q i:Nat} {M:Cells} (g:aU S n q M) (h:gG N S n i S1):i < n:=by
 rw [<-g.f.h]
 rcases h with ⟨h,_⟩ | ⟨_,_,_,_,_,h,_⟩
 ·exact (List.getElem?_eq_some_iff.mp h).1
 ·exact (List.getElem?_eq_some_iff.mp h).1
def HH:Sp:=λ vs H Q _ => ∃ (S S1:SS) (n q i:Nat) (sp mk sf:Addr) (us:List V) (M L N0:Cells),vs = [.ref sp,.ref mk,.ref sf,.int (S.p:Nat),.int (i:Nat)]/\Led H ((sp,.lst us)::(mk,.lst (S.bs.map V.bl))::(sf,.lst S.ps)::L)/\(∀ c∈M,c∈L)/\aU S n q M/\kK S us M/\gG N0 S n i S1 ∧ ∀ (us':List V) (N:Cells) (H':Hp),kK S1 us' M->Led H' ((sp,.lst us')::(mk,.lst (S1.bs.map V.bl))::(sf,.lst S1.ps)::(N++L))->Q (.int (S1.p:Nat)) H'
theorem Qy (D:Def K mg "_law_goes" jH) (B:iV mg) (T:Txt K mg cU cA cB cC cT cF cD cS cI) (dF:cQ P w K mg base 1 "_law_whole" ["_law_found"] vJ):cQ P w K mg base 2 "_law_goes" ["_law_spots","_law_marks","_law_shelf","_law_pointer","_law_found"] HH:=by
 have sc:=BB
 refine D.ok BB (λ vs H Q E h => ?_) (λ _ _ _ _ _ _ us hl=>match us,hl with | [_,_,_,_,_],_=>rfl) (λ f cdv A outer s H vs Q E hr h => ?_)
 ·obtain ⟨_,_,_,_,_,_,_,_,_,_,_,_,rfl,_⟩:=h;rfl
 ·obtain ⟨S,S1,n,q,i,sp,mk,sf,us,M,L,N0,rfl,hL,hML,g,s1,Ba,k⟩:=h
  have hin:=Ba.lt g
  have hsz:=sizeLine_eq
  have n64:=g.n64
  have ul:us.length=n:=s1.l.trans g.f.h
  have IK : ∀ c∈M,c∈(sp,HO.lst us)::(mk,HO.lst (S.bs.map V.bl))::(sf,HO.lst S.ps)::L:=λ c hc=>mC (mC (mC (hML c hc)))
  have dG:=hL.get mS
  have d2:=s1.dat hL IK
  have d1:dZ H .aM (PySem.W.kqdP (dY none)):=by show dZ H .aM (PySem.W.kqdP .none);rw [PySem.W.kqdP];exact .aM
  have o1:PySem.W.kqdOk 8 (dY none)=true:=rfl
  have o2:=g.KZ
  refine ⟨_,(@af _ _ _ _ _ (@aS _ _ _ _ _ _ _ _ (@PW.pt _ _ _ (@pw_or _ _ _ _ _ _ _ (@bW _ _ _ _ (@aZ _ _ _ (@aA _ _ _ _ _ _ _ _ _ _ _ dF (hr.mono (by omega)) (by rfl) az (@aa _ _ _ _ _ (@aq _ 4 _ _ (by walk_at "v")) (@ak _) (by rfl)) (by decide) (by rfl) (by rfl)) (by intro _;rfl))) (@pw_or1 _ _ _ _ (@bW _ _ _ _ (@LM _ _ _ _ _ _ _ _ _ _ _ _ U1 vU (@aj _ _ _ _) (@aq _ 4 _ _ (by walk_at "v")) (@aH _ _ _ _ _ _ _ _ _ aL (by rfl) B.len bw (@aa _ _ _ _ _ (@aq _ 0 _ _ (by walk_at "v")) (@ak _) (by rfl)) (by decide) (by decide) (by rfl) (by rfl)) (by with_unfolding_all rfl)))))) (@ao _ _ _ (@aE _ _ _ _ (@gQ _ _ _ _ _ _ eU (@aj _ _ _ _)))) (@aF _)) (@af _ _ _ _ _ (@aS _ _ _ _ _ _ _ _ (@aK _ _ _ _ _ _ _ _ (Mm hr.units) (@bJ _ _ _) (@aq _ 0 _ _ (by walk_at "v")) (by with_unfolding_all rfl)) (@af _ _ _ _ _ (@aS _ _ _ _ _ _ _ _ (@aK _ _ _ _ _ _ _ _ b9 (@aq _ 4 _ _ (by walk_at "v")) (@nP _ _ _ _ _ _ _ _ _ _ _ _ PySem.F.plainAttrs_list PySem.F.slot_list_index PySem.F.type_list_index (jA hr.units) (@aq _ 0 _ _ (by walk_at "v")) (@aa _ _ _ _ _ (@bJ _ _ _) (@ak _) (by rfl)) (by rfl) (by rfl) (by rfl) (by rfl) (by rfl)) (aQ _)) (@ao _ _ _ (@aE _ _ _ _ (@aq _ 3 _ _ (by walk_at "v")))) (@aF _)) (@ao _ _ _ (@aE _ _ _ _ (@gQ _ _ _ _ _ _ eU (@aj _ _ _ _))))) (@aF _)) (@af _ _ _ _ _ (@iE _ _ "_law_thing" _ _ _ _ _ _ _ _ _ _ 5 _ _ rfl rfl rfl rfl OM (cz (by kernel_rfl)) (@fK _ _ _ _ (@aq _ 0 _ _ (by walk_at "v"))) (λ _ _ _ _=>(@kc _)) (λ _ _ _ _=>(@Q0 _ _ _ _ _ _ _ (@fM _ _ _ _ _ _ _ _ b9 (@aX _ _ _ _ _ _ _ aO (@pk _ 0 _ _ (by kernel_rfl) (by kernel_rfl) (by decide) (by decide)) (@aj _ _ _ _) (λ _ _=>rfl)) (@bV _ _ _ _) (aQ _)) (@lK _ _ _ _ _ (@fM _ _ _ _ _ _ _ _ (HG (K:=K) rfl) (@bJ _ _ _) (@pk _ 3 _ _ (by kernel_rfl) (by kernel_rfl) (by decide) (by decide)) (by with_unfolding_all rfl))))) sc.nd rfl (by walk_at "o2") (by intro _;rfl) (by rfl) (by walk_at "o4")) (@af _ _ _ _ _ (@aI _ _ 6 _ _ _ _ sc.nd rfl (by walk_at "o2") (@av _ _ _ _ _ _ _ _ aJ (@av _ _ _ _ _ _ _ _ fL (@aq _ 4 _ _ (by walk_at "v")) (@aq _ 3 _ _ (by walk_at "v"))) (@aH _ _ _ _ _ _ _ _ _ aL (by rfl) B.len bw (@aa _ _ _ _ _ (@aq _ 0 _ _ (by walk_at "v")) (@ak _) (by rfl)) (by decide) (by decide) (by rfl) (by rfl))) (by rfl) (by walk_at "o4")) (@af _ _ _ _ _ (@aI _ _ 7 _ _ _ _ sc.nd rfl (by walk_at "o2") (@aX _ _ _ _ _ _ _ aO (@aq _ 1 _ _ (by walk_at "v")) (@aq _ 4 _ _ (by walk_at "v")) (λ _ _=>rfl)) (by rfl) (by walk_at "o4")) (@af _ _ _ _ _ (@aS _ _ _ _ _ _ _ _ (@bW _ _ _ _ (@aZ _ _ _ (@aX _ _ _ _ _ _ _ aO (@aq _ 5 _ _ (by walk_at "v")) (@aq _ 4 _ _ (by walk_at "v")) (λ _ _=>rfl)) (by intro _;rfl))) (@ao _ _ _ (@aE _ _ _ _ (@gQ _ _ _ _ _ _ eU (@aj _ _ _ _)))) (@aF _)) (@af _ _ _ _ _ (@iD _ _ _ _ _ _ _ _ PassesOwn.never rfl (@ck _ _ _ _ _ _ (by rfl) B.range (@aa _ _ _ _ _ (@aH _ _ _ _ _ _ _ _ _ aL (by rfl) B.len bw (@aa _ _ _ _ _ (@aq _ 0 _ _ (by walk_at "v")) (@ak _) (by rfl)) (by decide) (by decide) (by rfl) (by rfl)) (@ak _) (by rfl)) (by rfl)) (@d9 _ _ 8 _ sc.nd rfl (by walk_at "o2") (by walk_at "o4")) (@af _ _ _ _ _ (@aI _ _ 9 _ _ _ _ sc.nd rfl (by walk_at "o2") (@fM _ _ _ _ _ _ _ _ vU (@av _ _ _ _ _ _ _ _ aJ (@av _ _ _ _ _ _ _ _ fL (@aq _ 8 _ _ (by walk_at "v")) (@aq _ 3 _ _ (by walk_at "v"))) (@aH _ _ _ _ _ _ _ _ _ aL (by rfl) B.len bw (@aa _ _ _ _ _ (@aq _ 0 _ _ (by walk_at "v")) (@ak _) (by rfl)) (by decide) (by decide) (by rfl) (by rfl))) (@aq _ 6 _ _ (by walk_at "v")) (aQ _)) (by rfl) (by walk_at "o4")) (@af _ _ _ _ _ (@aS _ _ _ _ _ _ _ _ (@PW.pt _ _ _ (@pw_and _ _ _ _ _ _ _ (@aZ _ _ _ (@aX _ _ _ _ _ _ _ aO (@aq _ 5 _ _ (by walk_at "v")) (@aq _ 8 _ _ (by walk_at "v")) (λ _ _=>rfl)) (by intro _;rfl)) (@pw_and _ _ _ _ _ _ _ (@aZ _ _ _ (@aq _ 9 _ _ (by walk_at "v")) (by intro _;rfl)) (@pw_and1 _ _ _ _ (@aZ _ _ _ (@aq _ 7 _ _ (by walk_at "v")) (by intro _;rfl)))))) (@ao _ _ _ (@aE _ _ _ _ (@gQ _ _ _ _ _ _ eU (@aj _ _ _ _)))) (@aF _)) (@ao _ _ _ (@aS _ _ _ _ _ _ _ _ (@PW.pt _ _ _ (@pw_and _ _ _ _ _ _ _ (@aZ _ _ _ (@aX _ _ _ _ _ _ _ aO (@aq _ 5 _ _ (by walk_at "v")) (@aq _ 8 _ _ (by walk_at "v")) (λ _ _=>rfl)) (by intro _;rfl)) (@pw_and1 _ _ _ _ (@PW.pt _ _ _ (@pw_or _ _ _ _ _ _ _ (@aZ _ _ _ (@aq _ 9 _ _ (by walk_at "v")) (by intro _;rfl)) (@pw_or1 _ _ _ _ (@aZ _ _ _ (@aq _ 7 _ _ (by walk_at "v")) (by intro _;rfl)))))))) (@af _ _ _ _ _ (@aS _ _ _ _ _ _ _ _ (@bW _ _ _ _ (@aZ _ _ _ (@aX _ _ _ _ _ _ _ aO (@aq _ 1 _ _ (by walk_at "v")) (@aq _ 8 _ _ (by walk_at "v")) (λ _ _=>rfl)) (by intro _;rfl))) (@ao _ _ _ (@aE _ _ _ _ (@gQ _ _ _ _ _ _ eU (@aj _ _ _ _)))) (@aF _)) (@ao _ _ _ (@bF _ _ _ _ _ _ (@bP _ _ _ _) (@bG _ _ _ _ _ _ _ (@aq _ 1 _ _ (by walk_at "v")) (@aq _ 8 _ _ (by walk_at "v")) set_list (by intro _;rfl)) (by rfl) (by rfl) (by rfl)))) (@aF _))))) (by intro _;rfl)) (@af _ _ _ _ _ (@aS _ _ _ _ _ _ _ _ (@aK _ _ _ _ _ _ _ _ b9 (@aX _ _ _ _ _ _ _ aO (@aX _ _ _ _ _ _ _ aO (@aq _ 0 _ _ (by walk_at "v")) (@aq _ 4 _ _ (by walk_at "v")) (λ _ _=>rfl)) (@aj _ _ _ _) (λ _ _=>rfl)) (@bV _ _ _ _) (aQ _)) (@ao _ _ _ (@bF _ _ _ _ _ _ (@aX _ _ _ _ _ _ _ aO (@aX _ _ _ _ _ _ _ aO (@aq _ 0 _ _ (by walk_at "v")) (@aq _ 4 _ _ (by walk_at "v")) (λ _ _=>rfl)) (@aj _ _ _ _) (λ _ _=>rfl)) (@bG _ _ _ _ _ _ _ (@aq _ 2 _ _ (by walk_at "v")) (@nP _ _ _ _ _ _ _ _ _ _ _ _ PySem.F.plainAttrs_list PySem.F.slot_list_index PySem.F.type_list_index lX (@aq _ 2 _ _ (by walk_at "v")) (@aa _ _ _ _ _ (@bJ _ _ _) (@ak _) (by rfl)) (by rfl) (by rfl) (by rfl) (by rfl) (by rfl)) set_list (by intro _;rfl)) (by rfl) (by rfl) (by rfl))) (@aF _)) (@af _ _ _ _ _ (@bF _ _ _ _ _ _ (@bJ _ _ _) (@bG _ _ _ _ _ _ _ (@aq _ 0 _ _ (by walk_at "v")) (@aq _ 4 _ _ (by walk_at "v")) set_list (by intro _;rfl)) (by rfl) (by rfl) (by rfl)) (@ao _ _ _ (@aE _ _ _ _ (@av _ _ _ _ _ _ _ _ aJ (@av _ _ _ _ _ _ _ _ aT (@aq _ 4 _ _ (by walk_at "v")) (@aj _ _ _ _)) (@aH _ _ _ _ _ _ _ _ _ aL (by rfl) B.len bw (@aa _ _ _ _ _ (@aq _ 0 _ _ (by walk_at "v")) (@ak _) (by rfl)) (by decide) (by decide) (by rfl) (by rfl)))))))))))))),?_⟩
  refine aG λ M1 K1 => ?_
  walk_at "ge"
  refine ⟨_,rfl,?_⟩
  walk_at "ge"
  simp only [Bg,LL]
  walk_at "ge"
  all_goals first | (exfalso;omega) | skip
  refine K1.use ?_
  walk_at "cl"
  clear K1
  refine aG λ M1 K1 => ?_
  walk_at "ge"
  rcases Ba with ⟨h1,h2,rfl⟩ | ⟨hall,bs',t,a,hgo,hi,Li⟩
  ·refine wC (neg:=false) (b:=true) dG d1 d2 o1 o2 (iff_of_true rfl (List.mem_map.mpr ⟨none,List.mem_of_getElem? h1,rfl⟩)) ?_
   rw [if_neg Bool.false_ne_true]
   walk_at "ge"
   refine ⟨zo dG,?_⟩
   walk_at "ge"
   refine Et dG d1 d2 o1 o2 (j:=i) (by rw [List.getElem?_map,h1];rfl) (λ m e hm he => ?_) ?_
   ·rw [List.getElem?_map] at he
    obtain ⟨z,hz,rfl⟩:=Option.map_eq_some_iff.mp he
    refine λ w=>h2 m z hm hz ?_
    cases z with
    | none=>rfl
    | some z=>exact nomatch (fV.mp w)
   ·walk_at "ge"
    all_goals first | (exfalso;omega) | skip
    exact k us [] _ s1 hL
  ·have hnot:dY none ∉ S.F.hs.map λ x=>dY (lG x):=λ hm=>by
    obtain ⟨y,hy,e⟩:=List.mem_map.mp hm
    refine hall y hy ?_
    have e2:=fV.mp e
    cases y with
    | none=>rfl
    | some y=>cases e2
   refine wC (neg:=false) (b:=false) dG d1 d2 o1 o2 (iff_of_false Bool.false_ne_true hnot) ?_
   walk_at "ge"
   refine K1.use ?_
   walk_at "cl"
   clear K1 d1 d2 o1 o2
   have ml:(dh S).length=n:=by unfold dh;rw [List.length_map];exact g.f.h
   have vL:=g.bl
   have hpn:=g.pn
   have res:Res (dh S) S.bs S.bs.length S.p i bs':=Qx (by rw [ml,vL]) (by rw [vL];exact hpn) (by rw [ml];exact hgo)
   obtain ⟨hfl,hmf,Wt,hres⟩:=res
   obtain ⟨u,hu,cu⟩:=s1.th i t a hi
   have fbs:bs'.set i false=bs':=by
    have e0:ga bs' i=false:=by
     rcases hres with ⟨h1,_,h3⟩ | ⟨h1,_,h3⟩
     ·rw [h3 i hfl,h1];rfl
     ·rw [h3 i hfl,hmf];simp
    refine NV (List.length_set ..) λ g hg => ?_
    rw [HF (by omega)]
    by_cases e:g=i
    ·rw [if_pos e,e,e0]
    ·rw [if_neg e]
   refine aG λ M1 K1 => ?_
   walk_at "ge"
   refine qb λ Lc kG => ?_
   walk_at "ge"
   refine ⟨sp,rfl,⟨_,fj.of dG⟩,kG.use ?_⟩
   clear kG
   refine nj us (λ j v C=>C = [] ∧ ∃ b,(dh S)[j]? = some b/\v = .bl b) hL List.mem_cons_self (by rw [ul];omega) (λ j y H2 R N hy hl2 hR => ?_) (λ pm vs Cs H2 hv hc hG hl2 => ?_)
   ·have hj:j < n:=by rw [<-ul];exact (List.getElem?_eq_some_iff.mp hy).1
    obtain ⟨x,hx⟩ : ∃ x,S.F.hs[j]? = some x:=⟨_,List.getElem?_eq_getElem (by rw [g.f.h];exact hj)⟩
    cases x with
    | none=>exact absurd rfl (hall none (List.mem_of_getElem? hx))
    | some x =>
      obtain ⟨v,hv,cv⟩:=s1.th j x.1 x.2 hx
      rw [hv] at hy
      cases hy
      have UG:=hl2.get (mA (IK _ cv))
      have jr:=hl2.get (mA (mC (mC mS)))
      have hm:=kI (t:=x.1) (a:=x.2) hx
      obtain ⟨t2,a2⟩:=x
      cases a2 with
      | own m =>
        have ade:H2 v=some (.tup [.str (Str.ofString "own"),.int m]):=UG
        clear UG
        have hne : ¬ Str.ofString "own" = Str.ofString "file" := by decide +kernel
        walk_at "ge"
        ·exact absurd (by assumption) hne
        refine Px jr rfl g.flat ?_
        exact hR _ _ [] ⟨rfl,_,hm,rfl⟩ hl2
      | file z p =>
        have ade:H2 v=some (.tup [.str (Str.ofString "file"),.str z,.int p]):=UG
        clear UG
        walk_at "ge"
        ·exact hR _ _ [] ⟨rfl,_,hm,rfl⟩ hl2
        ·exact absurd rfl (by assumption)
   ·rw [ul] at hv hc
    have hvs:=NF (by rw [hv,ml]) λ j v hj=>by
     have hlt:j < Cs.length:=by have:=(List.getElem?_eq_some_iff.mp hj).1;omega
     exact (hG j v _ hj (List.getElem?_eq_getElem hlt)).2
    have hcs:Cs.flatten = []:=by
     rw [List.flatten_eq_nil_iff]
     intro C hC
     obtain ⟨j,hj⟩:=List.getElem?_of_mem hC
     have hlt:j < vs.length:=by have:=(List.getElem?_eq_some_iff.mp hj).1;omega
     exact (hG j _ C (List.getElem?_eq_getElem hlt) hj).1
    rw [hvs,hcs] at hl2
    have hl3:Led H2 ((pm,.lst ((dh S).map V.bl))::(sp,.lst us)::(mk,.lst (S.bs.map V.bl))::(sf,.lst S.ps)::L):=hl2
    clear hl2 hG hvs hcs hL dG
    walk_at "ge"
    refine K1.use ?_
    walk_at "cl"
    clear K1
    have dG:=hl3.get (mC mS)
    have Lj:=hl3.get (mC (mC mS))
    have RD:=hl3.get mS
    refine aG λ M1 K1 => ?_
    walk_at "ge"
    rw [ul,II hpn]
    refine K1.use ?_
    walk_at "cl"
    clear K1
    obtain ⟨bf,hbf⟩ : ∃ b,ga S.bs i=b:=⟨_,rfl⟩
    have a3:=IJ (bs:=S.bs) (g:=i) (by omega)
    rw [hbf] at a3
    have a4:=IJ (bs:=dh S) (g:=i) (by omega)
    rw [hmf] at a4
    refine aG λ M1 K1 => ?_
    walk_at "ge"
    refine K1.use ?_
    walk_at "cl"
    clear K1 Lj a3
    refine aG λ M1 K1 => ?_
    walk_at "ge"
    refine K1.use ?_
    walk_at "cl"
    clear K1 RD a4
    refine aG λ M1 K1 => ?_
    refine nQ λ Lr mZ => ?_
    walk_at "ge"
    refine ⟨_,rfl,by omega,by omega,mZ.use ?_⟩
    clear mZ dG
    rw [show ((us.length:Int)).toNat=n by omega]
    rw [vL] at hfl Wt hres
    refine nR (λ j σ H' => ∃ cur:List Bool,Led H' ((pm,.lst ((dh S).map V.bl))::(sp,.lst us)::(mk,.lst (cur.map V.bl))::(sf,.lst S.ps)::L)/\cur.length=n/\(∀ g,g < n->ga cur g=if g < j then ga bs' g else ga S.bs g) ∧ ∃ v1 v2,σ = [some (.ref sp),some (.ref mk),some (.ref sf),some (.int (S.p:Nat)),some (.int (i:Nat)),some (.ref pm),some (.int (off S.p n i:Nat)),some (.bl bf),v1,v2]) ⟨S.bs,hl3,vL,λ g _=>by rw [if_neg (Nat.not_lt_zero _)],_,_,rfl⟩ ?_ ?_
    ·clear hl3 K1 k
     rintro j σ H' hj ⟨cur,hl',hcu,hg,v1,v2,rfl⟩
     have RD:=hl'.get mS
     have dG:=hl'.get (mC mS)
     have Lj:=hl'.get (mC (mC mS))
     have e0:(0+(j:Int))=((j:Nat):Int):=by omega
     have a1:=IJ (bs:=dh S) (g:=j) (by omega)
     have a2:=IJ (bs:=cur) (g:=j) (by omega)
     rw [hg j hj,if_neg (Nat.lt_irrefl _)] at a2
     rw [<-e0] at a1 a2
     refine aG λ M2 K2 => ?_
     walk_at "ge"
     have eo:(0+(j:Int) - (S.p:Int)) % (n:Int)=(off S.p n j:Nat):=by rw [e0];exact II hpn
     rw [ul,eo]
     obtain ⟨ah,hah⟩ : ∃ b:Bool,decide (((off S.p n j:Nat):Int) < ((off S.p n i:Nat):Int))=b:=⟨_,rfl⟩
     rw [hah]
     have TM:ah=decide (off S.p n j < off S.p n i):=by rw [<-hah];exact decide_eq_decide.mpr (by omega)
     refine K2.use ?_
     walk_at "cl"
     clear K2 hah dG
     obtain ⟨my,yy⟩ : ∃ b,ga (dh S) j=b:=⟨_,rfl⟩
     obtain ⟨bi,hbi⟩ : ∃ b,ga S.bs j=b:=⟨_,rfl⟩
     rw [yy] at a1
     rw [hbi] at a2
     have stay:ga bs' j=ga S.bs j->∃ cur:List Bool,Led H' ((pm,.lst ((dh S).map V.bl))::(sp,.lst us)::(mk,.lst (cur.map V.bl))::(sf,.lst S.ps)::L)/\cur.length=n/\(∀ g,g < n->ga cur g=if g < j+1 then ga bs' g else ga S.bs g) ∧ ∃ v1 v2,[some (V.ref sp),some (.ref mk),some (.ref sf),some (.int (S.p:Nat)),some (.int (i:Nat)),some (.ref pm),some (.int (off S.p n i:Nat)),some (.bl bf),some (.int (0+(j:Int))),some (.bl ah)] = [some (.ref sp),some (.ref mk),some (.ref sf),some (.int (S.p:Nat)),some (.int (i:Nat)),some (.ref pm),some (.int (off S.p n i:Nat)),some (.bl bf),v1,v2]:=λ he=>by
      refine ⟨cur,hl',hcu,λ g XJ => ?_,_,_,rfl⟩
      rw [hg g XJ]
      by_cases e:g=j
      ·subst e;rw [if_neg (Nat.lt_irrefl _),if_pos (Nat.lt_succ_self _),he]
      ·by_cases h:g < j
       ·rw [if_pos h,if_pos (by omega)]
       ·rw [if_neg h,if_neg (by omega)]
     have turn:ga bs' j=false->∃ TN:List Bool,Led (upd H' mk (.lst ((cur.set (0+(j:Int)).toNat false).map V.bl))) ((pm,.lst ((dh S).map V.bl))::(sp,.lst us)::(mk,.lst (TN.map V.bl))::(sf,.lst S.ps)::L)/\TN.length=n/\(∀ g,g < n->ga TN g=if g < j+1 then ga bs' g else ga S.bs g) ∧ ∃ v1 v2,[some (V.ref sp),some (.ref mk),some (.ref sf),some (.int (S.p:Nat)),some (.int (i:Nat)),some (.ref pm),some (.int (off S.p n i:Nat)),some (.bl bf),some (.int (0+(j:Int))),some (.bl ah)] = [some (.ref sp),some (.ref mk),some (.ref sf),some (.int (S.p:Nat)),some (.int (i:Nat)),some (.ref pm),some (.int (off S.p n i:Nat)),some (.bl bf),v1,v2]:=λ he=>by
      refine ⟨cur.set (0+(j:Int)).toNat false,hl'.gB 2 rfl rfl rfl,by rw [List.length_set];exact hcu,λ g XJ => ?_,_,_,rfl⟩
      rw [show (0+(j:Int)).toNat=j by omega,HF (by omega)]
      by_cases e:g=j
      ·subst e;rw [if_pos rfl,if_pos (Nat.lt_succ_self _),he]
      ·rw [if_neg e,hg g XJ]
       by_cases h:g < j
       ·rw [if_pos h,if_pos (by omega)]
       ·rw [if_neg h,if_neg (by omega)]
     rcases hres with ⟨hf,h1,h2⟩ | ⟨hf,h1,h2⟩
     ·have e1:bf=false:=by rw [<-hbf];exact hf
      subst e1
      have hv:=h2 j hj
      rw [yy,hbi,<-TM] at hv
      cases my with
      | false =>
        walk_at "ge"
        exact stay (by rw [hv,hbi];simp)
      | true =>
        cases ah with
        | false =>
          walk_at "ge"
          exact stay (by rw [hv,hbi];simp)
        | true =>
          have hb1:=h1 j hj yy (of_decide_eq_true TM.symm)
          have e2:bi=true:=by rw [<-hbi];exact hb1
          subst e2
          walk_at "ge"
          refine cg Lj (bD (by omega) (by rw [List.length_map];omega)) ?_
          rw [ue]
          walk_at "ge"
          exact turn (by rw [hv];rfl)
     ·have e1:bf=true:=by rw [<-hbf];exact hf
      subst e1
      have hv:=h2 j hj
      rw [yy,hbi] at hv
      cases my with
      | false =>
        cases ah <;> walk_at "ge" <;> exact stay (by rw [hv,hbi];simp)
      | true =>
        obtain ⟨hb1,hb2⟩:=h1 j hj yy
        have e2:bi=true:=by rw [<-hbi];exact hb1
        subst e2
        have e3:ah=false:=by rw [TM];exact decide_eq_false hb2
        subst e3
        walk_at "ge"
        refine cg Lj (bD (by omega) (by rw [List.length_map];omega)) ?_
        rw [ue]
        walk_at "ge"
        exact turn (by rw [hv];rfl)
    ·rintro σ H' ⟨cur,hl',hcu,hg,v1,v2,rfl⟩
     have e:cur=bs':=NV (by rw [hcu,Wt]) λ g XJ=>by rw [hg g (by omega),if_pos (by omega)]
     subst e
     walk_at "ge"
     refine K1.use ?_
     walk_at "cl"
     clear K1 hl3
     have dG:=hl'.get (mC mS)
     have jr:=hl'.get (mC (mC (mC mS)))
     have lH:=hl'.get (mC (mC (mC (mC (hML _ cu)))))
     have au:iT us ((i:Nat):Int)=some (.ref u):=dz (by omega) (by rw [Int.toNat_natCast];exact hu)
     refine aG λ M1 K1 => ?_
     have rest : ∀ (ps':List V) (H3:Hp),S1.ps=ps'->S1.bs=cur->S1.p=(i+1) % n->Led H3 ((pm,.lst ((dh S).map V.bl))::(sp,.lst us)::(mk,.lst (cur.map V.bl))::(sf,.lst ps')::L)->M1 [some (V.ref sp),some (.ref mk),some (.ref sf),some (.int (S.p:Nat)),some (.int (i:Nat)),some (.ref pm),some (.int (off S.p n i:Nat)),some (.bl bf),v1,v2] H3:=by
      intro ps' H3 e1 e2 e3 bZ
      refine K1.use ?_
      clear K1 hl' dG jr lH
      have dG:=bZ.get (mC mS)
      refine aG λ M2 K2 => ?_
      walk_at "ge"
      refine cg dG (bD (by omega) (by omega)) ?_
      rw [Int.toNat_natCast]
      have cN:=bZ.gB (o' := .lst (us.set i .aM)) 1 rfl rfl rfl
      generalize upd H3 sp (.lst (us.set i .aM))=H5 at cN ⊢
      clear dG bZ
      have cO:Led H5 ((pm,.lst ((dh S).map V.bl))::(sp,.lst (us.set i .aM))::(mk,.lst (cur.map V.bl))::(sf,.lst ps')::L):=cN
      have dG:=cO.get (mC mS)
      clear cN
      walk_at "ge"
      refine K2.use ?_
      walk_at "cl"
      clear K2
      walk_at "ge"
      rw [List.length_set,ul]
      have hn0:(0:Int) < (n:Int):=by omega
      walk_at "ge"
      have e4:((i:Int)+1) % (n:Int)=((i+1) % n:Nat):=by simp
      rw [e4,<-e3]
      refine k (us.set i .aM) [(pm,.lst ((dh S).map V.bl))] H5 (kK.out (S:=S) Li.hs.1 s1) ?_
      rw [e1,e2]
      exact Led.perm cO (aP [(pm,HO.lst ((dh S).map V.bl))] [(sp,HO.lst (us.set i .aM)),(mk,HO.lst (cur.map V.bl)),(sf,HO.lst ps')] L)
     clear K1
     cases a with
     | own m =>
       obtain ⟨r,row,b,_,j5⟩:=Li
       have tM:H' u=some (.tup [.str (Str.ofString "own"),.int m]):=lH
       clear lH
       have hnn:p6 .aM S.ps=true:=by
        have hm:=kI hi
        have h5:(dh S).getD i false=true:=hmf
        rw [List.getD_eq_getElem?_getD,hm] at h5
        exact h5
       have hne:Str.ofString "own" = Str.ofString "own" := rfl
       walk_at "ge"
       all_goals first | exact absurd hne (by assumption) | skip
       refine ⟨zo jr,?_⟩
       walk_at "ge"
       refine Nl jr rfl g.flat hnn ?_
       have hlt:idx S.ps .aM < S.ps.length:=(List.getElem?_eq_some_iff.mp (g.HA hnn)).1
       walk_at "ge"
       refine cg jr (bD (by omega) (by omega)) ?_
       rw [Int.toNat_natCast]
       have cO:=hl'.gB (o' := .lst (S.ps.set (idx S.ps .aM) (.int m))) 3 rfl rfl rfl
       walk_at "ge"
       exact rest (S.ps.set (idx S.ps .aM) (.int m)) _ (by rw [j5];rfl) (by rw [j5];exact fbs) (by rw [j5];rfl) cO
     | file z p =>
       have tM:H' u=some (.tup [.str (Str.ofString "file"),.str z,.int p]):=lH
       clear lH
       have hne : ¬ Str.ofString "file" = Str.ofString "own" := by decide +kernel
       walk_at "ge"
       ·exact absurd (by assumption) hne
       obtain ⟨r,row,_,h6⟩:=Li
       rcases h6 with ⟨_,j5⟩ | ⟨_,as,bs,e,j,nr,_,_,_,_,_,j5⟩
       ·exact rest S.ps H' (by rw [j5];rfl) (by rw [j5];exact fbs) (by rw [j5];rfl) hl'
       ·exact rest S.ps H' (by rw [j5];rfl) (by rw [j5];exact fbs) (by rw [j5];rfl) hl'
end
section
variable {P:Program} {w:World} {K:PySem.W.Frag} {mg:Str->Option Value} {base:Heap} {cU cA cB cC cT cF cD cS cI:Addr}
theorem Fz.dat {a:Th} (h:Fz a):PySem.W.kqdOk 8 (dY (some a))=true:=vI (λ b hb=>by cases hb;exact h) 7
theorem oA.dat {S:SS} {a:Th} : oA S a↔dY (some a)∈S.F.hs.map λ x=>dY (lG x):=by
 constructor
 ·rintro ⟨i,t,hi⟩
  exact List.mem_map.mpr ⟨_,List.mem_of_getElem? hi,rfl⟩
 ·intro h
  obtain ⟨z,hz,w⟩:=List.mem_map.mp h
  obtain ⟨i,hi⟩:=List.getElem?_of_mem hz
  have w2:=fV.mp w
  cases z with
  | none=>cases w2
  | some z =>
    have h3:z.2=a:=Option.some.inj w2
    exact ⟨i,z.1,by rw [hi,<-h3]⟩
theorem aU.first {S:SS} {n q i:Nat} {M:Cells} {t:Addr} {a:Th} (g:aU S n q M) (hi:S.F.hs[i]? = some (some (t,a))):(S.F.hs.map λ x=>dY (lG x))[i]? = some (dY (some a)) ∧ ∀ (j:Nat) e,j < i->(S.F.hs.map λ x=>dY (lG x))[j]? = some e->e≠dY (some a):=by
 refine ⟨by rw [List.getElem?_map,hi];rfl,λ j e hj he w => ?_⟩
 rw [List.getElem?_map] at he
 obtain ⟨z,hz,rfl⟩:=Option.map_eq_some_iff.mp he
 have w2:=fV.mp w
 cases z with
 | none=>cases w2
 | some z =>
   have h3:z.2=a:=Option.some.inj w2
   have:=g.inj j i z.1 t a (by rw [hz,<-h3]) hi
   omega
def yN (cT cF cD cS cI:Addr):Sp:=λ vs H Q _ => ∃ (S:SS) (n q:Nat) (t sp sf:Addr) (a:Th) (row:List Int) (us:List V) (M:Cells),vs = [.ref S.b,.ref sp,.ref sf,.ref t]/\Led H (bg cT cF cD cS cI S M)/\aU S n q M/\kK S us M/\(sp,HO.lst us)∈M/\(t,HO.tup (eV a))∈M/\Fz a/\eY S a row ∧ ∀ (r:Addr) (N:Cells) (H':Hp),(r,HO.lst (row.map V.int))∈N->Led H' (bg cT cF cD cS cI S (N++M))->Q (.ref r) H'
theorem DF (D:Def K mg "_law_row_there" dR) (B:iV mg) (T:Txt K mg cU cA cB cC cT cF cD cS cI) (bS:aR P w K mg base 1 cF "row_in" ["self","frame"] (qW cF)) (m7:aR P w K mg base 1 cS "row_of_sheet" ["self","sheet"] (Iw cS)) (iQ:aR P w K mg base 4 cI "row_at" ["self","name","page"] (Dz cI cA cB)):cQ P w K mg base 5 "_law_row_there" ["_law_store","_law_spots","_law_shelf","_law_thing"] (yN cT cF cD cS cI):=by
 have sc:=l6
 refine D.ok l6 (λ vs H Q E h => ?_) (λ _ _ _ _ _ _ us hl=>match us,hl with | [_,_,_,_],_=>rfl) (λ f cdv A outer s H vs Q E hr h => ?_)
 ·obtain ⟨_,_,_,_,_,_,_,_,_,_,rfl,_⟩:=h;rfl
 ·obtain ⟨S,n,q,t,sp,sf,a,row,us,M,rfl,hL,g,s1,RA,BL,Rx,A7,k⟩:=h
  have f1:=fX S
  have f3:=tH S
  have f4:=Dv S
  have gO:=hL.get St.b
  have dG:=hL.get (St.up RA)
  have yG:=hL.get (St.up BL)
  have d1:dZ H (.ref t) (PySem.W.kqdP (dY (some a))):=pN yG
  have d2:=s1.dat hL (λ c hc=>St.up hc)
  have o1:=Rx.dat
  have o2:=g.KZ
  refine ⟨_,(@af _ _ _ _ _ (@aS _ _ _ _ _ _ _ _ (@aK _ _ _ _ _ _ _ _ (Mm hr.units) (@aq _ 3 _ _ (by walk_at "v")) (@aq _ 1 _ _ (by walk_at "v")) (by with_unfolding_all rfl)) (@ao _ _ _ (@aE _ _ _ _ (@aV _ _ _ _ _ _ _ _ _ _ _ _ _ _ _ _ T.Frames bS (hr.mono (by omega)) az (@aB _ _ _ _ _ _ _ T.bz T.bL (@aq _ 0 _ _ (by walk_at "v")) (by rfl)) (@aa _ _ _ _ _ (@nP _ _ _ _ _ _ _ _ _ _ _ _ PySem.F.plainAttrs_list PySem.F.slot_list_index PySem.F.type_list_index (jA hr.units) (@aq _ 1 _ _ (by walk_at "v")) (@aa _ _ _ _ _ (@aq _ 3 _ _ (by walk_at "v")) (@ak _) (by rfl)) (by rfl) (by rfl) (by rfl) (by rfl) (by rfl)) (@ak _) (by rfl)) (by rfl) (by rfl) (by rfl)))) (@aF _)) (@af _ _ _ _ _ (@aS _ _ _ _ _ _ _ _ (@aK _ _ _ _ _ _ _ _ b9 (@aX _ _ _ _ _ _ _ aO (@aq _ 3 _ _ (by walk_at "v")) (@aj _ _ _ _) (λ _ _=>rfl)) (@bV _ _ _ _) (aQ _)) (@ao _ _ _ (@aE _ _ _ _ (@aV _ _ _ _ _ _ _ _ _ _ _ _ _ _ _ _ T.fN m7 (hr.mono (by omega)) az (@aB _ _ _ _ _ _ _ T.bz T.ko (@aq _ 0 _ _ (by walk_at "v")) (by rfl)) (@aa _ _ _ _ _ (@aX _ _ _ _ _ _ _ aO (@aq _ 3 _ _ (by walk_at "v")) (@aj _ _ _ _) (λ _ _=>rfl)) (@ak _) (by rfl)) (by rfl) (by rfl) (by rfl)))) (@aF _)) (@ao _ _ _ (@aE _ _ _ _ (@aV _ _ _ _ _ _ _ _ _ _ _ _ _ _ _ _ T.gS iQ (hr.mono (by omega)) az (@aB _ _ _ _ _ _ _ T.bz T.qi (@aq _ 0 _ _ (by walk_at "v")) (by rfl)) (@aa _ _ _ _ _ (@aX _ _ _ _ _ _ _ aO (@aq _ 3 _ _ (by walk_at "v")) (@aj _ _ _ _) (λ _ _=>rfl)) (@aa _ _ _ _ _ (@aX _ _ _ _ _ _ _ aO (@aq _ 3 _ _ (by walk_at "v")) (@aj _ _ _ _) (λ _ _=>rfl)) (@ak _) (by rfl)) (by rfl)) (by rfl) (by rfl) (by rfl)))))),?_⟩
  refine aG λ M1 K1 => ?_
  walk_at "ge"
  rcases A7 with ⟨i,t',r,h1,h2⟩ | ⟨hno,hb⟩
  ·refine wC (neg:=false) (b:=true) dG d1 d2 o1 o2 (iff_of_true rfl (oA.dat.mp ⟨i,t',h1⟩)) ?_
   rw [if_neg Bool.false_ne_true]
   obtain ⟨j1,j2⟩:=g.first h1
   have hF:=St.toF hL
   have jr:=hF.get mS
   obtain ⟨r',gm,e1,e2⟩:=g.rr i t' a h1
   rw [h2] at e1
   cases e1
   walk_at "ge"
   refine ⟨zo dG,?_⟩
   walk_at "ge"
   refine Et dG d1 d2 o1 o2 j1 j2 ?_
   walk_at "ge"
   refine ⟨S.F,i,r,row,_,rfl,hF,h2,jl (g.f.rw r row (List.mem_of_getElem? h2)),by omega,λ qr H2 hl2 => ?_⟩
   have hl3:Led H2 ((qr,HO.lst (row.map V.int))::bg cT cF cD cS cI S M):=Led.perm hl2 (List.Perm.cons _ (aP (pR cF S.F) (zb cT S) (E9 cD S++(Fb cS S++(Du cI S++M)))))
   walk_at "ge"
   exact k qr [(qr,_)] H2 List.mem_cons_self (St.push hl3)
  ·refine wC (neg:=false) (b:=false) dG d1 d2 o1 o2 (iff_of_false Bool.false_ne_true λ z=>hno (oA.dat.mpr z)) ?_
   rw [if_neg Bool.false_ne_true]
   walk_at "ge"
   refine K1.use ?_
   walk_at "cl"
   clear K1 d1 d2 o1 o2 dG
   refine aG λ M1 K1 => ?_
   cases a with
   | own m =>
     have ND:H t=some (.tup [.str (Str.ofString "own"),.int m]):=yG
     obtain ⟨b,hb⟩:=hb
     have hS:=St.toS hL
     have dG:=hS.get Qf
     have hne:Str.ofString "own" = Str.ofString "own" := rfl
     walk_at "ge"
     all_goals first | exact absurd hne (by assumption) | skip
     refine ⟨S.sb,S.Ny,S.sl,S.sd,S.ps,S.es,(m,b,row),_,rfl,hS,g.nd,hb,λ qr H2 hl2 => ?_⟩
     have hl3:Led H2 (bg cT cF cD cS cI S ([(qr,HO.lst (row.map V.int))]++M)):=St.ofS (S:=S) (N:=[(qr,HO.lst (row.map V.int))]) (Led.perm hl2 List.perm_middle.symm)
     walk_at "ge"
     exact k qr _ H2 mS hl3
   | file z p =>
     have ND:H t=some (.tup [.str (Str.ofString "file"),.str z,.int p]):=yG
     have hne : ¬ Str.ofString "file" = Str.ofString "own" := by decide +kernel
     obtain ⟨e,he,e1,j,r,e2,e3⟩:=hb
     have hI:=St.Wg hL
     have Wj:=hI.get mS
     have hj:j < e.2.2.length:=(List.getElem?_eq_some_iff.mp e3).1
     have uniq : ∀ e'∈S.fs,e'.1=z->e' = e:=λ e' he' h=>by
      have h3:=findF g.fn he
      have h5:=findF g.fn he'
      rw [h,<-e1] at h5
      exact Option.some.inj (h5.symm.trans h3)
     walk_at "ge"
     ·exact absurd (by assumption) hne
     refine K1.use ?_
     walk_at "cl"
     clear K1
     walk_at "ge"
     refine ⟨S.ib,S.ix,S.im,S.fs,z,p,_,rfl,hL,FH.of hI g.fn,λ x hx y hy=>⟨hL.get (St.up (g.fr x hx y hy).1),by rw [(g.fr x hx y hy).2];decide⟩,λ e' he' Ej j' r' hp hr' qr H2 hl2 => ?_,λ e' he' Ej hn=>absurd ?_ hn,λ hz=>absurd (List.mem_map.mpr ⟨e,he,e1⟩) hz⟩
     ·have ee:=uniq e' he' Ej
      subst ee
      have hjj:j' = j:=by omega
      subst hjj
      rw [e3] at hr'
      cases hr'
      walk_at "ge"
      exact k qr [(qr,HO.lst (row.map V.int))] H2 List.mem_cons_self (St.push hl2)
     ·rw [uniq e' he' Ej,e2]
      exact ⟨by omega,by exact_mod_cast hj⟩
end
section
variable {P:Program} {w:World} {K:PySem.W.Frag} {mg:Str->Option Value} {base:Heap} {cU cA cB cC cT cF cD cS cI:Addr}
def dw (row:List Int) (c:Nat) (ms:List Int):List Int:=row.take c++ms++row.drop (c+ms.length)
theorem BQ {row ms:List Int} {c:Nat} (h:c+ms.length<=row.length):(dw row c ms).length=row.length:=by
 unfold dw
 rw [List.length_append,List.length_append,List.length_take,List.length_drop]
 omega
theorem K0 {row ms:List Int} {c i:Nat} {n:Int} (h:c+ms.length<=row.length) (hn:ms[i]? = some n):(dw row c (ms.take i)).set (c+i) n=dw row c (ms.take (i+1)):=by
 have hi:i < ms.length:=(List.getElem?_eq_some_iff.mp hn).1
 have htl:(ms.take i).length=i:=by rw [List.length_take];omega
 have adf:(ms.take (i+1)).length=i+1:=by rw [List.length_take];omega
 have htc:(row.take c).length=c:=by rw [List.length_take];omega
 have e1:ms.take (i+1)=ms.take i++[n]:=by rw [List.take_succ,hn];rfl
 unfold dw
 rw [htl,adf]
 rw [List.set_append_right (c+i) n (by rw [List.length_append,htc,htl];exact Nat.le_refl _),List.length_append,htc,htl,Nat.sub_self]
 have hd:row.drop (c+i)=row[c+i]'(by omega)::row.drop (c+(i+1)):=by rw [List.drop_eq_getElem_cons (by omega)];rfl
 rw [hd,List.set_cons_zero,e1]
 simp
def NW:Sp:=λ vs H Q _ => ∃ (r q:Addr) (c:Nat) (row ms:List Int) (L:Cells),vs = [.ref r,.int (c:Nat),.ref q]/\Led H L/\(r,HO.lst (row.map V.int))∈L/\(q,HO.lst (ms.map V.int))∈L/\c+ms.length<=row.length/\row.length<=600 ∧ ∀ p H',Led H' ((p,.lst ((dw row c ms).map V.int))::L)->Q (.ref p) H'
theorem Qz (D:Def K mg "_law_laid_in" fE) (B:iV mg) (T:Txt K mg cU cA cB cC cT cF cD cS cI):cQ P w K mg base 1 "_law_laid_in" ["_law_row_here","_law_cell","_law_nums"] NW:=by
 have sc:=qf
 refine D.ok qf (λ vs H Q E h => ?_) (λ _ _ _ _ _ _ us hl=>match us,hl with | [_,_,_],_=>rfl) (λ f cdv A outer s H vs Q E hr h => ?_)
 ·obtain ⟨_,_,_,_,_,_,rfl,_⟩:=h;rfl
 ·obtain ⟨r,q,c,row,ms,L,rfl,hL,nM,XF,hc,h6,k⟩:=h
  have mr:(row.map V.int).length=row.length:=List.length_map _
  have mm:(ms.map V.int).length=ms.length:=List.length_map _
  have jU:=hL.get nM
  refine ⟨_,(@af _ _ _ _ _ (@aI _ _ 3 _ _ _ _ sc.nd rfl (by walk_at "o2") (@bh _ _ _ _ _ _ _ _ _ (aY (K:=K) rfl) (by rfl) B.list bO (@aa _ _ _ _ _ (@aq _ 0 _ _ (by walk_at "v")) (@ak _) (by rfl)) (by decide) (by decide) (by rfl) (by rfl)) (by rfl) (by walk_at "o4")) (@af _ _ _ _ _ (@iD _ _ _ _ _ _ _ _ PassesOwn.never rfl (@ck _ _ _ _ _ _ (by rfl) B.range (@aa _ _ _ _ _ (@aH _ _ _ _ _ _ _ _ _ aL (by rfl) B.len bw (@aa _ _ _ _ _ (@aq _ 2 _ _ (by walk_at "v")) (@ak _) (by rfl)) (by decide) (by decide) (by rfl) (by rfl)) (@ak _) (by rfl)) (by rfl)) (@d9 _ _ 4 _ sc.nd rfl (by walk_at "o2") (by walk_at "o4")) (@ao _ _ _ (@bF _ _ _ _ _ _ (@aX _ _ _ _ _ _ _ aO (@aq _ 2 _ _ (by walk_at "v")) (@aq _ 4 _ _ (by walk_at "v")) (λ _ _=>rfl)) (@bG _ _ _ _ _ _ _ (@aq _ 3 _ _ (by walk_at "v")) (@av _ _ _ _ _ _ _ _ aT (@aq _ 1 _ _ (by walk_at "v")) (@aq _ 4 _ _ (by walk_at "v"))) set_list (by intro _;rfl)) (by rfl) (by rfl) (by rfl))) (by intro _;rfl)) (@ao _ _ _ (@aE _ _ _ _ (@aq _ 3 _ _ (by walk_at "v")))))),?_⟩
  refine aG λ M1 K1 => ?_
  walk_at "ge"
  rename_i p H1 _ hl1 _
  refine K1.use ?_
  walk_at "cl"
  clear K1 hL jU
  refine aG λ M1 K1 => ?_
  refine nQ λ Lr mZ => ?_
  have UH:=hl1.get (mC XF)
  walk_at "ge"
  refine ⟨_,rfl,by omega,by omega,mZ.use ?_⟩
  clear mZ UH
  rw [mm,show ((ms.length:Nat):Int).toNat=ms.length by omega]
  have adg:dw row c (ms.take 0)=row:=by unfold dw;rw [List.take_zero,List.append_nil,List.length_nil,Nat.add_zero,List.take_append_drop]
  refine nR (λ i σ H'=>i<=ms.length/\Led H' ((p,.lst ((dw row c (ms.take i)).map V.int))::L) ∧ ∃ v1,σ = [some (.ref r),some (.int c),some (.ref q),some (.ref p),v1]) ⟨Nat.zero_le _,by rw [adg];exact hl1,_,rfl⟩ ?_ ?_
  ·clear K1 k hl1
   rintro i σ H' hi ⟨_,hl',v1,rfl⟩
   have hat:iT (ms.map V.int) (0+(i:Int))=some (.int ms[i]):=dz (by omega) (by rw [List.getElem?_map,show (0+(i:Int)).toNat=i by omega,List.getElem?_eq_getElem hi];rfl)
   have hst:=K0 (row:=row) (c:=c) hc (List.getElem?_eq_getElem hi)
   have hll:=BQ (row:=row) (c:=c) (ms:=ms.take i) (by rw [List.length_take];omega)
   generalize ms[i]=n at hat hst
   have UH:=hl'.get (mC XF)
   walk_at "ge"
   refine cg (hl'.get mS) (bD (by omega) (by rw [List.length_map];omega)) ?_
   have cN:=hl'.put (o' := .lst (((dw row c (ms.take i)).map V.int).set ((c:Int)+(0+(i:Int))).toNat (.int n))) rfl rfl
   generalize upd H' p (.lst (((dw row c (ms.take i)).map V.int).set ((c:Int)+(0+(i:Int))).toNat (.int n)))=H5 at cN ⊢
   rw [show ((c:Int)+(0+(i:Int))).toNat=c+i by omega,<-List.map_set,hst] at cN
   walk_at "ge"
   exact ⟨hi,cN,_,rfl⟩
  ·clear hl1
   rintro σ H' ⟨_,hl',v1,rfl⟩
   rw [List.take_length] at hl'
   walk_at "ge"
   refine K1.use ?_
   walk_at "ge"
   exact k p _ hl'
abbrev rm:Str:=Str.ofString "abcdefghijklmnopqrstuvwxyz"
theorem HJ : ∀ j:Nat,j < 26->iT rm.cps.toList ((j:Nat):Int)=some (97+j):=by
 intro j h
 have e:rm.cps.toList = [97,98,99,100,101,102,103,104,105,106,107,108,109,110,111,112,113,114,115,116,117,118,119,120,121,122]:=by decide +kernel
 rw [e]
 refine gY (j:=j) ?_
 exact (by decide +kernel : ∀ j:Nat,j < 26->([97,98,99,100,101,102,103,104,105,106,107,108,109,110,111,112,113,114,115,116,117,118,119,120,121,122]:List Nat)[j]? = some (97+j)) j h
def DV (c t k:Int):Int:=if k=c / 8 % (1+c % 8)/\c / 64 % 3≠1 then ((c / 512+3 * k * k+k) * 48271 % 7919 % 26+t) % 26 else (c / 512+3 * k * k+k) * 48271 % 7919 % 26
theorem DG (c t k:Int):0<=DV c t k:=by unfold DV;split <;> exact Int.emod_nonneg _ (by decide)
theorem NX (c t k:Int):DV c t k < 26:=by unfold DV;split <;> exact Int.emod_lt_of_pos _ (by decide)
def yO (c t:Int) (i:Nat):List Nat:=(List.range i).map λ k:Nat=>97+(DV c t (0+(k:Int))).toNat
def jY (c t:Int):Int:=if c / 64 % 3=1 then 1+(c+t) % 8 else 1+c % 8
def jZ (c t:Int):Str:=⟨((yO c t 8).take (jY c t).toNat).toArray⟩
theorem m8 (c t:Int) (i:Nat):(yO c t i).length=i:=by unfold yO;rw [List.length_map,List.length_range]
theorem HK (c t:Int):1<=jY c t/\jY c t<=8:=by unfold jY;split <;> omega
theorem QC {z:Str} : Wc z ↔ ∀ c∈z.cps.toList,c < 0x110000:=by
 unfold Wc PyData.strOk
 rw [<-Array.all_toList,List.all_eq_true]
 exact ⟨λ h c hc=>of_decide_eq_true (h c hc),λ h c hc=>decide_eq_true (h c hc)⟩
theorem NY (c t:Int):Wc (jZ c t):=by
 rw [QC]
 intro d hd
 have hd:d∈(yO c t 8).take (jY c t).toNat:=by simpa [jZ] using hd
 obtain ⟨k,_,rfl⟩:=List.mem_map.mp (List.mem_of_mem_take hd)
 have:=NX c t (0+(k:Int))
 have:=DG c t (0+(k:Int))
 omega
theorem NZ {c t:Int} (t1:1<=t) (t5:t<=5):jZ c 0≠jZ c t:=by
 intro e
 have e:(yO c 0 8).take (jY c 0).toNat=(yO c t 8).take (jY c t).toNat:=by
  have:=congrArg (λ z=>z.cps.toList) e
  simpa [jZ] using this
 have r0:=HK c 0
 have r1:=HK c t
 by_cases h:c / 64 % 3=1
 ·have hl:=congrArg List.length e
  rw [List.length_take,List.length_take,m8,m8] at hl
  have s0:jY c 0=1+(c+0) % 8:=by unfold jY;rw [if_pos h]
  have s1:jY c t=1+(c+t) % 8:=by unfold jY;rw [if_pos h]
  rw [s0,s1] at hl
  omega
 ·have s0:jY c 0=1+c % 8:=by unfold jY;rw [if_neg h]
  have s1:jY c t=1+c % 8:=by unfold jY;rw [if_neg h]
  rw [s0,s1] at e
  obtain ⟨p,hp⟩ : ∃ p:Nat,c / 8 % (1+c % 8)=((p:Nat):Int):=⟨(c / 8 % (1+c % 8)).toNat,by have:=Int.emod_nonneg (c / 8) (show 1+c % 8≠0 by omega);omega⟩
  have ahw:(p:Int) < 1+c % 8:=by rw [<-hp];exact Int.emod_lt_of_pos _ (by omega)
  have q:=congrArg (λ l=>l[p]?) e
  simp only [List.getElem?_take] at q
  have hpl:p < (1+c % 8).toNat:=by omega
  rw [if_pos hpl,if_pos hpl] at q
  unfold yO at q
  have hp8:p < 8:=by omega
  rw [List.getElem?_map,List.getElem?_map,List.getElem?_range hp8] at q
  have q:97+(DV c 0 (0+(p:Int))).toNat=97+(DV c t (0+(p:Int))).toNat:=Option.some.inj q
  have l0:=DG c 0 (0+(p:Int))
  have l1:=DG c t (0+(p:Int))
  have q:DV c 0 (0+(p:Int))=DV c t (0+(p:Int)):=by omega
  unfold DV at q
  have hc:0+(p:Int)=c / 8 % (1+c % 8)/\c / 64 % 3≠1:=⟨by rw [hp];omega,h⟩
  rw [if_pos hc,if_pos hc] at q
  have b0:=Int.emod_nonneg ((c / 512+3 * (0+(p:Int)) * (0+(p:Int))+(0+(p:Int))) * 48271 % 7919) (show (26:Int)≠0 by decide)
  have b1:=Int.emod_lt_of_pos ((c / 512+3 * (0+(p:Int)) * (0+(p:Int))+(0+(p:Int))) * 48271 % 7919) (show (0:Int) < 26 by decide)
  generalize (c / 512+3 * (0+(p:Int)) * (0+(p:Int))+(0+(p:Int))) * 48271 % 7919 % 26=x at q b0 b1
  omega
theorem TQ (x y:Str):(x++y).cps.toList=x.cps.toList++y.cps.toList:=by show (x.cps++y.cps).toList=_;simp
theorem yP {z:Str} {c t:Int} (h:z.cps.toList=yO c t 8) {j:Int} (h0:j=jY c t):Txt.slice z none (some j)=jZ c t:=by
 have r:=HK c t
 have hl:z.cps.toList.length=8:=by rw [h,m8]
 have e:=eq_of_beq (slice_closes_to (x:=z) (j:=j) ⟨by omega,by rw [hl];omega⟩)
 rw [e]
 unfold jZ
 rw [h,show (0:Int).toNat=0 from rfl,List.drop_zero,Int.sub_zero,h0]
def N7:Sp:=λ vs H Q _ => ∃ (c t:Int),vs = [.int c,.int t]/\(0<=t/\t<=5)/\Q (.str (jZ c t)) H
theorem QD (D:Def K mg "_law_name" jG) (B:iV mg) (T:Txt K mg cU cA cB cC cT cF cD cS cI):cQ P w K mg base 1 "_law_name" ["_law_cell","_law_turn"] N7:=by
 have sc:=BA
 refine D.ok BA (λ vs H Q E h => ?_) (λ _ _ _ _ _ _ us hl=>match us,hl with | [_,_],_=>rfl) (λ f cdv A outer s H vs Q E hr h => ?_)
 ·obtain ⟨_,_,rfl,_⟩:=h;rfl
 ·obtain ⟨c,t,rfl,ht,k⟩:=h
  have hlz:rm.length<=sizeLine:=by decide +kernel
  refine ⟨_,(@af _ _ _ _ _ (@aI _ _ 2 _ _ _ _ sc.nd rfl (by walk_at "o2") (@bV _ _ _ _) (by rfl) (by walk_at "o4")) (@af _ _ _ _ _ (@aI _ _ 3 _ _ _ _ sc.nd rfl (by walk_at "o2") (@av _ _ _ _ _ _ _ _ aT (@aj _ _ _ _) (@av _ _ _ _ _ _ _ _ aJ (@aq _ 0 _ _ (by walk_at "v")) (@aj _ _ _ _))) (by rfl) (by walk_at "o4")) (@af _ _ _ _ _ (@aI _ _ 4 _ _ _ _ sc.nd rfl (by walk_at "o2") (@av _ _ _ _ _ _ _ _ aJ (@av _ _ _ _ _ _ _ _ bA (@aq _ 0 _ _ (by walk_at "v")) (@aj _ _ _ _)) (@aq _ 3 _ _ (by walk_at "v"))) (by rfl) (by walk_at "o4")) (@af _ _ _ _ _ (@aI _ _ 5 _ _ _ _ sc.nd rfl (by walk_at "o2") (@bV _ _ _ _) (by rfl) (by walk_at "o4")) (@af _ _ _ _ _ (@iD _ _ _ _ _ _ _ _ PassesOwn.never rfl (@ck _ _ _ _ _ _ (by rfl) B.range (@aa _ _ _ _ _ (@aj _ _ _ _) (@ak _) (by rfl)) (by rfl)) (@d9 _ _ 6 _ sc.nd rfl (by walk_at "o2") (by walk_at "o4")) (@af _ _ _ _ _ (@aI _ _ 7 _ _ _ _ sc.nd rfl (by walk_at "o2") (@av _ _ _ _ _ _ _ _ aJ (@av _ _ _ _ _ _ _ _ aJ (@av _ _ _ _ _ _ _ _ gc (@av _ _ _ _ _ _ _ _ aT (@av _ _ _ _ _ _ _ _ aT (@av _ _ _ _ _ _ _ _ bA (@aq _ 0 _ _ (by walk_at "v")) (@aj _ _ _ _)) (@av _ _ _ _ _ _ _ _ gc (@av _ _ _ _ _ _ _ _ gc (@aj _ _ _ _) (@aq _ 6 _ _ (by walk_at "v"))) (@aq _ 6 _ _ (by walk_at "v")))) (@aq _ 6 _ _ (by walk_at "v"))) (@aj _ _ _ _)) (@aj _ _ _ _)) (@aj _ _ _ _)) (by rfl) (by walk_at "o4")) (@af _ _ _ _ _ (@aS _ _ _ _ _ _ _ _ (@PW.pt _ _ _ (@pw_and _ _ _ _ _ _ _ (@aK _ _ _ _ _ _ _ _ b9 (@aq _ 6 _ _ (by walk_at "v")) (@aq _ 4 _ _ (by walk_at "v")) (aQ _)) (@pw_and1 _ _ _ _ (@aK _ _ _ _ _ _ _ _ HW (@av _ _ _ _ _ _ _ _ aJ (@av _ _ _ _ _ _ _ _ bA (@aq _ 0 _ _ (by walk_at "v")) (@aj _ _ _ _)) (@aj _ _ _ _)) (@aj _ _ _ _) (aQ _))))) (@ao _ _ _ (@aI _ _ 7 _ _ _ _ sc.nd rfl (by walk_at "o2") (@av _ _ _ _ _ _ _ _ aJ (@av _ _ _ _ _ _ _ _ aT (@aq _ 7 _ _ (by walk_at "v")) (@aq _ 1 _ _ (by walk_at "v"))) (@aj _ _ _ _)) (by rfl) (by walk_at "o4"))) (@aF _)) (@ao _ _ _ (@aI _ _ 5 _ _ _ _ sc.nd rfl (by walk_at "o2") (@av _ _ _ _ _ _ _ _ FP (@aq _ 5 _ _ (by walk_at "v")) (@aX _ _ _ _ _ _ _ Sm (@aq _ 2 _ _ (by walk_at "v")) (@aq _ 7 _ _ (by walk_at "v")) (λ _ _=>rfl))) (by rfl) (by walk_at "o4"))))) (by intro _;rfl)) (@af _ _ _ _ _ (@aS _ _ _ _ _ _ _ _ (@aK _ _ _ _ _ _ _ _ b9 (@av _ _ _ _ _ _ _ _ aJ (@av _ _ _ _ _ _ _ _ bA (@aq _ 0 _ _ (by walk_at "v")) (@aj _ _ _ _)) (@aj _ _ _ _)) (@aj _ _ _ _) (aQ _)) (@ao _ _ _ (@aE _ _ _ _ (@lO _ _ _ _ _ _ _ _ _ _ Mn (@aq _ 5 _ _ (by walk_at "v")) (@vF _) (@nh _ _ _ (@av _ _ _ _ _ _ _ _ aT (@aj _ _ _ _) (@av _ _ _ _ _ _ _ _ aJ (@av _ _ _ _ _ _ _ _ aT (@aq _ 0 _ _ (by walk_at "v")) (@aq _ 1 _ _ (by walk_at "v"))) (@aj _ _ _ _))))))) (@aF _)) (@ao _ _ _ (@aE _ _ _ _ (@lO _ _ _ _ _ _ _ _ _ _ Mn (@aq _ 5 _ _ (by walk_at "v")) (@vF _) (@nh _ _ _ (@aq _ 3 _ _ (by walk_at "v")))))))))))),?_⟩
  refine aG λ M1 K1 => ?_
  walk_at "ge"
  refine K1.use ?_
  walk_at "cl"
  clear K1
  refine aG λ M1 K1 => ?_
  walk_at "ge"
  refine K1.use ?_
  walk_at "cl"
  clear K1
  refine aG λ M1 K1 => ?_
  walk_at "ge"
  refine K1.use ?_
  walk_at "cl"
  clear K1
  refine aG λ M1 K1 => ?_
  walk_at "ge"
  refine K1.use ?_
  walk_at "cl"
  clear K1
  refine aG λ M1 K1 => ?_
  refine nQ λ Lr mZ => ?_
  walk_at "ge"
  refine ⟨_,rfl,by omega,by omega,mZ.use ?_⟩
  clear mZ
  refine nR (λ i σ H'=>H' = H/\i<=8 ∧ ∃ (z:Str) (v1 v2:Option V),z.cps.toList=yO c t i ∧ σ = [some (.int c),some (.int t),some (.str rm),some (.int (1+c % 8)),some (.int (c / 8 % (1+c % 8))),some (.str z),v1,v2]) ⟨rfl,by decide,Str.ofString "",_,_,(by show (Str.ofString "").cps.toList = [];decide +kernel),rfl⟩ ?_ ?_
  ·clear K1
   rintro i σ H' hi ⟨rfl,hi8,z,v1,v2,hz,rfl⟩
   have hi:i < 8:=hi
   have hzl:z.length=i:=by
    have hl:z.cps.toList.length=z.length:=Array.length_toList
    rw [hz,m8] at hl
    exact hl.symm
   refine aG λ M2 K2 => ?_
   walk_at "ge"
   refine K2.use ?_
   walk_at "cl"
   clear K2
   refine aG λ M2 K2 => ?_
   have rest:M2 [some (.int c),some (.int t),some (.str rm),some (.int (1+c % 8)),some (.int (c / 8 % (1+c % 8))),some (.str z),some (.int (0+(i:Int))),some (.int (DV c t (0+(i:Int))))] H':=by
    refine K2.use ?_
    clear K2
    have l0:=DG c t (0+(i:Int))
    have l1:=NX c t (0+(i:Int))
    have hla:=HJ (DV c t (0+(i:Int))).toNat (by omega)
    rw [Int.toNat_of_nonneg l0] at hla
    walk_at "ge"
    refine YW hlz hla ?_
    walk_at "ge"
    refine V1 (by show _+1<=_;have:=sizeLine_eq;omega) ?_
    walk_at "ge"
    refine ⟨rfl,hi,_,_,_,?_,rfl⟩
    rw [TQ,hz]
    unfold yO
    rw [List.range_succ,List.map_append]
    rfl
   clear K2
   walk_at "ge"
   ·have hs:DV c t (0+(i:Int))=((c / 512+3 * (0+(i:Int)) * (0+(i:Int))+(0+(i:Int))) * 48271 % 7919 % 26+t) % 26:=by
     unfold DV
     rw [if_pos ⟨by assumption,by assumption⟩]
    rw [hs] at rest
    exact rest
   ·have hs:DV c t (0+(i:Int))=(c / 512+3 * (0+(i:Int)) * (0+(i:Int))+(0+(i:Int))) * 48271 % 7919 % 26:=by
     unfold DV
     rw [if_neg λ h=>by first | exact absurd h.2 (by assumption) | exact h.2 (by assumption) | exact absurd h.1 (by assumption)]
    rw [hs] at rest
    exact rest
   ·have hs:DV c t (0+(i:Int))=(c / 512+3 * (0+(i:Int)) * (0+(i:Int))+(0+(i:Int))) * 48271 % 7919 % 26:=by
     unfold DV
     rw [if_neg λ h=>by first | exact absurd h.2 (by assumption) | exact h.2 (by assumption) | exact absurd h.1 (by assumption)]
    rw [hs] at rest
    exact rest
  ·rintro σ H' ⟨rfl,_,z,v1,v2,hz,rfl⟩
   have hz:z.cps.toList=yO c t 8:=hz
   have hzl:z.length=8:=by
    have hl:z.cps.toList.length=z.length:=Array.length_toList
    rw [hz,m8] at hl
    exact hl.symm
   walk_at "ge"
   refine K1.use ?_
   walk_at "cl"
   clear K1
   refine aG λ M1 K1 => ?_
   walk_at "ge"
   ·have h1:c / 64 % 3=1:=by assumption
    refine V0 (by have:=sizeLine_eq;omega) ?_
    rw [yP hz (show 1+(c+t) % 8=jY c t by unfold jY;rw [if_pos h1])]
    walk_at "ge"
    exact k
   ·have h1 : ¬ c / 64 % 3=1:=by assumption
    refine K1.use ?_
    walk_at "ge"
    refine V0 (by have:=sizeLine_eq;omega) ?_
    rw [yP hz (show 1+c % 8=jY c t by unfold jY;rw [if_neg h1])]
    walk_at "ge"
    exact k
end
section
variable {P:Program} {w:World} {K:PySem.W.Frag} {mg:Str->Option Value} {base:Heap} {cU cA cB cC cT cF cD cS cI:Addr}
def jm (S:SS) (i:Nat) (p:Addr) (row:List Int):SS := { S with F := { S.F with rs:=S.F.rs.set i (some (p,row)),bs:=S.F.bs.set i true } }
section
variable {S:SS} {n q i:Nat} {M:Cells} {t p:Addr} {a:Th} {row:List Int}
theorem aU.kL (g:aU S n q M) (hi:S.F.hs[i]? = some (some (t,a))) (hp:(p,HO.lst (row.map V.int))∈M) (h4:row.length=4):aU (jm S i p row) n q M:=by
 have hlr:i < S.F.rs.length:=by rw [g.f.r,<-g.f.h];exact (List.getElem?_eq_some_iff.mp hi).1
 refine { g with f:=⟨g.f.h,(List.length_set ..).trans g.f.r,(List.length_set ..).trans g.f.s,g.f.th,λ u w h => ?_⟩,rr:=λ j u b h => ?_ }
 ·rcases List.mem_or_eq_of_mem_set h with h | h
  ·exact g.f.rw u w h
  ·cases h;exact hp
 ·by_cases e:i=j
  ·exact ⟨p,row,by show (S.F.rs.set i _)[j]? = _;rw [<-e,List.getElem?_set,if_pos rfl,if_pos hlr],h4⟩
  ·obtain ⟨r',gm,e1,e2⟩:=g.rr j u b h
   exact ⟨r',gm,(bX e).mpr e1,e2⟩
theorem eY.kL (g:aU S n q M) (hi:S.F.hs[i]? = some (some (t,a))):(∀ b gm,b≠a->eY S b gm->eY (jm S i p row) b gm)/\eY (jm S i p row) a row:=by
 have hlr:i < S.F.rs.length:=by rw [g.f.r,<-g.f.h];exact (List.getElem?_eq_some_iff.mp hi).1
 refine ⟨λ b gm hne hb => ?_,.inl ⟨i,t,p,hi,?_⟩⟩
 ·rcases hb with ⟨j,u,r',h1,h2⟩ | ⟨h1,h2⟩
  ·have hij:i≠j:=λ z=>by rw [<-z,hi] at h1;cases h1;exact hne rfl
   exact .inl ⟨j,u,r',h1,(bX hij).mpr h2⟩
  ·refine .inr ⟨h1,?_⟩
   cases b with
   | own m=>exact h2
   | file z p=>exact h2
 ·show (S.F.rs.set i _)[i]? = _
  rw [List.getElem?_set,if_pos rfl,if_pos hlr]
theorem Clean.kL (cl:Clean S):Clean (jm S i p row):=by
 intro j u r' z p' gm h1 h2 h3
 have h3':(S.F.bs.set i true)[j]? = some false:=h3
 have h2':(S.F.rs.set i (some (p,row)))[j]? = some (some (r',gm)):=h2
 by_cases e:i=j
 ·rw [List.getElem?_set,if_pos e] at h3'
  split at h3' <;> cases h3'
 ·exact cl j u r' z p' gm h1 ((bX e).mp h2') ((bX e).mp h3')
end
def oB (sp mk sf rd:Addr) (us:List V) (S:SS) (ts:Ts):Cells:=[(sp,.lst us),(mk,.lst (S.bs.map V.bl)),(sf,.lst S.ps),(rd,.dT (m5 ts))]
structure Lr (n q:Nat) (S:SS) (us:List V) (ts:Ts) (M:Cells):Prop where
 g:aU S n q M
 gh:FE S n q
 s:kK S us M
 cl:Clean S
 nd:(ts.map (·.1)).Nodup
 rw : ∀ e∈ts,(e.2.1,HO.lst (e.2.2.map V.int))∈M/\eY S e.1 e.2.2/\Fz e.1
 Bc : ∀ a,(oA S a ∨ ∃ row,Back S row a)->a∈ts.map (·.1)
 hm:(S.hs.length:Int)=S.made
 cnt:((ts.filter λ e => !aW e.1).length:Int)=S.made
theorem Lr.mono {n q:Nat} {S:SS} {us:List V} {ts:Ts} {M M':Cells} (h:Lr n q S us ts M) (up : ∀ c∈M,c∈M'):Lr n q S us ts M' := { h with g:=h.g.mono up,s:=h.s.mono up,rw:=λ e he=>⟨up _ (h.rw e he).1,(h.rw e he).2⟩ }
theorem Lr.bs {n q:Nat} {S:SS} {us:List V} {ts:Ts} {M:Cells} (h:Lr n q S us ts M) {bs:List Bool} (hb:bs.length=n):Lr n q { S with bs:=bs } us ts M := { g:=h.g.turned h.g.pn hb,gh := { h.gh with },s:=kK.same (S:=S) rfl h.s,cl:=h.cl,nd:=h.nd,rw:=h.rw,Bc:=h.Bc,hm:=h.hm,cnt:=h.cnt }
theorem N8 (ts:Ts) (a:Th) (r:Addr) (row:List Int):((vA ts a r row).filter λ e => !aW e.1).length=(ts.filter λ e => !aW e.1).length:=by
 have h : ∀ l:Ts,(l.filter λ e => !aW e.1).length=((l.map (·.1)).filter λ b => !aW b).length:=λ l=>by
  rw [List.filter_map,List.length_map]
  rfl
 rw [h,h,jX]
theorem Lr.kL {n q i:Nat} {S:SS} {us:List V} {ts:Ts} {M:Cells} {t p r:Addr} {a:Th} {row:List Int} (h:Lr n q S us ts M) (hi:S.F.hs[i]? = some (some (t,a))) (hp:(p,HO.lst (row.map V.int))∈M) (hr:(r,HO.lst (row.map V.int))∈M) (h4:row.length=4):Lr n q (jm S i p row) us (vA ts a r row) M:=by
 obtain ⟨r1,r2⟩:=eY.kL (p:=p) (row:=row) h.g hi
 refine { g:=h.g.kL hi hp h4,gh := { h.gh with },s:=kK.same (S:=S) rfl h.s,cl:=h.cl.kL,nd:=by rw [jX];exact h.nd,rw:=λ e he => ?_,Bc:=λ b hb => ?_,hm:=h.hm,cnt:=by rw [N8];exact h.cnt }
 ·rcases Qt he with rfl | ⟨hne,he⟩
  ·obtain ⟨e2,zu,e3⟩:=List.mem_map.mp (h.Bc a (.inl ⟨i,t,hi⟩))
   have e3':e2.1=a:=e3
   exact ⟨hr,r2,by rw [<-e3'];exact (h.rw e2 zu).2.2⟩
  ·exact ⟨(h.rw e he).1,r1 _ _ hne (h.rw e he).2.1,(h.rw e he).2.2⟩
 ·rw [jX]
  refine h.Bc b ?_
  rcases hb with hb | ⟨gm,hb⟩
  ·exact .inl hb
  ·refine .inr ⟨gm,?_⟩
   cases b with
   | own m=>exact hb
   | file z p=>exact hb
end
section
variable {P:Program} {w:World} {K:PySem.W.Frag} {mg:Str->Option Value} {base:Heap} {cU cA cB cC cT cF cD cS cI:Addr}
theorem Led.adh {H:Hp} {L:Cells} {b:Addr} {xs:List V} (h:Led H L) (hb:H b=some (.tup xs)):Led H ((b,.tup xs)::L):=⟨λ c hc=>by
 rcases List.mem_cons.mp hc with rfl | hc
 ·exact hb
 ·exact h.at_ c hc,by rw [List.filter_cons_of_neg (by simp [lasts])];exact h.nd⟩
def Oa (ys:List (Addr×Th)):Cells:=ys.map λ y=>(y.1,HO.tup (eV y.2))
theorem Led.RE {H:Hp} {L:Cells} (h:Led H L) : ∀ {ys:List (Addr×Th)},(∀ y∈ys,H y.1=some (.tup (eV y.2)))->Led H (Oa ys++L)
 | [],_=>h
 | y::ys,hy=>Led.adh (Led.RE h λ z hz=>hy z (mC hz)) (hy y mS)
theorem j3 {H:Hp} {ts:Ts} {rd:Addr} {Q:VK} {L:Cells} (h1:H rd=some (.dT (m5 ts))) (hL:Led H L) (h : ∀ (l:Addr) (ys:List (Addr×Th)) (H':Hp),ys.map (·.2)=ts.map (·.1)->Led H' ((l,.lst (ys.map λ y=>V.ref y.1))::(Oa ys++L))->Q (.ref l) H'):Cr [.ref rd] H Q:=by
 refine PF h1 λ l as hl hlen hat => ?_
 rw [rj] at hlen
 have e1:(as.zip (ts.map (·.1))).map (·.2)=ts.map (·.1):=List.map_snd_zip (by rw [List.length_map];omega)
 have e2:(as.zip (ts.map (·.1))).map (λ y=>V.ref y.1)=as.map V.ref:=by
  have h3:(as.zip (ts.map (·.1))).map (·.1)=as:=List.map_fst_zip (by rw [List.length_map];omega)
  conv=>rhs;rw [<-h3]
  rw [List.map_map]
  rfl
 have hin : ∀ y∈as.zip (ts.map (·.1)),H y.1=some (.tup (eV y.2)):=λ y hy=>by
  obtain ⟨i,hi⟩:=List.getElem?_of_mem hy
  rw [List.getElem?_zip_eq_some] at hi
  obtain ⟨i1,i2⟩:=hi
  rw [List.getElem?_map] at i2
  obtain ⟨e,he,e3⟩:=Option.map_eq_some_iff.mp i2
  have h4:=hat i y.1 (fJ e.1) (.ref e.2.1) i1 (by unfold m5;rw [List.getElem?_map,he];rfl)
  rw [kZ] at h4
  rw [<-e3]
  exact h4
 have h5:=(Led.RE hL hin).new (o := .lst (as.map V.ref)) hl
 rw [<-e2] at h5 ⊢
 exact h l _ _ e1 h5
section
variable {N M:Cells} {S S1:SS} {n q i:Nat} {a b:Th} {row r1 r2:List Int}
theorem Back.uniq (g:aU S n q M) (h1:Back S r1 a) (h2:Back S r2 a):r1=r2:=by
 cases a with
 | own m =>
   obtain ⟨x,hx⟩:=h1
   obtain ⟨y,hy⟩:=h2
   have e1:=qc g.nd hx
   have e2:=qc g.nd hy
   have e3:(m,x,r1)=(m,y,r2):=Option.some.inj (e1.symm.trans e2)
   cases e3
   rfl
 | file z p =>
   obtain ⟨x,hx,x1,j,r,xp,xr⟩:=h1
   obtain ⟨y,hy,y1,k,r',yp,yr⟩:=h2
   have e1:=findF g.fn hx
   have e2:=findF g.fn hy
   rw [x1] at e1
   rw [y1] at e2
   have e3:x=y:=Option.some.inj (e1.symm.trans e2)
   subst e3
   have:j=k:=by omega
   subst this
   rw [xr] at yr
   cases yr
   rfl
theorem Back.gone (h:Back S row b) (hne:b≠a):Back (My.gone S a) row b:=by
 cases a with
 | file z p=>exact h
 | own m =>
   cases b with
   | own k =>
     obtain ⟨x,hx⟩:=h
     exact ⟨x,List.mem_filter.mpr ⟨hx,decide_eq_true λ z=>hne (by show Th.own k = .own m;rw [show k=m from z])⟩⟩
   | file z p=>exact h
theorem Back.TR (h:Back (My.gone S a) row b):Back S row b:=by
 cases a with
 | file z p=>exact h
 | own m =>
   cases b with
   | own k=>obtain ⟨x,hx⟩:=h;exact ⟨x,(List.mem_filter.mp hx).1⟩
   | file z p=>exact h
theorem eY.gone (h:eY S b row) (hne:b≠a):eY (My.gone S a) b row:=by
 have eF:=(eW S a).2.1
 rcases h with ⟨j,t,r,h1,h2⟩ | ⟨h1,h2⟩
 ·exact .inl ⟨j,t,r,by rw [eF];exact h1,by rw [eF];exact h2⟩
 ·exact .inr ⟨λ ⟨j,t,hj⟩=>h1 ⟨j,t,by rw [<-eF];exact hj⟩,h2.gone hne⟩
theorem PO.back {S':SS} {t:Addr} (g:aU S n q M) (hi:S.F.hs[i]? = some (some (t,a))) (h:PO N S i S' a) (hb:Back S' row b):oA S b ∨ ∃ r,Back S r b:=by
 cases a with
 | own m =>
   obtain ⟨r,Qv,b1,h1,rfl⟩:=h
   cases b with
   | own k =>
     obtain ⟨x,hx⟩:=hb
     rcases List.mem_append.mp hx with hx | hx
     ·exact .inr ⟨row,x,hx⟩
     ·have e:=List.mem_singleton.mp hx
      cases e
      exact .inl ⟨i,t,hi⟩
   | file z p=>exact .inr ⟨row,hb⟩
 | file z p =>
   obtain ⟨r,Qv,h1,h⟩:=h
   rcases h with ⟨h2,rfl⟩ | ⟨_,as,bs,e,j,nr,h3,h4,h5,h6,_,rfl⟩
   ·exact .inr ⟨row,by cases b <;> exact hb⟩
   ·cases b with
    | own k=>exact .inr ⟨row,hb⟩
    | file z2 p2 =>
      obtain ⟨e2,zu,z3,j2,r2,p3,hr2⟩:=hb
      rcases List.mem_append.mp zu with zu | zu
      ·exact .inr ⟨row,e2,by rw [h3];exact mB zu,z3,j2,r2,p3,hr2⟩
      ·rcases List.mem_cons.mp zu with rfl | zu
       ·have hl:j2 < e.2.2.length:=by
         have h7:=(List.getElem?_eq_some_iff.mp hr2).1
         have h8:j2 < (e.2.2.set j (nr,Qv)).length:=h7
         rw [List.length_set] at h8
         exact h8
        exact .inr ⟨e.2.2[j2].2,e,by rw [h3];exact mA mS,z3,j2,e.2.2[j2].1,p3,List.getElem?_eq_getElem hl⟩
       ·exact .inr ⟨row,e2,by rw [h3];exact mA (mC zu),z3,j2,r2,p3,hr2⟩
theorem gG.back (g:aU S n q M) (h:gG N S n i S1) (hb:Back S1 row b):oA S b ∨ ∃ r,Back S r b:=by
 rcases h with ⟨_,_,rfl⟩ | ⟨_,bs',t,c,hgo,hi,h⟩
 ·exact .inr ⟨row,hb⟩
 ·obtain ⟨l1,_⟩:=qU _ _ _ hgo
  have n1:=g.n1
  exact PO.back (S := { S with p:=(i+1) % n,bs:=bs' }) (g.turned (Nat.mod_lt _ (by omega)) (l1.trans g.bl)) hi h hb
theorem gG.V3 (h:gG N S n i S1) (hb:oA S1 b):oA S b:=by
 obtain ⟨j,t,hj⟩:=hb
 rcases h with ⟨_,_,rfl⟩ | ⟨_,bs',u,c,hgo,hi,h⟩
 ·exact ⟨j,t,hj⟩
 ·rw [h.hs.1] at hj
  exact ⟨j,t,(yJ hj).2⟩
theorem Lies.gone {m:Int} (g:aU S n q M) (hnf : ¬ oA S a):Lies (My.gone S a) m↔Lies S m/\(a ≠ .own m):=by
 cases a with
 | file z p=>exact ⟨λ h=>⟨h,λ e=>nomatch e⟩,λ h=>h.1⟩
 | own k =>
   constructor
   ·rintro (⟨j,t,hj⟩ | h)
    ·exact ⟨.inl ⟨j,t,hj⟩,λ e=>by cases e;exact hnf ⟨j,t,hj⟩⟩
    ·obtain ⟨e,he,rfl⟩:=List.mem_map.mp h
     obtain ⟨h1,h2⟩:=List.mem_filter.mp he
     exact ⟨.inr (List.mem_map.mpr ⟨e,h1,rfl⟩),λ z=>by cases z;exact (of_decide_eq_true h2) rfl⟩
   ·rintro ⟨⟨j,t,hj⟩ | h,hne⟩
    ·exact .inl ⟨j,t,hj⟩
    ·obtain ⟨e,he,rfl⟩:=List.mem_map.mp h
     exact .inr (List.mem_map.mpr ⟨e,List.mem_filter.mpr ⟨he,decide_eq_true λ z=>hne (by rw [z])⟩,rfl⟩)
end
end
section
variable {P:Program} {w:World} {K:PySem.W.Frag} {mg:Str->Option Value} {base:Heap} {cU cA cB cC cT cF cD cS cI:Addr}
section
variable {N M:Cells} {S S1:SS} {n q i:Nat} {a:Th} {row:List Int} {us FF:List V} {ts:Ts} {t r u d:Addr}
theorem Clean.gone (h:Clean S):Clean (My.gone S a):=by
 have eF:=(eW S a).2.1
 intro j t r z p row h1 h2 h3
 rw [eF] at h1 h2 h3
 have:=h j t r z p row h1 h2 h3
 cases a with
 | own m=>exact this
 | file z2 p2=>exact this
theorem DH {x:Addr×Th} {j:Nat} {b:Th} {v:Addr} {l:List Hd} (h:(l.set i (some x))[j]? = some (some (v,b))):(j=i/\(v,b)=x)\/(i≠j/\l[j]? = some (some (v,b))):=by
 rw [List.getElem?_set] at h
 split at h
 ·split at h
  ·cases h
   exact .inl ⟨by omega,rfl⟩
  ·cases h
 ·exact .inr ⟨by assumption,h⟩
theorem Lr.DI (h:Lr n q S us ts M) (hnf : ¬ oA S a) (hb:Back S row a) (Rx:Fz a) (hH:gG N (My.gone S a) n i S1) (ht:(t,HO.tup (eV a))∈N++M) (hr:(r,HO.lst (row.map V.int))∈N++M) (hu:(u,HO.tup (eV a))∈N++M) (hs1:kK S1 FF (N++M)):Lr n q { S1 with F:=S1.F.fill i (some (t,a)) (some (r,row)) false } (FF.set i (.ref u)) ts (N++M):=by
 obtain ⟨eb,eF,Ry,UI,efs,ep,Wq⟩:=eW S a
 have g0:=h.g.gone hb
 have g1:=g0.had hH
 obtain ⟨h0,e1,e2,_,_⟩:=hH.at
 rw [Ry] at e1
 rw [UI] at e2
 have hlt:i < S1.F.hs.length:=(List.getElem?_eq_some_iff.mp h0).1
 obtain ⟨cl1,XM⟩:=hH.rows g0 h.cl.gone
 have unF : ∀ b,oA (My.gone S a) b->oA S b:=λ b ⟨j,v,hj⟩=>⟨j,v,by rw [<-eF];exact hj⟩
 have nf1 : ¬ oA S1 a:=λ z=>hnf (unF a (hH.V3 z))
 have bk : ∀ z p,a = .file z p->Back S1 row a:=λ z p e=>by
  have h1:eY (My.gone S a) a row:=by
   rw [e] at hnf hb ⊢
   exact .inr ⟨hnf,hb⟩
  rcases XM a row h1 with ⟨j,v,w,h2,_⟩ | ⟨_,h2⟩
  ·exact absurd ⟨j,v,h2⟩ nf1
  ·exact h2
 have lg : ∀ m,Lies S1 m↔Lies S m/\a ≠ .own m:=λ m=>(hH.lies m).trans (Lies.gone h.g hnf)
 have ho : ∀ m,a = .own m->m ∉ S1.es.map (·.1):=λ m e z=>((lg m).mp (.inr z)).2 e
 have Rz : ∀ m,Lies { S1 with F:=S1.F.fill i (some (t,a)) (some (r,row)) false } m↔Lies S m:=λ m=>by
  constructor
  ·rintro (⟨j,v,hj⟩ | hm)
   ·rcases DH (l:=S1.F.hs) hj with ⟨_,e⟩ | ⟨_,hj⟩
    ·cases e
     exact .inr hb.key
    ·exact ((lg m).mp (.inl ⟨j,v,hj⟩)).1
   ·exact ((lg m).mp (.inr hm)).1
  ·intro hm
   by_cases e:a = .own m
   ·refine .inl ⟨i,t,?_⟩
    show (S1.F.hs.set i _)[i]? = _
    rw [List.getElem?_set,if_pos rfl,if_pos hlt,e]
   ·rcases (lg m).mpr ⟨hm,e⟩ with ⟨j,v,hj⟩ | hm
    ·have hij:i≠j:=λ z=>by rw [<-z,h0] at hj;cases hj
     exact .inl ⟨j,v,(bX hij).mpr hj⟩
    ·exact .inr hm
 obtain ⟨rf1,rf2⟩:=eY.fill (t:=t) (r:=r) (a:=a) (row:=row) (k:=S1.made) (hs':=S1.hs) g1 h0
 refine { g:=g1.Qs ht Rx hr (hb.len h.g) (λ j v hj=>nf1 ⟨j,v,hj⟩) ho (λ z p e => ?_),gh:=⟨by show (S1.hs.map (·.1)).Nodup;rw [e1];exact h.gh.nd,λ e he => ?_,λ e he => ?_,λ m => ?_,by show S1.hs.length<=_;rw [e1];exact h.gh.most,by show 0<=S1.made;rw [e2];exact h.gh.m0⟩,s:=kK.Wn (S:=S1) rfl hu hs1,cl:=Clean.fill (k:=S1.made) (hs':=S1.hs) g1 cl1 h0 bk,nd:=h.nd,rw:=λ e he => ?_,Bc:=λ b Vh => ?_,hm:=by show (S1.hs.length:Int)=S1.made;rw [e1,e2];exact h.hm,cnt:=by show _=S1.made;rw [e2];exact h.cnt }
 ·have h5:=bk z p e
  rw [e] at h5
  obtain ⟨x,hx,x1,j,w,xp,xr⟩:=h5
  exact ⟨x,hx,j,x1,xp,(List.getElem?_eq_some_iff.mp xr).1⟩
 ·have he':e∈S1.hs:=he
  rw [e1] at he'
  show 1<=e.1/\e.1<=S1.made
  rw [e2]
  exact h.gh.le e he'
 ·have he':e∈S1.hs:=he
  rw [e1] at he'
  exact h.gh.c1 e he'
 ·rw [Rz m,<-h.gh.Rz m]
  show m∈S1.hs.map (·.1)↔_
  rw [e1]
 ·obtain ⟨c1,c2,c3⟩:=h.rw e he
  refine ⟨mA c1,?_,c3⟩
  by_cases ea:e.1=a
  ·rw [ea] at c2 ⊢
   rcases c2 with ⟨j,v,w,h2,_⟩ | ⟨_,h2⟩
   ·exact absurd ⟨j,v,h2⟩ hnf
   ·rw [Back.uniq h.g h2 hb]
    exact rf2
  ·exact rf1 _ _ ea (XM _ _ (c2.gone ea))
 ·rcases Vh with ⟨j,v,hj⟩ | ⟨gm,hb'⟩
  ·rcases DH (l:=S1.F.hs) hj with ⟨_,e⟩ | ⟨_,hj⟩
   ·cases e
    exact h.Bc _ (.inr ⟨row,hb⟩)
   ·exact h.Bc b (.inl (unF b (hH.V3 ⟨j,v,hj⟩)))
  ·have hb1:Back S1 gm b:=by cases b <;> exact hb'
   rcases hH.back g0 hb1 with h6 | ⟨r6,h6⟩
   ·exact h.Bc b (.inl (unF b h6))
   ·exact h.Bc b (.inr ⟨r6,h6.TR⟩)
theorem Lr.fresh (h:Lr n q S us ts M):Th.own (S.made+1) ∉ ts.map (·.1):=λ z=>by
 obtain ⟨e,he,ea⟩:=List.mem_map.mp z
 have ea':e.1 = .own (S.made+1):=ea
 obtain ⟨_,c2,_⟩:=h.rw e he
 rw [ea'] at c2
 refine h.gh.fresh ?_
 rcases c2 with ⟨j,v,w,h2,_⟩ | ⟨_,h2⟩
 ·exact .inl ⟨j,v,h2⟩
 ·exact .inr h2.key
theorem Lr.IF (h:Lr n q S us ts M) (hroom:(n:Int) - 1+(q:Int) - (S.hs.length:Int)≠0) (h4:row.length=4) (hH:gG N S n i S1) (ht:(t,HO.tup (eV (.own (S.made+1))))∈N++M) (hr:(r,HO.lst (row.map V.int))∈N++M) (hu:(u,HO.tup (eV (.own (S.made+1))))∈N++M) (hd:(d,HO.lst (row.map V.int))∈N++M) (hs1:kK S1 FF (N++M)):Lr n q { S1 with made:=S.made+1,hs:=S.hs++[(S.made+1,1)],F:=S1.F.fill i (some (t,.own (S.made+1))) (some (r,row)) false } (FF.set i (.ref u)) (ts++[(.own (S.made+1),d,row)]) (N++M):=by
 have g1:=h.g.had hH
 obtain ⟨h0,e1,e2,_,_⟩:=hH.at
 obtain ⟨cl1,XM⟩:=hH.rows h.g h.cl
 have nl : ¬ Lies S1 (S.made+1):=λ z=>h.gh.fresh ((hH.lies _).mp z)
 obtain ⟨rf1,rf2⟩:=eY.fill (t:=t) (r:=r) (a := .own (S.made+1)) (row:=row) (k:=S.made+1) (hs':=S.hs++[(S.made+1,1)]) g1 h0
 refine { g:=g1.filled ht hr h4 nl,gh:=h.gh.IF hH h.g hroom,s:=kK.Wn (S:=S1) rfl hu hs1,cl:=Clean.fill g1 cl1 h0 (λ z p e=>nomatch e),nd := ?_,rw:=λ e he => ?_,Bc:=λ b Vh => ?_,hm := ?_,cnt := ?_ }
 ·rw [List.map_append]
  refine List.nodup_append.mpr ⟨h.nd,by simp,λ x hx y hy e => ?_⟩
  have hy':y = .own (S.made+1):=by simpa using hy
  exact h.fresh (hy' ▸ e ▸ hx)
 ·rcases List.mem_append.mp he with he | he
  ·obtain ⟨c1,c2,c3⟩:=h.rw e he
   exact ⟨mA c1,rf1 _ _ (λ z=>h.fresh (z ▸ List.mem_map.mpr ⟨e,he,rfl⟩)) (XM _ _ c2),c3⟩
  ·rw [List.mem_singleton.mp he]
   exact ⟨hd,rf2,True.intro⟩
 ·rw [List.map_append,List.mem_append]
  rcases Vh with ⟨j,v,hj⟩ | ⟨gm,hb'⟩
  ·rcases DH (l:=S1.F.hs) hj with ⟨_,e⟩ | ⟨_,hj⟩
   ·cases e
    exact .inr mS
   ·exact .inl (h.Bc b (.inl (hH.V3 ⟨j,v,hj⟩)))
  ·have hb1:Back S1 gm b:=by cases b <;> exact hb'
   exact .inl (h.Bc b (hH.back h.g hb1))
 ·show ((S.hs++[(S.made+1,1)]).length:Int)=S.made+1
  have:=h.hm
  rw [List.length_append]
  show ((S.hs.length+1:Nat):Int)=_
  omega
 ·show (((ts++[(Th.own (S.made+1),d,row)]).filter λ e => !aW e.1).length:Int)=S.made+1
  have:=h.cnt
  rw [List.filter_append,List.length_append]
  show (((ts.filter λ e => !aW e.1).length+1:Nat):Int)=_
  omega
end
end
section
variable {P:Program} {w:World} {K:PySem.W.Frag} {mg:Str->Option Value} {base:Heap} {cU cA cB cC cT cF cD cS cI:Addr}
theorem jn {H:Hp} {a b:Addr} {row:List Int} (h1:H a=some (.lst (row.map V.int))) (h2:H b=some (.lst (row.map V.int))) (hl:row.length<=100000):Alike H 2 (.ref a) (.ref b):=by
 refine .inr ⟨a,b,_,_,rfl,rfl,.inl ⟨h1,h2⟩,rfl,by rw [List.length_map];exact hl,λ i x y hx hy => ?_⟩
 rw [hx] at hy
 cases hy
 rw [List.getElem?_map] at hx
 obtain ⟨n,_,rfl⟩:=Option.map_eq_some_iff.mp hx
 exact .inl (.inr (.inr (.inl ⟨n,rfl,rfl⟩)))
theorem St.Wu {H:Hp} {S:SS} {X:Cells} (A N C:Cells) (h:Led H (A++(N++(C++bg cT cF cD cS cI S X)))):Led H (A++(C++bg cT cF cD cS cI S (N++X))):=by
 have e : ∀ X:Cells,bg cT cF cD cS cI S X=(zb cT S++(pR cF S.F++(E9 cD S++(Fb cS S++Du cI S))))++X:=λ X=>by unfold bg;simp only [List.append_assoc]
 rw [e] at h ⊢
 exact Led.perm h (List.Perm.append_left _ ((aP N C _).trans (List.Perm.append_left _ (aP N _ _))))
theorem PO.turn {N:Cells} {S S':SS} {i:Nat} {a:Th} (h:PO N S i S' a):S'.p=S.p/\S'.F.bs=S.F.bs.set i false:=by
 cases a with
 | own m=>obtain ⟨r,row,b,_,rfl⟩:=h;exact ⟨rfl,rfl⟩
 | file z p =>
   obtain ⟨r,row,_,h⟩:=h
   rcases h with ⟨_,rfl⟩ | ⟨_,as,bs,e,j,nr,_,_,_,_,_,rfl⟩ <;> exact ⟨rfl,rfl⟩
abbrev Kv:=List (List Key×V)
theorem yQ (kv:Kv) (a b:Th) (v:V):bx (putK kv (fJ a) v) (fJ b)=if b=a then some v else bx kv (fJ b):=by
 rw [D6]
 by_cases e:b=a
 ·rw [if_pos e,if_pos (by rw [e])]
 ·rw [if_neg e,if_neg λ z=>e (vK z)]
structure dM (S:SS) (kv:Kv) (ts:Ts):Prop where
 th : ∀ (i:Nat) (t:Addr) (a:Th),S.F.hs[i]? = some (some (t,a))->∃ b:Bool,S.F.bs[i]? = some b/\(bx kv (fJ a)).getD (.bl false) = .bl b
 no : ∀ i:Nat,S.F.hs[i]? = some none->S.F.bs[i]? = some false
 ky : ∀ a v,bx kv (fJ a)=some v->a∈ts.map (·.1)
section
variable {S S1:SS} {kv:Kv} {ts ts':Ts} {n q i:Nat} {M N:Cells} {t r p:Addr} {a:Th} {row:List Int}
theorem dM.kL (h:dM S kv ts) (g:aU S n q M) (hi:S.F.hs[i]? = some (some (t,a))) (ka:a∈ts.map (·.1)) (hk:ts'.map (·.1)=ts.map (·.1)):dM (jm S i p row) (putK kv (fJ a) (.bl true)) ts':=by
 have hlt:i < S.F.bs.length:=by rw [g.f.s,<-g.f.h];exact (List.getElem?_eq_some_iff.mp hi).1
 refine ⟨λ j u b hj => ?_,λ j hj => ?_,λ b v hb => ?_⟩
 ·have hj':S.F.hs[j]? = some (some (u,b)):=hj
  show ∃ x:Bool,(S.F.bs.set i true)[j]? = some x/\_
  rw [yQ]
  by_cases e:i=j
  ·subst e
   rw [hi] at hj'
   cases hj'
   exact ⟨true,by rw [List.getElem?_set,if_pos rfl,if_pos hlt],by rw [if_pos rfl];rfl⟩
  ·have hne:b≠a:=λ z=>e (g.inj i j t u a hi (by rw [hj',z]))
   obtain ⟨x,h1,h2⟩:=h.th j u b hj'
   exact ⟨x,(bX e).mpr h1,by rw [if_neg hne];exact h2⟩
 ·have hj':S.F.hs[j]? = some none:=hj
  show (S.F.bs.set i true)[j]? = some false
  have e:i≠j:=λ z=>by rw [<-z,hi] at hj';cases hj'
  exact (bX e).mpr (h.no j hj')
 ·rw [hk]
  rw [yQ] at hb
  by_cases e:b=a
  ·rw [e];exact ka
  ·rw [if_neg e] at hb
   exact h.ky b v hb
theorem dM.had (h:dM S kv ts) (g:aU S n q M) (hH:gG N S n i S1):dM S1 kv ts:=by
 rcases hH with ⟨_,_,rfl⟩ | ⟨_,bs',t,a,_,hi,Li⟩
 ·exact h
 ·have e1:S1.F.hs=S.F.hs.set i none:=Li.hs.1
  have e2:S1.F.bs=S.F.bs.set i false:=Li.turn.2
  have hlt:i < S.F.bs.length:=by rw [g.f.s,<-g.f.h];exact (List.getElem?_eq_some_iff.mp hi).1
  refine ⟨λ j u b hj => ?_,λ j hj => ?_,h.ky⟩
  ·rw [e1] at hj
   obtain ⟨hne,hj⟩:=yJ hj
   obtain ⟨x,h1,h2⟩:=h.th j u b hj
   exact ⟨x,by rw [e2];exact (bX hne).mpr h1,h2⟩
  ·rw [e1] at hj
   rw [e2]
   by_cases e:i=j
   ·rw [<-e,List.getElem?_set,if_pos rfl,if_pos hlt]
   ·exact (bX e).mpr (h.no j ((bX e).mp hj))
theorem dM.gone (h:dM S kv ts):dM (My.gone S a) kv ts:=by
 have eF:=(eW S a).2.1
 exact ⟨λ j u b hj=>by rw [eF] at hj ⊢;exact h.th j u b hj,λ j hj=>by rw [eF] at hj ⊢;exact h.no j hj,h.ky⟩
theorem dM.fill {kv':Kv} {k:Int} {hs':List (Int×Int)} (h:dM S kv ts) (g:aU S n q M) (h0:S.F.hs[i]? = some none) (hn : ¬ oA S a) (s1:(bx kv' (fJ a)).getD (.bl false) = .bl false) (s2 : ∀ b,b≠a->bx kv' (fJ b)=bx kv (fJ b)) (s3 : ∀ b v,bx kv' (fJ b)=some v->b∈ts'.map (·.1)):dM { S with made:=k,hs:=hs',F:=S.F.fill i (some (t,a)) (some (r,row)) false } kv' ts':=by
 have hlt:i < S.F.hs.length:=(List.getElem?_eq_some_iff.mp h0).1
 have hlb:i < S.F.bs.length:=by rw [g.f.s,<-g.f.h];exact hlt
 refine ⟨λ j u b hj => ?_,λ j hj => ?_,s3⟩
 ·have hj':(S.F.hs.set i (some (t,a)))[j]? = some (some (u,b)):=hj
  show ∃ x:Bool,(S.F.bs.set i false)[j]? = some x/\_
  rcases DH hj' with ⟨e,e2⟩ | ⟨e,hj2⟩
  ·cases e2
   exact ⟨false,by rw [e,List.getElem?_set,if_pos rfl,if_pos hlb],s1⟩
  ·obtain ⟨x,h1,h2⟩:=h.th j u b hj2
   exact ⟨x,(bX e).mpr h1,by rw [s2 b λ z=>hn ⟨j,u,by rw [hj2,z]⟩];exact h2⟩
 ·have hj':(S.F.hs.set i (some (t,a)))[j]? = some none:=hj
  show (S.F.bs.set i false)[j]? = some false
  by_cases e:i=j
  ·rw [<-e,List.getElem?_set,if_pos rfl,if_pos hlb]
  ·exact (bX e).mpr (h.no j ((bX e).mp hj'))
theorem dM.mono (h:dM S kv ts) (hk : ∀ b∈ts.map (·.1),b∈ts'.map (·.1)):dM S kv ts':=⟨h.th,h.no,λ b v hb=>hk b (h.ky b v hb)⟩
theorem dM.same (h:dM S kv ts) (e:S1.F=S.F):dM S1 kv ts:=by
 refine ⟨λ j u b hj => ?_,λ j hj => ?_,h.ky⟩
 ·rw [e] at hj ⊢;exact h.th j u b hj
 ·rw [e] at hj ⊢;exact h.no j hj
theorem Lr.TU {us:List V} {m:Int} (h:Lr n q S us ts M) (m1:1<=m) (m2:m<=S.made):Th.own m∈ts.map (·.1):=by
 have hin:m∈S.hs.map (·.1):=by
  refine Classical.byContradiction λ hno => ?_
  have h1:(m::S.hs.map (·.1)).Nodup:=List.nodup_cons.mpr ⟨hno,h.gh.nd⟩
  have h2:=h1.length_le_of_subset (l₂ := (List.range S.made.toNat).map λ k:Nat=>(k:Int)+1) λ x hx=>by
   have hx2:1<=x/\x<=S.made:=by
    rcases List.mem_cons.mp hx with rfl | hx
    ·exact ⟨m1,m2⟩
    ·obtain ⟨e,he,rfl⟩:=List.mem_map.mp hx
     exact h.gh.le e he
   exact List.mem_map.mpr ⟨(x - 1).toNat,List.mem_range.mpr (by omega),by omega⟩
  rw [List.length_cons,List.length_map,List.length_map,List.length_range] at h2
  have:=h.hm
  omega
 rcases (h.gh.Rz m).mp hin with ⟨j,v,hj⟩ | he
 ·exact h.Bc _ (.inl ⟨j,v,hj⟩)
 ·obtain ⟨e,he,e1⟩:=List.mem_map.mp he
  have e1':e.1=m:=e1
  exact h.Bc _ (.inr ⟨e.2.2,e.2.1,by rw [<-e1'];exact he⟩)
end
def gH (sp mk sf rd so:Addr) (us:List V) (S:SS) (ts:Ts) (kv:Kv):Cells:=[(sp,.lst us),(mk,.lst (S.bs.map V.bl)),(sf,.lst S.ps),(rd,.dT (m5 ts)),(so,.dT kv)]
end
section
variable {P:Program} {w:World} {K:PySem.W.Frag} {mg:Str->Option Value} {base:Heap} {cU cA cB cC cT cF cD cS cI:Addr}
theorem IL {H:Hp} {a b:Addr} {kvs:List (List Key×V)} {k:List Key} {v:V} {S:V->Prop} (h1:H a=some (.dT kvs)) (hb:H b=some (.tup (k.map kV))) (h2:bx kvs k=some v) (h:S v) : ∃ c v,V.ref a = .ref c/\fY H c (.ref b) (some v)/\S v:=⟨a,v,rfl,h2 ▸ fY.t h1 hb,h⟩
theorem BR {H:Hp} {a b:Addr} {kvs:List (List Key×V)} {k:List Key} {v:V} {D:Ends} {σ : L2.St} (h1:H a=some (.dT kvs)) (hb:H b=some (.tup (k.map kV))) (hl:kvs.length < sizeLine) (h:D.nx σ (upd H a (.dT (putK kvs k v)))) : ∃ c H4,V.ref a = .ref c/\oK H c (.ref b) v H4/\D.nx σ H4:=⟨a,_,rfl,oK.t h1 hb hl,h⟩
theorem St.mark {H:Hp} {S:SS} {bs:List Bool} {sp mk sf rd so:Addr} {us:List V} {ts:Ts} {kv:Kv} {M:Cells} (h:Led H (bg cT cF cD cS cI { S with bs:=bs } (gH sp mk sf rd so us S ts kv++M))):Led (upd H mk (.lst (bs.map V.bl))) (bg cT cF cD cS cI { S with bs:=bs } (gH sp mk sf rd so us { S with bs:=bs } ts kv++M)):=by
 have h1:Led H (gH sp mk sf rd so us S ts kv++bg cT cF cD cS cI { S with bs:=bs } M):=St.yM [] _ h
 have h2:=h1.gB (o' := .lst (bs.map V.bl)) 1 rfl rfl rfl
 exact St.gW _ h2
def Ob (cT cF cD cS cI:Addr):Sp:=λ vs H Q _ => ∃ (S:SS) (n q:Nat) (c:Int) (sp mk sf rd so:Addr) (us:List V) (ts:Ts) (kv:Kv) (M:Cells),vs = [.ref S.b,.ref sp,.ref mk,.ref rd,.ref so,.int c]/\Led H (bg cT cF cD cS cI S (gH sp mk sf rd so us S ts kv++M))/\Lr n q S us ts M/\dM S kv ts/\kv.length<=1000/\ts.length<=1000/\Builtin.Int.intBits c<=1048576 ∧
 ∀ (S':SS) (ts':Ts) (kv':Kv) (N:Cells) (H':Hp),S'.b=S.b->S'.p=S.p->ts'.map (·.1)=ts.map (·.1)->kv'.length<=kv.length+1->dM S' kv' ts'->Lr n q S' us ts' (N++M)->Led H' (bg cT cF cD cS cI S' (gH sp mk sf rd so us S' ts' kv'++(N++M)))->Q .aM H'
theorem QE (D:Def K mg "_law_stir" jI) (B:iV mg) (T:Txt K mg cU cA cB cC cT cF cD cS cI) (rq:aR P w K mg base 1 cD "touch" ["self","frame"] (yx cD true)) (kH:aR P w K mg base 1 cD "clear" ["self","frame"] (yx cD false)) (vB:aR P w K mg base 2 cF "put_in" ["self","frame","cell","numbers"] (Iu cF)) (pO:cQ P w K mg base 1 "_law_num" ["_law_cell","_law_k"] Nx) (yR:cQ P w K mg base 1 "_law_laid_in" ["_law_row_here","_law_cell","_law_nums"] NW):cQ P w K mg base 3 "_law_stir" ["_law_store","_law_spots","_law_marks","_law_rows","_law_soil","_law_cell"] (Ob cT cF cD cS cI):=by
 have sc:=BC
 refine D.ok BC (λ vs H Q E h => ?_) (λ _ _ _ _ _ _ us hl=>match us,hl with | [_,_,_,_,_,_],_=>rfl) (λ f cdv A outer s H vs Q E hr h => ?_)
 ·obtain ⟨_,_,_,_,_,_,_,_,_,_,_,_,_,rfl,_⟩:=h;rfl
 ·obtain ⟨S,n,q,c,sp,mk,sf,rd,so,us,ts,kv,M,rfl,hL,lr,hso,hkv,hts,Eo,k⟩:=h
  have hu:=gF hr
  have hsz:=sizeLine_eq
  have n1:=lr.g.n1
  have n64:=lr.g.n64
  have ul:us.length=n:=lr.s.l.trans lr.g.f.h
  have dG:=hL.get (St.up mS)
  refine ⟨_,(@af _ _ _ _ _ (@aI _ _ 6 _ _ _ _ sc.nd rfl (by walk_at "o2") (@av _ _ _ _ _ _ _ _ aJ (@av _ _ _ _ _ _ _ _ aJ (@av _ _ _ _ _ _ _ _ ni (@aq _ 5 _ _ (by walk_at "v")) (@aj _ _ _ _)) (@aj _ _ _ _)) (@aH _ _ _ _ _ _ _ _ _ aL (by rfl) B.len bw (@aa _ _ _ _ _ (@aq _ 1 _ _ (by walk_at "v")) (@ak _) (by rfl)) (by decide) (by decide) (by rfl) (by rfl))) (by rfl) (by walk_at "o4")) (@af _ _ _ _ _ (@aS _ _ _ _ _ _ _ _ (@aK _ _ _ _ _ _ _ _ b9 (@av _ _ _ _ _ _ _ _ aJ (@aq _ 5 _ _ (by walk_at "v")) (@aj _ _ _ _)) (@aj _ _ _ _) (aQ _)) (@af _ _ _ _ _ (@cM _ _ _ _ (@aV _ _ _ _ _ _ _ _ _ _ _ _ _ _ _ _ T.kr rq (hr.mono (by omega)) az (@aB _ _ _ _ _ _ _ T.bz T.l7 (@aq _ 0 _ _ (by walk_at "v")) (by rfl)) (@aa _ _ _ _ _ (@aq _ 6 _ _ (by walk_at "v")) (@ak _) (by rfl)) (by rfl) (by rfl) (by rfl)) (by rfl)) (@ao _ _ _ (@bF _ _ _ _ _ _ (@bP _ _ _ _) (@bG _ _ _ _ _ _ _ (@aq _ 2 _ _ (by walk_at "v")) (@aq _ 6 _ _ (by walk_at "v")) set_list (by intro _;rfl)) (by rfl) (by rfl) (by rfl)))) (@aF _)) (@af _ _ _ _ _ (@aS _ _ _ _ _ _ _ _ (@aK _ _ _ _ _ _ _ _ b9 (@av _ _ _ _ _ _ _ _ aJ (@aq _ 5 _ _ (by walk_at "v")) (@aj _ _ _ _)) (@aj _ _ _ _) (aQ _)) (@af _ _ _ _ _ (@cM _ _ _ _ (@aV _ _ _ _ _ _ _ _ _ _ _ _ _ _ _ _ T.kr kH (hr.mono (by omega)) az (@aB _ _ _ _ _ _ _ T.bz T.l7 (@aq _ 0 _ _ (by walk_at "v")) (by rfl)) (@aa _ _ _ _ _ (@aq _ 6 _ _ (by walk_at "v")) (@ak _) (by rfl)) (by rfl) (by rfl) (by rfl)) (by rfl)) (@ao _ _ _ (@bF _ _ _ _ _ _ (@bP _ _ _ _) (@bG _ _ _ _ _ _ _ (@aq _ 2 _ _ (by walk_at "v")) (@aq _ 6 _ _ (by walk_at "v")) set_list (by intro _;rfl)) (by rfl) (by rfl) (by rfl)))) (@aF _)) (@af _ _ _ _ _ (@aS _ _ _ _ _ _ _ _ (@PW.pt _ _ _ (@pw_and _ _ _ _ _ _ _ (@aK _ _ _ _ _ _ _ _ b9 (@av _ _ _ _ _ _ _ _ aJ (@aq _ 5 _ _ (by walk_at "v")) (@aj _ _ _ _)) (@aj _ _ _ _) (aQ _)) (@pw_and1 _ _ _ _ (@aK _ _ _ _ _ _ _ _ b9 (@av _ _ _ _ _ _ _ _ aJ (@av _ _ _ _ _ _ _ _ bA (@aq _ 5 _ _ (by walk_at "v")) (@aj _ _ _ _)) (@aj _ _ _ _)) (@aj _ _ _ _) (aQ _))))) (@ao _ _ _ (@iD _ _ _ _ _ _ _ _ PassesOwn.never rfl (@ck _ _ _ _ _ _ (by rfl) B.range (@aa _ _ _ _ _ (@aH _ _ _ _ _ _ _ _ _ aL (by rfl) B.len bw (@aa _ _ _ _ _ (@aq _ 1 _ _ (by walk_at "v")) (@ak _) (by rfl)) (by decide) (by decide) (by rfl) (by rfl)) (@ak _) (by rfl)) (by rfl)) (@d9 _ _ 7 _ sc.nd rfl (by walk_at "o2") (by walk_at "o4")) (@af _ _ _ _ _ (@cM _ _ _ _ (@aV _ _ _ _ _ _ _ _ _ _ _ _ _ _ _ _ T.kr rq (hr.mono (by omega)) az (@aB _ _ _ _ _ _ _ T.bz T.l7 (@aq _ 0 _ _ (by walk_at "v")) (by rfl)) (@aa _ _ _ _ _ (@aq _ 7 _ _ (by walk_at "v")) (@ak _) (by rfl)) (by rfl) (by rfl) (by rfl)) (by rfl)) (@ao _ _ _ (@bF _ _ _ _ _ _ (@bP _ _ _ _) (@bG _ _ _ _ _ _ _ (@aq _ 2 _ _ (by walk_at "v")) (@aq _ 7 _ _ (by walk_at "v")) set_list (by intro _;rfl)) (by rfl) (by rfl) (by rfl)))) (by intro _;rfl))) (@aF _)) (@ao _ _ _ (@aS _ _ _ _ _ _ _ _ (@PW.pt _ _ _ (@pw_and _ _ _ _ _ _ _ (@aK _ _ _ _ _ _ _ _ pY (@aX _ _ _ _ _ _ _ aO (@aq _ 1 _ _ (by walk_at "v")) (@aq _ 6 _ _ (by walk_at "v")) (λ _ _=>rfl)) (@bJ _ _ _) (aQ _)) (@pw_and1 _ _ _ _ (@aK _ _ _ _ _ _ _ _ b9 (@av _ _ _ _ _ _ _ _ aJ (@av _ _ _ _ _ _ _ _ bA (@aq _ 5 _ _ (by walk_at "v")) (@aj _ _ _ _)) (@aj _ _ _ _)) (@aj _ _ _ _) (aQ _))))) (@af _ _ _ _ _ (@aI _ _ 8 _ _ _ _ sc.nd rfl (by walk_at "o2") (@av _ _ _ _ _ _ _ _ aJ (@av _ _ _ _ _ _ _ _ bA (@aq _ 5 _ _ (by walk_at "v")) (@aj _ _ _ _)) (@aj _ _ _ _)) (by rfl) (by walk_at "o4")) (@af _ _ _ _ _ (@iE _ _ "_law_k" _ _ _ _ _ _ _ _ _ _ 9 _ _ rfl rfl rfl rfl OM (cz (by kernel_rfl)) (@ck _ _ _ _ _ _ (by rfl) B.range (@aa _ _ _ _ _ (@av _ _ _ _ _ _ _ _ aT (@aj _ _ _ _) (@av _ _ _ _ _ _ _ _ aJ (@av _ _ _ _ _ _ _ _ bA (@aq _ 5 _ _ (by walk_at "v")) (@aj _ _ _ _)) (@av _ _ _ _ _ _ _ _ fL (@aj _ _ _ _) (@aq _ 8 _ _ (by walk_at "v"))))) (@ak _) (by rfl)) (by rfl)) (λ _ _ _ _=>(@kc _)) (λ _ _ _ _=>(@aA _ _ _ _ _ _ _ _ _ _ _ pO (hr.mono (by omega)) (by rfl) az (@aa _ _ _ _ _ (@av _ _ _ _ _ _ _ _ aT (@pk _ 6 _ _ (by kernel_rfl) (by kernel_rfl) (by decide) (by decide)) (@av _ _ _ _ _ _ _ _ gc (@aj _ _ _ _) (@pk _ 0 _ _ (by kernel_rfl) (by kernel_rfl) (by decide) (by decide)))) (@aa _ _ _ _ _ (@av _ _ _ _ _ _ _ _ aT (@pk _ 0 _ _ (by kernel_rfl) (by kernel_rfl) (by decide) (by decide)) (@aj _ _ _ _)) (@ak _) (by rfl)) (by rfl)) (by decide) (by rfl) (by rfl))) sc.nd rfl (by walk_at "o2") (by intro _;rfl) (by rfl) (by walk_at "o4")) (@af _ _ _ _ _ (@cM _ _ _ _ (@aV _ _ _ _ _ _ _ _ _ _ _ _ _ _ _ _ T.Frames vB (hr.mono (by omega)) az (@aB _ _ _ _ _ _ _ T.bz T.bL (@aq _ 0 _ _ (by walk_at "v")) (by rfl)) (@aa _ _ _ _ _ (@aq _ 6 _ _ (by walk_at "v")) (@aa _ _ _ _ _ (@aq _ 8 _ _ (by walk_at "v")) (@aa _ _ _ _ _ (@bh _ _ _ _ _ _ _ _ _ (aY (K:=K) rfl) (by rfl) B.list bO (@aa _ _ _ _ _ (@aq _ 9 _ _ (by walk_at "v")) (@ak _) (by rfl)) (by decide) (by decide) (by rfl) (by rfl)) (@ak _) (by rfl)) (by rfl)) (by rfl)) (by rfl) (by rfl) (by rfl)) (by rfl)) (@af _ _ _ _ _ (@gX _ _ _ _ _ _ _ _ _ hu (@aq _ 3 _ _ (by walk_at "v")) (@aX _ _ _ _ _ _ _ aO (@aq _ 1 _ _ (by walk_at "v")) (@aq _ 6 _ _ (by walk_at "v")) (λ _ _=>rfl)) (@aA _ _ _ _ _ _ _ _ _ _ _ yR (hr.mono (by omega)) (by rfl) az (@aa _ _ _ _ _ (@iU _ _ _ _ _ _ hu (@aq _ 3 _ _ (by walk_at "v")) (@aX _ _ _ _ _ _ _ aO (@aq _ 1 _ _ (by walk_at "v")) (@aq _ 6 _ _ (by walk_at "v")) (λ _ _=>rfl)) (λ _ _=>rfl)) (@aa _ _ _ _ _ (@aq _ 8 _ _ (by walk_at "v")) (@aa _ _ _ _ _ (@aq _ 9 _ _ (by walk_at "v")) (@ak _) (by rfl)) (by rfl)) (by rfl)) (by decide) (by rfl) (by rfl)) rfl) (@ao _ _ _ (@gX _ _ _ _ _ _ _ _ _ hu (@aq _ 4 _ _ (by walk_at "v")) (@aX _ _ _ _ _ _ _ aO (@aq _ 1 _ _ (by walk_at "v")) (@aq _ 6 _ _ (by walk_at "v")) (λ _ _=>rfl)) (@bP _ _ _ _) rfl)))))) (@aF _))))))),?_⟩
  refine aG λ M1 K1 => ?_
  walk_at "ge"
  rw [ul]
  have e0:=Int.emod_nonneg (c * 48271 % 10007) (show (n:Int)≠0 by omega)
  have e1:=Int.emod_lt_of_pos (c * 48271 % 10007) (show (0:Int) < n by omega)
  obtain ⟨i,hi⟩ : ∃ i:Nat,c * 48271 % 10007 % (n:Int)=(i:Int):=⟨_,(Int.toNat_of_nonneg e0).symm⟩
  rw [hi] at e0 e1 ⊢
  have hin:i < n:=by omega
  clear e0 dG hi
  refine K1.use ?_
  walk_at "cl"
  clear K1
  refine aG λ M1 K1 => ?_
  have oE : ∀ (bs:List Bool) (H1:Hp),bs.length=n->Led H1 (bg cT cF cD cS cI { S with bs:=bs } (gH sp mk sf rd so us { S with bs:=bs } ts kv++M))->M1 [some (.ref S.b),some (.ref sp),some (.ref mk),some (.ref rd),some (.ref so),some (.int c),some (.int (i:Nat)),none,none,none] H1:=by
   intro bs H1 vL hl
   refine K1.use ?_
   clear K1 hL
   refine aG λ M1 K1 => ?_
   have gI : ∀ (bs:List Bool) (H1:Hp),bs.length=n->Led H1 (bg cT cF cD cS cI { S with bs:=bs } (gH sp mk sf rd so us { S with bs:=bs } ts kv++M))->M1 [some (.ref S.b),some (.ref sp),some (.ref mk),some (.ref rd),some (.ref so),some (.int c),some (.int (i:Nat)),none,none,none] H1:=by
    clear hl vL bs
    intro bs H1 vL hl
    refine K1.use ?_
    clear K1
    refine aG λ M1 K1 => ?_
    have rA : ∀ (v6:Option V) (bs:List Bool) (H1:Hp),bs.length=n->Led H1 (bg cT cF cD cS cI { S with bs:=bs } (gH sp mk sf rd so us { S with bs:=bs } ts kv++M))->M1 [some (.ref S.b),some (.ref sp),some (.ref mk),some (.ref rd),some (.ref so),some (.int c),some (.int (i:Nat)),v6,none,none] H1:=by
     clear hl vL bs
     intro v6 bs H1 vL hl
     refine K1.use ?_
     clear K1
     have HL:=lr.bs vL
     obtain ⟨S1,j5⟩ : ∃ S1:SS,S1 = { S with bs:=bs } := ⟨_,rfl⟩
     have Lk:S1.b=S.b:=by rw [j5]
     have Oc:S1.p=S.p:=by rw [j5]
     have QF:dM S1 kv ts:=hso.same (by rw [j5])
     rw [<-j5] at hl HL
     rw [<-Lk]
     clear j5
     have dG:=hl.get (St.up mS)
     obtain ⟨x,hx⟩ : ∃ x,S1.F.hs[i]? = some x:=⟨_,List.getElem?_eq_getElem (by rw [HL.g.f.h];exact hin)⟩
     cases x with
     | none =>
       have au:iT us ((i:Nat):Int)=some .aM:=dz (by omega) (by rw [Int.toNat_natCast];exact HL.s.no i hx)
       walk_at "ge"
       all_goals first | exact absurd (rfl:V.aM=V.aM) (by assumption) | skip
       exact k S1 ts kv [] H1 Lk Oc rfl (Nat.le_succ _) QF HL hl
     | some x =>
       obtain ⟨u,hu,cu⟩:=HL.s.th i x.1 x.2 hx
       have au:iT us ((i:Nat):Int)=some (.ref u):=dz (by omega) (by rw [Int.toNat_natCast];exact hu)
       walk_at "ge"
       all_goals first | exact nomatch (show V.ref u=V.aM by assumption) | skip
       ·obtain ⟨t',a⟩:=x
        have XN:=HL.g
        obtain ⟨r,row,A7,h4⟩:=XN.rr i t' a hx
        obtain ⟨e,he,ea⟩:=List.mem_map.mp (HL.Bc a (.inl ⟨i,t',hx⟩))
        have ea':e.1=a:=ea
        obtain ⟨ie,rowAt,oke⟩:=HL.rw e he
        have K3:e.2.2=row:=by
         rw [ea'] at rowAt
         rcases rowAt with ⟨j,u2,r2,h1,h2⟩ | ⟨h1,_⟩
         ·have:=XN.inj i j t' u2 a hx h1
          subst this
          rw [A7] at h2
          cases h2
          rfl
         ·exact absurd ⟨i,t',hx⟩ h1
        obtain ⟨yS,TV⟩ : ∃ z:Nat,c / 24 % 4=(z:Int):=⟨_,(Int.toNat_of_nonneg (Int.emod_nonneg _ (by decide))).symm⟩
        have at3:yS < 4:=by omega
        rw [TV]
        refine Ge λ Lc kG => ?_
        have p4:(0:Int) < 4 - (yS:Int):=by omega
        have m0:=Int.emod_nonneg (c / 96) (show (4 - (yS:Int))≠0 by omega)
        have m1:=Int.emod_lt_of_pos (c / 96) p4
        walk_at "ge"
        refine ⟨_,rfl,by omega,by omega,kG.use ?_⟩
        clear kG dG
        refine wB (λ _ v => ∃ z:Int,v=V.int z) hl (by omega) (λ k2 H2 R q2 hk2 hl2 hR => ?_) (λ pm acc H2 hlen hacc hl2 => ?_)
        ·walk_at "ge"
         refine ⟨_,_,_,rfl,Nat.le_trans (bits_add Eo (by omega) (by omega) (by decide)) (by decide),by omega,by omega,hl2,λ H3 hl3 => ?_⟩
         walk_at "ge"
         exact hR _ _ ⟨_,rfl⟩ hl3
        ·obtain ⟨ms,rfl⟩:=intsOf hacc
         rw [List.length_map] at hlen
         have hms:ms.length<=4 - yS:=by omega
         clear hl
         have hl3:=St.push hl2
         clear hl2
         have f1:=fX S1
         have gO:=hl3.get St.b
         have adi:=hl3.get (St.up mS)
         have hF:=St.toF hl3
         have jr:=hF.get mS
         walk_at "ge"
         rename_i q2 H3 _ bZ _
         rw [TV]
         have cN:Led H3 (ud cF S1.F ([(q2,HO.lst (ms.map V.int))]++rF cT cD cS cI S1 ((pm,HO.lst (ms.map V.int))::(gH sp mk sf rd so us S1 ts kv++M)))):=Led.perm bZ (aP [(q2,HO.lst (ms.map V.int))] (pR cF S1.F) _)
         clear bZ hF jr adi gO hl3
         refine ⟨S1.F,n,i,(yS:Int),q2,r,row,ms,_,rfl,cN,XN.f.mono (λ x hx=>mA (jl (mC (mA hx)))),hin,A7,mS,by omega,by omega,by omega,λ p H4 cO => ?_⟩
         rw [Int.toNat_natCast] at cO
         have ahx:row.take yS++ms++row.drop (yS+ms.length)=dw row yS ms:=rfl
         have fH:Led H4 (bg cT cF cD cS cI (jm S1 i p (dw row yS ms)) ([(p,HO.lst ((dw row yS ms).map V.int)),(q2,HO.lst (ms.map V.int))]++((pm,HO.lst (ms.map V.int))::(gH sp mk sf rd so us S1 ts kv++M)))):=St.Tz (S:=S1) (F' := { S1.F with rs:=S1.F.rs.set i (some (p,dw row yS ms)),bs:=S1.F.bs.set i true }) rfl cO
         clear cN cO
         obtain ⟨S2,yT⟩ : ∃ S2:SS,S2=jm S1 i p (dw row yS ms):=⟨_,rfl⟩
         rw [<-yT] at fH
         have Wv : ∀ {x:Addr×HO},x∈gH sp mk sf rd so us S1 ts kv++M->x∈bg cT cF cD cS cI S2 ([(p,HO.lst ((dw row yS ms).map V.int)),(q2,HO.lst (ms.map V.int))]++((pm,HO.lst (ms.map V.int))::(gH sp mk sf rd so us S1 ts kv++M))):=λ hx=>St.up (mA (mC hx))
         have dG:=fH.get (Wv mS)
         have jU:=fH.get (Wv (mC (mC (mC mS))))
         have lH:=fH.get (Wv (mA cu))
         have tM:H4 u=some (.tup ((fJ a).map kV)):=by rw [kZ];exact lH
         clear lH
         have hv:=DB HL.nd he
         rw [ea'] at hv
         walk_at "ge"
         refine IL jU tM hv ?_
         walk_at "ge"
         rw [TV]
         refine ⟨e.2.1,pm,yS,row,ms,_,rfl,fH,Wv (mA (by rw [<-K3];exact ie)),St.up (mA mS),by omega,by omega,λ p2 H5 jS => ?_⟩
         have ic:=St.push jS
         obtain ⟨N4,eN4⟩ : ∃ N4,[(p2,HO.lst ((dw row yS ms).map V.int)),(p,HO.lst ((dw row yS ms).map V.int)),(q2,HO.lst (ms.map V.int)),(pm,HO.lst (ms.map V.int))]=N4:=⟨_,rfl⟩
         have fu:Led H5 (bg cT cF cD cS cI S2 (N4++(gH sp mk sf rd so us S1 ts kv++M))):=by rw [<-eN4];exact ic
         have dD:=St.yM N4 _ fu
         clear fH jS ic fu Wv dG jU tM
         have dG:=dD.get mS
         have jU:=dD.get (mC (mC (mC mS)))
         have lH:=dD.get (mA (St.up (mA cu)))
         have tM:H5 u=some (.tup ((fJ a).map kV)):=by rw [kZ];exact lH
         clear lH
         walk_at "ge"
         refine BR jU tM (by rw [rj];omega) ?_
         rw [Qu p2 (dw row yS ms) (by rw [<-ea'];exact List.mem_map.mpr ⟨e,he,rfl⟩)]
         have uf:Led (upd H5 rd (.dT (m5 (vA ts a p2 (dw row yS ms))))) (gH sp mk sf rd so us S1 (vA ts a p2 (dw row yS ms)) kv++bg cT cF cD cS cI S2 (N4++M)):=dD.gB 3 rfl rfl rfl
         generalize upd H5 rd (.dT (m5 (vA ts a p2 (dw row yS ms))))=H6 at uf ⊢
         clear dD dG jU tM
         have dG:=uf.get mS
         have K4:=uf.get (mC (mC (mC (mC mS))))
         have lH:=uf.get (mA (St.up (mA cu)))
         have tM:H6 u=some (.tup ((fJ a).map kV)):=by rw [kZ];exact lH
         clear lH
         walk_at "ge"
         refine BR K4 tM (by omega) ?_
         have Ww:Led (upd H6 so (.dT (putK kv (fJ a) (.bl true)))) (gH sp mk sf rd so us S1 (vA ts a p2 (dw row yS ms)) (putK kv (fJ a) (.bl true))++bg cT cF cD cS cI S2 (N4++M)):=uf.gB 4 rfl rfl rfl
         have d8:=St.gW _ Ww
         walk_at "ge"
         have ka:a∈ts.map (·.1):=by rw [<-ea'];exact List.mem_map.mpr ⟨e,he,rfl⟩
         have yU:=(HL.mono (M':=N4++M) λ x hx=>mA hx).kL (p:=p) (r:=p2) (row:=dw row yS ms) hx (by rw [<-eN4];exact mB (mC mS)) (by rw [<-eN4];exact mB mS) (by rw [BQ (by omega)];exact h4)
         refine k S2 (vA ts a p2 (dw row yS ms)) (putK kv (fJ a) (.bl true)) N4 _ (by rw [yT];exact Lk) (by rw [yT];exact Oc) (jX ..) (gz ..) (by rw [yT];exact QF.kL XN hx ka (jX ..)) (by rw [yT];exact yU) ?_
         rw [yT] at d8 ⊢
         exact d8
       ·exact k S1 ts kv [] H1 Lk Oc rfl (Nat.le_succ _) QF HL hl
    clear K1
    walk_at "ge"
    ·have dG:=hl.get (St.up mS)
     refine nQ λ Wx mZ => ?_
     walk_at "ge"
     refine ⟨_,rfl,by omega,by omega,mZ.use ?_⟩
     clear mZ dG
     rw [show ((us.length:Int)).toNat=n by omega]
     refine nR (λ j σ H' => ∃ (bs:List Bool) (v6:Option V),bs.length=n/\Led H' (bg cT cF cD cS cI { S with bs:=bs } (gH sp mk sf rd so us { S with bs:=bs } ts kv++M)) ∧ σ = [some (.ref S.b),some (.ref sp),some (.ref mk),some (.ref rd),some (.ref so),some (.int c),some (.int (i:Nat)),v6,none,none]) ⟨bs,none,vL,hl,rfl⟩ ?_ ?_
     ·clear hl vL bs
      rintro j σ H' hj ⟨bs,v6,vL,hl,rfl⟩
      have f2:=pP { S with bs:=bs }
      have gO:=hl.get St.b
      have hD:=St.toD hl
      have KQ:=hD.get M7
      walk_at "ge"
      refine ⟨S.d,S.Lh,S.dm,(S.p:Int),0+(j:Int),bs,_,rfl,hD,by omega,by omega,λ H2 hl3 => ?_⟩
      rw [show (0+(j:Int)).toNat=j by omega] at hl3
      have bZ:Led H2 (bg cT cF cD cS cI { S with bs:=bs.set j true } (gH sp mk sf rd so us { S with bs:=bs } ts kv++M)):=St.ofD (S := { S with bs:=bs }) (N:=[]) (p':=S.p) (bs':=bs.set j true) hl3
      clear hl3 hD KQ gO hl
      have RD:H2 mk=some (.lst (bs.map V.bl)):=bZ.get (St.up (mC mS))
      walk_at "ge"
      refine cg RD (bD (by omega) (by rw [List.length_map];omega)) ?_
      rw [show (0+(j:Int)).toNat=j by omega,ue]
      have cN:=St.mark (S := { S with bs:=bs }) bZ
      walk_at "ge"
      exact ⟨bs.set j true,_,(List.length_set ..).trans vL,cN,rfl⟩
     ·clear hl vL bs
      rintro σ H' ⟨bs,v6,vL,hl,rfl⟩
      exact rA v6 bs H' vL hl
    ·exact rA none bs H1 vL hl
    ·exact rA none bs H1 vL hl
   clear K1
   walk_at "ge"
   ·have f2:=pP { S with bs:=bs }
    have gO:=hl.get St.b
    have hD:=St.toD hl
    have KQ:=hD.get M7
    walk_at "ge"
    refine ⟨S.d,S.Lh,S.dm,(S.p:Int),((i:Nat):Int),bs,_,rfl,hD,by omega,by omega,λ H2 hl3 => ?_⟩
    rw [Int.toNat_natCast] at hl3
    have bZ:Led H2 (bg cT cF cD cS cI { S with bs:=bs.set i false } (gH sp mk sf rd so us { S with bs:=bs } ts kv++M)):=St.ofD (S := { S with bs:=bs }) (N:=[]) (p':=S.p) (bs':=bs.set i false) hl3
    clear hl3 hD KQ gO hl
    have RD:H2 mk=some (.lst (bs.map V.bl)):=bZ.get (St.up (mC mS))
    walk_at "ge"
    refine cg RD (bD (by omega) (by rw [List.length_map];omega)) ?_
    rw [Int.toNat_natCast,ue]
    have cN:=St.mark (S := { S with bs:=bs }) bZ
    walk_at "ge"
    exact gI (bs.set i false) _ ((List.length_set ..).trans vL) cN
   ·exact gI bs H1 vL hl
  clear K1
  obtain ⟨bs,Wq,vL⟩ : ∃ bs:List Bool,{ S with bs:=bs } = S/\bs.length=n:=⟨S.bs,rfl,lr.g.bl⟩
  have hl:Led H (bg cT cF cD cS cI { S with bs:=bs } (gH sp mk sf rd so us { S with bs:=bs } ts kv++M)):=by rw [Wq];exact hL
  clear hL Wq
  walk_at "ge"
  ·have f2:=pP { S with bs:=bs }
   have gO:=hl.get St.b
   have hD:=St.toD hl
   have KQ:=hD.get M7
   walk_at "ge"
   refine ⟨S.d,S.Lh,S.dm,(S.p:Int),((i:Nat):Int),bs,_,rfl,hD,by omega,by omega,λ H2 hl3 => ?_⟩
   rw [Int.toNat_natCast] at hl3
   have bZ:Led H2 (bg cT cF cD cS cI { S with bs:=bs.set i true } (gH sp mk sf rd so us { S with bs:=bs } ts kv++M)):=St.ofD (S := { S with bs:=bs }) (N:=[]) (p':=S.p) (bs':=bs.set i true) hl3
   clear hl3 hD KQ gO hl
   have RD:H2 mk=some (.lst (bs.map V.bl)):=bZ.get (St.up (mC mS))
   walk_at "ge"
   refine cg RD (bD (by omega) (by rw [List.length_map];omega)) ?_
   rw [Int.toNat_natCast,ue]
   have cN:=St.mark (S := { S with bs:=bs }) bZ
   walk_at "ge"
   exact oE (bs.set i true) _ ((List.length_set ..).trans vL) cN
  ·exact oE bs H vL hl
end
section
variable {P:Program} {w:World} {K:PySem.W.Frag} {mg:Str->Option Value} {base:Heap} {cU cA cB cC cT cF cD cS cI:Addr}
theorem St.iR {H:Hp} {S:SS} {M M':Cells} (h:Led H (bg cT cF cD cS cI S M)) (p:M.Perm M'):Led H (bg cT cF cD cS cI S M'):=Led.perm h (List.Perm.append_left _ (List.Perm.append_left _ (List.Perm.append_left _ (List.Perm.append_left _ (List.Perm.append_left _ p)))))
theorem K5 {hs:List Hd} (h : ∃ i:Nat,hs[i]? = some none) : ∃ i:Nat,hs[i]? = some none ∧ ∀ (j:Nat) z,j < i->hs[j]? = some z->z≠none:=by
 obtain ⟨i0,hi0⟩:=h
 have hex : ∃ y∈hs,y.isNone=true:=⟨none,List.mem_of_getElem? hi0,rfl⟩
 have hlt:=List.findIdx_lt_length_of_exists hex
 have KG:(hs[hs.findIdx λ y=>y.isNone]'hlt).isNone=true:=List.findIdx_getElem (w:=hlt)
 refine ⟨hs.findIdx λ y=>y.isNone,?_,λ j z hj hz e => ?_⟩
 ·rw [List.getElem?_eq_getElem hlt]
  cases e:hs[hs.findIdx λ y=>y.isNone]'hlt with
  | none=>rfl
  | some x=>rw [e] at KG;cases KG
 ·have h:=List.not_of_lt_findIdx hj
  have hlm:j < hs.length:=(List.getElem?_eq_some_iff.mp hz).1
  have e2:hs[j]=z:=(List.getElem?_eq_some_iff.mp hz).2
  rw [e2,e] at h
  cases h
def j4:V->Bool
 | .aM=>true
 | _=>false
theorem Wy {ps:List V} (pe : ∀ v∈ps,v = .aM ∨ ∃ m:Int,v = .int m) (z:Int):((ps.filter λ v => !j4 v).length:Int)=0 ∨ ∃ m:Int,V.int m∈ps/\iT (ps.filter λ v => !j4 v) (z % ((ps.filter λ v => !j4 v).length:Int))=some (.int m):=by
 by_cases h0:(ps.filter λ v => !j4 v).length=0
 ·exact .inl (by omega)
 ·have e0:=Int.emod_nonneg z (show ((ps.filter λ v => !j4 v).length:Int)≠0 by omega)
  have e1:=Int.emod_lt_of_pos z (show (0:Int) < (ps.filter λ v => !j4 v).length by omega)
  have hj:(z % ((ps.filter λ v => !j4 v).length:Int)).toNat < (ps.filter λ v => !j4 v).length:=by omega
  obtain ⟨h1,h2⟩:=List.mem_filter.mp (List.getElem_mem hj)
  rcases pe _ h1 with h3 | ⟨m,h3⟩
  ·rw [h3] at h2;cases h2
  ·exact .inr ⟨m,by rw [<-h3];exact h1,dz e0 (by rw [List.getElem?_eq_getElem hj,h3])⟩
def nO (S:SS) (a:Th):Bool:=S.F.hs.any λ x=>decide (lG x=some a)
theorem Ff {S:SS} {a:Th} : nO S a=true↔dY (some a)∈S.F.hs.map λ x=>dY (lG x):=by
 unfold nO
 rw [List.any_eq_true,List.mem_map]
 constructor
 ·rintro ⟨x,hx,e⟩
  exact ⟨x,hx,by rw [of_decide_eq_true e]⟩
 ·rintro ⟨x,hx,e⟩
  exact ⟨x,hx,decide_eq_true (fV.mp e)⟩
theorem Wz {S:SS} {ys:List (Addr×Th)} (z:Int):(((ys.filter λ y=>aW y.2 && !nO S y.2).map λ y=>V.ref y.1).length:Int)=0 ∨ ∃ y∈ys,aW y.2=true/\nO S y.2=false/\iT ((ys.filter λ y=>aW y.2 && !nO S y.2).map λ y=>V.ref y.1) (z % (((ys.filter λ y=>aW y.2 && !nO S y.2).map λ y=>V.ref y.1).length:Int))=some (.ref y.1):=by
 rw [List.length_map]
 by_cases h0:(ys.filter λ y=>aW y.2 && !nO S y.2).length=0
 ·exact .inl (by omega)
 ·have e0:=Int.emod_nonneg z (show ((ys.filter λ y=>aW y.2 && !nO S y.2).length:Int)≠0 by omega)
  have e1:=Int.emod_lt_of_pos z (show (0:Int) < (ys.filter λ y=>aW y.2 && !nO S y.2).length by omega)
  have hj:(z % ((ys.filter λ y=>aW y.2 && !nO S y.2).length:Int)).toNat < (ys.filter λ y=>aW y.2 && !nO S y.2).length:=by omega
  obtain ⟨h1,h2⟩:=List.mem_filter.mp (List.getElem_mem hj)
  obtain ⟨h3,h4⟩:=Bool.and_eq_true_iff.mp h2
  refine .inr ⟨_,h1,h3,by simpa using h4,dz e0 (by rw [List.getElem?_map,List.getElem?_eq_getElem hj];rfl)⟩
def m9 (S:SS):Prop := ∀ (j:Nat) (b:Bool),S.F.bs[j]? = some b->b=false
theorem m9.gone {S:SS} {a:Th} (h:m9 S):m9 (My.gone S a):=λ j b hj=>h j b (by rw [<-(eW S a).2.1];exact hj)
theorem m9.fill {S:SS} {i:Nat} {x:Hd} {y:Option (Addr×List Int)} {k:Int} {hs':List (Int×Int)} (h:m9 S):m9 { S with made:=k,hs:=hs',F:=S.F.fill i x y false } := λ j b hj=>by
 have hj':(S.F.bs.set i false)[j]? = some b:=hj
 rw [List.getElem?_set] at hj'
 split at hj'
 ·split at hj'
  ·exact (Option.some.inj hj').symm
  ·cases hj'
 ·exact h j b hj'
def IM (cT cF cD cS cI:Addr):Sp:=λ vs H Q _ => ∃ (S:SS) (n q:Nat) (c:Int) (sp mk sf rd:Addr) (us:List V) (ts:Ts) (M:Cells),vs = [.ref S.b,.ref sp,.ref sf,.ref rd,.int c]/\Led H (bg cT cF cD cS cI S (oB sp mk sf rd us S ts++M))/\Lr n q S us ts M/\m9 S/\q<=128/\ts.length<=1000/\0<=c/\c<=1000000 ∧
 ∀ (S':SS) (us':List V) (ts':Ts) (N:Cells) (H':Hp),S'.b=S.b->S'.p=S.p->ts'.length<=ts.length+1->ts.length<=ts'.length->m9 S'->Lr n q S' us' ts' (N++M)->Led H' (bg cT cF cD cS cI S' (oB sp mk sf rd us' S' ts'++(N++M)))->Q (.bl true) H'
theorem Od (D:Def K mg "_law_fill" jJ) (B:iV mg) (T:Txt K mg cU cA cB cC cT cF cD cS cI) (vM:cQ P w K mg base 7 "bring" ["store","thing"] (DA cT cF cD cS cI)) (nc:cQ P w K mg base 7 "new_sheet" ["store","row"] (NJ cT cF cD cS cI cU)) (iS:cQ P w K mg base 2 "_law_row" ["_law_cell"] IC) (aN:cQ P w K mg base 4 "_law_alike" ["_law_found","_law_due"] (jk 2)):cQ P w K mg base 8 "_law_fill" ["_law_store","_law_spots","_law_shelf","_law_rows","_law_cell"] (IM cT cF cD cS cI):=by
 have sc:=BD
 refine D.ok BD (λ vs H Q E h => ?_) (λ _ _ _ _ _ _ us hl=>match us,hl with | [_,_,_,_,_],_=>rfl) (λ f cdv A outer s H vs Q E hr h => ?_)
 ·obtain ⟨_,_,_,_,_,_,_,_,_,_,_,rfl,_⟩:=h;rfl
 ·obtain ⟨S,n,q,c,sp,mk,sf,rd,us,ts,M,rfl,hL,lr,hac,Oe,hts,c0,c9,k⟩:=h
  have hu:=gF hr
  have hsz:=sizeLine_eq
  have n1:=lr.g.n1
  have n64:=lr.g.n64
  have ul:us.length=n:=lr.s.l.trans lr.g.f.h
  have dG:=hL.get (St.up mS)
  have d1:dZ H .aM (PySem.W.kqdP (dY none)):=by show dZ H .aM (PySem.W.kqdP .none);rw [PySem.W.kqdP];exact .aM
  have d2:=lr.s.dat hL (λ x hx=>St.up (mA hx))
  have o1:PySem.W.kqdOk 8 (dY none)=true:=rfl
  have o2:=lr.g.KZ
  have Of:dY none∈(S.F.hs.map λ x=>dY (lG x)) ↔ ∃ i:Nat,S.F.hs[i]? = some none:=by
   constructor
   ·intro h
    obtain ⟨z,hz,w⟩:=List.mem_map.mp h
    obtain ⟨i,hi⟩:=List.getElem?_of_mem hz
    have w2:=fV.mp w
    cases z with
    | none=>exact ⟨i,hi⟩
    | some z=>cases w2
   ·rintro ⟨i,hi⟩
    exact List.mem_map.mpr ⟨none,List.mem_of_getElem? hi,rfl⟩
  refine ⟨_,(@af _ _ _ _ _ (@aS _ _ _ _ _ _ _ _ (@aK _ _ _ _ _ _ _ _ (nq hr.units) (@bJ _ _ _) (@aq _ 1 _ _ (by walk_at "v")) (by with_unfolding_all rfl)) (@ao _ _ _ (@aE _ _ _ _ (@bP _ _ _ _))) (@aF _)) (@af _ _ _ _ _ (@aI _ _ 5 _ _ _ _ sc.nd rfl (by walk_at "o2") (@nP _ _ _ _ _ _ _ _ _ _ _ _ PySem.F.plainAttrs_list PySem.F.slot_list_index PySem.F.type_list_index (jA hr.units) (@aq _ 1 _ _ (by walk_at "v")) (@aa _ _ _ _ _ (@bJ _ _ _) (@ak _) (by rfl)) (by rfl) (by rfl) (by rfl) (by rfl) (by rfl)) (by rfl) (by walk_at "o4")) (@af _ _ _ _ _ (@iE _ _ "_law_sheet" _ _ _ _ _ _ _ _ _ _ 6 _ _ rfl rfl rfl rfl OM (cz (by kernel_rfl)) (@fK _ _ _ _ (@aq _ 2 _ _ (by walk_at "v"))) (λ _ _ _ _=>(@p8 _ _ _ (@aK _ _ _ _ _ _ _ _ pY (@pk _ 0 _ _ (by kernel_rfl) (by kernel_rfl) (by decide) (by decide)) (@bJ _ _ _) (aQ _)))) (λ _ _ _ _=>(@pk _ 0 _ _ (by kernel_rfl) (by kernel_rfl) (by decide) (by decide))) sc.nd rfl (by walk_at "o2") (by intro _;rfl) (by rfl) (by walk_at "o4")) (@af _ _ _ _ _ (@iE _ _ "_law_thing" _ _ _ _ _ _ _ _ _ _ 7 _ _ rfl rfl rfl rfl OM (cz (by kernel_rfl)) (@fK _ _ _ _ (@bh _ _ _ _ _ _ _ _ _ (gC rfl) (by rfl) B.list bO (@aa _ _ _ _ _ (@aq _ 3 _ _ (by walk_at "v")) (@ak _) (by rfl)) (by decide) (by decide) (by rfl) (by rfl))) (λ _ _ _ _=>(@p8 _ _ _ (@PW.pt _ _ _ (@pw_and _ _ _ _ _ _ _ (@aK _ _ _ _ _ _ _ _ b9 (@aX _ _ _ _ _ _ _ aO (@pk _ 0 _ _ (by kernel_rfl) (by kernel_rfl) (by decide) (by decide)) (@aj _ _ _ _) (λ _ _=>rfl)) (@bV _ _ _ _) (aQ _)) (@pw_and1 _ _ _ _ (@aK _ _ _ _ _ _ _ _ (nq hr.units) (@pk _ 0 _ _ (by kernel_rfl) (by kernel_rfl) (by decide) (by decide)) (@pk _ 2 _ _ (by kernel_rfl) (by kernel_rfl) (by decide) (by decide)) (by with_unfolding_all rfl))))))) (λ _ _ _ _=>(@pk _ 0 _ _ (by kernel_rfl) (by kernel_rfl) (by decide) (by decide))) sc.nd rfl (by walk_at "o2") (by intro _;rfl) (by rfl) (by walk_at "o4")) (@af _ _ _ _ _ (@aI _ _ 8 _ _ _ _ sc.nd rfl (by walk_at "o2") (@aH _ _ _ _ _ _ _ _ _ aL (by rfl) B.len bw (@aa _ _ _ _ _ (@kh _ _ "_law_thing" _ _ _ _ _ _ _ _ _ rfl rfl rfl rfl OM (cz (by kernel_rfl)) (@fK _ _ _ _ (@bh _ _ _ _ _ _ _ _ _ (gC rfl) (by rfl) B.list bO (@aa _ _ _ _ _ (@aq _ 3 _ _ (by walk_at "v")) (@ak _) (by rfl)) (by decide) (by decide) (by rfl) (by rfl))) (λ _ _ _ _=>(@p8 _ _ _ (@aK _ _ _ _ _ _ _ _ b9 (@aX _ _ _ _ _ _ _ aO (@pk _ 0 _ _ (by kernel_rfl) (by kernel_rfl) (by decide) (by decide)) (@aj _ _ _ _) (λ _ _=>rfl)) (@bV _ _ _ _) (aQ _)))) (λ _ _ _ _=>(@pk _ 0 _ _ (by kernel_rfl) (by kernel_rfl) (by decide) (by decide))) (by intro _;rfl)) (@ak _) (by rfl)) (by decide) (by decide) (by rfl) (by rfl)) (by rfl) (by walk_at "o4")) (@af _ _ _ _ _ (@aS _ _ _ _ _ _ _ _ (@PW.pt _ _ _ (@pw_and _ _ _ _ _ _ _ (@aK _ _ _ _ _ _ _ _ b9 (@av _ _ _ _ _ _ _ _ aJ (@aq _ 4 _ _ (by walk_at "v")) (@aj _ _ _ _)) (@aj _ _ _ _) (aQ _)) (@pw_and1 _ _ _ _ (@aK _ _ _ _ _ _ _ _ Bf (@aH _ _ _ _ _ _ _ _ _ aL (by rfl) B.len bw (@aa _ _ _ _ _ (@aq _ 6 _ _ (by walk_at "v")) (@ak _) (by rfl)) (by decide) (by decide) (by rfl) (by rfl)) (@aj _ _ _ _) (aQ _))))) (@af _ _ _ _ _ (@aI _ _ 9 _ _ _ _ sc.nd rfl (by walk_at "o2") (@dS _ _ _ _ _ (@aa _ _ _ _ _ (@bV _ _ _ _) (@aa _ _ _ _ _ (@aX _ _ _ _ _ _ _ aO (@aq _ 6 _ _ (by walk_at "v")) (@av _ _ _ _ _ _ _ _ aJ (@av _ _ _ _ _ _ _ _ bA (@aq _ 4 _ _ (by walk_at "v")) (@aj _ _ _ _)) (@aH _ _ _ _ _ _ _ _ _ aL (by rfl) B.len bw (@aa _ _ _ _ _ (@aq _ 6 _ _ (by walk_at "v")) (@ak _) (by rfl)) (by decide) (by decide) (by rfl) (by rfl))) (λ _ _=>rfl)) (@ak _) (by rfl)) (by rfl))) (by rfl) (by walk_at "o4")) (@af _ _ _ _ _ (@bF _ _ _ _ _ _ (@bJ _ _ _) (@bG _ _ _ _ _ _ _ (@aq _ 2 _ _ (by walk_at "v")) (@nP _ _ _ _ _ _ _ _ _ _ _ _ PySem.F.plainAttrs_list PySem.F.slot_list_index PySem.F.type_list_index lX (@aq _ 2 _ _ (by walk_at "v")) (@aa _ _ _ _ _ (@aX _ _ _ _ _ _ _ aO (@aq _ 9 _ _ (by walk_at "v")) (@aj _ _ _ _) (λ _ _=>rfl)) (@ak _) (by rfl)) (by rfl) (by rfl) (by rfl) (by rfl) (by rfl)) set_list (by intro _;rfl)) (by rfl) (by rfl) (by rfl)) (@af _ _ _ _ _ (@bF _ _ _ _ _ _ (@aq _ 9 _ _ (by walk_at "v")) (@bG _ _ _ _ _ _ _ (@aq _ 1 _ _ (by walk_at "v")) (@aq _ 5 _ _ (by walk_at "v")) set_list (by intro _;rfl)) (by rfl) (by rfl) (by rfl)) (@ao _ _ _ (@aE _ _ _ _ (@aA _ _ _ _ _ _ _ _ _ _ _ aN (hr.mono (by omega)) (by rfl) az (@aa _ _ _ _ _ (@aA _ _ _ _ _ _ _ _ _ _ _ vM (hr.mono (by omega)) (by rfl) az (@aa _ _ _ _ _ (@aq _ 0 _ _ (by walk_at "v")) (@aa _ _ _ _ _ (@aq _ 9 _ _ (by walk_at "v")) (@ak _) (by rfl)) (by rfl)) (by decide) (by rfl) (by rfl)) (@aa _ _ _ _ _ (@dS _ _ _ _ _ (@aa _ _ _ _ _ (@aq _ 5 _ _ (by walk_at "v")) (@aa _ _ _ _ _ (@bP _ _ _ _) (@ak _) (by rfl)) (by rfl))) (@ak _) (by rfl)) (by rfl)) (by decide) (by rfl) (by rfl))))))) (@aF _)) (@af _ _ _ _ _ (@aS _ _ _ _ _ _ _ _ (@PW.pt _ _ _ (@pw_and _ _ _ _ _ _ _ (@aK _ _ _ _ _ _ _ _ b9 (@av _ _ _ _ _ _ _ _ aJ (@aq _ 4 _ _ (by walk_at "v")) (@aj _ _ _ _)) (@aj _ _ _ _) (aQ _)) (@pw_and1 _ _ _ _ (@aK _ _ _ _ _ _ _ _ Bf (@aH _ _ _ _ _ _ _ _ _ aL (by rfl) B.len bw (@aa _ _ _ _ _ (@aq _ 7 _ _ (by walk_at "v")) (@ak _) (by rfl)) (by decide) (by decide) (by rfl) (by rfl)) (@aj _ _ _ _) (aQ _))))) (@af _ _ _ _ _ (@aI _ _ 9 _ _ _ _ sc.nd rfl (by walk_at "o2") (@aX _ _ _ _ _ _ _ aO (@aq _ 7 _ _ (by walk_at "v")) (@av _ _ _ _ _ _ _ _ aJ (@av _ _ _ _ _ _ _ _ bA (@aq _ 4 _ _ (by walk_at "v")) (@aj _ _ _ _)) (@aH _ _ _ _ _ _ _ _ _ aL (by rfl) B.len bw (@aa _ _ _ _ _ (@aq _ 7 _ _ (by walk_at "v")) (@ak _) (by rfl)) (by decide) (by decide) (by rfl) (by rfl))) (λ _ _=>rfl)) (by rfl) (by walk_at "o4")) (@af _ _ _ _ _ (@bF _ _ _ _ _ _ (@aq _ 9 _ _ (by walk_at "v")) (@bG _ _ _ _ _ _ _ (@aq _ 1 _ _ (by walk_at "v")) (@aq _ 5 _ _ (by walk_at "v")) set_list (by intro _;rfl)) (by rfl) (by rfl) (by rfl)) (@ao _ _ _ (@aE _ _ _ _ (@aA _ _ _ _ _ _ _ _ _ _ _ aN (hr.mono (by omega)) (by rfl) az (@aa _ _ _ _ _ (@aA _ _ _ _ _ _ _ _ _ _ _ vM (hr.mono (by omega)) (by rfl) az (@aa _ _ _ _ _ (@aq _ 0 _ _ (by walk_at "v")) (@aa _ _ _ _ _ (@aq _ 9 _ _ (by walk_at "v")) (@ak _) (by rfl)) (by rfl)) (by decide) (by rfl) (by rfl)) (@aa _ _ _ _ _ (@dS _ _ _ _ _ (@aa _ _ _ _ _ (@aq _ 5 _ _ (by walk_at "v")) (@aa _ _ _ _ _ (@bP _ _ _ _) (@ak _) (by rfl)) (by rfl))) (@ak _) (by rfl)) (by rfl)) (by decide) (by rfl) (by rfl)))))) (@aF _)) (@af _ _ _ _ _ (@aS _ _ _ _ _ _ _ _ (@PW.pt _ _ _ (@pw_and _ _ _ _ _ _ _ (@aK _ _ _ _ _ _ _ _ Bf (@av _ _ _ _ _ _ _ _ aJ (@aq _ 4 _ _ (by walk_at "v")) (@aj _ _ _ _)) (@aj _ _ _ _) (aQ _)) (@pw_and1 _ _ _ _ (@aK _ _ _ _ _ _ _ _ Bf (@av _ _ _ _ _ _ _ _ fL (@av _ _ _ _ _ _ _ _ aT (@av _ _ _ _ _ _ _ _ fL (@aH _ _ _ _ _ _ _ _ _ aL (by rfl) B.len bw (@aa _ _ _ _ _ (@aq _ 1 _ _ (by walk_at "v")) (@ak _) (by rfl)) (by decide) (by decide) (by rfl) (by rfl)) (@aj _ _ _ _)) (@aH _ _ _ _ _ _ _ _ _ aL (by rfl) B.len bw (@aa _ _ _ _ _ (@aq _ 2 _ _ (by walk_at "v")) (@ak _) (by rfl)) (by decide) (by decide) (by rfl) (by rfl))) (@aq _ 8 _ _ (by walk_at "v"))) (@aj _ _ _ _) (aQ _))))) (@af _ _ _ _ _ (@aI _ _ 9 _ _ _ _ sc.nd rfl (by walk_at "o2") (@dS _ _ _ _ _ (@aa _ _ _ _ _ (@bV _ _ _ _) (@aa _ _ _ _ _ (@av _ _ _ _ _ _ _ _ aT (@aj _ _ _ _) (@aq _ 8 _ _ (by walk_at "v"))) (@ak _) (by rfl)) (by rfl))) (by rfl) (by walk_at "o4")) (@af _ _ _ _ _ (@gX _ _ _ _ _ _ _ _ _ hu (@aq _ 3 _ _ (by walk_at "v")) (@aq _ 9 _ _ (by walk_at "v")) (@aA _ _ _ _ _ _ _ _ _ _ _ iS (hr.mono (by omega)) (by rfl) az (@aa _ _ _ _ _ (@aq _ 4 _ _ (by walk_at "v")) (@ak _) (by rfl)) (by decide) (by rfl) (by rfl)) rfl) (@af _ _ _ _ _ (@bF _ _ _ _ _ _ (@aq _ 9 _ _ (by walk_at "v")) (@bG _ _ _ _ _ _ _ (@aq _ 1 _ _ (by walk_at "v")) (@aq _ 5 _ _ (by walk_at "v")) set_list (by intro _;rfl)) (by rfl) (by rfl) (by rfl)) (@ao _ _ _ (@aE _ _ _ _ (@aA _ _ _ _ _ _ _ _ _ _ _ aN (hr.mono (by omega)) (by rfl) az (@aa _ _ _ _ _ (@aA _ _ _ _ _ _ _ _ _ _ _ nc (hr.mono (by omega)) (by rfl) az (@aa _ _ _ _ _ (@aq _ 0 _ _ (by walk_at "v")) (@aa _ _ _ _ _ (@bh _ _ _ _ _ _ _ _ _ (aY (K:=K) rfl) (by rfl) B.list bO (@aa _ _ _ _ _ (@iU _ _ _ _ _ _ hu (@aq _ 3 _ _ (by walk_at "v")) (@aq _ 9 _ _ (by walk_at "v")) (λ _ _=>rfl)) (@ak _) (by rfl)) (by decide) (by decide) (by rfl) (by rfl)) (@ak _) (by rfl)) (by rfl)) (by decide) (by rfl) (by rfl)) (@aa _ _ _ _ _ (@dS _ _ _ _ _ (@aa _ _ _ _ _ (@av _ _ _ _ _ _ _ _ aT (@aj _ _ _ _) (@aq _ 8 _ _ (by walk_at "v"))) (@aa _ _ _ _ _ (@aq _ 5 _ _ (by walk_at "v")) (@ak _) (by rfl)) (by rfl))) (@ak _) (by rfl)) (by rfl)) (by decide) (by rfl) (by rfl))))))) (@aF _)) (@ao _ _ _ (@aE _ _ _ _ (@bP _ _ _ _))))))))))),?_⟩
  refine aG λ M1 K1 => ?_
  walk_at "ge"
  by_cases hf : ∃ i:Nat,S.F.hs[i]? = some none
  ·refine wC (neg:=true) (b:=true) dG d1 d2 o1 o2 (iff_of_true rfl (Of.mpr hf)) ?_
   obtain ⟨i,h1,h2⟩:=K5 hf
   have hin:i < n:=by rw [<-lr.g.f.h];exact (List.getElem?_eq_some_iff.mp h1).1
   walk_at "ge"
   refine K1.use ?_
   walk_at "cl"
   clear K1
   refine aG λ M1 K1 => ?_
   walk_at "ge"
   refine ⟨zo dG,?_⟩
   walk_at "ge"
   refine Et dG d1 d2 o1 o2 (j:=i) (by rw [List.getElem?_map,h1];rfl) (λ m e hm he => ?_) ?_
   ·rw [List.getElem?_map] at he
    obtain ⟨z,hz,rfl⟩:=Option.map_eq_some_iff.mp he
    refine λ w=>h2 m z hm hz ?_
    cases z with
    | none=>rfl
    | some z=>exact nomatch (fV.mp w)
   walk_at "ge"
   refine K1.use ?_
   walk_at "cl"
   clear K1 d1 d2 dG
   refine aG λ M1 K1 => ?_
   have jr:=hL.get (St.up (mC (mC mS)))
   walk_at "ge"
   refine qb λ Lc kG => ?_
   walk_at "ge"
   refine ⟨sf,rfl,⟨_,fj.of jr⟩,kG.use ?_⟩
   clear kG
   have hml:S.ps.map id=S.ps:=List.map_id _
   have hpl:=lr.g.pl
   have hq6:=lr.g.q6
   refine jy S.ps id (λ v => !j4 v) hL (by rw [hml];exact St.up (mC (mC mS))) (by omega) (λ v H2 R x hv hl2 hR => ?_) (λ v H2 R x hv hl2 hR => ?_) (λ ly H2 hl2 => ?_)
   ·dsimp only [id]
    rcases lr.g.pe v hv with rfl | ⟨m,rfl⟩
    ·walk_at "ge"
     exact hR _ hl2
    ·walk_at "ge"
     exact hR _ hl2
   ·dsimp only [id]
    walk_at "ge"
    exact hR _ hl2
   ·rw [List.map_id] at hl2
    clear jr
    walk_at "ge"
    refine K1.use ?_
    walk_at "cl"
    clear K1
    refine aG λ M1 K1 => ?_
    have jU:=hl2.get (mC (St.up (mC (mC (mC mS)))))
    walk_at "ge"
    refine qb λ Lc kG => ?_
    walk_at "ge"
    refine j3 jU hl2 λ l ys H3 ey hl3 => ?_
    refine ⟨l,rfl,⟨_,fj.of (hl3.get mS)⟩,kG.use ?_⟩
    clear kG jU
    have hyl:ys.length=ts.length:=by have:=congrArg List.length ey;simpa using this
    have okY : ∀ y∈ys,Fz y.2:=λ y hy=>by
     have:y.2∈ts.map (·.1):=by rw [<-ey];exact List.mem_map.mpr ⟨y,hy,rfl⟩
     obtain ⟨e,he,e2⟩:=List.mem_map.mp this
     have e2':e.1=y.2:=e2
     rw [<-e2']
     exact (lr.rw e he).2.2
    have Vr:Led H3 ((l,HO.lst (ys.map λ y=>V.ref y.1))::(Oa ys++((ly,HO.lst (S.ps.filter λ v => !j4 v))::bg cT cF cD cS cI S (oB sp mk sf rd us S ts++M)))):=hl3
    have IK : ∀ {x:Addr×HO},x∈oB sp mk sf rd us S ts++M->x∈(l,HO.lst (ys.map λ y=>V.ref y.1))::(Oa ys++((ly,HO.lst (S.ps.filter λ v => !j4 v))::bg cT cF cD cS cI S (oB sp mk sf rd us S ts++M))):=λ hx=>mC (mA (mC (St.up hx)))
    refine jy ys (λ y=>V.ref y.1) (λ y=>aW y.2 && !nO S y.2) Vr List.mem_cons_self (by omega) (λ y H4 R x hy bZ hR => ?_) (λ y H4 R x hy bZ hR => ?_) (λ wa H4 bZ => ?_)
    ·have BS:=bZ.get (mC (mC (mB (List.mem_map.mpr ⟨y,hy,rfl⟩))))
     have dG:=bZ.get (mC (IK mS))
     have d1:dZ H4 (.ref y.1) (PySem.W.kqdP (dY (some y.2))):=pN BS
     have d2:=lr.s.dat bZ (λ x hx=>mC (IK (mA hx)))
     have o1:=(okY y hy).dat
     obtain ⟨ya,yt⟩:=y
     cases yt with
     | own m =>
       have HM:H4 ya=some (.tup [.str (Str.ofString "own"),.int m]):=BS
       have hne : ¬ Str.ofString "own" = Str.ofString "file" := by decide +kernel
       clear BS
       dsimp only
       walk_at "ge"
       ·exact absurd (by assumption) hne
       ·exact hR _ bZ
     | file z p =>
       have HM:H4 ya=some (.tup [.str (Str.ofString "file"),.str z,.int p]):=BS
       clear BS
       dsimp only
       walk_at "ge"
       ·refine wC (neg:=true) (b:=nO S (.file z p)) dG d1 d2 o1 o2 Ff ?_
        have XO:=hR H4 bZ
        dsimp only [aW] at XO
        rw [Bool.true_and] at XO
        rw [if_pos rfl]
        walk_at "ge"
        exact XO
       ·exact absurd rfl (by assumption)
    ·walk_at "ge"
     exact hR _ bZ
    ·clear hl2 hl3 Vr
     walk_at "ge"
     refine K1.use ?_
     walk_at "cl"
     clear K1
     refine aG λ M1 K1 => ?_
     have jU:=bZ.get (mC (IK (mC (mC (mC mS)))))
     walk_at "ge"
     refine qb λ Lc kG => ?_
     walk_at "ge"
     refine j3 jU bZ λ l2 Ll H5 TX cN => ?_
     refine ⟨l2,rfl,⟨_,fj.of (cN.get mS)⟩,kG.use ?_⟩
     clear kG jU
     have TY:Ll.length=ts.length:=by have:=congrArg List.length TX;simpa using this
     refine jy Ll (λ y=>V.ref y.1) (λ y => !aW y.2) cN List.mem_cons_self (by omega) (λ y H6 R x hy cO hR => ?_) (λ y H6 R x hy cO hR => ?_) (λ om H6 cO => ?_)
     ·have BS:=cO.get (mC (mC (mB (List.mem_map.mpr ⟨y,hy,rfl⟩))))
      obtain ⟨ya,yt⟩:=y
      cases yt with
      | own m =>
        have HM:H6 ya=some (.tup [.str (Str.ofString "own"),.int m]):=BS
        clear BS
        dsimp only
        walk_at "ge"
        exact hR _ cO
      | file z p =>
        have HM:H6 ya=some (.tup [.str (Str.ofString "file"),.str z,.int p]):=BS
        clear BS
        have hne : ¬ Str.ofString "file" = Str.ofString "own" := by decide +kernel
        dsimp only
        walk_at "ge"
        rw [decide_eq_false hne]
        exact hR _ cO
     ·walk_at "ge"
      exact hR _ cO
     ·have hmade:(((Ll.filter λ y => !aW y.2).map λ y=>V.ref y.1).length:Int)=S.made:=by
       rw [List.length_map,<-lr.cnt]
       have h7 : ∀ l:List (Addr×Th),(l.filter λ y => !aW y.2).length=((l.map (·.2)).filter λ b => !aW b).length:=λ l=>by
        rw [List.filter_map,List.length_map]
        rfl
       have h8 : ∀ l:Ts,(l.filter λ e => !aW e.1).length=((l.map (·.1)).filter λ b => !aW b).length:=λ l=>by
        rw [List.filter_map,List.length_map]
        rfl
       rw [h7,h8,TX]
      have K4:=cO.get mS
      walk_at "ge"
      rw [hmade]
      refine K1.use ?_
      walk_at "cl"
      clear K1 K4
      obtain ⟨A,eA⟩ : ∃ A:Cells,(om,HO.lst ((Ll.filter λ y => !aW y.2).map λ y=>V.ref y.1))::(l2,HO.lst (Ll.map λ y=>V.ref y.1))::(Oa Ll++((wa,HO.lst ((ys.filter λ y=>aW y.2 && !nO S y.2).map λ y=>V.ref y.1))::(l,HO.lst (ys.map λ y=>V.ref y.1))::(Oa ys++[(ly,HO.lst (S.ps.filter λ v => !j4 v))])))=A:=⟨_,rfl⟩
      have fH:Led H6 (A++bg cT cF cD cS cI S (oB sp mk sf rd us S ts++M)):=by
       rw [<-eA]
       simp only [List.cons_append,List.append_assoc,List.nil_append]
       exact cO
      have adj:(ly,HO.lst (S.ps.filter λ v => !j4 v))∈A:=by rw [<-eA];simp
      have adk:(wa,HO.lst ((ys.filter λ y=>aW y.2 && !nO S y.2).map λ y=>V.ref y.1))∈A:=by rw [<-eA];simp
      have QG : ∀ y∈ys,(y.1,HO.tup (eV y.2))∈A:=λ y hy=>by
       have:(y.1,HO.tup (eV y.2))∈Oa ys:=List.mem_map.mpr ⟨y,hy,rfl⟩
       rw [<-eA]
       simp [this]
      have jS:Led H6 (bg cT cF cD cS cI S (oB sp mk sf rd us S ts++(A++M))):=St.iR (St.gW _ fH) (aP A _ M)
      have yU:=lr.mono (M':=A++M) λ x hx=>mA hx
      clear bZ cN cO fH IK eA hmade TY TX hL
      refine aG λ M1 K1 => ?_
      have adl:=jS.get (St.up (mA (mB adj)))
      have oE:M1 [some (.ref S.b),some (.ref sp),some (.ref sf),some (.ref rd),some (.int c),some (.int (i:Nat)),some (.ref ly),some (.ref wa),some (.int S.made),none] H6:=by
       refine K1.use ?_
       clear K1 adl
       have WA:=jS.get (St.up (mA (mB adk)))
       have dD:Led H6 (oB sp mk sf rd us S ts++bg cT cF cD cS cI S (A++M)):=St.yM [] _ jS
       have dG:=dD.get mS
       refine aG λ M1 K1 => ?_
       have gI:M1 [some (.ref S.b),some (.ref sp),some (.ref sf),some (.ref rd),some (.int c),some (.int (i:Nat)),some (.ref ly),some (.ref wa),some (.int S.made),none] H6:=by
        refine K1.use ?_
        clear K1 WA
        have jr:=dD.get (mC (mC mS))
        refine aG λ M1 K1 => ?_
        have rA:M1 [some (.ref S.b),some (.ref sp),some (.ref sf),some (.ref rd),some (.int c),some (.int (i:Nat)),some (.ref ly),some (.ref wa),some (.int S.made),none] H6:=by
         refine K1.use ?_
         walk_at "ge"
         exact k S us ts A H6 rfl rfl (Nat.le_succ _) (Nat.le_refl _) hac yU jS
        clear K1
        walk_at "ge"
        ·rename_i t H7 _ ic _ _ _ _ _ _ _ _ _
         have UJ:1+S.made=S.made+1:=Int.add_comm ..
         rw [UJ] at ic
         have hgt:0 < (us.length:Int) - 1+(S.ps.length:Int) - S.made:=by assumption
         have hhm:=lr.hm
         have hroom:(n:Int) - 1+(q:Int) - (S.hs.length:Int)≠0:=by omega
         have ahl:=lr.gh.most
         have Ky:S.hs.length<=600:=by omega
         have hbc:Builtin.Int.intBits c<=1400000:=Nat.le_trans (oQ c0 c9) (by decide)
         refine ⟨c,_,rfl,hbc,ic,λ r0 H8 fu => ?_⟩
         obtain ⟨pS,K6⟩ : ∃ pS:Ts,pS=ts++[(.own (S.made+1),r0,rowOf c)]:=⟨_,rfl⟩
         have S6:(pS.map (·.1)).Nodup:=by
          rw [K6,List.map_append]
          refine List.nodup_append.mpr ⟨lr.nd,by simp,λ x hx y hy e => ?_⟩
          have hy':y = .own (S.made+1):=by simpa using hy
          exact lr.fresh (hy' ▸ e ▸ hx)
         have hv2:bx (m5 pS) (fJ (.own (S.made+1)))=some (.ref r0):=DB (e:=(.own (S.made+1),r0,rowOf c)) S6 (by rw [K6];exact mA mS)
         have jU:=fu.get (mC (mC (mC (mC (mC mS)))))
         have yG:H8 t=some (.tup ((fJ (.own (S.made+1))).map kV)):=by rw [kZ];exact fu.get (mC mS)
         clear ic dG jr dD jS
         walk_at "ge"
         refine BR jU yG (by rw [rj];omega) ?_
         rw [DC r0 (rowOf c) lr.fresh,<-K6]
         have d8:Led (upd H8 rd (.dT (m5 pS))) ((r0,HO.lst ((rowOf c).map V.int))::(t,HO.tup (eV (.own (S.made+1))))::([(sp,HO.lst us),(mk,.lst (S.bs.map V.bl)),(sf,.lst S.ps),(rd,.dT (m5 pS))]++bg cT cF cD cS cI S (A++M))):=fu.gB 5 rfl rfl rfl
         generalize upd H8 rd (.dT (m5 pS))=H9 at d8 ⊢
         clear jU yG fu
         have dG:=d8.get (mC (mC mS))
         walk_at "ge"
         refine cg dG (bD (by omega) (by omega)) ?_
         rw [Int.toNat_natCast]
         have gp:Led (upd H9 sp (.lst (us.set i (.ref t)))) ([(r0,HO.lst ((rowOf c).map V.int)),(t,HO.tup (eV (.own (S.made+1))))]++(oB sp mk sf rd (us.set i (.ref t)) S pS++bg cT cF cD cS cI S (A++M))):=d8.gB 2 rfl rfl rfl
         generalize upd H9 sp (.lst (us.set i (.ref t)))=Mf at gp ⊢
         clear dG d8
         have jU:=gp.get (mA (mC (mC (mC mS))))
         have yG:Mf t=some (.tup ((fJ (.own (S.made+1))).map kV)):=by rw [kZ];exact gp.get (mC mS)
         have c_0:=gp.get mS
         walk_at "ge"
         refine IL jU yG hv2 ?_
         walk_at "ge"
         rename_i r1 OL _ lF _
         obtain ⟨X2,XQ⟩ : ∃ X2:Cells,[(r1,HO.lst ((rowOf c).map V.int)),(r0,HO.lst ((rowOf c).map V.int)),(t,HO.tup (eV (.own (S.made+1))))]=X2:=⟨_,rfl⟩
         have yI:Led OL ((X2++oB sp mk sf rd (us.set i (.ref t)) S pS)++bg cT cF cD cS cI S (A++M)):=by rw [<-XQ];exact lF
         have DJ:=St.gW _ yI
         rw [List.append_assoc] at DJ
         clear gp lF yI jU yG c_0
         have i_1:(r1,HO.lst ((rowOf c).map V.int))∈X2:=by rw [<-XQ];exact mS
         have WB:(r0,HO.lst ((rowOf c).map V.int))∈X2:=by rw [<-XQ];exact mC mS
         have BL:(t,HO.tup (eV (.own (S.made+1))))∈X2:=by rw [<-XQ];exact mC (mC mS)
         have upA : ∀ x∈A++M,x∈X2++(A++M):=λ x hx=>mA hx
         have pT:=yU.mono upA
         refine ⟨S,n,q,r1,rowOf c,_,rfl,DJ,yU.g.mono (λ x hx=>mA (mA hx)),mB i_1,jV c,Ky,lr.gh.fresh,lr.gh.key,λ h=>absurd h hroom,λ _ hall _=>hall none (List.mem_of_getElem? h1) rfl,λ _ i' S1 t' r p N H12 hH adm adn g2 zc K7 => ?_⟩
         have WC:=hH
         rcases hH with ⟨q1,q2,j5⟩ | ⟨hall,_⟩
         case inr=>exact absurd rfl (hall none (List.mem_of_getElem? h1))
         have ei:i' = i:=by
          rcases Nat.lt_trichotomy i' i with hlt | he | hlt
          ·exact absurd rfl (h2 i' none hlt q1)
          ·exact he
          ·exact absurd rfl (q2 i none hlt h1)
         subst ei
         subst j5
         have hs1:kK S1 us (N++(X2++(A++M))):=pT.s.mono λ x hx=>mA hx
         have K8:=Lr.IF (FF:=us) (t:=t') (r:=r) (u:=t) (d:=r0) pT hroom (jV c) WC (mB adm) (mB adn) (mA (mB BL)) (mA (mB WB)) hs1
         rw [<-K6] at K8
         have yH:=K7.get (St.up (mB zc))
         walk_at "ge"
         rename_i t2 H13 _ K9 _
         rw [UJ] at K9
         have hal:Alike H13 2 (.ref p) (.ref t2) := .inr ⟨p,t2,_,_,rfl,rfl,.inr ⟨K9.get (mC (St.up (mB zc))),K9.get mS⟩,rfl,by show 2<=100000;decide,λ j x y hx hy=>by
          rw [hx] at hy
          cases hy
          match j,hx with
          | 0,hx=>cases hx;exact .inl (.inr (.inr (.inl ⟨_,rfl,rfl⟩)))
          | 1,hx=>cases hx;exact .inl (.inr (.inr (.inl ⟨_,rfl,rfl⟩)))
          | j+2,hx=>cases hx⟩
         refine ⟨_,_,rfl,hal,?_⟩
         walk_at "ge"
         refine k { S1 with made:=S1.made+1,hs:=S1.hs++[(S1.made+1,1)],F:=S1.F.fill i' (some (t',.own (S1.made+1))) (some (r,rowOf c)) false } (us.set i' (.ref t)) pS ((t2,HO.tup [.int (S1.made+1),.int (i':Nat)])::(N++(X2++A))) H13 rfl rfl (by rw [K6,List.length_append];exact Nat.le_refl _) (by rw [K6,List.length_append];omega) (m9.fill hac) (K8.mono λ x hx => ?_) ?_
         ·have e5:(t2,HO.tup [.int (S1.made+1),.int (i':Nat)])::(N++(X2++A))++M=(t2,HO.tup [.int (S1.made+1),.int (i':Nat)])::(N++(X2++(A++M))):=by simp
          rw [e5]
          exact mC hx
         ·refine St.iR (St.push K9) ?_
          have e6 : ∀ Lw:Cells,(t2,HO.tup [.int (S1.made+1),.int (i':Nat)])::(N++(X2++(Lw++(A++M))))=((t2,HO.tup [.int (S1.made+1),.int (i':Nat)])::(N++X2))++(Lw++(A++M)):=λ Lw=>by simp
          have e7 : ∀ Lw:Cells,Lw++((t2,HO.tup [.int (S1.made+1),.int (i':Nat)])::(N++(X2++A))++M)=Lw++(((t2,HO.tup [.int (S1.made+1),.int (i':Nat)])::(N++X2))++(A++M)):=λ Lw=>by simp
          rw [e7]
          exact e6 (oB sp mk sf rd (us.set i' (.ref t)) S1 pS) ▸ aP _ (oB sp mk sf rd (us.set i' (.ref t)) S1 pS) _
        ·exact rA
        ·exact rA
       clear K1
       rcases Wz (S:=S) (ys:=ys) (c / 4) with h0 | ⟨y,hy,y1,y2,hat⟩
       ·walk_at "ge"
        ·exfalso;omega
        ·exact gI
        ·exact gI
       ·walk_at "ge"
        ·refine cg dG (bD (by omega) (by omega)) ?_
         rw [Int.toNat_natCast]
         obtain ⟨t,yt⟩:=y
         cases yt with
         | own m=>cases y1
         | file z pg =>
           have gp:Led (upd H6 sp (.lst (us.set i (.ref t)))) (oB sp mk sf rd (us.set i (.ref t)) (gone S (.file z pg)) ts++bg cT cF cD cS cI S (A++M)):=dD.gB 0 rfl rfl rfl
           generalize upd H6 sp (.lst (us.set i (.ref t)))=H9 at gp ⊢
           clear dD dG WA jS
           have d8:=St.gW _ gp
           clear gp
           obtain ⟨X3,eX3⟩ : ∃ X3:Cells,A=X3:=⟨_,rfl⟩
           obtain ⟨M3,Lm⟩ : ∃ M3:Cells,M3=X3++M:=⟨_,rfl⟩
           have e3:A++M=M3:=by rw [Lm,<-eX3]
           rw [e3] at d8
           have BL:(t,HO.tup (eV (.file z pg)))∈M3:=by rw [<-e3];exact mB (QG _ hy)
           have pT:Lr n q S us ts M3:=yU.mono λ x hx=>by rw [<-e3];exact hx
           have QI : ¬ oA S (.file z pg):=λ hx=>by
            have h5:=Ff.mpr (oA.dat.mp hx)
            have h6:nO S (.file z pg)=false:=y2
            rw [h5] at h6
            cases h6
           have Og:Fz (.file z pg):=okY _ hy
           have hkey:Th.file z pg∈ts.map (·.1):=by rw [<-ey];exact List.mem_map.mpr ⟨_,hy,rfl⟩
           obtain ⟨e0,We,em0⟩:=List.mem_map.mp hkey
           have TZ:e0.1 = .file z pg:=em0
           obtain ⟨jW,Oh⟩ : ∃ jW,jW=e0.2.2:=⟨_,rfl⟩
           have XR:Back S jW (.file z pg):=by
            have h7:=(lr.rw e0 We).2.1
            rw [TZ,<-Oh] at h7
            rcases h7 with ⟨j,v,w,h8,_⟩ | ⟨_,h8⟩
            ·exact absurd ⟨j,v,h8⟩ QI
            ·exact h8
           have hnf : ¬ oA S (.file z pg):=QI
           have T3 : ∀ (j:Nat) (v:Addr),S.F.hs[j]? ≠ some (some (v,.file z pg)):=λ j v hj=>hnf ⟨j,v,hj⟩
           have g3:=pT.g
           have eF:(gone S (.file z pg)).F=S.F:=(eW S (.file z pg)).2.1
           walk_at "ge"
           refine ⟨S,n,q,t,.file z pg,_,rfl,d8,g3.mono (λ x hx=>mA hx),mA BL,Og,λ _=>⟨jW,XR⟩,λ hall _=>hall none (List.mem_of_getElem? h1) rfl,λ j v p N Mf hj=>absurd hj (T3 j v),λ _ row i' S1 r p N Mf hb hH nM zc gp => ?_⟩
           have WC:=hH
           rcases hH with ⟨q1,q2,j5⟩ | ⟨hall,_⟩
           case inr=>exact absurd rfl (hall none (by rw [eF];exact List.mem_of_getElem? h1))
           rw [eF] at q1 q2
           have ei:i' = i:=by
            rcases Nat.lt_trichotomy i' i with hlt | he | hlt
            ·exact absurd rfl (h2 i' none hlt q1)
            ·exact he
            ·exact absurd rfl (q2 i none hlt h1)
           subst ei
           have Oc:S1.p=S.p:=by rw [j5];exact (eW S (.file z pg)).2.2.2.2.2.1
           have Lk:S1.b=S.b:=by rw [j5];exact (eW S (.file z pg)).1
           have ado:S1.bs=S.bs:=by rw [j5];exact (eW S (.file z pg)).2.2.2.2.2.2
           have hs1:kK S1 us (N++M3):=kK.same (S:=S) (by rw [j5,eF]) (pT.s.mono λ x hx=>mA hx)
           have K8:=Lr.DI (FF:=us) (t:=t) (r:=r) (u:=t) pT hnf hb Og WC (mA BL) (mB nM) (mA BL) hs1
           have yH:=gp.get (St.up (mB zc))
           walk_at "ge"
           rename_i t2 OL _ lF _
           have hal:Alike OL 2 (.ref p) (.ref t2) := .inr ⟨p,t2,_,_,rfl,rfl,.inr ⟨lF.get (mC (St.up (mB zc))),lF.get mS⟩,rfl,by show 2<=100000;decide,λ j x y hx hy=>by
            rw [hx] at hy
            cases hy
            match j,hx with
            | 0,hx=>cases hx;exact .inl (.inr (.inr (.inl ⟨_,rfl,rfl⟩)))
            | 1,hx=>cases hx;exact .inl (.inr (.inl ⟨_,rfl,rfl⟩))
            | j+2,hx=>cases hx⟩
           refine ⟨_,_,rfl,hal,?_⟩
           walk_at "ge"
           refine k { S1 with F:=S1.F.fill i' (some (t,.file z pg)) (some (r,row)) false } (us.set i' (.ref t)) ts ((t2,HO.tup [.int (i':Nat),.bl true])::(N++X3)) OL Lk Oc (Nat.le_succ _) (Nat.le_refl _) (m9.fill (k:=S1.made) (hs':=S1.hs) (by rw [j5];exact hac.gone)) (K8.mono λ x hx => ?_) ?_
           ·rw [Lm] at hx
            rw [List.cons_append,List.append_assoc]
            exact mC hx
           ·have e9:oB sp mk sf rd (us.set i' (.ref t)) { S1 with F:=S1.F.fill i' (some (t,.file z pg)) (some (r,row)) false } ts=oB sp mk sf rd (us.set i' (.ref t)) (gone S (.file z pg)) ts:=by rw [j5];rfl
            rw [e9]
            refine St.iR (St.push lF) ?_
            rw [Lm,List.cons_append,List.append_assoc]
            exact (List.Perm.cons _ (aP N _ _)).trans List.perm_middle.symm
        ·exact gI
        ·exact gI
      clear K1
      rcases Wy (ps:=S.ps) lr.g.pe (c / 4) with hly | ⟨m,hm,hat⟩
      ·walk_at "ge"
       ·exfalso;omega
       ·exact oE
       ·exact oE
      ·walk_at "ge"
       ·rename_i t H7 _ ic _ _ _ _ _ _ _ _ _ _ _
        have Nh:m∈S.es.map (·.1):=(lr.g.pk m).mp hm
        have Oi:=lr.g.XH Nh
        have hlt:idx S.ps (.int m) < S.ps.length:=(List.getElem?_eq_some_iff.mp (lr.g.int_at Oi)).1
        have fu:=St.push ic
        have RG:Led H7 (bg cT cF cD cS cI S ([(t,HO.tup (eV (.own m)))]++(oB sp mk sf rd us S ts++(A++M)))):=fu
        have dD:=St.yM _ _ RG
        have jr:=dD.get (mC (mC mS))
        have yG:H7 t=some (.tup [.str (Str.ofString "own"),.int m]):=ic.get mS
        refine ⟨zo jr,?_⟩
        walk_at "ge"
        refine Nl jr rfl lr.g.flat Oi ?_
        walk_at "ge"
        refine cg jr (bD (by omega) (by omega)) ?_
        rw [Int.toNat_natCast]
        have d8:Led (upd H7 sf (.lst (S.ps.set (idx S.ps (.int m)) .aM))) ([(sp,HO.lst us),(mk,.lst (S.bs.map V.bl)),(sf,.lst (S.ps.set (idx S.ps (.int m)) .aM)),(rd,.dT (m5 ts))]++bg cT cF cD cS cI S ([(t,HO.tup (eV (.own m)))]++(A++M))):=dD.gB 2 rfl rfl rfl
        generalize upd H7 sf (.lst (S.ps.set (idx S.ps (.int m)) .aM))=H8 at d8 ⊢
        clear ic fu RG dD jr
        have dG:=d8.get mS
        walk_at "ge"
        refine cg dG (bD (by omega) (by omega)) ?_
        rw [Int.toNat_natCast]
        have gp:Led (upd H8 sp (.lst (us.set i (.ref t)))) (oB sp mk sf rd (us.set i (.ref t)) (gone S (.own m)) ts++bg cT cF cD cS cI S ([(t,HO.tup (eV (.own m)))]++(A++M))):=d8.gB 0 rfl rfl rfl
        generalize upd H8 sp (.lst (us.set i (.ref t)))=H9 at gp ⊢
        clear d8 dG
        have d8:=St.gW _ gp
        clear gp
        obtain ⟨X3,eX3⟩ : ∃ X3:Cells,(t,HO.tup (eV (.own m)))::A=X3:=⟨_,rfl⟩
        obtain ⟨M3,Lm⟩ : ∃ M3:Cells,M3=X3++M:=⟨_,rfl⟩
        have e3:[(t,HO.tup (eV (.own m)))]++(A++M)=M3:=by rw [Lm,<-eX3];rfl
        rw [e3] at d8
        have BL:(t,HO.tup (eV (.own m)))∈M3:=by rw [<-e3];exact mS
        have pT:Lr n q S us ts M3:=yU.mono λ x hx=>by rw [<-e3];exact mC hx
        obtain ⟨e0,We,em0⟩:=List.mem_map.mp Nh
        have TZ:e0.1=m:=em0
        have XR:Back S e0.2.2 (.own m):=⟨e0.2.1,by rw [<-TZ];exact We⟩
        obtain ⟨jW,Oh⟩ : ∃ jW,jW=e0.2.2:=⟨_,rfl⟩
        rw [<-Oh] at XR
        have Og:Fz (.own m):=True.intro
        have QI : ¬ oA S (.own m):=λ ⟨j,v,hj⟩=>lr.g.ap j v m hj Nh
        have hnf : ¬ oA S (.own m):=QI
        have T3 : ∀ (j:Nat) (v:Addr),S.F.hs[j]? ≠ some (some (v,.own m)):=λ j v hj=>hnf ⟨j,v,hj⟩
        have g3:=pT.g
        have eF:(gone S (.own m)).F=S.F:=(eW S (.own m)).2.1
        walk_at "ge"
        refine ⟨S,n,q,t,.own m,_,rfl,d8,g3.mono (λ x hx=>mA hx),mA BL,Og,λ _=>⟨jW,XR⟩,λ hall _=>hall none (List.mem_of_getElem? h1) rfl,λ j v p N Mf hj=>absurd hj (T3 j v),λ _ row i' S1 r p N Mf hb hH nM zc gp => ?_⟩
        have WC:=hH
        rcases hH with ⟨q1,q2,j5⟩ | ⟨hall,_⟩
        case inr=>exact absurd rfl (hall none (by rw [eF];exact List.mem_of_getElem? h1))
        rw [eF] at q1 q2
        have ei:i' = i:=by
         rcases Nat.lt_trichotomy i' i with hlt | he | hlt
         ·exact absurd rfl (h2 i' none hlt q1)
         ·exact he
         ·exact absurd rfl (q2 i none hlt h1)
        subst ei
        have Oc:S1.p=S.p:=by rw [j5];exact (eW S (.own m)).2.2.2.2.2.1
        have Lk:S1.b=S.b:=by rw [j5];exact (eW S (.own m)).1
        have ado:S1.bs=S.bs:=by rw [j5];exact (eW S (.own m)).2.2.2.2.2.2
        have hs1:kK S1 us (N++M3):=kK.same (S:=S) (by rw [j5,eF]) (pT.s.mono λ x hx=>mA hx)
        have K8:=Lr.DI (FF:=us) (t:=t) (r:=r) (u:=t) pT hnf hb Og WC (mA BL) (mB nM) (mA BL) hs1
        have yH:=gp.get (St.up (mB zc))
        walk_at "ge"
        rename_i t2 OL _ lF _
        have hal:Alike OL 2 (.ref p) (.ref t2) := .inr ⟨p,t2,_,_,rfl,rfl,.inr ⟨lF.get (mC (St.up (mB zc))),lF.get mS⟩,rfl,by show 2<=100000;decide,λ j x y hx hy=>by
         rw [hx] at hy
         cases hy
         match j,hx with
         | 0,hx=>cases hx;exact .inl (.inr (.inr (.inl ⟨_,rfl,rfl⟩)))
         | 1,hx=>cases hx;exact .inl (.inr (.inl ⟨_,rfl,rfl⟩))
         | j+2,hx=>cases hx⟩
        refine ⟨_,_,rfl,hal,?_⟩
        walk_at "ge"
        refine k { S1 with F:=S1.F.fill i' (some (t,.own m)) (some (r,row)) false } (us.set i' (.ref t)) ts ((t2,HO.tup [.int (i':Nat),.bl true])::(N++X3)) OL Lk Oc (Nat.le_succ _) (Nat.le_refl _) (m9.fill (k:=S1.made) (hs':=S1.hs) (by rw [j5];exact hac.gone)) (K8.mono λ x hx => ?_) ?_
        ·rw [Lm] at hx
         rw [List.cons_append,List.append_assoc]
         exact mC hx
        ·have e9:oB sp mk sf rd (us.set i' (.ref t)) { S1 with F:=S1.F.fill i' (some (t,.own m)) (some (r,row)) false } ts=oB sp mk sf rd (us.set i' (.ref t)) (gone S (.own m)) ts:=by rw [j5];rfl
         rw [e9]
         refine St.iR (St.push lF) ?_
         rw [Lm,List.cons_append,List.append_assoc]
         exact (List.Perm.cons _ (aP N _ _)).trans List.perm_middle.symm
       ·exact oE
       ·exact oE
  ·refine wC (neg:=true) (b:=false) dG d1 d2 o1 o2 (iff_of_false Bool.false_ne_true λ z=>hf (Of.mp z)) ?_
   walk_at "ge"
   exact k S us ts [] H rfl rfl (Nat.le_succ _) (Nat.le_refl _) hac lr hL
end
section
variable {P:Program} {w:World} {K:PySem.W.Frag} {mg:Str->Option Value} {base:Heap} {cU cA cB cC cT cF cD cS cI:Addr}
def Oj (cI cC:Addr):Sp:=λ vs H Q E => ∃ (b dx d l:Addr) (es:dj) (z:Str) (rows:DQ) (R:Cells),vs = [.ref b,.str z,.ref l]/\Led H (KP cI b dx d es R)/\(es.map (·.1)).Nodup/\(l,HO.lst (pQ rows))∈R/\(∀ r∈rows,(r.1,HO.lst (r.2.map V.int))∈R/\r.2.length<=600)/\rows.length<=100/\es.length<=600 ∧
 (z ∉ es.map (·.1)->∀ (fa:Addr) (rows':DQ) (H':Hp),rows'.map (·.2)=rows.map (·.2)->Led H' (KP cI b dx d (es++[(z,fa,rows')]) (JC rows'++R))->Q .aM H')/\(z∈es.map (·.1)->E (.ref cC) none H)
theorem BU {rows rows':DQ} (h : ∀ (i:Nat) r,rows'[i]? = some r->rows[i]?.map (·.2)=some r.2) (hl:rows'.length=rows.length):rows'.map (·.2)=rows.map (·.2):=by
 apply List.ext_getElem?
 intro i
 rw [List.getElem?_map,List.getElem?_map]
 cases hi:rows'[i]? with
 | some r=>rw [h i r hi];rfl
 | none =>
   have:rows'.length<=i:=List.getElem?_eq_none_iff.mp hi
   rw [List.getElem?_eq_none (by omega)]
theorem QJ (D:bM K cI "make" "Files.make" eB) (B:iV mg) (T:Txt K mg cU cA cB cC cT cF cD cS cI):aR P w K mg base 1 cI "make" ["self","name","rows"] (Oj cI cC):=by
 have sc:=nY
 refine D.Ep nY (λ vs H Q E h => ?_) (λ _ _ _ _ _ _ us hl=>match us,hl with | [_,_,_],_=>rfl) (λ f cdv A outer s H vs Q E hr h => ?_)
 ·obtain ⟨_,_,_,_,_,_,_,_,rfl,_⟩:=h;rfl
 ·obtain ⟨b,dx,d,l,es,z,rows,R,rfl,hL,nd,UK,nM,hrl,h6,k1,k2⟩:=h
  have hu:=gF hr
  have hf:(jj d).lookup (Str.ofString "rows_by_name")=some (.ref d):=rfl
  have fh:=FH.of hL nd
  have c1:=fh.cb
  have c2:=fh.cd
  have up : ∀ {c:Addr×HO},c∈R->c∈KP cI b dx d es R:=λ h=>mC (mC (mA h))
  refine ⟨_,(@af _ _ _ _ _ (@aS _ _ _ _ _ _ _ _ (@Lp _ _ _ _ _ _ (@Sg _ _ _ _ _ hu (@aq _ 1 _ _ (by walk_at "v")) (@aB _ _ _ _ _ _ _ T.gS T.b6 (@aq _ 0 _ _ (by walk_at "v")) (by rfl))) (by first | exact pV _ (by decide) (by decide) | rfl)) (@ao _ _ _ (@jx _ _ _ _ _ _ _ _ _ _ _ _ _ _ _ _ _ _ _ _ _ _ T.Taken (by rfl) (@aa _ _ _ _ _ (@bV _ _ _ _) (@ak _) (by rfl)) (by decide) (by rfl))) (@aF _)) (@ao _ _ _ (@gX _ _ _ _ _ _ _ _ _ hu (@aB _ _ _ _ _ _ _ T.gS T.b6 (@aq _ 0 _ _ (by walk_at "v")) (by rfl)) (@aq _ 1 _ _ (by walk_at "v")) (@kh _ _ "row" _ _ _ _ _ _ _ _ _ rfl rfl rfl rfl Ri (cz (by kernel_rfl)) (@fK _ _ _ _ (@aq _ 2 _ _ (by walk_at "v"))) (λ _ _ _ _=>(@kc _)) (λ _ _ _ _=>(@bh _ _ _ _ _ _ _ _ _ (aY (K:=K) rfl) (by rfl) B.list bO (@aa _ _ _ _ _ (@pk _ 0 _ _ (by kernel_rfl) (by kernel_rfl) (by decide) (by decide)) (@ak _) (by rfl)) (by decide) (by decide) (by rfl) (by rfl))) (by intro _;rfl)) rfl))),?_⟩
  refine aG λ M1 K1 => ?_
  walk_at "ge"
  refine V4 c2 ?_
  rw [Nn]
  by_cases hz:z∈es.map (·.1)
  ·rw [decide_eq_true hz]
   walk_at "ge"
   refine oO λ R hR => ?_
   walk_at "ge"
   exact ⟨by decide,k2 hz⟩
  ·rw [decide_eq_false hz]
   walk_at "ge"
   refine K1.use ?_
   walk_at "cl"
   clear K1
   have T4:=hL.get (up UK)
   walk_at "ge"
   refine qb λ Lc kG => ?_
   walk_at "ge"
   refine ⟨_,rfl,⟨_,fj.of T4⟩,kG.use ?_⟩
   clear kG c1 c2 T4 fh
   refine nj (pQ rows) (λ i v C => ∃ (r:Addr) (row:List Int),v=V.ref r/\C = [(r,HO.lst (row.map V.int))]/\rows[i]?.map (·.2)=some row) hL (up UK) (by rw [g7];have:=sizeLine_eq;omega) (λ i x H2 R2 M2 hx hl2 hR => ?_) (λ fa vs Cs H2 hvl hcl hG hl2 => ?_)
   ·unfold pQ at hx
    rw [List.getElem?_map] at hx
    obtain ⟨r,hr,rfl⟩:=Option.map_eq_some_iff.mp hx
    have hm:=List.mem_of_getElem? hr
    have c3:=hl2.get (List.mem_append_right M2 (up (nM r hm).1))
    have h7:=(nM r hm).2
    have mr:(r.2.map V.int).length=r.2.length:=List.length_map _
    walk_at "ge"
    rename Led _ _=>hl3
    exact hR _ _ [_] ⟨_,r.2,rfl,rfl,by rw [hr];rfl⟩ hl3
   ·obtain ⟨rows',rfl,e2,e3,e4⟩:=rowsOf (by rw [hvl,hcl]) hG
    rw [e2] at hl2
    rw [g7,g7] at hvl
    have hsame:=BU e4 (by rw [<-hvl])
    have c1:H2 b=some (.ins cI dx (jj d)):=hl2.get (mC (mA mS))
    have c2:H2 d=some (.dK (za es)):=hl2.get (mC (mA (mC mS)))
    walk_at "ge"
    refine V5 c2 (by unfold za;rw [List.length_map];have:=sizeLine_eq;omega) ?_
    rw [Py hz fa rows']
    have hl3:Led H2 ((d,.dK (za es))::(b,.ins cI dx (jj d))::(oR es++((fa,.lst (pQ rows'))::(JC rows'++R)))):=hl2.wk (by simp only [KP];walk_at "sp")
    have bZ:=hl3.put (o' := .dK (za (es++[(z,fa,rows')]))) rfl rfl
    walk_at "ge"
    refine k1 hz fa rows' _ hsame (bZ.wk ?_)
    unfold KP
    rw [show oR (es++[(z,fa,rows')])=oR es++[(fa,HO.lst (pQ rows'))] by unfold oR;rw [List.map_append];rfl]
    simp only [List.append_assoc,List.cons_append,List.nil_append]
    walk_at "sp"
def vN (z:Str) (rows:DQ):Ts:=rows.mapIdx λ j r=>(.file z (j:Int),r.1,r.2)
theorem DK (z:Str) (rows:DQ):(vN z rows).length=rows.length:=List.length_mapIdx
theorem HN {z:Str} {rows:DQ} {e:Th×Addr×List Int} (h:e∈vN z rows) : ∃ (j:Nat) (r:Addr×List Int),rows[j]? = some r/\e=(.file z (j:Int),r.1,r.2):=by
 obtain ⟨j,hj⟩:=List.getElem?_of_mem h
 unfold vN at hj
 rw [List.getElem?_mapIdx] at hj
 obtain ⟨r,hr,e1⟩:=Option.map_eq_some_iff.mp hj
 exact ⟨j,r,hr,e1.symm⟩
theorem DL {z:Str} {rows:DQ} {a:Th} : a∈(vN z rows).map (·.1) ↔ ∃ j:Nat,j < rows.length/\a = .file z (j:Int):=by
 constructor
 ·intro h
  obtain ⟨e,he,rfl⟩:=List.mem_map.mp h
  obtain ⟨j,r,hj,rfl⟩:=HN he
  exact ⟨j,(List.getElem?_eq_some_iff.mp hj).1,rfl⟩
 ·rintro ⟨j,hj,rfl⟩
  refine List.mem_map.mpr ⟨(.file z (j:Int),rows[j].1,rows[j].2),?_,rfl⟩
  refine List.mem_of_getElem? (i:=j) ?_
  unfold vN
  rw [List.getElem?_mapIdx,List.getElem?_eq_getElem hj]
  rfl
theorem Ol (z:Str) (rows:DQ):(vN z rows).map (·.1)=(List.range rows.length).map λ j:Nat=>Th.file z (j:Int):=by
 refine List.ext_getElem? λ j => ?_
 rw [List.getElem?_map,List.getElem?_map]
 unfold vN
 rw [List.getElem?_mapIdx]
 by_cases hj:j < rows.length
 ·rw [List.getElem?_eq_getElem hj,List.getElem?_range hj]
  rfl
 ·rw [List.getElem?_eq_none (by omega),List.getElem?_eq_none (by rw [List.length_range];omega)]
  rfl
theorem T5 (z:Str) (rows:DQ):((vN z rows).map (·.1)).Nodup:=by
 rw [Ol]
 refine List.pairwise_iff_getElem.mpr λ i j hi hj hij e => ?_
 rw [List.getElem_map,List.getElem_map,List.getElem_range,List.getElem_range] at e
 injection e with _ e
 omega
theorem Om (z:Str) (rows:DQ) (r:Addr×List Int):vN z (rows++[r])=vN z rows++[(.file z (rows.length:Int),r.1,r.2)]:=by
 unfold vN
 rw [List.mapIdx_append]
 simp
theorem Lr.WE {n q:Nat} {S:SS} {us:List V} {ts:Ts} {M M':Cells} {z:Str} {fa:Addr} {rows rows':DQ} (h:Lr n q S us ts M) (Oo : ∀ a,¬ oA S a) (hz:z ∉ S.fs.map (·.1)) (up : ∀ c∈M,c∈M') (XS:Wc z) (er:rows'.map (·.2)=rows.map (·.2)) (h4 : ∀ r∈rows,r.2.length=4) (c1 : ∀ r∈rows,(r.1,HO.lst (r.2.map V.int))∈M') (c2 : ∀ r∈rows',(r.1,HO.lst (r.2.map V.int))∈M'):Lr n q { S with fs:=S.fs++[(z,fa,rows')] } us (ts++vN z rows) M':=by
 have WG : ∀ a,¬ oA { S with fs:=S.fs++[(z,fa,rows')] } a:=λ a w=>Oo a w
 have len:rows'.length=rows.length:=by have:=congrArg List.length er;simpa using this
 have g:=h.g.mono up
 have at' : ∀ (j:Nat) (r:Addr×List Int),rows[j]? = some r->∃ r',rows'[j]? = some (r',r.2):=λ j r hj=>by
  have h5:(rows'.map (·.2))[j]? = some r.2:=by rw [er,List.getElem?_map,hj];rfl
  rw [List.getElem?_map] at h5
  obtain ⟨x,hx,e⟩:=Option.map_eq_some_iff.mp h5
  exact ⟨x.1,by rw [hx,<-e]⟩
 have bk : ∀ a row,Back S row a->Back { S with fs:=S.fs++[(z,fa,rows')] } row a:=λ a row hb=>by
  cases a with
  | own m=>exact hb
  | file w p=>obtain ⟨e,he,e1⟩:=hb;exact ⟨e,mB he,e1⟩
 refine { g := { g with fn := ?_,fr:=λ e he r hr => ?_,ff:=λ i t z p hi=>absurd ⟨i,t,hi⟩ (Oo _) },gh := { h.gh with },s:=kK.same (S:=S) rfl (h.s.mono up),cl:=λ i t r z p row hi=>absurd ⟨i,t,hi⟩ (Oo _),nd := ?_,rw:=λ e he => ?_,Bc:=λ a ha => ?_,hm:=h.hm,cnt := ?_ }
 ·show ((S.fs++[(z,fa,rows')]).map (·.1)).Nodup
  rw [List.map_append]
  refine List.nodup_append.mpr ⟨h.g.fn,by simp,λ x hx y hy e => ?_⟩
  have hy':y=z:=by simpa using hy
  exact hz (hy' ▸ e ▸ hx)
 ·rcases List.mem_append.mp he with he | he
  ·exact g.fr e he r hr
  ·have he':=List.mem_singleton.mp he
   subst he'
   refine ⟨c2 r hr,?_⟩
   have:r.2∈rows.map (·.2):=by rw [<-er];exact List.mem_map.mpr ⟨r,hr,rfl⟩
   obtain ⟨x,hx,e⟩:=List.mem_map.mp this
   rw [<-e]
   exact h4 x hx
 ·rw [List.map_append]
  refine List.nodup_append.mpr ⟨h.nd,T5 z rows,λ x hx y hy e => ?_⟩
  obtain ⟨j,_,hj⟩:=DL.mp hy
  obtain ⟨d,hd,rfl⟩:=List.mem_map.mp hx
  have ed:d.1 = .file z (j:Int):=e.trans hj
  rcases (h.rw d hd).2.1 with ⟨i,t,r,h5,_⟩ | ⟨_,h5⟩
  ·exact Oo _ ⟨i,t,h5⟩
  ·rw [ed] at h5
   obtain ⟨x,hx,x1,_⟩:=h5
   exact hz (List.mem_map.mpr ⟨x,hx,x1⟩)
 ·rcases List.mem_append.mp he with he | he
  ·obtain ⟨d1,d2,d3⟩:=h.rw e he
   refine ⟨up _ d1,?_,d3⟩
   rcases d2 with ⟨i,t,r,h5,_⟩ | ⟨_,h5⟩
   ·exact absurd ⟨i,t,h5⟩ (Oo _)
   ·exact .inr ⟨WG _,bk _ _ h5⟩
  ·obtain ⟨j,r,hj,rfl⟩:=HN he
   obtain ⟨r',hr'⟩:=at' j r hj
   exact ⟨c1 r (List.mem_of_getElem? hj),.inr ⟨WG _,(z,fa,rows'),mA mS,rfl,j,r',rfl,hr'⟩,XS⟩
 ·rw [List.map_append,List.mem_append]
  rcases ha with ha | ⟨row,ha⟩
  ·exact absurd ha (Oo a)
  ·cases a with
   | own m=>exact .inl (h.Bc _ (.inr ⟨row,ha⟩))
   | file z2 p2 =>
     obtain ⟨e,he,e1,j,r,e2,e3⟩:=ha
     rcases List.mem_append.mp he with he | he
     ·exact .inl (h.Bc _ (.inr ⟨row,e,he,e1,j,r,e2,e3⟩))
     ·have he':=List.mem_singleton.mp he
      subst he'
      have hj:=(List.getElem?_eq_some_iff.mp e3).1
      have e1':z=z2:=e1
      rw [<-e1',e2]
      exact .inr (DL.mpr ⟨j,by rw [<-len];exact hj,rfl⟩)
 ·have h5:=h.cnt
  show (((ts++vN z rows).filter λ e => !aW e.1).length:Int)=S.made
  have h6:((vN z rows).filter λ e => !aW e.1) = []:=by
   rw [List.filter_eq_nil_iff]
   intro e he
   obtain ⟨j,r,_,rfl⟩:=HN he
   simp [aW]
  rw [List.filter_append,h6,List.append_nil]
  exact h5
end
section
variable {P:Program} {w:World} {K:PySem.W.Frag} {mg:Str->Option Value} {base:Heap} {cU cA cB cC cT cF cD cS cI:Addr}
theorem Led.right {H:Hp} : ∀ {A L:Cells},Led H (A++L)->Led H L
 | [],_,h=>h
 | _::_,_,h=>Led.right (Led.tail h)
theorem St.rest {H:Hp} {S:SS} {M:Cells} (h:Led H (bg cT cF cD cS cI S M)):Led H M:=by
 have e:bg cT cF cD cS cI S M=(zb cT S++(pR cF S.F++(E9 cD S++(Fb cS S++Du cI S))))++M:=by unfold bg;simp only [List.append_assoc]
 rw [e] at h
 exact Led.right h
theorem Lr.T6 {n q:Nat} {S:SS} {us:List V} {ts:Ts} {M:Cells} {z:Str} (h:Lr n q S us ts M) (Oo : ∀ a,¬ oA S a) (hz:z ∉ S.fs.map (·.1)) (j:Int):Th.file z j ∉ ts.map (·.1):=λ hx=>by
 obtain ⟨d,hd,e⟩:=List.mem_map.mp hx
 have ed:d.1 = .file z j:=e
 rcases (h.rw d hd).2.1 with ⟨i,t,r,h5,_⟩ | ⟨_,h5⟩
 ·exact Oo _ ⟨i,t,h5⟩
 ·rw [ed] at h5
  obtain ⟨x,hx,x1,_⟩:=h5
  exact hz (List.mem_map.mpr ⟨x,hx,x1⟩)
def IP (K:PySem.W.Frag) (cT cF cD cS cI:Addr):Sp:=λ vs H Q _ => ∃ (S:SS) (n q:Nat) (sp mk sf rd a:Addr) (ns:List Int) (us:List V) (M:Cells),vs = [.ref S.b,.ref sp,.ref sf,.ref rd,.ref a]/\Led H (bg cT cF cD cS cI S (oB sp mk sf rd us S []++M))/\Lr n q S us [] M/\m9 S/\S.fs = []/\q<=128/\(∀ H',Led H' M->fj K H' a (ns.map V.int)) ∧
 ∀ (S':SS) (us':List V) (ts':Ts) (N:Cells) (H':Hp),S'.b=S.b->S'.p=S.p->ts'.length<=192->1<=ts'.length->m9 S'->Lr n q S' us' ts' (N++M)->Led H' (bg cT cF cD cS cI S' (oB sp mk sf rd us' S' ts'++(N++M)))->Q (.bl true) H'
theorem Oq (D:Def K mg "_law_begun" iC) (B:iV mg) (T:Txt K mg cU cA cB cC cT cF cD cS cI) (DM:aR P w K mg base 1 cI "make" ["self","name","rows"] (Oj cI cC)) (br:cQ P w K mg base 1 "_law_cell_at" ["_law_script","_law_k"] (yC K)) (Fg:cQ P w K mg base 1 "_law_name" ["_law_cell","_law_turn"] N7) (iS:cQ P w K mg base 2 "_law_row" ["_law_cell"] IC) (Fi:cQ P w K mg base 8 "_law_fill" ["_law_store","_law_spots","_law_shelf","_law_rows","_law_cell"] (IM cT cF cD cS cI)):cQ P w K mg base 9 "_law_begun" ["_law_store","_law_spots","_law_shelf","_law_rows","_law_script"] (IP K cT cF cD cS cI):=by
 have sc:=wL
 refine D.ok wL (λ vs H Q E h => ?_) (λ _ _ _ _ _ _ us hl=>match us,hl with | [_,_,_,_,_],_=>rfl) (λ f cdv A outer s H vs Q E hr h => ?_)
 ·obtain ⟨_,_,_,_,_,_,_,_,_,_,_,rfl,_⟩:=h;rfl
 ·obtain ⟨So,n,q,sp,mk,sf,rd,a,ns,us,Mo,rfl,hLo,WH,hac,hfs,Oe,T7,k⟩:=h
  have hu:=gF hr
  have hsz:=sizeLine_eq
  have n64:=WH.g.n64
  have ul:us.length=n:=WH.s.l.trans WH.g.f.h
  obtain ⟨x1,hx1⟩ : ∃ x,ns.getD (Int.toNat 1) 0=x:=⟨_,rfl⟩
  obtain ⟨x2,hx2⟩ : ∃ x,ns.getD (Int.toNat 2) 0=x:=⟨_,rfl⟩
  obtain ⟨x3,hx3⟩ : ∃ x,ns.getD (Int.toNat 3) 0=x:=⟨_,rfl⟩
  have adp : ∀ a,¬ oA So a:=λ a z=>nomatch (WH.Bc a (.inl z))
  refine ⟨_,(@af _ _ _ _ _ (@iD _ _ _ _ _ _ _ _ PassesOwn.never rfl (@ck _ _ _ _ _ _ (by rfl) B.range (@aa _ _ _ _ _ (@aj _ _ _ _) (@ak _) (by rfl)) (by rfl)) (@d9 _ _ 5 _ sc.nd rfl (by walk_at "o2") (by walk_at "o4")) (@af _ _ _ _ _ (@aI _ _ 6 _ _ _ _ sc.nd rfl (by walk_at "o2") (@aA _ _ _ _ _ _ _ _ _ _ _ Fg (hr.mono (by omega)) (by rfl) az (@aa _ _ _ _ _ (@aA _ _ _ _ _ _ _ _ _ _ _ br (hr.mono (by omega)) (by rfl) az (@aa _ _ _ _ _ (@aq _ 4 _ _ (by walk_at "v")) (@aa _ _ _ _ _ (@aj _ _ _ _) (@ak _) (by rfl)) (by rfl)) (by decide) (by rfl) (by rfl)) (@aa _ _ _ _ _ (@av _ _ _ _ _ _ _ _ gc (@aq _ 5 _ _ (by walk_at "v")) (@av _ _ _ _ _ _ _ _ aT (@aj _ _ _ _) (@av _ _ _ _ _ _ _ _ aJ (@aA _ _ _ _ _ _ _ _ _ _ _ br (hr.mono (by omega)) (by rfl) az (@aa _ _ _ _ _ (@aq _ 4 _ _ (by walk_at "v")) (@aa _ _ _ _ _ (@aj _ _ _ _) (@ak _) (by rfl)) (by rfl)) (by decide) (by rfl) (by rfl)) (@aj _ _ _ _)))) (@ak _) (by rfl)) (by rfl)) (by decide) (by rfl) (by rfl)) (by rfl) (by walk_at "o4")) (@af _ _ _ _ _ (@aI _ _ 7 _ _ _ _ sc.nd rfl (by walk_at "o2") (@av _ _ _ _ _ _ _ _ aT (@aj _ _ _ _) (@av _ _ _ _ _ _ _ _ aJ (@av _ _ _ _ _ _ _ _ bA (@aA _ _ _ _ _ _ _ _ _ _ _ br (hr.mono (by omega)) (by rfl) az (@aa _ _ _ _ _ (@aq _ 4 _ _ (by walk_at "v")) (@aa _ _ _ _ _ (@av _ _ _ _ _ _ _ _ aT (@aj _ _ _ _) (@aq _ 5 _ _ (by walk_at "v"))) (@ak _) (by rfl)) (by rfl)) (by decide) (by rfl) (by rfl)) (@aj _ _ _ _)) (@aj _ _ _ _))) (by rfl) (by walk_at "o4")) (@af _ _ _ _ _ (@aS _ _ _ _ _ _ _ _ (@aK _ _ _ _ _ _ _ _ b9 (@av _ _ _ _ _ _ _ _ aJ (@av _ _ _ _ _ _ _ _ bA (@aA _ _ _ _ _ _ _ _ _ _ _ br (hr.mono (by omega)) (by rfl) az (@aa _ _ _ _ _ (@aq _ 4 _ _ (by walk_at "v")) (@aa _ _ _ _ _ (@aj _ _ _ _) (@ak _) (by rfl)) (by rfl)) (by decide) (by rfl) (by rfl)) (@aj _ _ _ _)) (@aj _ _ _ _)) (@aj _ _ _ _) (aQ _)) (@ao _ _ _ (@aI _ _ 7 _ _ _ _ sc.nd rfl (by walk_at "o2") (@av _ _ _ _ _ _ _ _ aT (@aj _ _ _ _) (@av _ _ _ _ _ _ _ _ aJ (@av _ _ _ _ _ _ _ _ bA (@aA _ _ _ _ _ _ _ _ _ _ _ br (hr.mono (by omega)) (by rfl) az (@aa _ _ _ _ _ (@aq _ 4 _ _ (by walk_at "v")) (@aa _ _ _ _ _ (@av _ _ _ _ _ _ _ _ aT (@aj _ _ _ _) (@aq _ 5 _ _ (by walk_at "v"))) (@ak _) (by rfl)) (by rfl)) (by decide) (by rfl) (by rfl)) (@aj _ _ _ _)) (@aj _ _ _ _))) (by rfl) (by walk_at "o4"))) (@aF _)) (@af _ _ _ _ _ (@iE _ _ "_law_k" _ _ _ _ _ _ _ _ _ _ 8 _ _ rfl rfl rfl rfl OM (cz (by kernel_rfl)) (@ck _ _ _ _ _ _ (by rfl) B.range (@aa _ _ _ _ _ (@aq _ 7 _ _ (by walk_at "v")) (@ak _) (by rfl)) (by rfl)) (λ _ _ _ _=>(@kc _)) (λ _ _ _ _=>(@aA _ _ _ _ _ _ _ _ _ _ _ iS (hr.mono (by omega)) (by rfl) az (@aa _ _ _ _ _ (@av _ _ _ _ _ _ _ _ aT (@av _ _ _ _ _ _ _ _ aJ (@aA _ _ _ _ _ _ _ _ _ _ _ br (hr.mono (by omega)) (by rfl) az (@aa _ _ _ _ _ (@pk _ 5 _ _ (by kernel_rfl) (by kernel_rfl) (by decide) (by decide)) (@aa _ _ _ _ _ (@av _ _ _ _ _ _ _ _ aT (@aj _ _ _ _) (@pk _ 6 _ _ (by kernel_rfl) (by kernel_rfl) (by decide) (by decide))) (@ak _) (by rfl)) (by rfl)) (by decide) (by rfl) (by rfl)) (@aj _ _ _ _)) (@av _ _ _ _ _ _ _ _ gc (@aj _ _ _ _) (@pk _ 0 _ _ (by kernel_rfl) (by kernel_rfl) (by decide) (by decide)))) (@ak _) (by rfl)) (by decide) (by rfl) (by rfl))) sc.nd rfl (by walk_at "o2") (by intro _;rfl) (by rfl) (by walk_at "o4")) (@af _ _ _ _ _ (@cM _ _ _ _ (@aV _ _ _ _ _ _ _ _ _ _ _ _ _ _ _ _ T.gS DM (hr.mono (by omega)) az (@aB _ _ _ _ _ _ _ T.bz T.qi (@aq _ 0 _ _ (by walk_at "v")) (by rfl)) (@aa _ _ _ _ _ (@aq _ 6 _ _ (by walk_at "v")) (@aa _ _ _ _ _ (@kh _ _ "_law_row_here" _ _ _ _ _ _ _ _ _ rfl rfl rfl rfl OM (cz (by kernel_rfl)) (@fK _ _ _ _ (@aq _ 8 _ _ (by walk_at "v"))) (λ _ _ _ _=>(@kc _)) (λ _ _ _ _=>(@bh _ _ _ _ _ _ _ _ _ (aY (K:=K) rfl) (by rfl) B.list bO (@aa _ _ _ _ _ (@pk _ 0 _ _ (by kernel_rfl) (by kernel_rfl) (by decide) (by decide)) (@ak _) (by rfl)) (by decide) (by decide) (by rfl) (by rfl))) (by intro _;rfl)) (@ak _) (by rfl)) (by rfl)) (by rfl) (by rfl) (by rfl)) (by rfl)) (@ao _ _ _ (@iD _ _ _ _ _ _ _ _ PassesOwn.never rfl (@ck _ _ _ _ _ _ (by rfl) B.range (@aa _ _ _ _ _ (@aq _ 7 _ _ (by walk_at "v")) (@ak _) (by rfl)) (by rfl)) (@d9 _ _ 9 _ sc.nd rfl (by walk_at "o2") (by walk_at "o4")) (@ao _ _ _ (@gX _ _ _ _ _ _ _ _ _ hu (@aq _ 3 _ _ (by walk_at "v")) (@dS _ _ _ _ _ (@aa _ _ _ _ _ (@bV _ _ _ _) (@aa _ _ _ _ _ (@aq _ 6 _ _ (by walk_at "v")) (@aa _ _ _ _ _ (@aq _ 9 _ _ (by walk_at "v")) (@ak _) (by rfl)) (by rfl)) (by rfl))) (@aX _ _ _ _ _ _ _ aO (@aq _ 8 _ _ (by walk_at "v")) (@aq _ 9 _ _ (by walk_at "v")) (λ _ _=>rfl)) rfl)) (by intro _;rfl)))))))) (by intro _;rfl)) (@af _ _ _ _ _ (@aI _ _ 10 _ _ _ _ sc.nd rfl (by walk_at "o2") (@aH _ _ _ _ _ _ _ _ _ aL (by rfl) B.len bw (@aa _ _ _ _ _ (@aq _ 1 _ _ (by walk_at "v")) (@ak _) (by rfl)) (by decide) (by decide) (by rfl) (by rfl)) (by rfl) (by walk_at "o4")) (@af _ _ _ _ _ (@aS _ _ _ _ _ _ _ _ (@aK _ _ _ _ _ _ _ _ b9 (@av _ _ _ _ _ _ _ _ aJ (@aA _ _ _ _ _ _ _ _ _ _ _ br (hr.mono (by omega)) (by rfl) az (@aa _ _ _ _ _ (@aq _ 4 _ _ (by walk_at "v")) (@aa _ _ _ _ _ (@aj _ _ _ _) (@ak _) (by rfl)) (by rfl)) (by decide) (by rfl) (by rfl)) (@aj _ _ _ _)) (@aj _ _ _ _) (aQ _)) (@ao _ _ _ (@aI _ _ 10 _ _ _ _ sc.nd rfl (by walk_at "o2") (@av _ _ _ _ _ _ _ _ aJ (@av _ _ _ _ _ _ _ _ bA (@aA _ _ _ _ _ _ _ _ _ _ _ br (hr.mono (by omega)) (by rfl) az (@aa _ _ _ _ _ (@aq _ 4 _ _ (by walk_at "v")) (@aa _ _ _ _ _ (@aj _ _ _ _) (@ak _) (by rfl)) (by rfl)) (by decide) (by rfl) (by rfl)) (@aj _ _ _ _)) (@av _ _ _ _ _ _ _ _ aT (@aq _ 10 _ _ (by walk_at "v")) (@aj _ _ _ _))) (by rfl) (by walk_at "o4"))) (@aF _)) (@af _ _ _ _ _ (@iD _ _ _ _ _ _ _ _ PassesOwn.never rfl (@ck _ _ _ _ _ _ (by rfl) B.range (@aa _ _ _ _ _ (@aq _ 10 _ _ (by walk_at "v")) (@ak _) (by rfl)) (by rfl)) (@d9 _ _ 11 _ sc.nd rfl (by walk_at "o2") (by walk_at "o4")) (@af _ _ _ _ _ (@aI _ _ 12 _ _ _ _ sc.nd rfl (by walk_at "o2") (@av _ _ _ _ _ _ _ _ aJ (@av _ _ _ _ _ _ _ _ ni (@av _ _ _ _ _ _ _ _ aT (@aA _ _ _ _ _ _ _ _ _ _ _ br (hr.mono (by omega)) (by rfl) az (@aa _ _ _ _ _ (@aq _ 4 _ _ (by walk_at "v")) (@aa _ _ _ _ _ (@aj _ _ _ _) (@ak _) (by rfl)) (by rfl)) (by decide) (by rfl) (by rfl)) (@av _ _ _ _ _ _ _ _ gc (@aq _ 11 _ _ (by walk_at "v")) (@aq _ 11 _ _ (by walk_at "v")))) (@aj _ _ _ _)) (@aj _ _ _ _)) (by rfl) (by walk_at "o4")) (@ao _ _ _ (@aS _ _ _ _ _ _ _ _ (@bW _ _ _ _ (@aZ _ _ _ (@aA _ _ _ _ _ _ _ _ _ _ _ Fi (hr.mono (by omega)) (by rfl) az (@aa _ _ _ _ _ (@aq _ 0 _ _ (by walk_at "v")) (@aa _ _ _ _ _ (@aq _ 1 _ _ (by walk_at "v")) (@aa _ _ _ _ _ (@aq _ 2 _ _ (by walk_at "v")) (@aa _ _ _ _ _ (@aq _ 3 _ _ (by walk_at "v")) (@aa _ _ _ _ _ (@av _ _ _ _ _ _ _ _ aT (@av _ _ _ _ _ _ _ _ aT (@av _ _ _ _ _ _ _ _ gc (@aj _ _ _ _) (@aq _ 12 _ _ (by walk_at "v"))) (@aj _ _ _ _)) (@av _ _ _ _ _ _ _ _ aJ (@aq _ 12 _ _ (by walk_at "v")) (@aj _ _ _ _))) (@ak _) (by rfl)) (by rfl)) (by rfl)) (by rfl)) (by rfl)) (by decide) (by rfl) (by rfl)) (by intro _;rfl))) (@ao _ _ _ (@aE _ _ _ _ (@bP _ _ _ _))) (@aF _)))) (by intro _;rfl)) (@ao _ _ _ (@aE _ _ _ _ (@bP _ _ _ _))))))),?_⟩
  refine aG λ M1 K1 => ?_
  refine nQ λ Wx mZ => ?_
  walk_at "ge"
  refine ⟨_,rfl,by omega,by omega,mZ.use ?_⟩
  clear mZ
  rw [show (2:Int).toNat=2 from rfl]
  refine nR (λ tu σ H' => ∃ (S':SS) (ts':Ts) (N:Cells) (v5 v6 v7 v8 v9:Option V),S'.b=So.b/\S'.p=So.p/\S'.F=So.F/\(∀ z∈S'.fs.map (·.1),1<=tu/\(tu=1->z=jZ x1 0))/\S'.fs.length=tu/\ts'.length<=64 * tu/\tu<=ts'.length/\Lr n q S' us ts' (N++Mo)/\Led H' (bg cT cF cD cS cI S' (oB sp mk sf rd us S' ts'++(N++Mo))) ∧ σ = [some (.ref So.b),some (.ref sp),some (.ref sf),some (.ref rd),some (.ref a),v5,v6,v7,v8,v9,none,none,none]) ⟨So,[],[],none,none,none,none,none,rfl,rfl,rfl,(by rw [hfs];intro z hz;cases hz),(by rw [hfs];rfl),Nat.le_refl _,Nat.le_refl _,WH,hLo,rfl⟩ ?_ ?_
  ·clear hLo K1 k
   rintro tu σ H htu ⟨S,FG,N0,v5,v6,v7,v8,v9,b0,p0,eF0,hnm,hfl,tl0,tl1,lr,hL,rfl⟩
   have Oo : ∀ a,¬ oA S a:=λ a ⟨j,t,hj⟩=>adp a ⟨j,t,by rw [<-eF0];exact hj⟩
   obtain ⟨M,eM⟩ : ∃ M:Cells,N0++Mo=M:=⟨_,rfl⟩
   rw [eM] at lr hL
   have WI : ∀ H',Led H' M->fj K H' a (ns.map V.int):=λ H' h=>T7 _ (Led.right (by rw [eM];exact h))
   have sq:fj K H a (ns.map V.int):=WI _ (Led.right (St.rest hL))
   rw [<-b0]
   obtain ⟨y,hy⟩ : ∃ y,ns.getD (Int.toNat (2+(0+(tu:Int)))) 0=y:=⟨_,rfl⟩
   refine aG λ M1 K1 => ?_
   walk_at "ge"
   refine ⟨a,ns,1,rfl,by decide,sq,?_⟩
   rw [hx1]
   walk_at "ge"
   refine ⟨a,ns,2,rfl,by decide,sq,?_⟩
   rw [hx2]
   walk_at "ge"
   obtain ⟨t,ht⟩ : ∃ t:Int,(0+(tu:Int)) * (1+x2 % 5)=t:=⟨_,rfl⟩
   have XT:0<=t/\t<=5/\(tu=1->1<=t):=by
    rcases (show tu=0\/tu=1 by omega) with h | h
    ·rw [h] at ht
     have:t=0:=by rw [<-ht];simp
     omega
    ·rw [h] at ht
     have:t=1+x2 % 5:=by rw [<-ht];simp
     omega
   rw [ht]
   refine ⟨_,t,rfl,⟨XT.1,XT.2.1⟩,?_⟩
   have XS:=NY x1 t
   have hz:jZ x1 t ∉ S.fs.map (·.1):=λ hm=>by
    obtain ⟨h1,h2⟩:=hnm _ hm
    have h3:tu=1:=by omega
    exact NZ (c:=x1) (XT.2.2 h3) XT.2.1 (h2 h3).symm
   have hzn:tu=0->jZ x1 t=jZ x1 0:=λ h=>by
    have:t=0:=by rw [<-ht,h];simp
    rw [this]
   generalize jZ x1 t=z at XS hz hzn ⊢
   walk_at "ge"
   refine K1.use ?_
   walk_at "cl"
   clear K1
   refine aG λ M1 K1 => ?_
   walk_at "ge"
   refine ⟨a,ns,_,rfl,by omega,sq,?_⟩
   rw [hy]
   walk_at "ge"
   refine K1.use ?_
   walk_at "cl"
   clear K1
   refine aG λ M1 K1 => ?_
   have rest : ∀ m:Nat,1<=m->m<=64->M1 [some (.ref S.b),some (.ref sp),some (.ref sf),some (.ref rd),some (.ref a),some (.int (0+(tu:Int))),some (.str z),some (.int (m:Nat)),v8,v9,none,none,none] H:=by
    intro m m1 m64
    refine K1.use ?_
    clear K1
    refine aG λ M1 K1 => ?_
    walk_at "ge"
    refine Ge λ Lc kG => ?_
    walk_at "ge"
    refine ⟨_,rfl,by omega,by omega,kG.use ?_⟩
    clear kG
    rw [show ((m:Nat):Int).toNat=m by omega]
    refine Gg (λ _ v C => ∃ (r:Addr) (row:List Int),v=V.ref r/\C = [(r,HO.lst (row.map V.int))]/\row.length=4) hL (by omega) (λ i H2 R M2 hi hl2 hR => ?_) (λ l vs Cs H2 hvl hcl hG hl2 => ?_)
    ·have sq2:fj K H2 a (ns.map V.int):=WI _ (Led.right (St.rest (Led.right hl2)))
     walk_at "ge"
     refine ⟨a,ns,_,rfl,by omega,sq2,?_⟩
     rw [hy]
     walk_at "ge"
     refine ⟨_,_,rfl,Nat.le_trans (oQ (by omega) (by omega)) (by decide),hl2,λ r H3 hl3 => ?_⟩
     walk_at "ge"
     exact hR _ _ [_] ⟨r,_,rfl,rfl,jV _⟩ hl3
    ·obtain ⟨rows,rfl,e2,e3,e4⟩:=rowsOf (p:=λ _ row=>row.length=4) (by rw [hvl,hcl]) hG
     rw [e2] at hl2
     rw [g7] at hvl
     have h4 : ∀ r∈rows,r.2.length=4:=λ r hr=>by
      obtain ⟨i,hi⟩:=List.getElem?_of_mem hr
      exact e4 i r hi
     clear hG e2 e3 e4 hcl
     walk_at "ge"
     refine K1.use ?_
     walk_at "cl"
     clear K1 hL sq
     obtain ⟨M2,UL⟩ : ∃ M2:Cells,((l,HO.lst (pQ rows))::JC rows)++M=M2:=⟨_,rfl⟩
     have hl3:Led H2 (bg cT cF cD cS cI S (oB sp mk sf rd us S FG++M2)):=by
      rw [<-UL]
      exact St.iR (St.gW ((l,HO.lst (pQ rows))::JC rows) hl2) (aP _ _ _)
     have yU:Lr n q S us FG M2:=lr.mono λ x hx=>by rw [<-UL];exact mA hx
     have UK:(l,HO.lst (pQ rows))∈M2:=by rw [<-UL];exact mS
     have WJ : ∀ r∈rows,(r.1,HO.lst (r.2.map V.int))∈M2:=λ r hr=>by rw [<-UL];exact mB (mC (Cp hr))
     have ahy : ∀ H',Led H' M2->Led H' M:=λ H' h=>by rw [<-UL] at h;exact Led.right h
     clear hl2
     refine aG λ M1 K1 => ?_
     have f4:=Dv S
     have gO:=hl3.get St.b
     have T4:=hl3.get (St.up (mA UK))
     have hI:=St.Wg hl3
     have Wj:=hI.get mS
     walk_at "ge"
     refine qb λ Lc kG => ?_
     walk_at "ge"
     refine ⟨l,rfl,⟨_,fj.of T4⟩,kG.use ?_⟩
     clear kG
     refine nj (pQ rows) (λ i v C => ∃ (r:Addr) (row:List Int),v=V.ref r/\C = [(r,HO.lst (row.map V.int))]/\rows[i]?.map (·.2)=some row) hl3 (St.up (mA UK)) (by rw [g7];omega) (λ i y H4 R N hy bZ hR => ?_) (λ l2 vs Cs H4 T8 WK hG bZ => ?_)
     ·unfold pQ at hy
      rw [List.getElem?_map] at hy
      obtain ⟨r,hr,rfl⟩:=Option.map_eq_some_iff.mp hy
      have jU:=bZ.get (mA (St.up (mA (WJ r (List.mem_of_getElem? hr)))))
      clear hl3 hI gO T4 Wj
      walk_at "ge"
      rename_i q2 H5 _ cN _
      exact hR _ _ [_] ⟨q2,r.2,rfl,rfl,by rw [hr];rfl⟩ cN
     ·obtain ⟨ug,rfl,e2,e3,e4⟩:=rowsOf (p:=λ i row=>rows[i]?.map (·.2)=some row) (by rw [T8,WK]) hG
      rw [e2] at bZ
      rw [g7,g7] at T8
      have same:=BU (λ i r hi=>e4 i r hi) T8
      have h42 : ∀ r∈ug,r.2.length=4:=λ r hr=>by
       have h5:r.2∈rows.map (·.2):=by rw [<-same];exact List.mem_map.mpr ⟨r,hr,rfl⟩
       obtain ⟨x,hx,e⟩:=List.mem_map.mp h5
       rw [<-e]
       exact h4 x hx
      clear hG e2 e3 e4 WK hI gO T4 Wj hl3
      have cN:=St.gW ((l2,HO.lst (pQ ug))::JC ug) bZ
      have hI:=St.Wg cN
      clear bZ
      walk_at "ge"
      refine ⟨S.ib,S.ix,S.im,l2,S.fs,z,ug,_,rfl,hI,lr.g.fn,Nz (mB mS),λ r hr=>⟨Nz (mB (mC (Cp hr))),by rw [h42 r hr];decide⟩,by omega,by omega,λ _ fa rows' H5 er cO => ?_,λ hz2=>absurd hz2 hz⟩
      have fH:Led H5 (bg cT cF cD cS cI { S with fs:=S.fs++[(z,fa,rows')] } (JC rows'++(((l2,HO.lst (pQ ug))::JC ug)++(oB sp mk sf rd us S FG++M2)))):=St.ofI (S:=S) (N:=JC rows') cO
      obtain ⟨B2,eB2⟩ : ∃ B2:Cells,JC rows'++((l2,HO.lst (pQ ug))::JC ug)=B2:=⟨_,rfl⟩
      have jS:Led H5 (bg cT cF cD cS cI { S with fs:=S.fs++[(z,fa,rows')] } (oB sp mk sf rd us { S with fs:=S.fs++[(z,fa,rows')] } FG++(B2++M2))):=by
       rw [<-List.append_assoc,eB2] at fH
       exact St.iR fH (aP B2 (oB sp mk sf rd us { S with fs:=S.fs++[(z,fa,rows')] } FG) M2)
      have pT:=yU.WE (fa:=fa) (M':=B2++M2) Oo hz (λ x hx=>mA hx) XS (er.trans same) h4 (λ r hr=>mA (WJ r hr)) (λ r hr=>by rw [<-eB2];exact mB (mB (Cp hr)))
      obtain ⟨S1,j5⟩ : ∃ S1:SS,S1 = { S with fs:=S.fs++[(z,fa,rows')] } := ⟨_,rfl⟩
      rw [<-j5] at jS pT
      have Lk:S1.b=S.b:=by rw [j5]
      have Oc:S1.p=S.p:=by rw [j5]
      have eF1:S1.F=S.F:=by rw [j5]
      have ef1:S1.fs=S.fs++[(z,fa,rows')]:=by rw [j5]
      clear cN cO fH hI j5
      walk_at "ge"
      refine K1.use ?_
      walk_at "cl"
      clear K1
      have hrl:rows.length=m:=hvl
      refine nQ λ Wx mZ => ?_
      walk_at "ge"
      refine ⟨_,rfl,by omega,by omega,mZ.use ?_⟩
      clear mZ
      rw [show ((m:Nat):Int).toNat=m by omega]
      refine nR (λ i σ H' => ∃ (N:Cells) (v8:Option V),Led H' (bg cT cF cD cS cI S1 (oB sp mk sf rd us S1 (FG++vN z (rows.take i))++(N++(B2++M2)))) ∧ σ = [some (.ref S.b),some (.ref sp),some (.ref sf),some (.ref rd),some (.ref a),some (.int (0+(tu:Int))),some (.str z),some (.int (m:Nat)),some (.ref l),v8,none,none,none]) ⟨[],v9,(by rw [show FG++vN z (rows.take 0)=FG from List.append_nil _];exact jS),rfl⟩ ?_ ?_
      ·clear jS
       rintro i σ H' hi ⟨N,v8,hl',rfl⟩
       have e0:(0+(i:Int))=((i:Nat):Int):=by omega
       have hir:i < rows.length:=by omega
       have al:iT (pQ rows) (0+(i:Int))=some (.ref rows[i].1):=dz (by omega) (by rw [e0,Int.toNat_natCast];unfold pQ;rw [List.getElem?_map,List.getElem?_eq_getElem hir];rfl)
       have T4:=hl'.get (St.up (mA (mA (mA UK))))
       walk_at "ge"
       rename_i t H6 _ ic _
       rw [e0] at ic
       have fu:Led H6 (bg cT cF cD cS cI S1 ([(t,HO.tup (eV (.file z ((i:Nat):Int))))]++(oB sp mk sf rd us S1 (FG++vN z (rows.take i))++(N++(B2++M2))))):=St.push ic
       have dD:=St.yM _ _ fu
       have jU:=dD.get (mC (mC (mC mS)))
       have yG:H6 t=some (.tup ((fJ (.file z ((i:Nat):Int))).map kV)):=by rw [kZ];exact ic.get mS
       have hnew:Th.file z ((i:Nat):Int) ∉ (FG++vN z (rows.take i)).map (·.1):=λ h=>by
        rw [List.map_append] at h
        rcases List.mem_append.mp h with h | h
        ·exact lr.T6 Oo hz _ h
        obtain ⟨j,hj,e⟩:=DL.mp h
        rw [List.length_take] at hj
        injection e with _ e
        omega
       have K6:(FG++vN z (rows.take i))++[(.file z ((i:Nat):Int),rows[i].1,rows[i].2)]=FG++vN z (rows.take (i+1)):=by
        rw [List.append_assoc,<-List.take_append_getElem hir,Om,List.length_take,Nat.min_eq_left (by omega)]
       refine BR jU yG (by rw [rj,List.length_append,DK,List.length_take];omega) ?_
       rw [DC rows[i].1 rows[i].2 hnew,K6]
       have d8:Led (upd H6 rd (.dT (m5 (FG++vN z (rows.take (i+1)))))) (oB sp mk sf rd us S1 (FG++vN z (rows.take (i+1)))++bg cT cF cD cS cI S1 ([(t,HO.tup (eV (.file z ((i:Nat):Int))))]++(N++(B2++M2)))):=dD.gB 3 rfl rfl rfl
       have gp:=St.gW _ d8
       walk_at "ge"
       exact ⟨[(t,HO.tup (eV (.file z ((i:Nat):Int))))]++N,_,by rw [List.append_assoc];exact gp,rfl⟩
      ·clear jS
       rintro σ H' ⟨N,v8,hl',rfl⟩
       rw [List.take_of_length_le (by omega)] at hl'
       walk_at "ge"
       obtain ⟨N1,eN1⟩ : ∃ N1:Cells,N++(B2++(((l,HO.lst (pQ rows))::JC rows)++N0))=N1:=⟨_,rfl⟩
       have e5:N++(B2++M2)=N1++Mo:=by rw [<-eN1,<-UL,<-eM];simp
       rw [e5] at hl'
       have K8:Lr n q S1 us (FG++vN z rows) (N1++Mo):=by rw [<-e5];exact pT.mono λ x hx=>mA hx
       refine ⟨S1,FG++vN z rows,N1,_,_,_,_,_,Lk,Oc.trans p0,eF1.trans eF0,λ w hw => ?_,?_,?_,?_,K8,hl',rfl⟩
       ·rw [ef1,List.map_append] at hw
        rcases List.mem_append.mp hw with hw | hw
        ·obtain ⟨h1,h2⟩:=hnm w hw
         exact ⟨by omega,λ h=>by omega⟩
        ·have hw':w=z:=by simpa using hw
         exact ⟨by omega,λ h=>by rw [hw'];exact hzn (by omega)⟩
       ·rw [ef1,List.length_append,hfl];rfl
       ·rw [List.length_append,DK];omega
       ·rw [List.length_append,DK];omega
   clear K1
   walk_at "ge"
   refine ⟨a,ns,2,rfl,by decide,sq,?_⟩
   rw [hx2]
   walk_at "ge"
   ·refine ⟨a,ns,_,rfl,by omega,sq,?_⟩
    rw [hy]
    walk_at "ge"
    obtain ⟨m,hm⟩ : ∃ m:Nat,1+y / 80 % 64=((m:Nat):Int):=⟨(1+y / 80 % 64).toNat,by omega⟩
    rw [hm]
    exact rest m (by omega) (by omega)
   ·obtain ⟨m,hm⟩ : ∃ m:Nat,1+y / 5 % 4=((m:Nat):Int):=⟨(1+y / 5 % 4).toNat,by omega⟩
    rw [hm]
    exact rest m (by omega) (by omega)
  ·clear hLo
   rintro σ H' ⟨S1,RH,N0,v5,v6,v7,v8,v9,Lk,Oc,eF1,_,_,tl,tl1,K8,hl',rfl⟩
   walk_at "ge"
   refine K1.use ?_
   walk_at "cl"
   clear K1
   have ac1:m9 S1:=λ j b hj=>hac j b (by rw [<-eF1];exact hj)
   have dG:=hl'.get (St.up mS)
   have XU:fj K H' a (ns.map V.int):=T7 _ (Led.right (Led.right (St.rest hl')))
   refine aG λ M1 K1 => ?_
   walk_at "ge"
   rw [ul]
   refine K1.use ?_
   walk_at "cl"
   clear K1 dG
   refine aG λ M1 K1 => ?_
   have gI : ∀ mm:Nat,mm<=64->M1 [some (.ref So.b),some (.ref sp),some (.ref sf),some (.ref rd),some (.ref a),v5,v6,v7,v8,v9,some (.int (mm:Nat)),none,none] H':=by
    intro mm h64
    refine K1.use ?_
    clear K1
    refine aG λ M1 K1 => ?_
    refine nQ λ Wx mZ => ?_
    walk_at "ge"
    refine ⟨_,rfl,by omega,by omega,mZ.use ?_⟩
    clear mZ
    rw [show ((mm:Nat):Int).toNat=mm by omega]
    refine nR (λ i σ H' => ∃ (S':SS) (us':List V) (ts':Ts) (N:Cells) (v10 v11:Option V),S'.b=So.b/\S'.p=So.p/\ts'.length<=128+i/\1<=ts'.length/\m9 S'/\Lr n q S' us' ts' (N++Mo)/\Led H' (bg cT cF cD cS cI S' (oB sp mk sf rd us' S' ts'++(N++Mo))) ∧ σ = [some (.ref So.b),some (.ref sp),some (.ref sf),some (.ref rd),some (.ref a),v5,v6,v7,v8,v9,some (.int (mm:Nat)),v10,v11]) ⟨S1,us,_,N0,none,none,Lk,Oc,by omega,by omega,ac1,K8,hl',rfl⟩ ?_ ?_
    ·clear hl' XU K1 k
     rintro i σ H' hi ⟨S',us',ts',N,v10,v11,q1,q2,q3,q4,ac,lr',hl',rfl⟩
     have sq4:fj K H' a (ns.map V.int):=T7 _ (Led.right (Led.right (St.rest hl')))
     refine aG λ M2 K2 => ?_
     walk_at "ge"
     refine ⟨a,ns,3,rfl,by decide,sq4,?_⟩
     rw [hx3]
     walk_at "ge"
     obtain ⟨c,hc⟩ : ∃ c:Int,(x3+(0+(i:Int)) * (0+(i:Int))) * 48271 % 7919=c:=⟨_,rfl⟩
     have c0:0<=c:=by rw [<-hc];exact Int.emod_nonneg _ (by decide)
     have c9:c < 7919:=by rw [<-hc];exact Int.emod_lt_of_pos _ (by decide)
     rw [hc]
     refine K2.use ?_
     walk_at "cl"
     clear K2 hc
     walk_at "ge"
     refine ⟨S',n,q,_,sp,mk,sf,rd,us',ts',_,by rw [q1];rfl,hl',lr',ac,Oe,by omega,by omega,by omega,λ S2 Ot pS N2 H2 r1 r2 r3 r4 ac2 adq hl2 => ?_⟩
     walk_at "ge"
     exact ⟨S2,Ot,pS,N2++N,_,_,r1.trans q1,r2.trans q2,by omega,by omega,ac2,by rw [List.append_assoc];exact adq,by rw [List.append_assoc];exact hl2,rfl⟩
    ·clear hl' XU
     rintro σ H' ⟨S',us',ts',N,v10,v11,q1,q2,q3,q4,ac,lr',hl',rfl⟩
     walk_at "ge"
     refine K1.use ?_
     walk_at "ge"
     exact k S' us' ts' N H' q1 q2 (by omega) q4 ac lr' hl'
   clear K1
   walk_at "ge"
   refine ⟨a,ns,3,rfl,by decide,XU,?_⟩
   rw [hx3]
   walk_at "ge"
   ·refine ⟨a,ns,3,rfl,by decide,XU,?_⟩
    rw [hx3]
    have hpos:(0:Int) < (n:Int)+1:=by omega
    walk_at "ge"
    have z0:=Int.emod_nonneg (x3 / 2) (show (n:Int)+1≠0 by omega)
    have z1:=Int.emod_lt_of_pos (x3 / 2) hpos
    obtain ⟨mm,UD⟩ : ∃ mm:Nat,x3 / 2 % ((n:Int)+1)=(mm:Int):=⟨_,(Int.toNat_of_nonneg z0).symm⟩
    rw [UD] at z1 ⊢
    exact gI mm (by omega)
   ·exact gI n n64
end
section
variable {P:Program} {w:World} {K:PySem.W.Frag} {mg:Str->Option Value} {base:Heap} {cU cA cB cC cT cF cD cS cI:Addr}
theorem tN {α : Type} {n i:Nat} {x y : α} (h:(List.replicate n x)[i]? = some y):y=x:=List.eq_of_mem_replicate (List.mem_of_getElem? h)
section
variable {b dx fr Bb l r s di Dy mk sh DT pl rd fi DU fd ho:Addr} {n q:Nat} {M:Cells}
theorem aU.laid (n1:1<=n) (n64:n<=64) (q6:q<=550):aU (S0 b dx fr Bb l r s di Dy mk sh DT pl rd fi DU fd ho n q) n q M:=by
 have no : ∀ (i:Nat) (x:Addr×Th),(S0 b dx fr Bb l r s di Dy mk sh DT pl rd fi DU fd ho n q).F.hs[i]? = some (some x)->False:=λ i x h=>nomatch (tN (α := Hd) (x:=none) h)
 exact { f:=FA.new,n1:=n1,n64:=n64,bl:=List.length_replicate,pn:=n1,rr:=λ i t a h=>(no i _ h).elim,inj:=λ i _ t _ a h _=>(no i _ h).elim,pl:=List.length_replicate,q6:=q6,pe:=λ v hv => .inl (List.eq_of_mem_replicate hv),nd:=List.nodup_nil,pk:=λ m=>⟨λ h=>(nomatch (List.eq_of_mem_replicate h)),λ h=>(nomatch h)⟩,pi:=λ i j m h _=>(nomatch (tN (α := V) (x := .aM) h)),ap:=λ i t m h=>(no i _ h).elim,er:=λ e he=>(nomatch he),fn:=List.nodup_nil,fr:=λ e he=>(nomatch he),ff:=λ i t z p h=>(no i _ h).elim }
theorem FE.laid:FE (S0 b dx fr Bb l r s di Dy mk sh DT pl rd fi DU fd ho n q) n q:=by
 refine ⟨List.nodup_nil,λ e he=>(nomatch he),λ e he=>(nomatch he),λ m=>⟨λ h=>(nomatch h),λ h => ?_⟩,Nat.zero_le _,Int.le_refl 0⟩
 rcases h with ⟨i,t,h⟩ | h
 ·exact nomatch (tN (α := Hd) (x:=none) h)
 ·exact (nomatch h)
end
theorem kK.laid {S:SS} {n:Nat} {M:Cells} (h:S.F.hs=List.replicate n none):kK S (List.replicate n .aM) M:=by
 refine ⟨by rw [h,List.length_replicate,List.length_replicate],λ i hi => ?_,λ i t a hi => ?_⟩
 ·rw [h] at hi
  have hl:=(List.getElem?_eq_some_iff.mp hi).1
  rw [List.length_replicate] at hl
  rw [List.getElem?_replicate,if_pos hl]
 ·rw [h] at hi
  exact nomatch (tN (α := Hd) (x:=none) hi)
theorem Lr.laid {b dx fr Bb l r s di Dy mk sh DT pl rd fi DU fd ho:Addr} {n q:Nat} {M:Cells} (n1:1<=n) (n64:n<=64) (q6:q<=550):Lr n q (S0 b dx fr Bb l r s di Dy mk sh DT pl rd fi DU fd ho n q) (List.replicate n .aM) [] M:=by
 have no : ∀ a,¬ oA (S0 b dx fr Bb l r s di Dy mk sh DT pl rd fi DU fd ho n q) a:=λ a ⟨i,t,h⟩=>nomatch (tN (α := Hd) (x:=none) h)
 refine { g:=aU.laid n1 n64 q6,gh:=FE.laid,s:=kK.laid rfl,cl:=λ i t r z p row h=>absurd ⟨i,t,h⟩ (no _),nd:=List.nodup_nil,rw:=λ e he=>(nomatch he),Bc:=λ a ha => ?_,hm:=rfl,cnt:=rfl }
 rcases ha with ha | ⟨row,ha⟩
 ·exact absurd ha (no a)
 ·cases a with
  | own m=>obtain ⟨b,hb⟩:=ha;exact nomatch hb
  | file z p=>obtain ⟨e,he,_⟩:=ha;exact nomatch he
end
section
variable {P:Program} {w:World} {K:PySem.W.Frag} {mg:Str->Option Value} {base:Heap} {cU cA cB cC cT cF cD cS cI:Addr}
theorem WL {t:TE} {σ : L2.St} {H:Hp} {Q:VK} (h : ∀ R,Is R Q->t σ H R):t σ H Q:=h _ Is.rfl
def Fj (cT cF cD cS cI:Addr):Sp:=λ vs H Q _ => ∃ (S:SS) (n q:Nat) (c:Int) (sp mk sf rd so:Addr) (us:List V) (ts:Ts) (kv:Kv) (M:Cells),vs = [.ref S.b,.ref sp,.ref so,.int c]/\Led H (bg cT cF cD cS cI S (gH sp mk sf rd so us S ts kv++M))/\Lr n q S us ts M/\dM S kv ts/\0<=c/\Q (.bl true) H
theorem HP (D:Def K mg "_law_is_soil" fF) (B:iV mg) (T:Txt K mg cU cA cB cC cT cF cD cS cI) (b7:aR P w K mg base 1 cF "is_soiled" ["self","frame"] (qV cF)) (aN:cQ P w K mg base 4 "_law_alike" ["_law_found","_law_due"] (jk 2)):cQ P w K mg base 5 "_law_is_soil" ["_law_store","_law_spots","_law_soil","_law_cell"] (Fj cT cF cD cS cI):=by
 have sc:=qg
 refine D.ok qg (λ vs H Q E h => ?_) (λ _ _ _ _ _ _ us hl=>match us,hl with | [_,_,_,_],_=>rfl) (λ f cdv A outer s H vs Q E hr h => ?_)
 ·obtain ⟨_,_,_,_,_,_,_,_,_,_,_,_,_,rfl,_⟩:=h;rfl
 ·obtain ⟨S,n,q,c,sp,mk,sf,rd,so,us,ts,kv,M,rfl,hL,lr,hso,c0,k⟩:=h
  have hu:=gF hr
  have n1:=lr.g.n1
  have n64:=lr.g.n64
  have ul:us.length=n:=lr.s.l.trans lr.g.f.h
  have dG:=hL.get (St.up mS)
  refine ⟨_,(@af _ _ _ _ _ (@aI _ _ 4 _ _ _ _ sc.nd rfl (by walk_at "o2") (@av _ _ _ _ _ _ _ _ aJ (@aq _ 3 _ _ (by walk_at "v")) (@aH _ _ _ _ _ _ _ _ _ aL (by rfl) B.len bw (@aa _ _ _ _ _ (@aq _ 1 _ _ (by walk_at "v")) (@ak _) (by rfl)) (by decide) (by decide) (by rfl) (by rfl))) (by rfl) (by walk_at "o4")) (@af _ _ _ _ _ (@aI _ _ 5 _ _ _ _ sc.nd rfl (by walk_at "o2") (@rB _ _ _ _ _ _ _ (@fM _ _ _ _ _ _ _ _ pY (@aX _ _ _ _ _ _ _ aO (@aq _ 1 _ _ (by walk_at "v")) (@aq _ 4 _ _ (by walk_at "v")) (λ _ _=>rfl)) (@bJ _ _ _) (aQ _)) (@lK _ _ _ _ _ (@LZ _ _ _ _ _ _ _ _ _ hu (@aq _ 2 _ _ (by walk_at "v")) (@aX _ _ _ _ _ _ _ aO (@aq _ 1 _ _ (by walk_at "v")) (@aq _ 4 _ _ (by walk_at "v")) (λ _ _=>rfl)) (@bP _ _ _ _) ⟨rfl,rfl,rfl,rfl⟩))) (by rfl) (by walk_at "o4")) (@ao _ _ _ (@aE _ _ _ _ (@aA _ _ _ _ _ _ _ _ _ _ _ aN (hr.mono (by omega)) (by rfl) az (@aa _ _ _ _ _ (@aV _ _ _ _ _ _ _ _ _ _ _ _ _ _ _ _ T.Frames b7 (hr.mono (by omega)) az (@aB _ _ _ _ _ _ _ T.bz T.bL (@aq _ 0 _ _ (by walk_at "v")) (by rfl)) (@aa _ _ _ _ _ (@aq _ 4 _ _ (by walk_at "v")) (@ak _) (by rfl)) (by rfl) (by rfl) (by rfl)) (@aa _ _ _ _ _ (@aq _ 5 _ _ (by walk_at "v")) (@ak _) (by rfl)) (by rfl)) (by decide) (by rfl) (by rfl)))))),?_⟩
  refine aG λ M1 K1 => ?_
  walk_at "ge"
  rw [ul]
  have e0:=Int.emod_nonneg c (show (n:Int)≠0 by omega)
  have e1:=Int.emod_lt_of_pos c (show (0:Int) < n by omega)
  obtain ⟨i,hi⟩ : ∃ i:Nat,c % (n:Int)=(i:Int):=⟨_,(Int.toNat_of_nonneg e0).symm⟩
  rw [hi] at e0 e1 ⊢
  have hin:i < n:=by omega
  clear e0 hi
  refine K1.use ?_
  walk_at "cl"
  clear K1
  refine aG λ M1 K1 => ?_
  have rest : ∀ b:Bool,S.F.bs[i]? = some b->M1 [some (.ref S.b),some (.ref sp),some (.ref so),some (.int c),some (.int (i:Nat)),some (.bl b)] H:=by
   intro b hb
   refine K1.use ?_
   clear K1
   have f1:=fX S
   have gO:=hL.get St.b
   have hF:=St.toF hL
   have jr:=hF.get mS
   walk_at "ge"
   refine ⟨S.F,i,b,_,rfl,hF,hb,?_⟩
   walk_at "ge"
   refine ⟨_,_,rfl,.inl (.inr (.inl ⟨_,rfl,rfl⟩)),?_⟩
   walk_at "ge"
   exact k
  clear K1
  obtain ⟨x,hx⟩ : ∃ x,S.F.hs[i]? = some x:=⟨_,List.getElem?_eq_getElem (by rw [lr.g.f.h];exact hin)⟩
  cases x with
  | none =>
    have au:iT us ((i:Nat):Int)=some .aM:=dz (by omega) (by rw [Int.toNat_natCast];exact lr.s.no i hx)
    walk_at "ge"
    all_goals first | exact absurd (rfl:V.aM=V.aM) (by assumption) | skip
    exact rest false (hso.no i hx)
  | some x =>
    obtain ⟨u,hu2,cu⟩:=lr.s.th i x.1 x.2 hx
    have au:iT us ((i:Nat):Int)=some (.ref u):=dz (by omega) (by rw [Int.toNat_natCast];exact hu2)
    obtain ⟨b,hb,ev⟩:=hso.th i x.1 x.2 hx
    have K4:=hL.get (St.up (mC (mC (mC (mC mS)))))
    have lH:=hL.get (St.up (mA cu))
    have tM:H u=some (.tup ((fJ x.2).map kV)):=by rw [kZ];exact lH
    clear lH
    walk_at "ge"
    all_goals first | exact nomatch (show V.ref u=V.aM by assumption) | skip
    unfold LY
    refine WL λ R hR => ?_
    walk_at "ge"
    refine ⟨so,rfl,.inr ⟨kv,.inl K4⟩,?_⟩
    refine WL λ R2 XO => ?_
    walk_at "ge"
    refine ⟨_,fY.t K4 tM,?_⟩
    rw [ev]
    walk_at "ge"
    exact rest b hb
end
section
variable {P:Program} {w:World} {K:PySem.W.Frag} {mg:Str->Option Value} {base:Heap} {cU cA cB cC cT cF cD cS cI:Addr}
theorem ads {i:Nat} {t u:TS} {D:Ends} {σ : L2.St} {H:Hp} (h : σ[i]? = some (some (.bl true))) (k:t D σ H):Lz (tB (FJ i)) t u D σ H:=⟨.bl true,h,true,rfl,by dsimp only;rw [if_pos rfl];exact k⟩
theorem Ou {S:SS} {n q:Nat} {M:Cells} {a:Th} (g:aU S n q M) (h:true∈dh S):true∈dh (My.gone S a):=by
 obtain ⟨j,hj⟩:=List.getElem?_of_mem h
 have hj2:=hj
 unfold dh at hj2
 rw [List.getElem?_map] at hj2
 obtain ⟨x,hx,e⟩:=Option.map_eq_some_iff.mp hj2
 cases x with
 | none=>cases e
 | some y =>
   have e':(aW y.2 || p6 .aM S.ps)=true:=e
   have eF:=(eW S a).2.1
   have hm:=kI (S:=My.gone S a) (i:=j) (t:=y.1) (a:=y.2) (by rw [eF];exact hx)
   have ht:(aW y.2 || p6 .aM (My.gone S a).ps)=true:=by
    cases a with
    | file z p=>exact e'
    | own m =>
      rcases Bool.or_eq_true_iff.mp e' with e1 | e1
      ·rw [e1];rfl
      ·have hat:=g.HA e1
       have hin:V.aM∈S.ps.set (idx S.ps (.int m)) .aM:=by
        refine List.mem_of_getElem? (i:=idx S.ps .aM) ?_
        rw [List.getElem?_set]
        split
        ·rw [if_pos (by have:=(List.getElem?_eq_some_iff.mp hat).1;omega)]
        ·exact hat
       have:p6 .aM (My.gone S (.own m)).ps=true:=List.any_eq_true.mpr ⟨.aM,hin,rfl⟩
       rw [this,Bool.or_true]
   rw [ht] at hm
   exact List.mem_of_getElem? hm
def yV (cT cF cD cS cI:Addr):Sp:=λ vs H Q _ => ∃ (S:SS) (n q:Nat) (u:Addr) (a:Th) (sp mk sf rd so:Addr) (us:List V) (ts:Ts) (kv:Kv) (M:Cells),vs = [.ref S.b,.ref sp,.ref mk,.ref sf,.ref rd,.ref so,.int (S.p:Nat),.ref u]/\Led H (bg cT cF cD cS cI S (gH sp mk sf rd so us S ts kv++M))/\Lr n q S us ts M/\dM S kv ts/\kv.length<=1000/\(u,HO.tup (eV a))∈M/\a∈ts.map (·.1) ∧
 ∀ (S':SS) (us':List V) (kv':Kv) (N:Cells) (H':Hp),S'.b=S.b->kv'.length<=kv.length+1->dM S' kv' ts->Lr n q S' us' ts (N++M)->Led H' (bg cT cF cD cS cI S' (gH sp mk sf rd so us' S' ts kv'++(N++M)))->Q (.int (S'.p:Nat)) H'
theorem Fl (D:Def K mg "_law_brought" fG) (B:iV mg) (T:Txt K mg cU cA cB cC cT cF cD cS cI) (b7:aR P w K mg base 1 cF "is_soiled" ["self","frame"] (qV cF)) (bS:aR P w K mg base 1 cF "row_in" ["self","frame"] (qW cF)) (vM:cQ P w K mg base 7 "bring" ["store","thing"] (DA cT cF cD cS cI)) (ng:cQ P w K mg base 2 "_law_goes" ["_law_spots","_law_marks","_law_shelf","_law_pointer","_law_found"] HH) (gP:cQ P w K mg base 5 "_law_is_store" ["_law_store","_law_spots","_law_marks","_law_shelf","_law_pointer"] (tL cT cF cD cS cI)) (aN:cQ P w K mg base 4 "_law_alike" ["_law_found","_law_due"] (jk 2)):cQ P w K mg base 8 "_law_brought" ["_law_store","_law_spots","_law_marks","_law_shelf","_law_rows","_law_soil","_law_pointer","_law_thing"] (yV cT cF cD cS cI):=by
 have sc:=qh
 refine D.ok qh (λ vs H Q E h => ?_) (λ _ _ _ _ _ _ us hl=>match us,hl with | [_,_,_,_,_,_,_,_],_=>rfl) (λ f cdv A outer s H vs Q E hr h => ?_)
 ·obtain ⟨_,_,_,_,_,_,_,_,_,_,_,_,_,_,rfl,_⟩:=h;rfl
 ·obtain ⟨S,n,q,u,a,sp,mk,sf,rd,so,us,ts,kv,M,rfl,hL,lr,hso,hkv,IQ,hkey,k⟩:=h
  have hu:=gF hr
  have hsz:=sizeLine_eq
  have n64:=lr.g.n64
  have ul:us.length=n:=lr.s.l.trans lr.g.f.h
  obtain ⟨e,he,ea⟩:=List.mem_map.mp hkey
  have ea':e.1=a:=ea
  have Og:Fz a:=by rw [<-ea'];exact (lr.rw e he).2.2
  obtain ⟨eb,eF,Ry,UI,efs,ep,Wq⟩:=eW S a
  refine ⟨_,(@af _ _ _ _ _ (@aI _ _ 8 _ _ _ _ sc.nd rfl (by walk_at "o2") (@aA _ _ _ _ _ _ _ _ _ _ _ vM (hr.mono (by omega)) (by rfl) az (@aa _ _ _ _ _ (@aq _ 0 _ _ (by walk_at "v")) (@aa _ _ _ _ _ (@aq _ 7 _ _ (by walk_at "v")) (@ak _) (by rfl)) (by rfl)) (by decide) (by rfl) (by rfl)) (by rfl) (by walk_at "o4")) (@af _ _ _ _ _ (@aS _ _ _ _ _ _ _ _ (@PW.pt _ _ _ (@pw_or _ _ _ _ _ _ _ (@bW _ _ _ _ (@aZ _ _ _ (@aH _ _ _ _ _ _ _ _ _ cy (by rfl) B.isinstance bu (@aa _ _ _ _ _ (@aq _ 8 _ _ (by walk_at "v")) (@aa _ _ _ _ _ (@fc _ _ (.ty "tuple") _ _ (by rfl) B.tuple p7 rfl (by decide) (by decide)) (@ak _) (by rfl)) (by rfl)) (by decide) (by decide) (by rfl) (by rfl)) (by intro _;rfl))) (@pw_or1 _ _ _ _ (@aK _ _ _ _ _ _ _ _ HW (@aH _ _ _ _ _ _ _ _ _ aL (by rfl) B.len bw (@aa _ _ _ _ _ (@aq _ 8 _ _ (by walk_at "v")) (@ak _) (by rfl)) (by decide) (by decide) (by rfl) (by rfl)) (@aj _ _ _ _) (aQ _))))) (@ao _ _ _ (@aE _ _ _ _ (@gQ _ _ _ _ _ _ eU (@aj _ _ _ _)))) (@aF _)) (@af _ _ _ _ _ (@aI _ _ 9 _ _ _ _ sc.nd rfl (by walk_at "o2") (@fM _ _ _ _ _ _ _ _ (nq hr.units) (@aq _ 7 _ _ (by walk_at "v")) (@aq _ 1 _ _ (by walk_at "v")) (by with_unfolding_all rfl)) (by rfl) (by walk_at "o4")) (@af _ _ _ _ _ (@aI _ _ 10 _ _ _ _ sc.nd rfl (by walk_at "o2") (@aX _ _ _ _ _ _ _ aO (@aq _ 8 _ _ (by walk_at "v")) (@aj _ _ _ _) (λ _ _=>rfl)) (by rfl) (by walk_at "o4")) (@af _ _ _ _ _ (@aS _ _ _ _ _ _ _ _ (@aZ _ _ _ (@aq _ 9 _ _ (by walk_at "v")) (by intro _;rfl)) (@af _ _ _ _ _ (@aS _ _ _ _ _ _ _ _ (@aK _ _ _ _ _ _ _ _ b9 (@aX _ _ _ _ _ _ _ aO (@aq _ 7 _ _ (by walk_at "v")) (@aj _ _ _ _) (λ _ _=>rfl)) (@bV _ _ _ _) (aQ _)) (@ao _ _ _ (@bF _ _ _ _ _ _ (@bJ _ _ _) (@bG _ _ _ _ _ _ _ (@aq _ 3 _ _ (by walk_at "v")) (@nP _ _ _ _ _ _ _ _ _ _ _ _ PySem.F.plainAttrs_list PySem.F.slot_list_index PySem.F.type_list_index lX (@aq _ 3 _ _ (by walk_at "v")) (@aa _ _ _ _ _ (@aX _ _ _ _ _ _ _ aO (@aq _ 7 _ _ (by walk_at "v")) (@aj _ _ _ _) (λ _ _=>rfl)) (@ak _) (by rfl)) (by rfl) (by rfl) (by rfl) (by rfl) (by rfl)) set_list (by intro _;rfl)) (by rfl) (by rfl) (by rfl))) (@aF _)) (@af _ _ _ _ _ (@aI _ _ 6 _ _ _ _ sc.nd rfl (by walk_at "o2") (@aA _ _ _ _ _ _ _ _ _ _ _ ng (hr.mono (by omega)) (by rfl) az (@aa _ _ _ _ _ (@aq _ 1 _ _ (by walk_at "v")) (@aa _ _ _ _ _ (@aq _ 2 _ _ (by walk_at "v")) (@aa _ _ _ _ _ (@aq _ 3 _ _ (by walk_at "v")) (@aa _ _ _ _ _ (@aq _ 6 _ _ (by walk_at "v")) (@aa _ _ _ _ _ (@aq _ 10 _ _ (by walk_at "v")) (@ak _) (by rfl)) (by rfl)) (by rfl)) (by rfl)) (by rfl)) (by decide) (by rfl) (by rfl)) (by rfl) (by walk_at "o4")) (@af _ _ _ _ _ (@aS _ _ _ _ _ _ _ _ (@aK _ _ _ _ _ _ _ _ vU (@aq _ 6 _ _ (by walk_at "v")) (@aj _ _ _ _) (aQ _)) (@ao _ _ _ (@aE _ _ _ _ (@gQ _ _ _ _ _ _ eU (@aj _ _ _ _)))) (@aF _)) (@af _ _ _ _ _ (@bF _ _ _ _ _ _ (@aq _ 7 _ _ (by walk_at "v")) (@bG _ _ _ _ _ _ _ (@aq _ 1 _ _ (by walk_at "v")) (@aq _ 10 _ _ (by walk_at "v")) set_list (by intro _;rfl)) (by rfl) (by rfl) (by rfl)) (@af _ _ _ _ _ (@gX _ _ _ _ _ _ _ _ _ hu (@aq _ 5 _ _ (by walk_at "v")) (@aq _ 7 _ _ (by walk_at "v")) (@bP _ _ _ _) rfl) (@ao _ _ _ (@aS _ _ _ _ _ _ _ _ (@bW _ _ _ _ (@aZ _ _ _ (@aA _ _ _ _ _ _ _ _ _ _ _ aN (hr.mono (by omega)) (by rfl) az (@aa _ _ _ _ _ (@aV _ _ _ _ _ _ _ _ _ _ _ _ _ _ _ _ T.Frames b7 (hr.mono (by omega)) az (@aB _ _ _ _ _ _ _ T.bz T.bL (@aq _ 0 _ _ (by walk_at "v")) (by rfl)) (@aa _ _ _ _ _ (@aq _ 10 _ _ (by walk_at "v")) (@ak _) (by rfl)) (by rfl) (by rfl) (by rfl)) (@aa _ _ _ _ _ (@bP _ _ _ _) (@ak _) (by rfl)) (by rfl)) (by decide) (by rfl) (by rfl)) (by intro _;rfl))) (@ao _ _ _ (@aE _ _ _ _ (@gQ _ _ _ _ _ _ eU (@aj _ _ _ _)))) (@aF _)))))))) (@aF _)) (@af _ _ _ _ _ (@aS _ _ _ _ _ _ _ _ (@bW _ _ _ _ (@aZ _ _ _ (@aA _ _ _ _ _ _ _ _ _ _ _ aN (hr.mono (by omega)) (by rfl) az (@aa _ _ _ _ _ (@aq _ 8 _ _ (by walk_at "v")) (@aa _ _ _ _ _ (@dS _ _ _ _ _ (@aa _ _ _ _ _ (@nP _ _ _ _ _ _ _ _ _ _ _ _ PySem.F.plainAttrs_list PySem.F.slot_list_index PySem.F.type_list_index (jA hr.units) (@aq _ 1 _ _ (by walk_at "v")) (@aa _ _ _ _ _ (@aq _ 7 _ _ (by walk_at "v")) (@ak _) (by rfl)) (by rfl) (by rfl) (by rfl) (by rfl) (by rfl)) (@aa _ _ _ _ _ (@aq _ 9 _ _ (by walk_at "v")) (@ak _) (by rfl)) (by rfl))) (@ak _) (by rfl)) (by rfl)) (by decide) (by rfl) (by rfl)) (by intro _;rfl))) (@ao _ _ _ (@aE _ _ _ _ (@gQ _ _ _ _ _ _ eU (@aj _ _ _ _)))) (@aF _)) (@af _ _ _ _ _ (@aS _ _ _ _ _ _ _ _ (@bW _ _ _ _ (@aZ _ _ _ (@aA _ _ _ _ _ _ _ _ _ _ _ aN (hr.mono (by omega)) (by rfl) az (@aa _ _ _ _ _ (@aV _ _ _ _ _ _ _ _ _ _ _ _ _ _ _ _ T.Frames bS (hr.mono (by omega)) az (@aB _ _ _ _ _ _ _ T.bz T.bL (@aq _ 0 _ _ (by walk_at "v")) (by rfl)) (@aa _ _ _ _ _ (@aq _ 10 _ _ (by walk_at "v")) (@ak _) (by rfl)) (by rfl) (by rfl) (by rfl)) (@aa _ _ _ _ _ (@iU _ _ _ _ _ _ hu (@aq _ 4 _ _ (by walk_at "v")) (@aq _ 7 _ _ (by walk_at "v")) (λ _ _=>rfl)) (@ak _) (by rfl)) (by rfl)) (by decide) (by rfl) (by rfl)) (by intro _;rfl))) (@ao _ _ _ (@aE _ _ _ _ (@gQ _ _ _ _ _ _ eU (@aj _ _ _ _)))) (@aF _)) (@af _ _ _ _ _ (@aS _ _ _ _ _ _ _ _ (@bW _ _ _ _ (@aZ _ _ _ (@aA _ _ _ _ _ _ _ _ _ _ _ gP (hr.mono (by omega)) (by rfl) az (@aa _ _ _ _ _ (@aq _ 0 _ _ (by walk_at "v")) (@aa _ _ _ _ _ (@aq _ 1 _ _ (by walk_at "v")) (@aa _ _ _ _ _ (@aq _ 2 _ _ (by walk_at "v")) (@aa _ _ _ _ _ (@aq _ 3 _ _ (by walk_at "v")) (@aa _ _ _ _ _ (@aq _ 6 _ _ (by walk_at "v")) (@ak _) (by rfl)) (by rfl)) (by rfl)) (by rfl)) (by rfl)) (by decide) (by rfl) (by rfl)) (by intro _;rfl))) (@ao _ _ _ (@aE _ _ _ _ (@gQ _ _ _ _ _ _ eU (@aj _ _ _ _)))) (@aF _)) (@ao _ _ _ (@aE _ _ _ _ (@aq _ 6 _ _ (by walk_at "v")))))))))))),?_⟩
  refine aG λ M1 K1 => ?_
  have RI : ∀ (p:Addr) (i:Nat) (b:Bool) (S2:SS) (N:Cells) (H1:Hp),((b=false/\S2=S ∧ ∃ t',S.F.hs[i]? = some (some (t',a)))\/(b=true ∧ ¬ oA S a ∧ ∃ (row:List Int) (r:Addr) (S1:SS),Back S row a/\gG N (gone S a) n i S1/\(r,HO.lst (row.map V.int))∈N/\S2 = { S1 with F:=S1.F.fill i (some (u,a)) (some (r,row)) false }))->(p,HO.tup [.int (i:Nat),.bl b])∈N->i < n->S2.b=S.b->Led H1 (bg cT cF cD cS cI S2 (N++(gH sp mk sf rd so us S ts kv++M)))->M1 [some (.ref S.b),some (.ref sp),some (.ref mk),some (.ref sf),some (.ref rd),some (.ref so),some (.int (S.p:Nat)),some (.ref u),some (.ref p),none,none] H1:=by
   intro p i b S2 N H1 hD zc hin RJ hl1
   have hl2:=St.yM N _ hl1
   have yH:=hl2.get (mA (St.up (mB zc)))
   have dG:=hl2.get mS
   have lH:=hl2.get (mA (St.up (mA IQ)))
   have d1:dZ H1 (.ref u) (PySem.W.kqdP (dY (some a))):=pN lH
   have d2:=lr.s.dat hl2 (λ x hx=>mA (St.up (mA hx)))
   refine K1.use ?_
   clear K1 hL hl1
   refine aG λ M1 K1 => ?_
   walk_at "ge"
   all_goals first | (exfalso;exact absurd rfl (by assumption)) | skip
   refine K1.use ?_
   walk_at "cl"
   clear K1
   refine aG λ M1 K1 => ?_
   have oE:M1 [some (.ref S.b),some (.ref sp),some (.ref mk),some (.ref sf),some (.ref rd),some (.ref so),some (.int (S.p:Nat)),some (.ref u),some (.ref p),some (.bl b),none] H1:=by
    refine K1.use ?_
    clear K1 d1 d2
    refine aG λ M1 K1 => ?_
    walk_at "ge"
    refine K1.use ?_
    walk_at "cl"
    clear K1 dG yH
    refine aG λ M1 K1 => ?_
    have gI : ∀ (Ot:List V) (OQ:Kv) (N2:Cells) (H2:Hp),Lr n q S2 Ot ts (N2++M)->dM S2 OQ ts->OQ.length<=kv.length+1->(p,HO.tup [.int (i:Nat),.bl b])∈N2->(∃ t',S2.F.hs[i]? = some (some (t',a)))->Led H2 (bg cT cF cD cS cI S2 (gH sp mk sf rd so Ot S2 ts OQ++(N2++M)))->M1 [some (.ref S.b),some (.ref sp),some (.ref mk),some (.ref sf),some (.ref rd),some (.ref so),some (.int (S2.p:Nat)),some (.ref u),some (.ref p),some (.bl b),some (.int (i:Nat))] H2:=by
     intro Ot OQ N2 H2 yU so2 kl2 adt hfr hl3
     obtain ⟨t',hi⟩:=hfr
     refine K1.use ?_
     clear K1 hl2 lH
     have dG:=hl3.get (St.up mS)
     have lH:=hl3.get (St.up (mA (mA IQ)))
     have d1:dZ H2 (.ref u) (PySem.W.kqdP (dY (some a))):=pN lH
     have d2:=yU.s.dat hl3 (λ x hx=>St.up (mA hx))
     have o1:=Og.dat
     have o2:=yU.g.KZ
     obtain ⟨j1,j2⟩:=yU.g.first hi
     refine aG λ M1 K1 => ?_
     walk_at "ge"
     refine ⟨zo dG,?_⟩
     walk_at "ge"
     refine Et dG d1 d2 o1 o2 j1 j2 ?_
     walk_at "ge"
     rename_i t2 H4 _ cO _
     have hal:Alike H4 2 (.ref p) (.ref t2) := .inr ⟨p,t2,_,_,rfl,rfl,.inr ⟨cO.get (mC (St.up (mA (mB adt)))),cO.get mS⟩,rfl,by show 2<=100000;decide,λ j x y hx hy=>by
      rw [hx] at hy
      cases hy
      match j,hx with
      | 0,hx=>cases hx;exact .inl (.inr (.inr (.inl ⟨_,rfl,rfl⟩)))
      | 1,hx=>cases hx;exact .inl (.inr (.inl ⟨_,rfl,rfl⟩))
      | j+2,hx=>cases hx⟩
     refine ⟨_,_,rfl,hal,?_⟩
     have fH:=St.push cO
     clear cO hl3 hal dG lH d1 d2
     walk_at "ge"
     refine K1.use ?_
     walk_at "cl"
     clear K1
     obtain ⟨r,row,ero,h4⟩:=yU.g.rr i t' a hi
     obtain ⟨ie,rat,_⟩:=yU.rw e he
     have K3:e.2.2=row:=by
      rw [ea'] at rat
      rcases rat with ⟨j,u2,r2,h1,h2⟩ | ⟨h1,_⟩
      ·have:=yU.g.inj i j t' u2 a hi h1
       subst this
       rw [ero] at h2
       cases h2
       rfl
      ·exact absurd ⟨i,t',hi⟩ h1
     have nM:=yU.g.f.rw r row (List.mem_of_getElem? ero)
     refine aG λ M1 K1 => ?_
     have f1:=fX S2
     have gO:=fH.get St.b
     rw [RJ] at gO
     have hF:=St.toF fH
     have QK:=hF.get mS
     walk_at "ge"
     refine ⟨S2.F,i,r,row,_,rfl,hF,ero,jl (mC (mA nM)),by omega,λ qr H5 jS => ?_⟩
     have ic:Led H5 ((qr,HO.lst (row.map V.int))::bg cT cF cD cS cI S2 ((t2,HO.tup [.int (i:Nat),.bl b])::(gH sp mk sf rd so Ot S2 ts OQ++(N2++M)))):=Led.perm jS (List.Perm.cons _ (aP (pR cF S2.F) (zb cT S2) _))
     have fu:=St.push ic
     clear fH jS ic hF QK gO f1
     obtain ⟨N3,XW⟩ : ∃ N3:Cells,[(qr,HO.lst (row.map V.int)),(t2,HO.tup [.int (i:Nat),.bl b])]++N2=N3:=⟨_,rfl⟩
     have e3:N3++M = [(qr,HO.lst (row.map V.int)),(t2,HO.tup [.int (i:Nat),.bl b])]++(N2++M):=by rw [<-XW,List.append_assoc]
     have dD:Led H5 (bg cT cF cD cS cI S2 (gH sp mk sf rd so Ot S2 ts OQ++(N3++M))):=by
      rw [e3]
      exact St.iR fu (aP [(qr,HO.lst (row.map V.int)),(t2,HO.tup [.int (i:Nat),.bl b])] (gH sp mk sf rd so Ot S2 ts OQ) (N2++M))
     have pT:Lr n q S2 Ot ts (N3++M):=by rw [e3];exact yU.mono λ x hx=>mA hx
     have adu:(qr,HO.lst (row.map V.int))∈N3++M:=by rw [e3];exact mS
     have IK : ∀ x∈N2++M,x∈N3++M:=λ x hx=>by rw [e3];exact mA hx
     clear fu
     have jU:=dD.get (St.up (mC (mC (mC mS))))
     have lH:H5 u=some (.tup ((fJ e.1).map kV)):=by rw [kZ,ea'];exact dD.get (St.up (mA (mA IQ)))
     walk_at "ge"
     refine IL jU lH (DB lr.nd he) ?_
     walk_at "ge"
     rw [K3] at ie
     refine ⟨_,_,rfl,jn (dD.get (St.up (mA adu))) (dD.get (St.up (mA (IK _ ie)))) (by omega),?_⟩
     walk_at "ge"
     refine K1.use ?_
     walk_at "cl"
     clear K1 jU lH
     refine aG λ M1 K1 => ?_
     walk_at "ge"
     refine ⟨S2,n,q,sp,mk,sf,Ot,_,by rw [RJ];rfl,dD,pT.g.mono (λ x hx=>mA hx),mS,mC mS,mC (mC mS),pT.s.mono (λ x hx=>mA hx),λ N4 H6 d8 => ?_⟩
     walk_at "ge"
     refine K1.use ?_
     walk_at "cl"
     clear K1 dD
     walk_at "ge"
     refine k S2 Ot OQ (N4++N3) H6 RJ kl2 so2 (by rw [List.append_assoc];exact pT.mono λ x hx=>mA hx) ?_
     rw [List.append_assoc]
     exact St.iR d8 (aP N4 _ _)
    clear K1
    rcases hD with ⟨rfl,rfl,hfr⟩ | ⟨rfl,hnf,row,r,S1,hb,hH,nM,yT⟩
    ·walk_at "ge"
     exact gI us kv N H1 (lr.mono λ x hx=>mA hx) hso (Nat.le_succ _) zc hfr (St.gW _ hl2)
    ·refine ads rfl ?_
     refine aG λ M2 K2 => ?_
     have g1:=lr.g.gone hb
     have s1:kK (gone S a) us M:=kK.same (S:=S) (by rw [eF]) lr.s
     have rA : ∀ (H2:Hp),Led H2 ([(sp,.lst us),(mk,.lst ((gone S a).bs.map V.bl)),(sf,.lst (gone S a).ps),(rd,.dT (m5 ts)),(so,.dT kv)]++bg cT cF cD cS cI S2 (N++M))->M2 [some (.ref S.b),some (.ref sp),some (.ref mk),some (.ref sf),some (.ref rd),some (.ref so),some (.int (S.p:Nat)),some (.ref u),some (.ref p),some (.bl true),some (.int (i:Nat))] H2:=by
      intro H2 hl3
      refine K2.use ?_
      clear K2 hl2 lH
      refine aG λ M2 K2 => ?_
      walk_at "ge"
      refine ⟨gone S a,S1,n,q,i,sp,mk,sf,us,M,[(rd,HO.dT (m5 ts)),(so,HO.dT kv)]++bg cT cF cD cS cI S2 (N++M),N,by rw [ep];rfl,hl3,λ x hx=>mA (St.up (mA hx)),g1,s1,hH,λ us' N2 H3 s2 cN => ?_⟩
      have cO:Led H3 ([(sp,.lst us'),(mk,.lst (S1.bs.map V.bl)),(sf,.lst S1.ps)]++([(rd,.dT (m5 ts)),(so,.dT kv)]++bg cT cF cD cS cI S2 (N2++(N++M)))):=St.Wu _ N2 _ cN
      clear cN hl3
      have ul2:us'.length=n:=s2.l.trans (g1.had hH).f.h
      walk_at "ge"
      refine K2.use ?_
      walk_at "cl"
      clear K2
      refine aG λ M2 K2 => ?_
      walk_at "ge"
      all_goals first | (exfalso;omega) | skip
      refine K2.use ?_
      walk_at "cl"
      clear K2
      refine aG λ M2 K2 => ?_
      have dG:=cO.get mS
      walk_at "ge"
      refine cg dG (bD (by omega) (by omega)) ?_
      rw [Int.toNat_natCast]
      have fH:Led (upd H3 sp (.lst (us'.set i (.ref u)))) ([(sp,.lst (us'.set i (.ref u))),(mk,.lst (S1.bs.map V.bl)),(sf,.lst S1.ps),(rd,.dT (m5 ts)),(so,.dT kv)]++bg cT cF cD cS cI S2 (N2++(N++M))):=cO.gB 0 rfl rfl rfl
      generalize upd H3 sp (.lst (us'.set i (.ref u)))=H4 at fH ⊢
      clear cO dG
      walk_at "ge"
      refine K2.use ?_
      walk_at "cl"
      clear K2
      refine aG λ M2 K2 => ?_
      have K4:=fH.get (mC (mC (mC (mC mS))))
      have lH:H4 u=some (.tup ((fJ a).map kV)):=by rw [kZ];exact fH.get (mA (St.up (mA (mA IQ))))
      walk_at "ge"
      refine BR K4 lH (by omega) ?_
      have jS:Led (upd H4 so (.dT (putK kv (fJ a) (.bl false)))) ([(sp,.lst (us'.set i (.ref u))),(mk,.lst (S1.bs.map V.bl)),(sf,.lst S1.ps),(rd,.dT (m5 ts)),(so,.dT (putK kv (fJ a) (.bl false)))]++bg cT cF cD cS cI S2 (N2++(N++M))):=fH.gB 4 rfl rfl rfl
      generalize upd H4 so (.dT (putK kv (fJ a) (.bl false)))=H5 at jS ⊢
      clear fH K4 lH
      walk_at "ge"
      refine K2.use ?_
      walk_at "cl"
      clear K2
      obtain ⟨h0,_⟩:=hH.at
      have Wr:=g1.had hH
      have adv : ¬ oA S1 a:=λ z=>hnf (by
       obtain ⟨j,v,hj⟩:=hH.V3 z
       exact ⟨j,v,by rw [<-eF];exact hj⟩)
      have K8:=Lr.DI (FF:=us') (t:=u) (r:=r) (u:=u) lr hnf hb Og hH (mA IQ) (mB nM) (mA IQ) (s2.mono λ x hx=>mA hx)
      have XX:=dM.fill (k:=S1.made) (hs':=S1.hs) (t:=u) (r:=r) (row:=row) (kv':=putK kv (fJ a) (.bl false)) (ts':=ts) ((hso.gone (a:=a)).had g1 hH) Wr h0 adv (by rw [yQ,if_pos rfl];rfl) (λ b hb=>by rw [yQ,if_neg hb]) (λ b v hb=>by
       rw [yQ] at hb
       by_cases e9:b=a
       ·rw [e9];exact hkey
       ·rw [if_neg e9] at hb
        exact hso.ky b v hb)
      have ef2:S2.F.hs[i]? = some (some (u,a)):=by
       rw [yT]
       show (S1.F.hs.set i _)[i]? = _
       rw [List.getElem?_set,if_pos rfl,if_pos (List.getElem?_eq_some_iff.mp h0).1]
      have es2:S2.F.bs[i]? = some false:=by
       rw [yT]
       show (S1.F.bs.set i false)[i]? = _
       rw [List.getElem?_set,if_pos rfl,if_pos (by rw [Wr.f.s];exact hin)]
      have T9:S2.bs=S1.bs:=by rw [yT]
      have Ua:S2.ps=S1.ps:=by rw [yT]
      have QL:S2.p=S1.p:=by rw [yT]
      rw [<-yT] at K8
      have so5:dM S2 (putK kv (fJ a) (.bl false)) ts:=by rw [yT];exact XX
      rw [<-T9,<-Ua] at jS
      have ic:Led H5 (bg cT cF cD cS cI S2 (gH sp mk sf rd so (us'.set i (.ref u)) S2 ts (putK kv (fJ a) (.bl false))++(N2++(N++M)))):=St.gW (gH sp mk sf rd so (us'.set i (.ref u)) S2 ts (putK kv (fJ a) (.bl false))) jS
      clear jS
      have f1:=fX S2
      have gO:=ic.get St.b
      rw [RJ] at gO
      have hF:=St.toF ic
      have QK:=hF.get mS
      walk_at "ge"
      refine ⟨S2.F,i,false,_,rfl,hF,es2,?_⟩
      walk_at "ge"
      refine ⟨_,_,rfl,.inl (.inr (.inl ⟨_,rfl,rfl⟩)),?_⟩
      walk_at "ge"
      rw [<-QL]
      refine gI (us'.set i (.ref u)) (putK kv (fJ a) (.bl false)) (N2++N) H5 (by rw [List.append_assoc];exact K8.mono λ x hx=>mA hx) so5 (gz ..) (mA zc) ⟨u,ef2⟩ ?_
      rw [List.append_assoc]
      exact ic
     clear K2
     have jr:=hl2.get (mC (mC mS))
     cases a with
     | own m =>
       have tM:H1 u=some (.tup [.str (Str.ofString "own"),.int m]):=lH
       clear lH
       have Oi:=lr.g.XH hb.key
       have hlt:idx S.ps (.int m) < S.ps.length:=(List.getElem?_eq_some_iff.mp (lr.g.int_at Oi)).1
       have hne:Str.ofString "own" = Str.ofString "own" := rfl
       walk_at "ge"
       all_goals first | exact absurd hne (by assumption) | skip
       refine ⟨zo jr,?_⟩
       walk_at "ge"
       refine Nl jr rfl lr.g.flat Oi ?_
       walk_at "ge"
       refine cg jr (bD (by omega) (by omega)) ?_
       rw [Int.toNat_natCast]
       have cO:=hl2.gB (o' := .lst (S.ps.set (idx S.ps (.int m)) .aM)) 2 rfl rfl rfl
       walk_at "ge"
       exact rA _ cO
     | file z pg =>
       have tM:H1 u=some (.tup [.str (Str.ofString "file"),.str z,.int pg]):=lH
       clear lH
       have hne : ¬ Str.ofString "file" = Str.ofString "own" := by decide +kernel
       walk_at "ge"
       ·exact absurd (by assumption) hne
       exact rA H1 hl2
   clear K1
   rcases hD with ⟨rfl,rfl,t',hi⟩ | ⟨rfl,hnf,_⟩
   ·walk_at "ge"
    refine wC (neg:=true) (b:=true) dG d1 d2 Og.dat lr.g.KZ (iff_of_true rfl (oA.dat.mp ⟨i,t',hi⟩)) ?_
    walk_at "ge"
    exact oE
   ·walk_at "ge"
    refine wC (neg:=true) (b:=false) dG d1 d2 Og.dat lr.g.KZ (iff_of_false Bool.false_ne_true λ z=>hnf (oA.dat.mpr z)) ?_
    walk_at "ge"
    exact oE
  clear K1
  walk_at "ge"
  refine ⟨S,n,q,u,a,_,rfl,hL,lr.g.mono (λ x hx=>mA hx),mA IQ,Og,λ hno=>⟨e.2.2,?_⟩,λ hall hno=>lr.gh.BO lr.g hall λ ht=>hno (Ou lr.g ht),λ j v p N H1 hj zc hl1 => ?_,λ hno row i S1 r p N H1 hb hH nM zc hl1 => ?_⟩
  ·have rat:=(lr.rw e he).2.1
   rw [ea'] at rat
   rcases rat with ⟨j,v,r,h5,_⟩ | ⟨_,h5⟩
   ·exact absurd h5 (hno j v)
   ·exact h5
  ·have hin:j < n:=by rw [<-lr.g.f.h];exact (List.getElem?_eq_some_iff.mp hj).1
   walk_at "ge"
   exact RI p j false S N H1 (.inl ⟨rfl,rfl,v,hj⟩) zc hin rfl hl1
  ·have hin:=hH.lt (lr.g.gone hb)
   walk_at "ge"
   exact RI p i true _ N H1 (.inr ⟨rfl,λ ⟨j,v,hj⟩=>hno j v hj,row,r,S1,hb,hH,nM,rfl⟩) zc hin (hH.at.2.2.2.1.trans eb) hl1
end
section
variable {P:Program} {w:World} {K:PySem.W.Frag} {mg:Str->Option Value} {base:Heap} {cU cA cB cC cT cF cD cS cI:Addr}
theorem Lr.Fo {n q:Nat} {S:SS} {us:List V} {ts:Ts} {M:Cells} {ys:List (Addr×Th)} (h:Lr n q S us ts M) (ey:ys.map (·.2)=ts.map (·.1)):(((ys.filter λ y => !aW y.2).map λ y=>V.ref y.1).length:Int)=S.made:=by
 rw [List.length_map,<-h.cnt]
 have h7 : ∀ l:List (Addr×Th),(l.filter λ y => !aW y.2).length=((l.map (·.2)).filter λ b => !aW b).length:=λ l=>by
  rw [List.filter_map,List.length_map]
  rfl
 have h8 : ∀ l:Ts,(l.filter λ e => !aW e.1).length=((l.map (·.1)).filter λ b => !aW b).length:=λ l=>by
  rw [List.filter_map,List.length_map]
  rfl
 rw [h7,h8,ey]
def IS (cT cF cD cS cI:Addr):Sp:=λ vs H Q _ => ∃ (S:SS) (n q:Nat) (c:Int) (sp mk sf rd so:Addr) (us:List V) (ts:Ts) (kv:Kv) (M:Cells),vs = [.ref S.b,.ref sp,.ref mk,.ref sf,.ref rd,.int (S.p:Nat),.int c]/\Led H (bg cT cF cD cS cI S (gH sp mk sf rd so us S ts kv++M))/\Lr n q S us ts M/\dM S kv ts/\q<=128/\ts.length<=1000/\0<=c/\c<=1000000/\(n:Int) - 1+(q:Int) - S.made > 0 ∧
 ∀ (S':SS) (us':List V) (ts':Ts) (N:Cells) (H':Hp),S'.b=S.b->ts'.length=ts.length+1->dM S' kv ts'->Lr n q S' us' ts' (N++M)->Led H' (bg cT cF cD cS cI S' (gH sp mk sf rd so us' S' ts' kv++(N++M)))->Q (.int (S'.p:Nat)) H'
theorem Ov (D:Def K mg "_law_made" jK) (B:iV mg) (T:Txt K mg cU cA cB cC cT cF cD cS cI) (bS:aR P w K mg base 1 cF "row_in" ["self","frame"] (qW cF)) (nc:cQ P w K mg base 7 "new_sheet" ["store","row"] (NJ cT cF cD cS cI cU)) (ng:cQ P w K mg base 2 "_law_goes" ["_law_spots","_law_marks","_law_shelf","_law_pointer","_law_found"] HH) (iS:cQ P w K mg base 2 "_law_row" ["_law_cell"] IC) (gP:cQ P w K mg base 5 "_law_is_store" ["_law_store","_law_spots","_law_marks","_law_shelf","_law_pointer"] (tL cT cF cD cS cI)) (aN:cQ P w K mg base 4 "_law_alike" ["_law_found","_law_due"] (jk 2)):cQ P w K mg base 8 "_law_made" ["_law_store","_law_spots","_law_marks","_law_shelf","_law_rows","_law_pointer","_law_cell"] (IS cT cF cD cS cI):=by
 have sc:=BE
 refine D.ok BE (λ vs H Q E h => ?_) (λ _ _ _ _ _ _ us hl=>match us,hl with | [_,_,_,_,_,_,_],_=>rfl) (λ f cdv A outer s H vs Q E hr h => ?_)
 ·obtain ⟨_,_,_,_,_,_,_,_,_,_,_,_,_,rfl,_⟩:=h;rfl
 ·obtain ⟨S,n,q,c,sp,mk,sf,rd,so,us,ts,kv,M,rfl,hL,lr,hso,Oe,hts,c0,c9,hrm,k⟩:=h
  have hu:=gF hr
  have hsz:=sizeLine_eq
  have n64:=lr.g.n64
  have hhm:=lr.hm
  have hroom:(n:Int) - 1+(q:Int) - (S.hs.length:Int)≠0:=by omega
  have most:=lr.gh.most
  have Ky:S.hs.length<=600:=by omega
  have jU:=hL.get (St.up (mC (mC (mC mS))))
  refine ⟨_,(@af _ _ _ _ _ (@aI _ _ 7 _ _ _ _ sc.nd rfl (by walk_at "o2") (@aH _ _ _ _ _ _ _ _ _ aL (by rfl) B.len bw (@aa _ _ _ _ _ (@kh _ _ "_law_thing" _ _ _ _ _ _ _ _ _ rfl rfl rfl rfl OM (cz (by kernel_rfl)) (@fK _ _ _ _ (@bh _ _ _ _ _ _ _ _ _ (gC rfl) (by rfl) B.list bO (@aa _ _ _ _ _ (@aq _ 4 _ _ (by walk_at "v")) (@ak _) (by rfl)) (by decide) (by decide) (by rfl) (by rfl))) (λ _ _ _ _=>(@p8 _ _ _ (@aK _ _ _ _ _ _ _ _ b9 (@aX _ _ _ _ _ _ _ aO (@pk _ 0 _ _ (by kernel_rfl) (by kernel_rfl) (by decide) (by decide)) (@aj _ _ _ _) (λ _ _=>rfl)) (@bV _ _ _ _) (aQ _)))) (λ _ _ _ _=>(@pk _ 0 _ _ (by kernel_rfl) (by kernel_rfl) (by decide) (by decide))) (by intro _;rfl)) (@ak _) (by rfl)) (by decide) (by decide) (by rfl) (by rfl)) (by rfl) (by walk_at "o4")) (@af _ _ _ _ _ (@aI _ _ 8 _ _ _ _ sc.nd rfl (by walk_at "o2") (@aA _ _ _ _ _ _ _ _ _ _ _ iS (hr.mono (by omega)) (by rfl) az (@aa _ _ _ _ _ (@aq _ 6 _ _ (by walk_at "v")) (@ak _) (by rfl)) (by decide) (by rfl) (by rfl)) (by rfl) (by walk_at "o4")) (@af _ _ _ _ _ (@aI _ _ 9 _ _ _ _ sc.nd rfl (by walk_at "o2") (@bh _ _ _ _ _ _ _ _ _ (aY (K:=K) rfl) (by rfl) B.list bO (@aa _ _ _ _ _ (@aq _ 8 _ _ (by walk_at "v")) (@ak _) (by rfl)) (by decide) (by decide) (by rfl) (by rfl)) (by rfl) (by walk_at "o4")) (@af _ _ _ _ _ (@aI _ _ 10 _ _ _ _ sc.nd rfl (by walk_at "o2") (@aA _ _ _ _ _ _ _ _ _ _ _ nc (hr.mono (by omega)) (by rfl) az (@aa _ _ _ _ _ (@aq _ 0 _ _ (by walk_at "v")) (@aa _ _ _ _ _ (@aq _ 9 _ _ (by walk_at "v")) (@ak _) (by rfl)) (by rfl)) (by decide) (by rfl) (by rfl)) (by rfl) (by walk_at "o4")) (@af _ _ _ _ _ (@aS _ _ _ _ _ _ _ _ (@PW.pt _ _ _ (@pw_or _ _ _ _ _ _ _ (@bW _ _ _ _ (@aZ _ _ _ (@aH _ _ _ _ _ _ _ _ _ cy (by rfl) B.isinstance bu (@aa _ _ _ _ _ (@aq _ 10 _ _ (by walk_at "v")) (@aa _ _ _ _ _ (@fc _ _ (.ty "tuple") _ _ (by rfl) B.tuple p7 rfl (by decide) (by decide)) (@ak _) (by rfl)) (by rfl)) (by decide) (by decide) (by rfl) (by rfl)) (by intro _;rfl))) (@pw_or _ _ _ _ _ _ _ (@aK _ _ _ _ _ _ _ _ HW (@aH _ _ _ _ _ _ _ _ _ aL (by rfl) B.len bw (@aa _ _ _ _ _ (@aq _ 10 _ _ (by walk_at "v")) (@ak _) (by rfl)) (by decide) (by decide) (by rfl) (by rfl)) (@aj _ _ _ _) (aQ _)) (@pw_or1 _ _ _ _ (@bW _ _ _ _ (@aZ _ _ _ (@aA _ _ _ _ _ _ _ _ _ _ _ aN (hr.mono (by omega)) (by rfl) az (@aa _ _ _ _ _ (@aq _ 9 _ _ (by walk_at "v")) (@aa _ _ _ _ _ (@aq _ 8 _ _ (by walk_at "v")) (@ak _) (by rfl)) (by rfl)) (by decide) (by rfl) (by rfl)) (by intro _;rfl))))))) (@ao _ _ _ (@aE _ _ _ _ (@gQ _ _ _ _ _ _ eU (@aj _ _ _ _)))) (@aF _)) (@af _ _ _ _ _ (@bF _ _ _ _ _ _ (@av _ _ _ _ _ _ _ _ fL (@av _ _ _ _ _ _ _ _ vS (@aj _ _ _ _) (@aj _ _ _ _)) (@aj _ _ _ _)) (@bG _ _ _ _ _ _ _ (@aq _ 9 _ _ (by walk_at "v")) (@av _ _ _ _ _ _ _ _ aJ (@aq _ 6 _ _ (by walk_at "v")) (@aj _ _ _ _)) set_list (by intro _;rfl)) (by rfl) (by rfl) (by rfl)) (@af _ _ _ _ _ (@aI _ _ 5 _ _ _ _ sc.nd rfl (by walk_at "o2") (@aA _ _ _ _ _ _ _ _ _ _ _ ng (hr.mono (by omega)) (by rfl) az (@aa _ _ _ _ _ (@aq _ 1 _ _ (by walk_at "v")) (@aa _ _ _ _ _ (@aq _ 2 _ _ (by walk_at "v")) (@aa _ _ _ _ _ (@aq _ 3 _ _ (by walk_at "v")) (@aa _ _ _ _ _ (@aq _ 5 _ _ (by walk_at "v")) (@aa _ _ _ _ _ (@aX _ _ _ _ _ _ _ aO (@aq _ 10 _ _ (by walk_at "v")) (@aj _ _ _ _) (λ _ _=>rfl)) (@ak _) (by rfl)) (by rfl)) (by rfl)) (by rfl)) (by rfl)) (by decide) (by rfl) (by rfl)) (by rfl) (by walk_at "o4")) (@af _ _ _ _ _ (@aS _ _ _ _ _ _ _ _ (@PW.pt _ _ _ (@pw_or _ _ _ _ _ _ _ (@aK _ _ _ _ _ _ _ _ vU (@aq _ 5 _ _ (by walk_at "v")) (@aj _ _ _ _) (aQ _)) (@pw_or1 _ _ _ _ (@bW _ _ _ _ (@aZ _ _ _ (@aA _ _ _ _ _ _ _ _ _ _ _ aN (hr.mono (by omega)) (by rfl) az (@aa _ _ _ _ _ (@aX _ _ _ _ _ _ _ aO (@aq _ 10 _ _ (by walk_at "v")) (@aj _ _ _ _) (λ _ _=>rfl)) (@aa _ _ _ _ _ (@av _ _ _ _ _ _ _ _ aT (@aj _ _ _ _) (@aq _ 7 _ _ (by walk_at "v"))) (@ak _) (by rfl)) (by rfl)) (by decide) (by rfl) (by rfl)) (by intro _;rfl)))))) (@ao _ _ _ (@aE _ _ _ _ (@gQ _ _ _ _ _ _ eU (@aj _ _ _ _)))) (@aF _)) (@af _ _ _ _ _ (@bF _ _ _ _ _ _ (@dS _ _ _ _ _ (@aa _ _ _ _ _ (@bV _ _ _ _) (@aa _ _ _ _ _ (@av _ _ _ _ _ _ _ _ aT (@aj _ _ _ _) (@aq _ 7 _ _ (by walk_at "v"))) (@ak _) (by rfl)) (by rfl))) (@bG _ _ _ _ _ _ _ (@aq _ 1 _ _ (by walk_at "v")) (@aX _ _ _ _ _ _ _ aO (@aq _ 10 _ _ (by walk_at "v")) (@aj _ _ _ _) (λ _ _=>rfl)) set_list (by intro _;rfl)) (by rfl) (by rfl) (by rfl)) (@af _ _ _ _ _ (@gX _ _ _ _ _ _ _ _ _ hu (@aq _ 4 _ _ (by walk_at "v")) (@dS _ _ _ _ _ (@aa _ _ _ _ _ (@bV _ _ _ _) (@aa _ _ _ _ _ (@av _ _ _ _ _ _ _ _ aT (@aj _ _ _ _) (@aq _ 7 _ _ (by walk_at "v"))) (@ak _) (by rfl)) (by rfl))) (@aq _ 8 _ _ (by walk_at "v")) rfl) (@af _ _ _ _ _ (@aS _ _ _ _ _ _ _ _ (@PW.pt _ _ _ (@pw_or _ _ _ _ _ _ _ (@bW _ _ _ _ (@aZ _ _ _ (@aA _ _ _ _ _ _ _ _ _ _ _ aN (hr.mono (by omega)) (by rfl) az (@aa _ _ _ _ _ (@aV _ _ _ _ _ _ _ _ _ _ _ _ _ _ _ _ T.Frames bS (hr.mono (by omega)) az (@aB _ _ _ _ _ _ _ T.bz T.bL (@aq _ 0 _ _ (by walk_at "v")) (by rfl)) (@aa _ _ _ _ _ (@aX _ _ _ _ _ _ _ aO (@aq _ 10 _ _ (by walk_at "v")) (@aj _ _ _ _) (λ _ _=>rfl)) (@ak _) (by rfl)) (by rfl) (by rfl) (by rfl)) (@aa _ _ _ _ _ (@aq _ 8 _ _ (by walk_at "v")) (@ak _) (by rfl)) (by rfl)) (by decide) (by rfl) (by rfl)) (by intro _;rfl))) (@pw_or1 _ _ _ _ (@bW _ _ _ _ (@aZ _ _ _ (@aA _ _ _ _ _ _ _ _ _ _ _ gP (hr.mono (by omega)) (by rfl) az (@aa _ _ _ _ _ (@aq _ 0 _ _ (by walk_at "v")) (@aa _ _ _ _ _ (@aq _ 1 _ _ (by walk_at "v")) (@aa _ _ _ _ _ (@aq _ 2 _ _ (by walk_at "v")) (@aa _ _ _ _ _ (@aq _ 3 _ _ (by walk_at "v")) (@aa _ _ _ _ _ (@aq _ 5 _ _ (by walk_at "v")) (@ak _) (by rfl)) (by rfl)) (by rfl)) (by rfl)) (by rfl)) (by decide) (by rfl) (by rfl)) (by intro _;rfl)))))) (@ao _ _ _ (@aE _ _ _ _ (@gQ _ _ _ _ _ _ eU (@aj _ _ _ _)))) (@aF _)) (@ao _ _ _ (@aE _ _ _ _ (@aq _ 5 _ _ (by walk_at "v"))))))))))))))),?_⟩
  refine aG λ M1 K1 => ?_
  walk_at "ge"
  refine qb λ Lc kG => ?_
  walk_at "ge"
  refine j3 jU hL λ l2 Ll H5 TX cN => ?_
  refine ⟨l2,rfl,⟨_,fj.of (cN.get mS)⟩,kG.use ?_⟩
  clear kG jU hL
  have TY:Ll.length=ts.length:=by have:=congrArg List.length TX;simpa using this
  refine jy Ll (λ y=>V.ref y.1) (λ y => !aW y.2) cN List.mem_cons_self (by omega) (λ y H6 R x hy cO hR => ?_) (λ y H6 R x hy cO hR => ?_) (λ om H6 cO => ?_)
  ·have BS:=cO.get (mC (mC (mB (List.mem_map.mpr ⟨y,hy,rfl⟩))))
   obtain ⟨ya,yt⟩:=y
   cases yt with
   | own m =>
     have HM:H6 ya=some (.tup [.str (Str.ofString "own"),.int m]):=BS
     clear BS
     dsimp only
     walk_at "ge"
     exact hR _ cO
   | file z p =>
     have HM:H6 ya=some (.tup [.str (Str.ofString "file"),.str z,.int p]):=BS
     clear BS
     have hne : ¬ Str.ofString "file" = Str.ofString "own" := by decide +kernel
     dsimp only
     walk_at "ge"
     rw [decide_eq_false hne]
     exact hR _ cO
  ·walk_at "ge"
   exact hR _ cO
  ·have hmade:=lr.Fo TX
   have K4:=cO.get mS
   walk_at "ge"
   rw [hmade]
   refine K1.use ?_
   walk_at "cl"
   clear K1 K4 cN hmade
   obtain ⟨A,eA⟩ : ∃ A:Cells,(om,HO.lst ((Ll.filter λ y => !aW y.2).map λ y=>V.ref y.1))::(l2,HO.lst (Ll.map λ y=>V.ref y.1))::Oa Ll=A:=⟨_,rfl⟩
   have fH:Led H6 (A++bg cT cF cD cS cI S (gH sp mk sf rd so us S ts kv++M)):=by rw [<-eA];exact cO
   clear cO eA TY TX
   refine aG λ M1 K1 => ?_
   walk_at "ge"
   refine ⟨c,_,rfl,Nat.le_trans (oQ c0 (by omega)) (by decide),fH,λ r0 H1 hl1 => ?_⟩
   walk_at "ge"
   refine K1.use ?_
   walk_at "cl"
   clear K1 fH
   have h4:(rowOf c).length=4:=jV c
   obtain ⟨row,K3⟩ : ∃ row,rowOf c=row:=⟨_,rfl⟩
   rw [K3] at hl1 h4
   clear K3
   have c_0:=hl1.get mS
   refine aG λ M1 K1 => ?_
   walk_at "ge"
   rename_i hd H2 _ hl2 _
   refine K1.use ?_
   walk_at "cl"
   clear K1 c_0 hl1
   obtain ⟨M0,Ub⟩ : ∃ M0:Cells,(r0,HO.lst (row.map V.int))::(A++M)=M0:=⟨_,rfl⟩
   have UM:Lr n q S us ts M0:=lr.mono λ x hx=>by rw [<-Ub];exact mC (mA hx)
   have WB:(r0,HO.lst (row.map V.int))∈M0:=by rw [<-Ub];exact mS
   have hl3:Led H2 (bg cT cF cD cS cI S (((hd,HO.lst (row.map V.int))::gH sp mk sf rd so us S ts kv)++M0)):=by
    have h5:=St.gW ((hd,HO.lst (row.map V.int))::(r0,HO.lst (row.map V.int))::A) hl2
    refine St.iR h5 ?_
    rw [<-Ub]
    exact List.Perm.cons _ (aP ((r0,HO.lst (row.map V.int))::A) (gH sp mk sf rd so us S ts kv) M)
   clear hl2
   refine aG λ M1 K1 => ?_
   walk_at "ge"
   refine ⟨S,n,q,hd,row,_,rfl,hl3,UM.g.mono (λ x hx=>mA hx),mS,h4,Ky,lr.gh.fresh,lr.gh.key,λ h=>absurd h hroom,λ _ hall hno=>lr.gh.BO lr.g hall hno,λ _ i S1 t r p N H3 hH BL nM g2 zc bZ => ?_⟩
   clear g2 hl3
   have hin:=hH.lt lr.g
   obtain ⟨h0,Ry,UI,eb,eho⟩:=hH.at
   obtain ⟨S2,yT⟩ : ∃ S2:SS,S2 = { S1 with made:=S.made+1,hs:=S.hs++[(S.made+1,1)],F:=S1.F.fill i (some (t,.own (S.made+1))) (some (r,row)) false } := ⟨_,rfl⟩
   rw [<-yT] at bZ
   have RJ:S2.b=S.b:=by rw [yT];exact eb
   have QL:S2.p=S1.p:=by rw [yT]
   have T9:S2.bs=S1.bs:=by rw [yT]
   have Ua:S2.ps=S1.ps:=by rw [yT]
   have er2:S2.F.rs[i]? = some (some (r,row)):=by
    rw [yT]
    show (S1.F.rs.set i _)[i]? = _
    rw [List.getElem?_set,if_pos rfl,if_pos (by rw [(lr.g.had hH).f.r];exact hin)]
   have cN:=St.yM N _ bZ
   have yH:=cN.get (mA (St.up (mB zc)))
   clear bZ
   walk_at "ge"
   refine K1.use ?_
   walk_at "cl"
   clear K1
   refine aG λ M1 K1 => ?_
   walk_at "ge"
   all_goals first | (exfalso;exact absurd rfl (by assumption)) | skip
   have up0 : ∀ x∈M0,x∈((hd,HO.lst (row.map V.int))::gH sp mk sf rd so us S ts kv)++bg cT cF cD cS cI S2 (N++M0):=λ x hx=>mA (St.up (mA hx))
   refine ⟨_,_,rfl,jn (cN.get mS) (cN.get (up0 _ WB)) (by omega),?_⟩
   walk_at "ge"
   refine K1.use ?_
   walk_at "cl"
   clear K1
   have Ir:=cN.get mS
   refine aG λ M1 K1 => ?_
   walk_at "ge"
   have k0:=Int.emod_nonneg c (show (4:Int)≠0 by decide)
   have k1:=Int.emod_lt_of_pos c (show (0:Int) < 4 by decide)
   refine cg Ir (bD (by omega) (by rw [List.length_map];omega)) ?_
   generalize (row.map V.int).set (c % 4).toNat (V.int (1000000000000000000000000000000000000000000000000000000000000 - 4))=Ow
   have cO:=(cN.gB (o' := .lst Ow) 0 rfl rfl rfl).tail
   clear Ir yH up0 cN k0 k1
   generalize upd H3 hd (.lst Ow)=H4 at cO ⊢
   have fH:Led H4 (gH sp mk sf rd so us S ts kv++bg cT cF cD cS cI S2 (N++M0)):=cO
   clear cO
   have yH:=fH.get (mA (St.up (mB zc)))
   walk_at "ge"
   refine K1.use ?_
   walk_at "cl"
   clear K1
   refine aG λ M1 K1 => ?_
   walk_at "ge"
   refine ⟨S,S1,n,q,i,sp,mk,sf,us,M0,[(rd,HO.dT (m5 ts)),(so,HO.dT kv)]++bg cT cF cD cS cI S2 (N++M0),N,rfl,fH,λ x hx=>mA (St.up (mA hx)),UM.g,UM.s,hH,λ us' N2 H5 s2 jS => ?_⟩
   have ic:Led H5 ([(sp,.lst us'),(mk,.lst (S1.bs.map V.bl)),(sf,.lst S1.ps)]++([(rd,.dT (m5 ts)),(so,.dT kv)]++bg cT cF cD cS cI S2 (N2++(N++M0)))):=St.Wu _ N2 _ jS
   clear jS fH yH
   have ul2:us'.length=n:=s2.l.trans (lr.g.had hH).f.h
   have yH:=ic.get (mA (mA (St.up (mA (mB zc)))))
   walk_at "ge"
   refine K1.use ?_
   walk_at "cl"
   clear K1
   have UJ:1+S.made=S.made+1:=Int.add_comm ..
   refine aG λ M1 K1 => ?_
   walk_at "ge"
   all_goals first | (exfalso;omega) | skip
   rw [UJ]
   refine ⟨_,_,rfl,.inl (.inr (.inr (.inl ⟨_,rfl,rfl⟩))),?_⟩
   walk_at "ge"
   refine K1.use ?_
   walk_at "cl"
   clear K1 yH
   refine aG λ M1 K1 => ?_
   walk_at "ge"
   rename_i u H6 _ fu _ _ _ _ _ _ _ _ _
   rw [UJ] at fu
   have yH:=fu.get (mC (mA (mA (St.up (mA (mB zc))))))
   walk_at "ge"
   refine cg (fu.get (mC mS)) (bD (by omega) (by omega)) ?_
   rw [Int.toNat_natCast]
   have dD:Led (upd H6 sp (.lst (us'.set i (.ref u)))) ([(u,.tup (eV (.own (S.made+1)))),(sp,.lst (us'.set i (.ref u))),(mk,.lst (S1.bs.map V.bl)),(sf,.lst S1.ps),(rd,.dT (m5 ts)),(so,.dT kv)]++bg cT cF cD cS cI S2 (N2++(N++M0))):=fu.gB 1 rfl rfl rfl
   generalize upd H6 sp (.lst (us'.set i (.ref u)))=H7 at dD ⊢
   clear yH fu ic
   walk_at "ge"
   refine K1.use ?_
   walk_at "cl"
   clear K1
   refine aG λ M1 K1 => ?_
   walk_at "ge"
   rename_i t3 H8 _ d8 _
   rw [UJ] at d8
   have jU:=d8.get (mC (mC (mC (mC (mC mS)))))
   have yG:H8 t3=some (.tup ((fJ (.own (S.made+1))).map kV)):=by rw [kZ];exact d8.get mS
   refine BR jU yG (by rw [rj];omega) ?_
   rw [DC r0 row lr.fresh]
   obtain ⟨pS,K6⟩ : ∃ pS,ts++[(Th.own (S.made+1),r0,row)]=pS:=⟨_,rfl⟩
   rw [K6]
   have gp:Led (upd H8 rd (.dT (m5 pS))) ([(t3,.tup (eV (.own (S.made+1)))),(u,.tup (eV (.own (S.made+1)))),(sp,.lst (us'.set i (.ref u))),(mk,.lst (S1.bs.map V.bl)),(sf,.lst S1.ps),(rd,.dT (m5 pS)),(so,.dT kv)]++bg cT cF cD cS cI S2 (N2++(N++M0))):=d8.gB 5 rfl rfl rfl
   generalize upd H8 rd (.dT (m5 pS))=H9 at gp ⊢
   clear jU yG d8 dD
   walk_at "ge"
   refine K1.use ?_
   walk_at "cl"
   clear K1
   rw [<-T9,<-Ua] at gp
   obtain ⟨M3,Lm⟩ : ∃ M3:Cells,[(t3,HO.tup (eV (.own (S.made+1)))),(u,HO.tup (eV (.own (S.made+1))))]++(N2++M0)=M3:=⟨_,rfl⟩
   have IK : ∀ x∈M0,x∈M3:=λ x hx=>by rw [<-Lm];exact mA (mA hx)
   have lF:Led H9 (bg cT cF cD cS cI S2 (gH sp mk sf rd so (us'.set i (.ref u)) S2 pS kv++(N++M3))):=by
    have h5:=St.gW ([(t3,HO.tup (eV (.own (S.made+1)))),(u,HO.tup (eV (.own (S.made+1))))]++gH sp mk sf rd so (us'.set i (.ref u)) S2 pS kv) gp
    refine St.iR h5 ?_
    rw [<-Lm,List.append_assoc]
    exact (aP [(t3,HO.tup (eV (.own (S.made+1)))),(u,HO.tup (eV (.own (S.made+1))))] (gH sp mk sf rd so (us'.set i (.ref u)) S2 pS kv) _).trans (List.Perm.append_left _ ((List.Perm.append_left _ (aP N2 N M0)).trans (aP _ N _)))
   have IQ:(u,HO.tup (eV (.own (S.made+1))))∈M3:=by rw [<-Lm];exact mC mS
   have pT:=Lr.IF (FF:=us') (t:=t) (r:=r) (u:=u) (d:=r0) (UM.mono IK) hroom h4 hH (mB BL) (mB nM) (mA IQ) (mA (IK _ WB)) (s2.mono λ x hx=>mA (IK x hx))
   rw [<-yT,K6] at pT
   have so3:dM S2 kv pS:=by
    have:=dM.fill (k:=S.made+1) (hs':=S.hs++[(S.made+1,1)]) (a := .own (S.made+1)) (t:=t) (r:=r) (row:=row) (kv':=kv) (ts':=pS) (hso.had lr.g hH) (lr.g.had hH) h0 (λ ⟨j,v,hj⟩=>lr.gh.fresh ((hH.lies _).mp (.inl ⟨j,v,hj⟩))) (by
     cases hv:bx kv (fJ (.own (S.made+1))) with
     | none=>rfl
     | some v=>exact absurd (hso.ky _ v hv) lr.fresh) (λ b _=>rfl) (λ b v hb=>by rw [<-K6,List.map_append];exact mB (hso.ky b v hb))
    rw [yT]
    exact this
   clear gp
   refine aG λ M1 K1 => ?_
   have f1:=fX S2
   have gO:=lF.get St.b
   rw [RJ] at gO
   have yH:=lF.get (St.up (mA (mB zc)))
   have hF:=St.toF lF
   have QK:=hF.get mS
   walk_at "ge"
   refine ⟨S2.F,i,r,row,_,rfl,hF,er2,jl (mA (mB nM)),by omega,λ qr Mf yI => ?_⟩
   have DJ:Led Mf ((qr,HO.lst (row.map V.int))::bg cT cF cD cS cI S2 (gH sp mk sf rd so (us'.set i (.ref u)) S2 pS kv++(N++M3))):=Led.perm yI (List.Perm.cons _ (aP (pR cF S2.F) (zb cT S2) _))
   have K7:=St.push DJ
   clear lF yI DJ hF QK gO f1 yH
   walk_at "ge"
   refine ⟨_,_,rfl,jn (K7.get (St.up mS)) (K7.get (St.up (mC (mA (mA (IK _ WB)))))) (by omega),?_⟩
   walk_at "ge"
   refine ⟨S2,n,q,sp,mk,sf,us'.set i (.ref u),_,by rw [RJ,QL];rfl,K7,pT.g.mono (λ x hx=>mC (mA hx)),mC mS,mC (mC mS),mC (mC (mC mS)),pT.s.mono (λ x hx=>mC (mA hx)),λ N4 OL K9 => ?_⟩
   walk_at "ge"
   refine K1.use ?_
   walk_at "cl"
   clear K1 K7
   walk_at "ge"
   rw [<-QL]
   obtain ⟨N9,eN9⟩ : ∃ N9:Cells,N4++((qr,HO.lst (row.map V.int))::(N++([(t3,HO.tup (eV (.own (S.made+1)))),(u,HO.tup (eV (.own (S.made+1))))]++(N2++((r0,HO.lst (row.map V.int))::A)))))=N9:=⟨_,rfl⟩
   have e9:N9++M=(N4++[(qr,HO.lst (row.map V.int))])++(N++M3):=by rw [<-eN9,<-Lm,<-Ub];simp
   refine k S2 (us'.set i (.ref u)) pS N9 OL RJ (by rw [<-K6,List.length_append];rfl) so3 (by rw [e9];exact pT.mono λ x hx=>mA hx) ?_
   rw [e9]
   refine St.iR K9 ?_
   have e10 : ∀ X:Cells,N4++((qr,HO.lst (row.map V.int))::X)=(N4++[(qr,HO.lst (row.map V.int))])++X:=λ X=>by simp
   rw [e10]
   exact aP _ _ _
end
section
variable {P:Program} {w:World} {K:PySem.W.Frag} {mg:Str->Option Value} {base:Heap} {cU cA cB cC cT cF cD cS cI:Addr}
theorem WM {ys:List (Addr×Th)} (z:Int) (h:0 < ys.length) : ∃ y∈ys,iT (ys.map λ y=>V.ref y.1) (z % ((ys.map λ y=>V.ref y.1).length:Int))=some (.ref y.1):=by
 rw [List.length_map]
 have e0:=Int.emod_nonneg z (show (ys.length:Int)≠0 by omega)
 have e1:=Int.emod_lt_of_pos z (show (0:Int) < ys.length by omega)
 have hj:(z % (ys.length:Int)).toNat < ys.length:=by omega
 exact ⟨_,List.getElem_mem hj,dz e0 (by rw [List.getElem?_map,List.getElem?_eq_getElem hj];rfl)⟩
def IT (cT cF cD cS cI:Addr):Sp:=λ vs H Q _ => ∃ (S:SS) (n q:Nat) (c:Int) (sp mk sf rd so:Addr) (us:List V) (ts:Ts) (kv:Kv) (M:Cells),vs = [.ref S.b,.ref sp,.ref mk,.ref sf,.ref rd,.ref so,.int (S.p:Nat),.int c]/\Led H (bg cT cF cD cS cI S (gH sp mk sf rd so us S ts kv++M))/\Lr n q S us ts M/\dM S kv ts/\kv.length<=1000/\q<=128/\ts.length<=1000/\1<=ts.length/\0<=c/\c<=1000000 ∧
 ∀ (S':SS) (us':List V) (ts':Ts) (kv':Kv) (N:Cells) (H':Hp),S'.b=S.b->ts'.length<=ts.length+1->ts.length<=ts'.length->kv'.length<=kv.length+1->dM S' kv' ts'->Lr n q S' us' ts' (N++M)->Led H' (bg cT cF cD cS cI S' (gH sp mk sf rd so us' S' ts' kv'++(N++M)))->Q (.int (S'.p:Nat)) H'
theorem Ox (D:Def K mg "_law_deed" jL) (B:iV mg) (T:Txt K mg cU cA cB cC cT cF cD cS cI) (Fp:cQ P w K mg base 8 "_law_made" ["_law_store","_law_spots","_law_marks","_law_shelf","_law_rows","_law_pointer","_law_cell"] (IS cT cF cD cS cI)) (yW:cQ P w K mg base 8 "_law_brought" ["_law_store","_law_spots","_law_marks","_law_shelf","_law_rows","_law_soil","_law_pointer","_law_thing"] (yV cT cF cD cS cI)):cQ P w K mg base 9 "_law_deed" ["_law_store","_law_spots","_law_marks","_law_shelf","_law_rows","_law_soil","_law_pointer","_law_cell"] (IT cT cF cD cS cI):=by
 have sc:=BF
 refine D.ok BF (λ vs H Q E h => ?_) (λ _ _ _ _ _ _ us hl=>match us,hl with | [_,_,_,_,_,_,_,_],_=>rfl) (λ f cdv A outer s H vs Q E hr h => ?_)
 ·obtain ⟨_,_,_,_,_,_,_,_,_,_,_,_,_,rfl,_⟩:=h;rfl
 ·obtain ⟨S,n,q,c,sp,mk,sf,rd,so,us,ts,kv,M,rfl,hL,lr,hso,hkv,Oe,hts,ht1,c0,c9,k⟩:=h
  have hu:=gF hr
  have hsz:=sizeLine_eq
  have n64:=lr.g.n64
  have ul:us.length=n:=lr.s.l.trans lr.g.f.h
  have pl:=lr.g.pl
  have jU:=hL.get (St.up (mC (mC (mC mS))))
  refine ⟨_,(@af _ _ _ _ _ (@aI _ _ 8 _ _ _ _ sc.nd rfl (by walk_at "o2") (@bh _ _ _ _ _ _ _ _ _ (gC rfl) (by rfl) B.list bO (@aa _ _ _ _ _ (@aq _ 4 _ _ (by walk_at "v")) (@ak _) (by rfl)) (by decide) (by decide) (by rfl) (by rfl)) (by rfl) (by walk_at "o4")) (@af _ _ _ _ _ (@aI _ _ 9 _ _ _ _ sc.nd rfl (by walk_at "o2") (@aH _ _ _ _ _ _ _ _ _ aL (by rfl) B.len bw (@aa _ _ _ _ _ (@kh _ _ "_law_thing" _ _ _ _ _ _ _ _ _ rfl rfl rfl rfl OM (cz (by kernel_rfl)) (@fK _ _ _ _ (@aq _ 8 _ _ (by walk_at "v"))) (λ _ _ _ _=>(@p8 _ _ _ (@aK _ _ _ _ _ _ _ _ b9 (@aX _ _ _ _ _ _ _ aO (@pk _ 0 _ _ (by kernel_rfl) (by kernel_rfl) (by decide) (by decide)) (@aj _ _ _ _) (λ _ _=>rfl)) (@bV _ _ _ _) (aQ _)))) (λ _ _ _ _=>(@pk _ 0 _ _ (by kernel_rfl) (by kernel_rfl) (by decide) (by decide))) (by intro _;rfl)) (@ak _) (by rfl)) (by decide) (by decide) (by rfl) (by rfl)) (by rfl) (by walk_at "o4")) (@af _ _ _ _ _ (@aS _ _ _ _ _ _ _ _ (@PW.pt _ _ _ (@pw_and _ _ _ _ _ _ _ (@aK _ _ _ _ _ _ _ _ b9 (@av _ _ _ _ _ _ _ _ aJ (@aq _ 7 _ _ (by walk_at "v")) (@aj _ _ _ _)) (@aj _ _ _ _) (aQ _)) (@pw_and1 _ _ _ _ (@aK _ _ _ _ _ _ _ _ Bf (@av _ _ _ _ _ _ _ _ fL (@av _ _ _ _ _ _ _ _ aT (@av _ _ _ _ _ _ _ _ fL (@aH _ _ _ _ _ _ _ _ _ aL (by rfl) B.len bw (@aa _ _ _ _ _ (@aq _ 1 _ _ (by walk_at "v")) (@ak _) (by rfl)) (by decide) (by decide) (by rfl) (by rfl)) (@aj _ _ _ _)) (@aH _ _ _ _ _ _ _ _ _ aL (by rfl) B.len bw (@aa _ _ _ _ _ (@aq _ 3 _ _ (by walk_at "v")) (@ak _) (by rfl)) (by decide) (by decide) (by rfl) (by rfl))) (@aq _ 9 _ _ (by walk_at "v"))) (@aj _ _ _ _) (aQ _))))) (@ao _ _ _ (@aE _ _ _ _ (@aA _ _ _ _ _ _ _ _ _ _ _ Fp (hr.mono (by omega)) (by rfl) az (@aa _ _ _ _ _ (@aq _ 0 _ _ (by walk_at "v")) (@aa _ _ _ _ _ (@aq _ 1 _ _ (by walk_at "v")) (@aa _ _ _ _ _ (@aq _ 2 _ _ (by walk_at "v")) (@aa _ _ _ _ _ (@aq _ 3 _ _ (by walk_at "v")) (@aa _ _ _ _ _ (@aq _ 4 _ _ (by walk_at "v")) (@aa _ _ _ _ _ (@aq _ 6 _ _ (by walk_at "v")) (@aa _ _ _ _ _ (@av _ _ _ _ _ _ _ _ bA (@aq _ 7 _ _ (by walk_at "v")) (@aj _ _ _ _)) (@ak _) (by rfl)) (by rfl)) (by rfl)) (by rfl)) (by rfl)) (by rfl)) (by rfl)) (by decide) (by rfl) (by rfl)))) (@aF _)) (@af _ _ _ _ _ (@aI _ _ 10 _ _ _ _ sc.nd rfl (by walk_at "o2") (@aX _ _ _ _ _ _ _ aO (@aq _ 8 _ _ (by walk_at "v")) (@av _ _ _ _ _ _ _ _ aJ (@av _ _ _ _ _ _ _ _ bA (@aq _ 7 _ _ (by walk_at "v")) (@aj _ _ _ _)) (@aH _ _ _ _ _ _ _ _ _ aL (by rfl) B.len bw (@aa _ _ _ _ _ (@aq _ 8 _ _ (by walk_at "v")) (@ak _) (by rfl)) (by decide) (by decide) (by rfl) (by rfl))) (λ _ _=>rfl)) (by rfl) (by walk_at "o4")) (@af _ _ _ _ _ (@aS _ _ _ _ _ _ _ _ (@PW.pt _ _ _ (@pw_and _ _ _ _ _ _ _ (@aK _ _ _ _ _ _ _ _ b9 (@av _ _ _ _ _ _ _ _ aJ (@av _ _ _ _ _ _ _ _ bA (@aq _ 7 _ _ (by walk_at "v")) (@aj _ _ _ _)) (@aj _ _ _ _)) (@aj _ _ _ _) (aQ _)) (@pw_and1 _ _ _ _ (@aK _ _ _ _ _ _ _ _ Bf (@aq _ 9 _ _ (by walk_at "v")) (@aj _ _ _ _) (aQ _))))) (@ao _ _ _ (@aI _ _ 10 _ _ _ _ sc.nd rfl (by walk_at "o2") (@dS _ _ _ _ _ (@aa _ _ _ _ _ (@bV _ _ _ _) (@aa _ _ _ _ _ (@av _ _ _ _ _ _ _ _ aT (@aj _ _ _ _) (@av _ _ _ _ _ _ _ _ aJ (@av _ _ _ _ _ _ _ _ bA (@aq _ 7 _ _ (by walk_at "v")) (@aj _ _ _ _)) (@aq _ 9 _ _ (by walk_at "v")))) (@ak _) (by rfl)) (by rfl))) (by rfl) (by walk_at "o4"))) (@aF _)) (@ao _ _ _ (@aE _ _ _ _ (@aA _ _ _ _ _ _ _ _ _ _ _ yW (hr.mono (by omega)) (by rfl) az (@aa _ _ _ _ _ (@aq _ 0 _ _ (by walk_at "v")) (@aa _ _ _ _ _ (@aq _ 1 _ _ (by walk_at "v")) (@aa _ _ _ _ _ (@aq _ 2 _ _ (by walk_at "v")) (@aa _ _ _ _ _ (@aq _ 3 _ _ (by walk_at "v")) (@aa _ _ _ _ _ (@aq _ 4 _ _ (by walk_at "v")) (@aa _ _ _ _ _ (@aq _ 5 _ _ (by walk_at "v")) (@aa _ _ _ _ _ (@aq _ 6 _ _ (by walk_at "v")) (@aa _ _ _ _ _ (@aq _ 10 _ _ (by walk_at "v")) (@ak _) (by rfl)) (by rfl)) (by rfl)) (by rfl)) (by rfl)) (by rfl)) (by rfl)) (by rfl)) (by decide) (by rfl) (by rfl))))))))),?_⟩
  refine aG λ M1 K1 => ?_
  walk_at "ge"
  refine j3 jU hL λ ky ys H2 ey hl2 => ?_
  have hyl:ys.length=ts.length:=by have:=congrArg List.length ey;simpa using this
  walk_at "ge"
  refine K1.use ?_
  walk_at "cl"
  clear K1 jU hL
  have Lj:=hl2.get mS
  refine aG λ M1 K1 => ?_
  walk_at "ge"
  refine qb λ Lc kG => ?_
  walk_at "ge"
  refine ⟨ky,rfl,⟨_,fj.of Lj⟩,kG.use ?_⟩
  clear kG
  refine jy ys (λ y=>V.ref y.1) (λ y => !aW y.2) hl2 List.mem_cons_self (by omega) (λ y H6 R x hy cO hR => ?_) (λ y H6 R x hy cO hR => ?_) (λ om H6 cO => ?_)
  ·have BS:=cO.get (mC (mC (mB (List.mem_map.mpr ⟨y,hy,rfl⟩))))
   obtain ⟨ya,yt⟩:=y
   cases yt with
   | own m =>
     have HM:H6 ya=some (.tup [.str (Str.ofString "own"),.int m]):=BS
     clear BS
     dsimp only
     walk_at "ge"
     exact hR _ cO
   | file z p =>
     have HM:H6 ya=some (.tup [.str (Str.ofString "file"),.str z,.int p]):=BS
     clear BS
     have hne : ¬ Str.ofString "file" = Str.ofString "own" := by decide +kernel
     dsimp only
     walk_at "ge"
     rw [decide_eq_false hne]
     exact hR _ cO
  ·walk_at "ge"
   exact hR _ cO
  ·have hmade:=lr.Fo ey
   have K4:=cO.get mS
   clear Lj
   walk_at "ge"
   rw [hmade]
   refine K1.use ?_
   walk_at "cl"
   clear K1 K4 hl2 hmade
   obtain ⟨A,eA⟩ : ∃ A:Cells,(om,HO.lst ((ys.filter λ y => !aW y.2).map λ y=>V.ref y.1))::(ky,HO.lst (ys.map λ y=>V.ref y.1))::Oa ys=A:=⟨_,rfl⟩
   have fH:Led H6 (bg cT cF cD cS cI S (gH sp mk sf rd so us S ts kv++(A++M))):=by
    have h5:Led H6 (A++bg cT cF cD cS cI S (gH sp mk sf rd so us S ts kv++M)):=by rw [<-eA];exact cO
    exact St.iR (St.gW A h5) (aP A _ M)
   have yU:Lr n q S us ts (A++M):=lr.mono λ x hx=>mA hx
   have Uc:(ky,HO.lst (ys.map λ y=>V.ref y.1))∈A:=by rw [<-eA];exact mC mS
   have QG : ∀ y∈ys,(y.1,HO.tup (eV y.2))∈A:=λ y hy=>by rw [<-eA];exact mC (mC (List.mem_map.mpr ⟨y,hy,rfl⟩))
   clear cO eA
   have dG:=fH.get (St.up mS)
   have jr:=fH.get (St.up (mC (mC mS)))
   refine aG λ M1 K1 => ?_
   have rest:M1 [some (.ref S.b),some (.ref sp),some (.ref mk),some (.ref sf),some (.ref rd),some (.ref so),some (.int (S.p:Nat)),some (.int c),some (.ref ky),some (.int S.made),none] H6:=by
    refine K1.use ?_
    clear K1 dG jr
    obtain ⟨y,hy,hat⟩:=WM (c / 3) (ys:=ys) (by omega)
    have Lj:=fH.get (St.up (mA (mB Uc)))
    have kl:(0:Int) < ((ys.map λ y=>V.ref y.1).length:Int):=by rw [List.length_map];omega
    refine aG λ M1 K1 => ?_
    walk_at "ge"
    refine K1.use ?_
    walk_at "cl"
    clear K1 Lj
    refine aG λ M1 K1 => ?_
    have gI : ∀ (u:Addr) (a:Th) (N:Cells) (H7:Hp),(u,HO.tup (eV a))∈N++(A++M)->a∈ts.map (·.1)->Led H7 (bg cT cF cD cS cI S (gH sp mk sf rd so us S ts kv++(N++(A++M))))->M1 [some (.ref S.b),some (.ref sp),some (.ref mk),some (.ref sf),some (.ref rd),some (.ref so),some (.int (S.p:Nat)),some (.int c),some (.ref ky),some (.int S.made),some (.ref u)] H7:=by
     intro u a N H7 IQ hk jS
     refine K1.use ?_
     clear K1 fH
     walk_at "ge"
     refine ⟨S,n,q,u,a,sp,mk,sf,rd,so,us,ts,kv,_,rfl,jS,yU.mono (λ x hx=>mA hx),hso,hkv,IQ,hk,λ S' us' kv' N' H' b1 kl1 QF pT ic => ?_⟩
     walk_at "ge"
     have e5:N'++(N++(A++M))=(N'++(N++A))++M:=by simp
     rw [e5] at pT ic
     exact k S' us' ts kv' _ H' b1 (Nat.le_succ _) (Nat.le_refl _) kl1 QF pT ic
    clear K1
    have hky:y.2∈ts.map (·.1):=by rw [<-ey];exact List.mem_map.mpr ⟨y,hy,rfl⟩
    walk_at "ge"
    ·rename_i u H7 _ jS _
     have hpos:0 < S.made:=by omega
     have m0:=Int.emod_nonneg (c / 6) (show S.made≠0 by omega)
     have m1:=Int.emod_lt_of_pos (c / 6) hpos
     have ic:Led H7 (bg cT cF cD cS cI S ([(u,HO.tup (eV (.own (1+c / 6 % S.made))))]++(gH sp mk sf rd so us S ts kv++(A++M)))):=St.push jS
     exact gI u (.own (1+c / 6 % S.made)) [(u,HO.tup (eV (.own (1+c / 6 % S.made))))] H7 List.mem_cons_self (lr.TU (by omega) (by omega)) (St.iR ic (aP _ _ _))
    ·exact gI y.1 y.2 [] H6 (mA (mB (QG y hy))) hky fH
    ·exact gI y.1 y.2 [] H6 (mA (mB (QG y hy))) hky fH
   clear K1
   walk_at "ge"
   ·refine ⟨S,n,q,c / 3,sp,mk,sf,rd,so,us,ts,kv,_,rfl,fH,yU,hso,Oe,hts,by omega,by omega,by omega,λ S' us' ts' N' H' b1 t1 QF pT ic => ?_⟩
    walk_at "ge"
    have e5:N'++(A++M)=(N'++A)++M:=(List.append_assoc ..).symm
    rw [e5] at pT ic
    exact k S' us' ts' kv _ H' b1 (by omega) (by omega) (Nat.le_succ _) QF pT ic
   ·exact rest
   ·exact rest
end
section
variable {P:Program} {w:World} {K:PySem.W.Frag} {mg:Str->Option Value} {base:Heap} {cU cA cB cC cT cF cD cS cI:Addr}
theorem Lr.adw {n q:Nat} {S:SS} {us:List V} {ts:Ts} {A B:Cells} {so:Addr} {kv:Kv} (h:Lr n q S us ts (A++(so,HO.dT kv)::B)):Lr n q S us ts (A++B):=by
 have dn : ∀ x∈A++(so,HO.dT kv)::B,x.2≠HO.dT kv->x∈A++B:=λ x hx hne=>by
  rcases List.mem_append.mp hx with hx | hx
  ·exact mB hx
  ·rcases List.mem_cons.mp hx with rfl | hx
   ·exact absurd rfl hne
   ·exact mA hx
 have dt : ∀ (t:Addr) (xs:List V),(t,HO.tup xs)∈A++(so,HO.dT kv)::B->(t,HO.tup xs)∈A++B:=λ t xs hx=>dn _ hx (λ e=>nomatch e)
 have dl : ∀ (t:Addr) (xs:List V),(t,HO.lst xs)∈A++(so,HO.dT kv)::B->(t,HO.lst xs)∈A++B:=λ t xs hx=>dn _ hx (λ e=>nomatch e)
 exact { h with g := { h.g with f:=⟨h.g.f.h,h.g.f.r,h.g.f.s,λ t a ha=>⟨dt _ _ (h.g.f.th t a ha).1,(h.g.f.th t a ha).2⟩,λ r row hr=>dl _ _ (h.g.f.rw r row hr)⟩,fr:=λ e he r hr=>⟨dl _ _ (h.g.fr e he r hr).1,(h.g.fr e he r hr).2⟩ },s:=⟨h.s.l,h.s.no,λ i t a hi=>(h.s.th i t a hi).imp λ u hu=>⟨hu.1,dt _ _ hu.2⟩⟩,rw:=λ e he=>⟨dl _ _ (h.rw e he).1,(h.rw e he).2⟩ }
theorem dM.start {n q:Nat} {S:SS} {ts:Ts} {M:Cells} (g:aU S n q M) (h:m9 S):dM S [] ts:=by
 have at' : ∀ i:Nat,i < n->S.F.bs[i]? = some false:=λ i hi=>by
  have hl:i < S.F.bs.length:=by rw [g.f.s];exact hi
  have e:=List.getElem?_eq_getElem hl
  rw [e,h i _ e]
 have lt : ∀ (i:Nat) (x:Hd),S.F.hs[i]? = some x->i < n:=λ i x hx=>by rw [<-g.f.h];exact (List.getElem?_eq_some_iff.mp hx).1
 exact ⟨λ i t a hi=>⟨false,at' i (lt i _ hi),rfl⟩,λ i hi=>at' i (lt i _ hi),λ a v hv=>nomatch hv⟩
theorem Ud {f:Addr} {fd:FuncData} (F:Jt K "law" "law" wM f fd) (B:iV mg) (T:Txt K mg cU cA cB cC cT cF cD cS cI) (QM:iW P w K mg base 3 cT ["self","many","places"] (IE cT cF cD cS cI)) (br:cQ P w K mg base 1 "_law_cell_at" ["_law_script","_law_k"] (yC K)) (DN:cQ P w K mg base 1 "_law_sizes" ["_law_cell"] IG) (DO:cQ P w K mg base 9 "_law_begun" ["_law_store","_law_spots","_law_shelf","_law_rows","_law_script"] (IP K cT cF cD cS cI)) (Fq:cQ P w K mg base 3 "_law_stir" ["_law_store","_law_spots","_law_marks","_law_rows","_law_soil","_law_cell"] (Ob cT cF cD cS cI)) (Ft:cQ P w K mg base 9 "_law_deed" ["_law_store","_law_spots","_law_marks","_law_shelf","_law_rows","_law_soil","_law_pointer","_law_cell"] (IT cT cF cD cS cI)) (yX:cQ P w K mg base 5 "_law_is_soil" ["_law_store","_law_spots","_law_soil","_law_cell"] (Fj cT cF cD cS cI)) (tO:cQ P w K mg base 5 "_law_row_there" ["_law_store","_law_spots","_law_shelf","_law_thing"] (yN cT cF cD cS cI)) (aN:cQ P w K mg base 4 "_law_alike" ["_law_found","_law_due"] (jk 2)):gK P w K mg base (yZ P w) 10 f fd ["_law_script"] (Gd K):=by
 have sc:=S8
 refine F.okN sc (λ vs H Q E h => ?_) (λ cdv A outer s H vs Q E hr h => ?_)
 ·obtain ⟨a,ns,rfl,_⟩:=h;rfl
 ·obtain ⟨a,ns,rfl,hS,hlen,Eo,hO,k⟩:=h
  have hu:=gF hr
  refine ⟨_,(@af _ _ _ _ _ (@bF _ _ _ _ _ _ (@aA _ _ _ _ _ _ _ _ _ _ _ DN (hr.mono (by omega)) (by rfl) az (@aa _ _ _ _ _ (@aA _ _ _ _ _ _ _ _ _ _ _ br (hr.mono (by omega)) (by rfl) az (@aa _ _ _ _ _ (@aq _ 0 _ _ (by walk_at "v")) (@aa _ _ _ _ _ (@aj _ _ _ _) (@ak _) (by rfl)) (by rfl)) (by decide) (by rfl) (by rfl)) (@ak _) (by rfl)) (by decide) (by rfl) (by rfl)) (@R1 _ _ _ _ _ _ rfl (@DZ _ _ _ _ _ (@d9 _ _ 1 _ sc.nd rfl (by walk_at "o2") (by walk_at "o4")) (@DZ _ _ _ _ _ (@d9 _ _ 2 _ sc.nd rfl (by walk_at "o2") (by walk_at "o4")) (@OW _) (by rfl)) (by rfl)) (by rfl) (by rfl)) (by rfl) (by rfl) (by rfl)) (@af _ _ _ _ _ (@aI _ _ 3 _ _ _ _ sc.nd rfl (by walk_at "o2") (@qa _ _ _ _ _ _ _ _ _ _ _ _ T.bz QM (hr.mono (by omega)) (by rfl) az (@aa _ _ _ _ _ (@aq _ 1 _ _ (by walk_at "v")) (@aa _ _ _ _ _ (@aq _ 2 _ _ (by walk_at "v")) (@ak _) (by rfl)) (by rfl)) (by decide) (by rfl) (by rfl)) (by rfl) (by walk_at "o4")) (@af _ _ _ _ _ (@aI _ _ 4 _ _ _ _ sc.nd rfl (by walk_at "o2") (@av _ _ _ _ _ _ _ _ lR (@jo _ _ _ _ (@aa _ _ _ _ _ (@bJ _ _ _) (@ak _) (by rfl))) (@aq _ 1 _ _ (by walk_at "v"))) (by rfl) (by walk_at "o4")) (@af _ _ _ _ _ (@aI _ _ 5 _ _ _ _ sc.nd rfl (by walk_at "o2") (@av _ _ _ _ _ _ _ _ lR (@jo _ _ _ _ (@aa _ _ _ _ _ (@bP _ _ _ _) (@ak _) (by rfl))) (@aq _ 1 _ _ (by walk_at "v"))) (by rfl) (by walk_at "o4")) (@af _ _ _ _ _ (@aI _ _ 6 _ _ _ _ sc.nd rfl (by walk_at "o2") (@av _ _ _ _ _ _ _ _ lR (@jo _ _ _ _ (@aa _ _ _ _ _ (@bJ _ _ _) (@ak _) (by rfl))) (@aq _ 2 _ _ (by walk_at "v"))) (by rfl) (by walk_at "o4")) (@af _ _ _ _ _ (@aI _ _ 7 _ _ _ _ sc.nd rfl (by walk_at "o2") (@D9 _ _) (by rfl) (by walk_at "o4")) (@af _ _ _ _ _ (@aI _ _ 8 _ _ _ _ sc.nd rfl (by walk_at "o2") (@D9 _ _) (by rfl) (by walk_at "o4")) (@af _ _ _ _ _ (@aI _ _ 9 _ _ _ _ sc.nd rfl (by walk_at "o2") (@aj _ _ _ _) (by rfl) (by walk_at "o4")) (@af _ _ _ _ _ (@aS _ _ _ _ _ _ _ _ (@bW _ _ _ _ (@aZ _ _ _ (@aA _ _ _ _ _ _ _ _ _ _ _ DO (hr.mono (by omega)) (by rfl) az (@aa _ _ _ _ _ (@aq _ 3 _ _ (by walk_at "v")) (@aa _ _ _ _ _ (@aq _ 4 _ _ (by walk_at "v")) (@aa _ _ _ _ _ (@aq _ 6 _ _ (by walk_at "v")) (@aa _ _ _ _ _ (@aq _ 7 _ _ (by walk_at "v")) (@aa _ _ _ _ _ (@aq _ 0 _ _ (by walk_at "v")) (@ak _) (by rfl)) (by rfl)) (by rfl)) (by rfl)) (by rfl)) (by decide) (by rfl) (by rfl)) (by intro _;rfl))) (@ao _ _ _ (@aE _ _ _ _ (@bP _ _ _ _))) (@aF _)) (@af _ _ _ _ _ (@iD _ _ _ _ _ _ _ _ PassesOwn.never rfl (@fK _ _ _ _ (@lO _ _ _ _ _ _ _ _ _ _ (wA (K:=K) rfl) (@aq _ 0 _ _ (by walk_at "v")) (@nh _ _ _ (@aj _ _ _ _)) (@nh _ _ _ (@aj _ _ _ _)))) (@d9 _ _ 10 _ sc.nd rfl (by walk_at "o2") (by walk_at "o4")) (@af _ _ _ _ _ (@cM _ _ _ _ (@aA _ _ _ _ _ _ _ _ _ _ _ Fq (hr.mono (by omega)) (by rfl) az (@aa _ _ _ _ _ (@aq _ 3 _ _ (by walk_at "v")) (@aa _ _ _ _ _ (@aq _ 4 _ _ (by walk_at "v")) (@aa _ _ _ _ _ (@aq _ 5 _ _ (by walk_at "v")) (@aa _ _ _ _ _ (@aq _ 7 _ _ (by walk_at "v")) (@aa _ _ _ _ _ (@aq _ 8 _ _ (by walk_at "v")) (@aa _ _ _ _ _ (@aq _ 10 _ _ (by walk_at "v")) (@ak _) (by rfl)) (by rfl)) (by rfl)) (by rfl)) (by rfl)) (by rfl)) (by decide) (by rfl) (by rfl)) (by rfl)) (@af _ _ _ _ _ (@aI _ _ 9 _ _ _ _ sc.nd rfl (by walk_at "o2") (@aA _ _ _ _ _ _ _ _ _ _ _ Ft (hr.mono (by omega)) (by rfl) az (@aa _ _ _ _ _ (@aq _ 3 _ _ (by walk_at "v")) (@aa _ _ _ _ _ (@aq _ 4 _ _ (by walk_at "v")) (@aa _ _ _ _ _ (@aq _ 5 _ _ (by walk_at "v")) (@aa _ _ _ _ _ (@aq _ 6 _ _ (by walk_at "v")) (@aa _ _ _ _ _ (@aq _ 7 _ _ (by walk_at "v")) (@aa _ _ _ _ _ (@aq _ 8 _ _ (by walk_at "v")) (@aa _ _ _ _ _ (@aq _ 9 _ _ (by walk_at "v")) (@aa _ _ _ _ _ (@av _ _ _ _ _ _ _ _ aJ (@av _ _ _ _ _ _ _ _ ni (@aq _ 10 _ _ (by walk_at "v")) (@aj _ _ _ _)) (@aj _ _ _ _)) (@ak _) (by rfl)) (by rfl)) (by rfl)) (by rfl)) (by rfl)) (by rfl)) (by rfl)) (by rfl)) (by decide) (by rfl) (by rfl)) (by rfl) (by walk_at "o4")) (@ao _ _ _ (@aS _ _ _ _ _ _ _ _ (@PW.pt _ _ _ (@pw_or _ _ _ _ _ _ _ (@aK _ _ _ _ _ _ _ _ vU (@aq _ 9 _ _ (by walk_at "v")) (@aj _ _ _ _) (aQ _)) (@pw_or1 _ _ _ _ (@bW _ _ _ _ (@aZ _ _ _ (@aA _ _ _ _ _ _ _ _ _ _ _ yX (hr.mono (by omega)) (by rfl) az (@aa _ _ _ _ _ (@aq _ 3 _ _ (by walk_at "v")) (@aa _ _ _ _ _ (@aq _ 4 _ _ (by walk_at "v")) (@aa _ _ _ _ _ (@aq _ 8 _ _ (by walk_at "v")) (@aa _ _ _ _ _ (@av _ _ _ _ _ _ _ _ aJ (@av _ _ _ _ _ _ _ _ ni (@aq _ 10 _ _ (by walk_at "v")) (@aj _ _ _ _)) (@aj _ _ _ _)) (@ak _) (by rfl)) (by rfl)) (by rfl)) (by rfl)) (by decide) (by rfl) (by rfl)) (by intro _;rfl)))))) (@ao _ _ _ (@aE _ _ _ _ (@bP _ _ _ _))) (@aF _))))) (by intro _;rfl)) (@af _ _ _ _ _ (@iD _ _ _ _ _ _ _ _ PassesOwn.never rfl (@fK _ _ _ _ (@bh _ _ _ _ _ _ _ _ _ (gC rfl) (by rfl) B.list bO (@aa _ _ _ _ _ (@aq _ 7 _ _ (by walk_at "v")) (@ak _) (by rfl)) (by decide) (by decide) (by rfl) (by rfl))) (@d9 _ _ 11 _ sc.nd rfl (by walk_at "o2") (by walk_at "o4")) (@ao _ _ _ (@aS _ _ _ _ _ _ _ _ (@bW _ _ _ _ (@aZ _ _ _ (@aA _ _ _ _ _ _ _ _ _ _ _ aN (hr.mono (by omega)) (by rfl) az (@aa _ _ _ _ _ (@aA _ _ _ _ _ _ _ _ _ _ _ tO (hr.mono (by omega)) (by rfl) az (@aa _ _ _ _ _ (@aq _ 3 _ _ (by walk_at "v")) (@aa _ _ _ _ _ (@aq _ 4 _ _ (by walk_at "v")) (@aa _ _ _ _ _ (@aq _ 6 _ _ (by walk_at "v")) (@aa _ _ _ _ _ (@aq _ 11 _ _ (by walk_at "v")) (@ak _) (by rfl)) (by rfl)) (by rfl)) (by rfl)) (by decide) (by rfl) (by rfl)) (@aa _ _ _ _ _ (@iU _ _ _ _ _ _ hu (@aq _ 7 _ _ (by walk_at "v")) (@aq _ 11 _ _ (by walk_at "v")) (λ _ _=>rfl)) (@ak _) (by rfl)) (by rfl)) (by decide) (by rfl) (by rfl)) (by intro _;rfl))) (@ao _ _ _ (@aE _ _ _ _ (@bP _ _ _ _))) (@aF _))) (by intro _;rfl)) (@ao _ _ _ (@aE _ _ _ _ (@bP _ _ _ _)))))))))))))),?_⟩
  obtain ⟨L,hL,hs⟩:=JA hS hO
  clear hO
  refine aG λ M1 K1 => ?_
  walk_at "ge"
  refine ⟨a,ns,0,rfl,by decide,hS,?_⟩
  walk_at "ge"
  generalize ns.getD (Int.toNat 0) 0=first
  refine ⟨first,L,rfl,hL,λ p0 H1 hl1 => ?_⟩
  obtain ⟨z1,z2,z3,z4⟩:=HE first
  obtain ⟨n,hn⟩ : ∃ n:Nat,(sizesOf first).1=n:=⟨_,(Int.toNat_of_nonneg (by omega)).symm⟩
  obtain ⟨q,hq⟩ : ∃ q:Nat,(sizesOf first).2=q:=⟨_,(Int.toNat_of_nonneg z3).symm⟩
  rw [hn,hq] at hl1
  rw [hn] at z1 z2
  rw [hq] at z3 z4
  clear hn hq
  walk_at "ge"
  refine VY (hl1.get mS) ?_
  walk_at "ge"
  refine K1.use ?_
  walk_at "cl"
  clear K1
  refine aG λ M1 K1 => ?_
  walk_at "ge"
  intro st dx y1 y2 y3
  refine ⟨st,dx,n,q,_,rfl,hl1.make y1 y2 y3,by omega,by omega,λ fr Bb l r s' di Dy mk0 sh DT pl rdd fi DU fd ho H2 hl2=>⟨rfl,?_⟩⟩
  clear y1 y2 y3
  walk_at "ge"
  refine K1.use ?_
  walk_at "cl"
  clear K1
  obtain ⟨OR,RK⟩ : ∃ S,S=S0 st dx fr Bb l r s' di Dy mk0 sh DT pl rdd fi DU fd ho n q:=⟨_,rfl⟩
  rw [<-RK] at hl2
  refine aG λ M1 K1 => ?_
  walk_at "ge"
  rename Led _ _=>hl3
  refine Es (hl3.get mS) ⟨by omega,by omega⟩ (by have:=sizeLine_eq;simp only [List.length_cons,List.length_nil];omega) (Led.alloc hl3 λ sp H3 _ bZ _ => ?_)
  rw [M4,Int.toNat_natCast] at bZ
  walk_at "ge"
  refine K1.use ?_
  walk_at "cl"
  clear K1
  refine aG λ M1 K1 => ?_
  walk_at "ge"
  rename Led _ _=>cN
  refine Es (cN.get mS) ⟨by omega,by omega⟩ (by have:=sizeLine_eq;simp only [List.length_cons,List.length_nil];omega) (Led.alloc cN λ mk H4 _ cO _ => ?_)
  rw [M8,Int.toNat_natCast] at cO
  walk_at "ge"
  refine K1.use ?_
  walk_at "cl"
  clear K1
  refine aG λ M1 K1 => ?_
  walk_at "ge"
  rename Led _ _=>fH
  refine Es (fH.get mS) ⟨by omega,by omega⟩ (by have:=sizeLine_eq;simp only [List.length_cons,List.length_nil];omega) (Led.alloc fH λ sf H5 _ jS _ => ?_)
  rw [M4,Int.toNat_natCast] at jS
  walk_at "ge"
  refine K1.use ?_
  walk_at "cl"
  clear K1
  refine aG λ M1 K1 => ?_
  walk_at "ge"
  refine Led.alloc jS λ rd H6 _ ic _ => ?_
  walk_at "ge"
  refine K1.use ?_
  walk_at "cl"
  clear K1
  refine aG λ M1 K1 => ?_
  walk_at "ge"
  refine Led.alloc ic λ so H6' _ WN _ => ?_
  walk_at "ge"
  refine K1.use ?_
  walk_at "cl"
  clear K1
  have fu:Led H6' ((sp,.lst (List.replicate n .aM))::(mk,.lst ((List.replicate n false).map V.bl))::(sf,.lst (List.replicate q .aM))::(rd,.dT [])::(so,.dT [])::bg cT cF cD cS cI OR ((p0,.tup [.int (n:Nat),.int (q:Nat)])::L)):=WN.wk (by walk_at "sp")
  clear WN ic jS fH cO cN bZ hl3 hl2 hl1
  obtain ⟨M0,Ub⟩ : ∃ M0:Cells,(p0,HO.tup [.int (n:Nat),.int (q:Nat)])::L=M0:=⟨_,rfl⟩
  have Oz:Led H6' (bg cT cF cD cS cI OR ([(sp,.lst (List.replicate n .aM)),(mk,.lst ((List.replicate n false).map V.bl)),(sf,.lst (List.replicate q .aM)),(rd,.dT []),(so,.dT [])]++M0)):=St.gW [_,_,_,_,_] (by rw [<-Ub];exact fu)
  have dD:Led H6' (bg cT cF cD cS cI OR (oB sp mk sf rd (List.replicate n .aM) OR []++((so,HO.dT [])::M0))):=by rw [RK] at Oz ⊢;exact Oz
  have UM:Lr n q OR (List.replicate n .aM) [] ((so,HO.dT [])::M0):=by rw [RK];exact Lr.laid (by omega) (by omega) (by omega)
  have eb0:OR.b=st:=by rw [RK];rfl
  have ep0:OR.p=0:=by rw [RK];rfl
  have ef0:OR.fs = []:=by rw [RK];rfl
  have ac0:m9 OR:=λ j b hj=>by
   rw [RK] at hj
   exact tN (α := Bool) (x:=false) hj
  have WI : ∀ H',Led H' M0->fj K H' a (ns.map V.int):=λ H' h=>hs.seq (by rw [<-Ub] at h;exact h.tail)
  clear fu Oz RK
  refine aG λ M1 K1 => ?_
  walk_at "ge"
  refine K1.use ?_
  walk_at "cl"
  clear K1
  refine aG λ M1 K1 => ?_
  walk_at "ge"
  refine ⟨OR,n,q,sp,mk,sf,rd,a,ns,_,(so,HO.dT [])::M0,by rw [eb0];rfl,dD,UM,ac0,ef0,by omega,λ H' h=>WI H' h.tail,λ S1 FF RH N1 H7 b1 p1 t1 t2 ac1 WO uf => ?_⟩
  rw [eb0] at b1
  rw [ep0] at p1
  have HL:=WO.adw
  have QF:dM S1 [] RH:=dM.start HL.g ac1
  have d8:Led H7 (bg cT cF cD cS cI S1 (gH sp mk sf rd so FF S1 RH []++(N1++M0))):=by
   refine St.iR uf ?_
   exact (List.Perm.append_left (oB sp mk sf rd FF S1 RH) List.perm_middle).trans (List.Perm.refl _)
  walk_at "ge"
  refine K1.use ?_
  walk_at "cl"
  clear K1 dD uf WO
  have sq:fj K H7 a (ns.map V.int):=WI _ (Led.right (Led.right (St.rest d8)))
  refine aG λ M1 K1 => ?_
  refine forL λ Wx mZ => ?_
  walk_at "ge"
  obtain ⟨cs,hcs,hcl⟩:=Ml ns (some 4) (some 64)
  have hmem : ∀ x∈cs,x∈ns:=λ x hx=>by
   have h1:V.int x∈lP (ns.map V.int) (some 4) (some 64):=by rw [hcs];exact List.mem_map.mpr ⟨x,hx,rfl⟩
   unfold lP at h1
   have h2:=List.mem_of_mem_drop (List.mem_of_mem_take h1)
   obtain ⟨y,hy,e⟩:=List.mem_map.mp h2
   cases e
   exact hy
  refine VR sq λ sl hsl => ?_
  rw [hcs]
  refine ⟨sl,rfl,⟨_,fj.of ju⟩,mZ.use ?_⟩
  have yI:=d8.new (o := .lst (cs.map V.int)) hsl
  generalize upd H7 sl (.lst (cs.map V.int))=H9 at yI ⊢
  obtain ⟨N3,XW⟩ : ∃ N3:Cells,(sl,HO.lst (cs.map V.int))::N1=N3:=⟨_,rfl⟩
  have e3:[(sl,HO.lst (cs.map V.int))]++(N1++M0)=N3++M0:=by rw [<-XW];simp
  have DJ:Led H9 (bg cT cF cD cS cI S1 (gH sp mk sf rd so FF S1 RH []++(N3++M0))):=by
   rw [<-e3]
   exact St.iR (St.push yI) (aP [(sl,HO.lst (cs.map V.int))] (gH sp mk sf rd so FF S1 RH []) (N1++M0))
  have pT:Lr n q S1 FF RH (N3++M0):=by rw [<-e3];exact HL.mono λ x hx=>mA hx
  have adx:(sl,HO.lst (cs.map V.int))∈N3:=by rw [<-XW];exact mS
  clear mZ sq d8 hsl yI hcs HL
  walk_at "cl"
  refine Q9 (cs.map V.int) (λ i σ H' => ∃ (S:SS) (us:List V) (ts:Ts) (kv:Kv) (N:Cells),S.b=st/\ts.length<=192+i/\1<=ts.length/\kv.length<=2 * i/\dM S kv ts/\Lr n q S us ts (N++M0)/\Led H' (bg cT cF cD cS cI S (gH sp mk sf rd so us S ts kv++(N++M0)))/\(sl,HO.lst (cs.map V.int))∈N ∧ ∃ v9,σ = [some (.ref a),some (.int (n:Nat)),some (.int (q:Nat)),some (.ref st),some (.ref sp),some (.ref mk),some (.ref sf),some (.ref rd),some (.ref so),some (.int (S.p:Nat)),v9,none]) ⟨S1,FF,RH,[],N3,b1,t1,t2,Nat.le_refl _,QF,pT,DJ,adx,none,by rw [p1];rfl⟩ (λ i σ H' _ h => ?_) ?_ ?_
  ·obtain ⟨S,us,ts,kv,N,_,_,_,_,_,_,hl,RA,_⟩:=h
   exact fj.of (hl.get (St.up (mA (mB RA))))
  ·clear DJ K1 k
   rintro i v σ H' hv ⟨S,us,ts,kv,N,q1,q2,q3,q4,hso,lr,hl,RA,v9,rfl⟩
   rw [List.getElem?_map] at hv
   obtain ⟨cell,hcell,rfl⟩:=Option.map_eq_some_iff.mp hv
   have hcb:=Eo cell (hmem cell (List.mem_of_getElem? hcell))
   have hi:i < cs.length:=(List.getElem?_eq_some_iff.mp hcell).1
   walk_at "ge"
   refine ⟨S,n,q,cell,sp,mk,sf,rd,so,us,ts,kv,_,by rw [q1];rfl,hl,lr,hso,by omega,by omega,hcb,λ S2 pS OQ N4 H2 r1 r2 r3 r4 so2 yU hl2 => ?_⟩
   have tl2:pS.length=ts.length:=by have:=congrArg List.length r3;simpa using this
   walk_at "ge"
   obtain ⟨c,hc⟩ : ∃ c:Int,cell * 48271 % 104729=c:=⟨_,rfl⟩
   have c0:0<=c:=by rw [<-hc];exact Int.emod_nonneg _ (by decide)
   have c9:c < 104729:=by rw [<-hc];exact Int.emod_lt_of_pos _ (by decide)
   rw [hc]
   refine ⟨S2,n,q,c,sp,mk,sf,rd,so,us,pS,OQ,_,by rw [r1,r2,q1];rfl,hl2,yU,so2,by omega,by omega,by omega,by omega,c0,by omega,λ S4 us4 ts4 kv4 N6 H4 y1 y2 y3 y4 XX lr5 cN => ?_⟩
   walk_at "ge"
   all_goals first | (exfalso;omega) | skip
   obtain ⟨d,hd⟩ : ∃ d:Int,cell * 69621 % 15101=d:=⟨_,rfl⟩
   have d0:0<=d:=by rw [<-hd];exact Int.emod_nonneg _ (by decide)
   rw [hd]
   refine ⟨S4,n,q,d,sp,mk,sf,rd,so,us4,ts4,kv4,_,by rw [y1,r1,q1];rfl,cN,lr5,XX,d0,?_⟩
   walk_at "ge"
   have e8:N6++(N4++(N++M0))=(N6++(N4++N))++M0:=by simp
   rw [e8] at lr5 cN
   exact ⟨S4,us4,ts4,kv4,_,y1.trans (r1.trans q1),by omega,by omega,by omega,XX,lr5,cN,mA (mA RA),_,rfl⟩
  ·clear DJ
   rintro σ H' ⟨S,us,ts,kv,N,q1,q2,q3,q4,hso,lr,hl,RA,v9,rfl⟩
   walk_at "ge"
   refine K1.use ?_
   walk_at "cl"
   clear K1
   refine aG λ M1 K1 => ?_
   refine forL λ Wx mZ => ?_
   have jU:=hl.get (St.up (mC (mC (mC mS))))
   walk_at "ge"
   refine j3 jU hl λ ky ys H2 ey hl2 => ?_
   refine ⟨ky,rfl,⟨_,fj.of (hl2.get mS)⟩,mZ.use ?_⟩
   clear mZ jU hl
   have hl3:=St.gW ((ky,HO.lst (ys.map λ y=>V.ref y.1))::Oa ys) hl2
   obtain ⟨Z,eZ⟩ : ∃ Z:Cells,((ky,HO.lst (ys.map λ y=>V.ref y.1))::Oa ys)++(gH sp mk sf rd so us S ts kv++(N++M0))=Z:=⟨_,rfl⟩
   rw [eZ] at hl3
   have Uc:(ky,HO.lst (ys.map λ y=>V.ref y.1))∈Z:=by rw [<-eZ];exact mS
   have i_y : ∀ y∈ys,(y.1,HO.tup (eV y.2))∈Z:=λ y hy=>by rw [<-eZ];exact mB (mC (List.mem_map.mpr ⟨y,hy,rfl⟩))
   have WQ : ∀ x∈gH sp mk sf rd so us S ts kv++(N++M0),x∈Z:=λ x hx=>by rw [<-eZ];exact mA hx
   clear hl2
   walk_at "cl"
   refine Q9 (ys.map λ y=>V.ref y.1) (λ i σ H' => ∃ (W:Cells) (v10:Option V),Led H' (bg cT cF cD cS cI S (W++Z)) ∧ σ = [some (.ref a),some (.int (n:Nat)),some (.int (q:Nat)),some (.ref st),some (.ref sp),some (.ref mk),some (.ref sf),some (.ref rd),some (.ref so),some (.int (S.p:Nat)),v9,v10]) ⟨[],none,hl3,rfl⟩ (λ i σ H' _ h => ?_) ?_ ?_
   ·obtain ⟨W,_,hl,_⟩:=h
    exact fj.of (hl.get (St.up (mA Uc)))
   ·clear hl3 K1 k
    rintro i v σ H' hv ⟨W,v10,hl,rfl⟩
    rw [List.getElem?_map] at hv
    obtain ⟨y,hyi,rfl⟩:=Option.map_eq_some_iff.mp hv
    have hy:=List.mem_of_getElem? hyi
    have hk:y.2∈ts.map (·.1):=by rw [<-ey];exact List.mem_map.mpr ⟨y,hy,rfl⟩
    obtain ⟨e,he,ea⟩:=List.mem_map.mp hk
    have ea':e.1=y.2:=ea
    obtain ⟨ie,rat,oke⟩:=lr.rw e he
    have e4:e.2.2.length=4:=by
     rcases rat with ⟨j,v,r,h5,h6⟩ | ⟨_,h5⟩
     ·obtain ⟨r',gm,h7,h8⟩:=lr.g.rr j v e.1 h5
      rw [h6] at h7
      cases h7
      exact h8
     ·exact h5.len lr.g
    have IQ:(y.1,HO.tup (eV e.1))∈W++Z:=by rw [ea'];exact mA (i_y y hy)
    walk_at "ge"
    refine ⟨S,n,q,y.1,sp,sf,e.1,e.2.2,us,_,by rw [q1];rfl,hl,lr.g.mono (λ x hx=>mA (WQ _ (mA hx))),lr.s.mono (λ x hx=>mA (WQ _ (mA hx))),mA (WQ _ mS),IQ,oke,rat,λ r N5 H5 nM ic => ?_⟩
    have jU:=ic.get (St.up (mA (mA (WQ _ (mC (mC (mC mS)))))))
    have lH:H5 y.1=some (.tup ((fJ e.1).map kV)):=by rw [kZ];exact ic.get (St.up (mA IQ))
    walk_at "ge"
    refine IL jU lH (DB lr.nd he) ?_
    walk_at "ge"
    refine ⟨_,_,rfl,jn (ic.get (St.up (mB nM))) (ic.get (St.up (mA (mA (WQ _ (mA ie)))))) (by omega),?_⟩
    walk_at "ge"
    exact ⟨N5++W,_,by rw [List.append_assoc];exact ic,rfl⟩
   ·clear hl3
    rintro σ H' ⟨W,v10,hl,rfl⟩
    walk_at "ge"
    refine K1.use ?_
    walk_at "ge"
    exact k _
end
section
variable {P:Program} {w:World} {K:PySem.W.Frag} {mg:Str->Option Value} {base:Heap} {cU cA cB cC cT cF cD cS cI:Addr}
theorem Ue {f:Addr} {fd:FuncData} (F:Jt K "law" "law" wM f fd) (B:iV mg) (T:Txt K mg cU cA cB cC cT cF cD cS cI):gK P w K mg base (yZ P w) 10 f fd ["_law_script"] (Gd K):=by
 have IU:=Nj (P:=P) (w:=w) (base:=base) T.wO B T
 have yY:=KH (P:=P) (w:=w) (base:=base) T.uw B T
 have IV:=KD (P:=P) (w:=w) (base:=base) T.uu B T
 have OA:=Qd (P:=P) (w:=w) (base:=base) T.zw B T
 have QN:=KI (P:=P) (w:=w) (base:=base) T.uv B T (Qe T.Cz B)
 have IW:=Nb (P:=P) (w:=w) (base:=base) T.Cv T
 have QT:=Na (P:=P) (w:=w) (base:=base) T.Cu T
 have OB:=Qg (P:=P) (w:=w) (base:=base) T.ux T
 have Fv:=KL (P:=P) (w:=w) (base:=base) T.wU B T
 have WR:=Tt (P:=P) (w:=w) (base:=base) T.wR B T OB
 have Ug:=Qh (P:=P) (w:=w) (base:=base) T.rL B T
 have QU:=KO (P:=P) (w:=w) (base:=base) T.l9 B T
 have Uh:=E5 (P:=P) (w:=w) (base:=base) T.rM B T
 have Ui:=Qi (P:=P) (w:=w) (base:=base) T.uy B T Uh
 have OC:=E6 (P:=P) (w:=w) (base:=base) T.rN B T Ui
 have QV:=Nt (P:=P) (w:=w) (base:=base) T.qk B T OC
 have IX:=KU (P:=P) (w:=w) (base:=base) T.wV B T OC
 have Uj:=Fc (P:=P) (w:=w) (base:=base) T.Gi T
 have Uk:=Qj (P:=P) (w:=w) (base:=base) T.CA T (M6 T.wN B T) IW
 have Ul:=KC (P:=P) (w:=w) (base:=base) T.oV T
 have WS:=HB (P:=P) (w:=w) (base:=base) T.JE T (E4 T.qj T) IV Ul WR QV Uj Uk
 have OD:=Ql (P:=P) (w:=w) (base:=base) T.CB B T (A5 T.nB T IU) yY OB (KA T.zx B T) Uj WS
 have Um:=Qn (P:=P) (w:=w) (base:=base) T.JG B T yY Fv
 have RL:=TH (P:=P) (w:=w) (base:=base) T.EB B T OA Um OD
 have La:=HD (P:=P) (w:=w) (base:=base) T.JF T Ug IX Uj
 have IY:=NO (P:=P) (w:=w) (base:=base) T.PN B T IU OA La OD
 have IZ:=Nu (P:=P) (w:=w) (base:=base) T.JH B T
 have nA:=E8 (P:=P) (w:=w) (base:=base) T.JI B T IZ 2
 have g_num:=Tv (P:=P) (w:=w) (base:=base) T.PR T
 have g_row:=Tw (P:=P) (w:=w) (base:=base) T.PU B T g_num
 have OE:=Hx (P:=P) (w:=w) (base:=base) T.EC B
 have WT:=Fe (P:=P) (w:=w) (base:=base) T.CC B T yY (Nc T.Cw B T) (Hu T.wQ T) Fv nA
 have QW:=DF (P:=P) (w:=w) (base:=base) T.zy B T IV QU IX
 have Uo:=QE (P:=P) (w:=w) (base:=base) T.MB B T QT IW QN g_num (Qz T.ED B T)
 have Up:=Od (P:=P) (w:=w) (base:=base) T.MC B T IY RL g_row nA
 have QX:=Oq (P:=P) (w:=w) (base:=base) T.JK B T (QJ T.Cy B T) OE (QD T.Mz B T) g_row Up
 have OF:=Qy (P:=P) (w:=w) (base:=base) T.MA B T IZ
 have Uq:=HP (P:=P) (w:=w) (base:=base) T.EE B T Ul nA
 have Lb:=Fl (P:=P) (w:=w) (base:=base) T.EF B T Ul IV IY OF WT nA
 have Ur:=Ov (P:=P) (w:=w) (base:=base) T.MD B T IV RL OF g_row WT nA
 have Us:=Ox (P:=P) (w:=w) (base:=base) T.ME B T Ur Lb
 exact Ud F B T (NK T.PK T (M5 T.Mx T) (M9 T.Td T) (KJ T.PL T) (Np T.PM T)) OE (NQ T.JJ T) QX Uo Us Uq QW nA
end
end My
def PySem.W.Fast.tw5091907770050262314:Unit:=()
def PySem.W.Fast.tw10135712155263178007:Unit:=()
def PySem.W.Fast.tw16327910233725555417:Unit:=()
def PySem.W.Fast.tw12414429602250532732:Unit:=()
def PySem.W.Fast.tw10578985926674299723:Unit:=()
def PySem.W.Fast.tw10637605712376490197:Unit:=()
def PySem.W.Fast.tw235698915628569172:Unit:=()
def PySem.W.Fast.tw7628372288838366688:Unit:=()
def PySem.W.Fast.tw17686589683207078921:Unit:=()
def PySem.W.Fast.tw15483538118020426270:Unit:=()
def PySem.W.Fast.tw8583315268514797426:Unit:=()
def PySem.W.Fast.tw9965277803093028050:Unit:=()
def PySem.W.Fast.tw11035938150031254:Unit:=()
def PySem.W.Fast.tw18406062883321594803:Unit:=()
def PySem.W.Fast.tw13501248526898617984:Unit:=()
def PySem.W.Fast.tw13800715494271075970:Unit:=()
def PySem.W.Fast.tw8044107603036328497:Unit:=()
def PySem.W.Fast.tw8074066785375804792:Unit:=()
def PySem.W.Fast.tw12379685148083488138:Unit:=()
def PySem.W.Fast.tw12123323125432549321:Unit:=()
def PySem.W.Fast.tw9951056712672019115:Unit:=()
def PySem.W.Fast.tw14767789246354657069:Unit:=()
def PySem.W.Fast.tw14770779896523420345:Unit:=()
def PySem.W.Fast.tw1729976894974677966:Unit:=()
def PySem.W.Fast.tw2912639852781208703:Unit:=()
def PySem.W.Fast.tw1607009983965522952:Unit:=()
def PySem.W.Fast.tw6396375955942873860:Unit:=()
def PySem.W.Fast.tw7788951529621587:Unit:=()
def PySem.W.Fast.tw3824210873608590182:Unit:=()
def PySem.W.Fast.tw178233654979495038:Unit:=()
def PySem.W.Fast.tw2606883706576394926:Unit:=()
def PySem.W.Fast.tw1197188394800890553:Unit:=()
def PySem.W.Fast.tw17676136322461180184:Unit:=()
def PySem.W.Fast.tw6492915691099250075:Unit:=()
def PySem.W.Fast.tw7354162138982459325:Unit:=()
def PySem.W.Fast.tw14491655660920849090:Unit:=()
def PySem.W.Fast.tw11211352653631292761:Unit:=()
def PySem.W.Fast.tw5483490278583172083:Unit:=()
def PySem.W.Fast.tw6312551317079308712:Unit:=()
def PySem.W.Fast.tw3350850144073306827:Unit:=()
def PySem.W.Fast.tw12602606700564633225:Unit:=()
def PySem.W.Fast.tw4233666442283123809:Unit:=()
def PySem.W.Fast.tw3410689616554401545:Unit:=()
def PySem.W.Fast.tw15808399027852908776:Unit:=()
def PySem.W.Fast.tw9405087484562907893:Unit:=()
def PySem.W.Fast.tw12576037642561226032:Unit:=()
def PySem.W.Fast.tw14892250155813360494:Unit:=()
def PySem.W.Fast.tw10773031406614126420:Unit:=()
def PySem.W.Fast.tw3224029317411812457:Unit:=()
def PySem.W.Fast.tw1371623455382049136:Unit:=()
def PySem.W.Fast.tw3941976843920547047:Unit:=()
def PySem.W.Fast.tw13601485342869330086:Unit:=()
def PySem.W.Fast.tw15747623075990545559:Unit:=()
def PySem.W.Fast.tw13019344648523460640:Unit:=()
def PySem.W.Fast.tw17806546893679629477:Unit:=()
def PySem.W.Fast.tw9828583112106270937:Unit:=()
def PySem.W.Fast.tw18287966112651786055:Unit:=()
def PySem.W.Fast.tw4159636938047338320:Unit:=()
def PySem.W.Fast.tw958590992746171199:Unit:=()
def PySem.W.Fast.tw2544841506841502311:Unit:=()
def PySem.W.Fast.tw10029742790020205878:Unit:=()
def PySem.W.Fast.tw16488213897443177623:Unit:=()
def PySem.W.Fast.tw7454882748222648870:Unit:=()
def PySem.W.Fast.tw18258077835541558232:Unit:=()
def PySem.W.Fast.tw16345467717008028129:Unit:=()
def PySem.W.Fast.tw2994157449129029460:Unit:=()
def PySem.W.Fast.tw1015763974051424762:Unit:=()
def PySem.W.Fast.tw13176981230969133554:Unit:=()
def PySem.W.Fast.tw14731041545203931372:Unit:=()
def PySem.W.Fast.tw1964116303357537857:Unit:=()
def PySem.W.Fast.tw13109901871123293109:Unit:=()
def PySem.W.Fast.tw74020372320527542:Unit:=()
def PySem.W.Fast.tw14688566697602791509:Unit:=()
def PySem.W.Fast.tw12948858390299802086:Unit:=()
def PySem.W.Fast.tw8823911855684043407:Unit:=()
def PySem.W.Fast.tw8819250288446220956:Unit:=()
def PySem.W.Fast.tw4152066476623015949:Unit:=()
def PySem.W.Fast.tw5104564437144005526:Unit:=()
def PySem.W.Fast.tw14397849256398274789:Unit:=()
def PySem.W.Fast.tw11287935923859093399:Unit:=()
def PySem.W.Fast.tw8625976767492351099:Unit:=()
def PySem.W.Fast.tw16703788017233307962:Unit:=()
def PySem.W.Fast.tw7925890348839831303:Unit:=()
def PySem.W.Fast.tw17232200533222505673:Unit:=()
def PySem.W.Fast.tw10146777087117527791:Unit:=()
def PySem.W.Fast.tw7971832085287050821:Unit:=()
def PySem.W.Fast.tw16393742812556500074:Unit:=()
def PySem.W.Fast.tw14498224618499824110:Unit:=()
def PySem.W.Fast.tw3555646001585512782:Unit:=()
def PySem.W.Fast.tw10492037695774339173:Unit:=()
def PySem.W.Fast.tw597669714904078148:Unit:=()
def PySem.W.Fast.tw15185548346533984617:Unit:=()
def PySem.W.Fast.tw724596298702619765:Unit:=()
def PySem.W.Fast.tw12854021036927370861:Unit:=()
def PySem.W.Fast.tw14783589379389909060:Unit:=()
def PySem.W.Fast.tw8115447282289100467:Unit:=()
def PySem.W.Fast.tw6380168356455736553:Unit:=()
def PySem.W.Fast.tw15229306287713063426:Unit:=()
def PySem.W.Fast.tw12225102981784517397:Unit:=()
def PySem.W.Fast.tw10819049985758159878:Unit:=()
def PySem.W.Fast.tw11030665422725784250:Unit:=()
def PySem.W.Fast.tw595402097174870673:Unit:=()
def PySem.W.Fast.tw2916000543056520617:Unit:=()
def PySem.W.Fast.tw5212683050678975466:Unit:=()
def PySem.W.Fast.tw9590291654705843381:Unit:=()
def PySem.W.Fast.tw7870362095957199224:Unit:=()
def PySem.W.Fast.tw13726946117638337954:Unit:=()
def PySem.W.Fast.tw7420663938428680595:Unit:=()
def PySem.W.Fast.tw14424229963445211114:Unit:=()
def PySem.W.Fast.tw13112594404404495681:Unit:=()
def PySem.W.Fast.tw11752181063084294633:Unit:=()
def PySem.W.Fast.tw5761951515883198720:Unit:=()
def PySem.W.Fast.tw5275448582910543284:Unit:=()
def PySem.W.Fast.tw15630604325726478474:Unit:=()
def PySem.W.Fast.tw1125823927344001079:Unit:=()
def PySem.W.Fast.tw7085897275821509439:Unit:=()
def PySem.W.Fast.tw13448924630460352719:Unit:=()
def PySem.W.Fast.tw643173735771387404:Unit:=()
def PySem.W.Fast.tw7820977240826943427:Unit:=()
def PySem.W.Fast.tw1924366052843443133:Unit:=()
def PySem.W.Fast.tw15949476364566814223:Unit:=()
def PySem.W.Fast.tw10799328927898009990:Unit:=()
def PySem.W.Fast.tw12769685368954427701:Unit:=()
def PySem.W.Fast.tw13521715495474896006:Unit:=()
def PySem.W.Fast.tw10098520436775701169:Unit:=()
def PySem.W.Fast.tw17573625934524978623:Unit:=()
def PySem.W.Fast.tw6237350070109229409:Unit:=()
def PySem.W.Fast.tw4965828456751954387:Unit:=()
def PySem.W.Fast.tw2014433386081710213:Unit:=()
def PySem.W.Fast.tw9017795357447179436:Unit:=()
def PySem.W.Fast.tw9605693645598400067:Unit:=()
def PySem.W.Fast.tw7980349810673368661:Unit:=()
def PySem.W.Fast.tw12446468741511774154:Unit:=()
def PySem.W.Fast.tw12390920420828362977:Unit:=()
def PySem.W.Fast.tw16018246192229468563:Unit:=()
def PySem.W.Fast.tw1984077110091304034:Unit:=()
def PySem.W.Fast.tw14836385553394643914:Unit:=()
def PySem.W.Fast.tw9396784513469315292:Unit:=()
def PySem.W.Fast.tw4460317996152592784:Unit:=()
def PySem.W.Fast.tw1777705625459371344:Unit:=()
def PySem.W.Fast.tw2001692346793567582:Unit:=()
def PySem.W.Fast.tw4935439168403501822:Unit:=()
def PySem.W.Fast.tw11790291158471606374:Unit:=()
def PySem.W.Fast.tw3176413994941204738:Unit:=()
def PySem.W.Fast.tw5309815016215192921:Unit:=()
def PySem.W.Fast.tw10201289482414885910:Unit:=()
def PySem.W.Fast.tw18110388161560406494:Unit:=()
def PySem.W.Fast.tw15560531574466563091:Unit:=()
def PySem.W.Fast.tw11317888658983553435:Unit:=()
def PySem.W.Fast.tw6311371367776778830:Unit:=()
def PySem.W.Fast.tw4273698317937025952:Unit:=()
def PySem.W.Fast.tw10244511598184304287:Unit:=()
def PySem.W.Fast.tw16148538290478363103:Unit:=()
def PySem.W.Fast.tw5760055625589022073:Unit:=()
def PySem.W.Fast.tw1951008627542931228:Unit:=()
def PySem.W.Fast.tw11509169832069874519:Unit:=()
def PySem.W.Fast.tw85380889014188560:Unit:=()
def PySem.W.Fast.tw7241033822367992523:Unit:=()
def PySem.W.Fast.tw8924962048891960900:Unit:=()
def PySem.W.Fast.tw14115561963576125897:Unit:=()
def PySem.W.Fast.tw14540255290639462021:Unit:=()
def PySem.W.Fast.tw2039205538605383998:Unit:=()
def PySem.W.Fast.tw7988555808155514506:Unit:=()
def PySem.W.Fast.tw12824712901829529690:Unit:=()
def PySem.W.Fast.tw6339387513364355559:Unit:=()
def PySem.W.Fast.tw6745710136404219007:Unit:=()
def PySem.W.Fast.tw11028586586968682774:Unit:=()
def PySem.W.Fast.tw12151799173010808651:Unit:=()
def PySem.W.Fast.tw146141632279230672:Unit:=()
def PySem.W.Fast.tw16816319480038868317:Unit:=()
def PySem.W.Fast.tw7482996472464360108:Unit:=()
def PySem.W.Fast.tw3418966666872702027:Unit:=()
def PySem.W.Fast.tw17076644044351431717:Unit:=()
def PySem.W.Fast.tw15663921444802101124:Unit:=()
def PySem.W.Fast.tw6697130255504876422:Unit:=()
def PySem.W.Fast.tw17740340757568467289:Unit:=()
def PySem.W.Fast.tw7287526069520514149:Unit:=()
def PySem.W.Fast.tw5854287412773490336:Unit:=()
def PySem.W.Fast.tw14313382661890947819:Unit:=()
def PySem.W.Fast.tw1629222217821126644:Unit:=()
def PySem.W.Fast.tw2867479381933338196:Unit:=()
def PySem.W.Fast.tw6951283378330212370:Unit:=()
def PySem.W.Fast.tw3231971890887907053:Unit:=()
def PySem.W.Fast.tw7249843513318728457:Unit:=()
def PySem.W.Fast.tw12739661709412551844:Unit:=()
def PySem.W.Fast.tw11767641326587549231:Unit:=()
def PySem.W.Fast.tw7517655716326465192:Unit:=()
def PySem.W.Fast.tw10848536388282529352:Unit:=()
def PySem.W.Fast.tw8794564277279119563:Unit:=()
def PySem.W.Fast.tw9071579695068781040:Unit:=()
def PySem.W.Fast.tw9260844790882470050:Unit:=()
def PySem.W.Fast.tw13723418182252093151:Unit:=()
def PySem.W.Fast.tw2988181236207512880:Unit:=()
def PySem.W.Fast.tw4271858569079842780:Unit:=()
def PySem.W.Fast.tw9082631899804396626:Unit:=()
def PySem.W.Fast.tw3475113124669132658:Unit:=()
def PySem.W.Fast.tw8611827226033422609:Unit:=()
def PySem.W.Fast.tw8178608951826814401:Unit:=()
def PySem.W.Fast.tw29362955993807595:Unit:=()
def PySem.W.Fast.tw1982424784263193765:Unit:=()
def PySem.W.Fast.tw18018186748614069122:Unit:=()
def PySem.W.Fast.tw11774962362185583738:Unit:=()
def PySem.W.Fast.tw12478993060071932460:Unit:=()
def PySem.W.Fast.tw1436166896303060172:Unit:=()
def PySem.W.Fast.tw4859726941877266330:Unit:=()
def PySem.W.Fast.tw17415979957108408169:Unit:=()
def PySem.W.Fast.tw14188898225407044464:Unit:=()
def PySem.W.Fast.tw1882327823576766200:Unit:=()
def PySem.W.Fast.tw13052096429478646055:Unit:=()
def PySem.W.Fast.tw11963779355981550684:Unit:=()
def PySem.W.Fast.tw8039430790818440276:Unit:=()
def PySem.W.Fast.tw7937594404674851451:Unit:=()
def PySem.W.Fast.tw11921243762406134041:Unit:=()
def PySem.W.Fast.tw13365817461497426637:Unit:=()
def PySem.W.Fast.tw6123293797956748080:Unit:=()
def PySem.W.Fast.tw17947558497205688877:Unit:=()
def PySem.W.Fast.tw6888156027919218025:Unit:=()
def PySem.W.Fast.tw8854252457496051913:Unit:=()
def PySem.W.Fast.tw2865089434117970107:Unit:=()
def PySem.W.Fast.tw8615648849989033622:Unit:=()
def PySem.W.Fast.tw5246572195538061435:Unit:=()
def PySem.W.Fast.tw213199800974839214:Unit:=()
def PySem.W.Fast.tw15721841647066593693:Unit:=()
def PySem.W.Fast.tw3971896650166175317:Unit:=()
def PySem.W.Fast.tw5557444349320015217:Unit:=()
def PySem.W.Fast.tw5189448364339851466:Unit:=()
def PySem.W.Fast.tw17476966841764696801:Unit:=()
def PySem.W.Fast.tw9586931192630591237:Unit:=()
def PySem.W.Fast.tw12633142050774103344:Unit:=()
def PySem.W.Fast.tw802515289071393581:Unit:=()
def PySem.W.Fast.tw2974818173965364862:Unit:=()
def PySem.W.Fast.tw18289085654223327923:Unit:=()
def PySem.W.Fast.tw10997504021304620241:Unit:=()
def PySem.W.Fast.tw383659311628942666:Unit:=()
def PySem.W.Fast.tw3628155703205279058:Unit:=()
def PySem.W.Fast.tw967152097268064076:Unit:=()
def PySem.W.Fast.tw7469695777779366180:Unit:=()
def PySem.W.Fast.tw8676606341615933005:Unit:=()
def PySem.W.Fast.tw15807264597353980775:Unit:=()
def PySem.W.Fast.tw2724988293648271408:Unit:=()
def PySem.W.Fast.tw11662481066205954236:Unit:=()
def PySem.W.Fast.tw1536741280550181389:Unit:=()
def PySem.W.Fast.tw15997236902989757659:Unit:=()
def PySem.W.Fast.tw18060335143949082960:Unit:=()
def PySem.W.Fast.tw6572126969865634457:Unit:=()
def PySem.W.Fast.tw17007230745431471630:Unit:=()
def PySem.W.Fast.tw7549901187122646474:Unit:=()
def PySem.W.Fast.tw6773216065063961849:Unit:=()
def PySem.W.Fast.tw2744904279499006178:Unit:=()
def PySem.W.Fast.tw12623940986692401304:Unit:=()
def PySem.W.Fast.tw4534491389910486447:Unit:=()
def PySem.W.Fast.tw12128814700700121554:Unit:=()
def PySem.W.Fast.tw4997675679321393988:Unit:=()
def PySem.W.Fast.tw17715156482719451889:Unit:=()
def PySem.W.Fast.tw4409196854049174898:Unit:=()
def PySem.W.Fast.tw16763184174340104166:Unit:=()
def PySem.W.Fast.tw4778269384159669241:Unit:=()
def PySem.W.Fast.tw6167006421389415479:Unit:=()
def PySem.W.Fast.tw7271347963017000212:Unit:=()
def PySem.W.Fast.tw8020426128096830042:Unit:=()
def PySem.W.Fast.tw17572615059703231500:Unit:=()
def PySem.W.Fast.tw14807526577124104602:Unit:=()
def PySem.W.Fast.tw7584850302770702340:Unit:=()
def PySem.W.Fast.tw8954755546329642362:Unit:=()
def PySem.W.Fast.tw15055562094467907606:Unit:=()
def PySem.W.Fast.tw3887201834464172603:Unit:=()
def PySem.W.Fast.tw6389784912840192934:Unit:=()
def PySem.W.Fast.tw7439148139067574651:Unit:=()
def PySem.W.Fast.tw14244722961938911845:Unit:=()
def PySem.W.Fast.tw2321016999571758020:Unit:=()
def PySem.W.Fast.tw239678360843926333:Unit:=()
def PySem.W.Fast.tw9523866014181058497:Unit:=()
def PySem.W.Fast.tw616588449745695573:Unit:=()
def PySem.W.Fast.tw16891161434918532899:Unit:=()
def PySem.W.Fast.tw3948546138213948789:Unit:=()
def PySem.W.Fast.tw17624431248728178675:Unit:=()
def PySem.W.Fast.tw11310736925784797536:Unit:=()
def PySem.W.Fast.tw6904271520176357685:Unit:=()
def PySem.W.Fast.tw3083962068893174984:Unit:=()
def PySem.W.Fast.tw4214695038709837206:Unit:=()
def PySem.W.Fast.tw8182195882424261363:Unit:=()
def PySem.W.Fast.tw7039972646649045940:Unit:=()
def PySem.W.Fast.tw8062456566107617853:Unit:=()
def PySem.W.Fast.tw13357033764318539513:Unit:=()
def PySem.W.Fast.tw1465623450183692603:Unit:=()
def PySem.W.Fast.tw14720876210733860205:Unit:=()
def PySem.W.Fast.tw11529700391470154407:Unit:=()
def PySem.W.Fast.tw16729813470414325670:Unit:=()
def PySem.W.Fast.tw14713054526194178953:Unit:=()
def PySem.W.Fast.tw7301602851222925537:Unit:=()
def PySem.W.Fast.tw1132645076937061893:Unit:=()
def PySem.W.Fast.tw7000589522442098540:Unit:=()
def PySem.W.Fast.tw9817069564982144363:Unit:=()
def PySem.W.Fast.tw13915715250912785577:Unit:=()
def PySem.W.Fast.tw7907015176682506803:Unit:=()
def PySem.W.Fast.tw17400421228876199424:Unit:=()
def PySem.W.Fast.tw3631812628680142393:Unit:=()
def PySem.W.Fast.tw13461113992246534064:Unit:=()
def PySem.W.Fast.tw10639967429388414548:Unit:=()
def PySem.W.Fast.tw12928581266854499955:Unit:=()
def PySem.W.Fast.tw11642443400484578502:Unit:=()
def PySem.W.Fast.tw8497937828843114785:Unit:=()
def PySem.W.Fast.tw10770798147308212234:Unit:=()
def PySem.W.Fast.tw16372811900044256140:Unit:=()
def PySem.W.Fast.tw9598552791178560353:Unit:=()
def PySem.W.Fast.tw3624526018932708276:Unit:=()
def PySem.W.Fast.tw2357485522340395420:Unit:=()
def PySem.W.Fast.tw6161382575496686566:Unit:=()
def PySem.W.Fast.tw9123711898121570586:Unit:=()
def PySem.W.Fast.tw2620280864979015544:Unit:=()
def PySem.W.Fast.tw5201192661577336611:Unit:=()
def PySem.W.Fast.tw11972442707029359118:Unit:=()
def PySem.W.Fast.tw18346275041931657443:Unit:=()
def PySem.W.Fast.tw8390158983375505619:Unit:=()
open PySem PySem.W PyProof.Rows
set_option maxRecDepth 100000 in
set_option maxHeartbeats 0 in
theorem PySem.Challenge.cw_paneworks_k42_things_brought_holds : PySem.Challenge.rw_paneworks_k42_things_brought.Holds := by
 w_on;o_law;k_head; (case hw=>w_witness2)
 k_fill
 refine L2.Jy (l := PySem.Challenge.rw_paneworks_k42_things_brought) (k := 10) (x := "_law_script") rfl rfl ⟨rfl, by decide, by decide⟩ (fun w h Y => PySem.W.kIn_of Y) ?F
 case F =>
  intro w mg fa h KX G hmg
  have B:L2.iV mg:=by
   refine' L2.Sw KX G ?z0 ?z1 ?z2 ?z3 ?z4 ?z5 ?z6 ?z7 ?z8 ?z9 ?W8 ?W9 ?Xa ?Xc ?Xd ?Xe ?Xf
   all_goals k_is
  have T : ∃ cU cA cB cC cT cF cD cS cI,My.Txt (L2.KOf KX) mg cU cA cB cC cT cF cD cS cI:=by
   dsimp only [L2.KOf]
   refine' My.F6 KX G ?y1 ?y2 ?y3 ?y4 ?y5 ?y6 ?y7 ?y8 ?y9 ?y10 ?y11 ?y12 ?y13 ?y14 ?y15 ?y16 ?y17 ?y18 ?y19 ?y20 ?y21 ?y22 ?y23 ?y24 ?y25 ?y26 ?y27 ?y28 ?y29 ?y30 ?y31 ?y32 ?y33 ?y34 ?y35 ?y36 ?y37 ?y38 ?y39 ?y40 ?y41 ?y42 ?y43 ?y44 ?y45 ?y46 ?y47 ?y48 ?y49 ?y50 ?y51 ?y52 ?y53 ?y54 ?y55 ?y56 ?y57 ?y58 ?y59 ?y60 ?y61 ?y62 ?y63 ?y64 ?y65 ?y66 ?y67 ?y68 ?y69 ?y70 ?y71 ?y72 ?y73 ?y74 ?y75 ?y76 ?y77 ?y78 ?y79 ?y80 ?y81 ?y82 ?y83 ?y84 ?y85 ?y86 ?y87 ?y88 ?y89 ?y90 ?y91 ?y92 ?y93 ?y94 ?y95 ?y96 ?y97 ?y98 ?y99 ?ady ?adz ?adA ?adB ?adC ?adD ?adE ?adF ?adG ?adH ?adI ?adJ ?adK ?adL ?adM ?adN ?adO ?adP ?adQ ?adR ?adS ?adT ?adU ?adV ?adW ?adX ?adY ?adZ ?ad0 ?ad1 ?ad2 ?ad3 ?ad4 ?ad5 ?ad6 ?ad7 ?ad8 ?ad9 ?aea ?aeb ?aec ?aed ?aee ?aef ?aeg ?aeh ?aei ?aej ?aek ?ael ?aem ?aen ?aeo ?aep ?aeq ?aer ?aes ?aet ?aeu ?aev ?aew ?aex ?aey ?aez ?aeA ?aeB ?aeC ?aeD ?aeE ?aeF ?aeG ?aeH ?aeI ?aeJ ?aeK ?aeL ?aeM ?aeN ?aeO ?aeP ?aeQ ?aeR ?aeS ?aeT ?aeU ?aeV ?aeW ?aeX ?aeY ?aeZ ?ae0 ?ae1 ?ae2 ?ae3 ?ae4 ?ae5 ?ae6 ?ae7 ?ae8 ?ae9 ?afa ?afb ?afc ?afd ?afe ?afg ?afh ?afi ?afj ?afk ?afl ?afm ?afn ?afo ?afp ?afq ?afr ?afs ?aft ?afu ?afv ?afw ?afx ?afy ?afz ?afA ?afB ?afC ?afD ?afE ?afF ?afG ?afH ?afI ?afJ ?afK ?afL ?afM ?afN ?afO ?afP ?afQ ?afR ?afS ?afT ?afU ?afV ?afW ?afX ?afY ?afZ ?af0 ?af1 ?af2 ?af3 ?af4 ?af5 ?af6 ?af7 ?af8 ?af9 ?aga ?agb ?agc ?agd ?age ?agf ?agg ?agh ?agi ?agj ?agk ?agl ?agm ?agn ?ago ?agp ?agq ?agr ?ags ?agt ?agu ?agv ?agw ?agx ?agy ?agz ?agA ?agB ?agC ?agD ?agE ?agF ?agG ?agH ?agI ?agJ ?agK ?agL ?agM ?agN ?agO ?agP ?agQ ?agR ?agS ?agT ?agU ?agV ?agW ?agX ?agY ?agZ ?ag0 ?ag1 ?ag2 ?ag3 ?ag4 ?ag5 ?ag6
   (case y1=>walk_at "kr")
   (case y2=>walk_at "kr")
   (case y3=>walk_at "kr")
   (case y4=>walk_at "kr")
   (case y5=>walk_at "kr")
   (case y6=>walk_at "kr")
   (case y7=>walk_at "kr")
   (case y8=>walk_at "kr")
   (case y9=>walk_at "kr")
   (case y10=>walk_at "kr")
   (case y11=>walk_at "kr")
   (case y12=>walk_at "kr")
   (case y13=>walk_at "kr")
   (case y14=>walk_at "kr")
   (case y15=>walk_at "kr")
   (case y16=>walk_at "kr")
   (case y17=>walk_at "kr")
   (case y18=>walk_at "kr")
   (case y19=>walk_at "kr")
   (case y20=>walk_at "kr")
   (case y21=>walk_at "kr")
   (case y22=>walk_at "kr")
   (case y23=>walk_at "kr")
   (case y24=>walk_at "kr")
   (case y25=>walk_at "kr")
   (case y26=>walk_at "kr")
   (case y27=>walk_at "kr")
   (case y28=>walk_at "kr")
   (case y29=>walk_at "kr")
   (case y30=>walk_at "kr")
   (case y31=>walk_at "kr")
   (case y32=>walk_at "kr")
   (case y33=>walk_at "kr")
   (case y34=>walk_at "kr")
   (case y35=>walk_at "kr")
   (case y36=>walk_at "kr")
   (case y37=>walk_at "kr")
   (case y38=>walk_at "kr")
   (case y39=>walk_at "kr")
   (case y40=>walk_at "kr")
   (case y41=>walk_at "kr")
   (case y42=>walk_at "kr")
   (case y43=>walk_at "kr")
   (case y44=>walk_at "kr")
   (case y45=>walk_at "kr")
   (case y46=>walk_at "kr")
   (case y47=>walk_at "kr")
   (case y48=>walk_at "kr")
   (case y49=>walk_at "kr")
   (case y50=>walk_at "kr")
   (case y51=>walk_at "kr")
   (case y52=>walk_at "kr")
   (case y53=>walk_at "kr")
   (case y54=>walk_at "kr")
   (case y55=>walk_at "kr")
   (case y56=>walk_at "kr")
   (case y57=>walk_at "kr")
   (case y58=>walk_at "kr")
   (case y59=>walk_at "kr")
   (case y60=>walk_at "kr")
   (case y61=>walk_at "kr")
   (case y62=>walk_at "kr")
   (case y63=>walk_at "kr")
   (case y64=>walk_at "kr")
   (case y65=>walk_at "kr")
   (case y66=>walk_at "kr")
   (case y67=>walk_at "kr")
   (case y68=>walk_at "kr")
   (case y69=>walk_at "kr")
   (case y70=>walk_at "kr")
   (case y71=>walk_at "kr")
   (case y72=>walk_at "kr")
   (case y73=>walk_at "kr")
   (case y74=>walk_at "kr")
   (case y75=>walk_at "kr")
   (case y76=>walk_at "kr")
   (case y77=>walk_at "kr")
   (case y78=>walk_at "kr")
   (case y79=>walk_at "kr")
   (case y80=>walk_at "kr")
   (case y81=>walk_at "kr")
   (case y82=>walk_at "kr")
   (case y83=>walk_at "kr")
   (case y84=>walk_at "kr")
   (case y85=>walk_at "kr")
   (case y86=>walk_at "kr")
   (case y87=>walk_at "kr")
   (case y88=>walk_at "kr")
   (case y89=>walk_at "kr")
   (case y90=>walk_at "kr")
   (case y91=>walk_at "kr")
   (case y92=>walk_at "kr")
   (case y93=>walk_at "kr")
   (case y94=>walk_at "kr")
   (case y95=>walk_at "kr")
   (case y96=>walk_at "kr")
   (case y97=>walk_at "kr")
   (case y98=>walk_at "kr")
   (case y99=>walk_at "kr")
   (case ady=>walk_at "kr")
   (case adz=>walk_at "kr")
   (case adA=>walk_at "kr")
   (case adB=>walk_at "kr")
   (case adC=>walk_at "kr")
   (case adD=>walk_at "kr")
   (case adE=>walk_at "kr")
   (case adF=>walk_at "kr")
   (case adG=>walk_at "kr")
   (case adH=>walk_at "kr")
   (case adI=>walk_at "kr")
   (case adJ=>walk_at "kr")
   (case adK=>walk_at "kr")
   (case adL=>walk_at "kr")
   (case adM=>walk_at "kr")
   (case adN=>walk_at "kr")
   (case adO=>walk_at "kr")
   (case adP=>walk_at "kr")
   (case adQ=>walk_at "kr")
   (case adR=>walk_at "kr")
   (case adS=>walk_at "kr")
   (case adT=>walk_at "kr")
   (case adU=>walk_at "kr")
   (case adV=>walk_at "kr")
   (case adW=>walk_at "kr")
   (case adX=>walk_at "kr")
   (case adY=>walk_at "kr")
   (case adZ=>walk_at "kr")
   (case ad0=>walk_at "kr")
   (case ad1=>walk_at "kr")
   (case ad2=>walk_at "kr")
   (case ad3=>walk_at "kr")
   (case ad4=>walk_at "kr")
   (case ad5=>walk_at "kr")
   (case ad6=>walk_at "kr")
   (case ad7=>walk_at "kr")
   (case ad8=>walk_at "kr")
   (case ad9=>walk_at "kr")
   (case aea=>walk_at "kr")
   (case aeb=>walk_at "kr")
   (case aec=>walk_at "kr")
   (case aed=>walk_at "kr")
   (case aee=>walk_at "kr")
   (case aef=>walk_at "kr")
   (case aeg=>walk_at "kr")
   (case aeh=>walk_at "kr")
   (case aei=>walk_at "kr")
   (case aej=>walk_at "kr")
   (case aek=>walk_at "kr")
   (case ael=>walk_at "kr")
   (case aem=>walk_at "kr")
   (case aen=>walk_at "kr")
   (case aeo=>walk_at "kr")
   (case aep=>walk_at "kr")
   (case aeq=>walk_at "kr")
   (case aer=>walk_at "kr")
   (case aes=>walk_at "kr")
   (case aet=>walk_at "kr")
   (case aeu=>walk_at "kr")
   (case aev=>walk_at "kr")
   (case aew=>walk_at "kr")
   (case aex=>walk_at "kr")
   (case aey=>walk_at "kr")
   (case aez=>walk_at "kr")
   (case aeA=>walk_at "kr")
   (case aeB=>walk_at "kr")
   (case aeC=>walk_at "kr")
   (case aeD=>walk_at "kr")
   (case aeE=>walk_at "kr")
   (case aeF=>walk_at "kr")
   (case aeG=>walk_at "kr")
   (case aeH=>walk_at "kr")
   (case aeI=>walk_at "kr")
   (case aeJ=>walk_at "kr")
   (case aeK=>walk_at "kr")
   (case aeL=>walk_at "kr")
   (case aeM=>walk_at "kr")
   (case aeN=>walk_at "kr")
   (case aeO=>walk_at "kr")
   (case aeP=>walk_at "kr")
   (case aeQ=>walk_at "kr")
   (case aeR=>walk_at "kr")
   (case aeS=>walk_at "kr")
   (case aeT=>walk_at "kr")
   (case aeU=>walk_at "kr")
   (case aeV=>walk_at "kr")
   (case aeW=>walk_at "kr")
   (case aeX=>walk_at "kr")
   (case aeY=>walk_at "kr")
   (case aeZ=>walk_at "kr")
   (case ae0=>walk_at "kr")
   (case ae1=>walk_at "kr")
   (case ae2=>walk_at "kr")
   (case ae3=>walk_at "kr")
   (case ae4=>walk_at "kr")
   (case ae5=>walk_at "kr")
   (case ae6=>walk_at "kr")
   (case ae7=>walk_at "kr")
   (case ae8=>walk_at "kr")
   (case ae9=>walk_at "kr")
   (case afa=>walk_at "kr")
   (case afb=>walk_at "kr")
   (case afc=>walk_at "kr")
   (case afd=>walk_at "kr")
   (case afe=>walk_at "kr")
   (case afg=>walk_at "kr")
   (case afh=>walk_at "kr")
   (case afi=>walk_at "kr")
   (case afj=>walk_at "kr")
   (case afk=>walk_at "kr")
   (case afl=>walk_at "kr")
   (case afm=>walk_at "kr")
   (case afn=>walk_at "kr")
   (case afo=>walk_at "kr")
   (case afp=>walk_at "kr")
   (case afq=>walk_at "kr")
   (case afr=>walk_at "kr")
   (case afs=>walk_at "kr")
   (case aft=>walk_at "kr")
   (case afu=>walk_at "kr")
   (case afv=>walk_at "kr")
   (case afw=>walk_at "kr")
   (case afx=>walk_at "kr")
   (case afy=>walk_at "kr")
   (case afz=>walk_at "kr")
   (case afA=>walk_at "kr")
   (case afB=>walk_at "kr")
   (case afC=>walk_at "kr")
   (case afD=>walk_at "kr")
   (case afE=>walk_at "kr")
   (case afF=>walk_at "kr")
   (case afG=>walk_at "kr")
   (case afH=>walk_at "kr")
   (case afI=>walk_at "kr")
   (case afJ=>walk_at "kr")
   (case afK=>walk_at "kr")
   (case afL=>walk_at "kr")
   (case afM=>walk_at "kr")
   (case afN=>walk_at "kr")
   (case afO=>walk_at "kr")
   (case afP=>walk_at "kr")
   (case afQ=>walk_at "kr")
   (case afR=>walk_at "kr")
   (case afS=>walk_at "kr")
   (case afT=>walk_at "kr")
   (case afU=>walk_at "kr")
   (case afV=>walk_at "kr")
   (case afW=>walk_at "kr")
   (case afX=>walk_at "kr")
   (case afY=>walk_at "kr")
   (case afZ=>walk_at "kr")
   (case af0=>walk_at "kr")
   (case af1=>walk_at "kr")
   (case af2=>walk_at "kr")
   (case af3=>walk_at "kr")
   (case af4=>walk_at "kr")
   (case af5=>walk_at "kr")
   (case af6=>walk_at "kr")
   (case af7=>walk_at "kr")
   (case af8=>walk_at "kr")
   (case af9=>walk_at "kr")
   (case aga=>walk_at "kr")
   (case agb=>walk_at "kr")
   (case agc=>walk_at "kr")
   (case agd=>walk_at "kr")
   (case age=>walk_at "kr")
   (case agf=>walk_at "kr")
   (case agg=>walk_at "kr")
   (case agh=>walk_at "kr")
   (case agi=>walk_at "kr")
   (case agj=>walk_at "kr")
   (case agk=>walk_at "kr")
   (case agl=>walk_at "kr")
   (case agm=>walk_at "kr")
   (case agn=>walk_at "kr")
   (case ago=>walk_at "kr")
   (case agp=>walk_at "kr")
   (case agq=>walk_at "kr")
   (case agr=>walk_at "kr")
   (case ags=>walk_at "kr")
   (case agt=>walk_at "kr")
   (case agu=>walk_at "kr")
   (case agv=>walk_at "kr")
   (case agw=>walk_at "kr")
   (case agx=>walk_at "kr")
   (case agy=>walk_at "kr")
   (case agz=>walk_at "kr")
   (case agA=>walk_at "kr")
   (case agB=>walk_at "kr")
   (case agC=>walk_at "kr")
   (case agD=>walk_at "kr")
   (case agE=>walk_at "kr")
   (case agF=>walk_at "kr")
   (case agG=>walk_at "kr")
   (case agH=>walk_at "kr")
   (case agI=>walk_at "kr")
   (case agJ=>walk_at "kr")
   (case agK=>walk_at "kr")
   (case agL=>walk_at "kr")
   (case agM=>walk_at "kr")
   (case agN=>walk_at "kr")
   (case agO=>walk_at "kr")
   (case agP=>walk_at "kr")
   (case agQ=>walk_at "kr")
   (case agR=>walk_at "kr")
   (case agS=>walk_at "kr")
   (case agT=>walk_at "kr")
   (case agU=>walk_at "kr")
   (case agV=>walk_at "kr")
   (case agW=>walk_at "kr")
   (case agX=>walk_at "kr")
   (case agY=>walk_at "kr")
   (case agZ=>walk_at "kr")
   (case ag0=>walk_at "kr")
   (case ag1=>walk_at "kr")
   (case ag2=>walk_at "kr")
   (case ag3=>walk_at "kr")
   (case ag4=>walk_at "kr")
   (case ag5=>walk_at "kr")
   (case ag6=>walk_at "kr")
  obtain ⟨cU,cA,cB,cC,cT,cF,cD,cS,cI,T⟩:=T
  exact L2.Vk T.Wb hmg (λ _ _ _ _ _ _ _=>rfl) λ base f fd F=>My.Ue F B T
#print axioms PySem.Challenge.cw_paneworks_k42_things_brought_holds

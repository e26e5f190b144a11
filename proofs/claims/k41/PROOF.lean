import PyProof.Rows.All
import Wide.All
import OpenK.AllK
import Wide.FinOn
import Lean
import PyProof.EqAt
import PyProof.EqKinds
import PyProof.TupleCall
import PyProof.Rows.SortWalk
import KE.KDictSum
import KE.LcSums
import KE.KEqDat
import KE.KRevIter
import PyProof.P3In
import PyProof.SliceStr2
import PyProof.MeetsStr
import PyProof.StrBlockI
import PyProof.StrWalks
import PyProof.FitsReplace
import PyProof.ListStr
import PyProof.ZipIter
import KE.KIntText
import KE.IntTextLaws
import PyProof.StrLawsIn
import PyProof.StrCalls2
import PyProof.Rows.CatFin
import PyProof.Rows.StrClose
import KE.IntTextText
import PyProof.StrLawsTight
import PyProof.StrLawsChain
import PyProof.Rows.StrItems
import PyProof.Rows.ReprOcc
import PyProof.Rows.SortStr
import PyProof.Rows.SetFrom
import PySem.Challenge.RW_paneworks_k41_put_out
set_option Elab.async false
set_option compiler.extract_closed false
set_option linter.all false
set_option maxRecDepth 100000
local macro_rules | `(tactic| walk_at "o3") => `(tactic| first | exact Or.inl rfl | exact Or.inr (Or.inl rfl) | exact Or.inr (Or.inr rfl))
local macro_rules | `(tactic| walk_at "o2") => `(tactic| first | exact Or.inl rfl | exact Or.inr rfl)
local macro_rules | `(tactic| walk_at "sc") => `(tactic| exact ⟨rfl,rfl,rfl,by decide +kernel,rfl,by decide +kernel,by decide +kernel⟩)
local macro_rules | `(tactic| walk_at "o4") => `(tactic| first | exact .inl rfl | exact .inr rfl | assumption)
local macro_rules | `(tactic| walk_at "v") => `(tactic| exact ⟨by rfl,by walk_at "o3",by decide,by decide⟩)
local macro_rules | `(tactic| walk_at "kr") => `(tactic| first | k_is | kernel_rfl)
namespace L2
open PySem PySem.Spec PyProof.Rows
abbrev Key:=Sum Int Str
def Am:Key->Value->Bool
 | .inl k,v=>Value.isInt k v
 | .inr x,v=>Value.isStrOf x v
def V9 (w:World):Key->Int
 | .inl k=>hashInt k
 | .inr x=>hashStr w x
theorem b9 : ∀ {k:Key} {v:Value},Am k v=true->(∃ i t,k=Sum.inl i/\v=Value.int i t)\/(∃ x t,k=Sum.inr x/\v=Value.str x t)
 | .inl i,v,h=>by
   obtain ⟨t,e⟩:=Value.isInt_shape (k:=i) (v:=v) h
   exact .inl ⟨i,t,rfl,e⟩
 | .inr x,v,h=>by
   obtain ⟨t,e⟩:=Value.isStrOf_shape (x:=x) (v:=v) h
   exact .inr ⟨x,t,rfl,e⟩
theorem Hy (i:Int) (t:Tok):Am (.inl i) (.int i t)=true:=by simp [Am,Value.isInt]
theorem Hz (x:Str) (t:Tok):Am (.inr x) (.str x t)=true:=by simp [Am,Value.isStrOf]
theorem PX (a b:Int):decide ((Sum.inl a:Key)=Sum.inl b)=(a == b):=by
 by_cases e:a=b
 ·subst e;simp
 ·have h : ¬ (Sum.inl a:Key)=Sum.inl b:=λ q=>e (Sum.inl.inj q)
  rw [decide_eq_false h]
  exact (beq_eq_false_iff_ne.mpr e).symm
theorem PY (a b:Str):decide ((Sum.inr a:Key)=Sum.inr b)=decide (a=b):=by
 by_cases e:a=b
 ·subst e;simp
 ·have h : ¬ (Sum.inr a:Key)=Sum.inr b:=λ q=>e (Sum.inr.inj q)
  rw [decide_eq_false h,decide_eq_false e]
theorem PZ (a:Int) (b:Str):decide ((Sum.inl a:Key)=Sum.inr b)=false:=decide_eq_false (λ q=>nomatch q)
theorem P0 (a:Str) (b:Int):decide ((Sum.inr a:Key)=Sum.inl b)=false:=decide_eq_false (λ q=>nomatch q)
def cg (prog:Program) (w:World):PySem.KeyKind prog w Key where
 is:=Am
 hash:=V9 w
 inj:=λ v a b ha hb=>by
  rcases b9 ha with ⟨i,t,rfl,rfl⟩ | ⟨x,t,rfl,rfl⟩
  ·rcases b9 hb with ⟨j,u,rfl,e⟩ | ⟨y,u,rfl,e⟩
   ·injection e with e1 _;rw [e1]
   ·exact nomatch e
  ·rcases b9 hb with ⟨j,u,rfl,e⟩ | ⟨y,u,rfl,e⟩
   ·exact nomatch e
   ·injection e with e1 _;rw [e1]
 byValue:=λ k v h=>by
  rcases b9 h with ⟨i,t,rfl,rfl⟩ | ⟨x,t,rfl,rfl⟩ <;> rfl
 pyHash:=λ hv h=>by
  rcases b9 hv with ⟨i,t,rfl,rfl⟩ | ⟨x,t,rfl,rfl⟩
  ·exact wpAny_pyHash_int h
  ·exact wpAny_pyHash_str h
 eqBool:=λ hu hv h=>by
  rcases b9 hu with ⟨i,t,rfl,rfl⟩ | ⟨x,t,rfl,rfl⟩
  ·rcases b9 hv with ⟨j,u,rfl,rfl⟩ | ⟨y,u,rfl,rfl⟩
   ·rw [PX] at h;exact wpAny_eqBool_int h
   ·rw [PZ] at h;exact SeqAt.EqAt.int_str i t y u _ _ _ _ h
  ·rcases b9 hv with ⟨j,u,rfl,rfl⟩ | ⟨y,u,rfl,rfl⟩
   ·rw [P0] at h;exact SeqAt.EqAt.str_int x t j u _ _ _ _ h
   ·rw [PY] at h;exact wpAny_eqBool_str h
 «strs» := λ k x t v h=>by
  rcases b9 h with ⟨i,u,rfl,e⟩ | ⟨y,u,rfl,e⟩
  ·exact nomatch e
  ·injection e with e1 _
   subst e1
   cases v <;> rfl
theorem CQ (prog:Program) (w:World) (i:Int) (t:Tok):(cg prog w).is (.inl i) (.int i t)=true:=Hy i t
theorem CS (prog:Program) (w:World) (x:Str) (t:Tok):(cg prog w).is (.inr x) (.str x t)=true:=Hz x t
end L2
namespace L2
open PySem PySem.Spec PyProof.Rows
inductive V where
 | aH | bl (b:Bool) | int (i:Int) | str (x:Str) | JD (b:Array UInt8) | Qa (b:UInt64) | ref (a:Addr) | ty (n:String)
 deriving DecidableEq
def RelV:V->Value->Prop
 | .aH,u=>u=Value.none
 | .bl b,u=>u=Value.bool b
 | .int i,u => ∃ t,u=Value.int i t
 | .str x,u => ∃ t,u=Value.str x t
 | .JD b,u => ∃ t,u=Value.bytes b t
 | .Qa b,u => ∃ t,u=Value.float b t
 | .ref a,u=>u=Value.ref a
 | .ty n,u=>u=Value.type n
abbrev Vals:List V->List Value->Prop:=Paired RelV
theorem Vals.length {xs:List V} {us:List Value} (r:Vals xs us):xs.length=us.length:=Paired.length r
theorem Vals.get : ∀ {xs:List V} {us:List Value} {i:Nat} {x:V},Vals xs us->xs[i]? = some x->∃ u,us[i]? = some u/\RelV x u
 | _,_,_,_,.nil,e=>by simp at e
 | _,_,0,_,.cons r _,e=>by simp at e;subst e;exact ⟨_,rfl,r⟩
 | _,_,i+1,x,.cons _ t,e=>by
   obtain ⟨u,h1,h2⟩:=Vals.get (i:=i) (x:=x) t (by simpa using e)
   exact ⟨u,by simpa using h1,h2⟩
theorem Vals.set {x:V} {u:Value} (r:RelV x u) : ∀ {xs:List V} {us:List Value} (i:Nat),Vals xs us->Vals (xs.set i x) (us.set i u)
 | _,_,_,.nil => .nil
 | _,_,0,.cons _ t => .cons r t
 | _,_,i+1,.cons q t => .cons q (Vals.set r i t)
theorem Vals.append : ∀ {xs ys:List V} {us ws:List Value},Vals xs us->Vals ys ws->Vals (xs++ys) (us++ws)
 | _,_,_,_,.nil,s=>s
 | _,_,_,_,.cons r t,s => .cons r (Vals.append t s)
theorem Vals.take : ∀ {xs:List V} {us:List Value} (n:Nat),Vals xs us->Vals (xs.take n) (us.take n)
 | _,_,0,_ => .nil
 | _,_,_+1,.nil => .nil
 | _,_,n+1,.cons r t => .cons r (Vals.take n t)
theorem Vals.drop : ∀ {xs:List V} {us:List Value} (n:Nat),Vals xs us->Vals (xs.drop n) (us.drop n)
 | _,_,0,r=>r
 | _,_,_+1,.nil => .nil
 | _,_,n+1,.cons _ t=>Vals.drop n t
def jy:Option V->Option Value->Prop
 | some v,some u=>RelV v u
 | none,none=>True
 | _,_=>False
def KV {κ : Type} : List (κ × V)->List (κ × Value)->Prop:=Paired fun (p : κ × V) (q : κ × Value)=>p.1=q.1/\RelV p.2 q.2
def kV:Key->V
 | .inl i => .int i
 | .inr x => .str x
inductive HO where
  | lst (xs:List V)
  | tup (xs:List V)
  | dK (kvs:List (Key×V)) | dT (kvs:List (List Key×V))
  | set (S:Int->Bool) (n:Nat)
  | ins (C dx:Addr) (fs:List (Str×V))
  | own (x:Addr)
  | xd (fs:List (Str×V))
  | met (f x:Addr)
  | Vb (lo hi:Int)
  | CJ (o:Obj) (u:HO)
  | OU (ps:Array Value)
  | ext (φ : Heap->Prop)
abbrev Hp:=Addr->Option HO
def upd (H:Hp) (a:Addr) (o:HO):Hp:=λ b=>if b=a then some o else H b
theorem i6 {H:Hp} {a:Addr} {o:HO} : upd H a o a=some o:=by unfold upd;rw [if_pos rfl]
theorem b3 {H:Hp} {a b:Addr} {o:HO} (h:b≠a):upd H a o b=H b:=by unfold upd;rw [if_neg h]
theorem SH {H:Hp} {a b:Addr} {o u:HO} (h:H a=some o) (h':H b=some u) (d:o≠u):a≠b:=by
 intro e;subst e;rw [h] at h';exact d (Option.some.inj h')
theorem fM {H:Hp} {a b:Addr} {o:HO} (h:H a=some o) (h':H b=none):a≠b:=by
 intro e;subst e;rw [h] at h';cases h'
section
variable (P:Program) (w:World)
def bS (H:Hp) (h:Heap) (a:Addr):HO->Prop
 | .lst xs=>xs.length<=sizeLine ∧ ∃ (its:List Value) (n:Nat),Vals xs its/\h.get? a=some { cls := .type "list",data := .seq its.toArray n }
 | .tup xs=>xs.length<=sizeLine ∧ ∃ its:List Value,Vals xs its/\IsTup h a its.toArray
 | .dK kvs=>kvs.length<=sizeLine/\(a == sysModules)=false ∧ ∃ vs,KV kvs vs/\h.DictOf (cg P w) a vs
 | .dT kvs=>kvs.length<=sizeLine/\(a == sysModules)=false ∧ ∃ xs:List (List Key×Addr×Value),
   Paired (fun (p:List Key×V) (q:List Key×Addr×Value)=>p.1=q.1/\H q.2.1=some (.tup (p.1.map kV))/\RelV p.2 q.2.2) kvs xs ∧
   ∃ o es ep,h.get? a=some o/\o.ExactDict/\o.data = .dict es ep/\es.toList=xs.map (entryOfKey (tupleKind (cg P w)))/\(xs.map (·.1)).Nodup
 | .set S n=>h.SetOf (intKind P w) a S n
 | .ins C dx fs=>H dx=some (.own a)/\fs.length<=1000/\dx≠a/\h.get? a=some (PySem.W.instObj C dx) ∧
   ∃ mA,h.Ns1 dx mA/\(∀ f,jy (fs.lookup f) (mA f))/\PySem.Within mA (fs.map (·.1))
 | .own _ => ∃ o,h.get? a=some o
 | .xd fs => ∃ mA,h.Ns1 a mA ∧ ∀ f,jy (fs.lookup f) (mA f)
 | .Vb lo hi => ∃ t u v,h.get? a=some { cls := .type "range",data := .fields #[.int lo t,.int hi u,.int 1 v] }
 | .CJ o u=>h.get? a=some o/\bS H h a u
 | .OU ps=>h.get? a=some { cls := .none,data := .fields ps }
 | .met f x=>h.get? a=some (PySem.W.methodObj (.ref f) (.ref x))
 | .ext φ => φ h/\(∃ o,h.get? a=some o) ∧ ∀ h1 h2:Heap,φ h1->(∀ o,h1.get? a=some o->h2.get? a=some o)->φ h2
def j6 (H:Hp) (h:Heap):Prop := ∀ a o,H a=some o->bS P w H h a o
end
section
variable {P:Program} {w:World} {H H':Hp} {h h':Heap} {a:Addr} {o:HO}
theorem bS.lt (x:bS P w H h a o):a < h.objs.size:=by
 cases o with
 | lst xs=>obtain ⟨_,_,_,_,e⟩:=x;exact Heap.lt_size e
 | tup xs=>obtain ⟨_,_,_,p⟩:=x;exact p.lt
 | dK kvs=>obtain ⟨_,_,_,_,o,_,_,e,_⟩:=x;exact Heap.lt_size e
 | dT kvs=>obtain ⟨_,_,_,_,o,_,_,e,_⟩:=x;exact Heap.lt_size e
 | set S n=>obtain ⟨o,_,_,_,e,_⟩:=x;exact Heap.lt_size e
 | ins C dx fs=>obtain ⟨_,_,_,e,_⟩:=x;exact Heap.lt_size e
 | own y=>obtain ⟨_,e⟩:=x;exact Heap.lt_size e
 | xd fs=>obtain ⟨_,⟨_,_,_,e,_⟩,_⟩:=x;exact Heap.lt_size e
 | Vb lo hi=>obtain ⟨_,_,_,e⟩:=x;exact Heap.lt_size e
 | CJ ob u=>obtain ⟨e,_⟩:=x;exact Heap.lt_size e
 | OU ps=>exact Heap.lt_size (show h.get? a=some _ from x)
 | met f y=>exact Heap.lt_size (show h.get? a=some _ from x)
 | ext φ => obtain ⟨_,⟨_,e⟩,_⟩:=x;exact Heap.lt_size e
theorem Paired.Qc {α β : Type} {F G : α->β->Prop} : ∀ {l₁ : List α} {l₂ : List β},Paired F l₁ l₂->(∀ a b,F a b->G a b)->Paired G l₁ l₂
 | _,_,.nil,_ => .nil
 | _,_,.cons r t,f => .cons (f _ _ r) (Paired.Qc t f)
theorem bS.stay (x:bS P w H h a o) (k : ∀ b u,(b=a\/H b=some (.own a))->h.get? b=some u->h'.get? b=some u)
  (ho : ∀ b,H b=some (.own a)->H' b=some (.own a)) (ht : ∀ b xs,H b=some (.tup xs)->H' b=some (.tup xs)):bS P w H' h' a o:=by
 induction o with
 | lst xs=>obtain ⟨z,its,n,r,e⟩:=x;exact ⟨z,its,n,r,k _ _ (.inl rfl) e⟩
 | tup xs=>obtain ⟨z,its,r,ob,e,c⟩:=x;exact ⟨z,its,r,ob,k _ _ (.inl rfl) e,c⟩
 | dK kvs=>obtain ⟨z,y,vs,r,ob,es,ep,e,c⟩:=x;exact ⟨z,y,vs,r,ob,es,ep,k _ _ (.inl rfl) e,c⟩
 | dT kvs =>
   obtain ⟨z,y,xs,r,ob,es,ep,e,c⟩:=x
   exact ⟨z,y,xs,Paired.Qc r λ p q z=>⟨z.1,ht _ _ z.2.1,z.2.2⟩,ob,es,ep,k _ _ (.inl rfl) e,c⟩
 | set S n=>obtain ⟨ob,es,ep,t,e,c⟩:=x;exact ⟨ob,es,ep,t,k _ _ (.inl rfl) e,c⟩
 | ins C dx fs =>
   obtain ⟨d,z,ne,e,mA,⟨od,es,ep,e2,c⟩,r⟩:=x
   exact ⟨ho _ d,z,ne,k _ _ (.inl rfl) e,mA,⟨od,es,ep,k _ _ (.inr d) e2,c⟩,r⟩
 | own y=>obtain ⟨ob,e⟩:=x;exact ⟨ob,k _ _ (.inl rfl) e⟩
 | xd fs=>obtain ⟨mA,⟨od,es,ep,e,c⟩,r⟩:=x;exact ⟨mA,⟨od,es,ep,k _ _ (.inl rfl) e,c⟩,r⟩
 | Vb lo hi=>obtain ⟨t,u,v,e⟩:=x;exact ⟨t,u,v,k _ _ (.inl rfl) e⟩
 | CJ ob u ih=>obtain ⟨e,q⟩:=x;exact ⟨k _ _ (.inl rfl) e,ih q⟩
 | OU ps =>
   have e:h.get? a=some { cls := .none,data := .fields ps } := x
   show h'.get? a=some { cls := .none,data := .fields ps }
   exact k a _ (.inl rfl) e
 | met f y =>
   have e:h.get? a=some (PySem.W.methodObj (.ref f) (.ref y)):=x
   show h'.get? a=some (PySem.W.methodObj (.ref f) (.ref y))
   exact k a _ (.inl rfl) e
 | ext φ => obtain ⟨p,⟨o,e⟩,st⟩:=x;exact ⟨st _ _ p λ o q=>k _ _ (.inl rfl) q,⟨o,k _ _ (.inl rfl) e⟩,st⟩
theorem j6.lt (x:j6 P w H h) (e:H a=some o):a < h.objs.size:=(x a o e).lt
theorem j6.fresh (x:j6 P w H h) (e:h.objs.size<=a):H a=none:=by
 cases q:H a with
 | none=>rfl
 | some u=>exact absurd (Nat.lt_of_lt_of_le (x.lt q) e) (Nat.lt_irrefl _)
theorem j6.kept (x:j6 P w H h) (k : ∀ b u,h.get? b=some u->h'.get? b=some u):j6 P w H h':=λ a o e =>
 (x a o e).stay (λ b u _ q=>k b u q) (λ _ q=>q) λ _ _ q=>q
theorem j6.laid (x:j6 P w H h) (k : ∀ b u,h.get? b=some u->h'.get? b=some u) (hp:h.objs.size<=a) (new:bS P w (upd H a o) h' a o):j6 P w (upd H a o) h':=λ b u e=>by
 have hn:=x.fresh hp
 by_cases hb:b=a
 ·subst hb;rw [i6] at e;cases e;exact new
 ·rw [b3 hb] at e
  exact (x b u e).stay (λ c v _ q=>k c v q) (λ c q=>by rw [b3 (fM q hn)];exact q) λ c xs q=>by rw [b3 (fM q hn)];exact q
end
def Rd (H:Hp) (a:Addr) (u:HO):Prop:=H a=some u ∨ ∃ o,H a=some (.CJ o u)
theorem Rd.of {H:Hp} {a:Addr} {u:HO} (h:H a=some u):Rd H a u := .inl h
theorem Rd.ok {P:Program} {w:World} {H:Hp} {h:Heap} {a:Addr} {u:HO} (r:Rd H a u) (x:j6 P w H h):bS P w H h a u:=by
 rcases r with r | ⟨o,r⟩
 ·exact x a u r
 ·obtain ⟨_,q⟩:=x a _ r
  exact q
def SJ:Option HO->Prop
 | some (.lst _)=>True
 | some (.dK _)=>True
 | some (.dT _)=>True
 | some (.set _ _)=>True
 | some (.ins _ _ _)=>True
 | some (.ext _)=>True
 | _=>False
section
variable {P:Program} {w:World} {H:Hp} {h h':Heap} {x e:Addr} {o':HO}
theorem j6.write (ok:j6 P w H h) (mu:SJ (H x)) (he:e=x\/H e=some (.own x)) (k : ∀ b u,b≠e->h.get? b=some u->h'.get? b=some u) (Si : ∃ u,h'.get? e=some u)
  (new:bS P w (upd H x o') h' x o'):j6 P w (upd H x o') h':=λ b u q=>by
 have SK : ∀ c y,H c=some (.own y)->c≠x:=λ c y r z=>by subst z;rw [r] at mu;exact mu
 have Wa : ∀ c xs,H c=some (.tup xs)->c≠x:=λ c xs r z=>by subst z;rw [r] at mu;exact mu
 by_cases hb:b=x
 ·subst hb;rw [i6] at q;cases q;exact new
 ·rw [b3 hb] at q
  by_cases Qd:b=e
  ·have q':H b=some (.own x):=by
    rcases he with z | z
    ·exact absurd (Qd.trans z) hb
    ·rw [Qd];exact z
   rw [q] at q';cases q'
   obtain ⟨v,hv⟩:=Si
   exact ⟨v,by rw [Qd];exact hv⟩
  ·refine (ok b u q).stay (λ c v hc r=>k c v ?_ r) (λ c r=>by rw [b3 (SK c b r)];exact r) λ c xs r=>by rw [b3 (Wa c xs r)];exact r
   rcases hc with rfl | hc
   ·exact Qd
   ·rintro rfl
    rcases he with z | z
    ·exact SK c b hc z
    ·rw [hc] at z;cases z;exact hb rfl
end
structure Un (fs ex:List Addr) (H H':Hp) (h h':Heap):Prop where
 keep : ∀ b o,h.get? b=some o->H b=none->b ∉ fs->b ∉ ex->h'.get? b=some o
 slot : ∀ b o,h.get? b=some o->H b=none->b∈fs->b ∉ ex->∃ sl,h'.get? b=some { o with slots:=sl }
 free : ∀ b o,h.get? b=some o->H b=none->b ∉ ex->H' b=none
 there : ∀ b o,h.get? b=some o->b ∉ ex->∃ o',h'.get? b=some o'
 tups : ∀ b xs,H b=some (.tup xs)->H' b=some (.tup xs)
 j7 : ∀ b o u,H b=some (.CJ o u)->H' b=some (.CJ o u)
 kF : ∀ b ps,H b=some (.OU ps)->∃ more,H' b=some (.OU (ps++more))
section
variable {fs fs' ex ex':List Addr} {H H1 H2:Hp} {h h1 h2 h':Heap} {a x e:Addr} {o:HO}
theorem Un.any (u:Un fs ex H H1 h h1) {b:Addr} {ob:Obj} (q:h.get? b=some ob) (n:H b=none) (hx:b ∉ ex) : ∃ sl,h1.get? b=some { ob with slots:=sl } := by
 by_cases hb:b∈fs
 ·exact u.slot b ob q n hb hx
 ·exact ⟨ob.slots,u.keep b ob q n hb hx⟩
theorem Un.trans (a:Un fs ex H H1 h h1) (b:Un fs ex H1 H2 h1 h2):Un fs ex H H2 h h2 where
 keep:=λ c ob q n hc hx=>b.keep c ob (a.keep c ob q n hc hx) (a.free c ob q n hx) hc hx
 slot:=λ c ob q n hc hx=>by
  obtain ⟨sl,e1⟩:=a.slot c ob q n hc hx
  obtain ⟨JK,e2⟩:=b.slot c _ e1 (a.free c ob q n hx) hc hx
  exact ⟨JK,e2⟩
 free:=λ c ob q n hx=>by
  obtain ⟨o',e1⟩:=a.there c ob q hx
  exact b.free c o' e1 (a.free c ob q n hx) hx
 there:=λ c ob q hx=>by
  obtain ⟨o',e1⟩:=a.there c ob q hx
  exact b.there c o' e1 hx
 tups:=λ c xs q=>b.tups c xs (a.tups c xs q)
 j7:=λ c ob xs q=>b.j7 c ob xs (a.j7 c ob xs q)
 kF:=λ c ps q=>by
  obtain ⟨m1,e1⟩:=a.kF c ps q
  obtain ⟨m2,e2⟩:=b.kF c _ e1
  exact ⟨m1++m2,by rw [e2,Array.append_assoc]⟩
theorem Un.kept (k : ∀ b u,h.get? b=some u->h'.get? b=some u):Un fs ex H H h h' :=
 ⟨λ b ob q _ _ _=>k b ob q,λ b ob q _ _ _=>⟨ob.slots,k b ob q⟩,λ _ _ _ n _=>n,λ b ob q _=>⟨ob,k b ob q⟩,λ _ _ q=>q,λ _ _ _ q=>q,λ _ ps q=>⟨#[],by rw [q];simp⟩⟩
theorem Un.refl:Un fs ex H H h h:=Un.kept λ _ _ q=>q
theorem Un.laid (k : ∀ b u,h.get? b=some u->h'.get? b=some u) (hp:h.objs.size<=a) (hn:H a=none):Un fs ex H (upd H a o) h h' where
 keep:=λ b u q _ _ _=>k b u q
 slot:=λ b u q _ _ _=>⟨u.slots,k b u q⟩
 free:=λ b u q n _=>by rw [b3 (Nat.ne_of_lt (Nat.lt_of_lt_of_le (Heap.lt_size q) hp))];exact n
 there:=λ b u q _=>⟨u,k b u q⟩
 tups:=λ b xs q=>by rw [b3 (fM q hn)];exact q
 j7:=λ b u xs q=>by rw [b3 (fM q hn)];exact q
 kF:=λ b ps q=>⟨#[],by rw [b3 (fM q hn),q];simp⟩
theorem Un.write (mu:SJ (H x)) (he:e=x\/H e=some (.own x)) (k : ∀ b u,b≠e->h.get? b=some u->h'.get? b=some u) (Si : ∃ u,h'.get? e=some u):Un fs ex H (upd H x o) h h':=by
 have hx : ∀ b,H b=none->b≠x:=λ b n z=>by subst z;rw [n] at mu;exact mu
 have hb : ∀ b,H b=none->b≠e:=λ b n z=>by
  subst z
  rcases he with r | r
  ·exact hx b n r
  ·rw [n] at r;cases r
 have hm : ∀ b u,H b=some u->¬ SJ (some u)->b≠x:=λ b u q nm z=>by subst z;rw [q] at mu;exact nm mu
 refine ⟨λ b u q n _ _=>k b u (hb b n) q,λ b u q n _ _=>⟨u.slots,k b u (hb b n) q⟩,λ b u q n _=>by rw [b3 (hx b n)];exact n,λ b u q _ => ?_,
  λ b xs q=>by rw [b3 (hm b _ q λ z=>z)];exact q,λ b u xs q=>by rw [b3 (hm b _ q λ z=>z)];exact q,λ b ps q=>⟨#[],by rw [b3 (hm b _ q λ z=>z),q];simp⟩⟩
 by_cases Qd:b=e
 ·subst Qd;exact Si
 ·exact ⟨u,k b u Qd q⟩
theorem Un.mono (u:Un fs ex H H1 h h1) (hs : ∀ b∈fs,b∈fs') (hx : ∀ b∈ex,b∈ex'):Un fs' ex' H H1 h h1 :=
 ⟨λ b ob q n hb he=>u.keep b ob q n (λ z=>hb (hs b z)) λ z=>he (hx b z),λ _ _ q n _ he=>u.any q n λ z=>he (hx _ z),λ b ob q n he=>u.free b ob q n λ z=>he (hx b z),λ b ob q he=>u.there b ob q λ z=>he (hx b z),u.tups,u.j7,u.kF⟩
end
def Vc (h:Heap) (H:Hp):List Addr:=(List.range h.objs.size).filter λ a=>(H a).isSome
def A3 (h:Heap) (H:Hp):Heap:=PySem.W.hideAll h (Vc h H)
theorem HA (h:Heap) (H:Hp):(A3 h H).objs.size=h.objs.size:=PySem.W.hideAll_size _ _
theorem JL {h:Heap} {H:Hp} {b:Addr} {o:Obj} (e:h.get? b=some o) (n:H b=none):(A3 h H).get? b=some o :=
 PySem.W.hideAll_get _ e λ hm=>by
  have q:(H b).isSome=true:=(List.mem_filter.mp hm).2
  rw [n] at q;simp at q
theorem MX {h:Heap} {H:Hp} {b:Addr} {o:Obj} (e:(A3 h H).get? b=some o):h.get? b=some o/\H b=none:=by
 have e':h.get? b=some o:=PySem.W.of_hideAll (Vc h H) e
 refine ⟨e',?_⟩
 cases q:H b with
 | none=>rfl
 | some x =>
   have hm:b∈Vc h H:=List.mem_filter.mpr ⟨List.mem_range.mpr (Heap.lt_size e'),by simp [q]⟩
   have z:(A3 h H).get? b=none:=PySem.W.hideAll_none (Vc h H) hm
   rw [z] at e;cases e
def MY (g h:Heap) (L:Addr):List (Addr×Obj):=(List.range h.objs.size).filterMap λ a=>if a=L\/(g.get? a).isSome=true then none else (h.get? a).map λ o=>(a,o)
def rest (g h:Heap) (L d:Addr):List (Addr×Obj):=(MY g h L).filter λ p=>decide (p.1≠d)
end L2
namespace L2
open PySem PySem.Spec PyProof.Rows
structure Mod (K:PySem.W.Frag) (mg:Str->Option Value) (base:Heap):Prop where
 Sj:K.In base
 glob:base.Ns mainGlobals mg
 blt : ∃ mb,base.Ns builtinsNs mb ∧ ∀ x:Str,x ≠ "__name__"->mb x=bootBuiltins x
 nolimit:base.NoLimit
structure Cx where
 prog:Program
 w:World
 K:PySem.W.Frag
 mg:Str->Option Value
 base:Heap
 A:Around
 N:List Str
 s₀ : Shared
 H₀ : Hp
 env:Env
 outer:List Env
 stack:List Env
 ex:List Addr
 fn:Str->Bool
 calm:Bool
 pn:List (Addr×Obj)
 xe:Value->Shared->Prop
def frs (l:List Env):List Addr:=l.filterMap (·.frame)
abbrev Cx.fs (X:Cx):List Addr:=frs X.outer
def Qe (sc:Scope) (x:Str):Prop:=sc.names.lookup x=some .local\/sc.names.lookup x=some .cell\/sc.names.lookup x=some .free
def Loc (sc:Scope) (x:Str):Prop:=sc.names.lookup x=some .local\/sc.names.lookup x=some .cell
def Look (env:Env) (h:Heap) (m:Str->Option Value) (x:Str) (u:Value):Prop :=
 (env.kindOf x=some .local/\m x=some u)\/((env.kindOf x=some .cell\/env.kindOf x=some .free) ∧ ∃ c,env.cells.lookup x=some c/\h.IsCell c (some u))
structure Cx.Ok (X:Cx):Prop where
 mod:Mod X.K X.mg X.base
 kind:X.env.scope.kind = .function
 glob:X.env.globals=mainGlobals
 blt:X.env.builtins=builtinsNs
 above:X.s₀.heap.objs.size<=X.env.locals
 inj : ∀ x y c,X.env.cells.lookup x=some c->X.env.cells.lookup y=some c->x=y
 has : ∀ x,(X.env.kindOf x=some .cell\/X.env.kindOf x=some .free)->∃ c,X.env.cells.lookup x=some c
 Qf : ∀ x c,X.fn x=true->X.env.cells.lookup x=some c->X.s₀.heap.objs.size<=c
 hd:X.calm=true->X.A.handled=none
 frames:X.A.frames=some X.stack
 stk:X.stack=X.outer\/(X.stack=X.env::X.outer/\X.env.frame=some X.env.locals)
 Vd : ∀ b∈X.ex,b≠X.env.locals ∧ ∀ x c,X.env.cells.lookup x=some c->c≠b
 bs : ∀ b o,X.base.get? b=some o->X.s₀.heap.get? b=some o/\X.H₀ b=none
 JE:X.base.objs.size<=X.s₀.heap.objs.size
 Ep : ∀ b o,X.base.get? b=some o->b ∉ X.ex
 HB : ∀ b∈X.ex,b ∉ X.fs
 oJ:X.s₀.heap.FunFrames X.base X.outer
 MZ : ∀ b∈X.fs,X.H₀ b=none
structure Inv (X:Cx) (pins:List (Addr×Obj)) (σ : List (Option V)) (H:Hp) (s:Shared):Prop where
 ok:X.Ok
 os:s.os=X.s₀.os
 bare:AllBare s.gens
 base:Un X.fs X.ex X.H₀ H X.s₀.heap s.heap
 loc : ∃ m,s.heap.Ns X.env.locals m ∧ ∀ (i:Nat) (x:Str) (v:V),X.N[i]? = some x->σ[i]? = some (some v)->Qe X.env.scope x->∃ u,RelV v u/\Look X.env s.heap m x u
 cell : ∀ x c,X.env.cells.lookup x=some c->∃ v,s.heap.IsCell c v
 free:H X.env.locals=none
 kG : ∀ x c,X.env.cells.lookup x=some c->H c=none
 pin : ∀ p∈X.pn++pins,s.heap.get? p.1=some p.2/\H p.1=none/\p.1≠X.env.locals/\p.1 ∉ X.fs ∧ ∀ v,p.2.data ≠ .cell v
 hok:j6 X.prog X.w H s.heap
 len : σ.length=X.N.length
section
variable {X:Cx} {pins:List (Addr×Obj)} {σ : List (Option V)} {H H':Hp} {s:Shared} {h':Heap}
theorem Cx.Ok.Wb (ok:X.Ok) {b:Addr} {o:Obj} (e:X.base.get? b=some o):b ∉ X.fs:=λ hb=>by
 have:=(ok.oJ.mem hb).1
 rw [e] at this;cases this
theorem Inv.bs (I:Inv X pins σ H s) : ∀ b o,X.base.get? b=some o->s.heap.get? b=some o/\H b=none:=λ b o e =>
 ⟨I.base.keep b o (I.ok.bs b o e).1 (I.ok.bs b o e).2 (I.ok.Wb e) (I.ok.Ep b o e),I.base.free b o (I.ok.bs b o e).1 (I.ok.bs b o e).2 (I.ok.Ep b o e)⟩
theorem Inv.bk (I:Inv X pins σ H s) : ∀ b o,X.base.get? b=some o->s.heap.get? b=some o:=λ b o e=>(I.bs b o e).1
theorem Inv.mod (I:Inv X pins σ H s):Mod X.K X.mg X.base:=I.ok.mod
theorem Inv.su (I:Inv X pins σ H s):X.K.In s.heap:=I.ok.mod.Sj.keeps I.bk
theorem Inv.fr (I:Inv X pins σ H s) : ∃ m,Fr X.base X.env.locals s.heap m :=
 let ⟨m,hn,_⟩:=I.loc
 ⟨m,hn,I.bk,Nat.le_trans I.ok.JE I.ok.above⟩
theorem Inv.lt (I:Inv X pins σ H s):X.env.locals < s.heap.objs.size:=let ⟨_,hn,_⟩:=I.loc;hn.lt
theorem Inv.sz (I:Inv X pins σ H s):X.s₀.heap.objs.size<=s.heap.objs.size:=Nat.le_trans I.ok.above (Nat.le_of_lt I.lt)
theorem Inv.Wc (I:Inv X pins σ H s) {a:Addr} (h:s.heap.objs.size<=a):a ∉ X.fs:=λ hb=>by
 obtain ⟨_,o,ho,_⟩:=I.ok.oJ.mem hb
 exact absurd (Nat.lt_of_lt_of_le (Heap.lt_size ho) (Nat.le_trans I.sz h)) (Nat.lt_irrefl _)
theorem Inv.Qg (I:Inv X pins σ H s) : ∀ x c,X.env.cells.lookup x=some c->c≠X.env.locals:=λ x c e z=>by
 obtain ⟨v,o,ho,hd⟩:=I.cell x c e
 obtain ⟨m,⟨o',es,ep,ho',hd',_⟩,_⟩:=I.loc
 rw [z,ho'] at ho;cases ho;rw [hd'] at hd;cases hd
theorem Inv.oJ (I:Inv X pins σ H s):s.heap.FunFrames X.base X.outer:=by
 have all : ∀ (l:List Env),(∀ b∈frs l,b∈X.fs)->X.s₀.heap.FunFrames X.base l->s.heap.FunFrames X.base l:=by
  intro l
  induction l with
  | nil=>intro _ _;trivial
  | cons env r ih =>
    intro hs hl
    obtain ⟨hk,⟨L,o,hf,hn,ho,hd⟩,hr⟩:=hl
    have hL:L∈X.fs:=hs L (by unfold frs;rw [List.filterMap_cons,hf];exact List.mem_cons_self)
    obtain ⟨sl,e⟩:=I.base.slot L o ho (I.ok.MZ L hL) hL λ z=>I.ok.HB L z hL
    exact ⟨hk,⟨L,_,hf,hn,e,hd⟩,ih (λ b hb=>hs b (by unfold frs;rw [List.filterMap_cons,hf];exact List.mem_cons_of_mem _ hb)) hr⟩
 exact all X.outer (λ _ hb=>hb) I.ok.oJ
theorem Inv.stack (I:Inv X pins σ H s):s.heap.FunFrames X.base X.stack:=by
 rcases I.ok.stk with e | ⟨e,hf⟩
 ·rw [e];exact I.oJ
 ·rw [e]
  obtain ⟨m,hn,_⟩:=I.loc
  refine .cons (by rw [I.ok.kind];decide) hf hn ?_ I.oJ
  exact Heap.get?_none_of_le (Nat.le_trans I.ok.JE I.ok.above)
theorem Inv.uU (I:Inv X pins σ H s) : ∀ b∈frs X.stack,b∈X.env.locals::X.fs:=λ b hb=>by
 rcases I.ok.stk with e | ⟨e,hf⟩
 ·rw [e] at hb;exact List.mem_cons_of_mem _ hb
 ·rw [e] at hb
  unfold frs at hb
  rw [List.filterMap_cons,hf] at hb
  exact hb
theorem Inv.A4 (I:Inv X pins σ H s) : ∀ b∈frs X.stack,H b=none:=λ b hb=>by
 rcases List.mem_cons.mp (I.uU b hb) with e | hb
 ·rw [e];exact I.free
 ·obtain ⟨_,o,ho,_⟩:=I.ok.oJ.mem hb
  exact I.base.free b o ho (I.ok.MZ b hb) λ z=>I.ok.HB b z hb
theorem Inv.step {g':Array GenState} {t':Nat} {d':Drawn} {ch:List Addr} (I:Inv X pins σ H s)
  (hch : ∀ b∈ch,(b∈X.ex\/X.s₀.heap.objs.size<=b)/\b≠X.env.locals/\(∀ x c,X.env.cells.lookup x=some c->c≠b) ∧ ∀ p∈X.pn++pins,p.1≠b)
  (keep : ∀ b o,b≠X.env.locals->b ∉ X.fs->b ∉ ch->s.heap.get? b=some o->H b=none->h'.get? b=some o)
  (slot : ∀ b o,b≠X.env.locals->b∈X.fs->b ∉ ch->s.heap.get? b=some o->H b=none->∃ sl,h'.get? b=some { o with slots:=sl }) (free : ∀ b o,b ∉ ch->s.heap.get? b=some o->H b=none->H' b=none)
  (there : ∀ b o,b ∉ ch->s.heap.get? b=some o->∃ o',h'.get? b=some o')
  (tups : ∀ b xs,H b=some (.tup xs)->H' b=some (.tup xs)) (j7 : ∀ b o u,H b=some (.CJ o u)->H' b=some (.CJ o u)) (kF : ∀ b ps,H b=some (.OU ps)->∃ more,H' b=some (.OU (ps++more)))
  (ns : ∀ m,s.heap.Ns X.env.locals m->h'.Ns X.env.locals m) (hok:j6 X.prog X.w H' h') (hg:AllBare g') :
  Inv X pins σ H' { s with heap:=h',gens:=g',drawn:=d',toks:=t' } := by
 have neL : ∀ b o,X.s₀.heap.get? b=some o->b≠X.env.locals:=λ b o e=>Nat.ne_of_lt (Nat.lt_of_lt_of_le (Heap.lt_size e) I.ok.above)
 have Sk : ∀ b o,X.s₀.heap.get? b=some o->b ∉ X.ex->b ∉ ch:=λ b o e hx hb=>by
  rcases (hch b hb).1 with z | z
  ·exact hx z
  ·exact absurd (Nat.lt_of_lt_of_le (Heap.lt_size e) z) (Nat.lt_irrefl _)
 have cellK : ∀ x c,X.env.cells.lookup x=some c->∀ v,s.heap.IsCell c v->h'.IsCell c v:=λ x c e v ⟨o,ho,hd⟩=>by
  have SM:c ∉ ch:=λ z=>(hch c z).2.2.1 x c e rfl
  by_cases hc:c∈X.fs
  ·obtain ⟨sl,q⟩:=slot c o (I.Qg x c e) hc SM ho (I.kG x c e)
   exact ⟨_,q,hd⟩
  ·exact ⟨o,keep c o (I.Qg x c e) hc SM ho (I.kG x c e),hd⟩
 refine ⟨I.ok,I.os,hg,⟨λ b o e n hb hx => ?_,λ b o e n hb hx => ?_,λ b o e n hx => ?_,λ b o e hx => ?_,λ b xs e=>tups b xs (I.base.tups b xs e),λ b o xs e=>j7 b o xs (I.base.j7 b o xs e),λ b ps e => ?_⟩,?_,λ x c e => ?_,?_,λ x c e => ?_,λ p hp => ?_,hok,I.len⟩
 ·exact keep b o (neL b o e) hb (Sk b o e hx) (I.base.keep b o e n hb hx) (I.base.free b o e n hx)
 ·obtain ⟨sl,e1⟩:=I.base.slot b o e n hb hx
  obtain ⟨JK,e2⟩:=slot b _ (neL b o e) hb (Sk b o e hx) e1 (I.base.free b o e n hx)
  exact ⟨JK,e2⟩
 ·obtain ⟨o',e1⟩:=I.base.there b o e hx
  exact free b o' (Sk b o e hx) e1 (I.base.free b o e n hx)
 ·obtain ⟨o',e1⟩:=I.base.there b o e hx
  exact there b o' (Sk b o e hx) e1
 ·obtain ⟨m1,e1⟩:=I.base.kF b ps e
  obtain ⟨m2,e2⟩:=kF b _ e1
  exact ⟨m1++m2,by rw [e2,Array.append_assoc]⟩
 ·obtain ⟨m,hn,hl⟩:=I.loc
  refine ⟨m,ns m hn,λ i x v e1 e2 e3 => ?_⟩
  obtain ⟨u,r,l⟩:=hl i x v e1 e2 e3
  refine ⟨u,r,?_⟩
  rcases l with l | ⟨k,c,e,z⟩
  ·exact .inl l
  ·exact .inr ⟨k,c,e,cellK x c e _ z⟩
 ·obtain ⟨v,z⟩:=I.cell x c e
  exact ⟨v,cellK x c e v z⟩
 ·obtain ⟨m,⟨o,_,_,ho,_⟩,_⟩:=I.loc
  exact free _ o (λ z=>(hch _ z).2.1 rfl) ho I.free
 ·obtain ⟨v,o,ho,hd⟩:=I.cell x c e
  exact free c o (λ z=>(hch c z).2.2.1 x c e rfl) ho (I.kG x c e)
 ·obtain ⟨e,n,ne,nf,d⟩:=I.pin p hp
  have SM:p.1 ∉ ch:=λ z=>(hch p.1 z).2.2.2 p hp rfl
  exact ⟨keep p.1 p.2 ne nf SM e n,free p.1 p.2 SM e n,ne,nf,d⟩
theorem Inv.un {t':Nat} (I:Inv X pins σ H s) (u:Un X.fs [] H H' s.heap h') (hok:j6 X.prog X.w H' h'):Inv X pins σ H' { s with heap:=h',toks:=t' } := by
 obtain ⟨m,⟨o,es,ep,ho,r⟩,_⟩:=id I.loc
 obtain ⟨sl,hL⟩:=u.any ho I.free (by simp)
 exact I.step (g':=s.gens) (d':=s.drawn) (ch:=[]) (λ _ z=>nomatch z) (λ b o _ hb _ e n=>u.keep b o e n hb (by simp)) (λ b o _ hb _ e n=>u.slot b o e n hb (by simp)) (λ b o _ e n=>u.free b o e n (by simp)) (λ b o _ e=>u.there b o e (by simp)) u.tups u.j7 u.kF (λ m' hm=>by
  obtain ⟨o',es',Wd,ho',r'⟩:=hm
  rw [ho] at ho';cases ho'
  exact ⟨_,es',Wd,hL,r'⟩) hok I.bare
theorem Inv.call {g':Array GenState} {t':Nat} {d':Drawn} {ch:List Addr} (I:Inv X pins σ H s) (u:Un (frs X.stack) ch H H' s.heap h') (hok:j6 X.prog X.w H' h') (hg:AllBare g')
  (hch : ∀ b∈ch,(b∈X.ex\/X.s₀.heap.objs.size<=b)/\b≠X.env.locals/\(∀ x c,X.env.cells.lookup x=some c->c≠b) ∧ ∀ p∈X.pn++pins,p.1≠b) :
  Inv X pins σ H' { s with heap:=h',gens:=g',drawn:=d',toks:=t' } := by
 obtain ⟨m,⟨o,es,ep,ho,r⟩,_⟩:=id I.loc
 obtain ⟨sl,hL⟩:=u.any ho I.free λ z=>(hch _ z).2.1 rfl
 exact I.step (ch:=ch) hch (λ b o hL hb hc e n=>u.keep b o e n (λ z=>(List.mem_cons.mp (I.uU b z)).elim hL hb) hc) (λ b o _ _ hc e n=>u.any e n hc) (λ b o hc e n=>u.free b o e n hc) (λ b o hc e=>u.there b o e hc) u.tups u.j7 u.kF (λ m' hm=>by
  obtain ⟨o',es',Wd,ho',r'⟩:=hm
  rw [ho] at ho';cases ho'
  exact ⟨_,es',Wd,hL,r'⟩) hok hg
theorem Inv.turned {t':Nat} {it:Addr} (I:Inv X pins σ H s) (k : ∀ b o,b≠it->s.heap.get? b=some o->h'.get? b=some o) (hn:H it=none) (hL:it≠X.env.locals)
  (h1:it∈X.ex\/X.s₀.heap.objs.size<=it) (h2 : ∀ x c,X.env.cells.lookup x=some c->c≠it) (h3 : ∀ p∈X.pn++pins,p.1≠it):Inv X pins σ H { s with heap:=h',toks:=t' } := by
 have nit : ∀ b u,H b=some u->b≠it:=λ b u e z=>by rw [z,hn] at e;cases e
 refine I.step (g':=s.gens) (d':=s.drawn) (ch:=[it]) (λ b hb => ?_) (λ b o _ _ hc e _=>k b o (λ z=>hc (by simp [z])) e) (λ b o _ _ hc e _=>⟨o.slots,k b o (λ z=>hc (by simp [z])) e⟩) (λ _ _ _ _ n=>n)
  (λ b o hc e=>⟨o,k b o (λ z=>hc (by simp [z])) e⟩) (λ _ _ e=>e) (λ _ _ _ e=>e) (λ b ps e=>⟨#[],by rw [e];simp⟩) (λ m hm => ?_) (λ b u e => ?_) I.bare
 ·have e:b=it:=by simpa using hb
  subst e
  exact ⟨h1,hL,h2,h3⟩
 ·obtain ⟨o,es,ep,ho,r⟩:=hm
  exact ⟨o,es,ep,k _ o (Ne.symm hL) ho,r⟩
 ·refine (I.hok b u e).stay (λ c v hc q=>k c v ?_ q) (λ _ q=>q) λ _ _ q=>q
  rcases hc with z | z
  ·rw [z];exact nit b u e
  ·exact nit c _ z
theorem Inv.tok (I:Inv X pins σ H s) (t:Nat):Inv X pins σ H { s with toks:=t } := I.un (h':=s.heap) (t':=t) Un.refl I.hok
theorem Inv.kept {t':Nat} (I:Inv X pins σ H s) (k : ∀ b u,s.heap.get? b=some u->h'.get? b=some u):Inv X pins σ H { s with heap:=h',toks:=t' } := I.un (Un.kept k) (I.hok.kept k)
theorem Inv.laid {a:Addr} {o:HO} {t':Nat} (I:Inv X pins σ H s) (k : ∀ b u,s.heap.get? b=some u->h'.get? b=some u) (hp:s.heap.objs.size<=a) (new:bS X.prog X.w (upd H a o) h' a o) :
  Inv X pins σ (upd H a o) { s with heap:=h',toks:=t' } := I.un (Un.laid k hp (I.hok.fresh hp)) (I.hok.laid k hp new)
theorem Inv.write {x e:Addr} {o:HO} {t':Nat} (I:Inv X pins σ H s) (mu:SJ (H x)) (he:e=x\/H e=some (.own x)) (k : ∀ b u,b≠e->s.heap.get? b=some u->h'.get? b=some u) (Si : ∃ u,h'.get? e=some u)
  (new:bS X.prog X.w (upd H x o) h' x o):Inv X pins σ (upd H x o) { s with heap:=h',toks:=t' } := I.un (Un.write mu he k Si) (I.hok.write mu he k Si new)
theorem Inv.GA {uV:List (Addr×Obj)} (I:Inv X pins σ H s) (h : ∀ p∈uV,s.heap.get? p.1=some p.2/\H p.1=none/\p.1≠X.env.locals/\p.1 ∉ X.fs ∧ ∀ v,p.2.data ≠ .cell v):Inv X uV σ H s :=
 ⟨I.ok,I.os,I.bare,I.base,I.loc,I.cell,I.free,I.kG,λ p hp=>(List.mem_append.mp hp).elim (λ z=>I.pin p (List.mem_append_left _ z)) (h p),I.hok,I.len⟩
theorem CT {N:List Str} (hN:N.Nodup) {i j:Nat} {x:Str} (a:N[i]? = some x) (b:N[j]? = some x):i=j:=by
 obtain ⟨h1,e1⟩:=List.getElem?_eq_some_iff.mp a
 obtain ⟨h2,e2⟩:=List.getElem?_eq_some_iff.mp b
 exact (List.getElem_inj hN).mp (e1.trans e2.symm)
theorem An {M:Model} {A:Around} {E:Value->Shared->Prop} {i:Nat} {x:Str} {v:V} {u:Value} {Q:Unit->Shared->Prop} (I:Inv X pins σ H s) (hN:X.N.Nodup) (hi:X.N[i]? = some x) (hx:Loc X.env.scope x) (r:RelV v u)
  (h : ∀ s',Inv X pins (σ.set i (some v)) H s'->(∃ a,Heap.SameBut a s.heap s'.heap/\(a=X.env.locals\/X.env.cells.lookup x=some a))->Q () s') (hf:X.fn x=true\/X.env.scope.names.lookup x=some .local:=by first | exact .inl rfl | exact .inr rfl | assumption):wpAny M A (storeName X.env x u) Q E s:=by
 obtain ⟨m,hn,hl⟩:=id I.loc
 have hcls:(X.env.scope.kind == .class || (X.env.scope.kind == .module && X.env.locals != X.env.globals))=false:=by rw [I.ok.kind];rfl
 have hiσ : i < σ.length:=by rw [I.len];exact (List.getElem?_eq_some_iff.mp hi).1
 have Qg:=I.Qg
 have tracked : ∀ {a:Addr} {h':Heap},(∃ o,s.heap.get? a=some o/\H a=none)->Heap.SameBut a s.heap h'->j6 X.prog X.w H h':=fun {a h'} ha hs b ob e=>by
  obtain ⟨_,_,hfree⟩:=ha
  refine (I.hok b ob e).stay (λ c w' hc q=>(hs.2 c ?_).trans q) (λ _ q=>q) λ _ _ q=>q
  rintro rfl
  rcases hc with rfl | hc
  ·rw [hfree] at e;cases e
  ·rw [hfree] at hc;cases hc
 rcases hx with hk | hk
 ·refine wpAny_storeName_local hk hn (λ h' hn' hs => ?_) hcls
  obtain ⟨oL,_,_,hoL,_⟩:=id hn
  refine h _ ⟨I.ok,I.os,I.bare,⟨λ b o e n hb hx => ?_,λ b o e n hb hx => ?_,I.base.free,λ b o e hx => ?_,I.base.tups,I.base.j7,I.base.kF⟩,⟨_,hn',λ j y v' e1 e2 e3 => ?_⟩,λ y c e => ?_,I.free,I.kG,λ p hp => ?_,tracked ⟨oL,hoL,I.free⟩ hs,by simpa using I.len⟩ ⟨_,hs,.inl rfl⟩
  ·exact (hs.2 b (Nat.ne_of_lt (Nat.lt_of_lt_of_le (Heap.lt_size e) I.ok.above))).trans (I.base.keep b o e n hb hx)
  ·obtain ⟨sl,e1⟩:=I.base.slot b o e n hb hx
   exact ⟨sl,(hs.2 b (Nat.ne_of_lt (Nat.lt_of_lt_of_le (Heap.lt_size e) I.ok.above))).trans e1⟩
  ·obtain ⟨o',e1⟩:=I.base.there b o e hx
   exact ⟨o',(hs.2 b (Nat.ne_of_lt (Nat.lt_of_lt_of_le (Heap.lt_size e) I.ok.above))).trans e1⟩
  ·by_cases hj:j=i
   ·subst hj
    rw [hi] at e1;cases e1
    rw [List.getElem?_set_self hiσ] at e2
    cases e2
    exact ⟨u,r,.inl ⟨hk,by simp⟩⟩
   ·rw [List.getElem?_set_ne (Ne.symm hj)] at e2
    obtain ⟨u',r',q⟩:=hl j y v' e1 e2 e3
    refine ⟨u',r',?_⟩
    rcases q with ⟨k,e⟩ | ⟨k,c,e,z⟩
    ·refine .inl ⟨k,?_⟩
     have:y≠x:=λ e=>hj (CT hN e1 (e ▸ hi))
     simp [this,e]
    ·exact .inr ⟨k,c,e,z.sameBut hs (Qg y c e)⟩
  ·obtain ⟨w',z⟩:=I.cell y c e
   exact ⟨w',z.sameBut hs (Qg y c e)⟩
  ·obtain ⟨e,n,ne,nf,d⟩:=I.pin p hp
   exact ⟨(hs.2 p.1 ne).trans e,n,ne,nf,d⟩
 ·have hfn:X.fn x=true:=by
   rcases hf with z | z
   ·exact z
   ·rw [z] at hk;cases hk
  obtain ⟨c,hc⟩:=I.ok.has x (.inl hk)
  obtain ⟨w',z⟩:=I.cell x c hc
  refine wpAny_storeName_cell I.ok.kind hk hc z (λ h' hc' hs => ?_)
  obtain ⟨oc,hoc,We⟩:=id z
  refine h { s with heap:=h' } ⟨I.ok,I.os,I.bare,⟨λ b o e n hb hx => ?_,λ b o e n hb hx => ?_,I.base.free,λ b o e hx => ?_,I.base.tups,I.base.j7,I.base.kF⟩,⟨m,hn.sameBut hs (Ne.symm (Qg x c hc)),λ j y v' e1 e2 e3 => ?_⟩,λ y c' e => ?_,I.free,I.kG,λ p hp => ?_,tracked ⟨oc,hoc,I.kG x c hc⟩ hs,by simpa using I.len⟩ ⟨c,hs,.inr hc⟩
  ·exact (hs.2 b (Nat.ne_of_lt (Nat.lt_of_lt_of_le (Heap.lt_size e) (I.ok.Qf x c hfn hc)))).trans (I.base.keep b o e n hb hx)
  ·obtain ⟨sl,e1⟩:=I.base.slot b o e n hb hx
   exact ⟨sl,(hs.2 b (Nat.ne_of_lt (Nat.lt_of_lt_of_le (Heap.lt_size e) (I.ok.Qf x c hfn hc)))).trans e1⟩
  ·obtain ⟨o',e1⟩:=I.base.there b o e hx
   exact ⟨o',(hs.2 b (Nat.ne_of_lt (Nat.lt_of_lt_of_le (Heap.lt_size e) (I.ok.Qf x c hfn hc)))).trans e1⟩
  ·by_cases hj:j=i
   ·subst hj
    rw [hi] at e1;cases e1
    rw [List.getElem?_set_self hiσ] at e2
    cases e2
    exact ⟨u,r,.inr ⟨.inl hk,c,hc,hc'⟩⟩
   ·rw [List.getElem?_set_ne (Ne.symm hj)] at e2
    obtain ⟨u',r',q⟩:=hl j y v' e1 e2 e3
    refine ⟨u',r',?_⟩
    rcases q with q | ⟨k,c',e,z'⟩
    ·exact .inl q
    ·refine .inr ⟨k,c',e,z'.sameBut hs ?_⟩
     rintro rfl
     exact hj (CT hN e1 (I.ok.inj _ _ _ e hc ▸ hi))
  ·by_cases hcc:c' = c
   ·subst hcc;exact ⟨_,hc'⟩
   ·obtain ⟨w2,z2⟩:=I.cell y c' e
    exact ⟨w2,z2.sameBut hs hcc⟩
  ·obtain ⟨e,n,ne,nf,d⟩:=I.pin p hp
   refine ⟨(hs.2 p.1 ?_).trans e,n,ne,nf,d⟩
   intro q
   rw [q,hoc] at e
   have q':oc=p.2:=Option.some.inj e
   exact d w' (by rw [<-q'];exact We)
theorem uW {M:Model} {A:Around} {E:Value->Shared->Prop} {i:Nat} {x:Str} {v:V} {u:Value} {Q:Unit->Shared->Prop} (I:Inv X pins σ H s) (hN:X.N.Nodup) (hi:X.N[i]? = some x) (hx:Loc X.env.scope x) (r:RelV v u)
  (h : ∀ s',Inv X pins (σ.set i (some v)) H s'->Q () s') (hf:X.fn x=true\/X.env.scope.names.lookup x=some .local:=by first | exact .inl rfl | exact .inr rfl | assumption):wpAny M A (storeName X.env x u) Q E s :=
 An I hN hi hx r (λ s' I' _=>h s' I') hf
theorem Inv.OV {s':Shared} {ch:List Addr} (I:Inv X pins σ H s) (ho:s'.os=s.os) (u:Un (frs X.stack) ch H H' s.heap s'.heap) (hok:j6 X.prog X.w H' s'.heap) (hg:AllBare s'.gens)
  (hch : ∀ b∈ch,(b∈X.ex\/X.s₀.heap.objs.size<=b)/\b≠X.env.locals/\(∀ x c,X.env.cells.lookup x=some c->c≠b) ∧ ∀ p∈X.pn++pins,p.1≠b):Inv X pins σ H' s':=by
 obtain ⟨h',g',d',t',o'⟩:=s'
 have e:o' = s.os:=ho
 subst e
 exact I.call (g':=g') (t':=t') (d':=d') u hok hg hch
end
abbrev XK:=Value->Option Addr->Hp->Prop
abbrev St:=List (Option V)
abbrev VK:=V->Hp->Prop
abbrev TE:=St->Hp->VK->Prop
abbrev TT:=St->Hp->(Bool->Hp->Prop)->Prop
abbrev TA:=St->Hp->(List V->Hp->Prop)->Prop
structure Ends where
 nx:St->Hp->Prop
 rt:VK
 bk:St->Hp->Prop:=λ _ _=>False
 ct:St->Hp->Prop:=λ _ _=>False
abbrev TS:=Ends->St->Hp->Prop
def EP (X:Cx) (pins:List (Addr×Obj)) (σ : St) (Q:VK) (u:Value) (s':Shared):Prop := ∃ v H',Inv X pins σ H' s'/\RelV v u/\Q v H'
def TP (X:Cx) (pins:List (Addr×Obj)) (σ : St) (Q:Bool->Hp->Prop) (b:Bool) (s':Shared):Prop := ∃ H',Inv X pins σ H' s'/\Q b H'
def AP (X:Cx) (pins:List (Addr×Obj)) (σ : St) (Q:List V->Hp->Prop) (us:List Value) (s':Shared):Prop := ∃ vs H',Inv X pins σ H' s'/\Vals vs us/\Q vs H'
def SP (X:Cx) (pins:List (Addr×Obj)) (D:Ends) (f:Flow) (s':Shared):Prop :=
 match f with
 | .next => ∃ σ' H',Inv X pins σ' H' s'/\D.nx σ' H'
 | .brk => ∃ σ' H',Inv X pins σ' H' s'/\D.bk σ' H'
 | .cont => ∃ σ' H',Inv X pins σ' H' s'/\D.ct σ' H'
 | .ret u => ∃ v σ' H',Inv X pins σ' H' s'/\RelV v u/\D.rt v H'
def PE (X:Cx) (e:Expr) (t:TE):Prop :=
 ∀ (pins:List (Addr×Obj)) (s:Shared) (σ : St) (H:Hp) (Q:VK),Inv X pins σ H s->t σ H Q->wpAny (model X.prog X.w) X.A (eval e X.env) (EP X pins σ Q) X.xe s
def PT (X:Cx) (e:Expr) (t:TT):Prop :=
 ∀ (pins:List (Addr×Obj)) (s:Shared) (σ : St) (H:Hp) (Q:Bool->Hp->Prop),Inv X pins σ H s->t σ H Q->wpAny (model X.prog X.w) X.A (isTrue e X.env (eval e X.env)) (TP X pins σ Q) X.xe s
def PW (X:Cx) (e:Expr) (t:TT):Prop :=
 ∀ (whole:Sem Value) (pins:List (Addr×Obj)) (s:Shared) (σ : St) (H:Hp) (Q:Bool->Hp->Prop),Inv X pins σ H s->t σ H Q->wpAny (model X.prog X.w) X.A (isTrue e X.env whole) (TP X pins σ Q) X.xe s
theorem PW.pt {X:Cx} {e:Expr} {t:TT} (h:PW X e t):PT X e t:=h _
def PA (X:Cx) (es:List Expr) (t:TA):Prop :=
 ∀ (pos:Pos) (pins:List (Addr×Obj)) (s:Shared) (σ : St) (H:Hp) (Q:List V->Hp->Prop),Inv X pins σ H s->t σ H Q->wpAny (model X.prog X.w) X.A (spliced (backTo pos (starEach es X.env))) (AP X pins σ Q) X.xe s
def PS (X:Cx) (st:Stmt) (t:TS):Prop :=
 ∀ (pins:List (Addr×Obj)) (s:Shared) (σ : St) (H:Hp) (D:Ends),Inv X pins σ H s->t D σ H->wpAny (model X.prog X.w) X.A (exec st X.env) (SP X pins D) X.xe s
def A5 (X:Cx) (st:List Stmt) (t:TS):Prop :=
 ∀ (pins:List (Addr×Obj)) (s:Shared) (σ : St) (H:Hp) (D:Ends),Inv X pins σ H s->t D σ H->wpAny (model X.prog X.w) X.A (execs st X.env) (SP X pins D) X.xe s
theorem cV {α : Type} {t:Sem α} {Q Q' : α->Shared->Prop} {M:Model} {A:Around} {E:Value->Shared->Prop} {s:Shared} (h:wpAny M A t Q E s) (hQ : ∀ a s,Q a s->Q' a s):wpAny M A t Q' E s:=wpAny_mono h hQ λ _ _ x=>x
end L2
namespace L2
open PySem PySem.Spec PyProof.Rows
section
variable {X:Cx}
theorem bin {a b:Expr} {ta tb:TE} (ha:PE X a ta) (hb:PE X b tb) {pins:List (Addr×Obj)} {s:Shared} {σ : St} {H:Hp} {R:V->V->Hp->Prop} (I:Inv X pins σ H s) (h:ta σ H λ x H1=>tb σ H1 λ y H2=>R x y H2)
  {α : Type} {Q : α->Shared->Prop} {f:Value->Value->Sem α}
  (hf : ∀ v u s2 x y H2,Inv X pins σ H2 s2->RelV x v->RelV y u->R x y H2->wpAny (model X.prog X.w) X.A (f v u) Q X.xe s2) :
  wpAny (model X.prog X.w) X.A (eval a X.env) (λ v s₁ => wpAny (model X.prog X.w) X.A (eval b X.env) (λ u s₂ => wpAny (model X.prog X.w) X.A (f v u) Q X.xe s₂) X.xe s₁) X.xe s:=by
 refine cV (ha pins s σ H _ I h) λ v s1 ⟨x,H1,I1,r1,q1⟩ => ?_
 refine cV (hb pins s1 σ H1 _ I1 q1) λ u s2 ⟨y,H2,I2,r2,q2⟩ => ?_
 exact hf v u s2 x y H2 I2 r1 r2 q2
def HC (i:Nat):TE:=fun σ H Q => ∃ v,σ[i]? = some (some v)/\Q v H
def tC (v:V):TE:=λ _ H Q=>Q v H
theorem Er {i:Nat} {x:Str} {pos:Pos} (hN:X.N[i]? = some x) (hv:Qe X.env.scope x) (hd:(x == ("__debug__" : Str))=false:=by decide) (hcd:(x == ("__classdict__" : Str))=false:=by decide):PE X (.Name x pos) (HC i):=by
 intro pins s σ H Q I h
 obtain ⟨v,e,h⟩:=h
 obtain ⟨m,hn,hl⟩:=I.loc
 obtain ⟨u,r,l⟩:=hl i x v hN e hv
 have fin:EP X pins σ Q u s:=⟨v,H,I,r,h⟩
 rcases l with ⟨hk,hm⟩ | ⟨hk,c,hc,hcell⟩
 ·exact wpAny_Name (wpAny_loadName_local I.ok.kind hk hn hm fin) hd
 ·rcases hk with hk | hk
  ·exact wpAny_Name (wpAny_loadName_cell I.ok.kind hk hc hcell fin) hd
  ·exact wpAny_Name (wpAny_loadName_free I.ok.kind hk hc hcell fin hcd) hd
theorem aj {i j pos} : PE X (.Constant (.int i) j pos) (tC (.int i)):=λ _ _ _ H _ I h=>wpAny_Constant_int ⟨.int i,H,I.tok _,⟨_,rfl⟩,h⟩
theorem bB {b j pos} : PE X (.Constant (.bool b) j pos) (tC (.bl b)):=λ _ _ _ H _ I h=>Constant_bool ⟨.bl b,H,I,rfl,h⟩
theorem bF {j pos} : PE X (.Constant .none j pos) (tC .aH):=λ _ _ _ H _ I h=>Constant_none ⟨.aH,H,I,rfl,h⟩
theorem cW {x j pos} : PE X (.Constant (.str x) j pos) (tC (.str x)):=λ _ _ _ H _ I h=>Calls.Constant_str ⟨.str x,H,I.tok _,⟨_,rfl⟩,h⟩
def Gl (X:Cx) (x:Str):Prop:=X.env.kindOf x=some .globalImplicit
theorem uI {E:Value->Shared->Prop} {pins:List (Addr×Obj)} {s:Shared} {σ : St} {H:Hp} {x:Str} {u:Value} {pos:Pos} {Q:Value->Shared->Prop} (I:Inv X pins σ H s) (hg:Gl X x) (hm:X.mg x=some u) (h:Q u s)
  (hd:(x == ("__debug__" : Str))=false:=by decide):wpAny (model X.prog X.w) X.A (eval (.Name x pos) X.env) Q E s :=
 Calls.Name_function_global I.ok.kind hg (Calls.loadGlobal_global (by rw [I.ok.glob];exact I.mod.glob.keeps I.bk) hm h) hd
theorem A6 {E:Value->Shared->Prop} {pins:List (Addr×Obj)} {s:Shared} {σ : St} {H:Hp} {x:Str} {u:Value} {pos:Pos} {Q:Value->Shared->Prop} (I:Inv X pins σ H s) (hg:Gl X x) (hm:X.mg x=none) (hv:bootBuiltins x=some u) (h:Q u s)
  (hn:x ≠ "__name__" := by decide) (hd:(x == ("__debug__" : Str))=false:=by decide):wpAny (model X.prog X.w) X.A (eval (.Name x pos) X.env) Q E s:=by
 obtain ⟨mb,h1,h2⟩:=I.mod.blt
 exact Calls.Name_function_global I.ok.kind hg (Calls.loadGlobal_builtin (by rw [I.ok.glob];exact I.mod.glob.keeps I.bk) hm (by rw [I.ok.blt];exact h1.keeps I.bk) ((h2 x hn).trans hv) h) hd
theorem fT {x:Str} {v:V} {u:Value} {pos:Pos} (hg:Gl X x) (hm:X.mg x=none) (hv:bootBuiltins x=some u) (r:RelV v u) (hn:x ≠ "__name__" := by decide) (hd:(x == ("__debug__" : Str))=false:=by decide):PE X (.Name x pos) (tC v) :=
 λ _ _ _ H _ I h=>A6 I hg hm hv ⟨v,H,I,r,h⟩ hn hd
variable {a b:Expr} {ta tb:TE} {pos:Pos}
def PC (X:Cx) (op:CmpOp) (a b:Expr) (t:TE):Prop :=
 ∀ (pins:List (Addr×Obj)) (s:Shared) (σ : St) (H:Hp) (Q:VK),Inv X pins σ H s->t σ H Q →
   wpAny (model X.prog X.w) X.A (eval a X.env) (λ v s₁ => wpAny (model X.prog X.w) X.A (eval b X.env) (λ u s₂ => wpAny (model X.prog X.w) X.A (compareOp op v u) (EP X pins σ Q) X.xe s₂) X.xe s₁) X.xe s
theorem oK (b:Expr) {op:CmpOp} (h:op ≠ .In) (h2:op ≠ .NotIn):behindInMarks op b=false:=by
 have e1:(op == CmpOp.In)=false:=by cases op <;> first | rfl | exact absurd rfl h
 have e2:(op == CmpOp.NotIn)=false:=by cases op <;> first | rfl | exact absurd rfl h2
 cases b <;> simp [behindInMarks,e1,e2]
def tB (t:TE):TT:=fun σ H Q=>t σ H λ x H1 => ∃ c,x = .bl c/\Q c H1
theorem Wf {op:CmpOp} {t:TE} (h:PC X op a b t) (h1:behindInMarks op b=false:=by first | exact oK _ (by decide) (by decide) | rfl):PE X (.Compare a [op] [b] pos) t:=λ pins s σ H Q I hw=>wpAny_Compare1 (h pins s σ H Q I hw) h1
theorem JM {op:CmpOp} {t:TE} (h:PC X op a b t) (h1:behindInMarks op b=false:=by first | exact oK _ (by decide) (by decide) | rfl):PT X (.Compare a [op] [b] pos) (tB t):=by
 intro pins s σ H Q I hw
 refine wpAny_isTrue_Compare1 (cV (h pins s σ H _ I hw) λ v s1 h1=>cV h1 λ u s2 h2=>cV h2 λ c s3 ⟨x,H1,I1,r1,q1⟩ => ?_) h1
 obtain ⟨d,rfl,q⟩:=q1
 cases r1
 exact wpAny_truthy_bool ⟨H1,I1,q⟩
theorem bJ {e:Expr} {t:TE} (h:PE X e t) (he : ∀ whole,isTrue e X.env whole=(do let v <-whole;standAt e.pos;holding [v] (truthy v)):=by intro _;rfl):PT X e (tB t):=by
 intro pins s σ H Q I hw
 refine isTrue_plain (cV (h pins s σ H _ I hw) λ v s1 ⟨x,H1,I1,r1,q1⟩ => ?_) (he _)
 obtain ⟨d,rfl,q⟩:=q1
 cases r1
 exact wpAny_truthy_bool ⟨H1,I1,q⟩
variable {tA Ve:TT} {rest:List Expr}
def Qh (t u:TT):TT:=fun σ H Q=>t σ H λ c H1=>if c=true then u σ H1 Q else Q false H1
def Wg (t u:TT):TT:=fun σ H Q=>t σ H λ c H1=>if c=true then Q true H1 else u σ H1 Q
def Qi (t:TT):TT:=fun σ H Q=>t σ H λ c H1=>Q (!c) H1
theorem pw_and1 (ha:PT X a tA):PW X (.BoolOp .And [a] pos) tA:=by
 intro wh pins s σ H Q I h
 refine isTrue_and (cV (ha pins s σ H Q I h) λ c s1 e => ?_)
 cases c with
 | true=>exact isTrue_and_nil e
 | false=>exact e
theorem pw_or1 (ha:PT X a tA):PW X (.BoolOp .Or [a] pos) tA:=by
 intro wh pins s σ H Q I h
 refine isTrue_or (cV (ha pins s σ H Q I h) λ c s1 e => ?_)
 cases c with
 | false=>exact isTrue_or_nil e
 | true=>exact e
theorem pw_and (ha:PT X a tA) (hb:PW X (.BoolOp .And (b::rest) pos) Ve):PW X (.BoolOp .And (a::b::rest) pos) (Qh tA Ve):=by
 intro wh pins s σ H Q I h
 refine isTrue_and (cV (ha pins s σ H _ I h) λ c s1 ⟨H1,I1,q1⟩ => ?_)
 cases c with
 | true=>exact hb wh pins s1 σ H1 Q I1 q1
 | false=>exact ⟨H1,I1,q1⟩
theorem pw_or (ha:PT X a tA) (hb:PW X (.BoolOp .Or (b::rest) pos) Ve):PW X (.BoolOp .Or (a::b::rest) pos) (Wg tA Ve):=by
 intro wh pins s σ H Q I h
 refine isTrue_or (cV (ha pins s σ H _ I h) λ c s1 ⟨H1,I1,q1⟩ => ?_)
 cases c with
 | true=>exact ⟨H1,I1,q1⟩
 | false=>exact hb wh pins s1 σ H1 Q I1 q1
theorem ef (ha:PT X a tA):PT X (.UnaryOp .Not a pos) (Qi tA):=by
 intro pins s σ H Q I h
 exact isTrue_not (ha pins s σ H (λ c H1=>Q (!c) H1) I h)
def JN (ta tb:TE):TE:=fun σ H Q=>ta σ H λ x H1 => ∃ c,x = .bl c/\if c=true then tb σ H1 Q else Q (.bl false) H1
def Qj (ta tb:TE):TE:=fun σ H Q=>ta σ H λ x H1 => ∃ c,x = .bl c/\if c=true then Q (.bl true) H1 else tb σ H1 Q
def JO (ta:TE):TE:=fun σ H Q=>ta σ H λ x H1 => ∃ c,x = .bl c/\Q (.bl (!c)) H1
theorem nB {op} {t:TE} (h:PE X a t):PE X (.BoolOp op [a] pos) t:=λ pins s σ H Q I hw=>BoolOp_one (h pins s σ H Q I hw)
theorem uX (ha:PE X a ta) (hb:PE X (.BoolOp .And (b::rest) pos) tb):PE X (.BoolOp .And (a::b::rest) pos) (JN ta tb):=by
 intro pins s σ H Q I h
 refine BoolOp_and (cV (ha pins s σ H _ I h) λ v s1 ⟨x,H1,I1,r1,q1⟩ => ?_)
 obtain ⟨c,rfl,q1⟩:=q1
 cases r1
 refine wpAny_truthy_bool ?_
 cases c with
 | true=>exact hb pins s1 σ H1 Q I1 q1
 | false=>exact ⟨.bl false,H1,I1,rfl,q1⟩
theorem OW (ha:PE X a ta) (hb:PE X (.BoolOp .Or (b::rest) pos) tb):PE X (.BoolOp .Or (a::b::rest) pos) (Qj ta tb):=by
 intro pins s σ H Q I h
 refine BoolOp_or (cV (ha pins s σ H _ I h) λ v s1 ⟨x,H1,I1,r1,q1⟩ => ?_)
 obtain ⟨c,rfl,q1⟩:=q1
 cases r1
 refine wpAny_truthy_bool ?_
 cases c with
 | false=>exact hb pins s1 σ H1 Q I1 q1
 | true=>exact ⟨.bl true,H1,I1,rfl,q1⟩
theorem Es (ha:PE X a ta):PE X (.UnaryOp .Not a pos) (JO ta):=by
 intro pins s σ H Q I h
 refine UnaryOp_ (cV (ha pins s σ H _ I h) λ v s1 ⟨x,H1,I1,r1,q1⟩ => ?_)
 obtain ⟨c,rfl,q1⟩:=q1
 cases r1
 exact not_of (wpAny_truthy_bool ⟨.bl (!c),H1,I1,rfl,q1⟩)
end
end L2
namespace L2
open PySem PySem.Spec PyProof.Rows
def eY (K:PySem.W.Frag) (H:Hp) (a:Addr) (xs:List V):Prop :=
 Rd H a (.lst xs) ∨
  ∃ (o:Obj) (its:Array Value) (n:Nat),K.lookup a=some o/\o.cls = .type "list" ∧ o.dict=none/\o.data = .seq its n/\its.size<=sizeLine/\Vals xs its.toList
def Ei (K:PySem.W.Frag) (H:Hp) (a:Addr) (xs:List V):Prop :=
 Rd H a (.tup xs) ∨
  ∃ (o:Obj) (its:Array Value) (n:Nat),K.lookup a=some o/\o.cls = .type "tuple" ∧ o.data = .seq its n/\its.size<=sizeLine/\Vals xs its.toList
def Wh:Value->Option V
 | .none=>some .aH
 | .bool b=>some (.bl b)
 | .int i _=>some (.int i)
 | .str x _=>some (.str x)
 | .bytes b _=>some (.JD b)
 | .float b _=>some (.Qa b)
 | .ref a=>some (.ref a)
 | .type n=>some (.ty n)
 | _=>none
theorem RelV.abs {x:V} {u:Value} (r:RelV x u):Wh u=some x:=by
 cases x with
 | aH=>cases r;rfl
 | bl _=>cases r;rfl
 | int _=>obtain ⟨t,rfl⟩:=r;rfl
 | str _=>obtain ⟨t,rfl⟩:=r;rfl
 | JD _=>obtain ⟨t,rfl⟩:=r;rfl
 | Qa _=>obtain ⟨t,rfl⟩:=r;rfl
 | ref _=>cases r;rfl
 | ty _=>cases r;rfl
theorem RelV.inj {x y:V} {u:Value} (r:RelV x u) (q:RelV y u):x=y:=Option.some.inj (r.abs.symm.trans q.abs)
theorem Vals.inj : ∀ {xs ys:List V} {us:List Value},Vals xs us->Vals ys us->xs=ys
 | _,_,_,.nil,.nil=>rfl
 | _,_,_,.cons r t,.cons r' t'=>by rw [r.inj r',Vals.inj t t']
section
variable {X:Cx} {pins:List (Addr×Obj)} {σ : St} {H:Hp} {s:Shared} {a:Addr} {xs ys:List V}
theorem eY.of {K:PySem.W.Frag} (h:H a=some (.lst xs)):eY K H a xs := .inl (.inl h)
theorem Ei.of {K:PySem.W.Frag} (h:H a=some (.tup xs)):Ei K H a xs := .inl (.inl h)
theorem Inv.list (I:Inv X pins σ H s) (h:eY X.K H a xs) : ∃ its:List Value,Vals xs its/\PlainL s.heap a its.toArray/\xs.length<=sizeLine:=by
 rcases h with h | ⟨o,its,n,hk,hc,hd,hs,hz,r⟩
 ·obtain ⟨z,its,n,r,e⟩:=h.ok I.hok
  exact ⟨its,r,⟨_,n,e,rfl,rfl,rfl⟩,z⟩
 ·refine ⟨its.toList,r,⟨o,n,I.su a o hk,hc,hd,by simpa using hs⟩,?_⟩
  have e:=r.length
  simp only [Array.length_toList] at e
  omega
theorem Inv.tuple (I:Inv X pins σ H s) (h:Ei X.K H a xs) : ∃ its:List Value,Vals xs its/\IsTup s.heap a its.toArray/\xs.length<=sizeLine:=by
 rcases h with h | ⟨o,its,n,hk,hc,hs,hz,r⟩
 ·obtain ⟨z,its,r,p⟩:=h.ok I.hok
  exact ⟨its,r,p,z⟩
 ·refine ⟨its.toList,r,⟨o,I.su a o hk,hc,n,by simpa using hs⟩,?_⟩
  have e:=r.length
  simp only [Array.length_toList] at e
  omega
theorem Inv.JP (I:Inv X pins σ H s) (h:eY X.K H a xs) (h':eY X.K H a ys):xs=ys:=by
 obtain ⟨its,r,⟨o,n,e,_,_,d⟩,_⟩:=I.list h
 obtain ⟨its',r',⟨o',n',e',_,_,d'⟩,_⟩:=I.list h'
 rw [e] at e';cases e'
 rw [d] at d'
 injection d' with d1 _
 have:its=its':=by simpa using congrArg Array.toList d1
 subst this
 exact r.inj r'
end
abbrev Cx.kH (X:Cx) (E:Value->Shared->Prop):Cx := { X with xe:=E }
abbrev Cx.Ej (X:Cx):Cx:=X.kH λ _ _=>False
theorem Cx.Ok.kH {X:Cx} (ok:X.Ok) (E:Value->Shared->Prop):(X.kH E).Ok :=
 ⟨ok.mod,ok.kind,ok.glob,ok.blt,ok.above,ok.inj,ok.has,ok.Qf,ok.hd,ok.frames,ok.stk,ok.Vd,ok.bs,ok.JE,ok.Ep,ok.HB,ok.oJ,ok.MZ⟩
theorem Cx.Ok.gi {X:Cx} {E:Value->Shared->Prop} (ok:(X.kH E).Ok):X.Ok :=
 ⟨ok.mod,ok.kind,ok.glob,ok.blt,ok.above,ok.inj,ok.has,ok.Qf,ok.hd,ok.frames,ok.stk,ok.Vd,ok.bs,ok.JE,ok.Ep,ok.HB,ok.oJ,ok.MZ⟩
section
variable {X:Cx} {pins:List (Addr×Obj)} {σ : St} {H:Hp} {s:Shared} {E:Value->Shared->Prop}
theorem Inv.kH (I:Inv X pins σ H s) (E:Value->Shared->Prop):Inv (X.kH E) pins σ H s:=⟨I.ok.kH E,I.os,I.bare,I.base,I.loc,I.cell,I.free,I.kG,I.pin,I.hok,I.len⟩
theorem Inv.gi (I:Inv (X.kH E) pins σ H s):Inv X pins σ H s:=⟨I.ok.gi,I.os,I.bare,I.base,I.loc,I.cell,I.free,I.kG,I.pin,I.hok,I.len⟩
theorem SP.gi {D:Ends} {f:Flow} {s':Shared} (h:SP (X.kH E) pins D f s'):SP X pins D f s':=by
 cases f with
 | next=>obtain ⟨σ',H',I,q⟩:=h;exact ⟨σ',H',I.gi,q⟩
 | brk=>obtain ⟨σ',H',I,q⟩:=h;exact ⟨σ',H',I.gi,q⟩
 | cont=>obtain ⟨σ',H',I,q⟩:=h;exact ⟨σ',H',I.gi,q⟩
 | ret u=>obtain ⟨v,σ',H',I,r,q⟩:=h;exact ⟨v,σ',H',I.gi,r,q⟩
theorem PE.Ej {e:Expr} {t:TE} (h:PE X.Ej e t):PE X e t:=λ pins s σ H Q I hw =>
 wpAny_mono (h pins s σ H Q (I.kH _) hw) (λ _ _ ⟨v,H',I',r,q⟩=>⟨v,H',I'.gi,r,q⟩) λ _ _ z=>False.elim z
theorem PT.Ej {e:Expr} {t:TT} (h:PT X.Ej e t):PT X e t:=λ pins s σ H Q I hw =>
 wpAny_mono (h pins s σ H Q (I.kH _) hw) (λ _ _ ⟨H',I',q⟩=>⟨H',I'.gi,q⟩) λ _ _ z=>False.elim z
theorem A5.Ej {st:List Stmt} {t:TS} (h:A5 X.Ej st t):A5 X st t:=λ pins s σ H D I hw =>
 wpAny_mono (h pins s σ H D (I.kH _) hw) (λ _ _ q=>q.gi) λ _ _ z=>False.elim z
end
section
variable {X:Cx} {st:Stmt} {rest:List Stmt} {t u:TS} {e:Expr} {te:TE} {pos:Pos}
def GB:TS:=λ D σ H=>D.nx σ H
def JQ (t u:TS):TS:=λ D σ H=>t { D with nx:=u D } σ H
theorem aE:A5 X [] GB:=λ _ _ σ H _ I h=>wpAny_execs_nil ⟨σ,H,I,h⟩
theorem ah (h1:PS X st t) (h2:A5 X rest u):A5 X (st::rest) (JQ t u):=by
 intro pins s σ H D I h
 refine wpAny_execs_cons (cV (h1 pins s σ H { D with nx:=u D } I h) λ f s1 q => ?_)
 cases f with
 | next =>
   obtain ⟨σ',H',I',q⟩:=q
   exact h2 pins s1 σ' H' D I' q
 | ret v=>exact q
 | brk=>exact q
 | cont=>exact q
theorem ak (h1:PS X st t):A5 X [st] t:=by
 intro pins s σ H D I h
 refine wpAny_execs_cons (cV (h1 pins s σ H D I h) λ f s1 q => ?_)
 cases f with
 | next=>exact wpAny_execs_nil q
 | ret v=>exact q
 | brk=>exact q
 | cont=>exact q
theorem Inv.quiet {pins:List (Addr×Obj)} {σ : St} {H:Hp} {s:Shared} (I:Inv X pins σ H s):interactive X.env=false:=by simp [interactive,I.ok.kind]
def JR (te:TE):TS:=λ D σ H=>te σ H λ _ H1=>D.nx σ H1
theorem bY (he:PE X e te) (hs:swapsWith e none pos.line X.env=pure false:=by rfl):PS X (.Expr e pos) (JR te):=by
 intro pins s σ H D I h
 exact wpAny_Expr_any (cV (he pins s σ H _ I h) λ v s1 ⟨x,H1,I1,r1,q1⟩=>⟨σ,H1,I1,q1⟩) I.quiet hs
def M4 (te:TE):TS:=λ D σ H=>te σ H D.rt
theorem aD (he:PE X e te):PS X (.Return (some e) pos) (M4 te):=by
 intro pins s σ H D I h
 exact wpAny_Return_some (cV (he pins s σ H _ I h) λ v s1 ⟨x,H1,I1,r1,q1⟩=>⟨x,σ,H1,I1,r1,q1⟩)
def M5 (c:TT) (t u:TS):TS:=λ D σ H=>c σ H λ b H1=>if b=true then t D σ H1 else u D σ H1
theorem aU {c:Expr} {a b:List Stmt} {tc:TT} (hc:PT X c tc) (ha:A5 X a t) (hb:A5 X b u):PS X (.If c a b pos) (M5 tc t u):=by
 intro pins s σ H D I h
 refine wpAny_If (cV (hc pins s σ H _ I h) λ d s1 ⟨H1,I1,q1⟩ => ?_)
 cases d with
 | true=>exact ha pins s1 σ H1 D I1 q1
 | false=>exact hb pins s1 σ H1 D I1 q1
end
abbrev TG:=V->St->Hp->(St->Hp->Prop)->Prop
abbrev Qk:=List V->St->Hp->(St->Hp->Prop)->Prop
def PG (X:Cx) (target:Expr) (t:TG):Prop :=
 ∀ (pins:List (Addr×Obj)) (s:Shared) (σ : St) (H:Hp) (v:V) (u:Value) (Q:St->Hp->Prop),Inv X pins σ H s->RelV v u->t v σ H Q →
   wpAny (model X.prog X.w) X.A (assign target X.env u) (λ _ s' => ∃ σ' H',Inv X pins σ' H' s'/\Q σ' H') X.xe s
def Vf (X:Cx) (ts:List Expr) (t:Qk):Prop :=
 ∀ (pins:List (Addr×Obj)) (s:Shared) (σ : St) (H:Hp) (vs:List V) (us:List Value) (Q:St->Hp->Prop),Inv X pins σ H s->Vals vs us->t vs σ H Q →
   wpAny (model X.prog X.w) X.A (assignInOrder ((assignEach ts X.env).map (·.2)) us) (λ _ s' => ∃ σ' H',Inv X pins σ' H' s'/\Q σ' H') X.xe s
abbrev JS:=V->V->V->Hp->(Hp->Prop)->Prop
def SN (X:Cx) (t:JS):Prop :=
 ∀ (pins:List (Addr×Obj)) (s:Shared) (σ : St) (H:Hp) (o i v:V) (ov iv u:Value) (Q:Hp->Prop),Inv X pins σ H s->RelV o ov->RelV i iv->RelV v u->t o i v H Q →
   wpAny (model X.prog X.w) X.A (setItem ov iv u) (λ _ s' => ∃ H',Inv X pins σ H' s'/\Q H') X.xe s
section
variable {X:Cx} {pos:Pos}
def sy (i:Nat):TG:=λ v σ H Q=>Q (σ.set i (some v)) H
theorem fc {i:Nat} {x:Str} (hN:X.N.Nodup) (hi:X.N[i]? = some x) (hx:Loc X.env.scope x) (hf:X.fn x=true\/X.env.scope.names.lookup x=some .local:=by first | exact .inl rfl | exact .inr rfl | assumption):PG X (.Name x pos) (sy i):=by
 intro pins s σ H v u Q I r h
 exact wpAny_assign_Name (uW I hN hi hx r (λ s' I'=>⟨_,H,I',h⟩) hf)
def SO:Qk:=λ vs σ H Q=>vs = []/\Q σ H
def JT (t:TG) (u:Qk):Qk:=λ vs σ H Q => ∃ v r,vs=v::r/\t v σ H fun σ' H'=>u r σ' H' Q
theorem M6:Vf X [] SO:=by
 intro pins s σ H vs us Q I r h
 obtain ⟨e,h⟩:=h
 subst e
 cases r
 exact assignInOrder_nil ⟨σ,H,I,h⟩
theorem CU {e:Expr} {es:List Expr} {t:TG} {u:Qk} (h1:PG X e t) (h2:Vf X es u)
  (hs:(assignEach (e::es) X.env).map (·.2)=assign e X.env::(assignEach es X.env).map (·.2):=by rfl):Vf X (e::es) (JT t u):=by
 intro pins s σ H vs us Q I r h
 obtain ⟨v,vr,e1,h⟩:=h
 subst e1
 cases r with
 | cons r rr =>
   rw [hs]
   refine assignInOrder_cons (cV (h1 pins s σ H _ _ _ I r h) λ _ s1 ⟨σ1,H1,I1,q1⟩ => ?_)
   exact h2 pins s1 σ1 H1 _ _ Q I1 rr q1
def SQ (K:PySem.W.Frag) (n:Nat) (t:Qk):TG:=λ v σ H Q => ∃ a xs,v = .ref a/\Ei K H a xs/\xs.length=n/\t xs σ H Q
theorem Ql {es:List Expr} {k:Nat} {t:Qk} {n:Nat} (hc:X.calm=true) (h:Vf X es t)
  (hn:(assignEach es X.env).length=n:=by rfl) (hst:(assignEach es X.env).findIdx? (·.1)=none:=by rfl):PG X (.Tuple es k pos) (SQ X.K n t):=by
 intro pins s σ H v u Q I r hw
 obtain ⟨a,xs,e1,hq,hl,hw⟩:=hw
 subst e1
 cases r
 obtain ⟨its,rv,ht,hz⟩:=I.tuple hq
 refine assign_Tuple_tuple (I.ok.hd hc) ht (by simp [hn,<-hl,rv.length]) hst λ h' hx => ?_
 have I1:Inv X pins σ H { s with heap:=h' } := I.kept (t':=s.toks) λ b o e=>hx b o (Nat.ne_of_lt (Heap.lt_size e)) e
 exact h pins _ σ H xs _ Q I1 (by simpa using rv) hw
def Qm (to ti:TE) (t:JS):TG:=λ v σ H Q=>to σ H λ o H1=>ti σ H1 λ i H2=>t o i v H2 λ H3=>Q σ H3
theorem bG {o i:Expr} {to ti:TE} {t:JS} (ho:PE X o to) (hi:PE X i ti) (hs:SN X t)
  (ha : ∀ v,assign (.Subscript o i pos) X.env v=(do
   let ov <-holding [v] (eval o X.env)
   let iv <-holding [v,ov] (eval i X.env)
   standAt pos
   holding [v,ov,iv] (setItem ov iv v)
   release [v,ov,iv] []):=by intro _;rfl):PG X (.Subscript o i pos) (Qm to ti t):=by
 intro pins s σ H v u Q I r h
 rw [ha]
 refine wpAny_bind (wpAny_holding (cV (ho pins s σ H _ I h) λ ov s1 ⟨x,H1,I1,r1,q1⟩ => ?_))
 refine wpAny_bind (wpAny_holding (cV (hi pins s1 σ H1 _ I1 q1) λ iv s2 ⟨y,H2,I2,r2,q2⟩ => ?_))
 refine wpAny_bind (wpAny_standAt (wpAny_bind (wpAny_holding (cV (hs pins s2 σ H2 x y v ov iv u _ I2 r1 r2 r q2) λ _ s3 ⟨H3,I3,q3⟩ => ?_))))
 exact wpAny_release ⟨σ,H3,I3,q3⟩
def JU (te:TE) (g:TG):TS:=λ D σ H=>te σ H λ x H1=>g x σ H1 D.nx
theorem bC {tg e:Expr} {te:TE} {g:TG} (he:PE X e te) (hg:PG X tg g) (hs:swapsWithSole [tg] e pos.line X.env=pure false:=by rfl) (hw:swappedStores [tg] e X.env=pure none:=by rfl)
  (h1:(assignEach [tg] X.env).map (·.2) = [assign tg X.env]:=by rfl):PS X (.Assign [tg] e pos) (JU te g):=by
 intro pins s σ H D I h
 refine wpAny_Assign_stores (cV (he pins s σ H _ I h) λ v s1 ⟨x,H1,I1,r1,q1⟩ => ?_) hs hw
 rw [h1]
 exact cV (hg pins s1 σ H1 x v _ I1 r1 q1) λ _ s2 q=>q
theorem aL {i:Nat} {x:Str} {e:Expr} {te:TE} {pos':Pos} (hN:X.N.Nodup) (hi:X.N[i]? = some x) (hx:Loc X.env.scope x) (he:PE X e te) (hs:swapsWith e (some (.Name x pos')) pos.line X.env=pure false:=by rfl) (hf:X.fn x=true\/X.env.scope.names.lookup x=some .local:=by first | exact .inl rfl | exact .inr rfl | assumption) :
  PS X (.Assign [.Name x pos'] e pos) (JU te (sy i)):=by
 intro pins s σ H D I h
 refine wpAny_Assign_Name (cV (he pins s σ H _ I h) λ v s1 ⟨y,H1,I1,r1,q1⟩ => ?_) hs
 exact uW I1 hN hi hx r1 (λ s2 I2=>⟨_,H1,I2,q1⟩) hf
end
section
variable {X:Cx} {pos:Pos}
end
structure It where
 go:Nat->Hp->Prop
 M7:Nat->Hp->V->Hp->Prop
 stop:Nat->Hp->Prop
def oM (X:Cx) (pins:List (Addr×Obj)) (H:Hp) (b:Addr):Prop :=
 H b=none/\b≠X.env.locals/\b ∉ X.fs/\(b∈X.ex\/X.s₀.heap.objs.size<=b)/\(∀ x c,X.env.cells.lookup x=some c->c≠b) ∧ ∀ p∈X.pn++pins,p.1≠b
theorem Inv.SR {X:Cx} {pins:List (Addr×Obj)} {σ : St} {H H':Hp} {s:Shared} {b:Addr} (I:Inv X pins σ H s) (hb:s.heap.objs.size<=b) (hn:H' b=none):oM X pins H' b:=by
 refine ⟨hn,Nat.ne_of_gt (Nat.lt_of_lt_of_le I.lt hb),I.Wc hb,.inr (Nat.le_trans I.sz hb),λ x c e z => ?_,λ p hp z => ?_⟩
 ·obtain ⟨v,q⟩:=I.cell x c e
  exact absurd (Nat.lt_of_lt_of_le q.lt (by rw [z];exact hb)) (Nat.lt_irrefl _)
 ·exact absurd (Nat.lt_of_lt_of_le (Heap.lt_size (I.pin p hp).1) (by rw [z];exact hb)) (Nat.lt_irrefl _)
structure Turn (P:Program) (w:World) (K:PySem.W.Frag) (tg:Expr) (J:It) (fp:List Addr) (it:Addr) (tn:Nat->Heap->Prop):Prop where
 mem:it∈fp
 obj : ∀ i h,tn i h->∀ b∈fp,∃ o,h.get? b=some o ∧ ∀ v,o.data ≠ .cell v
 keep : ∀ i h h',tn i h->(∀ b∈fp,∀ o,h.get? b=some o->h'.get? b=some o)->tn i h'
 item : ∀ (X:Cx),X.prog=P->X.w=w->X.K=K->X.calm=true->∀ (i:Nat) (pins:List (Addr×Obj)) (s:Shared) (σ : St) (H:Hp) (E:Value->Shared->Prop),Inv X pins σ H s->(∀ b∈fp,oM X pins H b)->tn i s.heap->J.go i H →
  wpAny (model P w) X.A (pyNext (.ref it)) (λ r s1 => ∃ u,r=some u ∧
   wpAny (model P w) X.A (letOwnedTupleGo tg (.ref it) u) (λ _ s2 => ∃ x H',Inv X pins σ H' s2/\RelV x u/\J.M7 i H x H'/\tn (i+1) s2.heap ∧ ∀ b∈fp,H' b=none) E s1) E s
 done : ∀ (X:Cx),X.prog=P->X.w=w->X.K=K->X.calm=true->∀ (i:Nat) (pins:List (Addr×Obj)) (s:Shared) (σ : St) (H:Hp) (E:Value->Shared->Prop),Inv X pins σ H s->(∀ b∈fp,oM X pins H b)->tn i s.heap->J.stop i H →
  wpAny (model P w) X.A (pyNext (.ref it)) (λ r s1=>r=none/\Inv X pins σ H s1) E s
 self : ∀ (A:Around) (i:Nat) (s:Shared) (Q:Value->Shared->Prop) (E:Value->Shared->Prop),tn i s.heap->Q (.ref it) s->wpAny (model P w) A (pyIter (.ref it)) Q E s
abbrev TI:=St->Hp->(It->Hp->Prop)->Prop
def PIE (X:Cx) (pins:List (Addr×Obj)) (σ : St) (tg:Expr) (R:It->Hp->Prop) (itv:Value) (s2:Shared):Prop :=
 ∃ (it:Addr) (fp:List Addr) (tn:Nat->Heap->Prop) (J:It) (H':Hp),itv = .ref it/\Inv X pins σ H' s2/\Turn X.prog X.w X.K tg J fp it tn/\tn 0 s2.heap/\(∀ b∈fp,oM X pins H' b)/\R J H'
def PI (X:Cx) (tg iter:Expr) (wi:TI):Prop :=
 ∀ (pins:List (Addr×Obj)) (s:Shared) (σ : St) (H:Hp) (R:It->Hp->Prop),Inv X pins σ H s->wi σ H R →
   wpAny (model X.prog X.w) X.A (eval iter X.env) (λ v s1=>wpAny (model X.prog X.w) X.A (pyIter v) (PIE X pins σ tg R) X.xe s1) X.xe s
theorem OX {M:Model} {A:Around} {E:Value->Shared->Prop} {s:Shared} {tg:Expr} {it:Addr} {u:Value} {o:Obj} {n:String} {vs:Array Value} {Q:Unit->Shared->Prop} (ho:s.heap.get? it=some o) (hc:o.cls = .type n) (hd:o.data = .fields vs)
  (hn:["enumerate","zip","dict_itemiterator","dict_reverseitemiterator","odict_iterator","itertools.zip_longest","itertools.pairwise"].contains n=false) (hQ:Q () s):wpAny M A (letOwnedTupleGo tg (.ref it) u) Q E s:=by
 unfold letOwnedTupleGo
 cases tg <;> first
  | exact wpAny_pure hQ
  | (cases u <;> first
    | exact wpAny_pure hQ
    | (refine wpAny_bind (wpAny_load ho ?_)
       rw [hc,hd]
       show wpAny M A (if (["enumerate","zip","dict_itemiterator","dict_reverseitemiterator","odict_iterator","itertools.zip_longest","itertools.pairwise"].contains n && vs[0]? == some (rawInt _))=true then _ else _) Q E s
       rw [if_neg (by intro h;rw [hn,Bool.false_and] at h;cases h)]
       exact wpAny_pure hQ))
def JF (K:PySem.W.Frag) (a:Addr):It :=
 ⟨λ i H => ∃ xs x,eY K H a xs/\xs[i]? = some x,λ i H x H'=>H' = H ∧ ∀ xs,eY K H a xs->xs[i]? = some x,λ i H => ∃ xs,eY K H a xs/\xs.length<=i⟩
def GC (lo:Int) (n:Nat):It:=⟨λ i _=>i < n,λ i H x H'=>H' = H/\x = .int (lo+i),λ i _=>n<=i⟩
theorem HD {P:Program} {w:World} {K:PySem.W.Frag} {tg:Expr} (a it:Addr):Turn P w K tg (JF K a) [it] it (λ i h=>h.IsListIter it a i) where
 mem:=by simp
 obj:=λ i h st b hb=>by
  have e:b=it:=by simpa using hb
  subst e
  obtain ⟨o,e,c,d⟩:=st
  exact ⟨o,e,λ v z=>by rw [d] at z;cases z⟩
 keep:=λ i h h' st k=>st.at λ o e=>k it (by simp) o e
 item:=by
  intro X hP hw hK hc i pins s σ H E I hf st hg
  subst hP hw hK
  obtain ⟨xs,x,hq,hx⟩:=hg
  obtain ⟨its,rv,p,hz⟩:=I.list hq
  obtain ⟨u,hu,ru⟩:=rv.get hx
  obtain ⟨f0,f1,f2,f3,f4,f5⟩:=hf it (by simp)
  refine wpAny_pyNext_list_item st p.isList (x:=u) (by simpa using hu) λ h' st' sb => ?_
  have I1:Inv X pins σ H { s with heap:=h' } := I.turned (t':=s.toks) (λ b o hb e=>(sb.2 b hb).trans e) f0 f1 f3 f4 f5
  obtain ⟨o,e,c,d⟩:=id st'
  exact ⟨u,rfl,OX (s := { s with heap:=h' }) e c d (by decide) ⟨x,H,I1,ru,⟨rfl,λ ys hy=>by rw [I.JP hy hq];exact hx⟩,st',λ b hb=>(hf b hb).1⟩⟩
 done:=by
  intro X hP hw hK hc i pins s σ H E I hf st hg
  subst hP hw hK
  obtain ⟨xs,hq,hx⟩:=hg
  obtain ⟨its,rv,p,hz⟩:=I.list hq
  obtain ⟨f0,f1,f2,f3,f4,f5⟩:=hf it (by simp)
  have hl:=rv.length
  exact wpAny_pyNext_list_end (I.ok.hd hc) st p.isList (by simp;omega) λ h' eb=>⟨rfl,I.turned (t':=s.toks) (λ b o hb e=>eb b o hb e) f0 f1 f3 f4 f5⟩
 self:=λ _ _ _ _ _ st h=>wpAny_pyIter_listiter st h
theorem Et {P:Program} {w:World} {K:PySem.W.Frag} {tg:Expr} (it:Addr) (lo:Int) (n:Nat):Turn P w K tg (GC lo n) [it] it (λ i h=>IsRangeIter h it (lo+(i:Nat) * 1) ((n:Int) - (i:Nat)) 1) where
 mem:=by simp
 obj:=λ i h st b hb=>by
  have e:b=it:=by simpa using hb
  subst e
  exact ⟨_,st,λ v z=>by
   have z':Data.fields _=Data.cell v:=z
   cases z'⟩
 keep:=λ i h h' st k=>k it (by simp) _ st
 item:=by
  intro X hP hw hK hc i pins s σ H E I hf st hg
  subst hP hw hK
  obtain ⟨f0,f1,f2,f3,f4,f5⟩:=hf it (by simp)
  have W:=Walks.range (prog:=X.prog) (w:=X.w) (I.ok.hd hc) it lo 1 n
  refine W.item i s _ _ hg st λ v h' tk hv st' kk => ?_
  obtain ⟨t,rfl⟩:=hv
  have I1:Inv X pins σ H { s with heap:=h',toks:=tk } := I.turned (λ b o hb e=>kk b o (by simpa using hb) e) f0 f1 f3 f4 f5
  refine ⟨_,rfl,OX (s := { s with heap:=h',toks:=tk }) (n := "range_iterator") st' rfl rfl (by decide) ⟨.int (lo+i),H,I1,⟨t,?_⟩,⟨rfl,rfl⟩,st',λ b hb=>(hf b hb).1⟩⟩
  rw [Int.mul_one]
 done:=by
  intro X hP hw hK hc i pins s σ H E I hf st hg
  subst hP hw hK
  obtain ⟨f0,f1,f2,f3,f4,f5⟩:=hf it (by simp)
  exact wpAny_pyNext_range_end (I.ok.hd hc) st (by have:n<=i:=hg;omega) λ h' eb=>⟨rfl,I.turned (t':=s.toks) (λ b o hb e=>eb b o hb e) f0 f1 f3 f4 f5⟩
 self:=λ _ _ _ _ _ st h=>wpAny_pyIter_rangeiter st h
end L2
namespace L2
open PySem PySem.Spec PyProof.Rows
section
variable {X:Cx} {tg:Expr}
def JV (K:PySem.W.Frag) (tl:TE):TI:=fun σ H R=>tl σ H λ x H1 => ∃ a,x = .ref a/\(∃ xs,eY K H1 a xs)/\R (JF K a) H1
theorem iz {l:Expr} {tl:TE} (hl:PE X l tl):PI X tg l (JV X.K tl):=by
 intro pins s σ H R I h
 refine cV (hl pins s σ H _ I h) λ v s1 ⟨x,H1,I1,r1,q1⟩ => ?_
 obtain ⟨a,e,⟨xs,hq⟩,q⟩:=q1
 subst e
 cases r1
 obtain ⟨its,rv,p,hz⟩:=I1.list hq
 refine wpAny_pyIter_list p.isList ?_
 refine ⟨s1.heap.objs.size,[s1.heap.objs.size],_,_,H1,rfl,I1.kept (t':=s1.toks) λ b o e=>Heap.get?_push_of_some _ e,HD a _,⟨_,Heap.get?_push_size _ rfl,rfl,rfl⟩,λ b hb => ?_,q⟩
 have e:b=s1.heap.objs.size:=by simpa using hb
 subst e
 exact I1.SR (Nat.le_refl _) (I1.hok.fresh (Nat.le_refl _))
theorem JW {pins:List (Addr×Obj)} {σ : St} {H:Hp} {s:Shared} {R:It->Hp->Prop} {E:Value->Shared->Prop} {lo hi:Int} {t u v:Tok} {tk:Nat} (I:Inv X pins σ H s) (h1 : -(2 ^ 62)<=lo) (h2:lo < 2 ^ 62) (h3 : -(2 ^ 62)<=hi) (h4:hi < 2 ^ 62)
  (q:R (GC lo (hi - lo).toNat) H):wpAny (model X.prog X.w) X.A (pyIter (.ref s.heap.objs.size)) (PIE X pins σ tg R) E { s with heap:=s.heap.push { cls := .type "range",data := .fields #[.int lo t,.int hi u,.int 1 v] },toks:=tk } := by
 refine wpAny_pyIter_range (IsRange.new ..) (small_one h1 h2 h3 h4) ?_
 have I1:Inv X pins σ H { s with heap:=s.heap.push { cls := .type "range",data := .fields #[.int lo t,.int hi u,.int 1 v] },toks:=tk } := I.kept λ b o e=>Heap.get?_push_of_some _ e
 refine ⟨(s.heap.push { cls := .type "range",data := .fields #[.int lo t,.int hi u,.int 1 v] }).objs.size,[(s.heap.push { cls := .type "range",data := .fields #[.int lo t,.int hi u,.int 1 v] }).objs.size],_,_,H,rfl,
  I1.kept (t':=tk) λ b o e=>Heap.get?_push_of_some _ e,Et _ lo (hi - lo).toNat,?_,λ b hb => ?_,q⟩
 ·have e1:lo+((0:Nat):Int) * 1=lo:=by simp
  have e2:(((hi - lo).toNat:Nat):Int) - ((0:Nat):Int)=Builtin.Range.rangeSize lo hi 1:=by rw [rangeSize_one];split <;> omega
  show IsRangeIter _ _ (lo+((0:Nat):Int) * 1) ((((hi - lo).toNat:Nat):Int) - ((0:Nat):Int)) 1
  rw [e1,e2]
  exact Heap.get?_push_size _ rfl
 ·have e:b=(s.heap.push { cls := .type "range",data := .fields #[.int lo t,.int hi u,.int 1 v] }).objs.size:=by simpa using hb
  subst e
  exact I1.SR (Nat.le_refl _) (I1.hok.fresh (Nat.le_refl _))
def JX (ta:TA):TI:=fun σ H R=>ta σ H λ vs H1 => ∃ j:Int,vs = [.int j] ∧ -(2 ^ 62)<=j/\j < 2 ^ 62/\R (GC 0 j.toNat) H1
theorem cy {a:Expr} {ta:TA} {p pos:Pos} (hg:Gl X "range") (hm:X.mg "range" = none) (ha:PA X [a] ta) (hs:starEach [a] X.env = [(false,eval a X.env)]:=by rfl):PI X tg (.Call (.Name "range" p) [a] [] pos) (JX ta):=by
 intro pins s σ H R I h
 refine Call_ (A6 I hg hm boot_range (PyProof.Rows.callWith_type1 (cV (ha pos pins s σ H _ I h) λ us s1 ⟨vs,H1,I1,r1,q1⟩ => ?_) hs rfl))
 obtain ⟨j,e,q1,q2,q⟩:=q1
 subst e
 cases r1 with
 | cons r rr =>
   cases rr
   obtain ⟨t,rfl⟩:=r
   exact call_range_1 (JW I1 (by omega) (by omega) q1 q2 (by simpa using q))
def Qn (wi:TI) (g:TG) (tb:TS):TS:=λ D σ H=>wi σ H λ J H1 => ∃ W:Nat->Nat->St->Hp->Prop,(∃ m,W 0 m σ H1) ∧ ∀ i m σ H,W i m σ H →
 (J.stop i H/\D.nx σ H)\/(J.go i H ∧ ∃ N:St->Hp->Prop,(∀ σ' H',N σ' H'->∃ m',m' < m/\W (i+1) m' σ' H') ∧ ∀ x H',J.M7 i H x H'->g x σ H' fun σ2 H2=>tb { D with nx:=N,ct:=N,bk:=D.nx } σ2 H2)
def uY (fp:List Addr) (h:Heap):List (Addr×Obj):=fp.filterMap λ b=>(h.get? b).map λ o=>(b,o)
theorem jz {fp:List Addr} {h:Heap} {b:Addr} {o:Obj} (hb:b∈fp) (e:h.get? b=some o):(b,o)∈uY fp h:=List.mem_filterMap.mpr ⟨b,hb,by rw [e];rfl⟩
theorem HE {fp:List Addr} {h:Heap} {p:Addr×Obj} (hp:p∈uY fp h):p.1∈fp/\h.get? p.1=some p.2:=by
 obtain ⟨b,hb,e⟩:=List.mem_filterMap.mp hp
 cases q:h.get? b with
 | none=>rw [q] at e;cases e
 | some o =>
   rw [q] at e
   have e':(b,o)=p:=Option.some.inj e
   subst e'
   exact ⟨hb,q⟩
theorem Inv.pinned {pins:List (Addr×Obj)} {σ : St} {H:Hp} {s:Shared} {fp:List Addr} (I:Inv X pins σ H s) (hf : ∀ b∈fp,oM X pins H b) (ho : ∀ b∈fp,∃ o,s.heap.get? b=some o ∧ ∀ v,o.data ≠ .cell v):Inv X (pins++uY fp s.heap) σ H s :=
 I.GA λ p hp=>(List.mem_append.mp hp).elim (λ z=>I.pin p (List.mem_append_right _ z)) λ z=>by
  obtain ⟨hb,e⟩:=HE z
  obtain ⟨f0,f1,f2,_⟩:=hf p.1 hb
  obtain ⟨o,e',d⟩:=ho p.1 hb
  rw [e] at e';cases e'
  exact ⟨e,f0,f1,f2,d⟩
theorem Inv.oN {pins pl:List (Addr×Obj)} {σ : St} {H:Hp} {s:Shared} (I:Inv X (pins++pl) σ H s):Inv X pins σ H s:=I.GA λ p hp=>I.pin p (List.mem_append_right _ (List.mem_append_left _ hp))
theorem jA {iter:Expr} {body:List Stmt} {wi:TI} {g:TG} {tb:TS} {pos:Pos} (hp:PassesOwn (model X.prog X.w) X.A X.env X.xe) (hc:X.calm=true) (hi:PI X tg iter wi) (hg:PG X tg g) (hb:A5 X body tb)
  (hs : ∀ x,foldedSetIterable iter X.env x=pure x:=by intro _;rfl):PS X (.For tg iter body [] pos) (Qn wi g tb):=by
 intro pins s σ H D I h
 refine wpAny_For (cV (hi pins s σ H _ I h) λ v s1 h1=>cV h1 λ itv s2 h2 => ?_) hs
 obtain ⟨it,fp,tn,J,H2,e,I2,T,st2,f2,W,⟨m0,w0⟩,turn⟩:=h2
 subst e
 -- what stays true of MM Qo objects through MM loop
 have stat : ∀ {H':Hp},(∀ b∈fp,H' b=none)->∀ b∈fp,oM X pins H' b:=λ hn b hb=>⟨hn b hb,(f2 b hb).2⟩
 refine codeAny_forLoop_any (λ n s' => ∃ i σ' H',Inv X pins σ' H' s'/\tn i s'.heap/\(∀ b∈fp,H' b=none)/\W i n σ' H') ?_ m0 ⟨0,σ,H2,I2,st2,λ b hb=>(f2 b hb).1,w0⟩
 rintro n s3 ⟨i,σ3,H3,I3,st3,fr3,w3⟩
 rcases turn i n σ3 H3 w3 with ⟨stop,qn⟩ | ⟨go,N,hN,step⟩
 ·refine wpAny_passesOwn hp (cV (T.done X rfl rfl rfl hc i pins s3 σ3 H3 X.xe I3 (stat fr3) st3 stop) λ r s4 ⟨hr,I4⟩ => ?_)
  subst hr
  exact wpAny_execs_nil ⟨σ3,H3,I4,qn⟩
 ·refine wpAny_passesOwn hp (cV (T.item X rfl rfl rfl hc i pins s3 σ3 H3 X.xe I3 (stat fr3) st3 go) λ r s4 ⟨u,hr,h4⟩ => ?_)
  subst hr
  refine wpAny_passesOwn hp (cV h4 λ _ s5 ⟨x,H5,I5,r5,y5,Sl,Vg⟩ => ?_)
  have I5':=I5.pinned (stat Vg) (T.obj _ _ Sl)
  refine wpAny_passesOwn hp (cV (hg _ s5 σ3 H5 x u _ I5' r5 (step x H5 y5)) λ _ s6 ⟨σ6,H6,I6,q6⟩ => ?_)
  refine wpAny_passesOwn hp (cV (hb _ s6 σ6 H6 _ I6 q6) λ f s7 q7 => ?_)
  have again : ∀ {σ7:St} {H7:Hp},Inv X (pins++uY fp s5.heap) σ7 H7 s7->N σ7 H7->∃ m,m < n ∧ ∃ i σ' H',Inv X pins σ' H' s7/\tn i s7.heap/\(∀ b∈fp,H' b=none)/\W i m σ' H':=fun {σ7 H7} I7 n7=>by
   obtain ⟨m',hm,w7⟩:=hN σ7 H7 n7
   refine ⟨m',hm,i+1,σ7,H7,I7.oN,T.keep _ _ _ Sl λ b hb o e=>(I7.pin (b,o) (List.mem_append_right _ (List.mem_append_right _ (jz hb e)))).1,λ b hb => ?_,w7⟩
   obtain ⟨o,e,d⟩:=T.obj _ _ Sl b hb
   exact (I7.pin (b,o) (List.mem_append_right _ (List.mem_append_right _ (jz hb e)))).2.1
  cases f with
  | next=>obtain ⟨σ7,H7,I7,n7⟩:=q7;exact again I7 n7
  | cont=>obtain ⟨σ7,H7,I7,n7⟩:=q7;exact again I7 n7
  | brk=>obtain ⟨σ7,H7,I7,q7⟩:=q7;exact ⟨σ7,H7,I7.oN,q7⟩
  | ret v=>obtain ⟨x7,σ7,H7,I7,r7,q7⟩:=q7;exact ⟨x7,σ7,H7,I7.oN,r7,q7⟩
end
theorem JY {K:PySem.W.Frag} {a:Addr} {xs:List V} {g:TG} {tb:TS} {D:Ends} {σ : St} {H:Hp} (Pv:Nat->St->Hp->Prop) (h0:Pv 0 σ H) (hl : ∀ i σ H,i<=xs.length->Pv i σ H->eY K H a xs)
  (hs : ∀ i x σ H,xs[i]? = some x->Pv i σ H->g x σ H fun σ2 H2=>tb { D with nx:=Pv (i+1),ct:=Pv (i+1),bk:=D.nx } σ2 H2) (hd : ∀ σ H,Pv xs.length σ H->D.nx σ H) :
  ∃ W:Nat->Nat->St->Hp->Prop,(∃ m,W 0 m σ H) ∧ ∀ i m σ H,W i m σ H →
    ((JF K a).stop i H/\D.nx σ H)\/((JF K a).go i H ∧ ∃ N:St->Hp->Prop,(∀ σ' H',N σ' H'->∃ m',m' < m/\W (i+1) m' σ' H') ∧ ∀ x H',(JF K a).M7 i H x H'->g x σ H' fun σ2 H2=>tb { D with nx:=N,ct:=N,bk:=D.nx } σ2 H2):=by
 refine ⟨λ i m σ H=>m=xs.length - i/\i<=xs.length/\Pv i σ H,⟨xs.length,by simp,Nat.zero_le _,h0⟩,?_⟩
 rintro i m σ H ⟨rfl,hi,p⟩
 have q:=hl i σ H hi p
 by_cases hlt:i < xs.length
 ·refine .inr ⟨⟨xs,xs[i],q,by simp [hlt]⟩,Pv (i+1),fun σ' H' p'=>⟨xs.length - (i+1),by omega,rfl,hlt,p'⟩,λ x H' y => ?_⟩
  obtain ⟨e,y⟩:=y
  subst e
  exact hs i x σ _ (y xs q) p
 ·have e:i=xs.length:=by omega
  subst e
  exact .inl ⟨⟨xs,q,Nat.le_refl _⟩,hd σ H p⟩
theorem HF {lo:Int} {n:Nat} {g:TG} {tb:TS} {D:Ends} {σ : St} {H:Hp} (Pv:Nat->St->Hp->Prop) (h0:Pv 0 σ H)
  (hs : ∀ i σ H,i < n->Pv i σ H->g (.int (lo+i)) σ H fun σ2 H2=>tb { D with nx:=Pv (i+1),ct:=Pv (i+1),bk:=D.nx } σ2 H2) (hd : ∀ σ H,Pv n σ H->D.nx σ H) :
  ∃ W:Nat->Nat->St->Hp->Prop,(∃ m,W 0 m σ H) ∧ ∀ i m σ H,W i m σ H →
    ((GC lo n).stop i H/\D.nx σ H)\/((GC lo n).go i H ∧ ∃ N:St->Hp->Prop,(∀ σ' H',N σ' H'->∃ m',m' < m/\W (i+1) m' σ' H') ∧ ∀ x H',(GC lo n).M7 i H x H'->g x σ H' fun σ2 H2=>tb { D with nx:=N,ct:=N,bk:=D.nx } σ2 H2):=by
 refine ⟨λ i m σ H=>m=n - i/\i<=n/\Pv i σ H,⟨n,by simp,Nat.zero_le _,h0⟩,?_⟩
 rintro i m σ H ⟨rfl,hi,p⟩
 by_cases hlt:i < n
 ·refine .inr ⟨hlt,Pv (i+1),fun σ' H' p'=>⟨n - (i+1),by omega,rfl,hlt,p'⟩,λ x H' y => ?_⟩
  obtain ⟨e,y⟩:=y
  subst e y
  exact hs i σ _ hlt p
 ·have e:i=n:=by omega
  subst e
  exact .inl ⟨Nat.le_refl _,hd σ H p⟩
end L2
namespace L2
open PySem PySem.Spec PyProof.Rows
abbrev R2:=V->V->Hp->VK->Prop
def ql (X:Cx) (f:Value->Value->Sem Value) (r:R2):Prop :=
 ∀ (pins:List (Addr×Obj)) (s:Shared) (σ : St) (H:Hp) (x y:V) (v u:Value) (Q:VK),Inv X pins σ H s->RelV x v->RelV y u->r x y H Q →
   wpAny (model X.prog X.w) X.A (f v u) (EP X pins σ Q) X.xe s
def Wi (X:Cx) (f:Value->Sem Value) (r:V->Hp->VK->Prop):Prop :=
 ∀ (pins:List (Addr×Obj)) (s:Shared) (σ : St) (H:Hp) (x:V) (v:Value) (Q:VK),Inv X pins σ H s->RelV x v->r x H Q →
   wpAny (model X.prog X.w) X.A (f v) (EP X pins σ Q) X.xe s
def kI (X:Cx) (f:Value) (r:List V->Hp->VK->Prop):Prop :=
 ∀ (pins:List (Addr×Obj)) (s:Shared) (σ : St) (H:Hp) (xs:List V) (us:List Value) (Q:VK),Inv X pins σ H s->Vals xs us->r xs H Q →
   wpAny (model X.prog X.w) X.A (call f us) (EP X pins σ Q) X.xe s
def Qp (r:R2) (ta tb:TE):TE:=fun σ H Q=>ta σ H λ x H1=>tb σ H1 λ y H2=>r x y H2 Q
def Wj (r:V->Hp->VK->Prop) (ta:TE):TE:=fun σ H Q=>ta σ H λ x H1=>r x H1 Q
def rI (C:Int->Int->Prop) (g:Int->Int->V):R2:=λ x y H Q => ∃ i j,x = .int i/\y = .int j/\C i j/\Q (g i j) H
def MN (g:Int->Int->V):R2:=λ x y H Q => ∃ i j,x = .int i/\y = .int j/\Q (g i j) H
def rU (g:Int->V):V->Hp->VK->Prop:=λ x H Q => ∃ i,x = .int i/\Q (g i) H
section
variable {X:Cx} {a b c:Expr} {ta tb tc:TE} {pos:Pos}
theorem Qq (ha:PE X a ta) (hb:PE X b tb) {pins:List (Addr×Obj)} {s:Shared} {σ : St} {H:Hp} {R:V->V->Hp->Prop} (I:Inv X pins σ H s)
  (h:ta σ H λ x H1=>tb σ H1 λ y H2=>R x y H2) {Q:Value->Shared->Prop} {f:Value->Value->Sem Value}
  (hf : ∀ v u s2 x y H2,Inv X pins σ H2 s2->RelV x v->RelV y u->R x y H2->wpAny (model X.prog X.w) X.A (f v u) Q X.xe s2) :
  wpAny (model X.prog X.w) X.A (eval a X.env) (λ v s₁ => wpAny (model X.prog X.w) X.A (eval b X.env) (λ u s₂ => wpAny (model X.prog X.w) X.A (f v u) Q X.xe s₂) X.xe s₁) X.xe s:=by
 refine cV (ha pins s σ H _ I h) λ v s1 ⟨x,H1,I1,r1,q1⟩ => ?_
 refine cV (hb pins s1 σ H1 _ I1 q1) λ u s2 ⟨y,H2,I2,r2,q2⟩ => ?_
 exact hf v u s2 x y H2 I2 r1 r2 q2
theorem aq {op:Operator} {r:R2} (ho:ql X (binaryOp op) r) (ha:PE X a ta) (hb:PE X b tb):PE X (.BinOp a op b pos) (Qp r ta tb):=by
 intro pins s σ H Q I h
 exact wpAny_BinOp (Qq ha hb I h λ v u s2 x y H2 I2 rx ry q=>ho pins s2 σ H2 x y v u Q I2 rx ry q)
theorem OY {op:UnaryOp} {r:V->Hp->VK->Prop} (ho:Wi X (unaryOp op) r) (ha:PE X a ta):PE X (.UnaryOp op a pos) (Wj r ta):=by
 intro pins s σ H Q I h
 exact UnaryOp_ (cV (ha pins s σ H _ I h) λ v s1 ⟨x,H1,I1,r1,q1⟩=>ho pins s1 σ H1 x v Q I1 r1 q1)
theorem SV {f:Value->Value->Sem Value} {C:Int->Int->Prop} {g:Int->Int->Int}
  (rule : ∀ (i j:Int) (t u:Tok) (s:Shared) (Q:Value->Shared->Prop) (E:Value->Shared->Prop),C i j->Q (.int (g i j) s.toks) { s with toks:=s.toks+1 }->wpAny (model X.prog X.w) X.A (f (.int i t) (.int j u)) Q E s) :
  ql X f (rI C λ i j => .int (g i j)):=by
 intro pins s σ H x y v u Q I rx ry h
 obtain ⟨i,j,rfl,rfl,hc,q⟩:=h
 obtain ⟨t,rfl⟩:=rx
 obtain ⟨t',rfl⟩:=ry
 exact rule i j t t' s _ _ hc ⟨.int (g i j),H,I.tok _,⟨_,rfl⟩,q⟩
theorem SW {f:Value->Value->Sem Value} {g:Int->Int->Int}
  (rule : ∀ (i j:Int) (t u:Tok) (s:Shared) (Q:Value->Shared->Prop) (E:Value->Shared->Prop),Q (.int (g i j) s.toks) { s with toks:=s.toks+1 }->wpAny (model X.prog X.w) X.A (f (.int i t) (.int j u)) Q E s) :
  ql X f (MN λ i j => .int (g i j)):=by
 intro pins s σ H x y v u Q I rx ry h
 obtain ⟨i,j,rfl,rfl,q⟩:=h
 obtain ⟨t,rfl⟩:=rx
 obtain ⟨t',rfl⟩:=ry
 exact rule i j t t' s _ _ ⟨.int (g i j),H,I.tok _,⟨_,rfl⟩,q⟩
theorem Qs {f:Value->Value->Sem Value} {g:Int->Int->Bool}
  (rule : ∀ (i j:Int) (t u:Tok) (s:Shared) (Q:Value->Shared->Prop) (E:Value->Shared->Prop),Q (.bool (g i j)) s->wpAny (model X.prog X.w) X.A (f (.int i t) (.int j u)) Q E s) :
  ql X f (MN λ i j => .bl (g i j)):=by
 intro pins s σ H x y v u Q I rx ry h
 obtain ⟨i,j,rfl,rfl,q⟩:=h
 obtain ⟨t,rfl⟩:=rx
 obtain ⟨t',rfl⟩:=ry
 exact rule i j t t' s _ _ ⟨.bl (g i j),H,I,rfl,q⟩
def SX (i j:Int):Prop:=0 < j/\j < 1073741824
def SY (i j:Int):Prop:=j≠0/\j.natAbs < 1073741824
def nC (i j:Int):Prop:=0<=j/\j<=1000000/\i.natAbs < 2 ^ 64
def M8 (i j:Int):Prop:=(-(2 ^ 64) < i/\i < 2 ^ 64)\/(-(2 ^ 64) < j/\j < 2 ^ 64)
theorem M8.ok {i j:Int} (h:M8 i j):IntMulOk i j:=by
 rcases h with ⟨h1,h2⟩ | ⟨h1,h2⟩
 ·exact .of_left (intBits_le_64 h1 h2)
 ·exact .of_right (intBits_le_64 h1 h2)
theorem aV:ql X (binaryOp .Add) (MN λ i j => .int (i+j)):=SW λ _ _ _ _ _ _ _ q=>add_int q
theorem jB:ql X (binaryOp .Sub) (MN λ i j => .int (i - j)):=SW λ _ _ _ _ _ _ _ q=>sub_int q
theorem fN:ql X (binaryOp .Mult) (rI M8 λ i j => .int (i * j)):=SV λ _ _ _ _ _ _ _ hc q=>mul_int q hc.ok
theorem bE:ql X (binaryOp .FloorDiv) (rI SX λ i j => .int (i / j)):=SV λ i j _ _ _ _ _ hc q=>by
 have h1:(0:Int) < j:=hc.1
 have h2:j < 1073741824:=hc.2
 exact floordiv_int (by omega) (by rw [Int.fdiv_eq_ediv_of_nonneg i (by omega)];exact q) (.inl (PyProof.noPylong_small (by omega)))
theorem aG:ql X (binaryOp .Mod) (rI (λ _ j=>0 < j) λ i j => .int (i % j)):=SV λ i j _ _ _ _ _ hc q=>by
 have h1:(0:Int) < j:=hc
 exact mod_int' (by omega) (by rw [Int.fmod_eq_emod_of_nonneg i (by omega)];exact q)
theorem A7:ql X (binaryOp .Pow) (rI nC λ i j => .int (i ^ j.toNat)):=SV λ _ _ _ _ _ _ _ hc q=>pow_int_small hc.1 hc.2.1 hc.2.2 q
theorem unI {f:Value->Sem Value} {g:Int->Int}
  (rule : ∀ (i:Int) (t:Tok) (s:Shared) (Q:Value->Shared->Prop) (E:Value->Shared->Prop),Q (.int (g i) s.toks) { s with toks:=s.toks+1 }->wpAny (model X.prog X.w) X.A (f (.int i t)) Q E s) :
  Wi X f (rU λ i => .int (g i)):=by
 intro pins s σ H x v Q I rx h
 obtain ⟨i,rfl,q⟩:=h
 obtain ⟨t,rfl⟩:=rx
 exact rule i t s _ _ ⟨.int (g i),H,I.tok _,⟨_,rfl⟩,q⟩
theorem JZ:Wi X (unaryOp .USub) (rU λ i => .int (-i)):=unI λ _ _ _ _ _ q=>neg_int q
end
def S5:V->V->Bool
 | .aH,.aH=>true | .aH,.int _=>true | .int _,.aH=>true | .aH,.bl _=>true | .bl _,.aH=>true | .aH,.str _=>true | .str _,.aH=>true
 | .int _,.int _=>true | .bl _,.bl _=>true | .str _,.str _=>true | .JD _,.JD _=>true
 | .int _,.str _=>true | .str _,.int _=>true | .bl _,.str _=>true | .str _,.bl _=>true
 | _,_=>false
def Qt:R2:=λ x y H Q=>S5 x y=true/\Q (.bl (decide (x=y))) H
def Wk:R2:=λ x y H Q=>S5 x y=true/\Q (.bl (!decide (x=y))) H
theorem GD {i j:Int} : decide (V.int i=V.int j)=(i == j):=by
 rw [Bool.eq_iff_iff]
 simp
theorem J0 {i j:Bool} : decide (V.bl i=V.bl j)=(i == j):=by
 rw [Bool.eq_iff_iff]
 simp
theorem GF {i j:Str} : decide (V.str i=V.str j)=(i == j):=by
 rw [Bool.eq_iff_iff]
 simp
theorem GG {i j:Array UInt8} : decide (V.JD i=V.JD j)=(i.toList == j.toList):=by
 rw [Bool.eq_iff_iff]
 cases i
 cases j
 simp
section
variable {X:Cx} {a b c:Expr} {ta tb tc:TE} {pos:Pos}
theorem bf {pins:List (Addr×Obj)} {σ : St} {H:Hp} {s:Shared} {Q:VK} {k k':Bool} (I:Inv X pins σ H s) (q:Q (.bl k) H) (e:k=k'):EP X pins σ Q (.bool k') s:=by
 subst e
 exact ⟨.bl k,H,I,rfl,q⟩
theorem cz:ql X (compareOp .Eq) Qt:=by
 intro pins s σ H x y v u Q I rx ry h
 obtain ⟨hs,q⟩:=h
 cases x with
 | aH =>
   cases rx
   cases y with
   | aH=>cases ry;exact PySem.EqNone.eq_none_none (bf I q (by simp))
   | bl j=>cases ry;exact PySem.EqNone.eq_none_bool (bf I q (by simp))
   | int j=>obtain ⟨t',rfl⟩:=ry;exact PySem.EqNone.eq_none_int (bf I q (by simp))
   | str j=>obtain ⟨t',rfl⟩:=ry;exact PySem.EqNone.eq_none_str (bf I q (by simp))
   | _=>exact absurd (show false=true from hs) Bool.false_ne_true
 | bl i =>
   cases rx
   cases y with
   | aH=>cases ry;exact PySem.EqNone.eq_bool_none (bf I q (by simp))
   | bl j=>cases ry;exact eq_bool (bf I q J0)
   | str j=>obtain ⟨t',rfl⟩:=ry;exact PySem.EqMixed.eq_bool_str (bf I q (by simp))
   | _=>exact absurd (show false=true from hs) Bool.false_ne_true
 | int i =>
   obtain ⟨t,rfl⟩:=rx
   cases y with
   | aH=>cases ry;exact PySem.EqNone.eq_int_none (bf I q (by simp))
   | int j=>obtain ⟨t',rfl⟩:=ry;exact eq_int (bf I q GD)
   | str j=>obtain ⟨t',rfl⟩:=ry;exact PySem.EqMixed.eq_int_str (bf I q (by simp))
   | _=>exact absurd (show false=true from hs) Bool.false_ne_true
 | str i =>
   obtain ⟨t,rfl⟩:=rx
   cases y with
   | aH=>cases ry;exact PySem.EqNone.eq_str_none (bf I q (by simp))
   | bl j=>cases ry;exact PySem.EqMixed.eq_str_bool (bf I q (by simp))
   | int j=>obtain ⟨t',rfl⟩:=ry;exact PySem.EqMixed.eq_str_int (bf I q (by simp))
   | str j=>obtain ⟨t',rfl⟩:=ry;exact eq_str (bf I q GF)
   | _=>exact absurd (show false=true from hs) Bool.false_ne_true
 | JD i =>
   obtain ⟨t,rfl⟩:=rx
   cases y with
   | JD j=>obtain ⟨t',rfl⟩:=ry;exact PySem.W.eq_bytes (bf I q GG)
   | _=>exact absurd (show false=true from hs) Bool.false_ne_true
 | _=>cases y <;> exact absurd (show false=true from hs) Bool.false_ne_true
theorem OZ:ql X (compareOp .NotEq) Wk:=by
 intro pins s σ H x y v u Q I rx ry h
 obtain ⟨hs,q⟩:=h
 cases x with
 | aH =>
   cases rx
   cases y with
   | aH=>cases ry;exact PySem.EqNone.ne_none_none (bf I q (by simp))
   | bl j=>cases ry;exact PySem.EqNone.ne_none_bool (bf I q (by simp))
   | int j=>obtain ⟨t',rfl⟩:=ry;exact PySem.EqNone.ne_none_int (bf I q (by simp))
   | str j=>obtain ⟨t',rfl⟩:=ry;exact PySem.EqNone.ne_none_str (bf I q (by simp))
   | _=>exact absurd (show false=true from hs) Bool.false_ne_true
 | bl i =>
   cases rx
   cases y with
   | aH=>cases ry;exact PySem.EqNone.ne_bool_none (bf I q (by simp))
   | bl j=>cases ry;exact ne_bool (bf I q (congrArg not J0))
   | str j=>obtain ⟨t',rfl⟩:=ry;exact PySem.EqMixed.ne_bool_str (bf I q (by simp))
   | _=>exact absurd (show false=true from hs) Bool.false_ne_true
 | int i =>
   obtain ⟨t,rfl⟩:=rx
   cases y with
   | aH=>cases ry;exact PySem.EqNone.ne_int_none (bf I q (by simp))
   | int j=>obtain ⟨t',rfl⟩:=ry;exact ne_int (bf I q (congrArg not GD))
   | str j=>obtain ⟨t',rfl⟩:=ry;exact PySem.EqMixed.ne_int_str (bf I q (by simp))
   | _=>exact absurd (show false=true from hs) Bool.false_ne_true
 | str i =>
   obtain ⟨t,rfl⟩:=rx
   cases y with
   | aH=>cases ry;exact PySem.EqNone.ne_str_none (bf I q (by simp))
   | bl j=>cases ry;exact PySem.EqMixed.ne_str_bool (bf I q (by simp))
   | int j=>obtain ⟨t',rfl⟩:=ry;exact PySem.EqMixed.ne_str_int (bf I q (by simp))
   | str j=>obtain ⟨t',rfl⟩:=ry;exact ne_str (bf I q (congrArg not GF))
   | _=>exact absurd (show false=true from hs) Bool.false_ne_true
 | JD i =>
   obtain ⟨t,rfl⟩:=rx
   cases y with
   | JD j=>obtain ⟨t',rfl⟩:=ry;exact PySem.W.ne_bytes (bf I q (congrArg not GG))
   | _=>exact absurd (show false=true from hs) Bool.false_ne_true
 | _=>cases y <;> exact absurd (show false=true from hs) Bool.false_ne_true
theorem O0:ql X (compareOp .Lt) (MN λ i j => .bl (decide (i < j))):=Qs λ _ _ _ _ _ _ _ q=>lt_int q
theorem CV:ql X (compareOp .Gt) (MN λ i j => .bl (decide (j < i))):=Qs λ _ _ _ _ _ _ _ q=>gt_int q
theorem S6:ql X (compareOp .GtE) (MN λ i j => .bl (decide (j<=i))):=Qs λ _ _ _ _ _ _ _ q=>ge_int q
theorem J1:ql X (compareOp .Is) (λ x y H Q=>y = .aH/\Q (.bl (decide (x = .aH))) H):=by
 intro pins s σ H x y v u Q I rx ry h
 obtain ⟨rfl,q⟩:=h
 cases ry
 refine is_none_gen (bf I q ?_)
 cases x <;> first
  | (cases rx;rfl)
  | (obtain ⟨t,rfl⟩:=rx;rfl)
theorem oO:ql X (compareOp .IsNot) (λ x y H Q=>y = .aH/\Q (.bl (!decide (x = .aH))) H):=by
 intro pins s σ H x y v u Q I rx ry h
 obtain ⟨rfl,q⟩:=h
 cases ry
 refine isnot_none_gen (bf I q ?_)
 cases x <;> first
  | (cases rx;rfl)
  | (obtain ⟨t,rfl⟩:=rx;rfl)
theorem aO (b:Expr) {op:CmpOp} (h:op ≠ .In:=by decide) (h2:op ≠ .NotIn:=by decide):behindInMarks op b=false:=by
 have e1:(op == CmpOp.In)=false:=by cases op <;> first | rfl | exact absurd rfl h
 have e2:(op == CmpOp.NotIn)=false:=by cases op <;> first | rfl | exact absurd rfl h2
 cases b <;> simp [behindInMarks,e1,e2]
theorem jC {op:CmpOp} {r:R2} (ho:ql X (compareOp op) r) (ha:PE X a ta) (hb:PE X b tb) (hm:behindInMarks op b=false):PE X (.Compare a [op] [b] pos) (Qp r ta tb):=by
 intro pins s σ H Q I h
 exact wpAny_Compare1 (Qq ha hb I h λ v u s2 x y H2 I2 rx ry q=>ho pins s2 σ H2 x y v u Q I2 rx ry q) hm
def GH (t:TE):TT:=fun σ H Q=>t σ H λ x H' => ∃ k,x = .bl k/\Q k H'
theorem aI {op:CmpOp} {r:R2} (ho:ql X (compareOp op) r) (ha:PE X a ta) (hb:PE X b tb) (hm:behindInMarks op b=false):PT X (.Compare a [op] [b] pos) (GH (Qp r ta tb)):=by
 intro pins s σ H Q I h
 refine wpAny_isTrue_Compare1 (cV (ha pins s σ H _ I h) λ v s1 ⟨x,H1,I1,r1,q1⟩=>cV (hb pins s1 σ H1 _ I1 q1) λ u s2 ⟨y,H2,I2,r2,q2⟩ =>
  cV (ho pins s2 σ H2 x y v u _ I2 r1 r2 q2) λ c s3 ⟨z,H3,I3,r3,k,e,q3⟩ => ?_) hm
 subst e
 cases r3
 exact wpAny_truthy_bool ⟨H3,I3,q3⟩
theorem nD:(sizeLine:Nat) < 2 ^ 63:=by rw [sizeLine_eq];decide
theorem Eu:ql X (binaryOp .Add) (λ x y H Q => ∃ i j,x = .str i/\y = .str j/\i.length+j.length<=sizeLine/\Q (.str (i++j)) H):=by
 intro pins s σ H x y v u Q I rx ry h
 obtain ⟨i,j,rfl,rfl,hz,q⟩:=h
 obtain ⟨t,rfl⟩:=rx
 obtain ⟨t',rfl⟩:=ry
 exact add_str (λ t' tk=>⟨.str (i++j),H,I.tok _,⟨_,rfl⟩,q⟩) hz
theorem vals1 {x:V} {us:List Value} (r:Vals [x] us) : ∃ u,us = [u]/\RelV x u:=by
 cases r with
 | cons r1 r2=>cases r2;exact ⟨_,rfl,r1⟩
end
end L2
namespace L2
open PySem PySem.Spec PyProof.Rows
structure Ew (h:Heap) (x dx C:Addr) (mA:Str->Option Value):Prop where
 obj:h.get? x=some (PySem.W.instObj C dx)
 ns:h.Ns1 dx mA
 ne:dx≠x
theorem HG {h:Heap} {dx:Addr} {mA:Str->Option Value} (n:h.Ns1 dx mA) : ∃ od,h.get? dx=some od ∧ ∀ name,PySem.W.lookIn name od=some (mA name):=by
 obtain ⟨o,es,ep,ho,hd,hk,_,hm⟩:=n
 refine ⟨o,ho,λ name => ?_⟩
 have e:=hm name
 unfold nsFind findBy at e
 rw [<-Array.find?_toList] at e
 unfold PySem.W.lookIn
 rw [hd]
 dsimp only
 split
 ·rename_i y q
  rw [q] at e
  exact congrArg some e
 ·rename_i q
  rw [q] at e
  have a:es.toList.any (·.refKey)=false:=by
   rw [List.any_eq_false]
   intro y hy
   obtain ⟨z,t,hkey⟩:=hk y (Array.mem_toList_iff.mp hy)
   simp [DictEntry.refKey,hkey]
  have a' : ¬ es.toList.any (·.refKey)=true:=by rw [a];exact Bool.false_ne_true
  rw [if_neg a']
  exact congrArg some e
theorem Ew.look {h:Heap} {x dx C:Addr} {mA:Str->Option Value} (I:Ew h x dx C mA) : ∃ od,PySem.W.InstAt h x (PySem.W.instObj C dx) C (some od) ∧ ∀ name,PySem.W.lookIn name od=some (mA name) :=
 let ⟨od,ho,hl⟩:=HG I.ns
 ⟨od,⟨I.obj,rfl,rfl,ho⟩,hl⟩
section
variable {prog:Program} {w:World} {A:Around} {E:Value->Shared->Prop} {s:Shared} {K:PySem.W.Frag} {x dx C f:Addr} {mA:Str->Option Value} {name:Str} {v:Value}
theorem get_map {expr:Bool} {Q:Value->Shared->Prop} (X:K.In s.heap) (I:Ew s.heap x dx C mA) (hg:PySem.W.plainGet K C name=true) (hh:PySem.W.hasDictIn K C=true)
  (ha:PySem.W.findIn K (.ref C) name=some none) (hv:mA name=some v) (hv':PySem.W.handedIn v=true) (h:Q v { s with toks:=s.toks+1 }) :
  wpAny (model prog w) A (getAttr (.ref x) name expr) Q E s:=by
 obtain ⟨od,J,hl⟩:=I.look
 exact PySem.W.get_value X J (PySem.W.plainGet_of hg).1 (PySem.W.findObj_own hh ha rfl (by rw [hl,hv])) hv' h
theorem J2 {pl:Sem Bool} {Q:Value×List Value->Shared->Prop} (X:K.In s.heap) (I:Ew s.heap x dx C mA) (hg:PySem.W.plainGet K C name=true)
  (hf:PySem.W.findIn K (.ref C) name=some (some (.ref f))) (ht:PySem.W.isFn K (.ref f)=true) (hv:mA name=none) (h:Q (.ref f,[.ref x]) s) :
  wpAny (model prog w) A (getMethod (.ref x) name pl) Q E s:=by
 obtain ⟨od,J,hl⟩:=I.look
 exact PySem.W.method_fn X J (PySem.W.plainGet_of hg).1 (PySem.W.plainGet_of hg).2 hf (beq_iff_eq.mp ht) (by show (PySem.W.lookIn name od).map (·.isSome)=some false;rw [hl,hv];rfl) h
theorem M9 {ns:List Str} {Q:Unit->Shared->Prop} (X:K.In s.heap) (I:Ew s.heap x dx C mA)
  (hs:PySem.W.findIn K (.ref C) "__setattr__" = some (some (.builtin "object.__setattr__"))) (hp:PySem.W.plainOver K C=true) (ht:PySem.W.takerIn K C name=some none) (hh:PySem.W.hasDictIn K C=true)
  (hw:PySem.Within mA ns) (hsz:ns.length<=sizeLine)
  (h : ∀ h',Ew h' x dx C (λ y=>if y=name then some v else mA y)->Heap.SameBut dx s.heap h'->Q () { s with heap:=h',toks:=s.toks+2 }) :
  wpAny (model prog w) A (setAttr (.ref x) name v) Q E s:=by
 obtain ⟨od,J,hl⟩:=I.look
 refine PySem.W.set_plain X J hs (PySem.W.osa_open (s := { s with toks:=s.toks+1 }) (r:=none) X J hp ht λ b => ?_)
 obtain ⟨cd,hc,hd'⟩:=PySem.W.any_some hh
 have hx:s.heap.get? x=some ⟨.ref C,some dx,.plain,#[]⟩:=I.obj
 refine wpAny_bind (wpAny_pure (wpAny_bind (wpAny_bind (wpAny_loadPart hx (wpAny_bind (PySem.W.Looks.here (s := { s with toks:=s.toks+1 }) (PySem.W.looks_clsIn X hc) ?_))))))
 rw [hd']
 refine wpAny_pure (a:=some dx) (wpAny_bind (wpAny_pure (wpAny_bind ?_)))
 refine wpAny_nsSet1 (s := { s with toks:=s.toks+1 }) I.ns λ h' hn2 hs2 => ?_
 obtain ⟨oD,esD,epD,hoD,hdD,hcD⟩:=hn2.count (PySem.Within.cons name v hw)
 refine wpAny_bind (wpAny_lookBehind hoD (by rw [hdD];exact pastItsLine_dict (Nat.le_trans hcD (by rw [List.length_cons];omega))) ?_)
 exact wpAny_pure (h _ ⟨(hs2.2 _ (Ne.symm I.ne)).trans I.obj,hn2,I.ne⟩ hs2)
theorem J3 {R:Result->Shared->Prop} {vs:List Value} {kw:List (Str×Value)} (X:K.In s.heap) (hm:PySem.W.makesIn K C=true)
  (hi:PySem.W.findIn K (.ref C) "__init__" = some (some (.ref f))) (hf:PySem.W.typeIn K (.ref f)=some (.type "function"))
  (h:codeAny (model prog w) (A.under (.builtin "type.__call__" ⟨.ref C::vs,kw⟩)) (.call (.ref f) ⟨.ref (s.heap.objs.size+1)::vs,kw⟩) (PySem.W.InitBack (s.heap.objs.size+1) R)
   { s with heap:=(s.heap.push PySem.W.emptyDict).push (PySem.W.instObj C s.heap.objs.size) }) :
  codeAny (model prog w) A (.call (.ref C) ⟨vs,kw⟩) R s:=by
 obtain ⟨hh,g,d,t,os⟩:=s
 exact PySem.W.make_core (PySem.W.makes_of X hm) (PySem.W.looks_findIn X hi) (λ self=>PySem.W.bind_fn X self hf) (.inl rfl) h
end
def cQ (f:Str) (v:V):List (Str×V)->List (Str×V)
 | []=>[(f,v)]
 | (g,x)::r=>if g=f then (g,v)::r else (g,x)::cQ f v r
theorem sA (f g:Str) (v:V) : ∀ fs:List (Str×V),(cQ f v fs).lookup g=if g=f then some v else fs.lookup g
 | []=>by
   show List.lookup g [(f,v)]=_
   by_cases h:g=f
   ·have hb:(g == f)=true:=beq_iff_eq.mpr h
    simp only [List.lookup,hb,if_pos h]
   ·have hb:(g == f)=false:=beq_eq_false_iff_ne.mpr h
    simp only [List.lookup,hb,if_neg h]
 | (k,x)::r=>by
   have ih:=sA f g v r
   rw [show cQ f v ((k,x)::r)=(if k=f then (k,v)::r else (k,x)::cQ f v r) from rfl]
   by_cases hk:k=f
   ·rw [if_pos hk]
    by_cases h:g=k
    ·have hb:(g == k)=true:=beq_iff_eq.mpr h
     simp only [List.lookup,hb,if_pos (h.trans hk)]
    ·have hb:(g == k)=false:=beq_eq_false_iff_ne.mpr h
     simp only [List.lookup,hb,if_neg (λ e:g=f=>h (e.trans hk.symm))]
   ·rw [if_neg hk]
    by_cases h:g=k
    ·have hb:(g == k)=true:=beq_iff_eq.mpr h
     simp only [List.lookup,hb,if_neg (λ e:g=f=>hk (h.symm.trans e))]
    ·have hb:(g == k)=false:=beq_eq_false_iff_ne.mpr h
     simp only [List.lookup,hb]
     exact ih
theorem qq (f:Str) (v:V) : ∀ fs:List (Str×V),f∈(cQ f v fs).map (·.1) ∧ ∀ g,g∈fs.map (·.1)->g∈(cQ f v fs).map (·.1)
 | []=>⟨by simp [cQ],λ g h=>by simp at h⟩
 | (k,x)::r=>by
   obtain ⟨i1,i2⟩:=qq f v r
   rw [show cQ f v ((k,x)::r)=(if k=f then (k,v)::r else (k,x)::cQ f v r) from rfl]
   by_cases hk:k=f
   ·rw [if_pos hk]
    subst hk
    exact ⟨by simp,λ g h=>by simpa using h⟩
   ·rw [if_neg hk]
    refine ⟨?_,λ g h => ?_⟩
    ·rw [List.map_cons]
     exact List.mem_cons_of_mem _ i1
    ·rw [List.map_cons] at h ⊢
     rcases List.mem_cons.mp h with e | e
     ·exact List.mem_cons.mpr (.inl e)
     ·exact List.mem_cons_of_mem _ (i2 g e)
theorem sC (f:Str) (v:V) : ∀ fs:List (Str×V),(cQ f v fs).length<=fs.length+1
 | []=>by simp [cQ]
 | (k,x)::r=>by
   have ih:=sC f v r
   rw [show cQ f v ((k,x)::r)=(if k=f then (k,v)::r else (k,x)::cQ f v r) from rfl]
   by_cases hk:k=f
   ·rw [if_pos hk,List.length_cons,List.length_cons];omega
   ·rw [if_neg hk,List.length_cons,List.length_cons];omega
theorem jy.some_of {v:V} {o:Option Value} (r:jy (some v) o) : ∃ u,o=some u/\RelV v u:=by
 cases o with
 | none=>exact (show False from r).elim
 | some u=>exact ⟨u,rfl,r⟩
theorem jy.none_of {o:Option Value} (r:jy none o):o=none:=by
 cases o with
 | none=>rfl
 | some u=>exact (show False from r).elim
theorem HH {v:V} {u:Value} (r:RelV v u):PySem.W.handedIn u=true:=by
 cases v with
 | aH=>cases (show u=Value.none from r);rfl
 | bl b=>cases (show u=Value.bool b from r);rfl
 | int i=>obtain ⟨t,e⟩:=(show ∃ t,u=Value.int i t from r);cases e;rfl
 | str x=>obtain ⟨t,e⟩:=(show ∃ t,u=Value.str x t from r);cases e;rfl
 | JD b=>obtain ⟨t,e⟩:=(show ∃ t,u=Value.bytes b t from r);cases e;rfl
 | Qa b=>obtain ⟨t,e⟩:=(show ∃ t,u=Value.float b t from r);cases e;rfl
 | ref a=>cases (show u=Value.ref a from r);rfl
 | ty n=>cases (show u=Value.type n from r);rfl
section
variable {P:Program} {w:World} {H H':Hp} {h h':Heap} {a C dx:Addr} {fs fs':List (Str×V)}
theorem uJ (hok:j6 P w H h) (e:H a=some (.ins C dx fs)) : ∃ mA,Ew h a dx C mA/\(∀ f,jy (fs.lookup f) (mA f))/\PySem.Within mA (fs.map (·.1))/\fs.length<=1000/\H dx=some (.own a):=by
 obtain ⟨d,z,ne,ob,mA,n,r,q⟩:=(show bS P w H h a (.ins C dx fs) from hok a _ e)
 exact ⟨mA,⟨ob,n,ne⟩,r,q,z,d⟩
end
structure MO (K:PySem.W.Frag) (C:Addr):Prop where
 pg:PySem.W.plainGet K C Str.empty=true
 hd:PySem.W.hasDictIn K C=true
 po:PySem.W.plainOver K C=true
 sa:PySem.W.findIn K (.ref C) "__setattr__" = some (some (.builtin "object.__setattr__"))
theorem MO.get {K:PySem.W.Frag} {C:Addr} (c:MO K C) (f:Str):PySem.W.plainGet K C f=true:=c.pg
def cE (K:PySem.W.Frag) (C:Addr) (f:Str):Prop:=PySem.W.findIn K (.ref C) f=some none
theorem cE.S7 {K:PySem.W.Frag} {C:Addr} {f:Str} (n:cE K C f):PySem.W.takerIn K C f=some none:=by
 unfold PySem.W.takerIn
 rw [show PySem.W.findIn K (.ref C) f=some none from n]
 rfl
structure Meth (K:PySem.W.Frag) (C:Addr) (m:Str) (f:Addr):Prop where
 at_:PySem.W.findIn K (.ref C) m=some (some (.ref f))
 fn:PySem.W.isFn K (.ref f)=true
 kp:PySem.W.keepIn K (.ref f)=true
section
variable {X:Cx} {pins:List (Addr×Obj)} {σ : St} {H:Hp} {s:Shared} {a C dx:Addr} {fs:List (Str×V)} {f:Str} {v:V} {A:Around} {E:Value->Shared->Prop}
theorem Ex {b:Bool} {Q:Value->Shared->Prop} (I:Inv X pins σ H s) (e:H a=some (.ins C dx fs)) (c:MO X.K C) (n:cE X.K C f) (l:fs.lookup f=some v)
  (h : ∀ u s',Inv X pins σ H s'->RelV v u->Q u s'):wpAny (model X.prog X.w) A (getAttr (.ref a) f b) Q E s:=by
 obtain ⟨mA,O,r,_,_,_⟩:=uJ I.hok e
 obtain ⟨u,hu,ru⟩:=jy.some_of (v:=v) (o:=mA f) (by rw [<-l];exact r f)
 exact get_map I.su O (c.get f) c.hd n hu (HH ru) (h u _ (I.tok _) ru)
theorem nE {m:Str} {g:Addr} {pl:Sem Bool} {Q:Value×List Value->Shared->Prop} (I:Inv X pins σ H s) (e:H a=some (.ins C dx fs)) (c:MO X.K C) (k:Meth X.K C m g) (l:fs.lookup m=none)
  (h:Q (.ref g,[.ref a]) s):wpAny (model X.prog X.w) A (getMethod (.ref a) m pl) Q E s:=by
 obtain ⟨mA,O,r,_,_,_⟩:=uJ I.hok e
 have hn:mA m=none:=jy.none_of (by rw [<-l];exact r m)
 exact J2 I.su O (c.get m) k.at_ k.fn hn h
theorem Ey {y:V} {u:Value} {Q:Unit->Shared->Prop} (I:Inv X pins σ H s) (e:H a=some (.ins C dx fs)) (c:MO X.K C) (n:cE X.K C f) (hl:fs.length < 1000) (ry:RelV y u)
  (h : ∀ s',Inv X pins σ (upd H a (.ins C dx (cQ f y fs))) s'->Q () s'):wpAny (model X.prog X.w) A (setAttr (.ref a) f u) Q E s:=by
 obtain ⟨mA,O,r,wi,_,ho⟩:=uJ I.hok e
 have hz:(fs.map (·.1)).length<=sizeLine:=by rw [List.length_map,sizeLine_eq];omega
 refine M9 I.su O c.sa c.po n.S7 c.hd wi hz λ h' O' sb=>h _ ?_
 have hd : ∃ o,h'.get? dx=some o:=let ⟨o,_,_,e',_⟩:=O'.ns; ⟨o,e'⟩
 refine I.write (x:=a) (e:=dx) (by rw [e];exact True.intro) (.inr ho) (λ b q hb z=>(sb.2 b hb).trans z) hd ?_
 refine ⟨by rw [b3 O.ne];exact ho,?_,O.ne,O'.obj,_,O'.ns,λ g => ?_,λ g hg => ?_⟩
 ·have:=sC f y fs;omega
 ·show jy ((cQ f y fs).lookup g) (if g=f then some u else mA g)
  rw [sA]
  by_cases q:g=f
  ·rw [if_pos q,if_pos q];exact ry
  ·rw [if_neg q,if_neg q];exact r g
 ·by_cases q:g=f
  ·rw [q];exact (qq f y fs).1
  ·refine (qq f y fs).2 g (wi g λ z=>hg ?_)
   show (if g=f then some u else mA g)=none
   rw [if_neg q];exact z
theorem Inv.made (I:Inv X pins σ H s):Inv X pins σ (upd (upd H s.heap.objs.size (.own (s.heap.objs.size+1))) (s.heap.objs.size+1) (.ins C s.heap.objs.size []))
  { s with heap:=(s.heap.push PySem.W.emptyDict).push (PySem.W.instObj C s.heap.objs.size) } := by
 have e1:(s.heap.push PySem.W.emptyDict).get? s.heap.objs.size=some PySem.W.emptyDict:=Heap.get?_push_size s.heap rfl
 have e2:((s.heap.push PySem.W.emptyDict).push (PySem.W.instObj C s.heap.objs.size)).get? (s.heap.objs.size+1)=some (PySem.W.instObj C s.heap.objs.size):=by
  have:=Heap.get?_push_size (s.heap.push PySem.W.emptyDict) (o:=PySem.W.instObj C s.heap.objs.size) rfl
  rwa [Heap.size_push] at this
 have e3:(s.heap.push PySem.W.emptyDict).Ns s.heap.objs.size (λ _=>none):=⟨PySem.W.emptyDict,#[],_,e1,rfl,(λ e he=>absurd he (by simp)),λ _=>rfl⟩
 have I1:=I.laid (a:=s.heap.objs.size) (o := .own (s.heap.objs.size+1)) (h':=s.heap.push PySem.W.emptyDict) (t':=s.toks) (λ b u q=>Heap.get?_push_of_some _ q) (Nat.le_refl _) ⟨_,e1⟩
 refine I1.laid (a:=s.heap.objs.size+1) (o := .ins C s.heap.objs.size []) (t':=s.toks) (λ b u q=>Heap.get?_push_of_some _ q) (Nat.le_of_eq (Heap.size_push _ _)) ?_
 have ne:s.heap.objs.size≠s.heap.objs.size+1:=Nat.ne_of_lt (Nat.lt_succ_self _)
 refine ⟨by rw [b3 ne,i6],Nat.zero_le _,ne,e2,λ _=>none,(Heap.Ns1.of_empty e3).at λ o q=>Heap.get?_push_of_some _ q,λ _=>True.intro,λ y hy=>absurd rfl hy⟩
theorem Na {prog:Program} {w:World} {env:Env} {e:Expr} {f:Str} {pos:Pos} {s:Shared} {Q:Value->Shared->Prop} (hb:attributeBase e f env (eval e env)=eval e env)
  (h:wpAny (model prog w) A (eval e env) (λ o s₁ => wpAny (model prog w) A (getAttr o f true) Q E s₁) E s):wpAny (model prog w) A (eval (.Attribute e f pos) env) Q E s :=
 Attribute_any_ h (by rw [arm_eval_Attribute,hb])
end
section
variable {X:Cx} {o e value:Expr} {f:Str} {pos pos' tpos:Pos} {ta tv:TE}
theorem O1 {pl:Sem Bool} {m:Str} {apos:Pos} {args:List Expr} {pins:List (Addr×Obj)} {s:Shared} {σ : St} {H:Hp} {Q:Value->Shared->Prop} {te:TE} (he:PE X e te) (I:Inv X pins σ H s)
  (h:te σ H λ x H1 => ∃ a C dx fs g,x = .ref a/\H1 a=some (.ins C dx fs)/\MO X.K C/\Meth X.K C m g/\fs.lookup m=none ∧
   ∀ s1,Inv X pins σ H1 s1->wpAny (model X.prog X.w) X.A (callWith pos (.ref g) [.ref a] (backTo pos (starEach args X.env)) (backToKw pos (keywordEach [] X.env))) Q X.xe s1)
  (ht:eval (.Call (.Attribute e m apos) args [] pos) X.env=(do
   let ov <-eval e X.env
   standAt apos.atName
   let (f,first) <-holding [ov] (getMethod ov m pl)
   callWith pos f first (backTo pos (starEach args X.env)) (backToKw pos (keywordEach [] X.env)))) :
  wpAny (model X.prog X.w) X.A (eval (.Call (.Attribute e m apos) args [] pos) X.env) Q X.xe s:=by
 refine PySem.W.methodCall_KW (pl:=pl) (cV (he pins s σ H _ I h) λ u s1 ⟨x,H1,I1,rx,a,C,dx,fs,g,ex,ea,c,k,l,q⟩ => ?_) ht
 subst ex
 obtain rfl:u=Value.ref a:=rx
 exact nE I1 ea c k l (q s1 I1)
end
section
variable {X:Cx} {pins:List (Addr×Obj)} {σ : St} {H:Hp} {s:Shared} {A:Around} {E:Value->Shared->Prop} {Q:Value->Shared->Prop} {c:Value} {b:Bool}
inductive oQ (K:PySem.W.Frag) (H:Hp):V->Value->Prop where
 | aH:oQ K H .aH (.type "NoneType")
 | bl (x:Bool):oQ K H (.bl x) (.type "bool")
 | int (i:Int):oQ K H (.int i) (.type "int")
 | str (x:Str):oQ K H (.str x) (.type "str")
 | Qa (x:UInt64):oQ K H (.Qa x) (.type "float")
 | lst {a:Addr} {xs:List V} (e:H a=some (.lst xs)):oQ K H (.ref a) (.type "list")
 | CJ {a:Addr} {o:Obj} {xs:List V} (e:H a=some (.CJ o (.lst xs))):oQ K H (.ref a) (.type "list")
 | tup {a:Addr} {xs:List V} (e:H a=some (.tup xs)):oQ K H (.ref a) (.type "tuple")
 | dK {a:Addr} {kvs:List (Key×V)} (e:H a=some (.dK kvs)):oQ K H (.ref a) (.type "dict")
 | dT {a:Addr} {kvs:List (List Key×V)} (e:H a=some (.dT kvs)):oQ K H (.ref a) (.type "dict")
 | ins {a C dx:Addr} {fs:List (Str×V)} (e:H a=some (.ins C dx fs)) (cl:MO K C) (ha:PySem.W.findIn K (.ref C) "__class__" = some (some (.builtin "object.__class__")))
   (hn:PySem.W.specialIn K (.builtin "object.__class__") "__get__" = some (some (.builtin "getset_descriptor.__get__"))) (htk:PySem.W.takesIn K (.builtin "object.__class__")=some true)
   (hm:PySem.W.mroIn K C (.type "object")=some true):oQ K H (.ref a) (.ref C)
theorem Ao {x:V} {u t:Value} (I:Inv X pins σ H s) (rx:RelV x u) (ty:oQ X.K H x t) (e:PySem.W.kitOne X.K t c=some b) (h : ∀ tk,Q (.bool b) { s with toks:=tk }) :
  wpAny (model X.prog X.w) A (call (.builtin "isinstance") [u,c]) Q E s:=by
 cases ty with
 | aH=>cases (show u=Value.none from rx);exact PySem.W.kia_one PySem.W.kitx_none I.su True.intro e (λ z=>nomatch z) h
 | bl y=>cases (show u=Value.bool y from rx);exact PySem.W.kia_one PySem.W.kitx_bool I.su True.intro e (λ z=>nomatch z) h
 | int i=>obtain ⟨t,q⟩:=(show ∃ t,u=Value.int i t from rx);cases q;exact PySem.W.kia_one PySem.W.kitx_int I.su True.intro e (λ z=>nomatch z) h
 | str y=>obtain ⟨t,q⟩:=(show ∃ t,u=Value.str y t from rx);cases q;exact PySem.W.kia_one PySem.W.kitx_str I.su True.intro e (λ z=>nomatch z) h
 | Qa y=>obtain ⟨t,q⟩:=(show ∃ t,u=Value.float y t from rx);cases q;exact PySem.W.kia_one PySem.W.kitx_float I.su True.intro e (λ z=>nomatch z) h
 | @lst a xs ea =>
   cases (show u=Value.ref a from rx)
   obtain ⟨_,_,n,_,h1⟩:=(show bS X.prog X.w H s.heap a (.lst xs) from I.hok a _ ea)
   exact PySem.W.kia_one PySem.W.kitx_list I.su ⟨_,h1,rfl⟩ e (λ z=>nomatch z) h
 | @CJ a ob xs ea =>
   cases (show u=Value.ref a from rx)
   obtain ⟨_,_,_,n,_,h1⟩:=(show bS X.prog X.w H s.heap a (.CJ ob (.lst xs)) from I.hok a _ ea)
   exact PySem.W.kia_one PySem.W.kitx_list I.su ⟨_,h1,rfl⟩ e (λ z=>nomatch z) h
 | @tup a xs ea =>
   cases (show u=Value.ref a from rx)
   obtain ⟨_,_,_,p⟩:=(show bS X.prog X.w H s.heap a (.tup xs) from I.hok a _ ea)
   obtain ⟨o,h1,h2,_⟩:=p
   exact PySem.W.kia_one PySem.W.kitx_tuple I.su ⟨o,h1,h2⟩ e (λ z=>nomatch z) h
 | @dK a kvs ea =>
   cases (show u=Value.ref a from rx)
   obtain ⟨_,_,vs,_,p⟩:=(show bS X.prog X.w H s.heap a (.dK kvs) from I.hok a _ ea)
   obtain ⟨o,es,ep,h1,h2,_⟩:=p
   exact PySem.W.kia_one PySem.W.kitx_dict I.su ⟨o,h1,h2.1⟩ e (λ z=>nomatch z) h
 | @dT a kvs ea =>
   cases (show u=Value.ref a from rx)
   obtain ⟨_,_,xs,_,o,es,ep,h1,h2,_⟩:=(show bS X.prog X.w H s.heap a (.dT kvs) from I.hok a _ ea)
   exact PySem.W.kia_one PySem.W.kitx_dict I.su ⟨o,h1,h2.1⟩ e (λ z=>nomatch z) h
 | @ins a C dx fs ea cl ha hn htk hm =>
   cases (show u=Value.ref a from rx)
   obtain ⟨mA,O,_⟩:=uJ I.hok ea
   obtain ⟨od,J,_⟩:=O.look
   exact PySem.W.kia_one (PySem.W.kitx_own (cl.get _) cl.hd ha hn htk hm) I.su J e (λ z=>nomatch z) h
end
end L2
namespace L2
open PySem PySem.Spec PyProof.Rows
structure c6 (k:Nat) (A:Around):Prop where
 hd:A.handled=none
 dp:A.depth+3 * k+5 < recursionLimit
 un:A.units+16 * k+200 < cLine
theorem c6.mono {j k:Nat} {A:Around} (r:c6 k A) (h:j<=k):c6 j A:=⟨r.hd,by have:=r.dp;omega,by have:=r.un;omega⟩
theorem c6.deeper {k:Nat} {A:Around} (r:c6 (k+1) A) (env:Env):c6 k (A.deeper env) :=
 ⟨r.hd,by have:=r.dp;show A.depth+1+3 * k+5 < _;omega,by have:=r.un;show A.units+3+16 * k+200 < _;omega⟩
theorem Ez {A:Around} {C:Addr} {us:List Value} {kw:List (Str×Value)} : (A.under (.builtin "type.__call__" ⟨.ref C::us,kw⟩)).depth=A.depth+1:=by
 first | rfl | simp [Around.under,Code.weight,Code.isCreation,Code.isGuard,Code.isCaller,Code.frames,Code.isFrame,guardIds]
theorem EA {A:Around} {C:Addr} {us:List Value} {kw:List (Str×Value)} : (A.under (.builtin "type.__call__" ⟨.ref C::us,kw⟩)).units=A.units+1:=by
 first | rfl | simp [Around.under,Code.cUnits,Code.frames,Code.isFrame]
theorem c6.make {k:Nat} {A:Around} (r:c6 (k+1) A) (C:Addr) (us:List Value) (kw:List (Str×Value)):c6 k (A.under (.builtin "type.__call__" ⟨.ref C::us,kw⟩)) :=
 ⟨r.hd,by have:=r.dp;rw [Ez];omega,by have:=r.un;rw [EA];omega⟩
theorem c6.depth {k:Nat} {A:Around} (r:c6 k A):A.depth < recursionLimit:=by have:=r.dp;omega
theorem c6.units {k:Nat} {A:Around} (r:c6 k A):A.units+64 < cLine:=by have:=r.un;omega
def CW:TA:=λ _ H Q=>Q [] H
def GI (ta:TE) (tr:TA):TA:=fun σ H Q=>ta σ H λ x H1=>tr σ H1 λ xs H2=>Q (x::xs) H2
section
variable {X:Cx} {e:Expr} {es:List Expr} {te:TE} {t:TA} {pos:Pos}
theorem ai:PA X [] CW:=λ _ _ _ _ H Q I h=>Calls.spliced_nil ⟨[],H,I,.nil,h⟩
theorem aa (ha:PE X e te) (hr:PA X es t) (hs:starEach (e::es) X.env=(false,eval e X.env)::starEach es X.env:=by rfl):PA X (e::es) (GI te t):=by
 intro pos pins s σ H Q I h
 rw [hs]
 show wpAny _ _ (spliced ((false,eval e X.env)::backTo pos (starEach es X.env))) _ _ s
 refine Calls.spliced_cons (cV (ha pins s σ H _ I h) λ u s1 ⟨x,H1,I1,r1,q1⟩ => ?_)
 exact cV (hr pos pins s1 σ H1 _ I1 q1) λ us s2 ⟨xs,H2,I2,r2,q2⟩=>⟨x::xs,H2,I2,.cons r1 r2,q2⟩
def Qu (t:TA):TE:=fun σ H Q=>t σ H λ xs H1=>xs.length<=sizeLine ∧ ∀ p,H1 p=none->Q (.ref p) (upd H1 p (.tup xs))
def Qv (t:TA):TE:=fun σ H Q=>t σ H λ xs H1=>xs.length<=sizeLine ∧ ∀ p,H1 p=none->Q (.ref p) (upd H1 p (.lst xs))
theorem eN {x1} (h:PA X es t):PE X (.Tuple es x1 pos) (Qu t):=by
 intro pins s σ H Q I hq
 refine wpAny_Tuple_spliced (cV (h pos pins s σ H _ I hq) λ us s1 ⟨xs,H1,I1,r,z,q⟩=>⟨by rw [<-r.length];exact z,?_⟩)
 have hf:H1 s1.heap.objs.size=none:=I1.hok.fresh (Nat.le_refl _)
 refine ⟨.ref s1.heap.objs.size,upd H1 s1.heap.objs.size (.tup xs),I1.laid (t':=s1.toks) (λ b u e=>Heap.get?_push_of_some _ e) (Nat.le_refl _) ?_,rfl,q _ hf⟩
 exact ⟨z,us,r,⟨_,Heap.get?_push_size _ rfl,rfl,_,rfl⟩⟩
theorem iT (h:PA X es t):PE X (.List es pos) (Qv t):=by
 intro pins s σ H Q I hq
 refine wpAny_List_spliced (cV (h pos pins s σ H _ I hq) λ us s1 ⟨xs,H1,I1,r,z,q⟩=>⟨by rw [<-r.length];exact z,?_⟩)
 have hf:H1 s1.heap.objs.size=none:=I1.hok.fresh (Nat.le_refl _)
 refine ⟨.ref s1.heap.objs.size,upd H1 s1.heap.objs.size (.lst xs),I1.laid (t':=s1.toks) (λ b u e=>Heap.get?_push_of_some _ e) (Nat.le_refl _) ?_,rfl,q _ hf⟩
 exact ⟨z,us,0,r,Heap.get?_push_size _ rfl⟩
end
abbrev Sp:=List V->Hp->VK->XK->Prop
abbrev HJ:=List Env->Hp->Shared->XK->Value->Shared->Prop
structure EB (P:Program) (w:World) (K:PySem.W.Frag) (mg:Str->Option Value) (base:Heap) (A:Around) (outer:List Env) (s:Shared) (H:Hp):Prop where
 frames:A.frames=some outer
 mod:Mod K mg base
 bs : ∀ b o,base.get? b=some o->s.heap.get? b=some o/\H b=none
 JE:base.objs.size<=s.heap.objs.size
 oJ:s.heap.FunFrames base outer
 MZ : ∀ b∈frs outer,H b=none
 hok:j6 P w H s.heap
 bare:AllBare s.gens
def CE (outer:List Env) (P:Program) (w:World) (H:Hp) (s:Shared) (Q:VK) (u:Value) (s':Shared):Prop :=
 ∃ v H',s'.os=s.os/\AllBare s'.gens/\Un (frs outer) [] H H' s.heap s'.heap/\j6 P w H' s'.heap/\RelV v u/\Q v H'
def CR (CX:HJ) (outer:List Env) (P:Program) (w:World) (H:Hp) (s:Shared) (Q:VK) (E:XK) (r:Result) (s':Shared):Prop :=
 match r with
 | .ok (.ret u)=>CE outer P w H s Q u s'
 | .ok _=>False
 | .error e=>CX outer H s E e s'
structure gj (P:Program) (w:World) (K:PySem.W.Frag) (mg:Str->Option Value) (base:Heap) (CX:HJ) (k:Nat) (f:Addr) (fd:FuncData) (ps:List Str) (sp:Sp):Prop where
 len : ∀ vs H Q E,sp vs H Q E->vs.length=ps.length
 run : ∀ (A:Around) (outer:List Env) (s:Shared) (H:Hp) (args:Args) (us:List Value) (vs:List V) (Q:VK) (E:XK),c6 k A->EB P w K mg base A outer s H->BindsTo s fd args (ps.zip us)->Vals vs us->sp vs H Q E →
  codeAny (model P w) A (.call (.ref f) args) (CR CX outer P w H s Q E) s
theorem gj.mono {P:Program} {w:World} {K:PySem.W.Frag} {mg:Str->Option Value} {base:Heap} {CX:HJ} {j k:Nat} {f:Addr} {fd:FuncData} {ps:List Str} {sp:Sp} (F:gj P w K mg base CX j f fd ps sp) (h:j<=k) :
  gj P w K mg base CX k f fd ps sp:=⟨F.len,λ A outer s H args us vs Q E hr=>F.run A outer s H args us vs Q E (hr.mono h)⟩
theorem gj.imp {P:Program} {w:World} {K:PySem.W.Frag} {mg:Str->Option Value} {base:Heap} {CX:HJ} {k:Nat} {f:Addr} {fd:FuncData} {ps:List Str} {sp S8:Sp} (F:gj P w K mg base CX k f fd ps sp)
  (h : ∀ vs H Q E,S8 vs H Q E->sp vs H Q E):gj P w K mg base CX k f fd ps S8 :=
 ⟨λ vs H Q E q=>F.len vs H Q E (h _ _ _ _ q),λ A outer s H args us vs Q E hr he hb hv hs=>F.run A outer s H args us vs Q E hr he hb hv (h _ _ _ _ hs)⟩
theorem EB.make {P:Program} {w:World} {K:PySem.W.Frag} {mg:Str->Option Value} {base:Heap} {A:Around} {outer:List Env} {s:Shared} {H:Hp} (e:EB P w K mg base A outer s H) (C:Addr) (us:List Value) (kw:List (Str×Value)) :
  EB P w K mg base (A.under (.builtin "type.__call__" ⟨.ref C::us,kw⟩)) outer s H:=⟨by first | exact e.frames | (simpa [Around.under,Code.envs,Code.isFrame,pushEnvs] using e.frames),e.mod,e.bs,e.JE,e.oJ,e.MZ,e.hok,e.bare⟩
section
variable {X:Cx} {pins:List (Addr×Obj)} {σ : St} {H:Hp} {s s':Shared}
theorem Inv.S9 (I:Inv X pins σ H s):EB X.prog X.w X.K X.mg X.base X.A X.stack s H :=
 ⟨I.ok.frames,I.ok.mod,I.bs,Nat.le_trans I.ok.JE I.sz,I.stack,I.A4,I.hok,I.bare⟩
theorem Inv.after {Q:VK} {u:Value} (I:Inv X pins σ H s) (h:CE X.stack X.prog X.w H s Q u s'):EP X pins σ Q u s':=by
 obtain ⟨v,H',os,bare,un,hok,r,q⟩:=h
 obtain ⟨hh,g,d,t,os'⟩:=s'
 obtain rfl:os' = s.os:=os
 exact ⟨v,H',I.call (h':=hh) (g':=g) (d':=d) (t':=t) (ch:=[]) un hok bare (λ b z=>absurd z (by simp)),r,q⟩
end
def GJ (sp:Sp) (i7:List V) (E:XK) (t:TA):TE:=fun σ H Q=>t σ H λ vs H1=>sp (vs++i7) H1 Q E
def Aq (C:Addr) (m:Str) (sp:Sp) (i7:List V) (E:XK) (ta:TE) (t:TA):TE:=fun σ H Q=>ta σ H λ x H1 => ∃ a dx fs,x = .ref a/\H1 a=some (.ins C dx fs)/\fs.lookup m=none ∧
 t σ H1 λ vs H2=>sp (x::(vs++i7)) H2 Q E
def Ar (C:Addr) (sp:Sp) (i7:List V) (E:XK) (t:TA):TE:=fun σ H Q=>t σ H λ vs H1 => ∀ x dx,H1 x=none->H1 dx=none->dx≠x →
 sp (.ref x::(vs++i7)) (upd (upd H1 dx (.own x)) x (.ins C dx [])) (λ v H2=>v = .aH/\Q (.ref x) H2) E
def Binds (K:PySem.W.Frag) (fd:FuncData) (ps:List Str) (ds:List Value):Prop :=
 ∀ (s:Shared) (us:List Value),K.In s.heap->(us++ds).length=ps.length->BindsTo s fd ⟨us,[]⟩ (ps.zip (us++ds))
theorem Binds.all {K:PySem.W.Frag} {fd:FuncData} {ps:List Str} (h : ∀ us:List Value,us.length=ps.length->bindArgs fd ⟨us,[]⟩ = pure (ps.zip us)):Binds K fd ps []:=λ s us _ hl=>by
 rw [List.append_nil] at hl ⊢
 exact .of_eq (h us hl)
def Passes (CX:HJ) (X:Cx) (E:XK):Prop := ∀ (pins:List (Addr×Obj)) (σ : St) (H:Hp) (s:Shared) (e:Value) (s':Shared),Inv X pins σ H s->CX X.stack H s E e s'->X.xe e s'
section
variable {X:Cx} {CX:HJ} {k:Nat} {f C:Addr} {fd:FuncData} {ps:List Str} {sp:Sp} {i7:List V} {ds:List Value} {E:XK} {x m:Str} {p pos apos:Pos} {e o:Expr} {es:List Expr} {ta:TE} {t:TA}
theorem EC {pins:List (Addr×Obj)} {σ : St} {H:Hp} {s:Shared} {Q:VK} {us:List Value} {vs:List V} (F:gj X.prog X.w X.K X.mg X.base CX k f fd ps sp) (hr:c6 k X.A) (hb:Binds X.K fd ps ds) (hd:Vals i7 ds) (hx:Passes CX X E)
  (I:Inv X pins σ H s) (r:Vals vs us) (h:sp (vs++i7) H Q E):wpAny (model X.prog X.w) X.A (call (.ref f) us) (EP X pins σ Q) X.xe s:=by
 have r2:Vals (vs++i7) (us++ds):=r.append hd
 have hl:(us++ds).length=ps.length:=by rw [<-r2.length];exact F.len _ _ _ _ h
 refine wpAny_call (codeAny_mono (F.run X.A X.stack s H ⟨us,[]⟩ (us++ds) (vs++i7) Q E hr I.S9 (hb s us I.su hl) r2 h) λ r s' hq => ?_)
 cases r with
 | error e=>exact hx pins σ H s e s' I hq
 | ok fl =>
   cases fl with
   | ret u=>exact I.after hq
   | next=>exact False.elim hq
   | brk=>exact False.elim hq
   | cont=>exact False.elim hq
theorem Nb (F:gj X.prog X.w X.K X.mg X.base CX k f fd ps sp) (hr:c6 k X.A) (hg:Gl X x) (hm:X.mg x=some (.ref f)) (hk:PySem.W.keepIn X.K (.ref f)=true) (hb:Binds X.K fd ps ds) (hd:Vals i7 ds) (hx:Passes CX X E)
  (ha:PA X (e::es) t) (hdb:(x == ("__debug__" : Str))=false:=by decide) (he:starEach (e::es) X.env=(false,eval e X.env)::starEach es X.env:=by rfl) (hpl:(backTo pos (starEach es X.env)).any (·.1)=false:=by rfl) :
  PE X (.Call (.Name x p) (e::es) [] pos) (GJ sp i7 E t):=by
 intro pins s σ H Q I h
 refine wpAny_Call_Name_kw (uI I hg hm ?_ hdb)
 refine PySem.W.callWith_K (h₀ := X.base) I.ok.mod.Sj hk (cV (ha pos pins s σ H _ I h) λ us s1 ⟨vs,H1,I1,r,q⟩=>⟨I1.su,?_⟩) he hpl
 exact EC F hr hb hd hx I1 r q
theorem Nc {pl:Sem Bool} (he:PE X o ta) (c:MO X.K C) (hm:Meth X.K C m f) (F:gj X.prog X.w X.K X.mg X.base CX k f fd ps sp) (hr:c6 k X.A) (hb:Binds X.K fd ps ds) (hd:Vals i7 ds) (hx:Passes CX X E) (ha:PA X (e::es) t)
  (hst:starEach (e::es) X.env=(false,eval e X.env)::starEach es X.env:=by rfl) (hpl:(backTo pos (starEach es X.env)).any (·.1)=false:=by rfl)
  (ht:eval (.Call (.Attribute o m apos) (e::es) [] pos) X.env=(do
   let ov <-eval o X.env
   standAt apos.atName
   let (f,first) <-holding [ov] (getMethod ov m pl)
   callWith pos f first (backTo pos (starEach (e::es) X.env)) (backToKw pos (keywordEach [] X.env))):=by rfl) :
  PE X (.Call (.Attribute o m apos) (e::es) [] pos) (Aq C m sp i7 E ta t):=by
 intro pins s σ H Q I h
 refine PySem.W.methodCall_KW (pl:=pl) (cV (he pins s σ H _ I h) λ u s1 ⟨x,H1,I1,rx,a,dx,fs,ex,ea,l,q⟩ => ?_) ht
 subst ex
 obtain rfl:u=Value.ref a:=rx
 refine nE I1 ea c hm l ?_
 refine PySem.W.callWith_K (first:=[.ref a]) (h₀ := X.base) I.ok.mod.Sj hm.kp (cV (ha pos pins s1 σ H1 _ I1 q) λ us s2 ⟨vs,H2,I2,r,q2⟩=>⟨I2.su,?_⟩) hst hpl
 exact EC (us := .ref a::us) (vs := .ref a::vs) F hr hb hd hx I2 (.cons rfl r) q2
theorem J4 {pl:Sem Bool} (he:PE X o ta) (c:MO X.K C) (hm:Meth X.K C m f) (F:gj X.prog X.w X.K X.mg X.base CX k f fd ps sp) (hr:c6 k X.A) (hb:Binds X.K fd ps ds) (hd:Vals i7 ds) (hx:Passes CX X E)
  (ht:eval (.Call (.Attribute o m apos) [] [] pos) X.env=(do
   let ov <-eval o X.env
   standAt apos.atName
   let (f,first) <-holding [ov] (getMethod ov m pl)
   callWith pos f first (backTo pos (starEach [] X.env)) (backToKw pos (keywordEach [] X.env))):=by rfl) :
  PE X (.Call (.Attribute o m apos) [] [] pos) (Aq C m sp i7 E ta CW):=by
 intro pins s σ H Q I h
 refine PySem.W.methodCall_KW (pl:=pl) (cV (he pins s σ H _ I h) λ u s1 ⟨x,H1,I1,rx,a,dx,fs,ex,ea,l,q⟩ => ?_) ht
 subst ex
 obtain rfl:u=Value.ref a:=rx
 refine nE I1 ea c hm l ?_
 exact PySem.W.callWith_K0 (first:=[.ref a]) I1.su hm.kp (EC (us:=[.ref a]) (vs:=[.ref a]) F hr hb hd hx I1 (.cons rfl .nil) q)
structure Mk (K:PySem.W.Frag) (C f:Addr):Prop where
 makes:PySem.W.makesIn K C=true
 init:PySem.W.findIn K (.ref C) "__init__" = some (some (.ref f))
 fn:PySem.W.isFn K (.ref f)=true
 kp:PySem.W.keepIn K (.ref C)=true
theorem CY {pins:List (Addr×Obj)} {σ : St} {H:Hp} {s:Shared} {Q:VK} {us:List Value} {vs:List V} (M:Mk X.K C f) (F:gj X.prog X.w X.K X.mg X.base CX k f fd ps sp) (hr:c6 (k+1) X.A) (hb:Binds X.K fd ps ds) (hd:Vals i7 ds)
  (hx:Passes CX X E) (I:Inv X pins σ H s) (r:Vals vs us)
  (h : ∀ x dx,H x=none->H dx=none->dx≠x->sp (.ref x::(vs++i7)) (upd (upd H dx (.own x)) x (.ins C dx [])) (λ v H2=>v = .aH/\Q (.ref x) H2) E) :
  wpAny (model X.prog X.w) X.A (call (.ref C) us) (EP X pins σ Q) X.xe s:=by
 have hq:=h (s.heap.objs.size+1) s.heap.objs.size (I.hok.fresh (Nat.le_succ _)) (I.hok.fresh (Nat.le_refl _)) (Nat.ne_of_lt (Nat.lt_succ_self _))
 have I2:=Inv.made (C:=C) I
 have r2:Vals (V.ref (s.heap.objs.size+1)::(vs++i7)) (Value.ref (s.heap.objs.size+1)::(us++ds)) := .cons rfl (r.append hd)
 have hl:(Value.ref (s.heap.objs.size+1)::us++ds).length=ps.length:=by
  have e:=r2.length
  rw [F.len _ _ _ _ hq] at e
  exact e.symm
 refine wpAny_call (J3 (f:=f) I.su M.makes M.init (beq_iff_eq.mp M.fn) (codeAny_mono (F.run _ X.stack _ _ ⟨Value.ref (s.heap.objs.size+1)::us,[]⟩ (Value.ref (s.heap.objs.size+1)::(us++ds)) _ _ E (hr.make C us [])
  (I2.S9.make C us []) (hb _ (Value.ref (s.heap.objs.size+1)::us) I2.su hl) r2 hq) λ r s' hq' => ?_))
 cases r with
 | error e=>exact hx pins σ _ _ e s' I2 hq'
 | ok fl =>
   cases fl with
   | ret u =>
     obtain ⟨v,H',I3,rv,ev,q3⟩:=I2.after hq'
     subst ev
     exact ⟨rv,⟨V.ref (s.heap.objs.size+1),H',I3,rfl,q3⟩⟩
   | next=>exact False.elim hq'
   | brk=>exact False.elim hq'
   | cont=>exact False.elim hq'
theorem Nd (M:Mk X.K C f) (F:gj X.prog X.w X.K X.mg X.base CX k f fd ps sp) (hr:c6 (k+1) X.A) (hg:Gl X x) (hm:X.mg x=some (.ref C)) (hb:Binds X.K fd ps ds) (hd:Vals i7 ds) (hx:Passes CX X E)
  (ha:PA X (e::es) t) (hdb:(x == ("__debug__" : Str))=false:=by decide) (he:starEach (e::es) X.env=(false,eval e X.env)::starEach es X.env:=by rfl) (hpl:(backTo pos (starEach es X.env)).any (·.1)=false:=by rfl) :
  PE X (.Call (.Name x p) (e::es) [] pos) (Ar C sp i7 E t):=by
 intro pins s σ H Q I h
 refine wpAny_Call_Name_kw (uI I hg hm ?_ hdb)
 refine PySem.W.callWith_K (h₀ := X.base) I.ok.mod.Sj M.kp (cV (ha pos pins s σ H _ I h) λ us s1 ⟨vs,H1,I1,r,q⟩=>⟨I1.su,?_⟩) he hpl
 exact CY M F hr hb hd hx I1 r q
theorem J5 (M:Mk X.K C f) (F:gj X.prog X.w X.K X.mg X.base CX k f fd ps sp) (hr:c6 (k+1) X.A) (hg:Gl X x) (hm:X.mg x=some (.ref C)) (hb:Binds X.K fd ps ds) (hd:Vals i7 ds) (hx:Passes CX X E)
  (hdb:(x == ("__debug__" : Str))=false:=by decide):PE X (.Call (.Name x p) [] [] pos) (Ar C sp i7 E CW):=by
 intro pins s σ H Q I h
 refine wpAny_Call_Name_kw (uI I hg hm ?_ hdb)
 exact PySem.W.callWith_K0 I.su M.kp (CY (us:=[]) M F hr hb hd hx I .nil h)
end
section
variable {X:Cx} {CX:HJ} {k:Nat} {f C:Addr} {fd:FuncData} {ps ks:List Str} {sp:Sp} {E:XK} {x m:Str} {p pos apos kpos:Pos} {e o:Expr} {es:List Expr} {kws:List Keyword} {te ta:TE} {t tk:TA} {nm:Option Str}
variable {g:List Value->List Value->List Value} {gV:List V->List V->List V}
end
structure aC (N P:List Str) (sc:Scope):Prop where
 kind:sc.kind = .function
 co:sc.isCoroutine=false
 gen:sc.isGenerator=false
 nd:N.Nodup
 pre:N.take P.length=P
 par : ∀ x∈P,sc.names.lookup x=some .local\/sc.names.lookup x=some .cell
 Qw : ∀ y∈sc.names,y.2 ≠ .free
theorem As {kindOf:Str->Option NameKind} {x:Str} : ∀ {binds:List (Str×Value)} {m:Str->Option Value},(∀ v,(x,v) ∉ binds)->bindL kindOf binds m x=m x
 | [],_,_=>rfl
 | (n,v)::r,m,h=>by
   unfold bindL
   rw [As λ w hw=>h w (List.mem_cons_of_mem _ hw)]
   split
   ·have:x≠n:=by rintro rfl;exact h v List.mem_cons_self
    simp [this]
   ·rfl
theorem Au {kindOf:Str->Option NameKind} {x:Str} : ∀ {binds:List (Str×Value)} {m:Str->Option Value},(∀ v,(x,v) ∉ binds)->bindC kindOf binds m x=m x
 | [],_,_=>rfl
 | (n,v)::r,m,h=>by
   unfold bindC
   rw [Au λ w hw=>h w (List.mem_cons_of_mem _ hw)]
   split
   ·rfl
   ·have:x≠n:=by rintro rfl;exact h v List.mem_cons_self
    simp [this]
theorem Av {kindOf:Str->Option NameKind} {x:Str} {v:Value} : ∀ {P:List Str} {vs:List Value} {i:Nat} {m:Str->Option Value},P.Nodup->P[i]? = some x->vs[i]? = some v->kindOf x=some .local →
  bindL kindOf (P.zip vs) m x=some v
 | [],_,_,_,_,h,_,_=>by simp at h
 | _::_,[],_,_,_,_,h,_=>by simp at h
 | p::P,w::vs,0,m,nd,h1,h2,hk=>by
   simp at h1 h2;subst h1;subst h2
   show bindL kindOf ((p,w)::P.zip vs) m p=_
   unfold bindL
   rw [As λ v hv=>(List.nodup_cons.mp nd).1 (List.of_mem_zip hv).1,if_pos hk]
   simp
 | p::P,w::vs,i+1,m,nd,h1,h2,hk=>by
   show bindL kindOf ((p,w)::P.zip vs) m x=_
   unfold bindL
   exact Av (i:=i) (List.nodup_cons.mp nd).2 (by simpa using h1) (by simpa using h2) hk
theorem Aw {kindOf:Str->Option NameKind} {x:Str} {v:Value} : ∀ {P:List Str} {vs:List Value} {i:Nat} {m:Str->Option Value},P.Nodup->P[i]? = some x->vs[i]? = some v->kindOf x≠some .local →
  bindC kindOf (P.zip vs) m x=some v
 | [],_,_,_,_,h,_,_=>by simp at h
 | _::_,[],_,_,_,_,h,_=>by simp at h
 | p::P,w::vs,0,m,nd,h1,h2,hk=>by
   simp at h1 h2;subst h1;subst h2
   show bindC kindOf ((p,w)::P.zip vs) m p=_
   unfold bindC
   rw [Au λ v hv=>(List.nodup_cons.mp nd).1 (List.of_mem_zip hv).1,if_neg hk]
   simp
 | p::P,w::vs,i+1,m,nd,h1,h2,hk=>by
   show bindC kindOf ((p,w)::P.zip vs) m x=_
   unfold bindC
   exact Aw (i:=i) (List.nodup_cons.mp nd).2 (by simpa using h1) (by simpa using h2) hk
def start (N:List Str) (vs:List V):St:=vs.map some++List.replicate (N.length - vs.length) none
def uZ (CX:HJ) (P:Program) (w:World) (K:PySem.W.Frag) (mg:Str->Option Value) (base:Heap) (N:List Str) (qual:Str) (scope:Scope) (f:Addr) (cd:Value) (A:Around) (outer:List Env) (s:Shared) (H:Hp) (E:XK):Cx where
 prog:=P
 w:=w
 K:=K
 mg:=mg
 base:=base
 A:=A.deeper (envOfC qual scope s.heap.objs.size f cd)
 N:=N
 s₀ := s
 H₀ := H
 env:=envOfC qual scope s.heap.objs.size f cd
 outer:=outer
 stack:=envOfC qual scope s.heap.objs.size f cd::outer
 ex:=[]
 calm:=true
 fn:=λ _=>true
 pn:=[]
 xe:=λ e s'=>wpAny (model P w) (A.deeper (envOfC qual scope s.heap.objs.size f cd)) (leaving (envOfC qual scope s.heap.objs.size f cd) e) (λ _ s''=>CX outer H s E e s'') (λ e' s''=>CX outer H s E e' s'') s'
theorem CZ {sc:Scope} {n:Nat} {x:Str} (h:sc.names.lookup x=some .cell) : ∃ c,(cellsFrom n sc.names []).lookup x=some c:=by
 have q:=PySem.W.cellsFrom_some sc.names n [] (.inl h)
 exact Option.isSome_iff_exists.mp q
theorem HK {CX:HJ} {P:Program} {w:World} {K:PySem.W.Frag} {mg:Str->Option Value} {base:Heap} {N ps:List Str} {qual:Str} {scope:Scope} {f:Addr} {cd:Value} {A:Around} {outer:List Env} {s s1:Shared} {H:Hp} {E:XK} {us:List Value} {vs:List V}
  (S:aC N ps scope) (hd:A.handled=none) (e0:EB P w K mg base A outer s H) (hl:vs.length=ps.length) (r:Vals vs us)
  (x:InCallC s s.heap.objs.size (bindL (envOfC qual scope s.heap.objs.size f cd).kindOf (ps.zip us) λ _=>none) (cellsFrom (s.heap.objs.size+1) scope.names []) (bindC (envOfC qual scope s.heap.objs.size f cd).kindOf (ps.zip us) λ _=>none) s1) :
  Inv (uZ CX P w K mg base N qual scope f cd A outer s H E) [] (start N vs) H s1:=by
 have hpl:ps.length<=N.length:=by have:=congrArg List.length S.pre;rw [List.length_take] at this;omega
 obtain ⟨h1,tk,rfl,hk⟩:=x.done
 have Tc : ∀ b:Addr,b ∉ (uZ CX P w K mg base N qual scope f cd A outer s H E).ex:=λ b z=>absurd (show b∈([]:List Addr) from z) (by simp)
 refine ⟨⟨e0.mod,S.kind,rfl,rfl,Nat.le_refl _,λ y z c h1 h2 => ?_,λ y hy => ?_,λ y c _ h => ?_,λ _=>hd,Around.frames_deeper e0.frames,.inr ⟨rfl,rfl⟩,λ b z=>absurd z (Tc b),e0.bs,e0.JE,λ b _ _=>Tc b,λ b z=>absurd z (Tc b),e0.oJ,e0.MZ⟩,
  rfl,e0.bare,Un.kept hk,⟨_,x.toInCall.ns,λ i y v h1 h2 h3 => ?_⟩,λ y c h=>⟨_,x.cell y c h⟩,e0.hok.fresh (Nat.le_refl _),λ y c h => ?_,λ p hp=>absurd (show p∈([]:List (Addr×Obj)) from hp) (by simp),e0.hok.kept hk,?_⟩
 ·exact name_of_addr x.apart (PySem.mem_of_lookup h1) (PySem.mem_of_lookup h2)
 ·have hy:scope.names.lookup y=some .cell\/scope.names.lookup y=some .free:=hy
  rcases hy with hy | hy
  ·exact CZ hy
  ·exact absurd rfl (S.Qw _ (PySem.mem_of_lookup hy))
 ·exact Nat.le_of_lt (x.above y c (PySem.mem_of_lookup h))
 ·have hi:i < vs.length:=by
   unfold start at h2
   by_cases hi:i < vs.length
   ·exact hi
   ·rw [List.getElem?_append_right (by simpa using hi)] at h2
    rw [List.getElem?_replicate] at h2
    split at h2 <;> cases h2
  have ha:vs[i]? = some v:=by
   unfold start at h2
   rw [List.getElem?_append_left (by simpa using hi),List.getElem?_map] at h2
   cases e:vs[i]? with
   | none=>rw [e] at h2;cases h2
   | some a=>rw [e] at h2;cases h2;rfl
  obtain ⟨u,hu,rv⟩:=r.get ha
  have hp:ps[i]? = some y:=by
   rw [<-S.pre,List.getElem?_take_of_lt (by omega)];exact h1
  have ndP:ps.Nodup:=by rw [<-S.pre];exact S.nd.sublist (List.take_sublist _ _)
  refine ⟨u,rv,?_⟩
  rcases S.par y (List.mem_of_getElem? hp) with k | k
  ·exact .inl ⟨k,Av ndP hp hu k⟩
  ·obtain ⟨c,e⟩:=CZ (n:=s.heap.objs.size+1) k
   refine .inr ⟨.inl k,c,e,?_⟩
   have q:=x.cell y c e
   rw [Aw ndP hp hu (by show scope.names.lookup y≠_;rw [k];decide)] at q
   exact q
 ·exact e0.hok.fresh (Nat.le_of_lt (x.above y c (PySem.mem_of_lookup h)))
 ·unfold start
  show _=N.length
  rw [List.length_append,List.length_map,List.length_replicate]
  omega
theorem Ax {CX:HJ} {P:Program} {w:World} {K:PySem.W.Frag} {mg:Str->Option Value} {base:Heap} {k:Nat} {f:Addr} {name qual:Str} {params:Arguments} {body:List Stmt} {scope:Scope} {dV kV doc pm cdv ct oc:Value} {an od:Option Addr}
  {osl:Array (Option Value)} {N ps:List Str} {sp:Sp} (lk:K.lookup f=some ⟨oc,od,.func (PySem.W.fnOf name qual params body scope dV kV doc pm an cdv ct),osl⟩) (hcd:PySem.W.codeIn K cdv qual=true) (S:aC N ps scope)
  (len : ∀ vs H Q E,sp vs H Q E->vs.length=ps.length)
  (hbody : ∀ (A:Around) (outer:List Env) (s:Shared) (H:Hp) (vs:List V) (Q:VK) (E:XK),c6 k (A.deeper (envOfC qual scope s.heap.objs.size f cdv))->sp vs H Q E →
   ∃ t,A5 (uZ CX P w K mg base N qual scope f cdv A outer s H E) body t/\t { nx:=λ _ H'=>Q .aH H',rt:=Q } (start N vs) H) :
  gj P w K mg base CX (k+1) f (PySem.W.fnOf name qual params body scope dV kV doc pm an cdv ct) ps sp:=by
 refine ⟨len,λ A outer s H args us vs Q E hr e0 hb r Ek => ?_⟩
 have hl:=len _ _ _ _ Ek
 have KX:K.In s.heap:=e0.mod.Sj.keeps λ b o e=>(e0.bs b o e).1
 have lim:s.heap.NoLimit:=e0.mod.nolimit.keeps λ b o e=>(e0.bs b o e).1
 have hkind : ∀ y∈ps.zip us,scope.names.lookup y.1=some .local\/(scope.names.lookup y.1=some .cell/\((cellsFrom (s.heap.objs.size+1) scope.names []).lookup y.1).isSome=true):=λ ⟨n,v⟩ hy=>by
  rcases S.par n (List.of_mem_zip hy).1 with q | q
  ·exact .inl q
  ·exact .inr ⟨q,PySem.W.cellsFrom_some _ _ _ (.inl q)⟩
 refine codeAny_call_function hr.depth (KX _ _ lk) rfl S.co S.gen rfl (PySem.W.codeRec_of KX hcd) (hb _ _ _ _ ?_)
 refine wpAny_newFunctionEnv_cells S.kind hkind λ env he s1 x => ?_
 subst he
 refine ⟨lim.keeps x.toInCall.keep,codeAny_func ?_⟩
 obtain ⟨t,ht,hq⟩:=hbody A outer s H vs Q E (hr.deeper _) Ek
 have I:Inv (uZ CX P w K mg base N qual scope f cdv A outer s H E) [] (start N vs) H s1:=HK S hr.hd e0 hl r x
 refine wpAny_mono (ht [] s1 (start N vs) H _ I hq) (λ fl s' hs => ?_) λ e s' hs=>hs
 have fin : ∀ {σ':St} {H':Hp} {v:V} {u:Value},Inv (uZ CX P w K mg base N qual scope f cdv A outer s H E) [] σ' H' s'->RelV v u->Q v H'->CE outer P w H s Q u s' :=
  fun {σ' H' v u} J rv q=>⟨v,H',J.os,J.bare,J.base,J.hok,rv,q⟩
 cases fl with
 | ret u =>
   obtain ⟨v,σ',H',J,rv,q⟩:=hs
   exact fin J rv q
 | next =>
   obtain ⟨σ',H',J,q⟩:=hs
   exact fin (v:=V.aH) (u:=Value.none) J rfl q
 | brk =>
   obtain ⟨_,_,_,q⟩:=hs
   exact False.elim q
 | cont =>
   obtain ⟨_,_,_,q⟩:=hs
   exact False.elim q
end L2
namespace L2
open PySem PySem.Spec PyProof.Rows
section
variable {X:Cx} {x:Str} {p pos:Pos} {e:Expr} {es:List Expr} {t:TA} {id T:String} {r:List V->Hp->VK->Prop}
def Td (r:List V->Hp->VK->Prop) (t:TA):TE:=fun σ H Q=>t σ H λ vs H1=>r vs H1 Q
theorem aK (hc:kI X (.builtin id) r) (hg:Gl X x) (hm:X.mg x=none) (hv:bootBuiltins x=some (.builtin id)) (ha:PA X (e::es) t) (hn:x ≠ "__name__" := by decide) (hdb:(x == ("__debug__" : Str))=false:=by decide)
  (he:starEach (e::es) X.env=(false,eval e X.env)::starEach es X.env:=by rfl) (hpl:(backTo pos (starEach es X.env)).any (·.1)=false:=by rfl):PE X (.Call (.Name x p) (e::es) [] pos) (Td r t):=by
 intro pins s σ H Q I h
 refine wpAny_Call_Name_kw (A6 I hg hm hv ?_ hn hdb)
 exact PyProof.Rows.callWith_builtin1 (cV (ha pos pins s σ H _ I h) λ us s1 ⟨vs,H1,I1,r1,q1⟩=>hc pins s1 σ H1 vs us Q I1 r1 q1) he hpl
theorem br (hc:kI X (.type T) r) (hg:Gl X x) (hm:X.mg x=none) (hv:bootBuiltins x=some (.type T)) (ha:PA X (e::es) t) (hn:x ≠ "__name__" := by decide) (hdb:(x == ("__debug__" : Str))=false:=by decide)
  (he:starEach (e::es) X.env=(false,eval e X.env)::starEach es X.env:=by rfl) (hpl:(backTo pos (starEach es X.env)).any (·.1)=false:=by rfl):PE X (.Call (.Name x p) (e::es) [] pos) (Td r t):=by
 intro pins s σ H Q I h
 refine wpAny_Call_Name_kw (A6 I hg hm hv ?_ hn hdb)
 exact PyProof.Rows.callWith_type1 (cV (ha pos pins s σ H _ I h) λ us s1 ⟨vs,H1,I1,r1,q1⟩=>hc pins s1 σ H1 vs us Q I1 r1 q1) he hpl
end
end L2
namespace L2
open PySem PySem.Spec PyProof.Rows
section
variable {κ : Type} [DecidableEq κ]
def bx (kvs:List (κ × V)) (k : κ):Option V:=(kvs.find? λ kv=>decide (kv.1=k)).map (·.2)
def putK (kvs:List (κ × V)) (k : κ) (v:V):List (κ × V) :=
 if (kvs.any λ kv=>decide (kv.1=k))=true then kvs.map (λ kv=>if kv.1=k then (kv.1,v) else kv) else kvs++[(k,v)]
def dG (kvs:List (κ × V)) (k : κ):List (κ × V):=kvs.filter λ kv=>decide (kv.1≠k)
theorem bP {p : κ × V} {r:List (κ × V)} {k : κ} (e:p.1=k):bx (p::r) k=some p.2:=by simp [bx,List.find?_cons,e]
theorem bz {p : κ × V} {r:List (κ × V)} {k : κ} (e : ¬ p.1=k):bx (p::r) k=bx r k:=by simp [bx,List.find?_cons,e]
theorem c7 (k : κ) : ∀ kvs:List (κ × V),(kvs.any λ kv=>decide (kv.1=k))=(bx kvs k).isSome
 | []=>rfl
 | p::r=>by
   rw [List.any_cons]
   by_cases e:p.1=k
   ·simp only [bP e,decide_eq_true e,Bool.true_or,Option.isSome_some]
   ·rw [bz e,decide_eq_false e,Bool.false_or];exact c7 k r
theorem C0 (k j : κ) (y:V) : ∀ kvs:List (κ × V),bx (kvs.map λ kv=>if kv.1=k then (kv.1,y) else kv) j=(bx kvs j).map λ x=>if j=k then y else x
 | []=>rfl
 | p::r=>by
   have ih:=C0 k j y r
   rw [List.map_cons]
   by_cases h:p.1=k
   ·rw [if_pos h]
    by_cases e:p.1=j
    ·rw [bP (p:=(p.1,y)) e,bP e,Option.map_some,if_pos (e.symm.trans h)]
    ·rw [bz (p:=(p.1,y)) e,bz e,ih]
   ·rw [if_neg h]
    by_cases e:p.1=j
    ·rw [bP (p:=p) e,bP e,Option.map_some,if_neg (λ z=>h (e.trans z))]
    ·rw [bz (p:=p) e,bz e,ih]
theorem Ay (k j : κ) (y:V) : ∀ kvs:List (κ × V),bx kvs k=none->bx (kvs++[(k,y)]) j=if j=k then some y else bx kvs j
 | [],_=>by
   by_cases e:k=j
   ·rw [if_pos e.symm];exact bP (p:=(k,y)) e
   ·rw [if_neg (λ z=>e z.symm)];exact bz (p:=(k,y)) e
 | p::r,hn=>by
   rw [List.cons_append]
   have hk : ¬ p.1=k:=λ z=>by rw [bP z] at hn;cases hn
   rw [bz hk] at hn
   have ih:=Ay k j y r hn
   by_cases e:p.1=j
   ·rw [bP e,bP e,if_neg (λ z=>hk (e.trans z))]
   ·rw [bz e,bz e,ih]
theorem J6 (kvs:List (κ × V)) (k j : κ) (y:V):bx (putK kvs k y) j=if j=k then some y else bx kvs j:=by
 unfold putK
 by_cases a:(kvs.any λ kv=>decide (kv.1=k))=true
 ·rw [if_pos a,C0]
  rw [c7] at a
  by_cases e:j=k
  ·obtain ⟨x,hx⟩:=Option.isSome_iff_exists.mp a
   rw [if_pos e,e,hx,Option.map_some,if_pos rfl]
  ·rw [if_neg e]
   cases bx kvs j with
   | none=>rfl
   | some x=>rw [Option.map_some,if_neg e]
 ·rw [if_neg a]
  refine Ay k j y kvs ?_
  rw [c7] at a
  cases q:bx kvs k with
  | none=>rfl
  | some x=>rw [q] at a;exact (a rfl).elim
theorem kJ (kvs:List (κ × V)) (k : κ) (v:V):(putK kvs k v).length<=kvs.length+1:=by
 unfold putK
 split
 ·rw [List.length_map];omega
 ·rw [List.length_append,List.length_cons,List.length_nil];omega
theorem C1 {kvs:List (κ × V)} {k : κ} (v:V) (h:bx kvs k=none):putK kvs k v=kvs++[(k,v)]:=by
 unfold putK
 rw [c7,h]
 exact if_neg (by decide)
theorem jy.gH {o:Option V} {u:Option Value} (r:jy o u):o.isSome=u.isSome:=by
 cases o with
 | none=>cases u with
   | none=>rfl
   | some _=>exact (show False from r).elim
 | some _=>cases u with
   | none=>exact (show False from r).elim
   | some _=>rfl
theorem jy.getD {o:Option V} {u:Option Value} {d:V} {d':Value} (r:jy o u) (rd:RelV d d'):RelV (o.getD d) (u.getD d'):=by
 cases o with
 | none=>cases u with
   | none=>exact rd
   | some _=>exact (show False from r).elim
 | some _=>cases u with
   | none=>exact (show False from r).elim
   | some _=>exact r
theorem KV.val {kvs:List (κ × V)} {vs:List (κ × Value)} (r:KV kvs vs) (k : κ):jy (bx kvs k) (valueAt vs k):=by
 unfold KV at r
 induction r with
 | nil=>exact True.intro
 | @cons p q ps qs h t ih =>
   obtain ⟨h1,h2⟩:=h
   by_cases e:p.1=k
   ·have e':q.1=k:=h1.symm.trans e
    have b:valueAt (q::qs) k=some q.2:=by simp [valueAt,List.find?_cons,e']
    rw [bP e,b];exact h2
   ·have e' : ¬ q.1=k:=λ z=>e (h1.trans z)
    have b:valueAt (q::qs) k=valueAt qs k:=by simp [valueAt,List.find?_cons,e']
    rw [bz e,b];exact ih
theorem KV.any {kvs:List (κ × V)} {vs:List (κ × Value)} (r:KV kvs vs) (k : κ):(kvs.any λ kv=>decide (kv.1=k))=vs.any λ kv=>decide (kv.1=k):=by
 unfold KV at r
 induction r with
 | nil=>rfl
 | cons h t ih=>rw [List.any_cons,List.any_cons,ih,h.1]
theorem KV.repl {kvs:List (κ × V)} {vs:List (κ × Value)} (r:KV kvs vs) (k : κ) {y:V} {u:Value} (ry:RelV y u) :
  KV (kvs.map λ kv=>if kv.1=k then (kv.1,y) else kv) (vs.map λ kv=>if kv.1=k then (kv.1,u) else kv):=by
 unfold KV at r ⊢
 induction r with
 | nil=>exact .nil
 | @cons p q ps qs h t ih =>
   rw [List.map_cons,List.map_cons]
   refine .cons ?_ ih
   obtain ⟨h1,h2⟩:=h
   by_cases e:p.1=k
   ·rw [if_pos e,if_pos (h1.symm.trans e)];exact ⟨h1,ry⟩
   ·rw [if_neg e,if_neg (λ z=>e (h1.trans z))];exact ⟨h1,h2⟩
theorem KV.put {kvs:List (κ × V)} {vs:List (κ × Value)} (r:KV kvs vs) (k : κ) {y:V} {u:Value} (ry:RelV y u):KV (putK kvs k y) (stored vs k u):=by
 unfold putK stored
 rw [r.any k]
 by_cases e:(vs.any λ kv=>decide (kv.1=k))=true
 ·rw [if_pos e,if_pos e];exact r.repl k ry
 ·rw [if_neg e,if_neg e];exact Paired.snoc r ⟨rfl,ry⟩
theorem KV.drop {kvs:List (κ × V)} {vs:List (κ × Value)} (r:KV kvs vs) (k : κ):KV (dG kvs k) (without vs k):=by
 unfold KV at r ⊢
 unfold dG without
 induction r with
 | nil=>exact .nil
 | @cons p q ps qs h t ih =>
   obtain ⟨h1,h2⟩:=h
   rw [List.filter_cons,List.filter_cons]
   by_cases e:p.1=k
   ·have a : ¬ decide (p.1≠k)=true:=by simp [e]
    have b : ¬ decide (q.1≠k)=true:=by simp [h1.symm.trans e]
    rw [if_neg a,if_neg b];exact ih
   ·have e' : ¬ q.1=k:=λ z=>e (h1.trans z)
    have a:decide (p.1≠k)=true:=by simp [e]
    have b:decide (q.1≠k)=true:=by simp [e']
    rw [if_pos a,if_pos b];exact .cons ⟨h1,h2⟩ ih
theorem KV.keys {kvs:List (κ × V)} {vs:List (κ × Value)} (r:KV kvs vs):kvs.map (·.1)=vs.map (·.1):=by
 unfold KV at r
 induction r with
 | nil=>rfl
 | cons h t ih=>rw [List.map_cons,List.map_cons,ih,h.1]
theorem KV.length {kvs:List (κ × V)} {vs:List (κ × Value)} (r:KV kvs vs):kvs.length=vs.length:=Paired.length r
theorem u0 (kvs:List (κ × V)) (k : κ):(dG kvs k).length<=kvs.length:=List.length_filter_le _ _
end
theorem u5 {P:Program} {w:World} {k:Key} {u:Value} (r:RelV (kV k) u):(cg P w).is k u=true:=by
 cases k with
 | inl i=>obtain ⟨t,e⟩:=(show ∃ t,u=Value.int i t from r);subst e;exact CQ P w i t
 | inr x=>obtain ⟨t,e⟩:=(show ∃ t,u=Value.str x t from r);subst e;exact CS P w x t
theorem Az {P:Program} {w:World} : ∀ {ks:List Key} {us:List Value},Vals (ks.map kV) us->ItemsAre (cg P w) ks us
 | [],_,r=>by rw [List.map_nil] at r;cases r;exact .nil
 | k::ks,_,r=>by
   rw [List.map_cons] at r
   cases r with
   | cons h t=>exact .cons (u5 h) (Az t)
abbrev KT (H:Hp):List (List Key×V)->List (List Key×Addr×Value)->Prop:=Paired λ p q=>p.1=q.1/\H q.2.1=some (.tup (p.1.map kV))/\RelV p.2 q.2.2
theorem KT.val {H:Hp} {kvs:List (List Key×V)} {xs:List (List Key×Addr×Value)} (r:KT H kvs xs) (k:List Key):jy (bx kvs k) ((atKey xs k).map (·.2)):=by
 induction r with
 | nil=>exact True.intro
 | @cons p q ps qs h t ih =>
   obtain ⟨h1,_,h2⟩:=h
   by_cases e:p.1=k
   ·have e':q.1=k:=h1.symm.trans e
    have b:atKey (q::qs) k=some q.2:=by simp [atKey,List.find?_cons,e']
    rw [bP e,b];exact h2
   ·have e' : ¬ q.1=k:=λ z=>e (h1.trans z)
    have b:atKey (q::qs) k=atKey qs k:=by simp [atKey,List.find?_cons,e']
    rw [bz e,b];exact ih
theorem KT.repl {H:Hp} {kvs:List (List Key×V)} {xs:List (List Key×Addr×Value)} (r:KT H kvs xs) (k:List Key) {y:V} {u:Value} (ry:RelV y u) :
  KT H (kvs.map λ kv=>if kv.1=k then (kv.1,y) else kv) (xs.map (putAt k u)):=by
 induction r with
 | nil=>exact .nil
 | @cons p q ps qs h t ih =>
   rw [List.map_cons,List.map_cons]
   refine .cons ?_ ih
   obtain ⟨h1,h2,h3⟩:=h
   unfold putAt
   by_cases e:p.1=k
   ·rw [if_pos e,if_pos (h1.symm.trans e)];exact ⟨h1,h2,ry⟩
   ·rw [if_neg e,if_neg (λ z=>e (h1.trans z))];exact ⟨h1,h2,h3⟩
theorem KT.put {H:Hp} {kvs:List (List Key×V)} {xs:List (List Key×Addr×Value)} (r:KT H kvs xs) (k:List Key) {b:Addr} {y:V} {u:Value} (hb:H b=some (.tup (k.map kV))) (ry:RelV y u) :
  KT H (putK kvs k y) (storedH xs k b u):=by
 have e:(kvs.any λ kv=>decide (kv.1=k))=(atKey xs k).isSome:=by
  rw [c7,(r.val k).gH,Option.isSome_map]
 unfold putK storedH
 rw [e]
 by_cases q:(atKey xs k).isSome=true
 ·rw [if_pos q,if_pos q];exact r.repl k ry
 ·rw [if_neg q,if_neg q];exact Paired.snoc r ⟨rfl,hb,ry⟩
theorem KT.keeps {H H':Hp} {kvs:List (List Key×V)} {xs:List (List Key×Addr×Value)} (r:KT H kvs xs) (ht : ∀ b ys,H b=some (.tup ys)->H' b=some (.tup ys)):KT H' kvs xs :=
 Paired.Qc r λ _ _ z=>⟨z.1,ht _ _ z.2.1,z.2.2⟩
section
variable {P:Program} {w:World} {H:Hp} {h:Heap} {a:Addr}
theorem O2 {u:HO} (ok:j6 P w H h) (e:Rd H a u):bS P w H h a u:=e.ok ok
theorem u6 {kvs:List (Key×V)} (ok:j6 P w H h) (e:Rd H a (.dK kvs)):kvs.length<=sizeLine/\(a == sysModules)=false ∧ ∃ vs,KV kvs vs/\h.DictOf (cg P w) a vs :=
 show bS P w H h a (.dK kvs) from O2 ok e
theorem J7 {kvs:List (Key×V)} (ok:j6 P w H h) (e:H a=some (.dK kvs)):kvs.length<=sizeLine/\(a == sysModules)=false ∧ ∃ vs,KV kvs vs/\h.DictOf (cg P w) a vs:=u6 ok (.inl e)
theorem u7 {ks:List Key} (ok:j6 P w H h) (e:H a=some (.tup (ks.map kV))):(tupleKind (cg P w)).is h ks a:=by
 obtain ⟨_,its,r,o,h1,h2,n,h3⟩:=(show bS P w H h a (.tup (ks.map kV)) from ok a _ e)
 exact ⟨o,its.toArray,n,h1,h2,h3,by simpa using Az r⟩
theorem AA {kvs:List (List Key×V)} (ok:j6 P w H h) (e:Rd H a (.dT kvs)):kvs.length<=sizeLine/\(a == sysModules)=false ∧
  ∃ xs,KT H kvs xs/\h.DictOfH (tupleKind (cg P w)) a xs:=by
 obtain ⟨z,y,xs,r,o,es,ep,h1,h2,h3,h4,h5⟩:=(show bS P w H h a (.dT kvs) from O2 ok e)
 refine ⟨z,y,xs,r,o,es,ep,h1,h2,h3,h4,λ x hx => ?_,h5⟩
 have all : ∀ {l:List (List Key×V)} {m:List (List Key×Addr×Value)},KT H l m->∀ x∈m,(tupleKind (cg P w)).is h x.1 x.2.1:=by
  intro l m q
  induction q with
  | nil=>intro x hx;exact nomatch hx
  | @cons p q ps qs hq t ih =>
    intro x hx
    rcases List.mem_cons.mp hx with e | hx
    ·subst e
     exact u7 ok (by rw [<-hq.1];exact hq.2.1)
    ·exact ih x hx
 exact all r x hx
theorem O3 {kvs:List (List Key×V)} (ok:j6 P w H h) (e:H a=some (.dT kvs)):kvs.length<=sizeLine/\(a == sysModules)=false ∧
  ∃ xs,KT H kvs xs/\h.DictOfH (tupleKind (cg P w)) a xs:=AA ok (.inl e)
end
def gm (H:Hp) (a:Addr) (y:V) (r:Option V):Prop :=
 (∃ kvs k,Rd H a (.dK kvs)/\y=kV k/\r=bx kvs k) ∨ ∃ kvs k b,Rd H a (.dT kvs)/\y = .ref b/\H b=some (.tup (k.map kV))/\r=bx kvs k
def nF (H:Hp) (a:Addr) (y v:V) (H':Hp):Prop :=
 (∃ kvs k,H a=some (.dK kvs)/\y=kV k/\kvs.length < sizeLine/\H' = upd H a (.dK (putK kvs k v))) ∨
 ∃ kvs k b,H a=some (.dT kvs)/\y = .ref b/\H b=some (.tup (k.map kV))/\kvs.length < sizeLine/\H' = upd H a (.dT (putK kvs k v))
theorem gm.k {H:Hp} {a:Addr} {kvs:List (Key×V)} {k:Key} (e:H a=some (.dK kvs)):gm H a (kV k) (bx kvs k) := .inl ⟨kvs,k,.inl e,rfl,rfl⟩
theorem gm.t {H:Hp} {a b:Addr} {kvs:List (List Key×V)} {k:List Key} (e:H a=some (.dT kvs)) (eb:H b=some (.tup (k.map kV))):gm H a (.ref b) (bx kvs k) := .inr ⟨kvs,k,b,.inl e,rfl,eb,rfl⟩
theorem nF.k {H:Hp} {a:Addr} {kvs:List (Key×V)} {k:Key} {v:V} (e:H a=some (.dK kvs)) (hl:kvs.length < sizeLine):nF H a (kV k) v (upd H a (.dK (putK kvs k v))) := .inl ⟨kvs,k,e,rfl,hl,rfl⟩
theorem nF.t {H:Hp} {a b:Addr} {kvs:List (List Key×V)} {k:List Key} {v:V} (e:H a=some (.dT kvs)) (eb:H b=some (.tup (k.map kV))) (hl:kvs.length < sizeLine) :
  nF H a (.ref b) v (upd H a (.dT (putK kvs k v))) := .inr ⟨kvs,k,b,e,rfl,eb,hl,rfl⟩
section
variable {X:Cx} {pins:List (Addr×Obj)} {σ : St} {H:Hp} {s:Shared} {a:Addr} {y v:V} {u r:Value} {o:Option V} {A:Around} {E:Value->Shared->Prop}
theorem Inv.big (I:Inv X pins σ H s):sysModules < s.heap.objs.size:=by
 have h:mainGlobals < s.heap.objs.size:=(I.mod.glob.keeps I.bk).lt
 exact Nat.lt_trans (by decide) h
theorem HL {Q:Value->Shared->Prop} (hu:A.units+1 < cLine) (I:Inv X pins σ H s) (g:gm H a y (some v)) (ry:RelV y u) (h : ∀ w' s',Inv X pins σ H s'->RelV v w'->Q w' s') :
  wpAny (model X.prog X.w) A (getItem (.ref a) u) Q E s:=by
 rcases g with ⟨kvs,k,e,ey,l⟩ | ⟨kvs,k,b,e,ey,eb,l⟩
 ·subst ey
  obtain ⟨z,hd,vs,rel,dd⟩:=u6 I.hok e
  obtain ⟨w',hw,rw'⟩:=jy.some_of (v:=v) (o:=valueAt vs k) (by rw [l];exact rel.val k)
  exact wpAny_getItem_of (u5 ry) dd.mapOf hw (h w' _ (I.tok _) rw')
 ·subst ey
  cases (show u=Value.ref b from ry)
  obtain ⟨z,hd,xs,rel,dd⟩:=AA I.hok e
  obtain ⟨w',hw,rw'⟩:=jy.some_of (v:=v) (o:=(atKey xs k).map (·.2)) (by rw [l];exact rel.val k)
  obtain ⟨p,hp,hp2⟩:=Option.map_eq_some_iff.mp hw
  refine wpAny_getItem_heap (tupleKind_room_in1 hu) (u7 I.hok eb) dd hp ?_
  rw [hp2]
  exact h w' _ (I.tok _) rw'
theorem Wl {Q:Value->Shared->Prop} (hu:A.units+1 < cLine) (I:Inv X pins σ H s) (g:gm H a y o) (ry:RelV y u) (h : ∀ s',Inv X pins σ H s'->Q (.bool o.isSome) s') :
  wpAny (model X.prog X.w) A (compareOp .In u (.ref a)) Q E s:=by
 rcases g with ⟨kvs,k,e,ey,l⟩ | ⟨kvs,k,b,e,ey,eb,l⟩
 ·subst ey
  obtain ⟨z,hd,vs,rel,dd⟩:=u6 I.hok e
  refine wpAny_in_of (u5 ry) hd dd.mapOf ?_
  rw [<-(rel.val k).gH,<-l]
  exact h _ (I.tok _)
 ·subst ey
  cases (show u=Value.ref b from ry)
  obtain ⟨z,hd,xs,rel,dd⟩:=AA I.hok e
  refine wpAny_in_heap (tupleKind_room_in1 hu) (u7 I.hok eb) hd dd ?_
  have q:=(rel.val k).gH
  rw [Option.isSome_map] at q
  rw [<-q,<-l]
  exact h _ (I.tok _)
theorem Nf {Q:Value->Shared->Prop} (hu:A.units+1 < cLine) (I:Inv X pins σ H s) (g:gm H a y o) (ry:RelV y u) (h : ∀ s',Inv X pins σ H s'->Q (.bool (!o.isSome)) s') :
  wpAny (model X.prog X.w) A (compareOp .NotIn u (.ref a)) Q E s:=by
 rcases g with ⟨kvs,k,e,ey,l⟩ | ⟨kvs,k,b,e,ey,eb,l⟩
 ·subst ey
  obtain ⟨z,hd,vs,rel,dd⟩:=u6 I.hok e
  refine wpAny_notIn_of (u5 ry) hd dd.mapOf ?_
  rw [<-(rel.val k).gH,<-l]
  exact h _ (I.tok _)
 ·subst ey
  cases (show u=Value.ref b from ry)
  obtain ⟨z,hd,xs,rel,dd⟩:=AA I.hok e
  refine wpAny_notIn_heap (tupleKind_room_in1 hu) (u7 I.hok eb) hd dd ?_
  have q:=(rel.val k).gH
  rw [Option.isSome_map] at q
  rw [<-q,<-l]
  exact h _ (I.tok _)
theorem uK {h':Heap} {t':Nat} {ob:HO} (I:Inv X pins σ H s) (mu:SJ (H a)) (hs:Heap.SameBut a s.heap h') (he : ∃ q,h'.get? a=some q) (new:bS X.prog X.w (upd H a ob) h' a ob) :
  Inv X pins σ (upd H a ob) { s with heap:=h',toks:=t' } :=
 I.write (x:=a) (e:=a) mu (.inl rfl) (λ b q hb z=>(hs.2 b hb).trans z) he new
theorem ED {P:Program} {w:World} {H':Hp} {h':Heap} {kvs:List (Key×V)} {vs:List (Key×Value)} (z:kvs.length<=sizeLine) (hd:(a == sysModules)=false) (rel:KV kvs vs) (dd:h'.DictOf (cg P w) a vs) :
  bS P w H' h' a (.dK kvs):=⟨z,hd,vs,rel,dd⟩
theorem HM {H':Hp} {Q:Unit->Shared->Prop} (hu:A.units+1 < cLine) (I:Inv X pins σ H s) (g:nF H a y v H') (ry:RelV y u) (rv:RelV v r) (h : ∀ s',Inv X pins σ H' s'->Q () s') :
  wpAny (model X.prog X.w) A (setItem (.ref a) u r) Q E s:=by
 rcases g with ⟨kvs,k,e,ey,l,eH⟩ | ⟨kvs,k,b,e,ey,eb,l,eH⟩
 ·subst ey eH
  obtain ⟨z,hd,vs,rel,dd⟩:=J7 I.hok e
  have hz:vs.length<=sizeLine:=by rw [<-rel.length];exact z
  have hl:(putK kvs k v).length<=sizeLine:=by have:=kJ kvs k v;omega
  refine wpAny_setItem_pairs (hsz:=hz) (u5 ry) dd λ h' MP hs=>h _ ?_
  have he : ∃ q,h'.get? a=some q:=let ⟨q,_,_,hq,_⟩:=MP; ⟨q,hq⟩
  exact uK I (by rw [e];exact True.intro) hs he (ED hl hd (rel.put k rv) MP)
 ·subst ey eH
  cases (show u=Value.ref b from ry)
  obtain ⟨z,hd,xs,rel,dd⟩:=O3 I.hok e
  have hz:xs.length<=sizeLine:=by rw [<-Paired.length rel];exact z
  have hl:(putK kvs k v).length<=sizeLine:=by have:=kJ kvs k v;omega
  refine wpAny_setItem_heap (hsz:=hz) (tupleKind_room_in1 hu) (u7 I.hok eb) dd λ h' MP hs=>h _ ?_
  obtain ⟨q,es,ep,hq,h2,h3,h4,_,h5⟩:=MP
  refine uK I (by rw [e];exact True.intro) hs ⟨q,hq⟩ ⟨hl,hd,_,(rel.put k eb rv).keeps λ c ys ec => ?_,q,es,ep,hq,h2,h3,h4,h5⟩
  rw [b3 (SH ec e (λ z=>nomatch z))]
  exact ec
end
section
variable {X:Cx} {pins:List (Addr×Obj)} {σ : St} {H:Hp} {s:Shared} {a:Addr} {kvs:List (Key×V)} {k:Key} {u:Value} {A:Around} {E:Value->Shared->Prop}
theorem Sm {Q:Unit->Shared->Prop} (I:Inv X pins σ H s) (e:H a=some (.dK kvs)) (ry:RelV (kV k) u) (l:(bx kvs k).isSome=true) (h : ∀ s',Inv X pins σ (upd H a (.dK (dG kvs k))) s'->Q () s') :
  wpAny (model X.prog X.w) A (delItem (.ref a) u) Q E s:=by
 obtain ⟨z,hd,vs,rel,dd⟩:=J7 I.hok e
 refine wpAny_delItem_slot dd.typeIs (by decide) PySem.F.slot_dict_delitem
  (call_meetsIn PySem.F.slot_dict_delitem dd.typeIs PySem.F.entry_dict_delitem (PySem.F.args_dict_delitem_2 _ _) (meets_dict_delitem_pairs (cg X.prog X.w) a (u5 ry)) ⟨vs,dd,by rw [<-rel.length];exact z,by rw [<-(rel.val k).gH];exact l,λ h' MP hs=>h _ ?_⟩)
 have he : ∃ q,h'.get? a=some q:=let ⟨q,_,_,hq,_⟩:=MP; ⟨q,hq⟩
 exact uK I (by rw [e];exact True.intro) hs he (ED (Nat.le_trans (u0 kvs k) z) hd (rel.drop k) MP)
theorem Te {v:V} {more:List Value} {Q:Value->Shared->Prop} (I:Inv X pins σ H s) (e:H a=some (.dK kvs)) (ry:RelV (kV k) u) (l:bx kvs k=some v) (hm:more = [] ∨ ∃ x,more = [x])
  (h : ∀ w' s',Inv X pins σ (upd H a (.dK (dG kvs k))) s'->RelV v w'->Q w' s'):wpAny (model X.prog X.w) A (call (.builtin "dict.pop") (.ref a::u::more)) Q E s:=by
 obtain ⟨z,hd,vs,rel,dd⟩:=J7 I.hok e
 obtain ⟨w',hw,rw'⟩:=jy.some_of (v:=v) (o:=valueAt vs k) (by rw [<-l];exact rel.val k)
 have hp:(keyPart u).isSome=true:=by
  cases k with
  | inl i=>obtain ⟨t,q⟩:=(show ∃ t,u=Value.int i t from ry);subst q;rfl
  | inr x=>obtain ⟨t,q⟩:=(show ∃ t,u=Value.str x t from ry);subst q;rfl
 have ha:argsOk "dict.pop" ⟨.ref a::u::more,[]⟩:=by
  rcases hm with q | ⟨x,q⟩
  ·subst q;exact PySem.F.args_dict_pop_2 _ _
  ·subst q;exact PySem.F.args_dict_pop_3 _ _ _
 refine call_meetsIn PySem.F.slot_dict_pop dd.typeIs PySem.F.entry_dict_pop ha (meets_dict_pop_there (cg X.prog X.w) a (u5 ry) more hm hp)
  ⟨vs,w',dd,by rw [<-rel.length];exact z,hw,λ h' MP hs=>h w' _ ?_ rw'⟩
 have he : ∃ q,h'.get? a=some q:=let ⟨q,_,_,hq,_⟩:=MP; ⟨q,hq⟩
 exact uK I (by rw [e];exact True.intro) hs he (ED (Nat.le_trans (u0 kvs k) z) hd (rel.drop k) MP)
theorem Tf {Q:Value->Shared->Prop} (I:Inv X pins σ H s) (e:Rd H a (.dK kvs)) (h : ∀ t s',Inv X pins σ H s'->Q (.int kvs.length t) s'):wpAny (model X.prog X.w) A (call (.builtin "len") [.ref a]) Q E s:=by
 obtain ⟨z,hd,vs,rel,dd⟩:=u6 I.hok e
 refine call_len_dict hd dd (by rw [<-rel.length];rw [sizeLine_eq] at z;omega) ?_
 rw [<-rel.length]
 exact h _ _ (I.tok _)
end
def Tg (i:Expr):Prop := ∀ ov iv,subscripted i false ov iv=operate [ov,iv] (getItem ov iv)
theorem Ng {prog:Program} {w:World} {A:Around} {E:Value->Shared->Prop} {s:Shared} {env:Env} {value slice:Expr} {pos:Pos} {T id:String} {Q:Value->Shared->Prop}
  (hl:typeLookup (.type T) "__getitem__" = pure (some (.builtin id))) (hs:Tg slice)
  (h:wpAny (model prog w) A (eval value env) (λ o s₁ => wpAny (model prog w) A (eval slice env) (λ i s₂ => s₂.TypeIs o T/\wpAny (model prog w) A (getItem o i) Q E s₂) E s₁) E s) :
  wpAny (model prog w) A (eval (.Subscript value slice pos) env) Q E s:=by
 refine Subscript_ (wpAny_mono h (λ o s₁ h₁ => wpAny_mono h₁ (λ i s₂ h₂ => ?_) λ _ _ x=>x) λ _ _ x=>x)
 obtain ⟨hT,h₂⟩:=h₂
 unfold subscriptTail
 refine wpAny_bind ?_
 rw [getitemInPython_of_ne hT.not_modules]
 refine wpAny_bind (wpAny_specialOf hT hl ?_)
 have fin:wpAny (model prog w) A (subscripted slice false o i) (λ r s₃ => wpAny (model prog w) A (letTemporaryGo value o r >>= λ _=>pure r) Q E s₃) E s₂ := by
  rw [hs o i]
  exact wpAny_operating (wpAny_mono h₂ (λ r s₃ h₃ => wpAny_bind (wpAny_letTemporaryGo (wpAny_pure h₃))) λ _ _ x=>x)
 first
  | exact wpAny_pure (wpAny_bind fin)
  | exact wpAny_bind (wpAny_pure (wpAny_bind fin))
  | exact wpAny_bind fin
theorem C2 {X:Cx} {pins:List (Addr×Obj)} {σ : St} {H:Hp} {s:Shared} {a:Addr} {y:V} {o:Option V} (I:Inv X pins σ H s) (g:gm H a y o):s.TypeIs (.ref a) "dict" := by
 rcases g with ⟨kvs,k,e,_,_⟩ | ⟨kvs,k,b,e,_,_,_⟩
 ·obtain ⟨_,_,vs,_,dd⟩:=u6 I.hok e
  exact dd.typeIs
 ·obtain ⟨_,_,xs,_,dd⟩:=AA I.hok e
  exact dd.typeIs
def J8 (td ty:TE):TE:=fun σ H Q=>td σ H λ x H1=>ty σ H1 λ y H2 => ∃ a v,x = .ref a/\gm H2 a y (some v)/\Q v H2
def Qx (ty td:TE):TE:=fun σ H Q=>ty σ H λ y H1=>td σ H1 λ x H2 => ∃ a o,x = .ref a/\gm H2 a y o/\Q (.bl o.isSome) H2
def A8 (ty td:TE):TE:=fun σ H Q=>ty σ H λ y H1=>td σ H1 λ x H2 => ∃ a o,x = .ref a/\gm H2 a y o/\Q (.bl (!o.isSome)) H2
def J9 (td ty tv:TE):TS:=λ D σ H=>tv σ H λ v H1=>td σ H1 λ x H2=>ty σ H2 λ y H3 => ∃ a H4,x = .ref a/\nF H3 a y v H4/\D.nx σ H4
section
variable {X:Cx} {o i e value:Expr} {pos pos' tpos:Pos} {td ty tv:TE}
theorem gA (hu:X.A.units+1 < cLine) (ho:PE X o td) (hi:PE X i ty) (hs:Tg i):PE X (.Subscript o i pos) (J8 td ty):=by
 intro pins s σ H Q I h
 refine Ng PySem.F.slot_dict_getitem.lookup hs (cV (ho pins s σ H _ I h) λ u s1 ⟨x,H1,I1,rx,q1⟩=>cV (hi pins s1 σ H1 _ I1 q1) λ iv s2 ⟨y,H2,I2,ry,a,v,ex,g,q2⟩ => ?_)
 subst ex
 obtain rfl:u=Value.ref a:=rx
 exact ⟨C2 I2 g,HL hu I2 g ry λ w' s3 I3 rw'=>⟨v,H2,I3,rw',q2⟩⟩
theorem Qy (hu:X.A.units+1 < cLine) (hi:PE X i ty) (ho:PE X o td):PC X .In i o (Qx ty td):=by
 intro pins s σ H Q I h
 refine cV (hi pins s σ H _ I h) λ iv s1 ⟨y,H1,I1,ry,q1⟩=>cV (ho pins s1 σ H1 _ I1 q1) λ u s2 ⟨x,H2,I2,rx,a,ov,ex,g,q2⟩ => ?_
 subst ex
 obtain rfl:u=Value.ref a:=rx
 exact Wl hu I2 g ry λ s3 I3=>⟨.bl ov.isSome,H2,I3,rfl,q2⟩
theorem HN (hu:X.A.units+1 < cLine) (hi:PE X i ty) (ho:PE X o td):PC X .NotIn i o (A8 ty td):=by
 intro pins s σ H Q I h
 refine cV (hi pins s σ H _ I h) λ iv s1 ⟨y,H1,I1,ry,q1⟩=>cV (ho pins s1 σ H1 _ I1 q1) λ u s2 ⟨x,H2,I2,rx,a,ov,ex,g,q2⟩ => ?_
 subst ex
 obtain rfl:u=Value.ref a:=rx
 exact Nf hu I2 g ry λ s3 I3=>⟨.bl (!ov.isSome),H2,I3,rfl,q2⟩
theorem l6 (hu:X.A.units+1 < cLine) (ho:PE X o td) (hi:PE X i ty) (hv:PE X value tv) (hs:swapsWith value (some (.Subscript o i pos')) pos.line X.env=pure false) :
  PS X (.Assign [.Subscript o i pos'] value pos) (J9 td ty tv):=by
 intro pins s σ H D I h
 refine wpAny_Assign_Subscript (cV (hv pins s σ H _ I h) λ r s1 ⟨v,H1,I1,rv,q1⟩=>cV (ho pins s1 σ H1 _ I1 q1) λ u s2 ⟨x,H2,I2,rx,q2⟩=>cV (hi pins s2 σ H2 _ I2 q2) λ iv s3 ⟨y,H3,I3,ry,a,H4,ex,g,q3⟩ => ?_) hs
 subst ex
 obtain rfl:u=Value.ref a:=rx
 exact HM hu I3 g ry rv λ s4 I4=>⟨σ,H4,I4,q3⟩
end
theorem Ka {P:Program} {w:World} {H:Hp} (h:Heap) (hb:sysModules < h.objs.size):bS P w H (h.push { cls := .type "dict",data := .dict #[] }) h.objs.size (.dK []) :=
 ⟨Nat.zero_le _,beq_eq_false_iff_ne.mpr (Ne.symm (Nat.ne_of_lt hb)),[],.nil,Heap.DictOf.new h⟩
theorem Kc {P:Program} {w:World} {H:Hp} (h:Heap) (hb:sysModules < h.objs.size):bS P w H (h.push { cls := .type "dict",data := .dict #[] }) h.objs.size (.dT []) :=
 ⟨Nat.zero_le _,beq_eq_false_iff_ne.mpr (Ne.symm (Nat.ne_of_lt hb)),[],.nil,_,#[],0,Heap.get?_push_size _ rfl,⟨rfl,rfl,rfl⟩,rfl,rfl,List.nodup_nil⟩
def EE:TE:=λ _ H Q => ∀ p,H p=none->Q (.ref p) (upd H p (.dK []))
def Qz:TE:=λ _ H Q => ∀ p,H p=none->Q (.ref p) (upd H p (.dT []))
section
variable {X:Cx} {pos:Pos}
theorem u9:PE X (.Dict [] [] pos) EE:=λ pins s σ H Q I h =>
 wpAny_Dict_empty ⟨.ref s.heap.objs.size,_,I.laid (a:=s.heap.objs.size) (o := .dK []) (t':=s.toks) (λ _ _ q=>Heap.get?_push_of_some _ q) (Nat.le_refl _) (Ka s.heap I.big),rfl,h _ (I.hok.fresh (Nat.le_refl _))⟩
theorem Kd:PE X (.Dict [] [] pos) Qz:=λ pins s σ H Q I h =>
 wpAny_Dict_empty ⟨.ref s.heap.objs.size,_,I.laid (a:=s.heap.objs.size) (o := .dT []) (t':=s.toks) (λ _ _ q=>Heap.get?_push_of_some _ q) (Nat.le_refl _) (Kc s.heap I.big),rfl,h _ (I.hok.fresh (Nat.le_refl _))⟩
end
structure M1 (X:Cx) (o:Expr) (m:Str) (apos:Pos) (e:Expr) (cpos:Pos):Prop where
 base:attributeBase o m X.env (eval o X.env)=eval o X.env
 few:((backTo cpos (starEach [e] X.env)).all (λ x => !x.1) && (backToKw cpos (keywordEach [] X.env)).all (λ x=>x.1.isSome)
  && decide (([e]:List Expr).length+([]:List Keyword).length+(if ([]:List Keyword).isEmpty then 0 else 1) < 30))=true
 line:(apos.endLine == cpos.line)=true
 trees:backTo cpos (starEach [e] X.env) = [(false,eval e X.env)]
structure M2 (X:Cx) (o:Expr) (m:Str) (apos:Pos) (e f:Expr) (cpos:Pos):Prop where
 base:attributeBase o m X.env (eval o X.env)=eval o X.env
 few:((backTo cpos (starEach [e,f] X.env)).all (λ x => !x.1) && (backToKw cpos (keywordEach [] X.env)).all (λ x=>x.1.isSome)
  && decide (([e,f]:List Expr).length+([]:List Keyword).length+(if ([]:List Keyword).isEmpty then 0 else 1) < 30))=true
 line:(apos.endLine == cpos.line)=true
 trees:backTo cpos (starEach [e,f] X.env) = [(false,eval e X.env),(false,eval f X.env)]
def Sn (H:Hp) (a:Addr):Prop:=(∃ kvs,Rd H a (.dK kvs)) ∨ ∃ kvs,Rd H a (.dT kvs)
theorem QC {X:Cx} {pins:List (Addr×Obj)} {σ : St} {H:Hp} {s:Shared} {a:Addr} (I:Inv X pins σ H s) (d:Sn H a) :
  s.TypeIs (.ref a) "dict" ∧ (∀ b,Value.ref a = .ref b->∃ ob,s.heap.get? b=some ob/\ob.dict=none)/\(a == sysModules)=false:=by
 rcases d with ⟨kvs,e⟩ | ⟨kvs,e⟩
 ·obtain ⟨_,hd,vs,_,dd⟩:=u6 I.hok e
  refine ⟨dd.typeIs,λ b q => ?_,hd⟩
  cases q
  obtain ⟨ob,_,_,h1,h2,_⟩:=dd
  exact ⟨ob,h1,h2.2.1⟩
 ·obtain ⟨_,hd,xs,_,dd⟩:=AA I.hok e
  refine ⟨dd.typeIs,λ b q => ?_,hd⟩
  cases q
  obtain ⟨ob,_,_,h1,h2,_⟩:=dd
  exact ⟨ob,h1,h2.2.1⟩
section
variable {X:Cx} {pins:List (Addr×Obj)} {σ : St} {H:Hp} {s:Shared} {a:Addr} {y d:V} {u r:Value} {o:Option V} {A:Around} {E:Value->Shared->Prop}
end
def EF (td ty:TE):TE:=fun σ H Q=>td σ H λ x H1 => ∃ a,x = .ref a/\Sn H1 a/\ty σ H1 λ y H2 => ∃ kvs k v,H2 a=some (.dK kvs)/\y=kV k/\bx kvs k=some v/\Q v (upd H2 a (.dK (dG kvs k)))
section
variable {X:Cx} {o e f:Expr} {apos cpos:Pos} {td ty tx:TE}
theorem Ke (ho:PE X o td) (he:PE X e ty) (m:M1 X o "pop" apos e cpos):PE X (.Call (.Attribute o "pop" apos) [e] [] cpos) (EF td ty):=by
 intro pins s σ H Q I h
 refine wpAny_Call_method m.base m.few m.line PySem.F.plainAttrs_dict PySem.F.slot_dict_pop PySem.F.type_dict_pop (cV (ho pins s σ H _ I h) λ u s1 ⟨x,H1,I1,rx,a,ex,d,q1⟩ => ?_)
 subst ex
 obtain rfl:u=Value.ref a:=rx
 obtain ⟨t1,t2,_⟩:=QC I1 d
 refine ⟨t1,t2,?_⟩
 rw [m.trees]
 refine Calls.callWith_builtin rfl (Calls.evalArgs_plain (Calls.spliced_cons (cV (he pins s1 σ H1 _ I1 q1) λ iv s2 ⟨y,H2,I2,ry,kvs,k,v,ea,ey,l,q2⟩=>Calls.spliced_nil ?_)))
 subst ey
 exact Te I2 ea ry l (.inl rfl) λ w' s3 I3 rw'=>⟨v,_,I3,rw',q2⟩
end
section
variable {X:Cx} {pins:List (Addr×Obj)} {σ : St} {H:Hp} {s:Shared} {a:Addr} {kvs:List (Key×V)} {A:Around} {E:Value->Shared->Prop}
end
section
variable {X:Cx} {pins:List (Addr×Obj)} {σ : St} {H:Hp} {s:Shared} {a:Addr} {y:V} {u:Value} {A:Around} {E:Value->Shared->Prop}
end
end L2
namespace HT
open PySem PyProof.Rows
section
open PySem.SeqAt
open PySem.AutoSeq1 (wpAny_loadPart')
open PySem.MeetsSeq PySem.MeetsSeq2 PySem.MeetsSeq3
end
section
variable {prog:Program} {w:World} {A:Around} {E:Value->Shared->Prop} {s:Shared}
def sD (n d:Nat):Option Int->Nat
 | none=>d
 | some v=>if v < 0 then (v+(n:Int)).toNat else min v.toNat n
theorem C3 (n d:Nat):sD n d none=d:=rfl
theorem GK (n d k:Nat):sD n d (some (k:Int))=min k n:=by
 show (if (k:Int) < 0 then ((k:Int)+(n:Int)).toNat else min (k:Int).toNat n)=min k n
 rw [if_neg (by omega),Int.toNat_natCast]
end
end HT
namespace L2
open PySem PySem.Spec PyProof.Rows
abbrev TO:=St->Hp->(Option Int->Hp->Prop)->Prop
def PO (X:Cx) (e:Option Expr) (t:TO):Prop :=
 ∀ (pins:List (Addr×Obj)) (s:Shared) (σ : St) (H:Hp) (Q:Option Int->Hp->Prop),Inv X pins σ H s->t σ H Q →
   wpAny (model X.prog X.w) X.A (evalPart e X.env) (λ u s' => ∃ o H',Inv X pins σ H' s'/\IsPart u o/\Q o H') X.xe s
def A9:TO:=λ _ H Q=>Q none H
def Kf (t:TE):TO:=fun σ H Q=>t σ H λ x H1 => ∃ i,x = .int i/\Q (some i) H1
section
variable {X:Cx} {e:Expr} {te:TE} {lo hi:Option Expr} {tl th:TO} {pos p2:Pos}
theorem uL:PO X none A9:=by
 intro pins s σ H Q I h
 rw [evalPart_none]
 exact wpAny_pure ⟨none,H,I,.none,h⟩
theorem l7 (h:PE X e te):PO X (some e) (Kf te):=by
 intro pins s σ H Q I hw
 rw [evalPart_some]
 refine cV (h pins s σ H _ I hw) λ u s1 ⟨x,H1,I1,r1,q1⟩ => ?_
 obtain ⟨i,rfl,q⟩:=q1
 obtain ⟨t,rfl⟩:=r1
 exact ⟨some i,H1,I1,.int i t,q⟩
def Vh (X:Cx) (r:V->Option Int->Option Int->Hp->VK->Prop):Prop :=
 ∀ (pins:List (Addr×Obj)) (s:Shared) (σ : St) (H:Hp) (x:V) (v vl vu:Value) (lo hi:Option Int) (sl:Addr) (Q:VK),Inv X pins σ H s->RelV x v->s.heap.IsSliceOf sl vl vu .none->IsPart vl lo->IsPart vu hi->r x lo hi H Q →
   ∃ T id,typeLookup (.type T) "__getitem__" = pure (some (.builtin id))/\s.TypeIs v T/\wpAny (model X.prog X.w) X.A (getItem v (.ref sl)) (EP X pins σ Q) X.xe s
def Wm (r:V->Option Int->Option Int->Hp->VK->Prop) (te:TE) (tl th:TO):TE:=fun σ H Q=>te σ H λ x H1=>tl σ H1 λ l H2=>th σ H2 λ u H3=>r x l u H3 Q
theorem kK {r:V->Option Int->Option Int->Hp->VK->Prop} (hr:Vh X r) (he:PE X e te) (hl:PO X lo tl) (hu:PO X hi th):PE X (.Subscript e (.Slice lo hi none p2) pos) (Wm r te tl th):=by
 intro pins s σ H Q I h
 refine Subscript_ (cV (he pins s σ H _ I h) λ v s1 ⟨x,H1,I1,r1,q1⟩ => ?_)
 refine wpAny_Slice (cV (hl pins s1 σ H1 _ I1 q1) λ vl s2 ⟨l,H2,I2,pl,q2⟩=>cV (hu pins s2 σ H2 _ I2 q2) λ vu s3 ⟨u,H3,I3,pu,q3⟩ => ?_)
 rw [evalPart_none]
 refine wpAny_pure ?_
 have I4:Inv X pins σ H3 { s3 with heap:=s3.heap.push { cls := .type "slice",data := .fields #[vl,vu,.none] } } := I3.kept (t':=s3.toks) λ b ob q=>Heap.get?_push_of_some _ q
 obtain ⟨T,id,hT,ht,hg⟩:=hr pins { s3 with heap:=s3.heap.push { cls := .type "slice",data := .fields #[vl,vu,.none] } } σ H3 x v vl vu l u s3.heap.objs.size Q I4 r1 (Heap.IsSliceOf.new ..) pl pu q3
 show wpAny (model X.prog X.w) X.A (subscriptTail e (.Slice lo hi none p2) v (.ref s3.heap.objs.size)) (EP X pins σ Q) X.xe { s3 with heap:=s3.heap.push { cls := .type "slice",data := .fields #[vl,vu,.none] } }
 exact tail_any (ops:=[.ref s3.heap.objs.size,v]) ht hT hg (by with_unfolding_all rfl)
def kL (xs:List V) (lo hi:Option Int):List V:=(xs.drop (HT.sD xs.length 0 lo)).take (HT.sD xs.length xs.length hi - HT.sD xs.length 0 lo)
theorem kM (xs:List V) (lo hi:Option Int):(kL xs lo hi).length<=xs.length:=by
 unfold kL
 rw [List.length_take,List.length_drop]
 omega
def Nh (K:PySem.W.Frag):V->Option Int->Option Int->Hp->VK->Prop:=λ x lo hi H Q => ∃ a xs,x = .ref a/\Ei K H a xs ∧
 ¬ (HT.sD xs.length 0 lo=0/\HT.sD xs.length xs.length hi=xs.length) ∧ ∀ p,H p=none->Q (.ref p) (upd H p (.tup (kL xs lo hi)))
end
end L2
namespace L2
open PySem PySem.Spec PyProof.Rows
def MQ (n:Nat) (i:Int):Option Nat:=if 0<=i then (if i < n then some i.toNat else none) else if -(n:Int)<=i then some (i+n).toNat else none
def iw {α : Type} (xs:List α) (i:Int):Option α := (MQ xs.length i).bind λ j=>xs[j]?
theorem GL {n:Nat} {i:Int} {j:Nat} (h:MQ n i=some j):seqIndex? i n=some j/\j < n ∧ -(n:Int)<=i/\i < n:=by
 unfold MQ at h
 by_cases h0:0<=i
 ·rw [if_pos h0] at h
  by_cases h1:i < n
  ·rw [if_pos h1] at h
   have e:i.toNat=j:=Option.some.inj h
   exact ⟨by rw [seqIndex_of h0 h1,e],by omega,by omega,h1⟩
  ·rw [if_neg h1] at h;cases h
 ·rw [if_neg h0] at h
  by_cases h1 : -(n:Int)<=i
  ·rw [if_pos h1] at h
   have e:(i+n).toNat=j:=Option.some.inj h
   exact ⟨by rw [seqIndex_neg (by omega) h1,e],by omega,h1,by omega⟩
  ·rw [if_neg h1] at h;cases h
theorem Ba {α : Type} {xs:List α} {i:Int} {v : α} (h:iw xs i=some v) : ∃ j,seqIndex? i xs.length=some j/\xs[j]? = some v/\j < xs.length ∧ -(xs.length:Int)<=i/\i < xs.length:=by
 unfold iw at h
 cases e:MQ xs.length i with
 | none=>rw [e] at h;cases h
 | some j =>
   rw [e] at h
   obtain ⟨h1,h2,h3,h4⟩:=GL e
   exact ⟨j,h1,h,h2,h3,h4⟩
theorem gB {α : Type} {xs:List α} {j:Nat} {v : α} (h:xs[j]? = some v):iw xs (j:Int)=some v:=by
 have hj:j < xs.length:=(List.getElem?_eq_some_iff.mp h).1
 have e:MQ xs.length (j:Int)=some j:=by
  unfold MQ
  rw [if_pos (by omega),if_pos (by omega)];simp
 unfold iw;rw [e];exact h
def Ni (b:Expr):Prop := ∀ o i,subscripted b false o i=operate [o,i] (getItem o i)
def So (X:Cx) (r:R2):Prop :=
 ∀ (value slice:Expr) (pins:List (Addr×Obj)) (s:Shared) (σ : St) (H:Hp) (x y:V) (v u:Value) (Q:VK),Inv X pins σ H s->RelV x v->RelV y u->r x y H Q →
   subscripted slice false v u=operate [v,u] (getItem v u)->wpAny (model X.prog X.w) X.A (subscriptTail value slice v u) (EP X pins σ Q) X.xe s
def MtR (X:Cx) (id:String) (r:V->List V->Hp->VK->Prop):Prop :=
 ∀ (pins:List (Addr×Obj)) (s:Shared) (σ : St) (H:Hp) (x:V) (xs:List V) (v:Value) (us:List Value) (Q:VK),Inv X pins σ H s->RelV x v->Vals xs us->r x xs H Q →
   wpAny (model X.prog X.w) X.A (call (.builtin id) (v::us)) (EP X pins σ Q) X.xe s
section
variable {X:Cx} {a b:Expr} {ta tb:TE} {pos:Pos}
theorem aY {r:R2} (hr:So X r) (ha:PE X a ta) (hb:PE X b tb) (hs:Ni b):PE X (.Subscript a b pos) (Qp r ta tb):=by
 intro pins s σ H Q I h
 exact Subscript_ (Qq ha hb I h λ v u s2 x y H2 I2 rx ry q=>hr a b pins s2 σ H2 x y v u Q I2 rx ry q (hs _ _))
def QD (K:PySem.W.Frag):R2:=λ x y H Q => ∃ p xs i v,x = .ref p/\y = .int i/\eY K H p xs/\iw xs i=some v/\Q v H
def Wn (K:PySem.W.Frag):R2:=λ x y H Q => ∃ p xs i v,x = .ref p/\y = .int i/\Ei K H p xs/\iw xs i=some v/\Q v H
def Ti:R2:=λ x y H Q => ∃ z i c,x = .str z/\y = .int i/\z.length<=sizeLine/\iw z.cps.toList i=some c/\Q (.str ⟨#[c]⟩) H
theorem GN:So X (QD X.K):=by
 intro value slice pins s σ H x y v u Q I rx ry h hs
 obtain ⟨p,xs,i,z,rfl,rfl,hq,he,q⟩:=h
 cases rx
 obtain ⟨t,rfl⟩:=ry
 obtain ⟨its,r,pl,hz⟩:=I.list hq
 obtain ⟨j,h1,h2,h3,h4,h5⟩:=Ba he
 obtain ⟨w,ew,rw'⟩:=r.get h2
 have hl:=r.length
 have hn:=nD
 have fin:EP X pins σ Q w s:=⟨z,H,I,rw',q⟩
 by_cases h0:0<=i
 ·have hj:i.toNat=j:=by
   rw [seqIndex_of h0 h5] at h1
   exact Option.some.inj h1
  exact item_listR pl.isList h0 (by omega) (by rw [hj];simpa using ew) fin hs
 ·have hj:(i+(its.toArray.size:Int)).toNat=j:=by
   rw [seqIndex_neg (by omega) h4] at h1
   rw [List.size_toArray,<-hl]
   exact Option.some.inj h1
  exact subscriptTail_builtinR (x:=w) pl.isList.typeIs slot_list_getitem.lookup
   (wpAny_getItem_list_neg (Q:=λ r s'=>r=w/\EP X pins σ Q r s') pl.isList (by omega) (by rw [List.size_toArray] <;> omega) (by omega) (by rw [hj];simpa using ew) ⟨rfl,fin⟩) hs
theorem QE:So X (Wn X.K):=by
 intro value slice pins s σ H x y v u Q I rx ry h hs
 obtain ⟨p,xs,i,z,rfl,rfl,hq,he,q⟩:=h
 cases rx
 obtain ⟨t,rfl⟩:=ry
 obtain ⟨its,r,pl,hz⟩:=I.tuple hq
 obtain ⟨j,h1,h2,h3,h4,h5⟩:=Ba he
 obtain ⟨w,ew,rw'⟩:=r.get h2
 have hl:=r.length
 have hn:=nD
 have fin:EP X pins σ Q w s:=⟨z,H,I,rw',q⟩
 exact subscriptTail_builtinR (x:=w) pl.typeIs slot_tuple_getitem.lookup
  (getItem_tuple (j:=j) (Q:=λ r s'=>r=w/\EP X pins σ Q r s') pl (by omega) (by omega) (by rw [List.size_toArray,<-hl];exact h1) (by simpa using ew) ⟨rfl,fin⟩) hs
theorem QF:So X Ti:=by
 intro value slice pins s σ H x y v u Q I rx ry h hs
 obtain ⟨z,i,c,rfl,rfl,hz,he,q⟩:=h
 obtain ⟨t,rfl⟩:=rx
 obtain ⟨t',rfl⟩:=ry
 obtain ⟨j,h1,h2,h3,h4,h5⟩:=Ba he
 have hl:z.cps.toList.length=z.length:=by simp [Str.length]
 rw [hl] at h1 h4 h5
 have hn:=nD
 exact tail_any (typeIs_str s z t) slot_str_getitem.lookup (getItem_str (c:=c) (by
  have e1:decide (i < -(2 ^ 63:Int))=false:=decide_eq_false (by omega)
  have e2:decide (i ≥ 2 ^ 63)=false:=decide_eq_false (by omega)
  rw [e1,e2,Bool.or_false]) (by rw [h1];simpa using h2) ⟨.str ⟨#[c]⟩,H,I.tok _,⟨_,rfl⟩,q⟩) hs
theorem EG (its:List Value) (n j:Nat) (u:Value):Obj.mapSeq (·.setIfInBounds j u) { cls := .type "list",data := .seq its.toArray n } = { cls := .type "list",data := .seq (its.set j u).toArray n } := by
 simp [Obj.mapSeq]
theorem Inv.lst {pins:List (Addr×Obj)} {σ : St} {H:Hp} {s:Shared} {p:Addr} {xs:List V} (I:Inv X pins σ H s) (h:H p=some (.lst xs)) :
  ∃ (its:List Value) (n:Nat),Vals xs its/\s.heap.get? p=some { cls := .type "list",data := .seq its.toArray n } ∧ xs.length<=sizeLine:=by
 obtain ⟨z,its,n,r,e⟩:=I.hok p _ h
 exact ⟨its,n,r,e,z⟩
theorem Inv.QG {pins:List (Addr×Obj)} {σ : St} {H:Hp} {s:Shared} {p:Addr} {xs ys:List V} {its its':List Value} {n n':Nat} {f:Obj->Obj} (I:Inv X pins σ H s) (h:H p=some (.lst xs))
  (ho:s.heap.get? p=some { cls := .type "list",data := .seq its.toArray n }) (hf:f { cls := .type "list",data := .seq its.toArray n } = { cls := .type "list",data := .seq its'.toArray n' }) (r:Vals ys its') (hz:ys.length<=sizeLine) (t:Nat) :
  Inv X pins σ (upd H p (.lst ys)) { s with heap:=s.heap.update p f,toks:=t } := by
 have e:(s.heap.update p f).get? p=some { cls := .type "list",data := .seq its'.toArray n' } := by
  rw [Heap.get?_update_self f ho (by rw [hf] <;> rfl),hf]
 refine I.write (x:=p) (e:=p) (by rw [h];trivial) (.inl rfl) (λ b u hb q=>(Heap.get?_update_other _ _ (Ne.symm hb)).trans q) ⟨_,e⟩ ?_
 exact ⟨hz,its',n',r,e⟩
def O4:V->V->V->Hp->(Hp->Prop)->Prop:=λ o i v H Q => ∃ p xs k j,o = .ref p/\i = .int k/\H p=some (.lst xs)/\MQ xs.length k=some j/\Q (upd H p (.lst (xs.set j v)))
theorem set_list:SN X O4:=by
 intro pins s σ H o i v ov iv u Q I ro ri rv h
 obtain ⟨p,xs,k,j,rfl,rfl,hp,hj,q⟩:=h
 cases ro
 obtain ⟨t,rfl⟩:=ri
 obtain ⟨its,n,r,ho,hz⟩:=I.lst hp
 obtain ⟨h1,h2,h3,h4⟩:=GL hj
 have hl:=r.length
 have hn:=nD
 have I':Inv X pins σ (upd H p (.lst (xs.set j v))) { s with heap:=s.heap.update p (Obj.mapSeq (·.setIfInBounds j u)) } :=
  I.QG hp ho (EG its n j u) (r.set rv j) (by rw [List.length_set];exact hz) s.toks
 by_cases h0:0<=k
 ·have hk:k.toNat=j:=by
   rw [seqIndex_of h0 h4] at h1
   exact Option.some.inj h1
  exact PySem.W.ki_setAt ho h0 (by omega) (by rw [List.size_toArray,<-hl];exact h4) (by rw [hk];exact ⟨_,I',q⟩)
 ·have hk:(k+(its.toArray.size:Int)).toNat=j:=by
   rw [seqIndex_neg (by omega) h3] at h1
   rw [List.size_toArray,<-hl]
   exact Option.some.inj h1
  exact PySem.W.ki_setBack ho (by omega) (by rw [List.size_toArray,<-hl];exact h3) (by omega) (by rw [hk];exact ⟨_,I',q⟩)
theorem Bb (lo hi:Option Int) (n:Nat):(sliceBounds lo hi none n).1=((HT.sD n 0 lo:Nat):Int)/\(sliceBounds lo hi none n).2.1=((HT.sD n n hi:Nat):Int)/\(sliceBounds lo hi none n).2.2=1:=by
 refine ⟨?_,?_,rfl⟩
 ·cases lo with
  | none=>simp [sliceBounds,HT.sD]
  | some i =>
    simp only [sliceBounds,HT.sD,Option.getD_none,show (1:Int) > 0 by decide,if_true]
    by_cases h:i < 0
    ·simp only [h,if_true] <;> omega
    ·simp only [h,if_false] <;> omega
 ·cases hi with
  | none=>simp [sliceBounds,HT.sD]
  | some i =>
    simp only [sliceBounds,HT.sD,Option.getD_none,show (1:Int) > 0 by decide,if_true]
    by_cases h:i < 0
    ·simp only [h,if_true] <;> omega
    ·simp only [h,if_false] <;> omega
theorem ye (its:List Value) (lo hi:Option Int):slicePick its.toArray lo hi none=((its.drop (HT.sD its.length 0 lo)).take (HT.sD its.length its.length hi - HT.sD its.length 0 lo)).toArray:=by
 obtain ⟨h1,h2,h3⟩:=Bb lo hi its.toArray.size
 unfold slicePick
 rw [h1,h2,h3]
 simp only [sliceRange_one,pick_run,List.size_toArray] <;> rfl
def Nj (K:PySem.W.Frag):V->Option Int->Option Int->Hp->VK->Prop:=λ x lo hi H Q => ∃ a xs,x = .ref a/\eY K H a xs ∧ ∀ p,H p=none->Q (.ref p) (upd H p (.lst (kL xs lo hi)))
theorem Nk:Vh X (Nj X.K):=by
 intro pins s σ H x v vl vu lo hi sl Q I rx hs pl pu h
 obtain ⟨a,xs,rfl,hx,q⟩:=h
 cases rx
 obtain ⟨its,r,ht,hz⟩:=I.list hx
 have hlen:=r.length
 refine ⟨"list",_,slot_list_getitem.lookup,ht.isList.typeIs,?_⟩
 refine wpAny_getItem_list_slice ht.isList hs pl pu .none (by simp) ?_ (by rw [List.size_toArray] <;> omega)
 rw [ye,<-hlen]
 refine ⟨.ref s.heap.objs.size,_,I.laid (t':=s.toks) (o := .lst (kL xs lo hi)) (λ b ob q=>Heap.get?_push_of_some _ q) (Nat.le_refl _) ?_,rfl,q _ (I.hok.fresh (Nat.le_refl _))⟩
 exact ⟨Nat.le_trans (kM xs lo hi) hz,_,0,(r.drop (HT.sD xs.length 0 lo)).take (HT.sD xs.length xs.length hi - HT.sD xs.length 0 lo),Heap.get?_push_size _ rfl⟩
def eu:V->Bool
 | .aH=>true
 | .bl _=>true
 | .int _=>true
 | .str _=>true
 | _=>false
def Bc:V->V->Bool
 | .aH,.aH=>true
 | .bl a,.bl b=>a == b
 | .bl a,.int b=>(if a then 1 else 0) == b
 | .int a,.bl b=>a == (if b then 1 else 0)
 | .int a,.int b=>a == b
 | .str a,.str b=>a == b
 | _,_=>false
theorem QI {A:Around} {s:Shared} {y x:V} {u v:Value} (ry:RelV y u) (rx:RelV x v) (fy:eu y=true) (fx:eu x=true):SeqAt.EqAt A s u v (Bc y x):=by
 cases y with
 | aH =>
   cases ry
   cases x with
   | aH=>cases rx;exact SeqAt.EqAt.same _
   | bl b=>cases rx;exact SeqAt.EqAt.none_bool b
   | int b=>obtain ⟨t,rfl⟩:=rx;exact SeqAt.EqAt.none_int b t
   | str b=>obtain ⟨t,rfl⟩:=rx;exact SeqAt.EqAt.none_str b t
   | _=>exact absurd (show false=true from fx) Bool.false_ne_true
 | bl a =>
   cases ry
   cases x with
   | aH=>cases rx;exact SeqAt.EqAt.bool_none a
   | bl b=>cases rx;exact SeqAt.EqAt.bool_bool a b
   | int b=>obtain ⟨t,rfl⟩:=rx;exact SeqAt.EqAt.bool_int a b t
   | str b=>obtain ⟨t,rfl⟩:=rx;exact SeqAt.EqAt.bool_str a b t
   | _=>exact absurd (show false=true from fx) Bool.false_ne_true
 | int a =>
   obtain ⟨t',rfl⟩:=ry
   cases x with
   | aH=>cases rx;exact SeqAt.EqAt.int_none a t'
   | bl b=>cases rx;exact SeqAt.EqAt.int_bool a t' b
   | int b=>obtain ⟨t,rfl⟩:=rx;exact SeqAt.EqAt.int_int a t' b t
   | str b=>obtain ⟨t,rfl⟩:=rx;exact SeqAt.EqAt.int_str a t' b t
   | _=>exact absurd (show false=true from fx) Bool.false_ne_true
 | str a =>
   obtain ⟨t',rfl⟩:=ry
   cases x with
   | aH=>cases rx;exact SeqAt.EqAt.str_none a t'
   | bl b=>cases rx;exact SeqAt.EqAt.str_bool a t' b
   | int b=>obtain ⟨t,rfl⟩:=rx;exact SeqAt.EqAt.str_int a t' b t
   | str b=>obtain ⟨t,rfl⟩:=rx;exact SeqAt.EqAt.str_str a t' b t
   | _=>exact absurd (show false=true from fx) Bool.false_ne_true
 | _=>exact absurd (show false=true from fy) Bool.false_ne_true
def C4 (x:V) (u:Value):Bool:=match u with
 | .none=>Bc .aH x
 | .bool b=>Bc (.bl b) x
 | .int i _=>Bc (.int i) x
 | .str z _=>Bc (.str z) x
 | _=>false
theorem EH {x y:V} {u:Value} (r:RelV y u) (f:eu y=true):C4 x u=Bc y x:=by
 cases y with
 | aH=>cases r;rfl
 | bl b=>cases r;rfl
 | int i=>obtain ⟨t,rfl⟩:=r;rfl
 | str z=>obtain ⟨t,rfl⟩:=r;rfl
 | _=>exact absurd (show false=true from f) Bool.false_ne_true
theorem oR {x:V} : ∀ {xs:List V} {us:List Value},Vals xs us->xs.all eu=true->us.any (C4 x)=xs.any λ y=>Bc y x
 | _,_,.nil,_=>rfl
 | y::xs,u::us,.cons r t,f=>by
   rw [List.all_cons,Bool.and_eq_true] at f
   rw [List.any_cons,List.any_cons,EH r f.1,oR t f.2]
theorem i8 {A:Around} {s:Shared} {x:V} {v:Value} (rx:RelV x v) (fx:eu x=true) : ∀ {xs:List V} {us:List Value},Vals xs us->xs.all eu=true->∀ u∈us,SeqAt.EqAt A s u v (C4 x u)
 | _,_,.nil,_=>λ u hu=>by cases hu
 | y::xs,u::us,.cons r t,f=>λ u' hu=>by
   rw [List.all_cons,Bool.and_eq_true] at f
   rcases List.mem_cons.mp hu with rfl | hu
   ·rw [EH r f.1];exact QI r rx f.1 fx
   ·exact i8 rx fx t f.2 u' hu
def qu (x:V) (xs:List V):Bool:=xs.any λ y=>Bc y x
def Vi (K:PySem.W.Frag) (neg:Bool):R2:=λ x y H Q => ∃ p xs,y = .ref p/\(eY K H p xs\/Ei K H p xs)/\eu x=true/\xs.all eu=true/\Q (.bl (if neg then !qu x xs else qu x xs)) H
theorem HP:ql X (compareOp .In) (Vi X.K false):=by
 intro pins s σ H x y v u Q I rx ry h
 obtain ⟨p,xs,rfl,hq,fx,fs,q⟩:=h
 cases ry
 rcases hq with hq | hq
 ·obtain ⟨its,r,pl,hz⟩:=I.list hq
  refine SeqAt.in_listAt (C4 x) pl.isList (λ w hw=>i8 rx fx r fs w (by simpa using hw)) ⟨.bl _,H,I,rfl,?_⟩
  rw [show its.toArray.any (C4 x)=its.any (C4 x) by simp,oR r fs]
  exact q
 ·obtain ⟨its,r,pl,hz⟩:=I.tuple hq
  refine SeqAt.in_tupleAt (C4 x) pl (λ w hw=>i8 rx fx r fs w (by simpa using hw)) ⟨.bl _,H,I,rfl,?_⟩
  rw [show its.toArray.any (C4 x)=its.any (C4 x) by simp,oR r fs]
  exact q
theorem Bd:ql X (compareOp .NotIn) (Vi X.K true):=by
 intro pins s σ H x y v u Q I rx ry h
 obtain ⟨p,xs,rfl,hq,fx,fs,q⟩:=h
 cases ry
 rcases hq with hq | hq
 ·obtain ⟨its,r,pl,hz⟩:=I.list hq
  refine SeqAt.notIn_listAt (C4 x) pl.isList (λ w hw=>i8 rx fx r fs w (by simpa using hw)) ⟨.bl _,H,I,rfl,?_⟩
  rw [show its.toArray.any (C4 x)=its.any (C4 x) by simp,oR r fs]
  exact q
 ·obtain ⟨its,r,pl,hz⟩:=I.tuple hq
  refine SeqAt.notIn_tupleAt (C4 x) pl (λ w hw=>i8 rx fx r fs w (by simpa using hw)) ⟨.bl _,H,I,rfl,?_⟩
  rw [show its.toArray.any (C4 x)=its.any (C4 x) by simp,oR r fs]
  exact q
theorem jD:kI X (.builtin "len") (λ xs H Q => ∃ p ys,xs = [.ref p]/\(eY X.K H p ys\/Ei X.K H p ys)/\Q (.int ys.length) H):=by
 intro pins s σ H xs us Q I r h
 obtain ⟨p,ys,rfl,hq,q⟩:=h
 obtain ⟨u,rfl,rx⟩:=vals1 r
 cases rx
 have hn:=nD
 rcases hq with hq | hq
 ·obtain ⟨its,r',pl,hz⟩:=I.list hq
  have hlen:=r'.length
  exact Calls.call_len_list pl.isList (by simp only [List.size_toArray] <;> omega) ⟨.int ys.length,H,I.tok _,⟨s.toks+1,by rw [List.size_toArray,hlen]⟩,q⟩
 ·obtain ⟨its,r',pl,hz⟩:=I.tuple hq
  have hlen:=r'.length
  exact len_tuple pl (by simp only [List.size_toArray] <;> omega) ⟨.int ys.length,H,I.tok _,⟨s.toks+1,by rw [List.size_toArray,hlen]⟩,q⟩
theorem Be:kI X (.type "list") (λ xs H Q => ∃ p ys,xs = [.ref p]/\(eY X.K H p ys\/Ei X.K H p ys) ∧ ∀ l,H l=none->Q (.ref l) (upd H l (.lst ys))):=by
 intro pins s σ H xs us Q I r h
 obtain ⟨p,ys,rfl,hq,q⟩:=h
 obtain ⟨u,rfl,rx⟩:=vals1 r
 cases rx
 have fin : ∀ (its:List Value),Vals ys its->ys.length<=sizeLine->∀ (h':Heap) (c':Nat),(∀ b o',s.heap.get? b=some o'->h'.get? b=some o') →
   h'.get? s.heap.objs.size=some { cls := .type "list",dict:=none,data := .seq its.toArray c',slots := #[] }->EP X pins σ Q (.ref s.heap.objs.size) { s with heap:=h' } := λ its r' hz h' c' kp e =>
  ⟨.ref s.heap.objs.size,_,I.laid (t':=s.toks) kp (Nat.le_refl _) (show bS X.prog X.w _ h' _ (.lst ys) from ⟨hz,its,c',r',e⟩),rfl,q _ (I.hok.fresh (Nat.le_refl _))⟩
 rcases hq with hq | hq
 ·obtain ⟨its,r',pl,hz⟩:=I.list hq
  have hlen:=r'.length
  obtain ⟨o,ho,hc,n,hd⟩:=pl.isList
  exact call_list_seq p (.inl rfl) ho hc hd (λ h' c' kp e=>fin its r' hz h' c' kp e) (by simp only [List.size_toArray] <;> omega)
 ·obtain ⟨its,r',pl,hz⟩:=I.tuple hq
  have hlen:=r'.length
  obtain ⟨o,ho,hc,n,hd⟩:=pl
  exact call_list_seq p (.inr rfl) ho hc hd (λ h' c' kp e=>fin its r' hz h' c' kp e) (by simp only [List.size_toArray] <;> omega)
def Tj (K:PySem.W.Frag) (T:String) (x:V) (H:Hp):Prop:=match x with
 | .str _=>T = "str"
 | .int _=>T = "int"
 | .ref p=>(T = "list" ∧ ∃ xs,eY K H p xs)\/(T = "tuple" ∧ ∃ o,K.lookup p=some o/\o.cls = .type "tuple" ∧ o.dict=none) ∨
   (T = "dict" ∧ ((∃ kvs,H p=some (.dK kvs)) ∨ ∃ kvs,H p=some (.dT kvs)))\/(T = "set" ∧ ∃ S n,H p=some (.set S n))
 | _=>False
theorem QJ {pins:List (Addr×Obj)} {σ : St} {H:Hp} {s:Shared} {T:String} {x:V} {v:Value} (I:Inv X pins σ H s) (r:RelV x v) (ty:Tj X.K T x H) :
  s.TypeIs v T ∧ ∀ a,v = .ref a->∃ ob,s.heap.get? a=some ob/\ob.dict=none:=by
 cases x with
 | str z =>
   obtain ⟨t,rfl⟩:=r
   cases (show T = "str" from ty)
   exact ⟨typeIs_str s z t,λ _ e=>nomatch e⟩
 | int i =>
   obtain ⟨t,rfl⟩:=r
   cases (show T = "int" from ty)
   exact ⟨typeIs_int s i t,λ _ e=>nomatch e⟩
 | ref p =>
   cases r
   rcases ty with ⟨rfl,xs,hq⟩ | ⟨rfl,o,hk,hc,hd⟩ | ⟨rfl,hk⟩ | ⟨rfl,S,n,hk⟩
   ·obtain ⟨its,_,pl,_⟩:=I.list hq
    refine ⟨pl.isList.typeIs,λ a e => ?_⟩
    cases e
    obtain ⟨o,n,e,c,hd,_⟩:=pl
    exact ⟨o,e,hd⟩
   ·refine ⟨⟨o,I.su p o hk,hc⟩,λ a e => ?_⟩
    cases e
    exact ⟨o,I.su _ o hk,hd⟩
   ·have z : ∃ o,s.heap.get? p=some o/\o.ExactDict:=by
     rcases hk with ⟨kvs,hk⟩ | ⟨kvs,hk⟩
     ·obtain ⟨_,_,_,_,o,_,_,e,ex,_⟩:=I.hok p _ hk
      exact ⟨o,e,ex⟩
     ·obtain ⟨_,_,_,_,o,_,_,e,ex,_⟩:=I.hok p _ hk
      exact ⟨o,e,ex⟩
    obtain ⟨o,e,ex⟩:=z
    refine ⟨⟨o,e,ex.1⟩,λ a e2 => ?_⟩
    cases e2
    exact ⟨o,e,ex.2.1⟩
   ·obtain ⟨o,_,_,_,e,ex,_⟩:=I.hok p _ hk
    refine ⟨⟨o,e,ex.1⟩,λ a e2 => ?_⟩
    cases e2
    exact ⟨o,e,ex.2.1⟩
 | _=>exact False.elim ty
def Wo (K:PySem.W.Frag) (T:String) (r:V->List V->Hp->VK->Prop) (to:TE) (t:TA):TE:=fun σ H Q=>to σ H λ x H1=>Tj K T x H1/\t σ H1 λ xs H2=>r x xs H2 Q
variable {o e:Expr} {es:List Expr} {to:TE} {t:TA} {name:Str} {apos cpos:Pos} {T id:String} {r:V->List V->Hp->VK->Prop}
theorem oS (pa:PlainAttrs T) (slot:Slot T name id) (hty:typeOf (.builtin id)=pure (.type "method_descriptor")) (hm:MtR X id r) (ho:PE X o to) (ha:PA X (e::es) t)
  (hbase:attributeBase o name X.env (eval o X.env)=eval o X.env:=by rfl)
  (hfew:((backTo cpos (starEach (e::es) X.env)).all (λ x => !x.1) && (backToKw cpos (keywordEach [] X.env)).all (λ x=>x.1.isSome)
   && decide ((e::es).length+([]:List Keyword).length+(if ([]:List Keyword).isEmpty then 0 else 1) < 30))=true:=by rfl)
  (hline:(apos.endLine == cpos.line)=true:=by rfl) (hs:starEach (e::es) X.env=(false,eval e X.env)::starEach es X.env:=by rfl) (hplain:(backTo cpos (starEach es X.env)).any (·.1)=false:=by rfl) :
  PE X (.Call (.Attribute o name apos) (e::es) [] cpos) (Wo X.K T r to t):=by
 intro pins s σ H Q I h
 refine wpAny_Call_method_late hbase hfew hline rfl (cV (ho pins s σ H _ I h) λ v s1 ⟨x,H1,I1,r1,ty,q1⟩ => ?_)
 obtain ⟨h1,h2⟩:=QJ I1 r1 ty
 refine ⟨T,id,pa,slot,hty,h1,h2,?_⟩
 have hA:=ha cpos pins s1 σ H1 _ I1 q1
 rw [hs] at hA ⊢
 refine Calls.callWith_builtin (by show (false || (backTo cpos (starEach es X.env)).any (·.1))=false;rw [hplain] <;> rfl) (Calls.evalArgs_plain ?_)
 exact cV hA λ us s2 ⟨vs,H2,I2,r2,q2⟩=>hm pins s2 σ H2 x vs v us Q I2 r1 r2 q2
/- xs.append(e),list.index on a Kg tuple .. are MtR facts of 06m -/
end
end L2
namespace L2
open PySem PySem.Spec PyProof.Rows
def Vj (X:Cx) (id:String) (r:V->List V->Hp->VK->Prop):Prop :=
 ∀ (pins:List (Addr×Obj)) (s:Shared) (σ : St) (H:Hp) (x:V) (xs:List V) (v:Value) (us:List Value) (Q:VK),Inv X pins σ H s->RelV x v->Vals xs us->r x xs H Q →
   wpAny (model X.prog X.w) X.A (call (.builtin id) (v::us)) (EP X pins σ Q) X.xe s
theorem Vals.one : ∀ {x:V} {us:List Value},Vals [x] us->∃ u,us = [u]/\RelV x u
 | _,_,.cons r .nil=>⟨_,rfl,r⟩
theorem Vals.two : ∀ {x y:V} {us:List Value},Vals [x,y] us->∃ u v,us = [u,v]/\RelV x u/\RelV y v
 | _,_,_,.cons r (.cons q .nil)=>⟨_,_,rfl,r,q⟩
theorem Vals.rep {xs:List V} {us:List Value} (h:Vals xs us) : ∀ k:Nat,Vals (List.replicate k xs).flatten (List.replicate k us).flatten
 | 0 => .nil
 | k+1=>by
   rw [List.replicate_succ,List.replicate_succ,List.flatten_cons,List.flatten_cons]
   exact Vals.append h (Vals.rep h k)
theorem foldl_rep (its:List Value) : ∀ (k:Nat) (acc:List Value),
  List.foldl (λ x1 x2=>x1++x2) acc.toArray (List.replicate k its.toArray)=(acc++(List.replicate k its).flatten).toArray
 | 0,acc=>by simp
 | k+1,acc=>by
   have e:acc.toArray++its.toArray=(acc++its).toArray:=by simp
   have e2:(acc++its)++(List.replicate k its).flatten=acc++(List.replicate (k+1) its).flatten:=by
    rw [List.replicate_succ,List.flatten_cons,List.append_assoc]
   rw [<-e2,<-foldl_rep its k (acc++its),<-e,List.replicate_succ,List.foldl_cons]
section
variable {X:Cx} {pins:List (Addr×Obj)} {σ : St} {H:Hp} {s:Shared} {l b:Addr} {xs ys zs:List V}
theorem Inv.Tn {its its':List Value} {n:Nat} {f:Array Value->Array Value} {t':Nat} (I:Inv X pins σ H s) (hH:H l=some (.lst xs))
  (e:s.heap.get? l=some { cls := .type "list",data := .seq its.toArray n }) (hf:f its.toArray=its'.toArray) (hv:Vals ys its') (hz:ys.length<=sizeLine) :
  Inv X pins σ (upd H l (.lst ys)) { s with heap:=s.heap.update l (Obj.mapSeq f),toks:=t' } := by
 have q:=PySem.IsL.update e f
 rw [hf] at q
 refine I.write (x:=l) (e:=l) (by rw [hH];exact trivial) (.inl rfl) (λ b' u hb hu=>(Heap.get?_update_other s.heap (Obj.mapSeq f) (Ne.symm hb)).trans hu) ⟨_,q⟩ ?_
 exact ⟨hz,its',_,hv,q⟩
theorem Inv.To {its:List Value} {t':Nat} (I:Inv X pins σ H s) (hv:Vals ys its) (hz:ys.length<=sizeLine) :
  Inv X pins σ (upd H s.heap.objs.size (.lst ys)) { s with heap:=s.heap.push { cls := .type "list",data := .seq its.toArray },toks:=t' } :=
 I.laid (λ _ _ q=>Heap.get?_push_of_some _ q) (Nat.le_refl _) ⟨hz,its,0,hv,Heap.get?_push_size _ rfl⟩
theorem Inv.fresh (I:Inv X pins σ H s):H s.heap.objs.size=none:=I.hok.fresh (Nat.le_refl _)
theorem Inv.C5 (I:Inv X pins σ H s) (hH:H l=some (.lst xs)):xs.length<=sizeLine ∧ ∃ (its:List Value) (n:Nat),Vals xs its/\xs.length=its.length/\s.heap.get? l=some { cls := .type "list",data := .seq its.toArray n } := by
 obtain ⟨z,its,n,r,e⟩:=I.hok l _ hH
 exact ⟨z,its,n,r,r.length,e⟩
theorem C6 {n:Nat} (h:n<=sizeLine):Builtin.List.listTooLong n=false:=by
 unfold Builtin.List.listTooLong
 exact decide_eq_false (by omega)
end
section
variable {X:Cx}
def Nl:V->List V->Hp->VK->Prop:=λ x vs H Q => ∃ l xs y,x = .ref l/\vs = [y]/\H l=some (.lst xs)/\xs.length < sizeLine/\Q .aH (upd H l (.lst (xs++[y])))
theorem HQ:Vj X "list.append" Nl:=by
 intro pins s σ H x vs v us Q I rx rv h
 obtain ⟨l,xs,y,rfl,rfl,hH,hz,q⟩:=h
 cases rx
 obtain ⟨u,rfl,ru⟩:=rv.one
 obtain ⟨z,its,n,r,hl,e⟩:=I.C5 hH
 refine call_meets F.slot_list_append ⟨_,e,rfl⟩ F.entry_list_append (F.args_list_append_2 _ _) (PySem.list_append l its.toArray n u (by rw [List.size_toArray];omega)) ⟨e,?_⟩
 refine ⟨.aH,_,I.Tn (its':=its++[u]) hH e (by simp) (r.append (.cons ru .nil)) ?_,rfl,q⟩
 rw [List.length_append,List.length_singleton]
 omega
def Nm:V->List V->Hp->VK->Prop:=λ x vs H Q => ∃ l b xs zs,x = .ref l/\vs = [.ref b]/\H l=some (.lst xs)/\H b=some (.lst zs)/\xs.length+zs.length<=sizeLine/\Q .aH (upd H l (.lst (xs++zs)))
theorem Sq:Vj X "list.extend" Nm:=by
 intro pins s σ H x vs v us Q I rx rv h
 obtain ⟨l,b,xs,zs,rfl,rfl,hH,hB,hz,q⟩:=h
 cases rx
 obtain ⟨u,rfl,ru⟩:=rv.one
 cases ru
 obtain ⟨z,its,n,r,hl,e⟩:=I.C5 hH
 obtain ⟨z2,its2,n2,r2,hl2,e2⟩:=I.C5 hB
 have hsz:its.toArray.size+its2.toArray.size<=sizeLine:=by rw [List.size_toArray,List.size_toArray];omega
 have Kh : ¬ (!its.toArray.isEmpty && Builtin.List.listTooLong (its.toArray.size+its2.toArray.size))=true:=by
  rw [C6 hsz,Bool.and_false]
  exact Bool.false_ne_true
 refine call_meets F.slot_list_extend ⟨_,e,rfl⟩ F.entry_list_extend (F.args_list_extend_2 _ _)
  (AutoSeq1.list_extend_list_list_0 l its.toArray n b its2.toArray n2 Kh (by rw [List.size_toArray];omega) (by omega)) ⟨e,e2,?_⟩
 refine ⟨.aH,_,I.Tn (its':=its++its2) hH e (by simp) (r.append r2) ?_,rfl,q⟩
 rw [List.length_append]
 omega
def QK:R2:=λ x y H Q => ∃ l b xs zs,x = .ref l/\y = .ref b/\H l=some (.lst xs)/\H b=some (.lst zs)/\xs.length+zs.length<=sizeLine ∧ ∀ p,H p=none->Q (.ref p) (upd H p (.lst (xs++zs)))
theorem Kl:ql X (binaryOp .Add) QK:=by
 intro pins s σ H x y v u Q I rx ry h
 obtain ⟨l,b,xs,zs,rfl,rfl,hH,hB,hz,q⟩:=h
 cases rx
 cases ry
 obtain ⟨z,its,n,r,hl,e⟩:=I.C5 hH
 obtain ⟨z2,its2,n2,r2,hl2,e2⟩:=I.C5 hB
 refine PySem.P.add_list e e2 ?_ (by rw [List.size_toArray,List.size_toArray];omega)
 have ea:its.toArray++its2.toArray=(its++its2).toArray:=by simp
 rw [ea]
 exact ⟨.ref _,_,I.To (t':=s.toks) (r.append r2) (by rw [List.length_append];omega),rfl,q _ I.fresh⟩
def Tp:R2:=λ x y H Q => ∃ l k xs,x = .ref l/\y = .int k/\H l=some (.lst xs) ∧ -(2 ^ 63)<=k/\k < 2 ^ 63/\xs.length * k.toNat<=sizeLine ∧
 ∀ p,H p=none->Q (.ref p) (upd H p (.lst (List.replicate k.toNat xs).flatten))
theorem len_rep {α : Type} (xs:List α) (k:Nat):(List.replicate k xs).flatten.length=k * xs.length:=by
 induction k with
 | zero=>simp
 | succ k ih=>rw [List.replicate_succ,List.flatten_cons,List.length_append,ih,Nat.succ_mul,Nat.add_comm]
theorem kN:ql X (binaryOp .Mult) Tp:=by
 intro pins s σ H x y v u Q I rx ry h
 obtain ⟨l,k,xs,rfl,rfl,hH,h1,h2,hz,q⟩:=h
 cases rx
 obtain ⟨t,rfl⟩:=ry
 obtain ⟨z,its,n,r,hl,e⟩:=I.C5 hH
 have hlen:its.toArray.size * k.toNat<=sizeLine:=by rw [List.size_toArray,<-hl];exact hz
 have hcap : ¬ its.toArray.size * k.toNat > (2 ^ 63 - 1) / 8:=by
  have:(sizeLine:Nat)<=(2 ^ 63 - 1) / 8:=by decide
  omega
 have hfit : ¬ (!Builtin.List.listFitsIndex k)=true:=by
  rw [fitsIndex_both h1 h2]
  exact Bool.false_ne_true
 have Kh : ¬ Builtin.List.listTooLong (its.toArray.size * k.toNat)=true:=by
  rw [C6 hlen]
  exact Bool.false_ne_true
 have hnew:List.foldl (λ x1 x2=>x1++x2) #[] (List.replicate (if its.toArray.isEmpty=true then 0 else k.toNat) its.toArray)=(List.replicate k.toNat its).flatten.toArray:=by
  have f0 : ∀ m:Nat,List.foldl (λ x1 x2=>x1++x2) #[] (List.replicate m its.toArray)=(List.replicate m its).flatten.toArray:=λ m=>by
   have:=foldl_rep its m []
   rw [List.nil_append] at this
   exact this
  rw [f0]
  cases its with
  | nil=>simp
  | cons a r'=>rw [if_neg (by simp)]
 refine wpAny_binaryOp_repeat_ref (T := "list") (U := "int") (by decide) ⟨_,e,rfl⟩ (λ s'=>typeIs_int s' k t) noFill_list_mul F.fills_int_mul F.slot_int_rmul repeat_list F.slot_int_index.lookup
  (call_meets F.slot_int_rmul (typeIs_int s k t) F.entry_int_rmul (F.args_int_rmul_2 _ _) (int___rmul___int_list k t l its.toArray n)
   ⟨e,rfl,⟨_,e,rfl⟩,call_meets F.slot_list_mul ⟨_,e,rfl⟩ F.entry_list_mul (F.args_list_mul_2 _ _) (AutoListH.list___mul___list_int_3 l its.toArray n k t hfit hcap Kh) ⟨e,?_⟩⟩)
 rw [hnew]
 exact ⟨.ref _,_,I.To (t':=s.toks) (r.rep k.toNat) (by rw [len_rep,Nat.mul_comm];exact hz),rfl,q _ I.fresh⟩
end
section
variable {prog:Program} {w:World} {A:Around} {E:Value->Shared->Prop} {s:Shared}
end
section
variable {X:Cx}
end
end L2
namespace Vk
open PySem PySem.W PySem.Calls PyProof.Rows
theorem sU {P:Params} {h:Heap} : ∀ (ns:List Int) (vs:List Value),WellAll P h vs (ns.map WData.int)->IntsAre vs ns:=by
 intro ns
 induction ns with
 | nil =>
   intro vs w
   rw [List.map_nil] at w
   cases w
   exact .nil
 | cons n ns ih =>
   intro vs w
   rw [List.map_cons] at w
   cases w with
   | cons a b =>
     cases a
     exact .cons _ _ (ih _ b)
theorem HR {l:OpenLaw} {n:Nat} (hn:l.most=some n) {P:Params} {h:Heap} {args:List WData} {vals:List Value}
  (hpre:l.row.toRowW.claim.pre args=true) (hwl:WellAll P h vals args) :
  ∃ a vs ns,vals = [Value.ref a]/\args = [WData.list (ns.map WData.int)]/\h.get? a=some { cls := .type "list",data := .seq vs.toArray } ∧ IntsAre vs ns/\ns.length<=n:=by
 have hsh:WShape.hasAll [] args [.list .int]=true:=(pre_splitW hpre).1
 have hc:l.pre.holds [] { args:=args } = true:=(pre_splitW hpre).2
 obtain ⟨d,r,rfl,h1,h2⟩:=hasAllW_cons hsh
 obtain rfl:=hasAllW_nil h2
 obtain ⟨xs,rfl,h3⟩:=hasW_list h1
 obtain ⟨ns,rfl⟩:=items_int h3
 have hlen:ns.length<=n:=by
  unfold OpenLaw.pre at hc
  have h4:(WTm.not (.lt (.lit (.int (n:Int))) (.len (.arg 0)))).holds [] { args:=[.list (ns.map .int)] } = true:=by
   have h4:=(holds_andW hc).1
   rw [hn] at h4
   exact h4
  have h5:=condW_of h4 (w_not (w_lt w_lit (w_len_list (w_arg rfl))))
  rw [List.length_map] at h5
  refine Nat.le_of_not_lt λ q => ?_
  have q':(n:Int) < ((ns.length:Nat):Int):=by omega
  first
   | (rw [decide_eq_true q'] at h5;exact absurd h5 (by decide))
   | (simp at h5;omega)
 cases hwl with
 | cons w1 w2 =>
   cases w2
   cases w1 with
   | list ho hall=>exact ⟨_,_,ns,rfl,rfl,ho,sU ns _ hall,hlen⟩
theorem HS (l:OpenLaw) (args:List WData):l.row.toRowW.claim.post args (.bool true) args=true :=
 postW_of (r:=l.row.toRowW) (X:=(true == true))
  (show WShape.has [] (.bool true) .bool=true by first | rfl | decide | simp [WShape.has,WShape.arms,WShape.armsAll])
  (show (WTm.eq .res (.lit (.bool true))).value [] { args:=args,res:=some (.bool true),after:=args } = some (.bool (true == true)) from w_eq_bool (w_res rfl) w_lit) rfl
section
variable {prog:Program} {w:World} {A:Around} {E:Value->Shared->Prop} {s:Shared} {K:Frag}
def ledger (h:Heap) (L d:Addr):List (Addr×Obj):=(List.range h.objs.size).filterMap λ a=>if a=L\/a=d then none else (h.get? a).map λ o=>(a,o)
end
end Vk
namespace L2
open PySem PySem.Spec PyProof.Rows
theorem AB : ∀ {vs:List Value} {ns:List Int},IntsAre vs ns->Vals (ns.map V.int) vs
 | _,_,.nil => .nil
 | _,_,.cons n t h => .cons ⟨t,rfl⟩ (AB h)
def Nn (H:Hp):Prop := ∀ b,H b=none ∨ ∃ o xs,H b=some (.CJ o (.lst xs))
theorem Km {P:Program} {w:World} {K:PySem.W.Frag} {mg mb:Str->Option Value} {CX:HJ} {k:Nat} {fa a:Addr} {fd:FuncData} {x:Str} {sp:Sp} {s₁ : Shared} {vs:List Value} {ns:List Int}
  (KX:K.In s₁.heap) (hns:s₁.heap.Ns mainGlobals mg) (hb:s₁.heap.Ns builtinsNs mb) (Tq : ∀ x:Str,x ≠ "__name__"->mb x=bootBuiltins x) (hlim:s₁.heap.NoLimit) (hg:s₁.gens = #[])
  (ha:s₁.heap.get? a=some { cls := .type "list",data := .seq vs.toArray }) (hi:IntsAre vs ns) (hl:ns.length<=sizeLine) (hr:c6 k callerA)
  (F : ∀ base:Heap,K.In base->base.Ns mainGlobals mg->gj P w K mg base CX k fa fd [x] sp) (hbind : ∀ (s:Shared) (u:Value),BindsTo s fd ⟨[u],[]⟩ [(x,u)])
  (Ek : ∀ H:Hp,Nn H->eY K H a (ns.map V.int)->sp [.ref a] H (λ v _=>v = .bl true) λ _ _ _=>False)
  (hCX : ∀ H e s',CX [] H s₁ (λ _ _ _=>False) e s'->False) :
  codeAny (model P w) callerA (.call (.ref fa) ⟨[.ref a],[]⟩) (λ r s'=>r = .ok (.ret (.bool true))/\OldK s₁.heap s'.heap/\s'.os=s₁.os/\AllBare s'.gens) s₁ := by
 have rv:=AB hi
 have Wq:=hi.length
 -- from an abstract heap in which nothing but MM script may be tracked
 have core : ∀ H:Hp,Nn H->eY K H a (ns.map V.int)->j6 P w H s₁.heap->(∀ b,H b≠none->b=a)->(H a≠none->K.lookup a=none) →
   codeAny (model P w) callerA (.call (.ref fa) ⟨[.ref a],[]⟩) (λ r s'=>r = .ok (.ret (.bool true))/\OldK s₁.heap s'.heap/\s'.os=s₁.os/\AllBare s'.gens) s₁ := by
  intro H hO hS hok hA hK
  have GO : ∀ {b:Addr} {o:Obj},s₁.heap.get? b=some o->H b=none->(A3 s₁.heap H).get? b=some o:=λ e n=>JL e n
  have Tc : ∀ {b:Addr} {o:Obj} {es:Array DictEntry} {ep:Nat},s₁.heap.get? b=some o->o.data = .dict es ep->H b=none:=fun {b o es ep} e d=>by
   cases q:H b with
   | none=>rfl
   | some u =>
     have e':b=a:=hA b (by rw [q];simp)
     subst e'
     rw [ha] at e;cases e
     have d':Data.seq vs.toArray _=Data.dict es ep:=d
     cases d'
  have Vl : ∀ {b:Addr} {m:Str->Option Value},s₁.heap.Ns b m->(A3 s₁.heap H).Ns b m:=fun {b m} ⟨o,es,ep,e,d,r⟩=>⟨o,es,ep,GO e (Tc e d),d,r⟩
  have hKb:K.In (A3 s₁.heap H):=λ b o e=>GO (KX b o e) (by
   cases q:H b with
   | none=>rfl
   | some u =>
     have e':b=a:=hA b (by rw [q];simp)
     subst e'
     rw [hK (by rw [q];simp)] at e;cases e)
  have hM:Mod K mg (A3 s₁.heap H):=⟨hKb,Vl hns,⟨mb,Vl hb,Tq⟩,let ⟨mc,h1,h2⟩:=hlim; ⟨mc,Vl h1,h2⟩⟩
  have e0:EB P w K mg (A3 s₁.heap H) callerA [] s₁ H:=⟨rfl,hM,λ b o e=>MX e,Nat.le_of_eq (HA _ _),trivial,λ b hb=>absurd (show b∈([]:List Addr) from hb) (by simp),hok,.of_eq hg⟩
  refine codeAny_mono ((F _ hKb (Vl hns)).run callerA [] s₁ H ⟨[.ref a],[]⟩ [.ref a] [.ref a] _ _ hr e0 (hbind s₁ (.ref a)) (.cons rfl .nil) (Ek H hO hS)) λ r s' h => ?_
  cases r with
  | error e=>exact (hCX H e s' h).elim
  | ok fl =>
    cases fl with
    | next=>exact False.elim h
    | brk=>exact False.elim h
    | cont=>exact False.elim h
    | ret u =>
      obtain ⟨v,H',os,bare,un,Wr,r',q⟩:=h
      have q':v = .bl true:=q
      subst q'
      obtain rfl:u=Value.bool true:=r'
      refine ⟨rfl,OldK.of_keep λ b o e => ?_,os,bare⟩
      cases q:H b with
      | none=>exact un.keep b o e q (by intro z;exact absurd (show b∈([]:List Addr) from z) (by simp)) (by simp)
      | some u =>
        rcases hO b with z | ⟨ob,xs,z⟩
        ·rw [q] at z;cases z
        ·have z2:=un.j7 b ob _ z
         obtain ⟨e1,_⟩:=hok b _ z
         obtain ⟨e2,_⟩:=Wr b _ z2
         rw [e] at e1;cases e1
         exact e2
 cases hk:K.lookup a with
 | some o =>
   -- MM script is one of MM Kg own objects
   have e:=KX a o hk
   rw [ha] at e
   cases e
   refine core (λ _=>none) (λ _ => .inl rfl) (.inr ⟨_,vs.toArray,_,hk,rfl,rfl,rfl,by rw [List.size_toArray,Wq];exact hl,by simpa using rv⟩) (λ b u z=>by have z':(none:Option HO)=some u:=z;cases z') (λ b z=>absurd rfl z) λ z=>absurd rfl z
 | none =>
   refine core (λ b=>if b=a then some (.CJ { cls := .type "list",data := .seq vs.toArray } (.lst (ns.map V.int))) else none) (λ b => ?_) (.inl (.inr ⟨{ cls := .type "list",data := .seq vs.toArray },if_pos rfl⟩)) (λ b u z => ?_) (λ b z => ?_) λ _=>hk
   ·by_cases hb:b=a
    ·exact .inr ⟨_,_,if_pos hb⟩
    ·exact .inl (if_neg hb)
   ·by_cases hb:b=a
    ·have z':=(if_pos hb).symm.trans z
     cases z'
     subst hb
     exact ⟨ha,by rw [List.length_map];exact hl,vs,_,rv,ha⟩
    ·have z':=(if_neg hb).symm.trans z
     cases z'
   ·by_cases hb:b=a
    ·exact hb
    ·exact absurd (if_neg hb) z
end L2
namespace L2
open PySem PySem.Spec PyProof.Rows
abbrev KOf {K:PySem.W.Frag} {h:Heap} (_:K.In h):PySem.W.Frag:=K
end L2
/- THE afs Vm (shape; LID,My.* are afc):
   My.Adr: a structure of MM addresses aft afu afd names (classes,Ss); My.Txt K t: a structure (Prop) of MM equations over K;
   My.EI : {K} {implicit addresses ..} (e1:nsIn K mainGlobals "law" = some (some (.ref f))) (e2:K.lookup f=some ⟨oc,od,.func (fnOf "law" "law" params body scope dV kV doc pm an cdv ct),sl⟩) (e3:codeIn K cdv "law" = true) .. : ∃ t,My.Txt K t
set_option maxRecDepth 100000 in
set_option maxHeartbeats 0 in
theorem PySem.Challenge.cw_LID_holds : PySem.Challenge.rw_LID.Holds := by
 w_on;o_law;k_head; (case hw=>w_witness2)
 k_fill
 refine L2.Vn (l := PySem.Challenge.rw_LID) (n := 63) (k := 40) (x := "script") (CX := fun w => ..) (sp := fun _ => My.Ws) rfl (by decide) rfl ⟨rfl, by decide, by decide⟩ (fun w h Y => PySem.W.kIn_of Y) ?F ?S ?C
 case F =>
  intro w mg fa h KX G hmg
  have T : ∃ t,My.Txt (L2.KOf KX) t:=by
   dsimp only [L2.KOf]                          -- K afv stand as «<heap const> w.params» for k_is
   refine' My.EI ?e1 ?e2 ?e3 ..
   (case e1=>PySem.W.k_is)                    -- in MM order: a name -> its address -> its object -> its parts
   (case e2=>PySem.W.k_is)
   ..
  obtain ⟨t,T⟩:=T
  have e0:=hmg.symm.trans (PySem.W.mg_of KX G T.law)
  cases e0                                       -- fa is MM afe own address
  exact ⟨_,λ s u => .of_eq rfl,λ base kb nb=>My.QL T kb nb⟩     -- if «.of_eq rfl» comes too early: refine' ⟨_,?b,λ base kb nb=>My.QL T kb nb⟩;exact λ s u => .of_eq rfl
 case S=>exact λ w H a ns hl hO hS => ..
 case C=>exact ..
(MM tactic k_is has no namespace: write k_is) -/
namespace L2
open PySem PySem.Spec PyProof.Rows
def inClass (s:Stmt) (j:Nat):Stmt:=match s with
 | .ClassDef _ _ _ body _ _ _ _ _ _ _=>body.getD j (.Pass ⟨0,0,0,0⟩)
 | _ => .Pass ⟨0,0,0,0⟩
def aA (s:Stmt):Arguments:=match s with
 | .FunctionDef _ a _ _ _ _ _ _ _ _=>a
 | _ => { posonlyargs:=[],args:=[],vararg:=none,kwonlyargs:=[],kw_defaults:=[],kwarg:=none,defaults:=[] }
def av (s:Stmt):List Stmt:=match s with
 | .FunctionDef _ _ b _ _ _ _ _ _ _=>b
 | _=>[]
def af (s:Stmt):Scope:=match s with
 | .FunctionDef _ _ _ _ _ _ sc _ _ _=>sc
 | _ => { kind := .function,names:=[],isGenerator:=false,isCoroutine:=false }
abbrev CX0:HJ:=λ _ _ _ _ _ _=>False
abbrev E0:XK:=λ _ _ _=>False
structure HU (K:PySem.W.Frag) (x qual:Str) (st:Stmt) (f:Addr) (fd:FuncData):Prop where
 ex : ∃ (oc:Value) (od:Option Addr) (kV doc pm:Value) (an:Option Addr) (cdv ct:Value) (osl:Array (Option Value)),
  fd=PySem.W.fnOf x qual (aA st) (av st) (af st) .none kV doc pm an cdv ct/\K.lookup f=some ⟨oc,od,.func fd,osl⟩/\PySem.W.codeIn K cdv qual=true
 kp:PySem.W.keepIn K (.ref f)=true
section
variable {P:Program} {w:World} {K:PySem.W.Frag} {mg:Str->Option Value} {base:Heap}
theorem HU.ok {x qual:Str} {st:Stmt} {f:Addr} {fd:FuncData} {N ps:List Str} {k:Nat} {sp:Sp} (F:HU K x qual st f fd) (S:aC N ps (af st)) (len : ∀ vs H Q E,sp vs H Q E->vs.length=ps.length)
  (hbody : ∀ (cdv:Value) (A:Around) (outer:List Env) (s:Shared) (H:Hp) (vs:List V) (Q:VK) (E:XK),c6 k (A.deeper (envOfC qual (af st) s.heap.objs.size f cdv))->sp vs H Q E →
   ∃ t,A5 (uZ CX0 P w K mg base N qual (af st) f cdv A outer s H E).Ej (av st) t/\t { nx:=λ _ H'=>Q .aH H',rt:=Q } (start N vs) H):gj P w K mg base CX0 (k+1) f fd ps sp:=by
 obtain ⟨oc,od,kV,doc,pm,an,cdv,ct,osl,rfl,lk,hcd⟩:=F.ex
 refine Ax lk hcd S len λ A outer s H vs Q E hr Ek => ?_
 obtain ⟨t,h,q⟩:=hbody cdv A outer s H vs Q E hr Ek
 exact ⟨t,h.Ej,q⟩
theorem HU.binds {x qual:Str} {st:Stmt} {f:Addr} {fd:FuncData} {ps:List Str} (F:HU K x qual st f fd)
  (h : ∀ (kV doc pm:Value) (an:Option Addr) (cdv ct:Value) (us:List Value),us.length=ps.length->bindArgs (PySem.W.fnOf x qual (aA st) (av st) (af st) .none kV doc pm an cdv ct) ⟨us,[]⟩ = pure (ps.zip us)):Binds K fd ps []:=by
 obtain ⟨oc,od,kV,doc,pm,an,cdv,ct,osl,rfl,lk,hcd⟩:=F.ex
 exact .all (h kV doc pm an cdv ct)
theorem EJ {x qual:Str} {st:Stmt} {f:Addr} {oc:Value} {od an:Option Addr} {osl:Array (Option Value)} {kV doc pm cdv ct:Value} (l:K.lookup f=some ⟨oc,od,.func (PySem.W.fnOf x qual (aA st) (av st) (af st) .none kV doc pm an cdv ct),osl⟩)
  (c:PySem.W.codeIn K cdv qual=true) (k:PySem.W.keepIn K (.ref f)=true):HU K x qual st f (PySem.W.fnOf x qual (aA st) (av st) (af st) .none kV doc pm an cdv ct):=⟨⟨oc,od,kV,doc,pm,an,cdv,ct,osl,rfl,l,c⟩,k⟩
end
section
variable {X:Cx}
theorem pv (i:Nat) {x:Str} {pos:Pos} (hN:X.N[i]? = some x:=by rfl) (hv:Qe X.env.scope x:=by first | exact Or.inl rfl | exact Or.inr (Or.inl rfl) | exact Or.inr (Or.inr rfl)) (hd:(x == ("__debug__" : Str))=false:=by decide)
  (hcd:(x == ("__classdict__" : Str))=false:=by decide):PE X (.Name x pos) (HC i):=Er hN hv hd hcd
theorem ao (i:Nat) {x:Str} {pos:Pos} (h:X.N[i]? = some x/\Qe X.env.scope x/\(x == ("__debug__" : Str))=false/\(x == ("__classdict__" : Str))=false):PE X (.Name x pos) (HC i):=Er h.1 h.2.1 h.2.2.1 h.2.2.2
theorem HV:kI X (.builtin "len") (λ xs H Q => ∃ a kvs,xs = [V.ref a]/\H a=some (.dK kvs)/\Q (.int kvs.length) H):=by
 intro pins s σ H xs us Q I r h
 obtain ⟨a,kvs,rfl,ha,q⟩:=h
 obtain ⟨u,rfl,ru⟩:=vals1 r
 cases ru
 exact Tf I (.inl ha) λ t s' I'=>⟨.int kvs.length,H,I',⟨t,rfl⟩,q⟩
end
theorem Tr {A B:Prop} (h:B):if false=true then A else B:=by
 rw [if_neg Bool.false_ne_true]
 exact h
theorem Tt {A B:Prop} (h:A):if true=true then A else B:=by
 rw [if_pos rfl]
 exact h
theorem Wt {c A B:Prop} [Decidable c] (h1:c->A) (h2 : ¬ c->B):if c then A else B:=by
 by_cases h:c
 ·rw [if_pos h]
  exact h1 h
 ·rw [if_neg h]
  exact h2 h
def j8 (H H':Hp):Prop := ∀ b o,H b=some o->H' b=some o
theorem j8.trans {H H1 H2:Hp} (a:j8 H H1) (b:j8 H1 H2):j8 H H2:=λ c o h=>b c o (a c o h)
theorem j8.free {H H':Hp} (e:j8 H H') {l:Addr} (h:H' l=Option.none):H l=Option.none:=by
 cases q:H l with
 | none=>rfl
 | some o =>
   rw [e l o q] at h
   cases h
theorem j8.seq {K:PySem.W.Frag} {H H':Hp} {a:Addr} {xs:List V} (e:j8 H H') (h:eY K H a xs):eY K H' a xs:=by
 rcases h with (h | ⟨o,h⟩) | h
 ·exact .inl (.inl (e _ _ h))
 ·exact .inl (.inr ⟨o,e _ _ h⟩)
 ·exact .inr h
section
variable {κ : Type} [DecidableEq κ]
theorem C7 {kvs:List (κ × V)} {k : κ} (h:bx kvs k=none) : ¬ k∈kvs.map (·.1):=by
 intro m
 obtain ⟨p,hp,e⟩:=List.mem_map.mp m
 have q:(kvs.any λ kv=>decide (kv.1=k))=true:=List.any_eq_true.mpr ⟨p,hp,decide_eq_true e⟩
 rw [c7,h] at q
 exact absurd q (by simp)
theorem Np {kvs:List (κ × V)} {k : κ} {v:V} (h:bx kvs k=some v):k∈kvs.map (·.1):=by
 have q:(kvs.any λ kv=>decide (kv.1=k))=true:=by
  rw [c7,h]
  all_goals rfl
 obtain ⟨p,hp,e⟩:=List.any_eq_true.mp q
 exact List.mem_map.mpr ⟨p,hp,of_decide_eq_true e⟩
theorem GP : ∀ {l:List κ} {k : κ},l.Nodup->¬ k∈l->(l++[k]).Nodup
 | [],k,_,_=>by simp
 | a::r,k,h,hk=>by
   obtain ⟨h1,h2⟩:=List.nodup_cons.mp h
   show (a::(r++[k])).Nodup
   refine List.nodup_cons.mpr ⟨λ m => ?_,GP h2 λ m=>hk (List.mem_cons.mpr (Or.inr m))⟩
   rcases List.mem_append.mp m with q | q
   ·exact h1 q
   ·exact hk (List.mem_cons.mpr (Or.inl (List.mem_singleton.mp q).symm))
theorem Nq {kvs:List (κ × V)} {k : κ} (v:V) (hn:(kvs.map (·.1)).Nodup) (h:bx kvs k=none):((putK kvs k v).map (·.1)).Nodup:=by
 rw [C1 v h,List.map_append]
 exact GP hn (C7 h)
theorem AD {p : κ × V} {r:List (κ × V)} {k : κ} (e:p.1=k):dG (p::r) k=dG r k:=by
 unfold dG
 rw [List.filter_cons,if_neg (by simp [e])]
theorem AE {p : κ × V} {r:List (κ × V)} {k : κ} (e : ¬ p.1=k):dG (p::r) k=p::dG r k:=by
 unfold dG
 rw [List.filter_cons,if_pos (by simp [e])]
theorem AF {kvs:List (κ × V)} {k : κ} {p : κ × V} (h:p∈dG kvs k):p∈kvs:=(List.mem_filter.mp h).1
theorem vc : ∀ {kvs:List (κ × V)} {k : κ},(kvs.map (·.1)).Nodup->((dG kvs k).map (·.1)).Nodup
 | [],_,_=>List.nodup_nil
 | p::r,k,h=>by
   have h:(p.1::r.map (·.1)).Nodup:=h
   obtain ⟨h1,h2⟩:=List.nodup_cons.mp h
   by_cases e:p.1=k
   ·rw [AD e]
    exact vc h2
   ·rw [AE e]
    show (p.1::(dG r k).map (·.1)).Nodup
    refine List.nodup_cons.mpr ⟨λ m=>h1 ?_,vc h2⟩
    obtain ⟨q,hq,eq⟩:=List.mem_map.mp m
    exact List.mem_map.mpr ⟨q,AF hq,eq⟩
end
end L2
namespace L2
open PySem PySem.Spec PyProof.Rows
structure O5 (P:Program) (w:World) (l:List Env) (H:Hp) (h0:Heap) (H':Hp) (h:Heap) (ea:Addr) (cls:Value):Prop where
 un:Un (frs l) [] H H' h0 h
 hok:j6 P w H' h
 new:h0.get? ea=none
 fly : ∃ B a0,Heap.FlyingW B l ea cls a0 h/\(∀ b u o,H' b=some u->h.get? b=some o->B.get? b=some o) ∧ ∀ b o o',h0.get? b=some o->h.get? b=some o'->b ∉ frs l->B.get? b=some o'
def yb (P:Program) (w:World):HJ:=λ outer H s E e s' => ∃ (H':Hp) (ea:Addr) (cls:Value),e = .ref ea/\s'.os=s.os/\AllBare s'.gens/\O5 P w outer H s.heap H' s'.heap ea cls/\E cls none H'
theorem az {P:Program} {w:World} {X:Cx} : Passes (yb P w) X E0:=λ _ _ _ _ _ _ _ ⟨_,_,_,_,_,_,_,h⟩=>h.elim
def Def (K:PySem.W.Frag) (mg:Str->Option Value) (x:Str) (st:Stmt):Prop := ∃ f fd,mg x=some (.ref f)/\HU K x x st f fd
structure cZ (P:Program) (w:World) (K:PySem.W.Frag) (mg:Str->Option Value) (base:Heap) (k:Nat) (x:Str) (ps:List Str) (sp:Sp):Prop where
 ex : ∃ f fd,mg x=some (.ref f)/\PySem.W.keepIn K (.ref f)=true/\Binds K fd ps []/\gj P w K mg base (yb P w) k f fd ps sp
theorem cZ.mono {P:Program} {w:World} {K:PySem.W.Frag} {mg:Str->Option Value} {base:Heap} {j k:Nat} {x:Str} {ps:List Str} {sp:Sp} (F:cZ P w K mg base j x ps sp) (h:j<=k):cZ P w K mg base k x ps sp:=by
 obtain ⟨f,fd,h1,h2,h3,h4⟩:=F.ex
 exact ⟨f,fd,h1,h2,h3,h4.mono h⟩
section
variable {P:Program} {w:World} {K:PySem.W.Frag} {mg:Str->Option Value} {base:Heap}
theorem HU.okN {x qual:Str} {st:Stmt} {f:Addr} {fd:FuncData} {N ps:List Str} {k:Nat} {sp:Sp} (F:HU K x qual st f fd) (S:aC N ps (af st)) (len : ∀ vs H Q E,sp vs H Q E->vs.length=ps.length)
  (hbody : ∀ (cdv:Value) (A:Around) (outer:List Env) (s:Shared) (H:Hp) (vs:List V) (Q:VK) (E:XK),c6 k (A.deeper (envOfC qual (af st) s.heap.objs.size f cdv))->sp vs H Q E →
   ∃ t,A5 (uZ (yb P w) P w K mg base N qual (af st) f cdv A outer s H E).Ej (av st) t/\t { nx:=λ _ H'=>Q .aH H',rt:=Q } (start N vs) H):gj P w K mg base (yb P w) (k+1) f fd ps sp:=by
 obtain ⟨oc,od,kV,doc,pm,an,cdv,ct,osl,rfl,lk,hcd⟩:=F.ex
 refine Ax lk hcd S len λ A outer s H vs Q E hr Ek => ?_
 obtain ⟨t,h,q⟩:=hbody cdv A outer s H vs Q E hr Ek
 exact ⟨t,h.Ej,q⟩
theorem Def.ok {x:Str} {st:Stmt} {N ps:List Str} {k:Nat} {sp:Sp} (D:Def K mg x st) (S:aC N ps (af st)) (len : ∀ vs H Q E,sp vs H Q E->vs.length=ps.length)
  (hb : ∀ (kV doc pm:Value) (an:Option Addr) (cdv ct:Value) (us:List Value),us.length=ps.length->bindArgs (PySem.W.fnOf x x (aA st) (av st) (af st) .none kV doc pm an cdv ct) ⟨us,[]⟩ = pure (ps.zip us))
  (hbody : ∀ (f:Addr) (cdv:Value) (A:Around) (outer:List Env) (s:Shared) (H:Hp) (vs:List V) (Q:VK) (E:XK),c6 k (A.deeper (envOfC x (af st) s.heap.objs.size f cdv))->sp vs H Q E →
   ∃ t,A5 (uZ (yb P w) P w K mg base N x (af st) f cdv A outer s H E).Ej (av st) t/\t { nx:=λ _ H'=>Q .aH H',rt:=Q } (start N vs) H):cZ P w K mg base (k+1) x ps sp:=by
 obtain ⟨f,fd,hm,F⟩:=D
 refine ⟨f,fd,hm,F.kp,F.binds hb,?_⟩
 obtain ⟨oc,od,kV,doc,pm,an,cdv,ct,osl,rfl,lk,hcd⟩:=F.ex
 refine Ax lk hcd S len λ A outer s H vs Q E hr Ek => ?_
 obtain ⟨t,h,q⟩:=hbody f cdv A outer s H vs Q E hr Ek
 exact ⟨t,h.Ej,q⟩
end
section
variable {X:Cx} {k:Nat} {ps:List Str} {sp:Sp} {E:XK} {x:Str} {p pos:Pos} {e:Expr} {es:List Expr} {t:TA}
theorem aB (F:cZ X.prog X.w X.K X.mg X.base k x ps sp) (hr:c6 k X.A) (hg:Gl X x) (hx:Passes (yb X.prog X.w) X E) (ha:PA X (e::es) t)
  (hdb:(x == ("__debug__" : Str))=false:=by decide) (he:starEach (e::es) X.env=(false,eval e X.env)::starEach es X.env:=by rfl) (hpl:(backTo pos (starEach es X.env)).any (·.1)=false:=by rfl) :
  PE X (.Call (.Name x p) (e::es) [] pos) (GJ sp [] E t):=by
 obtain ⟨f,fd,h1,h2,h3,h4⟩:=F.ex
 exact Nb h4 hr hg h1 h2 h3 .nil hx ha hdb he hpl
end
section
variable {X:Cx}
def Wu (K:PySem.W.Frag):List V->Hp->VK->Prop:=λ xs H Q => ∃ x c t b,xs = [x,c]/\oQ K H x t/\((∃ n,c = .ty n/\PySem.W.kitOne K t (.type n)=some b) ∨ ∃ a,c = .ref a/\PySem.W.kitOne K t (.ref a)=some b)/\Q (.bl b) H
theorem Kn:kI X (.builtin "isinstance") (Wu X.K):=by
 intro pins s σ H xs us Q I r h
 obtain ⟨x,c,t,b,rfl,ty,hc,q⟩:=h
 obtain ⟨u,v,rfl,ru,rv⟩:=Vals.two r
 rcases hc with ⟨n,rfl,e⟩ | ⟨a,rfl,e⟩
 ·cases (show v=Value.type n from rv)
  exact Ao I ru ty e λ tk=>⟨.bl b,H,I.tok tk,rfl,q⟩
 ·cases (show v=Value.ref a from rv)
  exact Ao I ru ty e λ tk=>⟨.bl b,H,I.tok tk,rfl,q⟩
end
theorem bw:bootBuiltins "isinstance" = some (.builtin "isinstance"):=by decide +kernel
theorem bR:bootBuiltins "len" = some (.builtin "len"):=by decide +kernel
theorem Ko:bootBuiltins "int" = some (.type "int"):=by decide +kernel
theorem Bf:bootBuiltins "bool" = some (.type "bool"):=by decide +kernel
theorem Kp:bootBuiltins "str" = some (.type "str"):=by decide +kernel
theorem bZ:bootBuiltins "list" = some (.type "list"):=by decide +kernel
theorem C8:bootBuiltins "tuple" = some (.type "tuple"):=by decide +kernel
structure iY (mg:Str->Option Value):Prop where
 isinstance:mg "isinstance" = none
 len:mg "len" = none
 int:mg "int" = none
 bool:mg "bool" = none
 str:mg "str" = none
 list:mg "list" = none
 tuple:mg "tuple" = none
 dict:mg "dict" = none
 range:mg "range" = none
 sorted:mg "sorted" = none
 min:mg "min" = none
 max:mg "max" = none
 all:mg "all" = none
 any:mg "any" = none
 enumerate:mg "enumerate" = none
 sum:mg "sum" = none
 ValueError:mg "ValueError" = none
theorem QM {K:PySem.W.Frag} {h:Heap} {mg:Str->Option Value} (X:K.In h) (G:h.Ns mainGlobals mg)
  (z0:PySem.W.nsIn K mainGlobals "isinstance" = some none)
  (z1:PySem.W.nsIn K mainGlobals "len" = some none)
  (z2:PySem.W.nsIn K mainGlobals "int" = some none)
  (z3:PySem.W.nsIn K mainGlobals "bool" = some none)
  (z4:PySem.W.nsIn K mainGlobals "str" = some none)
  (z5:PySem.W.nsIn K mainGlobals "list" = some none)
  (z6:PySem.W.nsIn K mainGlobals "tuple" = some none)
  (z7:PySem.W.nsIn K mainGlobals "dict" = some none)
  (z8:PySem.W.nsIn K mainGlobals "range" = some none)
  (z9:PySem.W.nsIn K mainGlobals "sorted" = some none)
  (Vo:PySem.W.nsIn K mainGlobals "min" = some none)
  (Vp:PySem.W.nsIn K mainGlobals "max" = some none)
  (Vq:PySem.W.nsIn K mainGlobals "all" = some none)
  (Vr:PySem.W.nsIn K mainGlobals "any" = some none)
  (Vs:PySem.W.nsIn K mainGlobals "enumerate" = some none)
  (Vt:PySem.W.nsIn K mainGlobals "sum" = some none)
  (Vu:PySem.W.nsIn K mainGlobals "ValueError" = some none)
  : iY mg:=⟨PySem.W.mg_none_of X G z0,PySem.W.mg_none_of X G z1,PySem.W.mg_none_of X G z2,PySem.W.mg_none_of X G z3,PySem.W.mg_none_of X G z4,PySem.W.mg_none_of X G z5,PySem.W.mg_none_of X G z6,PySem.W.mg_none_of X G z7,PySem.W.mg_none_of X G z8,PySem.W.mg_none_of X G z9,PySem.W.mg_none_of X G Vo,PySem.W.mg_none_of X G Vp,PySem.W.mg_none_of X G Vq,PySem.W.mg_none_of X G Vr,PySem.W.mg_none_of X G Vs,PySem.W.mg_none_of X G Vt,PySem.W.mg_none_of X G Vu⟩
theorem bK {K:PySem.W.Frag} {h:Heap} {mg:Str->Option Value} {x:Str} {st:Stmt} {f:Addr} {oc:Value} {od an:Option Addr} {osl:Array (Option Value)} {kV doc pm cdv ct:Value} (X:K.In h) (G:h.Ns mainGlobals mg)
  (a:PySem.W.nsIn K mainGlobals x=some (some (.ref f))) (l:K.lookup f=some ⟨oc,od,.func (PySem.W.fnOf x x (aA st) (av st) (af st) .none kV doc pm an cdv ct),osl⟩)
  (c:PySem.W.codeIn K cdv x=true) (k:PySem.W.keepIn K (.ref f)=true):Def K mg x st:=⟨f,_,PySem.W.mg_of X G a,EJ l c k⟩
theorem Tu {P:Program} {w:World} {K:PySem.W.Frag} {mg:Str->Option Value} {st:Stmt} {fa:Addr} {k:Nat} {sp:Sp} {x:Str} (D:Def K mg "law" st) (hmg:mg "law" = some (.ref fa))
  (hb : ∀ (kV doc pm:Value) (an:Option Addr) (cdv ct u:Value),bindArgs (PySem.W.fnOf "law" "law" (aA st) (av st) (af st) .none kV doc pm an cdv ct) ⟨[u],[]⟩ = pure [(x,u)])
  (ok : ∀ (base:Heap) (f:Addr) (fd:FuncData),HU K "law" "law" st f fd->gj P w K mg base (yb P w) k f fd [x] sp) :
  ∃ fd:FuncData,(∀ (s:Shared) (u:Value),BindsTo s fd ⟨[u],[]⟩ [(x,u)]) ∧ ∀ base:Heap,K.In base->base.Ns mainGlobals mg->gj P w K mg base (yb P w) k fa fd [x] sp:=by
 obtain ⟨f,fd,hm,F⟩:=D
 rw [hm] at hmg
 cases hmg
 obtain ⟨oc,od,kV,doc,pm,an,cdv,ct,osl,rfl,lk,hcd⟩:=id F.ex
 exact ⟨_,λ s u => .of_eq (hb kV doc pm an cdv ct u),λ base _ _=>ok base _ _ F⟩
end L2
namespace L2
open PySem PySem.Spec PyProof.Rows
def Is {α : Sort _} (a b : α):Prop:=a=b
theorem Is.eq {α : Sort _} {a b : α} (h:Is a b):a=b:=h
theorem Is.rfl {α : Sort _} {a : α} : Is a a:=Eq.refl a
theorem Wv {t u:TS} {D:Ends} {σ : St} {H:Hp} (h : ∀ M,Is M (u D)->t { D with nx:=M } σ H):JQ t u D σ H:=h _ Is.rfl
def O6 (K:PySem.W.Frag) (a:Addr) (g:TG) (tb:TS) (D:Ends) (σ : St) (H:Hp):Prop :=
 ∃ W:Nat->Nat->St->Hp->Prop,(∃ m,W 0 m σ H) ∧ ∀ i m σ H,W i m σ H →
     ((JF K a).stop i H/\D.nx σ H)\/((JF K a).go i H ∧ ∃ N:St->Hp->Prop,(∀ σ' H',N σ' H'->∃ m',m' < m/\W (i+1) m' σ' H') ∧ ∀ x H',(JF K a).M7 i H x H'->g x σ H' fun σ2 H2=>tb { D with nx:=N,ct:=N,bk:=D.nx } σ2 H2)
theorem forL {K:PySem.W.Frag} {tl:TE} {g:TG} {tb:TS} {D:Ends} {σ : St} {H:Hp}
  (h : ∀ L,Is L (λ a H1=>O6 K a g tb D σ H1)->tl σ H λ x H1 => ∃ a,x = .ref a/\(∃ xs,eY K H1 a xs)/\L a H1):Qn (JV K tl) g tb D σ H:=h _ Is.rfl
theorem O7 {K:PySem.W.Frag} {a:Addr} {g:TG} {tb:TS} {D:Ends} {σ : St} {H:Hp} (xs:List V) (Pv:Nat->St->Hp->Prop) (h0:Pv 0 σ H) (hl : ∀ i σ H,i<=xs.length->Pv i σ H->eY K H a xs)
  (hs : ∀ i x σ H,xs[i]? = some x->Pv i σ H->g x σ H fun σ2 H2=>tb { D with nx:=Pv (i+1),ct:=Pv (i+1),bk:=D.nx } σ2 H2) (hd : ∀ σ H,Pv xs.length σ H->D.nx σ H):O6 K a g tb D σ H:=JY Pv h0 hl hs hd
def O8 (lo:Int) (n:Nat) (g:TG) (tb:TS) (D:Ends) (σ : St) (H:Hp):Prop :=
 ∃ W:Nat->Nat->St->Hp->Prop,(∃ m,W 0 m σ H) ∧ ∀ i m σ H,W i m σ H →
     ((GC lo n).stop i H/\D.nx σ H)\/((GC lo n).go i H ∧ ∃ N:St->Hp->Prop,(∀ σ' H',N σ' H'->∃ m',m' < m/\W (i+1) m' σ' H') ∧ ∀ x H',(GC lo n).M7 i H x H'->g x σ H' fun σ2 H2=>tb { D with nx:=N,ct:=N,bk:=D.nx } σ2 H2)
theorem sE {ta:TA} {g:TG} {tb:TS} {D:Ends} {σ : St} {H:Hp}
  (h : ∀ L,Is L (λ n H1=>O8 0 n g tb D σ H1)->ta σ H λ vs H1 => ∃ j:Int,vs = [.int j] ∧ -(2 ^ 62)<=j/\j < 2 ^ 62/\L j.toNat H1):Qn (JX ta) g tb D σ H:=h _ Is.rfl
theorem sF {lo:Int} {n:Nat} {g:TG} {tb:TS} {D:Ends} {σ : St} {H:Hp} (Pv:Nat->St->Hp->Prop) (h0:Pv 0 σ H)
  (hs : ∀ i σ H,i < n->Pv i σ H->g (.int (lo+i)) σ H fun σ2 H2=>tb { D with nx:=Pv (i+1),ct:=Pv (i+1),bk:=D.nx } σ2 H2) (hd : ∀ σ H,Pv n σ H->D.nx σ H):O8 lo n g tb D σ H:=HF Pv h0 hs hd
theorem Tv {c:Prop} [Decidable c] {A B:Prop} (h1:c->A) (h2 : ¬ c->B):if decide c=true then A else B:=by
 by_cases h:c
 ·rw [decide_eq_true h];exact Tt (h1 h)
 ·rw [decide_eq_false h];exact Tr (h2 h)
theorem vd {H:Hp} {a:Addr} {o:HO} (h:H a=none):j8 H (upd H a o):=λ b o' e=>by rw [b3 (fM e h)];exact e
end L2
namespace L2
open PySem PySem.Spec PyProof.Rows
section
variable {X:Cx}
def EK:R2:=λ x y H Q => ∃ p i,x = .ref p/\y = .int i/\((∃ xs,H p=some (.lst xs) ∧ ∃ v,iw xs i=some v/\Q v H)\/(∃ xs,H p=some (.tup xs) ∧ ∃ v,iw xs i=some v/\Q v H))
theorem aQ:So X EK:=by
 intro value slice pins s σ H x y v u Q I rx ry h hs
 obtain ⟨p,i,e1,e2,⟨xs,hp,z,ha,q⟩ | ⟨xs,hp,z,ha,q⟩⟩:=h
 ·exact GN value slice pins s σ H x y v u Q I rx ry ⟨p,xs,i,z,e1,e2,eY.of hp,ha,q⟩ hs
 ·exact QE value slice pins s σ H x y v u Q I rx ry ⟨p,xs,i,z,e1,e2,Ei.of hp,ha,q⟩ hs
def ve:List V->Hp->VK->Prop:=λ xs H Q => ∃ p,xs = [.ref p]/\((∃ ys,H p=some (.lst ys)/\Q (.int ys.length) H)\/(∃ ys,H p=some (.tup ys)/\Q (.int ys.length) H)\/(∃ kvs,H p=some (.dK kvs)/\Q (.int kvs.length) H))
theorem aS:kI X (.builtin "len") ve:=by
 intro pins s σ H xs us Q I r h
 obtain ⟨p,e1,⟨ys,hp,q⟩ | ⟨ys,hp,q⟩ | ⟨kvs,hp,q⟩⟩:=h
 ·exact jD pins s σ H xs us Q I r ⟨p,ys,e1,.inl (eY.of hp),q⟩
 ·exact jD pins s σ H xs us Q I r ⟨p,ys,e1,.inr (Ei.of hp),q⟩
 ·exact HV pins s σ H xs us Q I r ⟨p,kvs,e1,hp,q⟩
theorem O9 {α : Type} {x : α} {xs:List α} : iw (x::xs) 0=some x:=gB (j:=0) rfl
theorem Pa {α : Type} {x y : α} {xs:List α} : iw (x::y::xs) 1=some y:=gB (j:=1) rfl
theorem Pb {α : Type} {x y z : α} {xs:List α} : iw (x::y::z::xs) 2=some z:=gB (j:=2) rfl
theorem Pc {α : Type} {x y z t : α} {xs:List α} : iw (x::y::z::t::xs) 3=some t:=gB (j:=3) rfl
theorem Pd {α : Type} {x y z t r : α} {xs:List α} : iw (x::y::z::t::r::xs) 4=some r:=gB (j:=4) rfl
def gC (t n:String):Option Bool:=PySem.W.kitOne [] (.type t) (.type n)
def JG (H:Hp):V->Option String
 | .aH=>some "NoneType"
 | .bl _=>some "bool"
 | .int _=>some "int"
 | .str _=>some "str"
 | .ref a=>match H a with
   | some (.lst _)=>some "list"
   | some (.tup _)=>some "tuple"
   | some (.dK _)=>some "dict"
   | _=>none
 | _=>none
theorem QN {K:PySem.W.Frag} {H:Hp} {x:V} {t:String} (h:JG H x=some t):oQ K H x (.type t):=by
 cases x with
 | aH=>cases h;exact .aH
 | bl b=>cases h;exact .bl b
 | int i=>cases h;exact .int i
 | str i=>cases h;exact .str i
 | ref a =>
   unfold JG at h
   cases e:H a with
   | none=>simp only [e] at h;cases h
   | some o =>
     simp only [e] at h
     cases o with
     | lst xs=>cases h;exact .lst e
     | tup xs=>cases h;exact .tup e
     | dK xs=>cases h;exact .dK e
     | _=>cases h
 | _=>cases h
theorem QT (K:PySem.W.Frag) (t n:String):PySem.W.kitOne K (.type t) (.type n)=gC t n:=by
 unfold gC PySem.W.kitOne PySem.W.kitCls PySem.W.subIn
 rfl
def Kq:List V->Hp->VK->Prop:=λ xs H Q => ∃ x n t b,xs = [x,.ty n]/\JG H x=some t/\gC t n=some b/\Q (.bl b) H
theorem dg:kI X (.builtin "isinstance") Kq:=by
 intro pins s σ H xs us Q I r h
 obtain ⟨x,n,t,b,e1,e2,e3,q⟩:=h
 exact Kn pins s σ H xs us Q I r ⟨x,.ty n,.type t,b,e1,QN e2,.inl ⟨n,rfl,by rw [QT];exact e3⟩,q⟩
theorem C9:gC "int" "int" = some true:=rfl
theorem Bg:gC "int" "bool" = some false:=rfl
theorem yf:gC "bool" "bool" = some true:=rfl
theorem Bh:gC "NoneType" "int" = some false:=rfl
theorem yg:gC "NoneType" "bool" = some false:=rfl
theorem Dc:gC "str" "int" = some false:=rfl
theorem Bj:gC "str" "bool" = some false:=rfl
theorem Bk:gC "list" "int" = some false:=rfl
theorem yh:gC "list" "bool" = some false:=rfl
theorem yi:gC "tuple" "int" = some false:=rfl
theorem vf:gC "tuple" "bool" = some false:=rfl
theorem yj:gC "list" "list" = some true:=rfl
theorem sV:gC "tuple" "tuple" = some true:=rfl
theorem vg:gC "list" "tuple" = some false:=rfl
theorem yk:gC "NoneType" "list" = some false:=rfl
theorem vh:gC "NoneType" "tuple" = some false:=rfl
theorem Dd:gC "str" "str" = some true:=rfl
end
section
variable {X:Cx} {o e:Expr} {to:TE} {t:TA} {apos pos:Pos}
end
end L2
namespace L2
open PySem PySem.Spec PyProof.Rows
theorem bS.there {P:Program} {w:World} {H:Hp} {h:Heap} {a:Addr} {o:HO} (x:bS P w H h a o) : ∃ u,h.get? a=some u:=by
 cases o with
 | lst xs=>obtain ⟨_,_,_,_,e⟩:=x;exact ⟨_,e⟩
 | tup xs=>obtain ⟨_,_,_,o,e,_⟩:=x;exact ⟨_,e⟩
 | dK kvs=>obtain ⟨_,_,_,_,o,_,_,e,_⟩:=x;exact ⟨_,e⟩
 | dT kvs=>obtain ⟨_,_,_,_,o,_,_,e,_⟩:=x;exact ⟨_,e⟩
 | set S n=>obtain ⟨o,_,_,_,e,_⟩:=x;exact ⟨_,e⟩
 | ins C dx fs=>obtain ⟨_,_,_,e,_⟩:=x;exact ⟨_,e⟩
 | own y=>obtain ⟨_,e⟩:=x;exact ⟨_,e⟩
 | xd fs=>obtain ⟨_,⟨_,_,_,e,_⟩,_⟩:=x;exact ⟨_,e⟩
 | Vb lo hi=>obtain ⟨_,_,_,e⟩:=x;exact ⟨_,e⟩
 | CJ ob u=>obtain ⟨e,_⟩:=x;exact ⟨_,e⟩
 | OU ps=>exact ⟨_,(show h.get? a=some _ from x)⟩
 | met f y=>exact ⟨_,(show h.get? a=some _ from x)⟩
 | ext φ => obtain ⟨_,⟨_,e⟩,_⟩:=x;exact ⟨_,e⟩
theorem Bl {P:Program} {w:World} {l:List Env} {H H':Hp} {h0 h h2 B:Heap} (un:Un (frs l) [] H H' h0 h) (hok:j6 P w H' h) (fr:h.FunFrames B l)
  (tr : ∀ b u o,H' b=some u->h.get? b=some o->B.get? b=some o) (kp : ∀ b o o',h0.get? b=some o->h.get? b=some o'->b ∉ frs l->B.get? b=some o') (st:B.StaysIn h2) (sm:h.UpToSlots h2) :
  Un (frs l) [] H H' h0 h2/\j6 P w H' h2:=by
 refine ⟨⟨λ b o q n hb hx => ?_,λ b o q n hb hx => ?_,un.free,λ b o q hx => ?_,un.tups,un.j7,un.kF⟩,λ a o e => ?_⟩
 ·exact st b o (kp b o o q (un.keep b o q n hb hx) hb)
 ·obtain ⟨sl,e⟩:=un.slot b o q n hb hx
  obtain ⟨_,o',ho',hd⟩:=fr.mem hb
  rw [e] at ho';cases ho'
  obtain ⟨JK,e'⟩:=sm b _ e hd
  exact ⟨JK,e'⟩
 ·obtain ⟨o',e⟩:=un.there b o q hx
  by_cases hb:b∈frs l
  ·obtain ⟨_,o2,ho2,hd⟩:=fr.mem hb
   obtain ⟨JK,e'⟩:=sm b _ ho2 hd
   exact ⟨_,e'⟩
  ·exact ⟨o',st b o' (kp b o o' q e hb)⟩
 ·refine (hok a o e).stay (λ b u hb q => ?_) (λ _ q=>q) λ _ _ q=>q
  rcases hb with rfl | hb
  ·exact st b u (tr b _ u e q)
  ·exact st b u (tr b _ u hb q)
theorem GQ {fs fs':List Addr} {L:Addr} {H H1 H2:Hp} {h h1 h2:Heap} (a:Un fs [] H H1 h h1) (b:Un fs' [] H1 H2 h1 h2) (hL:h.get? L=none) (sub : ∀ x∈fs',x=L\/x∈fs):Un fs [] H H2 h h2 where
 keep:=λ c ob q n hc hx=>b.keep c ob (a.keep c ob q n hc hx) (a.free c ob q n hx) (λ z=>(sub c z).elim (λ e=>by rw [e,hL] at q;cases q) hc) hx
 slot:=λ c ob q n hc hx=>by
  obtain ⟨sl,e1⟩:=a.slot c ob q n hc hx
  obtain ⟨JK,e2⟩:=b.any e1 (a.free c ob q n hx) hx
  exact ⟨JK,e2⟩
 free:=λ c ob q n hx=>by
  obtain ⟨o',e1⟩:=a.there c ob q hx
  exact b.free c o' e1 (a.free c ob q n hx) hx
 there:=λ c ob q hx=>by
  obtain ⟨o',e1⟩:=a.there c ob q hx
  exact b.there c o' e1 hx
 tups:=λ c xs q=>b.tups c xs (a.tups c xs q)
 j7:=λ c ob xs q=>b.j7 c ob xs (a.j7 c ob xs q)
 kF:=λ c ps q=>by
  obtain ⟨m1,e1⟩:=a.kF c ps q
  obtain ⟨m2,e2⟩:=b.kF c _ e1
  exact ⟨m1++m2,by rw [e2,Array.append_assoc]⟩
section
variable {P:Program} {w:World} {K:PySem.W.Frag} {mg:Str->Option Value} {base:Heap} {N:List Str} {qual:Str} {scope:Scope} {f:Addr} {cd:Value} {A:Around} {outer:List Env} {s:Shared} {H:Hp} {E:XK}
abbrev HW (P:Program) (w:World) (K:PySem.W.Frag) (mg:Str->Option Value) (base:Heap) (N:List Str) (qual:Str) (scope:Scope) (f:Addr) (cd:Value) (A:Around) (outer:List Env) (s:Shared) (H:Hp) (E:XK):Cx :=
 uZ (yb P w) P w K mg base N qual scope f cd A outer s H E
theorem kO {L:Addr} {env:Env} {l:List Env} (h:env.frame=some L):frs (env::l)=L::frs l:=by unfold frs;rw [List.filterMap_cons,h]
theorem jR:Passes (yb P w) (HW P w K mg base N qual scope f cd A outer s H E) E:=by
 intro pins σ H1 s1 e s' I h
 obtain ⟨H',ea,cls,rfl,os,bare,fl,hE⟩:=h
 obtain ⟨B,a0,hfl,tr,kp⟩:=fl.fly
 have fr:=hfl.2.2.1
 show wpAny _ _ (leaving _ _) _ _ s'
 refine wpAny_leaves_onW (I.ok.frames) (L:=s.heap.objs.size) rfl hfl λ h2 sW sm => ?_
 obtain ⟨QU,EL⟩:=Bl fl.un fl.hok fr tr kp sW.1 sm
 have hfs:frs (envOfC qual scope s.heap.objs.size f cd::outer)=s.heap.objs.size::frs outer:=kO rfl
 have hL:s.heap.get? s.heap.objs.size=none:=Heap.get?_none_of_le (Nat.le_refl _)
 have sub : ∀ x∈frs (envOfC qual scope s.heap.objs.size f cd::outer),x=s.heap.objs.size\/x∈frs outer:=λ x hx=>by rw [hfs] at hx;exact List.mem_cons.mp hx
 refine ⟨H',ea,cls,rfl,os.trans I.os,bare,⟨GQ I.base QU hL sub,EL,?_,B,a0,sW,λ b u o e q => ?_,λ b o o2 q q2 hb => ?_⟩,hE⟩
 ·cases q:s.heap.get? ea with
  | none=>rfl
  | some o =>
    obtain ⟨o',e⟩:=I.base.there ea o q (by intro z;cases z)
    rw [fl.new] at e;cases e
 ·obtain ⟨o',e'⟩:=(fl.hok b u e).there
  have h1:=tr b u o' e e'
  have h2':=sW.1 b o' h1
  rw [q] at h2';cases h2';exact h1
 ·obtain ⟨o1,e1⟩:=I.base.there b o q (by intro z;cases z)
  obtain ⟨o',e'⟩:=fl.un.there b o1 e1 (by intro z;cases z)
  have nb:b ∉ frs (envOfC qual scope s.heap.objs.size f cd::outer):=λ z=>(sub b z).elim (λ e=>by rw [e,hL] at q;cases q) hb
  have h1:=kp b o1 o' e1 e' nb
  have h2':=sW.1 b o' h1
  rw [q2] at h2';cases h2';exact h1
theorem Bm {pins:List (Addr×Obj)} {σ : St} {H1:Hp} {s2:Shared} {h':Heap} {e C:Addr} {vs:List Value} (I:Inv (HW P w K mg base N qual scope f cd A outer s H E) pins σ H1 s2)
  (hx:Heap.MadeExcOf s2.heap h' e (.ref C) vs) (hE:E (.ref C) none H1):(HW P w K mg base N qual scope f cd A outer s H E).xe (.ref e) { s2 with heap:=h' } := by
 have hfs:frs (envOfC qual scope s.heap.objs.size f cd::outer)=s.heap.objs.size::frs outer:=kO rfl
 have hL:s.heap.get? s.heap.objs.size=none:=Heap.get?_none_of_le (Nat.le_refl _)
 have sub : ∀ x∈frs (envOfC qual scope s.heap.objs.size f cd::outer),x=s.heap.objs.size\/x∈frs outer:=λ x hx=>by rw [hfs] at hx;exact List.mem_cons.mp hx
 have hin : ∀ env∈(envOfC qual scope s.heap.objs.size f cd::outer),∀ b,env.frame=some b->b∈(envOfC qual scope s.heap.objs.size f cd::outer).filterMap (·.frame):=λ env he b hb=>List.mem_filterMap.mpr ⟨env,he,hb⟩
 have fr0:s2.heap.FunFrames (PySem.W.hideAll s2.heap (frs (envOfC qual scope s.heap.objs.size f cd::outer))) (envOfC qual scope s.heap.objs.size f cd::outer):=PySem.W.funFrames_hide I.stack hin
 have kB : ∀ b o,s2.heap.get? b=some o->b ∉ frs (envOfC qual scope s.heap.objs.size f cd::outer)->(PySem.W.hideAll s2.heap (frs (envOfC qual scope s.heap.objs.size f cd::outer))).get? b=some o:=λ b o q hb=>PySem.W.hideAll_get _ q hb
 show wpAny _ _ (leaving _ _) _ _ _
 refine wpAny_leaves_madeW (s := { s2 with heap:=h' }) (base:=PySem.W.hideAll s2.heap (frs (envOfC qual scope s.heap.objs.size f cd::outer))) (h:=s2.heap) I.ok.frames (L:=s.heap.objs.size) rfl (λ b o q=>PySem.W.of_hideAll _ q) fr0 hx λ h2 t sW _ _ sm => ?_
 have Su : ∀ b u,H1 b=some u->b ∉ frs (envOfC qual scope s.heap.objs.size f cd::outer):=λ b u q z=>by rw [I.A4 b z] at q;cases q
 have tr : ∀ b u o,H1 b=some u->h'.get? b=some o->(PySem.W.hideAll s2.heap (frs (envOfC qual scope s.heap.objs.size f cd::outer))).get? b=some o:=λ b u o q qo=>by
  obtain ⟨o',e'⟩:=(I.hok b u q).there
  have:=hx.keeps b o' e'
  rw [qo] at this;cases this
  exact kB b _ e' (Su b u q)
 have kp : ∀ b o o',s2.heap.get? b=some o->h'.get? b=some o'->b ∉ frs (envOfC qual scope s.heap.objs.size f cd::outer)->(PySem.W.hideAll s2.heap (frs (envOfC qual scope s.heap.objs.size f cd::outer))).get? b=some o':=λ b o o' q q' hb=>by
  have:=hx.keeps b o q
  rw [q'] at this;cases this
  exact kB b _ q hb
 obtain ⟨QU,EL⟩:=Bl (l:=envOfC qual scope s.heap.objs.size f cd::outer) (H:=H1) (H':=H1) (h0:=s2.heap) (Un.kept hx.keeps) (I.hok.kept hx.keeps) (fr0.of_keeps λ b o q _=>⟨o,hx.keeps b o q,rfl⟩) tr kp sW.1 sm
 refine ⟨H1,e,.ref C,rfl,I.os,I.bare,⟨GQ I.base QU hL sub,EL,?_,_,_,sW,λ b u o q qo => ?_,λ b o o2 q q2 hb => ?_⟩,hE⟩
 ·cases q:s.heap.get? e with
  | none=>rfl
  | some o =>
    obtain ⟨o',e'⟩:=I.base.there e o q (by intro z;cases z)
    rw [hx.new] at e';cases e'
 ·obtain ⟨o',e'⟩:=(I.hok b u q).there
  have h1:=kB b o' e' (Su b u q)
  have h2':=sW.1 b o' h1
  rw [qo] at h2';cases h2';exact h1
 ·obtain ⟨o1,e1⟩:=I.base.there b o q (by intro z;cases z)
  have nb:b ∉ frs (envOfC qual scope s.heap.objs.size f cd::outer):=λ z=>(sub b z).elim (λ e=>by rw [e,hL] at q;cases q) hb
  have h1:=kB b o1 e1 nb
  have h2':=sW.1 b o1 h1
  rw [q2] at h2';cases h2';exact h1
end
structure Exc (K:PySem.W.Frag) (mg:Str->Option Value) (x:Str) (C:Addr):Prop where
 Tw:mg x=some (.ref C)
 ex:PySem.W.excIn K C [.type "ValueError",.type "Exception",.type "BaseException",.type "object"] "ValueError.__new__" = true
theorem Exc.own {K:PySem.W.Frag} {mg:Str->Option Value} {x:Str} {C:Addr} {h:Heap} (O:Exc K mg x C) (X:K.In h):OwnCls x C [.type "ValueError",.type "Exception",.type "BaseException",.type "object"] "ValueError.__new__" mg h:=by
 refine ⟨O.Tw,?_⟩
 have q:=O.ex
 unfold PySem.W.excIn at q
 split at q
 ·rename_i dd cd sl ho
  split at q
  ·rename_i C' bm k0 k1 k2 k3 n k5 hm hs
   simp only [Bool.and_eq_true,beq_iff_eq,Bool.not_eq_true'] at q
   obtain ⟨⟨⟨⟨⟨rfl,rfl⟩,Tz⟩,ht⟩,hok⟩,hni⟩:=q
   obtain ⟨nm,bs,mro,ns,qn,hd,sn,sub,ab,col,del⟩:=cd
   dsimp only at hm Tz hok hni
   subst hm Tz
   have hsl:sl = #[k0,k1,k2,k3,some (.builtin "ValueError.__new__"),k5]:=by
    obtain ⟨l⟩:=sl
    simp only at hs
    rw [hs]
   subst hsl
   exact ⟨bm,ns,nm,qn,bs,hd,sn,sub,ab,col,dd,k0,k1,k2,k3,k5,_,X _ _ ho,.of_isNs (PySem.W.isNs_of_in X hok),PySem.W.nsMap_none_of_in X hok hni,PySem.W.tail_of_in X ht⟩
  ·cases q
 ·cases q
theorem Bo {K:PySem.W.Frag} {h:Heap} {mg:Str->Option Value} {x:Str} {C:Addr} (X:K.In h) (G:h.Ns mainGlobals mg) (a:PySem.W.nsIn K mainGlobals x=some (some (.ref C)))
  (q:PySem.W.excIn K C [.type "ValueError",.type "Exception",.type "BaseException",.type "object"] "ValueError.__new__" = true):Exc K mg x C:=⟨PySem.W.mg_of X G a,q⟩
section
variable {P:Program} {w:World} {K:PySem.W.Frag} {mg:Str->Option Value} {base:Heap} {N:List Str} {qual:Str} {scope:Scope} {f:Addr} {cd:Value} {A:Around} {outer:List Env} {s:Shared} {H:Hp} {E:XK}
def Kr (E:XK) (C:Addr) (ta:TA):TS:=λ _ σ H=>ta σ H λ vs H1=>vs.length<=sizeLine/\E (.ref C) none H1
theorem i9 {x:Str} {C:Addr} {e₀ : Expr} {np cpos pos:Pos} {ta:TA} (O:Exc K mg x C) (hg:Gl (HW P w K mg base N qual scope f cd A outer s H E) x) (ha:PA (HW P w K mg base N qual scope f cd A outer s H E) [e₀] ta)
  (hd:(x == ("__debug__" : Str))=false:=by decide) (he:starEach [e₀] (HW P w K mg base N qual scope f cd A outer s H E).env = [(false,eval e₀ (HW P w K mg base N qual scope f cd A outer s H E).env)]:=by rfl) :
  PS (HW P w K mg base N qual scope f cd A outer s H E) (.Raise (some (.Call (.Name x np) [e₀] [] cpos)) none pos) (Kr E C ta):=by
 intro pins s1 σ H1 D I h
 have own:=O.own I.mod.Sj
 obtain ⟨tl,NN,nm,q,bs,hdct,sn,sub,ab,col,dd,k0,k1,k2,k3,k5,mN,hC,hN,hni,T⟩:=own.obj
 refine wpAny_Raise_call_subT (C:=C) (nm:=nm) (q:=q) (N:=NN) (bs:=bs) (bm:=tl) (hdct:=hdct) (sn:=sn) (sub:=sub) (ab:=ab) (col:=col) (dd:=dd) (k0:=k0) (k1:=k1) (k2:=k2) (k3:=k3) (k5:=k5)
  PySem.F.excBase_ValueError (mN:=mN) (T.hasType PySem.F.excBase_ValueError.hasBase) (I.ok.hd rfl) (by rw [he];rfl) hni (uI I hg O.Tw ⟨rfl,?_⟩ hd)
 rw [he]
 have ha':=ha cpos pins s1 σ H1 _ I h
 rw [he] at ha'
 refine Calls.evalArgs_plain (wpAny_mono ha' (λ us s2 hq => ?_) λ _ _ y=>y)
 obtain ⟨vs,H2,I2,r,hl,hE⟩:=hq
 exact ⟨rfl,by rw [<-r.length];exact hl,I2.bk _ _ hC,hN.keeps I2.bk,T.keeps I2.bk,λ h' e hx=>Bm I2 hx hE⟩
end
end L2
namespace L2
open PySem PySem.Spec PyProof.Rows
abbrev Cx.Ks (X:Cx) (ea:Addr):Cx := { X with A:=X.A.mark (some (.ref ea)),calm:=false }
section
variable {X:Cx} {pins:List (Addr×Obj)} {σ : St} {H:Hp} {s:Shared}
theorem Inv.Ks (I:Inv X pins σ H s) (ea:Addr):Inv (X.Ks ea) pins σ H s :=
 ⟨⟨I.ok.mod,I.ok.kind,I.ok.glob,I.ok.blt,I.ok.above,I.ok.inj,I.ok.has,I.ok.Qf,(λ z=>nomatch z),I.ok.frames,I.ok.stk,I.ok.Vd,I.ok.bs,I.ok.JE,I.ok.Ep,I.ok.HB,I.ok.oJ,I.ok.MZ⟩,I.os,I.bare,I.base,I.loc,I.cell,I.free,I.kG,I.pin,I.hok,I.len⟩
end
section
variable {X:Cx}
end
end L2
namespace PySem.W
open PySem PySem.Spec PySem.Calls PyProof.Rows Builtin Builtin.ObjectAttr Builtin.Getset_descriptor
section
variable {prog:Program} {w:World} {A:Around} {E:Value->Shared->Prop} {s:Shared} {K:Frag} {x C:Addr} {R:Result->Shared->Prop}
end
end PySem.W
namespace L2
open PySem PySem.Spec PyProof.Rows
section
variable {X:Cx}
end
section
variable {X:Cx} {k:Nat} {f C:Addr} {fd:FuncData} {ps:List Str} {sp:Sp} {x m:Str} {p pos apos:Pos} {e o:Expr} {es:List Expr} {ta:TE} {t:TA}
end
end L2
namespace L2
open PySem PySem.Spec PyProof.Rows
def dF (cells:List (Str×Addr)):List (Str×NameKind)->List (Str×Addr)->List (Str×Addr)
 | [],cs=>cs
 | (n,k)::r,cs=>dF cells r (if k == .free then (n,(cells.lookup n).getD 0)::cs else cs)
theorem mY {scope:Scope} {env:Env} (h : ∀ y∈scope.names,y.2 = .free->∃ c,env.cells.lookup y.1=some c):closureFor scope env=pure (dF env.cells scope.names []):=by
 simp only [closureFor]
 have all : ∀ (l:List (Str×NameKind)) (cs:List (Str×Addr)),(∀ y∈l,y.2 = .free->∃ c,env.cells.lookup y.1=some c) →
   (forIn l cs fun (x:Str×NameKind) (r:List (Str×Addr))=>match x with
    | (name,kind)=>if (kind == NameKind.free)=true then do
      let __do_lift <-cellOf env name
      pure (ForInStep.yield ((name,__do_lift)::r))
     else pure (ForInStep.yield r))=(pure (dF env.cells l cs):Sem (List (Str×Addr))):=by
  intro l
  induction l with
  | nil=>intro cs _;rfl
  | cons y r ih =>
    intro cs hy
    obtain ⟨n,k⟩:=y
    rw [List.forIn_cons]
    have hr : ∀ y∈r,y.2 = .free->∃ c,env.cells.lookup y.1=some c:=λ y hm=>hy y (List.mem_cons_of_mem _ hm)
    by_cases hk:k = .free
    ·subst hk
     obtain ⟨c,hc⟩:=hy (n,.free) List.mem_cons_self rfl
     have hc':env.cells.lookup n=some c:=hc
     have e1:cellOf env n=pure c:=by unfold cellOf;rw [hc']
     simp only [beq_self_eq_true,if_true,e1,pure_bind]
     rw [ih _ hr]
     simp only [dF,beq_self_eq_true,if_true,hc',Option.getD_some]
    ·have hb:(k == NameKind.free)=false:=by simpa using hk
     simp only [hb,Bool.false_eq_true,if_false,pure_bind]
     rw [ih _ hr]
     simp only [dF,hb,Bool.false_eq_true,if_false]
 first
  | (rw [all scope.names [] h];rfl)
  | (have:=all scope.names [] h;simp only [this,pure_bind])
theorem vm {cells:List (Str×Addr)} : ∀ (l:List (Str×NameKind)) (cs:List (Str×Addr)) {y:Str} {c:Addr},(dF cells l cs).lookup y=some c->((y,.free)∈l/\c=(cells.lookup y).getD 0)\/cs.lookup y=some c
 | [],_,_,_,h => .inr h
 | (n,k)::r,cs,y,c,h=>by
   rw [dF] at h
   rcases vm r _ h with ⟨a,b⟩ | q
   ·exact .inl ⟨List.mem_cons_of_mem _ a,b⟩
   ·by_cases hk:k = .free
    ·subst hk
     simp only [beq_self_eq_true,if_true,List.lookup_cons] at q
     by_cases hy:y=n
     ·subst hy
      simp only [beq_self_eq_true] at q
      cases q
      exact .inl ⟨List.mem_cons_self,rfl⟩
     ·have:(y == n)=false:=by simpa using hy
      simp only [this] at q
      exact .inr q
    ·have hb:(k == NameKind.free)=false:=by simpa using hk
     simp only [hb,Bool.false_eq_true,if_false] at q
     exact .inr q
theorem jE {cells:List (Str×Addr)} : ∀ (l:List (Str×NameKind)) (cs:List (Str×Addr)) {y:Str},(∃ c,cs.lookup y=some c)\/(y,NameKind.free)∈l->∃ c,(dF cells l cs).lookup y=some c
 | [],_,_,h=>by
   rcases h with h | h
   ·exact h
   ·cases h
 | (n,k)::r,cs,y,h=>by
   rw [dF]
   refine jE r _ ?_
   rcases h with ⟨c,h⟩ | h
   ·refine .inl ?_
    split
    ·rw [List.lookup_cons]
     split
     ·exact ⟨_,rfl⟩
     ·exact ⟨c,h⟩
    ·exact ⟨c,h⟩
   ·rcases List.mem_cons.mp h with e | e
    ·cases e
     refine .inl ⟨(List.lookup n cells).getD 0,?_⟩
     simp only [beq_self_eq_true,if_true,List.lookup_cons]
    ·exact .inr e
structure kP (scope es:Scope) (x:Str) (N:List Str):Prop where
 kind:scope.kind = .function
 cell : ∀ y∈scope.names,y.2 ≠ .cell
 nms : ∀ y∈scope.names,y.2 = .local->scope.names.lookup y.1=some .local
 loc:scope.names.lookup x=some .local
 noe:scope.names.lookup ("" : Str)=none
 Vv : ∀ y∈scope.names,y.2 = .free->es.names.lookup y.1=some .cell\/es.names.lookup y.1=some .free
 only : ∀ y∈scope.names,y.2 = .local->y.1=x\/y.1 ∉ N
 nd:(x::N.map λ y=>if y=x then ("" : Str) else y).Nodup
theorem lookup_mem {α β : Type} [BEq α] [LawfulBEq α] : ∀ {l:List (α × β)} {x : α} {v : β},l.lookup x=some v->(x,v)∈l
 | (n,k)::r,x,v,h=>by
   rw [List.lookup_cons] at h
   split at h
   ·rename_i e;cases h;rw [eq_of_beq e];exact List.mem_cons_self
   ·exact List.mem_cons_of_mem _ (lookup_mem h)
theorem cG {scope:Scope} {env:Env} : ∀ {l:List (Str×NameKind)} {y:Str} {k:NameKind},(l.map fun (p:Str×NameKind)=>match p with | (n,k)=>if (k == .free && env.scope.kind == .function && env.kindOf n == some .cell) then (n,NameKind.cell) else (n,k)).lookup y=some k →
  l.lookup y=some k\/(k = .cell/\l.lookup y=some .free)
 | [],_,_,h=>by simp at h
 | (n,k0)::r,y,k,h=>by
   rw [List.map_cons,List.lookup_cons] at h
   rw [List.lookup_cons]
   dsimp only at h
   split at h
   ·rename_i e
    split at e
    ·rename_i hc
     dsimp only at e h
     cases h
     have:k0 = .free:=by simp only [Bool.and_eq_true,beq_iff_eq] at hc;exact hc.1.1
     subst this
     rw [e,if_pos hc]
     exact .inr ⟨rfl,rfl⟩
    ·rename_i hc
     dsimp only at e h
     rw [e]
     rw [if_neg hc] at h
     exact .inl h
   ·rename_i e
    have e':(y == n)=false:=by
     split at e <;> exact e
    rw [e']
    exact cG (scope:=scope) h
def gI (M:Model) (A:Around) (E:Value->Shared->Prop) (use:Option (Value->Sem Unit)) (Q:Value->Shared->Prop) (acc:Value) (cenv:Env) (r:Result) (s':Shared):Prop :=
 match r,use with
 | .ok _,none => ∃ m,s'.heap.Ns cenv.locals m ∧ ∀ h',Heap.SameBut cenv.locals s'.heap h'->Q acc { s' with heap:=h' }
 | .ok _,some u=>wpAny M A (u acc) (λ _ s'' => ∃ m,s''.heap.Ns cenv.locals m ∧ ∀ h',Heap.SameBut cenv.locals s''.heap h'->Q .none { s'' with heap:=h' }) E s'
 | .error x,_ => ∃ m,s'.heap.Ns cenv.locals m ∧ ∀ h',Heap.SameBut cenv.locals s'.heap h'->wpAny M A (passOn "comprehension.variables-let-go" x cenv:Sem Value) (λ _ _=>False) E { s' with heap:=h' }
theorem f7 {M:Model} {A:Around} {E:Value->Shared->Prop} {s:Shared} {env:Env} {e:Expr} {scope:Scope} {pos:Pos} {newAcc first:Sem Value} {g:Comprehension} {gs:List Comprehension} {cl:List (Str×Addr)} {use:Option (Value->Sem Unit)}
  {Q:Value->Shared->Prop}
  (hcl:clausesOf e=g::gs) (hs : ∀ x,foldedSetIterable g.iter env x=pure x) (hclos:closureFor scope env=pure cl)
  (hkind:scope.kind = .function) (hnames : ∀ x∈scope.names,x.2 = .local->scope.names.lookup x.1=some .local)
  (h:wpAny M A first (λ x s₁ => wpAny M A (pyIter x) (λ it s₂ => wpAny M A newAcc (λ acc s₃ =>
   wpAny M A (newFunctionEnv scope env.globals cl [] env.qual none .none (some env)) (λ cenv s₄ =>
    codeAny M A (.compStart e 0 it acc { cenv with scope:=relabel scope env }) (gI M A E use Q acc { cenv with scope:=relabel scope env }) s₄) E s₃) E s₂) E s₁) E s) :
  wpAny M A (comprehension e scope env pos newAcc false first use) Q E s:=by
 unfold comprehension
 rw [hclos,hcl]
 refine wpAny_bind (wpAny_mono h (λ x s₁ h₁ => wpAny_bind (wpAny_standAt (wpAny_bind (wpAny_of_eq (hs x) (wpAny_bind (wpAny_holding (wpAny_mono h₁ (λ it s₂ h₂ =>
  wpAny_standIf (wpAny_bind (wpAny_mono h₂ (λ acc s₃ h₃ => wpAny_bind (wpAny_pure (wpAny_bind (wpAny_mono h₃ (λ cenv s₄ h₄ => ?_) λ _ _ h'=>h')))) λ _ _ h'=>h')))
   λ _ _ h'=>h'))))))) λ _ _ h'=>h')
 dsimp only
 have hv : ∀ x∈(scope.names.filter λ x=>(x.2 == .local || x.2 == .cell) && x.1 != (".0" : Str)).reverse,x.2 = .local →
   Env.kindOf { cenv with scope:=relabel scope env } x.1=some .local:=λ x hx hl=>lookup_relabel_local (hnames x (List.mem_filter.mp (List.mem_reverse.mp hx)).1 hl)
 have hv' : ∀ x∈(scope.names.filter λ x=>(x.2 == .local || x.2 == .cell) && x.1 != (".0" : Str)).reverse.drop 1++(scope.names.filter λ x=>(x.2 == .local || x.2 == .cell) && x.1 != (".0" : Str)).reverse.take 1,
   x.2 = .local->Env.kindOf { cenv with scope:=relabel scope env } x.1=some .local:=λ x hx hl=>by
  rcases List.mem_append.mp hx with h1 | h1
  ·exact hv x (List.mem_of_mem_drop h1) hl
  ·exact hv x (List.mem_of_mem_take h1) hl
 refine wpAny_holding (wpAny_bind (wpAny_attempt (wpAny_holding (wpAny_run (codeAny_mono h₄ λ r s' hr => ?_)))))
 cases r with
 | ok f =>
   cases use with
   | none =>
     obtain ⟨m,hn,hr⟩:=hr
     exact wpAny_bind (wpAny_holding (wpAny_comp_letGo (cenv := { cenv with scope:=relabel scope env }) hkind _ s' m hv hn λ h' m' _ hs'=>wpAny_pure (hr h' hs')))
   | some u =>
     refine wpAny_bind (wpAny_rule (wpAny_bind (wpAny_holding (wpAny_mono hr (λ _ s'' hr' => ?_) λ _ _ h'=>h'))))
     obtain ⟨m,hn,hr'⟩:=hr'
     exact wpAny_bind (wpAny_comp_letGo (cenv := { cenv with scope:=relabel scope env }) hkind _ s'' m hv' hn λ h' m' _ hs'=>wpAny_pure (hr' h' hs'))
 | error x =>
   have hr' : ∃ m,s'.heap.Ns cenv.locals m ∧ ∀ h',Heap.SameBut cenv.locals s'.heap h'->wpAny M A (passOn "comprehension.variables-let-go" x { cenv with scope:=relabel scope env } : Sem Value) (λ _ _=>False) E { s' with heap:=h' } := by cases use <;> exact hr
   obtain ⟨m,hn,hr⟩:=hr'
   exact wpAny_bind (wpAny_holding (wpAny_comp_letGo (cenv := { cenv with scope:=relabel scope env }) hkind _ s' m hv hn λ h' m' _ hs'=>wpAny_mono (hr h' hs') (λ _ _ f=>f.elim) λ _ _ y=>y))
def Cx.comp (X:Cx) (scope:Scope) (x:Str) (pins:List (Addr×Obj)) (fp:List Addr) (s3:Shared) (H3:Hp) (E:Value->Shared->Prop):Cx where
 prog:=X.prog
 w:=X.w
 K:=X.K
 mg:=X.mg
 base:=X.base
 A:=X.A
 N:=x::X.N.map λ y=>if y=x then ("" : Str) else y
 s₀ := s3
 H₀ := H3
 env:=compEnvC scope (dF X.env.cells scope.names []) s3.heap.objs.size X.env
 outer:=X.stack
 stack:=X.stack
 ex:=fp
 fn:=λ _=>false
 calm:=X.calm
 pn:=X.pn++pins
 xe:=E
section
variable {X:Cx} {pins:List (Addr×Obj)} {σ : St} {H3:Hp} {s3:Shared} {scope:Scope} {x:Str} {fp:List Addr} {E:Value->Shared->Prop}
theorem qv {y:Str} (h:(compEnvC scope (dF X.env.cells scope.names []) s3.heap.objs.size X.env).kindOf y=some .cell\/(compEnvC scope (dF X.env.cells scope.names []) s3.heap.objs.size X.env).kindOf y=some .free) (hc : ∀ y∈scope.names,y.2 ≠ .cell):(y,NameKind.free)∈scope.names:=by
 rcases h with h | h
 ·rcases cG (scope:=scope) (env:=X.env) h with q | ⟨_,q⟩
  ·exact absurd rfl (hc _ (lookup_mem q))
  ·exact lookup_mem q
 ·rcases cG (scope:=scope) (env:=X.env) h with q | ⟨z,_⟩
  ·exact lookup_mem q
  ·cases z
theorem fO (ok:X.Ok) (S:kP scope X.env.scope x X.N) {y:Str} {c:Addr} (h:(dF X.env.cells scope.names []).lookup y=some c):(y,NameKind.free)∈scope.names/\X.env.cells.lookup y=some c:=by
 rcases vm scope.names [] h with ⟨a,b⟩ | q
 ·obtain ⟨c',e⟩:=ok.has y (S.Vv _ a rfl)
  rw [e] at b
  exact ⟨a,by rw [e,b];rfl⟩
 ·simp at q
theorem Nr (I:Inv X pins σ H3 s3) (S:kP scope X.env.scope x X.N) (hfp : ∀ b∈fp,oM X pins H3 b) (hfo : ∀ b∈fp,∃ o,s3.heap.get? b=some o):(X.comp scope x pins fp s3 H3 E).Ok where
 mod:=I.ok.mod
 kind:=S.kind
 glob:=I.ok.glob
 blt:=I.ok.blt
 above:=Nat.le_refl _
 inj:=λ y z c h1 h2=>I.ok.inj y z c (fO I.ok S h1).2 (fO I.ok S h2).2
 has:=λ y h=>jE scope.names [] (.inr (qv h S.cell))
 Qf:=λ _ _ h=>nomatch h
 hd:=I.ok.hd
 frames:=I.ok.frames
 stk := .inl rfl
 Vd:=λ b hb=>by
  obtain ⟨o,e⟩:=hfo b hb
  refine ⟨Nat.ne_of_lt (Heap.lt_size e),λ y c h => ?_⟩
  exact (hfp b hb).2.2.2.2.1 y c (fO I.ok S h).2
 bs:=I.bs
 JE:=Nat.le_trans I.ok.JE I.sz
 Ep:=λ b o e hb=>by
  rcases (hfp b hb).2.2.2.1 with z | z
  ·exact I.ok.Ep b o e z
  ·exact absurd (Nat.lt_of_lt_of_le (Heap.lt_size e) (Nat.le_trans I.ok.JE z)) (Nat.lt_irrefl _)
 HB:=λ b hb z=>by
  rcases List.mem_cons.mp (I.uU b z) with q | q
  ·exact (hfp b hb).2.1 q
  ·exact (hfp b hb).2.2.1 q
 oJ:=I.stack
 MZ:=I.A4
theorem EM {s4:Shared} (I:Inv X pins σ H3 s3) (S:kP scope X.env.scope x X.N) (hfp : ∀ b∈fp,oM X pins H3 b) (hfo : ∀ b∈fp,∃ o,s3.heap.get? b=some o) {m:Str->Option Value} (hn:s4.heap.Ns s3.heap.objs.size m) (kk : ∀ b o,s3.heap.get? b=some o->s4.heap.get? b=some o)
  (os:s4.os=s3.os) (bare:AllBare s4.gens):Inv (X.comp scope x pins fp s3 H3 E) [] (none :: σ) H3 s4:=by
 refine ⟨Nr I S hfp hfo,os,bare,Un.kept kk,⟨m,hn,λ i y v h1 h2 h3 => ?_⟩,λ y c h => ?_,I.hok.fresh (Nat.le_refl _),λ y c h=>I.kG y c (fO I.ok S h).2,λ p hp => ?_,I.hok.kept kk,?_⟩
 ·cases i with
  | zero=>cases h2
  | succ i =>
    have De:(X.N.map λ y=>if y=x then ("" : Str) else y)[i]? = some y:=h1
    have h2' : σ[i]? = some (some v):=h2
    rw [List.getElem?_map] at De
    cases hN:X.N[i]? with
    | none=>rw [hN] at De;cases De
    | some z =>
      rw [hN] at De
      have Nt:(if z=x then ("" : Str) else z)=y:=Option.some.inj De
      have vis : ∀ y,Qe (relabel scope X.env) y->y≠("" : Str):=λ y hv e=>by
       subst e
       have no : ∀ k,(relabel scope X.env).names.lookup ("" : Str)=some k->False:=λ k h=>by
        rcases cG (scope:=scope) (env:=X.env) h with q | ⟨_,q⟩ <;> (rw [S.noe] at q;cases q)
       rcases hv with q | q | q <;> exact no _ q
      have hz:z≠x:=λ e=>by rw [if_pos e] at Nt;exact vis y h3 Nt.symm
      rw [if_neg hz] at Nt
      subst Nt
      -- z is seen by MM block,and is no local of it: it is free there
      have hf:(z,NameKind.free)∈scope.names\/(relabel scope X.env).names.lookup z=some .local:=by
       rcases h3 with q | q | q
       ·exact .inr q
       ·exact .inl (qv (X:=X) (s3:=s3) (.inl q) S.cell)
       ·exact .inl (qv (X:=X) (s3:=s3) (.inr q) S.cell)
      have hfr:(z,NameKind.free)∈scope.names:=by
       rcases hf with q | q
       ·exact q
       ·rcases cG (scope:=scope) (env:=X.env) q with q | ⟨e,_⟩
        ·rcases S.only _ (lookup_mem q) rfl with e | e
         ·exact absurd e hz
         ·exact absurd (List.mem_of_getElem? hN) e
        ·cases e
      have hnl:(relabel scope X.env).names.lookup z≠some .local:=λ q=>by
       rcases cG (scope:=scope) (env:=X.env) q with q | ⟨e,_⟩
       ·rcases S.only _ (lookup_mem q) rfl with e | e
        ·exact absurd e hz
        ·exact absurd (List.mem_of_getElem? hN) e
       ·cases e
      have hk:=S.Vv _ hfr rfl
      obtain ⟨m0,hn0,hl0⟩:=I.loc
      obtain ⟨u,r,l⟩:=hl0 i z v hN h2' (hk.elim (λ q => .inr (.inl q)) λ q => .inr (.inr q))
      refine ⟨u,r,.inr ⟨?_,?_⟩⟩
      ·rcases h3 with q | q | q
       ·exact absurd q hnl
       ·exact .inl q
       ·exact .inr q
      ·rcases l with ⟨k,_⟩ | ⟨_,c,e,hc⟩
       ·have k':X.env.scope.names.lookup z=some .local:=k
        rcases hk with q | q <;> (rw [show List.lookup z X.env.scope.names=_ from k'] at q;cases q)
       ·obtain ⟨c',e'⟩:=jE (cells:=X.env.cells) scope.names [] (.inr hfr)
        have:=(fO I.ok S e').2
        rw [e] at this;cases this
        obtain ⟨o,ho,hd⟩:=hc
        exact ⟨c,e',o,kk _ _ ho,hd⟩
 ·obtain ⟨v,o,ho,hd⟩:=I.cell y c (fO I.ok S h).2
  exact ⟨v,o,kk _ _ ho,hd⟩
 ·have hp':p∈X.pn++pins:=by simpa [Cx.comp] using hp
  obtain ⟨a,b,c,d,e⟩:=I.pin p hp'
  refine ⟨kk _ _ a,b,Nat.ne_of_lt (Heap.lt_size a),λ z => ?_,e⟩
  rcases List.mem_cons.mp (I.uU _ z) with q | q
  ·exact c q
  ·exact d q
 ·show (none :: σ).length=(x::X.N.map λ y=>if y=x then ("" : Str) else y).length
  rw [List.length_cons,List.length_cons,List.length_map,I.len]
end
end L2
namespace L2
open PySem PySem.Spec PyProof.Rows
theorem Nu {P:Program} {w:World} {l:List Env} {ex:List Addr} {H H':Hp} {h0 h h2 B:Heap} (un:Un (frs l) ex H H' h0 h) (hok:j6 P w H' h) (fr:h.FunFrames B l)
  (tr : ∀ b u o,H' b=some u->h.get? b=some o->B.get? b=some o) (kp : ∀ b o o',h0.get? b=some o->h.get? b=some o'->b ∉ frs l->b ∉ ex->B.get? b=some o') (st:B.StaysIn h2)
  (sm : ∀ b∈frs l,∀ o,h.get? b=some o->(∀ vs,o.data ≠ .fields vs)->∃ sl,h2.get? b=some { o with slots:=sl }):Un (frs l) ex H H' h0 h2/\j6 P w H' h2:=by
 refine ⟨⟨λ b o q n hb hx => ?_,λ b o q n hb hx => ?_,un.free,λ b o q hx => ?_,un.tups,un.j7,un.kF⟩,λ a o e => ?_⟩
 ·exact st b o (kp b o o q (un.keep b o q n hb hx) hb hx)
 ·obtain ⟨sl,e⟩:=un.slot b o q n hb hx
  obtain ⟨_,o',ho',hd⟩:=fr.mem hb
  rw [e] at ho';cases ho'
  obtain ⟨JK,e'⟩:=sm b hb _ e hd
  exact ⟨JK,e'⟩
 ·obtain ⟨o',e⟩:=un.there b o q hx
  by_cases hb:b∈frs l
  ·obtain ⟨_,o2,ho2,hd⟩:=fr.mem hb
   obtain ⟨JK,e'⟩:=sm b hb _ ho2 hd
   exact ⟨_,e'⟩
  ·exact ⟨o',st b o' (kp b o o' q e hb hx)⟩
 ·refine (hok a o e).stay (λ b u hb q => ?_) (λ _ q=>q) λ _ _ q=>q
  rcases hb with rfl | hb
  ·exact st b u (tr b _ u e q)
  ·exact st b u (tr b _ u hb q)
def Sv (X:Cx) (E:XK):Value->Shared->Prop:=λ e s'' => ∃ (pins:List (Addr×Obj)) (σ : St) (H':Hp) (ea:Addr) (cls a0:Value) (B:Heap),Inv X pins σ H' s''/\e = .ref ea/\X.s₀.heap.get? ea=none/\Heap.HeldW B X.stack ea cls a0 X.env.locals s''.heap ∧
 (∀ b u o,H' b=some u->s''.heap.get? b=some o->B.get? b=some o)/\(∀ b o o',X.s₀.heap.get? b=some o->s''.heap.get? b=some o'->b ∉ frs X.stack->B.get? b=some o')/\E cls none H'
section
variable {P:Program} {w:World} {K:PySem.W.Frag} {mg:Str->Option Value} {base:Heap} {N:List Str} {qual:Str} {scope:Scope} {f:Addr} {cd:Value} {A:Around} {outer:List Env} {s:Shared} {H:Hp} {E:XK}
theorem Pe : ∀ e s',Sv (HW P w K mg base N qual scope f cd A outer s H E) E e s'->(HW P w K mg base N qual scope f cd A outer s H E).xe e s':=by
 rintro e s' ⟨pins,σ,H',ea,cls,a0,B,I,rfl,new,hh,tr,kp,hE⟩
 have hfs:frs (envOfC qual scope s.heap.objs.size f cd::outer)=s.heap.objs.size::frs outer:=kO rfl
 have hL:s.heap.get? s.heap.objs.size=none:=Heap.get?_none_of_le (Nat.le_refl _)
 have sub : ∀ x∈frs (envOfC qual scope s.heap.objs.size f cd::outer),x=s.heap.objs.size\/x∈frs outer:=λ x hx=>by rw [hfs] at hx;exact List.mem_cons.mp hx
 show wpAny _ _ (leaving _ _) _ _ s'
 unfold leaving
 refine wpAny_bind (wpAny_noteFrame_againW (L:=s.heap.objs.size) rfl hh.2.2.2 ?_)
 refine wpAny_landsW hh λ h2 sW sm => ?_
 have fr:s'.heap.FunFrames B outer:=hh.2.2.1.2.2
 have TF : ∀ b o o',s.heap.get? b=some o->s'.heap.get? b=some o'->b ∉ frs outer->B.get? b=some o':=λ b o o' q q' hb=>kp b o o' q q' λ z=>(sub b z).elim (λ e=>by rw [e,hL] at q;cases q) hb
 obtain ⟨QU,EL⟩:=Bl (l:=outer) I.base I.hok fr tr TF sW.1 sm
 obtain ⟨k1,k2,⟨_,_,k3⟩,k4⟩:=sW
 refine ⟨H',ea,cls,rfl,I.os,I.bare,⟨QU,EL,new,B,a0,⟨k1,k2,k3,k4⟩,λ b u o e q => ?_,λ b o o2 q q2 hb => ?_⟩,hE⟩
 ·obtain ⟨o',e'⟩:=(I.hok b u e).there
  have h1:=tr b u o' e e'
  have h2':=k1 b o' h1
  rw [q] at h2';cases h2';exact h1
 ·obtain ⟨o1,e1⟩:=I.base.there b o q (by intro z;cases z)
  have h1:=TF b o o1 q e1 hb
  have h2':=k1 b o1 h1
  rw [q2] at h2';cases h2';exact h1
end
theorem kQ {C:Addr} {h h' base:Heap} (hs:Heap.SameBut C h h') : ∀ {l:List Env},(∀ b∈frs l,b≠C)->h.FunFrames base l->h'.FunFrames base l
 | [],_,_=>trivial
 | env::l,hc,⟨hk,⟨L,o,hf,hn,ho,hd⟩,hr⟩=>⟨hk,⟨L,o,hf,hn,(hs.2 L (hc L (by rw [kO hf];exact List.mem_cons_self))).trans ho,hd⟩,kQ hs (λ b hb=>hc b (by rw [kO hf];exact List.mem_cons_of_mem _ hb)) hr⟩
theorem kR {M:Model} {A:Around} {E:Value->Shared->Prop} {s:Shared} {base:Heap} {l:List Env} {e L:Addr} {cls a0:Value} {Q:Unit->Shared->Prop} (R:Heap.HeldW base l e cls a0 L s.heap)
  (h : ∀ h',Heap.HeldW base l e cls a0 L h'->s.heap.UpToSlots h'->Q () { s with heap:=h' }):wpAny M A (setFlight (.ref e) (some L)) Q E s:=by
 obtain ⟨hkb,hen,hl,oe,vs,T,oT,ts,he,hcls,hd,h1,hnT,hTe,hT,Vw,h3⟩:=R
 have TH:3 < ts.size:=(Array.getElem?_eq_some_iff.mp h3).1
 have other : ∀ b,b≠T->(s.heap.update T (Obj.mapFields (·.setIfInBounds 3 ((some L).elim Value.none λ f=>rawInt f)))).get? b=s.heap.get? b :=
  λ b hb=>Heap.get?_update_other _ _ (Ne.symm hb)
 have Df : ∀ b o,s.heap.get? b=some o->(∀ vs,o.data ≠ .fields vs)->b≠T:=λ b o hb hnf q=>by
  rw [q,hT] at hb;injection hb with hb;subst hb;exact hnf ts Vw
 unfold setFlight
 refine wpAny_bind (wpAny_field he hd h1 ?_)
 rw [if_pos (show (Value.ref T != Value.none)=true from by simp)]
 refine wpAny_setField hT Vw TH (h _ ⟨λ b o Ww=>(other b λ q=>by rw [q,hnT] at Ww;cases Ww).trans (hkb b o Ww),hen,
  hl.of_keeps λ b o hb hnf=>⟨o,(other b (Df b o hb hnf)).trans hb,rfl⟩,?_⟩ λ b o hb hnf=>⟨o.slots,(other b (Df b o hb hnf)).trans hb⟩)
 exact ⟨oe,vs,T,_,_,(other e (Ne.symm hTe)).trans he,hcls,hd,h1,hnT,hTe,Heap.get?_update_self _ hT (Obj.isFreed_of_fields (Obj.data_mapFields Vw _)),Obj.data_mapFields Vw _,by simp [TH]⟩
theorem Dg {α : Type} {M:Model} {A:Around} {E:Value->Shared->Prop} {s:Shared} {base:Heap} {l:List Env} {e L:Addr} {cls a0:Value} {what:String} {env:Env} {Q : α->Shared->Prop} (hf:env.frame=some L) (R:Heap.HeldW base l e cls a0 L s.heap)
  (h : ∀ h',Heap.HeldW base l e cls a0 L h'->s.heap.UpToSlots h'->E (.ref e) { s with heap:=h' }):wpAny M A (PySem.passOn what (.ref e) env:Sem α) Q E s:=by
 obtain ⟨_,_,_,oe,vs,T,oT,ts,he,hcls,hd,h1,_⟩:=id R
 unfold PySem.passOn
 refine wpAny_bind (wpAny_field he hd h1 ?_)
 rw [if_neg (show ¬ ((Value.ref T == Value.none)=true) from by simp),hf]
 first
  | exact wpAny_bind (wpAny_pure (wpAny_bind (kR R λ h' hh hs=>wpAny_throw (h h' hh hs))))
  | exact wpAny_bind (kR R λ h' hh hs=>wpAny_throw (h h' hh hs))
theorem HX {C L e:Addr} {h h' B:Heap} {l:List Env} {cls a0:Value} {m:Str->Option Value} (R:Heap.HeldW B l e cls a0 L h) (hn:h.Ns C m) (hc : ∀ b∈frs l,b≠C) (hs:Heap.SameBut C h h'):Heap.HeldW (PySem.W.hideAll B [C]) l e cls a0 L h':=by
 have hB:(PySem.W.hideAll B [C]).StaysIn B:=λ b o q=>PySem.W.of_hideAll _ q
 obtain ⟨f1,f2,f3,oe,vs,T,oT,ts,a1,a2,a3,a4,a5,a6,a7,a8,a9⟩:=PySem.W.heldW_base hB R
 obtain ⟨oC,es,ep,hoC,hdC,_⟩:=hn
 have ne:e≠C:=λ z=>by rw [z,hoC] at a1;cases a1;rw [hdC] at a3;cases a3
 have nT:T≠C:=λ z=>by rw [z,hoC] at a7;cases a7;rw [hdC] at a8;cases a8
 refine ⟨λ b o q => ?_,f2,kQ hs hc f3,oe,vs,T,oT,ts,(hs.2 e ne).trans a1,a2,a3,a4,a5,a6,(hs.2 T nT).trans a7,a8,a9⟩
 have nb:b≠C:=λ z=>by rw [z,PySem.W.hideAll_none _ (by simp)] at q;cases q
 exact (hs.2 b nb).trans (f1 b o q)
section
variable {X:Cx} {pins:List (Addr×Obj)} {σ : St} {H3:Hp} {s3:Shared} {scope:Scope} {x:Str} {fp:List Addr}
abbrev XC (Xb:Cx) (E:XK):Value->Shared->Prop:=λ e s' => ∃ (uV:List (Addr×Obj)) (σ':St) (H1:Hp) (s1:Shared),Inv Xb uV σ' H1 s1/\yb Xb.prog Xb.w Xb.stack H1 s1 E e s'
theorem Bp {e:Value} {env env':Env} (h:env.frame=env'.frame):noteFrame e env=noteFrame e env':=by
 unfold noteFrame PySem.frameOf
 rw [h]
theorem Dh {E:XK} {Q:Value->Shared->Prop} {use:Option (Value->Sem Unit)} {acc:Value} {cenv:Env} {e:Value} {s':Shared} (hst:X.stack=X.env::X.outer) (hf:X.env.frame=some X.env.locals) (hex:X.ex = []) (I:Inv X pins σ H3 s3)
  (hfp : ∀ b∈fp,oM X pins H3 b) (QV : ∀ e s,Sv X E e s->X.xe e s) (hcf:cenv.frame=X.env.frame) (hcl:cenv.locals=s3.heap.objs.size) (h:XC (X.comp scope x pins fp s3 H3 λ _ _=>False) E e s') :
  notedBy (model X.prog X.w) X.A cenv (λ x s''=>gI (model X.prog X.w) X.A X.xe use Q acc cenv (.error x) s'') e s':=by
 obtain ⟨uV,σ',H1,s1,Ib,H',ea,cls,rfl,os,bare,fl,hE⟩:=h
 have fl:O5 X.prog X.w X.stack H1 s1.heap H' s'.heap ea cls:=fl
 have osb:s1.os=s3.os:=Ib.os
 have Wx:Un (frs X.stack) fp H3 H1 s3.heap s1.heap:=Ib.base
 obtain ⟨B,a0,hfl,tr,kp⟩:=fl.fly
 have fr:=hfl.2.2.1
 have Wy:Heap.FlyingW B (X.env::X.outer) ea cls a0 s'.heap:=by rw [<-hst];exact hfl
 have Su : ∀ b∈frs X.stack,b≠s3.heap.objs.size:=λ b hb z=>by
  obtain ⟨_,o,ho,_⟩:=I.stack.mem hb
  exact absurd (Heap.lt_size ho) (by rw [z];exact Nat.lt_irrefl _)
 show wpAny _ _ (noteFrame _ cenv) _ _ _
 rw [Bp hcf]
 refine wpAny_looks_onW (by rw [I.ok.frames,hst]) hf Wy λ h4 hh4 sm4 => ?_
 obtain ⟨m1,hn1,_⟩:=Ib.loc
 have hn1:s1.heap.Ns s3.heap.objs.size m1:=hn1
 obtain ⟨un4,afw⟩:=Bl fl.un fl.hok fr tr kp hh4.1 sm4
 have hC1:H1 s3.heap.objs.size=none:=Ib.free
 have hC':H' s3.heap.objs.size=none:=by
  obtain ⟨o,_,_,ho,_⟩:=hn1
  exact fl.un.free _ o ho hC1 (by intro z;cases z)
 have hn4:h4.Ns s3.heap.objs.size m1:=hn1.at' λ o ho=>un4.keep _ o ho hC1 (λ z=>Su _ z rfl) (by intro z;cases z)
 refine ⟨m1,by rw [hcl];exact hn4,λ h' hs' => ?_⟩
 rw [hcl] at hs'
 have hh':Heap.HeldW (PySem.W.hideAll B [s3.heap.objs.size]) X.stack ea cls a0 X.env.locals h':=HX (by rw [hst];exact hh4) hn4 Su hs'
 refine Dg (s := { s' with heap:=h' }) (hcf.trans hf) hh' λ h2 Vx sm2 => ?_
 have hB : ∀ b o,B.get? b=some o->b≠s3.heap.objs.size->(PySem.W.hideAll B [s3.heap.objs.size]).get? b=some o:=λ b o q n=>PySem.W.hideAll_get _ q (by simpa using n)
 have tr' : ∀ b u o,H' b=some u->s'.heap.get? b=some o->(PySem.W.hideAll B [s3.heap.objs.size]).get? b=some o:=λ b u o q qo=>hB b o (tr b u o q qo) λ z=>by rw [z,hC'] at q;cases q
 have TF : ∀ b o o',s3.heap.get? b=some o->s'.heap.get? b=some o'->b ∉ frs X.stack->b ∉ fp->(PySem.W.hideAll B [s3.heap.objs.size]).get? b=some o':=λ b o o' q q' hb hx=>by
  obtain ⟨o1,e1⟩:=Wx.there b o q hx
  exact hB b o' (kp b o1 o' e1 q' hb) (Nat.ne_of_lt (Heap.lt_size q))
 have fr':s'.heap.FunFrames (PySem.W.hideAll B [s3.heap.objs.size]) X.stack:=PySem.W.funFrames_base (λ b o q=>PySem.W.of_hideAll _ q) fr
 have sm' : ∀ b∈frs X.stack,∀ o,s'.heap.get? b=some o->(∀ vs,o.data ≠ .fields vs)->∃ sl,h2.get? b=some { o with slots:=sl } := λ b hb o q hd=>by
  obtain ⟨sl,e⟩:=sm4 b o q hd
  have e':h'.get? b=some { o with slots:=sl } := (hs'.2 b (Su b hb)).trans e
  obtain ⟨sl2,e2⟩:=sm2 b _ e' hd
  exact ⟨sl2,e2⟩
 have unA:Un (frs X.stack) fp H3 H' s3.heap s'.heap:=Wx.trans (fl.un.mono (λ _ z=>z) (λ _ z=>nomatch z))
 obtain ⟨QU,EL⟩:=Nu unA fl.hok fr' tr' TF Vx.1 sm'
 have I2:Inv X pins σ H' { s' with heap:=h2 } := I.OV (s' := { s' with heap:=h2 }) (ch:=fp) (os.trans osb) QU EL bare λ b hb=>⟨(hfp b hb).2.2.2.1,(hfp b hb).2.1,(hfp b hb).2.2.2.2.1,(hfp b hb).2.2.2.2.2⟩
 have nx : ∀ b o,X.s₀.heap.get? b=some o->b ∉ fp:=λ b o q z=>by
  rcases (hfp b z).2.2.2.1 with y | y
  ·rw [hex] at y;cases y
  ·exact absurd (Nat.lt_of_lt_of_le (Heap.lt_size q) y) (Nat.lt_irrefl _)
 have in3 : ∀ b o,X.s₀.heap.get? b=some o->∃ o',s3.heap.get? b=some o':=λ b o q=>I.base.there b o q (by rw [hex];intro z;cases z)
 refine QV _ _ ⟨pins,σ,H',ea,cls,a0,_,I2,rfl,?_,Vx,λ b u o q qo => ?_,λ b o o2 q q2 hb => ?_,hE⟩
 ·cases q:X.s₀.heap.get? ea with
  | none=>rfl
  | some o =>
    obtain ⟨o3,e3⟩:=in3 ea o q
    obtain ⟨o1,e1⟩:=Wx.there ea o3 e3 (nx ea o q)
    rw [fl.new] at e1;cases e1
 ·obtain ⟨o',e'⟩:=(fl.hok b u q).there
  have h1:=tr' b u o' q e'
  have h2':=Vx.1 b o' h1
  rw [qo] at h2';cases h2';exact h1
 ·obtain ⟨o3,e3⟩:=in3 b o q
  obtain ⟨o1,e1⟩:=unA.there b o3 e3 (nx b o q)
  have h1:=TF b o3 o1 e3 e1 hb (nx b o q)
  have h2':=Vx.1 b o1 h1
  rw [q2] at h2';cases h2';exact h1
end
end L2
namespace L2
open PySem PySem.Spec PyProof.Rows
def GR (wi:TI) (tt:TT) (te:TE):TE:=fun σ H Q=>wi σ H λ J H1 => ∀ p,H1 p=none->∃ W:Nat->Nat->List V->Hp->Prop,(∃ m,W 0 m [] (upd H1 p (.lst []))) ∧ ∀ i m acc H2,W i m acc H2 →
 H2 p=some (.lst acc)/\((J.stop i H2/\Q (.ref p) H2)\/(J.go i H2 ∧ ∃ N:List V->Hp->Prop,(∀ acc' H',N acc' H'->∃ m',m' < m/\W (i+1) m' acc' H') ∧ ∀ x H3,J.M7 i H2 x H3->tt (some x :: σ) H3 λ b H4 =>
  if b=true then te (some x :: σ) H4 λ v H5=>H5 p=some (.lst acc)/\acc.length < sizeLine/\N (acc++[v]) (upd H5 p (.lst (acc++[v]))) else N acc H4))
def EN:TT:=λ _ H Q=>Q true H
def TJ (X:Cx) (ifs:List Expr) (t:TT):Prop :=
 ∀ (pins:List (Addr×Obj)) (s:Shared) (σ : St) (H:Hp) (Q:Bool->Hp->Prop),Inv X pins σ H s->t σ H Q->wpAny (model X.prog X.w) X.A (forIn ifs true λ c r=>if r=true then do let ok <-isTrue c X.env (eval c X.env);pure (ForInStep.yield ok) else pure (ForInStep.yield r)) (TP X pins σ Q) X.xe s
theorem l8 {X:Cx} : TJ X [] EN:=λ pins s σ H Q I h=>wpAny_tests_nil ⟨H,I,h⟩
theorem uM {X:Cx} {c:Expr} {t:TT} (h:PT X c t):TJ X [c] t:=λ pins s σ H Q I q=>wpAny_tests_one (h pins s σ H Q I q)
section
variable {X:Cx} {pins:List (Addr×Obj)} {σ : St} {H3:Hp} {s3:Shared} {scope:Scope} {x:Str} {fp:List Addr}
theorem Bq {E:Value->Shared->Prop} {H':Hp} (I:Inv X pins σ H3 s3) (S:kP scope X.env.scope x X.N) (hfp : ∀ b∈fp,oM X pins H3 b) (hfo : ∀ b∈fp,∃ o,s3.heap.get? b=some o) (hn : ∀ b∈fp,H' b=none) : ∀ b∈fp,oM (X.comp scope x pins fp s3 H3 E) [] H' b:=λ b hb=>by
 obtain ⟨o,e⟩:=hfo b hb
 refine ⟨hn b hb,Nat.ne_of_lt (Heap.lt_size e),λ z => ?_,.inl hb,λ y c h=>(hfp b hb).2.2.2.2.1 y c (fO I.ok S h).2,λ p hp=>(hfp b hb).2.2.2.2.2 p (by simpa [Cx.comp] using hp)⟩
 rcases List.mem_cons.mp (I.uU b z) with q | q
 ·exact (hfp b hb).2.1 q
 ·exact (hfp b hb).2.2.1 q
theorem HY {E:Value->Shared->Prop} {uV:List (Addr×Obj)} {σ':St} {H':Hp} {s':Shared} (I:Inv X pins σ H3 s3) (hfp : ∀ b∈fp,oM X pins H3 b) (J:Inv (X.comp scope x pins fp s3 H3 E) uV σ' H' s'):Inv X pins σ H' s' :=
 I.OV (ch:=fp) J.os J.base J.hok J.bare λ b hb=>⟨(hfp b hb).2.2.2.1,(hfp b hb).2.1,(hfp b hb).2.2.2.2.1,(hfp b hb).2.2.2.2.2⟩
theorem sG {E:Value->Shared->Prop} {H':Hp} {σ'':St} {s' s'':Shared} {h':Heap} (I:Inv X pins σ H3 s3) (J:Inv X pins σ'' H' s'') (hC:H' s3.heap.objs.size=none) (hs:Heap.SameBut s3.heap.objs.size s''.heap h'):Inv X pins σ'' H' { s'' with heap:=h' } := by
 refine J.turned (t':=s''.toks) (λ b o hb e=>(hs.2 b hb).trans e) hC (Nat.ne_of_gt I.lt) (.inr I.sz) (λ y c e z => ?_) λ p hp z => ?_
 ·obtain ⟨v,q⟩:=I.cell y c e
  exact absurd q.lt (by rw [z];exact Nat.lt_irrefl _)
 ·exact absurd (Heap.lt_size (I.pin p hp).1) (by rw [z];exact Nat.lt_irrefl _)
theorem Br {prog:Program} {w:World} {A:Around} {R:Result->Shared->Prop} {s:Shared} {elt target iter:Expr} {ifs:List Expr} {scope:Scope} {pos:Pos} {it acc:Value} {env:Env} (I:Nat->Shared->Prop)
  (turn : ∀ n s,I n s->wpAny (model prog w) A (pyNext it) (λ r s₁ => match r with
   | none=>R (.ok .next) s₁
   | some v=>wpAny (model prog w) A (letOwnedTupleGo target it v) (λ _ s₁'=>wpAny (model prog w) A (assign target env v) (λ _ s₂ =>
     wpAny (model prog w) A (forIn ifs true λ c r=>if r=true then do let ok <-isTrue c env (eval c env);pure (ForInStep.yield ok) else pure (ForInStep.yield r)) (λ ok s₃ =>
      if ok=true then wpAny (model prog w) A (eval elt env) (λ x s₄ =>
       wpAny (model prog w) A (call (.builtin "list.append") [acc,x]) (λ _ s₅ => ∃ m,m < n/\I m s₅) (notedBy (model prog w) A env λ e s'=>R (.error e) s') s₄) (notedBy (model prog w) A env λ e s'=>R (.error e) s') s₃
      else ∃ m,m < n/\I m s₃) (notedBy (model prog w) A env λ e s'=>R (.error e) s') s₂) (notedBy (model prog w) A env λ e s'=>R (.error e) s') s₁') (notedBy (model prog w) A env λ e s'=>R (.error e) s') s₁) (notedBy (model prog w) A env λ e s'=>R (.error e) s') s)
  (n:Nat) (h:I n s) :
  codeAny (model prog w) A (.compLoop (.ListComp elt [⟨target,iter,ifs,0⟩] scope pos) 0 it acc env) R s:=by
 refine codeAny_loop rfl I (λ n s hI => ?_) n h
 show wpAny _ A ((compTurn (.ListComp elt [⟨target,iter,ifs,0⟩] scope pos) 0 it acc env).onRaise (λ x=>do noteFrame x env;theTreesLotGoes x)) _ _ s
 refine wpAny_noted ?_
 rw [compTurn_list]
 refine wpAny_bind (wpAny_standAt (wpAny_bind (wpAny_mono (turn n s hI) (λ r s₁ h₁ => ?_) λ _ _ h'=>h')))
 cases r with
 | none=>exact wpAny_pure h₁
 | some v =>
   refine wpAny_bind (wpAny_mono h₁ (λ _ s₁' h₁' => ?_) λ _ _ h'=>h')
   refine wpAny_bind (wpAny_mono h₁' (λ _ s₂ h₂ => wpAny_bind (wpAny_mono h₂ (λ ok s₃ h₃ => ?_) λ _ _ h'=>h')) λ _ _ h'=>h')
   cases ok with
   | false=>exact wpAny_pure ⟨rfl,h₃⟩
   | true =>
     exact wpAny_bind (wpAny_bind (wpAny_mono h₃ (λ x s₄ h₄ => wpAny_bind (wpAny_mono h₄ (λ _ s₅ h₅ => wpAny_pure (wpAny_pure ⟨rfl,h₅⟩)) λ _ _ h'=>h')) λ _ _ h'=>h'))
theorem vn {E:XK} {use:Option (Value->Sem Unit)} {QQ:Value->Shared->Prop} {elt iter:Expr} {px:Pos} {ifs:List Expr} {pos:Pos} {tt:TT} {te:TE} {it:Addr} {tn:Nat->Heap->Prop} {J:It} {Q:VK} {H2:Hp} {s2:Shared}
  (hc:X.calm=true) (hst:X.stack=X.env::X.outer) (hf:X.env.frame=some X.env.locals) (hex:X.ex = []) (QV : ∀ e s,Sv X E e s->X.xe e s) (S:kP scope X.env.scope x X.N)
  (ht : ∀ (pins:List (Addr×Obj)) (fp:List Addr) (s3:Shared) (H3:Hp),TJ ((X.comp scope x pins fp s3 H3 λ _ _=>False).kH (XC (X.comp scope x pins fp s3 H3 λ _ _=>False) E)) ifs tt)
  (he : ∀ (pins:List (Addr×Obj)) (fp:List Addr) (s3:Shared) (H3:Hp),PE ((X.comp scope x pins fp s3 H3 λ _ _=>False).kH (XC (X.comp scope x pins fp s3 H3 λ _ _=>False) E)) elt te)
  (I2:Inv X pins σ H2 s2) (T:Turn X.prog X.w X.K (.Name x px) J fp it tn) (st2:tn 0 s2.heap) (f2 : ∀ b∈fp,oM X pins H2 b)
  (h : ∀ p,H2 p=none->∃ W:Nat->Nat->List V->Hp->Prop,(∃ m,W 0 m [] (upd H2 p (.lst []))) ∧ ∀ i m acc H2,W i m acc H2 →
   H2 p=some (.lst acc)/\((J.stop i H2/\Q (.ref p) H2)\/(J.go i H2 ∧ ∃ N:List V->Hp->Prop,(∀ acc' H',N acc' H'->∃ m',m' < m/\W (i+1) m' acc' H') ∧ ∀ x H3,J.M7 i H2 x H3->tt (some x :: σ) H3 λ b H4 =>
    if b=true then te (some x :: σ) H4 λ v H5=>H5 p=some (.lst acc)/\acc.length < sizeLine/\N (acc++[v]) (upd H5 p (.lst (acc++[v]))) else N acc H4)))
  (fin : ∀ (s3:Shared) (H3:Hp) (p:Addr) (s':Shared) (H':Hp) (m:Str->Option Value),Inv X pins σ H3 s3->Inv X pins σ H' s'->H' s3.heap.objs.size=none->s'.heap.Ns s3.heap.objs.size m->Q (.ref p) H'->∀ cenv:Env,cenv.locals=s3.heap.objs.size->gI (model X.prog X.w) X.A X.xe use QQ (.ref p) cenv (.ok .next) s') :
  wpAny (model X.prog X.w) X.A (newList []) (λ acc s₃ => wpAny (model X.prog X.w) X.A (newFunctionEnv scope X.env.globals (dF X.env.cells scope.names []) [] X.env.qual none .none (some X.env)) (λ cenv s₄ =>
   codeAny (model X.prog X.w) X.A (.compStart (.ListComp elt [⟨.Name x px,iter,ifs,0⟩] scope pos) 0 (.ref it) acc { cenv with scope:=relabel scope X.env }) (gI (model X.prog X.w) X.A X.xe use QQ acc { cenv with scope:=relabel scope X.env }) s₄) X.xe s₃) X.xe s2:=by
 have hp:H2 s2.heap.objs.size=none:=I2.hok.fresh (Nat.le_refl _)
 obtain ⟨W,⟨m0,w0⟩,turn⟩:=h _ hp
 refine wpAny_newObj_type (wpAny_newFunctionEnv S.cell (by intro y hy;simp at hy) (λ h₁ QW Wz => ?_) S.kind)
 generalize TL:({ s2 with heap:=s2.heap.push { cls := .type "list",dict:=none,data := .seq ([]:List Value).toArray } } : Shared)=s3
 have TM:s3.heap=s2.heap.push { cls := .type "list",dict:=none,data := .seq ([]:List Value).toArray } := by rw [<-TL]
 have I3:Inv X pins σ (upd H2 s2.heap.objs.size (.lst [])) s3:=by
  rw [<-TL]
  exact I2.laid (t':=s2.toks) (λ b o e=>Heap.get?_push_of_some _ e) (Nat.le_refl _) ⟨by show 0<=sizeLine;exact Nat.zero_le _,[],0,.nil,Heap.get?_push_size _ rfl⟩
 have f3 : ∀ b∈fp,oM X pins (upd H2 s2.heap.objs.size (.lst [])) b:=λ b hb=>⟨by
  obtain ⟨o,e,_⟩:=T.obj _ _ st2 b hb
  rw [b3 (Nat.ne_of_lt (Heap.lt_size e))];exact (f2 b hb).1,(f2 b hb).2⟩
 have o3 : ∀ b∈fp,∃ o,s3.heap.get? b=some o:=λ b hb=>by
  obtain ⟨o,e,_⟩:=T.obj _ _ st2 b hb
  exact ⟨o,by rw [TM];exact Heap.get?_push_of_some _ e⟩
 have QW:h₁.Ns s3.heap.objs.size (λ x=>([]:List (Str×Value)).reverse.lookup x):=by rw [TM];exact QW
 have kk : ∀ b o,s3.heap.get? b=some o->h₁.get? b=some o:=λ b o e=>Wz.extBut b o (by
  have:=Heap.lt_size e
  rw [TM] at this
  exact Nat.ne_of_lt this) (Heap.get?_push_of_some _ (by rw [<-TM];exact e))
 generalize WA:({ s3 with heap:=h₁,toks:=s3.toks+([]:List (Str×Value)).length } : Shared)=s4
 have WB:s4.heap=h₁ := by rw [<-WA]
 have I4:Inv (X.comp scope x pins fp s3 (upd H2 s2.heap.objs.size (.lst [])) λ _ _=>False) [] (none :: σ) (upd H2 s2.heap.objs.size (.lst [])) s4:=EM I3 S f3 o3 (by rw [WB];exact QW) (by rw [WB];exact kk) (by rw [<-WA]) (by rw [<-WA];exact I3.bare)
 have st4:tn 0 s4.heap:=T.keep _ _ _ st2 λ b hb o e=>by rw [WB];exact kk b o (by rw [TM];exact Heap.get?_push_of_some _ e)
 have loop:codeAny (model X.prog X.w) X.A (.compLoop (.ListComp elt [⟨.Name x px,iter,ifs,0⟩] scope pos) 0 (.ref it) (.ref s2.heap.objs.size) (compEnvC scope (dF X.env.cells scope.names []) s3.heap.objs.size X.env))
   (gI (model X.prog X.w) X.A X.xe use QQ (.ref s2.heap.objs.size) (compEnvC scope (dF X.env.cells scope.names []) s3.heap.objs.size X.env)) s4:=by
  have raised : ∀ e s',XC (X.comp scope x pins fp s3 (upd H2 s2.heap.objs.size (.lst [])) λ _ _=>False) E e s'->notedBy (model X.prog X.w) X.A (compEnvC scope (dF X.env.cells scope.names []) s3.heap.objs.size X.env) (λ x s''=>gI (model X.prog X.w) X.A X.xe use QQ (.ref s2.heap.objs.size) (compEnvC scope (dF X.env.cells scope.names []) s3.heap.objs.size X.env) (.error x) s'') e s' :=
   λ e s' h=>Dh hst hf hex I3 f3 QV rfl rfl h
  refine Br (λ n s' => ∃ i acc H' v0,Inv (X.comp scope x pins fp s3 (upd H2 s2.heap.objs.size (.lst [])) λ _ _=>False) [] (v0 :: σ) H' s'/\tn i s'.heap/\(∀ b∈fp,H' b=none)/\W i n acc H') ?_ m0 ⟨0,[],_,none,I4,st4,λ b hb=>(f3 b hb).1,w0⟩
  rintro n s5 ⟨i,acc,H5,v0,I5,Sl,Vg,w5⟩
  obtain ⟨hacc,hh⟩:=turn i n acc H5 w5
  rcases hh with ⟨stop,q⟩ | ⟨go,N,hN,step⟩
  ·refine cV (T.done (X.comp scope x pins fp s3 (upd H2 s2.heap.objs.size (.lst [])) λ _ _=>False) rfl rfl rfl hc i [] s5 _ H5 _ I5 (Bq I3 S f3 o3 Vg) Sl stop) λ r s6 ⟨hr,I6⟩ => ?_
   subst hr
   obtain ⟨m6,hn6,_⟩:=id I6.loc
   exact fin s3 _ _ s6 H5 m6 I3 (HY I3 f3 I6) I6.free hn6 q _ rfl
  ·refine cV (T.item (X.comp scope x pins fp s3 (upd H2 s2.heap.objs.size (.lst [])) λ _ _=>False) rfl rfl rfl hc i [] s5 _ H5 _ I5 (Bq I3 S f3 o3 Vg) Sl go) λ r s6 ⟨u,hr,h6⟩ => ?_
   subst hr
   refine cV h6 λ _ s7 ⟨y,H7,I7,r7,y7,WC,fr7⟩ => ?_
   have I7':=I7.pinned (Bq I3 S f3 o3 fr7) (T.obj _ _ WC)
   have again : ∀ {n':List V} {v1:Option V} {H9:Hp} {s9:Shared},Inv (X.comp scope x pins fp s3 (upd H2 s2.heap.objs.size (.lst [])) λ _ _=>False) ([]++uY fp s7.heap) (v1 :: σ) H9 s9->N n' H9->∃ m,m < n ∧ ∃ i acc H' v0,Inv (X.comp scope x pins fp s3 (upd H2 s2.heap.objs.size (.lst [])) λ _ _=>False) [] (v0 :: σ) H' s9/\tn i s9.heap/\(∀ b∈fp,H' b=none)/\W i m acc H':=fun {n' v1 H9 s9} I9 n9=>by
    obtain ⟨m',hm,w9⟩:=hN n' H9 n9
    refine ⟨m',hm,i+1,n',H9,v1,I9.oN,T.keep _ _ _ WC λ b hb o e=>(I9.pin (b,o) (List.mem_append_right _ (List.mem_append_right _ (jz hb e)))).1,λ b hb => ?_,w9⟩
    obtain ⟨o,e,d⟩:=T.obj _ _ WC b hb
    exact (I9.pin (b,o) (List.mem_append_right _ (List.mem_append_right _ (jz hb e)))).2.1
   refine wpAny_assign_Name (uW (X:=X.comp scope x pins fp s3 (upd H2 s2.heap.objs.size (.lst [])) λ _ _=>False) (i:=0) I7' S.nd rfl (Or.inl (lookup_relabel_local S.loc)) r7 (λ s8 I8 => ?_) (Or.inr (lookup_relabel_local S.loc)))
   refine wpAny_mono (ht pins fp s3 _ _ s8 _ H7 _ (I8.kH _) (step y H7 y7)) (λ ok s9 ⟨H9,I9,q9⟩ => ?_) raised
   cases ok with
   | false =>
     rw [if_neg Bool.false_ne_true]
     have WE:N acc H9:=by simpa using q9
     exact again I9.gi WE
   | true =>
     rw [if_pos rfl]
     have WE:te (some y :: σ) H9 (λ v H5=>H5 s2.heap.objs.size=some (.lst acc)/\acc.length < sizeLine/\N (acc++[v]) (upd H5 s2.heap.objs.size (.lst (acc++[v])))):=q9
     refine wpAny_mono (he pins fp s3 _ _ s9 _ H9 _ I9 WE) (λ u10 s10 ⟨v,Nv,I10,r10,ha,hl,n10⟩ => ?_) raised
     refine wpAny_mono (HQ (X:=(X.comp scope x pins fp s3 (upd H2 s2.heap.objs.size (.lst [])) λ _ _=>False).kH (XC (X.comp scope x pins fp s3 (upd H2 s2.heap.objs.size (.lst [])) λ _ _=>False) E)) _ s10 _ Nv (.ref s2.heap.objs.size) [v] (.ref s2.heap.objs.size) [u10] (λ w H'=>w = .aH/\H' = upd Nv s2.heap.objs.size (.lst (acc++[v]))) I10 rfl (.cons r10 .nil) ⟨_,acc,v,rfl,rfl,ha,hl,rfl,rfl⟩) (λ u11 s11 ⟨v11,Pf,I11,r11,q11,e11⟩ => ?_) raised
     rw [e11] at I11
     exact again I11.gi n10
 exact codeAny_compStart_list loop (T.self _ 0 _ _ _ st4 loop)
end
section
variable {X:Cx} {scope:Scope} {x:Str} {E:XK} {elt iter:Expr} {px pos:Pos} {ifs:List Expr} {wi:TI} {tt:TT} {te:TE}
abbrev Cx.Vy (X:Cx) (scope:Scope) (x:Str) (pins:List (Addr×Obj)) (fp:List Addr) (s3:Shared) (H3:Hp) (E:XK):Cx:=(X.comp scope x pins fp s3 H3 λ _ _=>False).kH (XC (X.comp scope x pins fp s3 H3 λ _ _=>False) E)
theorem oU (hc:X.calm=true) (hst:X.stack=X.env::X.outer) (hf:X.env.frame=some X.env.locals) (hex:X.ex = []) (QV : ∀ e s,Sv X E e s->X.xe e s) (S:kP scope X.env.scope x X.N) (hi:PI X (.Name x px) iter wi)
  (ht : ∀ pins fp s3 H3,TJ (X.Vy scope x pins fp s3 H3 E) ifs tt) (he : ∀ pins fp s3 H3,PE (X.Vy scope x pins fp s3 H3 E) elt te) (hs : ∀ x,foldedSetIterable iter X.env x=pure x:=by intro _;rfl) :
  PE X (.ListComp elt [⟨.Name x px,iter,ifs,0⟩] scope pos) (GR wi tt te):=by
 intro pins s σ H Q I h
 rw [eval_ListComp]
 refine f7 (use:=none) rfl hs (mY λ y hy e=>I.ok.has y.1 (S.Vv y hy e)) S.kind S.nms (cV (hi pins s σ H _ I h) λ v s1 h1=>cV h1 λ itv s2 h2 => ?_)
 obtain ⟨it,fp,tn,J,H2,e,I2,T,st2,f2,hW⟩:=h2
 subst e
 refine vn hc hst hf hex QV S ht he I2 T st2 f2 hW λ s3 H3 p s' H' m I3 I' hC hn q cenv hcl => ?_
 refine ⟨m,by rw [hcl];exact hn,λ h' hs'=>⟨.ref p,H',sG (E:=X.xe) (s':=s') I3 I' hC (by rw [<-hcl];exact hs'),rfl,q⟩⟩
theorem gT {y:Str} {i:Nat} {py spos:Pos} (hc:X.calm=true) (hst:X.stack=X.env::X.outer) (hf:X.env.frame=some X.env.locals) (hex:X.ex = []) (QV : ∀ e s,Sv X E e s->X.xe e s) (S:kP scope X.env.scope x X.N) (hi:PI X (.Name x px) iter wi)
  (ht : ∀ pins fp s3 H3,TJ (X.Vy scope x pins fp s3 H3 E) ifs tt) (he : ∀ pins fp s3 H3,PE (X.Vy scope x pins fp s3 H3 E) elt te) (hN:X.N.Nodup) (hy:X.N[i]? = some y) (hl:Loc X.env.scope y)
  (hs : ∀ x,foldedSetIterable iter X.env x=pure x:=by intro _;rfl) (hsw:swapsWith (.ListComp elt [⟨.Name x px,iter,ifs,0⟩] scope pos) (some (.Name y py)) spos.line X.env=pure true:=by rfl)
  (hfn:X.fn y=true\/X.env.scope.names.lookup y=some .local:=by first | exact .inl rfl | exact .inr rfl | assumption) :
  PS X (.Assign [.Name y py] (.ListComp elt [⟨.Name x px,iter,ifs,0⟩] scope pos) spos) (JU (GR wi tt te) (sy i)):=by
 intro pins s σ H D I h
 rw [exec_Assign_Name_used _ _ _ _ hsw]
 refine wpAny_bind (wpAny_standAt (wpAny_bind ?_))
 show wpAny _ X.A (do let _ <-comprehension (.ListComp elt [⟨.Name x px,iter,ifs,0⟩] scope pos) scope X.env _ (newList []) false (eval iter X.env) (some (assign (.Name y py) X.env))) _ _ s
 refine wpAny_bind (wpAny_mono (f7 (use:=some (assign (.Name y py) X.env)) (Q:=λ _ s'=>SP X pins D .next s') rfl hs (mY λ y hy e=>I.ok.has y.1 (S.Vv y hy e)) S.kind S.nms
  (cV (hi pins s σ H _ I h) λ v s1 h1=>cV h1 λ itv s2 h2 => ?_)) (λ _ s' hq=>wpAny_pure (wpAny_pure hq)) λ _ _ e=>e)
 obtain ⟨it,fp,tn,J,H2,e,I2,T,st2,f2,hW⟩:=h2
 subst e
 refine vn (Q:=λ v H1=>sy i v σ H1 D.nx) hc hst hf hex QV S ht he I2 T st2 f2 hW λ s3 H3 p s' H' m I3 I' hC hn q cenv hcl => ?_
 show wpAny _ X.A (assign (.Name y py) X.env (.ref p)) _ _ s'
 refine wpAny_assign_Name (An I' hN hy hl (v := .ref p) rfl (λ s'' I'' hch => ?_) hfn)
 obtain ⟨a,hsb,ha⟩:=hch
 have Sk:s3.heap.objs.size≠a:=by
  rcases ha with rfl | ha
  ·exact Nat.ne_of_gt I3.lt
  ·obtain ⟨w,z⟩:=I3.cell y a ha
   exact Nat.ne_of_gt z.lt
 refine ⟨m,by rw [hcl];exact hn.sameBut hsb Sk,λ h' hs'=>⟨_,H',sG (E:=X.xe) (s':=s') I3 I'' hC (by rw [<-hcl];exact hs'),q⟩⟩
end
end L2
namespace L2
open PySem PySem.Spec PyProof.Rows
mutual
inductive eg (H:Hp):V->PyData->Prop
 | aH:eg H .aH .none
 | bl (b:Bool):eg H (.bl b) (.bool b)
 | int (i:Int):eg H (.int i) (.int i)
 | str (x:Str):eg H (.str x) (.str x)
 | lst {a:Addr} {xs:List V} {ds:List PyData} (e:H a=some (.lst xs)) (h:bQ H xs ds):eg H (.ref a) (.list ds)
 | tup {a:Addr} {xs:List V} {ds:List PyData} (e:H a=some (.tup xs)) (h:bQ H xs ds):eg H (.ref a) (.tuple ds)
inductive bQ (H:Hp):List V->List PyData->Prop
 | nil:bQ H [] []
 | cons {x:V} {xs:List V} {d:PyData} {ds:List PyData} : eg H x d->bQ H xs ds->bQ H (x::xs) (d::ds)
end
mutual
theorem eg.reads {P:Program} {w:World} {H:Hp} {h:Heap} (ok:j6 P w H h) : ∀ {x:V} {d:PyData} {u:Value},eg H x d->RelV x u->∃ as,Reads h u d as
 | _,_,_,.aH,r=>by cases r;exact ⟨_,.none⟩
 | _,_,_,.bl b,r=>by cases r;exact ⟨_,.bool b⟩
 | _,_,_,.int i,r=>by obtain ⟨t,rfl⟩:=r;exact ⟨_,.int i t⟩
 | _,_,_,.str x,r=>by obtain ⟨t,rfl⟩:=r;exact ⟨_,.str x t⟩
 | _,_,_,.lst e hs,r=>by
   cases r
   obtain ⟨_,its,n,rv,ho⟩:=(show bS P w H h _ (.lst _) from ok _ _ e)
   obtain ⟨as,ra⟩:=bQ.reads ok hs rv
   exact ⟨_,.list ho rfl rfl ra⟩
 | _,_,_,.tup e hs,r=>by
   cases r
   obtain ⟨_,its,rv,o,ho,hc,n,hd⟩:=(show bS P w H h _ (.tup _) from ok _ _ e)
   obtain ⟨as,ra⟩:=bQ.reads ok hs rv
   exact ⟨_,.tuple ho hc hd ra⟩
theorem bQ.reads {P:Program} {w:World} {H:Hp} {h:Heap} (ok:j6 P w H h) : ∀ {xs:List V} {ds:List PyData} {us:List Value},bQ H xs ds->Vals xs us->∃ as,ReadsAll h us ds as
 | _,_,_,.nil,.nil=>⟨_,.nil⟩
 | _,_,_,.cons a b,.cons r t=>by
   obtain ⟨_,ra⟩:=eg.reads ok a r
   obtain ⟨_,rb⟩:=bQ.reads ok b t
   exact ⟨_,.cons ra rb⟩
end
mutual
theorem eg.mono {H H':Hp} (k : ∀ a xs,H a=some (.lst xs)->H' a=some (.lst xs)) (k2 : ∀ a xs,H a=some (.tup xs)->H' a=some (.tup xs)) : ∀ {x:V} {d:PyData},eg H x d->eg H' x d
 | _,_,.aH => .aH
 | _,_,.bl b => .bl b
 | _,_,.int i => .int i
 | _,_,.str x => .str x
 | _,_,.lst e hs => .lst (k _ _ e) (bQ.mono k k2 hs)
 | _,_,.tup e hs => .tup (k2 _ _ e) (bQ.mono k k2 hs)
theorem bQ.mono {H H':Hp} (k : ∀ a xs,H a=some (.lst xs)->H' a=some (.lst xs)) (k2 : ∀ a xs,H a=some (.tup xs)->H' a=some (.tup xs)) : ∀ {xs:List V} {ds:List PyData},bQ H xs ds->bQ H' xs ds
 | _,_,.nil => .nil
 | _,_,.cons a b => .cons (eg.mono k k2 a) (bQ.mono k k2 b)
end
theorem eg.same {H H':Hp} (s:j8 H H') {x:V} {d:PyData} (h:eg H x d):eg H' x d:=h.mono (λ _ _ e=>s _ _ e) λ _ _ e=>s _ _ e
theorem bQ.same {H H':Hp} (s:j8 H H') {xs:List V} {ds:List PyData} (h:bQ H xs ds):bQ H' xs ds:=h.mono (λ _ _ e=>s _ _ e) λ _ _ e=>s _ _ e
theorem bQ.append {H:Hp} : ∀ {xs ys:List V} {ds es:List PyData},bQ H xs ds->bQ H ys es->bQ H (xs++ys) (ds++es)
 | _,_,_,_,.nil,h=>h
 | _,_,_,_,.cons a b,h => .cons a (bQ.append b h)
theorem bQ.length {H:Hp} : ∀ {xs:List V} {ds:List PyData},bQ H xs ds->xs.length=ds.length
 | _,_,.nil=>rfl
 | _,_,.cons _ b=>by rw [List.length_cons,List.length_cons,bQ.length b]
abbrev shaped:=PySem.SeqAt.shaped
section
variable {X:Cx}
end
end L2
set_option Elab.async false
set_option linter.all false
set_option maxRecDepth 100000
namespace L2
open PySem PySem.Spec PyProof.Rows
theorem kT : ∀ (ns:List Int),∀ n∈ns,Builtin.Int.intBits n<=PySem.W.WData.weightAll (ns.map PySem.W.WData.int)
 | m::r,n,h=>by
   simp only [List.map_cons,PySem.W.WData.weightAll]
   rcases List.mem_cons.mp h with rfl | h
   ·have:PySem.W.WData.weight (.int n)=Builtin.Int.intBits n:=by simp only [PySem.W.WData.weight,Builtin.Int.intBits]
    omega
   ·have:=kT r n h
    omega
theorem Di {ns:List Int} (h:PySem.W.WData.layableAll [.list (ns.map PySem.W.WData.int)]=true) : ∀ n∈ns,Builtin.Int.intBits n<=1048576:=λ n hn=>by
 have h1:PySem.W.WData.layable (.list (ns.map PySem.W.WData.int))=true:=by simpa [PySem.W.WData.layableAll] using h
 unfold PySem.W.WData.layable at h1
 have h2:=of_decide_eq_true (Bool.and_eq_true_iff.mp h1).2
 have e:(2:Nat) ^ 20=1048576:=by decide
 simp only [PySem.W.WData.weight,e] at h2
 exact Nat.le_trans (kT ns n hn) h2
end L2
namespace Vk
open PySem PySem.W PySem.Calls PyProof.Rows
theorem Bs {l:OpenLaw} {n:Nat} {q:Program} {loose:List Str} {XP:(Str->Option Value)->Heap->Prop} {YP:World->Heap->Prop} {d:DefRec}
  (hn:l.most=some n) (hdf:d.params.defaults = [])
  (call : ∀ (w:World) (s₀ s₁ : Shared) (mg mb:Str->Option Value) (fa:Addr) (o:Obj) (pm cd doc:Value) (a:Addr) (vs:List Value) (ns:List Int),
   Ground q loose [] XP w s₀ mg mb s₁.heap->YP w s₁.heap →
   s₁.heap.get? fa=some o->o.data = .func (docDef d.name d.params d.body d.scope pm cd doc)->s₁.heap.CodeRec cd d.name->mg d.name=some (.ref fa) →
   s₁.heap.get? a=some { cls := .type "list",data := .seq vs.toArray }->IntsAre vs ns->ns.length<=n->(∀ n∈ns,Builtin.Int.intBits n<=1048576)->s₁.gens = #[] →
   codeAny (model l.prog w) callerA (.call (.ref fa) ⟨[.ref a],[]⟩) (λ r s'=>r = .ok (.ret (.bool true))/\OldK s₁.heap s'.heap/\s'.os=s₁.os/\AllBare s'.gens) s₁) :
  WalkO q loose XP YP l.row.toRowW d [] (λ f vs=>PySem.call f vs):=by
 intro w s₀ s₁ mg mb G Y fa o pm cd doc dV kV ho hd hcd hD hmg hg args vals as hpre hlay hrd hwl hlo
 obtain rfl:dV = .none:=Dflts.none hD hdf
 obtain rfl:kV = .none:=Dflts.noKw hD
 obtain ⟨a,vs,ns,rfl,rfl,hobj,hints,hlen⟩:=HR hn hpre hwl
 refine enter_call (codeAny_mono (call w s₀ s₁ mg mb fa o pm cd doc a vs ns G Y ho (fd_plain hd) hcd hmg hobj hints hlen (L2.Di hlay) hg) λ r s' hq => ?_)
 obtain ⟨rfl,h2,h3,h4⟩:=hq
 exact ⟨.inl ⟨.bool true,.bool true,[],rfl,λ _=>rfl,.bool true,HS l _,λ _=>⟨List.Pairwise.nil,λ _ hm=>(nomatch hm)⟩⟩,h2,h3,h4⟩
end Vk
namespace L2
open PySem PySem.Spec PyProof.Rows
def EO (K:PySem.W.Frag):Sp:=λ vs H Q _ => ∃ (a:Addr) (ns:List Int),vs = [.ref a]/\eY K H a (ns.map V.int)/\ns.length<=63/\(∀ n∈ns,Builtin.Int.intBits n<=1048576)/\Nn H ∧ ∀ H',Q (.bl true) H'
theorem HZ {l:PySem.W.OpenLaw} {q:Program} {loose:List Str} {XP:(Str->Option Value)->Heap->Prop} {YP:World->Heap->Prop} {d:DefRec} {K:Params->PySem.W.Frag} {k:Nat} {x:Str} (hn:l.most=some 63) (hdf:d.params.defaults = [])
  (hr:c6 k callerA) (hY : ∀ (w:World) (h:Heap),YP w h->(K w.params).In h)
  (F : ∀ (w:World) (mg:Str->Option Value) (fa:Addr) (h:Heap),(K w.params).In h->h.Ns mainGlobals mg->mg d.name=some (.ref fa) →
   ∃ fd:FuncData,(∀ (s:Shared) (u:Value),BindsTo s fd ⟨[u],[]⟩ [(x,u)]) ∧ ∀ base:Heap,(K w.params).In base->base.Ns mainGlobals mg->gj l.prog w (K w.params) mg base (yb l.prog w) k fa fd [x] (EO (K w.params))) :
  PySem.W.WalkO q loose XP YP l.row.toRowW d [] (λ f vs=>PySem.call f vs):=by
 refine Vk.Bs hn hdf λ w s₀ s₁ mg mb fa o pm cd doc a vs ns G Y ho hd hcd hmg hobj hints hlen Dj hg => ?_
 have KX:=hY w _ Y
 obtain ⟨fd,hb,hF⟩:=F w mg fa _ KX G.T.g hmg
 exact Km KX G.T.g G.T.b G.T.builtins G.T.nolimit hg hobj hints (Nat.le_trans hlen (by decide)) hr hF hb (λ H hO hS=>⟨a,ns,rfl,hS,hlen,Dj,hO,λ _=>rfl⟩) λ H e s' ⟨_,_,_,_,_,_,_,z⟩=>z
theorem oV {X:Cx} : ql X (binaryOp .Mult) (rI (λ i j=>IntMulOk i j) λ i j => .int (i * j)):=SV λ _ _ _ _ _ _ _ hc q=>mul_int q hc
end L2
set_option Elab.async false
set_option linter.all false
set_option maxRecDepth 100000
namespace L2
open PySem PySem.Spec PyProof.Rows
def GS (scope es:Scope) (x:Str) (N:List Str):Bool :=
 decide (scope.kind = .function) && (scope.names.all λ y=>decide (y.2 ≠ .cell)) && (scope.names.all λ y=>decide (y.2 ≠ .local) || decide (scope.names.lookup y.1=some .local)) && decide (scope.names.lookup x=some .local) &&
 decide (scope.names.lookup ("" : Str)=none) && (scope.names.all λ y=>decide (y.2 ≠ .free) || (decide (es.names.lookup y.1=some .cell) || decide (es.names.lookup y.1=some .free))) &&
 (scope.names.all λ y=>decide (y.2 ≠ .local) || (decide (y.1=x) || !N.contains y.1)) && decide (x::N.map λ y=>if y=x then ("" : Str) else y).Nodup
theorem dh {scope es:Scope} {x:Str} {N:List Str} (h:GS scope es x N=true):kP scope es x N:=by
 unfold GS at h
 simp only [Bool.and_eq_true,decide_eq_true_eq,List.all_eq_true,Bool.or_eq_true,Bool.not_eq_true'] at h
 obtain ⟨⟨⟨⟨⟨⟨⟨h1,h2⟩,h3⟩,h4⟩,h5⟩,h6⟩,h7⟩,h8⟩:=h
 refine ⟨h1,h2,λ y hy e=>(h3 y hy).resolve_left λ z=>z e,h4,h5,λ y hy e=>(h6 y hy).resolve_left λ z=>z e,λ y hy e => ?_,h8⟩
 rcases (h7 y hy).resolve_left λ z=>z e with q | q
 ·exact .inl q
 ·exact .inr λ m=>by
   have:N.contains y.1=true:=List.contains_iff_mem.mpr m
   rw [q] at this;cases this
def QX (sc:Scope) (x:Str):Bool:=match sc.names.lookup x with
 | some .local=>true
 | some .cell=>true
 | some .free=>true
 | _=>false
theorem QY {sc:Scope} {x:Str} (h:QX sc x=true):Qe sc x:=by
 unfold QX at h
 unfold Qe
 split at h <;> simp_all
section
variable {X:Cx}
theorem pk (i:Nat) {x:Str} {pos:Pos} (hN:X.N[i]? = some x:=by kernel_rfl) (hv:QX X.env.scope x=true:=by kernel_rfl) (hd:(x == ("__debug__" : Str))=false:=by decide)
  (hcd:(x == ("__classdict__" : Str))=false:=by decide):PE X (.Name x pos) (HC i):=Er hN (QY hv) hd hcd
theorem Pg {X:Cx} : ∀ e s,Sv X E0 e s->X.xe e s:=λ _ _ ⟨_,_,_,_,_,_,_,_,_,_,_,_,_,z⟩=>z.elim
end
section
variable {P:Program} {w:World} {K:PySem.W.Frag} {mg:Str->Option Value} {base:Heap}
theorem Def.Dk {x:Str} {st:Stmt} {N ps:List Str} {k:Nat} {sp:Sp} (D:Def K mg x st) (S:aC N ps (af st)) (len : ∀ vs H Q E,sp vs H Q E->vs.length=ps.length)
  (hb : ∀ (kV doc pm:Value) (an:Option Addr) (cdv ct:Value) (us:List Value),us.length=ps.length->bindArgs (PySem.W.fnOf x x (aA st) (av st) (af st) .none kV doc pm an cdv ct) ⟨us,[]⟩ = pure (ps.zip us))
  (hbody : ∀ (f:Addr) (cdv:Value) (A:Around) (outer:List Env) (s:Shared) (H:Hp) (vs:List V) (Q:VK) (E:XK),c6 k (A.deeper (envOfC x (af st) s.heap.objs.size f cdv))->sp vs H Q E →
   ∃ t,A5 (HW P w K mg base N x (af st) f cdv A outer s H E) (av st) t/\t { nx:=λ _ H'=>Q .aH H',rt:=Q } (start N vs) H):cZ P w K mg base (k+1) x ps sp:=by
 obtain ⟨f,fd,hm,F⟩:=D
 refine ⟨f,fd,hm,F.kp,F.binds hb,?_⟩
 obtain ⟨oc,od,kV,doc,pm,an,cdv,ct,osl,rfl,lk,hcd⟩:=F.ex
 exact Ax lk hcd S len λ A outer s H vs Q E hr Ek=>hbody _ cdv A outer s H vs Q E hr Ek
structure sX (K:PySem.W.Frag) (mg:Str->Option Value) (x:Str) (C:Addr):Prop where
 cl:MO K C
 Tw:mg x=some (.ref C)
def bH (K:PySem.W.Frag) (C:Addr) (m qual:Str) (st:Stmt):Prop := ∃ f fd,Meth K C m f/\HU K m qual st f fd
structure aJ (P:Program) (w:World) (K:PySem.W.Frag) (mg:Str->Option Value) (base:Heap) (k:Nat) (C:Addr) (m:Str) (ps:List Str) (sp:Sp):Prop where
 ex : ∃ f fd,Meth K C m f/\Binds K fd ps []/\gj P w K mg base (yb P w) k f fd ps sp
def nG (K:PySem.W.Frag) (C:Addr) (qual:Str) (st:Stmt):Prop := ∃ f fd,Mk K C f/\HU K "__init__" qual st f fd
structure iA (P:Program) (w:World) (K:PySem.W.Frag) (mg:Str->Option Value) (base:Heap) (k:Nat) (C:Addr) (ps:List Str) (sp:Sp):Prop where
 ex : ∃ f fd,Mk K C f/\Binds K fd ps []/\gj P w K mg base (yb P w) k f fd ps sp
theorem aJ.mono {C:Addr} {m:Str} {ps:List Str} {sp:Sp} {j k:Nat} (F:aJ P w K mg base j C m ps sp) (h:j<=k):aJ P w K mg base k C m ps sp:=by
 obtain ⟨f,fd,h1,h3,h4⟩:=F.ex
 exact ⟨f,fd,h1,h3,h4.mono h⟩
theorem bH.Dk {C:Addr} {m qual:Str} {st:Stmt} {N ps:List Str} {k:Nat} {sp:Sp} (D:bH K C m qual st) (S:aC N ps (af st)) (len : ∀ vs H Q E,sp vs H Q E->vs.length=ps.length)
  (hb : ∀ (kV doc pm:Value) (an:Option Addr) (cdv ct:Value) (us:List Value),us.length=ps.length->bindArgs (PySem.W.fnOf m qual (aA st) (av st) (af st) .none kV doc pm an cdv ct) ⟨us,[]⟩ = pure (ps.zip us))
  (hbody : ∀ (f:Addr) (cdv:Value) (A:Around) (outer:List Env) (s:Shared) (H:Hp) (vs:List V) (Q:VK) (E:XK),c6 k (A.deeper (envOfC qual (af st) s.heap.objs.size f cdv))->sp vs H Q E →
   ∃ t,A5 (HW P w K mg base N qual (af st) f cdv A outer s H E) (av st) t/\t { nx:=λ _ H'=>Q .aH H',rt:=Q } (start N vs) H):aJ P w K mg base (k+1) C m ps sp:=by
 obtain ⟨f,fd,hm,F⟩:=D
 refine ⟨f,fd,hm,F.binds hb,?_⟩
 obtain ⟨oc,od,kV,doc,pm,an,cdv,ct,osl,rfl,lk,hcd⟩:=F.ex
 exact Ax lk hcd S len λ A outer s H vs Q E hr Ek=>hbody _ cdv A outer s H vs Q E hr Ek
theorem bH.ok {C:Addr} {m qual:Str} {st:Stmt} {N ps:List Str} {k:Nat} {sp:Sp} (D:bH K C m qual st) (S:aC N ps (af st)) (len : ∀ vs H Q E,sp vs H Q E->vs.length=ps.length)
  (hb : ∀ (kV doc pm:Value) (an:Option Addr) (cdv ct:Value) (us:List Value),us.length=ps.length->bindArgs (PySem.W.fnOf m qual (aA st) (av st) (af st) .none kV doc pm an cdv ct) ⟨us,[]⟩ = pure (ps.zip us))
  (hbody : ∀ (f:Addr) (cdv:Value) (A:Around) (outer:List Env) (s:Shared) (H:Hp) (vs:List V) (Q:VK) (E:XK),c6 k (A.deeper (envOfC qual (af st) s.heap.objs.size f cdv))->sp vs H Q E →
   ∃ t,A5 (uZ (yb P w) P w K mg base N qual (af st) f cdv A outer s H E).Ej (av st) t/\t { nx:=λ _ H'=>Q .aH H',rt:=Q } (start N vs) H):aJ P w K mg base (k+1) C m ps sp:=by
 refine D.Dk S len hb λ f cdv A outer s H vs Q E hr h => ?_
 obtain ⟨t,h,q⟩:=hbody f cdv A outer s H vs Q E hr h
 exact ⟨t,h.Ej,q⟩
theorem nG.Dk {C:Addr} {qual:Str} {st:Stmt} {N ps:List Str} {k:Nat} {sp:Sp} (D:nG K C qual st) (S:aC N ps (af st)) (len : ∀ vs H Q E,sp vs H Q E->vs.length=ps.length)
  (hb : ∀ (kV doc pm:Value) (an:Option Addr) (cdv ct:Value) (us:List Value),us.length=ps.length->bindArgs (PySem.W.fnOf "__init__" qual (aA st) (av st) (af st) .none kV doc pm an cdv ct) ⟨us,[]⟩ = pure (ps.zip us))
  (hbody : ∀ (f:Addr) (cdv:Value) (A:Around) (outer:List Env) (s:Shared) (H:Hp) (vs:List V) (Q:VK) (E:XK),c6 k (A.deeper (envOfC qual (af st) s.heap.objs.size f cdv))->sp vs H Q E →
   ∃ t,A5 (HW P w K mg base N qual (af st) f cdv A outer s H E) (av st) t/\t { nx:=λ _ H'=>Q .aH H',rt:=Q } (start N vs) H):iA P w K mg base (k+1) C ps sp:=by
 obtain ⟨f,fd,hm,F⟩:=D
 refine ⟨f,fd,hm,F.binds hb,?_⟩
 obtain ⟨oc,od,kV,doc,pm,an,cdv,ct,osl,rfl,lk,hcd⟩:=F.ex
 exact Ax lk hcd S len λ A outer s H vs Q E hr Ek=>hbody _ cdv A outer s H vs Q E hr Ek
theorem nG.ok {C:Addr} {qual:Str} {st:Stmt} {N ps:List Str} {k:Nat} {sp:Sp} (D:nG K C qual st) (S:aC N ps (af st)) (len : ∀ vs H Q E,sp vs H Q E->vs.length=ps.length)
  (hb : ∀ (kV doc pm:Value) (an:Option Addr) (cdv ct:Value) (us:List Value),us.length=ps.length->bindArgs (PySem.W.fnOf "__init__" qual (aA st) (av st) (af st) .none kV doc pm an cdv ct) ⟨us,[]⟩ = pure (ps.zip us))
  (hbody : ∀ (f:Addr) (cdv:Value) (A:Around) (outer:List Env) (s:Shared) (H:Hp) (vs:List V) (Q:VK) (E:XK),c6 k (A.deeper (envOfC qual (af st) s.heap.objs.size f cdv))->sp vs H Q E →
   ∃ t,A5 (uZ (yb P w) P w K mg base N qual (af st) f cdv A outer s H E).Ej (av st) t/\t { nx:=λ _ H'=>Q .aH H',rt:=Q } (start N vs) H):iA P w K mg base (k+1) C ps sp:=by
 refine D.Dk S len hb λ f cdv A outer s H vs Q E hr h => ?_
 obtain ⟨t,h,q⟩:=hbody f cdv A outer s H vs Q E hr h
 exact ⟨t,h.Ej,q⟩
theorem vo {h:Heap} {x:Str} {C:Addr} (X:K.In h) (G:h.Ns mainGlobals mg) (a:PySem.W.nsIn K mainGlobals x=some (some (.ref C))) (h1:PySem.W.plainGet K C Str.empty=true) (h2:PySem.W.hasDictIn K C=true) (h3:PySem.W.plainOver K C=true)
  (h4:PySem.W.findIn K (.ref C) "__setattr__" = some (some (.builtin "object.__setattr__"))):sX K mg x C:=⟨⟨h1,h2,h3,h4⟩,PySem.W.mg_of X G a⟩
theorem bh {C f:Addr} {m qual:Str} {st:Stmt} {oc:Value} {od an:Option Addr} {osl:Array (Option Value)} {kV doc pm cdv ct:Value} (a:PySem.W.findIn K (.ref C) m=some (some (.ref f))) (fn:PySem.W.isFn K (.ref f)=true)
  (l:K.lookup f=some ⟨oc,od,.func (PySem.W.fnOf m qual (aA st) (av st) (af st) .none kV doc pm an cdv ct),osl⟩) (c:PySem.W.codeIn K cdv qual=true) (k:PySem.W.keepIn K (.ref f)=true):bH K C m qual st:=⟨f,_,⟨a,fn,k⟩,EJ l c k⟩
theorem oW {C f:Addr} {qual:Str} {st:Stmt} {oc:Value} {od an:Option Addr} {osl:Array (Option Value)} {kV doc pm cdv ct:Value} (m:PySem.W.makesIn K C=true) (a:PySem.W.findIn K (.ref C) "__init__" = some (some (.ref f))) (fn:PySem.W.isFn K (.ref f)=true) (kC:PySem.W.keepIn K (.ref C)=true)
  (l:K.lookup f=some ⟨oc,od,.func (PySem.W.fnOf "__init__" qual (aA st) (av st) (af st) .none kV doc pm an cdv ct),osl⟩) (c:PySem.W.codeIn K cdv qual=true) (k:PySem.W.keepIn K (.ref f)=true):nG K C qual st:=⟨f,_,⟨m,a,fn,kC⟩,EJ l c k⟩
end
section
variable {X:Cx} {k:Nat} {C:Addr} {ps:List Str} {sp:Sp} {E:XK} {x m:Str} {p pos apos:Pos} {e o:Expr} {es:List Expr} {ta:TE} {t:TA}
theorem aP {pl:Sem Bool} (T:sX X.K X.mg x C) (F:aJ X.prog X.w X.K X.mg X.base k C m ps sp) (hr:c6 k X.A) (hx:Passes (yb X.prog X.w) X E) (he:PE X o ta) (ha:PA X (e::es) t)
  (hst:starEach (e::es) X.env=(false,eval e X.env)::starEach es X.env:=by rfl) (hpl:(backTo pos (starEach es X.env)).any (·.1)=false:=by rfl)
  (ht:eval (.Call (.Attribute o m apos) (e::es) [] pos) X.env=(do
   let ov <-eval o X.env
   standAt apos.atName
   let (f,first) <-holding [ov] (getMethod ov m pl)
   callWith pos f first (backTo pos (starEach (e::es) X.env)) (backToKw pos (keywordEach [] X.env))):=by rfl) :
  PE X (.Call (.Attribute o m apos) (e::es) [] pos) (Aq C m sp [] E ta t):=by
 obtain ⟨f,fd,h1,h3,h4⟩:=F.ex
 exact Nc he T.cl h1 h4 hr h3 .nil hx ha hst hpl ht
theorem dj {pl:Sem Bool} (T:sX X.K X.mg x C) (F:aJ X.prog X.w X.K X.mg X.base k C m ps sp) (hr:c6 k X.A) (hx:Passes (yb X.prog X.w) X E) (he:PE X o ta)
  (ht:eval (.Call (.Attribute o m apos) [] [] pos) X.env=(do
   let ov <-eval o X.env
   standAt apos.atName
   let (f,first) <-holding [ov] (getMethod ov m pl)
   callWith pos f first (backTo pos (starEach [] X.env)) (backToKw pos (keywordEach [] X.env))):=by rfl) :
  PE X (.Call (.Attribute o m apos) [] [] pos) (Aq C m sp [] E ta CW):=by
 obtain ⟨f,fd,h1,h3,h4⟩:=F.ex
 exact J4 he T.cl h1 h4 hr h3 .nil hx ht
theorem oX (T:sX X.K X.mg x C) (F:iA X.prog X.w X.K X.mg X.base k C ps sp) (hr:c6 (k+1) X.A) (hg:Gl X x) (hx:Passes (yb X.prog X.w) X E) (ha:PA X (e::es) t)
  (hdb:(x == ("__debug__" : Str))=false:=by decide) (he:starEach (e::es) X.env=(false,eval e X.env)::starEach es X.env:=by rfl) (hpl:(backTo pos (starEach es X.env)).any (·.1)=false:=by rfl) :
  PE X (.Call (.Name x p) (e::es) [] pos) (Ar C sp [] E t):=by
 obtain ⟨f,fd,h1,h3,h4⟩:=F.ex
 exact Nd h1 h4 hr hg T.Tw h3 .nil hx ha hdb he hpl
theorem Ia (T:sX X.K X.mg x C) (F:iA X.prog X.w X.K X.mg X.base k C ps sp) (hr:c6 (k+1) X.A) (hg:Gl X x) (hx:Passes (yb X.prog X.w) X E)
  (hdb:(x == ("__debug__" : Str))=false:=by decide):PE X (.Call (.Name x p) [] [] pos) (Ar C sp [] E CW):=by
 obtain ⟨f,fd,h1,h3,h4⟩:=F.ex
 exact J5 h1 h4 hr hg T.Tw h3 .nil hx hdb
def Ku (C:Addr) (ta:TE) (f:Str):TE:=fun σ H Q=>ta σ H λ x H1 => ∃ a dx fs v,x = .ref a/\H1 a=some (.ins C dx fs)/\fs.lookup f=some v/\Q v H1
theorem ay {f:Str} (T:sX X.K X.mg x C) (na:cE X.K C f) (he:PE X o ta) (hb:attributeBase o f X.env (eval o X.env)=eval o X.env:=by rfl):PE X (.Attribute o f pos) (Ku C ta f):=by
 intro pins s σ H Q I h
 refine Na hb (cV (he pins s σ H _ I h) λ u s1 ⟨x,H1,I1,rx,a,dx,fs,v,ex,ea,l,q⟩ => ?_)
 subst ex
 obtain rfl:u=Value.ref a:=rx
 exact Ex I1 ea T.cl na l λ u' s2 I2 ru=>⟨v,H1,I2,ru,q⟩
def Kv (C:Addr) (ta tv:TE) (f:Str):TS:=λ D σ H=>tv σ H λ y H1=>ta σ H1 λ x H2 => ∃ a dx fs,x = .ref a/\H2 a=some (.ins C dx fs)/\fs.length < 1000/\D.nx σ (upd H2 a (.ins C dx (cQ f y fs)))
theorem cj {f:Str} {value:Expr} {tv:TE} {pos':Pos} (T:sX X.K X.mg x C) (na:cE X.K C f) (ha:PE X o ta) (hv:PE X value tv) (hs:swapsWith value (some (.Attribute o f pos')) pos.line X.env=pure false:=by rfl):PS X (.Assign [.Attribute o f pos'] value pos) (Kv C ta tv f):=by
 intro pins s σ H D I h
 refine plainObj_wpAny_Assign_Attribute (cV (hv pins s σ H _ I h) λ u s1 ⟨y,H1,I1,ry,q⟩=>cV (ha pins s1 σ H1 _ I1 q) λ ov s2 ⟨x,H2,I2,rx,a,dx,fs,ex,ea,l,q2⟩ => ?_) hs
 subst ex
 obtain rfl:ov=Value.ref a:=rx
 exact Ey I2 ea T.cl na l ry λ s3 I3=>⟨σ,_,I3,q2⟩
end
end L2
set_option Elab.async false
set_option linter.all false
set_option maxRecDepth 100000
namespace L2
open PySem PySem.Spec PyProof.Rows
theorem Bt:gC "NoneType" "str" = some false:=rfl
theorem Bu:gC "list" "str" = some false:=rfl
theorem yl:gC "tuple" "str" = some false:=rfl
theorem Nx:nC 10 60=True:=eq_true ⟨by decide,by decide,by decide⟩
theorem Ny:nC 10 59=True:=eq_true ⟨by decide,by decide,by decide⟩
theorem Nz:nC 10 20=True:=eq_true ⟨by decide,by decide,by decide⟩
section
variable {X:Cx} {K:PySem.W.Frag}
theorem Kw (h:X.K=K):So X (QD K):=by subst h;exact GN
theorem vp (h:X.K=K):Vh X (Nj K):=by subst h;exact Nk
theorem ym (h:X.K=K):kI X (.builtin "len") (λ xs H Q => ∃ p ys,xs = [.ref p]/\(eY K H p ys\/Ei K H p ys)/\Q (.int ys.length) H):=by subst h;exact jD
theorem aT (h:X.K=K):kI X (.type "list") (λ xs H Q => ∃ p ys,xs = [.ref p]/\(eY K H p ys\/Ei K H p ys) ∧ ∀ l,H l=none->Q (.ref l) (upd H l (.lst ys))):=by subst h;exact Be
end
end L2
set_option Elab.async false
set_option linter.all false
set_option maxRecDepth 100000
namespace L2
open PySem PySem.Spec PyProof.Rows
def oY (J:It) (tt:TT) (te:TE) (σ : St) (Q:VK) (H1:Hp):Prop := ∀ p,H1 p=none->∃ W:Nat->Nat->List V->Hp->Prop,(∃ m,W 0 m [] (upd H1 p (.lst []))) ∧ ∀ i m acc H2,W i m acc H2 →
 H2 p=some (.lst acc)/\((J.stop i H2/\Q (.ref p) H2)\/(J.go i H2 ∧ ∃ N:List V->Hp->Prop,(∀ acc' H',N acc' H'->∃ m',m' < m/\W (i+1) m' acc' H') ∧ ∀ x H3,J.M7 i H2 x H3->tt (some x :: σ) H3 λ b H4 =>
  if b=true then te (some x :: σ) H4 λ v H5=>H5 p=some (.lst acc)/\acc.length < sizeLine/\N (acc++[v]) (upd H5 p (.lst (acc++[v]))) else N acc H4))
theorem AG {K:PySem.W.Frag} {tl:TE} {tt:TT} {te:TE} {σ : St} {H:Hp} {Q:VK}
  (h : ∀ L,Is L (λ a H1=>oY (JF K a) tt te σ Q H1)->tl σ H λ x H1 => ∃ a,x = .ref a/\(∃ xs,eY K H1 a xs)/\L a H1):GR (JV K tl) tt te σ H Q:=h _ Is.rfl
theorem Bv {ta:TA} {tt:TT} {te:TE} {σ : St} {H:Hp} {Q:VK}
  (h : ∀ L,Is L (λ n H1=>oY (GC 0 n) tt te σ Q H1)->ta σ H λ vs H1 => ∃ j:Int,vs = [.int j] ∧ -(2 ^ 62)<=j/\j < 2 ^ 62/\L j.toNat H1):GR (JX ta) tt te σ H Q:=h _ Is.rfl
theorem Dl {K:PySem.W.Frag} {a:Addr} {tt:TT} {te:TE} {σ : St} {Q:VK} {H1:Hp} (xs:List V) (Pv:Addr->Nat->List V->Hp->Prop) (h0 : ∀ p,H1 p=none->Pv p 0 [] (upd H1 p (.lst [])))
  (hl : ∀ p i acc H,H1 p=none->Pv p i acc H->H p=some (.lst acc)/\eY K H a xs)
  (hs : ∀ p i x acc H,H1 p=none->xs[i]? = some x->Pv p i acc H->tt (some x :: σ) H λ b H4=>if b=true then te (some x :: σ) H4 λ v H5=>H5 p=some (.lst acc)/\acc.length < sizeLine/\Pv p (i+1) (acc++[v]) (upd H5 p (.lst (acc++[v]))) else Pv p (i+1) acc H4)
  (hd : ∀ p acc H,H1 p=none->Pv p xs.length acc H->Q (.ref p) H):oY (JF K a) tt te σ Q H1:=by
 intro p hp
 refine ⟨λ i m acc H=>Pv p i acc H/\i<=xs.length/\m=xs.length - i,⟨_,h0 p hp,Nat.zero_le _,rfl⟩,?_⟩
 rintro i m acc H2 ⟨hP,hi,rfl⟩
 obtain ⟨ha,hq⟩:=hl p i acc H2 hp hP
 refine ⟨ha,?_⟩
 by_cases e:i=xs.length
 ·subst e
  exact .inl ⟨⟨xs,hq,Nat.le_refl _⟩,hd p acc H2 hp hP⟩
 ·have hlt:i < xs.length:=by omega
  refine .inr ⟨⟨xs,xs[i],hq,by simp [hlt]⟩,λ acc' H'=>Pv p (i+1) acc' H',λ acc' H' h'=>⟨_,?_,h',hlt,rfl⟩,?_⟩
  ·omega
  ·rintro x H3 ⟨rfl,hx⟩
   exact hs p i x acc H3 hp (hx xs hq) hP
theorem qw {lo:Int} {n:Nat} {tt:TT} {te:TE} {σ : St} {Q:VK} {H1:Hp} (Pv:Addr->Nat->List V->Hp->Prop) (h0 : ∀ p,H1 p=none->Pv p 0 [] (upd H1 p (.lst [])))
  (hl : ∀ p i acc H,H1 p=none->Pv p i acc H->H p=some (.lst acc))
  (hs : ∀ p i acc H,H1 p=none->i < n->Pv p i acc H->tt (some (.int (lo+i)) :: σ) H λ b H4=>if b=true then te (some (.int (lo+i)) :: σ) H4 λ v H5=>H5 p=some (.lst acc)/\acc.length < sizeLine/\Pv p (i+1) (acc++[v]) (upd H5 p (.lst (acc++[v]))) else Pv p (i+1) acc H4)
  (hd : ∀ p acc H,H1 p=none->Pv p n acc H->Q (.ref p) H):oY (GC lo n) tt te σ Q H1:=by
 intro p hp
 refine ⟨λ i m acc H=>Pv p i acc H/\i<=n/\m=n - i,⟨_,h0 p hp,Nat.zero_le _,rfl⟩,?_⟩
 rintro i m acc H2 ⟨hP,hi,rfl⟩
 refine ⟨hl p i acc H2 hp hP,?_⟩
 by_cases e:i=n
 ·subst e
  exact .inl ⟨Nat.le_refl _,hd p acc H2 hp hP⟩
 ·have hlt:i < n:=by omega
  refine .inr ⟨hlt,λ acc' H'=>Pv p (i+1) acc' H',λ acc' H' h'=>⟨_,?_,h',hlt,rfl⟩,?_⟩
  ·omega
  ·rintro x H3 ⟨rfl,rfl⟩
   exact hs p i acc H3 hp hlt hP
theorem Ph {α : Type} {x0 x1 x2 x3 x4 x5 : α} {xs:List α} : iw (x0::x1::x2::x3::x4::x5::xs) 5=some x5:=gB (j:=5) rfl
theorem TN {α : Type} {x0 x1 x2 x3 x4 x5 x6 x7 : α} {xs:List α} : iw (x0::x1::x2::x3::x4::x5::x6::x7::xs) 7=some x7:=gB (j:=7) rfl
theorem QZ (xs:List V) {j:Int} (h:0<=j):kL xs none (some j)=xs.take j.toNat:=by
 obtain ⟨j,rfl⟩:=Int.eq_ofNat_of_zero_le h
 have e:=HT.GK xs.length xs.length j
 unfold kL
 rw [HT.C3,e,List.drop_zero,Nat.sub_zero,Int.toNat_natCast]
 by_cases hj:j<=xs.length
 ·rw [Nat.min_eq_left hj]
 ·rw [Nat.min_eq_right (by omega),List.take_of_length_le (Nat.le_refl _),List.take_of_length_le (by omega)]
theorem Ky (xs:List V) {i:Int} (h:0<=i):kL xs (some i) none=xs.drop i.toNat:=by
 obtain ⟨i,rfl⟩:=Int.eq_ofNat_of_zero_le h
 have e:=HT.GK xs.length 0 i
 unfold kL
 rw [HT.C3,e,Int.toNat_natCast]
 by_cases hi:i<=xs.length
 ·rw [Nat.min_eq_left hi,List.take_of_length_le (by simp)]
 ·rw [Nat.min_eq_right (by omega),List.drop_of_length_le (Nat.le_refl _),List.drop_of_length_le (by omega)];simp
structure New (H:Hp) (p:Addr) (H':Hp):Prop where
 free:H p=none
 same:j8 H H'
theorem New.upd {H:Hp} {p:Addr} {o:HO} (h:H p=none):New H p (L2.upd H p o):=⟨h,vd h⟩
end L2
set_option Elab.async false
set_option linter.all false
set_option maxRecDepth 100000
namespace L2
open PySem PySem.Spec PyProof.Rows
theorem Is.use {α β : Type} {R S : α->β->Prop} (h:Is R S) {x : α} {y : β} (k:S x y):R x y:=by cases h;exact k
def Hid {α β : Type} (S : α->β->Prop) (g:(α->β->Prop)->Prop):Prop := ∀ R,(∀ x y,S x y->R x y)->g R
theorem WG {α β : Type} {S : α->β->Prop} {g:(α->β->Prop)->Prop} (h : ∀ R,(∀ x y,S x y->R x y)->g R):Hid S g:=h
section
variable {σ : St} {H:Hp} {Q:VK} {D:Ends} {ta tb tc te:TE} {t u:TA} {r:R2} {b:TS} {QB:Bool->Hp->Prop} {c d:TT} {QA:List V->Hp->Prop}
theorem WH {g:TG} (h : ∀ R,Is R (λ x H1=>g x σ H1 D.nx)->te σ H R):JU te g D σ H:=h _ Is.rfl
theorem TQ (h : ∀ R,Is R (λ _ H1=>D.nx σ H1)->te σ H R):JR te D σ H:=h _ Is.rfl
theorem WI (h : ∀ R,Is R (λ x H1=>D.rt x H1)->te σ H R):M4 te D σ H:=h _ Is.rfl
theorem ifH {a b:TS} (h : ∀ R,Is R (λ k H1=>if k=true then a D σ H1 else b D σ H1)->c σ H R):M5 c a b D σ H:=h _ Is.rfl
theorem TR (h : ∀ R,Is R (λ x H1 => ∃ k,x = .bl k/\QB k H1)->te σ H R):GH te σ H QB:=h _ Is.rfl
theorem tBH (h : ∀ R,Is R (λ x H1 => ∃ k,x = .bl k/\QB k H1)->te σ H R):tB te σ H QB:=h _ Is.rfl
theorem WJ (h : ∀ R,Is R (λ k H1=>QB (!k) H1)->c σ H R):Qi c σ H QB:=h _ Is.rfl
theorem WK (h : ∀ R,Is R (λ k H1=>if k=true then d σ H1 QB else QB false H1)->c σ H R):Qh c d σ H QB:=h _ Is.rfl
theorem orH (h : ∀ R,Is R (λ k H1=>if k=true then QB true H1 else d σ H1 QB)->c σ H R):Wg c d σ H QB:=h _ Is.rfl
theorem TU {α β : Type} {R S : α->β->Prop} (h : ∀ x y,S x y->R x y) {x : α} {y : β} (k:S x y):R x y:=h x y k
theorem TV (h : ∀ R,Is R (λ x H1 => ∃ c,x = .bl c/\if c=true then tb σ H1 Q else Q (.bl false) H1)->ta σ H R):JN ta tb σ H Q:=h _ Is.rfl
theorem WL (h : ∀ R,Is R (λ x H1 => ∃ c,x = .bl c/\if c=true then Q (.bl true) H1 else tb σ H1 Q)->ta σ H R):Qj ta tb σ H Q:=h _ Is.rfl
theorem TX (h : ∀ R,Is R (λ x H1 => ∃ c,x = .bl c/\Q (.bl (!c)) H1)->ta σ H R):JO ta σ H Q:=h _ Is.rfl
theorem opH (h : ∀ R,(∀ x H1,Hid (λ y H2=>r x y H2 Q) (λ R2=>tb σ H1 R2)->R x H1)->ta σ H R):Qp r ta tb σ H Q:=h (λ x H1=>tb σ H1 λ y H2=>r x y H2 Q) λ _ _ z=>z _ λ _ _ z2=>z2
theorem unH {q:V->Hp->VK->Prop} (h : ∀ R,Is R (λ x H1=>q x H1 Q)->ta σ H R):Wj q ta σ H Q:=h _ Is.rfl
theorem slH {q:V->Option Int->Option Int->Hp->VK->Prop} {tl th:TO} (h : ∀ R,Is R (λ x H1=>tl σ H1 λ l H2=>th σ H2 λ u H3=>q x l u H3 Q)->te σ H R):Wm q te tl th σ H Q:=h _ Is.rfl
theorem TY {QO:Option Int->Hp->Prop} (h : ∀ R,Is R (λ x H1 => ∃ i,x = .int i/\QO (some i) H1)->te σ H R):Kf te σ H QO:=h _ Is.rfl
theorem TZ (h : ∀ R,Is R (λ x H1=>t σ H1 λ xs H2=>QA (x::xs) H2)->te σ H R):GI te t σ H QA:=h _ Is.rfl
theorem WM (h : ∀ R,Is R (λ xs H1=>xs.length<=sizeLine ∧ ∀ p,H1 p=none->Q (.ref p) (upd H1 p (.tup xs)))->t σ H R):Qu t σ H Q:=h _ Is.rfl
theorem WN (h : ∀ R,Is R (λ xs H1=>xs.length<=sizeLine ∧ ∀ p,H1 p=none->Q (.ref p) (upd H1 p (.lst xs)))->t σ H R):Qv t σ H Q:=h _ Is.rfl
theorem T3 {sp:Sp} {i7:List V} {E:XK} (h : ∀ R,Is R (λ vs H1=>sp (vs++i7) H1 Q E)->t σ H R):GJ sp i7 E t σ H Q:=h _ Is.rfl
theorem cbH {q:List V->Hp->VK->Prop} (h : ∀ R,Is R (λ vs H1=>q vs H1 Q)->t σ H R):Td q t σ H Q:=h _ Is.rfl
theorem T4 {C:Addr} {m:Str} {sp:Sp} {i7:List V} {E:XK} (h : ∀ R,Is R (λ x H1 => ∃ a dx fs,x = .ref a/\H1 a=some (.ins C dx fs)/\fs.lookup m=none/\t σ H1 λ vs H2=>sp (x::(vs++i7)) H2 Q E)->ta σ H R):Aq C m sp i7 E ta t σ H Q:=h _ Is.rfl
theorem T5 {C:Addr} {sp:Sp} {i7:List V} {E:XK} (h : ∀ R,Is R (λ vs H1 => ∀ x dx,H1 x=none->H1 dx=none->dx≠x->sp (.ref x::(vs++i7)) (upd (upd H1 dx (.own x)) x (.ins C dx [])) (λ v H2=>v = .aH/\Q (.ref x) H2) E)->t σ H R):Ar C sp i7 E t σ H Q:=h _ Is.rfl
theorem WO {C:Addr} {f:Str} (h : ∀ R,Is R (λ x H1 => ∃ a dx fs v,x = .ref a/\H1 a=some (.ins C dx fs)/\fs.lookup f=some v/\Q v H1)->ta σ H R):Ku C ta f σ H Q:=h _ Is.rfl
theorem T6 {C:Addr} {f:Str} (h : ∀ R,Is R (λ y H1=>ta σ H1 λ x H2 => ∃ a dx fs,x = .ref a/\H2 a=some (.ins C dx fs)/\fs.length < 1000/\D.nx σ (upd H2 a (.ins C dx (cQ f y fs))))->te σ H R):Kv C ta te f D σ H:=h _ Is.rfl
theorem bmH {K:PySem.W.Frag} {T:String} {q:V->List V->Hp->VK->Prop} (h : ∀ R,Is R (λ x H1=>Tj K T x H1/\t σ H1 λ xs H2=>q x xs H2 Q)->ta σ H R):Wo K T q ta t σ H Q:=h _ Is.rfl
theorem T7 (h : ∀ R,(∀ v H1,Hid (λ x H2=>Hid (λ y H3 => ∃ a H4,x = .ref a/\nF H3 a y v H4/\D.nx σ H4) (λ R3=>tb σ H2 R3)) (λ R2=>ta σ H1 R2)->R v H1)->te σ H R):J9 ta tb te D σ H:=h (λ v H1=>ta σ H1 λ x H2=>tb σ H2 λ y H3 => ∃ a H4,x = .ref a/\nF H3 a y v H4/\D.nx σ H4) λ v H1 z=>z _ λ x H2 z2=>z2 _ λ _ _ z3=>z3
theorem T8 {to ti:TE} {tt:JS} {v:V} {QS:St->Hp->Prop} (h : ∀ R,(∀ o H1,Hid (λ i H2=>tt o i v H2 λ H3=>QS σ H3) (λ R2=>ti σ H1 R2)->R o H1)->to σ H R):Qm to ti tt v σ H QS:=h (λ o H1=>ti σ H1 λ i H2=>tt o i v H2 λ H3=>QS σ H3) λ _ _ z=>z _ λ _ _ z2=>z2
theorem T9 (h : ∀ R,Is R (λ x H1=>tb σ H1 λ y H2 => ∃ a v,x = .ref a/\gm H2 a y (some v)/\Q v H2)->ta σ H R):J8 ta tb σ H Q:=h _ Is.rfl
theorem WQ (h : ∀ R,Is R (λ y H1=>tb σ H1 λ x H2 => ∃ a o,x = .ref a/\gm H2 a y o/\Q (.bl o.isSome) H2)->ta σ H R):Qx ta tb σ H Q:=h _ Is.rfl
theorem Ua (h : ∀ R,Is R (λ y H1=>tb σ H1 λ x H2 => ∃ a o,x = .ref a/\gm H2 a y o/\Q (.bl (!o.isSome)) H2)->ta σ H R):A8 ta tb σ H Q:=h _ Is.rfl
theorem Ub {i:Nat} {v:V} (e : σ[i]? = some (some v)) (h:Q v H):HC i σ H Q:=⟨v,e,h⟩
theorem WR {v:V} (h:Q v H):tC v σ H Q:=h
theorem WS (h:QA [] H):CW σ H QA:=h
theorem NB {QO:Option Int->Hp->Prop} (h:QO none H):A9 σ H QO:=h
theorem Uc (h:D.nx σ H):GB D σ H:=h
theorem Ud {i:Nat} {v:V} {QS:St->Hp->Prop} (h:QS (σ.set i (some v)) H):sy i v σ H QS:=h
theorem i0H {g:Int->Int->V} {i j:Int} (h:Q (g i j) H):MN g (.int i) (.int j) H Q:=⟨i,j,rfl,rfl,h⟩
theorem iH {C:Int->Int->Prop} {g:Int->Int->V} {i j:Int} (c:C i j) (h:Q (g i j) H):rI C g (.int i) (.int j) H Q:=⟨i,j,rfl,rfl,c,h⟩
theorem uH {g:Int->V} {i:Int} (h:Q (g i) H):rU g (.int i) H Q:=⟨i,rfl,h⟩
theorem blH {b:Bool} {S:Bool->Prop} (h:S b) : ∃ k,V.bl b = .bl k/\S k:=⟨b,rfl,h⟩
theorem WT {n:Int} {S:Int->Prop} (h:S n) : ∃ k,V.int n = .int k/\S k:=⟨n,rfl,h⟩
end
def lasts:HO->Bool
 | .tup _=>true
 | .CJ _ _=>true
 | _=>false
abbrev Cells:=List (Addr×HO)
structure Led (H:Hp) (L:Cells):Prop where
 at_ : ∀ p∈L,H p.1=some p.2
 nd:((L.filter λ p => !lasts p.2).map (·.1)).Nodup
theorem Led.get {H:Hp} {L:Cells} (h:Led H L) {a:Addr} {o:HO} (m:(a,o)∈L):H a=some o:=h.at_ _ m
theorem Led.nil {H:Hp} : Led H []:=⟨λ _ h=>(nomatch h),List.nodup_nil⟩
theorem Led.new {H:Hp} {L:Cells} (h:Led H L) {p:Addr} {o:HO} (hp:H p=none):Led (upd H p o) ((p,o)::L):=by
 have ne : ∀ q∈L,q.1≠p:=λ q hq e=>by have:=h.at_ q hq;rw [e,hp] at this;cases this
 refine ⟨λ q hq => ?_,?_⟩
 ·rcases List.mem_cons.mp hq with rfl | hq
  ·exact i6
  ·rw [b3 (ne q hq)];exact h.at_ q hq
 ·rw [List.filter_cons]
  split
  ·rw [List.map_cons]
   refine List.nodup_cons.mpr ⟨λ m => ?_,h.nd⟩
   obtain ⟨q,hq,e⟩:=List.mem_map.mp m
   exact ne q (List.mem_filter.mp hq).1 e
  ·exact h.nd
theorem Led.perm {H:Hp} {L L':Cells} (h:Led H L) (e:L.Perm L'):Led H L':=by
 refine ⟨λ p hp=>h.at_ p (e.mem_iff.mpr hp),?_⟩
 exact ((e.filter _).map _).nodup_iff.mp h.nd
theorem Led.put {H:Hp} {L:Cells} {a:Addr} {o o':HO} (h:Led H ((a,o)::L)) (hl:lasts o=false) (hl':lasts o' = false):Led (upd H a o') ((a,o')::L):=by
 have ha:=h.at_ _ List.mem_cons_self
 have nd:=h.nd
 rw [List.filter_cons,if_pos (by simp [hl]),List.map_cons] at nd
 obtain ⟨n1,n2⟩:=List.nodup_cons.mp nd
 have ne : ∀ q∈L,q.1≠a:=λ q hq e=>by
  have hq':=h.at_ q (List.mem_cons_of_mem _ hq)
  rw [e,ha] at hq'
  have e2:o=q.2:=Option.some.inj hq'
  refine n1 (List.mem_map.mpr ⟨q,List.mem_filter.mpr ⟨hq,by rw [<-e2,hl];rfl⟩,e⟩)
 refine ⟨λ q hq => ?_,?_⟩
 ·rcases List.mem_cons.mp hq with rfl | hq
  ·exact i6
  ·rw [b3 (ne q hq)];exact h.at_ q (List.mem_cons_of_mem _ hq)
 ·rw [List.filter_cons,if_pos (by simp [hl']),List.map_cons]
  exact List.nodup_cons.mpr ⟨n1,n2⟩
theorem Led.sub {H:Hp} {L L':Cells} (h:Led H L) (s:L'.Sublist L):Led H L':=⟨λ p hp=>h.at_ p (s.subset hp),List.Nodup.sublist ((s.filter _).map _) h.nd⟩
theorem Led.tail {H:Hp} {L:Cells} {p:Addr×HO} (h:Led H (p::L)):Led H L:=h.sub (List.sublist_cons_self p L)
theorem Led.again {H:Hp} {L:Cells} {a:Addr} {o:HO} (h:Led H L) (ha:H a=some o) (hl:lasts o=true):Led H ((a,o)::L):=by
 refine ⟨λ q hq => ?_,?_⟩
 ·rcases List.mem_cons.mp hq with rfl | hq
  ·exact ha
  ·exact h.at_ q hq
 ·rw [List.filter_cons,if_neg (by simp [hl])];exact h.nd
theorem Led.swap {H:Hp} {L:Cells} {p q:Addr×HO} (h:Led H (p::q::L)):Led H (q::p::L):=h.perm (List.Perm.swap q p L)
theorem Led.pull {H:Hp} {L M:Cells} {p:Addr×HO} (h:Led H (L++p::M)):Led H (p::(L++M)):=h.perm List.perm_middle
theorem Led.push {H:Hp} {L M:Cells} {p:Addr×HO} (h:Led H (p::(L++M))):Led H (L++p::M):=h.perm List.perm_middle.symm
theorem Led.alloc {H:Hp} {L:Cells} {o:HO} {Q:VK} (h:Led H L) (k : ∀ p H',H p=none->Led H' ((p,o)::L)->j8 H H'->Q (.ref p) H') : ∀ p,H p=none->Q (.ref p) (upd H p o):=λ p hp=>k p _ hp (h.new hp) (vd hp)
theorem Led.same {H H':Hp} {L:Cells} (h:Led H L) (s:j8 H H'):Led H' L:=⟨λ p hp=>s _ _ (h.at_ p hp),h.nd⟩
theorem cZ.imp {P:Program} {w:World} {K:PySem.W.Frag} {mg:Str->Option Value} {base:Heap} {k:Nat} {x:Str} {ps:List Str} {sp S8:Sp} (F:cZ P w K mg base k x ps sp) (h : ∀ vs H Q E,S8 vs H Q E->sp vs H Q E):cZ P w K mg base k x ps S8:=by
 obtain ⟨f,fd,h1,h2,h3,h4⟩:=F.ex
 exact ⟨f,fd,h1,h2,h3,h4.imp h⟩
def Pj (K:PySem.W.Frag) (L:Cells) (a:Addr) (xs:List V):Prop:=(∃ o,(a,HO.CJ o (.lst xs))∈L) ∨ ∀ H,eY K H a xs
theorem Pj.seq {K:PySem.W.Frag} {L:Cells} {a:Addr} {xs:List V} {H:Hp} (s:Pj K L a xs) (h:Led H L):eY K H a xs:=by
 rcases s with ⟨o,m⟩ | s
 ·exact .inl (.inr ⟨o,h.get m⟩)
 ·exact s H
theorem Pj.mono {K:PySem.W.Frag} {L L':Cells} {a:Addr} {xs:List V} (s:Pj K L a xs) (h : ∀ p∈L,p∈L'):Pj K L' a xs:=by
 rcases s with ⟨o,m⟩ | s
 ·exact .inl ⟨o,h _ m⟩
 ·exact .inr s
theorem Ic {K:PySem.W.Frag} {H:Hp} {a:Addr} {xs:List V} (hS:eY K H a xs) (hO:Nn H) : ∃ L,Led H L/\Pj K L a xs:=by
 rcases hS with (h | ⟨o,h⟩) | h
 ·rcases hO a with z | ⟨o,ys,z⟩
  ·rw [h] at z;cases z
  ·rw [h] at z;cases z
 ·exact ⟨[(a,.CJ o (.lst xs))],Led.nil.again h rfl,.inl ⟨o,List.mem_cons_self⟩⟩
 ·exact ⟨[],Led.nil,.inr λ H' => .inr h⟩
theorem Dm {H:Hp} {Q:VK} {l:Addr} {k:Int} {xs:List V} (h1:H l=some (.lst xs)) (hk : -(2 ^ 63)<=k/\k < 2 ^ 63) (hl:xs.length * k.toNat<=sizeLine) (h : ∀ p,H p=none->Q (.ref p) (upd H p (.lst (List.replicate k.toNat xs).flatten))):Tp (.ref l) (.int k) H Q:=⟨l,k,xs,rfl,rfl,h1,hk.1,hk.2,hl,h⟩
theorem Led.iU {H:Hp} {L:Cells} {a:Addr} {o o':HO} (i:Nat) (h:Led H L) (e:L[i]? = some (a,o)) (hl:lasts o=false) (hl':lasts o' = false):Led (upd H a o') (L.set i (a,o')):=by
 have hi:i < L.length:=(List.getElem?_eq_some_iff.mp e).1
 have e1:L=L.take i++(a,o)::L.drop (i+1):=by
  have:=(List.getElem?_eq_some_iff.mp e).2
  rw [<-this,List.getElem_cons_drop,List.take_append_drop]
 have e2:L.set i (a,o')=L.take i++(a,o')::L.drop (i+1):=by
  rw [List.set_eq_take_append_cons_drop,if_pos hi]
 rw [e1] at h
 rw [e2]
 exact ((h.pull).put hl hl').push
section
variable {H:Hp} {Q:VK} {x y v:V} {a:Addr} {xs:List V} {i:Int}
theorem WU {m n:Int} (h:Q (.bl (decide (m=n))) H):Qt (.int m) (.int n) H Q:=⟨rfl,by rw [show decide (V.int m=V.int n)=decide (m=n) by simp];exact h⟩
theorem WV {m n:Int} (h:Q (.bl (!decide (m=n))) H):Wk (.int m) (.int n) H Q:=⟨rfl,by rw [show decide (V.int m=V.int n)=decide (m=n) by simp];exact h⟩
theorem WW {m n:Str} (h:Q (.bl (decide (m=n))) H):Qt (.str m) (.str n) H Q:=⟨rfl,by rw [show decide (V.str m=V.str n)=decide (m=n) by simp];exact h⟩
theorem WX {m n:Bool} (h:Q (.bl (decide (m=n))) H):Qt (.bl m) (.bl n) H Q:=⟨rfl,by rw [show decide (V.bl m=V.bl n)=decide (m=n) by simp];exact h⟩
theorem WY {n t:String} {b:Bool} (h1:JG H x=some t) (h2:gC t n=some b) (h:Q (.bl b) H):Kq [x,.ty n] H Q:=⟨x,n,t,b,rfl,h1,h2,h⟩
theorem Q0 (h1:H a=some (.lst xs)) (h2:iw xs i=some v) (h:Q v H):EK (.ref a) (.int i) H Q:=⟨a,i,rfl,rfl,.inl ⟨xs,h1,v,h2,h⟩⟩
theorem Ue (h1:H a=some (.tup xs)) (h2:iw xs i=some v) (h:Q v H):EK (.ref a) (.int i) H Q:=⟨a,i,rfl,rfl,.inr ⟨xs,h1,v,h2,h⟩⟩
theorem Ug (h1:H a=some (.lst xs)) (h:Q (.int xs.length) H):ve [.ref a] H Q:=⟨a,rfl,.inl ⟨xs,h1,h⟩⟩
theorem Uh (h1:H a=some (.tup xs)) (h:Q (.int xs.length) H):ve [.ref a] H Q:=⟨a,rfl,.inr (.inl ⟨xs,h1,h⟩)⟩
theorem Ui {kvs:List (Key×V)} (h1:H a=some (.dK kvs)) (h:Q (.int kvs.length) H):ve [.ref a] H Q:=⟨a,rfl,.inr (.inr ⟨kvs,h1,h⟩)⟩
theorem tyL (h:H a=some (.lst xs)):JG H (.ref a)=some "list" := by unfold JG;simp only [h]
theorem tyT (h:H a=some (.tup xs)):JG H (.ref a)=some "tuple" := by unfold JG;simp only [h]
theorem WZ {b:Addr} {zs:List V} (h1:H a=some (.lst xs)) (h2:H b=some (.lst zs)) (hl:xs.length+zs.length<=sizeLine) (h : ∀ p,H p=none->Q (.ref p) (upd H p (.lst (xs++zs)))):QK (.ref a) (.ref b) H Q:=⟨a,b,xs,zs,rfl,rfl,h1,h2,hl,h⟩
theorem Uj {K:PySem.W.Frag} {lo hi:Option Int} (h1:eY K H a xs) (h : ∀ p,H p=none->Q (.ref p) (upd H p (.lst (kL xs lo hi)))):Nj K (.ref a) lo hi H Q:=⟨a,xs,rfl,h1,h⟩
theorem cH {QH:Hp->Prop} {p:Addr} {k:Int} {j:Nat} (h1:H p=some (.lst xs)) (h2:MQ xs.length k=some j) (h:QH (upd H p (.lst (xs.set j v)))):O4 (.ref p) (.int k) v H QH:=⟨p,xs,k,j,rfl,rfl,h1,h2,h⟩
theorem rtH {n b' c':St->Hp->Prop} {q:VK} (h:q x H):(Ends.mk n q b' c').rt x H:=h
theorem nxH {n b' c':St->Hp->Prop} {q:VK} {σ : St} (h:n σ H):(Ends.mk n q b' c').nx σ H:=h
theorem Pk {A B:Prop} (h:B):if (!true)=true then A else B:=by simpa using h
theorem Pn {A B:Prop} (h:A):if (!false)=true then A else B:=by simpa using h
theorem Po {c:Prop} [Decidable c] {A B:Prop} (h1 : ¬ c->A) (h2:c->B):if (!decide c)=true then A else B:=by
 by_cases h:c
 ·rw [decide_eq_true h];exact Pk (h2 h)
 ·rw [decide_eq_false h];exact Pn (h1 h)
theorem NC {m:Int} (e:(10:Int) ^ i.toNat=m) (c:nC 10 i) (h:Q (.int m) H):rI nC (λ i j => .int (i ^ j.toNat)) (.int 10) (.int i) H Q:=⟨10,i,rfl,rfl,c,by dsimp only;rw [e];exact h⟩
theorem Q2 (h:Q (.int 1000000000000000000000000000000000000000000000000000000000000) H):rI nC (λ i j => .int (i ^ j.toNat)) (.int 10) (.int 60) H Q:=NC (by decide) (of_eq_true Nx) h
theorem Q3 (h:Q (.int 100000000000000000000000000000000000000000000000000000000000) H):rI nC (λ i j => .int (i ^ j.toNat)) (.int 10) (.int 59) H Q:=NC (by decide) (of_eq_true Ny) h
theorem Q4 (h:Q (.int 100000000000000000000) H):rI nC (λ i j => .int (i ^ j.toNat)) (.int 10) (.int 20) H Q:=NC (by decide) (of_eq_true Nz) h
theorem tyI {n:Int} : JG H (.int n)=some "int" := rfl
theorem tyB {n:Bool} : JG H (.bl n)=some "bool" := rfl
theorem tyS {n:Str} : JG H (.str n)=some "str" := rfl
theorem tyO:JG H .aH=some "NoneType" := rfl
theorem Bw {K:PySem.W.Frag} (h:H a=some (.lst xs)):Tj K "list" (.ref a) H := .inl ⟨rfl,xs,eY.of h⟩
end
def Q5 (p:Prop):Prop:=p/\True
theorem aF {t u:TS} {D:Ends} {σ : St} {H:Hp} (h : ∀ M,Q5 (Is M (u D))->t { D with nx:=M } σ H):JQ t u D σ H:=h _ ⟨Is.rfl,trivial⟩
theorem Q5.use {M N:St->Hp->Prop} (h:Q5 (Is M N)) {σ : St} {H:Hp} (k:N σ H):M σ H:=by cases h.1;exact k
theorem Uk {K:PySem.W.Frag} {H:Hp} {Q:VK} {a:Addr} {ys:List V} (h1:eY K H a ys) (h : ∀ l,H l=none->Q (.ref l) (upd H l (.lst ys))) : ∃ p ys,[V.ref a] = [.ref p]/\(eY K H p ys\/Ei K H p ys) ∧ ∀ l,H l=none->Q (.ref l) (upd H l (.lst ys)):=⟨a,ys,rfl,.inl h1,h⟩
theorem bD {n:Nat} {i:Int} (h0:0<=i) (h1:i < n):MQ n i=some i.toNat:=by unfold MQ;rw [if_pos h0,if_pos h1]
theorem cX {xs:List V} {i:Int} {v:V} (h0:0<=i) (h:xs[i.toNat]? = some v):iw xs i=some v:=by
 have hj:i.toNat < xs.length:=(List.getElem?_eq_some_iff.mp h).1
 unfold iw
 rw [bD h0 (by omega)]
 exact h
theorem vq {lo:Int} {n:Nat} {te:TE} {σ : St} {Q:VK} {H1:Hp} {L:Cells} (F:Nat->V->Prop) (hL:Led H1 L) (hn:n<=sizeLine)
  (hs : ∀ (i:Nat) (H:Hp) (R:VK) (q:Addr×HO),i < n->Led H (q::L)->(∀ v H',F i v->Led H' (q::L)->R v H')->te (some (.int (lo+i)) :: σ) H R)
  (hd : ∀ p acc H',acc.length=n->(∀ i v,acc[i]? = some v->F i v)->Led H' ((p,.lst acc)::L)->Q (.ref p) H'):oY (GC lo n) EN te σ Q H1:=by
 refine qw (λ p i acc H=>i<=n/\acc.length=i/\(∀ j v,acc[j]? = some v->F j v)/\Led H ((p,.lst acc)::L)) (λ p hp=>⟨Nat.zero_le _,rfl,λ j v h=>by simp at h,hL.new hp⟩) (λ p i acc H hp h=>h.2.2.2.get List.mem_cons_self) ?_ ?_
 ·rintro p i acc H hp hi ⟨_,rfl,hF,hl⟩
  unfold EN
  dsimp only
  rw [if_pos rfl]
  refine hs _ _ _ (p,.lst acc) hi hl λ v H' fv hl'=>⟨hl'.get List.mem_cons_self,by omega,hi,by simp,λ j u hj => ?_,hl'.put rfl rfl⟩
  rw [List.getElem?_append] at hj
  split at hj
  ·exact hF j u hj
  ·rename_i hge
   have:j - acc.length=0:=by
    rcases Nat.lt_or_ge (j - acc.length) 1 with h | h
    ·omega
    ·rw [List.getElem?_eq_none (by simpa using h)] at hj;cases hj
   rw [this] at hj
   have e:j=acc.length:=by omega
   subst e
   cases hj
   exact fv
 ·rintro p acc H hp ⟨_,e,hF,hl⟩
  exact hd p acc H e hF hl
end L2
set_option Elab.async false
set_option linter.all false
set_option maxRecDepth 100000
namespace L2
open PySem PySem.Spec PyProof.Rows PySem.W
section
variable {X:Cx}
end
end L2
set_option Elab.async false
set_option linter.all false
set_option maxRecDepth 100000
namespace L2
open PySem PySem.Spec PyProof.Rows
section
variable {X:Cx} {pins:List (Addr×Obj)} {σ : St} {H:Hp} {s:Shared} {h':Heap}
end
section
variable {X:Cx}
end
end L2
set_option Elab.async false
set_option linter.all false
set_option maxRecDepth 100000
namespace L2
open PySem PySem.Spec PyProof.Rows
section
variable {H:Hp} {Q:VK} {a:Addr} {σ : St} {D:Ends}
theorem Ul {C dx:Addr} {fs:List (Str×V)} {f:Str} {v:V} {S:V->Prop} (h1:H a=some (.ins C dx fs)) (h2:fs.lookup f=some v) (h:S v) : ∃ b dx fs v,V.ref a = .ref b/\H b=some (.ins C dx fs)/\fs.lookup f=some v/\S v:=⟨a,dx,fs,v,rfl,h1,h2,h⟩
theorem Pp {C dx:Addr} {fs:List (Str×V)} {m:Str} {S:Prop} (h1:H a=some (.ins C dx fs)) (h2:fs.lookup m=none) (h:S) : ∃ b dx fs,V.ref a = .ref b/\H b=some (.ins C dx fs)/\fs.lookup m=none/\S:=⟨a,dx,fs,rfl,h1,h2,h⟩
theorem Um {kvs:List (Key×V)} {n:Int} {v:V} {S:V->Prop} (h1:H a=some (.dK kvs)) (h2:bx kvs (.inl n)=some v) (h:S v) : ∃ b v,V.ref a = .ref b/\gm H b (.int n) (some v)/\S v:=⟨a,v,rfl,h2 ▸ gm.k (k := .inl n) h1,h⟩
theorem Pq {kvs:List (Key×V)} {n:Int} {v:V} (h1:H a=some (.dK kvs)) (hl:kvs.length < sizeLine) (h:D.nx σ (upd H a (.dK (putK kvs (.inl n) v)))) : ∃ b H4,V.ref a = .ref b/\nF H b (.int n) v H4/\D.nx σ H4:=⟨a,_,rfl,nF.k (k := .inl n) h1 hl,h⟩
theorem Uo {C dx:Addr} {fs:List (Str×V)} {f:Str} {y:V} (h1:H a=some (.ins C dx fs)) (h2:fs.length < 1000) (h:D.nx σ (upd H a (.ins C dx (cQ f y fs)))) : ∃ b dx fs,V.ref a = .ref b/\H b=some (.ins C dx fs)/\fs.length < 1000/\D.nx σ (upd H b (.ins C dx (cQ f y fs))):=⟨a,dx,fs,rfl,h1,h2,h⟩
theorem Up {L:Cells} (hL:Led H L) (h : ∀ p H',H p=none->Led H' ((p,.dK [])::L)->j8 H H'->Q (.ref p) H'):EE σ H Q:=λ p hp=>h p _ hp (hL.new hp) (vd hp)
theorem isH {x:V} (h:Q (.bl (decide (x = .aH))) H):V.aH = .aH/\Q (.bl (decide (x = .aH))) H:=⟨rfl,h⟩
theorem W0 {x:V} (h:Q (.bl (!decide (x = .aH))) H):V.aH = .aH/\Q (.bl (!decide (x = .aH))) H:=⟨rfl,h⟩
theorem Q6 {td ty:TE} (h : ∀ R,(∀ x H1,Hid (λ y H2 => ∃ a kvs k v,x = .ref a/\H2 a=some (.dK kvs)/\y=kV k/\bx kvs k=some v/\Q v (upd H2 a (.dK (dG kvs k)))) (λ R2=>(∃ a,x = .ref a/\Sn H1 a)/\ty σ H1 R2)->R x H1)->td σ H R):EF td ty σ H Q:=by
 unfold EF
 refine h (λ x H1 => ∃ a,x = .ref a/\Sn H1 a/\ty σ H1 λ y H2 => ∃ kvs k v,H2 a=some (.dK kvs)/\y=kV k/\bx kvs k=some v/\Q v (upd H2 a (.dK (dG kvs k)))) λ x H1 z => ?_
 obtain ⟨a,e,hd⟩:=(z (λ _ _=>True) λ _ _ _=>True.intro).1
 subst e
 refine ⟨a,rfl,hd,(z _ λ y H2 q => ?_).2⟩
 obtain ⟨b,kvs,k,v,e,q⟩:=q
 cases e
 exact ⟨kvs,k,v,q⟩
theorem Q7 {kvs:List (Key×V)} (h:H a=some (.dK kvs)) : ∃ b,V.ref a = .ref b/\Sn H b:=⟨a,rfl,.inl ⟨kvs,.inl h⟩⟩
theorem Uq {kvs:List (Key×V)} {n:Int} {v:V} (h1:H a=some (.dK kvs)) (h2:bx kvs (.inl n)=some v) (h:Q v (upd H a (.dK (dG kvs (.inl n))))) : ∃ b kvs k v,V.ref a = .ref b/\H b=some (.dK kvs)/\V.int n=kV k/\bx kvs k=some v/\Q v (upd H b (.dK (dG kvs k))):=⟨a,kvs,.inl n,v,rfl,h1,rfl,h2,h⟩
end
end L2
set_option Elab.async false
set_option linter.all false
set_option maxRecDepth 100000
namespace L2
open PySem PySem.Spec PyProof.Rows
theorem qx {K:PySem.W.Frag} {a:Addr} {te:TE} {σ : St} {Q:VK} {H1:Hp} {L:Cells} (xs:List V) (G:Nat->V->Cells->Prop) (hL:Led H1 L) (ha:(a,HO.lst xs)∈L) (hn:xs.length<=sizeLine)
  (hs : ∀ (i:Nat) (x:V) (H:Hp) (R:VK) (M:Cells),xs[i]? = some x->Led H (M++L)->(∀ v H' C,G i v C->Led H' (C++(M++L))->R v H')->te (some x :: σ) H R)
  (hd : ∀ (p:Addr) (vs:List V) (Cs:List Cells) (H':Hp),vs.length=xs.length->Cs.length=xs.length->(∀ (i:Nat) v C,vs[i]? = some v->Cs[i]? = some C->G i v C)->Led H' ((p,.lst vs)::(Cs.flatten++L))->Q (.ref p) H'):oY (JF K a) EN te σ Q H1:=by
 refine Dl xs (λ p i acc H=>i<=xs.length/\acc.length=i ∧ ∃ Cs:List Cells,Cs.length=i/\(∀ (j:Nat) v C,acc[j]? = some v->Cs[j]? = some C->G j v C)/\Led H ((p,.lst acc)::(Cs.flatten++L))) (λ p hp=>⟨Nat.zero_le _,rfl,[],rfl,λ j v C h=>by simp at h,hL.new hp⟩) (λ p i acc H hp h => ?_) ?_ ?_
 ·obtain ⟨_,_,Cs,_,_,hl⟩:=h
  exact ⟨hl.get List.mem_cons_self,eY.of (hl.get (List.mem_cons_of_mem _ (List.mem_append_right _ ha)))⟩
 ·rintro p i x acc H hp hx ⟨_,rfl,Cs,hc,hG,hl⟩
  have hi:acc.length < xs.length:=(List.getElem?_eq_some_iff.mp hx).1
  unfold EN
  dsimp only
  rw [if_pos rfl]
  refine hs _ x H _ ((p,.lst acc)::Cs.flatten) hx hl λ v H' C g hl' => ?_
  have h1:Led H' ((p,.lst acc)::(C++(Cs.flatten++L))):=Led.pull hl'
  refine ⟨h1.get List.mem_cons_self,by omega,hi,by simp,Cs++[C],by simp [hc],λ j u D hu hD => ?_,?_⟩
  ·rw [List.getElem?_append] at hu hD
   rw [hc] at hD
   by_cases hj:j < acc.length
   ·rw [if_pos hj] at hu hD
    exact hG j u D hu hD
   ·rw [if_neg hj] at hu hD
    have h0:j - acc.length=0:=by
     rcases Nat.lt_or_ge (j - acc.length) 1 with h | h
     ·omega
     ·rw [List.getElem?_eq_none (by simpa using h)] at hu;cases hu
    rw [h0] at hu hD
    have e:j=acc.length:=by omega
    subst e
    cases hu
    cases hD
    exact g
  ·refine (h1.put (o' := .lst (acc++[v])) rfl rfl).perm (List.Perm.cons _ ?_)
   rw [List.flatten_append,List.flatten_cons,List.flatten_nil,List.append_nil,List.append_assoc,<-List.append_assoc,<-List.append_assoc]
   exact List.Perm.append_right _ List.perm_append_comm
 ·rintro p acc H hp ⟨_,e,Cs,hc,hG,hl⟩
  exact hd p acc Cs H e hc hG hl
end L2
set_option Elab.async false
set_option linter.all false
set_option maxRecDepth 100000
namespace L2
open PySem PySem.Spec PyProof.Rows
section
variable {H:Hp} {Q:VK} {a:Addr} {σ : St} {D:Ends}
end
section
variable {α : Type} {A B B' X Y:List α} {a b : α}
theorem pcC (h:(a::B').Perm B):(a::b::B').Perm (b::B):=(List.Perm.swap _ _ _).trans (h.cons b)
theorem pcA (h:(a::B').Perm B):(a::(Y++B')).Perm (Y++B):=(List.perm_middle.symm).trans (List.Perm.append_left Y h)
theorem paC (h:(X++B').Perm B):(X++(b::B')).Perm (b::B):=List.perm_middle.trans (h.cons b)
theorem paA (h:(X++B').Perm B):(X++(Y++B')).Perm (Y++B):=by
 refine List.Perm.trans ?_ (List.Perm.append_left Y h)
 rw [<-List.append_assoc,<-List.append_assoc]
 exact List.Perm.append_right _ List.perm_append_comm
def yo (B A:List α):Prop := ∃ A',B.Perm A'/\A'.Sublist A
theorem spR:yo A A:=⟨A,.refl _,.refl _⟩
theorem spC (h1:(a::A).Perm B) (h2:yo Y A):yo (a::Y) B:=by
 obtain ⟨A',p,s⟩:=h2
 obtain ⟨C,p2,s2⟩:=List.exists_perm_sublist (s.cons₂ a) h1
 exact ⟨C,(p.cons a).trans p2.symm,s2⟩
theorem spA (h1:(X++A).Perm B) (h2:yo Y A):yo (X++Y) B:=by
 obtain ⟨A',p,s⟩:=h2
 obtain ⟨C,p2,s2⟩:=List.exists_perm_sublist (List.Sublist.append_left s X) h1
 exact ⟨C,(List.Perm.append_left X p).trans p2.symm,s2⟩
theorem spD (h:yo B A):yo B (a::A):=by
 obtain ⟨A',p,s⟩:=h
 exact ⟨A',p,s.cons a⟩
theorem W2 (h:yo B A):yo B (X++A):=by
 obtain ⟨A',p,s⟩:=h
 exact ⟨A',p,s.trans (List.sublist_append_right X A)⟩
end
theorem Led.wk {H:Hp} {L L':Cells} (h:Led H L) (s:yo L' L):Led H L':=by
 obtain ⟨A',p,q⟩:=s
 exact (h.sub q).perm p.symm
theorem Led.make {H:Hp} {L:Cells} {C x dx:Addr} (hL:Led H L) (h1:H x=none) (h2:H dx=none) (hn:dx≠x):Led (upd (upd H dx (.own x)) x (.ins C dx [])) ((x,.ins C dx [])::L):=by
 have:=(hL.new (o := .own x) h2).new (p:=x) (o := .ins C dx []) (by rw [b3 (Ne.symm hn)];exact h1)
 exact this.sub (.cons₂ _ (.cons _ (.refl _)))
end L2
set_option Elab.async false
set_option linter.all false
set_option maxRecDepth 100000
namespace L2
open PySem PySem.Spec PyProof.Rows PySem.W
theorem jF {d:Dat} (h:kqdOk 8 d=true):shaped (kqdP d)=true:=by
 have l:=kqd_lay 8 d h
 show ((kqdP d).canLay0 && decide ((kqdP d).depth<=64))=true
 rw [l.1,Bool.true_and]
 exact decide_eq_true (Nat.le_trans l.2 (by decide))
theorem l9 : ∀ ds:List Dat,kqdPs ds=ds.map kqdP
 | []=>rfl
 | d::ds=>by rw [kqdPs,l9 ds];rfl
theorem qy {K:PySem.W.Frag} {β : Type} {a:Addr} {tt:TT} {te:TE} {σ : St} {Q:VK} {H1:Hp} {L:Cells} (ys:List β) (g : β->V) (p : β->Bool) (hL:Led H1 L) (ha:(a,HO.lst (ys.map g))∈L) (hn:ys.length<=sizeLine)
  (ht : ∀ (y : β) (H:Hp) (R:Bool->Hp->Prop) (q:Addr×HO),y∈ys->Led H (q::L)->(∀ H',Led H' (q::L)->R (p y) H')->tt (some (g y) :: σ) H R)
  (he : ∀ (y : β) (H:Hp) (R:VK) (q:Addr×HO),y∈ys->Led H (q::L)->(∀ H',Led H' (q::L)->R (g y) H')->te (some (g y) :: σ) H R)
  (hd : ∀ (r:Addr) (H':Hp),Led H' ((r,.lst ((ys.filter p).map g))::L)->Q (.ref r) H'):oY (JF K a) tt te σ Q H1:=by
 refine Dl (ys.map g) (λ r i acc H=>acc=((ys.take i).filter p).map g/\Led H ((r,.lst acc)::L)) (λ r hr=>⟨rfl,hL.new hr⟩) (λ r i acc H hr h=>⟨h.2.get List.mem_cons_self,eY.of (h.2.get (List.mem_cons_of_mem _ ha))⟩) ?_ ?_
 ·rintro r i x acc H hr hx ⟨rfl,hl⟩
  rw [List.getElem?_map] at hx
  obtain ⟨y,hy,rfl⟩:=Option.map_eq_some_iff.mp hx
  have hm:y∈ys:=List.mem_of_getElem? hy
  have hi:i < ys.length:=(List.getElem?_eq_some_iff.mp hy).1
  have e:ys.take (i+1)=ys.take i++[y]:=by rw [List.take_succ,hy];rfl
  have hlen:(((ys.take i).filter p).map g).length < sizeLine:=by
   rw [List.length_map]
   have h1:=List.length_filter_le p (ys.take i)
   rw [List.length_take] at h1
   omega
  refine ht y H _ _ hm hl λ H2 hl2 => ?_
  cases hp:p y with
  | true =>
    rw [if_pos rfl]
    refine he y H2 _ _ hm hl2 λ H3 hl3=>⟨hl3.get List.mem_cons_self,hlen,?_,hl3.put rfl rfl⟩
    rw [e,List.filter_append,List.map_append,List.filter_cons,if_pos hp]
    rfl
  | false =>
    rw [if_neg Bool.false_ne_true]
    refine ⟨?_,hl2⟩
    rw [e,List.filter_append,List.map_append,List.filter_cons,if_neg (by rw [hp];exact Bool.false_ne_true)]
    simp
 ·rintro r acc H hr ⟨rfl,hl⟩
  rw [List.length_map,List.take_length] at hl
  exact hd r H hl
theorem W3 {H:Hp} {Q:VK} {K:PySem.W.Frag} {a:Addr} {xs:List V} {lo hi:Option Int} (h1:H a=some (.tup xs)) (h2 : ¬ (HT.sD xs.length 0 lo=0/\HT.sD xs.length xs.length hi=xs.length)) (h : ∀ p,H p=none->Q (.ref p) (upd H p (.tup (kL xs lo hi)))):Nh K (.ref a) lo hi H Q:=⟨a,xs,rfl,Ei.of h1,h2,h⟩
end L2
set_option Elab.async false
set_option linter.all false
set_option maxRecDepth 100000
namespace L2
open PySem PySem.Spec PyProof.Rows
theorem qz (k j:Key) : ∀ kvs:List (Key×V),bx (dG kvs k) j=if j=k then none else bx kvs j
 | []=>by simp [dG,bx]
 | p::r=>by
   by_cases e:p.1=k
   ·rw [AD e,qz k j r]
    by_cases hj:j=k
    ·rw [if_pos hj,if_pos hj]
    ·rw [if_neg hj,if_neg hj,bz (λ z=>hj (by rw [<-z,e]))]
   ·rw [AE e]
    by_cases hp:p.1=j
    ·rw [bP hp,bP hp,if_neg (λ z=>e (by rw [hp,z]))]
    ·rw [bz hp,bz hp,qz k j r]
structure WD (kvs:List (Key×V)) (f:Int->V) (n:Nat):Prop where
 nd:(kvs.map (·.1)).Nodup
 ik : ∀ k∈kvs.map (·.1),∃ m:Int,k=Sum.inl m
 le:kvs.length<=n
 vl : ∀ m,bx kvs (.inl m)=if f m = .aH then none else some (f m)
theorem WD.keys {kvs:List (Key×V)} (h : ∀ k∈kvs.map (·.1),∃ m:Int,k=Sum.inl m) : ∃ ns:List Int,kvs.map (·.1)=ns.map Sum.inl:=by
 induction kvs with
 | nil=>exact ⟨[],rfl⟩
 | cons p r ih =>
   obtain ⟨ns,e⟩:=ih λ k hk=>h k (List.mem_cons_of_mem _ hk)
   obtain ⟨m,hm⟩:=h p.1 List.mem_cons_self
   exact ⟨m::ns,by rw [List.map_cons,List.map_cons,e,hm]⟩
theorem WD.ns {kvs:List (Key×V)} {f:Int->V} {n:Nat} (h:WD kvs f n) : ∃ ns:List Int,kvs.map (·.1)=ns.map Sum.inl/\ns.length<=n/\ns.Nodup ∧ ∀ m,m∈ns↔f m ≠ .aH:=by
 obtain ⟨ns,e⟩:=WD.keys h.ik
 refine ⟨ns,e,?_,?_,λ m => ?_⟩
 ·have:=congrArg List.length e
  rw [List.length_map,List.length_map] at this
  have:=h.le
  omega
 ·have:=h.nd
  rw [e] at this
  exact (List.pairwise_map.mp this).imp fun {a b} hab z=>hab (by rw [z])
 ·have h1:m∈ns↔(Sum.inl m:Key)∈kvs.map (·.1):=by
   rw [e,List.mem_map]
   constructor
   ·intro hm;exact ⟨m,hm,rfl⟩
   ·rintro ⟨m',hm,z⟩;cases z;exact hm
  rw [h1]
  have hv:=h.vl m
  constructor
  ·intro hk z
   rw [if_pos z] at hv
   exact C7 hv hk
  ·intro z
   rw [if_neg z] at hv
   exact Np hv
theorem WD.start:WD [] (λ _ => .aH) 0:=⟨List.nodup_nil,(λ _ h=>nomatch h),Nat.le_refl _,λ m=>by rw [if_pos rfl];rfl⟩
theorem AH {kvs:List (Key×V)} {k:Key} {v:V} (h:(bx kvs k).isSome=true):(putK kvs k v).map (·.1)=kvs.map (·.1):=by
 unfold putK
 rw [c7,h,if_pos rfl,List.map_map]
 refine List.map_congr_left λ p hp => ?_
 dsimp only [Function.comp]
 split <;> rfl
theorem WD.put {kvs:List (Key×V)} {f:Int->V} {n:Nat} (h:WD kvs f n) (p:Int) {v:V} (hv:v ≠ .aH):WD (putK kvs (.inl p) v) (λ m=>if m=p then v else f m) (n+1):=by
 refine ⟨?_,?_,?_,λ m => ?_⟩
 ·cases e:bx kvs (.inl p) with
  | none=>exact Nq v h.nd e
  | some u=>rw [AH (by rw [e];rfl)];exact h.nd
 ·cases e:bx kvs (.inl p) with
  | none =>
    rw [C1 v e,List.map_append]
    intro k hk
    rcases List.mem_append.mp hk with hk | hk
    ·exact h.ik k hk
    ·simp only [List.map_cons,List.map_nil,List.mem_cons,List.not_mem_nil,or_false] at hk
     exact ⟨p,hk⟩
  | some u=>rw [AH (by rw [e];rfl)];exact h.ik
 ·exact Nat.le_trans (kJ kvs _ v) (Nat.succ_le_succ h.le)
 ·rw [J6,h.vl m]
  by_cases hm:m=p
  ·rw [if_pos (by rw [hm]),if_pos hm,if_neg hv]
  ·rw [if_neg (λ z=>hm (Sum.inl.inj z)),if_neg hm]
theorem WD.drop {kvs:List (Key×V)} {f:Int->V} {n:Nat} (h:WD kvs f n) (p:Int):WD (dG kvs (.inl p)) (λ m=>if m=p then .aH else f m) n:=by
 refine ⟨vc h.nd,λ k hk => ?_,Nat.le_trans (u0 kvs _) h.le,λ m => ?_⟩
 ·obtain ⟨q,hq,rfl⟩:=List.mem_map.mp hk
  exact h.ik _ (List.mem_map.mpr ⟨q,AF hq,rfl⟩)
 ·rw [qz,h.vl m]
  by_cases hm:m=p
  ·rw [if_pos (by rw [hm]),if_pos hm,if_pos rfl]
  ·rw [if_neg (λ z=>hm (Sum.inl.inj z)),if_neg hm]
theorem WD.mono {kvs:List (Key×V)} {f:Int->V} {n n':Nat} (h:WD kvs f n) (hn:n<=n'):WD kvs f n':=⟨h.nd,h.ik,Nat.le_trans h.le hn,h.vl⟩
theorem WD.get {kvs:List (Key×V)} {f:Int->V} {n:Nat} (h:WD kvs f n) (m:Int):(bx kvs (.inl m)).getD .aH=f m:=by
 rw [h.vl]
 split
 ·rename_i e;rw [e];rfl
 ·rfl
theorem Kz (ns:List Int) (lo hi:Option Int) : ∃ ms:List Int,kL (ns.map V.int) lo hi=ms.map V.int/\ms.length<=ns.length:=by
 refine ⟨(ns.drop (HT.sD (ns.map V.int).length 0 lo)).take (HT.sD (ns.map V.int).length (ns.map V.int).length hi - HT.sD (ns.map V.int).length 0 lo),?_,?_⟩
 ·unfold kL
  rw [List.map_take,List.map_drop]
 ·rw [List.length_take,List.length_drop]
  omega
theorem W4 {H:Hp} {Q:VK} {K:PySem.W.Frag} {p:Addr} {a b c d:V} (h1:H p=some (.tup [a,b,c,d])) (h : ∀ q,H q=none->Q (.ref q) (upd H q (.tup [c,d]))):Nh K (.ref p) (some 2) none H Q:=W3 h1 (show ¬ (HT.sD 4 0 (some 2)=0/\HT.sD 4 4 none=4) by decide) h
end L2
set_option Elab.async false
set_option linter.all false
set_option maxRecDepth 100000
namespace L2
open PySem PySem.Spec PyProof.Rows
end L2
set_option Elab.async false
set_option linter.all false
set_option maxRecDepth 100000
namespace L2
open PySem PySem.Spec PyProof.Rows PySem.W
section
variable {X:Cx}
end
section
variable {X:Cx}
def Q8 (neg:Bool):R2:=λ x y H Q => ∃ d ds,eg H x d/\eg H y (.list ds)/\d.depth<=60/\shaped d=true/\shaped (.list ds)=true/\Q (.bl (if neg then !(ds.any λ e=>PyData.eqv e d) else ds.any λ e=>PyData.eqv e d)) H
theorem jG {d:PyData} (h:shaped d=true):d.canLay0=true/\d.depth<=64:=by
 have h':(d.canLay0 && decide (d.depth<=64))=true:=h
 rw [Bool.and_eq_true,decide_eq_true_iff] at h'
 exact h'
theorem nH {ds:List PyData} (h:shaped (.list ds)=true):PyData.canLayAll0 ds=true:=by
 have:=(jG h).1
 simpa [PyData.canLay0] using this
theorem Q9 (hu:X.A.units+64 < cLine):ql X (compareOp .In) (Q8 false):=by
 intro pins s σ H x y u v Q I rx ry h
 obtain ⟨d,ds,hd,he,h60,sd,se,q⟩:=h
 obtain ⟨_,ra⟩:=hd.reads I.hok rx
 obtain ⟨_,rb⟩:=he.reads I.hok ry
 have h1:=jG sd
 exact SeqAt.in_list_reads rb ra (nH se) h1.1 (by have:=Nat.min_le_right (PyData.depthAll ds) d.depth;omega) ⟨.bl _,H,I,rfl,q⟩
theorem qA (hu:X.A.units+64 < cLine):ql X (compareOp .NotIn) (Q8 true):=by
 intro pins s σ H x y u v Q I rx ry h
 obtain ⟨d,ds,hd,he,h60,sd,se,q⟩:=h
 obtain ⟨_,ra⟩:=hd.reads I.hok rx
 obtain ⟨_,rb⟩:=he.reads I.hok ry
 have h1:=jG sd
 exact SeqAt.notIn_list_reads rb ra (nH se) h1.1 (by have:=Nat.min_le_right (PyData.depthAll ds) d.depth;omega) ⟨.bl _,H,I,rfl,q⟩
end
end L2
set_option Elab.async false
set_option linter.all false
set_option maxRecDepth 100000
namespace L2
open PySem PySem.Spec PyProof.Rows PySem.W
theorem nI {E:XK} {C:Addr} {ta:TA} {D:Ends} {σ : St} {H:Hp} (h : ∀ R,Is R (λ vs H1=>vs.length<=sizeLine/\E (.ref C) none H1)->ta σ H R):Kr E C ta D σ H:=h _ Is.rfl
section
variable {X:Cx} {k:Nat} {C:Addr} {ps:List Str} {sp:Sp} {x m:Str} {pos apos:Pos} {e o:Expr} {es:List Expr} {ta:TE} {t:TA}
end
theorem Ur {K:PySem.W.Frag} {H:Hp} {p:Addr} {x y:V} {σ : L2.St} {i j:Nat} {Q:L2.St->Hp->Prop} (h:H p=some (.tup [x,y])) (hq:Q ((σ.set i (some x)).set j (some y)) H):SQ K 2 (JT (sy i) (JT (sy j) SO)) (.ref p) σ H Q:=⟨p,[x,y],rfl,Ei.of h,rfl,x,[y],rfl,y,[],rfl,rfl,hq⟩
end L2
set_option Elab.async false
set_option linter.all false
set_option maxRecDepth 100000
namespace L2
open PySem PySem.Spec PyProof.Rows PySem.W
section
variable {X:Cx}
def Us:V->Option Int->Option Int->Hp->VK->Prop:=λ x lo hi H Q => ∃ z,x = .str z/\z.length<=sizeLine/\Q (.str (Txt.slice z lo hi)) H
theorem part_of {v:Value} {o:Option Int} (h:IsPart v o) : ∃ l:Option (Int×Tok),v=partValue l/\o=l.map (·.1):=by
 cases h with
 | none=>exact ⟨none,rfl,rfl⟩
 | int i t=>exact ⟨some (i,t),rfl,rfl⟩
theorem KA:Vh X Us:=by
 intro pins s σ H x v vl vu lo hi sl Q I rx hs pl pu h
 obtain ⟨z,rfl,hz,q⟩:=h
 obtain ⟨t,rfl⟩:=rx
 obtain ⟨l,rfl,rfl⟩:=part_of pl
 obtain ⟨u,rfl,rfl⟩:=part_of pu
 refine ⟨"str",_,F.slot_str_getitem.lookup,typeIs_str _ z t,wpAny_getItem_str_slice (l:=l) (u:=u) (st:=none) hs rfl ?_⟩
 have hle:=Txt.slice_le z (l.map (·.1)) (u.map (·.1))
 unfold sliceMade
 unfold Txt.slice at q hle
 by_cases c:(((none:Option (Int×Tok)).map (·.1)).getD 1 == 1 && (slicePicked z l u none).length == z.length)=true
 ·rw [if_pos c]
  have c':((1:Int) == 1 && (Builtin.Str.strSliceIndices (l.map (·.1)) (u.map (·.1)) 1 z.length).length == z.length)=true:=c
  rw [if_pos c'] at q
  exact ⟨.str z,H,I,⟨t,rfl⟩,q⟩
 ·rw [if_neg c]
  have c' : ¬ ((1:Int) == 1 && (Builtin.Str.strSliceIndices (l.map (·.1)) (u.map (·.1)) 1 z.length).length == z.length)=true:=c
  rw [if_neg c'] at q hle
  exact ⟨Nat.le_trans hle hz,.str _,H,I.tok _,⟨_,rfl⟩,q⟩
theorem Ut {H:Hp} {Q:VK} {z:Str} {lo hi:Option Int} (hz:z.length<=sizeLine) (h:Q (.str (Txt.slice z lo hi)) H):Us (.str z) lo hi H Q:=⟨z,rfl,hz,h⟩
abbrev sg (c:Nat):V := .str ⟨#[c]⟩
end
theorem W5 {H:Hp} {Q:VK} {z:Str} {i:Int} {c:Nat} (hz:z.length<=sizeLine) (h1:iw z.cps.toList i=some c) (h:Q (sg c) H):Ti (.str z) (.int i) H Q:=⟨z,i,c,rfl,rfl,hz,h1,h⟩
theorem Uu {H:Hp} {Q:VK} {i j:Str} (hz:i.length+j.length<=sizeLine) (h:Q (.str (i++j)) H) : ∃ a b,V.str i = .str a/\V.str j = .str b/\a.length+b.length<=sizeLine/\Q (.str (a++b)) H:=⟨i,j,rfl,rfl,hz,h⟩
end L2
set_option Elab.async false
set_option linter.all false
set_option maxRecDepth 100000
namespace L2
open PySem PySem.Spec PyProof.Rows PySem.W
section
variable {X:Cx}
def ER:V->List V->Hp->VK->Prop:=λ x vs H Q => ∃ l xs y j,x = .ref l/\vs = [y]/\H l=some (.lst xs)/\eu y=true/\xs.all eu=true/\(∃ v,xs[j]? = some v/\Bc v y=true)/\(∀ m v,m < j->xs[m]? = some v->Bc v y=false)/\Q (.int (j:Nat)) H
theorem kU:Vj X "list.index" ER:=by
 intro pins s σ H x vs v us Q I rx rv h
 obtain ⟨l,xs,y,j,rfl,rfl,hH,fy,fs,⟨vj,hvj,hit⟩,hno,q⟩:=h
 cases rx
 obtain ⟨u,rfl,ru⟩:=rv.one
 obtain ⟨z,its,n,r,hl,e⟩:=I.C5 hH
 have hj:j < xs.length:=(List.getElem?_eq_some_iff.mp hvj).1
 have at_ : ∀ (m:Nat) (hm:m < its.toArray.size) (w:V),xs[m]? = some w->C4 y its.toArray[m]=Bc w y:=λ m hm w hw=>by
  obtain ⟨u',hu',ru'⟩:=r.get hw
  have fw:eu w=true:=List.all_eq_true.mp fs w (List.mem_of_getElem? hw)
  have e1:its.toArray[m]=u':=by
   have:its[m]? = some u':=hu'
   simpa [List.getElem?_eq_some_iff] using (List.getElem?_eq_some_iff.mp this).2
  rw [e1]
  exact EH ru' fw
 have hsz:its.toArray.size=xs.length:=by rw [List.size_toArray];omega
 have hl2:=nD
 refine call_meets F.slot_list_index ⟨_,e,rfl⟩ F.entry_list_index (F.args_list_index_2 _ _) (SeqAt.list_indexAt l its.toArray n none #[] u (C4 y) j (by omega) (by omega) ?_ ?_) ⟨e,λ w hw=>i8 ru fy r fs w (by simpa using hw),?_⟩
 ·rw [at_ j (by omega) vj hvj];exact hit
 ·intro m hm hlt
  have Ra:m < xs.length:=by omega
  rw [at_ m hm _ (List.getElem?_eq_getElem Ra)]
  exact hno m _ hlt (List.getElem?_eq_getElem Ra)
 ·exact ⟨.int j,H,I.tok _,⟨_,rfl⟩,q⟩
theorem Rb {H:Hp} {Q:VK} {l:Addr} {xs:List V} {y v:V} {j:Nat} (h1:H l=some (.lst xs)) (fy:eu y=true) (fs:xs.all eu=true) (hj:xs[j]? = some v) (hit:Bc v y=true) (hno : ∀ m v,m < j->xs[m]? = some v->Bc v y=false) (h:Q (.int (j:Nat)) H):ER (.ref l) [y] H Q:=⟨l,xs,y,j,rfl,rfl,h1,fy,fs,⟨v,hj,hit⟩,hno,h⟩
end
abbrev j9:=List (Int×Addr×List Int)
def uN (es:j9):List (Key×V):=es.map λ e=>(Sum.inl e.1,V.ref e.2.1)
def ja (es:j9):Cells:=es.map λ e=>(e.2.1,HO.lst (e.2.2.map V.int))
theorem Bx (es:j9) (n:Int):bx (uN es) (.inl n)=(es.find? λ e=>decide (e.1=n)).map λ e => .ref e.2.1:=by
 induction es with
 | nil=>rfl
 | cons e es ih =>
   unfold uN at ih ⊢
   rw [List.map_cons,List.find?_cons]
   by_cases h:e.1=n
   ·rw [bP (by rw [h]),decide_eq_true h];rfl
   ·rw [bz (λ q=>h (Sum.inl.inj q)),decide_eq_false h];exact ih
theorem KC {es:j9} {n:Int} (h:n ∉ es.map (·.1)):bx (uN es) (.inl n)=none:=by
 rw [Bx,List.find?_eq_none.mpr]
 ·rfl
 ·intro e he q
  exact h (List.mem_map.mpr ⟨e,he,of_decide_eq_true q⟩)
theorem ND {es:j9} {n:Int} (h:n ∉ es.map (·.1)) (a:Addr) (row:List Int):putK (uN es) (.inl n) (.ref a)=uN (es++[(n,a,row)]):=by
 unfold putK
 rw [if_neg]
 ·unfold uN;rw [List.map_append];rfl
 ·rw [c7,KC h];exact Bool.false_ne_true
theorem KD (es:j9) (n:Int):dG (uN es) (.inl n)=uN (es.filter λ e=>decide (e.1≠n)):=by
 unfold dG uN
 rw [List.filter_map]
 congr 1
 refine List.filter_congr λ e _ => ?_
 show decide ((Sum.inl e.1:Key)≠Sum.inl n)=decide (e.1≠n)
 exact decide_eq_decide.mpr ⟨λ q z=>q (by rw [z]),λ q z=>q (Sum.inl.inj z)⟩
theorem oZ {es:j9} {e:Int×Addr×List Int} (nd:(es.map (·.1)).Nodup) (h:e∈es):es.find? (λ x=>decide (x.1=e.1))=some e:=by
 induction es with
 | nil=>cases h
 | cons x es ih =>
   rw [List.map_cons,List.nodup_cons] at nd
   rw [List.find?_cons]
   rcases List.mem_cons.mp h with rfl | h
   ·rw [decide_eq_true rfl]
   ·have:x.1≠e.1:=λ q=>nd.1 (q ▸ List.mem_map.mpr ⟨e,h,rfl⟩)
    rw [decide_eq_false this]
    exact ih nd.2 h
theorem NF:nC 10 40=True:=eq_true ⟨by decide,by decide,by decide⟩
section
variable {H:Hp} {Q:VK}
theorem Rc (h:Q (.int 10000000000000000000000000000000000000000) H):rI nC (λ i j => .int (i ^ j.toNat)) (.int 10) (.int 40) H Q:=NC (by decide) (of_eq_true NF) h
end
theorem bits_add {x y:Int} {n:Nat} (hx:Builtin.Int.intBits x<=n) (h0:0<=y) (h1:y<=1000000) (hn:20<=n):Builtin.Int.intBits (x+y)<=n+1:=by
 have hy:Builtin.Int.intBits y<=20:=intBits_le_iff.mpr (by omega)
 exact Nat.le_trans (intBits_add_le hx hy) (by omega)
theorem vt {x:Int} (h0:0<=x) (h1:x<=1000000):Builtin.Int.intBits x<=20:=intBits_le_iff.mpr (by omega)
theorem Rf {c m:Int} (hb:Builtin.Int.intBits c<=2000000) (hm:Builtin.Int.intBits m<=1000):IntMulOk c m:=IntMulOk.of_le hb hm (by decide)
theorem W6 {a0 a1 a2 a3 a4 a5 t:Int} (h0:0<=t) (h5:t<=5) : ∃ z:Int,iw [V.int a0,.int a1,.int a2,.int a3,.int a4,.int a5] t=some (.int z):=by
 have h:t=0\/t=1\/t=2\/t=3\/t=4\/t=5:=by omega
 rcases h with rfl | rfl | rfl | rfl | rfl | rfl
 ·exact ⟨_,O9⟩
 ·exact ⟨_,Pa⟩
 ·exact ⟨_,Pb⟩
 ·exact ⟨_,Pc⟩
 ·exact ⟨_,Pd⟩
 ·exact ⟨_,Ph⟩
theorem intsOf : ∀ {vs:List V},(∀ (i:Nat) v,vs[i]? = some v->∃ z:Int,v=V.int z)->∃ zs:List Int,vs=zs.map V.int
 | [],_=>⟨[],rfl⟩
 | v::vs,h=>by
   obtain ⟨z,rfl⟩:=h 0 v rfl
   obtain ⟨zs,rfl⟩:=intsOf (vs:=vs) λ i u hu=>h (i+1) u hu
   exact ⟨z::zs,rfl⟩
theorem Ie {es:j9} {e:Int×Addr×List Int} (nd:(es.map (·.1)).Nodup) (h:e∈es) : ∃ as bs,es=as++e::bs/\es.filter (λ x=>decide (x.1≠e.1))=as++bs:=by
 obtain ⟨as,bs,rfl⟩:=List.append_of_mem h
 refine ⟨as,bs,rfl,?_⟩
 rw [List.map_append,List.map_cons] at nd
 have h1 : ∀ x∈as++bs,x.1≠e.1:=λ x hx q=>by
  have Rg:=(List.perm_middle (l₁ := as.map (·.1)) (a:=e.1) (l₂ := bs.map (·.1))).nodup_iff.mp nd
  rw [List.nodup_cons] at Rg
  refine Rg.1 ?_
  rw [<-List.map_append,<-q]
  exact List.mem_map.mpr ⟨x,hx,rfl⟩
 rw [List.filter_append,List.filter_cons,if_neg (by simp)]
 rw [List.filter_eq_self.mpr,List.filter_eq_self.mpr]
 ·intro x hx;exact decide_eq_true (h1 x (List.mem_append_right _ hx))
 ·intro x hx;exact decide_eq_true (h1 x (List.mem_append_left _ hx))
theorem KG (as bs:j9) (e:Int×Addr×List Int):ja (as++e::bs)=ja as++(e.2.1,HO.lst (e.2.2.map V.int))::ja bs:=by unfold ja;rw [List.map_append];rfl
theorem KH (as bs:j9):ja (as++bs)=ja as++ja bs:=by unfold ja;rw [List.map_append]
theorem GU {K:PySem.W.Frag} {H:Hp} {Q:VK} {p:Addr} {xs:List V} {y:V} (h1:H p=some (.lst xs)) (fy:eu y=true) (fs:xs.all eu=true) (h:Q (.bl (qu y xs)) H):Vi K false y (.ref p) H Q:=⟨p,xs,rfl,.inl (eY.of h1),fy,fs,h⟩
end L2
set_option Elab.async false
set_option linter.all false
set_option maxRecDepth 100000
namespace L2
open PySem PySem.Spec PyProof.Rows PySem.W
section
variable {X:Cx} {pins:List (Addr×Obj)} {σ : St} {H:Hp} {s:Shared} {h':Heap}
end
section
variable {X:Cx}
end
end L2
set_option Elab.async false
set_option linter.all false
set_option maxRecDepth 100000
namespace L2
open PySem PySem.Spec PyProof.Rows PySem.W
abbrev Uv:Str:=Str.ofString "0123456789"
def Vz (c:Nat):Bool := !(Builtin.Str.occurrences Uv ⟨#[c]⟩ 0 Uv.length 1).isEmpty
end L2
set_option Elab.async false
set_option linter.all false
set_option maxRecDepth 100000
namespace L2
open PySem PySem.Spec PyProof.Rows PySem.W
end L2
set_option Elab.async false
set_option linter.all false
set_option maxRecDepth 100000
namespace L2
open PySem PySem.Spec PyProof.Rows PySem.W
section
variable {X:Cx}
def GV:V->List V->Hp->VK->Prop:=λ x vs H Q => ∃ l xs y d ds j,x = .ref l/\vs = [y]/\H l=some (.lst xs)/\eg H y d/\bQ H xs ds/\d.depth<=60/\shaped d=true/\shaped (.list ds)=true/\(∃ e,ds[j]? = some e/\PyData.eqv e d=true)/\(∀ (m:Nat) e,m < j->ds[m]? = some e->PyData.eqv e d=false)/\Q (.int (j:Nat)) H
theorem mh (hu:X.A.units+64 < cLine):Vj X "list.index" GV:=by
 intro pins s σ H x vs v us Q I rx rv h
 obtain ⟨l,xs,y,d,ds,j,rfl,rfl,hH,hd,hds,h60,sd,se,⟨ej,hej,hit⟩,hno,q⟩:=h
 cases rx
 obtain ⟨u,rfl,ru⟩:=rv.one
 obtain ⟨z,its,n,r,hl,e⟩:=I.C5 hH
 obtain ⟨_,ra⟩:=hd.reads I.hok ru
 obtain ⟨_,rb⟩:=hds.reads I.hok r
 have h1:=jG sd
 have hcl:=nH se
 have hm:=SeqAt.readsAll_map ds its _ hcl rb
 have hdl:=hds.length
 have hj:j < ds.length:=(List.getElem?_eq_some_iff.mp hej).1
 have hsz:its.toArray.size=ds.length:=by rw [List.size_toArray,<-hm,List.length_map]
 have at_ : ∀ (m:Nat) (Sw:m < its.toArray.size) (w:PyData),ds[m]? = some w->SeqAt.readOf s.heap its.toArray[m]=w:=λ m Sw w hw=>by
  rw [<-hm,List.getElem?_map] at hw
  have hm2:m < its.length:=by simpa using Sw
  rw [List.getElem?_eq_getElem hm2] at hw
  simpa using hw
 have hl2:=nD
 refine call_meets F.slot_list_index ⟨_,e,rfl⟩ F.entry_list_index (F.args_list_index_2 _ _) (SeqAt.list_indexAt l its.toArray n none #[] u (λ v=>PyData.eqv (SeqAt.readOf s.heap v) d) j (by omega) (by omega) ?_ ?_) ⟨e,SeqAt.items_eqAt (by simpa using rb) ra hcl h1.1 (by have:=Nat.min_le_right (PyData.depthAll ds) d.depth;omega),?_⟩
 ·show PyData.eqv (SeqAt.readOf s.heap its.toArray[j]) d=true
  rw [at_ j (by omega) ej hej];exact hit
 ·intro m Sw hlt
  have Ra:m < ds.length:=by omega
  show PyData.eqv (SeqAt.readOf s.heap its.toArray[m]) d=false
  rw [at_ m Sw _ (List.getElem?_eq_getElem Ra)]
  exact hno m _ hlt (List.getElem?_eq_getElem Ra)
 ·exact ⟨.int j,H,I.tok _,⟨_,rfl⟩,q⟩
end
theorem GW {H:Hp} {Q:VK} {l:Addr} {xs:List V} {y:V} {d:Dat} {ds:List Dat} {j:Nat} (h1:H l=some (.lst xs)) (hd:eg H y (kqdP d)) (hds:bQ H xs (kqdPs ds)) (o1:kqdOk 8 d=true) (o2 : ∀ e∈ds,kqdOk 7 e=true) (hj:ds[j]? = some d) (hno : ∀ (m:Nat) e,m < j->ds[m]? = some e->e≠d) (h:Q (.int (j:Nat)) H):GV (.ref l) [y] H Q:=by
 have s1:kqdOk 8 (.list ds)=true:=by rw [kqdOk,List.all_eq_true];exact o2
 have s2:=jF s1
 rw [kqdP] at s2
 have dp:=(kqd_lay 8 d o1).2
 refine ⟨l,xs,y,kqdP d,kqdPs ds,j,rfl,rfl,h1,hd,hds,by omega,jF o1,s2,⟨kqdP d,by rw [l9,List.getElem?_map,hj];rfl,(kqd_eqv 8 d d 8 o1 o1).mpr rfl⟩,λ m e hm he => ?_,h⟩
 rw [l9,List.getElem?_map] at he
 obtain ⟨e',he',rfl⟩:=Option.map_eq_some_iff.mp he
 exact Bool.eq_false_iff.mpr λ z=>hno m e' hm he' ((kqd_eqv 7 e' d 8 (o2 e' (List.mem_of_getElem? he')) o1).mp z)
theorem ES {H:Hp} {Q:VK} {l:Addr} {y:V} {d:Dat} {ds:List Dat} {xs:List V} {neg b:Bool} (h1:H l=some (.lst xs)) (hd:eg H y (kqdP d)) (hds:bQ H xs (kqdPs ds)) (o1:kqdOk 8 d=true) (o2 : ∀ e∈ds,kqdOk 7 e=true) (hb:b=true↔d∈ds) (h:Q (.bl (if neg then !b else b)) H):Q8 neg y (.ref l) H Q:=by
 have s1:kqdOk 8 (.list ds)=true:=by rw [kqdOk,List.all_eq_true];exact o2
 have s2:=jF s1
 rw [kqdP] at s2
 have dp:=(kqd_lay 8 d o1).2
 have e:((kqdPs ds).any λ e=>PyData.eqv e (kqdP d))=b:=by
  rw [Bool.eq_iff_iff,hb,l9,List.any_map,List.any_eq_true]
  constructor
  ·rintro ⟨x,hx,hz⟩
   rw [<-(kqd_eqv 7 x d 8 (o2 x hx) o1).mp hz]
   exact hx
  ·intro hx
   exact ⟨d,hx,(kqd_eqv 8 d d 8 o1 o1).mpr rfl⟩
 exact ⟨kqdP d,kqdPs ds,hd,.lst h1 hds,by omega,jF o1,s2,by rw [e];exact h⟩
end L2
set_option Elab.async false
set_option linter.all false
set_option maxRecDepth 100000
namespace L2
open PySem PySem.Spec PyProof.Rows PySem.W
section
variable {X:Cx}
end
end L2
set_option Elab.async false
set_option linter.all false
set_option maxRecDepth 100000
namespace L2
open PySem PySem.Spec PyProof.Rows PySem.W
theorem ET {lo:Int} {n:Nat} {te:TE} {σ : St} {Q:VK} {H1:Hp} {L:Cells} (G:Nat->V->Cells->Prop) (hL:Led H1 L) (hn:n<=sizeLine)
  (hs : ∀ (i:Nat) (H:Hp) (R:VK) (M:Cells),i < n->Led H (M++L)->(∀ v H' C,G i v C->Led H' (C++(M++L))->R v H')->te (some (.int (lo+i)) :: σ) H R)
  (hd : ∀ (p:Addr) (vs:List V) (Cs:List Cells) (H':Hp),vs.length=n->Cs.length=n->(∀ (i:Nat) v C,vs[i]? = some v->Cs[i]? = some C->G i v C)->Led H' ((p,.lst vs)::(Cs.flatten++L))->Q (.ref p) H'):oY (GC lo n) EN te σ Q H1:=by
 refine qw (λ p i acc H=>i<=n/\acc.length=i ∧ ∃ Cs:List Cells,Cs.length=i/\(∀ (j:Nat) v C,acc[j]? = some v->Cs[j]? = some C->G j v C)/\Led H ((p,.lst acc)::(Cs.flatten++L))) (λ p hp=>⟨Nat.zero_le _,rfl,[],rfl,λ j v C h=>by simp at h,hL.new hp⟩) (λ p i acc H hp h => ?_) ?_ ?_
 ·obtain ⟨_,_,Cs,_,_,hl⟩:=h
  exact hl.get List.mem_cons_self
 ·rintro p i acc H hp hi ⟨_,rfl,Cs,hc,hG,hl⟩
  unfold EN
  dsimp only
  rw [if_pos rfl]
  refine hs _ H _ ((p,.lst acc)::Cs.flatten) hi hl λ v H' C g hl' => ?_
  have h1:Led H' ((p,.lst acc)::(C++(Cs.flatten++L))):=Led.pull hl'
  refine ⟨h1.get List.mem_cons_self,by omega,hi,by simp,Cs++[C],by simp [hc],λ j u D hu hD => ?_,?_⟩
  ·rw [List.getElem?_append] at hu hD
   rw [hc] at hD
   by_cases hj:j < acc.length
   ·rw [if_pos hj] at hu hD
    exact hG j u D hu hD
   ·rw [if_neg hj] at hu hD
    have h0:j - acc.length=0:=by
     rcases Nat.lt_or_ge (j - acc.length) 1 with h | h
     ·omega
     ·rw [List.getElem?_eq_none (by simpa using h)] at hu;cases hu
    rw [h0] at hu hD
    have e:j=acc.length:=by omega
    subst e
    cases hu
    cases hD
    exact g
  ·refine (h1.put (o' := .lst (acc++[v])) rfl rfl).perm (List.Perm.cons _ ?_)
   rw [List.flatten_append,List.flatten_cons,List.flatten_nil,List.append_nil,List.append_assoc,<-List.append_assoc,<-List.append_assoc]
   exact List.Perm.append_right _ List.perm_append_comm
 ·rintro p acc H hp ⟨_,e,Cs,hc,hG,hl⟩
  exact hd p acc Cs H e hc hG hl
abbrev CK:=List (Addr×List Int)
def oH (rs:CK):List V:=rs.map λ r=>V.ref r.1
def Ig (rs:CK):Cells:=rs.map λ r=>(r.1,HO.lst (r.2.map V.int))
theorem gD (rs:CK):(oH rs).length=rs.length:=List.length_map _
theorem By {rs:CK} {r:Addr×List Int} (h:r∈rs):(r.1,HO.lst (r.2.map V.int))∈Ig rs:=List.mem_map.mpr ⟨r,h,rfl⟩
theorem rowsOf {p:Nat->List Int->Prop} : ∀ {vs:List V} {Cs:List Cells},vs.length=Cs.length->(∀ (i:Nat) v C,vs[i]? = some v->Cs[i]? = some C->∃ (r:Addr) (row:List Int),v=V.ref r/\C = [(r,HO.lst (row.map V.int))]/\p i row)->∃ rs:CK,vs=oH rs/\Cs.flatten=Ig rs/\rs.length=vs.length ∧ ∀ (i:Nat) r,rs[i]? = some r->p i r.2:=by
 intro vs
 induction vs generalizing p with
 | nil=>intro Cs h _;cases Cs with
   | nil=>exact ⟨[],rfl,rfl,rfl,λ i r h=>by simp at h⟩
   | cons _ _=>cases h
 | cons v vs ih=>intro Cs hl h;cases Cs with
   | nil=>cases hl
   | cons C Cs =>
     obtain ⟨r,row,rfl,rfl,hp⟩:=h 0 v C rfl rfl
     obtain ⟨rs,rfl,e2,e3,e4⟩:=ih (p:=λ i row=>p (i+1) row) (Cs:=Cs) (Nat.succ.inj hl) λ i u D hu hD=>h (i+1) u D hu hD
     refine ⟨(r,row)::rs,rfl,by rw [List.flatten_cons,e2];rfl,by rw [List.length_cons,List.length_cons,e3],λ i q hq => ?_⟩
     cases i with
     | zero=>cases hq;exact hp
     | succ i=>exact e4 i q hq
abbrev yq:=Str×Addr×CK
abbrev cR:=List yq
def yc (es:cR):List (Key×V):=es.map λ e=>(Sum.inr e.1,V.ref e.2.1)
def nJ (es:cR):Cells:=es.map λ e=>(e.2.1,HO.lst (oH e.2.2))
theorem BA (es:cR) (z:Str):bx (yc es) (.inr z)=(es.find? λ e=>decide (e.1=z)).map λ e => .ref e.2.1:=by
 induction es with
 | nil=>rfl
 | cons e es ih =>
   unfold yc at ih ⊢
   rw [List.map_cons,List.find?_cons]
   by_cases h:e.1=z
   ·rw [bP (by rw [h]),decide_eq_true h];rfl
   ·rw [bz (λ q=>h (Sum.inr.inj q)),decide_eq_false h];exact ih
theorem Dn {es:cR} {z:Str} (h:z ∉ es.map (·.1)):bx (yc es) (.inr z)=none:=by
 rw [BA,List.find?_eq_none.mpr]
 ·rfl
 ·intro e he q
  exact h (List.mem_map.mpr ⟨e,he,of_decide_eq_true q⟩)
theorem findF {es:cR} {e:yq} (nd:(es.map (·.1)).Nodup) (h:e∈es):es.find? (λ x=>decide (x.1=e.1))=some e:=by
 induction es with
 | nil=>cases h
 | cons x es ih =>
   rw [List.map_cons,List.nodup_cons] at nd
   rw [List.find?_cons]
   rcases List.mem_cons.mp h with rfl | h
   ·rw [decide_eq_true rfl]
   ·have:x.1≠e.1:=λ q=>nd.1 (q ▸ List.mem_map.mpr ⟨e,h,rfl⟩)
    rw [decide_eq_false this]
    exact ih nd.2 h
theorem vv {es:cR} {e:yq} (nd:(es.map (·.1)).Nodup) (h:e∈es):bx (yc es) (.inr e.1)=some (.ref e.2.1):=by rw [BA,findF nd h];rfl
theorem NG {es:cR} {z:Str} (h:z ∉ es.map (·.1)) (a:Addr) (rs:CK):putK (yc es) (.inr z) (.ref a)=yc (es++[(z,a,rs)]):=by
 unfold putK
 rw [if_neg]
 ·unfold yc;rw [List.map_append];rfl
 ·rw [c7,Dn h];exact Bool.false_ne_true
theorem Rh {es:cR} {e:yq} (nd:(es.map (·.1)).Nodup) (h:e∈es) : ∃ as bs,es=as++e::bs/\es.filter (λ x=>decide (x.1≠e.1))=as++bs:=by
 obtain ⟨as,bs,rfl⟩:=List.append_of_mem h
 refine ⟨as,bs,rfl,?_⟩
 rw [List.map_append,List.map_cons] at nd
 have h1 : ∀ x∈as++bs,x.1≠e.1:=λ x hx q=>by
  have Rg:=(List.perm_middle (l₁ := as.map (·.1)) (a:=e.1) (l₂ := bs.map (·.1))).nodup_iff.mp nd
  rw [List.nodup_cons] at Rg
  refine Rg.1 ?_
  rw [<-List.map_append,<-q]
  exact List.mem_map.mpr ⟨x,hx,rfl⟩
 rw [List.filter_append,List.filter_cons,if_neg (by simp)]
 rw [List.filter_eq_self.mpr,List.filter_eq_self.mpr]
 ·intro x hx;exact decide_eq_true (h1 x (List.mem_append_right _ hx))
 ·intro x hx;exact decide_eq_true (h1 x (List.mem_append_left _ hx))
theorem Dp (as bs:cR) (e:yq):nJ (as++e::bs)=nJ as++(e.2.1,HO.lst (oH e.2.2))::nJ bs:=by unfold nJ;rw [List.map_append];rfl
theorem KI {es:cR} {e:yq} (h:e∈es):(e.2.1,HO.lst (oH e.2.2))∈nJ es:=List.mem_map.mpr ⟨e,h,rfl⟩
theorem NH (as bs:cR) (e e':yq) (h1:e.1=e'.1) (h2:e.2.1=e'.2.1):yc (as++e::bs)=yc (as++e'::bs):=by unfold yc;rw [List.map_append,List.map_append,List.map_cons,List.map_cons,h1,h2]
section
variable {H:Hp} {a:Addr} {Q:VK} {D:Ends} {σ : St}
theorem Uw {kvs:List (Key×V)} {z:Str} {S:Option V->Prop} (h1:H a=some (.dK kvs)) (h:S (bx kvs (.inr z))) : ∃ b o,V.ref a = .ref b/\gm H b (.str z) o/\S o:=⟨a,_,rfl,gm.k (k := .inr z) h1,h⟩
theorem KJ {kvs:List (Key×V)} {z:Str} {v:V} {S:V->Prop} (h1:H a=some (.dK kvs)) (h2:bx kvs (.inr z)=some v) (h:S v) : ∃ b v,V.ref a = .ref b/\gm H b (.str z) (some v)/\S v:=⟨a,v,rfl,h2 ▸ gm.k (k := .inr z) h1,h⟩
theorem Ux {kvs:List (Key×V)} {z:Str} {v:V} (h1:H a=some (.dK kvs)) (hl:kvs.length < sizeLine) (h:D.nx σ (upd H a (.dK (putK kvs (.inr z) v)))) : ∃ b H4,V.ref a = .ref b/\nF H b (.str z) v H4/\D.nx σ H4:=⟨a,_,rfl,nF.k (k := .inr z) h1 hl,h⟩
end
end L2
set_option Elab.async false
set_option linter.all false
set_option maxRecDepth 100000
namespace L2
open PySem PySem.Spec PyProof.Rows PySem.W
section
variable {X:Cx}
end
section
variable {X:Cx} {k:Nat} {f C:Addr} {fd:FuncData} {ps:List Str} {sp:Sp} {x:Str} {p pos:Pos} {e:Expr} {es:List Expr} {t:TA}
end
end L2
set_option Elab.async false
set_option linter.all false
set_option maxRecDepth 100000
namespace L2
open PySem PySem.Spec PyProof.Rows PySem.W
section
variable {X:Cx}
end
section
variable {P:Program} {w:World} {K:PySem.W.Frag} {mg:Str->Option Value} {base:Heap}
end
section
variable {X:Cx} {ea:Addr} {k:Nat} {ps:List Str} {sp:Sp} {x:Str} {p pos:Pos} {e:Expr} {es:List Expr} {t:TA}
end
end L2
set_option Elab.async false
set_option linter.all false
set_option maxRecDepth 100000
namespace L2
open PySem PySem.Spec PyProof.Rows PySem.W
section
variable {X:Cx}
end
end L2
set_option Elab.async false
set_option linter.all false
set_option maxRecDepth 100000
namespace L2
open PySem PySem.Spec PyProof.Rows PySem.W
section
variable {prog:Program} {w:World} {A:Around} {E:Value->Shared->Prop} {s:Shared}
end
end L2
set_option Elab.async false
set_option linter.all false
set_option maxRecDepth 100000
namespace L2
open PySem PySem.Spec PyProof.Rows PySem.W
namespace SI
end SI
section
variable {prog:Program} {w:World} {A:Around} {E:Value->Shared->Prop} {s:Shared}
end
end L2
set_option Elab.async false
set_option linter.all false
set_option maxRecDepth 100000
namespace L2
open PySem PySem.Spec PyProof.Rows PySem.W
section
variable {prog:Program} {w:World} {A:Around} {E:Value->Shared->Prop} {s:Shared}
end
end L2
set_option Elab.async false
set_option linter.all false
set_option maxRecDepth 100000
namespace L2
open PySem PySem.Spec PyProof.Rows PySem.W
section
variable {prog:Program} {w:World} {A:Around} {E:Value->Shared->Prop} {s:Shared}
end
section
variable {X:Cx} {pins:List (Addr×Obj)} {σ : St} {H:Hp} {s:Shared}
end
end L2
set_option Elab.async false
set_option linter.all false
set_option maxRecDepth 100000
namespace L2
open PySem PySem.Spec PyProof.Rows PySem.W
section
variable {prog:Program} {w:World} {A:Around} {E:Value->Shared->Prop} {s:Shared} {d it:Addr} {es:Array DictEntry} {ep i:Nat}
def sY (h:Heap) (d:Addr) (es:Array DictEntry) (ep:Nat):Prop := ∃ o,h.get? d=some o/\o.ExactDict/\o.data = .dict es ep
theorem sY.ty (x:sY s.heap d es ep):s.TypeIs (.ref d) "dict" := let ⟨o,ho,hc,_⟩:=x; ⟨o,ho,hc.1⟩
theorem sY.lt {h:Heap} (x:sY h d es ep):d < h.objs.size:=let ⟨_,ho,_⟩:=x; Heap.lt_size ho
theorem sY.to {h h':Heap} (x:sY h d es ep) (k : ∀ o,h.get? d=some o->h'.get? d=some o):sY h' d es ep:=let ⟨o,ho,r⟩:=x; ⟨o,k o ho,r⟩
theorem KL {Q:Value->Shared->Prop} (lo:(d == sysModules)=false) (m:sY s.heap d es ep)
  (q:Q (.ref s.heap.objs.size) { s with heap:=s.heap.push { cls := .type "dict_keyiterator",data := .fields #[.ref d,.int 0 0,.int es.size 0,.int ep 0] } }):wpAny (model prog w) A (pyIter (.ref d)) Q E s:=by
 obtain ⟨o,ho,hc,hdat⟩:=id m
 have ty:=m.ty
 refine wpAny_pyIter_slot ty F.slot_dict_iter (wpAny_call_entry F.slot_dict_iter ty F.entry_dict_iter ?_ (F.args_dict_iter_1 _))
 unfold Builtin.«dict.__iter__»
 refine wpAny_bind ?_;unfold Builtin.Dict.dictSlotNone
 refine wpAny_bind (wpAny_notOrdered_dict ty ?_)
 show wpAny _ _ (pure (Value.ref d)) _ _ s;refine wpAny_pure ?_
 show wpAny _ _ (Builtin.Dict.showsAll d >>= _) _ _ s;unfold Builtin.Dict.showsAll
 rw [if_neg (by rw [lo];exact Bool.false_ne_true)];refine wpAny_bind (wpAny_pure ?_)
 refine wpAny_bind (wpAny_dictEntries ho hdat (wpAny_bind (wpAny_dictEpoch ho hdat ?_)))
 refine wpAny_bind (wpAny_newObj_type (wpAny_pure ⟨_,rfl,"dict_keyiterator",_,⟨_,Heap.get?_push_size _ rfl,rfl⟩,F.slot_dict_keyiterator_next.lookup,?_⟩))
 simpa [rawInt] using q
theorem KN {Q:Option Value->Shared->Prop} (ti:s.heap.IsKeyIter it d i es.size ep) (m:sY s.heap d es ep) (hi:i < es.size)
  (q : ∀ h',h'.IsKeyIter it d (i+1) es.size ep->Heap.SameBut it s.heap h'->Q (some es[i].key) { s with heap:=h' }):wpAny (model prog w) A (pyNext (.ref it)) Q E s:=by
 obtain ⟨o,ho,hc,hd⟩:=id ti
 obtain ⟨od,hod,hcd,Uy⟩:=id m
 unfold pyNext
 refine wpAny_bind (wpAny_attempt (wpAny_callSpecial?_slot (name:=Str.ofString "__next__") ti.typeIs F.slot_dict_keyiterator_next (wpAny_call_entry F.slot_dict_keyiterator_next ti.typeIs F.entry_dict_keyiterator_next ?_ (F.args_dict_keyiterator_next_1 _))))
 refine wpAny_bind (wpAny_pure (wpAny_bind (wpAny_bind ?_)))
 first | refine wpAny_bind (wpAny_typeNameOfWhole_keyiter ti.typeIs (wpAny_pure ?_)) | refine wpAny_bind (wpAny_typeNameOf_keyiter ti.typeIs (wpAny_pure ?_))
 refine wpAny_bind (wpAny_fieldsOf ho hd ?_)
 have own:Builtin.Dict_items.ownsTuple "dict_keyiterator" = false:=by decide
 simp only [own,Bool.false_eq_true,if_false];show wpAny _ _ (if (Value.ref d == Value.none)=true then _ else _) _ _ s
 rw [if_neg (show ¬ ((Value.ref d == Value.none)=true) from Bool.false_ne_true)];refine wpAny_bind (wpAny_pure ?_)
 refine wpAny_bind (wpAny_dictEntries hod Uy ?_);rw [if_neg (by simp)]
 refine wpAny_bind (wpAny_pure (wpAny_bind (wpAny_dictEpoch hod Uy ?_)));rw [if_neg (by simp)]
 refine wpAny_pure ?_
 simp only [show ¬ ((i:Int) < 0) from by omega,if_false,Int.toNat_natCast,Array.getElem?_eq_getElem hi]
 refine wpAny_bind ?_;first | refine wpAny_bind (wpAny_typeNameOfWhole_keyiter ti.typeIs (wpAny_pure ?_)) | refine wpAny_bind (wpAny_typeNameOf_keyiter ti.typeIs (wpAny_pure ?_))
 refine wpAny_bind (wpAny_isOneOf_keyiter ti.typeIs ?_);show wpAny _ _ (setField (.ref it) 1 (rawInt ((i:Int)+1)) >>= _) _ _ s
 refine wpAny_bind (wpAny_setField ho hd (by simp) ?_)
 have ti':(s.heap.update it (Obj.mapFields (·.setIfInBounds 1 (rawInt ((i:Int)+1))))).IsKeyIter it d (i+1) es.size ep :=
  ⟨_,Heap.get?_update_self _ ho (Obj.isFreed_of_fields (Obj.data_mapFields hd _)),(Obj.cls_mapFields ..).trans hc,by rw [Obj.data_mapFields hd];simp [rawInt]⟩
 refine wpAny_bind (wpAny_holding (wpAny_bind (wpAny_isOneOf_keyiter (s := { s with heap:=s.heap.update it (Obj.mapFields (·.setIfInBounds 1 (rawInt ((i:Int)+1)))) }) ti'.typeIs ?_)))
 show wpAny _ _ (pure es[i].key) _ _ _;exact wpAny_pure (wpAny_pure ⟨_,rfl,wpAny_pure (q _ ti' (Heap.SameBut.update ..))⟩)
theorem NI {Q:Option Value->Shared->Prop} (hh:A.handled=none) (ti:s.heap.IsKeyIter it d es.size es.size ep) (m:sY s.heap d es ep)
  (q : ∀ h',Heap.ExtBut it s.heap h'->Q none { s with heap:=h' }):wpAny (model prog w) A (pyNext (.ref it)) Q E s:=by
 obtain ⟨o,ho,hc,hd⟩:=id ti
 obtain ⟨od,hod,hcd,Uy⟩:=id m
 unfold pyNext
 refine wpAny_bind (wpAny_attempt (wpAny_callSpecial?_slot (name:=Str.ofString "__next__") ti.typeIs F.slot_dict_keyiterator_next (wpAny_call_entry F.slot_dict_keyiterator_next ti.typeIs F.entry_dict_keyiterator_next ?_ (F.args_dict_keyiterator_next_1 _))))
 refine wpAny_bind (wpAny_pure (wpAny_bind (wpAny_bind ?_)))
 first | refine wpAny_bind (wpAny_typeNameOfWhole_keyiter ti.typeIs (wpAny_pure ?_)) | refine wpAny_bind (wpAny_typeNameOf_keyiter ti.typeIs (wpAny_pure ?_))
 refine wpAny_bind (wpAny_fieldsOf ho hd ?_)
 have own:Builtin.Dict_items.ownsTuple "dict_keyiterator" = false:=by decide
 simp only [own,Bool.false_eq_true,if_false];show wpAny _ _ (if (Value.ref d == Value.none)=true then _ else _) _ _ s
 rw [if_neg (show ¬ ((Value.ref d == Value.none)=true) from Bool.false_ne_true)];refine wpAny_bind (wpAny_pure ?_)
 refine wpAny_bind (wpAny_dictEntries hod Uy ?_);rw [if_neg (by simp)]
 refine wpAny_bind (wpAny_pure (wpAny_bind (wpAny_dictEpoch hod Uy ?_)));rw [if_neg (by simp)]
 refine wpAny_pure ?_
 simp only [show ¬ ((es.size:Int) < 0) from by omega,if_false,Int.toNat_natCast,Array.getElem?_eq_none (Nat.le_refl es.size)]
 refine wpAny_bind ?_;first | refine wpAny_bind (wpAny_typeNameOfWhole_keyiter ti.typeIs (wpAny_pure ?_)) | refine wpAny_bind (wpAny_typeNameOf_keyiter ti.typeIs (wpAny_pure ?_))
 show wpAny _ _ (setField (.ref it) 0 .none >>= _) _ _ s;refine wpAny_bind (wpAny_setField ho hd (by simp) ?_)
 show wpAny _ _ (newExc (.type "StopIteration") [] >>= _) _ _ _;refine wpAny_bind ?_;simp only [newExc,newTuple]
 refine wpAny_bind (wpAny_newObj_type ?_ (by size_fits));refine wpAny_bind (m:=firstArgMember _ _) (wpAny_of_eq (a:=Value.none) (by first | rfl | (simp only [firstArgMember];rfl)) ?_)
 refine wpAny_newObj_type ?_ (by size_fits);simp only [raiseNew];refine wpAny_bind (wpAny_handled ?_);rw [show A.in1.handled=none from hh]
 refine wpAny_bind (wpAny_pure (wpAny_throw ?_));refine wpAny_bind (wpAny_isInstance (T := "StopIteration") (b:=true) ⟨_,Heap.get?_push_size _ rfl,rfl⟩ isSubtype_stop ?_)
 exact wpAny_pure (q _ (((Heap.SameBut.update ..).extBut.push _).push _))
theorem Ih (hh:A.handled=none) (I d:Addr) (hne:d≠I) (es:Array DictEntry) (ep:Nat) :
  Walks prog w A I [I,d] [I] es.size (λ i v => ∃ e,es[i]? = some e/\v=e.key) (λ i h=>h.IsKeyIter I d i es.size ep/\sY h d es ep) where
 sub:=λ b hb=>by simp at hb;simp [hb]
 frame:=λ _ _ _ st hk=>⟨st.1.at λ o e=>hk I (by simp) o e,st.2.to λ o e=>hk d (by simp) o e⟩
 item:=λ i s Q E hi st hQ=>KN st.1 st.2 hi λ h' ti' hs'=>hQ _ h' s.toks ⟨es[i],by simp [hi],rfl⟩ ⟨ti',st.2.to λ o e=>hs'.extBut d o hne e⟩ λ b o hb e=>hs'.extBut b o (λ h=>hb (by simp [h])) e
 done:=λ s Q E st hQ=>NI hh st.1 st.2 λ h' he'=>hQ h' s.toks λ b o hb e=>he' b o (λ h=>hb (by simp [h])) e
 self:=λ _ _ _ _ st hQ=>wpAny_pyIter_keyiter st.1 hQ
theorem NJ (lo:(d == sysModules)=false):KdlSrc prog w "dict" d d es.size (λ i v => ∃ e,es[i]? = some e/\v=e.key) (λ h=>sY h d es ep) where
 type:=λ _ m=>m.ty
 there:=λ _ m=>⟨m.lt,m.lt⟩
 keep:=λ _ _ m k=>m.to λ o e=>k d (.inl rfl) o e
 notList:=by decide
 notTuple:=by decide
 hint:=λ _ _ _ _ m q=>kdl_hint_dict m.ty q
 iter:=λ _ _ hh m=>⟨_,_,(λ _ _ q=>KL lo m q),Ih hh _ d (Nat.ne_of_lt m.lt) es ep,⟨⟨_,Heap.get?_push_size _ rfl,rfl,rfl⟩,m.to λ o e=>Heap.get?_push_of_some _ e⟩⟩
end
section
variable {X:Cx}
def BB:List V->Hp->VK->Prop:=λ xs H Q => ∃ (p:Addr) (kvs:List (List Key×V)),xs = [.ref p]/\H p=some (.dT kvs) ∧ ∀ (l:Addr) (as:List Addr),H l=none->as.length=kvs.length->(∀ (i:Nat) b k v,as[i]? = some b->kvs[i]? = some (k,v)->H b=some (.tup (k.map kV)))->Q (.ref l) (upd H l (.lst (as.map V.ref)))
theorem kt_at {H:Hp} : ∀ {kvs:List (List Key×V)} {xs:List (List Key×Addr×Value)},KT H kvs xs->∀ (i:Nat) x k v,xs[i]? = some x->kvs[i]? = some (k,v)->H x.2.1=some (.tup (k.map kV)):=by
 intro kvs xs r
 induction r with
 | nil=>intro i x k v h;simp at h
 | @cons p q ps qs hq t ih =>
   intro i x k v h1 h2
   cases i with
   | zero =>
     simp only [List.getElem?_cons_zero,Option.some.injEq] at h1 h2
     subst h1
     rw [h2] at hq
     exact hq.2.1
   | succ i=>exact ih i x k v (by simpa using h1) (by simpa using h2)
theorem EU {us:List Value} {as:List Addr} (h:us=as.map Value.ref):Vals (as.map V.ref) us:=by
 subst h
 induction as with
 | nil=>exact .nil
 | cons a as ih=>exact .cons rfl ih
theorem kW (hc:X.calm=true):kI X (.type "list") BB:=by
 intro pins s σ H xs us Q I r h
 obtain ⟨p,kvs,rfl,hp,q⟩:=h
 obtain ⟨u,rfl,rx⟩:=vals1 r
 cases rx
 obtain ⟨hz,hS,zs,rr,o,es,ep,h1,h2,h3,h4,_,_⟩:=O3 I.hok hp
 have hl:kvs.length=zs.length:=Paired.length rr
 have hsz:es.size=zs.length:=by rw [<-Array.length_toList,h4,List.length_map]
 refine kdl_call (NJ (es:=es) (ep:=ep) hS) (I.ok.hd hc) ⟨o,h1,h2,h3⟩ (by omega) λ h' tk acc' c' hk' hS' hacc => ?_
 have hat:acc'.toList=(zs.map λ z=>z.2.1).map Value.ref:=by
  refine List.ext_getElem? λ i => ?_
  by_cases hi:i < zs.length
  ·have hi2:i < acc'.toList.length:=by rw [Array.length_toList,hacc.1];omega
   rw [List.getElem?_eq_getElem hi2]
   obtain ⟨e,he,ev⟩:=hacc.2 i _ (by rw [<-Array.getElem?_toList];exact List.getElem?_eq_getElem hi2)
   have yu:es.toList[i]? = some e:=by rw [Array.getElem?_toList];exact he
   rw [h4,List.getElem?_map,List.getElem?_eq_getElem hi] at yu
   rw [ev,List.getElem?_map,List.getElem?_map,List.getElem?_eq_getElem hi]
   have:e=entryOfKey (tupleKind (cg X.prog X.w)) zs[i]:=(Option.some.inj yu).symm
   rw [this]
   rfl
  ·rw [List.getElem?_eq_none (by rw [Array.length_toList,hacc.1];omega),List.getElem?_eq_none (by simp;omega)]
 refine ⟨.ref s.heap.objs.size,_,I.laid (t':=tk) hk' (Nat.le_refl _) (show bS X.prog X.w _ h' _ (.lst ((zs.map λ z=>z.2.1).map V.ref)) from ⟨by rw [List.length_map,List.length_map];omega,acc'.toList,c',EU hat,by simpa using hS'⟩),rfl,q _ (zs.map λ z=>z.2.1) (I.hok.fresh (Nat.le_refl _)) (by rw [List.length_map];omega) λ i b k v hb hkv => ?_⟩
 rw [List.getElem?_map] at hb
 obtain ⟨x,hx,rfl⟩:=Option.map_eq_some_iff.mp hb
 exact kt_at rr i x k v hx hkv
theorem NK {H:Hp} {Q:VK} {p:Addr} {kvs:List (List Key×V)} (h1:H p=some (.dT kvs)) (h : ∀ (l:Addr) (as:List Addr),H l=none->as.length=kvs.length->(∀ (i:Nat) b k v,as[i]? = some b->kvs[i]? = some (k,v)->H b=some (.tup (k.map kV)))->Q (.ref l) (upd H l (.lst (as.map V.ref)))):BB [.ref p] H Q:=⟨p,kvs,rfl,h1,h⟩
end
end L2
set_option Elab.async false
set_option linter.all false
set_option maxRecDepth 100000
namespace L2
open PySem PySem.Spec PyProof.Rows
class vz (G:Prop) (P:outParam Prop):Prop where
 h:P->G
class dJ (G:Prop) (P:outParam Prop):Prop where
 h:P->G
section
variable {σ : St} {H:Hp} {Q:VK} {D:Ends} {ta tb tc te:TE} {t u:TA} {r:R2} {b:TS} {QB:Bool->Hp->Prop} {c d:TT} {QA:List V->Hp->Prop}
instance W7 {α β : Type} {S : α->β->Prop} {g:(α->β->Prop)->Prop} : dJ (Hid S g) (∀ R,(∀ x y,S x y->R x y)->g R):=⟨WG⟩
instance W8 {t u:TS} {D:Ends} {σ : St} {H:Hp} : dJ (JQ t u D σ H) (∀ M,Is M (u D)->t { D with nx:=M } σ H):=⟨Wv⟩
instance VA  : dJ (GI te t σ H QA) (∀ R,Is R (λ x H1=>t σ H1 λ xs H2=>QA (x::xs) H2)->te σ H R):=⟨TZ⟩
instance afg  : dJ (Qp r ta tb σ H Q) (∀ R,(∀ x H1,Hid (λ y H2=>r x y H2 Q) (λ R2=>tb σ H1 R2)->R x H1)->ta σ H R):=⟨opH⟩
instance W9 {g:TG} : dJ (JU te g D σ H) (∀ R,Is R (λ x H1=>g x σ H1 D.nx)->te σ H R):=⟨WH⟩
instance Xa  : dJ (M4 te D σ H) (∀ R,Is R (λ x H1=>D.rt x H1)->te σ H R):=⟨WI⟩
instance VB  : dJ (JR te D σ H) (∀ R,Is R (λ _ H1=>D.nx σ H1)->te σ H R):=⟨TQ⟩
instance afh {a b:TS} : dJ (M5 c a b D σ H) (∀ R,Is R (λ k H1=>if k=true then a D σ H1 else b D σ H1)->c σ H R):=⟨ifH⟩
instance VC  : dJ (GH te σ H QB) (∀ R,Is R (λ x H1 => ∃ k,x = .bl k/\QB k H1)->te σ H R):=⟨TR⟩
instance afi  : dJ (tB te σ H QB) (∀ R,Is R (λ x H1 => ∃ k,x = .bl k/\QB k H1)->te σ H R):=⟨tBH⟩
instance Xc  : dJ (Qi c σ H QB) (∀ R,Is R (λ k H1=>QB (!k) H1)->c σ H R):=⟨WJ⟩
instance Xd  : dJ (Qh c d σ H QB) (∀ R,Is R (λ k H1=>if k=true then d σ H1 QB else QB false H1)->c σ H R):=⟨WK⟩
instance afj  : dJ (Wg c d σ H QB) (∀ R,Is R (λ k H1=>if k=true then QB true H1 else d σ H1 QB)->c σ H R):=⟨orH⟩
instance VD  : dJ (JN ta tb σ H Q) (∀ R,Is R (λ x H1 => ∃ c,x = .bl c/\if c=true then tb σ H1 Q else Q (.bl false) H1)->ta σ H R):=⟨TV⟩
instance Xe  : dJ (Qj ta tb σ H Q) (∀ R,Is R (λ x H1 => ∃ c,x = .bl c/\if c=true then Q (.bl true) H1 else tb σ H1 Q)->ta σ H R):=⟨WL⟩
instance VE  : dJ (JO ta σ H Q) (∀ R,Is R (λ x H1 => ∃ c,x = .bl c/\Q (.bl (!c)) H1)->ta σ H R):=⟨TX⟩
instance afk {q:V->Hp->VK->Prop} : dJ (Wj q ta σ H Q) (∀ R,Is R (λ x H1=>q x H1 Q)->ta σ H R):=⟨unH⟩
instance afl {q:V->Option Int->Option Int->Hp->VK->Prop} {tl th:TO} : dJ (Wm q te tl th σ H Q) (∀ R,Is R (λ x H1=>tl σ H1 λ l H2=>th σ H2 λ u H3=>q x l u H3 Q)->te σ H R):=⟨slH⟩
instance VF {QO:Option Int->Hp->Prop} : dJ (Kf te σ H QO) (∀ R,Is R (λ x H1 => ∃ i,x = .int i/\QO (some i) H1)->te σ H R):=⟨TY⟩
instance Xf  : dJ (Qu t σ H Q) (∀ R,Is R (λ xs H1=>xs.length<=sizeLine ∧ ∀ p,H1 p=none->Q (.ref p) (upd H1 p (.tup xs)))->t σ H R):=⟨WM⟩
instance Xg  : dJ (Qv t σ H Q) (∀ R,Is R (λ xs H1=>xs.length<=sizeLine ∧ ∀ p,H1 p=none->Q (.ref p) (upd H1 p (.lst xs)))->t σ H R):=⟨WN⟩
instance VG {sp:Sp} {i7:List V} {E:XK} : dJ (GJ sp i7 E t σ H Q) (∀ R,Is R (λ vs H1=>sp (vs++i7) H1 Q E)->t σ H R):=⟨T3⟩
instance afm {q:List V->Hp->VK->Prop} : dJ (Td q t σ H Q) (∀ R,Is R (λ vs H1=>q vs H1 Q)->t σ H R):=⟨cbH⟩
instance VH {C:Addr} {m:Str} {sp:Sp} {i7:List V} {E:XK} : dJ (Aq C m sp i7 E ta t σ H Q) (∀ R,Is R (λ x H1 => ∃ a dx fs,x = .ref a/\H1 a=some (.ins C dx fs)/\fs.lookup m=none/\t σ H1 λ vs H2=>sp (x::(vs++i7)) H2 Q E)->ta σ H R):=⟨T4⟩
instance VI {C:Addr} {sp:Sp} {i7:List V} {E:XK} : dJ (Ar C sp i7 E t σ H Q) (∀ R,Is R (λ vs H1 => ∀ x dx,H1 x=none->H1 dx=none->dx≠x->sp (.ref x::(vs++i7)) (upd (upd H1 dx (.own x)) x (.ins C dx [])) (λ v H2=>v = .aH/\Q (.ref x) H2) E)->t σ H R):=⟨T5⟩
instance Xh {C:Addr} {f:Str} : dJ (Ku C ta f σ H Q) (∀ R,Is R (λ x H1 => ∃ a dx fs v,x = .ref a/\H1 a=some (.ins C dx fs)/\fs.lookup f=some v/\Q v H1)->ta σ H R):=⟨WO⟩
instance VJ {C:Addr} {f:Str} : dJ (Kv C ta te f D σ H) (∀ R,Is R (λ y H1=>ta σ H1 λ x H2 => ∃ a dx fs,x = .ref a/\H2 a=some (.ins C dx fs)/\fs.length < 1000/\D.nx σ (upd H2 a (.ins C dx (cQ f y fs))))->te σ H R):=⟨T6⟩
instance afn {K:PySem.W.Frag} {T:String} {q:V->List V->Hp->VK->Prop} : dJ (Wo K T q ta t σ H Q) (∀ R,Is R (λ x H1=>Tj K T x H1/\t σ H1 λ xs H2=>q x xs H2 Q)->ta σ H R):=⟨bmH⟩
instance VL  : dJ (J9 ta tb te D σ H) (∀ R,(∀ v H1,Hid (λ x H2=>Hid (λ y H3 => ∃ a H4,x = .ref a/\nF H3 a y v H4/\D.nx σ H4) (λ R3=>tb σ H2 R3)) (λ R2=>ta σ H1 R2)->R v H1)->te σ H R):=⟨T7⟩
instance VM {to ti:TE} {tt:JS} {v:V} {QS:St->Hp->Prop} : dJ (Qm to ti tt v σ H QS) (∀ R,(∀ o H1,Hid (λ i H2=>tt o i v H2 λ H3=>QS σ H3) (λ R2=>ti σ H1 R2)->R o H1)->to σ H R):=⟨T8⟩
instance VN  : dJ (J8 ta tb σ H Q) (∀ R,Is R (λ x H1=>tb σ H1 λ y H2 => ∃ a v,x = .ref a/\gm H2 a y (some v)/\Q v H2)->ta σ H R):=⟨T9⟩
instance Xi  : dJ (Qx ta tb σ H Q) (∀ R,Is R (λ y H1=>tb σ H1 λ x H2 => ∃ a o,x = .ref a/\gm H2 a y o/\Q (.bl o.isSome) H2)->ta σ H R):=⟨WQ⟩
instance VO  : dJ (A8 ta tb σ H Q) (∀ R,Is R (λ y H1=>tb σ H1 λ x H2 => ∃ a o,x = .ref a/\gm H2 a y o/\Q (.bl (!o.isSome)) H2)->ta σ H R):=⟨Ua⟩
instance Xj {v:V} : vz (tC v σ H Q) (Q v H):=⟨WR⟩
instance Xk  : vz (CW σ H QA) (QA [] H):=⟨WS⟩
instance afo {g:Int->Int->V} {i j:Int} : vz (MN g (.int i) (.int j) H Q) (Q (g i j) H):=⟨i0H⟩
instance VP {i:Nat} {v:V} {QS:St->Hp->Prop} : vz (sy i v σ H QS) (QS (σ.set i (some v)) H):=⟨Ud⟩
instance VQ  : vz (GB D σ H) (D.nx σ H):=⟨Uc⟩
instance afx {g:Int->V} {i:Int} : vz (rU g (.int i) H Q) (Q (g i) H):=⟨uH⟩
instance Sx {QO:Option Int->Hp->Prop} : vz (A9 σ H QO) (QO none H):=⟨NB⟩
instance afp {b:Bool} {S:Bool->Prop} : vz (∃ k,V.bl b = .bl k/\S k) (S b):=⟨blH⟩
instance Xl {n:Int} {S:Int->Prop} : vz (∃ k,V.int n = .int k/\S k) (S n):=⟨WT⟩
instance Xm {m n:Int} : vz (Qt (.int m) (.int n) H Q) (Q (.bl (decide (m=n))) H):=⟨WU⟩
instance Xn {m n:Int} : vz (Wk (.int m) (.int n) H Q) (Q (.bl (!decide (m=n))) H):=⟨WV⟩
instance Xo {m n:Str} : vz (Qt (.str m) (.str n) H Q) (Q (.bl (decide (m=n))) H):=⟨WW⟩
instance Xp {m n:Bool} : vz (Qt (.bl m) (.bl n) H Q) (Q (.bl (decide (m=n))) H):=⟨WX⟩
instance Xq {A B:Prop} : vz (if true=true then A else B) (A):=⟨Tt⟩
instance Xr {A B:Prop} : vz (if false=true then A else B) (B):=⟨Tr⟩
instance VR {A B:Prop} : vz (if (!true)=true then A else B) (B):=⟨Pk⟩
instance VS {A B:Prop} : vz (if (!false)=true then A else B) (A):=⟨Pn⟩
instance Uz  : vz (rI nC (λ i j => .int (i ^ j.toNat)) (.int 10) (.int 60) H Q) (Q (.int 1000000000000000000000000000000000000000000000000000000000000) H):=⟨Q2⟩
instance UA  : vz (rI nC (λ i j => .int (i ^ j.toNat)) (.int 10) (.int 59) H Q) (Q (.int 100000000000000000000000000000000000000000000000000000000000) H):=⟨Q3⟩
instance UB  : vz (rI nC (λ i j => .int (i ^ j.toNat)) (.int 10) (.int 20) H Q) (Q (.int 100000000000000000000) H):=⟨Q4⟩
instance UC  : vz (rI nC (λ i j => .int (i ^ j.toNat)) (.int 10) (.int 40) H Q) (Q (.int 10000000000000000000000000000000000000000) H):=⟨Rc⟩
end
end L2
set_option Elab.async false
set_option linter.all false
set_option maxRecDepth 100000
set_option maxHeartbeats 4000000
namespace My
open PySem PySem.Spec PyProof.Rows L2
def top (i : Nat) : Stmt := PySem.Challenge.pw_paneworks_k41_put_out.main.body.getD i (.Pass ⟨0, 0, 0, 0⟩)
abbrev eO:Stmt:=inClass (top 8) 0
theorem o4:aC ["self","many"] ["self","many"] (af eO):=by walk_at "sc"
abbrev cJ:Stmt:=inClass (top 8) 1
theorem jS:aC ["self"] ["self"] (af cJ):=by walk_at "sc"
abbrev dN:Stmt:=inClass (top 8) 2
theorem mZ:aC ["self","frame"] ["self","frame"] (af dN):=by walk_at "sc"
abbrev dO:Stmt:=inClass (top 8) 3
theorem m5:aC ["self","frame"] ["self","frame"] (af dO):=by walk_at "sc"
abbrev dP:Stmt:=inClass (top 8) 4
theorem m7:aC ["self"] ["self"] (af dP):=by walk_at "sc"
abbrev dw:Stmt:=inClass (top 8) 5
theorem kX:aC ["self","may","many","step","frame"] ["self","may"] (af dw):=by walk_at "sc"
abbrev dQ:Stmt:=inClass (top 10) 0
theorem m8:aC ["self"] ["self"] (af dQ):=by walk_at "sc"
abbrev dR:Stmt:=inClass (top 10) 1
theorem m9:aC ["self","name","rows"] ["self","name","rows"] (af dR):=by walk_at "sc"
abbrev b4:Stmt:=inClass (top 10) 2
theorem jb:aC ["self","name"] ["self","name"] (af b4):=by walk_at "sc"
abbrev cK:Stmt:=inClass (top 10) 3
theorem jT:aC ["self","name","page"] ["self","name","page"] (af cK):=by walk_at "sc"
abbrev bN:Stmt:=inClass (top 10) 4
theorem gU:aC ["self","name","page","row"] ["self","name","page","row"] (af bN):=by walk_at "sc"
abbrev bT:Stmt:=inClass (top 10) 7
theorem iB:aC ["self","name"] ["self","name"] (af bT):=by walk_at "sc"
abbrev bU:Stmt:=inClass (top 10) 8
theorem iC:aC ["self","name","page","size"] ["self","name","page"] (af bU):=by walk_at "sc"
abbrev dS:Stmt:=top 12
theorem yv:aC ["row","cell","numbers"] ["row","cell","numbers"] (af dS):=by walk_at "sc"
abbrev dz:Stmt:=inClass (top 14) 0
theorem kY:aC ["self","many"] ["self","many"] (af dz):=by walk_at "sc"
abbrev dB:Stmt:=inClass (top 14) 1
theorem kZ:aC ["self","frame","thing","row"] ["self","frame","thing","row"] (af dB):=by walk_at "sc"
abbrev cL:Stmt:=inClass (top 14) 2
theorem jU:aC ["self","frame"] ["self","frame"] (af cL):=by walk_at "sc"
abbrev bO:Stmt:=inClass (top 14) 3
theorem gW:aC ["self","frame"] ["self","frame"] (af bO):=by walk_at "sc"
abbrev b5:Stmt:=inClass (top 14) 4
theorem jc:aC ["self","frame"] ["self","frame"] (af b5):=by walk_at "sc"
abbrev b6:Stmt:=inClass (top 14) 5
theorem jd:aC ["self","frame","cell","numbers"] ["self","frame","cell","numbers"] (af b6):=by walk_at "sc"
abbrev bI:Stmt:=inClass (top 14) 6
theorem gv:aC ["self","frame"] ["self","frame"] (af bI):=by walk_at "sc"
abbrev bA:Stmt:=inClass (top 14) 7
theorem f9:aC ["self"] ["self"] (af bA):=by walk_at "sc"
abbrev cM:Stmt:=inClass (top 14) 8
theorem jV:aC ["self","thing"] ["self","thing"] (af cM):=by walk_at "sc"
abbrev b7:Stmt:=inClass (top 14) 9
theorem je:aC ["self"] ["self"] (af b7):=by walk_at "sc"
abbrev dU:Stmt:=inClass (top 16) 0
theorem nc:aC ["self","many"] ["self","many"] (af dU):=by walk_at "sc"
abbrev cN:Stmt:=inClass (top 16) 1
theorem jW:aC ["self","sheet","row","place"] ["self","sheet","row"] (af cN):=by walk_at "sc"
abbrev bV:Stmt:=inClass (top 16) 2
theorem iD:aC ["self","sheet"] ["self","sheet"] (af bV):=by walk_at "sc"
abbrev bu:Stmt:=inClass (top 16) 3
theorem fJ:aC ["self","sheet"] ["self","sheet"] (af bu):=by walk_at "sc"
abbrev Dq:Stmt:=inClass (top 16) 4
theorem NL:aC ["self","sheet"] ["self","sheet"] (af Dq):=by walk_at "sc"
abbrev b8:Stmt:=inClass (top 16) 5
theorem jf:aC ["self"] ["self"] (af b8):=by walk_at "sc"
abbrev cO:Stmt:=inClass (top 16) 6
theorem jX:aC ["self"] ["self"] (af cO):=by walk_at "sc"
abbrev dW:Stmt:=inClass (top 18) 0
theorem ng:aC ["self","many","places"] ["self","many","places"] (af dW):=by walk_at "sc"
abbrev fP:Stmt:=top 19
theorem sH:aC ["thing"] ["thing"] (af fP):=by walk_at "sc"
abbrev dX:Stmt:=top 20
theorem nh:aC ["store","frame"] ["store","frame"] (af dX):=by walk_at "sc"
abbrev gJ:Stmt:=top 21
theorem vA:aC ["store","frame","thing","row"] ["store","frame"] (af gJ):=by walk_at "sc"
abbrev dY:Stmt:=top 22
theorem ni:aC ["store","free","full","frame"] ["store"] (af dY):=by walk_at "sc"
abbrev gK:Stmt:=top 23
theorem vB:aC ["store","thing"] ["store","thing"] (af gK):=by walk_at "sc"
abbrev mj:Stmt:=top 24
theorem Dr:aC ["store","thing","frame","row"] ["store","thing"] (af mj):=by walk_at "sc"
abbrev gM:Stmt:=top 26
theorem vC:aC ["store","most"] ["store"] (af gM):=by walk_at "sc"
abbrev eS:Stmt:=top 27
theorem o5:aC ["store","row","frame","sheet"] ["store","row"] (af eS):=by walk_at "sc"
abbrev eT:Stmt:=top 29
theorem BC:aC ["_law_script","_law_k"] ["_law_script","_law_k"] (af eT):=by walk_at "sc"
abbrev gO:Stmt:=top 30
theorem vD:aC ["_law_found"] ["_law_found"] (af gO):=by walk_at "sc"
abbrev eU:Stmt:=top 31
theorem nK:aC ["_law_found","_law_due","_law_k"] ["_law_found","_law_due"] (af eU):=by walk_at "sc"
abbrev mq:Stmt:=top 32
theorem Ds:aC ["_law_cell","_law_k","_law_most","_law_big","_law_way"] ["_law_cell","_law_k"] (af mq):=by walk_at "sc"
abbrev mw:Stmt:=top 33
theorem Dt:aC ["_law_cell"] ["_law_cell"] (af mw):=by walk_at "sc"
abbrev jg:Stmt:=top 34
theorem AI:aC ["_law_cell","_law_turn","_law_letters","_law_size","_law_spot","_law_name_here","_law_k","_law_sign"] ["_law_cell","_law_turn"] (af jg):=by walk_at "sc"
abbrev eV:Stmt:=top 35
theorem o6:aC ["_law_row_here","_law_cell","_law_nums","_law_due","_law_k"] ["_law_row_here","_law_cell","_law_nums"] (af eV):=by walk_at "sc"
abbrev gP:Stmt:=top 36
theorem vE:aC ["_law_cell"] ["_law_cell"] (af gP):=by walk_at "sc"
abbrev dZ:Stmt:=top 37
theorem nj:aC ["_law_store","_law_spots","_law_marks","_law_shelf","_law_pointer"] ["_law_store","_law_spots","_law_marks","_law_shelf","_law_pointer"] (af dZ):=by walk_at "sc"
abbrev jh:Stmt:=top 38
theorem AJ:aC ["_law_store","_law_spots","_law_marks","_law_rows","_law_cell","_law_spot","_law_frame","_law_at","_law_nums"] ["_law_store","_law_spots","_law_marks","_law_rows","_law_cell"] (af jh):=by walk_at "sc"
abbrev dD:Stmt:=top 39
theorem k6:aC ["_law_store","_law_spots","_law_shelf","_law_thing"] ["_law_store","_law_spots","_law_shelf","_law_thing"] (af dD):=by walk_at "sc"
abbrev ji:Stmt:=top 40
theorem AK:aC ["_law_store","_law_spots","_law_shelf","_law_rows","_law_cell","_law_spot","_law_lying","_law_waiting","_law_made","_law_thing"] ["_law_store","_law_spots","_law_shelf","_law_rows","_law_cell"] (af ji):=by walk_at "sc"
abbrev mz:Stmt:=top 41
theorem Du:aC ["_law_store","_law_spots","_law_marks","_law_shelf","_law_rows","_law_pointer","_law_frame","_law_thing"] ["_law_store","_law_spots","_law_marks","_law_shelf","_law_rows","_law_pointer","_law_frame"] (af mz):=by walk_at "sc"
abbrev gQ:Stmt:=top 42
theorem vF:aC ["_law_store","_law_spots","_law_shelf","_law_rows","_law_thing","_law_spot","_law_found"] ["_law_store","_law_spots","_law_shelf","_law_rows","_law_thing"] (af gQ):=by walk_at "sc"
abbrev gR:Stmt:=top 43
theorem vG:aC ["_law_store","_law_spots","_law_shelf","_law_rows","_law_script","_law_name_here","_law_pages","_law_made","_law_page","_law_many","_law_k","_law_cell"] ["_law_store","_law_spots","_law_shelf","_law_rows","_law_script"] (af gR):=by walk_at "sc"
abbrev jj:Stmt:=top 44
theorem AL:aC ["_law_store","_law_spots","_law_marks","_law_shelf","_law_rows","_law_cell","_law_may","_law_frame","_law_thing"] ["_law_store","_law_spots","_law_marks","_law_shelf","_law_rows","_law_cell"] (af jj):=by walk_at "sc"
abbrev vH:Stmt:=top 45
theorem Ri:aC ["_law_script","_law_many","_law_places","_law_store","_law_spots","_law_marks","_law_shelf","_law_rows","_law_cell","_law_thing"] ["_law_script"] (af vH):=by walk_at "sc"
structure Txt (K:PySem.W.Frag) (mg:Str->Option Value) (cU cA cB cC cT cF cD cS cI:Addr):Prop where
 Full:Exc K mg "Full" cU
 Rj:Exc K mg "NoFile" cA
 Rk:Exc K mg "NoPage" cB
 Taken:Exc K mg "Taken" cC
 aZ:sX K mg "Store" cT
 bL:cE K cT "frames"
 k7:cE K cT "dial"
 jH:cE K cT "shelf"
 o7:cE K cT "files"
 qB:cE K cT "holders"
 iV:cE K cT "sheets_made"
 NO:nG K cT "Store.__init__" dW
 Frames:sX K mg "Frames" cF
 nL:cE K cF "held"
 qC:cE K cF "rows"
 k8:cE K cF "soiled"
 KO:nG K cF "Frames.__init__" dz
 yw:bH K cF "fill" "Frames.fill" dB
 vI:bH K cF "empty" "Frames.empty" cL
 o8:bH K cF "thing_in" "Frames.thing_in" bO
 sZ:bH K cF "row_in" "Frames.row_in" b5
 tu:bH K cF "put_in" "Frames.put_in" b6
 nM:bH K cF "is_soiled" "Frames.is_soiled" bI
 mG:bH K cF "least_free" "Frames.least_free" bA
 vJ:bH K cF "where" "Frames.where" cM
 tw:bH K cF "things" "Frames.things" b7
 jI:sX K mg "Dial" cD
 iE:cE K cD "stands_at"
 gX:cE K cD "marked"
 Rl:nG K cD "Dial.__init__" eO
 vK:bH K cD "pointer" "Dial.pointer" cJ
 BD:bH K cD "touch" "Dial.touch" dN
 BE:bH K cD "clear" "Dial.clear" dO
 BF:bH K cD "marks" "Dial.marks" dP
 yx:bH K cD "choose" "Dial.choose" dw
 fj:sX K mg "Shelf" cS
 gY:cE K cS "placed"
 fk:cE K cS "row_by_sheet"
 NP:nG K cS "Shelf.__init__" dU
 vL:bH K cS "put_on" "Shelf.put_on" cN
 qD:bH K cS "take_off" "Shelf.take_off" bV
 k9:bH K cS "row_of_sheet" "Shelf.row_of_sheet" bu
 tD:bH K cS "is_full" "Shelf.is_full" b8
 vM:bH K cS "sheets" "Shelf.sheets" cO
 gw:sX K mg "Files" cI
 bW:cE K cI "rows_by_name"
 NQ:nG K cI "Files.__init__" dQ
 BG:bH K cI "make" "Files.make" dR
 tE:bH K cI "size_of" "Files.size_of" b4
 vN:bH K cI "row_at" "Files.row_at" cK
 o9:bH K cI "store_row" "Files.store_row" bN
 qE:bH K cI "ask_name" "Files.ask_name" bT
 qF:bH K cI "ask_page" "Files.ask_page" bU
 BH:Def K mg "with_cells" dS
 EV:Def K mg "is_sheet" fP
 BI:Def K mg "free_frame" dX
 Ii:Def K mg "put_out" gJ
 BJ:Def K mg "have_frame" dY
 Ij:Def K mg "fetched" gK
 NR:Def K mg "bring" mj
 Ik:Def K mg "room_of" gM
 Dv:Def K mg "new_sheet" eS
 Dw:Def K mg "_law_cell_at" eT
 Il:Def K mg "_law_whole" gO
 Im:Def K mg "_law_alike" eU
 NS:Def K mg "_law_num" mq
 NT:Def K mg "_law_row" mw
 KP:Def K mg "_law_name" jg
 Dy:Def K mg "_law_laid_in" eV
 Io:Def K mg "_law_sizes" gP
 BK:Def K mg "_law_is_store" dZ
 KQ:Def K mg "_law_stir" jh
 yy:Def K mg "_law_row_there" dD
 KR:Def K mg "_law_fill" ji
 NU:Def K mg "_law_out" mz
 Ip:Def K mg "_law_again" gQ
 Iq:Def K mg "_law_begun" gR
 KS:Def K mg "_law_deed" jj
 UD:Def K mg "law" vH
theorem EI {K:PySem.W.Frag} {h:Heap} {mg:Str->Option Value} {cU cA cB cC cT cF cD cS cI:Addr} {iF:Addr} {yz:Value} {yC yD:Option Addr} {vO:Array (Option Value)} {yE vP yF lq yG:Value} {gE:Addr} {vQ:Value} {vR vS:Option Addr} {tF:Array (Option Value)} {vU tG vV jY vW:Value} {gF:Addr} {vX:Value} {vY vZ:Option Addr} {tH:Array (Option Value)} {v5 tK wc jZ we:Value} {fU:Addr} {tL:Value} {tM tN:Option Addr} {qG:Array (Option Value)} {tO qH tP jk tQ:Value} {d7:Addr} {nN:Value} {nO nP:Option Addr} {mH:Array (Option Value)} {nQ mJ nR gx nS:Value} {fm:Addr} {qI:Value} {qJ qK:Option Addr} {pq:Array (Option Value)} {qL pA qM iG qN:Value} {fq:Addr} {qO:Value} {qP qQ:Option Addr} {pB:Array (Option Value)} {qR pC qS iI qT:Value} {dH:Addr} {mK:Value} {mL mO:Option Addr} {lu:Array (Option Value)} {mP lz mQ gb mR:Value} {cY:Addr} {lA:Value} {lB lC:Option Addr} {kc:Array (Option Value)} {lD kh lE fK lF:Value} {fV:Addr} {tR:Value} {tS tT:Option Addr} {qU:Array (Option Value)} {tU qV tV jl tW:Value} {fu:Addr} {qW:Value} {qX qY:Option Addr} {pD:Array (Option Value)} {qZ pF q4 iJ q8:Value} {jJ:Addr} {BL:Value} {BN BO:Option Addr} {yH:Array (Option Value)} {BP yI BQ nk BR:Value} {fW:Addr} {tX:Value} {tY tZ:Option Addr} {rj:Array (Option Value)} {t6 rm t7 jm t8:Value} {iK:Addr} {yJ:Value} {yK yL:Option Addr} {wg:Array (Option Value)} {yM wj yN lG yO:Value} {iL:Addr} {yP:Value} {yQ yR:Option Addr} {wm:Array (Option Value)} {yS wo yT lH yU:Value} {iM:Addr} {yV:Value} {yW yX:Option Addr} {wu:Array (Option Value)} {yY wz yZ lI za:Value} {gG:Addr} {wA:Value} {wB wC:Option Addr} {t9:Array (Option Value)} {wD ua wF j3 wG:Value} {iN:Addr} {zb:Value} {zc zd:Option Addr} {wH:Array (Option Value)} {ze wI zf lJ zg:Value} {fX:Addr} {uc:Value} {ud ue:Option Addr} {rq:Array (Option Value)} {uf rz ug jn uh:Value} {eG:Addr} {pG:Value} {pH pI:Option Addr} {nU:Array (Option Value)} {pJ nV pK gZ pL:Value} {ck:Addr} {ki:Value} {kj ko:Option Addr} {jK:Array (Option Value)} {kr jL ku fz kD:Value} {fB:Addr} {rA:Value} {rB rC:Option Addr} {pM:Array (Option Value)} {rE pN rG iO rH:Value} {fY:Addr} {um:Value} {uo uq:Option Addr} {rJ:Array (Option Value)} {ur rK uu jo uv:Value} {iP:Addr} {zh:Value} {zj zk:Option Addr} {wJ:Array (Option Value)} {zl wK zm lK zo:Value} {iQ:Addr} {zp:Value} {zq zu:Option Addr} {wL:Array (Option Value)} {zv wM zw lM zx:Value} {fC:Addr} {rL:Value} {rM rN:Option Addr} {pO:Array (Option Value)} {rO pP rP iR rQ:Value} {fZ:Addr} {uw:Value} {ux uy:Option Addr} {rR:Array (Option Value)} {uz rT uA jq uB:Value} {d8:Addr} {nW:Value} {nX nY:Option Addr} {mT:Array (Option Value)} {nZ mU n5 gy n6:Value} {eK:Addr} {pQ:Value} {pR pS:Option Addr} {n8:Array (Option Value)} {pT oh pU g7 pV:Value} {eL:Addr} {pW:Value} {pX pY:Option Addr} {oi:Array (Option Value)} {pZ oj p5 g8 p6:Value} {lN:Addr} {zy:Value} {zA zB:Option Addr} {wN:Array (Option Value)} {zC wO zD lO zE:Value} {rV:Addr} {Dz:Value} {DA DB:Option Addr} {BS:Array (Option Value)} {DC BU DE p7 DF:Value} {lP:Addr} {zF:Value} {zG zH:Option Addr} {wQ:Array (Option Value)} {zI wR zJ lQ zK:Value} {wU:Addr} {EW:Value} {EX EY:Option Addr} {DG:Array (Option Value)} {EZ DH E1 sI E2:Value} {lR:Addr} {zL:Value} {zM zN:Option Addr} {wV:Array (Option Value)} {zO wW zP lS zQ:Value} {wX:Addr} {E3:Value} {E4 E5:Option Addr} {DI:Array (Option Value)} {E6 DJ E7 sJ E8:Value} {E9:Addr} {KU:Value} {KW KY:Option Addr} {Ir:Array (Option Value)} {KZ Iu K0 AM K3:Value} {wY:Addr} {Fb:Value} {Fc Fd:Option Addr} {DK:Array (Option Value)} {Fe DL Ff sL Fg:Value} {oq:Addr} {BV:Value} {BW BX:Option Addr} {zR:Array (Option Value)} {BY zS BZ nq B0:Value} {ou:Addr} {B3:Value} {B4 B5:Option Addr} {zT:Array (Option Value)} {B6 zU B7 nt B8:Value} {wZ:Addr} {Fi:Value} {Fj Fl:Option Addr} {DM:Array (Option Value)} {Fo DN Fp sM Fq:Value} {w4:Addr} {Ft:Value} {Fv Fw:Option Addr} {DO:Array (Option Value)} {Fx DP Fy sN Fz:Value} {FA:Addr} {K4:Value} {K5 K6:Option Addr} {Iv:Array (Option Value)} {K7 Iw K8 AN K9:Value} {FD:Addr} {La:Value} {Lb Ld:Option Addr} {Iz:Array (Option Value)} {Le IA Lf AO Lg:Value} {B9:Addr} {IB:Value} {IC ID:Option Addr} {FE:Array (Option Value)} {IE FF IF w6 IG:Value} {ow:Addr} {Ca:Value} {Cb Cc:Option Addr} {zV:Array (Option Value)} {Cd zW Ce nu Cf:Value} {xg:Addr} {FG:Value} {FI FJ:Option Addr} {DQ:Array (Option Value)} {FL DR FN sO FO:Value} {lT:Addr} {zX:Value} {zY zZ:Option Addr} {xh:Array (Option Value)} {Aa xj Ab lU Ac:Value} {Cg:Addr} {II:Value} {IJ IK:Option Addr} {FP:Array (Option Value)} {IL FQ IM xm IP:Value} {jM:Addr} {xo:Value} {xq xu:Option Addr} {uC:Array (Option Value)} {xw uD xx j4 xy:Value} {Ci:Addr} {IQ:Value} {IS IT:Option Addr} {FT:Array (Option Value)} {IU FU IV xA IW:Value} {FW:Addr} {Lh:Value} {Li Lj:Option Addr} {IX:Array (Option Value)} {Lk IY Ll AQ Lm:Value} {xB:Addr} {FY:Value} {FZ F0:Option Addr} {DS:Array (Option Value)} {F1 DT F2 sP F3:Value} {xC:Addr} {F4:Value} {F5 F6:Option Addr} {DU:Array (Option Value)} {F7 DV F8 sQ F9:Value} {Cj:Addr} {IZ:Value} {I0 Ja:Option Addr} {Ga:Array (Option Value)} {Jb Gb Jc xD Jd:Value} {Rm:Addr} {Rn:Value} {Ro Rp:Option Addr} {NV:Array (Option Value)} {Rq NW Rr GX Rt:Value} (X:K.In h) (G:h.Ns mainGlobals mg)
  (z1:PySem.W.nsIn K mainGlobals "Full" = some (some (.ref cU)))
  (z2:PySem.W.excIn K cU [.type "ValueError",.type "Exception",.type "BaseException",.type "object"] "ValueError.__new__" = true)
  (z3:PySem.W.nsIn K mainGlobals "NoFile" = some (some (.ref cA)))
  (z4:PySem.W.excIn K cA [.type "ValueError",.type "Exception",.type "BaseException",.type "object"] "ValueError.__new__" = true)
  (z5:PySem.W.nsIn K mainGlobals "NoPage" = some (some (.ref cB)))
  (z6:PySem.W.excIn K cB [.type "ValueError",.type "Exception",.type "BaseException",.type "object"] "ValueError.__new__" = true)
  (z7:PySem.W.nsIn K mainGlobals "Taken" = some (some (.ref cC)))
  (z8:PySem.W.excIn K cC [.type "ValueError",.type "Exception",.type "BaseException",.type "object"] "ValueError.__new__" = true)
  (z9:PySem.W.nsIn K mainGlobals "Store" = some (some (.ref cT)))
  (Vo:PySem.W.plainGet K cT Str.empty=true)
  (Vp:PySem.W.hasDictIn K cT=true)
  (Vq:PySem.W.plainOver K cT=true)
  (Vr:PySem.W.findIn K (.ref cT) "__setattr__" = some (some (.builtin "object.__setattr__")))
  (Vs:PySem.W.findIn K (.ref cT) "frames" = some none)
  (Vt:PySem.W.findIn K (.ref cT) "dial" = some none)
  (Vu:PySem.W.findIn K (.ref cT) "shelf" = some none)
  (z17:PySem.W.findIn K (.ref cT) "files" = some none)
  (z18:PySem.W.findIn K (.ref cT) "holders" = some none)
  (z19:PySem.W.findIn K (.ref cT) "sheets_made" = some none)
  (z20:PySem.W.makesIn K cT=true)
  (z21:PySem.W.findIn K (.ref cT) "__init__" = some (some (.ref iF)))
  (z22:PySem.W.isFn K (.ref iF)=true)
  (z23:PySem.W.keepIn K (.ref cT)=true)
  (z24:K.lookup iF=some ⟨yz,yC,.func (PySem.W.fnOf "__init__" "Store.__init__" (aA dW) (av dW) (af dW) .none yE vP yF yD lq yG),vO⟩)
  (z25:PySem.W.codeIn K lq "Store.__init__" = true)
  (z26:PySem.W.keepIn K (.ref iF)=true)
  (z27:PySem.W.nsIn K mainGlobals "Frames" = some (some (.ref cF)))
  (z28:PySem.W.plainGet K cF Str.empty=true)
  (z29:PySem.W.hasDictIn K cF=true)
  (z30:PySem.W.plainOver K cF=true)
  (z31:PySem.W.findIn K (.ref cF) "__setattr__" = some (some (.builtin "object.__setattr__")))
  (z32:PySem.W.findIn K (.ref cF) "held" = some none)
  (z33:PySem.W.findIn K (.ref cF) "rows" = some none)
  (z34:PySem.W.findIn K (.ref cF) "soiled" = some none)
  (z35:PySem.W.makesIn K cF=true)
  (z36:PySem.W.findIn K (.ref cF) "__init__" = some (some (.ref gE)))
  (z37:PySem.W.isFn K (.ref gE)=true)
  (z38:PySem.W.keepIn K (.ref cF)=true)
  (z39:K.lookup gE=some ⟨vQ,vR,.func (PySem.W.fnOf "__init__" "Frames.__init__" (aA dz) (av dz) (af dz) .none vU tG vV vS jY vW),tF⟩)
  (z40:PySem.W.codeIn K jY "Frames.__init__" = true)
  (z41:PySem.W.keepIn K (.ref gE)=true)
  (z42:PySem.W.findIn K (.ref cF) "fill" = some (some (.ref gF)))
  (z43:PySem.W.isFn K (.ref gF)=true)
  (z44:K.lookup gF=some ⟨vX,vY,.func (PySem.W.fnOf "fill" "Frames.fill" (aA dB) (av dB) (af dB) .none v5 tK wc vZ jZ we),tH⟩)
  (z45:PySem.W.codeIn K jZ "Frames.fill" = true)
  (z46:PySem.W.keepIn K (.ref gF)=true)
  (z47:PySem.W.findIn K (.ref cF) "empty" = some (some (.ref fU)))
  (z48:PySem.W.isFn K (.ref fU)=true)
  (z49:K.lookup fU=some ⟨tL,tM,.func (PySem.W.fnOf "empty" "Frames.empty" (aA cL) (av cL) (af cL) .none tO qH tP tN jk tQ),qG⟩)
  (z50:PySem.W.codeIn K jk "Frames.empty" = true)
  (z51:PySem.W.keepIn K (.ref fU)=true)
  (z52:PySem.W.findIn K (.ref cF) "thing_in" = some (some (.ref d7)))
  (z53:PySem.W.isFn K (.ref d7)=true)
  (z54:K.lookup d7=some ⟨nN,nO,.func (PySem.W.fnOf "thing_in" "Frames.thing_in" (aA bO) (av bO) (af bO) .none nQ mJ nR nP gx nS),mH⟩)
  (z55:PySem.W.codeIn K gx "Frames.thing_in" = true)
  (z56:PySem.W.keepIn K (.ref d7)=true)
  (z57:PySem.W.findIn K (.ref cF) "row_in" = some (some (.ref fm)))
  (z58:PySem.W.isFn K (.ref fm)=true)
  (z59:K.lookup fm=some ⟨qI,qJ,.func (PySem.W.fnOf "row_in" "Frames.row_in" (aA b5) (av b5) (af b5) .none qL pA qM qK iG qN),pq⟩)
  (z60:PySem.W.codeIn K iG "Frames.row_in" = true)
  (z61:PySem.W.keepIn K (.ref fm)=true)
  (z62:PySem.W.findIn K (.ref cF) "put_in" = some (some (.ref fq)))
  (z63:PySem.W.isFn K (.ref fq)=true)
  (z64:K.lookup fq=some ⟨qO,qP,.func (PySem.W.fnOf "put_in" "Frames.put_in" (aA b6) (av b6) (af b6) .none qR pC qS qQ iI qT),pB⟩)
  (z65:PySem.W.codeIn K iI "Frames.put_in" = true)
  (z66:PySem.W.keepIn K (.ref fq)=true)
  (z67:PySem.W.findIn K (.ref cF) "is_soiled" = some (some (.ref dH)))
  (z68:PySem.W.isFn K (.ref dH)=true)
  (z69:K.lookup dH=some ⟨mK,mL,.func (PySem.W.fnOf "is_soiled" "Frames.is_soiled" (aA bI) (av bI) (af bI) .none mP lz mQ mO gb mR),lu⟩)
  (z70:PySem.W.codeIn K gb "Frames.is_soiled" = true)
  (z71:PySem.W.keepIn K (.ref dH)=true)
  (z72:PySem.W.findIn K (.ref cF) "least_free" = some (some (.ref cY)))
  (z73:PySem.W.isFn K (.ref cY)=true)
  (z74:K.lookup cY=some ⟨lA,lB,.func (PySem.W.fnOf "least_free" "Frames.least_free" (aA bA) (av bA) (af bA) .none lD kh lE lC fK lF),kc⟩)
  (z75:PySem.W.codeIn K fK "Frames.least_free" = true)
  (z76:PySem.W.keepIn K (.ref cY)=true)
  (z77:PySem.W.findIn K (.ref cF) "where" = some (some (.ref fV)))
  (z78:PySem.W.isFn K (.ref fV)=true)
  (z79:K.lookup fV=some ⟨tR,tS,.func (PySem.W.fnOf "where" "Frames.where" (aA cM) (av cM) (af cM) .none tU qV tV tT jl tW),qU⟩)
  (z80:PySem.W.codeIn K jl "Frames.where" = true)
  (z81:PySem.W.keepIn K (.ref fV)=true)
  (z82:PySem.W.findIn K (.ref cF) "things" = some (some (.ref fu)))
  (z83:PySem.W.isFn K (.ref fu)=true)
  (z84:K.lookup fu=some ⟨qW,qX,.func (PySem.W.fnOf "things" "Frames.things" (aA b7) (av b7) (af b7) .none qZ pF q4 qY iJ q8),pD⟩)
  (z85:PySem.W.codeIn K iJ "Frames.things" = true)
  (z86:PySem.W.keepIn K (.ref fu)=true)
  (z87:PySem.W.nsIn K mainGlobals "Dial" = some (some (.ref cD)))
  (z88:PySem.W.plainGet K cD Str.empty=true)
  (z89:PySem.W.hasDictIn K cD=true)
  (z90:PySem.W.plainOver K cD=true)
  (z91:PySem.W.findIn K (.ref cD) "__setattr__" = some (some (.builtin "object.__setattr__")))
  (z92:PySem.W.findIn K (.ref cD) "stands_at" = some none)
  (z93:PySem.W.findIn K (.ref cD) "marked" = some none)
  (z94:PySem.W.makesIn K cD=true)
  (z95:PySem.W.findIn K (.ref cD) "__init__" = some (some (.ref jJ)))
  (z96:PySem.W.isFn K (.ref jJ)=true)
  (z97:PySem.W.keepIn K (.ref cD)=true)
  (z98:K.lookup jJ=some ⟨BL,BN,.func (PySem.W.fnOf "__init__" "Dial.__init__" (aA eO) (av eO) (af eO) .none BP yI BQ BO nk BR),yH⟩)
  (z99:PySem.W.codeIn K nk "Dial.__init__" = true)
  (Xs:PySem.W.keepIn K (.ref jJ)=true)
  (Xu:PySem.W.findIn K (.ref cD) "pointer" = some (some (.ref fW)))
  (Xv:PySem.W.isFn K (.ref fW)=true)
  (Xw:K.lookup fW=some ⟨tX,tY,.func (PySem.W.fnOf "pointer" "Dial.pointer" (aA cJ) (av cJ) (af cJ) .none t6 rm t7 tZ jm t8),rj⟩)
  (Xx:PySem.W.codeIn K jm "Dial.pointer" = true)
  (Xy:PySem.W.keepIn K (.ref fW)=true)
  (Xz:PySem.W.findIn K (.ref cD) "touch" = some (some (.ref iK)))
  (XA:PySem.W.isFn K (.ref iK)=true)
  (XD:K.lookup iK=some ⟨yJ,yK,.func (PySem.W.fnOf "touch" "Dial.touch" (aA dN) (av dN) (af dN) .none yM wj yN yL lG yO),wg⟩)
  (XE:PySem.W.codeIn K lG "Dial.touch" = true)
  (XF:PySem.W.keepIn K (.ref iK)=true)
  (XG:PySem.W.findIn K (.ref cD) "clear" = some (some (.ref iL)))
  (XH:PySem.W.isFn K (.ref iL)=true)
  (XI:K.lookup iL=some ⟨yP,yQ,.func (PySem.W.fnOf "clear" "Dial.clear" (aA dO) (av dO) (af dO) .none yS wo yT yR lH yU),wm⟩)
  (XJ:PySem.W.codeIn K lH "Dial.clear" = true)
  (XM:PySem.W.keepIn K (.ref iL)=true)
  (XN:PySem.W.findIn K (.ref cD) "marks" = some (some (.ref iM)))
  (XO:PySem.W.isFn K (.ref iM)=true)
  (XQ:K.lookup iM=some ⟨yV,yW,.func (PySem.W.fnOf "marks" "Dial.marks" (aA dP) (av dP) (af dP) .none yY wz yZ yX lI za),wu⟩)
  (XR:PySem.W.codeIn K lI "Dial.marks" = true)
  (XS:PySem.W.keepIn K (.ref iM)=true)
  (XT:PySem.W.findIn K (.ref cD) "choose" = some (some (.ref gG)))
  (XU:PySem.W.isFn K (.ref gG)=true)
  (XW:K.lookup gG=some ⟨wA,wB,.func (PySem.W.fnOf "choose" "Dial.choose" (aA dw) (av dw) (af dw) .none wD ua wF wC j3 wG),t9⟩)
  (XX:PySem.W.codeIn K j3 "Dial.choose" = true)
  (XY:PySem.W.keepIn K (.ref gG)=true)
  (XZ:PySem.W.nsIn K mainGlobals "Shelf" = some (some (.ref cS)))
  (X0:PySem.W.plainGet K cS Str.empty=true)
  (X4:PySem.W.hasDictIn K cS=true)
  (X5:PySem.W.plainOver K cS=true)
  (X6:PySem.W.findIn K (.ref cS) "__setattr__" = some (some (.builtin "object.__setattr__")))
  (X7:PySem.W.findIn K (.ref cS) "placed" = some none)
  (X8:PySem.W.findIn K (.ref cS) "row_by_sheet" = some none)
  (Yb:PySem.W.makesIn K cS=true)
  (Yc:PySem.W.findIn K (.ref cS) "__init__" = some (some (.ref iN)))
  (Yd:PySem.W.isFn K (.ref iN)=true)
  (Ye:PySem.W.keepIn K (.ref cS)=true)
  (Yg:K.lookup iN=some ⟨zb,zc,.func (PySem.W.fnOf "__init__" "Shelf.__init__" (aA dU) (av dU) (af dU) .none ze wI zf zd lJ zg),wH⟩)
  (Yh:PySem.W.codeIn K lJ "Shelf.__init__" = true)
  (Yi:PySem.W.keepIn K (.ref iN)=true)
  (Yj:PySem.W.findIn K (.ref cS) "put_on" = some (some (.ref fX)))
  (Yk:PySem.W.isFn K (.ref fX)=true)
  (Yl:K.lookup fX=some ⟨uc,ud,.func (PySem.W.fnOf "put_on" "Shelf.put_on" (aA cN) (av cN) (af cN) .none uf rz ug ue jn uh),rq⟩)
  (Ym:PySem.W.codeIn K jn "Shelf.put_on" = true)
  (Yn:PySem.W.keepIn K (.ref fX)=true)
  (Yo:PySem.W.findIn K (.ref cS) "take_off" = some (some (.ref eG)))
  (Yp:PySem.W.isFn K (.ref eG)=true)
  (Yq:K.lookup eG=some ⟨pG,pH,.func (PySem.W.fnOf "take_off" "Shelf.take_off" (aA bV) (av bV) (af bV) .none pJ nV pK pI gZ pL),nU⟩)
  (Yr:PySem.W.codeIn K gZ "Shelf.take_off" = true)
  (Ys:PySem.W.keepIn K (.ref eG)=true)
  (Yt:PySem.W.findIn K (.ref cS) "row_of_sheet" = some (some (.ref ck)))
  (Yu:PySem.W.isFn K (.ref ck)=true)
  (Yv:K.lookup ck=some ⟨ki,kj,.func (PySem.W.fnOf "row_of_sheet" "Shelf.row_of_sheet" (aA bu) (av bu) (af bu) .none kr jL ku ko fz kD),jK⟩)
  (Yw:PySem.W.codeIn K fz "Shelf.row_of_sheet" = true)
  (Yx:PySem.W.keepIn K (.ref ck)=true)
  (Yy:PySem.W.findIn K (.ref cS) "is_full" = some (some (.ref fB)))
  (Yz:PySem.W.isFn K (.ref fB)=true)
  (YA:K.lookup fB=some ⟨rA,rB,.func (PySem.W.fnOf "is_full" "Shelf.is_full" (aA b8) (av b8) (af b8) .none rE pN rG rC iO rH),pM⟩)
  (YB:PySem.W.codeIn K iO "Shelf.is_full" = true)
  (YC:PySem.W.keepIn K (.ref fB)=true)
  (YD:PySem.W.findIn K (.ref cS) "sheets" = some (some (.ref fY)))
  (YE:PySem.W.isFn K (.ref fY)=true)
  (YF:K.lookup fY=some ⟨um,uo,.func (PySem.W.fnOf "sheets" "Shelf.sheets" (aA cO) (av cO) (af cO) .none ur rK uu uq jo uv),rJ⟩)
  (YG:PySem.W.codeIn K jo "Shelf.sheets" = true)
  (YH:PySem.W.keepIn K (.ref fY)=true)
  (YI:PySem.W.nsIn K mainGlobals "Files" = some (some (.ref cI)))
  (YJ:PySem.W.plainGet K cI Str.empty=true)
  (YK:PySem.W.hasDictIn K cI=true)
  (YL:PySem.W.plainOver K cI=true)
  (YM:PySem.W.findIn K (.ref cI) "__setattr__" = some (some (.builtin "object.__setattr__")))
  (YN:PySem.W.findIn K (.ref cI) "rows_by_name" = some none)
  (YO:PySem.W.makesIn K cI=true)
  (YQ:PySem.W.findIn K (.ref cI) "__init__" = some (some (.ref iP)))
  (YR:PySem.W.isFn K (.ref iP)=true)
  (YS:PySem.W.keepIn K (.ref cI)=true)
  (YT:K.lookup iP=some ⟨zh,zj,.func (PySem.W.fnOf "__init__" "Files.__init__" (aA dQ) (av dQ) (af dQ) .none zl wK zm zk lK zo),wJ⟩)
  (YU:PySem.W.codeIn K lK "Files.__init__" = true)
  (YV:PySem.W.keepIn K (.ref iP)=true)
  (YW:PySem.W.findIn K (.ref cI) "make" = some (some (.ref iQ)))
  (YX:PySem.W.isFn K (.ref iQ)=true)
  (YY:K.lookup iQ=some ⟨zp,zq,.func (PySem.W.fnOf "make" "Files.make" (aA dR) (av dR) (af dR) .none zv wM zw zu lM zx),wL⟩)
  (YZ:PySem.W.codeIn K lM "Files.make" = true)
  (Y0:PySem.W.keepIn K (.ref iQ)=true)
  (Y3:PySem.W.findIn K (.ref cI) "size_of" = some (some (.ref fC)))
  (Y4:PySem.W.isFn K (.ref fC)=true)
  (Y5:K.lookup fC=some ⟨rL,rM,.func (PySem.W.fnOf "size_of" "Files.size_of" (aA b4) (av b4) (af b4) .none rO pP rP rN iR rQ),pO⟩)
  (Y6:PySem.W.codeIn K iR "Files.size_of" = true)
  (Y7:PySem.W.keepIn K (.ref fC)=true)
  (Y8:PySem.W.findIn K (.ref cI) "row_at" = some (some (.ref fZ)))
  (Y9:PySem.W.isFn K (.ref fZ)=true)
  (Za:K.lookup fZ=some ⟨uw,ux,.func (PySem.W.fnOf "row_at" "Files.row_at" (aA cK) (av cK) (af cK) .none uz rT uA uy jq uB),rR⟩)
  (Zb:PySem.W.codeIn K jq "Files.row_at" = true)
  (Zc:PySem.W.keepIn K (.ref fZ)=true)
  (Zd:PySem.W.findIn K (.ref cI) "store_row" = some (some (.ref d8)))
  (Ze:PySem.W.isFn K (.ref d8)=true)
  (Zf:K.lookup d8=some ⟨nW,nX,.func (PySem.W.fnOf "store_row" "Files.store_row" (aA bN) (av bN) (af bN) .none nZ mU n5 nY gy n6),mT⟩)
  (Zg:PySem.W.codeIn K gy "Files.store_row" = true)
  (Zh:PySem.W.keepIn K (.ref d8)=true)
  (Zi:PySem.W.findIn K (.ref cI) "ask_name" = some (some (.ref eK)))
  (Zj:PySem.W.isFn K (.ref eK)=true)
  (Zk:K.lookup eK=some ⟨pQ,pR,.func (PySem.W.fnOf "ask_name" "Files.ask_name" (aA bT) (av bT) (af bT) .none pT oh pU pS g7 pV),n8⟩)
  (Zl:PySem.W.codeIn K g7 "Files.ask_name" = true)
  (Zm:PySem.W.keepIn K (.ref eK)=true)
  (Zn:PySem.W.findIn K (.ref cI) "ask_page" = some (some (.ref eL)))
  (Zo:PySem.W.isFn K (.ref eL)=true)
  (Zp:K.lookup eL=some ⟨pW,pX,.func (PySem.W.fnOf "ask_page" "Files.ask_page" (aA bU) (av bU) (af bU) .none pZ oj p5 pY g8 p6),oi⟩)
  (Zq:PySem.W.codeIn K g8 "Files.ask_page" = true)
  (Zr:PySem.W.keepIn K (.ref eL)=true)
  (Zs:PySem.W.nsIn K mainGlobals "with_cells" = some (some (.ref lN)))
  (Zt:K.lookup lN=some ⟨zy,zA,.func (PySem.W.fnOf "with_cells" "with_cells" (aA dS) (av dS) (af dS) .none zC wO zD zB lO zE),wN⟩)
  (Zu:PySem.W.codeIn K lO "with_cells" = true)
  (Zv:PySem.W.keepIn K (.ref lN)=true)
  (Zw:PySem.W.nsIn K mainGlobals "is_sheet" = some (some (.ref rV)))
  (Zx:K.lookup rV=some ⟨Dz,DA,.func (PySem.W.fnOf "is_sheet" "is_sheet" (aA fP) (av fP) (af fP) .none DC BU DE DB p7 DF),BS⟩)
  (Zy:PySem.W.codeIn K p7 "is_sheet" = true)
  (Zz:PySem.W.keepIn K (.ref rV)=true)
  (ZA:PySem.W.nsIn K mainGlobals "free_frame" = some (some (.ref lP)))
  (ZC:K.lookup lP=some ⟨zF,zG,.func (PySem.W.fnOf "free_frame" "free_frame" (aA dX) (av dX) (af dX) .none zI wR zJ zH lQ zK),wQ⟩)
  (ZD:PySem.W.codeIn K lQ "free_frame" = true)
  (ZE:PySem.W.keepIn K (.ref lP)=true)
  (ZF:PySem.W.nsIn K mainGlobals "put_out" = some (some (.ref wU)))
  (ZG:K.lookup wU=some ⟨EW,EX,.func (PySem.W.fnOf "put_out" "put_out" (aA gJ) (av gJ) (af gJ) .none EZ DH E1 EY sI E2),DG⟩)
  (ZH:PySem.W.codeIn K sI "put_out" = true)
  (ZI:PySem.W.keepIn K (.ref wU)=true)
  (ZJ:PySem.W.nsIn K mainGlobals "have_frame" = some (some (.ref lR)))
  (ZK:K.lookup lR=some ⟨zL,zM,.func (PySem.W.fnOf "have_frame" "have_frame" (aA dY) (av dY) (af dY) .none zO wW zP zN lS zQ),wV⟩)
  (ZL:PySem.W.codeIn K lS "have_frame" = true)
  (ZM:PySem.W.keepIn K (.ref lR)=true)
  (ZN:PySem.W.nsIn K mainGlobals "fetched" = some (some (.ref wX)))
  (ZO:K.lookup wX=some ⟨E3,E4,.func (PySem.W.fnOf "fetched" "fetched" (aA gK) (av gK) (af gK) .none E6 DJ E7 E5 sJ E8),DI⟩)
  (ZP:PySem.W.codeIn K sJ "fetched" = true)
  (ZQ:PySem.W.keepIn K (.ref wX)=true)
  (ZR:PySem.W.nsIn K mainGlobals "bring" = some (some (.ref E9)))
  (ZS:K.lookup E9=some ⟨KU,KW,.func (PySem.W.fnOf "bring" "bring" (aA mj) (av mj) (af mj) .none KZ Iu K0 KY AM K3),Ir⟩)
  (ZT:PySem.W.codeIn K AM "bring" = true)
  (ZU:PySem.W.keepIn K (.ref E9)=true)
  (ZV:PySem.W.nsIn K mainGlobals "room_of" = some (some (.ref wY)))
  (ZW:K.lookup wY=some ⟨Fb,Fc,.func (PySem.W.fnOf "room_of" "room_of" (aA gM) (av gM) (af gM) .none Fe DL Ff Fd sL Fg),DK⟩)
  (ZX:PySem.W.codeIn K sL "room_of" = true)
  (ZY:PySem.W.keepIn K (.ref wY)=true)
  (ZZ:PySem.W.nsIn K mainGlobals "new_sheet" = some (some (.ref oq)))
  (Z0:K.lookup oq=some ⟨BV,BW,.func (PySem.W.fnOf "new_sheet" "new_sheet" (aA eS) (av eS) (af eS) .none BY zS BZ BX nq B0),zR⟩)
  (Z1:PySem.W.codeIn K nq "new_sheet" = true)
  (Z2:PySem.W.keepIn K (.ref oq)=true)
  (Z3:PySem.W.nsIn K mainGlobals "_law_cell_at" = some (some (.ref ou)))
  (Z4:K.lookup ou=some ⟨B3,B4,.func (PySem.W.fnOf "_law_cell_at" "_law_cell_at" (aA eT) (av eT) (af eT) .none B6 zU B7 B5 nt B8),zT⟩)
  (Z5:PySem.W.codeIn K nt "_law_cell_at" = true)
  (Z6:PySem.W.keepIn K (.ref ou)=true)
  (Z7:PySem.W.nsIn K mainGlobals "_law_whole" = some (some (.ref wZ)))
  (Z8:K.lookup wZ=some ⟨Fi,Fj,.func (PySem.W.fnOf "_law_whole" "_law_whole" (aA gO) (av gO) (af gO) .none Fo DN Fp Fl sM Fq),DM⟩)
  (Z9:PySem.W.codeIn K sM "_law_whole" = true)
  (aaa:PySem.W.keepIn K (.ref wZ)=true)
  (aab:PySem.W.nsIn K mainGlobals "_law_alike" = some (some (.ref w4)))
  (aac:K.lookup w4=some ⟨Ft,Fv,.func (PySem.W.fnOf "_law_alike" "_law_alike" (aA eU) (av eU) (af eU) .none Fx DP Fy Fw sN Fz),DO⟩)
  (aad:PySem.W.codeIn K sN "_law_alike" = true)
  (aae:PySem.W.keepIn K (.ref w4)=true)
  (aaf:PySem.W.nsIn K mainGlobals "_law_num" = some (some (.ref FA)))
  (aag:K.lookup FA=some ⟨K4,K5,.func (PySem.W.fnOf "_law_num" "_law_num" (aA mq) (av mq) (af mq) .none K7 Iw K8 K6 AN K9),Iv⟩)
  (aah:PySem.W.codeIn K AN "_law_num" = true)
  (aai:PySem.W.keepIn K (.ref FA)=true)
  (aaj:PySem.W.nsIn K mainGlobals "_law_row" = some (some (.ref FD)))
  (aak:K.lookup FD=some ⟨La,Lb,.func (PySem.W.fnOf "_law_row" "_law_row" (aA mw) (av mw) (af mw) .none Le IA Lf Ld AO Lg),Iz⟩)
  (aal:PySem.W.codeIn K AO "_law_row" = true)
  (aam:PySem.W.keepIn K (.ref FD)=true)
  (aan:PySem.W.nsIn K mainGlobals "_law_name" = some (some (.ref B9)))
  (aao:K.lookup B9=some ⟨IB,IC,.func (PySem.W.fnOf "_law_name" "_law_name" (aA jg) (av jg) (af jg) .none IE FF IF ID w6 IG),FE⟩)
  (aap:PySem.W.codeIn K w6 "_law_name" = true)
  (aaq:PySem.W.keepIn K (.ref B9)=true)
  (aar:PySem.W.nsIn K mainGlobals "_law_laid_in" = some (some (.ref ow)))
  (aas:K.lookup ow=some ⟨Ca,Cb,.func (PySem.W.fnOf "_law_laid_in" "_law_laid_in" (aA eV) (av eV) (af eV) .none Cd zW Ce Cc nu Cf),zV⟩)
  (aat:PySem.W.codeIn K nu "_law_laid_in" = true)
  (aau:PySem.W.keepIn K (.ref ow)=true)
  (aav:PySem.W.nsIn K mainGlobals "_law_sizes" = some (some (.ref xg)))
  (aaw:K.lookup xg=some ⟨FG,FI,.func (PySem.W.fnOf "_law_sizes" "_law_sizes" (aA gP) (av gP) (af gP) .none FL DR FN FJ sO FO),DQ⟩)
  (aax:PySem.W.codeIn K sO "_law_sizes" = true)
  (aay:PySem.W.keepIn K (.ref xg)=true)
  (aaz:PySem.W.nsIn K mainGlobals "_law_is_store" = some (some (.ref lT)))
  (aaA:K.lookup lT=some ⟨zX,zY,.func (PySem.W.fnOf "_law_is_store" "_law_is_store" (aA dZ) (av dZ) (af dZ) .none Aa xj Ab zZ lU Ac),xh⟩)
  (aaB:PySem.W.codeIn K lU "_law_is_store" = true)
  (aaC:PySem.W.keepIn K (.ref lT)=true)
  (aaD:PySem.W.nsIn K mainGlobals "_law_stir" = some (some (.ref Cg)))
  (aaE:K.lookup Cg=some ⟨II,IJ,.func (PySem.W.fnOf "_law_stir" "_law_stir" (aA jh) (av jh) (af jh) .none IL FQ IM IK xm IP),FP⟩)
  (aaF:PySem.W.codeIn K xm "_law_stir" = true)
  (aaG:PySem.W.keepIn K (.ref Cg)=true)
  (aaH:PySem.W.nsIn K mainGlobals "_law_row_there" = some (some (.ref jM)))
  (aaI:K.lookup jM=some ⟨xo,xq,.func (PySem.W.fnOf "_law_row_there" "_law_row_there" (aA dD) (av dD) (af dD) .none xw uD xx xu j4 xy),uC⟩)
  (aaJ:PySem.W.codeIn K j4 "_law_row_there" = true)
  (aaK:PySem.W.keepIn K (.ref jM)=true)
  (aaL:PySem.W.nsIn K mainGlobals "_law_fill" = some (some (.ref Ci)))
  (aaM:K.lookup Ci=some ⟨IQ,IS,.func (PySem.W.fnOf "_law_fill" "_law_fill" (aA ji) (av ji) (af ji) .none IU FU IV IT xA IW),FT⟩)
  (aaN:PySem.W.codeIn K xA "_law_fill" = true)
  (aaO:PySem.W.keepIn K (.ref Ci)=true)
  (aaP:PySem.W.nsIn K mainGlobals "_law_out" = some (some (.ref FW)))
  (aaQ:K.lookup FW=some ⟨Lh,Li,.func (PySem.W.fnOf "_law_out" "_law_out" (aA mz) (av mz) (af mz) .none Lk IY Ll Lj AQ Lm),IX⟩)
  (aaR:PySem.W.codeIn K AQ "_law_out" = true)
  (aaS:PySem.W.keepIn K (.ref FW)=true)
  (aaT:PySem.W.nsIn K mainGlobals "_law_again" = some (some (.ref xB)))
  (aaU:K.lookup xB=some ⟨FY,FZ,.func (PySem.W.fnOf "_law_again" "_law_again" (aA gQ) (av gQ) (af gQ) .none F1 DT F2 F0 sP F3),DS⟩)
  (aaV:PySem.W.codeIn K sP "_law_again" = true)
  (aaW:PySem.W.keepIn K (.ref xB)=true)
  (aaX:PySem.W.nsIn K mainGlobals "_law_begun" = some (some (.ref xC)))
  (aaY:K.lookup xC=some ⟨F4,F5,.func (PySem.W.fnOf "_law_begun" "_law_begun" (aA gR) (av gR) (af gR) .none F7 DV F8 F6 sQ F9),DU⟩)
  (aaZ:PySem.W.codeIn K sQ "_law_begun" = true)
  (aa0:PySem.W.keepIn K (.ref xC)=true)
  (aa1:PySem.W.nsIn K mainGlobals "_law_deed" = some (some (.ref Cj)))
  (aa2:K.lookup Cj=some ⟨IZ,I0,.func (PySem.W.fnOf "_law_deed" "_law_deed" (aA jj) (av jj) (af jj) .none Jb Gb Jc Ja xD Jd),Ga⟩)
  (aa3:PySem.W.codeIn K xD "_law_deed" = true)
  (aa4:PySem.W.keepIn K (.ref Cj)=true)
  (aa5:PySem.W.nsIn K mainGlobals "law" = some (some (.ref Rm)))
  (aa6:K.lookup Rm=some ⟨Rn,Ro,.func (PySem.W.fnOf "law" "law" (aA vH) (av vH) (af vH) .none Rq NW Rr Rp GX Rt),NV⟩)
  (aa7:PySem.W.codeIn K GX "law" = true)
  (aa8:PySem.W.keepIn K (.ref Rm)=true) : ∃ cU cA cB cC cT cF cD cS cI,Txt K mg cU cA cB cC cT cF cD cS cI :=
 ⟨cU,cA,cB,cC,cT,cF,cD,cS,cI,Bo X G z1 z2,Bo X G z3 z4,Bo X G z5 z6,Bo X G z7 z8,vo X G z9 Vo Vp Vq Vr,Vs,Vt,Vu,z17,z18,z19,oW z20 z21 z22 z23 z24 z25 z26,vo X G z27 z28 z29 z30 z31,z32,z33,z34,oW z35 z36 z37 z38 z39 z40 z41,bh z42 z43 z44 z45 z46,bh z47 z48 z49 z50 z51,bh z52 z53 z54 z55 z56,bh z57 z58 z59 z60 z61,bh z62 z63 z64 z65 z66,bh z67 z68 z69 z70 z71,bh z72 z73 z74 z75 z76,bh z77 z78 z79 z80 z81,bh z82 z83 z84 z85 z86,vo X G z87 z88 z89 z90 z91,z92,z93,oW z94 z95 z96 z97 z98 z99 Xs,bh Xu Xv Xw Xx Xy,bh Xz XA XD XE XF,bh XG XH XI XJ XM,bh XN XO XQ XR XS,bh XT XU XW XX XY,vo X G XZ X0 X4 X5 X6,X7,X8,oW Yb Yc Yd Ye Yg Yh Yi,bh Yj Yk Yl Ym Yn,bh Yo Yp Yq Yr Ys,bh Yt Yu Yv Yw Yx,bh Yy Yz YA YB YC,bh YD YE YF YG YH,vo X G YI YJ YK YL YM,YN,oW YO YQ YR YS YT YU YV,bh YW YX YY YZ Y0,bh Y3 Y4 Y5 Y6 Y7,bh Y8 Y9 Za Zb Zc,bh Zd Ze Zf Zg Zh,bh Zi Zj Zk Zl Zm,bh Zn Zo Zp Zq Zr,bK X G Zs Zt Zu Zv,bK X G Zw Zx Zy Zz,bK X G ZA ZC ZD ZE,bK X G ZF ZG ZH ZI,bK X G ZJ ZK ZL ZM,bK X G ZN ZO ZP ZQ,bK X G ZR ZS ZT ZU,bK X G ZV ZW ZX ZY,bK X G ZZ Z0 Z1 Z2,bK X G Z3 Z4 Z5 Z6,bK X G Z7 Z8 Z9 aaa,bK X G aab aac aad aae,bK X G aaf aag aah aai,bK X G aaj aak aal aam,bK X G aan aao aap aaq,bK X G aar aas aat aau,bK X G aav aaw aax aay,bK X G aaz aaA aaB aaC,bK X G aaD aaE aaF aaG,bK X G aaH aaI aaJ aaK,bK X G aaL aaM aaN aaO,bK X G aaP aaQ aaR aaS,bK X G aaT aaU aaV aaW,bK X G aaX aaY aaZ aa0,bK X G aa1 aa2 aa3 aa4,bK X G aa5 aa6 aa7 aa8⟩
local macro_rules | `(tactic| walk_at $_:str) => `(tactic| fail)
theorem mC {α : Type} {b a : α} {l:List α} (h:a∈l):a∈b::l:=List.mem_cons_of_mem b h
theorem mA {α : Type} {a : α} {k l:List α} (h:a∈l):a∈k++l:=List.mem_append_right k h
theorem mB {α : Type} {a : α} {k l:List α} (h:a∈k):a∈k++l:=List.mem_append_left l h
theorem mS {α : Type} {a : α} {l:List α} : a∈a::l:=List.mem_cons_self
local macro_rules | `(tactic| walk_at "mem") => `(tactic| repeat (first | with_reducible exact List.mem_cons_self | with_reducible assumption | with_reducible refine List.mem_cons_of_mem _ ?_))
local macro_rules | `(tactic| walk_at "sub") => `(tactic| repeat (first | with_reducible exact List.Sublist.refl _ | with_reducible apply List.Sublist.cons₂ | with_reducible apply List.Sublist.cons))
local macro_rules | `(tactic| walk_at "led") => `(tactic| first | with_reducible assumption | exact L2.Led.sub (by assumption) (by walk_at "sub"))
local macro_rules | `(tactic| walk_at "cell") => `(tactic| first | with_reducible assumption | with_reducible exact L2.Led.get (by assumption) (by walk_at "mem"))
local macro_rules | `(tactic| walk_at "atc") => `(tactic| first | with_reducible assumption | with_reducible exact L2.O9 | with_reducible exact L2.Pa | with_reducible exact L2.Pb | with_reducible exact L2.Pc | with_reducible exact L2.Pd | with_reducible exact L2.Ph | with_reducible exact L2.afq | with_reducible exact L2.TN)
local macro_rules | `(tactic| walk_at "szs") => `(tactic| first | decide | (simp only [List.length_cons,List.length_nil,List.length_append,List.length_map];have hsz:=PySem.sizeLine_eq;omega) | (have hsz:=PySem.sizeLine_eq;omega))
local macro_rules | `(tactic| walk_at "tyc") => `(tactic| first | with_reducible exact L2.tyI | with_reducible exact L2.tyB | with_reducible exact L2.tyS | with_reducible exact L2.tyO | exact L2.tyL (by walk_at "cell") | exact L2.tyT (by walk_at "cell") | exact L2.tyD (by walk_at "cell") | with_reducible assumption)
local macro_rules | `(tactic| walk_at "cnd") => `(tactic| first | omega | (unfold L2.SX;omega) | (unfold L2.M8;omega) | (unfold L2.SY;omega) | (dsimp only;omega) | exact PySem.IntMulOk.of_right (by decide +kernel) | exact PySem.IntMulOk.of_left (by decide +kernel))
local macro_rules | `(tactic| walk_at "seq") => `(tactic| first | assumption | exact L2.eY.of (by walk_at "cell") | exact L2.j8.seq (by assumption) (by assumption) | exact L2.Pj.seq (by assumption) (by walk_at "led"))
local macro_rules | `(tactic| walk_at "isi") => `(tactic| first | with_reducible exact L2.C9 | with_reducible exact L2.Bg | with_reducible exact L2.NX | with_reducible exact L2.yf | with_reducible exact L2.Bh | with_reducible exact L2.yg | with_reducible exact L2.Dc | with_reducible exact L2.Bj | with_reducible exact L2.Bk | with_reducible exact L2.yh | with_reducible exact L2.yi | with_reducible exact L2.vf | with_reducible exact L2.yj | with_reducible exact L2.sV | with_reducible exact L2.Ln | with_reducible exact L2.vg | with_reducible exact L2.yk | with_reducible exact L2.vh | with_reducible exact L2.NY | with_reducible exact L2.NZ | with_reducible exact L2.MR | with_reducible exact L2.MS | with_reducible exact L2.Lo | with_reducible exact L2.Dd | with_reducible exact L2.MT | with_reducible exact L2.Pr | with_reducible exact L2.N7 | with_reducible exact L2.Bt | with_reducible exact L2.Bu | with_reducible exact L2.yl | rfl)
local macro_rules | `(tactic| walk_at "cl") => `(tactic| ((repeat (with_reducible rename L2.Is _ _=>zz;clear zz)); (repeat (with_reducible rename L2.j8 _ _=>zz;clear zz)); (repeat (with_reducible rename L2.VK=>zz;clear zz))))
local macro_rules | `(tactic| walk_at "g1") => `(tactic| first
 | ((with_reducible show L2.ve _ _ _);with_reducible refine L2.Ug (by walk_at "cell") ?_)
 | ((with_reducible show L2.ve _ _ _);with_reducible refine L2.Uh (by walk_at "cell") ?_)
 | ((with_reducible show L2.ve _ _ _);with_reducible refine L2.Ui (by walk_at "cell") ?_)
 | ((with_reducible show L2.Kq _ _ _);with_reducible refine L2.WY (by walk_at "tyc") (by walk_at "isi") ?_)
 | ((with_reducible show L2.QK _ _ _ _);with_reducible refine L2.WZ (by walk_at "cell") (by walk_at "cell") (by walk_at "szs") (L2.Led.alloc (by assumption) λ _ _ _ _ _ => ?_))
 | ((with_reducible show ∃ (p:Addr) (ys:List L2.V),_ = [L2.V.ref p]/\_);with_reducible refine L2.Uk (by walk_at "seq") (L2.Led.alloc (by assumption) λ _ _ _ _ _ => ?_))
 | ((with_reducible show ∃ (p:Addr) (ys:List L2.V),_ = [L2.V.ref p]/\_);with_reducible refine L2.aa9 (by walk_at "seq") (L2.Led.alloc (by assumption) λ _ _ _ _ _ => ?_))
 | ((with_reducible show L2.Nj _ _ _ _ _ _);with_reducible refine L2.Uj (by first | assumption | exact L2.eY.of (by walk_at "cell") | exact L2.j8.seq (by assumption) (by assumption) | exact L2.Pj.seq (by assumption) (by walk_at "led")) (L2.Led.alloc (by assumption) λ _ _ _ _ _ => ?_)))
local macro_rules | `(tactic| walk_at "g2") => `(tactic| first
 | walk_at "g1"
 | ((with_reducible show ∃ (b:Addr) (dx:Addr) (fs:List (Str×L2.V)),_/\_);with_reducible refine L2.Uo (by walk_at "cell") (by first | decide | with_unfolding_all exact Nat.le_of_ble_eq_true rfl) ?_)
 | ((with_reducible show ∃ (b:Addr) (o:Option L2.V),_/\_);with_reducible refine L2.afy (by walk_at "cell") ?_)
 | ((with_reducible show L2.EE _ _ _);with_reducible refine L2.Up (by assumption) λ _ _ _ _ _ => ?_)
 | with_reducible refine L2.isH ?_
 | with_reducible refine L2.W0 ?_)
local macro_rules | `(tactic| walk_at "gd") => `(tactic| repeat' first
 | (with_reducible refine L2.dJ.h ?_;intro _ _)
 | with_reducible refine L2.vz.h ?_
 | with_reducible refine L2.Ub rfl ?_
 | with_reducible refine L2.Is.use (by assumption) ?_
 | with_reducible refine L2.TU (by assumption) ?_
 | ((with_reducible show L2.Ends.rt _ _ _);with_reducible refine L2.rtH ?_)
 | ((with_reducible show L2.Ends.nx _ _ _);with_reducible refine L2.nxH ?_)
 | with_reducible refine L2.Tv (λ _ => ?_) (λ _ => ?_)
 | with_reducible refine L2.Po (λ _ => ?_) (λ _ => ?_)
 | ((with_reducible show L2.rI _ _ _ _ _ _);with_reducible refine L2.iH (by walk_at "cnd") ?_)
 | ((with_reducible show (_<=PySem.sizeLine)/\_);with_reducible refine And.intro (by walk_at "szs") (L2.Led.alloc (by assumption) λ _ _ _ _ _ => ?_))
 | ((with_reducible show L2.EK _ _ _ _);with_reducible refine L2.Q0 (by walk_at "cell") (by walk_at "atc") ?_)
 | ((with_reducible show L2.EK _ _ _ _);with_reducible refine L2.Ue (by walk_at "cell") (by walk_at "atc") ?_)
 | ((with_reducible show ∃ (b:Addr) (dx:Addr) (fs:List (Str×L2.V)) (v:L2.V),_/\_);with_reducible refine L2.Ul (by walk_at "cell") (by first | assumption | with_unfolding_all rfl) ?_)
 | ((with_reducible show ∃ (b:Addr) (dx:Addr) (fs:List (Str×L2.V)),_/\_);with_reducible refine L2.Pp (by walk_at "cell") (by first | assumption | with_unfolding_all rfl) ?_)
 | walk_at "g2")
local macro_rules | `(tactic| walk_at "pf") => `(tactic| repeat (first | with_reducible exact List.Perm.refl _ | with_reducible apply L2.pcC | with_reducible apply L2.pcA | with_reducible apply L2.paC | with_reducible apply L2.paA))
local macro_rules | `(tactic| walk_at "sp") => `(tactic| repeat (first | (with_reducible apply L2.spC; · walk_at "pf") | (with_reducible apply L2.spA; · walk_at "pf") | with_reducible exact L2.spR | with_reducible exact L2.spN | with_reducible apply L2.spD | with_reducible apply L2.W2))
local macro_rules | `(tactic| walk_at "g3") => `(tactic| first
 | walk_at "g2"
 | with_reducible refine L2.aba (λ _ _ => ?_) L2.abb
 | ((with_reducible show (∃ (a:Addr),_/\L2.Sn _ _)/\_);with_reducible refine And.intro (L2.Q7 (by walk_at "cell")) ?_)
 | ((with_reducible show ∃ (b:Addr) (o:Option L2.V),_/\_);with_reducible refine L2.abc (by walk_at "cell") ?_)
 | ((with_reducible show L2.Nh _ _ none (some 2) _ _);with_reducible refine L2.afz (by walk_at "cell") (L2.Led.alloc (by assumption) λ _ _ _ _ _ => ?_))
 | ((with_reducible show L2.Nh _ _ (some 2) none _ _);with_reducible refine L2.W4 (by walk_at "cell") (L2.Led.alloc (by assumption) λ _ _ _ _ _ => ?_)))
local macro_rules | `(tactic| walk_at "ge") => `(tactic| repeat' first
 | (with_reducible refine L2.dJ.h ?_;intro _ _)
 | with_reducible refine L2.vz.h ?_
 | with_reducible refine L2.Ub rfl ?_
 | with_reducible refine L2.Is.use (by assumption) ?_
 | with_reducible refine L2.TU (by assumption) ?_
 | ((with_reducible show L2.Ends.rt _ _ _);with_reducible refine L2.rtH ?_)
 | ((with_reducible show L2.Ends.nx _ _ _);with_reducible refine L2.nxH ?_)
 | with_reducible refine L2.Tv (λ _ => ?_) (λ _ => ?_)
 | with_reducible refine L2.Po (λ _ => ?_) (λ _ => ?_)
 | ((with_reducible show L2.rI _ _ _ _ _ _);with_reducible refine L2.iH (by walk_at "cnd") ?_)
 | ((with_reducible show (_<=PySem.sizeLine)/\_);with_reducible refine And.intro (by walk_at "szs") (L2.Led.alloc (by assumption) λ _ _ _ _ _ => ?_))
 | ((with_reducible show L2.EK _ _ _ _);with_reducible refine L2.Q0 (by walk_at "cell") (by walk_at "atc") ?_)
 | ((with_reducible show L2.EK _ _ _ _);with_reducible refine L2.Ue (by walk_at "cell") (by walk_at "atc") ?_)
 | ((with_reducible show ∃ (b:Addr) (dx:Addr) (fs:List (Str×L2.V)) (v:L2.V),_/\_);with_reducible refine L2.Ul (by walk_at "cell") (by first | assumption | with_unfolding_all rfl) ?_)
 | ((with_reducible show ∃ (b:Addr) (dx:Addr) (fs:List (Str×L2.V)),_/\_);with_reducible refine L2.Pp (by walk_at "cell") (by first | assumption | with_unfolding_all rfl) ?_)
 | walk_at "g3")
section
variable {P:Program} {w:World} {K:PySem.W.Frag} {mg:Str->Option Value} {base:Heap} {cU cA cB cC cT cF cD cS cI:Addr}
theorem gz {A:Around} {k:Nat} (hr:c6 k A):A.units+1 < cLine:=Nat.lt_of_le_of_lt (Nat.add_le_add_left (by decide) _) hr.units
def UE (z:Str):Prop:=PyData.strOk z=true
inductive Th
 | own (n:Int)
 | file (z:Str) (p:Int)
deriving DecidableEq
def gc:Th->List V
 | .own n=>[.str (Str.ofString "own"),.int n]
 | .file z p=>[.str (Str.ofString "file"),.str z,.int p]
def Gd:Th->Prop
 | .own _=>True
 | .file z _=>UE z
def p8:Th->PySem.W.Dat
 | .own n => .tuple [.str (Str.ofString "own"),.int n]
 | .file z p => .tuple [.str (Str.ofString "file"),.str z,.int p]
theorem Lp {a b:Th} : p8 a=p8 b↔a=b:=by
 cases a <;> cases b <;> simp [p8]
theorem N8 {a:Th} (h:Gd a) (k:Nat):PySem.W.kqdOk (k+1) (p8 a)=true:=by
 have h1:PyData.strOk (Str.ofString "own")=true:=by decide +kernel
 have h2:PyData.strOk (Str.ofString "file")=true:=by decide +kernel
 cases a with
 | own n=>unfold p8;rw [PySem.W.kqdOk];cases k <;> simp [PySem.W.kqdOk,h1]
 | file z p =>
   have h3:PyData.strOk z=true:=h
   unfold p8;rw [PySem.W.kqdOk];cases k <;> simp [PySem.W.kqdOk,h2,h3]
theorem xE {H:Hp} {p:Addr} {a:Th} (h:H p=some (.tup (gc a))):eg H (.ref p) (PySem.W.kqdP (p8 a)):=by
 cases a with
 | own n =>
   unfold p8
   rw [PySem.W.kqdP,PySem.W.kqdPs,PySem.W.kqdPs,PySem.W.kqdPs,PySem.W.kqdP,PySem.W.kqdP]
   exact .tup h (.cons (.str _) (.cons (.int _) .nil))
 | file z q =>
   unfold p8
   rw [PySem.W.kqdP,PySem.W.kqdPs,PySem.W.kqdPs,PySem.W.kqdPs,PySem.W.kqdPs,PySem.W.kqdP,PySem.W.kqdP,PySem.W.kqdP]
   exact .tup h (.cons (.str _) (.cons (.str _) (.cons (.int _) .nil)))
abbrev Hd:=Option (Addr×Th)
def aW:Hd->V
 | none => .aH
 | some x => .ref x.1
def lV (x:Hd):Option Th:=x.map (·.2)
def eB:Option Th->PySem.W.Dat
 | none => .none
 | some a=>p8 a
theorem gg {a b:Option Th} : eB a=eB b↔a=b:=by
 cases a with
 | none=>cases b with
   | none=>exact iff_of_true rfl rfl
   | some b=>cases b <;> simp [eB,p8]
 | some a=>cases b with
   | none=>cases a <;> simp [eB,p8]
   | some b=>show p8 a=p8 b↔_;rw [Lp,Option.some.injEq]
def fD:Option (Addr×List Int)->V
 | none => .aH
 | some x => .ref x.1
structure FS where
 b:Addr
 dx:Addr
 hl:Addr
 rl:Addr
 sl:Addr
 hs:List Hd
 rs:List (Option (Addr×List Int))
 bs:List Bool
def uO (hl rl sl:Addr):List (Str×V):=[("held",.ref hl),("rows",.ref rl),("soiled",.ref sl)]
abbrev sR (cF:Addr) (F:FS) (M:Cells):Cells:=(F.b,.ins cF F.dx (uO F.hl F.rl F.sl))::(F.hl,.lst (F.hs.map aW))::(F.rl,.lst (F.rs.map fD))::(F.sl,.lst (F.bs.map V.bl))::M
structure El (F:FS) (n:Nat) (M:Cells):Prop where
 h:F.hs.length=n
 r:F.rs.length=n
 s:F.bs.length=n
 th : ∀ t a,some (t,a)∈F.hs->(t,HO.tup (gc a))∈M/\Gd a
 rw : ∀ t row,some (t,row)∈F.rs->(t,HO.lst (row.map V.int))∈M
theorem El.mono {F:FS} {n:Nat} {M M':Cells} (g:El F n M) (h : ∀ c∈M,c∈M'):El F n M':=⟨g.h,g.r,g.s,λ t a ha=>⟨h _ (g.th t a ha).1,(g.th t a ha).2⟩,λ t a ha=>h _ (g.rw t a ha)⟩
def FS.fill (F:FS) (i:Nat) (x:Hd) (y:Option (Addr×List Int)) (b:Bool):FS := { F with hs:=F.hs.set i x,rs:=F.rs.set i y,bs:=F.bs.set i b }
theorem El.fill {F:FS} {n:Nat} {M:Cells} (g:El F n M) {i:Nat} {x:Hd} {y:Option (Addr×List Int)} {b:Bool} (hx : ∀ t a,x=some (t,a)->(t,HO.tup (gc a))∈M/\Gd a) (hy : ∀ t row,y=some (t,row)->(t,HO.lst (row.map V.int))∈M):El (F.fill i x y b) n M:=by
 refine ⟨by show (F.hs.set i x).length=n;rw [List.length_set];exact g.h,by show (F.rs.set i y).length=n;rw [List.length_set];exact g.r,by show (F.bs.set i b).length=n;rw [List.length_set];exact g.s,λ t a ha => ?_,λ t a ha => ?_⟩
 ·rcases List.mem_or_eq_of_mem_set ha with h | h
  ·exact g.th t a h
  ·exact hx t a h.symm
 ·rcases List.mem_or_eq_of_mem_set ha with h | h
  ·exact g.rw t a h
  ·exact hy t a h.symm
theorem Lq (v:V) (n:Nat):(List.replicate n [v]).flatten=List.replicate n v:=by
 induction n with
 | zero=>rfl
 | succ n ih=>rw [List.replicate_succ,List.flatten_cons,ih,List.replicate_succ];rfl
def FS.new (b dx hl rl sl:Addr) (n:Nat):FS:=⟨b,dx,hl,rl,sl,List.replicate n none,List.replicate n none,List.replicate n false⟩
 local macro_rules | `(tactic| walk_at "spf") => `(tactic| (simp only [sR,FS.fill,FS.new,List.cons_append,List.nil_append];walk_at "sp"))
theorem El.new {b dx hl rl sl:Addr} {n:Nat} {M:Cells} : El (FS.new b dx hl rl sl n) n M:=by
 refine ⟨List.length_replicate,List.length_replicate,List.length_replicate,λ t a h => ?_,λ t a h => ?_⟩
 ·exact nomatch (List.mem_replicate.mp h).2
 ·exact nomatch (List.mem_replicate.mp h).2
def GY (cF:Addr):Sp:=λ vs H Q _ => ∃ (b dx:Addr) (n:Nat) (L:Cells),vs = [.ref b,.int (n:Nat)]/\Led H ((b,.ins cF dx [])::L)/\n<=600 ∧ ∀ hl rl sl H',Led H' (sR cF (FS.new b dx hl rl sl n) L)->Q .aH H'
theorem Ls (D:nG K cF "Frames.__init__" dz) (T:Txt K mg cU cA cB cC cT cF cD cS cI):iA P w K mg base 1 cF ["self","many"] (GY cF):=by
 have sc:=kY
 refine D.ok kY (λ vs H Q E h => ?_) (λ _ _ _ _ _ _ us hl=>match us,hl with | [_,_],_=>rfl) (λ f cdv A outer s H vs Q E hr h => ?_)
 ·obtain ⟨_,_,_,_,rfl,_⟩:=h;rfl
 ·obtain ⟨b,dx,n,L,rfl,hL,Oa,k⟩:=h
  refine ⟨_,(@ah _ _ _ _ _ (@cj _ _ _ _ _ _ _ _ _ _ T.Frames T.nL (@ao _ 0 _ _ (by walk_at "v")) (@aq _ _ _ _ _ _ _ _ kN (@iT _ _ _ _ (@aa _ _ _ _ _ (@bF _ _ _) (@ai _) (by rfl))) (@ao _ 1 _ _ (by walk_at "v"))) (by rfl)) (@ah _ _ _ _ _ (@cj _ _ _ _ _ _ _ _ _ _ T.Frames T.qC (@ao _ 0 _ _ (by walk_at "v")) (@aq _ _ _ _ _ _ _ _ kN (@iT _ _ _ _ (@aa _ _ _ _ _ (@bF _ _ _) (@ai _) (by rfl))) (@ao _ 1 _ _ (by walk_at "v"))) (by rfl)) (@ak _ _ _ (@cj _ _ _ _ _ _ _ _ _ _ T.Frames T.k8 (@ao _ 0 _ _ (by walk_at "v")) (@aq _ _ _ _ _ _ _ _ kN (@iT _ _ _ _ (@aa _ _ _ _ _ (@bB _ _ _ _) (@ai _) (by rfl))) (@ao _ 1 _ _ (by walk_at "v"))) (by rfl))))),?_⟩
  refine aF λ M1 K1 => ?_
  walk_at "gd"
  rename Led _ _=>hl2
  refine Dm (hl2.get mS) ⟨by omega,by omega⟩ (by have:=sizeLine_eq;simp only [List.length_cons,List.length_nil];omega) (Led.alloc hl2 λ l H3 _ hl3 _ => ?_)
  rw [Lq,Int.toNat_natCast] at hl3
  walk_at "gd"
  refine K1.use ?_
  walk_at "cl"
  clear K1
  have bM:Led H3 ((b,.ins cF dx [])::(l,.lst (List.replicate n .aH))::L):=hl3.wk (by walk_at "sp")
  have cP:Led (upd H3 b (.ins cF dx (cQ (Str.ofString "held") (V.ref l) []))) ((b,.ins cF dx [("held",.ref l)])::(l,.lst (List.replicate n .aH))::L):=bM.put rfl rfl
  generalize upd H3 b (.ins cF dx (cQ (Str.ofString "held") (V.ref l) []))=H4 at cP ⊢
  clear bM hl3 hl2 hL
  refine aF λ M1 K1 => ?_
  walk_at "gd"
  rename Led _ _=>hl2
  refine Dm (hl2.get mS) ⟨by omega,by omega⟩ (by have:=sizeLine_eq;simp only [List.length_cons,List.length_nil];omega) (Led.alloc hl2 λ r H5 _ eX _ => ?_)
  rw [Lq,Int.toNat_natCast] at eX
  walk_at "gd"
  refine K1.use ?_
  walk_at "cl"
  clear K1
  have iu:Led H5 ((b,.ins cF dx [("held",.ref l)])::(l,.lst (List.replicate n .aH))::(r,.lst (List.replicate n .aH))::L):=eX.wk (by walk_at "sp")
  have lW:Led (upd H5 b (.ins cF dx (cQ (Str.ofString "rows") (V.ref r) [("held",.ref l)]))) ((b,.ins cF dx [("held",.ref l),("rows",.ref r)])::(l,.lst (List.replicate n .aH))::(r,.lst (List.replicate n .aH))::L):=iu.put rfl rfl
  generalize upd H5 b (.ins cF dx (cQ (Str.ofString "rows") (V.ref r) [("held",.ref l)]))=H6 at lW ⊢
  clear iu eX hl2 cP
  walk_at "gd"
  rename Led _ _=>hl2
  refine Dm (hl2.get mS) ⟨by omega,by omega⟩ (by have:=sizeLine_eq;simp only [List.length_cons,List.length_nil];omega) (Led.alloc hl2 λ q H7 _ lX _ => ?_)
  rw [Lq,Int.toNat_natCast] at lX
  walk_at "gd"
  have fF:Led H7 ((b,.ins cF dx [("held",.ref l),("rows",.ref r)])::(l,.lst (List.replicate n .aH))::(r,.lst (List.replicate n .aH))::(q,.lst (List.replicate n (.bl false)))::L):=lX.wk (by walk_at "sp")
  have fG:=fF.put (o' := .ins cF dx (uO l r q)) rfl rfl
  refine k l r q _ ?_
  unfold sR FS.new
  simp only [List.map_replicate]
  exact fG
def Ge (cF:Addr):Sp:=λ vs H Q _ => ∃ (F:FS) (n i:Nat) (t r0:Addr) (a:Th) (row:List Int) (M:Cells),vs = [.ref F.b,.int (i:Nat),.ref t,.ref r0]/\Led H (sR cF F M)/\El F n M/\i < n/\(r0,HO.lst (row.map V.int))∈M/\row.length<=600 ∧
 ∀ r H',Led H' (sR cF (F.fill i (some (t,a)) (some (r,row)) false) ((r,.lst (row.map V.int))::M))->Q .aH H'
theorem Ob (D:bH K cF "fill" "Frames.fill" dB) (B:iY mg) (T:Txt K mg cU cA cB cC cT cF cD cS cI):aJ P w K mg base 1 cF "fill" ["self","frame","thing","row"] (Ge cF):=by
 have sc:=kZ
 refine D.ok kZ (λ vs H Q E h => ?_) (λ _ _ _ _ _ _ us hl=>match us,hl with | [_,_,_,_],_=>rfl) (λ f cdv A outer s H vs Q E hr h => ?_)
 ·obtain ⟨_,_,_,_,_,_,_,_,rfl,_⟩:=h;rfl
 ·obtain ⟨F,n,i,t,r0,a,row,M,rfl,hL,g,hi,p9,hrl,k⟩:=h
  have hf1:(uO F.hl F.rl F.sl).lookup (Str.ofString "held")=some (.ref F.hl):=rfl
  have hf2:(uO F.hl F.rl F.sl).lookup (Str.ofString "rows")=some (.ref F.rl):=rfl
  have hf3:(uO F.hl F.rl F.sl).lookup (Str.ofString "soiled")=some (.ref F.sl):=rfl
  have gh:=g.h
  have gr:=g.r
  have gs:=g.s
  have m1:(F.hs.map aW).length=F.hs.length:=List.length_map _
  have m2:(F.rs.map fD).length=F.rs.length:=List.length_map _
  have m3:(F.bs.map V.bl).length=F.bs.length:=List.length_map _
  refine ⟨_,(@ah _ _ _ _ _ (@bC _ _ _ _ _ _ (@ao _ 2 _ _ (by walk_at "v")) (@bG _ _ _ _ _ _ _ (@ay _ _ _ _ _ _ _ T.Frames T.nL (@ao _ 0 _ _ (by walk_at "v")) (by rfl)) (@ao _ 1 _ _ (by walk_at "v")) set_list (by intro _;rfl)) (by rfl) (by rfl) (by rfl)) (@ah _ _ _ _ _ (@bC _ _ _ _ _ _ (@br _ _ _ _ _ _ _ _ _ (aT (K:=K) rfl) (by rfl) B.list bZ (@aa _ _ _ _ _ (@ao _ 3 _ _ (by walk_at "v")) (@ai _) (by rfl)) (by decide) (by decide) (by rfl) (by rfl)) (@bG _ _ _ _ _ _ _ (@ay _ _ _ _ _ _ _ T.Frames T.qC (@ao _ 0 _ _ (by walk_at "v")) (by rfl)) (@ao _ 1 _ _ (by walk_at "v")) set_list (by intro _;rfl)) (by rfl) (by rfl) (by rfl)) (@ak _ _ _ (@bC _ _ _ _ _ _ (@bB _ _ _ _) (@bG _ _ _ _ _ _ _ (@ay _ _ _ _ _ _ _ T.Frames T.k8 (@ao _ 0 _ _ (by walk_at "v")) (by rfl)) (@ao _ 1 _ _ (by walk_at "v")) set_list (by intro _;rfl)) (by rfl) (by rfl) (by rfl))))),?_⟩
  refine aF λ M1 K1 => ?_
  walk_at "ge"
  refine cH (hL.get (mC mS)) (bD (by omega) (by omega)) ?_
  rw [Int.toNat_natCast,show (F.hs.map aW).set i (V.ref t)=(F.hs.set i (some (t,a))).map aW by rw [List.map_set];rfl]
  have hl2:Led (upd H F.hl (.lst ((F.hs.set i (some (t,a))).map aW))) ((F.b,.ins cF F.dx (uO F.hl F.rl F.sl))::(F.hl,.lst ((F.hs.set i (some (t,a))).map aW))::(F.rl,.lst (F.rs.map fD))::(F.sl,.lst (F.bs.map V.bl))::M):=hL.iU 1 rfl rfl rfl
  generalize upd H F.hl (.lst ((F.hs.set i (some (t,a))).map aW))=H2 at hl2 ⊢
  walk_at "ge"
  refine K1.use ?_
  walk_at "cl"
  clear K1 hL
  refine aF λ M1 K1 => ?_
  walk_at "ge"
  rename_i r H3 _ hl3 _ _ _ _ _ _ _
  refine cH (hl3.get (mC (mC (mC mS)))) (bD (by omega) (by omega)) ?_
  rw [Int.toNat_natCast,show (F.rs.map fD).set i (V.ref r)=(F.rs.set i (some (r,row))).map fD by rw [List.map_set];rfl]
  have bM:Led (upd H3 F.rl (.lst ((F.rs.set i (some (r,row))).map fD))) ((r,.lst (row.map V.int))::(F.b,.ins cF F.dx (uO F.hl F.rl F.sl))::(F.hl,.lst ((F.hs.set i (some (t,a))).map aW))::(F.rl,.lst ((F.rs.set i (some (r,row))).map fD))::(F.sl,.lst (F.bs.map V.bl))::M):=hl3.iU 3 rfl rfl rfl
  generalize upd H3 F.rl (.lst ((F.rs.set i (some (r,row))).map fD))=H4 at bM ⊢
  walk_at "ge"
  refine K1.use ?_
  walk_at "cl"
  clear K1 hl2 hl3
  walk_at "ge"
  refine cH (bM.get (mC (mC (mC (mC mS))))) (bD (by omega) (by omega)) ?_
  rw [Int.toNat_natCast,show (F.bs.map V.bl).set i (V.bl false)=(F.bs.set i false).map V.bl by rw [List.map_set]]
  have cP:Led (upd H4 F.sl (.lst ((F.bs.set i false).map V.bl))) ((r,.lst (row.map V.int))::(F.b,.ins cF F.dx (uO F.hl F.rl F.sl))::(F.hl,.lst ((F.hs.set i (some (t,a))).map aW))::(F.rl,.lst ((F.rs.set i (some (r,row))).map fD))::(F.sl,.lst ((F.bs.set i false).map V.bl))::M):=bM.iU 4 rfl rfl rfl
  walk_at "ge"
  exact k r _ (cP.wk (by walk_at "spf"))
def GZ (cF:Addr):Sp:=λ vs H Q _ => ∃ (F:FS) (n i:Nat) (M:Cells),vs = [.ref F.b,.int (i:Nat)]/\Led H (sR cF F M)/\El F n M/\i < n ∧ ∀ H',Led H' (sR cF (F.fill i none none false) M)->Q .aH H'
theorem Lu (D:bH K cF "empty" "Frames.empty" cL) (B:iY mg) (T:Txt K mg cU cA cB cC cT cF cD cS cI):aJ P w K mg base 1 cF "empty" ["self","frame"] (GZ cF):=by
 have sc:=jU
 refine D.ok jU (λ vs H Q E h => ?_) (λ _ _ _ _ _ _ us hl=>match us,hl with | [_,_],_=>rfl) (λ f cdv A outer s H vs Q E hr h => ?_)
 ·obtain ⟨_,_,_,_,rfl,_⟩:=h;rfl
 ·obtain ⟨F,n,i,M,rfl,hL,g,hi,k⟩:=h
  have hf1:(uO F.hl F.rl F.sl).lookup (Str.ofString "held")=some (.ref F.hl):=rfl
  have hf2:(uO F.hl F.rl F.sl).lookup (Str.ofString "rows")=some (.ref F.rl):=rfl
  have hf3:(uO F.hl F.rl F.sl).lookup (Str.ofString "soiled")=some (.ref F.sl):=rfl
  have gh:=g.h
  have gr:=g.r
  have gs:=g.s
  have m1:(F.hs.map aW).length=F.hs.length:=List.length_map _
  have m2:(F.rs.map fD).length=F.rs.length:=List.length_map _
  have m3:(F.bs.map V.bl).length=F.bs.length:=List.length_map _
  refine ⟨_,(@ah _ _ _ _ _ (@bC _ _ _ _ _ _ (@bF _ _ _) (@bG _ _ _ _ _ _ _ (@ay _ _ _ _ _ _ _ T.Frames T.nL (@ao _ 0 _ _ (by walk_at "v")) (by rfl)) (@ao _ 1 _ _ (by walk_at "v")) set_list (by intro _;rfl)) (by rfl) (by rfl) (by rfl)) (@ah _ _ _ _ _ (@bC _ _ _ _ _ _ (@bF _ _ _) (@bG _ _ _ _ _ _ _ (@ay _ _ _ _ _ _ _ T.Frames T.qC (@ao _ 0 _ _ (by walk_at "v")) (by rfl)) (@ao _ 1 _ _ (by walk_at "v")) set_list (by intro _;rfl)) (by rfl) (by rfl) (by rfl)) (@ak _ _ _ (@bC _ _ _ _ _ _ (@bB _ _ _ _) (@bG _ _ _ _ _ _ _ (@ay _ _ _ _ _ _ _ T.Frames T.k8 (@ao _ 0 _ _ (by walk_at "v")) (by rfl)) (@ao _ 1 _ _ (by walk_at "v")) set_list (by intro _;rfl)) (by rfl) (by rfl) (by rfl))))),?_⟩
  refine aF λ M1 K1 => ?_
  walk_at "ge"
  refine cH (hL.get (mC mS)) (bD (by omega) (by omega)) ?_
  rw [Int.toNat_natCast,show (F.hs.map aW).set i V.aH=(F.hs.set i none).map aW by rw [List.map_set];rfl]
  have hl2:Led (upd H F.hl (.lst ((F.hs.set i none).map aW))) ((F.b,.ins cF F.dx (uO F.hl F.rl F.sl))::(F.hl,.lst ((F.hs.set i none).map aW))::(F.rl,.lst (F.rs.map fD))::(F.sl,.lst (F.bs.map V.bl))::M):=hL.iU 1 rfl rfl rfl
  generalize upd H F.hl (.lst ((F.hs.set i none).map aW))=H2 at hl2 ⊢
  walk_at "ge"
  refine K1.use ?_
  walk_at "cl"
  clear K1 hL
  refine aF λ M1 K1 => ?_
  walk_at "ge"
  refine cH (hl2.get (mC (mC mS))) (bD (by omega) (by omega)) ?_
  rw [Int.toNat_natCast,show (F.rs.map fD).set i V.aH=(F.rs.set i none).map fD by rw [List.map_set];rfl]
  have bM:Led (upd H2 F.rl (.lst ((F.rs.set i none).map fD))) ((F.b,.ins cF F.dx (uO F.hl F.rl F.sl))::(F.hl,.lst ((F.hs.set i none).map aW))::(F.rl,.lst ((F.rs.set i none).map fD))::(F.sl,.lst (F.bs.map V.bl))::M):=hl2.iU 2 rfl rfl rfl
  generalize upd H2 F.rl (.lst ((F.rs.set i none).map fD))=H4 at bM ⊢
  walk_at "ge"
  refine K1.use ?_
  walk_at "cl"
  clear K1 hl2
  walk_at "ge"
  refine cH (bM.get (mC (mC (mC mS)))) (bD (by omega) (by omega)) ?_
  rw [Int.toNat_natCast,show (F.bs.map V.bl).set i (V.bl false)=(F.bs.set i false).map V.bl by rw [List.map_set]]
  have cP:Led (upd H4 F.sl (.lst ((F.bs.set i false).map V.bl))) ((F.b,.ins cF F.dx (uO F.hl F.rl F.sl))::(F.hl,.lst ((F.hs.set i none).map aW))::(F.rl,.lst ((F.rs.set i none).map fD))::(F.sl,.lst ((F.bs.set i false).map V.bl))::M):=bM.iU 3 rfl rfl rfl
  walk_at "ge"
  exact k _ cP
def jr (p:Int) (m:Addr):List (Str×V):=[("stands_at",.int p),("marked",.ref m)]
def fL (cD d dx m:Addr) (p:Int) (bs:List Bool):Cells:=[(d,.ins cD dx (jr p m)),(m,.lst (bs.map V.bl))]
theorem Lv {cD d dx m:Addr} {p:Int} {bs:List Bool} {L:Cells} : (d,HO.ins cD dx (jr p m))∈fL cD d dx m p bs++L:=mS
theorem UG {cD d dx m:Addr} {p:Int} {bs:List Bool} {L:Cells} : (m,HO.lst (bs.map V.bl))∈fL cD d dx m p bs++L:=mC mS
theorem xF (bs:List Bool) (j:Nat) (b:Bool):(bs.map V.bl).set j (.bl b)=(bs.set j b).map V.bl:=by rw [List.map_set]
theorem Led.Ru {H:Hp} {cD d dx m:Addr} {p:Int} {bs bs':List Bool} {L:Cells} (h:Led H (fL cD d dx m p bs++L)):Led (upd H m (.lst (bs'.map V.bl))) (fL cD d dx m p bs'++L) :=
 (Led.put (Led.swap (show Led H ((d,.ins cD dx (jr p m))::(m,.lst (bs.map V.bl))::L) from h)) rfl rfl).swap
theorem Ly (n:Nat):(List.replicate n [V.bl false]).flatten=(List.replicate n false).map V.bl:=by
 induction n with
 | zero=>rfl
 | succ n ih=>rw [List.replicate_succ,List.flatten_cons,ih,List.replicate_succ];rfl
def G0 (cD:Addr):Sp:=λ vs H Q _ => ∃ (d dx:Addr) (n:Int) (L:Cells),vs = [.ref d,.int n]/\Led H ((d,.ins cD dx [])::L)/\0<=n/\n<=64 ∧ ∀ m H',Led H' (fL cD d dx m 0 (List.replicate n.toNat false)++L)->Q .aH H'
theorem Lz (D:nG K cD "Dial.__init__" eO) (T:Txt K mg cU cA cB cC cT cF cD cS cI):iA P w K mg base 1 cD ["self","many"] (G0 cD):=by
 have sc:=o4
 refine D.ok o4 (λ vs H Q E h => ?_) (λ _ _ _ _ _ _ us hl=>match us,hl with | [_,_],_=>rfl) (λ f cdv A outer s H vs Q E hr h => ?_)
 ·obtain ⟨_,_,_,_,rfl,_⟩:=h;rfl
 ·obtain ⟨d,dx,n,L,rfl,hL,h0,h64,k⟩:=h
  refine ⟨_,(@ah _ _ _ _ _ (@cj _ _ _ _ _ _ _ _ _ _ T.jI T.iE (@ao _ 0 _ _ (by walk_at "v")) (@aj _ _ _ _) (by rfl)) (@ak _ _ _ (@cj _ _ _ _ _ _ _ _ _ _ T.jI T.gX (@ao _ 0 _ _ (by walk_at "v")) (@aq _ _ _ _ _ _ _ _ kN (@iT _ _ _ _ (@aa _ _ _ _ _ (@bB _ _ _ _) (@ai _) (by rfl))) (@ao _ 1 _ _ (by walk_at "v"))) (by rfl)))),?_⟩
  refine aF λ M1 K1 => ?_
  walk_at "gd"
  refine K1.use ?_
  clear K1
  have hL1:Led (upd H d (.ins cD dx (cQ (Str.ofString "stands_at") (V.int 0) []))) ((d,.ins cD dx [("stands_at",.int 0)])::L):=hL.put rfl rfl
  generalize upd H d (.ins cD dx (cQ (Str.ofString "stands_at") (V.int 0) []))=H1 at hL1 ⊢
  walk_at "gd"
  rename_i l0 H2 _ hl2 _ _ _
  have hsz:1 * n.toNat<=sizeLine:=by have:=sizeLine_eq;omega
  refine Dm (hl2.get mS) ⟨by omega,by omega⟩ hsz (Led.alloc hl2 λ m H3 _ hl3 _ => ?_)
  rw [Ly] at hl3
  walk_at "gd"
  have bM:Led H3 ((d,.ins cD dx [("stands_at",.int 0)])::(m,.lst ((List.replicate n.toNat false).map V.bl))::L):=hl3.wk (by walk_at "sp")
  exact k m _ (bM.put (o' := .ins cD dx (jr 0 m)) rfl rfl)
def AR (cD:Addr):Sp:=λ vs H Q _ => ∃ (d dx m:Addr) (p:Int),vs = [.ref d]/\H d=some (.ins cD dx (jr p m))/\Q (.int p) H
theorem Gf (D:bH K cD "pointer" "Dial.pointer" cJ) (T:Txt K mg cU cA cB cC cT cF cD cS cI):aJ P w K mg base 1 cD "pointer" ["self"] (AR cD):=by
 have sc:=jS
 refine D.ok jS (λ vs H Q E h => ?_) (λ _ _ _ _ _ _ us hl=>match us,hl with | [_],_=>rfl) (λ f cdv A outer s H vs Q E hr h => ?_)
 ·obtain ⟨_,_,_,_,rfl,_⟩:=h;rfl
 ·obtain ⟨d,dx,m,p,rfl,hd,k⟩:=h
  have hf:(jr p m).lookup (Str.ofString "stands_at")=some (.int p):=rfl
  refine ⟨_,(@ak _ _ _ (@aD _ _ _ _ (@ay _ _ _ _ _ _ _ T.jI T.iE (@ao _ 0 _ _ (by walk_at "v")) (by rfl)))),?_⟩
  walk_at "gd"
  exact k
def xG (cD:Addr) (b:Bool):Sp:=λ vs H Q _ => ∃ (d dx m:Addr) (p f:Int) (bs:List Bool) (L:Cells),vs = [.ref d,.int f]/\Led H (fL cD d dx m p bs++L)/\0<=f/\f < bs.length ∧ ∀ H',Led H' (fL cD d dx m p (bs.set f.toNat b)++L)->Q .aH H'
theorem LA (D:bH K cD "touch" "Dial.touch" dN) (T:Txt K mg cU cA cB cC cT cF cD cS cI):aJ P w K mg base 1 cD "touch" ["self","frame"] (xG cD true):=by
 have sc:=mZ
 refine D.ok mZ (λ vs H Q E h => ?_) (λ _ _ _ _ _ _ us hl=>match us,hl with | [_,_],_=>rfl) (λ f cdv A outer s H vs Q E hr h => ?_)
 ·obtain ⟨_,_,_,_,_,_,_,rfl,_⟩:=h;rfl
 ·obtain ⟨d,dx,m,p,fr,bs,L,rfl,hL,f0,f1,k⟩:=h
  have hf:(jr p m).lookup (Str.ofString "marked")=some (.ref m):=rfl
  have c1:=hL.get (Lv (cD:=cD) (d:=d) (dx:=dx) (m:=m) (p:=p) (bs:=bs) (L:=L))
  have c2:=hL.get (UG (cD:=cD) (d:=d) (dx:=dx) (m:=m) (p:=p) (bs:=bs) (L:=L))
  refine ⟨_,(@ak _ _ _ (@bC _ _ _ _ _ _ (@bB _ _ _ _) (@bG _ _ _ _ _ _ _ (@ay _ _ _ _ _ _ _ T.jI T.gX (@ao _ 0 _ _ (by walk_at "v")) (by rfl)) (@ao _ 1 _ _ (by walk_at "v")) set_list (by intro _;rfl)) (by rfl) (by rfl) (by rfl))),?_⟩
  walk_at "gd"
  refine cH c2 (bD f0 (by rw [List.length_map];exact f1)) ?_
  rw [xF]
  walk_at "gd"
  exact k _ (Led.Ru hL)
theorem LB (D:bH K cD "clear" "Dial.clear" dO) (T:Txt K mg cU cA cB cC cT cF cD cS cI):aJ P w K mg base 1 cD "clear" ["self","frame"] (xG cD false):=by
 have sc:=m5
 refine D.ok m5 (λ vs H Q E h => ?_) (λ _ _ _ _ _ _ us hl=>match us,hl with | [_,_],_=>rfl) (λ f cdv A outer s H vs Q E hr h => ?_)
 ·obtain ⟨_,_,_,_,_,_,_,rfl,_⟩:=h;rfl
 ·obtain ⟨d,dx,m,p,fr,bs,L,rfl,hL,f0,f1,k⟩:=h
  have hf:(jr p m).lookup (Str.ofString "marked")=some (.ref m):=rfl
  have c1:=hL.get (Lv (cD:=cD) (d:=d) (dx:=dx) (m:=m) (p:=p) (bs:=bs) (L:=L))
  have c2:=hL.get (UG (cD:=cD) (d:=d) (dx:=dx) (m:=m) (p:=p) (bs:=bs) (L:=L))
  refine ⟨_,(@ak _ _ _ (@bC _ _ _ _ _ _ (@bB _ _ _ _) (@bG _ _ _ _ _ _ _ (@ay _ _ _ _ _ _ _ T.jI T.gX (@ao _ 0 _ _ (by walk_at "v")) (by rfl)) (@ao _ 1 _ _ (by walk_at "v")) set_list (by intro _;rfl)) (by rfl) (by rfl) (by rfl))),?_⟩
  walk_at "gd"
  refine cH c2 (bD f0 (by rw [List.length_map];exact f1)) ?_
  rw [xF]
  walk_at "gd"
  exact k _ (Led.Ru hL)
def G1 (cD:Addr):Sp:=λ vs H Q _ => ∃ (d dx m:Addr) (p:Int) (bs:List Bool) (L:Cells),vs = [.ref d]/\Led H L/\H d=some (.ins cD dx (jr p m))/\H m=some (.lst (bs.map V.bl)) ∧ ∀ r H',Led H' ((r,.lst (bs.map V.bl))::L)->Q (.ref r) H'
theorem LC (D:bH K cD "marks" "Dial.marks" dP) (B:iY mg) (T:Txt K mg cU cA cB cC cT cF cD cS cI):aJ P w K mg base 1 cD "marks" ["self"] (G1 cD):=by
 have sc:=m7
 refine D.ok m7 (λ vs H Q E h => ?_) (λ _ _ _ _ _ _ us hl=>match us,hl with | [_],_=>rfl) (λ f cdv A outer s H vs Q E hr h => ?_)
 ·obtain ⟨_,_,_,_,_,_,rfl,_⟩:=h;rfl
 ·obtain ⟨d,dx,m,p,bs,L,rfl,hL,c1,c2,k⟩:=h
  have hf:(jr p m).lookup (Str.ofString "marked")=some (.ref m):=rfl
  refine ⟨_,(@ak _ _ _ (@aD _ _ _ _ (@br _ _ _ _ _ _ _ _ _ (aT (K:=K) rfl) (by rfl) B.list bZ (@aa _ _ _ _ _ (@ay _ _ _ _ _ _ _ T.jI T.gX (@ao _ 0 _ _ (by walk_at "v")) (by rfl)) (@ai _) (by rfl)) (by decide) (by decide) (by rfl) (by rfl)))),?_⟩
  walk_at "gd"
  rename_i r H1 _ hl1 _
  exact k r _ hl1
def Gg (may:List Bool):Nat->Nat->List Bool->Option (Nat×List Bool)
 | 0,_,_=>none
 | k+1,p,bs=>if may.getD (p % may.length) false=true/\bs.getD (p % may.length) false=false then some (p % may.length,bs) else Gg may k (p+1) (if may.getD (p % may.length) false=true then bs.set (p % may.length) false else bs)
theorem LD (may:List Bool) (k p:Nat) (bs:List Bool):Gg may (k+1) p bs=if may.getD (p % may.length) false=true/\bs.getD (p % may.length) false=false then some (p % may.length,bs) else Gg may k (p+1) (if may.getD (p % may.length) false=true then bs.set (p % may.length) false else bs):=rfl
theorem Je {bs:List Bool} {f g:Nat} (h:bs.getD f false=false):(bs.set g false).getD f false=false:=by
 rw [List.getD_eq_getElem?_getD] at h ⊢
 rw [List.getElem?_set]
 split
 ·split
  ·rfl
  ·rfl
 ·exact h
theorem LF {bs:List Bool} {f:Nat} : (bs.set f false).getD f false=false:=by
 rw [List.getD_eq_getElem?_getD,List.getElem?_set]
 rw [if_pos rfl]
 split <;> rfl
theorem Pu {may:List Bool} {f:Nat} (hf:may.getD f false=true) : ∀ (k p:Nat) (bs:List Bool),bs.getD f false=false->(∃ j,j < k/\(p+j) % may.length=f)->∃ r,Gg may k p bs=some r
 | 0,_,_,_,⟨j,hj,_⟩=>absurd hj (Nat.not_lt_zero _)
 | k+1,p,bs,hb,⟨j,hj,hm⟩=>by
   unfold Gg
   by_cases h:may.getD (p % may.length) false=true/\bs.getD (p % may.length) false=false
   ·rw [if_pos h];exact ⟨_,rfl⟩
   ·rw [if_neg h]
    cases j with
    | zero=>rw [Nat.add_zero] at hm;rw [hm] at h;exact absurd ⟨hf,hb⟩ h
    | succ j =>
      refine Pu hf k (p+1) _ ?_ ⟨j,by omega,by rw [<-hm];congr 1;omega⟩
      split
      ·exact Je hb
      ·exact hb
theorem Pw {may:List Bool} {f:Nat} (hf:may.getD f false=true) (hn:0 < may.length) : ∀ (k p:Nat) (bs:List Bool),(∃ j,j+may.length < k/\(p+j) % may.length=f)->∃ r,Gg may k p bs=some r
 | 0,_,_,⟨j,hj,_⟩=>absurd hj (Nat.not_lt_zero _)
 | k+1,p,bs,⟨j,hj,hm⟩=>by
   unfold Gg
   by_cases h:may.getD (p % may.length) false=true/\bs.getD (p % may.length) false=false
   ·rw [if_pos h];exact ⟨_,rfl⟩
   ·rw [if_neg h]
    cases j with
    | zero =>
      rw [Nat.add_zero] at hm
      rw [hm,if_pos hf]
      refine Pu hf k (p+1) _ LF ⟨may.length - 1,by omega,?_⟩
      rw [show p+1+(may.length - 1)=p+may.length by omega,Nat.add_mod_right,hm]
    | succ j=>exact Pw hf hn k (p+1) _ ⟨j,by omega,by rw [<-hm];congr 1;omega⟩
theorem reach (p f n:Nat) (hf:f < n) : ∃ j,j < n/\(p+j) % n=f:=by
 have hr:p % n < n:=Nat.mod_lt _ (by omega)
 by_cases h:p % n<=f
 ·refine ⟨f - p % n,by omega,?_⟩
  rw [<-Nat.mod_add_mod,show p % n+(f - p % n)=f by omega,Nat.mod_eq_of_lt hf]
 ·refine ⟨f+n - p % n,by omega,?_⟩
  rw [<-Nat.mod_add_mod,show p % n+(f+n - p % n)=f+n by omega,Nat.add_mod_right,Nat.mod_eq_of_lt hf]
theorem LG {may:List Bool} (h:true∈may) (p:Nat) (bs:List Bool) : ∃ r,Gg may (2 * may.length) p bs=some r:=by
 obtain ⟨f,hf,e⟩:=List.getElem_of_mem h
 obtain ⟨j,hj,hm⟩:=reach p f may.length hf
 refine Pw (f:=f) ?_ (by omega) _ p bs ⟨j,by omega,hm⟩
 rw [List.getD_eq_getElem?_getD,List.getElem?_eq_getElem hf,e]
 rfl
theorem qa {may:List Bool} : ∀ (k p:Nat) (bs:List Bool) {f:Nat} {bs':List Bool},Gg may k p bs=some (f,bs')->bs'.length=bs.length/\(0 < may.length->f < may.length)/\may.getD f false=true
 | 0,_,_,_,_,h=>nomatch h
 | k+1,p,bs,f,bs',h=>by
   unfold Gg at h
   split at h
   ·rename_i hc
    cases h
    exact ⟨rfl,λ hp=>Nat.mod_lt _ hp,hc.1⟩
   ·obtain ⟨h1,h2,h3⟩:=qa k (p+1) _ h
    refine ⟨?_,h2,h3⟩
    rw [h1]
    split
    ·rw [List.length_set]
    ·rfl
def DW (cD cU:Addr):Sp:=λ vs H Q E => ∃ (d dx m q:Addr) (p:Nat) (may bs:List Bool) (L:Cells),vs = [.ref d,.ref q]/\Led H (fL cD d dx m p bs++L)/\(q,HO.lst (may.map V.bl))∈L/\may.length=bs.length/\0 < bs.length/\bs.length<=64 ∧
 (∀ f bs' H',Gg may (2 * may.length) p bs=some (f,bs')->Led H' (fL cD d dx m ((f+1) % may.length:Nat) bs'++L)->Q (.int f) H')/\(∀ H',true ∉ may->Led H' (fL cD d dx m p bs++L)->E (.ref cU) none H')
theorem Jf (D:bH K cD "choose" "Dial.choose" dw) (B:iY mg) (T:Txt K mg cU cA cB cC cT cF cD cS cI):aJ P w K mg base 1 cD "choose" ["self","may"] (DW cD cU):=by
 have sc:=kX
 refine D.Dk kX (λ vs H Q E h => ?_) (λ _ _ _ _ _ _ us hl=>match us,hl with | [_,_],_=>rfl) (λ f cdv A outer s H vs Q E hr h => ?_)
 ·obtain ⟨_,_,_,_,_,_,_,_,rfl,_⟩:=h;rfl
 ·obtain ⟨d,dx,m,q,p,may,bs,L,rfl,hL,iq,hml,hn0,h64,k1,k2⟩:=h
  have hf1:(jr p m).lookup (Str.ofString "marked")=some (.ref m):=rfl
  have hf2:(jr p m).lookup (Str.ofString "stands_at")=some (.int p):=rfl
  have c1:=hL.get (Lv (cD:=cD) (d:=d) (dx:=dx) (m:=m) (p:=p) (bs:=bs) (L:=L))
  have c2:=hL.get (UG (cD:=cD) (d:=d) (dx:=dx) (m:=m) (p:=p) (bs:=bs) (L:=L))
  have hlb:((bs.map V.bl).length:Int)=bs.length:=by rw [List.length_map]
  refine ⟨_,(@ah _ _ _ _ _ (@aL _ _ 2 _ _ _ _ sc.nd rfl (by walk_at "o2") (@aK _ _ _ _ _ _ _ _ _ aS (by rfl) B.len bR (@aa _ _ _ _ _ (@ay _ _ _ _ _ _ _ T.jI T.gX (@ao _ 0 _ _ (by walk_at "v")) (by rfl)) (@ai _) (by rfl)) (by decide) (by decide) (by rfl) (by rfl)) (by rfl) (by walk_at "o4")) (@ah _ _ _ _ _ (@jA _ _ _ _ _ _ _ _ PassesOwn.leaving rfl (@cy _ _ _ _ _ _ (by rfl) B.range (@aa _ _ _ _ _ (@aq _ _ _ _ _ _ _ _ fN (@aj _ _ _ _) (@ao _ 2 _ _ (by walk_at "v"))) (@ai _) (by rfl)) (by rfl)) (@fc _ _ 3 _ sc.nd rfl (by walk_at "o2") (by walk_at "o4")) (@ah _ _ _ _ _ (@aL _ _ 4 _ _ _ _ sc.nd rfl (by walk_at "o2") (@aq _ _ _ _ _ _ _ _ aG (@aq _ _ _ _ _ _ _ _ aV (@ay _ _ _ _ _ _ _ T.jI T.iE (@ao _ 0 _ _ (by walk_at "v")) (by rfl)) (@ao _ 3 _ _ (by walk_at "v"))) (@ao _ 2 _ _ (by walk_at "v"))) (by rfl) (by walk_at "o4")) (@ah _ _ _ _ _ (@aU _ _ _ _ _ _ _ _ (@PW.pt _ _ _ (@pw_and _ _ _ _ _ _ _ (@bJ _ _ _ (@aY _ _ _ _ _ _ _ aQ (@ao _ 1 _ _ (by walk_at "v")) (@ao _ 4 _ _ (by walk_at "v")) (λ _ _=>rfl)) (by intro _;rfl)) (@pw_and1 _ _ _ _ (@ef _ _ _ _ (@bJ _ _ _ (@aY _ _ _ _ _ _ _ aQ (@ay _ _ _ _ _ _ _ T.jI T.gX (@ao _ 0 _ _ (by walk_at "v")) (by rfl)) (@ao _ 4 _ _ (by walk_at "v")) (λ _ _=>rfl)) (by intro _;rfl)))))) (@ah _ _ _ _ _ (@cj _ _ _ _ _ _ _ _ _ _ T.jI T.iE (@ao _ 0 _ _ (by walk_at "v")) (@aq _ _ _ _ _ _ _ _ aG (@aq _ _ _ _ _ _ _ _ aV (@ao _ 4 _ _ (by walk_at "v")) (@aj _ _ _ _)) (@ao _ 2 _ _ (by walk_at "v"))) (by rfl)) (@ak _ _ _ (@aD _ _ _ _ (@ao _ 4 _ _ (by walk_at "v"))))) (@aE _)) (@ak _ _ _ (@aU _ _ _ _ _ _ _ _ (@bJ _ _ _ (@aY _ _ _ _ _ _ _ aQ (@ao _ 1 _ _ (by walk_at "v")) (@ao _ 4 _ _ (by walk_at "v")) (λ _ _=>rfl)) (by intro _;rfl)) (@ak _ _ _ (@bC _ _ _ _ _ _ (@bB _ _ _ _) (@bG _ _ _ _ _ _ _ (@ay _ _ _ _ _ _ _ T.jI T.gX (@ao _ 0 _ _ (by walk_at "v")) (by rfl)) (@ao _ 4 _ _ (by walk_at "v")) set_list (by intro _;rfl)) (by rfl) (by rfl) (by rfl))) (@aE _))))) (by intro _;rfl)) (@ak _ _ _ (@i9 _ _ _ _ _ _ _ _ _ _ _ _ _ _ _ _ _ _ _ _ _ _ T.Full (by rfl) (@aa _ _ _ _ _ (@cW _ _ _ _) (@ai _) (by rfl)) (by decide) (by rfl))))),?_⟩
  refine aF λ M1 K1 => ?_
  walk_at "gd"
  rw [hlb]
  refine K1.use ?_
  walk_at "cl"
  clear K1
  refine aF λ M1 K1 => ?_
  refine sE λ Lr qb => ?_
  walk_at "gd"
  refine ⟨_,rfl,by omega,by omega,qb.use ?_⟩
  clear qb
  have hlr:(2 * (bs.length:Int)).toNat=2 * bs.length:=by omega
  rw [hlr]
  clear c1 c2
  refine sF (λ i σ H' => ∃ cur:List Bool,Led H' (fL cD d dx m p cur++L)/\cur.length=bs.length/\Gg may (2 * may.length - i) (p+i) cur=Gg may (2 * may.length) p bs/\(cur=bs\/true∈may) ∧ ∃ v1 v2,σ = [some (.ref d),some (.ref q),some (.int bs.length),v1,v2]) ⟨bs,hL,rfl,rfl,.inl rfl,_,_,rfl⟩ ?_ ?_
  ·clear hL K1
   rintro i σ H' hi ⟨cur,hl',hcl,hgo,Rv,v1,v2,rfl⟩
   have c1:=hl'.get (Lv (cD:=cD) (d:=d) (dx:=dx) (m:=m) (p:=p) (bs:=cur) (L:=L))
   have c2:=hl'.get (UG (cD:=cD) (d:=d) (dx:=dx) (m:=m) (p:=p) (bs:=cur) (L:=L))
   have c3:=hl'.get (mA iq)
   refine aF λ M2 K2 => ?_
   walk_at "gd"
   have hfr:((p:Int)+(0+(i:Int))) % (bs.length:Int)=((p+i) % may.length:Nat):=by rw [hml];simp
   rw [hfr]
   refine K2.use ?_
   walk_at "cl"
   clear K2
   obtain ⟨f,hf⟩ : ∃ f:Nat,(p+i) % may.length=f:=⟨_,rfl⟩
   have hfl:f < may.length:=by rw [<-hf];exact Nat.mod_lt _ (by omega)
   obtain ⟨r,hr2⟩ : ∃ r,2 * may.length - i=r+1:=⟨2 * may.length - i - 1,by omega⟩
   rw [hr2] at hgo
   rw [LD,hf] at hgo
   rw [hf]
   obtain ⟨my,VT⟩ : ∃ b,may.getD f false=b:=⟨_,rfl⟩
   obtain ⟨mk,LH⟩ : ∃ b,cur.getD f false=b:=⟨_,rfl⟩
   rw [VT,LH] at hgo
   have a1:iw (may.map V.bl) ((f:Nat):Int)=some (.bl my):=cX (by omega) (by rw [Int.toNat_natCast,List.getElem?_map,List.getElem?_eq_getElem hfl,<-VT,List.getD_eq_getElem?_getD,List.getElem?_eq_getElem hfl];rfl)
   have hfc:f < cur.length:=by omega
   have a2:iw (cur.map V.bl) ((f:Nat):Int)=some (.bl mk):=cX (by omega) (by rw [Int.toNat_natCast,List.getElem?_map,List.getElem?_eq_getElem hfc,<-LH,List.getD_eq_getElem?_getD,List.getElem?_eq_getElem hfc];rfl)
   have hr3:2 * may.length - (i+1)=r:=by omega
   cases my with
   | false =>
     rw [if_neg (by simp),if_neg (by simp)] at hgo
     walk_at "gd"
     exact ⟨cur,hl',hcl,by rw [hr3];exact hgo,Rv,_,_,rfl⟩
   | true =>
     have hin:true∈may:=by
      rw [List.getD_eq_getElem?_getD,List.getElem?_eq_getElem hfl] at VT
      exact VT ▸ List.getElem_mem hfl
     cases mk with
     | false =>
       rw [if_pos ⟨rfl,rfl⟩] at hgo
       walk_at "gd"
       have hl2:=hl'.put (o' := .ins cD dx (jr ((f+1) % may.length:Nat) m)) rfl rfl
       have e1:((f:Int)+1) % (bs.length:Int)=((f+1) % may.length:Nat):=by rw [hml];simp
       rw [e1]
       exact k1 f cur _ hgo.symm hl2
     | true =>
       rw [if_neg (by simp),if_pos rfl] at hgo
       walk_at "gd"
       refine cH c2 (bD (by omega) (by rw [List.length_map];omega)) ?_
       rw [xF,Int.toNat_natCast]
       walk_at "gd"
       exact ⟨cur.set f false,Led.Ru hl',by rw [List.length_set];exact hcl,by rw [hr3];exact hgo,.inr hin,_,_,rfl⟩
  ·clear hL
   rintro σ H' ⟨cur,hl',hcl,hgo,Rv,v1,v2,rfl⟩
   walk_at "gd"
   refine K1.use ?_
   walk_at "cl"
   clear K1
   have hno:true ∉ may:=λ hin=>by
    obtain ⟨r,hr2⟩:=LG hin p bs
    rw [<-hgo,show 2 * may.length - 2 * bs.length=0 by omega] at hr2
    cases hr2
   have hc:cur=bs:=Rv.resolve_right hno
   subst hc
   refine nI λ R hR => ?_
   walk_at "gd"
   exact ⟨by decide,k2 _ hno hl'⟩
end
 local macro_rules | `(tactic| walk_at "spf") => `(tactic| (simp only [sR,FS.fill,FS.new,List.cons_append,List.nil_append];walk_at "sp"))
section
variable {P:Program} {w:World} {K:PySem.W.Frag} {mg:Str->Option Value} {base:Heap} {cU cA cB cC cT cF cD cS cI:Addr}
def LI:Sp:=λ vs H Q _ => ∃ (a b:Addr) (c:Int) (rs ms:List Int) (L:Cells),vs = [.ref a,.int c,.ref b]/\Led H L/\(a,HO.lst (rs.map V.int))∈L/\(b,HO.lst (ms.map V.int))∈L/\0<=c/\rs.length<=100/\ms.length<=100 ∧ ∀ p H',Led H' ((p,.lst ((rs.take c.toNat++ms++rs.drop (c.toNat+ms.length)).map V.int))::L)->Q (.ref p) H'
theorem Oc (D:Def K mg "with_cells" dS) (B:iY mg):cZ P w K mg base 1 "with_cells" ["row","cell","numbers"] LI:=by
 refine D.ok yv (λ vs H Q E h => ?_) (λ _ _ _ _ _ _ us hl=>match us,hl with | [_,_,_],_=>rfl) (λ f cdv A outer s H vs Q E hr h => ?_)
 ·obtain ⟨_,_,_,_,_,_,rfl,_⟩:=h;rfl
 ·obtain ⟨a,b,c,rs,ms,L,rfl,hL,ha,hb,hc,h1,h2,k⟩:=h
  refine ⟨_,(@ak _ _ _ (@aD _ _ _ _ (@aq _ _ _ _ _ _ _ _ Kl (@aq _ _ _ _ _ _ _ _ Kl (@kK _ _ _ _ _ _ _ _ _ _ (vp (K:=K) rfl) (@ao _ 0 _ _ (by walk_at "v")) (@uL _) (@l7 _ _ _ (@ao _ 1 _ _ (by walk_at "v")))) (@ao _ 2 _ _ (by walk_at "v"))) (@kK _ _ _ _ _ _ _ _ _ _ (vp (K:=K) rfl) (@ao _ 0 _ _ (by walk_at "v")) (@l7 _ _ _ (@aq _ _ _ _ _ _ _ _ aV (@ao _ 1 _ _ (by walk_at "v")) (@aK _ _ _ _ _ _ _ _ _ aS (by rfl) B.len bR (@aa _ _ _ _ _ (@ao _ 2 _ _ (by walk_at "v")) (@ai _) (by rfl)) (by decide) (by decide) (by rfl) (by rfl)))) (@uL _))))),?_⟩
  have c1:=kM (rs.map V.int) none (some c)
  have c2:=kM (rs.map V.int) (some (c+(ms.map V.int).length)) none
  simp only [List.length_map] at c1 c2
  have hsz:sizeLine=16777216:=sizeLine_eq
  walk_at "ge"
  rename_i p H' _ hL' _
  refine k p H' ?_
  have e:kL (rs.map V.int) none (some c)++ms.map V.int++kL (rs.map V.int) (some (c+(ms.map V.int).length)) none=(rs.take c.toNat++ms++rs.drop (c.toNat+ms.length)).map V.int:=by
   rw [QZ _ hc,Ky _ (by omega),List.map_append,List.map_append,List.map_take,List.map_drop,List.length_map]
   congr 2
   omega
  rw [e] at hL'
  walk_at "led"
theorem Ck {α : Type} {f : α->V} {l:List α} {i:Nat} {x : α} (h:l[i]? = some x):iw (l.map f) ((i:Nat):Int)=some (f x):=cX (by omega) (by rw [Int.toNat_natCast,List.getElem?_map,h];rfl)
def AS (cF:Addr):Sp:=λ vs H Q _ => ∃ (F:FS) (i:Nat) (x:Hd) (M:Cells),vs = [.ref F.b,.int (i:Nat)]/\Led H (sR cF F M)/\F.hs[i]? = some x/\Q (aW x) H
theorem DX (D:bH K cF "thing_in" "Frames.thing_in" bO) (T:Txt K mg cU cA cB cC cT cF cD cS cI):aJ P w K mg base 1 cF "thing_in" ["self","frame"] (AS cF):=by
 have sc:=gW
 refine D.ok gW (λ vs H Q E h => ?_) (λ _ _ _ _ _ _ us hl=>match us,hl with | [_,_],_=>rfl) (λ f cdv A outer s H vs Q E hr h => ?_)
 ·obtain ⟨_,_,_,_,rfl,_⟩:=h;rfl
 ·obtain ⟨F,i,x,M,rfl,hL,hx,k⟩:=h
  have hf1:(uO F.hl F.rl F.sl).lookup (Str.ofString "held")=some (.ref F.hl):=rfl
  have ha:=Ck (f:=aW) hx
  refine ⟨_,(@ak _ _ _ (@aD _ _ _ _ (@aY _ _ _ _ _ _ _ aQ (@ay _ _ _ _ _ _ _ T.Frames T.nL (@ao _ 0 _ _ (by walk_at "v")) (by rfl)) (@ao _ 1 _ _ (by walk_at "v")) (λ _ _=>rfl)))),?_⟩
  walk_at "ge"
  exact k
def qc (cF:Addr):Sp:=λ vs H Q _ => ∃ (F:FS) (i:Nat) (x:Bool) (M:Cells),vs = [.ref F.b,.int (i:Nat)]/\Led H (sR cF F M)/\F.bs[i]? = some x/\Q (.bl x) H
theorem Jg (D:bH K cF "is_soiled" "Frames.is_soiled" bI) (T:Txt K mg cU cA cB cC cT cF cD cS cI):aJ P w K mg base 1 cF "is_soiled" ["self","frame"] (qc cF):=by
 have sc:=gv
 refine D.ok gv (λ vs H Q E h => ?_) (λ _ _ _ _ _ _ us hl=>match us,hl with | [_,_],_=>rfl) (λ f cdv A outer s H vs Q E hr h => ?_)
 ·obtain ⟨_,_,_,_,rfl,_⟩:=h;rfl
 ·obtain ⟨F,i,x,M,rfl,hL,hx,k⟩:=h
  have hf1:(uO F.hl F.rl F.sl).lookup (Str.ofString "soiled")=some (.ref F.sl):=rfl
  have ha:=Ck (f:=V.bl) hx
  refine ⟨_,(@ak _ _ _ (@aD _ _ _ _ (@aY _ _ _ _ _ _ _ aQ (@ay _ _ _ _ _ _ _ T.Frames T.k8 (@ao _ 0 _ _ (by walk_at "v")) (by rfl)) (@ao _ 1 _ _ (by walk_at "v")) (λ _ _=>rfl)))),?_⟩
  walk_at "ge"
  exact k
def uP (cF:Addr):Sp:=λ vs H Q _ => ∃ (F:FS) (i:Nat) (r:Addr) (row:List Int) (M:Cells),vs = [.ref F.b,.int (i:Nat)]/\Led H (sR cF F M)/\F.rs[i]? = some (some (r,row))/\(r,HO.lst (row.map V.int))∈M/\row.length<=600 ∧ ∀ q H',Led H' ((q,.lst (row.map V.int))::sR cF F M)->Q (.ref q) H'
theorem Jh (D:bH K cF "row_in" "Frames.row_in" b5) (B:iY mg) (T:Txt K mg cU cA cB cC cT cF cD cS cI):aJ P w K mg base 1 cF "row_in" ["self","frame"] (uP cF):=by
 have sc:=jc
 refine D.ok jc (λ vs H Q E h => ?_) (λ _ _ _ _ _ _ us hl=>match us,hl with | [_,_],_=>rfl) (λ f cdv A outer s H vs Q E hr h => ?_)
 ·obtain ⟨_,_,_,_,_,rfl,_⟩:=h;rfl
 ·obtain ⟨F,i,r,row,M,rfl,hL,hx,p9,hrl,k⟩:=h
  have hf1:(uO F.hl F.rl F.sl).lookup (Str.ofString "rows")=some (.ref F.rl):=rfl
  have ha:iw (F.rs.map fD) ((i:Nat):Int)=some (.ref r):=Ck (f:=fD) hx
  have hrm:(row.map V.int).length=row.length:=List.length_map _
  refine ⟨_,(@ak _ _ _ (@aD _ _ _ _ (@br _ _ _ _ _ _ _ _ _ (aT (K:=K) rfl) (by rfl) B.list bZ (@aa _ _ _ _ _ (@aY _ _ _ _ _ _ _ aQ (@ay _ _ _ _ _ _ _ T.Frames T.qC (@ao _ 0 _ _ (by walk_at "v")) (by rfl)) (@ao _ 1 _ _ (by walk_at "v")) (λ _ _=>rfl)) (@ai _) (by rfl)) (by decide) (by decide) (by rfl) (by rfl)))),?_⟩
  walk_at "ge"
  rename Led _ _=>hl1
  exact k _ _ hl1
theorem Px {H:Hp} : ∀ {hs:List Hd},(∀ t a,some (t,a)∈hs->H t=some (.tup (gc a)))->bQ H (hs.map aW) (PySem.W.kqdPs (hs.map λ x=>eB (lV x)))
 | [],_ => .nil
 | x::hs,h=>by
   rw [List.map_cons,List.map_cons,PySem.W.kqdPs]
   refine .cons ?_ (Px λ t a ha=>h t a (mC ha))
   cases x with
   | none=>show eg H .aH (PySem.W.kqdP .none);rw [PySem.W.kqdP];exact .aH
   | some x=>exact xE (h x.1 x.2 mS)
theorem uQ {x:Option Th} (h : ∀ a,x=some a->Gd a) (k:Nat):PySem.W.kqdOk (k+1) (eB x)=true:=by
 cases x with
 | none=>rfl
 | some a=>exact N8 (h a rfl) k
def qd (cF:Addr):Sp:=λ vs H Q _ => ∃ (F:FS) (n:Nat) (x:Hd) (M:Cells),vs = [.ref F.b,aW x]/\Led H (sR cF F M)/\El F n M/\(∀ t a,x=some (t,a)->(t,HO.tup (gc a))∈M/\Gd a)/\n<=600 ∧
 ((∀ y∈F.hs,lV y≠lV x)->Q .aH H) ∧ ∀ (j:Nat) y,F.hs[j]? = some y->lV y=lV x->(∀ (m:Nat) z,m < j->F.hs[m]? = some z->lV z≠lV x)->Q (.int (j:Nat)) H
theorem LJ (D:bH K cF "where" "Frames.where" cM) (B:iY mg) (T:Txt K mg cU cA cB cC cT cF cD cS cI):aJ P w K mg base 1 cF "where" ["self","thing"] (qd cF):=by
 have sc:=jV
 refine D.ok jV (λ vs H Q E h => ?_) (λ _ _ _ _ _ _ us hl=>match us,hl with | [_,_],_=>rfl) (λ f cdv A outer s H vs Q E hr h => ?_)
 ·obtain ⟨_,_,_,_,rfl,_⟩:=h;rfl
 ·obtain ⟨F,n,x,M,rfl,hL,g,hx,hn,k0,k1⟩:=h
  have hf1:(uO F.hl F.rl F.sl).lookup (Str.ofString "held")=some (.ref F.hl):=rfl
  have up : ∀ {c:Addr×HO},c∈M->c∈sR cF F M:=λ h=>mC (mC (mC (mC h)))
  have LK:H F.hl=some (.lst (F.hs.map aW)):=hL.get (mC mS)
  have d1:eg H (aW x) (PySem.W.kqdP (eB (lV x))):=by
   cases x with
   | none=>show eg H .aH (PySem.W.kqdP .none);rw [PySem.W.kqdP];exact .aH
   | some x=>exact xE (hL.get (up (hx x.1 x.2 rfl).1))
  have d2:=Px (H:=H) (hs:=F.hs) λ t a ha=>hL.get (up (g.th t a ha).1)
  have o1:PySem.W.kqdOk 8 (eB (lV x))=true:=uQ (λ a ha=>by
   cases x with
   | none=>cases ha
   | some x=>cases ha;exact (hx x.1 x.2 rfl).2) 7
  have o2 : ∀ e∈F.hs.map (λ x=>eB (lV x)),PySem.W.kqdOk 7 e=true:=λ e he=>by
   obtain ⟨y,hy,rfl⟩:=List.mem_map.mp he
   refine uQ (λ a ha => ?_) 6
   cases y with
   | none=>cases ha
   | some y=>cases ha;exact (g.th y.1 y.2 hy).2
  refine ⟨_,(@ah _ _ _ _ _ (@aU _ _ _ _ _ _ _ _ (@aI _ _ _ _ _ _ _ _ (qA hr.units) (@ao _ 1 _ _ (by walk_at "v")) (@ay _ _ _ _ _ _ _ T.Frames T.nL (@ao _ 0 _ _ (by walk_at "v")) (by rfl)) (by with_unfolding_all rfl)) (@ak _ _ _ (@aD _ _ _ _ (@bF _ _ _))) (@aE _)) (@ak _ _ _ (@aD _ _ _ _ (@oS _ _ _ _ _ _ _ _ _ _ _ _ PySem.F.plainAttrs_list PySem.F.slot_list_index PySem.F.type_list_index (mh hr.units) (@ay _ _ _ _ _ _ _ T.Frames T.nL (@ao _ 0 _ _ (by walk_at "v")) (by rfl)) (@aa _ _ _ _ _ (@ao _ 1 _ _ (by walk_at "v")) (@ai _) (by rfl)) (by rfl) (by rfl) (by rfl) (by rfl) (by rfl))))),?_⟩
  refine aF λ M1 K1 => ?_
  walk_at "ge"
  by_cases hin:eB (lV x)∈F.hs.map λ x=>eB (lV x)
  ·refine ES (neg:=true) (b:=true) LK d1 d2 o1 o2 (iff_of_true rfl hin) ?_
   walk_at "ge"
   refine K1.use ?_
   walk_at "cl"
   clear K1
   walk_at "ge"
   refine ⟨Bw LK,?_⟩
   walk_at "ge"
   obtain ⟨y0,hy0,UH⟩:=List.mem_map.mp hin
   have hex : ∃ y∈F.hs,decide (lV y=lV x)=true:=⟨y0,hy0,decide_eq_true (gg.mp UH)⟩
   have hlt:F.hs.findIdx (λ y=>decide (lV y=lV x)) < F.hs.length:=List.findIdx_lt_length_of_exists hex
   have hat:=List.getElem?_eq_getElem hlt
   have Ji:lV (F.hs[F.hs.findIdx λ y=>decide (lV y=lV x)]'hlt)=lV x:=of_decide_eq_true (List.findIdx_getElem (w:=hlt))
   have hno : ∀ (m:Nat) z,m < F.hs.findIdx (λ y=>decide (lV y=lV x))->F.hs[m]? = some z->lV z≠lV x:=λ m z hm hz=>by
    have h:=List.not_of_lt_findIdx hm
    have hlm:m < F.hs.length:=(List.getElem?_eq_some_iff.mp hz).1
    have e:F.hs[m]=z:=(List.getElem?_eq_some_iff.mp hz).2
    rw [<-e]
    simpa using h
   generalize F.hs.findIdx (λ y=>decide (lV y=lV x))=j at hlt hat Ji hno
   refine GW LK d1 d2 o1 o2 (j:=j) (by rw [List.getElem?_map,hat];show some (eB _)=_;rw [Ji]) (λ m e hm he => ?_) ?_
   ·rw [List.getElem?_map] at he
    obtain ⟨z,hz,rfl⟩:=Option.map_eq_some_iff.mp he
    exact λ q=>hno m z hm hz (gg.mp q)
   ·walk_at "ge"
    exact k1 j _ hat Ji hno
  ·refine ES (neg:=true) (b:=false) LK d1 d2 o1 o2 (iff_of_false Bool.false_ne_true hin) ?_
   walk_at "ge"
   exact k0 λ y hy e=>hin (List.mem_map.mpr ⟨y,hy,by rw [e]⟩)
theorem Ad (D:bH K cF "least_free" "Frames.least_free" bA) (T:Txt K mg cU cA cB cC cT cF cD cS cI) (g9:aJ P w K mg base 1 cF "where" ["self","thing"] (qd cF)):aJ P w K mg base 2 cF "least_free" ["self"] (λ vs H Q E => ∃ b,vs = [.ref b]/\qd cF [.ref b,.aH] H Q E):=by
 have sc:=f9
 refine D.ok f9 (λ vs H Q E h => ?_) (λ _ _ _ _ _ _ us hl=>match us,hl with | [_],_=>rfl) (λ f cdv A outer s H vs Q E hr h => ?_)
 ·obtain ⟨_,rfl,_⟩:=h;rfl
 ·obtain ⟨b,rfl,F,n,x,M,e,hL,g,hx,hn,k0,k1⟩:=h
  obtain ⟨rfl,ex⟩:b=F.b/\aW x = .aH:=by
   injection e with e1 e2
   injection e1 with e1
   injection e2 with e2
   exact ⟨e1,e2.symm⟩
  refine ⟨_,(@ak _ _ _ (@aD _ _ _ _ (@aP _ _ _ _ _ _ _ _ _ _ _ _ _ _ _ _ T.Frames g9 (hr.mono (by omega)) az (@ao _ 0 _ _ (by walk_at "v")) (@aa _ _ _ _ _ (@bF _ _ _) (@ai _) (by rfl)) (by rfl) (by rfl) (by rfl)))),?_⟩
  walk_at "ge"
  refine ⟨F,n,x,M,by rw [ex];rfl,hL,g,hx,hn,λ h => ?_,λ j y h1 h2 h3 => ?_⟩
  ·walk_at "ge"
   exact k0 h
  ·walk_at "ge"
   exact k1 j y h1 h2 h3
def qe (cF:Addr):Sp:=λ vs H Q _ => ∃ (F:FS) (M:Cells),vs = [.ref F.b]/\Led H (sR cF F M)/\F.hs.length<=600 ∧ ∀ q H',Led H' ((q,.lst (F.hs.map aW))::sR cF F M)->Q (.ref q) H'
theorem Jj (D:bH K cF "things" "Frames.things" b7) (B:iY mg) (T:Txt K mg cU cA cB cC cT cF cD cS cI):aJ P w K mg base 1 cF "things" ["self"] (qe cF):=by
 have sc:=je
 refine D.ok je (λ vs H Q E h => ?_) (λ _ _ _ _ _ _ us hl=>match us,hl with | [_],_=>rfl) (λ f cdv A outer s H vs Q E hr h => ?_)
 ·obtain ⟨_,_,rfl,_⟩:=h;rfl
 ·obtain ⟨F,M,rfl,hL,hn,k⟩:=h
  have hf1:(uO F.hl F.rl F.sl).lookup (Str.ofString "held")=some (.ref F.hl):=rfl
  have m1:(F.hs.map aW).length=F.hs.length:=List.length_map _
  refine ⟨_,(@ak _ _ _ (@aD _ _ _ _ (@br _ _ _ _ _ _ _ _ _ (aT (K:=K) rfl) (by rfl) B.list bZ (@aa _ _ _ _ _ (@ay _ _ _ _ _ _ _ T.Frames T.nL (@ao _ 0 _ _ (by walk_at "v")) (by rfl)) (@ai _) (by rfl)) (by decide) (by decide) (by rfl) (by rfl)))),?_⟩
  walk_at "ge"
  rename Led _ _=>hl1
  exact k _ _ hl1
def G2 (cF:Addr):Sp:=λ vs H Q _ => ∃ (F:FS) (n i:Nat) (c:Int) (q r:Addr) (row ms:List Int) (M:Cells),vs = [.ref F.b,.int (i:Nat),.int c,.ref q]/\Led H (sR cF F M)/\El F n M/\i < n/\F.rs[i]? = some (some (r,row))/\(q,HO.lst (ms.map V.int))∈M/\0<=c/\row.length<=100/\ms.length<=100 ∧
 ∀ p H',Led H' (sR cF { F with rs:=F.rs.set i (some (p,row.take c.toNat++ms++row.drop (c.toNat+ms.length))),bs:=F.bs.set i true } ((p,.lst ((row.take c.toNat++ms++row.drop (c.toNat+ms.length)).map V.int))::M))->Q .aH H'
theorem Jk (D:bH K cF "put_in" "Frames.put_in" b6) (B:iY mg) (T:Txt K mg cU cA cB cC cT cF cD cS cI) (Cm:cZ P w K mg base 1 "with_cells" ["row","cell","numbers"] LI):aJ P w K mg base 2 cF "put_in" ["self","frame","cell","numbers"] (G2 cF):=by
 have sc:=jd
 refine D.ok jd (λ vs H Q E h => ?_) (λ _ _ _ _ _ _ us hl=>match us,hl with | [_,_,_,_],_=>rfl) (λ f cdv A outer s H vs Q E hr h => ?_)
 ·obtain ⟨_,_,_,_,_,_,_,_,_,rfl,_⟩:=h;rfl
 ·obtain ⟨F,n,i,c,q,r,row,ms,M,rfl,hL,g,hi,hx,VU,c0,h1,h2,k⟩:=h
  have hf2:(uO F.hl F.rl F.sl).lookup (Str.ofString "rows")=some (.ref F.rl):=rfl
  have hf3:(uO F.hl F.rl F.sl).lookup (Str.ofString "soiled")=some (.ref F.sl):=rfl
  have p9:=g.rw r row (List.mem_of_getElem? hx)
  have ha:iw (F.rs.map fD) ((i:Nat):Int)=some (.ref r):=Ck (f:=fD) hx
  have gr:=g.r
  have gs:=g.s
  have m2:(F.rs.map fD).length=F.rs.length:=List.length_map _
  have m3:(F.bs.map V.bl).length=F.bs.length:=List.length_map _
  have up : ∀ {c:Addr×HO},c∈M->c∈sR cF F M:=λ h=>mC (mC (mC (mC h)))
  refine ⟨_,(@ah _ _ _ _ _ (@bC _ _ _ _ _ _ (@aB _ _ _ _ _ _ _ _ _ _ _ Cm (hr.mono (by omega)) (by rfl) az (@aa _ _ _ _ _ (@aY _ _ _ _ _ _ _ aQ (@ay _ _ _ _ _ _ _ T.Frames T.qC (@ao _ 0 _ _ (by walk_at "v")) (by rfl)) (@ao _ 1 _ _ (by walk_at "v")) (λ _ _=>rfl)) (@aa _ _ _ _ _ (@ao _ 2 _ _ (by walk_at "v")) (@aa _ _ _ _ _ (@ao _ 3 _ _ (by walk_at "v")) (@ai _) (by rfl)) (by rfl)) (by rfl)) (by decide) (by rfl) (by rfl)) (@bG _ _ _ _ _ _ _ (@ay _ _ _ _ _ _ _ T.Frames T.qC (@ao _ 0 _ _ (by walk_at "v")) (by rfl)) (@ao _ 1 _ _ (by walk_at "v")) set_list (by intro _;rfl)) (by rfl) (by rfl) (by rfl)) (@ak _ _ _ (@bC _ _ _ _ _ _ (@bB _ _ _ _) (@bG _ _ _ _ _ _ _ (@ay _ _ _ _ _ _ _ T.Frames T.k8 (@ao _ 0 _ _ (by walk_at "v")) (by rfl)) (@ao _ 1 _ _ (by walk_at "v")) set_list (by intro _;rfl)) (by rfl) (by rfl) (by rfl)))),?_⟩
  refine aF λ M1 K1 => ?_
  walk_at "ge"
  refine ⟨r,q,c,row,ms,_,rfl,hL,up p9,up VU,c0,h1,h2,λ p H2 hl2 => ?_⟩
  generalize row.take c.toNat++ms++row.drop (c.toNat+ms.length)=nw at hl2 k
  walk_at "ge"
  refine cH (hl2.get (mC (mC (mC mS)))) (bD (by omega) (by omega)) ?_
  rw [Int.toNat_natCast,show (F.rs.map fD).set i (V.ref p)=(F.rs.set i (some (p,nw))).map fD by rw [List.map_set];rfl]
  have bM:Led (upd H2 F.rl (.lst ((F.rs.set i (some (p,nw))).map fD))) ((p,.lst (nw.map V.int))::(F.b,.ins cF F.dx (uO F.hl F.rl F.sl))::(F.hl,.lst (F.hs.map aW))::(F.rl,.lst ((F.rs.set i (some (p,nw))).map fD))::(F.sl,.lst (F.bs.map V.bl))::M):=hl2.iU 3 rfl rfl rfl
  generalize upd H2 F.rl (.lst ((F.rs.set i (some (p,nw))).map fD))=H4 at bM ⊢
  walk_at "ge"
  refine K1.use ?_
  walk_at "cl"
  clear K1 hl2 hL
  walk_at "ge"
  refine cH (bM.get (mC (mC (mC (mC mS))))) (bD (by omega) (by omega)) ?_
  rw [Int.toNat_natCast,show (F.bs.map V.bl).set i (V.bl true)=(F.bs.set i true).map V.bl by rw [List.map_set]]
  have cP:Led (upd H4 F.sl (.lst ((F.bs.set i true).map V.bl))) ((p,.lst (nw.map V.int))::(F.b,.ins cF F.dx (uO F.hl F.rl F.sl))::(F.hl,.lst (F.hs.map aW))::(F.rl,.lst ((F.rs.set i (some (p,nw))).map fD))::(F.sl,.lst ((F.bs.set i true).map V.bl))::M):=bM.iU 4 rfl rfl rfl
  walk_at "ge"
  exact k p _ (cP.wk (by walk_at "spf"))
def CL (l d:Addr):List (Str×V):=[("placed",.ref l),("row_by_sheet",.ref d)]
def Ae (cS b dx l d:Addr) (ps:List V) (es:j9):Cells:=(b,.ins cS dx (CL l d))::(l,.lst ps)::(d,.dK (uN es))::ja es
section
variable {b dx l d:Addr} {ps:List V} {es:j9} {L:Cells}
theorem Od:(b,HO.ins cS dx (CL l d))∈Ae cS b dx l d ps es++L:=mS
theorem VV:(l,HO.lst ps)∈Ae cS b dx l d ps es++L:=mC mS
theorem sk3:(d,HO.dK (uN es))∈Ae cS b dx l d ps es++L:=mC (mC mS)
theorem sk4 {e:Int×Addr×List Int} (h:e∈es):(e.2.1,HO.lst (e.2.2.map V.int))∈Ae cS b dx l d ps es++L:=mB (mC (mC (mC (List.mem_map.mpr ⟨e,h,rfl⟩))))
end
def idx (ps:List V) (y:V):Nat:=ps.findIdx λ v=>Bc v y
theorem Cn {ps:List V} {y:V} (h:qu y ps=true) : ∃ v,ps[idx ps y]? = some v/\Bc v y=true:=by
 unfold qu at h
 rw [List.any_eq_true] at h
 obtain ⟨v,hv,he⟩:=h
 have hlt:ps.findIdx (λ v=>Bc v y) < ps.length:=List.findIdx_lt_length_of_exists ⟨v,hv,he⟩
 exact ⟨ps[ps.findIdx λ v=>Bc v y],List.getElem?_eq_getElem hlt,List.findIdx_getElem (w:=hlt)⟩
theorem Rw {ps:List V} {y:V} {m:Nat} {v:V} (hm:m < idx ps y) (hv:ps[m]? = some v):Bc v y=false:=by
 unfold idx at hm
 have h:=List.not_of_lt_findIdx hm
 have hlt:m < ps.length:=(List.getElem?_eq_some_iff.mp hv).1
 have e:ps[m]=v:=(List.getElem?_eq_some_iff.mp hv).2
 rw [<-e]
 simpa using h
theorem LL {ps:List V} {y:V} (h:qu y ps=true):idx ps y < ps.length:=by
 obtain ⟨v,hv,_⟩:=Cn h
 exact (List.getElem?_eq_some_iff.mp hv).1
theorem LM {H:Hp} {Q:VK} {l:Addr} {ps:List V} {y:V} (h1:H l=some (.lst ps)) (fy:eu y=true) (fs:ps.all eu=true) (hin:qu y ps=true) (h:Q (.int (idx ps y:Nat)) H):ER (.ref l) [y] H Q:=by
 obtain ⟨v,hv,he⟩:=Cn hin
 exact Rb h1 fy fs hv he (λ m w hm hw=>Rw hm hw) h
theorem abd (n:Nat):(List.replicate n [V.aH]).flatten=List.replicate n V.aH:=by
 induction n with
 | zero=>rfl
 | succ n ih=>rw [List.replicate_succ,List.flatten_cons,ih,List.replicate_succ];rfl
def G3 (cS:Addr):Sp:=λ vs H Q _ => ∃ (b dx:Addr) (n:Int) (L:Cells),vs = [.ref b,.int n]/\Led H ((b,.ins cS dx [])::L)/\0<=n/\n<=600 ∧ ∀ l d H',Led H' (Ae cS b dx l d (List.replicate n.toNat .aH) []++L)->Q .aH H'
theorem Jl (D:nG K cS "Shelf.__init__" dU) (T:Txt K mg cU cA cB cC cT cF cD cS cI):iA P w K mg base 1 cS ["self","many"] (G3 cS):=by
 have sc:=nc
 refine D.ok nc (λ vs H Q E h => ?_) (λ _ _ _ _ _ _ us hl=>match us,hl with | [_,_],_=>rfl) (λ f cdv A outer s H vs Q E hr h => ?_)
 ·obtain ⟨_,_,_,_,rfl,_⟩:=h;rfl
 ·obtain ⟨b,dx,n,L,rfl,hL,h0,Oa,k⟩:=h
  refine ⟨_,(@ah _ _ _ _ _ (@cj _ _ _ _ _ _ _ _ _ _ T.fj T.gY (@ao _ 0 _ _ (by walk_at "v")) (@aq _ _ _ _ _ _ _ _ kN (@iT _ _ _ _ (@aa _ _ _ _ _ (@bF _ _ _) (@ai _) (by rfl))) (@ao _ 1 _ _ (by walk_at "v"))) (by rfl)) (@ak _ _ _ (@cj _ _ _ _ _ _ _ _ _ _ T.fj T.fk (@ao _ 0 _ _ (by walk_at "v")) (@u9 _ _) (by rfl)))),?_⟩
  refine aF λ M1 K1 => ?_
  walk_at "gd"
  rename_i l0 H2 _ hl2 _ _ _
  refine Dm (hl2.get mS) ⟨by omega,by omega⟩ (by have:=sizeLine_eq;simp only [List.length_cons,List.length_nil];omega) (Led.alloc hl2 λ l H3 _ hl3 _ => ?_)
  rw [abd] at hl3
  walk_at "gd"
  refine K1.use ?_
  walk_at "cl"
  clear K1
  have bM:Led H3 ((b,.ins cS dx [])::(l,.lst (List.replicate n.toNat .aH))::L):=hl3.wk (by walk_at "sp")
  have cP:Led (upd H3 b (.ins cS dx (cQ (Str.ofString "placed") (V.ref l) []))) ((b,.ins cS dx [("placed",.ref l)])::(l,.lst (List.replicate n.toNat .aH))::L):=bM.put rfl rfl
  generalize upd H3 b (.ins cS dx (cQ (Str.ofString "placed") (V.ref l) []))=H4 at cP ⊢
  clear bM hl3 hl2 hL
  walk_at "gd"
  rename_i d H5 _ eX _
  have iu:=(eX.swap).put (o' := .ins cS dx (CL l d)) rfl rfl
  exact k l d _ (iu.wk (by unfold Ae ja;simp only [uN,List.map_nil,List.cons_append,List.nil_append];walk_at "sp"))
def Gh (cS:Addr):Sp:=λ vs H Q _ => ∃ (b dx l d:Addr) (ps:List V),vs = [.ref b]/\H b=some (.ins cS dx (CL l d))/\H l=some (.lst ps)/\ps.all eu=true/\Q (.bl (!qu .aH ps)) H
theorem Oe (D:bH K cS "is_full" "Shelf.is_full" b8) (T:Txt K mg cU cA cB cC cT cF cD cS cI):aJ P w K mg base 1 cS "is_full" ["self"] (Gh cS):=by
 have sc:=jf
 refine D.ok jf (λ vs H Q E h => ?_) (λ _ _ _ _ _ _ us hl=>match us,hl with | [_],_=>rfl) (λ f cdv A outer s H vs Q E hr h => ?_)
 ·obtain ⟨_,_,_,_,_,rfl,_⟩:=h;rfl
 ·obtain ⟨b,dx,l,d,ps,rfl,c1,c2,fs,k⟩:=h
  have hf:(CL l d).lookup (Str.ofString "placed")=some (.ref l):=rfl
  refine ⟨_,(@ak _ _ _ (@aD _ _ _ _ (@jC _ _ _ _ _ _ _ _ Bd (@bF _ _ _) (@ay _ _ _ _ _ _ _ T.fj T.gY (@ao _ 0 _ _ (by walk_at "v")) (by rfl)) (by with_unfolding_all rfl)))),?_⟩
  walk_at "gd"
  refine ⟨l,ps,rfl,.inl (eY.of c2),rfl,fs,?_⟩
  walk_at "gd"
  exact k
def xH (cS:Addr):Sp:=λ vs H Q _ => ∃ (b dx l d:Addr) (ps:List V) (L:Cells),vs = [.ref b]/\Led H L/\H b=some (.ins cS dx (CL l d))/\H l=some (.lst ps) ∧ ∀ r H',Led H' ((r,.lst ps)::L)->Q (.ref r) H'
theorem Jm (D:bH K cS "sheets" "Shelf.sheets" cO) (B:iY mg) (T:Txt K mg cU cA cB cC cT cF cD cS cI):aJ P w K mg base 1 cS "sheets" ["self"] (xH cS):=by
 have sc:=jX
 refine D.ok jX (λ vs H Q E h => ?_) (λ _ _ _ _ _ _ us hl=>match us,hl with | [_],_=>rfl) (λ f cdv A outer s H vs Q E hr h => ?_)
 ·obtain ⟨_,_,_,_,_,_,rfl,_⟩:=h;rfl
 ·obtain ⟨b,dx,l,d,ps,L,rfl,hL,c1,c2,k⟩:=h
  have hf:(CL l d).lookup (Str.ofString "placed")=some (.ref l):=rfl
  refine ⟨_,(@ak _ _ _ (@aD _ _ _ _ (@br _ _ _ _ _ _ _ _ _ (aT (K:=K) rfl) (by rfl) B.list bZ (@aa _ _ _ _ _ (@ay _ _ _ _ _ _ _ T.fj T.gY (@ao _ 0 _ _ (by walk_at "v")) (by rfl)) (@ai _) (by rfl)) (by decide) (by decide) (by rfl) (by rfl)))),?_⟩
  walk_at "gd"
  rename_i r H1 _ hl1 _
  exact k r _ hl1
def Py (cS cU:Addr):Sp:=λ vs H Q E => ∃ (b dx l d r:Addr) (n:Int) (row:List Int) (ps:List V) (es:j9) (L:Cells),vs = [.ref b,.int n,.ref r]/\Led H (Ae cS b dx l d ps es++L)/\(r,HO.lst (row.map V.int))∈L/\ps.all eu=true/\n ∉ es.map (·.1)/\es.length<=600 ∧
 (qu .aH ps=true->∀ a H',Led H' (Ae cS b dx l d (ps.set (idx ps .aH) (.int n)) (es++[(n,a,row)])++L)->Q (.int (idx ps .aH:Nat)) H')/\(qu .aH ps=false->E (.ref cU) none H)
theorem Jo (es:j9) (n:Int) (a:Addr) (row:List Int):ja (es++[(n,a,row)])=ja es++[(a,HO.lst (row.map V.int))]:=by unfold ja;rw [List.map_append];rfl
theorem Rx (D:bH K cS "put_on" "Shelf.put_on" cN) (B:iY mg) (T:Txt K mg cU cA cB cC cT cF cD cS cI) (gp:aJ P w K mg base 1 cS "is_full" ["self"] (Gh cS)):aJ P w K mg base 2 cS "put_on" ["self","sheet","row"] (Py cS cU):=by
 have sc:=jW
 refine D.Dk jW (λ vs H Q E h => ?_) (λ _ _ _ _ _ _ us hl=>match us,hl with | [_,_,_],_=>rfl) (λ f cdv A outer s H vs Q E hr h => ?_)
 ·obtain ⟨_,_,_,_,_,_,_,_,_,_,rfl,_⟩:=h;rfl
 ·obtain ⟨b,dx,l,d,r,n,row,ps,es,L,rfl,hL,p9,fs,hn,Oa,k1,k2⟩:=h
  have hu:=gz hr
  have hf1:(CL l d).lookup (Str.ofString "placed")=some (.ref l):=rfl
  have hf2:(CL l d).lookup (Str.ofString "row_by_sheet")=some (.ref d):=rfl
  have c1:=hL.get (Od (cS:=cS) (b:=b) (dx:=dx) (l:=l) (d:=d) (ps:=ps) (es:=es) (L:=L))
  have c2:=hL.get (VV (cS:=cS) (b:=b) (dx:=dx) (l:=l) (d:=d) (ps:=ps) (es:=es) (L:=L))
  refine ⟨_,(@ah _ _ _ _ _ (@aU _ _ _ _ _ _ _ _ (@bJ _ _ _ (@dj _ _ _ _ _ _ _ _ _ _ _ _ _ T.fj gp (hr.mono (by omega)) az (@ao _ 0 _ _ (by walk_at "v")) (by rfl)) (by intro _;rfl)) (@ak _ _ _ (@i9 _ _ _ _ _ _ _ _ _ _ _ _ _ _ _ _ _ _ _ _ _ _ T.Full (by rfl) (@aa _ _ _ _ _ (@cW _ _ _ _) (@ai _) (by rfl)) (by decide) (by rfl))) (@aE _)) (@ah _ _ _ _ _ (@aL _ _ 3 _ _ _ _ sc.nd rfl (by walk_at "o2") (@oS _ _ _ _ _ _ _ _ _ _ _ _ PySem.F.plainAttrs_list PySem.F.slot_list_index PySem.F.type_list_index kU (@ay _ _ _ _ _ _ _ T.fj T.gY (@ao _ 0 _ _ (by walk_at "v")) (by rfl)) (@aa _ _ _ _ _ (@bF _ _ _) (@ai _) (by rfl)) (by rfl) (by rfl) (by rfl) (by rfl) (by rfl)) (by rfl) (by walk_at "o4")) (@ah _ _ _ _ _ (@bC _ _ _ _ _ _ (@ao _ 1 _ _ (by walk_at "v")) (@bG _ _ _ _ _ _ _ (@ay _ _ _ _ _ _ _ T.fj T.gY (@ao _ 0 _ _ (by walk_at "v")) (by rfl)) (@ao _ 3 _ _ (by walk_at "v")) set_list (by intro _;rfl)) (by rfl) (by rfl) (by rfl)) (@ah _ _ _ _ _ (@l6 _ _ _ _ _ _ _ _ _ hu (@ay _ _ _ _ _ _ _ T.fj T.fk (@ao _ 0 _ _ (by walk_at "v")) (by rfl)) (@ao _ 1 _ _ (by walk_at "v")) (@br _ _ _ _ _ _ _ _ _ (aT (K:=K) rfl) (by rfl) B.list bZ (@aa _ _ _ _ _ (@ao _ 2 _ _ (by walk_at "v")) (@ai _) (by rfl)) (by decide) (by decide) (by rfl) (by rfl)) rfl) (@ak _ _ _ (@aD _ _ _ _ (@ao _ 3 _ _ (by walk_at "v")))))))),?_⟩
  refine aF λ M1 K1 => ?_
  walk_at "ge"
  refine ⟨b,dx,l,d,ps,rfl,c1,c2,fs,?_⟩
  cases hin:qu .aH ps with
  | false =>
    walk_at "ge"
    refine nI λ R hR => ?_
    walk_at "ge"
    exact ⟨by decide,k2 hin⟩
  | true =>
    walk_at "ge"
    refine K1.use ?_
    walk_at "cl"
    clear K1
    refine aF λ M1 K1 => ?_
    walk_at "ge"
    refine ⟨Bw c2,?_⟩
    walk_at "ge"
    refine LM c2 rfl fs hin ?_
    walk_at "ge"
    refine K1.use ?_
    walk_at "cl"
    clear K1
    have hlt:=LL hin
    refine aF λ M1 K1 => ?_
    walk_at "ge"
    refine cH c2 (bD (by omega) (by omega)) ?_
    rw [Int.toNat_natCast]
    have hl2:Led (upd H l (.lst (ps.set (idx ps .aH) (.int n)))) (Ae cS b dx l d (ps.set (idx ps .aH) (.int n)) es++L):=(Led.put (Led.swap (show Led H ((b,.ins cS dx (CL l d))::(l,.lst ps)::((d,.dK (uN es))::ja es++L)) from hL)) rfl rfl).swap
    generalize upd H l (.lst (ps.set (idx ps .aH) (.int n)))=H2 at hl2 ⊢
    generalize ps.set (idx ps .aH) (.int n)=ps2 at hl2 k1
    walk_at "ge"
    refine K1.use ?_
    walk_at "cl"
    clear K1 c1 c2 hL
    have c1:=hl2.get (Od (cS:=cS) (b:=b) (dx:=dx) (l:=l) (d:=d) (ps:=ps2) (es:=es) (L:=L))
    have nv:=hl2.get (mA p9)
    have afA:Led H2 ((b,.ins cS dx (CL l d))::(l,.lst ps2)::(d,.dK (uN es))::(ja es++L)):=hl2
    clear hl2
    refine aF λ M1 K1 => ?_
    walk_at "ge"
    rename_i a H3 _ hl3 _ _ _ _ _ _ _
    have bM:Led H3 ((d,.dK (uN es))::(b,.ins cS dx (CL l d))::(l,.lst ps2)::(ja es++((a,.lst (row.map V.int))::L))):=hl3.wk (by walk_at "sp")
    refine Pq (bM.get mS) (by unfold uN;rw [List.length_map];have:=sizeLine_eq;omega) ?_
    rw [ND hn a row]
    have cP:=bM.put (o' := .dK (uN (es++[(n,a,row)]))) rfl rfl
    walk_at "ge"
    refine K1.use ?_
    walk_at "ge"
    refine k1 hin a _ (cP.wk ?_)
    unfold Ae
    rw [Jo]
    simp only [List.cons_append,List.append_assoc,List.nil_append]
    walk_at "sp"
def LN (cS:Addr):Sp:=λ vs H Q _ => ∃ (b dx l d:Addr) (ps:List V) (es:j9) (e:Int×Addr×List Int) (L:Cells),vs = [.ref b,.int e.1]/\Led H (Ae cS b dx l d ps es++L)/\ps.all eu=true/\qu (.int e.1) ps=true/\(es.map (·.1)).Nodup/\e∈es ∧
 ∀ H',Led H' ((e.2.1,.lst (e.2.2.map V.int))::(Ae cS b dx l d (ps.set (idx ps (.int e.1)) .aH) (es.filter λ x=>decide (x.1≠e.1))++L))->Q (.ref e.2.1) H'
theorem Of (D:bH K cS "take_off" "Shelf.take_off" bV) (B:iY mg) (T:Txt K mg cU cA cB cC cT cF cD cS cI):aJ P w K mg base 1 cS "take_off" ["self","sheet"] (LN cS):=by
 have sc:=iD
 refine D.ok iD (λ vs H Q E h => ?_) (λ _ _ _ _ _ _ us hl=>match us,hl with | [_,_],_=>rfl) (λ f cdv A outer s H vs Q E hr h => ?_)
 ·obtain ⟨_,_,_,_,_,_,_,_,rfl,_⟩:=h;rfl
 ·obtain ⟨b,dx,l,d,ps,es,e,L,rfl,hL,fs,hin,nd,he,k⟩:=h
  have hu:=gz hr
  have hf1:(CL l d).lookup (Str.ofString "placed")=some (.ref l):=rfl
  have hf2:(CL l d).lookup (Str.ofString "row_by_sheet")=some (.ref d):=rfl
  have mV:Led H ((b,.ins cS dx (CL l d))::(l,.lst ps)::(d,.dK (uN es))::(ja es++L)):=hL
  have c2:H l=some (.lst ps):=mV.get (mC mS)
  have hlt:=LL hin
  have hv:bx (uN es) (.inl e.1)=some (.ref e.2.1):=by rw [Bx,oZ nd he];rfl
  refine ⟨_,(@ah _ _ _ _ _ (@bC _ _ _ _ _ _ (@bF _ _ _) (@bG _ _ _ _ _ _ _ (@ay _ _ _ _ _ _ _ T.fj T.gY (@ao _ 0 _ _ (by walk_at "v")) (by rfl)) (@oS _ _ _ _ _ _ _ _ _ _ _ _ PySem.F.plainAttrs_list PySem.F.slot_list_index PySem.F.type_list_index kU (@ay _ _ _ _ _ _ _ T.fj T.gY (@ao _ 0 _ _ (by walk_at "v")) (by rfl)) (@aa _ _ _ _ _ (@ao _ 1 _ _ (by walk_at "v")) (@ai _) (by rfl)) (by rfl) (by rfl) (by rfl) (by rfl) (by rfl)) set_list (by intro _;rfl)) (by rfl) (by rfl) (by rfl)) (@ak _ _ _ (@aD _ _ _ _ (@Ke _ _ _ _ _ _ _ (@ay _ _ _ _ _ _ _ T.fj T.fk (@ao _ 0 _ _ (by walk_at "v")) (by rfl)) (@ao _ 1 _ _ (by walk_at "v")) ⟨rfl,rfl,rfl,rfl⟩)))),?_⟩
  refine aF λ M1 K1 => ?_
  walk_at "ge"
  refine ⟨Bw c2,?_⟩
  walk_at "ge"
  refine LM c2 rfl fs hin ?_
  walk_at "ge"
  refine cH c2 (bD (by omega) (by omega)) ?_
  rw [Int.toNat_natCast]
  have hl2:Led (upd H l (.lst (ps.set (idx ps (.int e.1)) .aH))) ((b,.ins cS dx (CL l d))::(l,.lst (ps.set (idx ps (.int e.1)) .aH))::(d,.dK (uN es))::(ja es++L)):=(Led.put (Led.swap mV) rfl rfl).swap
  generalize upd H l (.lst (ps.set (idx ps (.int e.1)) .aH))=H2 at hl2 ⊢
  generalize ps.set (idx ps (.int e.1)) .aH=ps2 at hl2 k
  walk_at "ge"
  refine K1.use ?_
  walk_at "cl"
  clear K1 c2 hL mV
  have c3:H2 d=some (.dK (uN es)):=hl2.get (mC (mC mS))
  walk_at "ge"
  refine Q6 λ R5 hR5 => ?_
  walk_at "ge"
  refine Uq c3 hv ?_
  rw [KD]
  obtain ⟨as,bs,hab,abe⟩:=Ie nd he
  have hl3:Led H2 ((d,.dK (uN es))::(e.2.1,.lst (e.2.2.map V.int))::(b,.ins cS dx (CL l d))::(l,.lst ps2)::(ja as++(ja bs++L))):=by
   have UI:=hl2
   rw [hab,KG,<-hab] at UI
   exact UI.wk (by simp only [List.append_assoc,List.cons_append];walk_at "sp")
  have bM:=hl3.put (o' := .dK (uN (es.filter λ x=>decide (x.1≠e.1)))) rfl rfl
  walk_at "ge"
  refine k _ (bM.wk ?_)
  unfold Ae
  rw [abe,KH]
  simp only [List.cons_append,List.append_assoc]
  walk_at "sp"
def G4 (cS:Addr):Sp:=λ vs H Q _ => ∃ (b dx l d:Addr) (ps:List V) (es:j9) (e:Int×Addr×List Int) (L:Cells),vs = [.ref b,.int e.1]/\Led H (Ae cS b dx l d ps es++L)/\(es.map (·.1)).Nodup/\e∈es ∧ ∀ r H',Led H' ((r,.lst (e.2.2.map V.int))::(Ae cS b dx l d ps es++L))->Q (.ref r) H'
theorem Jp (D:bH K cS "row_of_sheet" "Shelf.row_of_sheet" bu) (B:iY mg) (T:Txt K mg cU cA cB cC cT cF cD cS cI):aJ P w K mg base 1 cS "row_of_sheet" ["self","sheet"] (G4 cS):=by
 have sc:=fJ
 refine D.ok fJ (λ vs H Q E h => ?_) (λ _ _ _ _ _ _ us hl=>match us,hl with | [_,_],_=>rfl) (λ f cdv A outer s H vs Q E hr h => ?_)
 ·obtain ⟨_,_,_,_,_,_,_,_,rfl,_⟩:=h;rfl
 ·obtain ⟨b,dx,l,d,ps,es,e,L,rfl,hL,nd,he,k⟩:=h
  have hu:=gz hr
  have hf:(CL l d).lookup (Str.ofString "row_by_sheet")=some (.ref d):=rfl
  have c1:=hL.get (Od (cS:=cS) (b:=b) (dx:=dx) (l:=l) (d:=d) (ps:=ps) (es:=es) (L:=L))
  have c3:=hL.get (sk3 (cS:=cS) (b:=b) (dx:=dx) (l:=l) (d:=d) (ps:=ps) (es:=es) (L:=L))
  have c4:=hL.get (sk4 (cS:=cS) (b:=b) (dx:=dx) (l:=l) (d:=d) (ps:=ps) (L:=L) he)
  have hv:bx (uN es) (.inl e.1)=some (.ref e.2.1):=by rw [Bx,oZ nd he];rfl
  refine ⟨_,(@ak _ _ _ (@aD _ _ _ _ (@br _ _ _ _ _ _ _ _ _ (aT (K:=K) rfl) (by rfl) B.list bZ (@aa _ _ _ _ _ (@gA _ _ _ _ _ _ hu (@ay _ _ _ _ _ _ _ T.fj T.fk (@ao _ 0 _ _ (by walk_at "v")) (by rfl)) (@ao _ 1 _ _ (by walk_at "v")) (λ _ _=>rfl)) (@ai _) (by rfl)) (by decide) (by decide) (by rfl) (by rfl)))),?_⟩
  walk_at "ge"
  refine Um c3 hv ?_
  walk_at "ge"
  rename_i r H1 _ hl1 _
  exact k r _ hl1
end
section
variable {P:Program} {w:World} {K:PySem.W.Frag} {mg:Str->Option Value} {base:Heap} {cU cA cB cC cT cF cD cS cI:Addr}
def iS (d:Addr):List (Str×V):=[("rows_by_name",.ref d)]
abbrev Jq (cI b dx d:Addr) (es:cR) (R:Cells):Cells:=(b,.ins cI dx (iS d))::(d,.dK (yc es))::(nJ es++R)
structure FH (cI:Addr) (H:Hp) (b dx d:Addr) (es:cR):Prop where
 cb:H b=some (.ins cI dx (iS d))
 cd:H d=some (.dK (yc es))
 cf : ∀ e∈es,H e.2.1=some (.lst (oH e.2.2))
 nd:(es.map (·.1)).Nodup
theorem FH.of {cI:Addr} {H:Hp} {b dx d:Addr} {es:cR} {R:Cells} (hL:Led H (Jq cI b dx d es R)) (nd:(es.map (·.1)).Nodup):FH cI H b dx d es :=
 ⟨hL.get mS,hL.get (mC mS),λ e he=>hL.get (mC (mC (mB (KI he)))),nd⟩
theorem LO (es:cR) (z:Str):(bx (yc es) (.inr z)).isSome=decide (z∈es.map (·.1)):=by
 by_cases h:z∈es.map (·.1)
 ·rw [decide_eq_true h,BA,Option.isSome_map]
  obtain ⟨e,he,rfl⟩:=List.mem_map.mp h
  rw [List.find?_isSome]
  exact ⟨e,he,decide_eq_true rfl⟩
 ·rw [decide_eq_false h,Dn h];rfl
def G5 (cI:Addr):Sp:=λ vs H Q _ => ∃ (b dx:Addr) (L:Cells),vs = [.ref b]/\Led H ((b,.ins cI dx [])::L) ∧ ∀ d H',Led H' (Jq cI b dx d [] L)->Q .aH H'
theorem LP (D:nG K cI "Files.__init__" dQ) (T:Txt K mg cU cA cB cC cT cF cD cS cI):iA P w K mg base 1 cI ["self"] (G5 cI):=by
 have sc:=m8
 refine D.ok m8 (λ vs H Q E h => ?_) (λ _ _ _ _ _ _ us hl=>match us,hl with | [_],_=>rfl) (λ f cdv A outer s H vs Q E hr h => ?_)
 ·obtain ⟨_,_,_,rfl,_⟩:=h;rfl
 ·obtain ⟨b,dx,L,rfl,hL,k⟩:=h
  refine ⟨_,(@ak _ _ _ (@cj _ _ _ _ _ _ _ _ _ _ T.gw T.bW (@ao _ 0 _ _ (by walk_at "v")) (@u9 _ _) (by rfl))),?_⟩
  walk_at "gd"
  rename_i d H5 _ eX _
  have iu:=(eX.swap).put (o' := .ins cI dx (iS d)) rfl rfl
  exact k d _ iu
def LQ (cI cA:Addr):Sp:=λ vs H Q E => ∃ (b dx d:Addr) (es:cR) (z:Str),vs = [.ref b,.str z]/\FH cI H b dx d es/\(z∈es.map (·.1)->Q .aH H)/\(z ∉ es.map (·.1)->E (.ref cA) none H)
theorem DY (D:bH K cI "ask_name" "Files.ask_name" bT) (B:iY mg) (T:Txt K mg cU cA cB cC cT cF cD cS cI):aJ P w K mg base 1 cI "ask_name" ["self","name"] (LQ cI cA):=by
 have sc:=iB
 refine D.Dk iB (λ vs H Q E h => ?_) (λ _ _ _ _ _ _ us hl=>match us,hl with | [_,_],_=>rfl) (λ f cdv A outer s H vs Q E hr h => ?_)
 ·obtain ⟨_,_,_,_,_,rfl,_⟩:=h;rfl
 ·obtain ⟨b,dx,d,es,z,rfl,fh,k1,k2⟩:=h
  have hu:=gz hr
  have hf:(iS d).lookup (Str.ofString "rows_by_name")=some (.ref d):=rfl
  have c1:=fh.cb
  have c2:=fh.cd
  refine ⟨_,(@ak _ _ _ (@aU _ _ _ _ _ _ _ _ (@JM _ _ _ _ _ _ (@HN _ _ _ _ _ hu (@ao _ 1 _ _ (by walk_at "v")) (@ay _ _ _ _ _ _ _ T.gw T.bW (@ao _ 0 _ _ (by walk_at "v")) (by rfl))) (by first | exact oK _ (by decide) (by decide) | rfl)) (@ak _ _ _ (@i9 _ _ _ _ _ _ _ _ _ _ _ _ _ _ _ _ _ _ _ _ _ _ T.Rj (by rfl) (@aa _ _ _ _ _ (@cW _ _ _ _) (@ai _) (by rfl)) (by decide) (by rfl))) (@aE _))),?_⟩
  walk_at "ge"
  refine Uw c2 ?_
  rw [LO]
  by_cases hz:z∈es.map (·.1)
  ·rw [decide_eq_true hz]
   walk_at "ge"
   exact k1 hz
  ·rw [decide_eq_false hz]
   walk_at "ge"
   refine nI λ R hR => ?_
   walk_at "ge"
   exact ⟨by decide,k2 hz⟩
def LR (cI cA:Addr):Sp:=λ vs H Q E => ∃ (b dx d:Addr) (es:cR) (z:Str),vs = [.ref b,.str z]/\FH cI H b dx d es/\(∀ e∈es,e.1=z->Q (.int (e.2.2.length:Nat)) H)/\(z ∉ es.map (·.1)->E (.ref cA) none H)
theorem Og (D:bH K cI "size_of" "Files.size_of" b4) (B:iY mg) (T:Txt K mg cU cA cB cC cT cF cD cS cI) (rW:aJ P w K mg base 1 cI "ask_name" ["self","name"] (LQ cI cA)):aJ P w K mg base 2 cI "size_of" ["self","name"] (LR cI cA):=by
 have sc:=jb
 refine D.Dk jb (λ vs H Q E h => ?_) (λ _ _ _ _ _ _ us hl=>match us,hl with | [_,_],_=>rfl) (λ f cdv A outer s H vs Q E hr h => ?_)
 ·obtain ⟨_,_,_,_,_,rfl,_⟩:=h;rfl
 ·obtain ⟨b,dx,d,es,z,rfl,fh,k1,k2⟩:=h
  have hu:=gz hr
  have hf:(iS d).lookup (Str.ofString "rows_by_name")=some (.ref d):=rfl
  have c1:=fh.cb
  have c2:=fh.cd
  refine ⟨_,(@ah _ _ _ _ _ (@bY _ _ _ _ (@aP _ _ _ _ _ _ _ _ _ _ _ _ _ _ _ _ T.gw rW (hr.mono (by omega)) jR (@ao _ 0 _ _ (by walk_at "v")) (@aa _ _ _ _ _ (@ao _ 1 _ _ (by walk_at "v")) (@ai _) (by rfl)) (by rfl) (by rfl) (by rfl)) (by rfl)) (@ak _ _ _ (@aD _ _ _ _ (@aK _ _ _ _ _ _ _ _ _ aS (by rfl) B.len bR (@aa _ _ _ _ _ (@gA _ _ _ _ _ _ hu (@ay _ _ _ _ _ _ _ T.gw T.bW (@ao _ 0 _ _ (by walk_at "v")) (by rfl)) (@ao _ 1 _ _ (by walk_at "v")) (λ _ _=>rfl)) (@ai _) (by rfl)) (by decide) (by decide) (by rfl) (by rfl))))),?_⟩
  refine aF λ M1 K1 => ?_
  walk_at "ge"
  refine ⟨b,dx,d,es,z,rfl,fh,λ hz => ?_,λ hz => ?_⟩
  ·obtain ⟨e,he,rfl⟩:=List.mem_map.mp hz
   have c3:=fh.cf e he
   walk_at "ge"
   refine K1.use ?_
   walk_at "cl"
   clear K1
   walk_at "ge"
   refine KJ c2 (vv fh.nd he) ?_
   walk_at "ge"
   rw [gD]
   exact k1 e he rfl
  ·exact k2 hz
def Gi (cI cA cB:Addr):Sp:=λ vs H Q E => ∃ (b dx d:Addr) (es:cR) (z:Str) (p:Int),vs = [.ref b,.str z,.int p]/\FH cI H b dx d es/\(∀ e∈es,e.1=z->0<=p->p < e.2.2.length->Q .aH H)/\(∀ e∈es,e.1=z->¬ (0<=p/\p < e.2.2.length)->E (.ref cB) none H)/\(z ∉ es.map (·.1)->E (.ref cA) none H)
theorem DZ (D:bH K cI "ask_page" "Files.ask_page" bU) (B:iY mg) (T:Txt K mg cU cA cB cC cT cF cD cS cI) (uE:aJ P w K mg base 2 cI "size_of" ["self","name"] (LR cI cA)):aJ P w K mg base 3 cI "ask_page" ["self","name","page"] (Gi cI cA cB):=by
 have sc:=iC
 refine D.Dk iC (λ vs H Q E h => ?_) (λ _ _ _ _ _ _ us hl=>match us,hl with | [_,_,_],_=>rfl) (λ f cdv A outer s H vs Q E hr h => ?_)
 ·obtain ⟨_,_,_,_,_,_,rfl,_⟩:=h;rfl
 ·obtain ⟨b,dx,d,es,z,p,rfl,fh,k1,k2,k3⟩:=h
  have c1:=fh.cb
  refine ⟨_,(@ah _ _ _ _ _ (@aL _ _ 3 _ _ _ _ sc.nd rfl (by walk_at "o2") (@aP _ _ _ _ _ _ _ _ _ _ _ _ _ _ _ _ T.gw uE (hr.mono (by omega)) jR (@ao _ 0 _ _ (by walk_at "v")) (@aa _ _ _ _ _ (@ao _ 1 _ _ (by walk_at "v")) (@ai _) (by rfl)) (by rfl) (by rfl) (by rfl)) (by rfl) (by walk_at "o4")) (@ak _ _ _ (@aU _ _ _ _ _ _ _ _ (@PW.pt _ _ _ (@pw_or _ _ _ _ _ _ _ (@aI _ _ _ _ _ _ _ _ O0 (@ao _ 2 _ _ (by walk_at "v")) (@aj _ _ _ _) (aO _)) (@pw_or1 _ _ _ _ (@aI _ _ _ _ _ _ _ _ S6 (@ao _ 2 _ _ (by walk_at "v")) (@ao _ 3 _ _ (by walk_at "v")) (aO _))))) (@ak _ _ _ (@i9 _ _ _ _ _ _ _ _ _ _ _ _ _ _ _ _ _ _ _ _ _ _ T.Rk (by rfl) (@aa _ _ _ _ _ (@cW _ _ _ _) (@ai _) (by rfl)) (by decide) (by rfl))) (@aE _)))),?_⟩
  refine aF λ M1 K1 => ?_
  walk_at "ge"
  refine ⟨b,dx,d,es,z,rfl,fh,λ e he hz => ?_,λ hz => ?_⟩
  ·walk_at "ge"
   refine K1.use ?_
   walk_at "cl"
   clear K1
   walk_at "ge"
   ·refine nI λ R hR => ?_
    walk_at "ge"
    exact ⟨by decide,k2 e he hz (by omega)⟩
   ·refine nI λ R hR => ?_
    walk_at "ge"
    exact ⟨by decide,k2 e he hz (by omega)⟩
   ·exact k1 e he hz (by omega) (by omega)
  ·exact k3 hz
def G6 (cI cA cB:Addr):Sp:=λ vs H Q E => ∃ (b dx d r0:Addr) (es:cR) (z:Str) (p:Int) (row:List Int) (R:Cells),vs = [.ref b,.str z,.int p,.ref r0]/\Led H (Jq cI b dx d es R)/\(es.map (·.1)).Nodup/\(r0,HO.lst (row.map V.int))∈R/\row.length<=600/\(∀ (as bs:cR) (e:yq),es=as++e::bs->e.1=z->∀ j:Nat,p=((j:Nat):Int)->j < e.2.2.length->∀ (nr:Addr) (H':Hp),Led H' (Jq cI b dx d (as++(e.1,e.2.1,e.2.2.set j (nr,row))::bs) ((nr,.lst (row.map V.int))::R))->Q .aH H')/\(∀ e∈es,e.1=z->¬ (0<=p/\p < e.2.2.length)->E (.ref cB) none H)/\(z ∉ es.map (·.1)->E (.ref cA) none H)
theorem LS (D:bH K cI "store_row" "Files.store_row" bN) (B:iY mg) (T:Txt K mg cU cA cB cC cT cF cD cS cI) (fQ:aJ P w K mg base 3 cI "ask_page" ["self","name","page"] (Gi cI cA cB)):aJ P w K mg base 4 cI "store_row" ["self","name","page","row"] (G6 cI cA cB):=by
 have sc:=gU
 refine D.Dk gU (λ vs H Q E h => ?_) (λ _ _ _ _ _ _ us hl=>match us,hl with | [_,_,_,_],_=>rfl) (λ f cdv A outer s H vs Q E hr h => ?_)
 ·obtain ⟨_,_,_,_,_,_,_,_,_,rfl,_⟩:=h;rfl
 ·obtain ⟨b,dx,d,r0,es,z,p,row,R,rfl,hL,nd,p9,hrl,k1,k2,k3⟩:=h
  have hu:=gz hr
  have hf:(iS d).lookup (Str.ofString "rows_by_name")=some (.ref d):=rfl
  have fh:=FH.of hL nd
  have c1:=fh.cb
  have c2:=fh.cd
  have mr:(row.map V.int).length=row.length:=List.length_map _
  refine ⟨_,(@ah _ _ _ _ _ (@bY _ _ _ _ (@aP _ _ _ _ _ _ _ _ _ _ _ _ _ _ _ _ T.gw fQ (hr.mono (by omega)) jR (@ao _ 0 _ _ (by walk_at "v")) (@aa _ _ _ _ _ (@ao _ 1 _ _ (by walk_at "v")) (@aa _ _ _ _ _ (@ao _ 2 _ _ (by walk_at "v")) (@ai _) (by rfl)) (by rfl)) (by rfl) (by rfl) (by rfl)) (by rfl)) (@ak _ _ _ (@bC _ _ _ _ _ _ (@br _ _ _ _ _ _ _ _ _ (aT (K:=K) rfl) (by rfl) B.list bZ (@aa _ _ _ _ _ (@ao _ 3 _ _ (by walk_at "v")) (@ai _) (by rfl)) (by decide) (by decide) (by rfl) (by rfl)) (@bG _ _ _ _ _ _ _ (@gA _ _ _ _ _ _ hu (@ay _ _ _ _ _ _ _ T.gw T.bW (@ao _ 0 _ _ (by walk_at "v")) (by rfl)) (@ao _ 1 _ _ (by walk_at "v")) (λ _ _=>rfl)) (@ao _ 2 _ _ (by walk_at "v")) set_list (by intro _;rfl)) (by rfl) (by rfl) (by rfl)))),?_⟩
  refine aF λ M1 K1 => ?_
  walk_at "ge"
  refine ⟨b,dx,d,es,z,p,rfl,fh,λ e he hz p0 p1 => ?_,λ e he hz hp => ?_,λ hz => ?_⟩
  ·subst hz
   obtain ⟨j,rfl⟩:=Int.eq_ofNat_of_zero_le p0
   have hj:j < e.2.2.length:=by omega
   have hjl:j < (oH e.2.2).length:=by rw [gD];exact hj
   have hkv:=vv nd he
   obtain ⟨as,bs,rfl,_⟩:=Rh nd he
   have nv:=hL.get (mC (mC (mA p9)))
   walk_at "ge"
   refine K1.use ?_
   walk_at "cl"
   clear K1
   walk_at "ge"
   rename_i nr H2 _ hl2 _ _ _ _ _ _ _
   have c3:H2 d=some (.dK (yc (as++e::bs))):=hl2.get (mC (mC mS))
   refine KJ c3 hkv ?_
   walk_at "ge"
   have hl3:Led H2 ((e.2.1,.lst (oH e.2.2))::(b,.ins cI dx (iS d))::(d,.dK (yc (as++e::bs)))::(nJ as++(nJ bs++((nr,.lst (row.map V.int))::R)))):=hl2.wk (by unfold Jq;rw [Dp];simp only [List.append_assoc,List.cons_append];walk_at "sp")
   refine cH (hl3.get mS) (bD (by omega) (by omega)) ?_
   rw [Int.toNat_natCast,show (oH e.2.2).set j (V.ref nr)=oH (e.2.2.set j (nr,row)) by unfold oH;rw [List.map_set]]
   have bM:=hl3.put (o' := .lst (oH (e.2.2.set j (nr,row)))) rfl rfl
   walk_at "ge"
   refine k1 as bs e rfl rfl j rfl hj nr _ (bM.wk ?_)
   unfold Jq
   rw [Dp,<-NH as bs e (e.1,e.2.1,e.2.2.set j (nr,row)) rfl rfl]
   simp only [List.append_assoc,List.cons_append]
   walk_at "sp"
  ·exact k2 e he hz hp
  ·exact k3 hz
def xJ (K:PySem.W.Frag):Sp:=λ vs H Q _ => ∃ (a:Addr) (ns:List Int) (j:Int),vs = [.ref a,.int j]/\0<=j/\eY K H a (ns.map V.int)/\Q (.int (ns.getD j.toNat 0)) H
theorem Gj (D:Def K mg "_law_cell_at" eT) (B:iY mg):cZ P w K mg base 1 "_law_cell_at" ["_law_script","_law_k"] (xJ K):=by
 refine D.ok BC (λ vs H Q E h => ?_) (λ _ _ _ _ _ _ us hl=>match us,hl with | [_,_],_=>rfl) (λ f cdv A outer s H vs Q E hr h => ?_)
 ·obtain ⟨_,_,_,rfl,_⟩:=h;rfl
 ·obtain ⟨a,ns,j,rfl,hj0,hS,k⟩:=h
  obtain ⟨j,rfl⟩:=Int.eq_ofNat_of_zero_le hj0
  refine ⟨_,(@ah _ _ _ _ _ (@aU _ _ _ _ _ _ _ _ (@aI _ _ _ _ _ _ _ _ O0 (@ao _ 1 _ _ (by walk_at "v")) (@aK _ _ _ _ _ _ _ _ _ (ym (K:=K) rfl) (by rfl) B.len bR (@aa _ _ _ _ _ (@ao _ 0 _ _ (by walk_at "v")) (@ai _) (by rfl)) (by decide) (by decide) (by rfl) (by rfl)) (aO _)) (@ak _ _ _ (@aD _ _ _ _ (@aY _ _ _ _ _ _ _ (Kw (K:=K) rfl) (@ao _ 0 _ _ (by walk_at "v")) (@ao _ 1 _ _ (by walk_at "v")) (λ _ _=>rfl)))) (@aE _)) (@ak _ _ _ (@aD _ _ _ _ (@aj _ _ _ _)))),?_⟩
  simp only [JQ,M5,GH,Qp,HC,L2.start,List.map_cons,List.map_nil,List.length_cons,List.length_nil,Nat.zero_add,Nat.reduceAdd,Nat.reduceSub,List.replicate,List.append_nil,List.getElem?_cons_succ,List.getElem?_cons_zero,Option.some.injEq,Td,GI,CW,List.cons.injEq,and_true,MN,V.int.injEq,V.bl.injEq,M4,QD,exists_and_left,exists_eq_left',V.ref.injEq,GB,tC,decide_eq_true_eq]
  refine ⟨_,.inl hS,?_⟩
  rw [List.length_map]
  rw [Int.toNat_natCast] at k
  refine Wt (λ hlt => ?_) (λ hge => ?_)
  ·refine ⟨_,hS,_,gB (j:=j) (v:=V.int (ns.getD j 0)) ?_,k⟩
   have hj:j < ns.length:=by omega
   simp [hj]
  ·rw [List.getD_eq_getElem?_getD,List.getElem?_eq_none (by omega)] at k
   exact k
def Co:Sp:=λ vs H Q _ => ∃ n:Int,vs = [.int n]/\Q (.bl true) H
theorem LU (D:Def K mg "_law_whole" gO) (B:iY mg) (T:Txt K mg cU cA cB cC cT cF cD cS cI):cZ P w K mg base 1 "_law_whole" ["_law_found"] Co:=by
 refine D.ok vD (λ vs H Q E h => ?_) (λ _ _ _ _ _ _ us hl=>match us,hl with | [_],_=>rfl) (λ f cdv A outer s H vs Q E hr h => ?_)
 ·obtain ⟨_,rfl,_⟩:=h;rfl
 ·obtain ⟨n,rfl,k⟩:=h
  have sc:=vD
  refine ⟨_,(@ak _ _ _ (@aD _ _ _ _ (@uX _ _ _ _ _ _ _ (@aK _ _ _ _ _ _ _ _ _ dg (by rfl) B.isinstance bw (@aa _ _ _ _ _ (@ao _ 0 _ _ (by walk_at "v")) (@aa _ _ _ _ _ (@fT _ _ (.ty "int") _ _ (by rfl) B.int Ko rfl (by decide) (by decide)) (@ai _) (by rfl)) (by rfl)) (by decide) (by decide) (by rfl) (by rfl)) (@nB _ _ _ _ _ (@Es _ _ _ _ (@aK _ _ _ _ _ _ _ _ _ dg (by rfl) B.isinstance bw (@aa _ _ _ _ _ (@ao _ 0 _ _ (by walk_at "v")) (@aa _ _ _ _ _ (@fT _ _ (.ty "bool") _ _ (by rfl) B.bool Bf rfl (by decide) (by decide)) (@ai _) (by rfl)) (by rfl)) (by decide) (by decide) (by rfl) (by rfl))))))),?_⟩
  walk_at "ge"
  exact k
def LV (x y:V):Prop:=(x = .aH/\y = .aH)\/(∃ b,x = .bl b/\y = .bl b)\/(∃ n,x = .int n/\y = .int n)\/(∃ z,x = .str z/\y = .str z)
def Alike (H:Hp):Nat->V->V->Prop
 | 0,x,y=>LV x y
 | k+1,x,y=>LV x y ∨ ∃ a b xs ys,x = .ref a/\y = .ref b/\((H a=some (.lst xs)/\H b=some (.lst ys))\/(H a=some (.tup xs)/\H b=some (.tup ys)))/\xs.length=ys.length/\ys.length<=100000 ∧ ∀ (i:Nat) x' y',xs[i]? = some x'->ys[i]? = some y'->Alike H k x' y'
def jN (k:Nat):Sp:=λ vs H Q _ => ∃ x y,vs = [x,y]/\Alike H k x y/\Q (.bl true) H
theorem xK (D:Def K mg "_law_alike" eU) (B:iY mg) (T:Txt K mg cU cA cB cC cT cF cD cS cI) {n:Nat} {sp0:Sp} (fE:cZ P w K mg base 1 "_law_whole" ["_law_found"] Co) (aM:cZ P w K mg base (n+1) "_law_alike" ["_law_found","_law_due"] sp0) (k:Nat) (hrec : ∀ (H:Hp) (x y:V) (Q:VK) (j:Nat),k=j+1->Alike H j x y->Q (.bl true) H->sp0 [x,y] H Q E0):cZ P w K mg base (n+2) "_law_alike" ["_law_found","_law_due"] (jN k):=by
 refine D.ok nK (λ vs H Q E h => ?_) (λ _ _ _ _ _ _ us hl=>match us,hl with | [_,_],_=>rfl) (λ f cdv A outer s H vs Q E hr h => ?_)
 ·obtain ⟨_,_,rfl,_⟩:=h;rfl
 ·obtain ⟨x,y,rfl,ha,kq⟩:=h
  have sc:=nK
  refine ⟨_,(@ah _ _ _ _ _ (@aU _ _ _ _ _ _ _ _ (@aI _ _ _ _ _ _ _ _ J1 (@ao _ 1 _ _ (by walk_at "v")) (@bF _ _ _) (aO _)) (@ak _ _ _ (@aD _ _ _ _ (@jC _ _ _ _ _ _ _ _ J1 (@ao _ 0 _ _ (by walk_at "v")) (@bF _ _ _) (aO _)))) (@aE _)) (@ah _ _ _ _ _ (@aU _ _ _ _ _ _ _ _ (@bJ _ _ _ (@aK _ _ _ _ _ _ _ _ _ dg (by rfl) B.isinstance bw (@aa _ _ _ _ _ (@ao _ 1 _ _ (by walk_at "v")) (@aa _ _ _ _ _ (@fT _ _ (.ty "bool") _ _ (by rfl) B.bool Bf rfl (by decide) (by decide)) (@ai _) (by rfl)) (by rfl)) (by decide) (by decide) (by rfl) (by rfl)) (by intro _;rfl)) (@ak _ _ _ (@aD _ _ _ _ (@uX _ _ _ _ _ _ _ (@aK _ _ _ _ _ _ _ _ _ dg (by rfl) B.isinstance bw (@aa _ _ _ _ _ (@ao _ 0 _ _ (by walk_at "v")) (@aa _ _ _ _ _ (@fT _ _ (.ty "bool") _ _ (by rfl) B.bool Bf rfl (by decide) (by decide)) (@ai _) (by rfl)) (by rfl)) (by decide) (by decide) (by rfl) (by rfl)) (@nB _ _ _ _ _ (@jC _ _ _ _ _ _ _ _ cz (@ao _ 0 _ _ (by walk_at "v")) (@ao _ 1 _ _ (by walk_at "v")) (aO _)))))) (@aE _)) (@ah _ _ _ _ _ (@aU _ _ _ _ _ _ _ _ (@bJ _ _ _ (@aK _ _ _ _ _ _ _ _ _ dg (by rfl) B.isinstance bw (@aa _ _ _ _ _ (@ao _ 1 _ _ (by walk_at "v")) (@aa _ _ _ _ _ (@fT _ _ (.ty "int") _ _ (by rfl) B.int Ko rfl (by decide) (by decide)) (@ai _) (by rfl)) (by rfl)) (by decide) (by decide) (by rfl) (by rfl)) (by intro _;rfl)) (@ak _ _ _ (@aD _ _ _ _ (@uX _ _ _ _ _ _ _ (@aB _ _ _ _ _ _ _ _ _ _ _ fE (hr.mono (by omega)) (by rfl) az (@aa _ _ _ _ _ (@ao _ 0 _ _ (by walk_at "v")) (@ai _) (by rfl)) (by decide) (by rfl) (by rfl)) (@nB _ _ _ _ _ (@jC _ _ _ _ _ _ _ _ cz (@ao _ 0 _ _ (by walk_at "v")) (@ao _ 1 _ _ (by walk_at "v")) (aO _)))))) (@aE _)) (@ah _ _ _ _ _ (@aU _ _ _ _ _ _ _ _ (@bJ _ _ _ (@aK _ _ _ _ _ _ _ _ _ dg (by rfl) B.isinstance bw (@aa _ _ _ _ _ (@ao _ 1 _ _ (by walk_at "v")) (@aa _ _ _ _ _ (@fT _ _ (.ty "str") _ _ (by rfl) B.str Kp rfl (by decide) (by decide)) (@ai _) (by rfl)) (by rfl)) (by decide) (by decide) (by rfl) (by rfl)) (by intro _;rfl)) (@ak _ _ _ (@aD _ _ _ _ (@uX _ _ _ _ _ _ _ (@aK _ _ _ _ _ _ _ _ _ dg (by rfl) B.isinstance bw (@aa _ _ _ _ _ (@ao _ 0 _ _ (by walk_at "v")) (@aa _ _ _ _ _ (@fT _ _ (.ty "str") _ _ (by rfl) B.str Kp rfl (by decide) (by decide)) (@ai _) (by rfl)) (by rfl)) (by decide) (by decide) (by rfl) (by rfl)) (@nB _ _ _ _ _ (@jC _ _ _ _ _ _ _ _ cz (@ao _ 0 _ _ (by walk_at "v")) (@ao _ 1 _ _ (by walk_at "v")) (aO _)))))) (@aE _)) (@ah _ _ _ _ _ (@aU _ _ _ _ _ _ _ _ (@bJ _ _ _ (@aK _ _ _ _ _ _ _ _ _ dg (by rfl) B.isinstance bw (@aa _ _ _ _ _ (@ao _ 1 _ _ (by walk_at "v")) (@aa _ _ _ _ _ (@fT _ _ (.ty "tuple") _ _ (by rfl) B.tuple C8 rfl (by decide) (by decide)) (@ai _) (by rfl)) (by rfl)) (by decide) (by decide) (by rfl) (by rfl)) (by intro _;rfl)) (@ak _ _ _ (@aU _ _ _ _ _ _ _ _ (@ef _ _ _ _ (@bJ _ _ _ (@aK _ _ _ _ _ _ _ _ _ dg (by rfl) B.isinstance bw (@aa _ _ _ _ _ (@ao _ 0 _ _ (by walk_at "v")) (@aa _ _ _ _ _ (@fT _ _ (.ty "tuple") _ _ (by rfl) B.tuple C8 rfl (by decide) (by decide)) (@ai _) (by rfl)) (by rfl)) (by decide) (by decide) (by rfl) (by rfl)) (by intro _;rfl))) (@ak _ _ _ (@aD _ _ _ _ (@bB _ _ _ _))) (@aE _))) (@ak _ _ _ (@aU _ _ _ _ _ _ _ _ (@ef _ _ _ _ (@bJ _ _ _ (@aK _ _ _ _ _ _ _ _ _ dg (by rfl) B.isinstance bw (@aa _ _ _ _ _ (@ao _ 0 _ _ (by walk_at "v")) (@aa _ _ _ _ _ (@fT _ _ (.ty "list") _ _ (by rfl) B.list bZ rfl (by decide) (by decide)) (@ai _) (by rfl)) (by rfl)) (by decide) (by decide) (by rfl) (by rfl)) (by intro _;rfl))) (@ak _ _ _ (@aD _ _ _ _ (@bB _ _ _ _))) (@aE _)))) (@ah _ _ _ _ _ (@aU _ _ _ _ _ _ _ _ (@aI _ _ _ _ _ _ _ _ OZ (@aK _ _ _ _ _ _ _ _ _ aS (by rfl) B.len bR (@aa _ _ _ _ _ (@ao _ 0 _ _ (by walk_at "v")) (@ai _) (by rfl)) (by decide) (by decide) (by rfl) (by rfl)) (@aK _ _ _ _ _ _ _ _ _ aS (by rfl) B.len bR (@aa _ _ _ _ _ (@ao _ 1 _ _ (by walk_at "v")) (@ai _) (by rfl)) (by decide) (by decide) (by rfl) (by rfl)) (aO _)) (@ak _ _ _ (@aD _ _ _ _ (@bB _ _ _ _))) (@aE _)) (@ah _ _ _ _ _ (@jA _ _ _ _ _ _ _ _ PassesOwn.never rfl (@cy _ _ _ _ _ _ (by rfl) B.range (@aa _ _ _ _ _ (@aK _ _ _ _ _ _ _ _ _ aS (by rfl) B.len bR (@aa _ _ _ _ _ (@ao _ 1 _ _ (by walk_at "v")) (@ai _) (by rfl)) (by decide) (by decide) (by rfl) (by rfl)) (@ai _) (by rfl)) (by rfl)) (@fc _ _ 2 _ sc.nd rfl (by walk_at "o2") (by walk_at "o4")) (@ak _ _ _ (@aU _ _ _ _ _ _ _ _ (@ef _ _ _ _ (@bJ _ _ _ (@aB _ _ _ _ _ _ _ _ _ _ _ aM (hr.mono (by omega)) (by rfl) az (@aa _ _ _ _ _ (@aY _ _ _ _ _ _ _ aQ (@ao _ 0 _ _ (by walk_at "v")) (@ao _ 2 _ _ (by walk_at "v")) (λ _ _=>rfl)) (@aa _ _ _ _ _ (@aY _ _ _ _ _ _ _ aQ (@ao _ 1 _ _ (by walk_at "v")) (@ao _ 2 _ _ (by walk_at "v")) (λ _ _=>rfl)) (@ai _) (by rfl)) (by rfl)) (by decide) (by rfl) (by rfl)) (by intro _;rfl))) (@ak _ _ _ (@aD _ _ _ _ (@bB _ _ _ _))) (@aE _))) (by intro _;rfl)) (@ak _ _ _ (@aD _ _ _ _ (@bB _ _ _ _)))))))))),?_⟩
  have ha2:LV x y ∨ ∃ a b xs ys j,k=j+1/\x = .ref a/\y = .ref b/\((H a=some (.lst xs)/\H b=some (.lst ys))\/(H a=some (.tup xs)/\H b=some (.tup ys)))/\xs.length=ys.length/\ys.length<=100000 ∧ ∀ (i:Nat) x' y',xs[i]? = some x'->ys[i]? = some y'->Alike H j x' y':=by
   cases k with
   | zero=>exact .inl ha
   | succ j =>
     rcases ha with h | ⟨a,b,xs,ys,h1,h2,h3,h4,h5,h6⟩
     ·exact .inl h
     ·exact .inr ⟨a,b,xs,ys,j,rfl,h1,h2,h3,h4,h5,h6⟩
  clear ha
  rcases ha2 with (⟨rfl,rfl⟩ | ⟨c,rfl,rfl⟩ | ⟨m,rfl,rfl⟩ | ⟨z,rfl,rfl⟩) | ⟨a,b,xs,ys,j,hk,rfl,rfl,hh,hxy,hyl,hin⟩
  ·walk_at "ge"
   all_goals first | exact kq | (exfalso;simp_all;done)
  ·walk_at "ge"
   all_goals first | (exfalso;simp_all;done) | skip
   rw [decide_eq_true rfl]
   exact kq
  ·walk_at "ge"
   all_goals first | (exfalso;simp_all;done) | skip
   refine ⟨m,rfl,?_⟩
   walk_at "ge"
   rw [decide_eq_true rfl]
   exact kq
  ·walk_at "ge"
   all_goals first | (exfalso;simp_all;done) | skip
   rw [decide_eq_true rfl]
   exact kq
  ·have fin : ∀ (Lx:Hp->Prop),True:=λ _=>True.intro
   rcases hh with ⟨c1,c2⟩ | ⟨c1,c2⟩
   ·refine aF λ M1 K1 => ?_
    walk_at "ge"
    all_goals first | (exfalso;simp_all;done) | skip
    refine K1.use ?_
    walk_at "cl"
    clear K1
    refine aF λ M1 K1 => ?_
    walk_at "ge"
    refine K1.use ?_
    walk_at "cl"
    clear K1
    refine aF λ M1 K1 => ?_
    walk_at "ge"
    refine K1.use ?_
    walk_at "cl"
    clear K1
    refine aF λ M1 K1 => ?_
    walk_at "ge"
    refine K1.use ?_
    walk_at "cl"
    clear K1
    refine aF λ M1 K1 => ?_
    walk_at "ge"
    refine K1.use ?_
    walk_at "cl"
    clear K1
    refine aF λ M1 K1 => ?_
    walk_at "ge"
    all_goals first | (exfalso;omega) | skip
    refine K1.use ?_
    walk_at "cl"
    clear K1
    refine aF λ M1 K1 => ?_
    refine sE λ Lr qb => ?_
    walk_at "ge"
    refine ⟨_,rfl,by omega,by omega,qb.use ?_⟩
    clear qb
    rw [show ((ys.length:Int)).toNat=ys.length by omega]
    refine sF (λ i σ H'=>H' = H ∧ ∃ v1,σ = [some (.ref a),some (.ref b),v1]) ⟨rfl,_,rfl⟩ ?_ ?_
    ·rintro i σ H' hi ⟨rfl,v1,rfl⟩
     have a1:iw xs (0+(i:Int))=some xs[i]:=cX (by omega) (by rw [show (0+(i:Int)).toNat=i by omega];exact List.getElem?_eq_getElem (by omega))
     have a2:iw ys (0+(i:Int))=some ys[i]:=cX (by omega) (by rw [show (0+(i:Int)).toNat=i by omega];exact List.getElem?_eq_getElem (by omega))
     walk_at "ge"
     refine hrec _ _ _ _ j hk (hin i _ _ (List.getElem?_eq_getElem (by omega)) (List.getElem?_eq_getElem (by omega))) ?_
     walk_at "ge"
     exact ⟨rfl,_,rfl⟩
    ·rintro σ H' ⟨rfl,v1,rfl⟩
     walk_at "ge"
     refine K1.use ?_
     walk_at "ge"
     exact kq
   ·refine aF λ M1 K1 => ?_
    walk_at "ge"
    all_goals first | (exfalso;simp_all;done) | skip
    refine K1.use ?_
    walk_at "cl"
    clear K1
    refine aF λ M1 K1 => ?_
    walk_at "ge"
    refine K1.use ?_
    walk_at "cl"
    clear K1
    refine aF λ M1 K1 => ?_
    walk_at "ge"
    refine K1.use ?_
    walk_at "cl"
    clear K1
    refine aF λ M1 K1 => ?_
    walk_at "ge"
    refine K1.use ?_
    walk_at "cl"
    clear K1
    refine aF λ M1 K1 => ?_
    walk_at "ge"
    refine K1.use ?_
    walk_at "cl"
    clear K1
    refine aF λ M1 K1 => ?_
    walk_at "ge"
    all_goals first | (exfalso;omega) | skip
    refine K1.use ?_
    walk_at "cl"
    clear K1
    refine aF λ M1 K1 => ?_
    refine sE λ Lr qb => ?_
    walk_at "ge"
    refine ⟨_,rfl,by omega,by omega,qb.use ?_⟩
    clear qb
    rw [show ((ys.length:Int)).toNat=ys.length by omega]
    refine sF (λ i σ H'=>H' = H ∧ ∃ v1,σ = [some (.ref a),some (.ref b),v1]) ⟨rfl,_,rfl⟩ ?_ ?_
    ·rintro i σ H' hi ⟨rfl,v1,rfl⟩
     have a1:iw xs (0+(i:Int))=some xs[i]:=cX (by omega) (by rw [show (0+(i:Int)).toNat=i by omega];exact List.getElem?_eq_getElem (by omega))
     have a2:iw ys (0+(i:Int))=some ys[i]:=cX (by omega) (by rw [show (0+(i:Int)).toNat=i by omega];exact List.getElem?_eq_getElem (by omega))
     walk_at "ge"
     refine hrec _ _ _ _ j hk (hin i _ _ (List.getElem?_eq_getElem (by omega)) (List.getElem?_eq_getElem (by omega))) ?_
     walk_at "ge"
     exact ⟨rfl,_,rfl⟩
    ·rintro σ H' ⟨rfl,v1,rfl⟩
     walk_at "ge"
     refine K1.use ?_
     walk_at "ge"
     exact kq
theorem D0 (D:Def K mg "_law_alike" eU):cZ P w K mg base 1 "_law_alike" ["_law_found","_law_due"] (λ _ _ _ _=>False) :=
 D.ok nK (λ vs H Q E h=>h.elim) (λ _ _ _ _ _ _ us hl=>match us,hl with | [_,_],_=>rfl) (λ f cdv A outer s H vs Q E hr h=>h.elim)
theorem D3 (D:Def K mg "_law_alike" eU) (B:iY mg) (T:Txt K mg cU cA cB cC cT cF cD cS cI) (fE:cZ P w K mg base 1 "_law_whole" ["_law_found"] Co) : ∀ k:Nat,cZ P w K mg base (k+2) "_law_alike" ["_law_found","_law_due"] (jN k)
 | 0=>xK D B T fE (D0 D) 0 λ _ _ _ _ j h=>nomatch h
 | k+1=>xK D B T fE (D3 D B T fE k) (k+1) λ H x y Q j h ha hq=>by
     cases h
     exact ⟨x,y,rfl,ha,hq⟩
def Ry (j:Int):Int:=if j % 4=0 then 48271 else if j % 4=1 then 10 ^ 20+39 else if j % 4=2 then 10 ^ 40+121 else 10 ^ 59+7
def G7 (c j:Int):Int:=c * Ry j+7919 * j * j
def Pz (c j:Int):Int:=(c+5 * j) * 69621 % 15101 % 6
def numAt (big wy:Int):Int:=match iw [V.int (big % 9),.int (big % (999999999999999999999999999999999999999999999999999999999999+1)),.int (-(big % (999999999999999999999999999999999999999999999999999999999999+1))),.int (999999999999999999999999999999999999999999999999999999999999 - big % 2),.int (big % 2 - 999999999999999999999999999999999999999999999999999999999999),.int (-1 - big % 7)] wy with | some (.int z)=>z | _=>0
def numOf (c j:Int):Int:=numAt (G7 c j) (Pz c j)
def rowOf (c:Int):List Int:=(List.range 4).map λ k:Nat=>numOf (c+31 * (k:Int)) (k:Int)
theorem mD (c:Int):(rowOf c).length=4:=by unfold rowOf;rw [List.length_map,List.length_range]
def LW:Sp:=λ vs H Q _ => ∃ (c k:Int) (L:Cells),vs = [.int c,.int k]/\Builtin.Int.intBits c<=1500000/\0<=k/\k<=1000/\Led H L ∧ ∀ (H':Hp),Led H' L->Q (.int (numOf c k)) H'
theorem Rz (D:Def K mg "_law_num" mq) (T:Txt K mg cU cA cB cC cT cF cD cS cI):cZ P w K mg base 1 "_law_num" ["_law_cell","_law_k"] LW:=by
 have sc:=Ds
 refine D.ok Ds (λ vs H Q E h => ?_) (λ _ _ _ _ _ _ us hl=>match us,hl with | [_,_],_=>rfl) (λ f cdv A outer s H vs Q E hr h => ?_)
 ·obtain ⟨_,_,_,rfl,_⟩:=h;rfl
 ·obtain ⟨c,j,L,rfl,hb,j0,j1,hL,k⟩:=h
  refine ⟨_,(@ah _ _ _ _ _ (@aL _ _ 2 _ _ _ _ sc.nd rfl (by walk_at "o2") (@aq _ _ _ _ _ _ _ _ jB (@aq _ _ _ _ _ _ _ _ A7 (@aj _ _ _ _) (@aj _ _ _ _)) (@aj _ _ _ _)) (by rfl) (by walk_at "o4")) (@ah _ _ _ _ _ (@aL _ _ 3 _ _ _ _ sc.nd rfl (by walk_at "o2") (@aq _ _ _ _ _ _ _ _ aV (@aq _ _ _ _ _ _ _ _ oV (@ao _ 0 _ _ (by walk_at "v")) (@aY _ _ _ _ _ _ _ aQ (@iT _ _ _ _ (@aa _ _ _ _ _ (@aj _ _ _ _) (@aa _ _ _ _ _ (@aq _ _ _ _ _ _ _ _ aV (@aq _ _ _ _ _ _ _ _ A7 (@aj _ _ _ _) (@aj _ _ _ _)) (@aj _ _ _ _)) (@aa _ _ _ _ _ (@aq _ _ _ _ _ _ _ _ aV (@aq _ _ _ _ _ _ _ _ A7 (@aj _ _ _ _) (@aj _ _ _ _)) (@aj _ _ _ _)) (@aa _ _ _ _ _ (@aq _ _ _ _ _ _ _ _ aV (@aq _ _ _ _ _ _ _ _ A7 (@aj _ _ _ _) (@aj _ _ _ _)) (@aj _ _ _ _)) (@ai _) (by rfl)) (by rfl)) (by rfl)) (by rfl))) (@aq _ _ _ _ _ _ _ _ aG (@ao _ 1 _ _ (by walk_at "v")) (@aj _ _ _ _)) (λ _ _=>rfl))) (@aq _ _ _ _ _ _ _ _ fN (@aq _ _ _ _ _ _ _ _ fN (@aj _ _ _ _) (@ao _ 1 _ _ (by walk_at "v"))) (@ao _ 1 _ _ (by walk_at "v")))) (by rfl) (by walk_at "o4")) (@ah _ _ _ _ _ (@aL _ _ 4 _ _ _ _ sc.nd rfl (by walk_at "o2") (@aq _ _ _ _ _ _ _ _ aG (@aq _ _ _ _ _ _ _ _ aG (@aq _ _ _ _ _ _ _ _ oV (@aq _ _ _ _ _ _ _ _ aV (@ao _ 0 _ _ (by walk_at "v")) (@aq _ _ _ _ _ _ _ _ fN (@aj _ _ _ _) (@ao _ 1 _ _ (by walk_at "v")))) (@aj _ _ _ _)) (@aj _ _ _ _)) (@aj _ _ _ _)) (by rfl) (by walk_at "o4")) (@ak _ _ _ (@aD _ _ _ _ (@aY _ _ _ _ _ _ _ aQ (@iT _ _ _ _ (@aa _ _ _ _ _ (@aq _ _ _ _ _ _ _ _ aG (@ao _ 3 _ _ (by walk_at "v")) (@aj _ _ _ _)) (@aa _ _ _ _ _ (@aq _ _ _ _ _ _ _ _ aG (@ao _ 3 _ _ (by walk_at "v")) (@aq _ _ _ _ _ _ _ _ aV (@ao _ 2 _ _ (by walk_at "v")) (@aj _ _ _ _))) (@aa _ _ _ _ _ (@OY _ _ _ _ _ _ JZ (@aq _ _ _ _ _ _ _ _ aG (@ao _ 3 _ _ (by walk_at "v")) (@aq _ _ _ _ _ _ _ _ aV (@ao _ 2 _ _ (by walk_at "v")) (@aj _ _ _ _)))) (@aa _ _ _ _ _ (@aq _ _ _ _ _ _ _ _ jB (@ao _ 2 _ _ (by walk_at "v")) (@aq _ _ _ _ _ _ _ _ aG (@ao _ 3 _ _ (by walk_at "v")) (@aj _ _ _ _))) (@aa _ _ _ _ _ (@aq _ _ _ _ _ _ _ _ jB (@aq _ _ _ _ _ _ _ _ aG (@ao _ 3 _ _ (by walk_at "v")) (@aj _ _ _ _)) (@ao _ 2 _ _ (by walk_at "v"))) (@aa _ _ _ _ _ (@aq _ _ _ _ _ _ _ _ jB (@OY _ _ _ _ _ _ JZ (@aj _ _ _ _)) (@aq _ _ _ _ _ _ _ _ aG (@ao _ 3 _ _ (by walk_at "v")) (@aj _ _ _ _))) (@ai _) (by rfl)) (by rfl)) (by rfl)) (by rfl)) (by rfl)) (by rfl))) (@ao _ 4 _ _ (by walk_at "v")) (λ _ _=>rfl))))))),?_⟩
  refine aF λ M1 K1 => ?_
  walk_at "ge"
  refine K1.use ?_
  walk_at "cl"
  clear K1
  refine aF λ M1 K1 => ?_
  have rest : ∀ (big:Int) (H':Hp),big=G7 c j->Led H' L->M1 [some (.int c),some (.int j),some (.int 999999999999999999999999999999999999999999999999999999999999),some (.int big),none] H':=by
   intro big H' abf hl'
   refine K1.use ?_
   clear K1 hL
   refine aF λ M1 K1 => ?_
   walk_at "ge"
   obtain ⟨wy,hwy⟩ : ∃ z:Int,(c+5 * j) * 69621 % 15101 % 6=z:=⟨_,rfl⟩
   have w0:0<=wy:=by rw [<-hwy];exact Int.emod_nonneg _ (by decide)
   have w5:wy<=5:=by have:=Int.emod_lt_of_pos ((c+5 * j) * 69621 % 15101) (show (0:Int) < 6 by decide);omega
   rw [hwy]
   refine K1.use ?_
   walk_at "cl"
   clear K1
   walk_at "ge"
   obtain ⟨z,hz⟩:=W6 (a0:=big % 9) (a1:=big % (999999999999999999999999999999999999999999999999999999999999+1)) (a2 := -(big % (999999999999999999999999999999999999999999999999999999999999+1))) (a3:=999999999999999999999999999999999999999999999999999999999999 - big % 2) (a4:=big % 2 - 999999999999999999999999999999999999999999999999999999999999) (a5 := -1 - big % 7) w0 w5
   have ez:numOf c j=z:=by unfold numOf Pz;rw [<-abf,hwy];unfold numAt;rw [hz]
   refine Q0 (by walk_at "cell") hz ?_
   walk_at "ge"
   rw [<-ez]
   exact k _ (Led.tail (by assumption))
  clear K1
  have h4:j % 4=0\/j % 4=1\/j % 4=2\/j % 4=3:=by omega
  walk_at "ge"
  rcases h4 with h4 | h4 | h4 | h4 <;> rw [h4] <;> walk_at "ge" <;> first | exact rest _ _ (by unfold G7 Ry;rw [h4];rfl) (Led.tail (by assumption)) | (refine iH (Rf (Nat.le_trans hb (by decide)) (by decide)) ?_;walk_at "ge";exact rest _ _ (by unfold G7 Ry;rw [h4];rfl) (Led.tail (by assumption)))
def LX:Sp:=λ vs H Q _ => ∃ (c:Int) (L:Cells),vs = [.int c]/\Builtin.Int.intBits c<=1400000/\Led H L ∧ ∀ (r:Addr) (H':Hp),Led H' ((r,.lst ((rowOf c).map V.int))::L)->Q (.ref r) H'
theorem RA (D:Def K mg "_law_row" mw) (B:iY mg) (T:Txt K mg cU cA cB cC cT cF cD cS cI) (oz:cZ P w K mg base 1 "_law_num" ["_law_cell","_law_k"] LW):cZ P w K mg base 2 "_law_row" ["_law_cell"] LX:=by
 have sc:=Dt
 refine D.ok Dt (λ vs H Q E h => ?_) (λ _ _ _ _ _ _ us hl=>match us,hl with | [_],_=>rfl) (λ f cdv A outer s H vs Q E hr h => ?_)
 ·obtain ⟨_,_,rfl,_⟩:=h;rfl
 ·obtain ⟨c,L,rfl,hb,hL,k⟩:=h
  refine ⟨_,(@ak _ _ _ (@aD _ _ _ _ (@oU _ _ "_law_k" _ _ _ _ _ _ _ _ _ rfl rfl rfl rfl Pg (dh (by kernel_rfl)) (@cy _ _ _ _ _ _ (by rfl) B.range (@aa _ _ _ _ _ (@aj _ _ _ _) (@ai _) (by rfl)) (by rfl)) (λ _ _ _ _=>(@l8 _)) (λ _ _ _ _=>(@aB _ _ _ _ _ _ _ _ _ _ _ oz (hr.mono (by omega)) (by rfl) az (@aa _ _ _ _ _ (@aq _ _ _ _ _ _ _ _ aV (@pk _ 1 _ _ (by kernel_rfl) (by kernel_rfl) (by decide) (by decide)) (@aq _ _ _ _ _ _ _ _ fN (@aj _ _ _ _) (@pk _ 0 _ _ (by kernel_rfl) (by kernel_rfl) (by decide) (by decide)))) (@aa _ _ _ _ _ (@pk _ 0 _ _ (by kernel_rfl) (by kernel_rfl) (by decide) (by decide)) (@ai _) (by rfl)) (by rfl)) (by decide) (by rfl) (by rfl))) (by intro _;rfl)))),?_⟩
  walk_at "ge"
  refine Bv λ Lc mV => ?_
  walk_at "ge"
  refine ⟨_,rfl,by omega,by omega,mV.use ?_⟩
  clear mV
  refine vq (λ i v=>v=V.int (numOf (c+31 * (i:Int)) (i:Int))) hL (by decide) (λ i H2 R q hi hl2 hR => ?_) (λ p acc H2 hlen hacc hl2 => ?_)
  ·have hi4:i < 4:=hi
   walk_at "ge"
   refine ⟨_,_,_,rfl,Nat.le_trans (bits_add hb (by omega) (by omega) (by decide)) (by decide),by omega,by omega,hl2,λ H3 hl3 => ?_⟩
   walk_at "ge"
   exact hR _ _ (by rw [show (0:Int)+(i:Int)=(i:Int) by omega]) hl3
  ·have e:acc=(rowOf c).map V.int:=by
    refine List.ext_getElem? λ i => ?_
    by_cases hi:i < 4
    ·have hl:i < acc.length:=by rw [hlen];exact hi
     rw [List.getElem?_eq_getElem hl,hacc i _ (List.getElem?_eq_getElem hl)]
     rw [List.getElem?_map,rowOf,List.getElem?_map,List.getElem?_range hi]
     rfl
    ·rw [List.getElem?_eq_none (by rw [hlen];exact Nat.le_of_not_lt hi),List.getElem?_eq_none (by rw [List.length_map,mD];exact Nat.le_of_not_lt hi)]
   subst e
   walk_at "ge"
   exact k p _ hl2
end
section
variable {P:Program} {w:World} {K:PySem.W.Frag} {mg:Str->Option Value} {base:Heap} {cU cA cB cC cT cF cD cS cI:Addr}
theorem Led.perm {H:Hp} {L L':Cells} (h:Led H L) (p:L.Perm L'):Led H L':=⟨λ c hc=>h.at_ c (p.mem_iff.mpr hc),((p.filter _).map _).nodup_iff.mp h.nd⟩
structure SS where
 b:Addr
 dx:Addr
 F:FS
 d:Addr
 JH:Addr
 dm:Addr
 p:Nat
 bs:List Bool
 sb:Addr
 LY:Addr
 sl:Addr
 sd:Addr
 ps:List V
 es:j9
 ib:Addr
 ix:Addr
 im:Addr
 fs:cR
 ho:Addr
 hs:List (Int×Int)
 made:Int
def Gk (S:SS):List (Str×V):=[("frames",.ref S.F.b),("dial",.ref S.d),("shelf",.ref S.sb),("files",.ref S.ib),("holders",.ref S.ho),("sheets_made",.int S.made)]
def Em (hs:List (Int×Int)):List (Key×V):=hs.map λ e=>(Sum.inl e.1,V.int e.2)
def AU (cT:Addr) (S:SS):Cells:=[(S.b,.ins cT S.dx (Gk S)),(S.ho,.dK (Em S.hs))]
def qm (cF:Addr) (F:FS):Cells:=[(F.b,.ins cF F.dx (uO F.hl F.rl F.sl)),(F.hl,.lst (F.hs.map aW)),(F.rl,.lst (F.rs.map fD)),(F.sl,.lst (F.bs.map V.bl))]
abbrev En (cD:Addr) (S:SS):Cells:=fL cD S.d S.JH S.dm S.p S.bs
abbrev Eo (cS:Addr) (S:SS):Cells:=Ae cS S.sb S.LY S.sl S.sd S.ps S.es
def CM (cI:Addr) (S:SS):Cells:=(S.ib,.ins cI S.ix (iS S.im))::(S.im,.dK (yc S.fs))::nJ S.fs
def bq (cT cF cD cS cI:Addr) (S:SS) (M:Cells):Cells:=AU cT S++(qm cF S.F++(En cD S++(Eo cS S++(CM cI S++M))))
section
variable {H:Hp} {S:SS} {M N:Cells}
def rF (cT cD cS cI:Addr) (S:SS) (M:Cells):Cells:=AU cT S++(En cD S++(Eo cS S++(CM cI S++M)))
def rD (cT cF cS cI:Addr) (S:SS) (M:Cells):Cells:=AU cT S++(qm cF S.F++(Eo cS S++(CM cI S++M)))
def rS (cT cF cD cI:Addr) (S:SS) (M:Cells):Cells:=AU cT S++(qm cF S.F++(En cD S++(CM cI S++M)))
def rI (cT cF cD cS:Addr) (S:SS) (M:Cells):Cells:=AU cT S++(qm cF S.F++(En cD S++(Eo cS S++M)))
theorem aN {α : Type} (a b m:List α):(a++(b++m)).Perm (b++(a++m)):=by
 rw [<-List.append_assoc,<-List.append_assoc]
 exact List.Perm.append_right _ List.perm_append_comm
theorem St.toF (h:Led H (bq cT cF cD cS cI S M)):Led H (sR cF S.F (rF cT cD cS cI S M)):=Led.perm h (aN _ _ _)
theorem St.toD (h:Led H (bq cT cF cD cS cI S M)):Led H (fL cD S.d S.JH S.dm S.p S.bs++rD cT cF cS cI S M):=Led.perm h ((List.Perm.append_left _ (aN _ _ _)).trans (aN _ _ _))
theorem St.toS (h:Led H (bq cT cF cD cS cI S M)):Led H (Ae cS S.sb S.LY S.sl S.sd S.ps S.es++rS cT cF cD cI S M):=Led.perm h ((List.Perm.append_left _ ((List.Perm.append_left _ (aN _ _ _)).trans (aN _ _ _))).trans (aN _ _ _))
theorem St.UJ (h:Led H (bq cT cF cD cS cI S M)):Led H (Jq cI S.ib S.ix S.im S.fs (rI cT cF cD cS S M)):=by
 have h1:Led H (CM cI S++rI cT cF cD cS S M):=Led.perm h ((List.Perm.append_left _ ((List.Perm.append_left _ ((List.Perm.append_left _ (aN _ _ _)).trans (aN _ _ _))).trans (aN _ _ _))).trans (aN _ _ _))
 exact h1
theorem St.RB {F':FS} (e:F'.b=S.F.b) (h:Led H (sR cF F' (N++rF cT cD cS cI S M))):Led H (bq cT cF cD cS cI { S with F:=F' } (N++M)):=by
 have h1:Led H (qm cF F'++(N++(AU cT S++(En cD S++(Eo cS S++(CM cI S++M)))))):=h
 have e2:AU cT S=AU cT { S with F:=F' } := by unfold AU Gk;rw [<-e]
 rw [e2] at h1
 exact Led.perm h1 ((List.Perm.append_left _ ((aN _ _ _).trans (List.Perm.append_left _ ((aN _ _ _).trans (List.Perm.append_left _ ((aN _ _ _).trans (List.Perm.append_left _ (aN _ _ _)))))))).trans (aN _ _ _))
theorem St.ofD {p':Nat} {bs':List Bool} (h:Led H (fL cD S.d S.JH S.dm p' bs'++(N++rD cT cF cS cI S M))):Led H (bq cT cF cD cS cI { S with p:=p',bs:=bs' } (N++M)):=by
 have h1:Led H (fL cD S.d S.JH S.dm p' bs'++(N++(AU cT S++(qm cF S.F++(Eo cS S++(CM cI S++M)))))):=h
 exact Led.perm h1 ((List.Perm.append_left _ ((aN _ _ _).trans (List.Perm.append_left _ ((aN _ _ _).trans (List.Perm.append_left _ ((aN _ _ _).trans (List.Perm.append_left _ (aN _ _ _)))))))).trans ((aN _ _ _).trans (List.Perm.append_left _ (aN _ _ _))))
theorem St.ofS {ps':List V} {es':j9} (h:Led H (Ae cS S.sb S.LY S.sl S.sd ps' es'++(N++rS cT cF cD cI S M))):Led H (bq cT cF cD cS cI { S with ps:=ps',es:=es' } (N++M)):=by
 have h1:Led H (Ae cS S.sb S.LY S.sl S.sd ps' es'++(N++(AU cT S++(qm cF S.F++(En cD S++(CM cI S++M)))))):=h
 exact Led.perm h1 ((List.Perm.append_left _ ((aN _ _ _).trans (List.Perm.append_left _ ((aN _ _ _).trans (List.Perm.append_left _ ((aN _ _ _).trans (List.Perm.append_left _ (aN _ _ _)))))))).trans ((aN _ _ _).trans (List.Perm.append_left _ ((aN _ _ _).trans (List.Perm.append_left _ (aN _ _ _))))))
theorem St.ofI {fs':cR} (h:Led H (Jq cI S.ib S.ix S.im fs' (N++rI cT cF cD cS S M))):Led H (bq cT cF cD cS cI { S with fs:=fs' } (N++M)):=by
 have h1:Led H (CM cI { S with fs:=fs' } ++ (N++(AU cT S++(qm cF S.F++(En cD S++(Eo cS S++M)))))):=h
 exact Led.perm h1 ((List.Perm.append_left _ ((aN _ _ _).trans (List.Perm.append_left _ ((aN _ _ _).trans (List.Perm.append_left _ ((aN _ _ _).trans (List.Perm.append_left _ (aN _ _ _)))))))).trans ((aN _ _ _).trans (List.Perm.append_left _ ((aN _ _ _).trans (List.Perm.append_left _ ((aN _ _ _).trans (List.Perm.append_left _ (aN _ _ _))))))))
theorem St.b:(S.b,HO.ins cT S.dx (Gk S))∈bq cT cF cD cS cI S M:=mS
theorem St.ho:(S.ho,HO.dK (Em S.hs))∈bq cT cF cD cS cI S M:=mC mS
theorem St.up {c:Addr×HO} (h:c∈M):c∈bq cT cF cD cS cI S M:=mA (mA (mA (mA (mA h))))
theorem jt {c:Addr×HO} (h:c∈M):c∈rF cT cD cS cI S M:=mA (mA (mA (mA h)))
theorem UK {c:Addr×HO} (h:c∈M):c∈rD cT cF cS cI S M:=mA (mA (mA (mA h)))
theorem UL {c:Addr×HO} (h:c∈M):c∈rS cT cF cD cI S M:=mA (mA (mA (mA h)))
theorem LZ {c:Addr×HO} (h:c∈M):c∈rI cT cF cD cS S M:=mA (mA (mA (mA h)))
end
end
section
variable {P:Program} {w:World} {K:PySem.W.Frag} {mg:Str->Option Value} {base:Heap} {cU cA cB cC cT cF cD cS cI:Addr}
def freed (S:SS) (i:Nat):SS := { S with F:=S.F.fill i none none false,bs:=S.bs.set i false }
theorem gq (S:SS):(Gk S).lookup (Str.ofString "frames")=some (.ref S.F.b):=rfl
theorem oA (S:SS):(Gk S).lookup (Str.ofString "dial")=some (.ref S.d):=rfl
theorem rX (S:SS):(Gk S).lookup (Str.ofString "shelf")=some (.ref S.sb):=rfl
theorem Cp (S:SS):(Gk S).lookup (Str.ofString "files")=some (.ref S.ib):=rfl
theorem Gm (S:SS):(Gk S).lookup (Str.ofString "holders")=some (.ref S.ho):=rfl
theorem RC (S:SS):(Gk S).lookup (Str.ofString "sheets_made")=some (.int S.made):=rfl
def mE:Sp:=λ vs H Q _ => ∃ (t:Addr) (a:Th),vs = [.ref t]/\H t=some (.tup (gc a))/\(∀ m,a = .own m->Q (.bl true) H)/\(∀ z p,a = .file z p->Q (.bl false) H)
theorem D4 (D:Def K mg "is_sheet" fP) (T:Txt K mg cU cA cB cC cT cF cD cS cI):cZ P w K mg base 1 "is_sheet" ["thing"] mE:=by
 have sc:=sH
 refine D.ok sH (λ vs H Q E h => ?_) (λ _ _ _ _ _ _ us hl=>match us,hl with | [_],_=>rfl) (λ f cdv A outer s H vs Q E hr h => ?_)
 ·obtain ⟨_,_,rfl,_⟩:=h;rfl
 ·obtain ⟨t,a,rfl,ht,k1,k2⟩:=h
  refine ⟨_,(@ak _ _ _ (@aD _ _ _ _ (@jC _ _ _ _ _ _ _ _ cz (@aY _ _ _ _ _ _ _ aQ (@ao _ 0 _ _ (by walk_at "v")) (@aj _ _ _ _) (λ _ _=>rfl)) (@cW _ _ _ _) (aO _)))),?_⟩
  cases a with
  | own m =>
    have ht':H t=some (.tup [.str (Str.ofString "own"),.int m]):=ht
    walk_at "ge"
    have:=k1 m rfl
    simpa using this
  | file z p =>
    have ht':H t=some (.tup [.str (Str.ofString "file"),.str z,.int p]):=ht
    walk_at "ge"
    have hne : ¬ Str.ofString "file" = Str.ofString "own" := by decide +kernel
    have:=k2 z p rfl
    simpa [hne] using this
def L0 (cT cF cD cS cI:Addr):Sp:=λ vs H Q _ => ∃ (S:SS) (n i:Nat) (M:Cells),vs = [.ref S.b,.int (i:Nat)]/\Led H (bq cT cF cD cS cI S M)/\El S.F n M/\S.bs.length=n/\i < n ∧ ∀ H',Led H' (bq cT cF cD cS cI (freed S i) M)->Q .aH H'
theorem Oh (D:Def K mg "free_frame" dX) (T:Txt K mg cU cA cB cC cT cF cD cS cI) (xM:aJ P w K mg base 1 cF "empty" ["self","frame"] (GZ cF)) (jO:aJ P w K mg base 1 cD "clear" ["self","frame"] (xG cD false)):cZ P w K mg base 2 "free_frame" ["store","frame"] (L0 cT cF cD cS cI):=by
 have sc:=nh
 refine D.ok nh (λ vs H Q E h => ?_) (λ _ _ _ _ _ _ us hl=>match us,hl with | [_,_],_=>rfl) (λ f cdv A outer s H vs Q E hr h => ?_)
 ·obtain ⟨_,_,_,_,rfl,_⟩:=h;rfl
 ·obtain ⟨S,n,i,M,rfl,hL,g,hb,hi,k⟩:=h
  have f1:=gq S
  have f2:=oA S
  have gS:=hL.get St.b
  have hF:=St.toF hL
  have iZ:=hF.get mS
  refine ⟨_,(@ah _ _ _ _ _ (@bY _ _ _ _ (@aP _ _ _ _ _ _ _ _ _ _ _ _ _ _ _ _ T.Frames xM (hr.mono (by omega)) az (@ay _ _ _ _ _ _ _ T.aZ T.bL (@ao _ 0 _ _ (by walk_at "v")) (by rfl)) (@aa _ _ _ _ _ (@ao _ 1 _ _ (by walk_at "v")) (@ai _) (by rfl)) (by rfl) (by rfl) (by rfl)) (by rfl)) (@ak _ _ _ (@bY _ _ _ _ (@aP _ _ _ _ _ _ _ _ _ _ _ _ _ _ _ _ T.jI jO (hr.mono (by omega)) az (@ay _ _ _ _ _ _ _ T.aZ T.k7 (@ao _ 0 _ _ (by walk_at "v")) (by rfl)) (@aa _ _ _ _ _ (@ao _ 1 _ _ (by walk_at "v")) (@ai _) (by rfl)) (by rfl) (by rfl) (by rfl)) (by rfl)))),?_⟩
  refine aF λ M1 K1 => ?_
  walk_at "ge"
  refine ⟨S.F,n,i,_,rfl,hF,g.mono (λ c hc=>jt hc),hi,λ H1 hl1 => ?_⟩
  have hl2:=St.RB (S:=S) (N:=[]) (F':=S.F.fill i none none false) rfl hl1
  clear hL hF hl1 iZ gS
  have gS:=hl2.get St.b
  have hD:=St.toD hl2
  have Jr:=hD.get Lv
  walk_at "ge"
  refine K1.use ?_
  walk_at "cl"
  clear K1
  walk_at "ge"
  have hb2:((i:Nat):Int) < (S.bs.length:Int):=by omega
  refine ⟨S.d,S.JH,S.dm,(S.p:Int),((i:Nat):Int),S.bs,_,rfl,hD,by omega,hb2,λ H2 hl3 => ?_⟩
  rw [Int.toNat_natCast] at hl3
  have bM:=St.ofD (S := { S with F:=S.F.fill i none none false }) (N:=[]) (p':=S.p) (bs':=S.bs.set i false) hl3
  walk_at "ge"
  exact k _ bM
structure aR (S:SS) (n q:Nat) (M:Cells):Prop where
 f:El S.F n M
 n1:1<=n
 n64:n<=64
 bl:S.bs.length=n
 pn:S.p < n
 rr : ∀ (i:Nat) (t:Addr) (a:Th),S.F.hs[i]? = some (some (t,a))->∃ (r:Addr) (row:List Int),S.F.rs[i]? = some (some (r,row))/\row.length=4
 inj : ∀ (i j:Nat) (t u:Addr) (a:Th),S.F.hs[i]? = some (some (t,a))->S.F.hs[j]? = some (some (u,a))->i=j
 pl:S.ps.length=q
 q6:q<=550
 pe : ∀ v∈S.ps,v = .aH ∨ ∃ m:Int,v = .int m
 nd:(S.es.map (·.1)).Nodup
 pk : ∀ m:Int,V.int m∈S.ps↔m∈S.es.map (·.1)
 pi : ∀ (i j:Nat) (m:Int),S.ps[i]? = some (.int m)->S.ps[j]? = some (.int m)->i=j
 ap : ∀ (i:Nat) (t:Addr) (m:Int),S.F.hs[i]? = some (some (t,Th.own m))->m ∉ S.es.map (·.1)
 er : ∀ e∈S.es,e.2.2.length=4
 fn:(S.fs.map (·.1)).Nodup
 fr : ∀ e∈S.fs,∀ r∈e.2.2,(r.1,HO.lst (r.2.map V.int))∈M/\r.2.length=4
 ff : ∀ (i:Nat) (t:Addr) (z:Str) (p:Int),S.F.hs[i]? = some (some (t,Th.file z p))->∃ e∈S.fs,∃ j:Nat,e.1=z/\p=j/\j < e.2.2.length
theorem aR.mono {S:SS} {n q:Nat} {M M':Cells} (g:aR S n q M) (s : ∀ c∈M,c∈M'):aR S n q M' := { g with f:=g.f.mono s,fr:=λ e he r hr=>⟨s _ (g.fr e he r hr).1,(g.fr e he r hr).2⟩ }
theorem aR.freed {S:SS} {n q:Nat} {M:Cells} (g:aR S n q M) (i:Nat):aR (freed S i) n q M:=by
 have old : ∀ (j:Nat) (x:Addr×Th),(S.F.hs.set i none)[j]? = some (some x)->S.F.hs[j]? = some (some x)/\i≠j:=λ j x h=>by
  rw [List.getElem?_set] at h
  split at h
  ·split at h
   ·cases h
   ·cases h
  ·exact ⟨h,by assumption⟩
 refine { g with f:=g.f.fill (λ t a e=>nomatch e) (λ t a e=>nomatch e),bl:=(List.length_set ..).trans g.bl,rr:=λ j t a h => ?_,inj:=λ j l t u a h1 h2=>g.inj j l t u a (old j _ h1).1 (old l _ h2).1,ap:=λ j t m h=>g.ap j t m (old j _ h).1,ff:=λ j t z p h=>g.ff j t z p (old j _ h).1 }
 obtain ⟨h1,h2⟩:=old j _ h
 obtain ⟨r,row,e,h4⟩:=g.rr j t a h1
 exact ⟨r,row,by show (S.F.rs.set i none)[j]? = _;rw [List.getElem?_set,if_neg h2];exact e,h4⟩
end
section
variable {P:Program} {w:World} {K:PySem.W.Frag} {mg:Str->Option Value} {base:Heap} {cU cA cB cC cT cF cD cS cI:Addr}
def PO (N:Cells) (S:SS) (i:Nat) (S':SS):Th->Prop
 | .own m => ∃ (r:Addr) (row:List Int) (b:Addr),S.F.rs[i]? = some (some (r,row))/\S' = freed { S with ps:=S.ps.set (idx S.ps .aH) (.int m),es:=S.es++[(m,b,row)] } i
 | .file z p => ∃ (r:Addr) (row:List Int),S.F.rs[i]? = some (some (r,row))/\((S.F.bs[i]? = some false/\S' = freed S i)\/(S.F.bs[i]? = some true ∧ ∃ (as bs:cR) (e:yq) (j:Nat) (nr:Addr),S.fs=as++e::bs/\e.1=z/\p=(j:Int)/\j < e.2.2.length/\(nr,HO.lst (row.map V.int))∈N/\S' = freed { S with fs:=as++(e.1,e.2.1,e.2.2.set j (nr,row))::bs } i))
theorem aR.flat {S:SS} {n q:Nat} {M:Cells} (g:aR S n q M):S.ps.all eu=true:=by
 rw [List.all_eq_true]
 intro v hv
 rcases g.pe v hv with rfl | ⟨m,rfl⟩ <;> rfl
theorem aR.L1 {S:SS} {n q:Nat} {M:Cells} (g:aR S n q M) (h:qu .aH S.ps=true):S.ps[idx S.ps .aH]? = some .aH:=by
 obtain ⟨v,hv,he⟩:=Cn h
 rcases g.pe v (List.mem_of_getElem? hv) with rfl | ⟨m,rfl⟩
 ·exact hv
 ·cases he
theorem aR.Oi {S:SS} {n q:Nat} {M:Cells} (g:aR S n q M):S.es.length<=q:=by
 have h1:(S.es.map (·.1)).length<=(S.ps.map λ v=>match v with | .int m=>m | _=>0).length:=by
  refine g.nd.length_le_of_subset λ m hm => ?_
  exact List.mem_map.mpr ⟨.int m,(g.pk m).mpr hm,rfl⟩
 rw [List.length_map,List.length_map,g.pl] at h1
 exact h1
theorem aR.L3 {S:SS} {n q i:Nat} {M:Cells} {t b:Addr} {m:Int} {row:List Int} (g:aR S n q M) (hi:S.F.hs[i]? = some (some (t,.own m))) (hn:qu .aH S.ps=true) (h4:row.length=4) :
  aR (My.freed { S with ps:=S.ps.set (idx S.ps .aH) (.int m),es:=S.es++[(m,b,row)] } i) n q M:=by
 have hat:=g.L1 hn
 have hlt:idx S.ps .aH < S.ps.length:=(List.getElem?_eq_some_iff.mp hat).1
 have LH:=g.ap i t m hi
 have hmp:V.int m ∉ S.ps:=λ h=>LH ((g.pk m).mp h)
 have gf:=g.freed i
 have atS : ∀ (j:Nat) (v:V),(S.ps.set (idx S.ps .aH) (.int m))[j]? = some v->(j=idx S.ps .aH/\v = .int m)\/(j≠idx S.ps .aH/\S.ps[j]? = some v):=λ j v h=>by
  rw [List.getElem?_set] at h
  by_cases e:idx S.ps .aH=j
  ·rw [if_pos e,if_pos hlt] at h
   exact .inl ⟨e.symm,(Option.some.inj h).symm⟩
  ·rw [if_neg e] at h
   exact .inr ⟨λ q=>e q.symm,h⟩
 have old : ∀ (j:Nat) (x:Addr×Th),(S.F.hs.set i none)[j]? = some (some x)->S.F.hs[j]? = some (some x)/\i≠j:=λ j x h=>by
  rw [List.getElem?_set] at h
  split at h
  ·split at h
   ·cases h
   ·cases h
  ·exact ⟨h,by assumption⟩
 refine ⟨gf.f,gf.n1,gf.n64,gf.bl,gf.pn,gf.rr,gf.inj,(List.length_set ..).trans g.pl,g.q6,λ v hv => ?_,?_,λ k => ?_,λ j l k h1 h2 => ?_,λ j u k h => ?_,λ e he => ?_,g.fn,gf.fr,gf.ff⟩
 ·rcases List.mem_or_eq_of_mem_set hv with h | h
  ·exact g.pe v h
  ·exact .inr ⟨m,h⟩
 ·show ((S.es++[(m,b,row)]).map (·.1)).Nodup
  rw [List.map_append]
  refine List.nodup_append.mpr ⟨g.nd,by simp,λ x hx y hy e => ?_⟩
  rw [List.map_singleton,List.mem_singleton] at hy
  have hy':y=m:=hy
  exact LH (hy' ▸ e ▸ hx)
 ·show V.int k∈S.ps.set (idx S.ps .aH) (.int m)↔k∈(S.es++[(m,b,row)]).map (·.1)
  rw [List.map_append,List.mem_append,List.map_singleton,List.mem_singleton,<-g.pk k]
  constructor
  ·intro h
   rcases List.mem_or_eq_of_mem_set h with h | h
   ·exact .inl h
   ·injection h with h;exact .inr h
  ·rintro (h | rfl)
   ·obtain ⟨j,hj⟩:=List.getElem?_of_mem h
    have hne:idx S.ps .aH≠j:=λ e=>by rw [<-e,hat] at hj;cases hj
    exact List.mem_of_getElem? (i:=j) (by rw [List.getElem?_set,if_neg hne];exact hj)
   ·exact List.mem_of_getElem? (i:=idx S.ps .aH) (by rw [List.getElem?_set,if_pos rfl,if_pos hlt])
 ·rcases atS j _ h1 with ⟨e1,e2⟩ | ⟨e1,e2⟩
  ·rcases atS l _ h2 with ⟨e3,e4⟩ | ⟨e3,e4⟩
   ·rw [e1,e3]
   ·injection e2 with e2;subst e2
    exact absurd (List.mem_of_getElem? e4) hmp
  ·rcases atS l _ h2 with ⟨e3,e4⟩ | ⟨e3,e4⟩
   ·injection e4 with e4;subst e4
    exact absurd (List.mem_of_getElem? e2) hmp
   ·exact g.pi j l k e2 e4
 ·obtain ⟨h1,h2⟩:=old j _ h
  show k ∉ (S.es++[(m,b,row)]).map (·.1)
  rw [List.map_append,List.mem_append,List.map_singleton,List.mem_singleton]
  rintro (h3 | rfl)
  ·exact g.ap j u k h1 h3
  ·exact h2 (g.inj i j t u _ hi h1)
 ·rcases List.mem_append.mp he with he | he
  ·exact g.er e he
  ·rw [List.mem_singleton.mp he];exact h4
theorem aR.stored {S:SS} {n q i:Nat} {M:Cells} {as bs:cR} {e:yq} {j:Nat} {nr:Addr} {row:List Int} (g:aR S n q M) (hf:S.fs=as++e::bs) (h4:row.length=4) (hn:(nr,HO.lst (row.map V.int))∈M) :
  aR (My.freed { S with fs:=as++(e.1,e.2.1,e.2.2.set j (nr,row))::bs } i) n q M:=by
 have gf:=g.freed i
 have keys:(as++(e.1,e.2.1,e.2.2.set j (nr,row))::bs).map (·.1)=S.fs.map (·.1):=by rw [hf];simp
 refine ⟨gf.f,gf.n1,gf.n64,gf.bl,gf.pn,gf.rr,gf.inj,g.pl,g.q6,g.pe,g.nd,g.pk,g.pi,gf.ap,g.er,?_,λ x hx r hr => ?_,λ l t z p h => ?_⟩
 ·show ((as++(e.1,e.2.1,e.2.2.set j (nr,row))::bs).map (·.1)).Nodup
  rw [keys];exact g.fn
 ·rcases List.mem_append.mp hx with hx | hx
  ·exact g.fr x (by rw [hf];exact mB hx) r hr
  ·rcases List.mem_cons.mp hx with rfl | hx
   ·rcases List.mem_or_eq_of_mem_set hr with h | rfl
    ·exact g.fr e (by rw [hf];exact mA mS) r h
    ·exact ⟨hn,h4⟩
   ·exact g.fr x (by rw [hf];exact mA (mC hx)) r hr
 ·obtain ⟨x,hx,k,h1,h2,h3⟩:=gf.ff l t z p h
  have hx':x∈as++e::bs:=by rw [<-hf];exact hx
  rcases List.mem_append.mp hx' with hx' | hx'
  ·exact ⟨x,mB hx',k,h1,h2,h3⟩
  ·rcases List.mem_cons.mp hx' with rfl | hx'
   ·exact ⟨_,mA mS,k,h1,h2,by show k < (x.2.2.set j (nr,row)).length;rw [List.length_set];exact h3⟩
   ·exact ⟨x,mA (mC hx'),k,h1,h2,h3⟩
theorem PO.mono {N N':Cells} {S S':SS} {i:Nat} {a:Th} (h:PO N S i S' a) (up : ∀ c∈N,c∈N'):PO N' S i S' a:=by
 cases a with
 | own m=>exact h
 | file z p =>
   obtain ⟨r,row,h1,h2⟩:=h
   refine ⟨r,row,h1,?_⟩
   rcases h2 with h2 | ⟨h2,as,bs,e,j,nr,h3,h4,h5,h6,h7,h8⟩
   ·exact .inl h2
   ·exact .inr ⟨h2,as,bs,e,j,nr,h3,h4,h5,h6,up _ h7,h8⟩
theorem aR.po {N:Cells} {S S':SS} {n q i:Nat} {M:Cells} {t:Addr} {a:Th} (g:aR S n q M) (hi:S.F.hs[i]? = some (some (t,a))) (hn : ∀ m,a = .own m->qu .aH S.ps=true) (h:PO N S i S' a):aR S' n q (N++M):=by
 have up : ∀ c∈M,c∈N++M:=λ c hc=>mA hc
 obtain ⟨r0,ju,hr0,h40⟩:=g.rr i t a hi
 cases a with
 | own m =>
   obtain ⟨r,row,b,h1,rfl⟩:=h
   rw [hr0] at h1
   cases h1
   exact (g.L3 hi (hn m rfl) h40).mono up
 | file z p =>
   obtain ⟨r,row,h1,h2⟩:=h
   rw [hr0] at h1
   cases h1
   rcases h2 with ⟨_,rfl⟩ | ⟨_,as,bs,e,j,nr,h3,h4,h5,h6,h7,rfl⟩
   ·exact (g.freed i).mono up
   ·exact (g.mono up).stored h3 h40 (mB h7)
def xN (cT cF cD cS cI:Addr):Sp:=λ vs H Q _ => ∃ (S:SS) (n q i:Nat) (t:Addr) (a:Th) (M:Cells),vs = [.ref S.b,.int (i:Nat)]/\Led H (bq cT cF cD cS cI S M)/\aR S n q M/\S.F.hs[i]? = some (some (t,a))/\(∀ m,a = .own m->qu .aH S.ps=true) ∧ ∀ (S':SS) (N:Cells) (H':Hp),PO N S i S' a->aR S' n q (N++M)->Led H' (bq cT cF cD cS cI S' (N++M))->Q .aH H'
theorem Gn (D:Def K mg "put_out" gJ) (T:Txt K mg cU cA cB cC cT cF cD cS cI) (qf:aJ P w K mg base 1 cF "thing_in" ["self","frame"] (AS cF)) (c8:aJ P w K mg base 1 cF "row_in" ["self","frame"] (uP cF)) (bX:aJ P w K mg base 1 cF "is_soiled" ["self","frame"] (qc cF)) (xO:aJ P w K mg base 2 cS "put_on" ["self","sheet","row"] (Py cS cU)) (qg:aJ P w K mg base 4 cI "store_row" ["self","name","page","row"] (G6 cI cA cB)) (ia:cZ P w K mg base 1 "is_sheet" ["thing"] mE) (Cq:cZ P w K mg base 2 "free_frame" ["store","frame"] (L0 cT cF cD cS cI)):cZ P w K mg base 5 "put_out" ["store","frame"] (xN cT cF cD cS cI):=by
 have sc:=vA
 refine D.Dk vA (λ vs H Q E h => ?_) (λ _ _ _ _ _ _ us hl=>match us,hl with | [_,_],_=>rfl) (λ f cdv A outer s H vs Q E hr h => ?_)
 ·obtain ⟨_,_,_,_,_,_,_,rfl,_⟩:=h;rfl
 ·obtain ⟨S,n,q,i,t,a,M,rfl,hL,g,hi,UM,k⟩:=h
  obtain ⟨r,row,Af,h4⟩:=g.rr i t a hi
  have hin:i < n:=by rw [<-g.f.h];exact (List.getElem?_eq_some_iff.mp hi).1
  obtain ⟨CN,PB⟩:=g.f.th t a (List.mem_of_getElem? hi)
  have p9:=g.f.rw r row (List.mem_of_getElem? Af)
  have f1:=gq S
  have f2:=oA S
  have f3:=rX S
  have f4:=Cp S
  have gS:=hL.get St.b
  have hF:=St.toF hL
  have iZ:=hF.get mS
  refine ⟨_,(@ah _ _ _ _ _ (@aL _ _ 2 _ _ _ _ sc.nd rfl (by walk_at "o2") (@aP _ _ _ _ _ _ _ _ _ _ _ _ _ _ _ _ T.Frames qf (hr.mono (by omega)) az (@ay _ _ _ _ _ _ _ T.aZ T.bL (@ao _ 0 _ _ (by walk_at "v")) (by rfl)) (@aa _ _ _ _ _ (@ao _ 1 _ _ (by walk_at "v")) (@ai _) (by rfl)) (by rfl) (by rfl) (by rfl)) (by rfl) (by walk_at "o4")) (@ah _ _ _ _ _ (@aL _ _ 3 _ _ _ _ sc.nd rfl (by walk_at "o2") (@aP _ _ _ _ _ _ _ _ _ _ _ _ _ _ _ _ T.Frames c8 (hr.mono (by omega)) az (@ay _ _ _ _ _ _ _ T.aZ T.bL (@ao _ 0 _ _ (by walk_at "v")) (by rfl)) (@aa _ _ _ _ _ (@ao _ 1 _ _ (by walk_at "v")) (@ai _) (by rfl)) (by rfl) (by rfl) (by rfl)) (by rfl) (by walk_at "o4")) (@ah _ _ _ _ _ (@aU _ _ _ _ _ _ _ _ (@bJ _ _ _ (@aB _ _ _ _ _ _ _ _ _ _ _ ia (hr.mono (by omega)) (by rfl) az (@aa _ _ _ _ _ (@ao _ 2 _ _ (by walk_at "v")) (@ai _) (by rfl)) (by decide) (by rfl) (by rfl)) (by intro _;rfl)) (@ak _ _ _ (@bY _ _ _ _ (@aP _ _ _ _ _ _ _ _ _ _ _ _ _ _ _ _ T.fj xO (hr.mono (by omega)) jR (@ay _ _ _ _ _ _ _ T.aZ T.jH (@ao _ 0 _ _ (by walk_at "v")) (by rfl)) (@aa _ _ _ _ _ (@aY _ _ _ _ _ _ _ aQ (@ao _ 2 _ _ (by walk_at "v")) (@aj _ _ _ _) (λ _ _=>rfl)) (@aa _ _ _ _ _ (@ao _ 3 _ _ (by walk_at "v")) (@ai _) (by rfl)) (by rfl)) (by rfl) (by rfl) (by rfl)) (by rfl))) (@ak _ _ _ (@aU _ _ _ _ _ _ _ _ (@bJ _ _ _ (@aP _ _ _ _ _ _ _ _ _ _ _ _ _ _ _ _ T.Frames bX (hr.mono (by omega)) az (@ay _ _ _ _ _ _ _ T.aZ T.bL (@ao _ 0 _ _ (by walk_at "v")) (by rfl)) (@aa _ _ _ _ _ (@ao _ 1 _ _ (by walk_at "v")) (@ai _) (by rfl)) (by rfl) (by rfl) (by rfl)) (by intro _;rfl)) (@ak _ _ _ (@bY _ _ _ _ (@aP _ _ _ _ _ _ _ _ _ _ _ _ _ _ _ _ T.gw qg (hr.mono (by omega)) jR (@ay _ _ _ _ _ _ _ T.aZ T.o7 (@ao _ 0 _ _ (by walk_at "v")) (by rfl)) (@aa _ _ _ _ _ (@aY _ _ _ _ _ _ _ aQ (@ao _ 2 _ _ (by walk_at "v")) (@aj _ _ _ _) (λ _ _=>rfl)) (@aa _ _ _ _ _ (@aY _ _ _ _ _ _ _ aQ (@ao _ 2 _ _ (by walk_at "v")) (@aj _ _ _ _) (λ _ _=>rfl)) (@aa _ _ _ _ _ (@ao _ 3 _ _ (by walk_at "v")) (@ai _) (by rfl)) (by rfl)) (by rfl)) (by rfl) (by rfl) (by rfl)) (by rfl))) (@aE _)))) (@ak _ _ _ (@bY _ _ _ _ (@aB _ _ _ _ _ _ _ _ _ _ _ Cq (hr.mono (by omega)) (by rfl) az (@aa _ _ _ _ _ (@ao _ 0 _ _ (by walk_at "v")) (@aa _ _ _ _ _ (@ao _ 1 _ _ (by walk_at "v")) (@ai _) (by rfl)) (by rfl)) (by decide) (by rfl) (by rfl)) (by rfl)))))),?_⟩
  refine aF λ M1 K1 => ?_
  walk_at "ge"
  refine ⟨S.F,i,some (t,a),_,rfl,hF,hi,?_⟩
  rw [show aW (some (t,a))=V.ref t from rfl]
  walk_at "ge"
  refine K1.use ?_
  walk_at "cl"
  clear K1
  refine aF λ M1 K1 => ?_
  walk_at "ge"
  refine ⟨S.F,i,r,row,_,rfl,hF,Af,jt p9,by omega,λ qr H1 hl1 => ?_⟩
  have hl2:Led H1 (sR cF S.F ([(qr,HO.lst (row.map V.int))]++rF cT cD cS cI S M)):=Led.perm hl1 (aN [(qr,HO.lst (row.map V.int))] (qm cF S.F) _)
  have hl3:=St.RB (S:=S) (F':=S.F) rfl hl2
  have bM:Led H1 (bq cT cF cD cS cI S ([(qr,HO.lst (row.map V.int))]++M)):=hl3
  clear hl1 hl2 hl3 hL hF gS iZ
  walk_at "ge"
  refine K1.use ?_
  walk_at "cl"
  clear K1
  have up4 : ∀ c∈M,c∈[(qr,HO.lst (row.map V.int))]++M:=λ c hc=>mC hc
  have g4:=g.mono up4
  have AV:=bM.get (St.up (up4 _ CN))
  have gS:=bM.get St.b
  refine aF λ M1 K1 => ?_
  have rest : ∀ (S1:SS) (N:Cells) (H':Hp),S1.b=S.b->S1.bs.length=n->El S1.F n (N++M)->PO N S i (freed S1 i) a->aR (freed S1 i) n q (N++M)->Led H' (bq cT cF cD cS cI S1 (N++M))->M1 [some (.ref S.b),some (.int (i:Nat)),some (.ref t),some (.ref qr)] H':=by
   intro S1 N H' e1 e2 e3 e4 e5 hl'
   refine K1.use ?_
   clear K1 bM
   walk_at "ge"
   refine ⟨S1,n,i,_,by rw [e1];rfl,hl',e3,e2,hin,λ H2 hl2 => ?_⟩
   walk_at "ge"
   exact k _ _ _ e4 e5 hl2
  clear K1
  walk_at "ge"
  refine ⟨t,a,rfl,AV,λ m hm => ?_,λ z p hz => ?_⟩
  ·subst hm
   have L4:H1 t=some (.tup [.str (Str.ofString "own"),.int m]):=AV
   have hS:=St.toS bM
   have eW:=hS.get Od
   walk_at "ge"
   refine ⟨S.sb,S.LY,S.sl,S.sd,qr,m,row,S.ps,S.es,_,rfl,hS,UL mS,g.flat,g.ap i t m hi,by have:=g.Oi;have:=g.q6;omega,λ hn b H2 cP => ?_,λ hn=>absurd hn (by rw [UM m rfl];decide)⟩
   have eX:=St.ofS (S:=S) (N:=[]) (M:=[(qr,HO.lst (row.map V.int))]++M) cP
   walk_at "ge"
   exact rest { S with ps:=S.ps.set (idx S.ps .aH) (.int m),es:=S.es++[(m,b,row)] } _ _ rfl g.bl g4.f ⟨r,row,b,Af,rfl⟩ (g4.L3 hi hn h4) eX
  ·subst hz
   have L4:H1 t=some (.tup [.str (Str.ofString "file"),.str z,.int p]):=AV
   have hF:=St.toF bM
   have iZ:=hF.get mS
   obtain ⟨so,hso⟩ : ∃ b,S.F.bs[i]? = some b:=⟨_,List.getElem?_eq_getElem (by rw [g.f.s];exact hin)⟩
   walk_at "ge"
   refine ⟨S.F,i,so,_,rfl,hF,hso,?_⟩
   cases so with
   | false =>
     walk_at "ge"
     exact rest S _ _ rfl g.bl g4.f ⟨r,row,Af,.inl ⟨hso,rfl⟩⟩ (g4.freed i) bM
   | true =>
     obtain ⟨e,he,j,e1,e2,e3⟩:=g.ff i t z p hi
     have hI:=St.UJ bM
     have UN:=hI.get mS
     walk_at "ge"
     refine ⟨S.ib,S.ix,S.im,qr,S.fs,z,p,row,_,rfl,hI,g.fn,LZ mS,by omega,λ as bs e' hf he1 j' hj1 hj2 nr H2 cP => ?_,λ e' he' h1 h2 => ?_,λ hz=>absurd (List.mem_map.mpr ⟨e,he,e1⟩) hz⟩
     ·have eX:=St.ofI (S:=S) (N:=[(nr,HO.lst (row.map V.int))]) (M:=[(qr,HO.lst (row.map V.int))]++M) cP
      have g6:=g4.mono (M':=[(nr,HO.lst (row.map V.int))]++([(qr,HO.lst (row.map V.int))]++M)) λ c hc=>mC hc
      walk_at "ge"
      exact rest { S with fs:=as++(e'.1,e'.2.1,e'.2.2.set j' (nr,row))::bs } ([(nr,HO.lst (row.map V.int))]++[(qr,HO.lst (row.map V.int))]) _ rfl g.bl g6.f ⟨r,row,Af,.inr ⟨hso,as,bs,e',j',nr,hf,he1,hj1,hj2,mS,rfl⟩⟩ (g6.stored hf h4 mS) eX
     ·exfalso
      have:e' = e:=by
       have h3:=findF g.fn he
       have h5:=findF g.fn he'
       rw [h1,<-e1] at h5
       exact Option.some.inj (h5.symm.trans h3)
      subst this
      exact h2 ⟨by omega,by rw [e2];exact_mod_cast e3⟩
end
section
variable {P:Program} {w:World} {K:PySem.W.Frag} {mg:Str->Option Value} {base:Heap} {cU cA cB cC cT cF cD cS cI:Addr}
def aX:Th->Bool
 | .own _=>false
 | .file _ _=>true
def jv (S:SS):List Bool:=S.F.hs.map λ x=>match x with | some y=>aX y.2 || qu .aH S.ps | none=>false
theorem Cr {S:SS} {i:Nat} {t:Addr} {a:Th} (h:S.F.hs[i]? = some (some (t,a))):(jv S)[i]? = some (aX a || qu .aH S.ps):=by unfold jv;rw [List.getElem?_map,h];rfl
theorem RD {vs:List V} {bs:List Bool} (hl:vs.length=bs.length) (h : ∀ (i:Nat) v,vs[i]? = some v->∃ b,bs[i]? = some b/\v = .bl b):vs=bs.map V.bl:=by
 refine List.ext_getElem? λ i => ?_
 rw [List.getElem?_map]
 by_cases hi:i < vs.length
 ·obtain ⟨b,hb,e⟩:=h i _ (List.getElem?_eq_getElem hi)
  rw [List.getElem?_eq_getElem hi,e,hb]
  rfl
 ·rw [List.getElem?_eq_none (by omega),List.getElem?_eq_none (by omega)]
  rfl
theorem aR.turned {S:SS} {n q:Nat} {M:Cells} (g:aR S n q M) {p:Nat} {bs:List Bool} (hp:p < n) (hb:bs.length=n):aR { S with p:=p,bs:=bs } n q M := { g with bl:=hb,pn:=hp }
def Gp (cT cF cD cS cI cU:Addr):Sp:=λ vs H Q E => ∃ (S:SS) (n q:Nat) (M:Cells),vs = [.ref S.b]/\Led H (bq cT cF cD cS cI S M)/\aR S n q M ∧
 (∀ (i:Nat) (H':Hp),S.F.hs[i]? = some none->(∀ (j:Nat) z,j < i->S.F.hs[j]? = some z->z≠none)->Led H' (bq cT cF cD cS cI S M)->Q (.int (i:Nat)) H') ∧
 ((∀ z∈S.F.hs,z≠none)->∀ (f:Nat) (bs':List Bool) (t:Addr) (a:Th),Gg (jv S) (2 * n) S.p S.bs=some (f,bs')->S.F.hs[f]? = some (some (t,a))->∀ (S':SS) (N:Cells) (H':Hp),PO N { S with p:=(f+1) % n,bs:=bs' } f S' a->aR S' n q (N++M)->Led H' (bq cT cF cD cS cI S' (N++M))->Q (.int (f:Nat)) H') ∧
 ((∀ z∈S.F.hs,z≠none)->true ∉ jv S->∀ (N:Cells) (H':Hp),Led H' (bq cT cF cD cS cI S (N++M))->E (.ref cU) none H')
theorem Oj (D:Def K mg "have_frame" dY) (B:iY mg) (T:Txt K mg cU cA cB cC cT cF cD cS cI) (mW:aJ P w K mg base 2 cF "least_free" ["self"] (λ vs H Q E => ∃ b,vs = [.ref b]/\qd cF [.ref b,.aH] H Q E)) (dc:aJ P w K mg base 1 cF "things" ["self"] (qe cF)) (gp:aJ P w K mg base 1 cS "is_full" ["self"] (Gh cS)) (Ag:aJ P w K mg base 1 cD "choose" ["self","may"] (DW cD cU)) (ia:cZ P w K mg base 1 "is_sheet" ["thing"] mE) (rY:cZ P w K mg base 5 "put_out" ["store","frame"] (xN cT cF cD cS cI)):cZ P w K mg base 6 "have_frame" ["store"] (Gp cT cF cD cS cI cU):=by
 have sc:=ni
 refine D.Dk ni (λ vs H Q E h => ?_) (λ _ _ _ _ _ _ us hl=>match us,hl with | [_],_=>rfl) (λ f cdv A outer s H vs Q E hr h => ?_)
 ·obtain ⟨_,_,_,_,rfl,_⟩:=h;rfl
 ·obtain ⟨S,n,q,M,rfl,hL,g,kf,kg,ke⟩:=h
  have hsz:=sizeLine_eq
  have f1:=gq S
  have f2:=oA S
  have f3:=rX S
  have gS:=hL.get St.b
  have hF:=St.toF hL
  have iZ:=hF.get mS
  have gn:=g.n64
  refine ⟨_,(@ah _ _ _ _ _ (@aL _ _ 1 _ _ _ _ sc.nd rfl (by walk_at "o2") (@dj _ _ _ _ _ _ _ _ _ _ _ _ _ T.Frames mW (hr.mono (by omega)) az (@ay _ _ _ _ _ _ _ T.aZ T.bL (@ao _ 0 _ _ (by walk_at "v")) (by rfl)) (by rfl)) (by rfl) (by walk_at "o4")) (@ah _ _ _ _ _ (@aU _ _ _ _ _ _ _ _ (@aI _ _ _ _ _ _ _ _ oO (@ao _ 1 _ _ (by walk_at "v")) (@bF _ _ _) (aO _)) (@ak _ _ _ (@aD _ _ _ _ (@ao _ 1 _ _ (by walk_at "v")))) (@aE _)) (@ah _ _ _ _ _ (@aL _ _ 2 _ _ _ _ sc.nd rfl (by walk_at "o2") (@dj _ _ _ _ _ _ _ _ _ _ _ _ _ T.fj gp (hr.mono (by omega)) az (@ay _ _ _ _ _ _ _ T.aZ T.jH (@ao _ 0 _ _ (by walk_at "v")) (by rfl)) (by rfl)) (by rfl) (by walk_at "o4")) (@ah _ _ _ _ _ (@aL _ _ 3 _ _ _ _ sc.nd rfl (by walk_at "o2") (@aP _ _ _ _ _ _ _ _ _ _ _ _ _ _ _ _ T.jI Ag (hr.mono (by omega)) jR (@ay _ _ _ _ _ _ _ T.aZ T.k7 (@ao _ 0 _ _ (by walk_at "v")) (by rfl)) (@aa _ _ _ _ _ (@oU _ _ "thing" _ _ _ _ _ _ _ _ _ rfl rfl rfl rfl Pe (dh (by kernel_rfl)) (@iz _ _ _ _ (@dj _ _ _ _ _ _ _ _ _ _ _ _ _ T.Frames dc (hr.mono (by omega)) az (@ay _ _ _ _ _ _ _ T.aZ T.bL (@ao _ 0 _ _ (by walk_at "v")) (by rfl)) (by rfl))) (λ _ _ _ _=>(@l8 _)) (λ _ _ _ _=>(@OW _ _ _ _ _ _ _ (@Es _ _ _ _ (@aB _ _ _ _ _ _ _ _ _ _ _ ia (hr.mono (by omega)) (by rfl) az (@aa _ _ _ _ _ (@pk _ 0 _ _ (by kernel_rfl) (by kernel_rfl) (by decide) (by decide)) (@ai _) (by rfl)) (by decide) (by rfl) (by rfl))) (@nB _ _ _ _ _ (@Es _ _ _ _ (@pk _ 3 _ _ (by kernel_rfl) (by kernel_rfl) (by decide) (by decide)))))) (by intro _;rfl)) (@ai _) (by rfl)) (by rfl) (by rfl) (by rfl)) (by rfl) (by walk_at "o4")) (@ah _ _ _ _ _ (@bY _ _ _ _ (@aB _ _ _ _ _ _ _ _ _ _ _ rY (hr.mono (by omega)) (by rfl) jR (@aa _ _ _ _ _ (@ao _ 0 _ _ (by walk_at "v")) (@aa _ _ _ _ _ (@ao _ 3 _ _ (by walk_at "v")) (@ai _) (by rfl)) (by rfl)) (by decide) (by rfl) (by rfl)) (by rfl)) (@ak _ _ _ (@aD _ _ _ _ (@ao _ 3 _ _ (by walk_at "v"))))))))),?_⟩
  refine aF λ M1 K1 => ?_
  walk_at "ge"
  have rest:(∀ z∈S.F.hs,z≠none)->M1 [some (.ref S.b),some .aH,none,none] H:=by
   intro hall
   refine K1.use ?_
   clear K1
   refine aF λ M1 K1 => ?_
   walk_at "ge"
   ·exact absurd (rfl:V.aH=V.aH) (by assumption)
   refine K1.use ?_
   walk_at "cl"
   clear K1
   have hS:=St.toS hL
   have eW:=hS.get Od
   have Js:=hS.get VV
   refine aF λ M1 K1 => ?_
   walk_at "ge"
   refine ⟨S.sb,S.LY,S.sl,S.sd,S.ps,rfl,eW,Js,g.flat,?_⟩
   walk_at "ge"
   refine K1.use ?_
   walk_at "cl"
   clear K1 hS eW Js
   have hD:=St.toD hL
   have Jr:=hD.get Lv
   refine aF λ M1 K1 => ?_
   walk_at "ge"
   refine AG λ Lc mV => ?_
   walk_at "ge"
   refine ⟨S.F,_,rfl,hF,by rw [g.f.h];omega,λ qt H1 hl1 => ?_⟩
   refine ⟨qt,rfl,⟨_,eY.of (hl1.get mS)⟩,mV.use ?_⟩
   clear mV Jr gS iZ hD hF
   have ml:(jv S).length=n:=by unfold jv;rw [List.length_map];exact g.f.h
   refine qx (S.F.hs.map aW) (λ i v C=>C = [] ∧ ∃ b,(jv S)[i]? = some b/\v = .bl b) hl1 List.mem_cons_self (by rw [List.length_map,g.f.h];omega) (λ i y H2 R N hy hl2 hR => ?_) (λ pm vs Cs H2 hv hc hG hl2 => ?_)
   ·rw [List.getElem?_map] at hy
    obtain ⟨x,hx,rfl⟩:=Option.map_eq_some_iff.mp hy
    cases x with
    | none=>exact absurd rfl (hall none (List.mem_of_getElem? hx))
    | some x =>
      have Sy:=hl2.get (mA (mC (mC (mC (mC (mC (jt (g.f.th x.1 x.2 (List.mem_of_getElem? hx)).1)))))))
      have hm:=Cr (t:=x.1) (a:=x.2) hx
      rw [show aW (some x)=V.ref x.1 from rfl]
      walk_at "ge"
      refine ⟨x.1,x.2,rfl,Sy,λ m e => ?_,λ z p e => ?_⟩
      ·rw [e] at hm
       walk_at "ge"
       rw [Bool.not_not]
       exact hR _ _ [] ⟨rfl,_,hm,rfl⟩ hl2
      ·rw [e] at hm
       walk_at "ge"
       exact hR _ _ [] ⟨rfl,_,hm,rfl⟩ hl2
   ·rw [List.length_map,g.f.h] at hv hc
    have hvs:=RD (by rw [hv,ml]) λ i v hi=>by
     have hlt:i < Cs.length:=by have:=(List.getElem?_eq_some_iff.mp hi).1;omega
     exact (hG i v _ hi (List.getElem?_eq_getElem hlt)).2
    have hcs:Cs.flatten = []:=by
     rw [List.flatten_eq_nil_iff]
     intro C hC
     obtain ⟨i,hi⟩:=List.getElem?_of_mem hC
     have hlt:i < vs.length:=by have:=(List.getElem?_eq_some_iff.mp hi).1;omega
     exact (hG i _ C (List.getElem?_eq_getElem hlt) hi).1
    rw [hvs,hcs] at hl2
    have hl3:Led H2 (sR cF S.F ([(pm,HO.lst ((jv S).map V.bl)),(qt,HO.lst (S.F.hs.map aW))]++rF cT cD cS cI S M)):=Led.perm hl2 (aN [(pm,HO.lst ((jv S).map V.bl)),(qt,HO.lst (S.F.hs.map aW))] (qm cF S.F) _)
    have bM:Led H2 (bq cT cF cD cS cI S ([(pm,HO.lst ((jv S).map V.bl)),(qt,HO.lst (S.F.hs.map aW))]++M)):=St.RB (S:=S) (F':=S.F) rfl hl3
    clear hl2 hl3 hl1 hG hvs hcs hL
    have hD:=St.toD bM
    have g1:=g.n1
    walk_at "ge"
    refine ⟨S.d,S.JH,S.dm,pm,S.p,jv S,S.bs,_,rfl,hD,UK mS,by rw [ml,g.bl],by rw [g.bl];omega,by rw [g.bl];omega,λ fr bs' H3 hgo cP => ?_,λ H3 hno cP => ?_⟩
    ·rw [ml] at hgo cP
     have eX:=St.ofD (S:=S) (N:=[]) (M:=[(pm,HO.lst ((jv S).map V.bl)),(qt,HO.lst (S.F.hs.map aW))]++M) cP
     obtain ⟨l1,l2,l3⟩:=qa _ _ _ hgo
     rw [ml] at l2
     have hfn:=l2 (by omega)
     obtain ⟨x,hx⟩ : ∃ x,S.F.hs[fr]? = some x:=⟨_,List.getElem?_eq_getElem (by rw [g.f.h];exact hfn)⟩
     cases x with
     | none=>exact absurd rfl (hall none (List.mem_of_getElem? hx))
     | some x =>
       have Ra:=Cr (t:=x.1) (a:=x.2) hx
       rw [List.getD_eq_getElem?_getD,Ra] at l3
       walk_at "ge"
       refine K1.use ?_
       walk_at "cl"
       clear K1 cP hD bM
       refine aF λ M1 K1 => ?_
       walk_at "ge"
       refine ⟨{ S with p:=(fr+1) % n,bs:=bs' },n,q,fr,x.1,x.2,_,rfl,eX,(g.turned (Nat.mod_lt _ (by omega)) (l1.trans g.bl)).mono (λ c hc=>List.mem_append_right [] (mA hc)),hx,λ m e => ?_,λ S' N H4 Ol gk iu => ?_⟩
       ·rw [e] at l3
        exact l3
       ·walk_at "ge"
        refine K1.use ?_
        walk_at "cl"
        clear K1
        walk_at "ge"
        have e2:N++([(pm,HO.lst ((jv S).map V.bl)),(qt,HO.lst (S.F.hs.map aW))]++M)=(N++[(pm,HO.lst ((jv S).map V.bl)),(qt,HO.lst (S.F.hs.map aW))])++M:=(List.append_assoc _ _ _).symm
        have gk':aR S' n q (N++([(pm,HO.lst ((jv S).map V.bl)),(qt,HO.lst (S.F.hs.map aW))]++M)):=gk
        have UO:Led H4 (bq cT cF cD cS cI S' (N++([(pm,HO.lst ((jv S).map V.bl)),(qt,HO.lst (S.F.hs.map aW))]++M))):=iu
        rw [e2] at gk' UO
        exact kg hall fr bs' x.1 x.2 hgo hx S' _ _ (Ol.mono λ c hc=>mB hc) gk' UO
    ·have eX:=St.ofD (S:=S) (N:=[]) (M:=[(pm,HO.lst ((jv S).map V.bl)),(qt,HO.lst (S.F.hs.map aW))]++M) cP
     exact ke hall hno _ _ eX
  refine ⟨S.F.b,rfl,S.F,n,none,_,rfl,hF,g.f.mono (λ c hc=>jt hc),(λ t a e=>nomatch e),by omega,λ hno => ?_,λ j y h1 h2 h3 => ?_⟩
  ·walk_at "ge"
   exact rest λ z hz e=>hno z hz (by rw [e])
  ·walk_at "ge"
   refine K1.use ?_
   walk_at "cl"
   clear K1
   walk_at "ge"
   ·exact kf j _ (by rw [h1];cases y with | none=>rfl | some y=>cases h2) (λ m z hm hz e=>h3 m z hm hz (by rw [e])) hL
   ·exact nomatch (show V.int (j:Nat)=V.aH by assumption)
end
section
variable {P:Program} {w:World} {K:PySem.W.Frag} {mg:Str->Option Value} {base:Heap} {cU cA cB cC cT cF cD cS cI:Addr}
def Ah (hs:List (Int×Int)) (m c:Int):List (Int×Int):=hs.map λ e=>if e.1=m then (e.1,c) else e
theorem AW (hs:List (Int×Int)) (m c:Int):(Ah hs m c).map (·.1)=hs.map (·.1):=by
 unfold Ah
 rw [List.map_map]
 refine List.map_congr_left λ e _ => ?_
 show (if e.1=m then (e.1,c) else e).1=e.1
 split <;> rfl
theorem L5 {hs:List (Int×Int)} {m:Int} (h:m ∉ hs.map (·.1)):bx (Em hs) (.inl m)=none:=by
 induction hs with
 | nil=>rfl
 | cons e hs ih =>
   rw [List.map_cons,List.mem_cons,not_or] at h
   have hne : ¬ (Sum.inl e.1:Key) = .inl m:=λ z=>h.1 (Sum.inl.inj z).symm
   show bx ((Sum.inl e.1,V.int e.2)::Em hs) (.inl m)=none
   rw [bz (p:=(Sum.inl e.1,V.int e.2)) hne]
   exact ih h.2
theorem Om {hs:List (Int×Int)} {m:Int} (c:Int) (h:m ∉ hs.map (·.1)):putK (Em hs) (.inl m) (.int c)=Em (hs++[(m,c)]):=by
 unfold putK
 rw [if_neg]
 ·unfold Em;rw [List.map_append];rfl
 ·rw [c7,L5 h];exact Bool.false_ne_true
theorem St.push {H:Hp} {S:SS} {M:Cells} {c:Addr×HO} (h:Led H (c::bq cT cF cD cS cI S M)):Led H (bq cT cF cD cS cI S (c::M)):=by
 have e : ∀ X:Cells,bq cT cF cD cS cI S X=(AU cT S++(qm cF S.F++(En cD S++(Eo cS S++CM cI S))))++X:=λ X=>by unfold bq;simp only [List.append_assoc]
 rw [e] at h ⊢
 exact Led.perm h List.perm_middle.symm
theorem St.Ah {H:Hp} {S:SS} {M:Cells} (h:Led H (bq cT cF cD cS cI S M)) (hs':List (Int×Int)):Led (upd H S.ho (.dK (Em hs'))) (bq cT cF cD cS cI { S with hs:=hs' } M):=by
 have h1:Led H ((S.b,.ins cT S.dx (Gk S))::(S.ho,.dK (Em S.hs))::(qm cF S.F++(En cD S++(Eo cS S++(CM cI S++M))))):=h
 exact (Led.put (o' := .dK (Em hs')) h1.swap rfl rfl).swap
theorem St.abg {H:Hp} {S:SS} {M:Cells} (h:Led H (bq cT cF cD cS cI S M)) (k:Int):Led (upd H S.b (.ins cT S.dx (cQ (Str.ofString "sheets_made") (.int k) (Gk S)))) (bq cT cF cD cS cI { S with made:=k } M):=by
 have h1:Led H ((S.b,.ins cT S.dx (Gk S))::(S.ho,.dK (Em S.hs))::(qm cF S.F++(En cD S++(Eo cS S++(CM cI S++M))))):=h
 exact Led.put (o' := .ins cT S.dx (Gk { S with made:=k })) h1 rfl rfl
def L6 (cT cF cD cS cI:Addr):Sp:=λ vs H Q _ => ∃ (S:SS) (n q:Nat) (M:Cells),vs = [.ref S.b]/\Led H (bq cT cF cD cS cI S M)/\S.F.hs.length=n/\n<=64/\S.ps.length=q/\q<=550/\S.hs.length<=600 ∧ ∀ (N:Cells) (H':Hp),Led H' (bq cT cF cD cS cI S (N++M))->Q (.int ((n:Int) - 1+(q:Int) - (S.hs.length:Int))) H'
theorem Oo (D:Def K mg "room_of" gM) (B:iY mg) (T:Txt K mg cU cA cB cC cT cF cD cS cI) (dc:aJ P w K mg base 1 cF "things" ["self"] (qe cF)) (ic:aJ P w K mg base 1 cS "sheets" ["self"] (xH cS)):cZ P w K mg base 2 "room_of" ["store"] (L6 cT cF cD cS cI):=by
 have sc:=vC
 refine D.ok vC (λ vs H Q E h => ?_) (λ _ _ _ _ _ _ us hl=>match us,hl with | [_],_=>rfl) (λ f cdv A outer s H vs Q E hr h => ?_)
 ·obtain ⟨_,_,_,_,rfl,_⟩:=h;rfl
 ·obtain ⟨S,n,q,M,rfl,hL,hn,h64,hq,afB,hh,k⟩:=h
  have hsz:=sizeLine_eq
  have f1:=gq S
  have f3:=rX S
  have f5:=Gm S
  have gS:=hL.get St.b
  have hF:=St.toF hL
  have iZ:=hF.get mS
  refine ⟨_,(@ah _ _ _ _ _ (@aL _ _ 1 _ _ _ _ sc.nd rfl (by walk_at "o2") (@aq _ _ _ _ _ _ _ _ aV (@aq _ _ _ _ _ _ _ _ jB (@aK _ _ _ _ _ _ _ _ _ aS (by rfl) B.len bR (@aa _ _ _ _ _ (@dj _ _ _ _ _ _ _ _ _ _ _ _ _ T.Frames dc (hr.mono (by omega)) az (@ay _ _ _ _ _ _ _ T.aZ T.bL (@ao _ 0 _ _ (by walk_at "v")) (by rfl)) (by rfl)) (@ai _) (by rfl)) (by decide) (by decide) (by rfl) (by rfl)) (@aj _ _ _ _)) (@aK _ _ _ _ _ _ _ _ _ aS (by rfl) B.len bR (@aa _ _ _ _ _ (@dj _ _ _ _ _ _ _ _ _ _ _ _ _ T.fj ic (hr.mono (by omega)) az (@ay _ _ _ _ _ _ _ T.aZ T.jH (@ao _ 0 _ _ (by walk_at "v")) (by rfl)) (by rfl)) (@ai _) (by rfl)) (by decide) (by decide) (by rfl) (by rfl))) (by rfl) (by walk_at "o4")) (@ak _ _ _ (@aD _ _ _ _ (@aq _ _ _ _ _ _ _ _ jB (@ao _ 1 _ _ (by walk_at "v")) (@aK _ _ _ _ _ _ _ _ _ aS (by rfl) B.len bR (@aa _ _ _ _ _ (@ay _ _ _ _ _ _ _ T.aZ T.qB (@ao _ 0 _ _ (by walk_at "v")) (by rfl)) (@ai _) (by rfl)) (by decide) (by decide) (by rfl) (by rfl)))))),?_⟩
  refine aF λ M1 K1 => ?_
  walk_at "ge"
  refine ⟨S.F,_,rfl,hF,by omega,λ qt H1 hl1 => ?_⟩
  have hl2:Led H1 (sR cF S.F ([(qt,HO.lst (S.F.hs.map aW))]++rF cT cD cS cI S M)):=Led.perm hl1 (aN [(qt,HO.lst (S.F.hs.map aW))] (qm cF S.F) _)
  have Sz:=hl1.get mS
  have hl3:Led H1 (bq cT cF cD cS cI S ([(qt,HO.lst (S.F.hs.map aW))]++M)):=St.RB (S:=S) (F':=S.F) rfl hl2
  clear hl1 hl2 hF iZ gS hL
  have gS:=hl3.get St.b
  have hS:=St.toS hl3
  have eW:=hS.get Od
  have Js:=hS.get VV
  walk_at "ge"
  refine ⟨S.sb,S.LY,S.sl,S.sd,S.ps,_,rfl,hl3,eW,Js,λ r H2 bM => ?_⟩
  walk_at "ge"
  have cP:=St.push bM
  clear hl3 bM hS eW Js gS Sz
  have gS:=cP.get St.b
  have LK:=cP.get St.ho
  refine K1.use ?_
  walk_at "cl"
  clear K1
  walk_at "ge"
  have e1:(Em S.hs).length=S.hs.length:=by unfold Em;exact List.length_map ..
  have e2:(S.F.hs.map aW).length=n:=by rw [List.length_map];exact hn
  have:=k [(r,HO.lst S.ps),(qt,HO.lst (S.F.hs.map aW))] _ cP
  rw [e1,e2,hq]
  exact this
end
section
variable {P:Program} {w:World} {K:PySem.W.Frag} {mg:Str->Option Value} {base:Heap} {cU cA cB cC cT cF cD cS cI:Addr}
theorem Oq {v:V} {m:Int} (hv:v = .aH ∨ ∃ k:Int,v = .int k) (h:Bc v (.int m)=true):v = .int m:=by
 rcases hv with rfl | ⟨k,rfl⟩
 ·cases h
 ·have:decide (k=m)=true:=h
  rw [of_decide_eq_true this]
theorem aR.int_at {S:SS} {n q:Nat} {M:Cells} (g:aR S n q M) {m:Int} (h:qu (.int m) S.ps=true):S.ps[idx S.ps (.int m)]? = some (.int m):=by
 obtain ⟨v,hv,he⟩:=Cn h
 rw [hv,Oq (g.pe v (List.mem_of_getElem? hv)) he]
theorem aR.L7 {S:SS} {n q:Nat} {M:Cells} {m:Int} (g:aR S n q M) (hin:qu (.int m) S.ps=true) :
  aR { S with ps:=S.ps.set (idx S.ps (.int m)) .aH,es:=S.es.filter λ x=>decide (x.1≠m) } n q M:=by
 have hat:=g.int_at hin
 have hlt:idx S.ps (.int m) < S.ps.length:=(List.getElem?_eq_some_iff.mp hat).1
 have atS : ∀ (j:Nat) (k:Int),(S.ps.set (idx S.ps (.int m)) .aH)[j]? = some (.int k)->j≠idx S.ps (.int m)/\S.ps[j]? = some (.int k):=λ j k h=>by
  rw [List.getElem?_set] at h
  by_cases e:idx S.ps (.int m)=j
  ·rw [if_pos e,if_pos hlt] at h
   cases h
  ·rw [if_neg e] at h
   exact ⟨λ z=>e z.symm,h⟩
 refine { g with pl:=(List.length_set ..).trans g.pl,pe:=λ v hv => ?_,nd := ?_,pk:=λ k => ?_,pi:=λ i j k h1 h2=>g.pi i j k (atS i k h1).2 (atS j k h2).2,ap:=λ i t k h hk => ?_,er:=λ e he=>g.er e (List.mem_filter.mp he).1 }
 ·rcases List.mem_or_eq_of_mem_set hv with h | h
  ·exact g.pe v h
  ·exact .inl h
 ·exact g.nd.sublist (List.Sublist.map _ List.filter_sublist)
 ·show V.int k∈S.ps.set (idx S.ps (.int m)) .aH↔k∈(S.es.filter λ x=>decide (x.1≠m)).map (·.1)
  constructor
  ·intro h
   obtain ⟨j,hj⟩:=List.getElem?_of_mem h
   obtain ⟨h1,h2⟩:=atS j k hj
   obtain ⟨e,he,rfl⟩:=List.mem_map.mp ((g.pk k).mp (List.mem_of_getElem? h2))
   refine List.mem_map.mpr ⟨e,List.mem_filter.mpr ⟨he,decide_eq_true λ z=>h1 ?_⟩,rfl⟩
   rw [z] at h2
   exact g.pi j _ m h2 hat
  ·intro h
   obtain ⟨e,he,rfl⟩:=List.mem_map.mp h
   obtain ⟨he,hne⟩:=List.mem_filter.mp he
   obtain ⟨j,hj⟩:=List.getElem?_of_mem ((g.pk e.1).mpr (List.mem_map.mpr ⟨e,he,rfl⟩))
   have hjn:idx S.ps (.int m)≠j:=λ z=>by
    rw [<-z,hat] at hj
    injection hj with hj
    injection hj with hj
    exact of_decide_eq_true hne hj.symm
   refine List.mem_of_getElem? (i:=j) ?_
   rw [List.getElem?_set,if_neg hjn]
   exact hj
 ·obtain ⟨e,he,e2⟩:=List.mem_map.mp hk
  exact g.ap i t k h (List.mem_map.mpr ⟨e,(List.mem_filter.mp he).1,e2⟩)
end
section
variable {P:Program} {w:World} {K:PySem.W.Frag} {mg:Str->Option Value} {base:Heap} {cU cA cB cC cT cF cD cS cI:Addr}
def Lies (S:SS) (m:Int):Prop:=(∃ (i:Nat) (t:Addr),S.F.hs[i]? = some (some (t,Th.own m)))\/m∈S.es.map (·.1)
theorem PO.hs {N:Cells} {S S':SS} {i:Nat} {a:Th} (h:PO N S i S' a):S'.F.hs=S.F.hs.set i none/\S'.hs=S.hs/\S'.made=S.made/\S'.b=S.b/\S'.ho=S.ho:=by
 cases a with
 | own m=>obtain ⟨r,row,b,_,rfl⟩:=h;exact ⟨rfl,rfl,rfl,rfl,rfl⟩
 | file z p =>
   obtain ⟨r,row,_,h⟩:=h
   rcases h with ⟨_,rfl⟩ | ⟨_,as,bs,e,j,nr,_,_,_,_,_,rfl⟩
   ·exact ⟨rfl,rfl,rfl,rfl,rfl⟩
   ·exact ⟨rfl,rfl,rfl,rfl,rfl⟩
theorem PO.es {N:Cells} {S S':SS} {i:Nat} {a:Th} (h:PO N S i S' a):S'.es.map (·.1)=S.es.map (·.1)++(match a with | .own m=>[m] | .file _ _=>[]):=by
 cases a with
 | own m=>obtain ⟨r,row,b,_,rfl⟩:=h;show (S.es++[(m,b,row)]).map (·.1)=_;rw [List.map_append];rfl
 | file z p =>
   obtain ⟨r,row,_,h⟩:=h
   rcases h with ⟨_,rfl⟩ | ⟨_,as,bs,e,j,nr,_,_,_,_,_,rfl⟩
   ·exact (List.append_nil _).symm
   ·exact (List.append_nil _).symm
theorem PO.lies {N:Cells} {S S':SS} {i:Nat} {a:Th} {t:Addr} (hi:S.F.hs[i]? = some (some (t,a))) (h:PO N S i S' a) (k:Int):Lies S' k↔Lies S k:=by
 have hlt:i < S.F.hs.length:=(List.getElem?_eq_some_iff.mp hi).1
 unfold Lies
 rw [h.es,h.hs.1,List.mem_append]
 constructor
 ·rintro (⟨j,u,hj⟩ | hk | hk)
  ·rw [List.getElem?_set] at hj
   by_cases e:i=j
   ·subst e
    rw [if_pos rfl,if_pos hlt] at hj
    cases hj
   ·rw [if_neg e] at hj
    exact .inl ⟨j,u,hj⟩
  ·exact .inr hk
  ·cases a with
   | own m=>rw [List.mem_singleton.mp hk];exact .inl ⟨i,t,hi⟩
   | file z p=>cases hk
 ·rintro (⟨j,u,hj⟩ | hk)
  ·by_cases e:i=j
   ·subst e
    rw [hi] at hj
    cases hj
    exact .inr (.inr mS)
   ·exact .inl ⟨j,u,by rw [List.getElem?_set,if_neg e];exact hj⟩
  ·exact .inr (.inl hk)
def iW (N:Cells) (S:SS) (n i:Nat) (S1:SS):Prop :=
 (S.F.hs[i]? = some none/\(∀ (j:Nat) z,j < i->S.F.hs[j]? = some z->z≠none)/\S1=S) ∨
 ((∀ z∈S.F.hs,z≠none) ∧ ∃ (bs':List Bool) (t:Addr) (a:Th),Gg (jv S) (2 * n) S.p S.bs=some (i,bs')/\S.F.hs[i]? = some (some (t,a))/\PO N { S with p:=(i+1) % n,bs:=bs' } i S1 a)
theorem iW.lies {N:Cells} {S S1:SS} {n i:Nat} (h:iW N S n i S1) (k:Int):Lies S1 k↔Lies S k:=by
 rcases h with ⟨_,_,rfl⟩ | ⟨_,bs',t,a,_,hi,h⟩
 ·exact Iff.rfl
 ·exact PO.lies (S := { S with p:=(i+1) % n,bs:=bs' }) hi h k
theorem iW.at {N:Cells} {S S1:SS} {n i:Nat} (h:iW N S n i S1):S1.F.hs[i]? = some none/\S1.hs=S.hs/\S1.made=S.made/\S1.b=S.b/\S1.ho=S.ho:=by
 rcases h with ⟨h,_,rfl⟩ | ⟨_,bs',t,a,_,hi,h⟩
 ·exact ⟨h,rfl,rfl,rfl,rfl⟩
 ·refine ⟨?_,h.hs.2⟩
  have hlt:i < S.F.hs.length:=(List.getElem?_eq_some_iff.mp hi).1
  rw [h.hs.1]
  show (S.F.hs.set i none)[i]? = _
  rw [List.getElem?_set,if_pos rfl,if_pos hlt]
theorem iW.mono {N N':Cells} {S S1:SS} {n i:Nat} (h:iW N S n i S1) (up : ∀ c∈N,c∈N'):iW N' S n i S1:=by
 rcases h with h | ⟨h,bs',t,a,h1,h2,h3⟩
 ·exact .inl h
 ·exact .inr ⟨h,bs',t,a,h1,h2,h3.mono up⟩
theorem aR.had {N:Cells} {S S1:SS} {n q i:Nat} {M:Cells} (g:aR S n q M) (h:iW N S n i S1):aR S1 n q (N++M):=by
 rcases h with ⟨_,_,rfl⟩ | ⟨_,bs',t,a,hgo,hi,h⟩
 ·exact g.mono λ c hc=>mA hc
 ·obtain ⟨l1,l2,l3⟩:=qa _ _ _ hgo
  have n1:=g.n1
  refine aR.po (S := { S with p:=(i+1) % n,bs:=bs' }) (g.turned (Nat.mod_lt _ (by omega)) (l1.trans g.bl)) hi (λ m e => ?_) h
  rw [List.getD_eq_getElem?_getD,Cr hi,e] at l3
  exact l3
theorem aR.filled {S:SS} {n q i:Nat} {M:Cells} (g:aR S n q M) {t r:Addr} {m k:Int} {row:List Int} {hs':List (Int×Int)} (ht:(t,HO.tup (gc (.own m)))∈M) (hr:(r,HO.lst (row.map V.int))∈M) (h4:row.length=4) (hn : ¬ Lies S m) :
  aR { S with made:=k,hs:=hs',F:=S.F.fill i (some (t,.own m)) (some (r,row)) false } n q M:=by
 have old : ∀ (j:Nat) (x:Addr×Th),(S.F.hs.set i (some (t,.own m)))[j]? = some (some x)->(j=i/\x=(t,.own m))\/(i≠j/\S.F.hs[j]? = some (some x)):=λ j x h=>by
  rw [List.getElem?_set] at h
  split at h
  ·split at h
   ·cases h
    exact .inl ⟨by omega,rfl⟩
   ·cases h
  ·exact .inr ⟨by assumption,h⟩
 refine { g with f:=g.f.fill (λ t' a e=>by cases e;exact ⟨ht,True.intro⟩) (λ t' a e=>by cases e;exact hr),rr:=λ j u a h => ?_,inj:=λ j l u v a h1 h2 => ?_,ap:=λ j u k h => ?_,ff:=λ j u z p h => ?_ }
 ·rcases old j _ h with ⟨rfl,_⟩ | ⟨h1,h2⟩
  ·have hlt:j < S.F.rs.length:=by
    have h5:=(List.getElem?_eq_some_iff.mp h).1
    have h6:(S.F.hs.set j (some (t,.own m))).length=n:=(List.length_set ..).trans g.f.h
    rw [g.f.r,<-h6]
    exact h5
   exact ⟨r,row,by show (S.F.rs.set j _)[j]? = _;rw [List.getElem?_set,if_pos rfl,if_pos hlt],h4⟩
  ·obtain ⟨r',fH,e,h5⟩:=g.rr j u a h2
   exact ⟨r',fH,by show (S.F.rs.set i _)[j]? = _;rw [List.getElem?_set,if_neg h1];exact e,h5⟩
 ·rcases old j _ h1 with ⟨e1,x1⟩ | ⟨n1,o1⟩
  ·rcases old l _ h2 with ⟨e2,_⟩ | ⟨n2,o2⟩
   ·rw [e1,e2]
   ·cases x1
    exact absurd (.inl ⟨l,v,o2⟩) hn
  ·rcases old l _ h2 with ⟨e2,x2⟩ | ⟨n2,o2⟩
   ·cases x2
    exact absurd (.inl ⟨j,u,o1⟩) hn
   ·exact g.inj j l u v a o1 o2
 ·rcases old j _ h with ⟨_,x⟩ | ⟨_,o⟩
  ·cases x
   exact λ z=>hn (.inr z)
  ·exact g.ap j u k o
 ·rcases old j _ h with ⟨_,x⟩ | ⟨_,o⟩
  ·cases x
  ·exact g.ff j u z p o
def PD (cT cF cD cS cI cU:Addr):Sp:=λ vs H Q E => ∃ (S:SS) (n q:Nat) (r0:Addr) (row:List Int) (M:Cells),vs = [.ref S.b,.ref r0]/\Led H (bq cT cF cD cS cI S M)/\aR S n q M/\(r0,HO.lst (row.map V.int))∈M/\row.length=4/\S.hs.length<=600 ∧ ¬ Lies S (S.made+1)/\S.made+1 ∉ S.hs.map (·.1) ∧
 ((n:Int) - 1+(q:Int) - (S.hs.length:Int)=0->∀ (N:Cells) (H':Hp),Led H' (bq cT cF cD cS cI S (N++M))->E (.ref cU) none H') ∧
 ((n:Int) - 1+(q:Int) - (S.hs.length:Int)≠0->(∀ z∈S.F.hs,z≠none)->true ∉ jv S->False) ∧
 ((n:Int) - 1+(q:Int) - (S.hs.length:Int)≠0->∀ (i:Nat) (S1:SS) (t r p:Addr) (N:Cells) (H':Hp),iW N S n i S1->(t,HO.tup (gc (.own (S.made+1))))∈N->(r,HO.lst (row.map V.int))∈N->aR { S1 with made:=S.made+1,hs:=S.hs++[(S.made+1,1)],F:=S1.F.fill i (some (t,.own (S.made+1))) (some (r,row)) false } n q (N++M)->(p,HO.tup [.int (S.made+1),.int (i:Nat)])∈N->Led H' (bq cT cF cD cS cI { S1 with made:=S.made+1,hs:=S.hs++[(S.made+1,1)],F:=S1.F.fill i (some (t,.own (S.made+1))) (some (r,row)) false } (N++M))->Q (.ref p) H')
theorem RE (D:Def K mg "new_sheet" eS) (B:iY mg) (T:Txt K mg cU cA cB cC cT cF cD cS cI) (iX:aJ P w K mg base 1 cF "fill" ["self","frame","thing","row"] (Ge cF)) (Jt:cZ P w K mg base 2 "room_of" ["store"] (L6 cT cF cD cS cI)) (jP:cZ P w K mg base 6 "have_frame" ["store"] (Gp cT cF cD cS cI cU)):cZ P w K mg base 7 "new_sheet" ["store","row"] (PD cT cF cD cS cI cU):=by
 have sc:=o5
 refine D.Dk o5 (λ vs H Q E h => ?_) (λ _ _ _ _ _ _ us hl=>match us,hl with | [_,_],_=>rfl) (λ f cdv A outer s H vs Q E hr h => ?_)
 ·obtain ⟨_,_,_,_,_,_,rfl,_⟩:=h;rfl
 ·obtain ⟨S,n,q,r0,row,M,rfl,hL,g,p9,h4,hh,UP,LH,ke,kn,k⟩:=h
  have hu:=gz hr
  have hsz:=sizeLine_eq
  refine ⟨_,(@ah _ _ _ _ _ (@aU _ _ _ _ _ _ _ _ (@aI _ _ _ _ _ _ _ _ cz (@aB _ _ _ _ _ _ _ _ _ _ _ Jt (hr.mono (by omega)) (by rfl) az (@aa _ _ _ _ _ (@ao _ 0 _ _ (by walk_at "v")) (@ai _) (by rfl)) (by decide) (by rfl) (by rfl)) (@aj _ _ _ _) (aO _)) (@ak _ _ _ (@i9 _ _ _ _ _ _ _ _ _ _ _ _ _ _ _ _ _ _ _ _ _ _ T.Full (by rfl) (@aa _ _ _ _ _ (@cW _ _ _ _) (@ai _) (by rfl)) (by decide) (by rfl))) (@aE _)) (@ah _ _ _ _ _ (@aL _ _ 2 _ _ _ _ sc.nd rfl (by walk_at "o2") (@aB _ _ _ _ _ _ _ _ _ _ _ jP (hr.mono (by omega)) (by rfl) jR (@aa _ _ _ _ _ (@ao _ 0 _ _ (by walk_at "v")) (@ai _) (by rfl)) (by decide) (by rfl) (by rfl)) (by rfl) (by walk_at "o4")) (@ah _ _ _ _ _ (@aL _ _ 3 _ _ _ _ sc.nd rfl (by walk_at "o2") (@aq _ _ _ _ _ _ _ _ aV (@ay _ _ _ _ _ _ _ T.aZ T.iV (@ao _ 0 _ _ (by walk_at "v")) (by rfl)) (@aj _ _ _ _)) (by rfl) (by walk_at "o4")) (@ah _ _ _ _ _ (@cj _ _ _ _ _ _ _ _ _ _ T.aZ T.iV (@ao _ 0 _ _ (by walk_at "v")) (@ao _ 3 _ _ (by walk_at "v")) (by rfl)) (@ah _ _ _ _ _ (@l6 _ _ _ _ _ _ _ _ _ hu (@ay _ _ _ _ _ _ _ T.aZ T.qB (@ao _ 0 _ _ (by walk_at "v")) (by rfl)) (@ao _ 3 _ _ (by walk_at "v")) (@aj _ _ _ _) rfl) (@ah _ _ _ _ _ (@bY _ _ _ _ (@aP _ _ _ _ _ _ _ _ _ _ _ _ _ _ _ _ T.Frames iX (hr.mono (by omega)) az (@ay _ _ _ _ _ _ _ T.aZ T.bL (@ao _ 0 _ _ (by walk_at "v")) (by rfl)) (@aa _ _ _ _ _ (@ao _ 2 _ _ (by walk_at "v")) (@aa _ _ _ _ _ (@eN _ _ _ _ _ (@aa _ _ _ _ _ (@cW _ _ _ _) (@aa _ _ _ _ _ (@ao _ 3 _ _ (by walk_at "v")) (@ai _) (by rfl)) (by rfl))) (@aa _ _ _ _ _ (@ao _ 1 _ _ (by walk_at "v")) (@ai _) (by rfl)) (by rfl)) (by rfl)) (by rfl) (by rfl) (by rfl)) (by rfl)) (@ak _ _ _ (@aD _ _ _ _ (@eN _ _ _ _ _ (@aa _ _ _ _ _ (@ao _ 3 _ _ (by walk_at "v")) (@aa _ _ _ _ _ (@ao _ 2 _ _ (by walk_at "v")) (@ai _) (by rfl)) (by rfl))))))))))),?_⟩
  refine aF λ M1 K1 => ?_
  walk_at "ge"
  refine ⟨S,n,q,M,rfl,hL,g.f.h,g.n64,g.pl,g.q6,hh,λ N1 H1 hl1 => ?_⟩
  have g1:aR S n q (N1++M):=g.mono λ c hc=>mA hc
  walk_at "ge"
  ·refine nI λ R hR => ?_
   walk_at "ge"
   exact ⟨by decide,ke (by assumption) N1 _ hl1⟩
  ·have hroom:(n:Int) - 1+(q:Int) - (S.hs.length:Int)≠0:=by assumption
   refine K1.use ?_
   walk_at "cl"
   clear K1
   refine aF λ M1 K1 => ?_
   have rest : ∀ (i:Nat) (S1:SS) (N:Cells) (H2:Hp),iW N S n i S1->aR S1 n q (N++(N1++M))->Led H2 (bq cT cF cD cS cI S1 (N++(N1++M)))->M1 [some (.ref S.b),some (.ref r0),some (.int (i:Nat)),none] H2:=by
    intro i S1 N H2 Gq gk hl2
    rw [show N++(N1++M)=(N++N1)++M from (List.append_assoc _ _ _).symm] at gk hl2
    obtain ⟨h0,SA,VW,eb,eho⟩:=Gq.at
    have hi:i < n:=by have:=(List.getElem?_eq_some_iff.mp h0).1;rw [gk.f.h] at this;exact this
    have nl : ¬ Lies S1 (S.made+1):=λ z=>UP ((Gq.lies _).mp z)
    refine K1.use ?_
    clear K1
    have f6:=RC S1
    have f5:=Gm S1
    have gS:=hl2.get St.b
    rw [<-eb]
    refine aF λ M1 K1 => ?_
    walk_at "ge"
    refine K1.use ?_
    walk_at "cl"
    clear K1
    rw [VW]
    refine aF λ M1 K1 => ?_
    walk_at "ge"
    have hl3:=St.abg hl2 (S.made+1)
    generalize upd H2 S1.b (HO.ins cT S1.dx (cQ (Str.ofString "sheets_made") (V.int (S.made+1)) (Gk S1)))=H3 at hl3 ⊢
    refine K1.use ?_
    walk_at "cl"
    clear K1 gS hl2 f5 f6
    have f5:=Gm { S1 with made:=S.made+1 }
    have gS:=hl3.get St.b
    have LK:=hl3.get St.ho
    refine aF λ M1 K1 => ?_
    walk_at "ge"
    have abh:S.made+1 ∉ S1.hs.map (·.1):=by rw [SA];exact LH
    refine Pq LK (by unfold Em;rw [List.length_map];show S1.hs.length < _;rw [SA];omega) ?_
    rw [Om _ abh]
    have bM:=St.Ah hl3 (S1.hs++[(S.made+1,1)])
    obtain ⟨S3,UQ⟩ : ∃ S3:SS,S3 = { S1 with made:=S.made+1,hs:=S1.hs++[(S.made+1,1)] } := ⟨_,rfl⟩
    have cP:Led (upd H3 S1.ho (HO.dK (Em (S1.hs++[(S.made+1,1)])))) (bq cT cF cD cS cI S3 ((N++N1)++M)):=by rw [UQ];exact bM
    have g3:aR S3 n q ((N++N1)++M):=by rw [UQ];exact { gk with }
    have eb3:S1.b=S3.b:=by rw [UQ]
    clear bM hl3 gS LK f5
    walk_at "ge"
    refine K1.use ?_
    walk_at "cl"
    clear K1
    generalize upd H3 S1.ho (HO.dK (Em (S1.hs++[(S.made+1,1)])))=H4 at cP ⊢
    rw [eb3]
    have f1:=gq S3
    have gS:=cP.get St.b
    have hF:=St.toF cP
    have iZ:=hF.get mS
    refine aF λ M1 K1 => ?_
    walk_at "ge"
    rename_i t H5 _ eX _ _ _
    have iu:Led H5 (sR cF S3.F ([(t,HO.tup (gc (.own (S.made+1))))]++rF cT cD cS cI S3 ((N++N1)++M))):=Led.perm eX (aN [(t,HO.tup (gc (.own (S.made+1))))] (qm cF S3.F) _)
    clear eX hF gS iZ cP
    refine ⟨S3.F,n,i,t,r0,.own (S.made+1),row,_,rfl,iu,g3.f.mono (λ c hc=>mA (jt hc)),hi,mA (jt (mA p9)),by omega,λ r H6 lW => ?_⟩
    have lX:Led H6 (bq cT cF cD cS cI { S3 with F:=S3.F.fill i (some (t,.own (S.made+1))) (some (r,row)) false } ([(r,HO.lst (row.map V.int)),(t,HO.tup (gc (.own (S.made+1))))]++((N++N1)++M))):=St.RB (S:=S3) rfl lW
    have nl3 : ¬ Lies S3 (S.made+1):=by rw [UQ];exact nl
    have g4:=(g3.mono (M':=[(r,HO.lst (row.map V.int)),(t,HO.tup (gc (.own (S.made+1))))]++((N++N1)++M)) λ c hc=>mA hc).filled (i:=i) (t:=t) (r:=r) (m:=S.made+1) (k:=S.made+1) (row:=row) (hs':=S3.hs) (mC mS) mS h4 nl3
    clear iu lW
    walk_at "ge"
    refine K1.use ?_
    walk_at "cl"
    clear K1
    walk_at "ge"
    rename_i p H7 _ fF _
    have fG:=St.push fF
    have g5:=g4.mono (M':=(p,HO.tup [V.int (S.made+1),V.int (i:Nat)])::([(r,HO.lst (row.map V.int)),(t,HO.tup (gc (.own (S.made+1))))]++((N++N1)++M))) λ c hc=>mC hc
    subst UQ
    rw [SA] at g5 fG
    exact k hroom i S1 t r p ((p,HO.tup [V.int (S.made+1),V.int (i:Nat)])::(r,HO.lst (row.map V.int))::(t,HO.tup (gc (.own (S.made+1))))::(N++N1)) H7 (Gq.mono λ c hc=>mC (mC (mC (mB hc)))) (mC (mC mS)) (mC mS) g5 mS fG
   walk_at "ge"
   refine ⟨S,n,q,_,rfl,hl1,g1,λ i H2 h1 h2 hl2 => ?_,λ hall i bs' t a hgo hi S1 N H2 Ol gk hl2 => ?_,λ hall hno N H2 hl2=>(kn hroom hall hno).elim⟩
   ·walk_at "ge"
    exact rest i S [] H2 (.inl ⟨h1,h2,rfl⟩) g1 hl2
   ·walk_at "ge"
    exact rest i S1 N H2 (.inr ⟨hall,bs',t,a,hgo,hi,Ol⟩) gk hl2
end
section
variable {P:Program} {w:World} {K:PySem.W.Frag} {mg:Str->Option Value} {base:Heap} {cU cA cB cC cT cF cD cS cI:Addr}
def S0 (b dx fr Ai l r s di Ct mk sh CO pl rd fi CP fd ho:Addr) (n q:Nat):SS := { b:=b,dx:=dx,F:=FS.new fr Ai l r s n,d:=di,JH:=Ct,dm:=mk,p:=0,bs:=List.replicate n false,sb:=sh,LY:=CO,sl:=pl,sd:=rd,ps:=List.replicate q .aH,es:=[],ib:=fi,ix:=CP,im:=fd,fs:=[],ho:=ho,hs:=[],made:=0 }
def G8 (cT cF cD cS cI:Addr):Sp:=λ vs H Q _ => ∃ (b dx:Addr) (n q:Nat) (L:Cells),vs = [.ref b,.int (n:Nat),.int (q:Nat)]/\Led H ((b,.ins cT dx [])::L)/\n<=64/\q<=550 ∧ ∀ fr Ai l r s di Ct mk sh CO pl rd fi CP fd ho H',Led H' (bq cT cF cD cS cI (S0 b dx fr Ai l r s di Ct mk sh CO pl rd fi CP fd ho n q) L)->Q .aH H'
theorem RG {α : Type} (fi sh di fr L:List α):(fi++(sh++(di++(fr++L)))).Perm (fr++(di++(sh++(fi++L)))) :=
 (((List.Perm.append_left fi (List.Perm.append_left sh (aN di fr L))).trans (List.Perm.append_left fi (aN sh fr _))).trans (aN fi fr _)).trans (List.Perm.append_left fr (((List.Perm.append_left fi (aN sh di L)).trans (aN fi di _)).trans (List.Perm.append_left di (aN fi sh L))))
theorem L8 (D:nG K cT "Store.__init__" dW) (T:Txt K mg cU cA cB cC cT cF cD cS cI) (Ma:iA P w K mg base 1 cF ["self","many"] (GY cF)) (RH:iA P w K mg base 1 cD ["self","many"] (G0 cD)) (Ot:iA P w K mg base 1 cS ["self","many"] (G3 cS)) (Ou:iA P w K mg base 1 cI ["self"] (G5 cI)):iA P w K mg base 3 cT ["self","many","places"] (G8 cT cF cD cS cI):=by
 have sc:=ng
 refine D.ok ng (λ vs H Q E h => ?_) (λ _ _ _ _ _ _ us hl=>match us,hl with | [_,_,_],_=>rfl) (λ f cdv A outer s H vs Q E hr h => ?_)
 ·obtain ⟨_,_,_,_,_,rfl,_⟩:=h;rfl
 ·obtain ⟨b,dx,n,q,L,rfl,hL,n64,q6,k⟩:=h
  refine ⟨_,(@ah _ _ _ _ _ (@cj _ _ _ _ _ _ _ _ _ _ T.aZ T.bL (@ao _ 0 _ _ (by walk_at "v")) (@oX _ _ _ _ _ _ _ _ _ _ _ _ T.Frames Ma (hr.mono (by omega)) (by rfl) az (@aa _ _ _ _ _ (@ao _ 1 _ _ (by walk_at "v")) (@ai _) (by rfl)) (by decide) (by rfl) (by rfl)) (by rfl)) (@ah _ _ _ _ _ (@cj _ _ _ _ _ _ _ _ _ _ T.aZ T.k7 (@ao _ 0 _ _ (by walk_at "v")) (@oX _ _ _ _ _ _ _ _ _ _ _ _ T.jI RH (hr.mono (by omega)) (by rfl) az (@aa _ _ _ _ _ (@ao _ 1 _ _ (by walk_at "v")) (@ai _) (by rfl)) (by decide) (by rfl) (by rfl)) (by rfl)) (@ah _ _ _ _ _ (@cj _ _ _ _ _ _ _ _ _ _ T.aZ T.jH (@ao _ 0 _ _ (by walk_at "v")) (@oX _ _ _ _ _ _ _ _ _ _ _ _ T.fj Ot (hr.mono (by omega)) (by rfl) az (@aa _ _ _ _ _ (@ao _ 2 _ _ (by walk_at "v")) (@ai _) (by rfl)) (by decide) (by rfl) (by rfl)) (by rfl)) (@ah _ _ _ _ _ (@cj _ _ _ _ _ _ _ _ _ _ T.aZ T.o7 (@ao _ 0 _ _ (by walk_at "v")) (@Ia _ _ _ _ _ _ _ _ _ T.gw Ou (hr.mono (by omega)) (by rfl) az (by decide)) (by rfl)) (@ah _ _ _ _ _ (@cj _ _ _ _ _ _ _ _ _ _ T.aZ T.qB (@ao _ 0 _ _ (by walk_at "v")) (@u9 _ _) (by rfl)) (@ak _ _ _ (@cj _ _ _ _ _ _ _ _ _ _ T.aZ T.iV (@ao _ 0 _ _ (by walk_at "v")) (@aj _ _ _ _) (by rfl)))))))),?_⟩
  refine aF λ M1 K1 => ?_
  walk_at "ge"
  intro fr Ai z1 z2 z3
  refine ⟨fr,Ai,n,_,rfl,hL.make z1 z2 z3,by omega,λ l r s' H1 hl1=>⟨rfl,?_⟩⟩
  clear z1 z2 z3 hL
  have hl2:Led H1 ((b,.ins cT dx [])::(qm cF (FS.new fr Ai l r s' n)++L)):=Led.perm hl1 (List.perm_middle (l₁ := qm cF (FS.new fr Ai l r s' n)))
  have hl3:Led (upd H1 b (.ins cT dx (cQ (Str.ofString "frames") (V.ref fr) []))) ((b,.ins cT dx [("frames",.ref fr)])::_):=hl2.put rfl rfl
  clear hl1
  walk_at "ge"
  refine K1.use ?_
  walk_at "cl"
  clear K1 hl2
  generalize upd H1 b (.ins cT dx (cQ (Str.ofString "frames") (V.ref fr) []))=H2 at hl3 ⊢
  refine aF λ M1 K1 => ?_
  walk_at "ge"
  intro di Ct z1 z2 z3
  refine ⟨di,Ct,(n:Int),_,rfl,hl3.make z1 z2 z3,by omega,by omega,λ mk H3 bM=>⟨rfl,?_⟩⟩
  clear z1 z2 z3 hl3
  rw [Int.toNat_natCast] at bM
  have cP:Led H3 ((b,.ins cT dx [("frames",.ref fr)])::(fL cD di Ct mk 0 (List.replicate n false)++(qm cF (FS.new fr Ai l r s' n)++L))):=Led.perm bM List.perm_middle
  have eX:Led (upd H3 b (.ins cT dx (cQ (Str.ofString "dial") (V.ref di) [("frames",.ref fr)]))) ((b,.ins cT dx [("frames",.ref fr),("dial",.ref di)])::_):=cP.put rfl rfl
  clear bM
  walk_at "ge"
  refine K1.use ?_
  walk_at "cl"
  clear K1 cP
  generalize upd H3 b (.ins cT dx (cQ (Str.ofString "dial") (V.ref di) [("frames",.ref fr)]))=H4 at eX ⊢
  refine aF λ M1 K1 => ?_
  walk_at "ge"
  intro sh CO z1 z2 z3
  refine ⟨sh,CO,(q:Int),_,rfl,eX.make z1 z2 z3,by omega,by omega,λ pl rd H5 iu=>⟨rfl,?_⟩⟩
  clear z1 z2 z3 eX
  rw [Int.toNat_natCast] at iu
  have lW:Led H5 ((b,.ins cT dx [("frames",.ref fr),("dial",.ref di)])::(Ae cS sh CO pl rd (List.replicate q .aH) []++(fL cD di Ct mk 0 (List.replicate n false)++(qm cF (FS.new fr Ai l r s' n)++L)))):=Led.perm iu List.perm_middle
  have lX:Led (upd H5 b (.ins cT dx (cQ (Str.ofString "shelf") (V.ref sh) [("frames",.ref fr),("dial",.ref di)]))) ((b,.ins cT dx [("frames",.ref fr),("dial",.ref di),("shelf",.ref sh)])::_):=lW.put rfl rfl
  clear iu
  walk_at "ge"
  refine K1.use ?_
  walk_at "cl"
  clear K1 lW
  generalize upd H5 b (.ins cT dx (cQ (Str.ofString "shelf") (V.ref sh) [("frames",.ref fr),("dial",.ref di)]))=H6 at lX ⊢
  refine aF λ M1 K1 => ?_
  walk_at "ge"
  intro fi CP z1 z2 z3
  refine ⟨fi,CP,_,rfl,lX.make z1 z2 z3,λ fd H7 fF=>⟨rfl,?_⟩⟩
  clear z1 z2 z3 lX
  have fG:Led H7 ((b,.ins cT dx [("frames",.ref fr),("dial",.ref di),("shelf",.ref sh)])::(((fi,.ins cI CP (iS fd))::(fd,.dK (yc []))::nJ [])++(Ae cS sh CO pl rd (List.replicate q .aH) []++(fL cD di Ct mk 0 (List.replicate n false)++(qm cF (FS.new fr Ai l r s' n)++L))))):=Led.perm fF (List.perm_middle (l₁ := (fi,HO.ins cI CP (iS fd))::(fd,.dK (yc []))::nJ []))
  have fR:Led (upd H7 b (.ins cT dx (cQ (Str.ofString "files") (V.ref fi) [("frames",.ref fr),("dial",.ref di),("shelf",.ref sh)]))) ((b,.ins cT dx [("frames",.ref fr),("dial",.ref di),("shelf",.ref sh),("files",.ref fi)])::_):=fG.put rfl rfl
  clear fF
  walk_at "ge"
  refine K1.use ?_
  walk_at "cl"
  clear K1 fG
  generalize upd H7 b (.ins cT dx (cQ (Str.ofString "files") (V.ref fi) [("frames",.ref fr),("dial",.ref di),("shelf",.ref sh)]))=H8 at fR ⊢
  refine aF λ M1 K1 => ?_
  walk_at "ge"
  rename_i ho H9 _ iy _
  have rZ:Led (upd H9 b (.ins cT dx (cQ (Str.ofString "holders") (V.ref ho) [("frames",.ref fr),("dial",.ref di),("shelf",.ref sh),("files",.ref fi)]))) ((b,.ins cT dx [("frames",.ref fr),("dial",.ref di),("shelf",.ref sh),("files",.ref fi),("holders",.ref ho)])::_):=(iy.swap).put rfl rfl
  refine K1.use ?_
  walk_at "cl"
  clear K1 iy fR
  generalize upd H9 b (.ins cT dx (cQ (Str.ofString "holders") (V.ref ho) [("frames",.ref fr),("dial",.ref di),("shelf",.ref sh),("files",.ref fi)]))=Nv at rZ ⊢
  walk_at "ge"
  have D5:=rZ.put (o' := .ins cT dx (Gk (S0 b dx fr Ai l r s' di Ct mk sh CO pl rd fi CP fd ho n q))) rfl rfl
  exact k fr Ai l r s' di Ct mk sh CO pl rd fi CP fd ho _ (Led.perm D5 (List.Perm.cons _ (List.Perm.cons _ (RG _ _ _ _ _))))
end
section
variable {P:Program} {w:World} {K:PySem.W.Frag} {mg:Str->Option Value} {base:Heap} {cU cA cB cC cT cF cD cS cI:Addr}
structure G9 (S:SS) (n q:Nat):Prop where
 nd:(S.hs.map (·.1)).Nodup
 le : ∀ e∈S.hs,1<=e.1/\e.1<=S.made
 c1 : ∀ e∈S.hs,1<=e.2
 RI : ∀ m,m∈S.hs.map (·.1)↔Lies S m
 most:S.hs.length<=n - 1+q
 m0:0<=S.made
theorem G9.key {S:SS} {n q:Nat} (g:G9 S n q):S.made+1 ∉ S.hs.map (·.1):=λ h=>by
 obtain ⟨e,he,e1⟩:=List.mem_map.mp h
 have:=(g.le e he).2
 have e2:e.1=S.made+1:=e1
 omega
theorem G9.fresh {S:SS} {n q:Nat} (g:G9 S n q) : ¬ Lies S (S.made+1):=λ h=>g.key ((g.RI _).mpr h)
theorem G9.count {S:SS} {n q:Nat} (g:G9 S n q) {m c:Int} (hc:1<=c):G9 { S with hs:=Ah S.hs m c } n q:=by
 have UR : ∀ e∈Ah S.hs m c,∃ d∈S.hs,e.1=d.1/\(e.2=c\/e=d):=λ e he=>by
  obtain ⟨d,hd,rfl⟩:=List.mem_map.mp he
  refine ⟨d,hd,?_⟩
  by_cases z:d.1=m
  ·rw [if_pos z];exact ⟨rfl,.inl rfl⟩
  ·rw [if_neg z];exact ⟨rfl,.inr rfl⟩
 refine ⟨by show ((Ah S.hs m c).map (·.1)).Nodup;rw [AW];exact g.nd,λ e he => ?_,λ e he => ?_,λ k => ?_,?_,g.m0⟩
 ·obtain ⟨d,hd,e1,_⟩:=UR e he
  rw [e1]
  exact g.le d hd
 ·obtain ⟨d,hd,_,e2 | e2⟩:=UR e he
  ·rw [e2];exact hc
  ·rw [e2];exact g.c1 d hd
 ·show k∈(Ah S.hs m c).map (·.1)↔_
  rw [AW]
  exact g.RI k
 ·show (Ah S.hs m c).length<=_
  unfold Ah
  rw [List.length_map]
  exact g.most
theorem G9.Mb {N:Cells} {S S1:SS} {n q i:Nat} {M:Cells} {t r:Addr} {row:List Int} (g:G9 S n q) (h:iW N S n i S1) (gs:aR S n q M) (hr:(n:Int) - 1+(q:Int) - (S.hs.length:Int)≠0):G9 { S1 with made:=S.made+1,hs:=S.hs++[(S.made+1,1)],F:=S1.F.fill i (some (t,.own (S.made+1))) (some (r,row)) false } n q:=by
 have n1:=gs.n1
 have m0:=g.m0
 have hm:=g.most
 have h0:=h.at.1
 have hlt:=(List.getElem?_eq_some_iff.mp h0).1
 refine ⟨?_,λ e he => ?_,λ e he => ?_,λ k => ?_,?_,?_⟩
 ·show ((S.hs++[((S.made+1,1):Int×Int)]).map (λ e:Int×Int=>e.1)).Nodup
  rw [List.map_append]
  refine List.nodup_append.mpr ⟨g.nd,by simp,λ x hx y hy e => ?_⟩
  have hy':y=S.made+1:=by simpa using hy
  exact g.key (hy' ▸ e ▸ hx)
 ·show 1<=e.1/\e.1<=S.made+1
  rcases List.mem_append.mp he with he | he
  ·have:=g.le e he;omega
  ·rw [List.mem_singleton.mp he];show 1<=S.made+1/\S.made+1<=S.made+1;omega
 ·rcases List.mem_append.mp he with he | he
  ·exact g.c1 e he
  ·rw [List.mem_singleton.mp he];exact Int.le_refl 1
 ·show k∈(S.hs++[((S.made+1,1):Int×Int)]).map (λ e:Int×Int=>e.1)↔_
  rw [List.map_append,List.mem_append,g.RI k,<-h.lies k]
  unfold Lies
  show _↔(∃ (j:Nat) (u:Addr),(S1.F.hs.set i (some (t,.own (S.made+1))))[j]? = some (some (u,Th.own k)))\/k∈S1.es.map (·.1)
  constructor
  ·rintro ((⟨j,u,hj⟩ | hk) | hk)
   ·refine .inl ⟨j,u,?_⟩
    have:i≠j:=λ z=>by rw [<-z,h0] at hj;cases hj
    rw [List.getElem?_set,if_neg this]
    exact hj
   ·exact .inr hk
   ·have hk':k=S.made+1:=by simpa using hk
    refine .inl ⟨i,t,?_⟩
    rw [List.getElem?_set,if_pos rfl,if_pos hlt,hk']
  ·rintro (⟨j,u,hj⟩ | hk)
   ·by_cases z:i=j
    ·rw [List.getElem?_set,if_pos z,if_pos hlt] at hj
     cases hj
     exact .inr mS
    ·rw [List.getElem?_set,if_neg z] at hj
     exact .inl (.inl ⟨j,u,hj⟩)
   ·exact .inl (.inr hk)
 ·show (S.hs++[(S.made+1,1)]).length<=_
  rw [List.length_append]
  show S.hs.length+1<=_
  omega
 ·show 0<=S.made+1
  omega
end
section
variable {P:Program} {w:World} {K:PySem.W.Frag} {mg:Str->Option Value} {base:Heap} {cU cA cB cC cT cF cD cS cI:Addr}
def Cu (cI cA cB:Addr):Sp:=λ vs H Q E => ∃ (b dx d:Addr) (es:cR) (z:Str) (p:Int) (L:Cells),vs = [.ref b,.str z,.int p]/\Led H L/\FH cI H b dx d es/\(∀ e∈es,∀ r∈e.2.2,H r.1=some (.lst (r.2.map V.int))/\r.2.length<=600)/\(∀ e∈es,e.1=z->∀ (j:Nat) r,p=((j:Nat):Int)->e.2.2[j]? = some r->∀ q H',Led H' ((q,.lst (r.2.map V.int))::L)->Q (.ref q) H')/\(∀ e∈es,e.1=z->¬ (0<=p/\p < e.2.2.length)->E (.ref cB) none H)/\(z ∉ es.map (·.1)->E (.ref cA) none H)
theorem Ju (D:bH K cI "row_at" "Files.row_at" cK) (B:iY mg) (T:Txt K mg cU cA cB cC cT cF cD cS cI) (fQ:aJ P w K mg base 3 cI "ask_page" ["self","name","page"] (Gi cI cA cB)):aJ P w K mg base 4 cI "row_at" ["self","name","page"] (Cu cI cA cB):=by
 have sc:=jT
 refine D.Dk jT (λ vs H Q E h => ?_) (λ _ _ _ _ _ _ us hl=>match us,hl with | [_,_,_],_=>rfl) (λ f cdv A outer s H vs Q E hr h => ?_)
 ·obtain ⟨_,_,_,_,_,_,_,rfl,_⟩:=h;rfl
 ·obtain ⟨b,dx,d,es,z,p,L,rfl,hL,fh,hr4,k1,k2,k3⟩:=h
  have hu:=gz hr
  have hf:(iS d).lookup (Str.ofString "rows_by_name")=some (.ref d):=rfl
  have c1:=fh.cb
  have c2:=fh.cd
  refine ⟨_,(@ah _ _ _ _ _ (@bY _ _ _ _ (@aP _ _ _ _ _ _ _ _ _ _ _ _ _ _ _ _ T.gw fQ (hr.mono (by omega)) jR (@ao _ 0 _ _ (by walk_at "v")) (@aa _ _ _ _ _ (@ao _ 1 _ _ (by walk_at "v")) (@aa _ _ _ _ _ (@ao _ 2 _ _ (by walk_at "v")) (@ai _) (by rfl)) (by rfl)) (by rfl) (by rfl) (by rfl)) (by rfl)) (@ak _ _ _ (@aD _ _ _ _ (@br _ _ _ _ _ _ _ _ _ (aT (K:=K) rfl) (by rfl) B.list bZ (@aa _ _ _ _ _ (@aY _ _ _ _ _ _ _ aQ (@gA _ _ _ _ _ _ hu (@ay _ _ _ _ _ _ _ T.gw T.bW (@ao _ 0 _ _ (by walk_at "v")) (by rfl)) (@ao _ 1 _ _ (by walk_at "v")) (λ _ _=>rfl)) (@ao _ 2 _ _ (by walk_at "v")) (λ _ _=>rfl)) (@ai _) (by rfl)) (by decide) (by decide) (by rfl) (by rfl))))),?_⟩
  refine aF λ M1 K1 => ?_
  walk_at "ge"
  refine ⟨b,dx,d,es,z,p,rfl,fh,λ e he hz p0 p1 => ?_,λ e he hz hp => ?_,λ hz => ?_⟩
  ·subst hz
   obtain ⟨j,rfl⟩:=Int.eq_ofNat_of_zero_le p0
   have hj:j < e.2.2.length:=by omega
   have hjr:=List.getElem?_eq_getElem hj
   have c3:=fh.cf e he
   have c4:=hr4 e he _ (List.getElem_mem hj)
   generalize e.2.2[j]=r at hjr c4
   have ha:iw (oH e.2.2) ((j:Nat):Int)=some (.ref r.1):=cX (by omega) (by unfold oH;rw [Int.toNat_natCast,List.getElem?_map,hjr];rfl)
   have mr:(r.2.map V.int).length=r.2.length:=List.length_map _
   have c5:=c4.1
   have h6:=c4.2
   walk_at "ge"
   refine K1.use ?_
   walk_at "cl"
   clear K1
   walk_at "ge"
   refine KJ c2 (vv fh.nd he) ?_
   walk_at "ge"
   rename Led _ _=>hl2
   exact k1 e he rfl j r rfl hjr _ _ hl2
  ·exact k2 e he hz hp
  ·exact k3 hz
def Back (S:SS) (row:List Int):Th->Prop
 | .own m => ∃ b:Addr,(m,b,row)∈S.es
 | .file z p => ∃ e∈S.fs,e.1=z ∧ ∃ (j:Nat) (r:Addr),p=(j:Int)/\e.2.2[j]? = some (r,row)
def gone (S:SS):Th->SS
 | .own m => { S with ps:=S.ps.set (idx S.ps (.int m)) .aH,es:=S.es.filter λ x=>decide (x.1≠m) }
 | .file _ _=>S
theorem aR.VX {S:SS} {n q:Nat} {M:Cells} {m:Int} (g:aR S n q M) (h:m∈S.es.map (·.1)):qu (.int m) S.ps=true:=List.any_eq_true.mpr ⟨.int m,(g.pk m).mpr h,show decide (m=m)=true from decide_eq_true rfl⟩
theorem Back.key {S:SS} {m:Int} {row:List Int} (h:Back S row (.own m)):m∈S.es.map (·.1):=let ⟨_,hb⟩:=h; List.mem_map.mpr ⟨_,hb,rfl⟩
theorem Back.len {S:SS} {n q:Nat} {M:Cells} {a:Th} {row:List Int} (g:aR S n q M) (h:Back S row a):row.length=4:=by
 cases a with
 | own m=>obtain ⟨b,hb⟩:=h;exact g.er _ hb
 | file z p=>obtain ⟨e,he,_,j,r,_,hr⟩:=h;exact (g.fr e he _ (List.mem_of_getElem? hr)).2
theorem aR.gone {S:SS} {n q:Nat} {M:Cells} {a:Th} {row:List Int} (g:aR S n q M) (h:Back S row a):aR (My.gone S a) n q M:=by
 cases a with
 | own m=>exact g.L7 (g.VX h.key)
 | file z p=>exact g
theorem ek (S:SS) (a:Th):(gone S a).b=S.b/\(gone S a).F=S.F/\(gone S a).hs=S.hs/\(gone S a).made=S.made/\(gone S a).fs=S.fs/\(gone S a).p=S.p/\(gone S a).bs=S.bs:=by cases a <;> exact ⟨rfl,rfl,rfl,rfl,rfl,rfl,rfl⟩
def AX (cT cF cD cS cI:Addr):Sp:=λ vs H Q _ => ∃ (S:SS) (n q:Nat) (t:Addr) (a:Th) (ju:List Int) (M:Cells),vs = [.ref S.b,.ref t]/\Led H (bq cT cF cD cS cI S M)/\aR S n q M/\(t,HO.tup (gc a))∈M/\Back S ju a ∧ ∀ (row:List Int) (r:Addr) (N:Cells) (H':Hp),Back S row a->(r,HO.lst (row.map V.int))∈N->Led H' (bq cT cF cD cS cI (gone S a) (N++M))->Q (.ref r) H'
theorem Gr (D:Def K mg "fetched" gK) (T:Txt K mg cU cA cB cC cT cF cD cS cI) (r4:aJ P w K mg base 1 cS "take_off" ["self","sheet"] (LN cS)) (ig:aJ P w K mg base 4 cI "row_at" ["self","name","page"] (Cu cI cA cB)) (ia:cZ P w K mg base 1 "is_sheet" ["thing"] mE):cZ P w K mg base 5 "fetched" ["store","thing"] (AX cT cF cD cS cI):=by
 have sc:=vB
 refine D.Dk vB (λ vs H Q E h => ?_) (λ _ _ _ _ _ _ us hl=>match us,hl with | [_,_],_=>rfl) (λ f cdv A outer s H vs Q E hr h => ?_)
 ·obtain ⟨_,_,_,_,_,_,_,rfl,_⟩:=h;rfl
 ·obtain ⟨S,n,q,t,a,ju,M,rfl,hL,g,CN,hb0,k⟩:=h
  have f3:=rX S
  have f4:=Cp S
  have gS:=hL.get St.b
  have AV:=hL.get (St.up CN)
  refine ⟨_,(@ah _ _ _ _ _ (@aU _ _ _ _ _ _ _ _ (@bJ _ _ _ (@aB _ _ _ _ _ _ _ _ _ _ _ ia (hr.mono (by omega)) (by rfl) az (@aa _ _ _ _ _ (@ao _ 1 _ _ (by walk_at "v")) (@ai _) (by rfl)) (by decide) (by rfl) (by rfl)) (by intro _;rfl)) (@ak _ _ _ (@aD _ _ _ _ (@aP _ _ _ _ _ _ _ _ _ _ _ _ _ _ _ _ T.fj r4 (hr.mono (by omega)) az (@ay _ _ _ _ _ _ _ T.aZ T.jH (@ao _ 0 _ _ (by walk_at "v")) (by rfl)) (@aa _ _ _ _ _ (@aY _ _ _ _ _ _ _ aQ (@ao _ 1 _ _ (by walk_at "v")) (@aj _ _ _ _) (λ _ _=>rfl)) (@ai _) (by rfl)) (by rfl) (by rfl) (by rfl)))) (@aE _)) (@ak _ _ _ (@aD _ _ _ _ (@aP _ _ _ _ _ _ _ _ _ _ _ _ _ _ _ _ T.gw ig (hr.mono (by omega)) jR (@ay _ _ _ _ _ _ _ T.aZ T.o7 (@ao _ 0 _ _ (by walk_at "v")) (by rfl)) (@aa _ _ _ _ _ (@aY _ _ _ _ _ _ _ aQ (@ao _ 1 _ _ (by walk_at "v")) (@aj _ _ _ _) (λ _ _=>rfl)) (@aa _ _ _ _ _ (@aY _ _ _ _ _ _ _ aQ (@ao _ 1 _ _ (by walk_at "v")) (@aj _ _ _ _) (λ _ _=>rfl)) (@ai _) (by rfl)) (by rfl)) (by rfl) (by rfl) (by rfl))))),?_⟩
  refine aF λ M1 K1 => ?_
  walk_at "ge"
  refine ⟨t,a,rfl,AV,λ m e => ?_,λ z p e => ?_⟩
  ·subst e
   have L4:H t=some (.tup [.str (Str.ofString "own"),.int m]):=AV
   have hin:=g.VX hb0.key
   obtain ⟨e,he,em⟩:=List.mem_map.mp hb0.key
   have VY:e.1=m:=em
   have hS:=St.toS hL
   have eW:=hS.get Od
   walk_at "ge"
   refine ⟨S.sb,S.LY,S.sl,S.sd,S.ps,S.es,e,_,by rw [VY];rfl,hS,g.flat,by rw [VY];exact hin,g.nd,he,λ H2 hl2 => ?_⟩
   rw [VY] at hl2
   have hl3:Led H2 (bq cT cF cD cS cI (gone S (.own m)) ([(e.2.1,HO.lst (e.2.2.map V.int))]++M)):=St.ofS (S:=S) (N:=[(e.2.1,HO.lst (e.2.2.map V.int))]) (Led.perm hl2 List.perm_middle.symm)
   walk_at "ge"
   exact k e.2.2 e.2.1 _ H2 ⟨e.2.1,by rw [<-VY];exact he⟩ mS hl3
  ·subst e
   have L4:H t=some (.tup [.str (Str.ofString "file"),.str z,.int p]):=AV
   obtain ⟨e,he,e1,j,r,e2,e3⟩:=hb0
   have hI:=St.UJ hL
   have UN:=hI.get mS
   have hj:j < e.2.2.length:=(List.getElem?_eq_some_iff.mp e3).1
   have uniq : ∀ e'∈S.fs,e'.1=z->e' = e:=λ e' he' h=>by
    have h3:=findF g.fn he
    have h5:=findF g.fn he'
    rw [h,<-e1] at h5
    exact Option.some.inj (h5.symm.trans h3)
   walk_at "ge"
   refine K1.use ?_
   walk_at "cl"
   clear K1
   walk_at "ge"
   refine ⟨S.ib,S.ix,S.im,S.fs,z,p,_,rfl,hL,FH.of hI g.fn,λ x hx y hy=>⟨hL.get (St.up (g.fr x hx y hy).1),by rw [(g.fr x hx y hy).2];decide⟩,λ e' he' De j' r' hp hr' qr H2 hl2 => ?_,λ e' he' De hn=>absurd ?_ hn,λ hz=>absurd (List.mem_map.mpr ⟨e,he,e1⟩) hz⟩
   ·walk_at "ge"
    exact k r'.2 qr [(qr,HO.lst (r'.2.map V.int))] H2 ⟨e',he',De,j',r'.1,hp,hr'⟩ List.mem_cons_self (St.push hl2)
   ·rw [uniq e' he' De,e2]
    exact ⟨by omega,by exact_mod_cast hj⟩
theorem aR.Ov {S:SS} {n q i:Nat} {M:Cells} (g:aR S n q M) {t r:Addr} {a:Th} {row:List Int} (ht:(t,HO.tup (gc a))∈M) (PB:Gd a) (hr:(r,HO.lst (row.map V.int))∈M) (h4:row.length=4) (hn : ∀ (j:Nat) (u:Addr),S.F.hs[j]? ≠ some (some (u,a))) (ho : ∀ m,a = .own m->m ∉ S.es.map (·.1)) (hf : ∀ z p,a = .file z p->∃ e∈S.fs,∃ j:Nat,e.1=z/\p=j/\j < e.2.2.length) :
  aR { S with F:=S.F.fill i (some (t,a)) (some (r,row)) false } n q M:=by
 have old : ∀ (j:Nat) (x:Addr×Th),(S.F.hs.set i (some (t,a)))[j]? = some (some x)->(j=i/\x=(t,a))\/(i≠j/\S.F.hs[j]? = some (some x)):=λ j x h=>by
  rw [List.getElem?_set] at h
  split at h
  ·split at h
   ·cases h
    exact .inl ⟨by omega,rfl⟩
   ·cases h
  ·exact .inr ⟨by assumption,h⟩
 refine { g with f:=g.f.fill (λ t' a' e=>by cases e;exact ⟨ht,PB⟩) (λ t' a' e=>by cases e;exact hr),rr:=λ j u b h => ?_,inj:=λ j l u v b h1 h2 => ?_,ap:=λ j u k h => ?_,ff:=λ j u z p h => ?_ }
 ·rcases old j _ h with ⟨rfl,_⟩ | ⟨h1,h2⟩
  ·have hlt:j < S.F.rs.length:=by
    have h5:=(List.getElem?_eq_some_iff.mp h).1
    have h6:(S.F.hs.set j (some (t,a))).length=n:=(List.length_set ..).trans g.f.h
    rw [g.f.r,<-h6]
    exact h5
   exact ⟨r,row,by show (S.F.rs.set j _)[j]? = _;rw [List.getElem?_set,if_pos rfl,if_pos hlt],h4⟩
  ·obtain ⟨r',fH,e,h5⟩:=g.rr j u b h2
   exact ⟨r',fH,by show (S.F.rs.set i _)[j]? = _;rw [List.getElem?_set,if_neg h1];exact e,h5⟩
 ·rcases old j _ h1 with ⟨e1,x1⟩ | ⟨n1,o1⟩
  ·rcases old l _ h2 with ⟨e2,_⟩ | ⟨n2,o2⟩
   ·rw [e1,e2]
   ·cases x1
    exact absurd o2 (hn l v)
  ·rcases old l _ h2 with ⟨e2,x2⟩ | ⟨n2,o2⟩
   ·cases x2
    exact absurd o1 (hn j u)
   ·exact g.inj j l u v b o1 o2
 ·rcases old j _ h with ⟨_,x⟩ | ⟨_,o⟩
  ·cases x
   exact ho k rfl
  ·exact g.ap j u k o
 ·rcases old j _ h with ⟨_,x⟩ | ⟨_,o⟩
  ·cases x
   exact hf z p rfl
  ·exact g.ff j u z p o
def Cv (cT cF cD cS cI:Addr):Sp:=λ vs H Q _ => ∃ (S:SS) (n q:Nat) (t:Addr) (a:Th) (M:Cells),vs = [.ref S.b,.ref t]/\Led H (bq cT cF cD cS cI S M)/\aR S n q M/\(t,HO.tup (gc a))∈M/\Gd a ∧
 ((∀ (j:Nat) (u:Addr),S.F.hs[j]? ≠ some (some (u,a)))->∃ ju,Back S ju a) ∧
 ((∀ z∈S.F.hs,z≠none)->true ∉ jv (gone S a)->False) ∧
 (∀ (j:Nat) (u p:Addr) (N:Cells) (H':Hp),S.F.hs[j]? = some (some (u,a))->(p,HO.tup [.int (j:Nat),.bl false])∈N->Led H' (bq cT cF cD cS cI S (N++M))->Q (.ref p) H') ∧
 ((∀ (j:Nat) (u:Addr),S.F.hs[j]? ≠ some (some (u,a)))->∀ (row:List Int) (i:Nat) (S1:SS) (r p:Addr) (N:Cells) (H':Hp),Back S row a->iW N (gone S a) n i S1->(r,HO.lst (row.map V.int))∈N->(p,HO.tup [.int (i:Nat),.bl true])∈N->Led H' (bq cT cF cD cS cI { S1 with F:=S1.F.fill i (some (t,a)) (some (r,row)) false } (N++M))->Q (.ref p) H')
theorem Mc (D:Def K mg "bring" mj) (B:iY mg) (T:Txt K mg cU cA cB cC cT cF cD cS cI) (g9:aJ P w K mg base 1 cF "where" ["self","thing"] (qd cF)) (iX:aJ P w K mg base 1 cF "fill" ["self","frame","thing","row"] (Ge cF)) (Jv:cZ P w K mg base 5 "fetched" ["store","thing"] (AX cT cF cD cS cI)) (jP:cZ P w K mg base 6 "have_frame" ["store"] (Gp cT cF cD cS cI cU)):cZ P w K mg base 7 "bring" ["store","thing"] (Cv cT cF cD cS cI):=by
 have sc:=Dr
 refine D.Dk Dr (λ vs H Q E h => ?_) (λ _ _ _ _ _ _ us hl=>match us,hl with | [_,_],_=>rfl) (λ f cdv A outer s H vs Q E hr h => ?_)
 ·obtain ⟨_,_,_,_,_,_,rfl,_⟩:=h;rfl
 ·obtain ⟨S,n,q,t,a,M,rfl,hL,g,CN,PB,US,hgo,k1,k2⟩:=h
  have n64:=g.n64
  have f1:=gq S
  have gS:=hL.get St.b
  have hF:=St.toF hL
  have iZ:=hF.get mS
  refine ⟨_,(@ah _ _ _ _ _ (@aL _ _ 2 _ _ _ _ sc.nd rfl (by walk_at "o2") (@aP _ _ _ _ _ _ _ _ _ _ _ _ _ _ _ _ T.Frames g9 (hr.mono (by omega)) az (@ay _ _ _ _ _ _ _ T.aZ T.bL (@ao _ 0 _ _ (by walk_at "v")) (by rfl)) (@aa _ _ _ _ _ (@ao _ 1 _ _ (by walk_at "v")) (@ai _) (by rfl)) (by rfl) (by rfl) (by rfl)) (by rfl) (by walk_at "o4")) (@ah _ _ _ _ _ (@aU _ _ _ _ _ _ _ _ (@aI _ _ _ _ _ _ _ _ oO (@ao _ 2 _ _ (by walk_at "v")) (@bF _ _ _) (aO _)) (@ak _ _ _ (@aD _ _ _ _ (@eN _ _ _ _ _ (@aa _ _ _ _ _ (@ao _ 2 _ _ (by walk_at "v")) (@aa _ _ _ _ _ (@bB _ _ _ _) (@ai _) (by rfl)) (by rfl))))) (@aE _)) (@ah _ _ _ _ _ (@aL _ _ 3 _ _ _ _ sc.nd rfl (by walk_at "o2") (@aB _ _ _ _ _ _ _ _ _ _ _ Jv (hr.mono (by omega)) (by rfl) jR (@aa _ _ _ _ _ (@ao _ 0 _ _ (by walk_at "v")) (@aa _ _ _ _ _ (@ao _ 1 _ _ (by walk_at "v")) (@ai _) (by rfl)) (by rfl)) (by decide) (by rfl) (by rfl)) (by rfl) (by walk_at "o4")) (@ah _ _ _ _ _ (@aL _ _ 2 _ _ _ _ sc.nd rfl (by walk_at "o2") (@aB _ _ _ _ _ _ _ _ _ _ _ jP (hr.mono (by omega)) (by rfl) jR (@aa _ _ _ _ _ (@ao _ 0 _ _ (by walk_at "v")) (@ai _) (by rfl)) (by decide) (by rfl) (by rfl)) (by rfl) (by walk_at "o4")) (@ah _ _ _ _ _ (@bY _ _ _ _ (@aP _ _ _ _ _ _ _ _ _ _ _ _ _ _ _ _ T.Frames iX (hr.mono (by omega)) az (@ay _ _ _ _ _ _ _ T.aZ T.bL (@ao _ 0 _ _ (by walk_at "v")) (by rfl)) (@aa _ _ _ _ _ (@ao _ 2 _ _ (by walk_at "v")) (@aa _ _ _ _ _ (@ao _ 1 _ _ (by walk_at "v")) (@aa _ _ _ _ _ (@ao _ 3 _ _ (by walk_at "v")) (@ai _) (by rfl)) (by rfl)) (by rfl)) (by rfl) (by rfl) (by rfl)) (by rfl)) (@ak _ _ _ (@aD _ _ _ _ (@eN _ _ _ _ _ (@aa _ _ _ _ _ (@ao _ 2 _ _ (by walk_at "v")) (@aa _ _ _ _ _ (@bB _ _ _ _) (@ai _) (by rfl)) (by rfl)))))))))),?_⟩
  refine aF λ M1 K1 => ?_
  walk_at "ge"
  refine ⟨S.F,n,some (t,a),_,rfl,hF,g.f.mono (λ c hc=>jt hc),λ t' a' e => ?_,by omega,λ hno => ?_,λ j y h1 h2 _ => ?_⟩
  ·cases e
   exact ⟨jt CN,PB⟩
  ·have hnf : ∀ (j:Nat) (u:Addr),S.F.hs[j]? ≠ some (some (u,a)):=λ j u h=>hno _ (List.mem_of_getElem? h) rfl
   obtain ⟨ju,hb0⟩:=US hnf
   walk_at "ge"
   refine K1.use ?_
   walk_at "cl"
   clear K1
   refine aF λ M1 K1 => ?_
   walk_at "ge"
   ·exact absurd (rfl:V.aH=V.aH) (by assumption)
   refine K1.use ?_
   walk_at "cl"
   clear K1
   refine aF λ M1 K1 => ?_
   walk_at "ge"
   refine ⟨S,n,q,t,a,ju,M,rfl,hL,g,CN,hb0,λ row r0 N1 H1 hb p9 hl1 => ?_⟩
   clear hL hF gS iZ
   walk_at "ge"
   refine K1.use ?_
   walk_at "cl"
   clear K1
   have g1:aR (gone S a) n q M:=g.gone hb
   have h4:=hb.len g
   obtain ⟨eb,eF,SA,VW,efs,ep,VZ⟩:=ek S a
   refine aF λ M1 K1 => ?_
   have rest : ∀ (i:Nat) (S1:SS) (N:Cells) (H2:Hp),iW N (gone S a) n i S1->Led H2 (bq cT cF cD cS cI S1 (N++(N1++M)))->M1 [some (.ref S.b),some (.ref t),some (.int (i:Nat)),some (.ref r0)] H2:=by
    intro i S1 N H2 Gq hl2
    obtain ⟨h0,e2,e3,e4,e5⟩:=Gq.at
    have gS1:=g1.had Gq
    have hi:i < n:=by have:=(List.getElem?_eq_some_iff.mp h0).1;rw [gS1.f.h] at this;exact this
    have ebS:S1.b=S.b:=e4.trans eb
    refine K1.use ?_
    clear K1
    rw [<-ebS]
    have f1:=gq S1
    have gS:=hl2.get St.b
    have hF:=St.toF hl2
    have iZ:=hF.get mS
    refine aF λ M1 K1 => ?_
    walk_at "ge"
    refine ⟨S1.F,n,i,t,r0,a,row,_,rfl,hF,gS1.f.mono (λ c hc=>jt ?_),hi,jt (mA (mB p9)),by omega,λ r H3 hl3 => ?_⟩
    ·rcases List.mem_append.mp hc with hc | hc
     ·exact mB hc
     ·exact mA (mA hc)
    have bM:Led H3 (bq cT cF cD cS cI { S1 with F:=S1.F.fill i (some (t,a)) (some (r,row)) false } ([(r,HO.lst (row.map V.int))]++(N++(N1++M)))):=St.RB (S:=S1) rfl hl3
    clear hl3 hl2 hF gS iZ
    walk_at "ge"
    refine K1.use ?_
    walk_at "cl"
    clear K1
    walk_at "ge"
    rename_i p H4 _ cP _
    have eX:=St.push cP
    refine k2 hnf row i S1 r p ((p,HO.tup [.int (i:Nat),.bl true])::(r,HO.lst (row.map V.int))::(N++N1)) H4 hb (Gq.mono λ c hc=>mC (mC (mB hc))) (mC mS) mS ?_
    rw [List.cons_append,List.cons_append,List.append_assoc]
    exact eX
   walk_at "ge"
   refine ⟨gone S a,n,q,_,by rw [eb];rfl,hl1,g1.mono (λ c hc=>mA hc),λ i H2 q1 q2 hl2 => ?_,λ hall i bs' t' a' hg hi S1 N H2 Ol gk hl2 => ?_,λ hall hno N H2 hl2=>(hgo (by rw [<-eF];exact hall) hno).elim⟩
   ·walk_at "ge"
    exact rest i (gone S a) [] H2 (.inl ⟨q1,q2,rfl⟩) hl2
   ·walk_at "ge"
    exact rest i S1 N H2 (.inr ⟨hall,bs',t',a',hg,hi,Ol⟩) hl2
  ·walk_at "ge"
   refine K1.use ?_
   walk_at "cl"
   clear K1
   refine aF λ M1 K1 => ?_
   walk_at "ge"
   ·rename_i p H1 _ hl1 _
    cases y with
    | none=>cases h2
    | some y =>
      have h3:y.2=a:=Option.some.inj h2
      exact k1 j y.1 p [(p,_)] H1 (by rw [h1,<-h3]) List.mem_cons_self (St.push (Led.perm hl1 (List.Perm.cons _ (aN (qm cF S.F) (AU cT S) (En cD S++(Eo cS S++(CM cI S++M)))))))
   ·exact nomatch (show V.int (j:Nat)=V.aH by assumption)
end
section
variable {P:Program} {w:World} {K:PySem.W.Frag} {mg:Str->Option Value} {base:Heap} {cU cA cB cC cT cF cD cS cI:Addr}
def kE:Th->List Key
 | .own m=>[.inr (Str.ofString "own"),.inl m]
 | .file z p=>[.inr (Str.ofString "file"),.inr z,.inl p]
theorem qh (a:Th):(kE a).map kV=gc a:=by cases a <;> rfl
theorem Cw {a b:Th} (h:kE a=kE b):a=b:=by
 cases a <;> cases b <;> simp [kE] at h <;> simp [h]
abbrev Ts:=List (Th×Addr×List Int)
def uR (ts:Ts):List (List Key×V):=ts.map λ e=>(kE e.1,V.ref e.2.1)
theorem uS (ts:Ts):(uR ts).length=ts.length:=by unfold uR;exact List.length_map ..
theorem xP {ts:Ts} {e:Th×Addr×List Int} (nd:(ts.map (·.1)).Nodup) (h:e∈ts):bx (uR ts) (kE e.1)=some (.ref e.2.1):=by
 induction ts with
 | nil=>cases h
 | cons x ts ih =>
   rw [List.map_cons,List.nodup_cons] at nd
   show bx ((kE x.1,V.ref x.2.1)::uR ts) (kE e.1)=_
   rcases List.mem_cons.mp h with rfl | h
   ·exact bP (p:=(kE e.1,V.ref e.2.1)) rfl
   ·have hne : ¬ kE x.1=kE e.1:=λ z=>nd.1 (Cw z ▸ List.mem_map.mpr ⟨e,h,rfl⟩)
    rw [bz (p:=(kE x.1,V.ref x.2.1)) hne]
    exact ih nd.2 h
theorem Me {ts:Ts} {a:Th} (h:a ∉ ts.map (·.1)):bx (uR ts) (kE a)=none:=by
 induction ts with
 | nil=>rfl
 | cons x ts ih =>
   rw [List.map_cons,List.mem_cons,not_or] at h
   have hne : ¬ kE x.1=kE a:=λ z=>h.1 (Cw z).symm
   show bx ((kE x.1,V.ref x.2.1)::uR ts) (kE a)=none
   rw [bz (p:=(kE x.1,V.ref x.2.1)) hne]
   exact ih h.2
def Aj (ts:Ts) (a:Th) (r:Addr) (row:List Int):Ts:=ts.map λ e=>if e.1=a then (e.1,r,row) else e
theorem mF (ts:Ts) (a:Th) (r:Addr) (row:List Int):(Aj ts a r row).map (·.1)=ts.map (·.1):=by
 unfold Aj
 rw [List.map_map]
 refine List.map_congr_left λ e _ => ?_
 show (if e.1=a then (e.1,r,row) else e).1=e.1
 split <;> rfl
theorem Ow {ts:Ts} {a:Th} {r:Addr} {row:List Int} {e:Th×Addr×List Int} (h:e∈Aj ts a r row):e=(a,r,row)\/(e.1≠a/\e∈ts):=by
 obtain ⟨d,hd,rfl⟩:=List.mem_map.mp h
 by_cases z:d.1=a
 ·rw [if_pos z,z];exact .inl rfl
 ·rw [if_neg z];exact .inr ⟨z,hd⟩
theorem Ox {ts:Ts} {a:Th} (r:Addr) (row:List Int) (h:a∈ts.map (·.1)):putK (uR ts) (kE a) (.ref r)=uR (Aj ts a r row):=by
 unfold putK
 rw [if_pos]
 ·unfold uR Aj
  rw [List.map_map,List.map_map]
  refine List.map_congr_left λ e _ => ?_
  show (if kE e.1=kE a then (kE e.1,V.ref r) else (kE e.1,V.ref e.2.1))=(kE (if e.1=a then (e.1,r,row) else e).1,V.ref (if e.1=a then (e.1,r,row) else e).2.1)
  by_cases q:e.1=a
  ·rw [if_pos q,if_pos (by rw [q])]
  ·rw [if_neg q,if_neg (λ z=>q (Cw z))]
 ·obtain ⟨e,he,rfl⟩:=List.mem_map.mp h
  exact List.any_eq_true.mpr ⟨(kE e.1,V.ref e.2.1),List.mem_map.mpr ⟨e,he,rfl⟩,decide_eq_true rfl⟩
theorem Hf {ts:Ts} {a:Th} (r:Addr) (row:List Int) (h:a ∉ ts.map (·.1)):putK (uR ts) (kE a) (.ref r)=uR (ts++[(a,r,row)]):=by
 unfold putK
 rw [if_neg]
 ·unfold uR;rw [List.map_append];rfl
 ·rw [c7,Me h];exact Bool.false_ne_true
def r8 (S:SS) (a:Th):Prop := ∃ (i:Nat) (t:Addr),S.F.hs[i]? = some (some (t,a))
def eE (S:SS) (a:Th) (row:List Int):Prop:=(∃ (i:Nat) (t r:Addr),S.F.hs[i]? = some (some (t,a))/\S.F.rs[i]? = some (some (r,row)))\/(¬ r8 S a/\Back S row a)
def Clean (S:SS):Prop := ∀ (i:Nat) (t r:Addr) (z:Str) (p:Int) (row:List Int),S.F.hs[i]? = some (some (t,.file z p))->S.F.rs[i]? = some (some (r,row))->S.F.bs[i]? = some false->Back S row (.file z p)
theorem eo {α : Type} {l:List α} {i j:Nat} {x y : α} (h:i≠j):(l.set i x)[j]? = some y↔l[j]? = some y:=by rw [List.getElem?_set,if_neg h]
theorem r9 {l:List Hd} {i j:Nat} {x:Addr×Th} (h:(l.set i none)[j]? = some (some x)):i≠j/\l[j]? = some (some x):=by
 rw [List.getElem?_set] at h
 split at h
 ·split at h <;> cases h
 ·exact ⟨by assumption,h⟩
theorem PO.rows {N:Cells} {S S':SS} {n q i:Nat} {M:Cells} {t:Addr} {a:Th} (g:aR S n q M) (cl:Clean S) (hi:S.F.hs[i]? = some (some (t,a))) (h:PO N S i S' a):Clean S' ∧ ∀ b row,eE S b row->eE S' b row:=by
 obtain ⟨r0,ju,hr0,_⟩:=g.rr i t a hi
 have hF:S'.F=S.F.fill i none none false:=by
  cases a with
  | own m=>obtain ⟨r,row,b,_,rfl⟩:=h;rfl
  | file z p =>
    obtain ⟨r,row,_,h⟩:=h
    rcases h with ⟨_,rfl⟩ | ⟨_,as,bs,e,j,nr,_,_,_,_,_,rfl⟩ <;> rfl
 have hh:S'.F.hs=S.F.hs.set i none:=by rw [hF];rfl
 have hrs:S'.F.rs=S.F.rs.set i none:=by rw [hF];rfl
 have hbs:S'.F.bs=S.F.bs.set i false:=by rw [hF];rfl
 have self:Back S' ju a:=by
  cases a with
  | own m =>
    obtain ⟨r,row,b,h1,rfl⟩:=h
    rw [hr0] at h1
    cases h1
    exact ⟨b,mA mS⟩
  | file z p =>
    obtain ⟨r,row,h1,h⟩:=h
    rw [hr0] at h1
    cases h1
    rcases h with ⟨h2,rfl⟩ | ⟨_,as,bs,e,j,nr,h3,h4,h5,h6,_,rfl⟩
    ·exact cl i t r0 z p ju hi hr0 h2
    ·exact ⟨_,mA mS,h4,j,nr,h5,by show (e.2.2.set j (nr,ju))[j]? = _;rw [List.getElem?_set,if_pos rfl,if_pos h6]⟩
 have other : ∀ b row,b≠a->Back S row b->Back S' row b:=λ b row hne hb=>by
  cases a with
  | own m =>
    obtain ⟨r,Oz,b1,h1,rfl⟩:=h
    cases b with
    | own k=>obtain ⟨x,hx⟩:=hb;exact ⟨x,mB hx⟩
    | file z p=>exact hb
  | file z p =>
    obtain ⟨r,Oz,h1,h⟩:=h
    rcases h with ⟨h2,rfl⟩ | ⟨_,as,bs,e,j,nr,h3,h4,h5,h6,_,rfl⟩
    ·exact hb
    ·cases b with
     | own k=>exact hb
     | file z2 p2 =>
       obtain ⟨e2,yu,z3,j2,r2,p3,hr2⟩:=hb
       rw [h3] at yu
       rcases List.mem_append.mp yu with yu | yu
       ·exact ⟨e2,mB yu,z3,j2,r2,p3,hr2⟩
       ·rcases List.mem_cons.mp yu with rfl | yu
        ·refine ⟨_,mA mS,z3,j2,r2,p3,?_⟩
         have hj:j≠j2:=λ z=>hne (by rw [<-z3,<-h4,p3,h5,z])
         exact (eo hj).mpr hr2
        ·exact ⟨e2,mA (mC yu),z3,j2,r2,p3,hr2⟩
 have out : ¬ r8 S' a:=λ ⟨j,u,hj⟩=>by
  rw [hh] at hj
  obtain ⟨h1,h2⟩:=r9 hj
  exact h1 (g.inj i j t u a hi h2)
 refine ⟨λ j u r z p row h1 h2 h3 => ?_,λ b row hb => ?_⟩
 ·rw [hh] at h1
  obtain ⟨hne,h1⟩:=r9 h1
  rw [hrs] at h2
  rw [hbs] at h3
  have hba:Th.file z p≠a:=λ e=>hne (g.inj i j t u a hi (by rw [h1,e]))
  exact other _ _ hba (cl j u r z p row h1 ((eo hne).mp h2) ((eo hne).mp h3))
 ·by_cases e:b=a
  ·subst e
   rcases hb with ⟨j,u,r,h1,h2⟩ | ⟨h1,_⟩
   ·have:=g.inj i j t u b hi h1
    subst this
    rw [hr0] at h2
    cases h2
    exact .inr ⟨out,self⟩
   ·exact absurd ⟨i,t,hi⟩ h1
  ·rcases hb with ⟨j,u,r,h1,h2⟩ | ⟨h1,h2⟩
   ·have hne:i≠j:=λ z=>by rw [<-z,hi] at h1;cases h1;exact e rfl
    exact .inl ⟨j,u,r,by rw [hh];exact (eo hne).mpr h1,by rw [hrs];exact (eo hne).mpr h2⟩
   ·refine .inr ⟨λ ⟨j,u,hj⟩=>h1 ⟨j,u,?_⟩,other b row e h2⟩
    rw [hh] at hj
    exact (r9 hj).2
theorem iW.rows {N:Cells} {S S1:SS} {n q i:Nat} {M:Cells} (g:aR S n q M) (cl:Clean S) (h:iW N S n i S1):Clean S1 ∧ ∀ b row,eE S b row->eE S1 b row:=by
 rcases h with ⟨_,_,rfl⟩ | ⟨_,bs',t,a,hgo,hi,h⟩
 ·exact ⟨cl,λ _ _ h=>h⟩
 ·obtain ⟨l1,_⟩:=qa _ _ _ hgo
  have n1:=g.n1
  exact PO.rows (S := { S with p:=(i+1) % n,bs:=bs' }) (g.turned (Nat.mod_lt _ (by omega)) (l1.trans g.bl)) cl hi h
theorem eE.fill {S:SS} {n q i:Nat} {M:Cells} {t r:Addr} {a:Th} {row:List Int} {k:Int} {hs':List (Int×Int)} (g:aR S n q M) (h0:S.F.hs[i]? = some none):(∀ b fH,b≠a->eE S b fH->eE { S with made:=k,hs:=hs',F:=S.F.fill i (some (t,a)) (some (r,row)) false } b fH)/\eE { S with made:=k,hs:=hs',F:=S.F.fill i (some (t,a)) (some (r,row)) false } a row:=by
 have hlt:i < S.F.hs.length:=(List.getElem?_eq_some_iff.mp h0).1
 have hlr:i < S.F.rs.length:=by rw [g.f.r,<-g.f.h];exact hlt
 refine ⟨λ b fH hne hb => ?_,.inl ⟨i,t,r,?_,?_⟩⟩
 ·rcases hb with ⟨j,u,r',h1,h2⟩ | ⟨h1,h2⟩
  ·have hij:i≠j:=λ z=>by rw [<-z,h0] at h1;cases h1
   exact .inl ⟨j,u,r',(eo hij).mpr h1,(eo hij).mpr h2⟩
  ·refine .inr ⟨λ ⟨j,u,hj⟩ => ?_,?_⟩
   ·have hj':(S.F.hs.set i (some (t,a)))[j]? = some (some (u,b)):=hj
    by_cases e:i=j
    ·subst e
     rw [List.getElem?_set,if_pos rfl,if_pos hlt] at hj'
     cases hj'
     exact hne rfl
    ·exact h1 ⟨j,u,(eo e).mp hj'⟩
   ·cases b with
    | own m=>exact h2
    | file z p=>exact h2
 ·show (S.F.hs.set i _)[i]? = _
  rw [List.getElem?_set,if_pos rfl,if_pos hlt]
 ·show (S.F.rs.set i _)[i]? = _
  rw [List.getElem?_set,if_pos rfl,if_pos hlr]
theorem Clean.fill {S:SS} {n q i:Nat} {M:Cells} {t r:Addr} {a:Th} {row:List Int} {k:Int} {hs':List (Int×Int)} (g:aR S n q M) (cl:Clean S) (h0:S.F.hs[i]? = some none) (hb : ∀ z p,a = .file z p->Back S row a):Clean { S with made:=k,hs:=hs',F:=S.F.fill i (some (t,a)) (some (r,row)) false } := by
 have hlt:i < S.F.hs.length:=(List.getElem?_eq_some_iff.mp h0).1
 have hlr:i < S.F.rs.length:=by rw [g.f.r,<-g.f.h];exact hlt
 intro j u r' z p fH h1 h2 h3
 have De:(S.F.hs.set i (some (t,a)))[j]? = some (some (u,.file z p)):=h1
 have h2':(S.F.rs.set i (some (r,row)))[j]? = some (some (r',fH)):=h2
 have h3':(S.F.bs.set i false)[j]? = some false:=h3
 by_cases e:i=j
 ·subst e
  rw [List.getElem?_set,if_pos rfl,if_pos hlt] at De
  rw [List.getElem?_set,if_pos rfl,if_pos hlr] at h2'
  cases De
  cases h2'
  exact hb z p rfl
 ·exact cl j u r' z p fH ((eo e).mp De) ((eo e).mp h2') ((eo e).mp h3')
end
section
variable {P:Program} {w:World} {K:PySem.W.Frag} {mg:Str->Option Value} {base:Heap} {cU cA cB cC cT cF cD cS cI:Addr}
def sizesOf (c:Int):Int×Int :=
 if c % 16=7 then (1+c / 16 % 64,c / 1024 % 20) else if c % 32=6 then (1+c / 32 % 4,c / 128 % 129) else if c % 8=6 then (1+c / 8 % 9,c / 72 % 30) else (1+c / 8 % 5,c / 40 % 6)
theorem Gs (c:Int):1<=(sizesOf c).1/\(sizesOf c).1<=64/\0<=(sizesOf c).2/\(sizesOf c).2<=128:=by
 unfold sizesOf
 split
 ·dsimp only;omega
 ·split
  ·dsimp only;omega
  ·split
   ·dsimp only;omega
   ·dsimp only;omega
def Hg:Sp:=λ vs H Q _ => ∃ (c:Int) (L:Cells),vs = [.int c]/\Led H L ∧ ∀ p H',Led H' ((p,.tup [.int (sizesOf c).1,.int (sizesOf c).2])::L)->Q (.ref p) H'
theorem Mf (D:Def K mg "_law_sizes" gP) (T:Txt K mg cU cA cB cC cT cF cD cS cI):cZ P w K mg base 1 "_law_sizes" ["_law_cell"] Hg:=by
 have sc:=vE
 refine D.ok vE (λ vs H Q E h => ?_) (λ _ _ _ _ _ _ us hl=>match us,hl with | [_],_=>rfl) (λ f cdv A outer s H vs Q E hr h => ?_)
 ·obtain ⟨_,_,rfl,_⟩:=h;rfl
 ·obtain ⟨c,L,rfl,hL,k⟩:=h
  refine ⟨_,(@ah _ _ _ _ _ (@aU _ _ _ _ _ _ _ _ (@aI _ _ _ _ _ _ _ _ cz (@aq _ _ _ _ _ _ _ _ aG (@ao _ 0 _ _ (by walk_at "v")) (@aj _ _ _ _)) (@aj _ _ _ _) (aO _)) (@ak _ _ _ (@aD _ _ _ _ (@eN _ _ _ _ _ (@aa _ _ _ _ _ (@aq _ _ _ _ _ _ _ _ aV (@aj _ _ _ _) (@aq _ _ _ _ _ _ _ _ aG (@aq _ _ _ _ _ _ _ _ bE (@ao _ 0 _ _ (by walk_at "v")) (@aj _ _ _ _)) (@aj _ _ _ _))) (@aa _ _ _ _ _ (@aq _ _ _ _ _ _ _ _ aG (@aq _ _ _ _ _ _ _ _ bE (@ao _ 0 _ _ (by walk_at "v")) (@aj _ _ _ _)) (@aj _ _ _ _)) (@ai _) (by rfl)) (by rfl))))) (@aE _)) (@ah _ _ _ _ _ (@aU _ _ _ _ _ _ _ _ (@aI _ _ _ _ _ _ _ _ cz (@aq _ _ _ _ _ _ _ _ aG (@ao _ 0 _ _ (by walk_at "v")) (@aj _ _ _ _)) (@aj _ _ _ _) (aO _)) (@ak _ _ _ (@aD _ _ _ _ (@eN _ _ _ _ _ (@aa _ _ _ _ _ (@aq _ _ _ _ _ _ _ _ aV (@aj _ _ _ _) (@aq _ _ _ _ _ _ _ _ aG (@aq _ _ _ _ _ _ _ _ bE (@ao _ 0 _ _ (by walk_at "v")) (@aj _ _ _ _)) (@aj _ _ _ _))) (@aa _ _ _ _ _ (@aq _ _ _ _ _ _ _ _ aG (@aq _ _ _ _ _ _ _ _ bE (@ao _ 0 _ _ (by walk_at "v")) (@aj _ _ _ _)) (@aj _ _ _ _)) (@ai _) (by rfl)) (by rfl))))) (@aE _)) (@ah _ _ _ _ _ (@aU _ _ _ _ _ _ _ _ (@aI _ _ _ _ _ _ _ _ cz (@aq _ _ _ _ _ _ _ _ aG (@ao _ 0 _ _ (by walk_at "v")) (@aj _ _ _ _)) (@aj _ _ _ _) (aO _)) (@ak _ _ _ (@aD _ _ _ _ (@eN _ _ _ _ _ (@aa _ _ _ _ _ (@aq _ _ _ _ _ _ _ _ aV (@aj _ _ _ _) (@aq _ _ _ _ _ _ _ _ aG (@aq _ _ _ _ _ _ _ _ bE (@ao _ 0 _ _ (by walk_at "v")) (@aj _ _ _ _)) (@aj _ _ _ _))) (@aa _ _ _ _ _ (@aq _ _ _ _ _ _ _ _ aG (@aq _ _ _ _ _ _ _ _ bE (@ao _ 0 _ _ (by walk_at "v")) (@aj _ _ _ _)) (@aj _ _ _ _)) (@ai _) (by rfl)) (by rfl))))) (@aE _)) (@ak _ _ _ (@aD _ _ _ _ (@eN _ _ _ _ _ (@aa _ _ _ _ _ (@aq _ _ _ _ _ _ _ _ aV (@aj _ _ _ _) (@aq _ _ _ _ _ _ _ _ aG (@aq _ _ _ _ _ _ _ _ bE (@ao _ 0 _ _ (by walk_at "v")) (@aj _ _ _ _)) (@aj _ _ _ _))) (@aa _ _ _ _ _ (@aq _ _ _ _ _ _ _ _ aG (@aq _ _ _ _ _ _ _ _ bE (@ao _ 0 _ _ (by walk_at "v")) (@aj _ _ _ _)) (@aj _ _ _ _)) (@ai _) (by rfl)) (by rfl)))))))),?_⟩
  refine aF λ M1 K1 => ?_
  walk_at "ge"
  ·have e:sizesOf c=(1+c / 16 % 64,c / 1024 % 20):=by unfold sizesOf;rw [if_pos (by assumption)]
   rw [e] at k
   rename Led _ _=>hl
   exact k _ _ hl
  have n1 : ¬ c % 16=7:=by assumption
  refine K1.use ?_
  walk_at "cl"
  clear K1
  refine aF λ M1 K1 => ?_
  walk_at "ge"
  ·have e:sizesOf c=(1+c / 32 % 4,c / 128 % 129):=by unfold sizesOf;rw [if_neg n1,if_pos (by assumption)]
   rw [e] at k
   rename Led _ _=>hl
   exact k _ _ hl
  have n2 : ¬ c % 32=6:=by assumption
  refine K1.use ?_
  walk_at "cl"
  clear K1
  refine aF λ M1 K1 => ?_
  walk_at "ge"
  ·have e:sizesOf c=(1+c / 8 % 9,c / 72 % 30):=by unfold sizesOf;rw [if_neg n1,if_neg n2,if_pos (by assumption)]
   rw [e] at k
   rename Led _ _=>hl
   exact k _ _ hl
  have n3 : ¬ c % 8=6:=by assumption
  refine K1.use ?_
  walk_at "cl"
  clear K1
  walk_at "ge"
  have e:sizesOf c=(1+c / 8 % 5,c / 40 % 6):=by unfold sizesOf;rw [if_neg n1,if_neg n2,if_neg n3]
  rw [e] at k
  rename Led _ _=>hl
  exact k _ _ hl
structure j5 (S:SS) (us:List V) (M:Cells):Prop where
 l:us.length=S.F.hs.length
 no : ∀ i:Nat,S.F.hs[i]? = some none->us[i]? = some .aH
 th : ∀ (i:Nat) (t:Addr) (a:Th),S.F.hs[i]? = some (some (t,a))->∃ u,us[i]? = some (.ref u)/\(u,HO.tup (gc a))∈M
theorem OA {H:Hp} {a:Th} {i:Nat} {x y:V} (h1:(gc a)[i]? = some x) (h2:(gc a)[i]? = some y):Alike H 0 x y:=by
 rw [h1] at h2
 cases h2
 have hm:=List.mem_of_getElem? h1
 cases a with
 | own m =>
   rcases List.mem_cons.mp hm with rfl | hm
   ·exact .inr (.inr (.inr ⟨_,rfl,rfl⟩))
   ·rw [List.mem_singleton.mp hm];exact .inr (.inr (.inl ⟨_,rfl,rfl⟩))
 | file z p =>
   rcases List.mem_cons.mp hm with rfl | hm
   ·exact .inr (.inr (.inr ⟨_,rfl,rfl⟩))
   ·rcases List.mem_cons.mp hm with rfl | hm
    ·exact .inr (.inr (.inr ⟨_,rfl,rfl⟩))
    ·rw [List.mem_singleton.mp hm];exact .inr (.inr (.inl ⟨_,rfl,rfl⟩))
theorem j5.alike {S:SS} {us:List V} {M L:Cells} {n q:Nat} {H:Hp} {p sp:Addr} (g:aR S n q M) (s:j5 S us M) (hL:Led H L) (hM : ∀ c∈M,c∈L) (h1:H p=some (.lst (S.F.hs.map aW))) (h2:H sp=some (.lst us)):Alike H 2 (.ref p) (.ref sp):=by
 have gn:=g.n64
 have gl:=g.f.h
 refine .inr ⟨p,sp,_,_,rfl,rfl,.inl ⟨h1,h2⟩,by rw [List.length_map,s.l],by rw [s.l];omega,λ i x y hx hy => ?_⟩
 rw [List.getElem?_map] at hx
 obtain ⟨z,hz,rfl⟩:=Option.map_eq_some_iff.mp hx
 cases z with
 | none =>
   rw [s.no i hz] at hy
   cases hy
   exact .inl (.inl ⟨rfl,rfl⟩)
 | some z =>
   obtain ⟨u,hu,hc⟩:=s.th i z.1 z.2 hz
   rw [hu] at hy
   cases hy
   have hl:(gc z.2).length<=100000:=by
    cases z.2 with
    | own m=>show 2<=100000;decide
    | file w p=>show 3<=100000;decide
   exact .inr ⟨z.1,u,_,_,rfl,rfl,.inr ⟨hL.get (hM _ (g.f.th z.1 z.2 (List.mem_of_getElem? hz)).1),hL.get (hM _ hc)⟩,rfl,hl,λ j x' y' a b=>OA a b⟩
theorem Jw {H:Hp} {a b:Addr} {bs:List Bool} (h1:H a=some (.lst (bs.map V.bl))) (h2:H b=some (.lst (bs.map V.bl))) (hl:bs.length<=600):Alike H 2 (.ref a) (.ref b):=by
 refine .inr ⟨a,b,_,_,rfl,rfl,.inl ⟨h1,h2⟩,rfl,by rw [List.length_map];omega,λ i x y hx hy => ?_⟩
 rw [hx] at hy
 cases hy
 obtain ⟨v,_,rfl⟩:=List.mem_map.mp (List.mem_of_getElem? hx)
 exact .inl (.inr (.inl ⟨_,rfl,rfl⟩))
theorem aR.Mg {S:SS} {n q:Nat} {M:Cells} (g:aR S n q M) {H:Hp} {a b:Addr} (h1:H a=some (.lst S.ps)) (h2:H b=some (.lst S.ps)):Alike H 2 (.ref a) (.ref b):=by
 have g6:=g.q6
 refine .inr ⟨a,b,_,_,rfl,rfl,.inl ⟨h1,h2⟩,rfl,by rw [g.pl];omega,λ i x y hx hy => ?_⟩
 rw [hx] at hy
 cases hy
 rcases g.pe x (List.mem_of_getElem? hx) with rfl | ⟨m,rfl⟩
 ·exact .inl (.inl ⟨rfl,rfl⟩)
 ·exact .inl (.inr (.inr (.inl ⟨_,rfl,rfl⟩)))
def sj (cT cF cD cS cI:Addr):Sp:=λ vs H Q _ => ∃ (S:SS) (n q:Nat) (sp mk sf:Addr) (us:List V) (M:Cells),vs = [.ref S.b,.ref sp,.ref mk,.ref sf,.int (S.p:Nat)]/\Led H (bq cT cF cD cS cI S M)/\aR S n q M/\(sp,HO.lst us)∈M/\(mk,HO.lst (S.bs.map V.bl))∈M/\(sf,HO.lst S.ps)∈M/\j5 S us M ∧ ∀ (N:Cells) (H':Hp),Led H' (bq cT cF cD cS cI S (N++M))->Q (.bl true) H'
theorem D6 (D:Def K mg "_law_is_store" dZ) (B:iY mg) (T:Txt K mg cU cA cB cC cT cF cD cS cI) (dc:aJ P w K mg base 1 cF "things" ["self"] (qe cF)) (Cy:aJ P w K mg base 1 cD "marks" ["self"] (G1 cD)) (xQ:aJ P w K mg base 1 cD "pointer" ["self"] (AR cD)) (ic:aJ P w K mg base 1 cS "sheets" ["self"] (xH cS)) (aM:cZ P w K mg base 4 "_law_alike" ["_law_found","_law_due"] (jN 2)):cZ P w K mg base 5 "_law_is_store" ["_law_store","_law_spots","_law_marks","_law_shelf","_law_pointer"] (sj cT cF cD cS cI):=by
 have sc:=nj
 refine D.ok nj (λ vs H Q E h => ?_) (λ _ _ _ _ _ _ us hl=>match us,hl with | [_,_,_,_,_],_=>rfl) (λ f cdv A outer s H vs Q E hr h => ?_)
 ·obtain ⟨_,_,_,_,_,_,_,_,rfl,_⟩:=h;rfl
 ·obtain ⟨S,n,q,sp,mk,sf,us,M,rfl,hL,g,PF,i_m,i_f,s1,k⟩:=h
  have gn:=g.n64
  have gl:=g.f.h
  have f1:=gq S
  have f2:=oA S
  have f3:=rX S
  have gS:=hL.get St.b
  have hF:=St.toF hL
  have iZ:=hF.get mS
  refine ⟨_,(@ah _ _ _ _ _ (@aU _ _ _ _ _ _ _ _ (@PW.pt _ _ _ (@pw_or _ _ _ _ _ _ _ (@ef _ _ _ _ (@bJ _ _ _ (@aB _ _ _ _ _ _ _ _ _ _ _ aM (hr.mono (by omega)) (by rfl) az (@aa _ _ _ _ _ (@dj _ _ _ _ _ _ _ _ _ _ _ _ _ T.Frames dc (hr.mono (by omega)) az (@ay _ _ _ _ _ _ _ T.aZ T.bL (@ao _ 0 _ _ (by walk_at "v")) (by rfl)) (by rfl)) (@aa _ _ _ _ _ (@ao _ 1 _ _ (by walk_at "v")) (@ai _) (by rfl)) (by rfl)) (by decide) (by rfl) (by rfl)) (by intro _;rfl))) (@pw_or1 _ _ _ _ (@ef _ _ _ _ (@bJ _ _ _ (@aB _ _ _ _ _ _ _ _ _ _ _ aM (hr.mono (by omega)) (by rfl) az (@aa _ _ _ _ _ (@dj _ _ _ _ _ _ _ _ _ _ _ _ _ T.jI Cy (hr.mono (by omega)) az (@ay _ _ _ _ _ _ _ T.aZ T.k7 (@ao _ 0 _ _ (by walk_at "v")) (by rfl)) (by rfl)) (@aa _ _ _ _ _ (@ao _ 2 _ _ (by walk_at "v")) (@ai _) (by rfl)) (by rfl)) (by decide) (by rfl) (by rfl)) (by intro _;rfl)))))) (@ak _ _ _ (@aD _ _ _ _ (@bB _ _ _ _))) (@aE _)) (@ak _ _ _ (@aD _ _ _ _ (@uX _ _ _ _ _ _ _ (@aB _ _ _ _ _ _ _ _ _ _ _ aM (hr.mono (by omega)) (by rfl) az (@aa _ _ _ _ _ (@dj _ _ _ _ _ _ _ _ _ _ _ _ _ T.fj ic (hr.mono (by omega)) az (@ay _ _ _ _ _ _ _ T.aZ T.jH (@ao _ 0 _ _ (by walk_at "v")) (by rfl)) (by rfl)) (@aa _ _ _ _ _ (@ao _ 3 _ _ (by walk_at "v")) (@ai _) (by rfl)) (by rfl)) (by decide) (by rfl) (by rfl)) (@nB _ _ _ _ _ (@aB _ _ _ _ _ _ _ _ _ _ _ aM (hr.mono (by omega)) (by rfl) az (@aa _ _ _ _ _ (@dj _ _ _ _ _ _ _ _ _ _ _ _ _ T.jI xQ (hr.mono (by omega)) az (@ay _ _ _ _ _ _ _ T.aZ T.k7 (@ao _ 0 _ _ (by walk_at "v")) (by rfl)) (by rfl)) (@aa _ _ _ _ _ (@ao _ 4 _ _ (by walk_at "v")) (@ai _) (by rfl)) (by rfl)) (by decide) (by rfl) (by rfl))))))),?_⟩
  refine aF λ M1 K1 => ?_
  walk_at "ge"
  refine ⟨S.F,_,rfl,hF,by omega,λ qt H1 hl1 => ?_⟩
  have hl2:Led H1 ((qt,HO.lst (S.F.hs.map aW))::bq cT cF cD cS cI S M):=Led.perm hl1 (List.Perm.cons _ (aN (qm cF S.F) (AU cT S) (En cD S++(Eo cS S++(CM cI S++M)))))
  have hl3:=St.push hl2
  clear hl1 hF iZ gS hL
  have Sz:=hl2.get mS
  have eW:=hl2.get (mC (St.up PF))
  walk_at "ge"
  refine ⟨_,_,rfl,s1.alike g hl2 (λ c hc=>mC (St.up hc)) Sz eW,?_⟩
  clear hl2
  have gS:=hl3.get St.b
  have hD:=St.toD hl3
  have Jr:=hD.get Lv
  have c_k:=hD.get (UG (cD:=cD))
  walk_at "ge"
  refine ⟨S.d,S.JH,S.dm,(S.p:Int),S.bs,_,rfl,hl3,Jr,c_k,λ r H2 bM => ?_⟩
  have cP:=St.push bM
  have a2:=Jw (bM.get mS) (bM.get (mC (St.up (mC i_m)))) (by rw [g.bl];omega)
  clear hD Jr c_k gS hl3 bM
  walk_at "ge"
  refine ⟨_,_,rfl,a2,?_⟩
  walk_at "ge"
  refine K1.use ?_
  walk_at "cl"
  clear K1
  have gS:=cP.get St.b
  have hS:=St.toS cP
  have LK:=hS.get Od
  have Js:=hS.get VV
  walk_at "ge"
  refine ⟨S.sb,S.LY,S.sl,S.sd,S.ps,_,rfl,cP,LK,Js,λ r2 H3 eX => ?_⟩
  have iu:=St.push eX
  have a3:=g.Mg (eX.get mS) (eX.get (mC (St.up (mC (mC i_f)))))
  clear hS LK Js gS cP eX
  walk_at "ge"
  refine ⟨_,_,rfl,a3,?_⟩
  have gS:=iu.get St.b
  have hD:=St.toD iu
  have Jr:=hD.get Lv
  walk_at "ge"
  refine ⟨S.d,S.JH,S.dm,(S.p:Int),rfl,Jr,?_⟩
  walk_at "ge"
  refine ⟨_,_,rfl,.inl (.inr (.inr (.inl ⟨_,rfl,rfl⟩))),?_⟩
  walk_at "ge"
  exact k [(r2,_),(r,_),(qt,_)] _ iu
end
section
variable {P:Program} {w:World} {K:PySem.W.Frag} {mg:Str->Option Value} {base:Heap} {cU cA cB cC cT cF cD cS cI:Addr}
theorem Gu {X:Cx} {K:PySem.W.Frag} (h:X.K=K):ql X (compareOp .In) (Vi K false):=h ▸ HP
theorem St.xR {H:Hp} {S:SS} {M:Cells} (N L:Cells) (h:Led H (bq cT cF cD cS cI S (N++(L++M)))):Led H (L++bq cT cF cD cS cI S (N++M)):=by
 have e : ∀ X:Cells,bq cT cF cD cS cI S X=(AU cT S++(qm cF S.F++(En cD S++(Eo cS S++CM cI S))))++X:=λ X=>by unfold bq;simp only [List.append_assoc]
 rw [e] at h ⊢
 exact Led.perm h ((List.Perm.append_left _ (aN N L M)).trans (aN _ L _))
theorem St.jw {H:Hp} {S:SS} {M:Cells} (L:Cells) (h:Led H (L++bq cT cF cD cS cI S M)):Led H (bq cT cF cD cS cI S (L++M)):=by
 have e : ∀ X:Cells,bq cT cF cD cS cI S X=(AU cT S++(qm cF S.F++(En cD S++(Eo cS S++CM cI S))))++X:=λ X=>by unfold bq;simp only [List.append_assoc]
 rw [e] at h ⊢
 exact Led.perm h (aN L _ _)
theorem j5.mono {S:SS} {us:List V} {M M':Cells} (s:j5 S us M) (up : ∀ c∈M,c∈M'):j5 S us M':=⟨s.l,s.no,λ i t a h=>(s.th i t a h).imp λ u hu=>⟨hu.1,up _ hu.2⟩⟩
theorem j5.same {S S':SS} {us:List V} {M:Cells} (e:S'.F.hs=S.F.hs) (s:j5 S us M):j5 S' us M:=⟨by rw [e];exact s.l,λ i h=>s.no i (by rw [<-e];exact h),λ i t a h=>s.th i t a (by rw [<-e];exact h)⟩
theorem j5.out {S S':SS} {us:List V} {M:Cells} {i:Nat} (e:S'.F.hs=S.F.hs.set i none) (s:j5 S us M):j5 S' (us.set i .aH) M:=by
 refine ⟨by rw [e,List.length_set,List.length_set];exact s.l,λ j h => ?_,λ j t a h => ?_⟩
 ·rw [e,List.getElem?_set] at h
  rw [List.getElem?_set]
  by_cases z:i=j
  ·rw [if_pos z] at h ⊢
   by_cases y:i < S.F.hs.length
   ·rw [if_pos (by rw [s.l];exact y)]
   ·rw [if_neg y] at h
    cases h
  ·rw [if_neg z] at h ⊢
   exact s.no j h
 ·rw [e,List.getElem?_set] at h
  rw [List.getElem?_set]
  by_cases z:i=j
  ·rw [if_pos z] at h
   split at h <;> cases h
  ·rw [if_neg z] at h ⊢
   exact s.th j t a h
theorem j5.UR {S S':SS} {us:List V} {M:Cells} {i:Nat} {t u:Addr} {a:Th} (e:S'.F.hs=S.F.hs.set i (some (t,a))) (hu:(u,HO.tup (gc a))∈M) (s:j5 S us M):j5 S' (us.set i (.ref u)) M:=by
 refine ⟨by rw [e,List.length_set,List.length_set];exact s.l,λ j h => ?_,λ j t' a' h => ?_⟩
 ·rw [e,List.getElem?_set] at h
  rw [List.getElem?_set]
  by_cases z:i=j
  ·rw [if_pos z] at h
   split at h <;> cases h
  ·rw [if_neg z] at h ⊢
   exact s.no j h
 ·rw [e,List.getElem?_set] at h
  rw [List.getElem?_set]
  by_cases z:i=j
  ·rw [if_pos z] at h ⊢
   by_cases y:i < S.F.hs.length
   ·rw [if_pos y] at h
    rw [if_pos (by rw [s.l];exact y)]
    cases h
    exact ⟨u,rfl,hu⟩
   ·rw [if_neg y] at h
    cases h
  ·rw [if_neg z] at h ⊢
   exact s.th j t' a' h
theorem PJ {H:Hp} : ∀ {hs:List Hd} {us:List V},us.length=hs.length->(∀ i:Nat,hs[i]? = some none->us[i]? = some .aH)->(∀ (i:Nat) (t:Addr) (a:Th),hs[i]? = some (some (t,a))->∃ u,us[i]? = some (.ref u)/\H u=some (.tup (gc a)))->bQ H us (PySem.W.kqdPs (hs.map λ x=>eB (lV x)))
 | [],[],_,_,_ => .nil
 | [],_::_,hl,_,_=>nomatch hl
 | _::_,[],hl,_,_=>nomatch hl
 | x::hs,u::us,hl,h1,h2=>by
   rw [List.map_cons,PySem.W.kqdPs]
   refine .cons ?_ (PJ (Nat.succ.inj hl) (λ i h=>h1 (i+1) h) (λ i t a h=>h2 (i+1) t a h))
   cases x with
   | none =>
     have h3:some u=some V.aH:=h1 0 rfl
     cases h3
     show eg H .aH (PySem.W.kqdP .none)
     rw [PySem.W.kqdP]
     exact .aH
   | some x =>
     obtain ⟨w,e,hw⟩:=h2 0 x.1 x.2 rfl
     have e':some u=some (V.ref w):=e
     cases e'
     exact xE hw
theorem j5.dat {S:SS} {us:List V} {M L:Cells} {H:Hp} (s:j5 S us M) (hL:Led H L) (hM : ∀ c∈M,c∈L):bQ H us (PySem.W.kqdPs (S.F.hs.map λ x=>eB (lV x))):=PJ s.l s.no λ i t a h=>(s.th i t a h).imp λ _ hu=>⟨hu.1,hL.get (hM _ hu.2)⟩
theorem aR.RJ {S:SS} {n q:Nat} {M:Cells} (g:aR S n q M) : ∀ e∈S.F.hs.map (λ x=>eB (lV x)),PySem.W.kqdOk 7 e=true:=λ e he=>by
 obtain ⟨y,hy,rfl⟩:=List.mem_map.mp he
 refine uQ (λ a ha => ?_) 6
 cases y with
 | none=>cases ha
 | some y=>cases ha;exact (g.f.th y.1 y.2 hy).2
end
section
variable {P:Program} {w:World} {K:PySem.W.Frag} {mg:Str->Option Value} {base:Heap} {cU cA cB cC cT cF cD cS cI:Addr}
theorem Gd.dat {a:Th} (h:Gd a):PySem.W.kqdOk 8 (eB (some a))=true:=uQ (λ b hb=>by cases hb;exact h) 7
theorem r8.dat {S:SS} {a:Th} : r8 S a↔eB (some a)∈S.F.hs.map λ x=>eB (lV x):=by
 constructor
 ·rintro ⟨i,t,hi⟩
  exact List.mem_map.mpr ⟨_,List.mem_of_getElem? hi,rfl⟩
 ·intro h
  obtain ⟨z,hz,w⟩:=List.mem_map.mp h
  obtain ⟨i,hi⟩:=List.getElem?_of_mem hz
  have w2:=gg.mp w
  cases z with
  | none=>cases w2
  | some z =>
    have h3:z.2=a:=Option.some.inj w2
    exact ⟨i,z.1,by rw [hi,<-h3]⟩
theorem aR.first {S:SS} {n q i:Nat} {M:Cells} {t:Addr} {a:Th} (g:aR S n q M) (hi:S.F.hs[i]? = some (some (t,a))):(S.F.hs.map λ x=>eB (lV x))[i]? = some (eB (some a)) ∧ ∀ (j:Nat) e,j < i->(S.F.hs.map λ x=>eB (lV x))[j]? = some e->e≠eB (some a):=by
 refine ⟨by rw [List.getElem?_map,hi];rfl,λ j e hj he w => ?_⟩
 rw [List.getElem?_map] at he
 obtain ⟨z,hz,rfl⟩:=Option.map_eq_some_iff.mp he
 have w2:=gg.mp w
 cases z with
 | none=>cases w2
 | some z =>
   have h3:z.2=a:=Option.some.inj w2
   have:=g.inj j i z.1 t a (by rw [hz,<-h3]) hi
   omega
def oB (cT cF cD cS cI:Addr):Sp:=λ vs H Q _ => ∃ (S:SS) (n q:Nat) (t sp sf:Addr) (a:Th) (row:List Int) (us:List V) (M:Cells),vs = [.ref S.b,.ref sp,.ref sf,.ref t]/\Led H (bq cT cF cD cS cI S M)/\aR S n q M/\j5 S us M/\(sp,HO.lst us)∈M/\(t,HO.tup (gc a))∈M/\Gd a/\eE S a row ∧ ∀ (r:Addr) (N:Cells) (H':Hp),(r,HO.lst (row.map V.int))∈N->Led H' (bq cT cF cD cS cI S (N++M))->Q (.ref r) H'
theorem Cz (D:Def K mg "_law_row_there" dD) (B:iY mg) (T:Txt K mg cU cA cB cC cT cF cD cS cI) (c8:aJ P w K mg base 1 cF "row_in" ["self","frame"] (uP cF)) (lY:aJ P w K mg base 1 cS "row_of_sheet" ["self","sheet"] (G4 cS)) (ig:aJ P w K mg base 4 cI "row_at" ["self","name","page"] (Cu cI cA cB)):cZ P w K mg base 5 "_law_row_there" ["_law_store","_law_spots","_law_shelf","_law_thing"] (oB cT cF cD cS cI):=by
 have sc:=k6
 refine D.ok k6 (λ vs H Q E h => ?_) (λ _ _ _ _ _ _ us hl=>match us,hl with | [_,_,_,_],_=>rfl) (λ f cdv A outer s H vs Q E hr h => ?_)
 ·obtain ⟨_,_,_,_,_,_,_,_,_,_,rfl,_⟩:=h;rfl
 ·obtain ⟨S,n,q,t,sp,sf,a,row,us,M,rfl,hL,g,s1,PF,CN,PB,Af,k⟩:=h
  have f1:=gq S
  have f3:=rX S
  have f4:=Cp S
  have gS:=hL.get St.b
  have eW:=hL.get (St.up PF)
  have AV:=hL.get (St.up CN)
  have d1:eg H (.ref t) (PySem.W.kqdP (eB (some a))):=xE AV
  have d2:=s1.dat hL (λ c hc=>St.up hc)
  have o1:=PB.dat
  have o2:=g.RJ
  refine ⟨_,(@ah _ _ _ _ _ (@aU _ _ _ _ _ _ _ _ (@aI _ _ _ _ _ _ _ _ (Q9 hr.units) (@ao _ 3 _ _ (by walk_at "v")) (@ao _ 1 _ _ (by walk_at "v")) (by with_unfolding_all rfl)) (@ak _ _ _ (@aD _ _ _ _ (@aP _ _ _ _ _ _ _ _ _ _ _ _ _ _ _ _ T.Frames c8 (hr.mono (by omega)) az (@ay _ _ _ _ _ _ _ T.aZ T.bL (@ao _ 0 _ _ (by walk_at "v")) (by rfl)) (@aa _ _ _ _ _ (@oS _ _ _ _ _ _ _ _ _ _ _ _ PySem.F.plainAttrs_list PySem.F.slot_list_index PySem.F.type_list_index (mh hr.units) (@ao _ 1 _ _ (by walk_at "v")) (@aa _ _ _ _ _ (@ao _ 3 _ _ (by walk_at "v")) (@ai _) (by rfl)) (by rfl) (by rfl) (by rfl) (by rfl) (by rfl)) (@ai _) (by rfl)) (by rfl) (by rfl) (by rfl)))) (@aE _)) (@ah _ _ _ _ _ (@aU _ _ _ _ _ _ _ _ (@aI _ _ _ _ _ _ _ _ cz (@aY _ _ _ _ _ _ _ aQ (@ao _ 3 _ _ (by walk_at "v")) (@aj _ _ _ _) (λ _ _=>rfl)) (@cW _ _ _ _) (aO _)) (@ak _ _ _ (@aD _ _ _ _ (@aP _ _ _ _ _ _ _ _ _ _ _ _ _ _ _ _ T.fj lY (hr.mono (by omega)) az (@ay _ _ _ _ _ _ _ T.aZ T.jH (@ao _ 0 _ _ (by walk_at "v")) (by rfl)) (@aa _ _ _ _ _ (@aY _ _ _ _ _ _ _ aQ (@ao _ 3 _ _ (by walk_at "v")) (@aj _ _ _ _) (λ _ _=>rfl)) (@ai _) (by rfl)) (by rfl) (by rfl) (by rfl)))) (@aE _)) (@ak _ _ _ (@aD _ _ _ _ (@aP _ _ _ _ _ _ _ _ _ _ _ _ _ _ _ _ T.gw ig (hr.mono (by omega)) az (@ay _ _ _ _ _ _ _ T.aZ T.o7 (@ao _ 0 _ _ (by walk_at "v")) (by rfl)) (@aa _ _ _ _ _ (@aY _ _ _ _ _ _ _ aQ (@ao _ 3 _ _ (by walk_at "v")) (@aj _ _ _ _) (λ _ _=>rfl)) (@aa _ _ _ _ _ (@aY _ _ _ _ _ _ _ aQ (@ao _ 3 _ _ (by walk_at "v")) (@aj _ _ _ _) (λ _ _=>rfl)) (@ai _) (by rfl)) (by rfl)) (by rfl) (by rfl) (by rfl)))))),?_⟩
  refine aF λ M1 K1 => ?_
  walk_at "ge"
  rcases Af with ⟨i,t',r,h1,h2⟩ | ⟨hno,hb⟩
  ·refine ES (neg:=false) (b:=true) eW d1 d2 o1 o2 (iff_of_true rfl (r8.dat.mp ⟨i,t',h1⟩)) ?_
   rw [if_neg Bool.false_ne_true]
   obtain ⟨j1,j2⟩:=g.first h1
   have hF:=St.toF hL
   have iZ:=hF.get mS
   obtain ⟨r',fH,e1,e2⟩:=g.rr i t' a h1
   rw [h2] at e1
   cases e1
   walk_at "ge"
   refine ⟨Bw eW,?_⟩
   walk_at "ge"
   refine GW eW d1 d2 o1 o2 j1 j2 ?_
   walk_at "ge"
   refine ⟨S.F,i,r,row,_,rfl,hF,h2,jt (g.f.rw r row (List.mem_of_getElem? h2)),by omega,λ qr H2 hl2 => ?_⟩
   have hl3:Led H2 ((qr,HO.lst (row.map V.int))::bq cT cF cD cS cI S M):=Led.perm hl2 (List.Perm.cons _ (aN (qm cF S.F) (AU cT S) (En cD S++(Eo cS S++(CM cI S++M)))))
   walk_at "ge"
   exact k qr [(qr,_)] H2 List.mem_cons_self (St.push hl3)
  ·refine ES (neg:=false) (b:=false) eW d1 d2 o1 o2 (iff_of_false Bool.false_ne_true λ z=>hno (r8.dat.mpr z)) ?_
   rw [if_neg Bool.false_ne_true]
   walk_at "ge"
   refine K1.use ?_
   walk_at "cl"
   clear K1 d1 d2 o1 o2 eW
   refine aF λ M1 K1 => ?_
   cases a with
   | own m =>
     have L4:H t=some (.tup [.str (Str.ofString "own"),.int m]):=AV
     obtain ⟨b,hb⟩:=hb
     have hS:=St.toS hL
     have eW:=hS.get Od
     have hne:Str.ofString "own" = Str.ofString "own" := rfl
     walk_at "ge"
     all_goals first | exact absurd hne (by assumption) | skip
     refine ⟨S.sb,S.LY,S.sl,S.sd,S.ps,S.es,(m,b,row),_,rfl,hS,g.nd,hb,λ qr H2 hl2 => ?_⟩
     have hl3:Led H2 (bq cT cF cD cS cI S ([(qr,HO.lst (row.map V.int))]++M)):=St.ofS (S:=S) (N:=[(qr,HO.lst (row.map V.int))]) (Led.perm hl2 List.perm_middle.symm)
     walk_at "ge"
     exact k qr _ H2 mS hl3
   | file z p =>
     have L4:H t=some (.tup [.str (Str.ofString "file"),.str z,.int p]):=AV
     have hne : ¬ Str.ofString "file" = Str.ofString "own" := by decide +kernel
     obtain ⟨e,he,e1,j,r,e2,e3⟩:=hb
     have hI:=St.UJ hL
     have UN:=hI.get mS
     have hj:j < e.2.2.length:=(List.getElem?_eq_some_iff.mp e3).1
     have uniq : ∀ e'∈S.fs,e'.1=z->e' = e:=λ e' he' h=>by
      have h3:=findF g.fn he
      have h5:=findF g.fn he'
      rw [h,<-e1] at h5
      exact Option.some.inj (h5.symm.trans h3)
     walk_at "ge"
     ·exact absurd (by assumption) hne
     refine K1.use ?_
     walk_at "cl"
     clear K1
     walk_at "ge"
     refine ⟨S.ib,S.ix,S.im,S.fs,z,p,_,rfl,hL,FH.of hI g.fn,λ x hx y hy=>⟨hL.get (St.up (g.fr x hx y hy).1),by rw [(g.fr x hx y hy).2];decide⟩,λ e' he' De j' r' hp hr' qr H2 hl2 => ?_,λ e' he' De hn=>absurd ?_ hn,λ hz=>absurd (List.mem_map.mpr ⟨e,he,e1⟩) hz⟩
     ·have ee:=uniq e' he' De
      subst ee
      have hjj:j' = j:=by omega
      subst hjj
      rw [e3] at hr'
      cases hr'
      walk_at "ge"
      exact k qr [(qr,HO.lst (row.map V.int))] H2 List.mem_cons_self (St.push hl2)
     ·rw [uniq e' he' De,e2]
      exact ⟨by omega,by exact_mod_cast hj⟩
end
section
variable {P:Program} {w:World} {K:PySem.W.Frag} {mg:Str->Option Value} {base:Heap} {cU cA cB cC cT cF cD cS cI:Addr}
def dI (row:List Int) (c:Nat) (ms:List Int):List Int:=row.take c++ms++row.drop (c+ms.length)
theorem AY {row ms:List Int} {c:Nat} (h:c+ms.length<=row.length):(dI row c ms).length=row.length:=by
 unfold dI
 rw [List.length_append,List.length_append,List.length_take,List.length_drop]
 omega
theorem Jx {row ms:List Int} {c i:Nat} {n:Int} (h:c+ms.length<=row.length) (hn:ms[i]? = some n):(dI row c (ms.take i)).set (c+i) n=dI row c (ms.take (i+1)):=by
 have hi:i < ms.length:=(List.getElem?_eq_some_iff.mp hn).1
 have htl:(ms.take i).length=i:=by rw [List.length_take];omega
 have abi:(ms.take (i+1)).length=i+1:=by rw [List.length_take];omega
 have htc:(row.take c).length=c:=by rw [List.length_take];omega
 have e1:ms.take (i+1)=ms.take i++[n]:=by rw [List.take_succ,hn];rfl
 unfold dI
 rw [htl,abi]
 rw [List.set_append_right (c+i) n (by rw [List.length_append,htc,htl];exact Nat.le_refl _),List.length_append,htc,htl,Nat.sub_self]
 have hd:row.drop (c+i)=row[c+i]'(by omega)::row.drop (c+(i+1)):=by rw [List.drop_eq_getElem_cons (by omega)];rfl
 rw [hd,List.set_cons_zero,e1]
 simp
def Mh:Sp:=λ vs H Q _ => ∃ (r q:Addr) (c:Nat) (row ms:List Int) (L:Cells),vs = [.ref r,.int (c:Nat),.ref q]/\Led H L/\(r,HO.lst (row.map V.int))∈L/\(q,HO.lst (ms.map V.int))∈L/\c+ms.length<=row.length/\row.length<=600 ∧ ∀ p H',Led H' ((p,.lst ((dI row c ms).map V.int))::L)->Q (.ref p) H'
theorem OB (D:Def K mg "_law_laid_in" eV) (B:iY mg) (T:Txt K mg cU cA cB cC cT cF cD cS cI):cZ P w K mg base 1 "_law_laid_in" ["_law_row_here","_law_cell","_law_nums"] Mh:=by
 have sc:=o6
 refine D.ok o6 (λ vs H Q E h => ?_) (λ _ _ _ _ _ _ us hl=>match us,hl with | [_,_,_],_=>rfl) (λ f cdv A outer s H vs Q E hr h => ?_)
 ·obtain ⟨_,_,_,_,_,_,rfl,_⟩:=h;rfl
 ·obtain ⟨r,q,c,row,ms,L,rfl,hL,p9,VU,hc,h6,k⟩:=h
  have mr:(row.map V.int).length=row.length:=List.length_map _
  have mm:(ms.map V.int).length=ms.length:=List.length_map _
  have nv:=hL.get p9
  refine ⟨_,(@ah _ _ _ _ _ (@aL _ _ 3 _ _ _ _ sc.nd rfl (by walk_at "o2") (@br _ _ _ _ _ _ _ _ _ (aT (K:=K) rfl) (by rfl) B.list bZ (@aa _ _ _ _ _ (@ao _ 0 _ _ (by walk_at "v")) (@ai _) (by rfl)) (by decide) (by decide) (by rfl) (by rfl)) (by rfl) (by walk_at "o4")) (@ah _ _ _ _ _ (@jA _ _ _ _ _ _ _ _ PassesOwn.never rfl (@cy _ _ _ _ _ _ (by rfl) B.range (@aa _ _ _ _ _ (@aK _ _ _ _ _ _ _ _ _ aS (by rfl) B.len bR (@aa _ _ _ _ _ (@ao _ 2 _ _ (by walk_at "v")) (@ai _) (by rfl)) (by decide) (by decide) (by rfl) (by rfl)) (@ai _) (by rfl)) (by rfl)) (@fc _ _ 4 _ sc.nd rfl (by walk_at "o2") (by walk_at "o4")) (@ak _ _ _ (@bC _ _ _ _ _ _ (@aY _ _ _ _ _ _ _ aQ (@ao _ 2 _ _ (by walk_at "v")) (@ao _ 4 _ _ (by walk_at "v")) (λ _ _=>rfl)) (@bG _ _ _ _ _ _ _ (@ao _ 3 _ _ (by walk_at "v")) (@aq _ _ _ _ _ _ _ _ aV (@ao _ 1 _ _ (by walk_at "v")) (@ao _ 4 _ _ (by walk_at "v"))) set_list (by intro _;rfl)) (by rfl) (by rfl) (by rfl))) (by intro _;rfl)) (@ak _ _ _ (@aD _ _ _ _ (@ao _ 3 _ _ (by walk_at "v")))))),?_⟩
  refine aF λ M1 K1 => ?_
  walk_at "ge"
  rename_i p H1 _ hl1 _
  refine K1.use ?_
  walk_at "cl"
  clear K1 hL nv
  refine aF λ M1 K1 => ?_
  refine sE λ Lr qb => ?_
  have Sz:=hl1.get (mC VU)
  walk_at "ge"
  refine ⟨_,rfl,by omega,by omega,qb.use ?_⟩
  clear qb Sz
  rw [mm,show ((ms.length:Nat):Int).toNat=ms.length by omega]
  have abj:dI row c (ms.take 0)=row:=by unfold dI;rw [List.take_zero,List.append_nil,List.length_nil,Nat.add_zero,List.take_append_drop]
  refine sF (λ i σ H'=>i<=ms.length/\Led H' ((p,.lst ((dI row c (ms.take i)).map V.int))::L) ∧ ∃ v1,σ = [some (.ref r),some (.int c),some (.ref q),some (.ref p),v1]) ⟨Nat.zero_le _,by rw [abj];exact hl1,_,rfl⟩ ?_ ?_
  ·clear K1 k hl1
   rintro i σ H' hi ⟨_,hl',v1,rfl⟩
   have hat:iw (ms.map V.int) (0+(i:Int))=some (.int ms[i]):=cX (by omega) (by rw [List.getElem?_map,show (0+(i:Int)).toNat=i by omega,List.getElem?_eq_getElem hi];rfl)
   have hst:=Jx (row:=row) (c:=c) hc (List.getElem?_eq_getElem hi)
   have hll:=AY (row:=row) (c:=c) (ms:=ms.take i) (by rw [List.length_take];omega)
   generalize ms[i]=n at hat hst
   have Sz:=hl'.get (mC VU)
   walk_at "ge"
   refine cH (hl'.get mS) (bD (by omega) (by rw [List.length_map];omega)) ?_
   have cP:=hl'.put (o' := .lst (((dI row c (ms.take i)).map V.int).set ((c:Int)+(0+(i:Int))).toNat (.int n))) rfl rfl
   generalize upd H' p (.lst (((dI row c (ms.take i)).map V.int).set ((c:Int)+(0+(i:Int))).toNat (.int n)))=H5 at cP ⊢
   rw [show ((c:Int)+(0+(i:Int))).toNat=c+i by omega,<-List.map_set,hst] at cP
   walk_at "ge"
   exact ⟨hi,cP,_,rfl⟩
  ·clear hl1
   rintro σ H' ⟨_,hl',v1,rfl⟩
   rw [List.take_length] at hl'
   walk_at "ge"
   refine K1.use ?_
   walk_at "ge"
   exact k p _ hl'
abbrev qi:Str:=Str.ofString "abcdefghijklmnopqrstuvwxyz"
theorem Gv : ∀ j:Nat,j < 26->iw qi.cps.toList ((j:Nat):Int)=some (97+j):=by
 intro j h
 have e:qi.cps.toList = [97,98,99,100,101,102,103,104,105,106,107,108,109,110,111,112,113,114,115,116,117,118,119,120,121,122]:=by decide +kernel
 rw [e]
 refine gB (j:=j) ?_
 exact (by decide +kernel : ∀ j:Nat,j < 26->([97,98,99,100,101,102,103,104,105,106,107,108,109,110,111,112,113,114,115,116,117,118,119,120,121,122]:List Nat)[j]? = some (97+j)) j h
def Jy (c t k:Int):Int:=if k=c / 8 % (1+c % 8)/\c / 64 % 3≠1 then ((c / 512+3 * k * k+k) * 48271 % 7919 % 26+t) % 26 else (c / 512+3 * k * k+k) * 48271 % 7919 % 26
theorem Mi (c t k:Int):0<=Jy c t k:=by unfold Jy;split <;> exact Int.emod_nonneg _ (by decide)
theorem Mj (c t k:Int):Jy c t k < 26:=by unfold Jy;split <;> exact Int.emod_lt_of_pos _ (by decide)
def D7 (c t:Int) (i:Nat):List Nat:=(List.range i).map λ k:Nat=>97+(Jy c t (0+(k:Int))).toNat
def Ak (c t:Int):Int:=if c / 64 % 3=1 then 1+(c+t) % 8 else 1+c % 8
def AZ (c t:Int):Str:=⟨((D7 c t 8).take (Ak c t).toNat).toArray⟩
theorem xS (c t:Int) (i:Nat):(D7 c t i).length=i:=by unfold D7;rw [List.length_map,List.length_range]
theorem RK (c t:Int):1<=Ak c t/\Ak c t<=8:=by unfold Ak;split <;> omega
theorem OC {z:Str} : UE z ↔ ∀ c∈z.cps.toList,c < 0x110000:=by
 unfold UE PyData.strOk
 rw [<-Array.all_toList,List.all_eq_true]
 exact ⟨λ h c hc=>of_decide_eq_true (h c hc),λ h c hc=>decide_eq_true (h c hc)⟩
theorem Ml (c t:Int):UE (AZ c t):=by
 rw [OC]
 intro d hd
 have hd:d∈(D7 c t 8).take (Ak c t).toNat:=by simpa [AZ] using hd
 obtain ⟨k,_,rfl⟩:=List.mem_map.mp (List.mem_of_mem_take hd)
 have:=Mj c t (0+(k:Int))
 have:=Mi c t (0+(k:Int))
 omega
theorem RL (x y:Str):(x++y).cps.toList=x.cps.toList++y.cps.toList:=by show (x.cps++y.cps).toList=_;simp
theorem xT {z:Str} {c t:Int} (h:z.cps.toList=D7 c t 8) {j:Int} (h0:j=Ak c t):Txt.slice z none (some j)=AZ c t:=by
 have r:=RK c t
 have hl:z.cps.toList.length=8:=by rw [h,xS]
 have e:=eq_of_beq (slice_closes_to (x:=z) (j:=j) ⟨by omega,by rw [hl];omega⟩)
 rw [e]
 unfold AZ
 rw [h,show (0:Int).toNat=0 from rfl,List.drop_zero,Int.sub_zero,h0]
def Mm:Sp:=λ vs H Q _ => ∃ (c t:Int),vs = [.int c,.int t]/\(0<=t/\t<=4)/\Q (.str (AZ c t)) H
theorem OD (D:Def K mg "_law_name" jg) (B:iY mg) (T:Txt K mg cU cA cB cC cT cF cD cS cI):cZ P w K mg base 1 "_law_name" ["_law_cell","_law_turn"] Mm:=by
 have sc:=AI
 refine D.ok AI (λ vs H Q E h => ?_) (λ _ _ _ _ _ _ us hl=>match us,hl with | [_,_],_=>rfl) (λ f cdv A outer s H vs Q E hr h => ?_)
 ·obtain ⟨_,_,rfl,_⟩:=h;rfl
 ·obtain ⟨c,t,rfl,ht,k⟩:=h
  have hlz:qi.length<=sizeLine:=by decide +kernel
  refine ⟨_,(@ah _ _ _ _ _ (@aL _ _ 2 _ _ _ _ sc.nd rfl (by walk_at "o2") (@cW _ _ _ _) (by rfl) (by walk_at "o4")) (@ah _ _ _ _ _ (@aL _ _ 3 _ _ _ _ sc.nd rfl (by walk_at "o2") (@aq _ _ _ _ _ _ _ _ aV (@aj _ _ _ _) (@aq _ _ _ _ _ _ _ _ aG (@ao _ 0 _ _ (by walk_at "v")) (@aj _ _ _ _))) (by rfl) (by walk_at "o4")) (@ah _ _ _ _ _ (@aL _ _ 4 _ _ _ _ sc.nd rfl (by walk_at "o2") (@aq _ _ _ _ _ _ _ _ aG (@aq _ _ _ _ _ _ _ _ bE (@ao _ 0 _ _ (by walk_at "v")) (@aj _ _ _ _)) (@ao _ 3 _ _ (by walk_at "v"))) (by rfl) (by walk_at "o4")) (@ah _ _ _ _ _ (@aL _ _ 5 _ _ _ _ sc.nd rfl (by walk_at "o2") (@cW _ _ _ _) (by rfl) (by walk_at "o4")) (@ah _ _ _ _ _ (@jA _ _ _ _ _ _ _ _ PassesOwn.never rfl (@cy _ _ _ _ _ _ (by rfl) B.range (@aa _ _ _ _ _ (@aj _ _ _ _) (@ai _) (by rfl)) (by rfl)) (@fc _ _ 6 _ sc.nd rfl (by walk_at "o2") (by walk_at "o4")) (@ah _ _ _ _ _ (@aL _ _ 7 _ _ _ _ sc.nd rfl (by walk_at "o2") (@aq _ _ _ _ _ _ _ _ aG (@aq _ _ _ _ _ _ _ _ aG (@aq _ _ _ _ _ _ _ _ fN (@aq _ _ _ _ _ _ _ _ aV (@aq _ _ _ _ _ _ _ _ aV (@aq _ _ _ _ _ _ _ _ bE (@ao _ 0 _ _ (by walk_at "v")) (@aj _ _ _ _)) (@aq _ _ _ _ _ _ _ _ fN (@aq _ _ _ _ _ _ _ _ fN (@aj _ _ _ _) (@ao _ 6 _ _ (by walk_at "v"))) (@ao _ 6 _ _ (by walk_at "v")))) (@ao _ 6 _ _ (by walk_at "v"))) (@aj _ _ _ _)) (@aj _ _ _ _)) (@aj _ _ _ _)) (by rfl) (by walk_at "o4")) (@ah _ _ _ _ _ (@aU _ _ _ _ _ _ _ _ (@PW.pt _ _ _ (@pw_and _ _ _ _ _ _ _ (@aI _ _ _ _ _ _ _ _ cz (@ao _ 6 _ _ (by walk_at "v")) (@ao _ 4 _ _ (by walk_at "v")) (aO _)) (@pw_and1 _ _ _ _ (@aI _ _ _ _ _ _ _ _ OZ (@aq _ _ _ _ _ _ _ _ aG (@aq _ _ _ _ _ _ _ _ bE (@ao _ 0 _ _ (by walk_at "v")) (@aj _ _ _ _)) (@aj _ _ _ _)) (@aj _ _ _ _) (aO _))))) (@ak _ _ _ (@aL _ _ 7 _ _ _ _ sc.nd rfl (by walk_at "o2") (@aq _ _ _ _ _ _ _ _ aG (@aq _ _ _ _ _ _ _ _ aV (@ao _ 7 _ _ (by walk_at "v")) (@ao _ 1 _ _ (by walk_at "v"))) (@aj _ _ _ _)) (by rfl) (by walk_at "o4"))) (@aE _)) (@ak _ _ _ (@aL _ _ 5 _ _ _ _ sc.nd rfl (by walk_at "o2") (@aq _ _ _ _ _ _ _ _ Eu (@ao _ 5 _ _ (by walk_at "v")) (@aY _ _ _ _ _ _ _ QF (@ao _ 2 _ _ (by walk_at "v")) (@ao _ 7 _ _ (by walk_at "v")) (λ _ _=>rfl))) (by rfl) (by walk_at "o4"))))) (by intro _;rfl)) (@ah _ _ _ _ _ (@aU _ _ _ _ _ _ _ _ (@aI _ _ _ _ _ _ _ _ cz (@aq _ _ _ _ _ _ _ _ aG (@aq _ _ _ _ _ _ _ _ bE (@ao _ 0 _ _ (by walk_at "v")) (@aj _ _ _ _)) (@aj _ _ _ _)) (@aj _ _ _ _) (aO _)) (@ak _ _ _ (@aD _ _ _ _ (@kK _ _ _ _ _ _ _ _ _ _ KA (@ao _ 5 _ _ (by walk_at "v")) (@uL _) (@l7 _ _ _ (@aq _ _ _ _ _ _ _ _ aV (@aj _ _ _ _) (@aq _ _ _ _ _ _ _ _ aG (@aq _ _ _ _ _ _ _ _ aV (@ao _ 0 _ _ (by walk_at "v")) (@ao _ 1 _ _ (by walk_at "v"))) (@aj _ _ _ _))))))) (@aE _)) (@ak _ _ _ (@aD _ _ _ _ (@kK _ _ _ _ _ _ _ _ _ _ KA (@ao _ 5 _ _ (by walk_at "v")) (@uL _) (@l7 _ _ _ (@ao _ 3 _ _ (by walk_at "v")))))))))))),?_⟩
  refine aF λ M1 K1 => ?_
  walk_at "ge"
  refine K1.use ?_
  walk_at "cl"
  clear K1
  refine aF λ M1 K1 => ?_
  walk_at "ge"
  refine K1.use ?_
  walk_at "cl"
  clear K1
  refine aF λ M1 K1 => ?_
  walk_at "ge"
  refine K1.use ?_
  walk_at "cl"
  clear K1
  refine aF λ M1 K1 => ?_
  walk_at "ge"
  refine K1.use ?_
  walk_at "cl"
  clear K1
  refine aF λ M1 K1 => ?_
  refine sE λ Lr qb => ?_
  walk_at "ge"
  refine ⟨_,rfl,by omega,by omega,qb.use ?_⟩
  clear qb
  refine sF (λ i σ H'=>H' = H/\i<=8 ∧ ∃ (z:Str) (v1 v2:Option V),z.cps.toList=D7 c t i ∧ σ = [some (.int c),some (.int t),some (.str qi),some (.int (1+c % 8)),some (.int (c / 8 % (1+c % 8))),some (.str z),v1,v2]) ⟨rfl,by decide,Str.ofString "",_,_,(by show (Str.ofString "").cps.toList = [];decide +kernel),rfl⟩ ?_ ?_
  ·clear K1
   rintro i σ H' hi ⟨rfl,hi8,z,v1,v2,hz,rfl⟩
   have hi:i < 8:=hi
   have hzl:z.length=i:=by
    have hl:z.cps.toList.length=z.length:=Array.length_toList
    rw [hz,xS] at hl
    exact hl.symm
   refine aF λ M2 K2 => ?_
   walk_at "ge"
   refine K2.use ?_
   walk_at "cl"
   clear K2
   refine aF λ M2 K2 => ?_
   have rest:M2 [some (.int c),some (.int t),some (.str qi),some (.int (1+c % 8)),some (.int (c / 8 % (1+c % 8))),some (.str z),some (.int (0+(i:Int))),some (.int (Jy c t (0+(i:Int))))] H':=by
    refine K2.use ?_
    clear K2
    have l0:=Mi c t (0+(i:Int))
    have l1:=Mj c t (0+(i:Int))
    have hla:=Gv (Jy c t (0+(i:Int))).toNat (by omega)
    rw [Int.toNat_of_nonneg l0] at hla
    walk_at "ge"
    refine W5 hlz hla ?_
    walk_at "ge"
    refine Uu (by show _+1<=_;have:=sizeLine_eq;omega) ?_
    walk_at "ge"
    refine ⟨rfl,hi,_,_,_,?_,rfl⟩
    rw [RL,hz]
    unfold D7
    rw [List.range_succ,List.map_append]
    rfl
   clear K2
   walk_at "ge"
   ·have hs:Jy c t (0+(i:Int))=((c / 512+3 * (0+(i:Int)) * (0+(i:Int))+(0+(i:Int))) * 48271 % 7919 % 26+t) % 26:=by
     unfold Jy
     rw [if_pos ⟨by assumption,by assumption⟩]
    rw [hs] at rest
    exact rest
   ·have hs:Jy c t (0+(i:Int))=(c / 512+3 * (0+(i:Int)) * (0+(i:Int))+(0+(i:Int))) * 48271 % 7919 % 26:=by
     unfold Jy
     rw [if_neg λ h=>by first | exact absurd h.2 (by assumption) | exact h.2 (by assumption) | exact absurd h.1 (by assumption)]
    rw [hs] at rest
    exact rest
   ·have hs:Jy c t (0+(i:Int))=(c / 512+3 * (0+(i:Int)) * (0+(i:Int))+(0+(i:Int))) * 48271 % 7919 % 26:=by
     unfold Jy
     rw [if_neg λ h=>by first | exact absurd h.2 (by assumption) | exact h.2 (by assumption) | exact absurd h.1 (by assumption)]
    rw [hs] at rest
    exact rest
  ·rintro σ H' ⟨rfl,_,z,v1,v2,hz,rfl⟩
   have hz:z.cps.toList=D7 c t 8:=hz
   have hzl:z.length=8:=by
    have hl:z.cps.toList.length=z.length:=Array.length_toList
    rw [hz,xS] at hl
    exact hl.symm
   walk_at "ge"
   refine K1.use ?_
   walk_at "cl"
   clear K1
   refine aF λ M1 K1 => ?_
   walk_at "ge"
   ·have h1:c / 64 % 3=1:=by assumption
    refine Ut (by have:=sizeLine_eq;omega) ?_
    rw [xT hz (show 1+(c+t) % 8=Ak c t by unfold Ak;rw [if_pos h1])]
    walk_at "ge"
    exact k
   ·have h1 : ¬ c / 64 % 3=1:=by assumption
    refine K1.use ?_
    walk_at "ge"
    refine Ut (by have:=sizeLine_eq;omega) ?_
    rw [xT hz (show 1+c % 8=Ak c t by unfold Ak;rw [if_neg h1])]
    walk_at "ge"
    exact k
end
section
variable {P:Program} {w:World} {K:PySem.W.Frag} {mg:Str->Option Value} {base:Heap} {cU cA cB cC cT cF cD cS cI:Addr}
def jQ (S:SS) (i:Nat) (p:Addr) (row:List Int):SS := { S with F := { S.F with rs:=S.F.rs.set i (some (p,row)),bs:=S.F.bs.set i true } }
section
variable {S:SS} {n q i:Nat} {M:Cells} {t p:Addr} {a:Th} {row:List Int}
theorem aR.oE (g:aR S n q M) (hi:S.F.hs[i]? = some (some (t,a))) (hp:(p,HO.lst (row.map V.int))∈M) (h4:row.length=4):aR (jQ S i p row) n q M:=by
 have hlr:i < S.F.rs.length:=by rw [g.f.r,<-g.f.h];exact (List.getElem?_eq_some_iff.mp hi).1
 refine { g with f:=⟨g.f.h,(List.length_set ..).trans g.f.r,(List.length_set ..).trans g.f.s,g.f.th,λ u w h => ?_⟩,rr:=λ j u b h => ?_ }
 ·rcases List.mem_or_eq_of_mem_set h with h | h
  ·exact g.f.rw u w h
  ·cases h;exact hp
 ·by_cases e:i=j
  ·exact ⟨p,row,by show (S.F.rs.set i _)[j]? = _;rw [<-e,List.getElem?_set,if_pos rfl,if_pos hlr],h4⟩
  ·obtain ⟨r',fH,e1,e2⟩:=g.rr j u b h
   exact ⟨r',fH,(eo e).mpr e1,e2⟩
theorem eE.oE (g:aR S n q M) (hi:S.F.hs[i]? = some (some (t,a))):(∀ b fH,b≠a->eE S b fH->eE (jQ S i p row) b fH)/\eE (jQ S i p row) a row:=by
 have hlr:i < S.F.rs.length:=by rw [g.f.r,<-g.f.h];exact (List.getElem?_eq_some_iff.mp hi).1
 refine ⟨λ b fH hne hb => ?_,.inl ⟨i,t,p,hi,?_⟩⟩
 ·rcases hb with ⟨j,u,r',h1,h2⟩ | ⟨h1,h2⟩
  ·have hij:i≠j:=λ z=>by rw [<-z,hi] at h1;cases h1;exact hne rfl
   exact .inl ⟨j,u,r',h1,(eo hij).mpr h2⟩
  ·refine .inr ⟨h1,?_⟩
   cases b with
   | own m=>exact h2
   | file z p=>exact h2
 ·show (S.F.rs.set i _)[i]? = _
  rw [List.getElem?_set,if_pos rfl,if_pos hlr]
theorem Clean.oE (cl:Clean S):Clean (jQ S i p row):=by
 intro j u r' z p' fH h1 h2 h3
 have h3':(S.F.bs.set i true)[j]? = some false:=h3
 have h2':(S.F.rs.set i (some (p,row)))[j]? = some (some (r',fH)):=h2
 by_cases e:i=j
 ·rw [List.getElem?_set,if_pos e] at h3'
  split at h3' <;> cases h3'
 ·exact cl j u r' z p' fH h1 ((eo e).mp h2') ((eo e).mp h3')
end
def dM (sp mk sf rd:Addr) (us:List V) (S:SS) (ts:Ts):Cells:=[(sp,.lst us),(mk,.lst (S.bs.map V.bl)),(sf,.lst S.ps),(rd,.dT (uR ts))]
structure Lr (n q:Nat) (S:SS) (us:List V) (ts:Ts) (M:Cells):Prop where
 g:aR S n q M
 gh:G9 S n q
 s:j5 S us M
 cl:Clean S
 nd:(ts.map (·.1)).Nodup
 rw : ∀ e∈ts,(e.2.1,HO.lst (e.2.2.map V.int))∈M/\eE S e.1 e.2.2/\Gd e.1
 xU : ∀ a,(r8 S a ∨ ∃ row,Back S row a)->a∈ts.map (·.1)
 hm:(S.hs.length:Int)=S.made
 cnt:((ts.filter λ e => !aX e.1).length:Int)=S.made
theorem Lr.mono {n q:Nat} {S:SS} {us:List V} {ts:Ts} {M M':Cells} (h:Lr n q S us ts M) (up : ∀ c∈M,c∈M'):Lr n q S us ts M' := { h with g:=h.g.mono up,s:=h.s.mono up,rw:=λ e he=>⟨up _ (h.rw e he).1,(h.rw e he).2⟩ }
theorem Lr.bs {n q:Nat} {S:SS} {us:List V} {ts:Ts} {M:Cells} (h:Lr n q S us ts M) {bs:List Bool} (hb:bs.length=n):Lr n q { S with bs:=bs } us ts M := { g:=h.g.turned h.g.pn hb,gh := { h.gh with },s:=j5.same (S:=S) rfl h.s,cl:=h.cl,nd:=h.nd,rw:=h.rw,xU:=h.xU,hm:=h.hm,cnt:=h.cnt }
theorem Mn (ts:Ts) (a:Th) (r:Addr) (row:List Int):((Aj ts a r row).filter λ e => !aX e.1).length=(ts.filter λ e => !aX e.1).length:=by
 have h : ∀ l:Ts,(l.filter λ e => !aX e.1).length=((l.map (·.1)).filter λ b => !aX b).length:=λ l=>by
  rw [List.filter_map,List.length_map]
  rfl
 rw [h,h,mF]
theorem Lr.oE {n q i:Nat} {S:SS} {us:List V} {ts:Ts} {M:Cells} {t p r:Addr} {a:Th} {row:List Int} (h:Lr n q S us ts M) (hi:S.F.hs[i]? = some (some (t,a))) (hp:(p,HO.lst (row.map V.int))∈M) (hr:(r,HO.lst (row.map V.int))∈M) (h4:row.length=4):Lr n q (jQ S i p row) us (Aj ts a r row) M:=by
 obtain ⟨r1,r2⟩:=eE.oE (p:=p) (row:=row) h.g hi
 refine { g:=h.g.oE hi hp h4,gh := { h.gh with },s:=j5.same (S:=S) rfl h.s,cl:=h.cl.oE,nd:=by rw [mF];exact h.nd,rw:=λ e he => ?_,xU:=λ b hb => ?_,hm:=h.hm,cnt:=by rw [Mn];exact h.cnt }
 ·rcases Ow he with rfl | ⟨hne,he⟩
  ·obtain ⟨e2,yu,e3⟩:=List.mem_map.mp (h.xU a (.inl ⟨i,t,hi⟩))
   have e3':e2.1=a:=e3
   exact ⟨hr,r2,by rw [<-e3'];exact (h.rw e2 yu).2.2⟩
  ·exact ⟨(h.rw e he).1,r1 _ _ hne (h.rw e he).2.1,(h.rw e he).2.2⟩
 ·rw [mF]
  refine h.xU b ?_
  rcases hb with hb | ⟨fH,hb⟩
  ·exact .inl hb
  ·refine .inr ⟨fH,?_⟩
   cases b with
   | own m=>exact hb
   | file z p=>exact hb
end
section
variable {P:Program} {w:World} {K:PySem.W.Frag} {mg:Str->Option Value} {base:Heap} {cU cA cB cC cT cF cD cS cI:Addr}
theorem D8 {H:Hp} {a b:Addr} {kvs:List (List Key×V)} {k:List Key} {v:V} {S:V->Prop} (h1:H a=some (.dT kvs)) (hb:H b=some (.tup (k.map kV))) (h2:bx kvs k=some v) (h:S v) : ∃ c v,V.ref a = .ref c/\gm H c (.ref b) (some v)/\S v:=⟨a,v,rfl,h2 ▸ gm.t h1 hb,h⟩
theorem Mp {H:Hp} {a b:Addr} {kvs:List (List Key×V)} {k:List Key} {v:V} {D:Ends} {σ : L2.St} (h1:H a=some (.dT kvs)) (hb:H b=some (.tup (k.map kV))) (hl:kvs.length < sizeLine) (h:D.nx σ (upd H a (.dT (putK kvs k v)))) : ∃ c H4,V.ref a = .ref c/\nF H c (.ref b) v H4/\D.nx σ H4:=⟨a,_,rfl,nF.t h1 hb hl,h⟩
theorem St.mark {H:Hp} {S:SS} {bs:List Bool} {sp mk sf rd:Addr} {us:List V} {ts:Ts} {M:Cells} (h:Led H (bq cT cF cD cS cI { S with bs:=bs } (dM sp mk sf rd us S ts++M))):Led (upd H mk (.lst (bs.map V.bl))) (bq cT cF cD cS cI { S with bs:=bs } (dM sp mk sf rd us { S with bs:=bs } ts++M)):=by
 have h1:Led H (dM sp mk sf rd us S ts++bq cT cF cD cS cI { S with bs:=bs } M):=St.xR [] _ h
 have h2:=h1.iU (o' := .lst (bs.map V.bl)) 1 rfl rfl rfl
 exact St.jw _ h2
def Mq (cT cF cD cS cI:Addr):Sp:=λ vs H Q _ => ∃ (S:SS) (n q:Nat) (c:Int) (sp mk sf rd:Addr) (us:List V) (ts:Ts) (M:Cells),vs = [.ref S.b,.ref sp,.ref mk,.ref rd,.int c]/\Led H (bq cT cF cD cS cI S (dM sp mk sf rd us S ts++M))/\Lr n q S us ts M/\ts.length<=1000/\Builtin.Int.intBits c<=1048576 ∧
 ∀ (S':SS) (ts':Ts) (N:Cells) (H':Hp),S'.b=S.b->S'.p=S.p->ts'.map (·.1)=ts.map (·.1)->Lr n q S' us ts' (N++M)->Led H' (bq cT cF cD cS cI S' (dM sp mk sf rd us S' ts'++(N++M)))->Q .aH H'
theorem OE (D:Def K mg "_law_stir" jh) (B:iY mg) (T:Txt K mg cU cA cB cC cT cF cD cS cI) (qj:aJ P w K mg base 1 cD "touch" ["self","frame"] (xG cD true)) (jO:aJ P w K mg base 1 cD "clear" ["self","frame"] (xG cD false)) (uF:aJ P w K mg base 2 cF "put_in" ["self","frame","cell","numbers"] (G2 cF)) (oz:cZ P w K mg base 1 "_law_num" ["_law_cell","_law_k"] LW) (xV:cZ P w K mg base 1 "_law_laid_in" ["_law_row_here","_law_cell","_law_nums"] Mh):cZ P w K mg base 3 "_law_stir" ["_law_store","_law_spots","_law_marks","_law_rows","_law_cell"] (Mq cT cF cD cS cI):=by
 have sc:=AJ
 refine D.ok AJ (λ vs H Q E h => ?_) (λ _ _ _ _ _ _ us hl=>match us,hl with | [_,_,_,_,_],_=>rfl) (λ f cdv A outer s H vs Q E hr h => ?_)
 ·obtain ⟨_,_,_,_,_,_,_,_,_,_,_,rfl,_⟩:=h;rfl
 ·obtain ⟨S,n,q,c,sp,mk,sf,rd,us,ts,M,rfl,hL,lr,hts,Dj,k⟩:=h
  have hu:=gz hr
  have hsz:=sizeLine_eq
  have n1:=lr.g.n1
  have n64:=lr.g.n64
  have ul:us.length=n:=lr.s.l.trans lr.g.f.h
  have eW:=hL.get (St.up mS)
  refine ⟨_,(@ah _ _ _ _ _ (@aL _ _ 5 _ _ _ _ sc.nd rfl (by walk_at "o2") (@aq _ _ _ _ _ _ _ _ aG (@aq _ _ _ _ _ _ _ _ aG (@aq _ _ _ _ _ _ _ _ oV (@ao _ 4 _ _ (by walk_at "v")) (@aj _ _ _ _)) (@aj _ _ _ _)) (@aK _ _ _ _ _ _ _ _ _ aS (by rfl) B.len bR (@aa _ _ _ _ _ (@ao _ 1 _ _ (by walk_at "v")) (@ai _) (by rfl)) (by decide) (by decide) (by rfl) (by rfl))) (by rfl) (by walk_at "o4")) (@ah _ _ _ _ _ (@aU _ _ _ _ _ _ _ _ (@aI _ _ _ _ _ _ _ _ cz (@aq _ _ _ _ _ _ _ _ aG (@ao _ 4 _ _ (by walk_at "v")) (@aj _ _ _ _)) (@aj _ _ _ _) (aO _)) (@ah _ _ _ _ _ (@bY _ _ _ _ (@aP _ _ _ _ _ _ _ _ _ _ _ _ _ _ _ _ T.jI qj (hr.mono (by omega)) az (@ay _ _ _ _ _ _ _ T.aZ T.k7 (@ao _ 0 _ _ (by walk_at "v")) (by rfl)) (@aa _ _ _ _ _ (@ao _ 5 _ _ (by walk_at "v")) (@ai _) (by rfl)) (by rfl) (by rfl) (by rfl)) (by rfl)) (@ak _ _ _ (@bC _ _ _ _ _ _ (@bB _ _ _ _) (@bG _ _ _ _ _ _ _ (@ao _ 2 _ _ (by walk_at "v")) (@ao _ 5 _ _ (by walk_at "v")) set_list (by intro _;rfl)) (by rfl) (by rfl) (by rfl)))) (@aE _)) (@ah _ _ _ _ _ (@aU _ _ _ _ _ _ _ _ (@aI _ _ _ _ _ _ _ _ cz (@aq _ _ _ _ _ _ _ _ aG (@ao _ 4 _ _ (by walk_at "v")) (@aj _ _ _ _)) (@aj _ _ _ _) (aO _)) (@ah _ _ _ _ _ (@bY _ _ _ _ (@aP _ _ _ _ _ _ _ _ _ _ _ _ _ _ _ _ T.jI jO (hr.mono (by omega)) az (@ay _ _ _ _ _ _ _ T.aZ T.k7 (@ao _ 0 _ _ (by walk_at "v")) (by rfl)) (@aa _ _ _ _ _ (@ao _ 5 _ _ (by walk_at "v")) (@ai _) (by rfl)) (by rfl) (by rfl) (by rfl)) (by rfl)) (@ak _ _ _ (@bC _ _ _ _ _ _ (@bB _ _ _ _) (@bG _ _ _ _ _ _ _ (@ao _ 2 _ _ (by walk_at "v")) (@ao _ 5 _ _ (by walk_at "v")) set_list (by intro _;rfl)) (by rfl) (by rfl) (by rfl)))) (@aE _)) (@ah _ _ _ _ _ (@aU _ _ _ _ _ _ _ _ (@PW.pt _ _ _ (@pw_and _ _ _ _ _ _ _ (@aI _ _ _ _ _ _ _ _ cz (@aq _ _ _ _ _ _ _ _ aG (@ao _ 4 _ _ (by walk_at "v")) (@aj _ _ _ _)) (@aj _ _ _ _) (aO _)) (@pw_and1 _ _ _ _ (@aI _ _ _ _ _ _ _ _ cz (@aq _ _ _ _ _ _ _ _ aG (@aq _ _ _ _ _ _ _ _ bE (@ao _ 4 _ _ (by walk_at "v")) (@aj _ _ _ _)) (@aj _ _ _ _)) (@aj _ _ _ _) (aO _))))) (@ak _ _ _ (@jA _ _ _ _ _ _ _ _ PassesOwn.never rfl (@cy _ _ _ _ _ _ (by rfl) B.range (@aa _ _ _ _ _ (@aK _ _ _ _ _ _ _ _ _ aS (by rfl) B.len bR (@aa _ _ _ _ _ (@ao _ 1 _ _ (by walk_at "v")) (@ai _) (by rfl)) (by decide) (by decide) (by rfl) (by rfl)) (@ai _) (by rfl)) (by rfl)) (@fc _ _ 6 _ sc.nd rfl (by walk_at "o2") (by walk_at "o4")) (@ah _ _ _ _ _ (@bY _ _ _ _ (@aP _ _ _ _ _ _ _ _ _ _ _ _ _ _ _ _ T.jI qj (hr.mono (by omega)) az (@ay _ _ _ _ _ _ _ T.aZ T.k7 (@ao _ 0 _ _ (by walk_at "v")) (by rfl)) (@aa _ _ _ _ _ (@ao _ 6 _ _ (by walk_at "v")) (@ai _) (by rfl)) (by rfl) (by rfl) (by rfl)) (by rfl)) (@ak _ _ _ (@bC _ _ _ _ _ _ (@bB _ _ _ _) (@bG _ _ _ _ _ _ _ (@ao _ 2 _ _ (by walk_at "v")) (@ao _ 6 _ _ (by walk_at "v")) set_list (by intro _;rfl)) (by rfl) (by rfl) (by rfl)))) (by intro _;rfl))) (@aE _)) (@ak _ _ _ (@aU _ _ _ _ _ _ _ _ (@PW.pt _ _ _ (@pw_and _ _ _ _ _ _ _ (@aI _ _ _ _ _ _ _ _ oO (@aY _ _ _ _ _ _ _ aQ (@ao _ 1 _ _ (by walk_at "v")) (@ao _ 5 _ _ (by walk_at "v")) (λ _ _=>rfl)) (@bF _ _ _) (aO _)) (@pw_and1 _ _ _ _ (@aI _ _ _ _ _ _ _ _ cz (@aq _ _ _ _ _ _ _ _ aG (@aq _ _ _ _ _ _ _ _ bE (@ao _ 4 _ _ (by walk_at "v")) (@aj _ _ _ _)) (@aj _ _ _ _)) (@aj _ _ _ _) (aO _))))) (@ah _ _ _ _ _ (@aL _ _ 7 _ _ _ _ sc.nd rfl (by walk_at "o2") (@aq _ _ _ _ _ _ _ _ aG (@aq _ _ _ _ _ _ _ _ bE (@ao _ 4 _ _ (by walk_at "v")) (@aj _ _ _ _)) (@aj _ _ _ _)) (by rfl) (by walk_at "o4")) (@ah _ _ _ _ _ (@gT _ _ "_law_k" _ _ _ _ _ _ _ _ _ _ 8 _ _ rfl rfl rfl rfl Pg (dh (by kernel_rfl)) (@cy _ _ _ _ _ _ (by rfl) B.range (@aa _ _ _ _ _ (@aq _ _ _ _ _ _ _ _ aV (@aj _ _ _ _) (@aq _ _ _ _ _ _ _ _ aG (@aq _ _ _ _ _ _ _ _ bE (@ao _ 4 _ _ (by walk_at "v")) (@aj _ _ _ _)) (@aq _ _ _ _ _ _ _ _ jB (@aj _ _ _ _) (@ao _ 7 _ _ (by walk_at "v"))))) (@ai _) (by rfl)) (by rfl)) (λ _ _ _ _=>(@l8 _)) (λ _ _ _ _=>(@aB _ _ _ _ _ _ _ _ _ _ _ oz (hr.mono (by omega)) (by rfl) az (@aa _ _ _ _ _ (@aq _ _ _ _ _ _ _ _ aV (@pk _ 5 _ _ (by kernel_rfl) (by kernel_rfl) (by decide) (by decide)) (@aq _ _ _ _ _ _ _ _ fN (@aj _ _ _ _) (@pk _ 0 _ _ (by kernel_rfl) (by kernel_rfl) (by decide) (by decide)))) (@aa _ _ _ _ _ (@aq _ _ _ _ _ _ _ _ aV (@pk _ 0 _ _ (by kernel_rfl) (by kernel_rfl) (by decide) (by decide)) (@aj _ _ _ _)) (@ai _) (by rfl)) (by rfl)) (by decide) (by rfl) (by rfl))) sc.nd rfl (by walk_at "o2") (by intro _;rfl) (by rfl) (by walk_at "o4")) (@ah _ _ _ _ _ (@bY _ _ _ _ (@aP _ _ _ _ _ _ _ _ _ _ _ _ _ _ _ _ T.Frames uF (hr.mono (by omega)) az (@ay _ _ _ _ _ _ _ T.aZ T.bL (@ao _ 0 _ _ (by walk_at "v")) (by rfl)) (@aa _ _ _ _ _ (@ao _ 5 _ _ (by walk_at "v")) (@aa _ _ _ _ _ (@ao _ 7 _ _ (by walk_at "v")) (@aa _ _ _ _ _ (@br _ _ _ _ _ _ _ _ _ (aT (K:=K) rfl) (by rfl) B.list bZ (@aa _ _ _ _ _ (@ao _ 8 _ _ (by walk_at "v")) (@ai _) (by rfl)) (by decide) (by decide) (by rfl) (by rfl)) (@ai _) (by rfl)) (by rfl)) (by rfl)) (by rfl) (by rfl) (by rfl)) (by rfl)) (@ak _ _ _ (@l6 _ _ _ _ _ _ _ _ _ hu (@ao _ 3 _ _ (by walk_at "v")) (@aY _ _ _ _ _ _ _ aQ (@ao _ 1 _ _ (by walk_at "v")) (@ao _ 5 _ _ (by walk_at "v")) (λ _ _=>rfl)) (@aB _ _ _ _ _ _ _ _ _ _ _ xV (hr.mono (by omega)) (by rfl) az (@aa _ _ _ _ _ (@gA _ _ _ _ _ _ hu (@ao _ 3 _ _ (by walk_at "v")) (@aY _ _ _ _ _ _ _ aQ (@ao _ 1 _ _ (by walk_at "v")) (@ao _ 5 _ _ (by walk_at "v")) (λ _ _=>rfl)) (λ _ _=>rfl)) (@aa _ _ _ _ _ (@ao _ 7 _ _ (by walk_at "v")) (@aa _ _ _ _ _ (@ao _ 8 _ _ (by walk_at "v")) (@ai _) (by rfl)) (by rfl)) (by rfl)) (by decide) (by rfl) (by rfl)) rfl))))) (@aE _))))))),?_⟩
  refine aF λ M1 K1 => ?_
  walk_at "ge"
  rw [ul]
  have e0:=Int.emod_nonneg (c * 48271 % 10007) (show (n:Int)≠0 by omega)
  have e1:=Int.emod_lt_of_pos (c * 48271 % 10007) (show (0:Int) < n by omega)
  obtain ⟨i,hi⟩ : ∃ i:Nat,c * 48271 % 10007 % (n:Int)=(i:Int):=⟨_,(Int.toNat_of_nonneg e0).symm⟩
  rw [hi] at e0 e1 ⊢
  have hin:i < n:=by omega
  clear e0 eW hi
  refine K1.use ?_
  walk_at "cl"
  clear K1
  refine aF λ M1 K1 => ?_
  have xW : ∀ (bs:List Bool) (H1:Hp),bs.length=n->Led H1 (bq cT cF cD cS cI { S with bs:=bs } (dM sp mk sf rd us { S with bs:=bs } ts++M))->M1 [some (.ref S.b),some (.ref sp),some (.ref mk),some (.ref rd),some (.int c),some (.int (i:Nat)),none,none,none] H1:=by
   intro bs H1 CA hl
   refine K1.use ?_
   clear K1 hL
   refine aF λ M1 K1 => ?_
   have ny : ∀ (bs:List Bool) (H1:Hp),bs.length=n->Led H1 (bq cT cF cD cS cI { S with bs:=bs } (dM sp mk sf rd us { S with bs:=bs } ts++M))->M1 [some (.ref S.b),some (.ref sp),some (.ref mk),some (.ref rd),some (.int c),some (.int (i:Nat)),none,none,none] H1:=by
    clear hl CA bs
    intro bs H1 CA hl
    refine K1.use ?_
    clear K1
    refine aF λ M1 K1 => ?_
    have A0 : ∀ (v6:Option V) (bs:List Bool) (H1:Hp),bs.length=n->Led H1 (bq cT cF cD cS cI { S with bs:=bs } (dM sp mk sf rd us { S with bs:=bs } ts++M))->M1 [some (.ref S.b),some (.ref sp),some (.ref mk),some (.ref rd),some (.int c),some (.int (i:Nat)),v6,none,none] H1:=by
     clear hl CA bs
     intro v6 bs H1 CA hl
     refine K1.use ?_
     clear K1
     have xX:=lr.bs CA
     obtain ⟨S1,oF⟩ : ∃ S1:SS,S1 = { S with bs:=bs } := ⟨_,rfl⟩
     have Gw:S1.b=S.b:=by rw [oF]
     have JI:S1.p=S.p:=by rw [oF]
     rw [<-oF] at hl xX
     rw [<-Gw]
     clear oF
     have eW:=hl.get (St.up mS)
     obtain ⟨x,hx⟩ : ∃ x,S1.F.hs[i]? = some x:=⟨_,List.getElem?_eq_getElem (by rw [xX.g.f.h];exact hin)⟩
     cases x with
     | none =>
       have au:iw us ((i:Nat):Int)=some .aH:=cX (by omega) (by rw [Int.toNat_natCast];exact xX.s.no i hx)
       walk_at "ge"
       all_goals first | exact absurd (rfl:V.aH=V.aH) (by assumption) | skip
       exact k S1 ts [] H1 Gw JI rfl xX hl
     | some x =>
       obtain ⟨u,hu,cu⟩:=xX.s.th i x.1 x.2 hx
       have au:iw us ((i:Nat):Int)=some (.ref u):=cX (by omega) (by rw [Int.toNat_natCast];exact hu)
       walk_at "ge"
       all_goals first | exact nomatch (show V.ref u=V.aH by assumption) | skip
       ·obtain ⟨t',a⟩:=x
        have lrg:=xX.g
        obtain ⟨r,row,Af,h4⟩:=lrg.rr i t' a hx
        obtain ⟨e,he,ea⟩:=List.mem_map.mp (xX.xU a (.inl ⟨i,t',hx⟩))
        have ea':e.1=a:=ea
        obtain ⟨ie,rowAt,V0⟩:=xX.rw e he
        have Mr:e.2.2=row:=by
         rw [ea'] at rowAt
         rcases rowAt with ⟨j,u2,r2,h1,h2⟩ | ⟨h1,_⟩
         ·have:=lrg.inj i j t' u2 a hx h1
          subst this
          rw [Af] at h2
          cases h2
          rfl
         ·exact absurd ⟨i,t',hx⟩ h1
        obtain ⟨Al,RM⟩ : ∃ z:Nat,c / 24 % 4=(z:Int):=⟨_,(Int.toNat_of_nonneg (Int.emod_nonneg _ (by decide))).symm⟩
        have at3:Al < 4:=by omega
        rw [RM]
        refine Bv λ Lc mV => ?_
        have p4:(0:Int) < 4 - (Al:Int):=by omega
        have m0:=Int.emod_nonneg (c / 96) (show (4 - (Al:Int))≠0 by omega)
        have m1:=Int.emod_lt_of_pos (c / 96) p4
        walk_at "ge"
        refine ⟨_,rfl,by omega,by omega,mV.use ?_⟩
        clear mV eW
        refine vq (λ _ v => ∃ z:Int,v=V.int z) hl (by omega) (λ k2 H2 R q2 hk2 hl2 hR => ?_) (λ pm acc H2 hlen hacc hl2 => ?_)
        ·walk_at "ge"
         refine ⟨_,_,_,rfl,Nat.le_trans (bits_add Dj (by omega) (by omega) (by decide)) (by decide),by omega,by omega,hl2,λ H3 hl3 => ?_⟩
         walk_at "ge"
         exact hR _ _ ⟨_,rfl⟩ hl3
        ·obtain ⟨ms,rfl⟩:=intsOf hacc
         rw [List.length_map] at hlen
         have hms:ms.length<=4 - Al:=by omega
         clear hl
         have hl3:=St.push hl2
         clear hl2
         have f1:=gq S1
         have gS:=hl3.get St.b
         have abk:=hl3.get (St.up mS)
         have hF:=St.toF hl3
         have iZ:=hF.get mS
         walk_at "ge"
         rename_i q2 H3 _ bM _
         rw [RM]
         have cP:Led H3 (sR cF S1.F ([(q2,HO.lst (ms.map V.int))]++rF cT cD cS cI S1 ((pm,HO.lst (ms.map V.int))::(dM sp mk sf rd us S1 ts++M)))):=Led.perm bM (aN [(q2,HO.lst (ms.map V.int))] (qm cF S1.F) _)
         clear bM hF iZ abk gS hl3
         refine ⟨S1.F,n,i,(Al:Int),q2,r,row,ms,_,rfl,cP,lrg.f.mono (λ x hx=>mA (jt (mC (mA hx)))),hin,Af,mS,by omega,by omega,by omega,λ p H4 eX => ?_⟩
         rw [Int.toNat_natCast] at eX
         have afC:row.take Al++ms++row.drop (Al+ms.length)=dI row Al ms:=rfl
         have iu:Led H4 (bq cT cF cD cS cI (jQ S1 i p (dI row Al ms)) ([(p,HO.lst ((dI row Al ms).map V.int)),(q2,HO.lst (ms.map V.int))]++((pm,HO.lst (ms.map V.int))::(dM sp mk sf rd us S1 ts++M)))):=St.RB (S:=S1) (F' := { S1.F with rs:=S1.F.rs.set i (some (p,dI row Al ms)),bs:=S1.F.bs.set i true }) rfl eX
         clear cP eX
         obtain ⟨S2,Hh⟩ : ∃ S2:SS,S2=jQ S1 i p (dI row Al ms):=⟨_,rfl⟩
         rw [<-Hh] at iu
         have UT : ∀ {x:Addr×HO},x∈dM sp mk sf rd us S1 ts++M->x∈bq cT cF cD cS cI S2 ([(p,HO.lst ((dI row Al ms).map V.int)),(q2,HO.lst (ms.map V.int))]++((pm,HO.lst (ms.map V.int))::(dM sp mk sf rd us S1 ts++M))):=λ hx=>St.up (mA (mC hx))
         have eW:=iu.get (UT mS)
         have nv:=iu.get (UT (mC (mC (mC mS))))
         have xY:=iu.get (UT (mA cu))
         have D9:H4 u=some (.tup ((kE a).map kV)):=by rw [qh];exact xY
         clear xY
         have hv:=xP xX.nd he
         rw [ea'] at hv
         walk_at "ge"
         refine D8 nv D9 hv ?_
         walk_at "ge"
         rw [RM]
         refine ⟨e.2.1,pm,Al,row,ms,_,rfl,iu,UT (mA (by rw [<-Mr];exact ie)),St.up (mA mS),by omega,by omega,λ p2 H5 lW => ?_⟩
         have lX:=St.push lW
         obtain ⟨N4,eN4⟩ : ∃ N4,[(p2,HO.lst ((dI row Al ms).map V.int)),(p,HO.lst ((dI row Al ms).map V.int)),(q2,HO.lst (ms.map V.int)),(pm,HO.lst (ms.map V.int))]=N4:=⟨_,rfl⟩
         have fF:Led H5 (bq cT cF cD cS cI S2 (N4++(dM sp mk sf rd us S1 ts++M))):=by rw [<-eN4];exact lX
         have fG:=St.xR N4 _ fF
         clear iu lW lX fF UT eW nv D9
         have eW:=fG.get mS
         have nv:=fG.get (mC (mC (mC mS)))
         have xY:=fG.get (mA (St.up (mA cu)))
         have D9:H5 u=some (.tup ((kE a).map kV)):=by rw [qh];exact xY
         clear xY
         walk_at "ge"
         refine Mp nv D9 (by rw [uS];omega) ?_
         rw [Ox p2 (dI row Al ms) (by rw [<-ea'];exact List.mem_map.mpr ⟨e,he,rfl⟩)]
         have UU:Led (upd H5 rd (.dT (uR (Aj ts a p2 (dI row Al ms))))) (dM sp mk sf rd us S1 (Aj ts a p2 (dI row Al ms))++bq cT cF cD cS cI S2 (N4++M)):=fG.iU 3 rfl rfl rfl
         have fR:=St.jw _ UU
         walk_at "ge"
         have Hi:=(xX.mono (M':=N4++M) λ x hx=>mA hx).oE (p:=p) (r:=p2) (row:=dI row Al ms) hx (by rw [<-eN4];exact mB (mC mS)) (by rw [<-eN4];exact mB mS) (by rw [AY (by omega)];exact h4)
         refine k S2 (Aj ts a p2 (dI row Al ms)) N4 _ (by rw [Hh];exact Gw) (by rw [Hh];exact JI) (mF ..) (by rw [Hh];exact Hi) ?_
         rw [Hh] at fR ⊢
         exact fR
       ·exact k S1 ts [] H1 Gw JI rfl xX hl
    clear K1
    walk_at "ge"
    ·have eW:=hl.get (St.up mS)
     refine sE λ V1 qb => ?_
     walk_at "ge"
     refine ⟨_,rfl,by omega,by omega,qb.use ?_⟩
     clear qb eW
     rw [show ((us.length:Int)).toNat=n by omega]
     refine sF (λ j σ H' => ∃ (bs:List Bool) (v6:Option V),bs.length=n/\Led H' (bq cT cF cD cS cI { S with bs:=bs } (dM sp mk sf rd us { S with bs:=bs } ts++M)) ∧ σ = [some (.ref S.b),some (.ref sp),some (.ref mk),some (.ref rd),some (.int c),some (.int (i:Nat)),v6,none,none]) ⟨bs,none,CA,hl,rfl⟩ ?_ ?_
     ·clear hl CA bs
      rintro j σ H' hj ⟨bs,v6,CA,hl,rfl⟩
      have f2:=oA { S with bs:=bs }
      have gS:=hl.get St.b
      have hD:=St.toD hl
      have Jr:=hD.get Lv
      walk_at "ge"
      refine ⟨S.d,S.JH,S.dm,(S.p:Int),0+(j:Int),bs,_,rfl,hD,by omega,by omega,λ H2 hl3 => ?_⟩
      rw [show (0+(j:Int)).toNat=j by omega] at hl3
      have bM:Led H2 (bq cT cF cD cS cI { S with bs:=bs.set j true } (dM sp mk sf rd us { S with bs:=bs } ts++M)):=St.ofD (S := { S with bs:=bs }) (N:=[]) (p':=S.p) (bs':=bs.set j true) hl3
      clear hl3 hD Jr gS hl
      have MU:H2 mk=some (.lst (bs.map V.bl)):=bM.get (St.up (mC mS))
      walk_at "ge"
      refine cH MU (bD (by omega) (by rw [List.length_map];omega)) ?_
      rw [show (0+(j:Int)).toNat=j by omega,xF]
      have cP:=St.mark (S := { S with bs:=bs }) bM
      walk_at "ge"
      exact ⟨bs.set j true,_,(List.length_set ..).trans CA,cP,rfl⟩
     ·clear hl CA bs
      rintro σ H' ⟨bs,v6,CA,hl,rfl⟩
      exact A0 v6 bs H' CA hl
    ·exact A0 none bs H1 CA hl
    ·exact A0 none bs H1 CA hl
   clear K1
   walk_at "ge"
   ·have f2:=oA { S with bs:=bs }
    have gS:=hl.get St.b
    have hD:=St.toD hl
    have Jr:=hD.get Lv
    walk_at "ge"
    refine ⟨S.d,S.JH,S.dm,(S.p:Int),((i:Nat):Int),bs,_,rfl,hD,by omega,by omega,λ H2 hl3 => ?_⟩
    rw [Int.toNat_natCast] at hl3
    have bM:Led H2 (bq cT cF cD cS cI { S with bs:=bs.set i false } (dM sp mk sf rd us { S with bs:=bs } ts++M)):=St.ofD (S := { S with bs:=bs }) (N:=[]) (p':=S.p) (bs':=bs.set i false) hl3
    clear hl3 hD Jr gS hl
    have MU:H2 mk=some (.lst (bs.map V.bl)):=bM.get (St.up (mC mS))
    walk_at "ge"
    refine cH MU (bD (by omega) (by rw [List.length_map];omega)) ?_
    rw [Int.toNat_natCast,xF]
    have cP:=St.mark (S := { S with bs:=bs }) bM
    walk_at "ge"
    exact ny (bs.set i false) _ ((List.length_set ..).trans CA) cP
   ·exact ny bs H1 CA hl
  clear K1
  obtain ⟨bs,VZ,CA⟩ : ∃ bs:List Bool,{ S with bs:=bs } = S/\bs.length=n:=⟨S.bs,rfl,lr.g.bl⟩
  have hl:Led H (bq cT cF cD cS cI { S with bs:=bs } (dM sp mk sf rd us { S with bs:=bs } ts++M)):=by rw [VZ];exact hL
  clear hL VZ
  walk_at "ge"
  ·have f2:=oA { S with bs:=bs }
   have gS:=hl.get St.b
   have hD:=St.toD hl
   have Jr:=hD.get Lv
   walk_at "ge"
   refine ⟨S.d,S.JH,S.dm,(S.p:Int),((i:Nat):Int),bs,_,rfl,hD,by omega,by omega,λ H2 hl3 => ?_⟩
   rw [Int.toNat_natCast] at hl3
   have bM:Led H2 (bq cT cF cD cS cI { S with bs:=bs.set i true } (dM sp mk sf rd us { S with bs:=bs } ts++M)):=St.ofD (S := { S with bs:=bs }) (N:=[]) (p':=S.p) (bs':=bs.set i true) hl3
   clear hl3 hD Jr gS hl
   have MU:H2 mk=some (.lst (bs.map V.bl)):=bM.get (St.up (mC mS))
   walk_at "ge"
   refine cH MU (bD (by omega) (by rw [List.length_map];omega)) ?_
   rw [Int.toNat_natCast,xF]
   have cP:=St.mark (S := { S with bs:=bs }) bM
   walk_at "ge"
   exact xW (bs.set i true) _ ((List.length_set ..).trans CA) cP
  ·exact xW bs H CA hl
end
section
variable {P:Program} {w:World} {K:PySem.W.Frag} {mg:Str->Option Value} {base:Heap} {cU cA cB cC cT cF cD cS cI:Addr}
theorem Led.abl {H:Hp} {L:Cells} {b:Addr} {xs:List V} (h:Led H L) (hb:H b=some (.tup xs)):Led H ((b,.tup xs)::L):=⟨λ c hc=>by
 rcases List.mem_cons.mp hc with rfl | hc
 ·exact hb
 ·exact h.at_ c hc,by rw [List.filter_cons_of_neg (by simp [lasts])];exact h.nd⟩
def OF (ys:List (Addr×Th)):Cells:=ys.map λ y=>(y.1,HO.tup (gc y.2))
theorem Led.PK {H:Hp} {L:Cells} (h:Led H L) : ∀ {ys:List (Addr×Th)},(∀ y∈ys,H y.1=some (.tup (gc y.2)))->Led H (OF ys++L)
 | [],_=>h
 | y::ys,hy=>Led.abl (Led.PK h λ z hz=>hy z (mC hz)) (hy y mS)
theorem sr {H:Hp} {ts:Ts} {rd:Addr} {Q:VK} {L:Cells} (h1:H rd=some (.dT (uR ts))) (hL:Led H L) (h : ∀ (l:Addr) (ys:List (Addr×Th)) (H':Hp),ys.map (·.2)=ts.map (·.1)->Led H' ((l,.lst (ys.map λ y=>V.ref y.1))::(OF ys++L))->Q (.ref l) H'):BB [.ref rd] H Q:=by
 refine NK h1 λ l as hl hlen hat => ?_
 rw [uS] at hlen
 have e1:(as.zip (ts.map (·.1))).map (·.2)=ts.map (·.1):=List.map_snd_zip (by rw [List.length_map];omega)
 have e2:(as.zip (ts.map (·.1))).map (λ y=>V.ref y.1)=as.map V.ref:=by
  have h3:(as.zip (ts.map (·.1))).map (·.1)=as:=List.map_fst_zip (by rw [List.length_map];omega)
  conv=>rhs;rw [<-h3]
  rw [List.map_map]
  rfl
 have hin : ∀ y∈as.zip (ts.map (·.1)),H y.1=some (.tup (gc y.2)):=λ y hy=>by
  obtain ⟨i,hi⟩:=List.getElem?_of_mem hy
  rw [List.getElem?_zip_eq_some] at hi
  obtain ⟨i1,i2⟩:=hi
  rw [List.getElem?_map] at i2
  obtain ⟨e,he,e3⟩:=Option.map_eq_some_iff.mp i2
  have h4:=hat i y.1 (kE e.1) (.ref e.2.1) i1 (by unfold uR;rw [List.getElem?_map,he];rfl)
  rw [qh] at h4
  rw [<-e3]
  exact h4
 have h5:=(Led.PK hL hin).new (o := .lst (as.map V.ref)) hl
 rw [<-e2] at h5 ⊢
 exact h l _ _ e1 h5
section
variable {N M:Cells} {S S1:SS} {n q i:Nat} {a b:Th} {row r1 r2:List Int}
theorem Back.uniq (g:aR S n q M) (h1:Back S r1 a) (h2:Back S r2 a):r1=r2:=by
 cases a with
 | own m =>
   obtain ⟨x,hx⟩:=h1
   obtain ⟨y,hy⟩:=h2
   have e1:=oZ g.nd hx
   have e2:=oZ g.nd hy
   have e3:(m,x,r1)=(m,y,r2):=Option.some.inj (e1.symm.trans e2)
   cases e3
   rfl
 | file z p =>
   obtain ⟨x,hx,x1,j,r,xp,xr⟩:=h1
   obtain ⟨y,hy,y1,k,r',yp,yr⟩:=h2
   have e1:=findF g.fn hx
   have e2:=findF g.fn hy
   rw [x1] at e1
   rw [y1] at e2
   have e3:x=y:=Option.some.inj (e1.symm.trans e2)
   subst e3
   have:j=k:=by omega
   subst this
   rw [xr] at yr
   cases yr
   rfl
theorem Back.gone (h:Back S row b) (hne:b≠a):Back (My.gone S a) row b:=by
 cases a with
 | file z p=>exact h
 | own m =>
   cases b with
   | own k =>
     obtain ⟨x,hx⟩:=h
     exact ⟨x,List.mem_filter.mpr ⟨hx,decide_eq_true λ z=>hne (by show Th.own k = .own m;rw [show k=m from z])⟩⟩
   | file z p=>exact h
theorem Back.RN (h:Back (My.gone S a) row b):Back S row b:=by
 cases a with
 | file z p=>exact h
 | own m =>
   cases b with
   | own k=>obtain ⟨x,hx⟩:=h;exact ⟨x,(List.mem_filter.mp hx).1⟩
   | file z p=>exact h
theorem eE.gone (h:eE S b row) (hne:b≠a):eE (My.gone S a) b row:=by
 have eF:=(ek S a).2.1
 rcases h with ⟨j,t,r,h1,h2⟩ | ⟨h1,h2⟩
 ·exact .inl ⟨j,t,r,by rw [eF];exact h1,by rw [eF];exact h2⟩
 ·exact .inr ⟨λ ⟨j,t,hj⟩=>h1 ⟨j,t,by rw [<-eF];exact hj⟩,h2.gone hne⟩
theorem PO.back {S':SS} {t:Addr} (g:aR S n q M) (hi:S.F.hs[i]? = some (some (t,a))) (h:PO N S i S' a) (hb:Back S' row b):r8 S b ∨ ∃ r,Back S r b:=by
 cases a with
 | own m =>
   obtain ⟨r,Oz,b1,h1,rfl⟩:=h
   cases b with
   | own k =>
     obtain ⟨x,hx⟩:=hb
     rcases List.mem_append.mp hx with hx | hx
     ·exact .inr ⟨row,x,hx⟩
     ·have e:=List.mem_singleton.mp hx
      cases e
      exact .inl ⟨i,t,hi⟩
   | file z p=>exact .inr ⟨row,hb⟩
 | file z p =>
   obtain ⟨r,Oz,h1,h⟩:=h
   rcases h with ⟨h2,rfl⟩ | ⟨_,as,bs,e,j,nr,h3,h4,h5,h6,_,rfl⟩
   ·exact .inr ⟨row,by cases b <;> exact hb⟩
   ·cases b with
    | own k=>exact .inr ⟨row,hb⟩
    | file z2 p2 =>
      obtain ⟨e2,yu,z3,j2,r2,p3,hr2⟩:=hb
      rcases List.mem_append.mp yu with yu | yu
      ·exact .inr ⟨row,e2,by rw [h3];exact mB yu,z3,j2,r2,p3,hr2⟩
      ·rcases List.mem_cons.mp yu with rfl | yu
       ·have hl:j2 < e.2.2.length:=by
         have h7:=(List.getElem?_eq_some_iff.mp hr2).1
         have h8:j2 < (e.2.2.set j (nr,Oz)).length:=h7
         rw [List.length_set] at h8
         exact h8
        exact .inr ⟨e.2.2[j2].2,e,by rw [h3];exact mA mS,z3,j2,e.2.2[j2].1,p3,List.getElem?_eq_getElem hl⟩
       ·exact .inr ⟨row,e2,by rw [h3];exact mA (mC yu),z3,j2,r2,p3,hr2⟩
theorem iW.back (g:aR S n q M) (h:iW N S n i S1) (hb:Back S1 row b):r8 S b ∨ ∃ r,Back S r b:=by
 rcases h with ⟨_,_,rfl⟩ | ⟨_,bs',t,c,hgo,hi,h⟩
 ·exact .inr ⟨row,hb⟩
 ·obtain ⟨l1,_⟩:=qa _ _ _ hgo
  have n1:=g.n1
  exact PO.back (S := { S with p:=(i+1) % n,bs:=bs' }) (g.turned (Nat.mod_lt _ (by omega)) (l1.trans g.bl)) hi h hb
theorem iW.Vz (h:iW N S n i S1) (hb:r8 S1 b):r8 S b:=by
 obtain ⟨j,t,hj⟩:=hb
 rcases h with ⟨_,_,rfl⟩ | ⟨_,bs',u,c,hgo,hi,h⟩
 ·exact ⟨j,t,hj⟩
 ·rw [h.hs.1] at hj
  exact ⟨j,t,(r9 hj).2⟩
theorem Lies.gone {m:Int} (g:aR S n q M) (hnf : ¬ r8 S a):Lies (My.gone S a) m↔Lies S m/\(a ≠ .own m):=by
 cases a with
 | file z p=>exact ⟨λ h=>⟨h,λ e=>nomatch e⟩,λ h=>h.1⟩
 | own k =>
   constructor
   ·rintro (⟨j,t,hj⟩ | h)
    ·exact ⟨.inl ⟨j,t,hj⟩,λ e=>by cases e;exact hnf ⟨j,t,hj⟩⟩
    ·obtain ⟨e,he,rfl⟩:=List.mem_map.mp h
     obtain ⟨h1,h2⟩:=List.mem_filter.mp he
     exact ⟨.inr (List.mem_map.mpr ⟨e,h1,rfl⟩),λ z=>by cases z;exact (of_decide_eq_true h2) rfl⟩
   ·rintro ⟨⟨j,t,hj⟩ | h,hne⟩
    ·exact .inl ⟨j,t,hj⟩
    ·obtain ⟨e,he,rfl⟩:=List.mem_map.mp h
     exact .inr (List.mem_map.mpr ⟨e,List.mem_filter.mpr ⟨he,decide_eq_true λ z=>hne (by rw [z])⟩,rfl⟩)
end
end
section
variable {P:Program} {w:World} {K:PySem.W.Frag} {mg:Str->Option Value} {base:Heap} {cU cA cB cC cT cF cD cS cI:Addr}
section
variable {N M:Cells} {S S1:SS} {n q i:Nat} {a:Th} {row:List Int} {us uG:List V} {ts:Ts} {t r u d:Addr}
theorem Clean.gone (h:Clean S):Clean (My.gone S a):=by
 have eF:=(ek S a).2.1
 intro j t r z p row h1 h2 h3
 rw [eF] at h1 h2 h3
 have:=h j t r z p row h1 h2 h3
 cases a with
 | own m=>exact this
 | file z2 p2=>exact this
theorem Gx {x:Addr×Th} {j:Nat} {b:Th} {v:Addr} {l:List Hd} (h:(l.set i (some x))[j]? = some (some (v,b))):(j=i/\(v,b)=x)\/(i≠j/\l[j]? = some (some (v,b))):=by
 rw [List.getElem?_set] at h
 split at h
 ·split at h
  ·cases h
   exact .inl ⟨by omega,rfl⟩
  ·cases h
 ·exact .inr ⟨by assumption,h⟩
theorem Lr.CB (h:Lr n q S us ts M) (hnf : ¬ r8 S a) (hb:Back S row a) (PB:Gd a) (hH:iW N (My.gone S a) n i S1) (ht:(t,HO.tup (gc a))∈N++M) (hr:(r,HO.lst (row.map V.int))∈N++M) (hu:(u,HO.tup (gc a))∈N++M) (hs1:j5 S1 uG (N++M)):Lr n q { S1 with F:=S1.F.fill i (some (t,a)) (some (r,row)) false } (uG.set i (.ref u)) ts (N++M):=by
 obtain ⟨eb,eF,SA,VW,efs,ep,VZ⟩:=ek S a
 have g0:=h.g.gone hb
 have g1:=g0.had hH
 obtain ⟨h0,e1,e2,_,_⟩:=hH.at
 rw [SA] at e1
 rw [VW] at e2
 have hlt:i < S1.F.hs.length:=(List.getElem?_eq_some_iff.mp h0).1
 obtain ⟨UW,SD⟩:=hH.rows g0 h.cl.gone
 have unF : ∀ b,r8 (My.gone S a) b->r8 S b:=λ b ⟨j,v,hj⟩=>⟨j,v,by rw [<-eF];exact hj⟩
 have nf1 : ¬ r8 S1 a:=λ z=>hnf (unF a (hH.Vz z))
 have bk : ∀ z p,a = .file z p->Back S1 row a:=λ z p e=>by
  have h1:eE (My.gone S a) a row:=by
   rw [e] at hnf hb ⊢
   exact .inr ⟨hnf,hb⟩
  rcases SD a row h1 with ⟨j,v,w,h2,_⟩ | ⟨_,h2⟩
  ·exact absurd ⟨j,v,h2⟩ nf1
  ·exact h2
 have lg : ∀ m,Lies S1 m↔Lies S m/\a ≠ .own m:=λ m=>(hH.lies m).trans (Lies.gone h.g hnf)
 have ho : ∀ m,a = .own m->m ∉ S1.es.map (·.1):=λ m e z=>((lg m).mp (.inr z)).2 e
 have RI : ∀ m,Lies { S1 with F:=S1.F.fill i (some (t,a)) (some (r,row)) false } m↔Lies S m:=λ m=>by
  constructor
  ·rintro (⟨j,v,hj⟩ | hm)
   ·rcases Gx (l:=S1.F.hs) hj with ⟨_,e⟩ | ⟨_,hj⟩
    ·cases e
     exact .inr hb.key
    ·exact ((lg m).mp (.inl ⟨j,v,hj⟩)).1
   ·exact ((lg m).mp (.inr hm)).1
  ·intro hm
   by_cases e:a = .own m
   ·refine .inl ⟨i,t,?_⟩
    show (S1.F.hs.set i _)[i]? = _
    rw [List.getElem?_set,if_pos rfl,if_pos hlt,e]
   ·rcases (lg m).mpr ⟨hm,e⟩ with ⟨j,v,hj⟩ | hm
    ·have hij:i≠j:=λ z=>by rw [<-z,h0] at hj;cases hj
     exact .inl ⟨j,v,(eo hij).mpr hj⟩
    ·exact .inr hm
 obtain ⟨rf1,rf2⟩:=eE.fill (t:=t) (r:=r) (a:=a) (row:=row) (k:=S1.made) (hs':=S1.hs) g1 h0
 refine { g:=g1.Ov ht PB hr (hb.len h.g) (λ j v hj=>nf1 ⟨j,v,hj⟩) ho (λ z p e => ?_),gh:=⟨by show (S1.hs.map (·.1)).Nodup;rw [e1];exact h.gh.nd,λ e he => ?_,λ e he => ?_,λ m => ?_,by show S1.hs.length<=_;rw [e1];exact h.gh.most,by show 0<=S1.made;rw [e2];exact h.gh.m0⟩,s:=j5.UR (S:=S1) rfl hu hs1,cl:=Clean.fill (k:=S1.made) (hs':=S1.hs) g1 UW h0 bk,nd:=h.nd,rw:=λ e he => ?_,xU:=λ b Tq => ?_,hm:=by show (S1.hs.length:Int)=S1.made;rw [e1,e2];exact h.hm,cnt:=by show _=S1.made;rw [e2];exact h.cnt }
 ·have h5:=bk z p e
  rw [e] at h5
  obtain ⟨x,hx,x1,j,w,xp,xr⟩:=h5
  exact ⟨x,hx,j,x1,xp,(List.getElem?_eq_some_iff.mp xr).1⟩
 ·have he':e∈S1.hs:=he
  rw [e1] at he'
  show 1<=e.1/\e.1<=S1.made
  rw [e2]
  exact h.gh.le e he'
 ·have he':e∈S1.hs:=he
  rw [e1] at he'
  exact h.gh.c1 e he'
 ·rw [RI m,<-h.gh.RI m]
  show m∈S1.hs.map (·.1)↔_
  rw [e1]
 ·obtain ⟨c1,c2,c3⟩:=h.rw e he
  refine ⟨mA c1,?_,c3⟩
  by_cases ea:e.1=a
  ·rw [ea] at c2 ⊢
   rcases c2 with ⟨j,v,w,h2,_⟩ | ⟨_,h2⟩
   ·exact absurd ⟨j,v,h2⟩ hnf
   ·rw [Back.uniq h.g h2 hb]
    exact rf2
  ·exact rf1 _ _ ea (SD _ _ (c2.gone ea))
 ·rcases Tq with ⟨j,v,hj⟩ | ⟨fH,hb'⟩
  ·rcases Gx (l:=S1.F.hs) hj with ⟨_,e⟩ | ⟨_,hj⟩
   ·cases e
    exact h.xU _ (.inr ⟨row,hb⟩)
   ·exact h.xU b (.inl (unF b (hH.Vz ⟨j,v,hj⟩)))
  ·have hb1:Back S1 fH b:=by cases b <;> exact hb'
   rcases hH.back g0 hb1 with h6 | ⟨r6,h6⟩
   ·exact h.xU b (.inl (unF b h6))
   ·exact h.xU b (.inr ⟨r6,h6.RN⟩)
theorem Lr.fresh (h:Lr n q S us ts M):Th.own (S.made+1) ∉ ts.map (·.1):=λ z=>by
 obtain ⟨e,he,ea⟩:=List.mem_map.mp z
 have ea':e.1 = .own (S.made+1):=ea
 obtain ⟨_,c2,_⟩:=h.rw e he
 rw [ea'] at c2
 refine h.gh.fresh ?_
 rcases c2 with ⟨j,v,w,h2,_⟩ | ⟨_,h2⟩
 ·exact .inl ⟨j,v,h2⟩
 ·exact .inr h2.key
theorem Lr.Mb (h:Lr n q S us ts M) (hroom:(n:Int) - 1+(q:Int) - (S.hs.length:Int)≠0) (h4:row.length=4) (hH:iW N S n i S1) (ht:(t,HO.tup (gc (.own (S.made+1))))∈N++M) (hr:(r,HO.lst (row.map V.int))∈N++M) (hu:(u,HO.tup (gc (.own (S.made+1))))∈N++M) (hd:(d,HO.lst (row.map V.int))∈N++M) (hs1:j5 S1 uG (N++M)):Lr n q { S1 with made:=S.made+1,hs:=S.hs++[(S.made+1,1)],F:=S1.F.fill i (some (t,.own (S.made+1))) (some (r,row)) false } (uG.set i (.ref u)) (ts++[(.own (S.made+1),d,row)]) (N++M):=by
 have g1:=h.g.had hH
 obtain ⟨h0,e1,e2,_,_⟩:=hH.at
 obtain ⟨UW,SD⟩:=hH.rows h.g h.cl
 have nl : ¬ Lies S1 (S.made+1):=λ z=>h.gh.fresh ((hH.lies _).mp z)
 obtain ⟨rf1,rf2⟩:=eE.fill (t:=t) (r:=r) (a := .own (S.made+1)) (row:=row) (k:=S.made+1) (hs':=S.hs++[(S.made+1,1)]) g1 h0
 refine { g:=g1.filled ht hr h4 nl,gh:=h.gh.Mb hH h.g hroom,s:=j5.UR (S:=S1) rfl hu hs1,cl:=Clean.fill g1 UW h0 (λ z p e=>nomatch e),nd := ?_,rw:=λ e he => ?_,xU:=λ b Tq => ?_,hm := ?_,cnt := ?_ }
 ·rw [List.map_append]
  refine List.nodup_append.mpr ⟨h.nd,by simp,λ x hx y hy e => ?_⟩
  have hy':y = .own (S.made+1):=by simpa using hy
  exact h.fresh (hy' ▸ e ▸ hx)
 ·rcases List.mem_append.mp he with he | he
  ·obtain ⟨c1,c2,c3⟩:=h.rw e he
   exact ⟨mA c1,rf1 _ _ (λ z=>h.fresh (z ▸ List.mem_map.mpr ⟨e,he,rfl⟩)) (SD _ _ c2),c3⟩
  ·rw [List.mem_singleton.mp he]
   exact ⟨hd,rf2,True.intro⟩
 ·rw [List.map_append,List.mem_append]
  rcases Tq with ⟨j,v,hj⟩ | ⟨fH,hb'⟩
  ·rcases Gx (l:=S1.F.hs) hj with ⟨_,e⟩ | ⟨_,hj⟩
   ·cases e
    exact .inr mS
   ·exact .inl (h.xU b (.inl (hH.Vz ⟨j,v,hj⟩)))
  ·have hb1:Back S1 fH b:=by cases b <;> exact hb'
   exact .inl (h.xU b (hH.back h.g hb1))
 ·show ((S.hs++[(S.made+1,1)]).length:Int)=S.made+1
  have:=h.hm
  rw [List.length_append]
  show ((S.hs.length+1:Nat):Int)=_
  omega
 ·show (((ts++[(Th.own (S.made+1),d,row)]).filter λ e => !aX e.1).length:Int)=S.made+1
  have:=h.cnt
  rw [List.filter_append,List.length_append]
  show (((ts.filter λ e => !aX e.1).length+1:Nat):Int)=_
  omega
end
end
section
variable {P:Program} {w:World} {K:PySem.W.Frag} {mg:Str->Option Value} {base:Heap} {cU cA cB cC cT cF cD cS cI:Addr}
theorem St.nA {H:Hp} {S:SS} {M M':Cells} (h:Led H (bq cT cF cD cS cI S M)) (p:M.Perm M'):Led H (bq cT cF cD cS cI S M'):=Led.perm h (List.Perm.append_left _ (List.Perm.append_left _ (List.Perm.append_left _ (List.Perm.append_left _ (List.Perm.append_left _ p)))))
theorem A1 {hs:List Hd} (h : ∃ i:Nat,hs[i]? = some none) : ∃ i:Nat,hs[i]? = some none ∧ ∀ (j:Nat) z,j < i->hs[j]? = some z->z≠none:=by
 obtain ⟨i0,hi0⟩:=h
 have hex : ∃ y∈hs,y.isNone=true:=⟨none,List.mem_of_getElem? hi0,rfl⟩
 have hlt:=List.findIdx_lt_length_of_exists hex
 have Ji:(hs[hs.findIdx λ y=>y.isNone]'hlt).isNone=true:=List.findIdx_getElem (w:=hlt)
 refine ⟨hs.findIdx λ y=>y.isNone,?_,λ j z hj hz e => ?_⟩
 ·rw [List.getElem?_eq_getElem hlt]
  cases e:hs[hs.findIdx λ y=>y.isNone]'hlt with
  | none=>rfl
  | some x=>rw [e] at Ji;cases Ji
 ·have h:=List.not_of_lt_findIdx hj
  have hlm:j < hs.length:=(List.getElem?_eq_some_iff.mp hz).1
  have e2:hs[j]=z:=(List.getElem?_eq_some_iff.mp hz).2
  rw [e2,e] at h
  cases h
def jx:V->Bool
 | .aH=>true
 | _=>false
theorem UX {ps:List V} (pe : ∀ v∈ps,v = .aH ∨ ∃ m:Int,v = .int m) (z:Int):((ps.filter λ v => !jx v).length:Int)=0 ∨ ∃ m:Int,V.int m∈ps/\iw (ps.filter λ v => !jx v) (z % ((ps.filter λ v => !jx v).length:Int))=some (.int m):=by
 by_cases h0:(ps.filter λ v => !jx v).length=0
 ·exact .inl (by omega)
 ·have e0:=Int.emod_nonneg z (show ((ps.filter λ v => !jx v).length:Int)≠0 by omega)
  have e1:=Int.emod_lt_of_pos z (show (0:Int) < (ps.filter λ v => !jx v).length by omega)
  have hj:(z % ((ps.filter λ v => !jx v).length:Int)).toNat < (ps.filter λ v => !jx v).length:=by omega
  obtain ⟨h1,h2⟩:=List.mem_filter.mp (List.getElem_mem hj)
  rcases pe _ h1 with h3 | ⟨m,h3⟩
  ·rw [h3] at h2;cases h2
  ·exact .inr ⟨m,by rw [<-h3];exact h1,cX e0 (by rw [List.getElem?_eq_getElem hj,h3])⟩
def mX (S:SS) (a:Th):Bool:=S.F.hs.any λ x=>decide (lV x=some a)
theorem Ea {S:SS} {a:Th} : mX S a=true↔eB (some a)∈S.F.hs.map λ x=>eB (lV x):=by
 unfold mX
 rw [List.any_eq_true,List.mem_map]
 constructor
 ·rintro ⟨x,hx,e⟩
  exact ⟨x,hx,by rw [of_decide_eq_true e]⟩
 ·rintro ⟨x,hx,e⟩
  exact ⟨x,hx,decide_eq_true (gg.mp e)⟩
theorem UY {S:SS} {ys:List (Addr×Th)} (z:Int):(((ys.filter λ y=>aX y.2 && !mX S y.2).map λ y=>V.ref y.1).length:Int)=0 ∨ ∃ y∈ys,aX y.2=true/\mX S y.2=false/\iw ((ys.filter λ y=>aX y.2 && !mX S y.2).map λ y=>V.ref y.1) (z % (((ys.filter λ y=>aX y.2 && !mX S y.2).map λ y=>V.ref y.1).length:Int))=some (.ref y.1):=by
 rw [List.length_map]
 by_cases h0:(ys.filter λ y=>aX y.2 && !mX S y.2).length=0
 ·exact .inl (by omega)
 ·have e0:=Int.emod_nonneg z (show ((ys.filter λ y=>aX y.2 && !mX S y.2).length:Int)≠0 by omega)
  have e1:=Int.emod_lt_of_pos z (show (0:Int) < (ys.filter λ y=>aX y.2 && !mX S y.2).length by omega)
  have hj:(z % ((ys.filter λ y=>aX y.2 && !mX S y.2).length:Int)).toNat < (ys.filter λ y=>aX y.2 && !mX S y.2).length:=by omega
  obtain ⟨h1,h2⟩:=List.mem_filter.mp (List.getElem_mem hj)
  obtain ⟨h3,h4⟩:=Bool.and_eq_true_iff.mp h2
  refine .inr ⟨_,h1,h3,by simpa using h4,cX e0 (by rw [List.getElem?_map,List.getElem?_eq_getElem hj];rfl)⟩
def CC (cT cF cD cS cI:Addr):Sp:=λ vs H Q _ => ∃ (S:SS) (n q:Nat) (c:Int) (sp mk sf rd:Addr) (us:List V) (ts:Ts) (M:Cells),vs = [.ref S.b,.ref sp,.ref sf,.ref rd,.int c]/\Led H (bq cT cF cD cS cI S (dM sp mk sf rd us S ts++M))/\Lr n q S us ts M/\q<=128/\ts.length<=1000/\0<=c/\c<=1000000 ∧
 ∀ (S':SS) (us':List V) (ts':Ts) (N:Cells) (H':Hp),S'.b=S.b->S'.p=S.p->ts'.length<=ts.length+1->Lr n q S' us' ts' (N++M)->Led H' (bq cT cF cD cS cI S' (dM sp mk sf rd us' S' ts'++(N++M)))->Q (.bl true) H'
theorem Ms (D:Def K mg "_law_fill" ji) (B:iY mg) (T:Txt K mg cU cA cB cC cT cF cD cS cI) (uT:cZ P w K mg base 7 "bring" ["store","thing"] (Cv cT cF cD cS cI)) (Eb:cZ P w K mg base 7 "new_sheet" ["store","row"] (PD cT cF cD cS cI cU)) (oG:cZ P w K mg base 2 "_law_row" ["_law_cell"] LX) (aM:cZ P w K mg base 4 "_law_alike" ["_law_found","_law_due"] (jN 2)):cZ P w K mg base 8 "_law_fill" ["_law_store","_law_spots","_law_shelf","_law_rows","_law_cell"] (CC cT cF cD cS cI):=by
 have sc:=AK
 refine D.ok AK (λ vs H Q E h => ?_) (λ _ _ _ _ _ _ us hl=>match us,hl with | [_,_,_,_,_],_=>rfl) (λ f cdv A outer s H vs Q E hr h => ?_)
 ·obtain ⟨_,_,_,_,_,_,_,_,_,_,_,rfl,_⟩:=h;rfl
 ·obtain ⟨S,n,q,c,sp,mk,sf,rd,us,ts,M,rfl,hL,lr,RO,hts,c0,c9,k⟩:=h
  have hu:=gz hr
  have hsz:=sizeLine_eq
  have n1:=lr.g.n1
  have n64:=lr.g.n64
  have ul:us.length=n:=lr.s.l.trans lr.g.f.h
  have eW:=hL.get (St.up mS)
  have d1:eg H .aH (PySem.W.kqdP (eB none)):=by show eg H .aH (PySem.W.kqdP .none);rw [PySem.W.kqdP];exact .aH
  have d2:=lr.s.dat hL (λ x hx=>St.up (mA hx))
  have o1:PySem.W.kqdOk 8 (eB none)=true:=rfl
  have o2:=lr.g.RJ
  have Mt:eB none∈(S.F.hs.map λ x=>eB (lV x)) ↔ ∃ i:Nat,S.F.hs[i]? = some none:=by
   constructor
   ·intro h
    obtain ⟨z,hz,w⟩:=List.mem_map.mp h
    obtain ⟨i,hi⟩:=List.getElem?_of_mem hz
    have w2:=gg.mp w
    cases z with
    | none=>exact ⟨i,hi⟩
    | some z=>cases w2
   ·rintro ⟨i,hi⟩
    exact List.mem_map.mpr ⟨none,List.mem_of_getElem? hi,rfl⟩
  refine ⟨_,(@ah _ _ _ _ _ (@aU _ _ _ _ _ _ _ _ (@aI _ _ _ _ _ _ _ _ (qA hr.units) (@bF _ _ _) (@ao _ 1 _ _ (by walk_at "v")) (by with_unfolding_all rfl)) (@ak _ _ _ (@aD _ _ _ _ (@bB _ _ _ _))) (@aE _)) (@ah _ _ _ _ _ (@aL _ _ 5 _ _ _ _ sc.nd rfl (by walk_at "o2") (@oS _ _ _ _ _ _ _ _ _ _ _ _ PySem.F.plainAttrs_list PySem.F.slot_list_index PySem.F.type_list_index (mh hr.units) (@ao _ 1 _ _ (by walk_at "v")) (@aa _ _ _ _ _ (@bF _ _ _) (@ai _) (by rfl)) (by rfl) (by rfl) (by rfl) (by rfl) (by rfl)) (by rfl) (by walk_at "o4")) (@ah _ _ _ _ _ (@gT _ _ "_law_sheet" _ _ _ _ _ _ _ _ _ _ 6 _ _ rfl rfl rfl rfl Pg (dh (by kernel_rfl)) (@iz _ _ _ _ (@ao _ 2 _ _ (by walk_at "v"))) (λ _ _ _ _=>(@uM _ _ _ (@aI _ _ _ _ _ _ _ _ oO (@pk _ 0 _ _ (by kernel_rfl) (by kernel_rfl) (by decide) (by decide)) (@bF _ _ _) (aO _)))) (λ _ _ _ _=>(@pk _ 0 _ _ (by kernel_rfl) (by kernel_rfl) (by decide) (by decide))) sc.nd rfl (by walk_at "o2") (by intro _;rfl) (by rfl) (by walk_at "o4")) (@ah _ _ _ _ _ (@gT _ _ "_law_thing" _ _ _ _ _ _ _ _ _ _ 7 _ _ rfl rfl rfl rfl Pg (dh (by kernel_rfl)) (@iz _ _ _ _ (@br _ _ _ _ _ _ _ _ _ (kW rfl) (by rfl) B.list bZ (@aa _ _ _ _ _ (@ao _ 3 _ _ (by walk_at "v")) (@ai _) (by rfl)) (by decide) (by decide) (by rfl) (by rfl))) (λ _ _ _ _=>(@uM _ _ _ (@PW.pt _ _ _ (@pw_and _ _ _ _ _ _ _ (@aI _ _ _ _ _ _ _ _ cz (@aY _ _ _ _ _ _ _ aQ (@pk _ 0 _ _ (by kernel_rfl) (by kernel_rfl) (by decide) (by decide)) (@aj _ _ _ _) (λ _ _=>rfl)) (@cW _ _ _ _) (aO _)) (@pw_and1 _ _ _ _ (@aI _ _ _ _ _ _ _ _ (qA hr.units) (@pk _ 0 _ _ (by kernel_rfl) (by kernel_rfl) (by decide) (by decide)) (@pk _ 2 _ _ (by kernel_rfl) (by kernel_rfl) (by decide) (by decide)) (by with_unfolding_all rfl))))))) (λ _ _ _ _=>(@pk _ 0 _ _ (by kernel_rfl) (by kernel_rfl) (by decide) (by decide))) sc.nd rfl (by walk_at "o2") (by intro _;rfl) (by rfl) (by walk_at "o4")) (@ah _ _ _ _ _ (@aL _ _ 8 _ _ _ _ sc.nd rfl (by walk_at "o2") (@aK _ _ _ _ _ _ _ _ _ aS (by rfl) B.len bR (@aa _ _ _ _ _ (@oU _ _ "_law_thing" _ _ _ _ _ _ _ _ _ rfl rfl rfl rfl Pg (dh (by kernel_rfl)) (@iz _ _ _ _ (@br _ _ _ _ _ _ _ _ _ (kW rfl) (by rfl) B.list bZ (@aa _ _ _ _ _ (@ao _ 3 _ _ (by walk_at "v")) (@ai _) (by rfl)) (by decide) (by decide) (by rfl) (by rfl))) (λ _ _ _ _=>(@uM _ _ _ (@aI _ _ _ _ _ _ _ _ cz (@aY _ _ _ _ _ _ _ aQ (@pk _ 0 _ _ (by kernel_rfl) (by kernel_rfl) (by decide) (by decide)) (@aj _ _ _ _) (λ _ _=>rfl)) (@cW _ _ _ _) (aO _)))) (λ _ _ _ _=>(@pk _ 0 _ _ (by kernel_rfl) (by kernel_rfl) (by decide) (by decide))) (by intro _;rfl)) (@ai _) (by rfl)) (by decide) (by decide) (by rfl) (by rfl)) (by rfl) (by walk_at "o4")) (@ah _ _ _ _ _ (@aU _ _ _ _ _ _ _ _ (@PW.pt _ _ _ (@pw_and _ _ _ _ _ _ _ (@aI _ _ _ _ _ _ _ _ cz (@aq _ _ _ _ _ _ _ _ aG (@ao _ 4 _ _ (by walk_at "v")) (@aj _ _ _ _)) (@aj _ _ _ _) (aO _)) (@pw_and1 _ _ _ _ (@aI _ _ _ _ _ _ _ _ CV (@aK _ _ _ _ _ _ _ _ _ aS (by rfl) B.len bR (@aa _ _ _ _ _ (@ao _ 6 _ _ (by walk_at "v")) (@ai _) (by rfl)) (by decide) (by decide) (by rfl) (by rfl)) (@aj _ _ _ _) (aO _))))) (@ah _ _ _ _ _ (@aL _ _ 9 _ _ _ _ sc.nd rfl (by walk_at "o2") (@eN _ _ _ _ _ (@aa _ _ _ _ _ (@cW _ _ _ _) (@aa _ _ _ _ _ (@aY _ _ _ _ _ _ _ aQ (@ao _ 6 _ _ (by walk_at "v")) (@aq _ _ _ _ _ _ _ _ aG (@aq _ _ _ _ _ _ _ _ bE (@ao _ 4 _ _ (by walk_at "v")) (@aj _ _ _ _)) (@aK _ _ _ _ _ _ _ _ _ aS (by rfl) B.len bR (@aa _ _ _ _ _ (@ao _ 6 _ _ (by walk_at "v")) (@ai _) (by rfl)) (by decide) (by decide) (by rfl) (by rfl))) (λ _ _=>rfl)) (@ai _) (by rfl)) (by rfl))) (by rfl) (by walk_at "o4")) (@ah _ _ _ _ _ (@bC _ _ _ _ _ _ (@bF _ _ _) (@bG _ _ _ _ _ _ _ (@ao _ 2 _ _ (by walk_at "v")) (@oS _ _ _ _ _ _ _ _ _ _ _ _ PySem.F.plainAttrs_list PySem.F.slot_list_index PySem.F.type_list_index kU (@ao _ 2 _ _ (by walk_at "v")) (@aa _ _ _ _ _ (@aY _ _ _ _ _ _ _ aQ (@ao _ 9 _ _ (by walk_at "v")) (@aj _ _ _ _) (λ _ _=>rfl)) (@ai _) (by rfl)) (by rfl) (by rfl) (by rfl) (by rfl) (by rfl)) set_list (by intro _;rfl)) (by rfl) (by rfl) (by rfl)) (@ah _ _ _ _ _ (@bC _ _ _ _ _ _ (@ao _ 9 _ _ (by walk_at "v")) (@bG _ _ _ _ _ _ _ (@ao _ 1 _ _ (by walk_at "v")) (@ao _ 5 _ _ (by walk_at "v")) set_list (by intro _;rfl)) (by rfl) (by rfl) (by rfl)) (@ak _ _ _ (@aD _ _ _ _ (@aB _ _ _ _ _ _ _ _ _ _ _ aM (hr.mono (by omega)) (by rfl) az (@aa _ _ _ _ _ (@aB _ _ _ _ _ _ _ _ _ _ _ uT (hr.mono (by omega)) (by rfl) az (@aa _ _ _ _ _ (@ao _ 0 _ _ (by walk_at "v")) (@aa _ _ _ _ _ (@ao _ 9 _ _ (by walk_at "v")) (@ai _) (by rfl)) (by rfl)) (by decide) (by rfl) (by rfl)) (@aa _ _ _ _ _ (@eN _ _ _ _ _ (@aa _ _ _ _ _ (@ao _ 5 _ _ (by walk_at "v")) (@aa _ _ _ _ _ (@bB _ _ _ _) (@ai _) (by rfl)) (by rfl))) (@ai _) (by rfl)) (by rfl)) (by decide) (by rfl) (by rfl))))))) (@aE _)) (@ah _ _ _ _ _ (@aU _ _ _ _ _ _ _ _ (@PW.pt _ _ _ (@pw_and _ _ _ _ _ _ _ (@aI _ _ _ _ _ _ _ _ cz (@aq _ _ _ _ _ _ _ _ aG (@ao _ 4 _ _ (by walk_at "v")) (@aj _ _ _ _)) (@aj _ _ _ _) (aO _)) (@pw_and1 _ _ _ _ (@aI _ _ _ _ _ _ _ _ CV (@aK _ _ _ _ _ _ _ _ _ aS (by rfl) B.len bR (@aa _ _ _ _ _ (@ao _ 7 _ _ (by walk_at "v")) (@ai _) (by rfl)) (by decide) (by decide) (by rfl) (by rfl)) (@aj _ _ _ _) (aO _))))) (@ah _ _ _ _ _ (@aL _ _ 9 _ _ _ _ sc.nd rfl (by walk_at "o2") (@aY _ _ _ _ _ _ _ aQ (@ao _ 7 _ _ (by walk_at "v")) (@aq _ _ _ _ _ _ _ _ aG (@aq _ _ _ _ _ _ _ _ bE (@ao _ 4 _ _ (by walk_at "v")) (@aj _ _ _ _)) (@aK _ _ _ _ _ _ _ _ _ aS (by rfl) B.len bR (@aa _ _ _ _ _ (@ao _ 7 _ _ (by walk_at "v")) (@ai _) (by rfl)) (by decide) (by decide) (by rfl) (by rfl))) (λ _ _=>rfl)) (by rfl) (by walk_at "o4")) (@ah _ _ _ _ _ (@bC _ _ _ _ _ _ (@ao _ 9 _ _ (by walk_at "v")) (@bG _ _ _ _ _ _ _ (@ao _ 1 _ _ (by walk_at "v")) (@ao _ 5 _ _ (by walk_at "v")) set_list (by intro _;rfl)) (by rfl) (by rfl) (by rfl)) (@ak _ _ _ (@aD _ _ _ _ (@aB _ _ _ _ _ _ _ _ _ _ _ aM (hr.mono (by omega)) (by rfl) az (@aa _ _ _ _ _ (@aB _ _ _ _ _ _ _ _ _ _ _ uT (hr.mono (by omega)) (by rfl) az (@aa _ _ _ _ _ (@ao _ 0 _ _ (by walk_at "v")) (@aa _ _ _ _ _ (@ao _ 9 _ _ (by walk_at "v")) (@ai _) (by rfl)) (by rfl)) (by decide) (by rfl) (by rfl)) (@aa _ _ _ _ _ (@eN _ _ _ _ _ (@aa _ _ _ _ _ (@ao _ 5 _ _ (by walk_at "v")) (@aa _ _ _ _ _ (@bB _ _ _ _) (@ai _) (by rfl)) (by rfl))) (@ai _) (by rfl)) (by rfl)) (by decide) (by rfl) (by rfl)))))) (@aE _)) (@ah _ _ _ _ _ (@aU _ _ _ _ _ _ _ _ (@PW.pt _ _ _ (@pw_and _ _ _ _ _ _ _ (@aI _ _ _ _ _ _ _ _ CV (@aq _ _ _ _ _ _ _ _ aG (@ao _ 4 _ _ (by walk_at "v")) (@aj _ _ _ _)) (@aj _ _ _ _) (aO _)) (@pw_and1 _ _ _ _ (@aI _ _ _ _ _ _ _ _ CV (@aq _ _ _ _ _ _ _ _ jB (@aq _ _ _ _ _ _ _ _ aV (@aq _ _ _ _ _ _ _ _ jB (@aK _ _ _ _ _ _ _ _ _ aS (by rfl) B.len bR (@aa _ _ _ _ _ (@ao _ 1 _ _ (by walk_at "v")) (@ai _) (by rfl)) (by decide) (by decide) (by rfl) (by rfl)) (@aj _ _ _ _)) (@aK _ _ _ _ _ _ _ _ _ aS (by rfl) B.len bR (@aa _ _ _ _ _ (@ao _ 2 _ _ (by walk_at "v")) (@ai _) (by rfl)) (by decide) (by decide) (by rfl) (by rfl))) (@ao _ 8 _ _ (by walk_at "v"))) (@aj _ _ _ _) (aO _))))) (@ah _ _ _ _ _ (@aL _ _ 9 _ _ _ _ sc.nd rfl (by walk_at "o2") (@eN _ _ _ _ _ (@aa _ _ _ _ _ (@cW _ _ _ _) (@aa _ _ _ _ _ (@aq _ _ _ _ _ _ _ _ aV (@aj _ _ _ _) (@ao _ 8 _ _ (by walk_at "v"))) (@ai _) (by rfl)) (by rfl))) (by rfl) (by walk_at "o4")) (@ah _ _ _ _ _ (@l6 _ _ _ _ _ _ _ _ _ hu (@ao _ 3 _ _ (by walk_at "v")) (@ao _ 9 _ _ (by walk_at "v")) (@aB _ _ _ _ _ _ _ _ _ _ _ oG (hr.mono (by omega)) (by rfl) az (@aa _ _ _ _ _ (@ao _ 4 _ _ (by walk_at "v")) (@ai _) (by rfl)) (by decide) (by rfl) (by rfl)) rfl) (@ah _ _ _ _ _ (@bC _ _ _ _ _ _ (@ao _ 9 _ _ (by walk_at "v")) (@bG _ _ _ _ _ _ _ (@ao _ 1 _ _ (by walk_at "v")) (@ao _ 5 _ _ (by walk_at "v")) set_list (by intro _;rfl)) (by rfl) (by rfl) (by rfl)) (@ak _ _ _ (@aD _ _ _ _ (@aB _ _ _ _ _ _ _ _ _ _ _ aM (hr.mono (by omega)) (by rfl) az (@aa _ _ _ _ _ (@aB _ _ _ _ _ _ _ _ _ _ _ Eb (hr.mono (by omega)) (by rfl) az (@aa _ _ _ _ _ (@ao _ 0 _ _ (by walk_at "v")) (@aa _ _ _ _ _ (@br _ _ _ _ _ _ _ _ _ (aT (K:=K) rfl) (by rfl) B.list bZ (@aa _ _ _ _ _ (@gA _ _ _ _ _ _ hu (@ao _ 3 _ _ (by walk_at "v")) (@ao _ 9 _ _ (by walk_at "v")) (λ _ _=>rfl)) (@ai _) (by rfl)) (by decide) (by decide) (by rfl) (by rfl)) (@ai _) (by rfl)) (by rfl)) (by decide) (by rfl) (by rfl)) (@aa _ _ _ _ _ (@eN _ _ _ _ _ (@aa _ _ _ _ _ (@aq _ _ _ _ _ _ _ _ aV (@aj _ _ _ _) (@ao _ 8 _ _ (by walk_at "v"))) (@aa _ _ _ _ _ (@ao _ 5 _ _ (by walk_at "v")) (@ai _) (by rfl)) (by rfl))) (@ai _) (by rfl)) (by rfl)) (by decide) (by rfl) (by rfl))))))) (@aE _)) (@ak _ _ _ (@aD _ _ _ _ (@bB _ _ _ _))))))))))),?_⟩
  refine aF λ M1 K1 => ?_
  walk_at "ge"
  by_cases hf : ∃ i:Nat,S.F.hs[i]? = some none
  ·refine ES (neg:=true) (b:=true) eW d1 d2 o1 o2 (iff_of_true rfl (Mt.mpr hf)) ?_
   obtain ⟨i,h1,h2⟩:=A1 hf
   have hin:i < n:=by rw [<-lr.g.f.h];exact (List.getElem?_eq_some_iff.mp h1).1
   walk_at "ge"
   refine K1.use ?_
   walk_at "cl"
   clear K1
   refine aF λ M1 K1 => ?_
   walk_at "ge"
   refine ⟨Bw eW,?_⟩
   walk_at "ge"
   refine GW eW d1 d2 o1 o2 (j:=i) (by rw [List.getElem?_map,h1];rfl) (λ m e hm he => ?_) ?_
   ·rw [List.getElem?_map] at he
    obtain ⟨z,hz,rfl⟩:=Option.map_eq_some_iff.mp he
    refine λ w=>h2 m z hm hz ?_
    cases z with
    | none=>rfl
    | some z=>exact nomatch (gg.mp w)
   walk_at "ge"
   refine K1.use ?_
   walk_at "cl"
   clear K1 d1 d2 eW
   refine aF λ M1 K1 => ?_
   have iZ:=hL.get (St.up (mC (mC mS)))
   walk_at "ge"
   refine AG λ Lc mV => ?_
   walk_at "ge"
   refine ⟨sf,rfl,⟨_,eY.of iZ⟩,mV.use ?_⟩
   clear mV
   have hml:S.ps.map id=S.ps:=List.map_id _
   have hpl:=lr.g.pl
   have hq6:=lr.g.q6
   refine qy S.ps id (λ v => !jx v) hL (by rw [hml];exact St.up (mC (mC mS))) (by omega) (λ v H2 R x hv hl2 hR => ?_) (λ v H2 R x hv hl2 hR => ?_) (λ ly H2 hl2 => ?_)
   ·dsimp only [id]
    rcases lr.g.pe v hv with rfl | ⟨m,rfl⟩
    ·walk_at "ge"
     exact hR _ hl2
    ·walk_at "ge"
     exact hR _ hl2
   ·dsimp only [id]
    walk_at "ge"
    exact hR _ hl2
   ·rw [List.map_id] at hl2
    clear iZ
    walk_at "ge"
    refine K1.use ?_
    walk_at "cl"
    clear K1
    refine aF λ M1 K1 => ?_
    have nv:=hl2.get (mC (St.up (mC (mC (mC mS)))))
    walk_at "ge"
    refine AG λ Lc mV => ?_
    walk_at "ge"
    refine sr nv hl2 λ l ys H3 ey hl3 => ?_
    refine ⟨l,rfl,⟨_,eY.of (hl3.get mS)⟩,mV.use ?_⟩
    clear mV nv
    have hyl:ys.length=ts.length:=by have:=congrArg List.length ey;simpa using this
    have okY : ∀ y∈ys,Gd y.2:=λ y hy=>by
     have:y.2∈ts.map (·.1):=by rw [<-ey];exact List.mem_map.mpr ⟨y,hy,rfl⟩
     obtain ⟨e,he,e2⟩:=List.mem_map.mp this
     have e2':e.1=y.2:=e2
     rw [<-e2']
     exact (lr.rw e he).2.2
    have TL:Led H3 ((l,HO.lst (ys.map λ y=>V.ref y.1))::(OF ys++((ly,HO.lst (S.ps.filter λ v => !jx v))::bq cT cF cD cS cI S (dM sp mk sf rd us S ts++M)))):=hl3
    have V2 : ∀ {x:Addr×HO},x∈dM sp mk sf rd us S ts++M->x∈(l,HO.lst (ys.map λ y=>V.ref y.1))::(OF ys++((ly,HO.lst (S.ps.filter λ v => !jx v))::bq cT cF cD cS cI S (dM sp mk sf rd us S ts++M))):=λ hx=>mC (mA (mC (St.up hx)))
    refine qy ys (λ y=>V.ref y.1) (λ y=>aX y.2 && !mX S y.2) TL List.mem_cons_self (by omega) (λ y H4 R x hy bM hR => ?_) (λ y H4 R x hy bM hR => ?_) (λ wa H4 bM => ?_)
    ·have MV:=bM.get (mC (mC (mB (List.mem_map.mpr ⟨y,hy,rfl⟩))))
     have eW:=bM.get (mC (V2 mS))
     have d1:eg H4 (.ref y.1) (PySem.W.kqdP (eB (some y.2))):=xE MV
     have d2:=lr.s.dat bM (λ x hx=>mC (V2 (mA hx)))
     have o1:=(okY y hy).dat
     obtain ⟨ya,yt⟩:=y
     cases yt with
     | own m =>
       have RP:H4 ya=some (.tup [.str (Str.ofString "own"),.int m]):=MV
       have hne : ¬ Str.ofString "own" = Str.ofString "file" := by decide +kernel
       clear MV
       dsimp only
       walk_at "ge"
       ·exact absurd (by assumption) hne
       ·exact hR _ bM
     | file z p =>
       have RP:H4 ya=some (.tup [.str (Str.ofString "file"),.str z,.int p]):=MV
       clear MV
       dsimp only
       walk_at "ge"
       ·refine ES (neg:=true) (b:=mX S (.file z p)) eW d1 d2 o1 o2 Ea ?_
        have hR2:=hR H4 bM
        dsimp only [aX] at hR2
        rw [Bool.true_and] at hR2
        rw [if_pos rfl]
        walk_at "ge"
        exact hR2
       ·exact absurd rfl (by assumption)
    ·walk_at "ge"
     exact hR _ bM
    ·clear hl2 hl3 TL
     walk_at "ge"
     refine K1.use ?_
     walk_at "cl"
     clear K1
     refine aF λ M1 K1 => ?_
     have nv:=bM.get (mC (V2 (mC (mC (mC mS)))))
     walk_at "ge"
     refine AG λ Lc mV => ?_
     walk_at "ge"
     refine sr nv bM λ l2 SE H5 ey2 cP => ?_
     refine ⟨l2,rfl,⟨_,eY.of (cP.get mS)⟩,mV.use ?_⟩
     clear mV nv
     have abm:SE.length=ts.length:=by have:=congrArg List.length ey2;simpa using this
     refine qy SE (λ y=>V.ref y.1) (λ y => !aX y.2) cP List.mem_cons_self (by omega) (λ y H6 R x hy eX hR => ?_) (λ y H6 R x hy eX hR => ?_) (λ om H6 eX => ?_)
     ·have MV:=eX.get (mC (mC (mB (List.mem_map.mpr ⟨y,hy,rfl⟩))))
      obtain ⟨ya,yt⟩:=y
      cases yt with
      | own m =>
        have RP:H6 ya=some (.tup [.str (Str.ofString "own"),.int m]):=MV
        clear MV
        dsimp only
        walk_at "ge"
        exact hR _ eX
      | file z p =>
        have RP:H6 ya=some (.tup [.str (Str.ofString "file"),.str z,.int p]):=MV
        clear MV
        have hne : ¬ Str.ofString "file" = Str.ofString "own" := by decide +kernel
        dsimp only
        walk_at "ge"
        rw [decide_eq_false hne]
        exact hR _ eX
     ·walk_at "ge"
      exact hR _ eX
     ·have hmade:(((SE.filter λ y => !aX y.2).map λ y=>V.ref y.1).length:Int)=S.made:=by
       rw [List.length_map,<-lr.cnt]
       have h7 : ∀ l:List (Addr×Th),(l.filter λ y => !aX y.2).length=((l.map (·.2)).filter λ b => !aX b).length:=λ l=>by
        rw [List.filter_map,List.length_map]
        rfl
       have h8 : ∀ l:Ts,(l.filter λ e => !aX e.1).length=((l.map (·.1)).filter λ b => !aX b).length:=λ l=>by
        rw [List.filter_map,List.length_map]
        rfl
       rw [h7,h8,ey2]
      have c_o:=eX.get mS
      walk_at "ge"
      rw [hmade]
      refine K1.use ?_
      walk_at "cl"
      clear K1 c_o
      obtain ⟨A,eA⟩ : ∃ A:Cells,(om,HO.lst ((SE.filter λ y => !aX y.2).map λ y=>V.ref y.1))::(l2,HO.lst (SE.map λ y=>V.ref y.1))::(OF SE++((wa,HO.lst ((ys.filter λ y=>aX y.2 && !mX S y.2).map λ y=>V.ref y.1))::(l,HO.lst (ys.map λ y=>V.ref y.1))::(OF ys++[(ly,HO.lst (S.ps.filter λ v => !jx v))])))=A:=⟨_,rfl⟩
      have iu:Led H6 (A++bq cT cF cD cS cI S (dM sp mk sf rd us S ts++M)):=by
       rw [<-eA]
       simp only [List.cons_append,List.append_assoc,List.nil_append]
       exact eX
      have abn:(ly,HO.lst (S.ps.filter λ v => !jx v))∈A:=by rw [<-eA];simp
      have abo:(wa,HO.lst ((ys.filter λ y=>aX y.2 && !mX S y.2).map λ y=>V.ref y.1))∈A:=by rw [<-eA];simp
      have abp : ∀ y∈ys,(y.1,HO.tup (gc y.2))∈A:=λ y hy=>by
       have:(y.1,HO.tup (gc y.2))∈OF ys:=List.mem_map.mpr ⟨y,hy,rfl⟩
       rw [<-eA]
       simp [this]
      have lW:Led H6 (bq cT cF cD cS cI S (dM sp mk sf rd us S ts++(A++M))):=St.nA (St.jw _ iu) (aN A _ M)
      have Hi:=lr.mono (M':=A++M) λ x hx=>mA hx
      clear bM cP eX iu V2 eA hmade abm ey2 hL
      refine aF λ M1 K1 => ?_
      have abq:=lW.get (St.up (mA (mB abn)))
      have xW:M1 [some (.ref S.b),some (.ref sp),some (.ref sf),some (.ref rd),some (.int c),some (.int (i:Nat)),some (.ref ly),some (.ref wa),some (.int S.made),none] H6:=by
       refine K1.use ?_
       clear K1 abq
       have UZ:=lW.get (St.up (mA (mB abo)))
       have fG:Led H6 (dM sp mk sf rd us S ts++bq cT cF cD cS cI S (A++M)):=St.xR [] _ lW
       have eW:=fG.get mS
       refine aF λ M1 K1 => ?_
       have ny:M1 [some (.ref S.b),some (.ref sp),some (.ref sf),some (.ref rd),some (.int c),some (.int (i:Nat)),some (.ref ly),some (.ref wa),some (.int S.made),none] H6:=by
        refine K1.use ?_
        clear K1 UZ
        have iZ:=fG.get (mC (mC mS))
        refine aF λ M1 K1 => ?_
        have A0:M1 [some (.ref S.b),some (.ref sp),some (.ref sf),some (.ref rd),some (.int c),some (.int (i:Nat)),some (.ref ly),some (.ref wa),some (.int S.made),none] H6:=by
         refine K1.use ?_
         walk_at "ge"
         exact k S us ts A H6 rfl rfl (Nat.le_succ _) Hi lW
        clear K1
        walk_at "ge"
        ·rename_i t H7 _ lX _ _ _ _ _ _ _ _ _
         have e1m:1+S.made=S.made+1:=Int.add_comm ..
         rw [e1m] at lX
         have hgt:0 < (us.length:Int) - 1+(S.ps.length:Int) - S.made:=by assumption
         have hhm:=lr.hm
         have hroom:(n:Int) - 1+(q:Int) - (S.hs.length:Int)≠0:=by omega
         have afr:=lr.gh.most
         have Oa:S.hs.length<=600:=by omega
         have hbc:Builtin.Int.intBits c<=1400000:=Nat.le_trans (vt c0 c9) (by decide)
         refine ⟨c,_,rfl,hbc,lX,λ r0 H8 fF => ?_⟩
         obtain ⟨Ec,RQ⟩ : ∃ Ec:Ts,Ec=ts++[(.own (S.made+1),r0,rowOf c)]:=⟨_,rfl⟩
         have Rg:(Ec.map (·.1)).Nodup:=by
          rw [RQ,List.map_append]
          refine List.nodup_append.mpr ⟨lr.nd,by simp,λ x hx y hy e => ?_⟩
          have hy':y = .own (S.made+1):=by simpa using hy
          exact lr.fresh (hy' ▸ e ▸ hx)
         have hv2:bx (uR Ec) (kE (.own (S.made+1)))=some (.ref r0):=xP (e:=(.own (S.made+1),r0,rowOf c)) Rg (by rw [RQ];exact mA mS)
         have nv:=fF.get (mC (mC (mC (mC (mC mS)))))
         have AV:H8 t=some (.tup ((kE (.own (S.made+1))).map kV)):=by rw [qh];exact fF.get (mC mS)
         clear lX eW iZ fG lW
         walk_at "ge"
         refine Mp nv AV (by rw [uS];omega) ?_
         rw [Hf r0 (rowOf c) lr.fresh,<-RQ]
         have fR:Led (upd H8 rd (.dT (uR Ec))) ((r0,HO.lst ((rowOf c).map V.int))::(t,HO.tup (gc (.own (S.made+1))))::([(sp,HO.lst us),(mk,.lst (S.bs.map V.bl)),(sf,.lst S.ps),(rd,.dT (uR Ec))]++bq cT cF cD cS cI S (A++M))):=fF.iU 5 rfl rfl rfl
         generalize upd H8 rd (.dT (uR Ec))=H9 at fR ⊢
         clear nv AV fF
         have eW:=fR.get (mC (mC mS))
         walk_at "ge"
         refine cH eW (bD (by omega) (by omega)) ?_
         rw [Int.toNat_natCast]
         have iy:Led (upd H9 sp (.lst (us.set i (.ref t)))) ([(r0,HO.lst ((rowOf c).map V.int)),(t,HO.tup (gc (.own (S.made+1))))]++(dM sp mk sf rd (us.set i (.ref t)) S Ec++bq cT cF cD cS cI S (A++M))):=fR.iU 2 rfl rfl rfl
         generalize upd H9 sp (.lst (us.set i (.ref t)))=Nv at iy ⊢
         clear eW fR
         have nv:=iy.get (mA (mC (mC (mC mS))))
         have AV:Nv t=some (.tup ((kE (.own (S.made+1))).map kV)):=by rw [qh];exact iy.get (mC mS)
         have c_0:=iy.get mS
         walk_at "ge"
         refine D8 nv AV hv2 ?_
         walk_at "ge"
         rename_i r1 Pf _ rZ _
         obtain ⟨X2,V3⟩ : ∃ X2:Cells,[(r1,HO.lst ((rowOf c).map V.int)),(r0,HO.lst ((rowOf c).map V.int)),(t,HO.tup (gc (.own (S.made+1))))]=X2:=⟨_,rfl⟩
         have D5:Led Pf ((X2++dM sp mk sf rd (us.set i (.ref t)) S Ec)++bq cT cF cD cS cI S (A++M)):=by rw [<-V3];exact rZ
         have Jz:=St.jw _ D5
         rw [List.append_assoc] at Jz
         clear iy rZ D5 nv AV c_0
         have i_1:(r1,HO.lst ((rowOf c).map V.int))∈X2:=by rw [<-V3];exact mS
         have i_0:(r0,HO.lst ((rowOf c).map V.int))∈X2:=by rw [<-V3];exact mC mS
         have CN:(t,HO.tup (gc (.own (S.made+1))))∈X2:=by rw [<-V3];exact mC (mC mS)
         have upA : ∀ x∈A++M,x∈X2++(A++M):=λ x hx=>mA hx
         have yd:=Hi.mono upA
         refine ⟨S,n,q,r1,rowOf c,_,rfl,Jz,Hi.g.mono (λ x hx=>mA (mA hx)),mB i_1,mD c,Oa,lr.gh.fresh,lr.gh.key,λ h=>absurd h hroom,λ _ hall _=>hall none (List.mem_of_getElem? h1) rfl,λ _ i' S1 t' r p N H12 hH abr abt g2 Mu abu => ?_⟩
         have RS:=hH
         rcases hH with ⟨q1,q2,oF⟩ | ⟨hall,_⟩
         case inr=>exact absurd rfl (hall none (List.mem_of_getElem? h1))
         have ei:i' = i:=by
          rcases Nat.lt_trichotomy i' i with hlt | he | hlt
          ·exact absurd rfl (h2 i' none hlt q1)
          ·exact he
          ·exact absurd rfl (q2 i none hlt h1)
         subst ei
         subst oF
         have hs1:j5 S1 us (N++(X2++(A++M))):=yd.s.mono λ x hx=>mA hx
         have Hj:=Lr.Mb (uG:=us) (t:=t') (r:=r) (u:=t) (d:=r0) yd hroom (mD c) RS (mB abr) (mB abt) (mA (mB CN)) (mA (mB i_0)) hs1
         rw [<-RQ] at Hj
         have Js:=abu.get (St.up (mB Mu))
         walk_at "ge"
         rename_i t2 H13 _ OG _
         rw [e1m] at OG
         have hal:Alike H13 2 (.ref p) (.ref t2) := .inr ⟨p,t2,_,_,rfl,rfl,.inr ⟨OG.get (mC (St.up (mB Mu))),OG.get mS⟩,rfl,by show 2<=100000;decide,λ j x y hx hy=>by
          rw [hx] at hy
          cases hy
          match j,hx with
          | 0,hx=>cases hx;exact .inl (.inr (.inr (.inl ⟨_,rfl,rfl⟩)))
          | 1,hx=>cases hx;exact .inl (.inr (.inr (.inl ⟨_,rfl,rfl⟩)))
          | j+2,hx=>cases hx⟩
         refine ⟨_,_,rfl,hal,?_⟩
         walk_at "ge"
         refine k { S1 with made:=S1.made+1,hs:=S1.hs++[(S1.made+1,1)],F:=S1.F.fill i' (some (t',.own (S1.made+1))) (some (r,rowOf c)) false } (us.set i' (.ref t)) Ec ((t2,HO.tup [.int (S1.made+1),.int (i':Nat)])::(N++(X2++A))) H13 rfl rfl (by rw [RQ,List.length_append];exact Nat.le_refl _) (Hj.mono λ x hx => ?_) ?_
         ·have e5:(t2,HO.tup [.int (S1.made+1),.int (i':Nat)])::(N++(X2++A))++M=(t2,HO.tup [.int (S1.made+1),.int (i':Nat)])::(N++(X2++(A++M))):=by simp
          rw [e5]
          exact mC hx
         ·refine St.nA (St.push OG) ?_
          have e6 : ∀ Lw:Cells,(t2,HO.tup [.int (S1.made+1),.int (i':Nat)])::(N++(X2++(Lw++(A++M))))=((t2,HO.tup [.int (S1.made+1),.int (i':Nat)])::(N++X2))++(Lw++(A++M)):=λ Lw=>by simp
          have e7 : ∀ Lw:Cells,Lw++((t2,HO.tup [.int (S1.made+1),.int (i':Nat)])::(N++(X2++A))++M)=Lw++(((t2,HO.tup [.int (S1.made+1),.int (i':Nat)])::(N++X2))++(A++M)):=λ Lw=>by simp
          rw [e7]
          exact e6 (dM sp mk sf rd (us.set i' (.ref t)) S1 Ec) ▸ aN _ (dM sp mk sf rd (us.set i' (.ref t)) S1 Ec) _
        ·exact A0
        ·exact A0
       clear K1
       rcases UY (S:=S) (ys:=ys) (c / 4) with h0 | ⟨y,hy,y1,y2,hat⟩
       ·walk_at "ge"
        ·exfalso;omega
        ·exact ny
        ·exact ny
       ·walk_at "ge"
        ·refine cH eW (bD (by omega) (by omega)) ?_
         rw [Int.toNat_natCast]
         obtain ⟨t,yt⟩:=y
         cases yt with
         | own m=>cases y1
         | file z pg =>
           have iy:Led (upd H6 sp (.lst (us.set i (.ref t)))) (dM sp mk sf rd (us.set i (.ref t)) (gone S (.file z pg)) ts++bq cT cF cD cS cI S (A++M)):=fG.iU 0 rfl rfl rfl
           generalize upd H6 sp (.lst (us.set i (.ref t)))=H9 at iy ⊢
           clear fG eW UZ lW
           have fR:=St.jw _ iy
           clear iy
           obtain ⟨X3,eX3⟩ : ∃ X3:Cells,A=X3:=⟨_,rfl⟩
           obtain ⟨M3,RT⟩ : ∃ M3:Cells,M3=X3++M:=⟨_,rfl⟩
           have e3:A++M=M3:=by rw [RT,<-eX3]
           rw [e3] at fR
           have CN:(t,HO.tup (gc (.file z pg)))∈M3:=by rw [<-e3];exact mB (abp _ hy)
           have yd:Lr n q S us ts M3:=Hi.mono λ x hx=>by rw [<-e3];exact hx
           have OH : ¬ r8 S (.file z pg):=λ hx=>by
            have h5:=Ea.mpr (r8.dat.mp hx)
            have h6:mX S (.file z pg)=false:=y2
            rw [h5] at h6
            cases h6
           have OI:Gd (.file z pg):=okY _ hy
           have hkey:Th.file z pg∈ts.map (·.1):=by rw [<-ey];exact List.mem_map.mpr ⟨_,hy,rfl⟩
           obtain ⟨e0,UH,em0⟩:=List.mem_map.mp hkey
           have RU:e0.1 = .file z pg:=em0
           obtain ⟨ju,Mv⟩ : ∃ ju,ju=e0.2.2:=⟨_,rfl⟩
           have PL:Back S ju (.file z pg):=by
            have h7:=(lr.rw e0 UH).2.1
            rw [RU,<-Mv] at h7
            rcases h7 with ⟨j,v,w,h8,_⟩ | ⟨_,h8⟩
            ·exact absurd ⟨j,v,h8⟩ OH
            ·exact h8
           have hnf : ¬ r8 S (.file z pg):=OH
           have Mw : ∀ (j:Nat) (v:Addr),S.F.hs[j]? ≠ some (some (v,.file z pg)):=λ j v hj=>hnf ⟨j,v,hj⟩
           have g3:=yd.g
           have eF:(gone S (.file z pg)).F=S.F:=(ek S (.file z pg)).2.1
           walk_at "ge"
           refine ⟨S,n,q,t,.file z pg,_,rfl,fR,g3.mono (λ x hx=>mA hx),mA CN,OI,λ _=>⟨ju,PL⟩,λ hall _=>hall none (List.mem_of_getElem? h1) rfl,λ j v p N Nv hj=>absurd hj (Mw j v),λ _ row i' S1 r p N Nv hb hH p9 Mu iy => ?_⟩
           have RS:=hH
           rcases hH with ⟨q1,q2,oF⟩ | ⟨hall,_⟩
           case inr=>exact absurd rfl (hall none (by rw [eF];exact List.mem_of_getElem? h1))
           rw [eF] at q1 q2
           have ei:i' = i:=by
            rcases Nat.lt_trichotomy i' i with hlt | he | hlt
            ·exact absurd rfl (h2 i' none hlt q1)
            ·exact he
            ·exact absurd rfl (q2 i none hlt h1)
           subst ei
           have JI:S1.p=S.p:=by rw [oF];exact (ek S (.file z pg)).2.2.2.2.2.1
           have Gw:S1.b=S.b:=by rw [oF];exact (ek S (.file z pg)).1
           have RV:S1.bs=S.bs:=by rw [oF];exact (ek S (.file z pg)).2.2.2.2.2.2
           have hs1:j5 S1 us (N++M3):=j5.same (S:=S) (by rw [oF,eF]) (yd.s.mono λ x hx=>mA hx)
           have Hj:=Lr.CB (uG:=us) (t:=t) (r:=r) (u:=t) yd hnf hb OI RS (mA CN) (mB p9) (mA CN) hs1
           have Js:=iy.get (St.up (mB Mu))
           walk_at "ge"
           rename_i t2 Pf _ rZ _
           have hal:Alike Pf 2 (.ref p) (.ref t2) := .inr ⟨p,t2,_,_,rfl,rfl,.inr ⟨rZ.get (mC (St.up (mB Mu))),rZ.get mS⟩,rfl,by show 2<=100000;decide,λ j x y hx hy=>by
            rw [hx] at hy
            cases hy
            match j,hx with
            | 0,hx=>cases hx;exact .inl (.inr (.inr (.inl ⟨_,rfl,rfl⟩)))
            | 1,hx=>cases hx;exact .inl (.inr (.inl ⟨_,rfl,rfl⟩))
            | j+2,hx=>cases hx⟩
           refine ⟨_,_,rfl,hal,?_⟩
           walk_at "ge"
           refine k { S1 with F:=S1.F.fill i' (some (t,.file z pg)) (some (r,row)) false } (us.set i' (.ref t)) ts ((t2,HO.tup [.int (i':Nat),.bl true])::(N++X3)) Pf Gw JI (Nat.le_succ _) (Hj.mono λ x hx => ?_) ?_
           ·rw [RT] at hx
            rw [List.cons_append,List.append_assoc]
            exact mC hx
           ·have e9:dM sp mk sf rd (us.set i' (.ref t)) { S1 with F:=S1.F.fill i' (some (t,.file z pg)) (some (r,row)) false } ts=dM sp mk sf rd (us.set i' (.ref t)) (gone S (.file z pg)) ts:=by rw [oF];rfl
            rw [e9]
            refine St.nA (St.push rZ) ?_
            rw [RT,List.cons_append,List.append_assoc]
            exact (List.Perm.cons _ (aN N _ _)).trans List.perm_middle.symm
        ·exact ny
        ·exact ny
      clear K1
      rcases UX (ps:=S.ps) lr.g.pe (c / 4) with hly | ⟨m,hm,hat⟩
      ·walk_at "ge"
       ·exfalso;omega
       ·exact xW
       ·exact xW
      ·walk_at "ge"
       ·rename_i t H7 _ lX _ _ _ _ _ _ _ _ _ _ _
        have LH:m∈S.es.map (·.1):=(lr.g.pk m).mp hm
        have Mx:=lr.g.VX LH
        have hlt:idx S.ps (.int m) < S.ps.length:=(List.getElem?_eq_some_iff.mp (lr.g.int_at Mx)).1
        have fF:=St.push lX
        have PM:Led H7 (bq cT cF cD cS cI S ([(t,HO.tup (gc (.own m)))]++(dM sp mk sf rd us S ts++(A++M)))):=fF
        have fG:=St.xR _ _ PM
        have iZ:=fG.get (mC (mC mS))
        have AV:H7 t=some (.tup [.str (Str.ofString "own"),.int m]):=lX.get mS
        refine ⟨Bw iZ,?_⟩
        walk_at "ge"
        refine LM iZ rfl lr.g.flat Mx ?_
        walk_at "ge"
        refine cH iZ (bD (by omega) (by omega)) ?_
        rw [Int.toNat_natCast]
        have fR:Led (upd H7 sf (.lst (S.ps.set (idx S.ps (.int m)) .aH))) ([(sp,HO.lst us),(mk,.lst (S.bs.map V.bl)),(sf,.lst (S.ps.set (idx S.ps (.int m)) .aH)),(rd,.dT (uR ts))]++bq cT cF cD cS cI S ([(t,HO.tup (gc (.own m)))]++(A++M))):=fG.iU 2 rfl rfl rfl
        generalize upd H7 sf (.lst (S.ps.set (idx S.ps (.int m)) .aH))=H8 at fR ⊢
        clear lX fF PM fG iZ
        have eW:=fR.get mS
        walk_at "ge"
        refine cH eW (bD (by omega) (by omega)) ?_
        rw [Int.toNat_natCast]
        have iy:Led (upd H8 sp (.lst (us.set i (.ref t)))) (dM sp mk sf rd (us.set i (.ref t)) (gone S (.own m)) ts++bq cT cF cD cS cI S ([(t,HO.tup (gc (.own m)))]++(A++M))):=fR.iU 0 rfl rfl rfl
        generalize upd H8 sp (.lst (us.set i (.ref t)))=H9 at iy ⊢
        clear fR eW
        have fR:=St.jw _ iy
        clear iy
        obtain ⟨X3,eX3⟩ : ∃ X3:Cells,(t,HO.tup (gc (.own m)))::A=X3:=⟨_,rfl⟩
        obtain ⟨M3,RT⟩ : ∃ M3:Cells,M3=X3++M:=⟨_,rfl⟩
        have e3:[(t,HO.tup (gc (.own m)))]++(A++M)=M3:=by rw [RT,<-eX3];rfl
        rw [e3] at fR
        have CN:(t,HO.tup (gc (.own m)))∈M3:=by rw [<-e3];exact mS
        have yd:Lr n q S us ts M3:=Hi.mono λ x hx=>by rw [<-e3];exact mC hx
        obtain ⟨e0,UH,em0⟩:=List.mem_map.mp LH
        have RU:e0.1=m:=em0
        have PL:Back S e0.2.2 (.own m):=⟨e0.2.1,by rw [<-RU];exact UH⟩
        obtain ⟨ju,Mv⟩ : ∃ ju,ju=e0.2.2:=⟨_,rfl⟩
        rw [<-Mv] at PL
        have OI:Gd (.own m):=True.intro
        have OH : ¬ r8 S (.own m):=λ ⟨j,v,hj⟩=>lr.g.ap j v m hj LH
        have hnf : ¬ r8 S (.own m):=OH
        have Mw : ∀ (j:Nat) (v:Addr),S.F.hs[j]? ≠ some (some (v,.own m)):=λ j v hj=>hnf ⟨j,v,hj⟩
        have g3:=yd.g
        have eF:(gone S (.own m)).F=S.F:=(ek S (.own m)).2.1
        walk_at "ge"
        refine ⟨S,n,q,t,.own m,_,rfl,fR,g3.mono (λ x hx=>mA hx),mA CN,OI,λ _=>⟨ju,PL⟩,λ hall _=>hall none (List.mem_of_getElem? h1) rfl,λ j v p N Nv hj=>absurd hj (Mw j v),λ _ row i' S1 r p N Nv hb hH p9 Mu iy => ?_⟩
        have RS:=hH
        rcases hH with ⟨q1,q2,oF⟩ | ⟨hall,_⟩
        case inr=>exact absurd rfl (hall none (by rw [eF];exact List.mem_of_getElem? h1))
        rw [eF] at q1 q2
        have ei:i' = i:=by
         rcases Nat.lt_trichotomy i' i with hlt | he | hlt
         ·exact absurd rfl (h2 i' none hlt q1)
         ·exact he
         ·exact absurd rfl (q2 i none hlt h1)
        subst ei
        have JI:S1.p=S.p:=by rw [oF];exact (ek S (.own m)).2.2.2.2.2.1
        have Gw:S1.b=S.b:=by rw [oF];exact (ek S (.own m)).1
        have RV:S1.bs=S.bs:=by rw [oF];exact (ek S (.own m)).2.2.2.2.2.2
        have hs1:j5 S1 us (N++M3):=j5.same (S:=S) (by rw [oF,eF]) (yd.s.mono λ x hx=>mA hx)
        have Hj:=Lr.CB (uG:=us) (t:=t) (r:=r) (u:=t) yd hnf hb OI RS (mA CN) (mB p9) (mA CN) hs1
        have Js:=iy.get (St.up (mB Mu))
        walk_at "ge"
        rename_i t2 Pf _ rZ _
        have hal:Alike Pf 2 (.ref p) (.ref t2) := .inr ⟨p,t2,_,_,rfl,rfl,.inr ⟨rZ.get (mC (St.up (mB Mu))),rZ.get mS⟩,rfl,by show 2<=100000;decide,λ j x y hx hy=>by
         rw [hx] at hy
         cases hy
         match j,hx with
         | 0,hx=>cases hx;exact .inl (.inr (.inr (.inl ⟨_,rfl,rfl⟩)))
         | 1,hx=>cases hx;exact .inl (.inr (.inl ⟨_,rfl,rfl⟩))
         | j+2,hx=>cases hx⟩
        refine ⟨_,_,rfl,hal,?_⟩
        walk_at "ge"
        refine k { S1 with F:=S1.F.fill i' (some (t,.own m)) (some (r,row)) false } (us.set i' (.ref t)) ts ((t2,HO.tup [.int (i':Nat),.bl true])::(N++X3)) Pf Gw JI (Nat.le_succ _) (Hj.mono λ x hx => ?_) ?_
        ·rw [RT] at hx
         rw [List.cons_append,List.append_assoc]
         exact mC hx
        ·have e9:dM sp mk sf rd (us.set i' (.ref t)) { S1 with F:=S1.F.fill i' (some (t,.own m)) (some (r,row)) false } ts=dM sp mk sf rd (us.set i' (.ref t)) (gone S (.own m)) ts:=by rw [oF];rfl
         rw [e9]
         refine St.nA (St.push rZ) ?_
         rw [RT,List.cons_append,List.append_assoc]
         exact (List.Perm.cons _ (aN N _ _)).trans List.perm_middle.symm
       ·exact xW
       ·exact xW
  ·refine ES (neg:=true) (b:=false) eW d1 d2 o1 o2 (iff_of_false Bool.false_ne_true λ z=>hf (Mt.mp z)) ?_
   walk_at "ge"
   exact k S us ts [] H rfl rfl (Nat.le_succ _) lr hL
end
section
variable {P:Program} {w:World} {K:PySem.W.Frag} {mg:Str->Option Value} {base:Heap} {cU cA cB cC cT cF cD cS cI:Addr}
theorem lZ {H:Hp} {a b:Addr} {row:List Int} (h1:H a=some (.lst (row.map V.int))) (h2:H b=some (.lst (row.map V.int))) (hl:row.length<=100000):Alike H 2 (.ref a) (.ref b):=by
 refine .inr ⟨a,b,_,_,rfl,rfl,.inl ⟨h1,h2⟩,rfl,by rw [List.length_map];exact hl,λ i x y hx hy => ?_⟩
 rw [hx] at hy
 cases hy
 rw [List.getElem?_map] at hx
 obtain ⟨n,_,rfl⟩:=Option.map_eq_some_iff.mp hx
 exact .inl (.inr (.inr (.inl ⟨n,rfl,rfl⟩)))
end
section
variable {P:Program} {w:World} {K:PySem.W.Frag} {mg:Str->Option Value} {base:Heap} {cU cA cB cC cT cF cD cS cI:Addr}
def Mz (cI cC:Addr):Sp:=λ vs H Q E => ∃ (b dx d l:Addr) (es:cR) (z:Str) (rows:CK) (R:Cells),vs = [.ref b,.str z,.ref l]/\Led H (Jq cI b dx d es R)/\(es.map (·.1)).Nodup/\(l,HO.lst (oH rows))∈R/\(∀ r∈rows,(r.1,HO.lst (r.2.map V.int))∈R/\r.2.length<=600)/\rows.length<=100/\es.length<=600 ∧
 (z ∉ es.map (·.1)->∀ (fa:Addr) (rows':CK) (H':Hp),rows'.map (·.2)=rows.map (·.2)->Led H' (Jq cI b dx d (es++[(z,fa,rows')]) (Ig rows'++R))->Q .aH H')/\(z∈es.map (·.1)->E (.ref cC) none H)
theorem A2 {rows rows':CK} (h : ∀ (i:Nat) r,rows'[i]? = some r->rows[i]?.map (·.2)=some r.2) (hl:rows'.length=rows.length):rows'.map (·.2)=rows.map (·.2):=by
 apply List.ext_getElem?
 intro i
 rw [List.getElem?_map,List.getElem?_map]
 cases hi:rows'[i]? with
 | some r=>rw [h i r hi];rfl
 | none =>
   have:rows'.length<=i:=List.getElem?_eq_none_iff.mp hi
   rw [List.getElem?_eq_none (by omega)]
theorem OJ (D:bH K cI "make" "Files.make" dR) (B:iY mg) (T:Txt K mg cU cA cB cC cT cF cD cS cI):aJ P w K mg base 1 cI "make" ["self","name","rows"] (Mz cI cC):=by
 have sc:=m9
 refine D.Dk m9 (λ vs H Q E h => ?_) (λ _ _ _ _ _ _ us hl=>match us,hl with | [_,_,_],_=>rfl) (λ f cdv A outer s H vs Q E hr h => ?_)
 ·obtain ⟨_,_,_,_,_,_,_,_,rfl,_⟩:=h;rfl
 ·obtain ⟨b,dx,d,l,es,z,rows,R,rfl,hL,nd,SG,p9,hrl,h6,k1,k2⟩:=h
  have hu:=gz hr
  have hf:(iS d).lookup (Str.ofString "rows_by_name")=some (.ref d):=rfl
  have fh:=FH.of hL nd
  have c1:=fh.cb
  have c2:=fh.cd
  have up : ∀ {c:Addr×HO},c∈R->c∈Jq cI b dx d es R:=λ h=>mC (mC (mA h))
  refine ⟨_,(@ah _ _ _ _ _ (@aU _ _ _ _ _ _ _ _ (@JM _ _ _ _ _ _ (@Qy _ _ _ _ _ hu (@ao _ 1 _ _ (by walk_at "v")) (@ay _ _ _ _ _ _ _ T.gw T.bW (@ao _ 0 _ _ (by walk_at "v")) (by rfl))) (by first | exact oK _ (by decide) (by decide) | rfl)) (@ak _ _ _ (@i9 _ _ _ _ _ _ _ _ _ _ _ _ _ _ _ _ _ _ _ _ _ _ T.Taken (by rfl) (@aa _ _ _ _ _ (@cW _ _ _ _) (@ai _) (by rfl)) (by decide) (by rfl))) (@aE _)) (@ak _ _ _ (@l6 _ _ _ _ _ _ _ _ _ hu (@ay _ _ _ _ _ _ _ T.gw T.bW (@ao _ 0 _ _ (by walk_at "v")) (by rfl)) (@ao _ 1 _ _ (by walk_at "v")) (@oU _ _ "row" _ _ _ _ _ _ _ _ _ rfl rfl rfl rfl Pe (dh (by kernel_rfl)) (@iz _ _ _ _ (@ao _ 2 _ _ (by walk_at "v"))) (λ _ _ _ _=>(@l8 _)) (λ _ _ _ _=>(@br _ _ _ _ _ _ _ _ _ (aT (K:=K) rfl) (by rfl) B.list bZ (@aa _ _ _ _ _ (@pk _ 0 _ _ (by kernel_rfl) (by kernel_rfl) (by decide) (by decide)) (@ai _) (by rfl)) (by decide) (by decide) (by rfl) (by rfl))) (by intro _;rfl)) rfl))),?_⟩
  refine aF λ M1 K1 => ?_
  walk_at "ge"
  refine Uw c2 ?_
  rw [LO]
  by_cases hz:z∈es.map (·.1)
  ·rw [decide_eq_true hz]
   walk_at "ge"
   refine nI λ R hR => ?_
   walk_at "ge"
   exact ⟨by decide,k2 hz⟩
  ·rw [decide_eq_false hz]
   walk_at "ge"
   refine K1.use ?_
   walk_at "cl"
   clear K1
   have RW:=hL.get (up SG)
   walk_at "ge"
   refine AG λ Lc mV => ?_
   walk_at "ge"
   refine ⟨_,rfl,⟨_,eY.of RW⟩,mV.use ?_⟩
   clear mV c1 c2 RW fh
   refine qx (oH rows) (λ i v C => ∃ (r:Addr) (row:List Int),v=V.ref r/\C = [(r,HO.lst (row.map V.int))]/\rows[i]?.map (·.2)=some row) hL (up SG) (by rw [gD];have:=sizeLine_eq;omega) (λ i x H2 R2 M2 hx hl2 hR => ?_) (λ fa vs Cs H2 hvl hcl hG hl2 => ?_)
   ·unfold oH at hx
    rw [List.getElem?_map] at hx
    obtain ⟨r,hr,rfl⟩:=Option.map_eq_some_iff.mp hx
    have hm:=List.mem_of_getElem? hr
    have c3:=hl2.get (List.mem_append_right M2 (up (p9 r hm).1))
    have h7:=(p9 r hm).2
    have mr:(r.2.map V.int).length=r.2.length:=List.length_map _
    walk_at "ge"
    rename Led _ _=>hl3
    exact hR _ _ [_] ⟨_,r.2,rfl,rfl,by rw [hr];rfl⟩ hl3
   ·obtain ⟨rows',rfl,e2,e3,e4⟩:=rowsOf (by rw [hvl,hcl]) hG
    rw [e2] at hl2
    rw [gD,gD] at hvl
    have hsame:=A2 e4 (by rw [<-hvl])
    have c1:H2 b=some (.ins cI dx (iS d)):=hl2.get (mC (mA mS))
    have c2:H2 d=some (.dK (yc es)):=hl2.get (mC (mA (mC mS)))
    walk_at "ge"
    refine Ux c2 (by unfold yc;rw [List.length_map];have:=sizeLine_eq;omega) ?_
    rw [NG hz fa rows']
    have hl3:Led H2 ((d,.dK (yc es))::(b,.ins cI dx (iS d))::(nJ es++((fa,.lst (oH rows'))::(Ig rows'++R)))):=hl2.wk (by simp only [Jq];walk_at "sp")
    have bM:=hl3.put (o' := .dK (yc (es++[(z,fa,rows')]))) rfl rfl
    walk_at "ge"
    refine k1 hz fa rows' _ hsame (bM.wk ?_)
    unfold Jq
    rw [show nJ (es++[(z,fa,rows')])=nJ es++[(fa,HO.lst (oH rows'))] by unfold nJ;rw [List.map_append];rfl]
    simp only [List.append_assoc,List.cons_append,List.nil_append]
    walk_at "sp"
def xZ (z:Str) (rows:CK):Ts:=rows.mapIdx λ j r=>(.file z (j:Int),r.1,r.2)
theorem Hl (z:Str) (rows:CK):(xZ z rows).length=rows.length:=List.length_mapIdx
theorem Gy {z:Str} {rows:CK} {e:Th×Addr×List Int} (h:e∈xZ z rows) : ∃ (j:Nat) (r:Addr×List Int),rows[j]? = some r/\e=(.file z (j:Int),r.1,r.2):=by
 obtain ⟨j,hj⟩:=List.getElem?_of_mem h
 unfold xZ at hj
 rw [List.getElem?_mapIdx] at hj
 obtain ⟨r,hr,e1⟩:=Option.map_eq_some_iff.mp hj
 exact ⟨j,r,hr,e1.symm⟩
theorem Ho {z:Str} {rows:CK} {a:Th} : a∈(xZ z rows).map (·.1) ↔ ∃ j:Nat,j < rows.length/\a = .file z (j:Int):=by
 constructor
 ·intro h
  obtain ⟨e,he,rfl⟩:=List.mem_map.mp h
  obtain ⟨j,r,hj,rfl⟩:=Gy he
  exact ⟨j,(List.getElem?_eq_some_iff.mp hj).1,rfl⟩
 ·rintro ⟨j,hj,rfl⟩
  refine List.mem_map.mpr ⟨(.file z (j:Int),rows[j].1,rows[j].2),?_,rfl⟩
  refine List.mem_of_getElem? (i:=j) ?_
  unfold xZ
  rw [List.getElem?_mapIdx,List.getElem?_eq_getElem hj]
  rfl
theorem MA (z:Str) (rows:CK):(xZ z rows).map (·.1)=(List.range rows.length).map λ j:Nat=>Th.file z (j:Int):=by
 refine List.ext_getElem? λ j => ?_
 rw [List.getElem?_map,List.getElem?_map]
 unfold xZ
 rw [List.getElem?_mapIdx]
 by_cases hj:j < rows.length
 ·rw [List.getElem?_eq_getElem hj,List.getElem?_range hj]
  rfl
 ·rw [List.getElem?_eq_none (by omega),List.getElem?_eq_none (by rw [List.length_range];omega)]
  rfl
theorem RX (z:Str) (rows:CK):((xZ z rows).map (·.1)).Nodup:=by
 rw [MA]
 refine List.pairwise_iff_getElem.mpr λ i j hi hj hij e => ?_
 rw [List.getElem_map,List.getElem_map,List.getElem_range,List.getElem_range] at e
 injection e with _ e
 omega
theorem MB (z:Str) (rows:CK) (r:Addr×List Int):xZ z (rows++[r])=xZ z rows++[(.file z (rows.length:Int),r.1,r.2)]:=by
 unfold xZ
 rw [List.mapIdx_append]
 simp
theorem Lr.U0 {n q:Nat} {S:SS} {us:List V} {M M':Cells} {z:Str} {fa:Addr} {rows rows':CK} (h:Lr n q S us [] M) (h0:S.fs = []) (up : ∀ c∈M,c∈M') (V4:UE z) (er:rows'.map (·.2)=rows.map (·.2)) (h4 : ∀ r∈rows,r.2.length=4) (c1 : ∀ r∈rows,(r.1,HO.lst (r.2.map V.int))∈M') (c2 : ∀ r∈rows',(r.1,HO.lst (r.2.map V.int))∈M'):Lr n q { S with fs:=[(z,fa,rows')] } us (xZ z rows) M':=by
 have V5 : ∀ a,¬ r8 S a:=λ a z=>nomatch (h.xU a (.inl z))
 have abv : ∀ a,¬ r8 { S with fs:=[(z,fa,rows')] } a:=λ a w=>V5 a w
 have noE : ∀ m (row:List Int),¬ Back S row (.own m):=λ m row w=>nomatch (h.xU _ (.inr ⟨row,w⟩))
 have len:rows'.length=rows.length:=by have:=congrArg List.length er;simpa using this
 have g:=h.g.mono up
 have at' : ∀ (j:Nat) (r:Addr×List Int),rows[j]? = some r->∃ r',rows'[j]? = some (r',r.2):=λ j r hj=>by
  have h5:(rows'.map (·.2))[j]? = some r.2:=by rw [er,List.getElem?_map,hj];rfl
  rw [List.getElem?_map] at h5
  obtain ⟨x,hx,e⟩:=Option.map_eq_some_iff.mp h5
  exact ⟨x.1,by rw [hx,<-e]⟩
 refine { g := { g with fn:=by simp,fr:=λ e he r hr => ?_,ff:=λ i t z p hi=>absurd ⟨i,t,hi⟩ (V5 _) },gh := { h.gh with },s:=j5.same (S:=S) rfl (h.s.mono up),cl:=λ i t r z p row hi=>absurd ⟨i,t,hi⟩ (V5 _),nd:=RX z rows,rw:=λ e he => ?_,xU:=λ a ha => ?_,hm:=h.hm,cnt := ?_ }
 ·have he':=List.mem_singleton.mp he
  subst he'
  refine ⟨c2 r hr,?_⟩
  have:r.2∈rows.map (·.2):=by rw [<-er];exact List.mem_map.mpr ⟨r,hr,rfl⟩
  obtain ⟨x,hx,e⟩:=List.mem_map.mp this
  rw [<-e]
  exact h4 x hx
 ·obtain ⟨j,r,hj,rfl⟩:=Gy he
  obtain ⟨r',hr'⟩:=at' j r hj
  exact ⟨c1 r (List.mem_of_getElem? hj),.inr ⟨abv _,(z,fa,rows'),mS,rfl,j,r',rfl,hr'⟩,V4⟩
 ·rcases ha with ha | ⟨row,ha⟩
  ·exact absurd ha (V5 a)
  ·cases a with
   | own m=>exact absurd ha (noE m row)
   | file z2 p2 =>
     obtain ⟨e,he,e1,j,r,e2,e3⟩:=ha
     have he':=List.mem_singleton.mp he
     subst he'
     have hj:=(List.getElem?_eq_some_iff.mp e3).1
     have e1':z=z2:=e1
     rw [<-e1',e2]
     exact Ho.mpr ⟨j,by rw [<-len];exact hj,rfl⟩
 ·have h5:(0:Int)=S.made:=h.cnt
  show (((xZ z rows).filter λ e => !aX e.1).length:Int)=S.made
  have h6:((xZ z rows).filter λ e => !aX e.1) = []:=by
   rw [List.filter_eq_nil_iff]
   intro e he
   obtain ⟨j,r,_,rfl⟩:=Gy he
   simp [aX]
  rw [h6]
  exact h5
end
section
variable {P:Program} {w:World} {K:PySem.W.Frag} {mg:Str->Option Value} {base:Heap} {cU cA cB cC cT cF cD cS cI:Addr}
theorem Led.right {H:Hp} : ∀ {A L:Cells},Led H (A++L)->Led H L
 | [],_,h=>h
 | _::_,_,h=>Led.right (Led.tail h)
theorem St.rest {H:Hp} {S:SS} {M:Cells} (h:Led H (bq cT cF cD cS cI S M)):Led H M:=by
 have e:bq cT cF cD cS cI S M=(AU cT S++(qm cF S.F++(En cD S++(Eo cS S++CM cI S))))++M:=by unfold bq;simp only [List.append_assoc]
 rw [e] at h
 exact Led.right h
def Hq (K:PySem.W.Frag) (cT cF cD cS cI:Addr):Sp:=λ vs H Q _ => ∃ (S:SS) (n q:Nat) (sp mk sf rd a:Addr) (ns:List Int) (us:List V) (M:Cells),vs = [.ref S.b,.ref sp,.ref sf,.ref rd,.ref a]/\Led H (bq cT cF cD cS cI S (dM sp mk sf rd us S []++M))/\Lr n q S us [] M/\S.fs = []/\q<=128/\(∀ H',Led H' M->eY K H' a (ns.map V.int)) ∧
 ∀ (S':SS) (us':List V) (ts':Ts) (N:Cells) (H':Hp),S'.b=S.b->S'.p=S.p->ts'.length<=128->Lr n q S' us' ts' (N++M)->Led H' (bq cT cF cD cS cI S' (dM sp mk sf rd us' S' ts'++(N++M)))->Q (.bl true) H'
theorem MC (D:Def K mg "_law_begun" gR) (B:iY mg) (T:Txt K mg cU cA cB cC cT cF cD cS cI) (CD:aJ P w K mg base 1 cI "make" ["self","name","rows"] (Mz cI cC)) (bg:cZ P w K mg base 1 "_law_cell_at" ["_law_script","_law_k"] (xJ K)) (Ed:cZ P w K mg base 1 "_law_name" ["_law_cell","_law_turn"] Mm) (oG:cZ P w K mg base 2 "_law_row" ["_law_cell"] LX) (l5:cZ P w K mg base 8 "_law_fill" ["_law_store","_law_spots","_law_shelf","_law_rows","_law_cell"] (CC cT cF cD cS cI)):cZ P w K mg base 9 "_law_begun" ["_law_store","_law_spots","_law_shelf","_law_rows","_law_script"] (Hq K cT cF cD cS cI):=by
 have sc:=vG
 refine D.ok vG (λ vs H Q E h => ?_) (λ _ _ _ _ _ _ us hl=>match us,hl with | [_,_,_,_,_],_=>rfl) (λ f cdv A outer s H vs Q E hr h => ?_)
 ·obtain ⟨_,_,_,_,_,_,_,_,_,_,_,rfl,_⟩:=h;rfl
 ·obtain ⟨S,n,q,sp,mk,sf,rd,a,ns,us,M,rfl,hL,lr,hfs,RO,RY,k⟩:=h
  have hu:=gz hr
  have hsz:=sizeLine_eq
  have n64:=lr.g.n64
  have ul:us.length=n:=lr.s.l.trans lr.g.f.h
  have sq:eY K H a (ns.map V.int):=RY _ (Led.right (St.rest hL))
  obtain ⟨x2,V6⟩ : ∃ x,ns.getD (Int.toNat 2) 0=x:=⟨_,rfl⟩
  obtain ⟨x3,hx3⟩ : ∃ x,ns.getD (Int.toNat 3) 0=x:=⟨_,rfl⟩
  refine ⟨_,(@ah _ _ _ _ _ (@aL _ _ 5 _ _ _ _ sc.nd rfl (by walk_at "o2") (@aB _ _ _ _ _ _ _ _ _ _ _ Ed (hr.mono (by omega)) (by rfl) az (@aa _ _ _ _ _ (@aB _ _ _ _ _ _ _ _ _ _ _ bg (hr.mono (by omega)) (by rfl) az (@aa _ _ _ _ _ (@ao _ 4 _ _ (by walk_at "v")) (@aa _ _ _ _ _ (@aj _ _ _ _) (@ai _) (by rfl)) (by rfl)) (by decide) (by rfl) (by rfl)) (@aa _ _ _ _ _ (@aj _ _ _ _) (@ai _) (by rfl)) (by rfl)) (by decide) (by rfl) (by rfl)) (by rfl) (by walk_at "o4")) (@ah _ _ _ _ _ (@aL _ _ 6 _ _ _ _ sc.nd rfl (by walk_at "o2") (@aq _ _ _ _ _ _ _ _ aV (@aj _ _ _ _) (@aq _ _ _ _ _ _ _ _ aG (@aB _ _ _ _ _ _ _ _ _ _ _ bg (hr.mono (by omega)) (by rfl) az (@aa _ _ _ _ _ (@ao _ 4 _ _ (by walk_at "v")) (@aa _ _ _ _ _ (@aj _ _ _ _) (@ai _) (by rfl)) (by rfl)) (by decide) (by rfl) (by rfl)) (@aj _ _ _ _))) (by rfl) (by walk_at "o4")) (@ah _ _ _ _ _ (@aU _ _ _ _ _ _ _ _ (@aI _ _ _ _ _ _ _ _ cz (@aq _ _ _ _ _ _ _ _ aG (@aq _ _ _ _ _ _ _ _ bE (@aB _ _ _ _ _ _ _ _ _ _ _ bg (hr.mono (by omega)) (by rfl) az (@aa _ _ _ _ _ (@ao _ 4 _ _ (by walk_at "v")) (@aa _ _ _ _ _ (@aj _ _ _ _) (@ai _) (by rfl)) (by rfl)) (by decide) (by rfl) (by rfl)) (@aj _ _ _ _)) (@aj _ _ _ _)) (@aj _ _ _ _) (aO _)) (@ak _ _ _ (@aL _ _ 6 _ _ _ _ sc.nd rfl (by walk_at "o2") (@aq _ _ _ _ _ _ _ _ aV (@aj _ _ _ _) (@aq _ _ _ _ _ _ _ _ aG (@aq _ _ _ _ _ _ _ _ bE (@aB _ _ _ _ _ _ _ _ _ _ _ bg (hr.mono (by omega)) (by rfl) az (@aa _ _ _ _ _ (@ao _ 4 _ _ (by walk_at "v")) (@aa _ _ _ _ _ (@aj _ _ _ _) (@ai _) (by rfl)) (by rfl)) (by decide) (by rfl) (by rfl)) (@aj _ _ _ _)) (@aj _ _ _ _))) (by rfl) (by walk_at "o4"))) (@aE _)) (@ah _ _ _ _ _ (@gT _ _ "_law_k" _ _ _ _ _ _ _ _ _ _ 7 _ _ rfl rfl rfl rfl Pg (dh (by kernel_rfl)) (@cy _ _ _ _ _ _ (by rfl) B.range (@aa _ _ _ _ _ (@ao _ 6 _ _ (by walk_at "v")) (@ai _) (by rfl)) (by rfl)) (λ _ _ _ _=>(@l8 _)) (λ _ _ _ _=>(@aB _ _ _ _ _ _ _ _ _ _ _ oG (hr.mono (by omega)) (by rfl) az (@aa _ _ _ _ _ (@aq _ _ _ _ _ _ _ _ aV (@aq _ _ _ _ _ _ _ _ aG (@aB _ _ _ _ _ _ _ _ _ _ _ bg (hr.mono (by omega)) (by rfl) az (@aa _ _ _ _ _ (@pk _ 5 _ _ (by kernel_rfl) (by kernel_rfl) (by decide) (by decide)) (@aa _ _ _ _ _ (@aj _ _ _ _) (@ai _) (by rfl)) (by rfl)) (by decide) (by rfl) (by rfl)) (@aj _ _ _ _)) (@aq _ _ _ _ _ _ _ _ fN (@aj _ _ _ _) (@pk _ 0 _ _ (by kernel_rfl) (by kernel_rfl) (by decide) (by decide)))) (@ai _) (by rfl)) (by decide) (by rfl) (by rfl))) sc.nd rfl (by walk_at "o2") (by intro _;rfl) (by rfl) (by walk_at "o4")) (@ah _ _ _ _ _ (@bY _ _ _ _ (@aP _ _ _ _ _ _ _ _ _ _ _ _ _ _ _ _ T.gw CD (hr.mono (by omega)) az (@ay _ _ _ _ _ _ _ T.aZ T.o7 (@ao _ 0 _ _ (by walk_at "v")) (by rfl)) (@aa _ _ _ _ _ (@ao _ 5 _ _ (by walk_at "v")) (@aa _ _ _ _ _ (@oU _ _ "_law_row_here" _ _ _ _ _ _ _ _ _ rfl rfl rfl rfl Pg (dh (by kernel_rfl)) (@iz _ _ _ _ (@ao _ 7 _ _ (by walk_at "v"))) (λ _ _ _ _=>(@l8 _)) (λ _ _ _ _=>(@br _ _ _ _ _ _ _ _ _ (aT (K:=K) rfl) (by rfl) B.list bZ (@aa _ _ _ _ _ (@pk _ 0 _ _ (by kernel_rfl) (by kernel_rfl) (by decide) (by decide)) (@ai _) (by rfl)) (by decide) (by decide) (by rfl) (by rfl))) (by intro _;rfl)) (@ai _) (by rfl)) (by rfl)) (by rfl) (by rfl) (by rfl)) (by rfl)) (@ah _ _ _ _ _ (@jA _ _ _ _ _ _ _ _ PassesOwn.never rfl (@cy _ _ _ _ _ _ (by rfl) B.range (@aa _ _ _ _ _ (@ao _ 6 _ _ (by walk_at "v")) (@ai _) (by rfl)) (by rfl)) (@fc _ _ 8 _ sc.nd rfl (by walk_at "o2") (by walk_at "o4")) (@ak _ _ _ (@l6 _ _ _ _ _ _ _ _ _ hu (@ao _ 3 _ _ (by walk_at "v")) (@eN _ _ _ _ _ (@aa _ _ _ _ _ (@cW _ _ _ _) (@aa _ _ _ _ _ (@ao _ 5 _ _ (by walk_at "v")) (@aa _ _ _ _ _ (@ao _ 8 _ _ (by walk_at "v")) (@ai _) (by rfl)) (by rfl)) (by rfl))) (@aY _ _ _ _ _ _ _ aQ (@ao _ 7 _ _ (by walk_at "v")) (@ao _ 8 _ _ (by walk_at "v")) (λ _ _=>rfl)) rfl)) (by intro _;rfl)) (@ah _ _ _ _ _ (@aL _ _ 9 _ _ _ _ sc.nd rfl (by walk_at "o2") (@aK _ _ _ _ _ _ _ _ _ aS (by rfl) B.len bR (@aa _ _ _ _ _ (@ao _ 1 _ _ (by walk_at "v")) (@ai _) (by rfl)) (by decide) (by decide) (by rfl) (by rfl)) (by rfl) (by walk_at "o4")) (@ah _ _ _ _ _ (@aU _ _ _ _ _ _ _ _ (@aI _ _ _ _ _ _ _ _ cz (@aq _ _ _ _ _ _ _ _ aG (@aB _ _ _ _ _ _ _ _ _ _ _ bg (hr.mono (by omega)) (by rfl) az (@aa _ _ _ _ _ (@ao _ 4 _ _ (by walk_at "v")) (@aa _ _ _ _ _ (@aj _ _ _ _) (@ai _) (by rfl)) (by rfl)) (by decide) (by rfl) (by rfl)) (@aj _ _ _ _)) (@aj _ _ _ _) (aO _)) (@ak _ _ _ (@aL _ _ 9 _ _ _ _ sc.nd rfl (by walk_at "o2") (@aq _ _ _ _ _ _ _ _ aG (@aq _ _ _ _ _ _ _ _ bE (@aB _ _ _ _ _ _ _ _ _ _ _ bg (hr.mono (by omega)) (by rfl) az (@aa _ _ _ _ _ (@ao _ 4 _ _ (by walk_at "v")) (@aa _ _ _ _ _ (@aj _ _ _ _) (@ai _) (by rfl)) (by rfl)) (by decide) (by rfl) (by rfl)) (@aj _ _ _ _)) (@aq _ _ _ _ _ _ _ _ aV (@ao _ 9 _ _ (by walk_at "v")) (@aj _ _ _ _))) (by rfl) (by walk_at "o4"))) (@aE _)) (@ah _ _ _ _ _ (@jA _ _ _ _ _ _ _ _ PassesOwn.never rfl (@cy _ _ _ _ _ _ (by rfl) B.range (@aa _ _ _ _ _ (@ao _ 9 _ _ (by walk_at "v")) (@ai _) (by rfl)) (by rfl)) (@fc _ _ 10 _ sc.nd rfl (by walk_at "o2") (by walk_at "o4")) (@ah _ _ _ _ _ (@aL _ _ 11 _ _ _ _ sc.nd rfl (by walk_at "o2") (@aq _ _ _ _ _ _ _ _ aG (@aq _ _ _ _ _ _ _ _ oV (@aq _ _ _ _ _ _ _ _ aV (@aB _ _ _ _ _ _ _ _ _ _ _ bg (hr.mono (by omega)) (by rfl) az (@aa _ _ _ _ _ (@ao _ 4 _ _ (by walk_at "v")) (@aa _ _ _ _ _ (@aj _ _ _ _) (@ai _) (by rfl)) (by rfl)) (by decide) (by rfl) (by rfl)) (@aq _ _ _ _ _ _ _ _ fN (@ao _ 10 _ _ (by walk_at "v")) (@ao _ 10 _ _ (by walk_at "v")))) (@aj _ _ _ _)) (@aj _ _ _ _)) (by rfl) (by walk_at "o4")) (@ak _ _ _ (@aU _ _ _ _ _ _ _ _ (@ef _ _ _ _ (@bJ _ _ _ (@aB _ _ _ _ _ _ _ _ _ _ _ l5 (hr.mono (by omega)) (by rfl) az (@aa _ _ _ _ _ (@ao _ 0 _ _ (by walk_at "v")) (@aa _ _ _ _ _ (@ao _ 1 _ _ (by walk_at "v")) (@aa _ _ _ _ _ (@ao _ 2 _ _ (by walk_at "v")) (@aa _ _ _ _ _ (@ao _ 3 _ _ (by walk_at "v")) (@aa _ _ _ _ _ (@aq _ _ _ _ _ _ _ _ aV (@aq _ _ _ _ _ _ _ _ aV (@aq _ _ _ _ _ _ _ _ fN (@aj _ _ _ _) (@ao _ 11 _ _ (by walk_at "v"))) (@aj _ _ _ _)) (@aq _ _ _ _ _ _ _ _ aG (@ao _ 11 _ _ (by walk_at "v")) (@aj _ _ _ _))) (@ai _) (by rfl)) (by rfl)) (by rfl)) (by rfl)) (by rfl)) (by decide) (by rfl) (by rfl)) (by intro _;rfl))) (@ak _ _ _ (@aD _ _ _ _ (@bB _ _ _ _))) (@aE _)))) (by intro _;rfl)) (@ak _ _ _ (@aD _ _ _ _ (@bB _ _ _ _)))))))))))),?_⟩
  refine aF λ M1 K1 => ?_
  walk_at "ge"
  refine ⟨a,ns,1,rfl,by decide,sq,?_⟩
  walk_at "ge"
  refine ⟨_,0,rfl,⟨by decide,by decide⟩,?_⟩
  generalize ns.getD (Int.toNat 1) 0=x1
  have V4:=Ml x1 0
  generalize AZ x1 0=z at V4 ⊢
  walk_at "ge"
  refine K1.use ?_
  walk_at "cl"
  clear K1
  refine aF λ M1 K1 => ?_
  walk_at "ge"
  refine ⟨a,ns,2,rfl,by decide,sq,?_⟩
  rw [V6]
  walk_at "ge"
  refine K1.use ?_
  walk_at "cl"
  clear K1
  refine aF λ M1 K1 => ?_
  have rest : ∀ m:Nat,1<=m->m<=64->M1 [some (.ref S.b),some (.ref sp),some (.ref sf),some (.ref rd),some (.ref a),some (.str z),some (.int (m:Nat)),none,none,none,none,none] H:=by
   intro m m1 m64
   refine K1.use ?_
   clear K1
   refine aF λ M1 K1 => ?_
   walk_at "ge"
   refine Bv λ Lc mV => ?_
   walk_at "ge"
   refine ⟨_,rfl,by omega,by omega,mV.use ?_⟩
   clear mV
   rw [show ((m:Nat):Int).toNat=m by omega]
   refine ET (λ _ v C => ∃ (r:Addr) (row:List Int),v=V.ref r/\C = [(r,HO.lst (row.map V.int))]/\row.length=4) hL (by omega) (λ i H2 R M2 hi hl2 hR => ?_) (λ l vs Cs H2 hvl hcl hG hl2 => ?_)
   ·have sq2:eY K H2 a (ns.map V.int):=RY _ (Led.right (St.rest (Led.right hl2)))
    walk_at "ge"
    refine ⟨a,ns,2,rfl,by decide,sq2,?_⟩
    rw [V6]
    walk_at "ge"
    refine ⟨_,_,rfl,Nat.le_trans (vt (by omega) (by omega)) (by decide),hl2,λ r H3 hl3 => ?_⟩
    walk_at "ge"
    exact hR _ _ [_] ⟨r,_,rfl,rfl,mD _⟩ hl3
   ·obtain ⟨rows,rfl,e2,e3,e4⟩:=rowsOf (p:=λ _ row=>row.length=4) (by rw [hvl,hcl]) hG
    rw [e2] at hl2
    rw [gD] at hvl
    have h4 : ∀ r∈rows,r.2.length=4:=λ r hr=>by
     obtain ⟨i,hi⟩:=List.getElem?_of_mem hr
     exact e4 i r hi
    clear hG e2 e3 e4 hcl
    walk_at "ge"
    refine K1.use ?_
    walk_at "cl"
    clear K1 hL sq
    obtain ⟨M2,JJ⟩ : ∃ M2:Cells,((l,HO.lst (oH rows))::Ig rows)++M=M2:=⟨_,rfl⟩
    have hl3:Led H2 (bq cT cF cD cS cI S (dM sp mk sf rd us S []++M2)):=by
     rw [<-JJ]
     exact St.nA (St.jw ((l,HO.lst (oH rows))::Ig rows) hl2) (aN _ _ _)
    have Hi:Lr n q S us [] M2:=lr.mono λ x hx=>by rw [<-JJ];exact mA hx
    have SG:(l,HO.lst (oH rows))∈M2:=by rw [<-JJ];exact mS
    have U1 : ∀ r∈rows,(r.1,HO.lst (r.2.map V.int))∈M2:=λ r hr=>by rw [<-JJ];exact mB (mC (By hr))
    have afD : ∀ H',Led H' M2->Led H' M:=λ H' h=>by rw [<-JJ] at h;exact Led.right h
    clear hl2
    refine aF λ M1 K1 => ?_
    have f4:=Cp S
    have gS:=hl3.get St.b
    have RW:=hl3.get (St.up (mA SG))
    have hI:=St.UJ hl3
    have UN:=hI.get mS
    walk_at "ge"
    refine AG λ Lc mV => ?_
    walk_at "ge"
    refine ⟨l,rfl,⟨_,eY.of RW⟩,mV.use ?_⟩
    clear mV
    refine qx (oH rows) (λ i v C => ∃ (r:Addr) (row:List Int),v=V.ref r/\C = [(r,HO.lst (row.map V.int))]/\rows[i]?.map (·.2)=some row) hl3 (St.up (mA SG)) (by rw [gD];omega) (λ i y H4 R N hy bM hR => ?_) (λ l2 vs Cs H4 RZ U3 hG bM => ?_)
    ·unfold oH at hy
     rw [List.getElem?_map] at hy
     obtain ⟨r,hr,rfl⟩:=Option.map_eq_some_iff.mp hy
     have nv:=bM.get (mA (St.up (mA (U1 r (List.mem_of_getElem? hr)))))
     clear hl3 hI gS RW UN
     walk_at "ge"
     rename_i q2 H5 _ cP _
     exact hR _ _ [_] ⟨q2,r.2,rfl,rfl,by rw [hr];rfl⟩ cP
    ·obtain ⟨sS,rfl,e2,e3,e4⟩:=rowsOf (p:=λ i row=>rows[i]?.map (·.2)=some row) (by rw [RZ,U3]) hG
     rw [e2] at bM
     rw [gD,gD] at RZ
     have same:=A2 (λ i r hi=>e4 i r hi) RZ
     have h42 : ∀ r∈sS,r.2.length=4:=λ r hr=>by
      have h5:r.2∈rows.map (·.2):=by rw [<-same];exact List.mem_map.mpr ⟨r,hr,rfl⟩
      obtain ⟨x,hx,e⟩:=List.mem_map.mp h5
      rw [<-e]
      exact h4 x hx
     clear hG e2 e3 e4 U3 hI gS RW UN hl3
     have cP:=St.jw ((l2,HO.lst (oH sS))::Ig sS) bM
     have hI:=St.UJ cP
     clear bM
     walk_at "ge"
     refine ⟨S.ib,S.ix,S.im,l2,S.fs,z,sS,_,rfl,hI,lr.g.fn,LZ (mB mS),λ r hr=>⟨LZ (mB (mC (By hr))),by rw [h42 r hr];decide⟩,by omega,by rw [hfs];decide,λ _ fa rows' H5 er eX => ?_,λ hz=>absurd hz (by rw [hfs];simp)⟩
     have iu:Led H5 (bq cT cF cD cS cI { S with fs:=S.fs++[(z,fa,rows')] } (Ig rows'++(((l2,HO.lst (oH sS))::Ig sS)++(dM sp mk sf rd us S []++M2)))):=St.ofI (S:=S) (N:=Ig rows') eX
     rw [hfs,List.nil_append] at iu
     obtain ⟨B2,eB2⟩ : ∃ B2:Cells,Ig rows'++((l2,HO.lst (oH sS))::Ig sS)=B2:=⟨_,rfl⟩
     have lW:Led H5 (bq cT cF cD cS cI { S with fs:=[(z,fa,rows')] } (dM sp mk sf rd us { S with fs:=[(z,fa,rows')] } []++(B2++M2))):=by
      rw [<-List.append_assoc,eB2] at iu
      exact St.nA iu (aN B2 (dM sp mk sf rd us { S with fs:=[(z,fa,rows')] } []) M2)
     have yd:=Hi.U0 (fa:=fa) (M':=B2++M2) hfs (λ x hx=>mA hx) V4 (er.trans same) h4 (λ r hr=>mA (U1 r hr)) (λ r hr=>by rw [<-eB2];exact mB (mB (By hr)))
     obtain ⟨S1,oF⟩ : ∃ S1:SS,S1 = { S with fs:=[(z,fa,rows')] } := ⟨_,rfl⟩
     rw [<-oF] at lW yd
     have Gw:S1.b=S.b:=by rw [oF]
     have JI:S1.p=S.p:=by rw [oF]
     clear cP eX iu hI oF
     walk_at "ge"
     refine K1.use ?_
     walk_at "cl"
     clear K1
     have hrl:rows.length=m:=hvl
     refine aF λ M1 K1 => ?_
     refine sE λ V1 qb => ?_
     walk_at "ge"
     refine ⟨_,rfl,by omega,by omega,qb.use ?_⟩
     clear qb
     rw [show ((m:Nat):Int).toNat=m by omega]
     refine sF (λ i σ H' => ∃ (N:Cells) (v8:Option V),Led H' (bq cT cF cD cS cI S1 (dM sp mk sf rd us S1 (xZ z (rows.take i))++(N++(B2++M2)))) ∧ σ = [some (.ref S.b),some (.ref sp),some (.ref sf),some (.ref rd),some (.ref a),some (.str z),some (.int (m:Nat)),some (.ref l),v8,none,none,none]) ⟨[],none,lW,rfl⟩ ?_ ?_
     ·clear lW K1 k
      rintro i σ H' hi ⟨N,v8,hl',rfl⟩
      have e0:(0+(i:Int))=((i:Nat):Int):=by omega
      have hir:i < rows.length:=by omega
      have al:iw (oH rows) (0+(i:Int))=some (.ref rows[i].1):=cX (by omega) (by rw [e0,Int.toNat_natCast];unfold oH;rw [List.getElem?_map,List.getElem?_eq_getElem hir];rfl)
      have RW:=hl'.get (St.up (mA (mA (mA SG))))
      walk_at "ge"
      rename_i t H6 _ lX _
      rw [e0] at lX
      have fF:Led H6 (bq cT cF cD cS cI S1 ([(t,HO.tup (gc (.file z ((i:Nat):Int))))]++(dM sp mk sf rd us S1 (xZ z (rows.take i))++(N++(B2++M2))))):=St.push lX
      have fG:=St.xR _ _ fF
      have nv:=fG.get (mC (mC (mC mS)))
      have AV:H6 t=some (.tup ((kE (.file z ((i:Nat):Int))).map kV)):=by rw [qh];exact lX.get mS
      have hnew:Th.file z ((i:Nat):Int) ∉ (xZ z (rows.take i)).map (·.1):=λ h=>by
       obtain ⟨j,hj,e⟩:=Ho.mp h
       rw [List.length_take] at hj
       injection e with _ e
       omega
      have RQ:xZ z (rows.take i)++[(.file z ((i:Nat):Int),rows[i].1,rows[i].2)]=xZ z (rows.take (i+1)):=by
       rw [<-List.take_append_getElem hir,MB,List.length_take,Nat.min_eq_left (by omega)]
      refine Mp nv AV (by rw [uS,Hl,List.length_take];omega) ?_
      rw [Hf rows[i].1 rows[i].2 hnew,RQ]
      have fR:Led (upd H6 rd (.dT (uR (xZ z (rows.take (i+1)))))) (dM sp mk sf rd us S1 (xZ z (rows.take (i+1)))++bq cT cF cD cS cI S1 ([(t,HO.tup (gc (.file z ((i:Nat):Int))))]++(N++(B2++M2)))):=fG.iU 3 rfl rfl rfl
      have iy:=St.jw _ fR
      walk_at "ge"
      exact ⟨[(t,HO.tup (gc (.file z ((i:Nat):Int))))]++N,_,by rw [List.append_assoc];exact iy,rfl⟩
     ·clear lW
      rintro σ H' ⟨N,v8,hl',rfl⟩
      rw [List.take_of_length_le (by omega)] at hl'
      walk_at "ge"
      refine K1.use ?_
      walk_at "cl"
      clear K1
      obtain ⟨N0,eN0⟩ : ∃ N0:Cells,N++(B2++((l,HO.lst (oH rows))::Ig rows))=N0:=⟨_,rfl⟩
      have e5:N++(B2++M2)=N0++M:=by rw [<-eN0,<-JJ];simp
      rw [e5] at hl'
      have Hj:Lr n q S1 us (xZ z rows) (N0++M):=by rw [<-e5];exact yd.mono λ x hx=>mA hx
      have tl:(xZ z rows).length<=64:=by rw [Hl];omega
      have eW:=hl'.get (St.up mS)
      have V7:eY K H' a (ns.map V.int):=RY _ (Led.right (Led.right (St.rest hl')))
      refine aF λ M1 K1 => ?_
      walk_at "ge"
      rw [ul]
      refine K1.use ?_
      walk_at "cl"
      clear K1 eW
      refine aF λ M1 K1 => ?_
      have ny : ∀ mm:Nat,mm<=64->M1 [some (.ref S.b),some (.ref sp),some (.ref sf),some (.ref rd),some (.ref a),some (.str z),some (.int (m:Nat)),some (.ref l),v8,some (.int (mm:Nat)),none,none] H':=by
       intro mm h64
       refine K1.use ?_
       clear K1
       refine aF λ M1 K1 => ?_
       refine sE λ V1 qb => ?_
       walk_at "ge"
       refine ⟨_,rfl,by omega,by omega,qb.use ?_⟩
       clear qb
       rw [show ((mm:Nat):Int).toNat=mm by omega]
       refine sF (λ i σ H' => ∃ (S':SS) (us':List V) (ts':Ts) (N:Cells) (v10 v11:Option V),S'.b=S.b/\S'.p=S.p/\ts'.length<=64+i/\Lr n q S' us' ts' (N++M)/\Led H' (bq cT cF cD cS cI S' (dM sp mk sf rd us' S' ts'++(N++M))) ∧ σ = [some (.ref S.b),some (.ref sp),some (.ref sf),some (.ref rd),some (.ref a),some (.str z),some (.int (m:Nat)),some (.ref l),v8,some (.int (mm:Nat)),v10,v11]) ⟨S1,us,_,N0,none,none,Gw,JI,tl,Hj,hl',rfl⟩ ?_ ?_
       ·clear hl' V7 K1 k
        rintro i σ H' hi ⟨S',us',ts',N,v10,v11,q1,q2,q3,lr',hl',rfl⟩
        have sq4:eY K H' a (ns.map V.int):=RY _ (Led.right (Led.right (St.rest hl')))
        refine aF λ M2 K2 => ?_
        walk_at "ge"
        refine ⟨a,ns,3,rfl,by decide,sq4,?_⟩
        rw [hx3]
        walk_at "ge"
        obtain ⟨c,hc⟩ : ∃ c:Int,(x3+(0+(i:Int)) * (0+(i:Int))) * 48271 % 7919=c:=⟨_,rfl⟩
        have c0:0<=c:=by rw [<-hc];exact Int.emod_nonneg _ (by decide)
        have c9:c < 7919:=by rw [<-hc];exact Int.emod_lt_of_pos _ (by decide)
        rw [hc]
        refine K2.use ?_
        walk_at "cl"
        clear K2 hc
        walk_at "ge"
        refine ⟨S',n,q,_,sp,mk,sf,rd,us',ts',_,by rw [q1];rfl,hl',lr',RO,by omega,by omega,by omega,λ S2 us2 Ec N2 H2 r1 r2 r3 abw hl2 => ?_⟩
        walk_at "ge"
        exact ⟨S2,us2,Ec,N2++N,_,_,r1.trans q1,r2.trans q2,by omega,by rw [List.append_assoc];exact abw,by rw [List.append_assoc];exact hl2,rfl⟩
       ·clear hl' V7
        rintro σ H' ⟨S',us',ts',N,v10,v11,q1,q2,q3,lr',hl',rfl⟩
        walk_at "ge"
        refine K1.use ?_
        walk_at "ge"
        exact k S' us' ts' N H' q1 q2 (by omega) lr' hl'
      clear K1
      walk_at "ge"
      refine ⟨a,ns,3,rfl,by decide,V7,?_⟩
      rw [hx3]
      walk_at "ge"
      ·refine ⟨a,ns,3,rfl,by decide,V7,?_⟩
       rw [hx3]
       have hpos:(0:Int) < (n:Int)+1:=by omega
       walk_at "ge"
       have z0:=Int.emod_nonneg (x3 / 2) (show (n:Int)+1≠0 by omega)
       have z1:=Int.emod_lt_of_pos (x3 / 2) hpos
       obtain ⟨mm,Sw⟩ : ∃ mm:Nat,x3 / 2 % ((n:Int)+1)=(mm:Int):=⟨_,(Int.toNat_of_nonneg z0).symm⟩
       rw [Sw] at z1 ⊢
       exact ny mm (by omega)
      ·exact ny n n64
  clear K1
  walk_at "ge"
  refine ⟨a,ns,2,rfl,by decide,sq,?_⟩
  rw [V6]
  walk_at "ge"
  ·refine ⟨a,ns,2,rfl,by decide,sq,?_⟩
   rw [V6]
   walk_at "ge"
   obtain ⟨m,hm⟩ : ∃ m:Nat,1+x2 / 24 % 64=((m:Nat):Int):=⟨(1+x2 / 24 % 64).toNat,by omega⟩
   rw [hm]
   exact rest m (by omega) (by omega)
  ·obtain ⟨m,hm⟩ : ∃ m:Nat,1+x2 % 6=((m:Nat):Int):=⟨(1+x2 % 6).toNat,by omega⟩
   rw [hm]
   exact rest m (by omega) (by omega)
end
section
variable {P:Program} {w:World} {K:PySem.W.Frag} {mg:Str->Option Value} {base:Heap} {cU cA cB cC cT cF cD cS cI:Addr}
theorem x8 {α : Type} {n i:Nat} {x y : α} (h:(List.replicate n x)[i]? = some y):y=x:=List.eq_of_mem_replicate (List.mem_of_getElem? h)
section
variable {b dx fr Ai l r s di Ct mk sh CO pl rd fi CP fd ho:Addr} {n q:Nat} {M:Cells}
theorem aR.laid (n1:1<=n) (n64:n<=64) (q6:q<=550):aR (S0 b dx fr Ai l r s di Ct mk sh CO pl rd fi CP fd ho n q) n q M:=by
 have no : ∀ (i:Nat) (x:Addr×Th),(S0 b dx fr Ai l r s di Ct mk sh CO pl rd fi CP fd ho n q).F.hs[i]? = some (some x)->False:=λ i x h=>nomatch (x8 (α := Hd) (x:=none) h)
 exact { f:=El.new,n1:=n1,n64:=n64,bl:=List.length_replicate,pn:=n1,rr:=λ i t a h=>(no i _ h).elim,inj:=λ i _ t _ a h _=>(no i _ h).elim,pl:=List.length_replicate,q6:=q6,pe:=λ v hv => .inl (List.eq_of_mem_replicate hv),nd:=List.nodup_nil,pk:=λ m=>⟨λ h=>(nomatch (List.eq_of_mem_replicate h)),λ h=>(nomatch h)⟩,pi:=λ i j m h _=>(nomatch (x8 (α := V) (x := .aH) h)),ap:=λ i t m h=>(no i _ h).elim,er:=λ e he=>(nomatch he),fn:=List.nodup_nil,fr:=λ e he=>(nomatch he),ff:=λ i t z p h=>(no i _ h).elim }
theorem G9.laid:G9 (S0 b dx fr Ai l r s di Ct mk sh CO pl rd fi CP fd ho n q) n q:=by
 refine ⟨List.nodup_nil,λ e he=>(nomatch he),λ e he=>(nomatch he),λ m=>⟨λ h=>(nomatch h),λ h => ?_⟩,Nat.zero_le _,Int.le_refl 0⟩
 rcases h with ⟨i,t,h⟩ | h
 ·exact nomatch (x8 (α := Hd) (x:=none) h)
 ·exact (nomatch h)
end
theorem j5.laid {S:SS} {n:Nat} {M:Cells} (h:S.F.hs=List.replicate n none):j5 S (List.replicate n .aH) M:=by
 refine ⟨by rw [h,List.length_replicate,List.length_replicate],λ i hi => ?_,λ i t a hi => ?_⟩
 ·rw [h] at hi
  have hl:=(List.getElem?_eq_some_iff.mp hi).1
  rw [List.length_replicate] at hl
  rw [List.getElem?_replicate,if_pos hl]
 ·rw [h] at hi
  exact nomatch (x8 (α := Hd) (x:=none) hi)
theorem Lr.laid {b dx fr Ai l r s di Ct mk sh CO pl rd fi CP fd ho:Addr} {n q:Nat} {M:Cells} (n1:1<=n) (n64:n<=64) (q6:q<=550):Lr n q (S0 b dx fr Ai l r s di Ct mk sh CO pl rd fi CP fd ho n q) (List.replicate n .aH) [] M:=by
 have no : ∀ a,¬ r8 (S0 b dx fr Ai l r s di Ct mk sh CO pl rd fi CP fd ho n q) a:=λ a ⟨i,t,h⟩=>nomatch (x8 (α := Hd) (x:=none) h)
 refine { g:=aR.laid n1 n64 q6,gh:=G9.laid,s:=j5.laid rfl,cl:=λ i t r z p row h=>absurd ⟨i,t,h⟩ (no _),nd:=List.nodup_nil,rw:=λ e he=>(nomatch he),xU:=λ a ha => ?_,hm:=rfl,cnt:=rfl }
 rcases ha with ha | ⟨row,ha⟩
 ·exact absurd ha (no a)
 ·cases a with
  | own m=>obtain ⟨b,hb⟩:=ha;exact nomatch hb
  | file z p=>obtain ⟨e,he,_⟩:=ha;exact nomatch he
end
section
variable {P:Program} {w:World} {K:PySem.W.Frag} {mg:Str->Option Value} {base:Heap} {cU cA cB cC cT cF cD cS cI:Addr}
theorem PO.turn {N:Cells} {S S':SS} {i:Nat} {a:Th} (h:PO N S i S' a):S'.p=S.p/\S'.bs=S.bs.set i false/\S'.F.bs=S.F.bs.set i false/\S'.ps=(match a with | .own m=>S.ps.set (idx S.ps .aH) (.int m) | .file _ _=>S.ps):=by
 cases a with
 | own m=>obtain ⟨r,row,b,_,rfl⟩:=h;exact ⟨rfl,rfl,rfl,rfl⟩
 | file z p =>
   obtain ⟨r,row,_,h⟩:=h
   rcases h with ⟨_,rfl⟩ | ⟨_,as,bs,e,j,nr,_,_,_,_,_,rfl⟩
   ·exact ⟨rfl,rfl,rfl,rfl⟩
   ·exact ⟨rfl,rfl,rfl,rfl⟩
theorem Lr.po {N M:Cells} {S S1:SS} {n q i:Nat} {us uG:List V} {ts:Ts} {t:Addr} {a:Th} (h:Lr n q S us ts M) (hi:S.F.hs[i]? = some (some (t,a))) (hn : ∀ m,a = .own m->qu .aH S.ps=true) (hP:PO N S i S1 a) (hs1:j5 S1 uG M):Lr n q S1 uG ts (N++M):=by
 have g1:=h.g.po hi hn hP
 obtain ⟨e0,e1,e2,_,_⟩:=hP.hs
 obtain ⟨UW,SD⟩:=hP.rows h.g h.cl hi
 refine { g:=g1,gh:=⟨by rw [e1];exact h.gh.nd,λ e he => ?_,λ e he => ?_,λ m => ?_,by rw [e1];exact h.gh.most,by rw [e2];exact h.gh.m0⟩,s:=hs1.mono λ x hx=>mA hx,cl:=UW,nd:=h.nd,rw:=λ e he => ?_,xU:=λ b hb => ?_,hm:=by rw [e1,e2];exact h.hm,cnt:=by rw [e2];exact h.cnt }
 ·rw [e1] at he;rw [e2];exact h.gh.le e he
 ·rw [e1] at he;exact h.gh.c1 e he
 ·rw [e1,h.gh.RI m];exact (hP.lies hi m).symm
 ·obtain ⟨c1,c2,c3⟩:=h.rw e he
  exact ⟨mA c1,SD _ _ c2,c3⟩
 ·rcases hb with ⟨j,v,hj⟩ | ⟨row,hb⟩
  ·rw [e0] at hj
   exact h.xU b (.inl ⟨j,v,(r9 hj).2⟩)
  ·exact h.xU b (hP.back h.g hi hb)
def PN (cT cF cD cS cI:Addr):Sp:=λ vs H Q _ => ∃ (S:SS) (n q i:Nat) (t:Addr) (a:Th) (sp mk sf rd:Addr) (us:List V) (ts:Ts) (M:Cells),vs = [.ref S.b,.ref sp,.ref mk,.ref sf,.ref rd,.int (S.p:Nat),.int (i:Nat)]/\Led H (bq cT cF cD cS cI S (dM sp mk sf rd us S ts++M))/\Lr n q S us ts M/\S.F.hs[i]? = some (some (t,a))/\(∀ m,a = .own m->qu .aH S.ps=true) ∧
 ∀ (S':SS) (us':List V) (N:Cells) (H':Hp),S'.b=S.b->S'.p=S.p->S'.F.hs[i]? = some none->¬ r8 S' a->Lr n q S' us' ts (N++M)->Led H' (bq cT cF cD cS cI S' (dM sp mk sf rd us' S' ts++(N++M)))->Q (.bl true) H'
theorem R0 (D:Def K mg "_law_out" mz) (B:iY mg) (T:Txt K mg cU cA cB cC cT cF cD cS cI) (bX:aJ P w K mg base 1 cF "is_soiled" ["self","frame"] (qc cF)) (rY:cZ P w K mg base 5 "put_out" ["store","frame"] (xN cT cF cD cS cI)) (gu:cZ P w K mg base 5 "_law_is_store" ["_law_store","_law_spots","_law_marks","_law_shelf","_law_pointer"] (sj cT cF cD cS cI)) (fS:cZ P w K mg base 5 "_law_row_there" ["_law_store","_law_spots","_law_shelf","_law_thing"] (oB cT cF cD cS cI)) (aM:cZ P w K mg base 4 "_law_alike" ["_law_found","_law_due"] (jN 2)):cZ P w K mg base 6 "_law_out" ["_law_store","_law_spots","_law_marks","_law_shelf","_law_rows","_law_pointer","_law_frame"] (PN cT cF cD cS cI):=by
 have sc:=Du
 refine D.ok Du (λ vs H Q E h => ?_) (λ _ _ _ _ _ _ us hl=>match us,hl with | [_,_,_,_,_,_,_],_=>rfl) (λ f cdv A outer s H vs Q E hr h => ?_)
 ·obtain ⟨_,_,_,_,_,_,_,_,_,_,_,_,_,rfl,_⟩:=h;rfl
 ·obtain ⟨S,n,q,i,t,a,sp,mk,sf,rd,us,ts,M,rfl,hL,lr,hi,hn,k⟩:=h
  have hu:=gz hr
  have hsz:=sizeLine_eq
  have n64:=lr.g.n64
  have ul:us.length=n:=lr.s.l.trans lr.g.f.h
  have hin:i < n:=by rw [<-lr.g.f.h];exact (List.getElem?_eq_some_iff.mp hi).1
  have bl:=lr.g.bl
  obtain ⟨u,hu2,cu⟩:=lr.s.th i t a hi
  have au:iw us ((i:Nat):Int)=some (.ref u):=cX (by omega) (by rw [Int.toNat_natCast];exact hu2)
  have eW:=hL.get (St.up mS)
  refine ⟨_,(@ah _ _ _ _ _ (@aL _ _ 7 _ _ _ _ sc.nd rfl (by walk_at "o2") (@aY _ _ _ _ _ _ _ aQ (@ao _ 1 _ _ (by walk_at "v")) (@ao _ 6 _ _ (by walk_at "v")) (λ _ _=>rfl)) (by rfl) (by walk_at "o4")) (@ah _ _ _ _ _ (@bY _ _ _ _ (@aB _ _ _ _ _ _ _ _ _ _ _ rY (hr.mono (by omega)) (by rfl) az (@aa _ _ _ _ _ (@ao _ 0 _ _ (by walk_at "v")) (@aa _ _ _ _ _ (@ao _ 6 _ _ (by walk_at "v")) (@ai _) (by rfl)) (by rfl)) (by decide) (by rfl) (by rfl)) (by rfl)) (@ah _ _ _ _ _ (@aU _ _ _ _ _ _ _ _ (@aI _ _ _ _ _ _ _ _ cz (@aY _ _ _ _ _ _ _ aQ (@ao _ 7 _ _ (by walk_at "v")) (@aj _ _ _ _) (λ _ _=>rfl)) (@cW _ _ _ _) (aO _)) (@ak _ _ _ (@bC _ _ _ _ _ _ (@aY _ _ _ _ _ _ _ aQ (@ao _ 7 _ _ (by walk_at "v")) (@aj _ _ _ _) (λ _ _=>rfl)) (@bG _ _ _ _ _ _ _ (@ao _ 3 _ _ (by walk_at "v")) (@oS _ _ _ _ _ _ _ _ _ _ _ _ PySem.F.plainAttrs_list PySem.F.slot_list_index PySem.F.type_list_index kU (@ao _ 3 _ _ (by walk_at "v")) (@aa _ _ _ _ _ (@bF _ _ _) (@ai _) (by rfl)) (by rfl) (by rfl) (by rfl) (by rfl) (by rfl)) set_list (by intro _;rfl)) (by rfl) (by rfl) (by rfl))) (@aE _)) (@ah _ _ _ _ _ (@bC _ _ _ _ _ _ (@bF _ _ _) (@bG _ _ _ _ _ _ _ (@ao _ 1 _ _ (by walk_at "v")) (@ao _ 6 _ _ (by walk_at "v")) set_list (by intro _;rfl)) (by rfl) (by rfl) (by rfl)) (@ah _ _ _ _ _ (@bC _ _ _ _ _ _ (@bB _ _ _ _) (@bG _ _ _ _ _ _ _ (@ao _ 2 _ _ (by walk_at "v")) (@ao _ 6 _ _ (by walk_at "v")) set_list (by intro _;rfl)) (by rfl) (by rfl) (by rfl)) (@ah _ _ _ _ _ (@aU _ _ _ _ _ _ _ _ (@ef _ _ _ _ (@bJ _ _ _ (@aB _ _ _ _ _ _ _ _ _ _ _ gu (hr.mono (by omega)) (by rfl) az (@aa _ _ _ _ _ (@ao _ 0 _ _ (by walk_at "v")) (@aa _ _ _ _ _ (@ao _ 1 _ _ (by walk_at "v")) (@aa _ _ _ _ _ (@ao _ 2 _ _ (by walk_at "v")) (@aa _ _ _ _ _ (@ao _ 3 _ _ (by walk_at "v")) (@aa _ _ _ _ _ (@ao _ 5 _ _ (by walk_at "v")) (@ai _) (by rfl)) (by rfl)) (by rfl)) (by rfl)) (by rfl)) (by decide) (by rfl) (by rfl)) (by intro _;rfl))) (@ak _ _ _ (@aD _ _ _ _ (@bB _ _ _ _))) (@aE _)) (@ah _ _ _ _ _ (@aU _ _ _ _ _ _ _ _ (@ef _ _ _ _ (@bJ _ _ _ (@aB _ _ _ _ _ _ _ _ _ _ _ aM (hr.mono (by omega)) (by rfl) az (@aa _ _ _ _ _ (@aP _ _ _ _ _ _ _ _ _ _ _ _ _ _ _ _ T.Frames bX (hr.mono (by omega)) az (@ay _ _ _ _ _ _ _ T.aZ T.bL (@ao _ 0 _ _ (by walk_at "v")) (by rfl)) (@aa _ _ _ _ _ (@ao _ 6 _ _ (by walk_at "v")) (@ai _) (by rfl)) (by rfl) (by rfl) (by rfl)) (@aa _ _ _ _ _ (@bB _ _ _ _) (@ai _) (by rfl)) (by rfl)) (by decide) (by rfl) (by rfl)) (by intro _;rfl))) (@ak _ _ _ (@aD _ _ _ _ (@bB _ _ _ _))) (@aE _)) (@ak _ _ _ (@aD _ _ _ _ (@aB _ _ _ _ _ _ _ _ _ _ _ aM (hr.mono (by omega)) (by rfl) az (@aa _ _ _ _ _ (@aB _ _ _ _ _ _ _ _ _ _ _ fS (hr.mono (by omega)) (by rfl) az (@aa _ _ _ _ _ (@ao _ 0 _ _ (by walk_at "v")) (@aa _ _ _ _ _ (@ao _ 1 _ _ (by walk_at "v")) (@aa _ _ _ _ _ (@ao _ 3 _ _ (by walk_at "v")) (@aa _ _ _ _ _ (@ao _ 7 _ _ (by walk_at "v")) (@ai _) (by rfl)) (by rfl)) (by rfl)) (by rfl)) (by decide) (by rfl) (by rfl)) (@aa _ _ _ _ _ (@gA _ _ _ _ _ _ hu (@ao _ 4 _ _ (by walk_at "v")) (@ao _ 7 _ _ (by walk_at "v")) (λ _ _=>rfl)) (@ai _) (by rfl)) (by rfl)) (by decide) (by rfl) (by rfl))))))))))),?_⟩
  refine aF λ M1 K1 => ?_
  walk_at "ge"
  refine K1.use ?_
  walk_at "cl"
  clear K1 eW
  refine aF λ M1 K1 => ?_
  walk_at "ge"
  refine ⟨S,n,q,i,t,a,_,rfl,hL,lr.g.mono (λ x hx=>mA hx),hi,hn,λ S1 N H1 Ol gk hl1 => ?_⟩
  clear gk hL
  walk_at "ge"
  refine K1.use ?_
  walk_at "cl"
  clear K1
  obtain ⟨eh,_,_,Gw,_⟩:=Ol.hs
  obtain ⟨JI,RV,abx,U4⟩:=Ol.turn
  have hl2:=St.xR N _ hl1
  have xY:=hl2.get (mA (St.up (mA cu)))
  have iZ:=hl2.get (mC (mC mS))
  clear hl1
  refine aF λ M1 K1 => ?_
  have rest : ∀ (H2:Hp),Led H2 ([(sp,.lst us),(mk,.lst (S.bs.map V.bl)),(sf,.lst S1.ps),(rd,.dT (uR ts))]++bq cT cF cD cS cI S1 (N++M))->M1 [some (.ref S.b),some (.ref sp),some (.ref mk),some (.ref sf),some (.ref rd),some (.int (S.p:Nat)),some (.int (i:Nat)),some (.ref u)] H2:=by
   intro H2 hl3
   refine K1.use ?_
   clear K1 hl2 xY iZ
   refine aF λ M1 K1 => ?_
   have eW:=hl3.get mS
   walk_at "ge"
   refine cH eW (bD (by omega) (by omega)) ?_
   rw [Int.toNat_natCast]
   have bM:=hl3.iU (o' := .lst (us.set i .aH)) 0 rfl rfl rfl
   clear hl3 eW
   walk_at "ge"
   refine K1.use ?_
   walk_at "cl"
   clear K1
   generalize upd H2 sp (.lst (us.set i .aH))=H3 at bM ⊢
   refine aF λ M1 K1 => ?_
   have MU:=bM.get (mC mS)
   walk_at "ge"
   refine cH MU (bD (by omega) (by rw [List.length_map];omega)) ?_
   rw [Int.toNat_natCast,xF,<-RV]
   have cP:=bM.iU (o' := .lst (S1.bs.map V.bl)) 1 rfl rfl rfl
   clear bM MU
   walk_at "ge"
   refine K1.use ?_
   walk_at "cl"
   clear K1
   generalize upd H3 mk (.lst (S1.bs.map V.bl))=H4 at cP ⊢
   have eX:Led H4 (bq cT cF cD cS cI S1 (dM sp mk sf rd (us.set i .aH) S1 ts++(N++M))):=St.jw (dM sp mk sf rd (us.set i .aH) S1 ts) cP
   clear cP
   have xX:Lr n q S1 (us.set i .aH) ts (N++M):=lr.po hi hn Ol (j5.out (S:=S) eh lr.s)
   have nf : ¬ r8 S1 a:=λ ⟨j,v,hj⟩=>by
    rw [eh] at hj
    obtain ⟨h1,h2⟩:=r9 hj
    exact h1 (lr.g.inj i j t v a hi h2)
   have free:S1.F.hs[i]? = some none:=by
    rw [eh,List.getElem?_set,if_pos rfl,if_pos (by rw [lr.g.f.h];exact hin)]
   have so:S1.F.bs[i]? = some false:=by
    rw [abx,List.getElem?_set,if_pos rfl,if_pos (by rw [lr.g.f.s];exact hin)]
   refine aF λ M1 K1 => ?_
   walk_at "ge"
   refine ⟨S1,n,q,sp,mk,sf,us.set i .aH,_,by rw [Gw,JI];rfl,eX,xX.g.mono (λ x hx=>mA hx),mS,mC mS,mC (mC mS),xX.s.mono (λ x hx=>mA hx),λ N3 H5 iu => ?_⟩
   walk_at "ge"
   refine K1.use ?_
   walk_at "cl"
   clear K1 eX
   refine aF λ M1 K1 => ?_
   have f1:=gq S1
   have gS:=iu.get St.b
   rw [Gw] at gS
   have hF:=St.toF iu
   have R1:=hF.get mS
   walk_at "ge"
   refine ⟨S1.F,i,false,_,rfl,hF,so,?_⟩
   walk_at "ge"
   refine ⟨_,_,rfl,.inl (.inr (.inl ⟨_,rfl,rfl⟩)),?_⟩
   walk_at "ge"
   refine K1.use ?_
   walk_at "cl"
   clear K1 hF R1 gS f1
   obtain ⟨e,he,ea⟩:=List.mem_map.mp (lr.xU a (.inl ⟨i,t,hi⟩))
   have ea':e.1=a:=ea
   obtain ⟨ie,rat,V0⟩:=xX.rw e he
   have e4:e.2.2.length=4:=by
    rcases rat with ⟨j,v,r,h5,h6⟩ | ⟨_,h5⟩
    ·obtain ⟨r',fH,h7,h8⟩:=xX.g.rr j v e.1 h5
     rw [h6] at h7
     cases h7
     exact h8
    ·exact h5.len xX.g
   have JA:(u,HO.tup (gc e.1))∈N3++(dM sp mk sf rd (us.set i .aH) S1 ts++(N++M)):=by rw [ea'];exact mA (mA (mA cu))
   walk_at "ge"
   refine ⟨S1,n,q,u,sp,sf,e.1,e.2.2,us.set i .aH,_,by rw [Gw];rfl,iu,xX.g.mono (λ x hx=>mA (mA hx)),xX.s.mono (λ x hx=>mA (mA hx)),mA mS,JA,V0,rat,λ r N5 H6 p9 lW => ?_⟩
   have nv:=lW.get (St.up (mA (mA (mC (mC (mC mS))))))
   have xY:H6 u=some (.tup ((kE e.1).map kV)):=by rw [qh];exact lW.get (St.up (mA JA))
   walk_at "ge"
   refine D8 nv xY (xP lr.nd he) ?_
   walk_at "ge"
   refine ⟨_,_,rfl,lZ (lW.get (St.up (mB p9))) (lW.get (St.up (mA (mA (mA ie))))) (by omega),?_⟩
   walk_at "ge"
   have e8:(N5++(N3++N))++M=N5++(N3++(N++M)):=by simp
   refine k S1 (us.set i .aH) (N5++(N3++N)) H6 Gw JI free nf (by rw [e8];exact xX.mono λ x hx=>mA (mA hx)) ?_
   rw [e8]
   refine St.nA lW ?_
   rw [<-List.append_assoc N5,<-List.append_assoc N5]
   exact aN (N5++N3) _ _
  clear K1
  cases a with
  | own m =>
    have D9:H1 u=some (.tup [.str (Str.ofString "own"),.int m]):=xY
    clear xY
    have hnn:=hn m rfl
    have hne:Str.ofString "own" = Str.ofString "own" := rfl
    walk_at "ge"
    all_goals first | exact absurd hne (by assumption) | skip
    refine ⟨Bw iZ,?_⟩
    walk_at "ge"
    refine LM iZ rfl lr.g.flat hnn ?_
    have hlt:idx S.ps .aH < S.ps.length:=(List.getElem?_eq_some_iff.mp (lr.g.L1 hnn)).1
    walk_at "ge"
    refine cH iZ (bD (by omega) (by omega)) ?_
    rw [Int.toNat_natCast,show S.ps.set (idx S.ps .aH) (.int m)=S1.ps from U4.symm]
    have eX:=hl2.iU (o' := .lst S1.ps) 2 rfl rfl rfl
    walk_at "ge"
    exact rest _ eX
  | file z p =>
    have D9:H1 u=some (.tup [.str (Str.ofString "file"),.str z,.int p]):=xY
    clear xY
    have hne : ¬ Str.ofString "file" = Str.ofString "own" := by decide +kernel
    walk_at "ge"
    ·exact absurd (by assumption) hne
    refine rest H1 ?_
    rw [U4]
    exact hl2
end
section
variable {P:Program} {w:World} {K:PySem.W.Frag} {mg:Str->Option Value} {base:Heap} {cU cA cB cC cT cF cD cS cI:Addr}
def Hr (cT cF cD cS cI:Addr):Sp:=λ vs H Q _ => ∃ (S:SS) (n q:Nat) (u:Addr) (a:Th) (sp mk sf rd:Addr) (us:List V) (ts:Ts) (M:Cells),vs = [.ref S.b,.ref sp,.ref sf,.ref rd,.ref u]/\Led H (bq cT cF cD cS cI S (dM sp mk sf rd us S ts++M))/\Lr n q S us ts M/\(u,HO.tup (gc a))∈M ∧ ¬ r8 S a/\a∈ts.map (·.1)/\(∃ i:Nat,S.F.hs[i]? = some none) ∧
 ∀ (S':SS) (us':List V) (N:Cells) (H':Hp),S'.b=S.b->S'.p=S.p->Lr n q S' us' ts (N++M)->Led H' (bq cT cF cD cS cI S' (dM sp mk sf rd us' S' ts++(N++M)))->Q (.bl true) H'
theorem MD (D:Def K mg "_law_again" gQ) (B:iY mg) (T:Txt K mg cU cA cB cC cT cF cD cS cI) (bX:aJ P w K mg base 1 cF "is_soiled" ["self","frame"] (qc cF)) (c8:aJ P w K mg base 1 cF "row_in" ["self","frame"] (uP cF)) (uT:cZ P w K mg base 7 "bring" ["store","thing"] (Cv cT cF cD cS cI)) (aM:cZ P w K mg base 4 "_law_alike" ["_law_found","_law_due"] (jN 2)):cZ P w K mg base 8 "_law_again" ["_law_store","_law_spots","_law_shelf","_law_rows","_law_thing"] (Hr cT cF cD cS cI):=by
 have sc:=vF
 refine D.ok vF (λ vs H Q E h => ?_) (λ _ _ _ _ _ _ us hl=>match us,hl with | [_,_,_,_,_],_=>rfl) (λ f cdv A outer s H vs Q E hr h => ?_)
 ·obtain ⟨_,_,_,_,_,_,_,_,_,_,_,_,rfl,_⟩:=h;rfl
 ·obtain ⟨S,n,q,u,a,sp,mk,sf,rd,us,ts,M,rfl,hL,lr,JA,hnf,hkey,hf,k⟩:=h
  have hu:=gz hr
  have hsz:=sizeLine_eq
  have n64:=lr.g.n64
  have ul:us.length=n:=lr.s.l.trans lr.g.f.h
  obtain ⟨i,h1,h2⟩:=A1 hf
  have hin:i < n:=by rw [<-lr.g.f.h];exact (List.getElem?_eq_some_iff.mp h1).1
  obtain ⟨e,he,ea⟩:=List.mem_map.mp hkey
  have ea':e.1=a:=ea
  obtain ⟨ie,rat,OI⟩:=lr.rw e he
  rw [ea'] at rat OI
  have PL:Back S e.2.2 a:=by
   rcases rat with ⟨j,v,r,h5,_⟩ | ⟨_,h5⟩
   ·exact absurd ⟨j,v,h5⟩ hnf
   ·exact h5
  have e4:=PL.len lr.g
  have Mw : ∀ (j:Nat) (v:Addr),S.F.hs[j]? ≠ some (some (v,a)):=λ j v hj=>hnf ⟨j,v,hj⟩
  have eF:(gone S a).F=S.F:=(ek S a).2.1
  have eW:=hL.get (St.up mS)
  have d1:eg H .aH (PySem.W.kqdP (eB none)):=by show eg H .aH (PySem.W.kqdP .none);rw [PySem.W.kqdP];exact .aH
  have d2:=lr.s.dat hL (λ x hx=>St.up (mA hx))
  have o1:PySem.W.kqdOk 8 (eB none)=true:=rfl
  have o2:=lr.g.RJ
  refine ⟨_,(@ah _ _ _ _ _ (@aL _ _ 5 _ _ _ _ sc.nd rfl (by walk_at "o2") (@oS _ _ _ _ _ _ _ _ _ _ _ _ PySem.F.plainAttrs_list PySem.F.slot_list_index PySem.F.type_list_index (mh hr.units) (@ao _ 1 _ _ (by walk_at "v")) (@aa _ _ _ _ _ (@bF _ _ _) (@ai _) (by rfl)) (by rfl) (by rfl) (by rfl) (by rfl) (by rfl)) (by rfl) (by walk_at "o4")) (@ah _ _ _ _ _ (@aL _ _ 6 _ _ _ _ sc.nd rfl (by walk_at "o2") (@aB _ _ _ _ _ _ _ _ _ _ _ uT (hr.mono (by omega)) (by rfl) az (@aa _ _ _ _ _ (@ao _ 0 _ _ (by walk_at "v")) (@aa _ _ _ _ _ (@ao _ 4 _ _ (by walk_at "v")) (@ai _) (by rfl)) (by rfl)) (by decide) (by rfl) (by rfl)) (by rfl) (by walk_at "o4")) (@ah _ _ _ _ _ (@aU _ _ _ _ _ _ _ _ (@aI _ _ _ _ _ _ _ _ cz (@aY _ _ _ _ _ _ _ aQ (@ao _ 4 _ _ (by walk_at "v")) (@aj _ _ _ _) (λ _ _=>rfl)) (@cW _ _ _ _) (aO _)) (@ak _ _ _ (@bC _ _ _ _ _ _ (@bF _ _ _) (@bG _ _ _ _ _ _ _ (@ao _ 2 _ _ (by walk_at "v")) (@oS _ _ _ _ _ _ _ _ _ _ _ _ PySem.F.plainAttrs_list PySem.F.slot_list_index PySem.F.type_list_index kU (@ao _ 2 _ _ (by walk_at "v")) (@aa _ _ _ _ _ (@aY _ _ _ _ _ _ _ aQ (@ao _ 4 _ _ (by walk_at "v")) (@aj _ _ _ _) (λ _ _=>rfl)) (@ai _) (by rfl)) (by rfl) (by rfl) (by rfl) (by rfl) (by rfl)) set_list (by intro _;rfl)) (by rfl) (by rfl) (by rfl))) (@aE _)) (@ah _ _ _ _ _ (@bC _ _ _ _ _ _ (@ao _ 4 _ _ (by walk_at "v")) (@bG _ _ _ _ _ _ _ (@ao _ 1 _ _ (by walk_at "v")) (@ao _ 5 _ _ (by walk_at "v")) set_list (by intro _;rfl)) (by rfl) (by rfl) (by rfl)) (@ah _ _ _ _ _ (@aU _ _ _ _ _ _ _ _ (@PW.pt _ _ _ (@pw_or _ _ _ _ _ _ _ (@ef _ _ _ _ (@bJ _ _ _ (@aB _ _ _ _ _ _ _ _ _ _ _ aM (hr.mono (by omega)) (by rfl) az (@aa _ _ _ _ _ (@ao _ 6 _ _ (by walk_at "v")) (@aa _ _ _ _ _ (@eN _ _ _ _ _ (@aa _ _ _ _ _ (@ao _ 5 _ _ (by walk_at "v")) (@aa _ _ _ _ _ (@bB _ _ _ _) (@ai _) (by rfl)) (by rfl))) (@ai _) (by rfl)) (by rfl)) (by decide) (by rfl) (by rfl)) (by intro _;rfl))) (@pw_or1 _ _ _ _ (@ef _ _ _ _ (@bJ _ _ _ (@aB _ _ _ _ _ _ _ _ _ _ _ aM (hr.mono (by omega)) (by rfl) az (@aa _ _ _ _ _ (@aP _ _ _ _ _ _ _ _ _ _ _ _ _ _ _ _ T.Frames bX (hr.mono (by omega)) az (@ay _ _ _ _ _ _ _ T.aZ T.bL (@ao _ 0 _ _ (by walk_at "v")) (by rfl)) (@aa _ _ _ _ _ (@ao _ 5 _ _ (by walk_at "v")) (@ai _) (by rfl)) (by rfl) (by rfl) (by rfl)) (@aa _ _ _ _ _ (@bB _ _ _ _) (@ai _) (by rfl)) (by rfl)) (by decide) (by rfl) (by rfl)) (by intro _;rfl)))))) (@ak _ _ _ (@aD _ _ _ _ (@bB _ _ _ _))) (@aE _)) (@ak _ _ _ (@aD _ _ _ _ (@aB _ _ _ _ _ _ _ _ _ _ _ aM (hr.mono (by omega)) (by rfl) az (@aa _ _ _ _ _ (@aP _ _ _ _ _ _ _ _ _ _ _ _ _ _ _ _ T.Frames c8 (hr.mono (by omega)) az (@ay _ _ _ _ _ _ _ T.aZ T.bL (@ao _ 0 _ _ (by walk_at "v")) (by rfl)) (@aa _ _ _ _ _ (@ao _ 5 _ _ (by walk_at "v")) (@ai _) (by rfl)) (by rfl) (by rfl) (by rfl)) (@aa _ _ _ _ _ (@gA _ _ _ _ _ _ hu (@ao _ 3 _ _ (by walk_at "v")) (@ao _ 4 _ _ (by walk_at "v")) (λ _ _=>rfl)) (@ai _) (by rfl)) (by rfl)) (by decide) (by rfl) (by rfl))))))))),?_⟩
  refine aF λ M1 K1 => ?_
  walk_at "ge"
  refine ⟨Bw eW,?_⟩
  walk_at "ge"
  refine GW eW d1 d2 o1 o2 (j:=i) (by rw [List.getElem?_map,h1];rfl) (λ m e hm he => ?_) ?_
  ·rw [List.getElem?_map] at he
   obtain ⟨z,hz,rfl⟩:=Option.map_eq_some_iff.mp he
   refine λ w=>h2 m z hm hz ?_
   cases z with
   | none=>rfl
   | some z=>exact nomatch (gg.mp w)
  walk_at "ge"
  refine K1.use ?_
  walk_at "cl"
  clear K1 d1 d2 eW
  refine aF λ M1 K1 => ?_
  walk_at "ge"
  refine ⟨S,n,q,u,a,_,rfl,hL,lr.g.mono (λ x hx=>mA hx),mA JA,OI,λ _=>⟨e.2.2,PL⟩,λ hall _=>hall none (List.mem_of_getElem? h1) rfl,λ j v p N H1 hj=>absurd hj (Mw j v),λ _ row i' S1 r p N H1 hb hH p9 Mu hl1 => ?_⟩
  have RS:=hH
  rcases hH with ⟨q1,q2,oF⟩ | ⟨hall,_⟩
  case inr=>exact absurd rfl (hall none (by rw [eF];exact List.mem_of_getElem? h1))
  rw [eF] at q1 q2
  have ei:i' = i:=by
   rcases Nat.lt_trichotomy i' i with hlt | he | hlt
   ·exact absurd rfl (h2 i' none hlt q1)
   ·exact he
   ·exact absurd rfl (q2 i none hlt h1)
  subst ei
  have Mr:e.2.2=row:=PL.uniq lr.g hb
  have hs1:j5 S1 us (N++M):=j5.same (S:=S) (by rw [oF,eF]) (lr.s.mono λ x hx=>mA hx)
  have Hj:=Lr.CB (uG:=us) (t:=u) (r:=r) (u:=u) lr hnf hb OI RS (mA JA) (mB p9) (mA JA) hs1
  obtain ⟨S2,Hh⟩ : ∃ S2:SS,S2 = { S1 with F:=S1.F.fill i' (some (u,a)) (some (r,row)) false } := ⟨_,rfl⟩
  rw [<-Hh] at hl1 Hj
  have eb2:S2.b=S.b:=by rw [Hh,oF];exact (ek S a).1
  have ep2:S2.p=S.p:=by rw [Hh,oF];exact (ek S a).2.2.2.2.2.1
  have aby:S2.bs=S.bs:=by rw [Hh,oF];exact (ek S a).2.2.2.2.2.2
  have U5:S2.ps=(gone S a).ps:=by rw [Hh,oF]
  have so2:S2.F.bs[i']? = some false:=by
   rw [Hh,oF]
   show ((gone S a).F.bs.set i' false)[i']? = _
   rw [eF,List.getElem?_set,if_pos rfl,if_pos (by rw [lr.g.f.s];exact hin)]
  have ro2:S2.F.rs[i']? = some (some (r,row)):=by
   rw [Hh,oF]
   show ((gone S a).F.rs.set i' (some (r,row)))[i']? = _
   rw [eF,List.getElem?_set,if_pos rfl,if_pos (by rw [lr.g.f.r];exact hin)]
  clear Hh hL
  walk_at "ge"
  refine K1.use ?_
  walk_at "cl"
  clear K1
  have hl2:=St.xR N _ hl1
  have xY:=hl2.get (mA (St.up (mA JA)))
  have iZ:=hl2.get (mC (mC mS))
  clear hl1
  refine aF λ M1 K1 => ?_
  have rest : ∀ (H2:Hp),Led H2 ([(sp,.lst us),(mk,.lst (S.bs.map V.bl)),(sf,.lst S2.ps),(rd,.dT (uR ts))]++bq cT cF cD cS cI S2 (N++M))->M1 [some (.ref S.b),some (.ref sp),some (.ref sf),some (.ref rd),some (.ref u),some (.int (i':Nat)),some (.ref p)] H2:=by
   intro H2 hl3
   refine K1.use ?_
   clear K1 hl2 xY iZ
   refine aF λ M1 K1 => ?_
   have eW:=hl3.get mS
   walk_at "ge"
   refine cH eW (bD (by omega) (by omega)) ?_
   rw [Int.toNat_natCast]
   have bM:=hl3.iU (o' := .lst (us.set i' (.ref u))) 0 rfl rfl rfl
   clear hl3 eW
   walk_at "ge"
   refine K1.use ?_
   walk_at "cl"
   clear K1
   generalize upd H2 sp (.lst (us.set i' (.ref u)))=H3 at bM ⊢
   rw [<-aby] at bM
   have cP:Led H3 (bq cT cF cD cS cI S2 (dM sp mk sf rd (us.set i' (.ref u)) S2 ts++(N++M))):=St.jw (dM sp mk sf rd (us.set i' (.ref u)) S2 ts) bM
   clear bM
   have Js:=cP.get (St.up (mA (mB Mu)))
   refine aF λ M1 K1 => ?_
   walk_at "ge"
   rename_i t2 H4 _ eX _
   have hal:Alike H4 2 (.ref p) (.ref t2) := .inr ⟨p,t2,_,_,rfl,rfl,.inr ⟨eX.get (mC (St.up (mA (mB Mu)))),eX.get mS⟩,rfl,by show 2<=100000;decide,λ j x y hx hy=>by
    rw [hx] at hy
    cases hy
    match j,hx with
    | 0,hx=>cases hx;exact .inl (.inr (.inr (.inl ⟨_,rfl,rfl⟩)))
    | 1,hx=>cases hx;exact .inl (.inr (.inl ⟨_,rfl,rfl⟩))
    | j+2,hx=>cases hx⟩
   refine ⟨_,_,rfl,hal,?_⟩
   have iu:=St.push eX
   clear cP eX hal Js
   have f1:=gq S2
   have gS:=iu.get St.b
   rw [eb2] at gS
   have hF:=St.toF iu
   have R1:=hF.get mS
   walk_at "ge"
   refine ⟨S2.F,i',false,_,rfl,hF,so2,?_⟩
   walk_at "ge"
   refine ⟨_,_,rfl,.inl (.inr (.inl ⟨_,rfl,rfl⟩)),?_⟩
   walk_at "ge"
   refine K1.use ?_
   walk_at "cl"
   clear K1
   walk_at "ge"
   refine ⟨S2.F,i',r,row,_,rfl,hF,ro2,jt (mC (mA (mB p9))),by rw [<-Mr];omega,λ qr H5 lW => ?_⟩
   have lX:Led H5 ((qr,HO.lst (row.map V.int))::bq cT cF cD cS cI S2 ((t2,HO.tup [.int (i':Nat),.bl true])::(dM sp mk sf rd (us.set i' (.ref u)) S2 ts++(N++M)))):=Led.perm lW (List.Perm.cons _ (aN (qm cF S2.F) (AU cT S2) _))
   have fF:=St.push lX
   clear iu lW lX hF R1 gS f1
   have upM : ∀ x∈M,x∈bq cT cF cD cS cI S2 ((qr,HO.lst (row.map V.int))::(t2,HO.tup [.int (i':Nat),.bl true])::(dM sp mk sf rd (us.set i' (.ref u)) S2 ts++(N++M))):=λ x hx=>St.up (mC (mC (mA (mA hx))))
   have nv:=fF.get (St.up (mC (mC (mC (mC (mC mS))))))
   have xY:H5 u=some (.tup ((kE e.1).map kV)):=by rw [qh,ea'];exact fF.get (upM _ JA)
   walk_at "ge"
   refine D8 nv xY (xP lr.nd he) ?_
   walk_at "ge"
   rw [Mr] at ie
   refine ⟨_,_,rfl,lZ (fF.get (St.up mS)) (fF.get (upM _ ie)) (by rw [<-Mr];omega),?_⟩
   walk_at "ge"
   refine k S2 (us.set i' (.ref u)) ([(qr,HO.lst (row.map V.int)),(t2,HO.tup [.int (i':Nat),.bl true])]++N) H5 eb2 ep2 (by rw [List.append_assoc];exact Hj.mono λ x hx=>mA hx) ?_
   exact St.nA fF (aN [(qr,HO.lst (row.map V.int)),(t2,HO.tup [.int (i':Nat),.bl true])] (dM sp mk sf rd (us.set i' (.ref u)) S2 ts) (N++M))
  clear K1
  cases a with
  | own m =>
    have D9:H1 u=some (.tup [.str (Str.ofString "own"),.int m]):=xY
    clear xY
    have Mx:=lr.g.VX hb.key
    have hlt:idx S.ps (.int m) < S.ps.length:=(List.getElem?_eq_some_iff.mp (lr.g.int_at Mx)).1
    have hne:Str.ofString "own" = Str.ofString "own" := rfl
    walk_at "ge"
    all_goals first | exact absurd hne (by assumption) | skip
    refine ⟨Bw iZ,?_⟩
    walk_at "ge"
    refine LM iZ rfl lr.g.flat Mx ?_
    walk_at "ge"
    refine cH iZ (bD (by omega) (by omega)) ?_
    rw [Int.toNat_natCast,show S.ps.set (idx S.ps (.int m)) .aH=S2.ps from U5.symm]
    have eX:=hl2.iU (o' := .lst S2.ps) 2 rfl rfl rfl
    walk_at "ge"
    exact rest _ eX
  | file z pg =>
    have D9:H1 u=some (.tup [.str (Str.ofString "file"),.str z,.int pg]):=xY
    clear xY
    have hne : ¬ Str.ofString "file" = Str.ofString "own" := by decide +kernel
    walk_at "ge"
    ·exact absurd (by assumption) hne
    refine rest H1 ?_
    rw [U5]
    exact hl2
end
section
variable {P:Program} {w:World} {K:PySem.W.Frag} {mg:Str->Option Value} {base:Heap} {cU cA cB cC cT cF cD cS cI:Addr}
theorem JB {n:Nat} {tt:TT} {te:TE} {σ : L2.St} {Q:VK} {H1:Hp} {L:Cells} (p:Nat->Bool) (hL:Led H1 L) (hn:n<=sizeLine)
  (ht : ∀ (j:Nat) (H:Hp) (R:Bool->Hp->Prop) (q:Addr×HO),j < n->Led H (q::L)->(∀ H',Led H' (q::L)->R (p j) H')->tt (some (.int (j:Nat)) :: σ) H R)
  (he : ∀ (j:Nat) (H:Hp) (R:VK) (q:Addr×HO),j < n->Led H (q::L)->(∀ H',Led H' (q::L)->R (.int (j:Nat)) H')->te (some (.int (j:Nat)) :: σ) H R)
  (hd : ∀ (r:Addr) (H':Hp),Led H' ((r,.lst (((List.range n).filter p).map λ j:Nat=>V.int j))::L)->Q (.ref r) H'):oY (GC 0 n) tt te σ Q H1:=by
 refine qw (λ r i acc H=>i<=n/\acc=(((List.range i).filter p).map λ j:Nat=>V.int j)/\Led H ((r,.lst acc)::L)) (λ r hr=>⟨Nat.zero_le _,rfl,hL.new hr⟩) (λ r i acc H hr h=>h.2.2.get mS) ?_ ?_
 ·rintro r i acc H hr hi ⟨_,rfl,hl⟩
  rw [Int.zero_add]
  have hlen:(((List.range i).filter p).map λ j:Nat=>V.int j).length < sizeLine:=by
   rw [List.length_map]
   have h1:=List.length_filter_le p (List.range i)
   rw [List.length_range] at h1
   omega
  refine ht i H _ _ hi hl λ H2 hl2 => ?_
  cases hp:p i with
  | true =>
    rw [if_pos rfl]
    refine he i H2 _ _ hi hl2 λ H3 hl3=>⟨hl3.get mS,hlen,hi,?_,hl3.put rfl rfl⟩
    rw [List.range_succ,List.filter_append,List.map_append,List.filter_cons,if_pos hp]
    rfl
  | false =>
    rw [if_neg Bool.false_ne_true]
    refine ⟨hi,?_,hl2⟩
    rw [List.range_succ,List.filter_append,List.map_append,List.filter_cons,if_neg (by rw [hp];exact Bool.false_ne_true)]
    simp
 ·rintro r acc H hr ⟨_,rfl,hl⟩
  exact hd r H hl
theorem U6 {n:Nat} {p:Nat->Bool} (z:Int):((((List.range n).filter p).map λ j:Nat=>V.int j).length:Int)=0 ∨ ∃ i:Nat,i < n/\p i=true/\(0:Int) < ((((List.range n).filter p).map λ j:Nat=>V.int j).length:Int)/\iw (((List.range n).filter p).map λ j:Nat=>V.int j) (z % ((((List.range n).filter p).map λ j:Nat=>V.int j).length:Int))=some (.int (i:Nat)):=by
 rw [List.length_map]
 by_cases h0:((List.range n).filter p).length=0
 ·exact .inl (by omega)
 ·have e0:=Int.emod_nonneg z (show (((List.range n).filter p).length:Int)≠0 by omega)
  have e1:=Int.emod_lt_of_pos z (show (0:Int) < ((List.range n).filter p).length by omega)
  have hj:(z % (((List.range n).filter p).length:Int)).toNat < ((List.range n).filter p).length:=by omega
  obtain ⟨h1,h2⟩:=List.mem_filter.mp (List.getElem_mem hj)
  exact .inr ⟨_,List.mem_range.mp h1,h2,by omega,cX e0 (by rw [List.getElem?_map,List.getElem?_eq_getElem hj];rfl)⟩
def CF (S:SS) (i:Nat):Bool:=match S.F.hs[i]? with
 | some (some (_,a))=>aX a || qu .aH S.ps
 | _=>false
theorem OL {S:SS} {i:Nat} (h:CF S i=true) : ∃ (t:Addr) (a:Th),S.F.hs[i]? = some (some (t,a)) ∧ ∀ m,a = .own m->qu .aH S.ps=true:=by
 unfold CF at h
 split at h
 ·rename_i t a hx
  refine ⟨t,a,hx,λ m e => ?_⟩
  rw [e] at h
  exact h
 ·cases h
def Hs (cT cF cD cS cI:Addr):Sp:=λ vs H Q _ => ∃ (S:SS) (n q:Nat) (c:Int) (sp mk sf rd:Addr) (us:List V) (ts:Ts) (M:Cells),vs = [.ref S.b,.ref sp,.ref mk,.ref sf,.ref rd,.int c]/\Led H (bq cT cF cD cS cI S (dM sp mk sf rd us S ts++M))/\Lr n q S us ts M/\S.p=0/\q<=128/\ts.length<=1000/\0<=c/\c<=1000000 ∧
 ∀ (S':SS) (us':List V) (ts':Ts) (N:Cells) (H':Hp),S'.b=S.b->S'.p=S.p->ts'.length<=ts.length+1->Lr n q S' us' ts' (N++M)->Led H' (bq cT cF cD cS cI S' (dM sp mk sf rd us' S' ts'++(N++M)))->Q (.bl true) H'
theorem ME (D:Def K mg "_law_deed" jj) (B:iY mg) (T:Txt K mg cU cA cB cC cT cF cD cS cI) (Gz:cZ P w K mg base 6 "_law_out" ["_law_store","_law_spots","_law_marks","_law_shelf","_law_rows","_law_pointer","_law_frame"] (PN cT cF cD cS cI)) (CG:cZ P w K mg base 8 "_law_again" ["_law_store","_law_spots","_law_shelf","_law_rows","_law_thing"] (Hr cT cF cD cS cI)) (l5:cZ P w K mg base 8 "_law_fill" ["_law_store","_law_spots","_law_shelf","_law_rows","_law_cell"] (CC cT cF cD cS cI)):cZ P w K mg base 9 "_law_deed" ["_law_store","_law_spots","_law_marks","_law_shelf","_law_rows","_law_cell"] (Hs cT cF cD cS cI):=by
 have sc:=AL
 refine D.ok AL (λ vs H Q E h => ?_) (λ _ _ _ _ _ _ us hl=>match us,hl with | [_,_,_,_,_,_],_=>rfl) (λ f cdv A outer s H vs Q E hr h => ?_)
 ·obtain ⟨_,_,_,_,_,_,_,_,_,_,_,rfl,_⟩:=h;rfl
 ·obtain ⟨S,n,q,c,sp,mk,sf,rd,us,ts,M,rfl,hL,lr,p0,RO,hts,c0,c9,k⟩:=h
  have hu:=gz hr
  have hsz:=sizeLine_eq
  have n64:=lr.g.n64
  have ul:us.length=n:=lr.s.l.trans lr.g.f.h
  have eW:=hL.get (St.up mS)
  refine ⟨_,(@ah _ _ _ _ _ (@gT _ _ "_law_k" _ _ _ _ _ _ _ _ _ _ 6 _ _ rfl rfl rfl rfl Pg (dh (by kernel_rfl)) (@cy _ _ _ _ _ _ (by rfl) B.range (@aa _ _ _ _ _ (@aK _ _ _ _ _ _ _ _ _ aS (by rfl) B.len bR (@aa _ _ _ _ _ (@ao _ 1 _ _ (by walk_at "v")) (@ai _) (by rfl)) (by decide) (by decide) (by rfl) (by rfl)) (@ai _) (by rfl)) (by rfl)) (λ _ _ _ _=>(@uM _ _ _ (@PW.pt _ _ _ (@pw_and _ _ _ _ _ _ _ (@aI _ _ _ _ _ _ _ _ oO (@aY _ _ _ _ _ _ _ aQ (@pk _ 2 _ _ (by kernel_rfl) (by kernel_rfl) (by decide) (by decide)) (@pk _ 0 _ _ (by kernel_rfl) (by kernel_rfl) (by decide) (by decide)) (λ _ _=>rfl)) (@bF _ _ _) (aO _)) (@pw_and1 _ _ _ _ (@PW.pt _ _ _ (@pw_or _ _ _ _ _ _ _ (@aI _ _ _ _ _ _ _ _ cz (@aY _ _ _ _ _ _ _ aQ (@aY _ _ _ _ _ _ _ aQ (@pk _ 2 _ _ (by kernel_rfl) (by kernel_rfl) (by decide) (by decide)) (@pk _ 0 _ _ (by kernel_rfl) (by kernel_rfl) (by decide) (by decide)) (λ _ _=>rfl)) (@aj _ _ _ _) (λ _ _=>rfl)) (@cW _ _ _ _) (aO _)) (@pw_or1 _ _ _ _ (@aI _ _ _ _ _ _ _ _ (Gu (K:=K) rfl) (@bF _ _ _) (@pk _ 4 _ _ (by kernel_rfl) (by kernel_rfl) (by decide) (by decide)) (by with_unfolding_all rfl)))))))))) (λ _ _ _ _=>(@pk _ 0 _ _ (by kernel_rfl) (by kernel_rfl) (by decide) (by decide))) sc.nd rfl (by walk_at "o2") (by intro _;rfl) (by rfl) (by walk_at "o4")) (@ah _ _ _ _ _ (@aU _ _ _ _ _ _ _ _ (@aI _ _ _ _ _ _ _ _ CV (@aK _ _ _ _ _ _ _ _ _ aS (by rfl) B.len bR (@aa _ _ _ _ _ (@ao _ 6 _ _ (by walk_at "v")) (@ai _) (by rfl)) (by decide) (by decide) (by rfl) (by rfl)) (@aj _ _ _ _) (aO _)) (@ah _ _ _ _ _ (@aL _ _ 7 _ _ _ _ sc.nd rfl (by walk_at "o2") (@aY _ _ _ _ _ _ _ aQ (@ao _ 6 _ _ (by walk_at "v")) (@aq _ _ _ _ _ _ _ _ aG (@aq _ _ _ _ _ _ _ _ bE (@ao _ 5 _ _ (by walk_at "v")) (@aj _ _ _ _)) (@aK _ _ _ _ _ _ _ _ _ aS (by rfl) B.len bR (@aa _ _ _ _ _ (@ao _ 6 _ _ (by walk_at "v")) (@ai _) (by rfl)) (by decide) (by decide) (by rfl) (by rfl))) (λ _ _=>rfl)) (by rfl) (by walk_at "o4")) (@ah _ _ _ _ _ (@aL _ _ 8 _ _ _ _ sc.nd rfl (by walk_at "o2") (@aY _ _ _ _ _ _ _ aQ (@ao _ 1 _ _ (by walk_at "v")) (@ao _ 7 _ _ (by walk_at "v")) (λ _ _=>rfl)) (by rfl) (by walk_at "o4")) (@ah _ _ _ _ _ (@aU _ _ _ _ _ _ _ _ (@ef _ _ _ _ (@bJ _ _ _ (@aB _ _ _ _ _ _ _ _ _ _ _ Gz (hr.mono (by omega)) (by rfl) az (@aa _ _ _ _ _ (@ao _ 0 _ _ (by walk_at "v")) (@aa _ _ _ _ _ (@ao _ 1 _ _ (by walk_at "v")) (@aa _ _ _ _ _ (@ao _ 2 _ _ (by walk_at "v")) (@aa _ _ _ _ _ (@ao _ 3 _ _ (by walk_at "v")) (@aa _ _ _ _ _ (@ao _ 4 _ _ (by walk_at "v")) (@aa _ _ _ _ _ (@aj _ _ _ _) (@aa _ _ _ _ _ (@ao _ 7 _ _ (by walk_at "v")) (@ai _) (by rfl)) (by rfl)) (by rfl)) (by rfl)) (by rfl)) (by rfl)) (by rfl)) (by decide) (by rfl) (by rfl)) (by intro _;rfl))) (@ak _ _ _ (@aD _ _ _ _ (@bB _ _ _ _))) (@aE _)) (@ak _ _ _ (@aU _ _ _ _ _ _ _ _ (@PW.pt _ _ _ (@pw_and _ _ _ _ _ _ _ (@aI _ _ _ _ _ _ _ _ cz (@aq _ _ _ _ _ _ _ _ aG (@ao _ 5 _ _ (by walk_at "v")) (@aj _ _ _ _)) (@aj _ _ _ _) (aO _)) (@pw_and1 _ _ _ _ (@ef _ _ _ _ (@bJ _ _ _ (@aB _ _ _ _ _ _ _ _ _ _ _ CG (hr.mono (by omega)) (by rfl) az (@aa _ _ _ _ _ (@ao _ 0 _ _ (by walk_at "v")) (@aa _ _ _ _ _ (@ao _ 1 _ _ (by walk_at "v")) (@aa _ _ _ _ _ (@ao _ 3 _ _ (by walk_at "v")) (@aa _ _ _ _ _ (@ao _ 4 _ _ (by walk_at "v")) (@aa _ _ _ _ _ (@ao _ 8 _ _ (by walk_at "v")) (@ai _) (by rfl)) (by rfl)) (by rfl)) (by rfl)) (by rfl)) (by decide) (by rfl) (by rfl)) (by intro _;rfl)))))) (@ak _ _ _ (@aD _ _ _ _ (@bB _ _ _ _))) (@aE _)))))) (@aE _)) (@ak _ _ _ (@aD _ _ _ _ (@OW _ _ _ _ _ _ _ (@jC _ _ _ _ _ _ _ _ cz (@aq _ _ _ _ _ _ _ _ aG (@ao _ 5 _ _ (by walk_at "v")) (@aj _ _ _ _)) (@aj _ _ _ _) (aO _)) (@nB _ _ _ _ _ (@aB _ _ _ _ _ _ _ _ _ _ _ l5 (hr.mono (by omega)) (by rfl) az (@aa _ _ _ _ _ (@ao _ 0 _ _ (by walk_at "v")) (@aa _ _ _ _ _ (@ao _ 1 _ _ (by walk_at "v")) (@aa _ _ _ _ _ (@ao _ 3 _ _ (by walk_at "v")) (@aa _ _ _ _ _ (@ao _ 4 _ _ (by walk_at "v")) (@aa _ _ _ _ _ (@aq _ _ _ _ _ _ _ _ aG (@aq _ _ _ _ _ _ _ _ fN (@ao _ 5 _ _ (by walk_at "v")) (@aj _ _ _ _)) (@aj _ _ _ _)) (@ai _) (by rfl)) (by rfl)) (by rfl)) (by rfl)) (by rfl)) (by decide) (by rfl) (by rfl)))))))),?_⟩
  refine aF λ M1 K1 => ?_
  walk_at "ge"
  refine Bv λ Lc mV => ?_
  walk_at "ge"
  refine ⟨_,rfl,by omega,by omega,mV.use ?_⟩
  clear mV eW
  rw [show ((us.length:Int)).toNat=n by omega]
  refine JB (CF S) hL (by omega) (λ j H2 R x hj hl2 hR => ?_) (λ j H2 R x hj hl2 hR => ?_) (λ pm H2 hl2 => ?_)
  ·have eW:=hl2.get (mC (St.up mS))
   have iZ:=hl2.get (mC (St.up (mC (mC mS))))
   obtain ⟨y,hy⟩ : ∃ y,S.F.hs[j]? = some y:=⟨_,List.getElem?_eq_getElem (by rw [lr.g.f.h];exact hj)⟩
   cases y with
   | none =>
     have hv:=lr.s.no j hy
     have au:iw us ((j:Nat):Int)=some .aH:=cX (by omega) (by rw [Int.toNat_natCast];exact hv)
     have hm:CF S j=false:=by unfold CF;rw [hy]
     rw [hm] at hR
     walk_at "ge"
     ·exact absurd (rfl:V.aH=V.aH) (by assumption)
     ·exact hR _ hl2
   | some y =>
     obtain ⟨v,hv,cv⟩:=lr.s.th j y.1 y.2 hy
     have au:iw us ((j:Nat):Int)=some (.ref v):=cX (by omega) (by rw [Int.toNat_natCast];exact hv)
     have Sy:=hl2.get (mC (St.up (mA cv)))
     have hm:CF S j=(aX y.2 || qu .aH S.ps):=by unfold CF;rw [hy]
     rw [hm] at hR
     obtain ⟨t2,a2⟩:=y
     cases a2 with
     | own m =>
       have abz:H2 v=some (.tup [.str (Str.ofString "own"),.int m]):=Sy
       clear Sy
       have hne : ¬ Str.ofString "own" = Str.ofString "file" := by decide +kernel
       cases hin:qu .aH S.ps with
       | true =>
         rw [hin] at hR
         walk_at "ge"
         ·exact absurd (by assumption) hne
         ·refine GU iZ rfl lr.g.flat ?_
          rw [hin]
          walk_at "ge"
          exact hR _ hl2
         ·exact nomatch (show V.ref v=V.aH by assumption)
       | false =>
         rw [hin] at hR
         walk_at "ge"
         ·exact absurd (by assumption) hne
         ·refine GU iZ rfl lr.g.flat ?_
          rw [hin]
          walk_at "ge"
          exact hR _ hl2
         ·exact nomatch (show V.ref v=V.aH by assumption)
     | file z p =>
       have abz:H2 v=some (.tup [.str (Str.ofString "file"),.str z,.int p]):=Sy
       clear Sy
       walk_at "ge"
       ·exact hR _ hl2
       ·exact absurd rfl (by assumption)
       ·exact nomatch (show V.ref v=V.aH by assumption)
  ·walk_at "ge"
   exact hR _ hl2
  ·obtain ⟨js,ejs⟩ : ∃ js:List V,(((List.range n).filter (CF S)).map λ j:Nat=>V.int j)=js:=⟨_,rfl⟩
   have PR:=U6 (n:=n) (p:=CF S) (c / 3)
   rw [ejs] at hl2 PR
   clear ejs
   obtain ⟨M2,JJ⟩ : ∃ M2:Cells,[(pm,HO.lst js)]++M=M2:=⟨_,rfl⟩
   have hl3:Led H2 (bq cT cF cD cS cI S (dM sp mk sf rd us S ts++M2)):=by rw [<-JJ];exact St.nA (St.push hl2) (aN [(pm,HO.lst js)] (dM sp mk sf rd us S ts) M)
   have Hi:Lr n q S us ts M2:=lr.mono λ x hx=>by rw [<-JJ];exact mC hx
   have abA:(pm,HO.lst js)∈M2:=by rw [<-JJ];exact mS
   clear hl2 hL
   walk_at "ge"
   refine K1.use ?_
   walk_at "cl"
   clear K1
   refine aF λ M1 K1 => ?_
   have rest : ∀ (S1:SS) (uG:List V) (N1:Cells) (H3:Hp) (v7 v8:Option V),S1.b=S.b->S1.p=S.p->Lr n q S1 uG ts (N1++M2)->Led H3 (bq cT cF cD cS cI S1 (dM sp mk sf rd uG S1 ts++(N1++M2)))->M1 [some (.ref S.b),some (.ref sp),some (.ref mk),some (.ref sf),some (.ref rd),some (.int c),some (.ref pm),v7,v8] H3:=by
    intro S1 uG N1 H3 v7 v8 b1 p1 yd bM
    refine K1.use ?_
    clear K1 hl3
    have e5 : ∀ X:Cells,X++(N1++M2)=(X++(N1++[(pm,HO.lst js)]))++M:=λ X=>by rw [<-JJ];simp
    walk_at "ge"
    ·have e6:=e5 []
     rw [List.nil_append] at e6
     rw [e6] at yd bM
     exact k S1 uG ts _ H3 b1 p1 (Nat.le_succ _) yd bM
    ·obtain ⟨d,hd⟩ : ∃ d:Int,c * 69621 % 15101=d:=⟨_,rfl⟩
     have d0:0<=d:=by rw [<-hd];exact Int.emod_nonneg _ (by decide)
     have d9:d < 15101:=by rw [<-hd];exact Int.emod_lt_of_pos _ (by decide)
     rw [hd]
     refine ⟨S1,n,q,d,sp,mk,sf,rd,uG,ts,_,by rw [b1];rfl,bM,yd,by omega,by omega,d0,by omega,λ S4 us4 ts4 N6 H4 y1 y2 y3 U7 cP => ?_⟩
     walk_at "ge"
     rw [e5] at U7 cP
     exact k S4 us4 ts4 _ H4 (y1.trans b1) (y2.trans p1) y3 U7 cP
   clear K1
   have MU:=hl3.get (St.up (mA abA))
   rcases PR with h0 | ⟨i,hin,hp,hpos,hat⟩
   ·walk_at "ge"
    ·exfalso;omega
    ·exact rest S us [] H2 none none rfl rfl Hi hl3
   ·obtain ⟨t,a,hi,hno⟩:=OL hp
    obtain ⟨u,hu2,cu⟩:=lr.s.th i t a hi
    have au:iw us ((i:Nat):Int)=some (.ref u):=cX (by omega) (by rw [Int.toNat_natCast];exact hu2)
    have JA:(u,HO.tup (gc a))∈M2:=by rw [<-JJ];exact mC cu
    have eW:=hl3.get (St.up mS)
    walk_at "ge"
    ·refine ⟨S,n,q,i,t,a,sp,mk,sf,rd,us,ts,M2,by rw [p0];rfl,hl3,Hi,hi,hno,λ S1 uG N1 H3 b1 p1 free nf yd bM => ?_⟩
     clear hl3 eW MU
     walk_at "ge"
     ·refine ⟨S1,n,q,u,a,sp,mk,sf,rd,uG,ts,N1++M2,by rw [b1];rfl,bM,yd,mA JA,nf,lr.xU a (.inl ⟨i,t,hi⟩),⟨i,free⟩,λ S2 us2 N2 H4 b2 p2 Hj cP => ?_⟩
      walk_at "ge"
      have e6:N2++(N1++M2)=(N2++N1)++M2:=(List.append_assoc ..).symm
      rw [e6] at Hj cP
      exact rest S2 us2 (N2++N1) H4 _ _ (b2.trans b1) (p2.trans p1) Hj cP
     ·exact rest S1 uG N1 H3 _ _ b1 p1 yd bM
    ·exfalso;omega
end
section
variable {P:Program} {w:World} {K:PySem.W.Frag} {mg:Str->Option Value} {base:Heap} {cU cA cB cC cT cF cD cS cI:Addr}
theorem R4 {f:Addr} {fd:FuncData} (F:HU K "law" "law" vH f fd) (B:iY mg) (T:Txt K mg cU cA cB cC cT cF cD cS cI) (OM:iA P w K mg base 3 cT ["self","many","places"] (G8 cT cF cD cS cI)) (bg:cZ P w K mg base 1 "_law_cell_at" ["_law_script","_law_k"] (xJ K)) (CH:cZ P w K mg base 1 "_law_sizes" ["_law_cell"] Hg) (CI:cZ P w K mg base 9 "_law_begun" ["_law_store","_law_spots","_law_shelf","_law_rows","_law_script"] (Hq K cT cF cD cS cI)) (gu:cZ P w K mg base 5 "_law_is_store" ["_law_store","_law_spots","_law_marks","_law_shelf","_law_pointer"] (sj cT cF cD cS cI)) (Ef:cZ P w K mg base 3 "_law_stir" ["_law_store","_law_spots","_law_marks","_law_rows","_law_cell"] (Mq cT cF cD cS cI)) (Eg:cZ P w K mg base 9 "_law_deed" ["_law_store","_law_spots","_law_marks","_law_shelf","_law_rows","_law_cell"] (Hs cT cF cD cS cI)) (fS:cZ P w K mg base 5 "_law_row_there" ["_law_store","_law_spots","_law_shelf","_law_thing"] (oB cT cF cD cS cI)) (aM:cZ P w K mg base 4 "_law_alike" ["_law_found","_law_due"] (jN 2)):gj P w K mg base (yb P w) 10 f fd ["_law_script"] (EO K):=by
 have sc:=Ri
 refine F.okN sc (λ vs H Q E h => ?_) (λ cdv A outer s H vs Q E hr h => ?_)
 ·obtain ⟨a,ns,rfl,_⟩:=h;rfl
 ·obtain ⟨a,ns,rfl,hS,hlen,Dj,hO,k⟩:=h
  have hu:=gz hr
  refine ⟨_,(@ah _ _ _ _ _ (@bC _ _ _ _ _ _ (@aB _ _ _ _ _ _ _ _ _ _ _ CH (hr.mono (by omega)) (by rfl) az (@aa _ _ _ _ _ (@aB _ _ _ _ _ _ _ _ _ _ _ bg (hr.mono (by omega)) (by rfl) az (@aa _ _ _ _ _ (@ao _ 0 _ _ (by walk_at "v")) (@aa _ _ _ _ _ (@aj _ _ _ _) (@ai _) (by rfl)) (by rfl)) (by decide) (by rfl) (by rfl)) (@ai _) (by rfl)) (by decide) (by rfl) (by rfl)) (@Ql _ _ _ _ _ _ rfl (@CU _ _ _ _ _ (@fc _ _ 1 _ sc.nd rfl (by walk_at "o2") (by walk_at "o4")) (@CU _ _ _ _ _ (@fc _ _ 2 _ sc.nd rfl (by walk_at "o2") (by walk_at "o4")) (@M6 _) (by rfl)) (by rfl)) (by rfl) (by rfl)) (by rfl) (by rfl) (by rfl)) (@ah _ _ _ _ _ (@aL _ _ 3 _ _ _ _ sc.nd rfl (by walk_at "o2") (@oX _ _ _ _ _ _ _ _ _ _ _ _ T.aZ OM (hr.mono (by omega)) (by rfl) az (@aa _ _ _ _ _ (@ao _ 1 _ _ (by walk_at "v")) (@aa _ _ _ _ _ (@ao _ 2 _ _ (by walk_at "v")) (@ai _) (by rfl)) (by rfl)) (by decide) (by rfl) (by rfl)) (by rfl) (by walk_at "o4")) (@ah _ _ _ _ _ (@aL _ _ 4 _ _ _ _ sc.nd rfl (by walk_at "o2") (@aq _ _ _ _ _ _ _ _ kN (@iT _ _ _ _ (@aa _ _ _ _ _ (@bF _ _ _) (@ai _) (by rfl))) (@ao _ 1 _ _ (by walk_at "v"))) (by rfl) (by walk_at "o4")) (@ah _ _ _ _ _ (@aL _ _ 5 _ _ _ _ sc.nd rfl (by walk_at "o2") (@aq _ _ _ _ _ _ _ _ kN (@iT _ _ _ _ (@aa _ _ _ _ _ (@bB _ _ _ _) (@ai _) (by rfl))) (@ao _ 1 _ _ (by walk_at "v"))) (by rfl) (by walk_at "o4")) (@ah _ _ _ _ _ (@aL _ _ 6 _ _ _ _ sc.nd rfl (by walk_at "o2") (@aq _ _ _ _ _ _ _ _ kN (@iT _ _ _ _ (@aa _ _ _ _ _ (@bF _ _ _) (@ai _) (by rfl))) (@ao _ 2 _ _ (by walk_at "v"))) (by rfl) (by walk_at "o4")) (@ah _ _ _ _ _ (@aL _ _ 7 _ _ _ _ sc.nd rfl (by walk_at "o2") (@Kd _ _) (by rfl) (by walk_at "o4")) (@ah _ _ _ _ _ (@aU _ _ _ _ _ _ _ _ (@ef _ _ _ _ (@bJ _ _ _ (@aB _ _ _ _ _ _ _ _ _ _ _ CI (hr.mono (by omega)) (by rfl) az (@aa _ _ _ _ _ (@ao _ 3 _ _ (by walk_at "v")) (@aa _ _ _ _ _ (@ao _ 4 _ _ (by walk_at "v")) (@aa _ _ _ _ _ (@ao _ 6 _ _ (by walk_at "v")) (@aa _ _ _ _ _ (@ao _ 7 _ _ (by walk_at "v")) (@aa _ _ _ _ _ (@ao _ 0 _ _ (by walk_at "v")) (@ai _) (by rfl)) (by rfl)) (by rfl)) (by rfl)) (by rfl)) (by decide) (by rfl) (by rfl)) (by intro _;rfl))) (@ak _ _ _ (@aD _ _ _ _ (@bB _ _ _ _))) (@aE _)) (@ah _ _ _ _ _ (@jA _ _ _ _ _ _ _ _ PassesOwn.never rfl (@iz _ _ _ _ (@kK _ _ _ _ _ _ _ _ _ _ (vp (K:=K) rfl) (@ao _ 0 _ _ (by walk_at "v")) (@l7 _ _ _ (@aj _ _ _ _)) (@l7 _ _ _ (@aj _ _ _ _)))) (@fc _ _ 8 _ sc.nd rfl (by walk_at "o2") (by walk_at "o4")) (@ah _ _ _ _ _ (@bY _ _ _ _ (@aB _ _ _ _ _ _ _ _ _ _ _ Ef (hr.mono (by omega)) (by rfl) az (@aa _ _ _ _ _ (@ao _ 3 _ _ (by walk_at "v")) (@aa _ _ _ _ _ (@ao _ 4 _ _ (by walk_at "v")) (@aa _ _ _ _ _ (@ao _ 5 _ _ (by walk_at "v")) (@aa _ _ _ _ _ (@ao _ 7 _ _ (by walk_at "v")) (@aa _ _ _ _ _ (@ao _ 8 _ _ (by walk_at "v")) (@ai _) (by rfl)) (by rfl)) (by rfl)) (by rfl)) (by rfl)) (by decide) (by rfl) (by rfl)) (by rfl)) (@ak _ _ _ (@aU _ _ _ _ _ _ _ _ (@ef _ _ _ _ (@bJ _ _ _ (@aB _ _ _ _ _ _ _ _ _ _ _ Eg (hr.mono (by omega)) (by rfl) az (@aa _ _ _ _ _ (@ao _ 3 _ _ (by walk_at "v")) (@aa _ _ _ _ _ (@ao _ 4 _ _ (by walk_at "v")) (@aa _ _ _ _ _ (@ao _ 5 _ _ (by walk_at "v")) (@aa _ _ _ _ _ (@ao _ 6 _ _ (by walk_at "v")) (@aa _ _ _ _ _ (@ao _ 7 _ _ (by walk_at "v")) (@aa _ _ _ _ _ (@aq _ _ _ _ _ _ _ _ aG (@aq _ _ _ _ _ _ _ _ oV (@ao _ 8 _ _ (by walk_at "v")) (@aj _ _ _ _)) (@aj _ _ _ _)) (@ai _) (by rfl)) (by rfl)) (by rfl)) (by rfl)) (by rfl)) (by rfl)) (by decide) (by rfl) (by rfl)) (by intro _;rfl))) (@ak _ _ _ (@aD _ _ _ _ (@bB _ _ _ _))) (@aE _)))) (by intro _;rfl)) (@ah _ _ _ _ _ (@jA _ _ _ _ _ _ _ _ PassesOwn.never rfl (@iz _ _ _ _ (@br _ _ _ _ _ _ _ _ _ (kW rfl) (by rfl) B.list bZ (@aa _ _ _ _ _ (@ao _ 7 _ _ (by walk_at "v")) (@ai _) (by rfl)) (by decide) (by decide) (by rfl) (by rfl))) (@fc _ _ 9 _ sc.nd rfl (by walk_at "o2") (by walk_at "o4")) (@ak _ _ _ (@aU _ _ _ _ _ _ _ _ (@ef _ _ _ _ (@bJ _ _ _ (@aB _ _ _ _ _ _ _ _ _ _ _ aM (hr.mono (by omega)) (by rfl) az (@aa _ _ _ _ _ (@aB _ _ _ _ _ _ _ _ _ _ _ fS (hr.mono (by omega)) (by rfl) az (@aa _ _ _ _ _ (@ao _ 3 _ _ (by walk_at "v")) (@aa _ _ _ _ _ (@ao _ 4 _ _ (by walk_at "v")) (@aa _ _ _ _ _ (@ao _ 6 _ _ (by walk_at "v")) (@aa _ _ _ _ _ (@ao _ 9 _ _ (by walk_at "v")) (@ai _) (by rfl)) (by rfl)) (by rfl)) (by rfl)) (by decide) (by rfl) (by rfl)) (@aa _ _ _ _ _ (@gA _ _ _ _ _ _ hu (@ao _ 7 _ _ (by walk_at "v")) (@ao _ 9 _ _ (by walk_at "v")) (λ _ _=>rfl)) (@ai _) (by rfl)) (by rfl)) (by decide) (by rfl) (by rfl)) (by intro _;rfl))) (@ak _ _ _ (@aD _ _ _ _ (@bB _ _ _ _))) (@aE _))) (by intro _;rfl)) (@ak _ _ _ (@aD _ _ _ _ (@aB _ _ _ _ _ _ _ _ _ _ _ gu (hr.mono (by omega)) (by rfl) az (@aa _ _ _ _ _ (@ao _ 3 _ _ (by walk_at "v")) (@aa _ _ _ _ _ (@ao _ 4 _ _ (by walk_at "v")) (@aa _ _ _ _ _ (@ao _ 5 _ _ (by walk_at "v")) (@aa _ _ _ _ _ (@ao _ 6 _ _ (by walk_at "v")) (@aa _ _ _ _ _ (@aj _ _ _ _) (@ai _) (by rfl)) (by rfl)) (by rfl)) (by rfl)) (by rfl)) (by decide) (by rfl) (by rfl))))))))))))),?_⟩
  obtain ⟨L,hL,hs⟩:=Ic hS hO
  clear hO
  refine aF λ M1 K1 => ?_
  walk_at "ge"
  refine ⟨a,ns,0,rfl,by decide,hS,?_⟩
  walk_at "ge"
  generalize ns.getD (Int.toNat 0) 0=first
  refine ⟨first,L,rfl,hL,λ p0 H1 hl1 => ?_⟩
  obtain ⟨z1,z2,z3,z4⟩:=Gs first
  obtain ⟨n,hn⟩ : ∃ n:Nat,(sizesOf first).1=n:=⟨_,(Int.toNat_of_nonneg (by omega)).symm⟩
  obtain ⟨q,hq⟩ : ∃ q:Nat,(sizesOf first).2=q:=⟨_,(Int.toNat_of_nonneg z3).symm⟩
  rw [hn,hq] at hl1
  rw [hn] at z1 z2
  rw [hq] at z3 z4
  clear hn hq
  walk_at "ge"
  refine Ur (hl1.get mS) ?_
  walk_at "ge"
  refine K1.use ?_
  walk_at "cl"
  clear K1
  refine aF λ M1 K1 => ?_
  walk_at "ge"
  intro st dx y1 y2 y3
  refine ⟨st,dx,n,q,_,rfl,hl1.make y1 y2 y3,by omega,by omega,λ fr Ai l r s' di Ct mk0 sh CO pl rdd fi CP fd ho H2 hl2=>⟨rfl,?_⟩⟩
  clear y1 y2 y3
  walk_at "ge"
  refine K1.use ?_
  walk_at "cl"
  clear K1
  obtain ⟨PU,R6⟩ : ∃ S,S=S0 st dx fr Ai l r s' di Ct mk0 sh CO pl rdd fi CP fd ho n q:=⟨_,rfl⟩
  rw [<-R6] at hl2
  refine aF λ M1 K1 => ?_
  walk_at "ge"
  rename Led _ _=>hl3
  refine Dm (hl3.get mS) ⟨by omega,by omega⟩ (by have:=sizeLine_eq;simp only [List.length_cons,List.length_nil];omega) (Led.alloc hl3 λ sp H3 _ bM _ => ?_)
  rw [Lq,Int.toNat_natCast] at bM
  walk_at "ge"
  refine K1.use ?_
  walk_at "cl"
  clear K1
  refine aF λ M1 K1 => ?_
  walk_at "ge"
  rename Led _ _=>cP
  refine Dm (cP.get mS) ⟨by omega,by omega⟩ (by have:=sizeLine_eq;simp only [List.length_cons,List.length_nil];omega) (Led.alloc cP λ mk H4 _ eX _ => ?_)
  rw [Ly,Int.toNat_natCast] at eX
  walk_at "ge"
  refine K1.use ?_
  walk_at "cl"
  clear K1
  refine aF λ M1 K1 => ?_
  walk_at "ge"
  rename Led _ _=>iu
  refine Dm (iu.get mS) ⟨by omega,by omega⟩ (by have:=sizeLine_eq;simp only [List.length_cons,List.length_nil];omega) (Led.alloc iu λ sf H5 _ lW _ => ?_)
  rw [Lq,Int.toNat_natCast] at lW
  walk_at "ge"
  refine K1.use ?_
  walk_at "cl"
  clear K1
  refine aF λ M1 K1 => ?_
  walk_at "ge"
  refine Led.alloc lW λ rd H6 _ lX _ => ?_
  walk_at "ge"
  refine K1.use ?_
  walk_at "cl"
  clear K1
  have fF:Led H6 ((sp,.lst (List.replicate n .aH))::(mk,.lst ((List.replicate n false).map V.bl))::(sf,.lst (List.replicate q .aH))::(rd,.dT [])::bq cT cF cD cS cI PU ((p0,.tup [.int (n:Nat),.int (q:Nat)])::L)):=lX.wk (by walk_at "sp")
  clear lX lW iu eX cP bM hl3 hl2 hl1
  obtain ⟨M0,eM0⟩ : ∃ M0:Cells,(p0,HO.tup [.int (n:Nat),.int (q:Nat)])::L=M0:=⟨_,rfl⟩
  have fG:Led H6 (bq cT cF cD cS cI PU (dM sp mk sf rd (List.replicate n .aH) PU []++M0)):=St.jw [_,_,_,_] (by rw [R6,<-eM0] at *;exact fF)
  have lr0:Lr n q PU (List.replicate n .aH) [] M0:=by rw [R6];exact Lr.laid (by omega) (by omega) (by omega)
  have eb0:PU.b=st:=by rw [R6];rfl
  have ep0:PU.p=0:=by rw [R6];rfl
  have ef0:PU.fs = []:=by rw [R6];rfl
  have RY : ∀ H',Led H' M0->eY K H' a (ns.map V.int):=λ H' h=>hs.seq (by rw [<-eM0] at h;exact h.tail)
  clear fF R6
  refine aF λ M1 K1 => ?_
  walk_at "ge"
  refine ⟨PU,n,q,sp,mk,sf,rd,a,ns,_,M0,by rw [eb0];rfl,fG,lr0,ef0,by omega,RY,λ S1 uG V8 N1 H7 b1 p1 t1 xX fR => ?_⟩
  rw [eb0] at b1
  rw [ep0] at p1
  walk_at "ge"
  refine K1.use ?_
  walk_at "cl"
  clear K1 fG
  have sq:eY K H7 a (ns.map V.int):=RY _ (Led.right (Led.right (St.rest fR)))
  refine aF λ M1 K1 => ?_
  refine forL λ V1 qb => ?_
  walk_at "ge"
  obtain ⟨cs,hcs,hcl⟩:=Kz ns (some 4) (some 64)
  have hmem : ∀ x∈cs,x∈ns:=λ x hx=>by
   have h1:V.int x∈kL (ns.map V.int) (some 4) (some 64):=by rw [hcs];exact List.mem_map.mpr ⟨x,hx,rfl⟩
   unfold kL at h1
   have h2:=List.mem_of_mem_drop (List.mem_of_mem_take h1)
   obtain ⟨y,hy,e⟩:=List.mem_map.mp h2
   cases e
   exact hy
  refine Uj sq λ sl hsl => ?_
  rw [hcs]
  refine ⟨sl,rfl,⟨_,eY.of i6⟩,qb.use ?_⟩
  have D5:=fR.new (o := .lst (cs.map V.int)) hsl
  generalize upd H7 sl (.lst (cs.map V.int))=H9 at D5 ⊢
  obtain ⟨N3,eN3⟩ : ∃ N3:Cells,(sl,HO.lst (cs.map V.int))::N1=N3:=⟨_,rfl⟩
  have e3:[(sl,HO.lst (cs.map V.int))]++(N1++M0)=N3++M0:=by rw [<-eN3];simp
  have Jz:Led H9 (bq cT cF cD cS cI S1 (dM sp mk sf rd uG S1 V8++(N3++M0))):=by
   rw [<-e3]
   exact St.nA (St.push D5) (aN [(sl,HO.lst (cs.map V.int))] (dM sp mk sf rd uG S1 V8) (N1++M0))
  have yd:Lr n q S1 uG V8 (N3++M0):=by rw [<-e3];exact xX.mono λ x hx=>mA hx
  have abB:(sl,HO.lst (cs.map V.int))∈N3:=by rw [<-eN3];exact mS
  clear qb sq fR hsl D5 hcs xX
  walk_at "cl"
  refine O7 (cs.map V.int) (λ i σ H' => ∃ (S:SS) (us:List V) (ts:Ts) (N:Cells),S.b=st/\S.p=0/\ts.length<=128+i/\Lr n q S us ts (N++M0)/\Led H' (bq cT cF cD cS cI S (dM sp mk sf rd us S ts++(N++M0)))/\(sl,HO.lst (cs.map V.int))∈N ∧ ∃ v9,σ = [some (.ref a),some (.int (n:Nat)),some (.int (q:Nat)),some (.ref st),some (.ref sp),some (.ref mk),some (.ref sf),some (.ref rd),v9,none]) ⟨S1,uG,V8,N3,b1,p1,t1,yd,Jz,abB,none,rfl⟩ (λ i σ H' _ h => ?_) ?_ ?_
  ·obtain ⟨S,us,ts,N,_,_,_,_,hl,PF,_⟩:=h
   exact eY.of (hl.get (St.up (mA (mB PF))))
  ·clear Jz K1 k
   rintro i v σ H' hv ⟨S,us,ts,N,q1,qp,q2,lr,hl,PF,v9,rfl⟩
   rw [List.getElem?_map] at hv
   obtain ⟨cell,hcell,rfl⟩:=Option.map_eq_some_iff.mp hv
   have hcb:=Dj cell (hmem cell (List.mem_of_getElem? hcell))
   have hi:i < cs.length:=(List.getElem?_eq_some_iff.mp hcell).1
   walk_at "ge"
   refine ⟨S,n,q,cell,sp,mk,sf,rd,us,ts,_,by rw [q1];rfl,hl,lr,by omega,hcb,λ S2 Ec N4 H2 r1 r2 r3 Hi hl2 => ?_⟩
   have tl2:Ec.length=ts.length:=by have:=congrArg List.length r3;simpa using this
   walk_at "ge"
   obtain ⟨c,hc⟩ : ∃ c:Int,cell * 48271 % 104729=c:=⟨_,rfl⟩
   have c0:0<=c:=by rw [<-hc];exact Int.emod_nonneg _ (by decide)
   have c9:c < 104729:=by rw [<-hc];exact Int.emod_lt_of_pos _ (by decide)
   rw [hc]
   refine ⟨S2,n,q,c,sp,mk,sf,rd,us,Ec,_,by rw [r1,q1];rfl,hl2,Hi,r2.trans qp,by omega,by omega,c0,by omega,λ S4 us4 ts4 N6 H4 y1 y2 y3 U7 cP => ?_⟩
   walk_at "ge"
   have e8:N6++(N4++(N++M0))=(N6++(N4++N))++M0:=by simp
   rw [e8] at U7 cP
   exact ⟨S4,us4,ts4,_,y1.trans (r1.trans q1),y2.trans (r2.trans qp),by omega,U7,cP,mA (mA PF),_,rfl⟩
  ·clear Jz
   rintro σ H' ⟨S,us,ts,N,q1,qp,q2,lr,hl,PF,v9,rfl⟩
   walk_at "ge"
   refine K1.use ?_
   walk_at "cl"
   clear K1
   refine aF λ M1 K1 => ?_
   refine forL λ V1 qb => ?_
   have nv:=hl.get (St.up (mC (mC (mC mS))))
   walk_at "ge"
   refine sr nv hl λ ky ys H2 ey hl2 => ?_
   refine ⟨ky,rfl,⟨_,eY.of (hl2.get mS)⟩,qb.use ?_⟩
   clear qb nv hl
   have hl3:=St.jw ((ky,HO.lst (ys.map λ y=>V.ref y.1))::OF ys) hl2
   obtain ⟨Z,eZ⟩ : ∃ Z:Cells,((ky,HO.lst (ys.map λ y=>V.ref y.1))::OF ys)++(dM sp mk sf rd us S ts++(N++M0))=Z:=⟨_,rfl⟩
   rw [eZ] at hl3
   have abC:(ky,HO.lst (ys.map λ y=>V.ref y.1))∈Z:=by rw [<-eZ];exact mS
   have i_y : ∀ y∈ys,(y.1,HO.tup (gc y.2))∈Z:=λ y hy=>by rw [<-eZ];exact mB (mC (List.mem_map.mpr ⟨y,hy,rfl⟩))
   have MW : ∀ x∈dM sp mk sf rd us S ts++(N++M0),x∈Z:=λ x hx=>by rw [<-eZ];exact mA hx
   clear hl2
   walk_at "cl"
   refine O7 (ys.map λ y=>V.ref y.1) (λ i σ H' => ∃ (W:Cells) (v10:Option V),Led H' (bq cT cF cD cS cI S (W++Z)) ∧ σ = [some (.ref a),some (.int (n:Nat)),some (.int (q:Nat)),some (.ref st),some (.ref sp),some (.ref mk),some (.ref sf),some (.ref rd),v9,v10]) ⟨[],none,hl3,rfl⟩ (λ i σ H' _ h => ?_) ?_ ?_
   ·obtain ⟨W,_,hl,_⟩:=h
    exact eY.of (hl.get (St.up (mA abC)))
   ·clear hl3 K1 k
    rintro i v σ H' hv ⟨W,v10,hl,rfl⟩
    rw [List.getElem?_map] at hv
    obtain ⟨y,hyi,rfl⟩:=Option.map_eq_some_iff.mp hv
    have hy:=List.mem_of_getElem? hyi
    have hk:y.2∈ts.map (·.1):=by rw [<-ey];exact List.mem_map.mpr ⟨y,hy,rfl⟩
    obtain ⟨e,he,ea⟩:=List.mem_map.mp hk
    have ea':e.1=y.2:=ea
    obtain ⟨ie,rat,V0⟩:=lr.rw e he
    have e4:e.2.2.length=4:=by
     rcases rat with ⟨j,v,r,h5,h6⟩ | ⟨_,h5⟩
     ·obtain ⟨r',fH,h7,h8⟩:=lr.g.rr j v e.1 h5
      rw [h6] at h7
      cases h7
      exact h8
     ·exact h5.len lr.g
    have JA:(y.1,HO.tup (gc e.1))∈W++Z:=by rw [ea'];exact mA (i_y y hy)
    walk_at "ge"
    refine ⟨S,n,q,y.1,sp,sf,e.1,e.2.2,us,_,by rw [q1];rfl,hl,lr.g.mono (λ x hx=>mA (MW _ (mA hx))),lr.s.mono (λ x hx=>mA (MW _ (mA hx))),mA (MW _ mS),JA,V0,rat,λ r N5 H5 p9 lX => ?_⟩
    have nv:=lX.get (St.up (mA (mA (MW _ (mC (mC (mC mS)))))))
    have xY:H5 y.1=some (.tup ((kE e.1).map kV)):=by rw [qh];exact lX.get (St.up (mA JA))
    walk_at "ge"
    refine D8 nv xY (xP lr.nd he) ?_
    walk_at "ge"
    refine ⟨_,_,rfl,lZ (lX.get (St.up (mB p9))) (lX.get (St.up (mA (mA (MW _ (mA ie)))))) (by omega),?_⟩
    walk_at "ge"
    exact ⟨N5++W,_,by rw [List.append_assoc];exact lX,rfl⟩
   ·clear hl3
    rintro σ H' ⟨W,v10,hl,rfl⟩
    walk_at "ge"
    refine K1.use ?_
    walk_at "ge"
    refine ⟨S,n,q,sp,mk,sf,us,_,by rw [q1,qp];rfl,hl,lr.g.mono (λ x hx=>mA (MW _ (mA hx))),mA (MW _ mS),mA (MW _ (mC mS)),mA (MW _ (mC (mC mS))),lr.s.mono (λ x hx=>mA (MW _ (mA hx))),λ N9 H9 lX => ?_⟩
    walk_at "ge"
    exact k _
end
section
variable {P:Program} {w:World} {K:PySem.W.Frag} {mg:Str->Option Value} {base:Heap} {cU cA cB cC cT cF cD cS cI:Addr}
theorem R7 {f:Addr} {fd:FuncData} (F:HU K "law" "law" vH f fd) (B:iY mg) (T:Txt K mg cU cA cB cC cT cF cD cS cI):gj P w K mg base (yb P w) 10 f fd ["_law_script"] (EO K):=by
 have Ht:=LJ (P:=P) (w:=w) (base:=base) T.vJ B T
 have x9:=Jj (P:=P) (w:=w) (base:=base) T.tw B T
 have MF:=Jh (P:=P) (w:=w) (base:=base) T.sZ B T
 have MG:=Ob (P:=P) (w:=w) (base:=base) T.yw B T
 have ON:=Jk (P:=P) (w:=w) (base:=base) T.tu B T (Oc T.BH B)
 have Hu:=LB (P:=P) (w:=w) (base:=base) T.BE T
 have OO:=LA (P:=P) (w:=w) (base:=base) T.BD T
 have MH:=Oe (P:=P) (w:=w) (base:=base) T.tD T
 have Eh:=Jm (P:=P) (w:=w) (base:=base) T.vM B T
 have U8:=Rx (P:=P) (w:=w) (base:=base) T.vL B T MH
 have R8:=Of (P:=P) (w:=w) (base:=base) T.qD B T
 have OP:=Jp (P:=P) (w:=w) (base:=base) T.k9 B T
 have R9:=DY (P:=P) (w:=w) (base:=base) T.qE B T
 have Sa:=Og (P:=P) (w:=w) (base:=base) T.tE B T R9
 have MI:=DZ (P:=P) (w:=w) (base:=base) T.qF B T Sa
 have OQ:=LS (P:=P) (w:=w) (base:=base) T.o9 B T MI
 have Hv:=Ju (P:=P) (w:=w) (base:=base) T.vN B T MI
 have Sb:=D4 (P:=P) (w:=w) (base:=base) T.EV T
 have Sd:=Oh (P:=P) (w:=w) (base:=base) T.BI T (Lu T.vI B T) Hu
 have Se:=Jg (P:=P) (w:=w) (base:=base) T.nM T
 have PV:=Gn (P:=P) (w:=w) (base:=base) T.Ii T (DX T.o8 T) MF Se U8 OQ Sb Sd
 have MJ:=Oj (P:=P) (w:=w) (base:=base) T.BJ B T (Ad T.mG T Ht) x9 MH (Jf T.yx B T) Sb PV
 have Sf:=Oo (P:=P) (w:=w) (base:=base) T.Ik B T x9 Eh
 have U9:=RE (P:=P) (w:=w) (base:=base) T.Dv B T MG Sf MJ
 have JC:=Gr (P:=P) (w:=w) (base:=base) T.Ij T R8 Hv Sb
 have Hw:=Mc (P:=P) (w:=w) (base:=base) T.NR B T Ht MG JC MJ
 have OR:=LU (P:=P) (w:=w) (base:=base) T.Il B T
 have qk:=D3 (P:=P) (w:=w) (base:=base) T.Im B T OR 2
 have g_num:=Rz (P:=P) (w:=w) (base:=base) T.NS T
 have g_row:=RA (P:=P) (w:=w) (base:=base) T.NT B T g_num
 have MK:=Gj (P:=P) (w:=w) (base:=base) T.Dw B
 have Va:=D6 (P:=P) (w:=w) (base:=base) T.BK B T x9 (LC T.BF B T) (Gf T.vK T) Eh qk
 have Hx:=Cz (P:=P) (w:=w) (base:=base) T.yy B T MF OP Hv
 have Sg:=OE (P:=P) (w:=w) (base:=base) T.KQ B T OO Hu ON g_num (OB T.Dy B T)
 have ML:=Ms (P:=P) (w:=w) (base:=base) T.KR B T Hw U9 g_row qk
 have OS:=MC (P:=P) (w:=w) (base:=base) T.Iq B T (OJ T.BG B T) MK (OD T.KP B T) g_row ML
 have l_out:=R0 (P:=P) (w:=w) (base:=base) T.NU B T Se PV Va Hx qk
 have OT:=MD (P:=P) (w:=w) (base:=base) T.Ip B T Se MF Hw qk
 have Sh:=ME (P:=P) (w:=w) (base:=base) T.KS B T l_out OT ML
 exact R4 F B T (L8 T.NO T (Ls T.KO T) (Lz T.Rl T) (Jl T.NP T) (LP T.NQ T)) MK (Mf T.Io T) OS Va Sg Sh Hx qk
end
end My
set_option Elab.async false
set_option linter.all false
set_option maxRecDepth 100000
def PySem.W.Fast.tw12588420265280806731:Unit:=()
def PySem.W.Fast.tw1399824328562370956:Unit:=()
def PySem.W.Fast.tw2092827745110523405:Unit:=()
def PySem.W.Fast.tw18383361684291124769:Unit:=()
def PySem.W.Fast.tw3474660944581297775:Unit:=()
def PySem.W.Fast.tw18089964988782788593:Unit:=()
def PySem.W.Fast.tw470029749250111651:Unit:=()
def PySem.W.Fast.tw5139675399857256648:Unit:=()
def PySem.W.Fast.tw6874951423885731666:Unit:=()
def PySem.W.Fast.tw15778040945207122493:Unit:=()
def PySem.W.Fast.tw6224159948883941886:Unit:=()
def PySem.W.Fast.tw2376202575595373726:Unit:=()
def PySem.W.Fast.tw9588378496356532455:Unit:=()
def PySem.W.Fast.tw5151177085172295933:Unit:=()
def PySem.W.Fast.tw7228467243422812564:Unit:=()
def PySem.W.Fast.tw8206138353242755879:Unit:=()
def PySem.W.Fast.tw11890081952257252154:Unit:=()
def PySem.W.Fast.tw5271047308676418716:Unit:=()
def PySem.W.Fast.tw9195715732005882901:Unit:=()
def PySem.W.Fast.tw12674505920215839232:Unit:=()
def PySem.W.Fast.tw12185227250248597945:Unit:=()
def PySem.W.Fast.tw7253972738820096346:Unit:=()
def PySem.W.Fast.tw11656844718055493698:Unit:=()
def PySem.W.Fast.tw2080804738170109701:Unit:=()
def PySem.W.Fast.tw4743667509883201223:Unit:=()
def PySem.W.Fast.tw16782964480191841467:Unit:=()
def PySem.W.Fast.tw2429767029348379960:Unit:=()
def PySem.W.Fast.tw13975590918800020580:Unit:=()
def PySem.W.Fast.tw5010508364983553100:Unit:=()
def PySem.W.Fast.tw3626140767649548211:Unit:=()
def PySem.W.Fast.tw6198454491918117227:Unit:=()
def PySem.W.Fast.tw2911353974538937272:Unit:=()
def PySem.W.Fast.tw4743494436108889330:Unit:=()
def PySem.W.Fast.tw17030615126549909876:Unit:=()
def PySem.W.Fast.tw9482366787264855204:Unit:=()
def PySem.W.Fast.tw10005854686626031549:Unit:=()
def PySem.W.Fast.tw10709119407988740007:Unit:=()
def PySem.W.Fast.tw9713658698575514757:Unit:=()
def PySem.W.Fast.tw11165381338536427053:Unit:=()
def PySem.W.Fast.tw8170506007686634676:Unit:=()
def PySem.W.Fast.tw15278564861234152913:Unit:=()
def PySem.W.Fast.tw5497995435584299788:Unit:=()
def PySem.W.Fast.tw404070222733075767:Unit:=()
def PySem.W.Fast.tw3020595915358687394:Unit:=()
def PySem.W.Fast.tw10831009062661172168:Unit:=()
def PySem.W.Fast.tw7147601411722947037:Unit:=()
def PySem.W.Fast.tw181721630742887746:Unit:=()
def PySem.W.Fast.tw11714140851046178621:Unit:=()
def PySem.W.Fast.tw10679591424819287689:Unit:=()
def PySem.W.Fast.tw13737185949760551114:Unit:=()
def PySem.W.Fast.tw3363189423173732033:Unit:=()
def PySem.W.Fast.tw5671323634019794211:Unit:=()
def PySem.W.Fast.tw12021180589146222605:Unit:=()
def PySem.W.Fast.tw6730544674631509612:Unit:=()
def PySem.W.Fast.tw18279987905839667155:Unit:=()
def PySem.W.Fast.tw16269734401644542716:Unit:=()
def PySem.W.Fast.tw8270645743373859163:Unit:=()
def PySem.W.Fast.tw15074000289417716275:Unit:=()
def PySem.W.Fast.tw14611622278418030307:Unit:=()
def PySem.W.Fast.tw11593435425896956610:Unit:=()
def PySem.W.Fast.tw10459061849119804707:Unit:=()
def PySem.W.Fast.tw9119670666843914058:Unit:=()
def PySem.W.Fast.tw4990505731874637962:Unit:=()
def PySem.W.Fast.tw10347838175957416904:Unit:=()
def PySem.W.Fast.tw3570282332394412566:Unit:=()
def PySem.W.Fast.tw1863885641175143800:Unit:=()
def PySem.W.Fast.tw9760008756388305553:Unit:=()
def PySem.W.Fast.tw2343152571143941413:Unit:=()
def PySem.W.Fast.tw10942734975629453786:Unit:=()
def PySem.W.Fast.tw10391230556972712458:Unit:=()
def PySem.W.Fast.tw17861264907311337585:Unit:=()
def PySem.W.Fast.tw5623510778781611179:Unit:=()
def PySem.W.Fast.tw3088612762548756697:Unit:=()
def PySem.W.Fast.tw7077001292361513082:Unit:=()
def PySem.W.Fast.tw8577158400327181520:Unit:=()
def PySem.W.Fast.tw9009330618460401665:Unit:=()
def PySem.W.Fast.tw2246238376152246819:Unit:=()
def PySem.W.Fast.tw9937946339161205407:Unit:=()
def PySem.W.Fast.tw268029974488104339:Unit:=()
def PySem.W.Fast.tw3976823246611188733:Unit:=()
def PySem.W.Fast.tw1029455083164587723:Unit:=()
def PySem.W.Fast.tw4996350421300935969:Unit:=()
def PySem.W.Fast.tw4874261433140043904:Unit:=()
def PySem.W.Fast.tw12535279608423161734:Unit:=()
def PySem.W.Fast.tw5485418120602249762:Unit:=()
def PySem.W.Fast.tw16135250788237222017:Unit:=()
def PySem.W.Fast.tw12152858685056414969:Unit:=()
def PySem.W.Fast.tw16137746163277202653:Unit:=()
def PySem.W.Fast.tw7052053845199658126:Unit:=()
def PySem.W.Fast.tw3552236660979017336:Unit:=()
def PySem.W.Fast.tw1236203146583939421:Unit:=()
def PySem.W.Fast.tw14833651783458063153:Unit:=()
def PySem.W.Fast.tw1934471668596799466:Unit:=()
def PySem.W.Fast.tw2215539323535924711:Unit:=()
def PySem.W.Fast.tw3917307651720364038:Unit:=()
def PySem.W.Fast.tw8069538676497957813:Unit:=()
def PySem.W.Fast.tw14570038639041540497:Unit:=()
def PySem.W.Fast.tw12342057736817177668:Unit:=()
def PySem.W.Fast.tw6152114748199865095:Unit:=()
def PySem.W.Fast.tw18267842340649045614:Unit:=()
def PySem.W.Fast.tw12200467996294989571:Unit:=()
def PySem.W.Fast.tw3051327386817702918:Unit:=()
def PySem.W.Fast.tw10040248879408099868:Unit:=()
def PySem.W.Fast.tw15692470978889838568:Unit:=()
def PySem.W.Fast.tw6827470435209190246:Unit:=()
def PySem.W.Fast.tw8366219506881807702:Unit:=()
def PySem.W.Fast.tw16400722316248787593:Unit:=()
def PySem.W.Fast.tw8111041215819725035:Unit:=()
def PySem.W.Fast.tw8785775882465803357:Unit:=()
def PySem.W.Fast.tw3887963219644426743:Unit:=()
def PySem.W.Fast.tw304188099157081962:Unit:=()
def PySem.W.Fast.tw14357606428536371818:Unit:=()
def PySem.W.Fast.tw9166755568923949403:Unit:=()
def PySem.W.Fast.tw9906880967116710685:Unit:=()
def PySem.W.Fast.tw12407999309583086485:Unit:=()
def PySem.W.Fast.tw16571492774219982060:Unit:=()
def PySem.W.Fast.tw10178562427679745105:Unit:=()
def PySem.W.Fast.tw14168857825978559446:Unit:=()
def PySem.W.Fast.tw15798636001512551751:Unit:=()
def PySem.W.Fast.tw4730916059783309937:Unit:=()
def PySem.W.Fast.tw6676190809026379873:Unit:=()
def PySem.W.Fast.tw13578231133660502021:Unit:=()
def PySem.W.Fast.tw6808401990058653995:Unit:=()
def PySem.W.Fast.tw4874769732885781392:Unit:=()
def PySem.W.Fast.tw12609867778521118310:Unit:=()
def PySem.W.Fast.tw645347059197385479:Unit:=()
def PySem.W.Fast.tw3082404819757855142:Unit:=()
def PySem.W.Fast.tw9281128430993866150:Unit:=()
def PySem.W.Fast.tw5000460710388030656:Unit:=()
def PySem.W.Fast.tw667330323522675246:Unit:=()
def PySem.W.Fast.tw7882343220874239877:Unit:=()
def PySem.W.Fast.tw12690151781692846188:Unit:=()
def PySem.W.Fast.tw5408229702286056330:Unit:=()
def PySem.W.Fast.tw9525088423474727151:Unit:=()
def PySem.W.Fast.tw18331917271762969998:Unit:=()
def PySem.W.Fast.tw1491866861782240141:Unit:=()
def PySem.W.Fast.tw13596860648835567276:Unit:=()
def PySem.W.Fast.tw17999555645708424741:Unit:=()
def PySem.W.Fast.tw10239805616151009274:Unit:=()
def PySem.W.Fast.tw16912743787549914770:Unit:=()
def PySem.W.Fast.tw8783600842512809725:Unit:=()
def PySem.W.Fast.tw17584884634113162866:Unit:=()
def PySem.W.Fast.tw17399390855410635282:Unit:=()
def PySem.W.Fast.tw11953351681506236551:Unit:=()
def PySem.W.Fast.tw17696642827614013308:Unit:=()
def PySem.W.Fast.tw6129901400739366271:Unit:=()
def PySem.W.Fast.tw7225623678719122075:Unit:=()
def PySem.W.Fast.tw2560823404751276482:Unit:=()
def PySem.W.Fast.tw9356287488145279643:Unit:=()
def PySem.W.Fast.tw7900475451521696367:Unit:=()
def PySem.W.Fast.tw12991176932850392373:Unit:=()
def PySem.W.Fast.tw13400387267667576166:Unit:=()
def PySem.W.Fast.tw12801299959250976891:Unit:=()
def PySem.W.Fast.tw4015354622394656017:Unit:=()
def PySem.W.Fast.tw17226966721977422523:Unit:=()
def PySem.W.Fast.tw14013596289711256576:Unit:=()
def PySem.W.Fast.tw11778964159493007600:Unit:=()
def PySem.W.Fast.tw2497317994301438642:Unit:=()
def PySem.W.Fast.tw9097354417804132216:Unit:=()
def PySem.W.Fast.tw18236294140010558435:Unit:=()
def PySem.W.Fast.tw8256536749825441261:Unit:=()
def PySem.W.Fast.tw13211423026285926127:Unit:=()
def PySem.W.Fast.tw13388834553026824883:Unit:=()
def PySem.W.Fast.tw15185441566244676193:Unit:=()
def PySem.W.Fast.tw3179198080878810945:Unit:=()
def PySem.W.Fast.tw14890009629947836649:Unit:=()
def PySem.W.Fast.tw17068465359388141582:Unit:=()
def PySem.W.Fast.tw17496377830481733029:Unit:=()
def PySem.W.Fast.tw15525046260847105153:Unit:=()
def PySem.W.Fast.tw10857416147918803706:Unit:=()
def PySem.W.Fast.tw7061367982094083472:Unit:=()
def PySem.W.Fast.tw15011986043490811247:Unit:=()
def PySem.W.Fast.tw14054263881331318669:Unit:=()
def PySem.W.Fast.tw15871811629867203389:Unit:=()
def PySem.W.Fast.tw2810193383589640094:Unit:=()
def PySem.W.Fast.tw8443519562380657527:Unit:=()
def PySem.W.Fast.tw12782951727954897704:Unit:=()
def PySem.W.Fast.tw7619474598271933564:Unit:=()
def PySem.W.Fast.tw387189800246658169:Unit:=()
def PySem.W.Fast.tw2486241820171553908:Unit:=()
def PySem.W.Fast.tw14476644033822830872:Unit:=()
def PySem.W.Fast.tw13466219983981140098:Unit:=()
def PySem.W.Fast.tw17204691982619386123:Unit:=()
def PySem.W.Fast.tw12733202175568490028:Unit:=()
def PySem.W.Fast.tw9979807741924859446:Unit:=()
def PySem.W.Fast.tw11141680317073417164:Unit:=()
def PySem.W.Fast.tw3975169902032006953:Unit:=()
def PySem.W.Fast.tw8877135723828312170:Unit:=()
def PySem.W.Fast.tw11693151721400515784:Unit:=()
def PySem.W.Fast.tw8453757219690267134:Unit:=()
def PySem.W.Fast.tw6114031612944401155:Unit:=()
def PySem.W.Fast.tw8173958617593850040:Unit:=()
def PySem.W.Fast.tw2890001233381352976:Unit:=()
def PySem.W.Fast.tw13896955578962183887:Unit:=()
def PySem.W.Fast.tw11457807738029151937:Unit:=()
def PySem.W.Fast.tw11308869305980669376:Unit:=()
def PySem.W.Fast.tw14572566163552035598:Unit:=()
def PySem.W.Fast.tw8243772994225682326:Unit:=()
def PySem.W.Fast.tw13589864604436012765:Unit:=()
def PySem.W.Fast.tw15541552207508511862:Unit:=()
def PySem.W.Fast.tw17579045186842763598:Unit:=()
def PySem.W.Fast.tw14389706639221888621:Unit:=()
def PySem.W.Fast.tw4704376551303003336:Unit:=()
def PySem.W.Fast.tw4615891817803163645:Unit:=()
def PySem.W.Fast.tw1634402841831540424:Unit:=()
def PySem.W.Fast.tw18435721617471257610:Unit:=()
def PySem.W.Fast.tw13786749828116376630:Unit:=()
def PySem.W.Fast.tw10732845583499109644:Unit:=()
def PySem.W.Fast.tw2169611204935387725:Unit:=()
def PySem.W.Fast.tw140750004962210416:Unit:=()
def PySem.W.Fast.tw13500469960156304354:Unit:=()
def PySem.W.Fast.tw3782670099337684028:Unit:=()
def PySem.W.Fast.tw14703575976822963824:Unit:=()
def PySem.W.Fast.tw13432945686743769408:Unit:=()
def PySem.W.Fast.tw6721127965740244485:Unit:=()
def PySem.W.Fast.tw1989309395704481945:Unit:=()
def PySem.W.Fast.tw893027094686714872:Unit:=()
def PySem.W.Fast.tw7480514122663842572:Unit:=()
def PySem.W.Fast.tw12505163228153012450:Unit:=()
def PySem.W.Fast.tw2574493804621820385:Unit:=()
def PySem.W.Fast.tw11206950913534942062:Unit:=()
def PySem.W.Fast.tw12827662966767744441:Unit:=()
def PySem.W.Fast.tw7746018128971873109:Unit:=()
def PySem.W.Fast.tw383637003455001824:Unit:=()
def PySem.W.Fast.tw5252508659589386728:Unit:=()
def PySem.W.Fast.tw13686396838761266634:Unit:=()
def PySem.W.Fast.tw1164029492314186353:Unit:=()
def PySem.W.Fast.tw7642867136444171416:Unit:=()
def PySem.W.Fast.tw13540419521698247244:Unit:=()
def PySem.W.Fast.tw9998176656465240818:Unit:=()
def PySem.W.Fast.tw3511860397303025302:Unit:=()
def PySem.W.Fast.tw13887718846924931208:Unit:=()
def PySem.W.Fast.tw10572248681354333614:Unit:=()
def PySem.W.Fast.tw8724683149892393165:Unit:=()
def PySem.W.Fast.tw11795319667554886948:Unit:=()
def PySem.W.Fast.tw12229415017326850680:Unit:=()
def PySem.W.Fast.tw4438021925667061772:Unit:=()
def PySem.W.Fast.tw13167799557749000127:Unit:=()
def PySem.W.Fast.tw6411963092552375765:Unit:=()
def PySem.W.Fast.tw12486465092148843568:Unit:=()
def PySem.W.Fast.tw4343834783535999371:Unit:=()
def PySem.W.Fast.tw9724985216636110110:Unit:=()
def PySem.W.Fast.tw2347330153989649446:Unit:=()
def PySem.W.Fast.tw2631805500587146348:Unit:=()
def PySem.W.Fast.tw5505624972814583162:Unit:=()
def PySem.W.Fast.tw5836855305078568633:Unit:=()
def PySem.W.Fast.tw16470160070655988725:Unit:=()
def PySem.W.Fast.tw12817485410724854540:Unit:=()
def PySem.W.Fast.tw17110889664651482841:Unit:=()
def PySem.W.Fast.tw15243570829921767277:Unit:=()
def PySem.W.Fast.tw2984036072777448446:Unit:=()
def PySem.W.Fast.tw15719843262312720031:Unit:=()
def PySem.W.Fast.tw5309630051179929907:Unit:=()
def PySem.W.Fast.tw7283743207580895453:Unit:=()
def PySem.W.Fast.tw4295194127798209142:Unit:=()
def PySem.W.Fast.tw12495818920052319824:Unit:=()
def PySem.W.Fast.tw10555160451954863078:Unit:=()
def PySem.W.Fast.tw12527749236763689464:Unit:=()
def PySem.W.Fast.tw10332652466978612639:Unit:=()
def PySem.W.Fast.tw15683369127792894970:Unit:=()
def PySem.W.Fast.tw16594837879755079297:Unit:=()
def PySem.W.Fast.tw18244801023370987204:Unit:=()
def PySem.W.Fast.tw14545663788126911518:Unit:=()
def PySem.W.Fast.tw10704936488974657676:Unit:=()
def PySem.W.Fast.tw5466343344174238303:Unit:=()
def PySem.W.Fast.tw9088042360649133171:Unit:=()
def PySem.W.Fast.tw8712567282872868113:Unit:=()
def PySem.W.Fast.tw1650779933221549561:Unit:=()
def PySem.W.Fast.tw15142799265370252041:Unit:=()
def PySem.W.Fast.tw1651625308732052559:Unit:=()
def PySem.W.Fast.tw1265830096921973799:Unit:=()
def PySem.W.Fast.tw11709224326829197893:Unit:=()
def PySem.W.Fast.tw11711305555492111641:Unit:=()
def PySem.W.Fast.tw15517537529640092638:Unit:=()
def PySem.W.Fast.tw7682757747479970493:Unit:=()
def PySem.W.Fast.tw14232955510912117869:Unit:=()
def PySem.W.Fast.tw2546361993487076522:Unit:=()
def PySem.W.Fast.tw2071081371827834663:Unit:=()
def PySem.W.Fast.tw5532222943624270311:Unit:=()
def PySem.W.Fast.tw8015467004914508470:Unit:=()
def PySem.W.Fast.tw13947400753243357189:Unit:=()
def PySem.W.Fast.tw6297439243149615789:Unit:=()
def PySem.W.Fast.tw11476232534661578918:Unit:=()
def PySem.W.Fast.tw14191815804019734689:Unit:=()
def PySem.W.Fast.tw9310561573280193249:Unit:=()
def PySem.W.Fast.tw8096631415230755200:Unit:=()
def PySem.W.Fast.tw4501551663347141599:Unit:=()
def PySem.W.Fast.tw680310210076875542:Unit:=()
def PySem.W.Fast.tw13449692002452150439:Unit:=()
def PySem.W.Fast.tw9585646380177842244:Unit:=()
def PySem.W.Fast.tw3757945863768844746:Unit:=()
def PySem.W.Fast.tw5106838246997939834:Unit:=()
def PySem.W.Fast.tw278063661738000872:Unit:=()
def PySem.W.Fast.tw6114140787650118832:Unit:=()
def PySem.W.Fast.tw16813697812140008457:Unit:=()
def PySem.W.Fast.tw17888307735155342932:Unit:=()
def PySem.W.Fast.tw14446307436940498132:Unit:=()
def PySem.W.Fast.tw11423894409858708389:Unit:=()
def PySem.W.Fast.tw7499363617983398480:Unit:=()
def PySem.W.Fast.tw4215413224477424735:Unit:=()
def PySem.W.Fast.tw12660807078292183703:Unit:=()
open PySem PySem.W PyProof.Rows
set_option maxRecDepth 100000 in
set_option maxHeartbeats 0 in
theorem PySem.Challenge.cw_paneworks_k41_put_out_holds : PySem.Challenge.rw_paneworks_k41_put_out.Holds := by
 w_on;o_law;k_head; (case hw=>w_witness2)
 k_fill
 refine L2.HZ (l := PySem.Challenge.rw_paneworks_k41_put_out) (k := 10) (x := "_law_script") rfl rfl ⟨rfl, by decide, by decide⟩ (fun w h Y => PySem.W.kIn_of Y) ?F
 case F =>
  intro w mg fa h KX G hmg
  have B:L2.iY mg:=by
   refine' L2.QM KX G ?z0 ?z1 ?z2 ?z3 ?z4 ?z5 ?z6 ?z7 ?z8 ?z9 ?Vo ?Vp ?Vq ?Vr ?Vs ?Vt ?Vu
   all_goals k_is
  have T : ∃ cU cA cB cC cT cF cD cS cI,My.Txt (L2.KOf KX) mg cU cA cB cC cT cF cD cS cI:=by
   dsimp only [L2.KOf]
   refine' My.EI KX G ?y1 ?y2 ?y3 ?y4 ?y5 ?y6 ?y7 ?y8 ?y9 ?y10 ?y11 ?y12 ?y13 ?y14 ?y15 ?y16 ?y17 ?y18 ?y19 ?y20 ?y21 ?y22 ?y23 ?y24 ?y25 ?y26 ?y27 ?y28 ?y29 ?y30 ?y31 ?y32 ?y33 ?y34 ?y35 ?y36 ?y37 ?y38 ?y39 ?y40 ?y41 ?y42 ?y43 ?y44 ?y45 ?y46 ?y47 ?y48 ?y49 ?y50 ?y51 ?y52 ?y53 ?y54 ?y55 ?y56 ?y57 ?y58 ?y59 ?y60 ?y61 ?y62 ?y63 ?y64 ?y65 ?y66 ?y67 ?y68 ?y69 ?y70 ?y71 ?y72 ?y73 ?y74 ?y75 ?y76 ?y77 ?y78 ?y79 ?y80 ?y81 ?y82 ?y83 ?y84 ?y85 ?y86 ?y87 ?y88 ?y89 ?y90 ?y91 ?y92 ?y93 ?y94 ?y95 ?y96 ?y97 ?y98 ?y99 ?abD ?abE ?abF ?abG ?abH ?abI ?abJ ?abK ?abL ?abM ?abN ?abO ?abP ?abQ ?abR ?abS ?abT ?abU ?abV ?abW ?abX ?abY ?abZ ?ab0 ?ab1 ?ab2 ?ab3 ?ab4 ?ab5 ?ab6 ?ab7 ?ab8 ?ab9 ?acd ?ace ?acf ?acg ?ach ?aci ?acj ?ack ?acm ?acn ?aco ?acp ?acq ?acr ?acs ?acu ?acv ?acw ?acy ?acz ?acA ?acB ?acC ?acD ?acE ?acF ?acG ?acH ?acI ?acJ ?acK ?acL ?acM ?acN ?acO ?acP ?acQ ?acR ?acS ?acT ?acU ?acV ?acW ?acX ?acY ?acZ ?ac0 ?ac1 ?ac2 ?ac3 ?ac4 ?ac5 ?ac6 ?ac7 ?ac8 ?ac9 ?ada ?adb ?ade ?adf ?adg ?adh ?adi ?adj ?adk ?adl ?adm ?adn ?ado ?adp ?adq ?ads ?adt ?adu ?adv ?adw ?adx ?ady ?adz ?adA ?adB ?adC ?adD ?adE ?adF ?adG ?adH ?adI ?adJ ?adK ?adL ?adM ?adN ?adO ?adP ?adQ ?adR ?adS ?adT ?adU ?adV ?adW ?adX ?adY ?adZ ?ad0 ?ad1 ?ad2 ?ad3 ?ad4 ?ad5 ?ad6 ?ad7 ?ad8 ?ad9 ?aea ?aeb ?aec ?aed ?aee ?aef ?aeg ?aeh ?aei ?aej ?aek ?ael ?aem ?aen ?aeo ?aep ?aeq ?aer ?aes ?aet ?aeu ?aev ?aew ?aex ?aey ?aez ?aeA ?aeB ?aeC ?aeD ?aeE ?aeF ?aeG ?aeH ?aeI ?aeJ ?aeK ?aeL ?aeM ?aeN ?aeO ?aeP ?aeQ ?aeR ?aeS ?aeT ?aeU ?aeV ?aeW ?aeX ?aeY ?aeZ ?ae0 ?ae1 ?ae2 ?ae3 ?ae4 ?ae5 ?ae6 ?ae7 ?ae8 ?ae9 ?afa ?afb
   (case y1=>walk_at "kr")
   (case y2=>walk_at "kr")
   (case y3=>walk_at "kr")
   (case y4=>walk_at "kr")
   (case y5=>walk_at "kr")
   (case y6=>walk_at "kr")
   (case y7=>walk_at "kr")
   (case y8=>walk_at "kr")
   (case y9=>walk_at "kr")
   (case y10=>walk_at "kr")
   (case y11=>walk_at "kr")
   (case y12=>walk_at "kr")
   (case y13=>walk_at "kr")
   (case y14=>walk_at "kr")
   (case y15=>walk_at "kr")
   (case y16=>walk_at "kr")
   (case y17=>walk_at "kr")
   (case y18=>walk_at "kr")
   (case y19=>walk_at "kr")
   (case y20=>walk_at "kr")
   (case y21=>walk_at "kr")
   (case y22=>walk_at "kr")
   (case y23=>walk_at "kr")
   (case y24=>walk_at "kr")
   (case y25=>walk_at "kr")
   (case y26=>walk_at "kr")
   (case y27=>walk_at "kr")
   (case y28=>walk_at "kr")
   (case y29=>walk_at "kr")
   (case y30=>walk_at "kr")
   (case y31=>walk_at "kr")
   (case y32=>walk_at "kr")
   (case y33=>walk_at "kr")
   (case y34=>walk_at "kr")
   (case y35=>walk_at "kr")
   (case y36=>walk_at "kr")
   (case y37=>walk_at "kr")
   (case y38=>walk_at "kr")
   (case y39=>walk_at "kr")
   (case y40=>walk_at "kr")
   (case y41=>walk_at "kr")
   (case y42=>walk_at "kr")
   (case y43=>walk_at "kr")
   (case y44=>walk_at "kr")
   (case y45=>walk_at "kr")
   (case y46=>walk_at "kr")
   (case y47=>walk_at "kr")
   (case y48=>walk_at "kr")
   (case y49=>walk_at "kr")
   (case y50=>walk_at "kr")
   (case y51=>walk_at "kr")
   (case y52=>walk_at "kr")
   (case y53=>walk_at "kr")
   (case y54=>walk_at "kr")
   (case y55=>walk_at "kr")
   (case y56=>walk_at "kr")
   (case y57=>walk_at "kr")
   (case y58=>walk_at "kr")
   (case y59=>walk_at "kr")
   (case y60=>walk_at "kr")
   (case y61=>walk_at "kr")
   (case y62=>walk_at "kr")
   (case y63=>walk_at "kr")
   (case y64=>walk_at "kr")
   (case y65=>walk_at "kr")
   (case y66=>walk_at "kr")
   (case y67=>walk_at "kr")
   (case y68=>walk_at "kr")
   (case y69=>walk_at "kr")
   (case y70=>walk_at "kr")
   (case y71=>walk_at "kr")
   (case y72=>walk_at "kr")
   (case y73=>walk_at "kr")
   (case y74=>walk_at "kr")
   (case y75=>walk_at "kr")
   (case y76=>walk_at "kr")
   (case y77=>walk_at "kr")
   (case y78=>walk_at "kr")
   (case y79=>walk_at "kr")
   (case y80=>walk_at "kr")
   (case y81=>walk_at "kr")
   (case y82=>walk_at "kr")
   (case y83=>walk_at "kr")
   (case y84=>walk_at "kr")
   (case y85=>walk_at "kr")
   (case y86=>walk_at "kr")
   (case y87=>walk_at "kr")
   (case y88=>walk_at "kr")
   (case y89=>walk_at "kr")
   (case y90=>walk_at "kr")
   (case y91=>walk_at "kr")
   (case y92=>walk_at "kr")
   (case y93=>walk_at "kr")
   (case y94=>walk_at "kr")
   (case y95=>walk_at "kr")
   (case y96=>walk_at "kr")
   (case y97=>walk_at "kr")
   (case y98=>walk_at "kr")
   (case y99=>walk_at "kr")
   (case abD=>walk_at "kr")
   (case abE=>walk_at "kr")
   (case abF=>walk_at "kr")
   (case abG=>walk_at "kr")
   (case abH=>walk_at "kr")
   (case abI=>walk_at "kr")
   (case abJ=>walk_at "kr")
   (case abK=>walk_at "kr")
   (case abL=>walk_at "kr")
   (case abM=>walk_at "kr")
   (case abN=>walk_at "kr")
   (case abO=>walk_at "kr")
   (case abP=>walk_at "kr")
   (case abQ=>walk_at "kr")
   (case abR=>walk_at "kr")
   (case abS=>walk_at "kr")
   (case abT=>walk_at "kr")
   (case abU=>walk_at "kr")
   (case abV=>walk_at "kr")
   (case abW=>walk_at "kr")
   (case abX=>walk_at "kr")
   (case abY=>walk_at "kr")
   (case abZ=>walk_at "kr")
   (case ab0=>walk_at "kr")
   (case ab1=>walk_at "kr")
   (case ab2=>walk_at "kr")
   (case ab3=>walk_at "kr")
   (case ab4=>walk_at "kr")
   (case ab5=>walk_at "kr")
   (case ab6=>walk_at "kr")
   (case ab7=>walk_at "kr")
   (case ab8=>walk_at "kr")
   (case ab9=>walk_at "kr")
   (case acd=>walk_at "kr")
   (case ace=>walk_at "kr")
   (case acf=>walk_at "kr")
   (case acg=>walk_at "kr")
   (case ach=>walk_at "kr")
   (case aci=>walk_at "kr")
   (case acj=>walk_at "kr")
   (case ack=>walk_at "kr")
   (case acm=>walk_at "kr")
   (case acn=>walk_at "kr")
   (case aco=>walk_at "kr")
   (case acp=>walk_at "kr")
   (case acq=>walk_at "kr")
   (case acr=>walk_at "kr")
   (case acs=>walk_at "kr")
   (case acu=>walk_at "kr")
   (case acv=>walk_at "kr")
   (case acw=>walk_at "kr")
   (case acy=>walk_at "kr")
   (case acz=>walk_at "kr")
   (case acA=>walk_at "kr")
   (case acB=>walk_at "kr")
   (case acC=>walk_at "kr")
   (case acD=>walk_at "kr")
   (case acE=>walk_at "kr")
   (case acF=>walk_at "kr")
   (case acG=>walk_at "kr")
   (case acH=>walk_at "kr")
   (case acI=>walk_at "kr")
   (case acJ=>walk_at "kr")
   (case acK=>walk_at "kr")
   (case acL=>walk_at "kr")
   (case acM=>walk_at "kr")
   (case acN=>walk_at "kr")
   (case acO=>walk_at "kr")
   (case acP=>walk_at "kr")
   (case acQ=>walk_at "kr")
   (case acR=>walk_at "kr")
   (case acS=>walk_at "kr")
   (case acT=>walk_at "kr")
   (case acU=>walk_at "kr")
   (case acV=>walk_at "kr")
   (case acW=>walk_at "kr")
   (case acX=>walk_at "kr")
   (case acY=>walk_at "kr")
   (case acZ=>walk_at "kr")
   (case ac0=>walk_at "kr")
   (case ac1=>walk_at "kr")
   (case ac2=>walk_at "kr")
   (case ac3=>walk_at "kr")
   (case ac4=>walk_at "kr")
   (case ac5=>walk_at "kr")
   (case ac6=>walk_at "kr")
   (case ac7=>walk_at "kr")
   (case ac8=>walk_at "kr")
   (case ac9=>walk_at "kr")
   (case ada=>walk_at "kr")
   (case adb=>walk_at "kr")
   (case ade=>walk_at "kr")
   (case adf=>walk_at "kr")
   (case adg=>walk_at "kr")
   (case adh=>walk_at "kr")
   (case adi=>walk_at "kr")
   (case adj=>walk_at "kr")
   (case adk=>walk_at "kr")
   (case adl=>walk_at "kr")
   (case adm=>walk_at "kr")
   (case adn=>walk_at "kr")
   (case ado=>walk_at "kr")
   (case adp=>walk_at "kr")
   (case adq=>walk_at "kr")
   (case ads=>walk_at "kr")
   (case adt=>walk_at "kr")
   (case adu=>walk_at "kr")
   (case adv=>walk_at "kr")
   (case adw=>walk_at "kr")
   (case adx=>walk_at "kr")
   (case ady=>walk_at "kr")
   (case adz=>walk_at "kr")
   (case adA=>walk_at "kr")
   (case adB=>walk_at "kr")
   (case adC=>walk_at "kr")
   (case adD=>walk_at "kr")
   (case adE=>walk_at "kr")
   (case adF=>walk_at "kr")
   (case adG=>walk_at "kr")
   (case adH=>walk_at "kr")
   (case adI=>walk_at "kr")
   (case adJ=>walk_at "kr")
   (case adK=>walk_at "kr")
   (case adL=>walk_at "kr")
   (case adM=>walk_at "kr")
   (case adN=>walk_at "kr")
   (case adO=>walk_at "kr")
   (case adP=>walk_at "kr")
   (case adQ=>walk_at "kr")
   (case adR=>walk_at "kr")
   (case adS=>walk_at "kr")
   (case adT=>walk_at "kr")
   (case adU=>walk_at "kr")
   (case adV=>walk_at "kr")
   (case adW=>walk_at "kr")
   (case adX=>walk_at "kr")
   (case adY=>walk_at "kr")
   (case adZ=>walk_at "kr")
   (case ad0=>walk_at "kr")
   (case ad1=>walk_at "kr")
   (case ad2=>walk_at "kr")
   (case ad3=>walk_at "kr")
   (case ad4=>walk_at "kr")
   (case ad5=>walk_at "kr")
   (case ad6=>walk_at "kr")
   (case ad7=>walk_at "kr")
   (case ad8=>walk_at "kr")
   (case ad9=>walk_at "kr")
   (case aea=>walk_at "kr")
   (case aeb=>walk_at "kr")
   (case aec=>walk_at "kr")
   (case aed=>walk_at "kr")
   (case aee=>walk_at "kr")
   (case aef=>walk_at "kr")
   (case aeg=>walk_at "kr")
   (case aeh=>walk_at "kr")
   (case aei=>walk_at "kr")
   (case aej=>walk_at "kr")
   (case aek=>walk_at "kr")
   (case ael=>walk_at "kr")
   (case aem=>walk_at "kr")
   (case aen=>walk_at "kr")
   (case aeo=>walk_at "kr")
   (case aep=>walk_at "kr")
   (case aeq=>walk_at "kr")
   (case aer=>walk_at "kr")
   (case aes=>walk_at "kr")
   (case aet=>walk_at "kr")
   (case aeu=>walk_at "kr")
   (case aev=>walk_at "kr")
   (case aew=>walk_at "kr")
   (case aex=>walk_at "kr")
   (case aey=>walk_at "kr")
   (case aez=>walk_at "kr")
   (case aeA=>walk_at "kr")
   (case aeB=>walk_at "kr")
   (case aeC=>walk_at "kr")
   (case aeD=>walk_at "kr")
   (case aeE=>walk_at "kr")
   (case aeF=>walk_at "kr")
   (case aeG=>walk_at "kr")
   (case aeH=>walk_at "kr")
   (case aeI=>walk_at "kr")
   (case aeJ=>walk_at "kr")
   (case aeK=>walk_at "kr")
   (case aeL=>walk_at "kr")
   (case aeM=>walk_at "kr")
   (case aeN=>walk_at "kr")
   (case aeO=>walk_at "kr")
   (case aeP=>walk_at "kr")
   (case aeQ=>walk_at "kr")
   (case aeR=>walk_at "kr")
   (case aeS=>walk_at "kr")
   (case aeT=>walk_at "kr")
   (case aeU=>walk_at "kr")
   (case aeV=>walk_at "kr")
   (case aeW=>walk_at "kr")
   (case aeX=>walk_at "kr")
   (case aeY=>walk_at "kr")
   (case aeZ=>walk_at "kr")
   (case ae0=>walk_at "kr")
   (case ae1=>walk_at "kr")
   (case ae2=>walk_at "kr")
   (case ae3=>walk_at "kr")
   (case ae4=>walk_at "kr")
   (case ae5=>walk_at "kr")
   (case ae6=>walk_at "kr")
   (case ae7=>walk_at "kr")
   (case ae8=>walk_at "kr")
   (case ae9=>walk_at "kr")
   (case afa=>walk_at "kr")
   (case afb=>walk_at "kr")
  obtain ⟨cU,cA,cB,cC,cT,cF,cD,cS,cI,T⟩:=T
  exact L2.Tu T.UD hmg (λ _ _ _ _ _ _ _=>rfl) λ base f fd F=>My.R7 F B T
#print axioms PySem.Challenge.cw_paneworks_k41_put_out_holds

import PyProof.Rows.All
import Wide.All
import OpenK.AllK
import Wide.FinOn
import Lean
import PyProof.EqAt
import PyProof.EqKinds
import PyProof.TupleCall
import PyProof.Rows.SortWalk
import KE.KDictSum
import KE.LcSums
import KE.KEqDat
import KE.KRevIter
import PyProof.P3In
import PyProof.SliceStr2
import PyProof.MeetsStr
import PyProof.StrBlockI
import PyProof.StrWalks
import PyProof.FitsReplace
import PyProof.ListStr
import PyProof.ZipIter
import KE.KIntText
import KE.IntTextLaws
import PyProof.StrLawsIn
import PyProof.StrCalls2
import PyProof.Rows.CatFin
import PyProof.Rows.StrClose
import KE.IntTextText
import PyProof.StrLawsTight
import PyProof.StrLawsChain
import PyProof.Rows.StrItems
import PyProof.Rows.ReprOcc
import PyProof.Rows.SortStr
import PyProof.Rows.SetFrom
import PySem.Challenge.RW_paneworks_k44_as_many_as_there_is_room
set_option Elab.async false
set_option compiler.extract_closed false
set_option linter.all false
set_option maxRecDepth 100000
local macro_rules | `(tactic| walk_at "o3") => `(tactic| first | exact Or.inl rfl | exact Or.inr (Or.inl rfl) | exact Or.inr (Or.inr rfl))
local macro_rules | `(tactic| walk_at "o2") => `(tactic| first | exact Or.inl rfl | exact Or.inr rfl)
local macro_rules | `(tactic| walk_at "sc") => `(tactic| exact ⟨rfl,rfl,rfl,by decide +kernel,rfl,by decide +kernel,by decide +kernel⟩)
local macro_rules | `(tactic| walk_at "o4") => `(tactic| first | exact .inl rfl | exact .inr rfl | assumption)
local macro_rules | `(tactic| walk_at "v") => `(tactic| exact ⟨by rfl,by walk_at "o3",by decide,by decide⟩)
local macro_rules | `(tactic| walk_at "kr") => `(tactic| first | k_is | kernel_rfl)
namespace L2
open PySem PySem.Spec PyProof.Rows
abbrev Key:=Sum Int Str
def ze:Key->Value->Bool
 | .inl k,v=>Value.isInt k v
 | .inr x,v=>Value.isStrOf x v
def Vq (w:World):Key->Int
 | .inl k=>hashInt k
 | .inr x=>hashStr w x
theorem bV : ∀ {k:Key} {v:Value},ze k v=true->(∃ i t,k=Sum.inl i/\v=Value.int i t)\/(∃ x t,k=Sum.inr x/\v=Value.str x t)
 | .inl i,v,h=>by
   obtain ⟨t,e⟩:=Value.isInt_shape (k:=i) (v:=v) h
   exact .inl ⟨i,t,rfl,e⟩
 | .inr x,v,h=>by
   obtain ⟨t,e⟩:=Value.isStrOf_shape (x:=x) (v:=v) h
   exact .inr ⟨x,t,rfl,e⟩
theorem GL (i:Int) (t:Tok):ze (.inl i) (.int i t)=true:=by simp [ze,Value.isInt]
theorem GN (x:Str) (t:Tok):ze (.inr x) (.str x t)=true:=by simp [ze,Value.isStrOf]
theorem O0 (a b:Int):decide ((Sum.inl a:Key)=Sum.inl b)=(a == b):=by
 by_cases e:a=b
 ·subst e;simp
 ·have h : ¬ (Sum.inl a:Key)=Sum.inl b:=λ q=>e (Sum.inl.inj q)
  rw [decide_eq_false h]
  exact (beq_eq_false_iff_ne.mpr e).symm
theorem O1 (a b:Str):decide ((Sum.inr a:Key)=Sum.inr b)=decide (a=b):=by
 by_cases e:a=b
 ·subst e;simp
 ·have h : ¬ (Sum.inr a:Key)=Sum.inr b:=λ q=>e (Sum.inr.inj q)
  rw [decide_eq_false h,decide_eq_false e]
theorem O2 (a:Int) (b:Str):decide ((Sum.inl a:Key)=Sum.inr b)=false:=decide_eq_false (λ q=>nomatch q)
theorem O3 (a:Str) (b:Int):decide ((Sum.inr a:Key)=Sum.inl b)=false:=decide_eq_false (λ q=>nomatch q)
def bC (prog:Program) (w:World):PySem.KeyKind prog w Key where
 is:=ze
 hash:=Vq w
 inj:=λ v a b ha hb=>by
  rcases bV ha with ⟨i,t,rfl,rfl⟩ | ⟨x,t,rfl,rfl⟩
  ·rcases bV hb with ⟨j,u,rfl,e⟩ | ⟨y,u,rfl,e⟩
   ·injection e with e1 _;rw [e1]
   ·exact nomatch e
  ·rcases bV hb with ⟨j,u,rfl,e⟩ | ⟨y,u,rfl,e⟩
   ·exact nomatch e
   ·injection e with e1 _;rw [e1]
 byValue:=λ k v h=>by
  rcases bV h with ⟨i,t,rfl,rfl⟩ | ⟨x,t,rfl,rfl⟩ <;> rfl
 pyHash:=λ hv h=>by
  rcases bV hv with ⟨i,t,rfl,rfl⟩ | ⟨x,t,rfl,rfl⟩
  ·exact wpAny_pyHash_int h
  ·exact wpAny_pyHash_str h
 eqBool:=λ hu hv h=>by
  rcases bV hu with ⟨i,t,rfl,rfl⟩ | ⟨x,t,rfl,rfl⟩
  ·rcases bV hv with ⟨j,u,rfl,rfl⟩ | ⟨y,u,rfl,rfl⟩
   ·rw [O0] at h;exact wpAny_eqBool_int h
   ·rw [O2] at h;exact SeqAt.EqAt.int_str i t y u _ _ _ _ h
  ·rcases bV hv with ⟨j,u,rfl,rfl⟩ | ⟨y,u,rfl,rfl⟩
   ·rw [O3] at h;exact SeqAt.EqAt.str_int x t j u _ _ _ _ h
   ·rw [O1] at h;exact wpAny_eqBool_str h
 «strs» := λ k x t v h=>by
  rcases bV h with ⟨i,u,rfl,e⟩ | ⟨y,u,rfl,e⟩
  ·exact nomatch e
  ·injection e with e1 _
   subst e1
   cases v <;> rfl
theorem B5 (prog:Program) (w:World) (i:Int) (t:Tok):(bC prog w).is (.inl i) (.int i t)=true:=GL i t
theorem B6 (prog:Program) (w:World) (x:Str) (t:Tok):(bC prog w).is (.inr x) (.str x t)=true:=GN x t
end L2
namespace L2
open PySem PySem.Spec PyProof.Rows
inductive V where
 | aH | bl (b:Bool) | int (i:Int) | str (x:Str) | II (b:Array UInt8) | O4 (b:UInt64) | ref (a:Addr) | ty (n:String)
 deriving DecidableEq
def RelV:V->Value->Prop
 | .aH,u=>u=Value.none
 | .bl b,u=>u=Value.bool b
 | .int i,u => ∃ t,u=Value.int i t
 | .str x,u => ∃ t,u=Value.str x t
 | .II b,u => ∃ t,u=Value.bytes b t
 | .O4 b,u => ∃ t,u=Value.float b t
 | .ref a,u=>u=Value.ref a
 | .ty n,u=>u=Value.type n
abbrev Vals:List V->List Value->Prop:=Paired RelV
theorem Vals.length {xs:List V} {us:List Value} (r:Vals xs us):xs.length=us.length:=Paired.length r
theorem Vals.get : ∀ {xs:List V} {us:List Value} {i:Nat} {x:V},Vals xs us->xs[i]? = some x->∃ u,us[i]? = some u/\RelV x u
 | _,_,_,_,.nil,e=>by simp at e
 | _,_,0,_,.cons r _,e=>by simp at e;subst e;exact ⟨_,rfl,r⟩
 | _,_,i+1,x,.cons _ t,e=>by
   obtain ⟨u,h1,h2⟩:=Vals.get (i:=i) (x:=x) t (by simpa using e)
   exact ⟨u,by simpa using h1,h2⟩
theorem Vals.set {x:V} {u:Value} (r:RelV x u) : ∀ {xs:List V} {us:List Value} (i:Nat),Vals xs us->Vals (xs.set i x) (us.set i u)
 | _,_,_,.nil => .nil
 | _,_,0,.cons _ t => .cons r t
 | _,_,i+1,.cons q t => .cons q (Vals.set r i t)
theorem Vals.append : ∀ {xs ys:List V} {us ws:List Value},Vals xs us->Vals ys ws->Vals (xs++ys) (us++ws)
 | _,_,_,_,.nil,s=>s
 | _,_,_,_,.cons r t,s => .cons r (Vals.append t s)
theorem Vals.take : ∀ {xs:List V} {us:List Value} (n:Nat),Vals xs us->Vals (xs.take n) (us.take n)
 | _,_,0,_ => .nil
 | _,_,_+1,.nil => .nil
 | _,_,n+1,.cons r t => .cons r (Vals.take n t)
theorem Vals.drop : ∀ {xs:List V} {us:List Value} (n:Nat),Vals xs us->Vals (xs.drop n) (us.drop n)
 | _,_,0,r=>r
 | _,_,_+1,.nil => .nil
 | _,_,n+1,.cons _ t=>Vals.drop n t
def iO:Option V->Option Value->Prop
 | some v,some u=>RelV v u
 | none,none=>True
 | _,_=>False
def KV {κ : Type} : List (κ × V)->List (κ × Value)->Prop:=Paired fun (p : κ × V) (q : κ × Value)=>p.1=q.1/\RelV p.2 q.2
def kV:Key->V
 | .inl i => .int i
 | .inr x => .str x
inductive HO where
  | lst (xs:List V)
  | tup (xs:List V)
  | dK (kvs:List (Key×V)) | dT (kvs:List (List Key×V))
  | set (S:Int->Bool) (n:Nat)
  | ins (C dx:Addr) (fs:List (Str×V))
  | own (x:Addr)
  | xd (fs:List (Str×V))
  | met (f x:Addr)
  | Uo (lo hi:Int)
  | BX (o:Obj) (u:HO)
  | Oc (ps:Array Value)
  | ext (φ : Heap->Prop)
abbrev Hp:=Addr->Option HO
def upd (H:Hp) (a:Addr) (o:HO):Hp:=λ b=>if b=a then some o else H b
theorem iP {H:Hp} {a:Addr} {o:HO} : upd H a o a=some o:=by unfold upd;rw [if_pos rfl]
theorem bN {H:Hp} {a b:Addr} {o:HO} (h:b≠a):upd H a o b=H b:=by unfold upd;rw [if_neg h]
theorem Od {H:Hp} {a b:Addr} {o u:HO} (h:H a=some o) (h':H b=some u) (d:o≠u):a≠b:=by
 intro e;subst e;rw [h] at h';exact d (Option.some.inj h')
theorem fc {H:Hp} {a b:Addr} {o:HO} (h:H a=some o) (h':H b=none):a≠b:=by
 intro e;subst e;rw [h] at h';cases h'
section
variable (P:Program) (w:World)
def bI (H:Hp) (h:Heap) (a:Addr):HO->Prop
 | .lst xs=>xs.length<=sizeLine ∧ ∃ (its:List Value) (n:Nat),Vals xs its/\h.get? a=some { cls := .type "list",data := .seq its.toArray n }
 | .tup xs=>xs.length<=sizeLine ∧ ∃ its:List Value,Vals xs its/\IsTup h a its.toArray
 | .dK kvs=>kvs.length<=sizeLine/\(a == sysModules)=false ∧ ∃ vs,KV kvs vs/\h.DictOf (bC P w) a vs
 | .dT kvs=>kvs.length<=sizeLine/\(a == sysModules)=false ∧ ∃ xs:List (List Key×Addr×Value),
   Paired (fun (p:List Key×V) (q:List Key×Addr×Value)=>p.1=q.1/\H q.2.1=some (.tup (p.1.map kV))/\RelV p.2 q.2.2) kvs xs ∧
   ∃ o es ep,h.get? a=some o/\o.ExactDict/\o.data = .dict es ep/\es.toList=xs.map (entryOfKey (tupleKind (bC P w)))/\(xs.map (·.1)).Nodup
 | .set S n=>h.SetOf (intKind P w) a S n
 | .ins C dx fs=>H dx=some (.own a)/\fs.length<=1000/\dx≠a/\h.get? a=some (PySem.W.instObj C dx) ∧
   ∃ mA,h.Ns1 dx mA/\(∀ f,iO (fs.lookup f) (mA f))/\PySem.Within mA (fs.map (·.1))
 | .own _ => ∃ o,h.get? a=some o
 | .xd fs => ∃ mA,h.Ns1 a mA ∧ ∀ f,iO (fs.lookup f) (mA f)
 | .Uo lo hi => ∃ t u v,h.get? a=some { cls := .type "range",data := .fields #[.int lo t,.int hi u,.int 1 v] }
 | .BX o u=>h.get? a=some o/\bI H h a u
 | .Oc ps=>h.get? a=some { cls := .none,data := .fields ps }
 | .met f x=>h.get? a=some (PySem.W.methodObj (.ref f) (.ref x))
 | .ext φ => φ h/\(∃ o,h.get? a=some o) ∧ ∀ h1 h2:Heap,φ h1->(∀ o,h1.get? a=some o->h2.get? a=some o)->φ h2
def jJ (H:Hp) (h:Heap):Prop := ∀ a o,H a=some o->bI P w H h a o
end
section
variable {P:Program} {w:World} {H H':Hp} {h h':Heap} {a:Addr} {o:HO}
theorem bI.lt (x:bI P w H h a o):a < h.objs.size:=by
 cases o with
 | lst xs=>obtain ⟨_,_,_,_,e⟩:=x;exact Heap.lt_size e
 | tup xs=>obtain ⟨_,_,_,p⟩:=x;exact p.lt
 | dK kvs=>obtain ⟨_,_,_,_,o,_,_,e,_⟩:=x;exact Heap.lt_size e
 | dT kvs=>obtain ⟨_,_,_,_,o,_,_,e,_⟩:=x;exact Heap.lt_size e
 | set S n=>obtain ⟨o,_,_,_,e,_⟩:=x;exact Heap.lt_size e
 | ins C dx fs=>obtain ⟨_,_,_,e,_⟩:=x;exact Heap.lt_size e
 | own y=>obtain ⟨_,e⟩:=x;exact Heap.lt_size e
 | xd fs=>obtain ⟨_,⟨_,_,_,e,_⟩,_⟩:=x;exact Heap.lt_size e
 | Uo lo hi=>obtain ⟨_,_,_,e⟩:=x;exact Heap.lt_size e
 | BX ob u=>obtain ⟨e,_⟩:=x;exact Heap.lt_size e
 | Oc ps=>exact Heap.lt_size (show h.get? a=some _ from x)
 | met f y=>exact Heap.lt_size (show h.get? a=some _ from x)
 | ext φ => obtain ⟨_,⟨_,e⟩,_⟩:=x;exact Heap.lt_size e
theorem Paired.O5 {α β : Type} {F G : α->β->Prop} : ∀ {l₁ : List α} {l₂ : List β},Paired F l₁ l₂->(∀ a b,F a b->G a b)->Paired G l₁ l₂
 | _,_,.nil,_ => .nil
 | _,_,.cons r t,f => .cons (f _ _ r) (Paired.O5 t f)
theorem bI.stay (x:bI P w H h a o) (k : ∀ b u,(b=a\/H b=some (.own a))->h.get? b=some u->h'.get? b=some u)
  (ho : ∀ b,H b=some (.own a)->H' b=some (.own a)) (ht : ∀ b xs,H b=some (.tup xs)->H' b=some (.tup xs)):bI P w H' h' a o:=by
 induction o with
 | lst xs=>obtain ⟨z,its,n,r,e⟩:=x;exact ⟨z,its,n,r,k _ _ (.inl rfl) e⟩
 | tup xs=>obtain ⟨z,its,r,ob,e,c⟩:=x;exact ⟨z,its,r,ob,k _ _ (.inl rfl) e,c⟩
 | dK kvs=>obtain ⟨z,y,vs,r,ob,es,ep,e,c⟩:=x;exact ⟨z,y,vs,r,ob,es,ep,k _ _ (.inl rfl) e,c⟩
 | dT kvs =>
   obtain ⟨z,y,xs,r,ob,es,ep,e,c⟩:=x
   exact ⟨z,y,xs,Paired.O5 r λ p q z=>⟨z.1,ht _ _ z.2.1,z.2.2⟩,ob,es,ep,k _ _ (.inl rfl) e,c⟩
 | set S n=>obtain ⟨ob,es,ep,t,e,c⟩:=x;exact ⟨ob,es,ep,t,k _ _ (.inl rfl) e,c⟩
 | ins C dx fs =>
   obtain ⟨d,z,ne,e,mA,⟨od,es,ep,e2,c⟩,r⟩:=x
   exact ⟨ho _ d,z,ne,k _ _ (.inl rfl) e,mA,⟨od,es,ep,k _ _ (.inr d) e2,c⟩,r⟩
 | own y=>obtain ⟨ob,e⟩:=x;exact ⟨ob,k _ _ (.inl rfl) e⟩
 | xd fs=>obtain ⟨mA,⟨od,es,ep,e,c⟩,r⟩:=x;exact ⟨mA,⟨od,es,ep,k _ _ (.inl rfl) e,c⟩,r⟩
 | Uo lo hi=>obtain ⟨t,u,v,e⟩:=x;exact ⟨t,u,v,k _ _ (.inl rfl) e⟩
 | BX ob u ih=>obtain ⟨e,q⟩:=x;exact ⟨k _ _ (.inl rfl) e,ih q⟩
 | Oc ps =>
   have e:h.get? a=some { cls := .none,data := .fields ps } := x
   show h'.get? a=some { cls := .none,data := .fields ps }
   exact k a _ (.inl rfl) e
 | met f y =>
   have e:h.get? a=some (PySem.W.methodObj (.ref f) (.ref y)):=x
   show h'.get? a=some (PySem.W.methodObj (.ref f) (.ref y))
   exact k a _ (.inl rfl) e
 | ext φ => obtain ⟨p,⟨o,e⟩,st⟩:=x;exact ⟨st _ _ p λ o q=>k _ _ (.inl rfl) q,⟨o,k _ _ (.inl rfl) e⟩,st⟩
theorem jJ.lt (x:jJ P w H h) (e:H a=some o):a < h.objs.size:=(x a o e).lt
theorem jJ.fresh (x:jJ P w H h) (e:h.objs.size<=a):H a=none:=by
 cases q:H a with
 | none=>rfl
 | some u=>exact absurd (Nat.lt_of_lt_of_le (x.lt q) e) (Nat.lt_irrefl _)
theorem jJ.kept (x:jJ P w H h) (k : ∀ b u,h.get? b=some u->h'.get? b=some u):jJ P w H h':=λ a o e =>
 (x a o e).stay (λ b u _ q=>k b u q) (λ _ q=>q) λ _ _ q=>q
theorem jJ.laid (x:jJ P w H h) (k : ∀ b u,h.get? b=some u->h'.get? b=some u) (hp:h.objs.size<=a) (new:bI P w (upd H a o) h' a o):jJ P w (upd H a o) h':=λ b u e=>by
 have hn:=x.fresh hp
 by_cases hb:b=a
 ·subst hb;rw [iP] at e;cases e;exact new
 ·rw [bN hb] at e
  exact (x b u e).stay (λ c v _ q=>k c v q) (λ c q=>by rw [bN (fc q hn)];exact q) λ c xs q=>by rw [bN (fc q hn)];exact q
end
def Rd (H:Hp) (a:Addr) (u:HO):Prop:=H a=some u ∨ ∃ o,H a=some (.BX o u)
theorem Rd.of {H:Hp} {a:Addr} {u:HO} (h:H a=some u):Rd H a u := .inl h
theorem Rd.ok {P:Program} {w:World} {H:Hp} {h:Heap} {a:Addr} {u:HO} (r:Rd H a u) (x:jJ P w H h):bI P w H h a u:=by
 rcases r with r | ⟨o,r⟩
 ·exact x a u r
 ·obtain ⟨_,q⟩:=x a _ r
  exact q
def RI:Option HO->Prop
 | some (.lst _)=>True
 | some (.dK _)=>True
 | some (.dT _)=>True
 | some (.set _ _)=>True
 | some (.ins _ _ _)=>True
 | some (.ext _)=>True
 | _=>False
section
variable {P:Program} {w:World} {H:Hp} {h h':Heap} {x e:Addr} {o':HO}
theorem jJ.write (ok:jJ P w H h) (mu:RI (H x)) (he:e=x\/H e=some (.own x)) (k : ∀ b u,b≠e->h.get? b=some u->h'.get? b=some u) (Rr : ∃ u,h'.get? e=some u)
  (new:bI P w (upd H x o') h' x o'):jJ P w (upd H x o') h':=λ b u q=>by
 have RJ : ∀ c y,H c=some (.own y)->c≠x:=λ c y r z=>by subst z;rw [r] at mu;exact mu
 have Vr : ∀ c xs,H c=some (.tup xs)->c≠x:=λ c xs r z=>by subst z;rw [r] at mu;exact mu
 by_cases hb:b=x
 ·subst hb;rw [iP] at q;cases q;exact new
 ·rw [bN hb] at q
  by_cases O6:b=e
  ·have q':H b=some (.own x):=by
    rcases he with z | z
    ·exact absurd (O6.trans z) hb
    ·rw [O6];exact z
   rw [q] at q';cases q'
   obtain ⟨v,hv⟩:=Rr
   exact ⟨v,by rw [O6];exact hv⟩
  ·refine (ok b u q).stay (λ c v hc r=>k c v ?_ r) (λ c r=>by rw [bN (RJ c b r)];exact r) λ c xs r=>by rw [bN (Vr c xs r)];exact r
   rcases hc with rfl | hc
   ·exact O6
   ·rintro rfl
    rcases he with z | z
    ·exact RJ c b hc z
    ·rw [hc] at z;cases z;exact hb rfl
end
structure Un (fs ex:List Addr) (H H':Hp) (h h':Heap):Prop where
 keep : ∀ b o,h.get? b=some o->H b=none->b ∉ fs->b ∉ ex->h'.get? b=some o
 slot : ∀ b o,h.get? b=some o->H b=none->b∈fs->b ∉ ex->∃ sl,h'.get? b=some { o with slots:=sl }
 free : ∀ b o,h.get? b=some o->H b=none->b ∉ ex->H' b=none
 there : ∀ b o,h.get? b=some o->b ∉ ex->∃ o',h'.get? b=some o'
 tups : ∀ b xs,H b=some (.tup xs)->H' b=some (.tup xs)
 jK : ∀ b o u,H b=some (.BX o u)->H' b=some (.BX o u)
 jX : ∀ b ps,H b=some (.Oc ps)->∃ more,H' b=some (.Oc (ps++more))
section
variable {fs fs' ex ex':List Addr} {H H1 H2:Hp} {h h1 h2 h':Heap} {a x e:Addr} {o:HO}
theorem Un.any (u:Un fs ex H H1 h h1) {b:Addr} {ob:Obj} (q:h.get? b=some ob) (n:H b=none) (hx:b ∉ ex) : ∃ sl,h1.get? b=some { ob with slots:=sl } := by
 by_cases hb:b∈fs
 ·exact u.slot b ob q n hb hx
 ·exact ⟨ob.slots,u.keep b ob q n hb hx⟩
theorem Un.trans (a:Un fs ex H H1 h h1) (b:Un fs ex H1 H2 h1 h2):Un fs ex H H2 h h2 where
 keep:=λ c ob q n hc hx=>b.keep c ob (a.keep c ob q n hc hx) (a.free c ob q n hx) hc hx
 slot:=λ c ob q n hc hx=>by
  obtain ⟨sl,e1⟩:=a.slot c ob q n hc hx
  obtain ⟨IQ,e2⟩:=b.slot c _ e1 (a.free c ob q n hx) hc hx
  exact ⟨IQ,e2⟩
 free:=λ c ob q n hx=>by
  obtain ⟨o',e1⟩:=a.there c ob q hx
  exact b.free c o' e1 (a.free c ob q n hx) hx
 there:=λ c ob q hx=>by
  obtain ⟨o',e1⟩:=a.there c ob q hx
  exact b.there c o' e1 hx
 tups:=λ c xs q=>b.tups c xs (a.tups c xs q)
 jK:=λ c ob xs q=>b.jK c ob xs (a.jK c ob xs q)
 jX:=λ c ps q=>by
  obtain ⟨m1,e1⟩:=a.jX c ps q
  obtain ⟨m2,e2⟩:=b.jX c _ e1
  exact ⟨m1++m2,by rw [e2,Array.append_assoc]⟩
theorem Un.kept (k : ∀ b u,h.get? b=some u->h'.get? b=some u):Un fs ex H H h h' :=
 ⟨λ b ob q _ _ _=>k b ob q,λ b ob q _ _ _=>⟨ob.slots,k b ob q⟩,λ _ _ _ n _=>n,λ b ob q _=>⟨ob,k b ob q⟩,λ _ _ q=>q,λ _ _ _ q=>q,λ _ ps q=>⟨#[],by rw [q];simp⟩⟩
theorem Un.refl:Un fs ex H H h h:=Un.kept λ _ _ q=>q
theorem Un.laid (k : ∀ b u,h.get? b=some u->h'.get? b=some u) (hp:h.objs.size<=a) (hn:H a=none):Un fs ex H (upd H a o) h h' where
 keep:=λ b u q _ _ _=>k b u q
 slot:=λ b u q _ _ _=>⟨u.slots,k b u q⟩
 free:=λ b u q n _=>by rw [bN (Nat.ne_of_lt (Nat.lt_of_lt_of_le (Heap.lt_size q) hp))];exact n
 there:=λ b u q _=>⟨u,k b u q⟩
 tups:=λ b xs q=>by rw [bN (fc q hn)];exact q
 jK:=λ b u xs q=>by rw [bN (fc q hn)];exact q
 jX:=λ b ps q=>⟨#[],by rw [bN (fc q hn),q];simp⟩
theorem Un.write (mu:RI (H x)) (he:e=x\/H e=some (.own x)) (k : ∀ b u,b≠e->h.get? b=some u->h'.get? b=some u) (Rr : ∃ u,h'.get? e=some u):Un fs ex H (upd H x o) h h':=by
 have hx : ∀ b,H b=none->b≠x:=λ b n z=>by subst z;rw [n] at mu;exact mu
 have hb : ∀ b,H b=none->b≠e:=λ b n z=>by
  subst z
  rcases he with r | r
  ·exact hx b n r
  ·rw [n] at r;cases r
 have hm : ∀ b u,H b=some u->¬ RI (some u)->b≠x:=λ b u q nm z=>by subst z;rw [q] at mu;exact nm mu
 refine ⟨λ b u q n _ _=>k b u (hb b n) q,λ b u q n _ _=>⟨u.slots,k b u (hb b n) q⟩,λ b u q n _=>by rw [bN (hx b n)];exact n,λ b u q _ => ?_,
  λ b xs q=>by rw [bN (hm b _ q λ z=>z)];exact q,λ b u xs q=>by rw [bN (hm b _ q λ z=>z)];exact q,λ b ps q=>⟨#[],by rw [bN (hm b _ q λ z=>z),q];simp⟩⟩
 by_cases O6:b=e
 ·subst O6;exact Rr
 ·exact ⟨u,k b u O6 q⟩
theorem Un.mono (u:Un fs ex H H1 h h1) (hs : ∀ b∈fs,b∈fs') (hx : ∀ b∈ex,b∈ex'):Un fs' ex' H H1 h h1 :=
 ⟨λ b ob q n hb he=>u.keep b ob q n (λ z=>hb (hs b z)) λ z=>he (hx b z),λ _ _ q n _ he=>u.any q n λ z=>he (hx _ z),λ b ob q n he=>u.free b ob q n λ z=>he (hx b z),λ b ob q he=>u.there b ob q λ z=>he (hx b z),u.tups,u.jK,u.jX⟩
end
def Up (h:Heap) (H:Hp):List Addr:=(List.range h.objs.size).filter λ a=>(H a).isSome
def zQ (h:Heap) (H:Hp):Heap:=PySem.W.hideAll h (Up h H)
theorem GO (h:Heap) (H:Hp):(zQ h H).objs.size=h.objs.size:=PySem.W.hideAll_size _ _
theorem IS {h:Heap} {H:Hp} {b:Addr} {o:Obj} (e:h.get? b=some o) (n:H b=none):(zQ h H).get? b=some o :=
 PySem.W.hideAll_get _ e λ hm=>by
  have q:(H b).isSome=true:=(List.mem_filter.mp hm).2
  rw [n] at q;simp at q
theorem Ma {h:Heap} {H:Hp} {b:Addr} {o:Obj} (e:(zQ h H).get? b=some o):h.get? b=some o/\H b=none:=by
 have e':h.get? b=some o:=PySem.W.of_hideAll (Up h H) e
 refine ⟨e',?_⟩
 cases q:H b with
 | none=>rfl
 | some x =>
   have hm:b∈Up h H:=List.mem_filter.mpr ⟨List.mem_range.mpr (Heap.lt_size e'),by simp [q]⟩
   have z:(zQ h H).get? b=none:=PySem.W.hideAll_none (Up h H) hm
   rw [z] at e;cases e
def Mb (g h:Heap) (L:Addr):List (Addr×Obj):=(List.range h.objs.size).filterMap λ a=>if a=L\/(g.get? a).isSome=true then none else (h.get? a).map λ o=>(a,o)
def rest (g h:Heap) (L d:Addr):List (Addr×Obj):=(Mb g h L).filter λ p=>decide (p.1≠d)
end L2
namespace L2
open PySem PySem.Spec PyProof.Rows
structure Mod (K:PySem.W.Frag) (mg:Str->Option Value) (base:Heap):Prop where
 O7:K.In base
 glob:base.Ns mainGlobals mg
 blt : ∃ mb,base.Ns builtinsNs mb ∧ ∀ x:Str,x ≠ "__name__"->mb x=bootBuiltins x
 nolimit:base.NoLimit
structure Cx where
 prog:Program
 w:World
 K:PySem.W.Frag
 mg:Str->Option Value
 base:Heap
 A:Around
 N:List Str
 s₀ : Shared
 H₀ : Hp
 env:Env
 outer:List Env
 stack:List Env
 ex:List Addr
 fn:Str->Bool
 calm:Bool
 pn:List (Addr×Obj)
 xe:Value->Shared->Prop
def frs (l:List Env):List Addr:=l.filterMap (·.frame)
abbrev Cx.fs (X:Cx):List Addr:=frs X.outer
def O8 (sc:Scope) (x:Str):Prop:=sc.names.lookup x=some .local\/sc.names.lookup x=some .cell\/sc.names.lookup x=some .free
def Loc (sc:Scope) (x:Str):Prop:=sc.names.lookup x=some .local\/sc.names.lookup x=some .cell
def Look (env:Env) (h:Heap) (m:Str->Option Value) (x:Str) (u:Value):Prop :=
 (env.kindOf x=some .local/\m x=some u)\/((env.kindOf x=some .cell\/env.kindOf x=some .free) ∧ ∃ c,env.cells.lookup x=some c/\h.IsCell c (some u))
structure Cx.Ok (X:Cx):Prop where
 mod:Mod X.K X.mg X.base
 kind:X.env.scope.kind = .function
 glob:X.env.globals=mainGlobals
 blt:X.env.builtins=builtinsNs
 above:X.s₀.heap.objs.size<=X.env.locals
 inj : ∀ x y c,X.env.cells.lookup x=some c->X.env.cells.lookup y=some c->x=y
 has : ∀ x,(X.env.kindOf x=some .cell\/X.env.kindOf x=some .free)->∃ c,X.env.cells.lookup x=some c
 O9 : ∀ x c,X.fn x=true->X.env.cells.lookup x=some c->X.s₀.heap.objs.size<=c
 hd:X.calm=true->X.A.handled=none
 frames:X.A.frames=some X.stack
 stk:X.stack=X.outer\/(X.stack=X.env::X.outer/\X.env.frame=some X.env.locals)
 Uq : ∀ b∈X.ex,b≠X.env.locals ∧ ∀ x c,X.env.cells.lookup x=some c->c≠b
 bs : ∀ b o,X.base.get? b=some o->X.s₀.heap.get? b=some o/\X.H₀ b=none
 IJ:X.base.objs.size<=X.s₀.heap.objs.size
 DN : ∀ b o,X.base.get? b=some o->b ∉ X.ex
 GP : ∀ b∈X.ex,b ∉ X.fs
 nM:X.s₀.heap.FunFrames X.base X.outer
 Mc : ∀ b∈X.fs,X.H₀ b=none
structure Inv (X:Cx) (pins:List (Addr×Obj)) (σ : List (Option V)) (H:Hp) (s:Shared):Prop where
 ok:X.Ok
 os:s.os=X.s₀.os
 bare:AllBare s.gens
 base:Un X.fs X.ex X.H₀ H X.s₀.heap s.heap
 loc : ∃ m,s.heap.Ns X.env.locals m ∧ ∀ (i:Nat) (x:Str) (v:V),X.N[i]? = some x->σ[i]? = some (some v)->O8 X.env.scope x->∃ u,RelV v u/\Look X.env s.heap m x u
 cell : ∀ x c,X.env.cells.lookup x=some c->∃ v,s.heap.IsCell c v
 free:H X.env.locals=none
 jz : ∀ x c,X.env.cells.lookup x=some c->H c=none
 pin : ∀ p∈X.pn++pins,s.heap.get? p.1=some p.2/\H p.1=none/\p.1≠X.env.locals/\p.1 ∉ X.fs ∧ ∀ v,p.2.data ≠ .cell v
 hok:jJ X.prog X.w H s.heap
 len : σ.length=X.N.length
section
variable {X:Cx} {pins:List (Addr×Obj)} {σ : List (Option V)} {H H':Hp} {s:Shared} {h':Heap}
theorem Cx.Ok.Vs (ok:X.Ok) {b:Addr} {o:Obj} (e:X.base.get? b=some o):b ∉ X.fs:=λ hb=>by
 have:=(ok.nM.mem hb).1
 rw [e] at this;cases this
theorem Inv.bs (I:Inv X pins σ H s) : ∀ b o,X.base.get? b=some o->s.heap.get? b=some o/\H b=none:=λ b o e =>
 ⟨I.base.keep b o (I.ok.bs b o e).1 (I.ok.bs b o e).2 (I.ok.Vs e) (I.ok.DN b o e),I.base.free b o (I.ok.bs b o e).1 (I.ok.bs b o e).2 (I.ok.DN b o e)⟩
theorem Inv.bk (I:Inv X pins σ H s) : ∀ b o,X.base.get? b=some o->s.heap.get? b=some o:=λ b o e=>(I.bs b o e).1
theorem Inv.mod (I:Inv X pins σ H s):Mod X.K X.mg X.base:=I.ok.mod
theorem Inv.nN (I:Inv X pins σ H s):X.K.In s.heap:=I.ok.mod.O7.keeps I.bk
theorem Inv.fr (I:Inv X pins σ H s) : ∃ m,Fr X.base X.env.locals s.heap m :=
 let ⟨m,hn,_⟩:=I.loc
 ⟨m,hn,I.bk,Nat.le_trans I.ok.IJ I.ok.above⟩
theorem Inv.lt (I:Inv X pins σ H s):X.env.locals < s.heap.objs.size:=let ⟨_,hn,_⟩:=I.loc;hn.lt
theorem Inv.sz (I:Inv X pins σ H s):X.s₀.heap.objs.size<=s.heap.objs.size:=Nat.le_trans I.ok.above (Nat.le_of_lt I.lt)
theorem Inv.Vt (I:Inv X pins σ H s) {a:Addr} (h:s.heap.objs.size<=a):a ∉ X.fs:=λ hb=>by
 obtain ⟨_,o,ho,_⟩:=I.ok.nM.mem hb
 exact absurd (Nat.lt_of_lt_of_le (Heap.lt_size ho) (Nat.le_trans I.sz h)) (Nat.lt_irrefl _)
theorem Inv.Pa (I:Inv X pins σ H s) : ∀ x c,X.env.cells.lookup x=some c->c≠X.env.locals:=λ x c e z=>by
 obtain ⟨v,o,ho,hd⟩:=I.cell x c e
 obtain ⟨m,⟨o',es,ep,ho',hd',_⟩,_⟩:=I.loc
 rw [z,ho'] at ho;cases ho;rw [hd'] at hd;cases hd
theorem Inv.nM (I:Inv X pins σ H s):s.heap.FunFrames X.base X.outer:=by
 have all : ∀ (l:List Env),(∀ b∈frs l,b∈X.fs)->X.s₀.heap.FunFrames X.base l->s.heap.FunFrames X.base l:=by
  intro l
  induction l with
  | nil=>intro _ _;trivial
  | cons env r ih =>
    intro hs hl
    obtain ⟨hk,⟨L,o,hf,hn,ho,hd⟩,hr⟩:=hl
    have hL:L∈X.fs:=hs L (by unfold frs;rw [List.filterMap_cons,hf];exact List.mem_cons_self)
    obtain ⟨sl,e⟩:=I.base.slot L o ho (I.ok.Mc L hL) hL λ z=>I.ok.GP L z hL
    exact ⟨hk,⟨L,_,hf,hn,e,hd⟩,ih (λ b hb=>hs b (by unfold frs;rw [List.filterMap_cons,hf];exact List.mem_cons_of_mem _ hb)) hr⟩
 exact all X.outer (λ _ hb=>hb) I.ok.nM
theorem Inv.stack (I:Inv X pins σ H s):s.heap.FunFrames X.base X.stack:=by
 rcases I.ok.stk with e | ⟨e,hf⟩
 ·rw [e];exact I.nM
 ·rw [e]
  obtain ⟨m,hn,_⟩:=I.loc
  refine .cons (by rw [I.ok.kind];decide) hf hn ?_ I.nM
  exact Heap.get?_none_of_le (Nat.le_trans I.ok.IJ I.ok.above)
theorem Inv.uf (I:Inv X pins σ H s) : ∀ b∈frs X.stack,b∈X.env.locals::X.fs:=λ b hb=>by
 rcases I.ok.stk with e | ⟨e,hf⟩
 ·rw [e] at hb;exact List.mem_cons_of_mem _ hb
 ·rw [e] at hb
  unfold frs at hb
  rw [List.filterMap_cons,hf] at hb
  exact hb
theorem Inv.zR (I:Inv X pins σ H s) : ∀ b∈frs X.stack,H b=none:=λ b hb=>by
 rcases List.mem_cons.mp (I.uf b hb) with e | hb
 ·rw [e];exact I.free
 ·obtain ⟨_,o,ho,_⟩:=I.ok.nM.mem hb
  exact I.base.free b o ho (I.ok.Mc b hb) λ z=>I.ok.GP b z hb
theorem Inv.step {g':Array GenState} {t':Nat} {d':Drawn} {ch:List Addr} (I:Inv X pins σ H s)
  (hch : ∀ b∈ch,(b∈X.ex\/X.s₀.heap.objs.size<=b)/\b≠X.env.locals/\(∀ x c,X.env.cells.lookup x=some c->c≠b) ∧ ∀ p∈X.pn++pins,p.1≠b)
  (keep : ∀ b o,b≠X.env.locals->b ∉ X.fs->b ∉ ch->s.heap.get? b=some o->H b=none->h'.get? b=some o)
  (slot : ∀ b o,b≠X.env.locals->b∈X.fs->b ∉ ch->s.heap.get? b=some o->H b=none->∃ sl,h'.get? b=some { o with slots:=sl }) (free : ∀ b o,b ∉ ch->s.heap.get? b=some o->H b=none->H' b=none)
  (there : ∀ b o,b ∉ ch->s.heap.get? b=some o->∃ o',h'.get? b=some o')
  (tups : ∀ b xs,H b=some (.tup xs)->H' b=some (.tup xs)) (jK : ∀ b o u,H b=some (.BX o u)->H' b=some (.BX o u)) (jX : ∀ b ps,H b=some (.Oc ps)->∃ more,H' b=some (.Oc (ps++more)))
  (ns : ∀ m,s.heap.Ns X.env.locals m->h'.Ns X.env.locals m) (hok:jJ X.prog X.w H' h') (hg:AllBare g') :
  Inv X pins σ H' { s with heap:=h',gens:=g',drawn:=d',toks:=t' } := by
 have neL : ∀ b o,X.s₀.heap.get? b=some o->b≠X.env.locals:=λ b o e=>Nat.ne_of_lt (Nat.lt_of_lt_of_le (Heap.lt_size e) I.ok.above)
 have Rt : ∀ b o,X.s₀.heap.get? b=some o->b ∉ X.ex->b ∉ ch:=λ b o e hx hb=>by
  rcases (hch b hb).1 with z | z
  ·exact hx z
  ·exact absurd (Nat.lt_of_lt_of_le (Heap.lt_size e) z) (Nat.lt_irrefl _)
 have cellK : ∀ x c,X.env.cells.lookup x=some c->∀ v,s.heap.IsCell c v->h'.IsCell c v:=λ x c e v ⟨o,ho,hd⟩=>by
  have RK:c ∉ ch:=λ z=>(hch c z).2.2.1 x c e rfl
  by_cases hc:c∈X.fs
  ·obtain ⟨sl,q⟩:=slot c o (I.Pa x c e) hc RK ho (I.jz x c e)
   exact ⟨_,q,hd⟩
  ·exact ⟨o,keep c o (I.Pa x c e) hc RK ho (I.jz x c e),hd⟩
 refine ⟨I.ok,I.os,hg,⟨λ b o e n hb hx => ?_,λ b o e n hb hx => ?_,λ b o e n hx => ?_,λ b o e hx => ?_,λ b xs e=>tups b xs (I.base.tups b xs e),λ b o xs e=>jK b o xs (I.base.jK b o xs e),λ b ps e => ?_⟩,?_,λ x c e => ?_,?_,λ x c e => ?_,λ p hp => ?_,hok,I.len⟩
 ·exact keep b o (neL b o e) hb (Rt b o e hx) (I.base.keep b o e n hb hx) (I.base.free b o e n hx)
 ·obtain ⟨sl,e1⟩:=I.base.slot b o e n hb hx
  obtain ⟨IQ,e2⟩:=slot b _ (neL b o e) hb (Rt b o e hx) e1 (I.base.free b o e n hx)
  exact ⟨IQ,e2⟩
 ·obtain ⟨o',e1⟩:=I.base.there b o e hx
  exact free b o' (Rt b o e hx) e1 (I.base.free b o e n hx)
 ·obtain ⟨o',e1⟩:=I.base.there b o e hx
  exact there b o' (Rt b o e hx) e1
 ·obtain ⟨m1,e1⟩:=I.base.jX b ps e
  obtain ⟨m2,e2⟩:=jX b _ e1
  exact ⟨m1++m2,by rw [e2,Array.append_assoc]⟩
 ·obtain ⟨m,hn,hl⟩:=I.loc
  refine ⟨m,ns m hn,λ i x v e1 e2 e3 => ?_⟩
  obtain ⟨u,r,l⟩:=hl i x v e1 e2 e3
  refine ⟨u,r,?_⟩
  rcases l with l | ⟨k,c,e,z⟩
  ·exact .inl l
  ·exact .inr ⟨k,c,e,cellK x c e _ z⟩
 ·obtain ⟨v,z⟩:=I.cell x c e
  exact ⟨v,cellK x c e v z⟩
 ·obtain ⟨m,⟨o,_,_,ho,_⟩,_⟩:=I.loc
  exact free _ o (λ z=>(hch _ z).2.1 rfl) ho I.free
 ·obtain ⟨v,o,ho,hd⟩:=I.cell x c e
  exact free c o (λ z=>(hch c z).2.2.1 x c e rfl) ho (I.jz x c e)
 ·obtain ⟨e,n,ne,nf,d⟩:=I.pin p hp
  have RK:p.1 ∉ ch:=λ z=>(hch p.1 z).2.2.2 p hp rfl
  exact ⟨keep p.1 p.2 ne nf RK e n,free p.1 p.2 RK e n,ne,nf,d⟩
theorem Inv.un {t':Nat} (I:Inv X pins σ H s) (u:Un X.fs [] H H' s.heap h') (hok:jJ X.prog X.w H' h'):Inv X pins σ H' { s with heap:=h',toks:=t' } := by
 obtain ⟨m,⟨o,es,ep,ho,r⟩,_⟩:=id I.loc
 obtain ⟨sl,hL⟩:=u.any ho I.free (by simp)
 exact I.step (g':=s.gens) (d':=s.drawn) (ch:=[]) (λ _ z=>nomatch z) (λ b o _ hb _ e n=>u.keep b o e n hb (by simp)) (λ b o _ hb _ e n=>u.slot b o e n hb (by simp)) (λ b o _ e n=>u.free b o e n (by simp)) (λ b o _ e=>u.there b o e (by simp)) u.tups u.jK u.jX (λ m' hm=>by
  obtain ⟨o',es',Vu,ho',r'⟩:=hm
  rw [ho] at ho';cases ho'
  exact ⟨_,es',Vu,hL,r'⟩) hok I.bare
theorem Inv.call {g':Array GenState} {t':Nat} {d':Drawn} {ch:List Addr} (I:Inv X pins σ H s) (u:Un (frs X.stack) ch H H' s.heap h') (hok:jJ X.prog X.w H' h') (hg:AllBare g')
  (hch : ∀ b∈ch,(b∈X.ex\/X.s₀.heap.objs.size<=b)/\b≠X.env.locals/\(∀ x c,X.env.cells.lookup x=some c->c≠b) ∧ ∀ p∈X.pn++pins,p.1≠b) :
  Inv X pins σ H' { s with heap:=h',gens:=g',drawn:=d',toks:=t' } := by
 obtain ⟨m,⟨o,es,ep,ho,r⟩,_⟩:=id I.loc
 obtain ⟨sl,hL⟩:=u.any ho I.free λ z=>(hch _ z).2.1 rfl
 exact I.step (ch:=ch) hch (λ b o hL hb hc e n=>u.keep b o e n (λ z=>(List.mem_cons.mp (I.uf b z)).elim hL hb) hc) (λ b o _ _ hc e n=>u.any e n hc) (λ b o hc e n=>u.free b o e n hc) (λ b o hc e=>u.there b o e hc) u.tups u.jK u.jX (λ m' hm=>by
  obtain ⟨o',es',Vu,ho',r'⟩:=hm
  rw [ho] at ho';cases ho'
  exact ⟨_,es',Vu,hL,r'⟩) hok hg
theorem Inv.turned {t':Nat} {it:Addr} (I:Inv X pins σ H s) (k : ∀ b o,b≠it->s.heap.get? b=some o->h'.get? b=some o) (hn:H it=none) (hL:it≠X.env.locals)
  (h1:it∈X.ex\/X.s₀.heap.objs.size<=it) (h2 : ∀ x c,X.env.cells.lookup x=some c->c≠it) (h3 : ∀ p∈X.pn++pins,p.1≠it):Inv X pins σ H { s with heap:=h',toks:=t' } := by
 have nit : ∀ b u,H b=some u->b≠it:=λ b u e z=>by rw [z,hn] at e;cases e
 refine I.step (g':=s.gens) (d':=s.drawn) (ch:=[it]) (λ b hb => ?_) (λ b o _ _ hc e _=>k b o (λ z=>hc (by simp [z])) e) (λ b o _ _ hc e _=>⟨o.slots,k b o (λ z=>hc (by simp [z])) e⟩) (λ _ _ _ _ n=>n)
  (λ b o hc e=>⟨o,k b o (λ z=>hc (by simp [z])) e⟩) (λ _ _ e=>e) (λ _ _ _ e=>e) (λ b ps e=>⟨#[],by rw [e];simp⟩) (λ m hm => ?_) (λ b u e => ?_) I.bare
 ·have e:b=it:=by simpa using hb
  subst e
  exact ⟨h1,hL,h2,h3⟩
 ·obtain ⟨o,es,ep,ho,r⟩:=hm
  exact ⟨o,es,ep,k _ o (Ne.symm hL) ho,r⟩
 ·refine (I.hok b u e).stay (λ c v hc q=>k c v ?_ q) (λ _ q=>q) λ _ _ q=>q
  rcases hc with z | z
  ·rw [z];exact nit b u e
  ·exact nit c _ z
theorem Inv.tok (I:Inv X pins σ H s) (t:Nat):Inv X pins σ H { s with toks:=t } := I.un (h':=s.heap) (t':=t) Un.refl I.hok
theorem Inv.kept {t':Nat} (I:Inv X pins σ H s) (k : ∀ b u,s.heap.get? b=some u->h'.get? b=some u):Inv X pins σ H { s with heap:=h',toks:=t' } := I.un (Un.kept k) (I.hok.kept k)
theorem Inv.laid {a:Addr} {o:HO} {t':Nat} (I:Inv X pins σ H s) (k : ∀ b u,s.heap.get? b=some u->h'.get? b=some u) (hp:s.heap.objs.size<=a) (new:bI X.prog X.w (upd H a o) h' a o) :
  Inv X pins σ (upd H a o) { s with heap:=h',toks:=t' } := I.un (Un.laid k hp (I.hok.fresh hp)) (I.hok.laid k hp new)
theorem Inv.write {x e:Addr} {o:HO} {t':Nat} (I:Inv X pins σ H s) (mu:RI (H x)) (he:e=x\/H e=some (.own x)) (k : ∀ b u,b≠e->s.heap.get? b=some u->h'.get? b=some u) (Rr : ∃ u,h'.get? e=some u)
  (new:bI X.prog X.w (upd H x o) h' x o):Inv X pins σ (upd H x o) { s with heap:=h',toks:=t' } := I.un (Un.write mu he k Rr) (I.hok.write mu he k Rr new)
theorem Inv.F2 {ug:List (Addr×Obj)} (I:Inv X pins σ H s) (h : ∀ p∈ug,s.heap.get? p.1=some p.2/\H p.1=none/\p.1≠X.env.locals/\p.1 ∉ X.fs ∧ ∀ v,p.2.data ≠ .cell v):Inv X ug σ H s :=
 ⟨I.ok,I.os,I.bare,I.base,I.loc,I.cell,I.free,I.jz,λ p hp=>(List.mem_append.mp hp).elim (λ z=>I.pin p (List.mem_append_left _ z)) (h p),I.hok,I.len⟩
theorem B7 {N:List Str} (hN:N.Nodup) {i j:Nat} {x:Str} (a:N[i]? = some x) (b:N[j]? = some x):i=j:=by
 obtain ⟨h1,e1⟩:=List.getElem?_eq_some_iff.mp a
 obtain ⟨h2,e2⟩:=List.getElem?_eq_some_iff.mp b
 exact (List.getElem_inj hN).mp (e1.trans e2.symm)
theorem zf {M:Model} {A:Around} {E:Value->Shared->Prop} {i:Nat} {x:Str} {v:V} {u:Value} {Q:Unit->Shared->Prop} (I:Inv X pins σ H s) (hN:X.N.Nodup) (hi:X.N[i]? = some x) (hx:Loc X.env.scope x) (r:RelV v u)
  (h : ∀ s',Inv X pins (σ.set i (some v)) H s'->(∃ a,Heap.SameBut a s.heap s'.heap/\(a=X.env.locals\/X.env.cells.lookup x=some a))->Q () s') (hf:X.fn x=true\/X.env.scope.names.lookup x=some .local:=by first | exact .inl rfl | exact .inr rfl | assumption):wpAny M A (storeName X.env x u) Q E s:=by
 obtain ⟨m,hn,hl⟩:=id I.loc
 have hcls:(X.env.scope.kind == .class || (X.env.scope.kind == .module && X.env.locals != X.env.globals))=false:=by rw [I.ok.kind];rfl
 have hiσ : i < σ.length:=by rw [I.len];exact (List.getElem?_eq_some_iff.mp hi).1
 have Pa:=I.Pa
 have tracked : ∀ {a:Addr} {h':Heap},(∃ o,s.heap.get? a=some o/\H a=none)->Heap.SameBut a s.heap h'->jJ X.prog X.w H h':=fun {a h'} ha hs b ob e=>by
  obtain ⟨_,_,hfree⟩:=ha
  refine (I.hok b ob e).stay (λ c w' hc q=>(hs.2 c ?_).trans q) (λ _ q=>q) λ _ _ q=>q
  rintro rfl
  rcases hc with rfl | hc
  ·rw [hfree] at e;cases e
  ·rw [hfree] at hc;cases hc
 rcases hx with hk | hk
 ·refine wpAny_storeName_local hk hn (λ h' hn' hs => ?_) hcls
  obtain ⟨oL,_,_,hoL,_⟩:=id hn
  refine h _ ⟨I.ok,I.os,I.bare,⟨λ b o e n hb hx => ?_,λ b o e n hb hx => ?_,I.base.free,λ b o e hx => ?_,I.base.tups,I.base.jK,I.base.jX⟩,⟨_,hn',λ j y v' e1 e2 e3 => ?_⟩,λ y c e => ?_,I.free,I.jz,λ p hp => ?_,tracked ⟨oL,hoL,I.free⟩ hs,by simpa using I.len⟩ ⟨_,hs,.inl rfl⟩
  ·exact (hs.2 b (Nat.ne_of_lt (Nat.lt_of_lt_of_le (Heap.lt_size e) I.ok.above))).trans (I.base.keep b o e n hb hx)
  ·obtain ⟨sl,e1⟩:=I.base.slot b o e n hb hx
   exact ⟨sl,(hs.2 b (Nat.ne_of_lt (Nat.lt_of_lt_of_le (Heap.lt_size e) I.ok.above))).trans e1⟩
  ·obtain ⟨o',e1⟩:=I.base.there b o e hx
   exact ⟨o',(hs.2 b (Nat.ne_of_lt (Nat.lt_of_lt_of_le (Heap.lt_size e) I.ok.above))).trans e1⟩
  ·by_cases hj:j=i
   ·subst hj
    rw [hi] at e1;cases e1
    rw [List.getElem?_set_self hiσ] at e2
    cases e2
    exact ⟨u,r,.inl ⟨hk,by simp⟩⟩
   ·rw [List.getElem?_set_ne (Ne.symm hj)] at e2
    obtain ⟨u',r',q⟩:=hl j y v' e1 e2 e3
    refine ⟨u',r',?_⟩
    rcases q with ⟨k,e⟩ | ⟨k,c,e,z⟩
    ·refine .inl ⟨k,?_⟩
     have:y≠x:=λ e=>hj (B7 hN e1 (e ▸ hi))
     simp [this,e]
    ·exact .inr ⟨k,c,e,z.sameBut hs (Pa y c e)⟩
  ·obtain ⟨w',z⟩:=I.cell y c e
   exact ⟨w',z.sameBut hs (Pa y c e)⟩
  ·obtain ⟨e,n,ne,nf,d⟩:=I.pin p hp
   exact ⟨(hs.2 p.1 ne).trans e,n,ne,nf,d⟩
 ·have hfn:X.fn x=true:=by
   rcases hf with z | z
   ·exact z
   ·rw [z] at hk;cases hk
  obtain ⟨c,hc⟩:=I.ok.has x (.inl hk)
  obtain ⟨w',z⟩:=I.cell x c hc
  refine wpAny_storeName_cell I.ok.kind hk hc z (λ h' hc' hs => ?_)
  obtain ⟨oc,hoc,Vv⟩:=id z
  refine h { s with heap:=h' } ⟨I.ok,I.os,I.bare,⟨λ b o e n hb hx => ?_,λ b o e n hb hx => ?_,I.base.free,λ b o e hx => ?_,I.base.tups,I.base.jK,I.base.jX⟩,⟨m,hn.sameBut hs (Ne.symm (Pa x c hc)),λ j y v' e1 e2 e3 => ?_⟩,λ y c' e => ?_,I.free,I.jz,λ p hp => ?_,tracked ⟨oc,hoc,I.jz x c hc⟩ hs,by simpa using I.len⟩ ⟨c,hs,.inr hc⟩
  ·exact (hs.2 b (Nat.ne_of_lt (Nat.lt_of_lt_of_le (Heap.lt_size e) (I.ok.O9 x c hfn hc)))).trans (I.base.keep b o e n hb hx)
  ·obtain ⟨sl,e1⟩:=I.base.slot b o e n hb hx
   exact ⟨sl,(hs.2 b (Nat.ne_of_lt (Nat.lt_of_lt_of_le (Heap.lt_size e) (I.ok.O9 x c hfn hc)))).trans e1⟩
  ·obtain ⟨o',e1⟩:=I.base.there b o e hx
   exact ⟨o',(hs.2 b (Nat.ne_of_lt (Nat.lt_of_lt_of_le (Heap.lt_size e) (I.ok.O9 x c hfn hc)))).trans e1⟩
  ·by_cases hj:j=i
   ·subst hj
    rw [hi] at e1;cases e1
    rw [List.getElem?_set_self hiσ] at e2
    cases e2
    exact ⟨u,r,.inr ⟨.inl hk,c,hc,hc'⟩⟩
   ·rw [List.getElem?_set_ne (Ne.symm hj)] at e2
    obtain ⟨u',r',q⟩:=hl j y v' e1 e2 e3
    refine ⟨u',r',?_⟩
    rcases q with q | ⟨k,c',e,z'⟩
    ·exact .inl q
    ·refine .inr ⟨k,c',e,z'.sameBut hs ?_⟩
     rintro rfl
     exact hj (B7 hN e1 (I.ok.inj _ _ _ e hc ▸ hi))
  ·by_cases hcc:c' = c
   ·subst hcc;exact ⟨_,hc'⟩
   ·obtain ⟨w2,z2⟩:=I.cell y c' e
    exact ⟨w2,z2.sameBut hs hcc⟩
  ·obtain ⟨e,n,ne,nf,d⟩:=I.pin p hp
   refine ⟨(hs.2 p.1 ?_).trans e,n,ne,nf,d⟩
   intro q
   rw [q,hoc] at e
   have q':oc=p.2:=Option.some.inj e
   exact d w' (by rw [<-q'];exact Vv)
theorem uh {M:Model} {A:Around} {E:Value->Shared->Prop} {i:Nat} {x:Str} {v:V} {u:Value} {Q:Unit->Shared->Prop} (I:Inv X pins σ H s) (hN:X.N.Nodup) (hi:X.N[i]? = some x) (hx:Loc X.env.scope x) (r:RelV v u)
  (h : ∀ s',Inv X pins (σ.set i (some v)) H s'->Q () s') (hf:X.fn x=true\/X.env.scope.names.lookup x=some .local:=by first | exact .inl rfl | exact .inr rfl | assumption):wpAny M A (storeName X.env x u) Q E s :=
 zf I hN hi hx r (λ s' I' _=>h s' I') hf
theorem Inv.IT {s':Shared} {ch:List Addr} (I:Inv X pins σ H s) (ho:s'.os=s.os) (u:Un (frs X.stack) ch H H' s.heap s'.heap) (hok:jJ X.prog X.w H' s'.heap) (hg:AllBare s'.gens)
  (hch : ∀ b∈ch,(b∈X.ex\/X.s₀.heap.objs.size<=b)/\b≠X.env.locals/\(∀ x c,X.env.cells.lookup x=some c->c≠b) ∧ ∀ p∈X.pn++pins,p.1≠b):Inv X pins σ H' s':=by
 obtain ⟨h',g',d',t',o'⟩:=s'
 have e:o' = s.os:=ho
 subst e
 exact I.call (g':=g') (t':=t') (d':=d') u hok hg hch
end
abbrev XK:=Value->Option Addr->Hp->Prop
abbrev St:=List (Option V)
abbrev VK:=V->Hp->Prop
abbrev TE:=St->Hp->VK->Prop
abbrev TT:=St->Hp->(Bool->Hp->Prop)->Prop
abbrev TA:=St->Hp->(List V->Hp->Prop)->Prop
structure Ends where
 nx:St->Hp->Prop
 rt:VK
 bk:St->Hp->Prop:=λ _ _=>False
 ct:St->Hp->Prop:=λ _ _=>False
abbrev TS:=Ends->St->Hp->Prop
def EP (X:Cx) (pins:List (Addr×Obj)) (σ : St) (Q:VK) (u:Value) (s':Shared):Prop := ∃ v H',Inv X pins σ H' s'/\RelV v u/\Q v H'
def TP (X:Cx) (pins:List (Addr×Obj)) (σ : St) (Q:Bool->Hp->Prop) (b:Bool) (s':Shared):Prop := ∃ H',Inv X pins σ H' s'/\Q b H'
def AP (X:Cx) (pins:List (Addr×Obj)) (σ : St) (Q:List V->Hp->Prop) (us:List Value) (s':Shared):Prop := ∃ vs H',Inv X pins σ H' s'/\Vals vs us/\Q vs H'
def SP (X:Cx) (pins:List (Addr×Obj)) (D:Ends) (f:Flow) (s':Shared):Prop :=
 match f with
 | .next => ∃ σ' H',Inv X pins σ' H' s'/\D.nx σ' H'
 | .brk => ∃ σ' H',Inv X pins σ' H' s'/\D.bk σ' H'
 | .cont => ∃ σ' H',Inv X pins σ' H' s'/\D.ct σ' H'
 | .ret u => ∃ v σ' H',Inv X pins σ' H' s'/\RelV v u/\D.rt v H'
def PE (X:Cx) (e:Expr) (t:TE):Prop :=
 ∀ (pins:List (Addr×Obj)) (s:Shared) (σ : St) (H:Hp) (Q:VK),Inv X pins σ H s->t σ H Q->wpAny (model X.prog X.w) X.A (eval e X.env) (EP X pins σ Q) X.xe s
def PT (X:Cx) (e:Expr) (t:TT):Prop :=
 ∀ (pins:List (Addr×Obj)) (s:Shared) (σ : St) (H:Hp) (Q:Bool->Hp->Prop),Inv X pins σ H s->t σ H Q->wpAny (model X.prog X.w) X.A (isTrue e X.env (eval e X.env)) (TP X pins σ Q) X.xe s
def PW (X:Cx) (e:Expr) (t:TT):Prop :=
 ∀ (whole:Sem Value) (pins:List (Addr×Obj)) (s:Shared) (σ : St) (H:Hp) (Q:Bool->Hp->Prop),Inv X pins σ H s->t σ H Q->wpAny (model X.prog X.w) X.A (isTrue e X.env whole) (TP X pins σ Q) X.xe s
theorem PW.pt {X:Cx} {e:Expr} {t:TT} (h:PW X e t):PT X e t:=h _
def PA (X:Cx) (es:List Expr) (t:TA):Prop :=
 ∀ (pos:Pos) (pins:List (Addr×Obj)) (s:Shared) (σ : St) (H:Hp) (Q:List V->Hp->Prop),Inv X pins σ H s->t σ H Q->wpAny (model X.prog X.w) X.A (spliced (backTo pos (starEach es X.env))) (AP X pins σ Q) X.xe s
def PS (X:Cx) (st:Stmt) (t:TS):Prop :=
 ∀ (pins:List (Addr×Obj)) (s:Shared) (σ : St) (H:Hp) (D:Ends),Inv X pins σ H s->t D σ H->wpAny (model X.prog X.w) X.A (exec st X.env) (SP X pins D) X.xe s
def zg (X:Cx) (st:List Stmt) (t:TS):Prop :=
 ∀ (pins:List (Addr×Obj)) (s:Shared) (σ : St) (H:Hp) (D:Ends),Inv X pins σ H s->t D σ H->wpAny (model X.prog X.w) X.A (execs st X.env) (SP X pins D) X.xe s
theorem b8 {α : Type} {t:Sem α} {Q Q' : α->Shared->Prop} {M:Model} {A:Around} {E:Value->Shared->Prop} {s:Shared} (h:wpAny M A t Q E s) (hQ : ∀ a s,Q a s->Q' a s):wpAny M A t Q' E s:=wpAny_mono h hQ λ _ _ x=>x
end L2
namespace L2
open PySem PySem.Spec PyProof.Rows
section
variable {X:Cx}
theorem bin {a b:Expr} {ta tb:TE} (ha:PE X a ta) (hb:PE X b tb) {pins:List (Addr×Obj)} {s:Shared} {σ : St} {H:Hp} {R:V->V->Hp->Prop} (I:Inv X pins σ H s) (h:ta σ H λ x H1=>tb σ H1 λ y H2=>R x y H2)
  {α : Type} {Q : α->Shared->Prop} {f:Value->Value->Sem α}
  (hf : ∀ v u s2 x y H2,Inv X pins σ H2 s2->RelV x v->RelV y u->R x y H2->wpAny (model X.prog X.w) X.A (f v u) Q X.xe s2) :
  wpAny (model X.prog X.w) X.A (eval a X.env) (λ v s₁ => wpAny (model X.prog X.w) X.A (eval b X.env) (λ u s₂ => wpAny (model X.prog X.w) X.A (f v u) Q X.xe s₂) X.xe s₁) X.xe s:=by
 refine b8 (ha pins s σ H _ I h) λ v s1 ⟨x,H1,I1,r1,q1⟩ => ?_
 refine b8 (hb pins s1 σ H1 _ I1 q1) λ u s2 ⟨y,H2,I2,r2,q2⟩ => ?_
 exact hf v u s2 x y H2 I2 r1 r2 q2
def GQ (i:Nat):TE:=fun σ H Q => ∃ v,σ[i]? = some (some v)/\Q v H
def tC (v:V):TE:=λ _ H Q=>Q v H
theorem DO {i:Nat} {x:Str} {pos:Pos} (hN:X.N[i]? = some x) (hv:O8 X.env.scope x) (hd:(x == ("__debug__" : Str))=false:=by decide) (hcd:(x == ("__classdict__" : Str))=false:=by decide):PE X (.Name x pos) (GQ i):=by
 intro pins s σ H Q I h
 obtain ⟨v,e,h⟩:=h
 obtain ⟨m,hn,hl⟩:=I.loc
 obtain ⟨u,r,l⟩:=hl i x v hN e hv
 have fin:EP X pins σ Q u s:=⟨v,H,I,r,h⟩
 rcases l with ⟨hk,hm⟩ | ⟨hk,c,hc,hcell⟩
 ·exact wpAny_Name (wpAny_loadName_local I.ok.kind hk hn hm fin) hd
 ·rcases hk with hk | hk
  ·exact wpAny_Name (wpAny_loadName_cell I.ok.kind hk hc hcell fin) hd
  ·exact wpAny_Name (wpAny_loadName_free I.ok.kind hk hc hcell fin hcd) hd
theorem aj {i j pos} : PE X (.Constant (.int i) j pos) (tC (.int i)):=λ _ _ _ H _ I h=>wpAny_Constant_int ⟨.int i,H,I.tok _,⟨_,rfl⟩,h⟩
theorem bY {b j pos} : PE X (.Constant (.bool b) j pos) (tC (.bl b)):=λ _ _ _ H _ I h=>Constant_bool ⟨.bl b,H,I,rfl,h⟩
theorem dP {j pos} : PE X (.Constant .none j pos) (tC .aH):=λ _ _ _ H _ I h=>Constant_none ⟨.aH,H,I,rfl,h⟩
theorem dU {x j pos} : PE X (.Constant (.str x) j pos) (tC (.str x)):=λ _ _ _ H _ I h=>Calls.Constant_str ⟨.str x,H,I.tok _,⟨_,rfl⟩,h⟩
def Gl (X:Cx) (x:Str):Prop:=X.env.kindOf x=some .globalImplicit
theorem lq {E:Value->Shared->Prop} {pins:List (Addr×Obj)} {s:Shared} {σ : St} {H:Hp} {x:Str} {u:Value} {pos:Pos} {Q:Value->Shared->Prop} (I:Inv X pins σ H s) (hg:Gl X x) (hm:X.mg x=some u) (h:Q u s)
  (hd:(x == ("__debug__" : Str))=false:=by decide):wpAny (model X.prog X.w) X.A (eval (.Name x pos) X.env) Q E s :=
 Calls.Name_function_global I.ok.kind hg (Calls.loadGlobal_global (by rw [I.ok.glob];exact I.mod.glob.keeps I.bk) hm h) hd
theorem zS {E:Value->Shared->Prop} {pins:List (Addr×Obj)} {s:Shared} {σ : St} {H:Hp} {x:Str} {u:Value} {pos:Pos} {Q:Value->Shared->Prop} (I:Inv X pins σ H s) (hg:Gl X x) (hm:X.mg x=none) (hv:bootBuiltins x=some u) (h:Q u s)
  (hn:x ≠ "__name__" := by decide) (hd:(x == ("__debug__" : Str))=false:=by decide):wpAny (model X.prog X.w) X.A (eval (.Name x pos) X.env) Q E s:=by
 obtain ⟨mb,h1,h2⟩:=I.mod.blt
 exact Calls.Name_function_global I.ok.kind hg (Calls.loadGlobal_builtin (by rw [I.ok.glob];exact I.mod.glob.keeps I.bk) hm (by rw [I.ok.blt];exact h1.keeps I.bk) ((h2 x hn).trans hv) h) hd
theorem dj {x:Str} {v:V} {u:Value} {pos:Pos} (hg:Gl X x) (hm:X.mg x=none) (hv:bootBuiltins x=some u) (r:RelV v u) (hn:x ≠ "__name__" := by decide) (hd:(x == ("__debug__" : Str))=false:=by decide):PE X (.Name x pos) (tC v) :=
 λ _ _ _ H _ I h=>zS I hg hm hv ⟨v,H,I,r,h⟩ hn hd
variable {a b:Expr} {ta tb:TE} {pos:Pos}
def PC (X:Cx) (op:CmpOp) (a b:Expr) (t:TE):Prop :=
 ∀ (pins:List (Addr×Obj)) (s:Shared) (σ : St) (H:Hp) (Q:VK),Inv X pins σ H s->t σ H Q →
   wpAny (model X.prog X.w) X.A (eval a X.env) (λ v s₁ => wpAny (model X.prog X.w) X.A (eval b X.env) (λ u s₂ => wpAny (model X.prog X.w) X.A (compareOp op v u) (EP X pins σ Q) X.xe s₂) X.xe s₁) X.xe s
theorem nO (b:Expr) {op:CmpOp} (h:op ≠ .In) (h2:op ≠ .NotIn):behindInMarks op b=false:=by
 have e1:(op == CmpOp.In)=false:=by cases op <;> first | rfl | exact absurd rfl h
 have e2:(op == CmpOp.NotIn)=false:=by cases op <;> first | rfl | exact absurd rfl h2
 cases b <;> simp [behindInMarks,e1,e2]
def tB (t:TE):TT:=fun σ H Q=>t σ H λ x H1 => ∃ c,x = .bl c/\Q c H1
theorem Vw {op:CmpOp} {t:TE} (h:PC X op a b t) (h1:behindInMarks op b=false:=by first | exact nO _ (by decide) (by decide) | rfl):PE X (.Compare a [op] [b] pos) t:=λ pins s σ H Q I hw=>wpAny_Compare1 (h pins s σ H Q I hw) h1
theorem IU {op:CmpOp} {t:TE} (h:PC X op a b t) (h1:behindInMarks op b=false:=by first | exact nO _ (by decide) (by decide) | rfl):PT X (.Compare a [op] [b] pos) (tB t):=by
 intro pins s σ H Q I hw
 refine wpAny_isTrue_Compare1 (b8 (h pins s σ H _ I hw) λ v s1 h1=>b8 h1 λ u s2 h2=>b8 h2 λ c s3 ⟨x,H1,I1,r1,q1⟩ => ?_) h1
 obtain ⟨d,rfl,q⟩:=q1
 cases r1
 exact wpAny_truthy_bool ⟨H1,I1,q⟩
theorem aY {e:Expr} {t:TE} (h:PE X e t) (he : ∀ whole,isTrue e X.env whole=(do let v <-whole;standAt e.pos;holding [v] (truthy v)):=by intro _;rfl):PT X e (tB t):=by
 intro pins s σ H Q I hw
 refine isTrue_plain (b8 (h pins s σ H _ I hw) λ v s1 ⟨x,H1,I1,r1,q1⟩ => ?_) (he _)
 obtain ⟨d,rfl,q⟩:=q1
 cases r1
 exact wpAny_truthy_bool ⟨H1,I1,q⟩
variable {tA Ur:TT} {rest:List Expr}
def Pb (t u:TT):TT:=fun σ H Q=>t σ H λ c H1=>if c=true then u σ H1 Q else Q false H1
def Vx (t u:TT):TT:=fun σ H Q=>t σ H λ c H1=>if c=true then Q true H1 else u σ H1 Q
def Pc (t:TT):TT:=fun σ H Q=>t σ H λ c H1=>Q (!c) H1
theorem pw_and1 (ha:PT X a tA):PW X (.BoolOp .And [a] pos) tA:=by
 intro wh pins s σ H Q I h
 refine isTrue_and (b8 (ha pins s σ H Q I h) λ c s1 e => ?_)
 cases c with
 | true=>exact isTrue_and_nil e
 | false=>exact e
theorem pw_or1 (ha:PT X a tA):PW X (.BoolOp .Or [a] pos) tA:=by
 intro wh pins s σ H Q I h
 refine isTrue_or (b8 (ha pins s σ H Q I h) λ c s1 e => ?_)
 cases c with
 | false=>exact isTrue_or_nil e
 | true=>exact e
theorem pw_and (ha:PT X a tA) (hb:PW X (.BoolOp .And (b::rest) pos) Ur):PW X (.BoolOp .And (a::b::rest) pos) (Pb tA Ur):=by
 intro wh pins s σ H Q I h
 refine isTrue_and (b8 (ha pins s σ H _ I h) λ c s1 ⟨H1,I1,q1⟩ => ?_)
 cases c with
 | true=>exact hb wh pins s1 σ H1 Q I1 q1
 | false=>exact ⟨H1,I1,q1⟩
theorem pw_or (ha:PT X a tA) (hb:PW X (.BoolOp .Or (b::rest) pos) Ur):PW X (.BoolOp .Or (a::b::rest) pos) (Vx tA Ur):=by
 intro wh pins s σ H Q I h
 refine isTrue_or (b8 (ha pins s σ H _ I h) λ c s1 ⟨H1,I1,q1⟩ => ?_)
 cases c with
 | true=>exact ⟨H1,I1,q1⟩
 | false=>exact hb wh pins s1 σ H1 Q I1 q1
theorem b9 (ha:PT X a tA):PT X (.UnaryOp .Not a pos) (Pc tA):=by
 intro pins s σ H Q I h
 exact isTrue_not (ha pins s σ H (λ c H1=>Q (!c) H1) I h)
def IV (ta tb:TE):TE:=fun σ H Q=>ta σ H λ x H1 => ∃ c,x = .bl c/\if c=true then tb σ H1 Q else Q (.bl false) H1
def Pd (ta tb:TE):TE:=fun σ H Q=>ta σ H λ x H1 => ∃ c,x = .bl c/\if c=true then Q (.bl true) H1 else tb σ H1 Q
def IW (ta:TE):TE:=fun σ H Q=>ta σ H λ x H1 => ∃ c,x = .bl c/\Q (.bl (!c)) H1
theorem mE {op} {t:TE} (h:PE X a t):PE X (.BoolOp op [a] pos) t:=λ pins s σ H Q I hw=>BoolOp_one (h pins s σ H Q I hw)
theorem pO (ha:PE X a ta) (hb:PE X (.BoolOp .And (b::rest) pos) tb):PE X (.BoolOp .And (a::b::rest) pos) (IV ta tb):=by
 intro pins s σ H Q I h
 refine BoolOp_and (b8 (ha pins s σ H _ I h) λ v s1 ⟨x,H1,I1,r1,q1⟩ => ?_)
 obtain ⟨c,rfl,q1⟩:=q1
 cases r1
 refine wpAny_truthy_bool ?_
 cases c with
 | true=>exact hb pins s1 σ H1 Q I1 q1
 | false=>exact ⟨.bl false,H1,I1,rfl,q1⟩
theorem RL (ha:PE X a ta) (hb:PE X (.BoolOp .Or (b::rest) pos) tb):PE X (.BoolOp .Or (a::b::rest) pos) (Pd ta tb):=by
 intro pins s σ H Q I h
 refine BoolOp_or (b8 (ha pins s σ H _ I h) λ v s1 ⟨x,H1,I1,r1,q1⟩ => ?_)
 obtain ⟨c,rfl,q1⟩:=q1
 cases r1
 refine wpAny_truthy_bool ?_
 cases c with
 | false=>exact hb pins s1 σ H1 Q I1 q1
 | true=>exact ⟨.bl true,H1,I1,rfl,q1⟩
theorem DP (ha:PE X a ta):PE X (.UnaryOp .Not a pos) (IW ta):=by
 intro pins s σ H Q I h
 refine UnaryOp_ (b8 (ha pins s σ H _ I h) λ v s1 ⟨x,H1,I1,r1,q1⟩ => ?_)
 obtain ⟨c,rfl,q1⟩:=q1
 cases r1
 exact not_of (wpAny_truthy_bool ⟨.bl (!c),H1,I1,rfl,q1⟩)
end
end L2
namespace L2
open PySem PySem.Spec PyProof.Rows
def fE (K:PySem.W.Frag) (H:Hp) (a:Addr) (xs:List V):Prop :=
 Rd H a (.lst xs) ∨
  ∃ (o:Obj) (its:Array Value) (n:Nat),K.lookup a=some o/\o.cls = .type "list" ∧ o.dict=none/\o.data = .seq its n/\its.size<=sizeLine/\Vals xs its.toList
def DK (K:PySem.W.Frag) (H:Hp) (a:Addr) (xs:List V):Prop :=
 Rd H a (.tup xs) ∨
  ∃ (o:Obj) (its:Array Value) (n:Nat),K.lookup a=some o/\o.cls = .type "tuple" ∧ o.data = .seq its n/\its.size<=sizeLine/\Vals xs its.toList
def Vy:Value->Option V
 | .none=>some .aH
 | .bool b=>some (.bl b)
 | .int i _=>some (.int i)
 | .str x _=>some (.str x)
 | .bytes b _=>some (.II b)
 | .float b _=>some (.O4 b)
 | .ref a=>some (.ref a)
 | .type n=>some (.ty n)
 | _=>none
theorem RelV.abs {x:V} {u:Value} (r:RelV x u):Vy u=some x:=by
 cases x with
 | aH=>cases r;rfl
 | bl _=>cases r;rfl
 | int _=>obtain ⟨t,rfl⟩:=r;rfl
 | str _=>obtain ⟨t,rfl⟩:=r;rfl
 | II _=>obtain ⟨t,rfl⟩:=r;rfl
 | O4 _=>obtain ⟨t,rfl⟩:=r;rfl
 | ref _=>cases r;rfl
 | ty _=>cases r;rfl
theorem RelV.inj {x y:V} {u:Value} (r:RelV x u) (q:RelV y u):x=y:=Option.some.inj (r.abs.symm.trans q.abs)
theorem Vals.inj : ∀ {xs ys:List V} {us:List Value},Vals xs us->Vals ys us->xs=ys
 | _,_,_,.nil,.nil=>rfl
 | _,_,_,.cons r t,.cons r' t'=>by rw [r.inj r',Vals.inj t t']
section
variable {X:Cx} {pins:List (Addr×Obj)} {σ : St} {H:Hp} {s:Shared} {a:Addr} {xs ys:List V}
theorem fE.of {K:PySem.W.Frag} (h:H a=some (.lst xs)):fE K H a xs := .inl (.inl h)
theorem DK.of {K:PySem.W.Frag} (h:H a=some (.tup xs)):DK K H a xs := .inl (.inl h)
theorem Inv.list (I:Inv X pins σ H s) (h:fE X.K H a xs) : ∃ its:List Value,Vals xs its/\PlainL s.heap a its.toArray/\xs.length<=sizeLine:=by
 rcases h with h | ⟨o,its,n,hk,hc,hd,hs,hz,r⟩
 ·obtain ⟨z,its,n,r,e⟩:=h.ok I.hok
  exact ⟨its,r,⟨_,n,e,rfl,rfl,rfl⟩,z⟩
 ·refine ⟨its.toList,r,⟨o,n,I.nN a o hk,hc,hd,by simpa using hs⟩,?_⟩
  have e:=r.length
  simp only [Array.length_toList] at e
  omega
theorem Inv.tuple (I:Inv X pins σ H s) (h:DK X.K H a xs) : ∃ its:List Value,Vals xs its/\IsTup s.heap a its.toArray/\xs.length<=sizeLine:=by
 rcases h with h | ⟨o,its,n,hk,hc,hs,hz,r⟩
 ·obtain ⟨z,its,r,p⟩:=h.ok I.hok
  exact ⟨its,r,p,z⟩
 ·refine ⟨its.toList,r,⟨o,I.nN a o hk,hc,n,by simpa using hs⟩,?_⟩
  have e:=r.length
  simp only [Array.length_toList] at e
  omega
theorem Inv.IX (I:Inv X pins σ H s) (h:fE X.K H a xs) (h':fE X.K H a ys):xs=ys:=by
 obtain ⟨its,r,⟨o,n,e,_,_,d⟩,_⟩:=I.list h
 obtain ⟨its',r',⟨o',n',e',_,_,d'⟩,_⟩:=I.list h'
 rw [e] at e';cases e'
 rw [d] at d'
 injection d' with d1 _
 have:its=its':=by simpa using congrArg Array.toList d1
 subst this
 exact r.inj r'
end
abbrev Cx.jf (X:Cx) (E:Value->Shared->Prop):Cx := { X with xe:=E }
abbrev Cx.BY (X:Cx):Cx:=X.jf λ _ _=>False
theorem Cx.Ok.jf {X:Cx} (ok:X.Ok) (E:Value->Shared->Prop):(X.jf E).Ok :=
 ⟨ok.mod,ok.kind,ok.glob,ok.blt,ok.above,ok.inj,ok.has,ok.O9,ok.hd,ok.frames,ok.stk,ok.Uq,ok.bs,ok.IJ,ok.DN,ok.GP,ok.nM,ok.Mc⟩
theorem Cx.Ok.dg {X:Cx} {E:Value->Shared->Prop} (ok:(X.jf E).Ok):X.Ok :=
 ⟨ok.mod,ok.kind,ok.glob,ok.blt,ok.above,ok.inj,ok.has,ok.O9,ok.hd,ok.frames,ok.stk,ok.Uq,ok.bs,ok.IJ,ok.DN,ok.GP,ok.nM,ok.Mc⟩
section
variable {X:Cx} {pins:List (Addr×Obj)} {σ : St} {H:Hp} {s:Shared} {E:Value->Shared->Prop}
theorem Inv.jf (I:Inv X pins σ H s) (E:Value->Shared->Prop):Inv (X.jf E) pins σ H s:=⟨I.ok.jf E,I.os,I.bare,I.base,I.loc,I.cell,I.free,I.jz,I.pin,I.hok,I.len⟩
theorem Inv.dg (I:Inv (X.jf E) pins σ H s):Inv X pins σ H s:=⟨I.ok.dg,I.os,I.bare,I.base,I.loc,I.cell,I.free,I.jz,I.pin,I.hok,I.len⟩
theorem SP.dg {D:Ends} {f:Flow} {s':Shared} (h:SP (X.jf E) pins D f s'):SP X pins D f s':=by
 cases f with
 | next=>obtain ⟨σ',H',I,q⟩:=h;exact ⟨σ',H',I.dg,q⟩
 | brk=>obtain ⟨σ',H',I,q⟩:=h;exact ⟨σ',H',I.dg,q⟩
 | cont=>obtain ⟨σ',H',I,q⟩:=h;exact ⟨σ',H',I.dg,q⟩
 | ret u=>obtain ⟨v,σ',H',I,r,q⟩:=h;exact ⟨v,σ',H',I.dg,r,q⟩
theorem PE.BY {e:Expr} {t:TE} (h:PE X.BY e t):PE X e t:=λ pins s σ H Q I hw =>
 wpAny_mono (h pins s σ H Q (I.jf _) hw) (λ _ _ ⟨v,H',I',r,q⟩=>⟨v,H',I'.dg,r,q⟩) λ _ _ z=>False.elim z
theorem PT.BY {e:Expr} {t:TT} (h:PT X.BY e t):PT X e t:=λ pins s σ H Q I hw =>
 wpAny_mono (h pins s σ H Q (I.jf _) hw) (λ _ _ ⟨H',I',q⟩=>⟨H',I'.dg,q⟩) λ _ _ z=>False.elim z
theorem zg.BY {st:List Stmt} {t:TS} (h:zg X.BY st t):zg X st t:=λ pins s σ H D I hw =>
 wpAny_mono (h pins s σ H D (I.jf _) hw) (λ _ _ q=>q.dg) λ _ _ z=>False.elim z
end
section
variable {X:Cx} {st:Stmt} {rest:List Stmt} {t u:TS} {e:Expr} {te:TE} {pos:Pos}
def F3:TS:=λ D σ H=>D.nx σ H
def IY (t u:TS):TS:=λ D σ H=>t { D with nx:=u D } σ H
theorem aE:zg X [] F3:=λ _ _ σ H _ I h=>wpAny_execs_nil ⟨σ,H,I,h⟩
theorem ah (h1:PS X st t) (h2:zg X rest u):zg X (st::rest) (IY t u):=by
 intro pins s σ H D I h
 refine wpAny_execs_cons (b8 (h1 pins s σ H { D with nx:=u D } I h) λ f s1 q => ?_)
 cases f with
 | next =>
   obtain ⟨σ',H',I',q⟩:=q
   exact h2 pins s1 σ' H' D I' q
 | ret v=>exact q
 | brk=>exact q
 | cont=>exact q
theorem ak (h1:PS X st t):zg X [st] t:=by
 intro pins s σ H D I h
 refine wpAny_execs_cons (b8 (h1 pins s σ H D I h) λ f s1 q => ?_)
 cases f with
 | next=>exact wpAny_execs_nil q
 | ret v=>exact q
 | brk=>exact q
 | cont=>exact q
theorem Inv.quiet {pins:List (Addr×Obj)} {σ : St} {H:Hp} {s:Shared} (I:Inv X pins σ H s):interactive X.env=false:=by simp [interactive,I.ok.kind]
def F4 (te:TE):TS:=λ D σ H=>te σ H λ _ H1=>D.nx σ H1
theorem bG (he:PE X e te) (hs:swapsWith e none pos.line X.env=pure false:=by rfl):PS X (.Expr e pos) (F4 te):=by
 intro pins s σ H D I h
 exact wpAny_Expr_any (b8 (he pins s σ H _ I h) λ v s1 ⟨x,H1,I1,r1,q1⟩=>⟨σ,H1,I1,q1⟩) I.quiet hs
def Me (te:TE):TS:=λ D σ H=>te σ H D.rt
theorem aC (he:PE X e te):PS X (.Return (some e) pos) (Me te):=by
 intro pins s σ H D I h
 exact wpAny_Return_some (b8 (he pins s σ H _ I h) λ v s1 ⟨x,H1,I1,r1,q1⟩=>⟨x,σ,H1,I1,r1,q1⟩)
def Mf (c:TT) (t u:TS):TS:=λ D σ H=>c σ H λ b H1=>if b=true then t D σ H1 else u D σ H1
theorem aR {c:Expr} {a b:List Stmt} {tc:TT} (hc:PT X c tc) (ha:zg X a t) (hb:zg X b u):PS X (.If c a b pos) (Mf tc t u):=by
 intro pins s σ H D I h
 refine wpAny_If (b8 (hc pins s σ H _ I h) λ d s1 ⟨H1,I1,q1⟩ => ?_)
 cases d with
 | true=>exact ha pins s1 σ H1 D I1 q1
 | false=>exact hb pins s1 σ H1 D I1 q1
end
abbrev TG:=V->St->Hp->(St->Hp->Prop)->Prop
abbrev Pe:=List V->St->Hp->(St->Hp->Prop)->Prop
def PG (X:Cx) (target:Expr) (t:TG):Prop :=
 ∀ (pins:List (Addr×Obj)) (s:Shared) (σ : St) (H:Hp) (v:V) (u:Value) (Q:St->Hp->Prop),Inv X pins σ H s->RelV v u->t v σ H Q →
   wpAny (model X.prog X.w) X.A (assign target X.env u) (λ _ s' => ∃ σ' H',Inv X pins σ' H' s'/\Q σ' H') X.xe s
def Us (X:Cx) (ts:List Expr) (t:Pe):Prop :=
 ∀ (pins:List (Addr×Obj)) (s:Shared) (σ : St) (H:Hp) (vs:List V) (us:List Value) (Q:St->Hp->Prop),Inv X pins σ H s->Vals vs us->t vs σ H Q →
   wpAny (model X.prog X.w) X.A (assignInOrder ((assignEach ts X.env).map (·.2)) us) (λ _ s' => ∃ σ' H',Inv X pins σ' H' s'/\Q σ' H') X.xe s
abbrev IZ:=V->V->V->Hp->(Hp->Prop)->Prop
def RM (X:Cx) (t:IZ):Prop :=
 ∀ (pins:List (Addr×Obj)) (s:Shared) (σ : St) (H:Hp) (o i v:V) (ov iv u:Value) (Q:Hp->Prop),Inv X pins σ H s->RelV o ov->RelV i iv->RelV v u->t o i v H Q →
   wpAny (model X.prog X.w) X.A (setItem ov iv u) (λ _ s' => ∃ H',Inv X pins σ H' s'/\Q H') X.xe s
section
variable {X:Cx} {pos:Pos}
def qX (i:Nat):TG:=λ v σ H Q=>Q (σ.set i (some v)) H
theorem fF {i:Nat} {x:Str} (hN:X.N.Nodup) (hi:X.N[i]? = some x) (hx:Loc X.env.scope x) (hf:X.fn x=true\/X.env.scope.names.lookup x=some .local:=by first | exact .inl rfl | exact .inr rfl | assumption):PG X (.Name x pos) (qX i):=by
 intro pins s σ H v u Q I r h
 exact wpAny_assign_Name (uh I hN hi hx r (λ s' I'=>⟨_,H,I',h⟩) hf)
def RN:Pe:=λ vs σ H Q=>vs = []/\Q σ H
def I0 (t:TG) (u:Pe):Pe:=λ vs σ H Q => ∃ v r,vs=v::r/\t v σ H fun σ' H'=>u r σ' H' Q
theorem Mg:Us X [] RN:=by
 intro pins s σ H vs us Q I r h
 obtain ⟨e,h⟩:=h
 subst e
 cases r
 exact assignInOrder_nil ⟨σ,H,I,h⟩
theorem B8 {e:Expr} {es:List Expr} {t:TG} {u:Pe} (h1:PG X e t) (h2:Us X es u)
  (hs:(assignEach (e::es) X.env).map (·.2)=assign e X.env::(assignEach es X.env).map (·.2):=by rfl):Us X (e::es) (I0 t u):=by
 intro pins s σ H vs us Q I r h
 obtain ⟨v,vr,e1,h⟩:=h
 subst e1
 cases r with
 | cons r rr =>
   rw [hs]
   refine assignInOrder_cons (b8 (h1 pins s σ H _ _ _ I r h) λ _ s1 ⟨σ1,H1,I1,q1⟩ => ?_)
   exact h2 pins s1 σ1 H1 _ _ Q I1 rr q1
def RO (K:PySem.W.Frag) (n:Nat) (t:Pe):TG:=λ v σ H Q => ∃ a xs,v = .ref a/\DK K H a xs/\xs.length=n/\t xs σ H Q
theorem Pf {es:List Expr} {k:Nat} {t:Pe} {n:Nat} (hc:X.calm=true) (h:Us X es t)
  (hn:(assignEach es X.env).length=n:=by rfl) (hst:(assignEach es X.env).findIdx? (·.1)=none:=by rfl):PG X (.Tuple es k pos) (RO X.K n t):=by
 intro pins s σ H v u Q I r hw
 obtain ⟨a,xs,e1,hq,hl,hw⟩:=hw
 subst e1
 cases r
 obtain ⟨its,rv,ht,hz⟩:=I.tuple hq
 refine assign_Tuple_tuple (I.ok.hd hc) ht (by simp [hn,<-hl,rv.length]) hst λ h' hx => ?_
 have I1:Inv X pins σ H { s with heap:=h' } := I.kept (t':=s.toks) λ b o e=>hx b o (Nat.ne_of_lt (Heap.lt_size e)) e
 exact h pins _ σ H xs _ Q I1 (by simpa using rv) hw
def Pg (to ti:TE) (t:IZ):TG:=λ v σ H Q=>to σ H λ o H1=>ti σ H1 λ i H2=>t o i v H2 λ H3=>Q σ H3
theorem eE {o i:Expr} {to ti:TE} {t:IZ} (ho:PE X o to) (hi:PE X i ti) (hs:RM X t)
  (ha : ∀ v,assign (.Subscript o i pos) X.env v=(do
   let ov <-holding [v] (eval o X.env)
   let iv <-holding [v,ov] (eval i X.env)
   standAt pos
   holding [v,ov,iv] (setItem ov iv v)
   release [v,ov,iv] []):=by intro _;rfl):PG X (.Subscript o i pos) (Pg to ti t):=by
 intro pins s σ H v u Q I r h
 rw [ha]
 refine wpAny_bind (wpAny_holding (b8 (ho pins s σ H _ I h) λ ov s1 ⟨x,H1,I1,r1,q1⟩ => ?_))
 refine wpAny_bind (wpAny_holding (b8 (hi pins s1 σ H1 _ I1 q1) λ iv s2 ⟨y,H2,I2,r2,q2⟩ => ?_))
 refine wpAny_bind (wpAny_standAt (wpAny_bind (wpAny_holding (b8 (hs pins s2 σ H2 x y v ov iv u _ I2 r1 r2 r q2) λ _ s3 ⟨H3,I3,q3⟩ => ?_))))
 exact wpAny_release ⟨σ,H3,I3,q3⟩
def Ja (te:TE) (g:TG):TS:=λ D σ H=>te σ H λ x H1=>g x σ H1 D.nx
theorem dW {tg e:Expr} {te:TE} {g:TG} (he:PE X e te) (hg:PG X tg g) (hs:swapsWithSole [tg] e pos.line X.env=pure false:=by rfl) (hw:swappedStores [tg] e X.env=pure none:=by rfl)
  (h1:(assignEach [tg] X.env).map (·.2) = [assign tg X.env]:=by rfl):PS X (.Assign [tg] e pos) (Ja te g):=by
 intro pins s σ H D I h
 refine wpAny_Assign_stores (b8 (he pins s σ H _ I h) λ v s1 ⟨x,H1,I1,r1,q1⟩ => ?_) hs hw
 rw [h1]
 exact b8 (hg pins s1 σ H1 x v _ I1 r1 q1) λ _ s2 q=>q
theorem aJ {i:Nat} {x:Str} {e:Expr} {te:TE} {pos':Pos} (hN:X.N.Nodup) (hi:X.N[i]? = some x) (hx:Loc X.env.scope x) (he:PE X e te) (hs:swapsWith e (some (.Name x pos')) pos.line X.env=pure false:=by rfl) (hf:X.fn x=true\/X.env.scope.names.lookup x=some .local:=by first | exact .inl rfl | exact .inr rfl | assumption) :
  PS X (.Assign [.Name x pos'] e pos) (Ja te (qX i)):=by
 intro pins s σ H D I h
 refine wpAny_Assign_Name (b8 (he pins s σ H _ I h) λ v s1 ⟨y,H1,I1,r1,q1⟩ => ?_) hs
 exact uh I1 hN hi hx r1 (λ s2 I2=>⟨_,H1,I2,q1⟩) hf
end
section
variable {X:Cx} {pos:Pos}
end
structure It where
 go:Nat->Hp->Prop
 Mh:Nat->Hp->V->Hp->Prop
 stop:Nat->Hp->Prop
def nP (X:Cx) (pins:List (Addr×Obj)) (H:Hp) (b:Addr):Prop :=
 H b=none/\b≠X.env.locals/\b ∉ X.fs/\(b∈X.ex\/X.s₀.heap.objs.size<=b)/\(∀ x c,X.env.cells.lookup x=some c->c≠b) ∧ ∀ p∈X.pn++pins,p.1≠b
theorem Inv.RP {X:Cx} {pins:List (Addr×Obj)} {σ : St} {H H':Hp} {s:Shared} {b:Addr} (I:Inv X pins σ H s) (hb:s.heap.objs.size<=b) (hn:H' b=none):nP X pins H' b:=by
 refine ⟨hn,Nat.ne_of_gt (Nat.lt_of_lt_of_le I.lt hb),I.Vt hb,.inr (Nat.le_trans I.sz hb),λ x c e z => ?_,λ p hp z => ?_⟩
 ·obtain ⟨v,q⟩:=I.cell x c e
  exact absurd (Nat.lt_of_lt_of_le q.lt (by rw [z];exact hb)) (Nat.lt_irrefl _)
 ·exact absurd (Nat.lt_of_lt_of_le (Heap.lt_size (I.pin p hp).1) (by rw [z];exact hb)) (Nat.lt_irrefl _)
structure Turn (P:Program) (w:World) (K:PySem.W.Frag) (tg:Expr) (J:It) (fp:List Addr) (it:Addr) (tn:Nat->Heap->Prop):Prop where
 mem:it∈fp
 obj : ∀ i h,tn i h->∀ b∈fp,∃ o,h.get? b=some o ∧ ∀ v,o.data ≠ .cell v
 keep : ∀ i h h',tn i h->(∀ b∈fp,∀ o,h.get? b=some o->h'.get? b=some o)->tn i h'
 item : ∀ (X:Cx),X.prog=P->X.w=w->X.K=K->X.calm=true->∀ (i:Nat) (pins:List (Addr×Obj)) (s:Shared) (σ : St) (H:Hp) (E:Value->Shared->Prop),Inv X pins σ H s->(∀ b∈fp,nP X pins H b)->tn i s.heap->J.go i H →
  wpAny (model P w) X.A (pyNext (.ref it)) (λ r s1 => ∃ u,r=some u ∧
   wpAny (model P w) X.A (letOwnedTupleGo tg (.ref it) u) (λ _ s2 => ∃ x H',Inv X pins σ H' s2/\RelV x u/\J.Mh i H x H'/\tn (i+1) s2.heap ∧ ∀ b∈fp,H' b=none) E s1) E s
 done : ∀ (X:Cx),X.prog=P->X.w=w->X.K=K->X.calm=true->∀ (i:Nat) (pins:List (Addr×Obj)) (s:Shared) (σ : St) (H:Hp) (E:Value->Shared->Prop),Inv X pins σ H s->(∀ b∈fp,nP X pins H b)->tn i s.heap->J.stop i H →
  wpAny (model P w) X.A (pyNext (.ref it)) (λ r s1=>r=none/\Inv X pins σ H s1) E s
 self : ∀ (A:Around) (i:Nat) (s:Shared) (Q:Value->Shared->Prop) (E:Value->Shared->Prop),tn i s.heap->Q (.ref it) s->wpAny (model P w) A (pyIter (.ref it)) Q E s
abbrev TI:=St->Hp->(It->Hp->Prop)->Prop
def PIE (X:Cx) (pins:List (Addr×Obj)) (σ : St) (tg:Expr) (R:It->Hp->Prop) (itv:Value) (s2:Shared):Prop :=
 ∃ (it:Addr) (fp:List Addr) (tn:Nat->Heap->Prop) (J:It) (H':Hp),itv = .ref it/\Inv X pins σ H' s2/\Turn X.prog X.w X.K tg J fp it tn/\tn 0 s2.heap/\(∀ b∈fp,nP X pins H' b)/\R J H'
def PI (X:Cx) (tg iter:Expr) (wi:TI):Prop :=
 ∀ (pins:List (Addr×Obj)) (s:Shared) (σ : St) (H:Hp) (R:It->Hp->Prop),Inv X pins σ H s->wi σ H R →
   wpAny (model X.prog X.w) X.A (eval iter X.env) (λ v s1=>wpAny (model X.prog X.w) X.A (pyIter v) (PIE X pins σ tg R) X.xe s1) X.xe s
theorem Oe {M:Model} {A:Around} {E:Value->Shared->Prop} {s:Shared} {tg:Expr} {it:Addr} {u:Value} {o:Obj} {n:String} {vs:Array Value} {Q:Unit->Shared->Prop} (ho:s.heap.get? it=some o) (hc:o.cls = .type n) (hd:o.data = .fields vs)
  (hn:["enumerate","zip","dict_itemiterator","dict_reverseitemiterator","odict_iterator","itertools.zip_longest","itertools.pairwise"].contains n=false) (hQ:Q () s):wpAny M A (letOwnedTupleGo tg (.ref it) u) Q E s:=by
 unfold letOwnedTupleGo
 cases tg <;> first
  | exact wpAny_pure hQ
  | (cases u <;> first
    | exact wpAny_pure hQ
    | (refine wpAny_bind (wpAny_load ho ?_)
       rw [hc,hd]
       show wpAny M A (if (["enumerate","zip","dict_itemiterator","dict_reverseitemiterator","odict_iterator","itertools.zip_longest","itertools.pairwise"].contains n && vs[0]? == some (rawInt _))=true then _ else _) Q E s
       rw [if_neg (by intro h;rw [hn,Bool.false_and] at h;cases h)]
       exact wpAny_pure hQ))
def Jb (K:PySem.W.Frag) (a:Addr):It :=
 ⟨λ i H => ∃ xs x,fE K H a xs/\xs[i]? = some x,λ i H x H'=>H' = H ∧ ∀ xs,fE K H a xs->xs[i]? = some x,λ i H => ∃ xs,fE K H a xs/\xs.length<=i⟩
def GR (lo:Int) (n:Nat):It:=⟨λ i _=>i < n,λ i H x H'=>H' = H/\x = .int (lo+i),λ i _=>n<=i⟩
theorem GS {P:Program} {w:World} {K:PySem.W.Frag} {tg:Expr} (a it:Addr):Turn P w K tg (Jb K a) [it] it (λ i h=>h.IsListIter it a i) where
 mem:=by simp
 obj:=λ i h st b hb=>by
  have e:b=it:=by simpa using hb
  subst e
  obtain ⟨o,e,c,d⟩:=st
  exact ⟨o,e,λ v z=>by rw [d] at z;cases z⟩
 keep:=λ i h h' st k=>st.at λ o e=>k it (by simp) o e
 item:=by
  intro X hP hw hK hc i pins s σ H E I hf st hg
  subst hP hw hK
  obtain ⟨xs,x,hq,hx⟩:=hg
  obtain ⟨its,rv,p,hz⟩:=I.list hq
  obtain ⟨u,hu,ru⟩:=rv.get hx
  obtain ⟨f0,f1,f2,f3,f4,f5⟩:=hf it (by simp)
  refine wpAny_pyNext_list_item st p.isList (x:=u) (by simpa using hu) λ h' st' sb => ?_
  have I1:Inv X pins σ H { s with heap:=h' } := I.turned (t':=s.toks) (λ b o hb e=>(sb.2 b hb).trans e) f0 f1 f3 f4 f5
  obtain ⟨o,e,c,d⟩:=id st'
  exact ⟨u,rfl,Oe (s := { s with heap:=h' }) e c d (by decide) ⟨x,H,I1,ru,⟨rfl,λ ys hy=>by rw [I.IX hy hq];exact hx⟩,st',λ b hb=>(hf b hb).1⟩⟩
 done:=by
  intro X hP hw hK hc i pins s σ H E I hf st hg
  subst hP hw hK
  obtain ⟨xs,hq,hx⟩:=hg
  obtain ⟨its,rv,p,hz⟩:=I.list hq
  obtain ⟨f0,f1,f2,f3,f4,f5⟩:=hf it (by simp)
  have hl:=rv.length
  exact wpAny_pyNext_list_end (I.ok.hd hc) st p.isList (by simp;omega) λ h' eb=>⟨rfl,I.turned (t':=s.toks) (λ b o hb e=>eb b o hb e) f0 f1 f3 f4 f5⟩
 self:=λ _ _ _ _ _ st h=>wpAny_pyIter_listiter st h
theorem DQ {P:Program} {w:World} {K:PySem.W.Frag} {tg:Expr} (it:Addr) (lo:Int) (n:Nat):Turn P w K tg (GR lo n) [it] it (λ i h=>IsRangeIter h it (lo+(i:Nat) * 1) ((n:Int) - (i:Nat)) 1) where
 mem:=by simp
 obj:=λ i h st b hb=>by
  have e:b=it:=by simpa using hb
  subst e
  exact ⟨_,st,λ v z=>by
   have z':Data.fields _=Data.cell v:=z
   cases z'⟩
 keep:=λ i h h' st k=>k it (by simp) _ st
 item:=by
  intro X hP hw hK hc i pins s σ H E I hf st hg
  subst hP hw hK
  obtain ⟨f0,f1,f2,f3,f4,f5⟩:=hf it (by simp)
  have W:=Walks.range (prog:=X.prog) (w:=X.w) (I.ok.hd hc) it lo 1 n
  refine W.item i s _ _ hg st λ v h' tk hv st' kk => ?_
  obtain ⟨t,rfl⟩:=hv
  have I1:Inv X pins σ H { s with heap:=h',toks:=tk } := I.turned (λ b o hb e=>kk b o (by simpa using hb) e) f0 f1 f3 f4 f5
  refine ⟨_,rfl,Oe (s := { s with heap:=h',toks:=tk }) (n := "range_iterator") st' rfl rfl (by decide) ⟨.int (lo+i),H,I1,⟨t,?_⟩,⟨rfl,rfl⟩,st',λ b hb=>(hf b hb).1⟩⟩
  rw [Int.mul_one]
 done:=by
  intro X hP hw hK hc i pins s σ H E I hf st hg
  subst hP hw hK
  obtain ⟨f0,f1,f2,f3,f4,f5⟩:=hf it (by simp)
  exact wpAny_pyNext_range_end (I.ok.hd hc) st (by have:n<=i:=hg;omega) λ h' eb=>⟨rfl,I.turned (t':=s.toks) (λ b o hb e=>eb b o hb e) f0 f1 f3 f4 f5⟩
 self:=λ _ _ _ _ _ st h=>wpAny_pyIter_rangeiter st h
end L2
namespace L2
open PySem PySem.Spec PyProof.Rows
section
variable {X:Cx} {tg:Expr}
def Jc (K:PySem.W.Frag) (tl:TE):TI:=fun σ H R=>tl σ H λ x H1 => ∃ a,x = .ref a/\(∃ xs,fE K H1 a xs)/\R (Jb K a) H1
theorem nQ {l:Expr} {tl:TE} (hl:PE X l tl):PI X tg l (Jc X.K tl):=by
 intro pins s σ H R I h
 refine b8 (hl pins s σ H _ I h) λ v s1 ⟨x,H1,I1,r1,q1⟩ => ?_
 obtain ⟨a,e,⟨xs,hq⟩,q⟩:=q1
 subst e
 cases r1
 obtain ⟨its,rv,p,hz⟩:=I1.list hq
 refine wpAny_pyIter_list p.isList ?_
 refine ⟨s1.heap.objs.size,[s1.heap.objs.size],_,_,H1,rfl,I1.kept (t':=s1.toks) λ b o e=>Heap.get?_push_of_some _ e,GS a _,⟨_,Heap.get?_push_size _ rfl,rfl,rfl⟩,λ b hb => ?_,q⟩
 have e:b=s1.heap.objs.size:=by simpa using hb
 subst e
 exact I1.RP (Nat.le_refl _) (I1.hok.fresh (Nat.le_refl _))
theorem Jd {pins:List (Addr×Obj)} {σ : St} {H:Hp} {s:Shared} {R:It->Hp->Prop} {E:Value->Shared->Prop} {lo hi:Int} {t u v:Tok} {tk:Nat} (I:Inv X pins σ H s) (h1 : -(2 ^ 62)<=lo) (h2:lo < 2 ^ 62) (h3 : -(2 ^ 62)<=hi) (h4:hi < 2 ^ 62)
  (q:R (GR lo (hi - lo).toNat) H):wpAny (model X.prog X.w) X.A (pyIter (.ref s.heap.objs.size)) (PIE X pins σ tg R) E { s with heap:=s.heap.push { cls := .type "range",data := .fields #[.int lo t,.int hi u,.int 1 v] },toks:=tk } := by
 refine wpAny_pyIter_range (IsRange.new ..) (small_one h1 h2 h3 h4) ?_
 have I1:Inv X pins σ H { s with heap:=s.heap.push { cls := .type "range",data := .fields #[.int lo t,.int hi u,.int 1 v] },toks:=tk } := I.kept λ b o e=>Heap.get?_push_of_some _ e
 refine ⟨(s.heap.push { cls := .type "range",data := .fields #[.int lo t,.int hi u,.int 1 v] }).objs.size,[(s.heap.push { cls := .type "range",data := .fields #[.int lo t,.int hi u,.int 1 v] }).objs.size],_,_,H,rfl,
  I1.kept (t':=tk) λ b o e=>Heap.get?_push_of_some _ e,DQ _ lo (hi - lo).toNat,?_,λ b hb => ?_,q⟩
 ·have e1:lo+((0:Nat):Int) * 1=lo:=by simp
  have e2:(((hi - lo).toNat:Nat):Int) - ((0:Nat):Int)=Builtin.Range.rangeSize lo hi 1:=by rw [rangeSize_one];split <;> omega
  show IsRangeIter _ _ (lo+((0:Nat):Int) * 1) ((((hi - lo).toNat:Nat):Int) - ((0:Nat):Int)) 1
  rw [e1,e2]
  exact Heap.get?_push_size _ rfl
 ·have e:b=(s.heap.push { cls := .type "range",data := .fields #[.int lo t,.int hi u,.int 1 v] }).objs.size:=by simpa using hb
  subst e
  exact I1.RP (Nat.le_refl _) (I1.hok.fresh (Nat.le_refl _))
def Je (ta:TA):TI:=fun σ H R=>ta σ H λ vs H1 => ∃ j:Int,vs = [.int j] ∧ -(2 ^ 62)<=j/\j < 2 ^ 62/\R (GR 0 j.toNat) H1
theorem dw {a:Expr} {ta:TA} {p pos:Pos} (hg:Gl X "range") (hm:X.mg "range" = none) (ha:PA X [a] ta) (hs:starEach [a] X.env = [(false,eval a X.env)]:=by rfl):PI X tg (.Call (.Name "range" p) [a] [] pos) (Je ta):=by
 intro pins s σ H R I h
 refine Call_ (zS I hg hm boot_range (PyProof.Rows.callWith_type1 (b8 (ha pos pins s σ H _ I h) λ us s1 ⟨vs,H1,I1,r1,q1⟩ => ?_) hs rfl))
 obtain ⟨j,e,q1,q2,q⟩:=q1
 subst e
 cases r1 with
 | cons r rr =>
   cases rr
   obtain ⟨t,rfl⟩:=r
   exact call_range_1 (Jd I1 (by omega) (by omega) q1 q2 (by simpa using q))
def Ph (wi:TI) (g:TG) (tb:TS):TS:=λ D σ H=>wi σ H λ J H1 => ∃ W:Nat->Nat->St->Hp->Prop,(∃ m,W 0 m σ H1) ∧ ∀ i m σ H,W i m σ H →
 (J.stop i H/\D.nx σ H)\/(J.go i H ∧ ∃ N:St->Hp->Prop,(∀ σ' H',N σ' H'->∃ m',m' < m/\W (i+1) m' σ' H') ∧ ∀ x H',J.Mh i H x H'->g x σ H' fun σ2 H2=>tb { D with nx:=N,ct:=N,bk:=D.nx } σ2 H2)
def um (fp:List Addr) (h:Heap):List (Addr×Obj):=fp.filterMap λ b=>(h.get? b).map λ o=>(b,o)
theorem jg {fp:List Addr} {h:Heap} {b:Addr} {o:Obj} (hb:b∈fp) (e:h.get? b=some o):(b,o)∈um fp h:=List.mem_filterMap.mpr ⟨b,hb,by rw [e];rfl⟩
theorem GU {fp:List Addr} {h:Heap} {p:Addr×Obj} (hp:p∈um fp h):p.1∈fp/\h.get? p.1=some p.2:=by
 obtain ⟨b,hb,e⟩:=List.mem_filterMap.mp hp
 cases q:h.get? b with
 | none=>rw [q] at e;cases e
 | some o =>
   rw [q] at e
   have e':(b,o)=p:=Option.some.inj e
   subst e'
   exact ⟨hb,q⟩
theorem Inv.pinned {pins:List (Addr×Obj)} {σ : St} {H:Hp} {s:Shared} {fp:List Addr} (I:Inv X pins σ H s) (hf : ∀ b∈fp,nP X pins H b) (ho : ∀ b∈fp,∃ o,s.heap.get? b=some o ∧ ∀ v,o.data ≠ .cell v):Inv X (pins++um fp s.heap) σ H s :=
 I.F2 λ p hp=>(List.mem_append.mp hp).elim (λ z=>I.pin p (List.mem_append_right _ z)) λ z=>by
  obtain ⟨hb,e⟩:=GU z
  obtain ⟨f0,f1,f2,_⟩:=hf p.1 hb
  obtain ⟨o,e',d⟩:=ho p.1 hb
  rw [e] at e';cases e'
  exact ⟨e,f0,f1,f2,d⟩
theorem Inv.nR {pins pl:List (Addr×Obj)} {σ : St} {H:Hp} {s:Shared} (I:Inv X (pins++pl) σ H s):Inv X pins σ H s:=I.F2 λ p hp=>I.pin p (List.mem_append_right _ (List.mem_append_left _ hp))
theorem jY {iter:Expr} {body:List Stmt} {wi:TI} {g:TG} {tb:TS} {pos:Pos} (hp:PassesOwn (model X.prog X.w) X.A X.env X.xe) (hc:X.calm=true) (hi:PI X tg iter wi) (hg:PG X tg g) (hb:zg X body tb)
  (hs : ∀ x,foldedSetIterable iter X.env x=pure x:=by intro _;rfl):PS X (.For tg iter body [] pos) (Ph wi g tb):=by
 intro pins s σ H D I h
 refine wpAny_For (b8 (hi pins s σ H _ I h) λ v s1 h1=>b8 h1 λ itv s2 h2 => ?_) hs
 obtain ⟨it,fp,tn,J,H2,e,I2,T,st2,f2,W,⟨m0,w0⟩,turn⟩:=h2
 subst e
 -- what stays true of LX Pj objects through LX loop
 have stat : ∀ {H':Hp},(∀ b∈fp,H' b=none)->∀ b∈fp,nP X pins H' b:=λ hn b hb=>⟨hn b hb,(f2 b hb).2⟩
 refine codeAny_forLoop_any (λ n s' => ∃ i σ' H',Inv X pins σ' H' s'/\tn i s'.heap/\(∀ b∈fp,H' b=none)/\W i n σ' H') ?_ m0 ⟨0,σ,H2,I2,st2,λ b hb=>(f2 b hb).1,w0⟩
 rintro n s3 ⟨i,σ3,H3,I3,st3,fr3,w3⟩
 rcases turn i n σ3 H3 w3 with ⟨stop,qn⟩ | ⟨go,N,hN,step⟩
 ·refine wpAny_passesOwn hp (b8 (T.done X rfl rfl rfl hc i pins s3 σ3 H3 X.xe I3 (stat fr3) st3 stop) λ r s4 ⟨hr,I4⟩ => ?_)
  subst hr
  exact wpAny_execs_nil ⟨σ3,H3,I4,qn⟩
 ·refine wpAny_passesOwn hp (b8 (T.item X rfl rfl rfl hc i pins s3 σ3 H3 X.xe I3 (stat fr3) st3 go) λ r s4 ⟨u,hr,h4⟩ => ?_)
  subst hr
  refine wpAny_passesOwn hp (b8 h4 λ _ s5 ⟨x,H5,I5,r5,y5,Ru,Ut⟩ => ?_)
  have I5':=I5.pinned (stat Ut) (T.obj _ _ Ru)
  refine wpAny_passesOwn hp (b8 (hg _ s5 σ3 H5 x u _ I5' r5 (step x H5 y5)) λ _ s6 ⟨σ6,H6,I6,q6⟩ => ?_)
  refine wpAny_passesOwn hp (b8 (hb _ s6 σ6 H6 _ I6 q6) λ f s7 q7 => ?_)
  have again : ∀ {σ7:St} {H7:Hp},Inv X (pins++um fp s5.heap) σ7 H7 s7->N σ7 H7->∃ m,m < n ∧ ∃ i σ' H',Inv X pins σ' H' s7/\tn i s7.heap/\(∀ b∈fp,H' b=none)/\W i m σ' H':=fun {σ7 H7} I7 n7=>by
   obtain ⟨m',hm,w7⟩:=hN σ7 H7 n7
   refine ⟨m',hm,i+1,σ7,H7,I7.nR,T.keep _ _ _ Ru λ b hb o e=>(I7.pin (b,o) (List.mem_append_right _ (List.mem_append_right _ (jg hb e)))).1,λ b hb => ?_,w7⟩
   obtain ⟨o,e,d⟩:=T.obj _ _ Ru b hb
   exact (I7.pin (b,o) (List.mem_append_right _ (List.mem_append_right _ (jg hb e)))).2.1
  cases f with
  | next=>obtain ⟨σ7,H7,I7,n7⟩:=q7;exact again I7 n7
  | cont=>obtain ⟨σ7,H7,I7,n7⟩:=q7;exact again I7 n7
  | brk=>obtain ⟨σ7,H7,I7,q7⟩:=q7;exact ⟨σ7,H7,I7.nR,q7⟩
  | ret v=>obtain ⟨x7,σ7,H7,I7,r7,q7⟩:=q7;exact ⟨x7,σ7,H7,I7.nR,r7,q7⟩
end
theorem Jf {K:PySem.W.Frag} {a:Addr} {xs:List V} {g:TG} {tb:TS} {D:Ends} {σ : St} {H:Hp} (Pv:Nat->St->Hp->Prop) (h0:Pv 0 σ H) (hl : ∀ i σ H,i<=xs.length->Pv i σ H->fE K H a xs)
  (hs : ∀ i x σ H,xs[i]? = some x->Pv i σ H->g x σ H fun σ2 H2=>tb { D with nx:=Pv (i+1),ct:=Pv (i+1),bk:=D.nx } σ2 H2) (hd : ∀ σ H,Pv xs.length σ H->D.nx σ H) :
  ∃ W:Nat->Nat->St->Hp->Prop,(∃ m,W 0 m σ H) ∧ ∀ i m σ H,W i m σ H →
    ((Jb K a).stop i H/\D.nx σ H)\/((Jb K a).go i H ∧ ∃ N:St->Hp->Prop,(∀ σ' H',N σ' H'->∃ m',m' < m/\W (i+1) m' σ' H') ∧ ∀ x H',(Jb K a).Mh i H x H'->g x σ H' fun σ2 H2=>tb { D with nx:=N,ct:=N,bk:=D.nx } σ2 H2):=by
 refine ⟨λ i m σ H=>m=xs.length - i/\i<=xs.length/\Pv i σ H,⟨xs.length,by simp,Nat.zero_le _,h0⟩,?_⟩
 rintro i m σ H ⟨rfl,hi,p⟩
 have q:=hl i σ H hi p
 by_cases hlt:i < xs.length
 ·refine .inr ⟨⟨xs,xs[i],q,by simp [hlt]⟩,Pv (i+1),fun σ' H' p'=>⟨xs.length - (i+1),by omega,rfl,hlt,p'⟩,λ x H' y => ?_⟩
  obtain ⟨e,y⟩:=y
  subst e
  exact hs i x σ _ (y xs q) p
 ·have e:i=xs.length:=by omega
  subst e
  exact .inl ⟨⟨xs,q,Nat.le_refl _⟩,hd σ H p⟩
theorem GV {lo:Int} {n:Nat} {g:TG} {tb:TS} {D:Ends} {σ : St} {H:Hp} (Pv:Nat->St->Hp->Prop) (h0:Pv 0 σ H)
  (hs : ∀ i σ H,i < n->Pv i σ H->g (.int (lo+i)) σ H fun σ2 H2=>tb { D with nx:=Pv (i+1),ct:=Pv (i+1),bk:=D.nx } σ2 H2) (hd : ∀ σ H,Pv n σ H->D.nx σ H) :
  ∃ W:Nat->Nat->St->Hp->Prop,(∃ m,W 0 m σ H) ∧ ∀ i m σ H,W i m σ H →
    ((GR lo n).stop i H/\D.nx σ H)\/((GR lo n).go i H ∧ ∃ N:St->Hp->Prop,(∀ σ' H',N σ' H'->∃ m',m' < m/\W (i+1) m' σ' H') ∧ ∀ x H',(GR lo n).Mh i H x H'->g x σ H' fun σ2 H2=>tb { D with nx:=N,ct:=N,bk:=D.nx } σ2 H2):=by
 refine ⟨λ i m σ H=>m=n - i/\i<=n/\Pv i σ H,⟨n,by simp,Nat.zero_le _,h0⟩,?_⟩
 rintro i m σ H ⟨rfl,hi,p⟩
 by_cases hlt:i < n
 ·refine .inr ⟨hlt,Pv (i+1),fun σ' H' p'=>⟨n - (i+1),by omega,rfl,hlt,p'⟩,λ x H' y => ?_⟩
  obtain ⟨e,y⟩:=y
  subst e y
  exact hs i σ _ hlt p
 ·have e:i=n:=by omega
  subst e
  exact .inl ⟨Nat.le_refl _,hd σ H p⟩
end L2
namespace L2
open PySem PySem.Spec PyProof.Rows
abbrev R2:=V->V->Hp->VK->Prop
def qY (X:Cx) (f:Value->Value->Sem Value) (r:R2):Prop :=
 ∀ (pins:List (Addr×Obj)) (s:Shared) (σ : St) (H:Hp) (x y:V) (v u:Value) (Q:VK),Inv X pins σ H s->RelV x v->RelV y u->r x y H Q →
   wpAny (model X.prog X.w) X.A (f v u) (EP X pins σ Q) X.xe s
def Vz (X:Cx) (f:Value->Sem Value) (r:V->Hp->VK->Prop):Prop :=
 ∀ (pins:List (Addr×Obj)) (s:Shared) (σ : St) (H:Hp) (x:V) (v:Value) (Q:VK),Inv X pins σ H s->RelV x v->r x H Q →
   wpAny (model X.prog X.w) X.A (f v) (EP X pins σ Q) X.xe s
def jZ (X:Cx) (f:Value) (r:List V->Hp->VK->Prop):Prop :=
 ∀ (pins:List (Addr×Obj)) (s:Shared) (σ : St) (H:Hp) (xs:List V) (us:List Value) (Q:VK),Inv X pins σ H s->Vals xs us->r xs H Q →
   wpAny (model X.prog X.w) X.A (call f us) (EP X pins σ Q) X.xe s
def Pk (r:R2) (ta tb:TE):TE:=fun σ H Q=>ta σ H λ x H1=>tb σ H1 λ y H2=>r x y H2 Q
def VA (r:V->Hp->VK->Prop) (ta:TE):TE:=fun σ H Q=>ta σ H λ x H1=>r x H1 Q
def rI (C:Int->Int->Prop) (g:Int->Int->V):R2:=λ x y H Q => ∃ i j,x = .int i/\y = .int j/\C i j/\Q (g i j) H
def LY (g:Int->Int->V):R2:=λ x y H Q => ∃ i j,x = .int i/\y = .int j/\Q (g i j) H
def rU (g:Int->V):V->Hp->VK->Prop:=λ x H Q => ∃ i,x = .int i/\Q (g i) H
section
variable {X:Cx} {a b c:Expr} {ta tb tc:TE} {pos:Pos}
theorem Pn (ha:PE X a ta) (hb:PE X b tb) {pins:List (Addr×Obj)} {s:Shared} {σ : St} {H:Hp} {R:V->V->Hp->Prop} (I:Inv X pins σ H s)
  (h:ta σ H λ x H1=>tb σ H1 λ y H2=>R x y H2) {Q:Value->Shared->Prop} {f:Value->Value->Sem Value}
  (hf : ∀ v u s2 x y H2,Inv X pins σ H2 s2->RelV x v->RelV y u->R x y H2->wpAny (model X.prog X.w) X.A (f v u) Q X.xe s2) :
  wpAny (model X.prog X.w) X.A (eval a X.env) (λ v s₁ => wpAny (model X.prog X.w) X.A (eval b X.env) (λ u s₂ => wpAny (model X.prog X.w) X.A (f v u) Q X.xe s₂) X.xe s₁) X.xe s:=by
 refine b8 (ha pins s σ H _ I h) λ v s1 ⟨x,H1,I1,r1,q1⟩ => ?_
 refine b8 (hb pins s1 σ H1 _ I1 q1) λ u s2 ⟨y,H2,I2,r2,q2⟩ => ?_
 exact hf v u s2 x y H2 I2 r1 r2 q2
theorem au {op:Operator} {r:R2} (ho:qY X (binaryOp op) r) (ha:PE X a ta) (hb:PE X b tb):PE X (.BinOp a op b pos) (Pk r ta tb):=by
 intro pins s σ H Q I h
 exact wpAny_BinOp (Pn ha hb I h λ v u s2 x y H2 I2 rx ry q=>ho pins s2 σ H2 x y v u Q I2 rx ry q)
theorem F5 {op:UnaryOp} {r:V->Hp->VK->Prop} (ho:Vz X (unaryOp op) r) (ha:PE X a ta):PE X (.UnaryOp op a pos) (VA r ta):=by
 intro pins s σ H Q I h
 exact UnaryOp_ (b8 (ha pins s σ H _ I h) λ v s1 ⟨x,H1,I1,r1,q1⟩=>ho pins s1 σ H1 x v Q I1 r1 q1)
theorem RQ {f:Value->Value->Sem Value} {C:Int->Int->Prop} {g:Int->Int->Int}
  (rule : ∀ (i j:Int) (t u:Tok) (s:Shared) (Q:Value->Shared->Prop) (E:Value->Shared->Prop),C i j->Q (.int (g i j) s.toks) { s with toks:=s.toks+1 }->wpAny (model X.prog X.w) X.A (f (.int i t) (.int j u)) Q E s) :
  qY X f (rI C λ i j => .int (g i j)):=by
 intro pins s σ H x y v u Q I rx ry h
 obtain ⟨i,j,rfl,rfl,hc,q⟩:=h
 obtain ⟨t,rfl⟩:=rx
 obtain ⟨t',rfl⟩:=ry
 exact rule i j t t' s _ _ hc ⟨.int (g i j),H,I.tok _,⟨_,rfl⟩,q⟩
theorem RS {f:Value->Value->Sem Value} {g:Int->Int->Int}
  (rule : ∀ (i j:Int) (t u:Tok) (s:Shared) (Q:Value->Shared->Prop) (E:Value->Shared->Prop),Q (.int (g i j) s.toks) { s with toks:=s.toks+1 }->wpAny (model X.prog X.w) X.A (f (.int i t) (.int j u)) Q E s) :
  qY X f (LY λ i j => .int (g i j)):=by
 intro pins s σ H x y v u Q I rx ry h
 obtain ⟨i,j,rfl,rfl,q⟩:=h
 obtain ⟨t,rfl⟩:=rx
 obtain ⟨t',rfl⟩:=ry
 exact rule i j t t' s _ _ ⟨.int (g i j),H,I.tok _,⟨_,rfl⟩,q⟩
theorem Po {f:Value->Value->Sem Value} {g:Int->Int->Bool}
  (rule : ∀ (i j:Int) (t u:Tok) (s:Shared) (Q:Value->Shared->Prop) (E:Value->Shared->Prop),Q (.bool (g i j)) s->wpAny (model X.prog X.w) X.A (f (.int i t) (.int j u)) Q E s) :
  qY X f (LY λ i j => .bl (g i j)):=by
 intro pins s σ H x y v u Q I rx ry h
 obtain ⟨i,j,rfl,rfl,q⟩:=h
 obtain ⟨t,rfl⟩:=rx
 obtain ⟨t',rfl⟩:=ry
 exact rule i j t t' s _ _ ⟨.bl (g i j),H,I,rfl,q⟩
def RT (i j:Int):Prop:=0 < j/\j < 1073741824
def RU (i j:Int):Prop:=j≠0/\j.natAbs < 1073741824
def mF (i j:Int):Prop:=0<=j/\j<=1000000/\i.natAbs < 2 ^ 64
def Mi (i j:Int):Prop:=(-(2 ^ 64) < i/\i < 2 ^ 64)\/(-(2 ^ 64) < j/\j < 2 ^ 64)
theorem Mi.ok {i j:Int} (h:Mi i j):IntMulOk i j:=by
 rcases h with ⟨h1,h2⟩ | ⟨h1,h2⟩
 ·exact .of_left (intBits_le_64 h1 h2)
 ·exact .of_right (intBits_le_64 h1 h2)
theorem aT:qY X (binaryOp .Add) (LY λ i j => .int (i+j)):=RS λ _ _ _ _ _ _ _ q=>add_int q
theorem iJ:qY X (binaryOp .Sub) (LY λ i j => .int (i - j)):=RS λ _ _ _ _ _ _ _ q=>sub_int q
theorem gJ:qY X (binaryOp .Mult) (rI Mi λ i j => .int (i * j)):=RQ λ _ _ _ _ _ _ _ hc q=>mul_int q hc.ok
theorem bW:qY X (binaryOp .FloorDiv) (rI RT λ i j => .int (i / j)):=RQ λ i j _ _ _ _ _ hc q=>by
 have h1:(0:Int) < j:=hc.1
 have h2:j < 1073741824:=hc.2
 exact floordiv_int (by omega) (by rw [Int.fdiv_eq_ediv_of_nonneg i (by omega)];exact q) (.inl (PyProof.noPylong_small (by omega)))
theorem aN:qY X (binaryOp .Mod) (rI (λ _ j=>0 < j) λ i j => .int (i % j)):=RQ λ i j _ _ _ _ _ hc q=>by
 have h1:(0:Int) < j:=hc
 exact mod_int' (by omega) (by rw [Int.fmod_eq_emod_of_nonneg i (by omega)];exact q)
theorem zT:qY X (binaryOp .Pow) (rI mF λ i j => .int (i ^ j.toNat)):=RQ λ _ _ _ _ _ _ _ hc q=>pow_int_small hc.1 hc.2.1 hc.2.2 q
theorem unI {f:Value->Sem Value} {g:Int->Int}
  (rule : ∀ (i:Int) (t:Tok) (s:Shared) (Q:Value->Shared->Prop) (E:Value->Shared->Prop),Q (.int (g i) s.toks) { s with toks:=s.toks+1 }->wpAny (model X.prog X.w) X.A (f (.int i t)) Q E s) :
  Vz X f (rU λ i => .int (g i)):=by
 intro pins s σ H x v Q I rx h
 obtain ⟨i,rfl,q⟩:=h
 obtain ⟨t,rfl⟩:=rx
 exact rule i t s _ _ ⟨.int (g i),H,I.tok _,⟨_,rfl⟩,q⟩
theorem zU:Vz X (unaryOp .USub) (rU λ i => .int (-i)):=unI λ _ _ _ _ _ q=>neg_int q
end
def RV:V->V->Bool
 | .aH,.aH=>true | .aH,.int _=>true | .int _,.aH=>true | .aH,.bl _=>true | .bl _,.aH=>true | .aH,.str _=>true | .str _,.aH=>true
 | .int _,.int _=>true | .bl _,.bl _=>true | .str _,.str _=>true | .II _,.II _=>true
 | .int _,.str _=>true | .str _,.int _=>true | .bl _,.str _=>true | .str _,.bl _=>true
 | _,_=>false
def Pp:R2:=λ x y H Q=>RV x y=true/\Q (.bl (decide (x=y))) H
def VB:R2:=λ x y H Q=>RV x y=true/\Q (.bl (!decide (x=y))) H
theorem F6 {i j:Int} : decide (V.int i=V.int j)=(i == j):=by
 rw [Bool.eq_iff_iff]
 simp
theorem Jg {i j:Bool} : decide (V.bl i=V.bl j)=(i == j):=by
 rw [Bool.eq_iff_iff]
 simp
theorem F7 {i j:Str} : decide (V.str i=V.str j)=(i == j):=by
 rw [Bool.eq_iff_iff]
 simp
theorem F8 {i j:Array UInt8} : decide (V.II i=V.II j)=(i.toList == j.toList):=by
 rw [Bool.eq_iff_iff]
 cases i
 cases j
 simp
section
variable {X:Cx} {a b c:Expr} {ta tb tc:TE} {pos:Pos}
theorem aV {pins:List (Addr×Obj)} {σ : St} {H:Hp} {s:Shared} {Q:VK} {k k':Bool} (I:Inv X pins σ H s) (q:Q (.bl k) H) (e:k=k'):EP X pins σ Q (.bool k') s:=by
 subst e
 exact ⟨.bl k,H,I,rfl,q⟩
theorem iQ:qY X (compareOp .Eq) Pp:=by
 intro pins s σ H x y v u Q I rx ry h
 obtain ⟨hs,q⟩:=h
 cases x with
 | aH =>
   cases rx
   cases y with
   | aH=>cases ry;exact PySem.EqNone.eq_none_none (aV I q (by simp))
   | bl j=>cases ry;exact PySem.EqNone.eq_none_bool (aV I q (by simp))
   | int j=>obtain ⟨t',rfl⟩:=ry;exact PySem.EqNone.eq_none_int (aV I q (by simp))
   | str j=>obtain ⟨t',rfl⟩:=ry;exact PySem.EqNone.eq_none_str (aV I q (by simp))
   | _=>exact absurd (show false=true from hs) Bool.false_ne_true
 | bl i =>
   cases rx
   cases y with
   | aH=>cases ry;exact PySem.EqNone.eq_bool_none (aV I q (by simp))
   | bl j=>cases ry;exact eq_bool (aV I q Jg)
   | str j=>obtain ⟨t',rfl⟩:=ry;exact PySem.EqMixed.eq_bool_str (aV I q (by simp))
   | _=>exact absurd (show false=true from hs) Bool.false_ne_true
 | int i =>
   obtain ⟨t,rfl⟩:=rx
   cases y with
   | aH=>cases ry;exact PySem.EqNone.eq_int_none (aV I q (by simp))
   | int j=>obtain ⟨t',rfl⟩:=ry;exact eq_int (aV I q F6)
   | str j=>obtain ⟨t',rfl⟩:=ry;exact PySem.EqMixed.eq_int_str (aV I q (by simp))
   | _=>exact absurd (show false=true from hs) Bool.false_ne_true
 | str i =>
   obtain ⟨t,rfl⟩:=rx
   cases y with
   | aH=>cases ry;exact PySem.EqNone.eq_str_none (aV I q (by simp))
   | bl j=>cases ry;exact PySem.EqMixed.eq_str_bool (aV I q (by simp))
   | int j=>obtain ⟨t',rfl⟩:=ry;exact PySem.EqMixed.eq_str_int (aV I q (by simp))
   | str j=>obtain ⟨t',rfl⟩:=ry;exact eq_str (aV I q F7)
   | _=>exact absurd (show false=true from hs) Bool.false_ne_true
 | II i =>
   obtain ⟨t,rfl⟩:=rx
   cases y with
   | II j=>obtain ⟨t',rfl⟩:=ry;exact PySem.W.eq_bytes (aV I q F8)
   | _=>exact absurd (show false=true from hs) Bool.false_ne_true
 | _=>cases y <;> exact absurd (show false=true from hs) Bool.false_ne_true
theorem F9:qY X (compareOp .NotEq) VB:=by
 intro pins s σ H x y v u Q I rx ry h
 obtain ⟨hs,q⟩:=h
 cases x with
 | aH =>
   cases rx
   cases y with
   | aH=>cases ry;exact PySem.EqNone.ne_none_none (aV I q (by simp))
   | bl j=>cases ry;exact PySem.EqNone.ne_none_bool (aV I q (by simp))
   | int j=>obtain ⟨t',rfl⟩:=ry;exact PySem.EqNone.ne_none_int (aV I q (by simp))
   | str j=>obtain ⟨t',rfl⟩:=ry;exact PySem.EqNone.ne_none_str (aV I q (by simp))
   | _=>exact absurd (show false=true from hs) Bool.false_ne_true
 | bl i =>
   cases rx
   cases y with
   | aH=>cases ry;exact PySem.EqNone.ne_bool_none (aV I q (by simp))
   | bl j=>cases ry;exact ne_bool (aV I q (congrArg not Jg))
   | str j=>obtain ⟨t',rfl⟩:=ry;exact PySem.EqMixed.ne_bool_str (aV I q (by simp))
   | _=>exact absurd (show false=true from hs) Bool.false_ne_true
 | int i =>
   obtain ⟨t,rfl⟩:=rx
   cases y with
   | aH=>cases ry;exact PySem.EqNone.ne_int_none (aV I q (by simp))
   | int j=>obtain ⟨t',rfl⟩:=ry;exact ne_int (aV I q (congrArg not F6))
   | str j=>obtain ⟨t',rfl⟩:=ry;exact PySem.EqMixed.ne_int_str (aV I q (by simp))
   | _=>exact absurd (show false=true from hs) Bool.false_ne_true
 | str i =>
   obtain ⟨t,rfl⟩:=rx
   cases y with
   | aH=>cases ry;exact PySem.EqNone.ne_str_none (aV I q (by simp))
   | bl j=>cases ry;exact PySem.EqMixed.ne_str_bool (aV I q (by simp))
   | int j=>obtain ⟨t',rfl⟩:=ry;exact PySem.EqMixed.ne_str_int (aV I q (by simp))
   | str j=>obtain ⟨t',rfl⟩:=ry;exact ne_str (aV I q (congrArg not F7))
   | _=>exact absurd (show false=true from hs) Bool.false_ne_true
 | II i =>
   obtain ⟨t,rfl⟩:=rx
   cases y with
   | II j=>obtain ⟨t',rfl⟩:=ry;exact PySem.W.ne_bytes (aV I q (congrArg not F8))
   | _=>exact absurd (show false=true from hs) Bool.false_ne_true
 | _=>cases y <;> exact absurd (show false=true from hs) Bool.false_ne_true
theorem Ga:qY X (compareOp .Lt) (LY λ i j => .bl (decide (i < j))):=Po λ _ _ _ _ _ _ _ q=>lt_int q
theorem RW:qY X (compareOp .Gt) (LY λ i j => .bl (decide (j < i))):=Po λ _ _ _ _ _ _ _ q=>gt_int q
theorem RX:qY X (compareOp .GtE) (LY λ i j => .bl (decide (j<=i))):=Po λ _ _ _ _ _ _ _ q=>ge_int q
theorem DR:qY X (compareOp .Is) (λ x y H Q=>y = .aH/\Q (.bl (decide (x = .aH))) H):=by
 intro pins s σ H x y v u Q I rx ry h
 obtain ⟨rfl,q⟩:=h
 cases ry
 refine is_none_gen (aV I q ?_)
 cases x <;> first
  | (cases rx;rfl)
  | (obtain ⟨t,rfl⟩:=rx;rfl)
theorem zV:qY X (compareOp .IsNot) (λ x y H Q=>y = .aH/\Q (.bl (!decide (x = .aH))) H):=by
 intro pins s σ H x y v u Q I rx ry h
 obtain ⟨rfl,q⟩:=h
 cases ry
 refine isnot_none_gen (aV I q ?_)
 cases x <;> first
  | (cases rx;rfl)
  | (obtain ⟨t,rfl⟩:=rx;rfl)
theorem bf (b:Expr) {op:CmpOp} (h:op ≠ .In:=by decide) (h2:op ≠ .NotIn:=by decide):behindInMarks op b=false:=by
 have e1:(op == CmpOp.In)=false:=by cases op <;> first | rfl | exact absurd rfl h
 have e2:(op == CmpOp.NotIn)=false:=by cases op <;> first | rfl | exact absurd rfl h2
 cases b <;> simp [behindInMarks,e1,e2]
theorem lu {op:CmpOp} {r:R2} (ho:qY X (compareOp op) r) (ha:PE X a ta) (hb:PE X b tb) (hm:behindInMarks op b=false):PE X (.Compare a [op] [b] pos) (Pk r ta tb):=by
 intro pins s σ H Q I h
 exact wpAny_Compare1 (Pn ha hb I h λ v u s2 x y H2 I2 rx ry q=>ho pins s2 σ H2 x y v u Q I2 rx ry q) hm
def Gb (t:TE):TT:=fun σ H Q=>t σ H λ x H' => ∃ k,x = .bl k/\Q k H'
theorem aX {op:CmpOp} {r:R2} (ho:qY X (compareOp op) r) (ha:PE X a ta) (hb:PE X b tb) (hm:behindInMarks op b=false):PT X (.Compare a [op] [b] pos) (Gb (Pk r ta tb)):=by
 intro pins s σ H Q I h
 refine wpAny_isTrue_Compare1 (b8 (ha pins s σ H _ I h) λ v s1 ⟨x,H1,I1,r1,q1⟩=>b8 (hb pins s1 σ H1 _ I1 q1) λ u s2 ⟨y,H2,I2,r2,q2⟩ =>
  b8 (ho pins s2 σ H2 x y v u _ I2 r1 r2 q2) λ c s3 ⟨z,H3,I3,r3,k,e,q3⟩ => ?_) hm
 subst e
 cases r3
 exact wpAny_truthy_bool ⟨H3,I3,q3⟩
theorem mG:(sizeLine:Nat) < 2 ^ 63:=by rw [sizeLine_eq];decide
theorem DS:qY X (binaryOp .Add) (λ x y H Q => ∃ i j,x = .str i/\y = .str j/\i.length+j.length<=sizeLine/\Q (.str (i++j)) H):=by
 intro pins s σ H x y v u Q I rx ry h
 obtain ⟨i,j,rfl,rfl,hz,q⟩:=h
 obtain ⟨t,rfl⟩:=rx
 obtain ⟨t',rfl⟩:=ry
 exact add_str (λ t' tk=>⟨.str (i++j),H,I.tok _,⟨_,rfl⟩,q⟩) hz
theorem vals1 {x:V} {us:List Value} (r:Vals [x] us) : ∃ u,us = [u]/\RelV x u:=by
 cases r with
 | cons r1 r2=>cases r2;exact ⟨_,rfl,r1⟩
end
end L2
namespace L2
open PySem PySem.Spec PyProof.Rows
structure DT (h:Heap) (x dx C:Addr) (mA:Str->Option Value):Prop where
 obj:h.get? x=some (PySem.W.instObj C dx)
 ns:h.Ns1 dx mA
 ne:dx≠x
theorem GW {h:Heap} {dx:Addr} {mA:Str->Option Value} (n:h.Ns1 dx mA) : ∃ od,h.get? dx=some od ∧ ∀ name,PySem.W.lookIn name od=some (mA name):=by
 obtain ⟨o,es,ep,ho,hd,hk,_,hm⟩:=n
 refine ⟨o,ho,λ name => ?_⟩
 have e:=hm name
 unfold nsFind findBy at e
 rw [<-Array.find?_toList] at e
 unfold PySem.W.lookIn
 rw [hd]
 dsimp only
 split
 ·rename_i y q
  rw [q] at e
  exact congrArg some e
 ·rename_i q
  rw [q] at e
  have a:es.toList.any (·.refKey)=false:=by
   rw [List.any_eq_false]
   intro y hy
   obtain ⟨z,t,hkey⟩:=hk y (Array.mem_toList_iff.mp hy)
   simp [DictEntry.refKey,hkey]
  have a' : ¬ es.toList.any (·.refKey)=true:=by rw [a];exact Bool.false_ne_true
  rw [if_neg a']
  exact congrArg some e
theorem DT.look {h:Heap} {x dx C:Addr} {mA:Str->Option Value} (I:DT h x dx C mA) : ∃ od,PySem.W.InstAt h x (PySem.W.instObj C dx) C (some od) ∧ ∀ name,PySem.W.lookIn name od=some (mA name) :=
 let ⟨od,ho,hl⟩:=GW I.ns
 ⟨od,⟨I.obj,rfl,rfl,ho⟩,hl⟩
section
variable {prog:Program} {w:World} {A:Around} {E:Value->Shared->Prop} {s:Shared} {K:PySem.W.Frag} {x dx C f:Addr} {mA:Str->Option Value} {name:Str} {v:Value}
theorem get_map {expr:Bool} {Q:Value->Shared->Prop} (X:K.In s.heap) (I:DT s.heap x dx C mA) (hg:PySem.W.plainGet K C name=true) (hh:PySem.W.hasDictIn K C=true)
  (ha:PySem.W.findIn K (.ref C) name=some none) (hv:mA name=some v) (hv':PySem.W.handedIn v=true) (h:Q v { s with toks:=s.toks+1 }) :
  wpAny (model prog w) A (getAttr (.ref x) name expr) Q E s:=by
 obtain ⟨od,J,hl⟩:=I.look
 exact PySem.W.get_value X J (PySem.W.plainGet_of hg).1 (PySem.W.findObj_own hh ha rfl (by rw [hl,hv])) hv' h
theorem Jh {pl:Sem Bool} {Q:Value×List Value->Shared->Prop} (X:K.In s.heap) (I:DT s.heap x dx C mA) (hg:PySem.W.plainGet K C name=true)
  (hf:PySem.W.findIn K (.ref C) name=some (some (.ref f))) (ht:PySem.W.isFn K (.ref f)=true) (hv:mA name=none) (h:Q (.ref f,[.ref x]) s) :
  wpAny (model prog w) A (getMethod (.ref x) name pl) Q E s:=by
 obtain ⟨od,J,hl⟩:=I.look
 exact PySem.W.method_fn X J (PySem.W.plainGet_of hg).1 (PySem.W.plainGet_of hg).2 hf (beq_iff_eq.mp ht) (by show (PySem.W.lookIn name od).map (·.isSome)=some false;rw [hl,hv];rfl) h
theorem Mj {ns:List Str} {Q:Unit->Shared->Prop} (X:K.In s.heap) (I:DT s.heap x dx C mA)
  (hs:PySem.W.findIn K (.ref C) "__setattr__" = some (some (.builtin "object.__setattr__"))) (hp:PySem.W.plainOver K C=true) (ht:PySem.W.takerIn K C name=some none) (hh:PySem.W.hasDictIn K C=true)
  (hw:PySem.Within mA ns) (hsz:ns.length<=sizeLine)
  (h : ∀ h',DT h' x dx C (λ y=>if y=name then some v else mA y)->Heap.SameBut dx s.heap h'->Q () { s with heap:=h',toks:=s.toks+2 }) :
  wpAny (model prog w) A (setAttr (.ref x) name v) Q E s:=by
 obtain ⟨od,J,hl⟩:=I.look
 refine PySem.W.set_plain X J hs (PySem.W.osa_open (s := { s with toks:=s.toks+1 }) (r:=none) X J hp ht λ b => ?_)
 obtain ⟨cd,hc,hd'⟩:=PySem.W.any_some hh
 have hx:s.heap.get? x=some ⟨.ref C,some dx,.plain,#[]⟩:=I.obj
 refine wpAny_bind (wpAny_pure (wpAny_bind (wpAny_bind (wpAny_loadPart hx (wpAny_bind (PySem.W.Looks.here (s := { s with toks:=s.toks+1 }) (PySem.W.looks_clsIn X hc) ?_))))))
 rw [hd']
 refine wpAny_pure (a:=some dx) (wpAny_bind (wpAny_pure (wpAny_bind ?_)))
 refine wpAny_nsSet1 (s := { s with toks:=s.toks+1 }) I.ns λ h' hn2 hs2 => ?_
 obtain ⟨oD,esD,epD,hoD,hdD,hcD⟩:=hn2.count (PySem.Within.cons name v hw)
 refine wpAny_bind (wpAny_lookBehind hoD (by rw [hdD];exact pastItsLine_dict (Nat.le_trans hcD (by rw [List.length_cons];omega))) ?_)
 exact wpAny_pure (h _ ⟨(hs2.2 _ (Ne.symm I.ne)).trans I.obj,hn2,I.ne⟩ hs2)
theorem Ji {R:Result->Shared->Prop} {vs:List Value} {kw:List (Str×Value)} (X:K.In s.heap) (hm:PySem.W.makesIn K C=true)
  (hi:PySem.W.findIn K (.ref C) "__init__" = some (some (.ref f))) (hf:PySem.W.typeIn K (.ref f)=some (.type "function"))
  (h:codeAny (model prog w) (A.under (.builtin "type.__call__" ⟨.ref C::vs,kw⟩)) (.call (.ref f) ⟨.ref (s.heap.objs.size+1)::vs,kw⟩) (PySem.W.InitBack (s.heap.objs.size+1) R)
   { s with heap:=(s.heap.push PySem.W.emptyDict).push (PySem.W.instObj C s.heap.objs.size) }) :
  codeAny (model prog w) A (.call (.ref C) ⟨vs,kw⟩) R s:=by
 obtain ⟨hh,g,d,t,os⟩:=s
 exact PySem.W.make_core (PySem.W.makes_of X hm) (PySem.W.looks_findIn X hi) (λ self=>PySem.W.bind_fn X self hf) (.inl rfl) h
end
def cK (f:Str) (v:V):List (Str×V)->List (Str×V)
 | []=>[(f,v)]
 | (g,x)::r=>if g=f then (g,v)::r else (g,x)::cK f v r
theorem qZ (f g:Str) (v:V) : ∀ fs:List (Str×V),(cK f v fs).lookup g=if g=f then some v else fs.lookup g
 | []=>by
   show List.lookup g [(f,v)]=_
   by_cases h:g=f
   ·have hb:(g == f)=true:=beq_iff_eq.mpr h
    simp only [List.lookup,hb,if_pos h]
   ·have hb:(g == f)=false:=beq_eq_false_iff_ne.mpr h
    simp only [List.lookup,hb,if_neg h]
 | (k,x)::r=>by
   have ih:=qZ f g v r
   rw [show cK f v ((k,x)::r)=(if k=f then (k,v)::r else (k,x)::cK f v r) from rfl]
   by_cases hk:k=f
   ·rw [if_pos hk]
    by_cases h:g=k
    ·have hb:(g == k)=true:=beq_iff_eq.mpr h
     simp only [List.lookup,hb,if_pos (h.trans hk)]
    ·have hb:(g == k)=false:=beq_eq_false_iff_ne.mpr h
     simp only [List.lookup,hb,if_neg (λ e:g=f=>h (e.trans hk.symm))]
   ·rw [if_neg hk]
    by_cases h:g=k
    ·have hb:(g == k)=true:=beq_iff_eq.mpr h
     simp only [List.lookup,hb,if_neg (λ e:g=f=>hk (h.symm.trans e))]
    ·have hb:(g == k)=false:=beq_eq_false_iff_ne.mpr h
     simp only [List.lookup,hb]
     exact ih
theorem pP (f:Str) (v:V) : ∀ fs:List (Str×V),f∈(cK f v fs).map (·.1) ∧ ∀ g,g∈fs.map (·.1)->g∈(cK f v fs).map (·.1)
 | []=>⟨by simp [cK],λ g h=>by simp at h⟩
 | (k,x)::r=>by
   obtain ⟨i1,i2⟩:=pP f v r
   rw [show cK f v ((k,x)::r)=(if k=f then (k,v)::r else (k,x)::cK f v r) from rfl]
   by_cases hk:k=f
   ·rw [if_pos hk]
    subst hk
    exact ⟨by simp,λ g h=>by simpa using h⟩
   ·rw [if_neg hk]
    refine ⟨?_,λ g h => ?_⟩
    ·rw [List.map_cons]
     exact List.mem_cons_of_mem _ i1
    ·rw [List.map_cons] at h ⊢
     rcases List.mem_cons.mp h with e | e
     ·exact List.mem_cons.mpr (.inl e)
     ·exact List.mem_cons_of_mem _ (i2 g e)
theorem q8 (f:Str) (v:V) : ∀ fs:List (Str×V),(cK f v fs).length<=fs.length+1
 | []=>by simp [cK]
 | (k,x)::r=>by
   have ih:=q8 f v r
   rw [show cK f v ((k,x)::r)=(if k=f then (k,v)::r else (k,x)::cK f v r) from rfl]
   by_cases hk:k=f
   ·rw [if_pos hk,List.length_cons,List.length_cons];omega
   ·rw [if_neg hk,List.length_cons,List.length_cons];omega
theorem iO.some_of {v:V} {o:Option Value} (r:iO (some v) o) : ∃ u,o=some u/\RelV v u:=by
 cases o with
 | none=>exact (show False from r).elim
 | some u=>exact ⟨u,rfl,r⟩
theorem iO.none_of {o:Option Value} (r:iO none o):o=none:=by
 cases o with
 | none=>rfl
 | some u=>exact (show False from r).elim
theorem GX {v:V} {u:Value} (r:RelV v u):PySem.W.handedIn u=true:=by
 cases v with
 | aH=>cases (show u=Value.none from r);rfl
 | bl b=>cases (show u=Value.bool b from r);rfl
 | int i=>obtain ⟨t,e⟩:=(show ∃ t,u=Value.int i t from r);cases e;rfl
 | str x=>obtain ⟨t,e⟩:=(show ∃ t,u=Value.str x t from r);cases e;rfl
 | II b=>obtain ⟨t,e⟩:=(show ∃ t,u=Value.bytes b t from r);cases e;rfl
 | O4 b=>obtain ⟨t,e⟩:=(show ∃ t,u=Value.float b t from r);cases e;rfl
 | ref a=>cases (show u=Value.ref a from r);rfl
 | ty n=>cases (show u=Value.type n from r);rfl
section
variable {P:Program} {w:World} {H H':Hp} {h h':Heap} {a C dx:Addr} {fs fs':List (Str×V)}
theorem tW (hok:jJ P w H h) (e:H a=some (.ins C dx fs)) : ∃ mA,DT h a dx C mA/\(∀ f,iO (fs.lookup f) (mA f))/\PySem.Within mA (fs.map (·.1))/\fs.length<=1000/\H dx=some (.own a):=by
 obtain ⟨d,z,ne,ob,mA,n,r,q⟩:=(show bI P w H h a (.ins C dx fs) from hok a _ e)
 exact ⟨mA,⟨ob,n,ne⟩,r,q,z,d⟩
end
structure LZ (K:PySem.W.Frag) (C:Addr):Prop where
 pg:PySem.W.plainGet K C Str.empty=true
 hd:PySem.W.hasDictIn K C=true
 po:PySem.W.plainOver K C=true
 sa:PySem.W.findIn K (.ref C) "__setattr__" = some (some (.builtin "object.__setattr__"))
theorem LZ.get {K:PySem.W.Frag} {C:Addr} (c:LZ K C) (f:Str):PySem.W.plainGet K C f=true:=c.pg
def cg (K:PySem.W.Frag) (C:Addr) (f:Str):Prop:=PySem.W.findIn K (.ref C) f=some none
theorem cg.RY {K:PySem.W.Frag} {C:Addr} {f:Str} (n:cg K C f):PySem.W.takerIn K C f=some none:=by
 unfold PySem.W.takerIn
 rw [show PySem.W.findIn K (.ref C) f=some none from n]
 rfl
structure Meth (K:PySem.W.Frag) (C:Addr) (m:Str) (f:Addr):Prop where
 at_:PySem.W.findIn K (.ref C) m=some (some (.ref f))
 fn:PySem.W.isFn K (.ref f)=true
 kp:PySem.W.keepIn K (.ref f)=true
section
variable {X:Cx} {pins:List (Addr×Obj)} {σ : St} {H:Hp} {s:Shared} {a C dx:Addr} {fs:List (Str×V)} {f:Str} {v:V} {A:Around} {E:Value->Shared->Prop}
theorem DU {b:Bool} {Q:Value->Shared->Prop} (I:Inv X pins σ H s) (e:H a=some (.ins C dx fs)) (c:LZ X.K C) (n:cg X.K C f) (l:fs.lookup f=some v)
  (h : ∀ u s',Inv X pins σ H s'->RelV v u->Q u s'):wpAny (model X.prog X.w) A (getAttr (.ref a) f b) Q E s:=by
 obtain ⟨mA,O,r,_,_,_⟩:=tW I.hok e
 obtain ⟨u,hu,ru⟩:=iO.some_of (v:=v) (o:=mA f) (by rw [<-l];exact r f)
 exact get_map I.nN O (c.get f) c.hd n hu (GX ru) (h u _ (I.tok _) ru)
theorem mH {m:Str} {g:Addr} {pl:Sem Bool} {Q:Value×List Value->Shared->Prop} (I:Inv X pins σ H s) (e:H a=some (.ins C dx fs)) (c:LZ X.K C) (k:Meth X.K C m g) (l:fs.lookup m=none)
  (h:Q (.ref g,[.ref a]) s):wpAny (model X.prog X.w) A (getMethod (.ref a) m pl) Q E s:=by
 obtain ⟨mA,O,r,_,_,_⟩:=tW I.hok e
 have hn:mA m=none:=iO.none_of (by rw [<-l];exact r m)
 exact Jh I.nN O (c.get m) k.at_ k.fn hn h
theorem DV {y:V} {u:Value} {Q:Unit->Shared->Prop} (I:Inv X pins σ H s) (e:H a=some (.ins C dx fs)) (c:LZ X.K C) (n:cg X.K C f) (hl:fs.length < 1000) (ry:RelV y u)
  (h : ∀ s',Inv X pins σ (upd H a (.ins C dx (cK f y fs))) s'->Q () s'):wpAny (model X.prog X.w) A (setAttr (.ref a) f u) Q E s:=by
 obtain ⟨mA,O,r,wi,_,ho⟩:=tW I.hok e
 have hz:(fs.map (·.1)).length<=sizeLine:=by rw [List.length_map,sizeLine_eq];omega
 refine Mj I.nN O c.sa c.po n.RY c.hd wi hz λ h' O' sb=>h _ ?_
 have hd : ∃ o,h'.get? dx=some o:=let ⟨o,_,_,e',_⟩:=O'.ns; ⟨o,e'⟩
 refine I.write (x:=a) (e:=dx) (by rw [e];exact True.intro) (.inr ho) (λ b q hb z=>(sb.2 b hb).trans z) hd ?_
 refine ⟨by rw [bN O.ne];exact ho,?_,O.ne,O'.obj,_,O'.ns,λ g => ?_,λ g hg => ?_⟩
 ·have:=q8 f y fs;omega
 ·show iO ((cK f y fs).lookup g) (if g=f then some u else mA g)
  rw [qZ]
  by_cases q:g=f
  ·rw [if_pos q,if_pos q];exact ry
  ·rw [if_neg q,if_neg q];exact r g
 ·by_cases q:g=f
  ·rw [q];exact (pP f y fs).1
  ·refine (pP f y fs).2 g (wi g λ z=>hg ?_)
   show (if g=f then some u else mA g)=none
   rw [if_neg q];exact z
theorem Inv.made (I:Inv X pins σ H s):Inv X pins σ (upd (upd H s.heap.objs.size (.own (s.heap.objs.size+1))) (s.heap.objs.size+1) (.ins C s.heap.objs.size []))
  { s with heap:=(s.heap.push PySem.W.emptyDict).push (PySem.W.instObj C s.heap.objs.size) } := by
 have e1:(s.heap.push PySem.W.emptyDict).get? s.heap.objs.size=some PySem.W.emptyDict:=Heap.get?_push_size s.heap rfl
 have e2:((s.heap.push PySem.W.emptyDict).push (PySem.W.instObj C s.heap.objs.size)).get? (s.heap.objs.size+1)=some (PySem.W.instObj C s.heap.objs.size):=by
  have:=Heap.get?_push_size (s.heap.push PySem.W.emptyDict) (o:=PySem.W.instObj C s.heap.objs.size) rfl
  rwa [Heap.size_push] at this
 have e3:(s.heap.push PySem.W.emptyDict).Ns s.heap.objs.size (λ _=>none):=⟨PySem.W.emptyDict,#[],_,e1,rfl,(λ e he=>absurd he (by simp)),λ _=>rfl⟩
 have I1:=I.laid (a:=s.heap.objs.size) (o := .own (s.heap.objs.size+1)) (h':=s.heap.push PySem.W.emptyDict) (t':=s.toks) (λ b u q=>Heap.get?_push_of_some _ q) (Nat.le_refl _) ⟨_,e1⟩
 refine I1.laid (a:=s.heap.objs.size+1) (o := .ins C s.heap.objs.size []) (t':=s.toks) (λ b u q=>Heap.get?_push_of_some _ q) (Nat.le_of_eq (Heap.size_push _ _)) ?_
 have ne:s.heap.objs.size≠s.heap.objs.size+1:=Nat.ne_of_lt (Nat.lt_succ_self _)
 refine ⟨by rw [bN ne,iP],Nat.zero_le _,ne,e2,λ _=>none,(Heap.Ns1.of_empty e3).at λ o q=>Heap.get?_push_of_some _ q,λ _=>True.intro,λ y hy=>absurd rfl hy⟩
theorem Ml {prog:Program} {w:World} {env:Env} {e:Expr} {f:Str} {pos:Pos} {s:Shared} {Q:Value->Shared->Prop} (hb:attributeBase e f env (eval e env)=eval e env)
  (h:wpAny (model prog w) A (eval e env) (λ o s₁ => wpAny (model prog w) A (getAttr o f true) Q E s₁) E s):wpAny (model prog w) A (eval (.Attribute e f pos) env) Q E s :=
 Attribute_any_ h (by rw [arm_eval_Attribute,hb])
end
section
variable {X:Cx} {o e value:Expr} {f:Str} {pos pos' tpos:Pos} {ta tv:TE}
theorem Of {pl:Sem Bool} {m:Str} {apos:Pos} {args:List Expr} {pins:List (Addr×Obj)} {s:Shared} {σ : St} {H:Hp} {Q:Value->Shared->Prop} {te:TE} (he:PE X e te) (I:Inv X pins σ H s)
  (h:te σ H λ x H1 => ∃ a C dx fs g,x = .ref a/\H1 a=some (.ins C dx fs)/\LZ X.K C/\Meth X.K C m g/\fs.lookup m=none ∧
   ∀ s1,Inv X pins σ H1 s1->wpAny (model X.prog X.w) X.A (callWith pos (.ref g) [.ref a] (backTo pos (starEach args X.env)) (backToKw pos (keywordEach [] X.env))) Q X.xe s1)
  (ht:eval (.Call (.Attribute e m apos) args [] pos) X.env=(do
   let ov <-eval e X.env
   standAt apos.atName
   let (f,first) <-holding [ov] (getMethod ov m pl)
   callWith pos f first (backTo pos (starEach args X.env)) (backToKw pos (keywordEach [] X.env)))) :
  wpAny (model X.prog X.w) X.A (eval (.Call (.Attribute e m apos) args [] pos) X.env) Q X.xe s:=by
 refine PySem.W.methodCall_KW (pl:=pl) (b8 (he pins s σ H _ I h) λ u s1 ⟨x,H1,I1,rx,a,C,dx,fs,g,ex,ea,c,k,l,q⟩ => ?_) ht
 subst ex
 obtain rfl:u=Value.ref a:=rx
 exact mH I1 ea c k l (q s1 I1)
end
section
variable {X:Cx} {pins:List (Addr×Obj)} {σ : St} {H:Hp} {s:Shared} {A:Around} {E:Value->Shared->Prop} {Q:Value->Shared->Prop} {c:Value} {b:Bool}
inductive nS (K:PySem.W.Frag) (H:Hp):V->Value->Prop where
 | aH:nS K H .aH (.type "NoneType")
 | bl (x:Bool):nS K H (.bl x) (.type "bool")
 | int (i:Int):nS K H (.int i) (.type "int")
 | str (x:Str):nS K H (.str x) (.type "str")
 | O4 (x:UInt64):nS K H (.O4 x) (.type "float")
 | lst {a:Addr} {xs:List V} (e:H a=some (.lst xs)):nS K H (.ref a) (.type "list")
 | BX {a:Addr} {o:Obj} {xs:List V} (e:H a=some (.BX o (.lst xs))):nS K H (.ref a) (.type "list")
 | tup {a:Addr} {xs:List V} (e:H a=some (.tup xs)):nS K H (.ref a) (.type "tuple")
 | dK {a:Addr} {kvs:List (Key×V)} (e:H a=some (.dK kvs)):nS K H (.ref a) (.type "dict")
 | dT {a:Addr} {kvs:List (List Key×V)} (e:H a=some (.dT kvs)):nS K H (.ref a) (.type "dict")
 | ins {a C dx:Addr} {fs:List (Str×V)} (e:H a=some (.ins C dx fs)) (cl:LZ K C) (ha:PySem.W.findIn K (.ref C) "__class__" = some (some (.builtin "object.__class__")))
   (hn:PySem.W.specialIn K (.builtin "object.__class__") "__get__" = some (some (.builtin "getset_descriptor.__get__"))) (htk:PySem.W.takesIn K (.builtin "object.__class__")=some true)
   (hm:PySem.W.mroIn K C (.type "object")=some true):nS K H (.ref a) (.ref C)
theorem zh {x:V} {u t:Value} (I:Inv X pins σ H s) (rx:RelV x u) (ty:nS X.K H x t) (e:PySem.W.kitOne X.K t c=some b) (h : ∀ tk,Q (.bool b) { s with toks:=tk }) :
  wpAny (model X.prog X.w) A (call (.builtin "isinstance") [u,c]) Q E s:=by
 cases ty with
 | aH=>cases (show u=Value.none from rx);exact PySem.W.kia_one PySem.W.kitx_none I.nN True.intro e (λ z=>nomatch z) h
 | bl y=>cases (show u=Value.bool y from rx);exact PySem.W.kia_one PySem.W.kitx_bool I.nN True.intro e (λ z=>nomatch z) h
 | int i=>obtain ⟨t,q⟩:=(show ∃ t,u=Value.int i t from rx);cases q;exact PySem.W.kia_one PySem.W.kitx_int I.nN True.intro e (λ z=>nomatch z) h
 | str y=>obtain ⟨t,q⟩:=(show ∃ t,u=Value.str y t from rx);cases q;exact PySem.W.kia_one PySem.W.kitx_str I.nN True.intro e (λ z=>nomatch z) h
 | O4 y=>obtain ⟨t,q⟩:=(show ∃ t,u=Value.float y t from rx);cases q;exact PySem.W.kia_one PySem.W.kitx_float I.nN True.intro e (λ z=>nomatch z) h
 | @lst a xs ea =>
   cases (show u=Value.ref a from rx)
   obtain ⟨_,_,n,_,h1⟩:=(show bI X.prog X.w H s.heap a (.lst xs) from I.hok a _ ea)
   exact PySem.W.kia_one PySem.W.kitx_list I.nN ⟨_,h1,rfl⟩ e (λ z=>nomatch z) h
 | @BX a ob xs ea =>
   cases (show u=Value.ref a from rx)
   obtain ⟨_,_,_,n,_,h1⟩:=(show bI X.prog X.w H s.heap a (.BX ob (.lst xs)) from I.hok a _ ea)
   exact PySem.W.kia_one PySem.W.kitx_list I.nN ⟨_,h1,rfl⟩ e (λ z=>nomatch z) h
 | @tup a xs ea =>
   cases (show u=Value.ref a from rx)
   obtain ⟨_,_,_,p⟩:=(show bI X.prog X.w H s.heap a (.tup xs) from I.hok a _ ea)
   obtain ⟨o,h1,h2,_⟩:=p
   exact PySem.W.kia_one PySem.W.kitx_tuple I.nN ⟨o,h1,h2⟩ e (λ z=>nomatch z) h
 | @dK a kvs ea =>
   cases (show u=Value.ref a from rx)
   obtain ⟨_,_,vs,_,p⟩:=(show bI X.prog X.w H s.heap a (.dK kvs) from I.hok a _ ea)
   obtain ⟨o,es,ep,h1,h2,_⟩:=p
   exact PySem.W.kia_one PySem.W.kitx_dict I.nN ⟨o,h1,h2.1⟩ e (λ z=>nomatch z) h
 | @dT a kvs ea =>
   cases (show u=Value.ref a from rx)
   obtain ⟨_,_,xs,_,o,es,ep,h1,h2,_⟩:=(show bI X.prog X.w H s.heap a (.dT kvs) from I.hok a _ ea)
   exact PySem.W.kia_one PySem.W.kitx_dict I.nN ⟨o,h1,h2.1⟩ e (λ z=>nomatch z) h
 | @ins a C dx fs ea cl ha hn htk hm =>
   cases (show u=Value.ref a from rx)
   obtain ⟨mA,O,_⟩:=tW I.hok ea
   obtain ⟨od,J,_⟩:=O.look
   exact PySem.W.kia_one (PySem.W.kitx_own (cl.get _) cl.hd ha hn htk hm) I.nN J e (λ z=>nomatch z) h
end
end L2
namespace L2
open PySem PySem.Spec PyProof.Rows
structure cL (k:Nat) (A:Around):Prop where
 hd:A.handled=none
 dp:A.depth+3 * k+5 < recursionLimit
 un:A.units+16 * k+200 < cLine
theorem cL.mono {j k:Nat} {A:Around} (r:cL k A) (h:j<=k):cL j A:=⟨r.hd,by have:=r.dp;omega,by have:=r.un;omega⟩
theorem cL.deeper {k:Nat} {A:Around} (r:cL (k+1) A) (env:Env):cL k (A.deeper env) :=
 ⟨r.hd,by have:=r.dp;show A.depth+1+3 * k+5 < _;omega,by have:=r.un;show A.units+3+16 * k+200 < _;omega⟩
theorem DW {A:Around} {C:Addr} {us:List Value} {kw:List (Str×Value)} : (A.under (.builtin "type.__call__" ⟨.ref C::us,kw⟩)).depth=A.depth+1:=by
 first | rfl | simp [Around.under,Code.weight,Code.isCreation,Code.isGuard,Code.isCaller,Code.frames,Code.isFrame,guardIds]
theorem DX {A:Around} {C:Addr} {us:List Value} {kw:List (Str×Value)} : (A.under (.builtin "type.__call__" ⟨.ref C::us,kw⟩)).units=A.units+1:=by
 first | rfl | simp [Around.under,Code.cUnits,Code.frames,Code.isFrame]
theorem cL.make {k:Nat} {A:Around} (r:cL (k+1) A) (C:Addr) (us:List Value) (kw:List (Str×Value)):cL k (A.under (.builtin "type.__call__" ⟨.ref C::us,kw⟩)) :=
 ⟨r.hd,by have:=r.dp;rw [DW];omega,by have:=r.un;rw [DX];omega⟩
theorem cL.depth {k:Nat} {A:Around} (r:cL k A):A.depth < recursionLimit:=by have:=r.dp;omega
theorem cL.units {k:Nat} {A:Around} (r:cL k A):A.units+64 < cLine:=by have:=r.un;omega
def B9:TA:=λ _ H Q=>Q [] H
def Gd (ta:TE) (tr:TA):TA:=fun σ H Q=>ta σ H λ x H1=>tr σ H1 λ xs H2=>Q (x::xs) H2
section
variable {X:Cx} {e:Expr} {es:List Expr} {te:TE} {t:TA} {pos:Pos}
theorem ai:PA X [] B9:=λ _ _ _ _ H Q I h=>Calls.spliced_nil ⟨[],H,I,.nil,h⟩
theorem aa (ha:PE X e te) (hr:PA X es t) (hs:starEach (e::es) X.env=(false,eval e X.env)::starEach es X.env:=by rfl):PA X (e::es) (Gd te t):=by
 intro pos pins s σ H Q I h
 rw [hs]
 show wpAny _ _ (spliced ((false,eval e X.env)::backTo pos (starEach es X.env))) _ _ s
 refine Calls.spliced_cons (b8 (ha pins s σ H _ I h) λ u s1 ⟨x,H1,I1,r1,q1⟩ => ?_)
 exact b8 (hr pos pins s1 σ H1 _ I1 q1) λ us s2 ⟨xs,H2,I2,r2,q2⟩=>⟨x::xs,H2,I2,.cons r1 r2,q2⟩
def Pq (t:TA):TE:=fun σ H Q=>t σ H λ xs H1=>xs.length<=sizeLine ∧ ∀ p,H1 p=none->Q (.ref p) (upd H1 p (.tup xs))
def Pr (t:TA):TE:=fun σ H Q=>t σ H λ xs H1=>xs.length<=sizeLine ∧ ∀ p,H1 p=none->Q (.ref p) (upd H1 p (.lst xs))
theorem fj {x1} (h:PA X es t):PE X (.Tuple es x1 pos) (Pq t):=by
 intro pins s σ H Q I hq
 refine wpAny_Tuple_spliced (b8 (h pos pins s σ H _ I hq) λ us s1 ⟨xs,H1,I1,r,z,q⟩=>⟨by rw [<-r.length];exact z,?_⟩)
 have hf:H1 s1.heap.objs.size=none:=I1.hok.fresh (Nat.le_refl _)
 refine ⟨.ref s1.heap.objs.size,upd H1 s1.heap.objs.size (.tup xs),I1.laid (t':=s1.toks) (λ b u e=>Heap.get?_push_of_some _ e) (Nat.le_refl _) ?_,rfl,q _ hf⟩
 exact ⟨z,us,r,⟨_,Heap.get?_push_size _ rfl,rfl,_,rfl⟩⟩
theorem jh (h:PA X es t):PE X (.List es pos) (Pr t):=by
 intro pins s σ H Q I hq
 refine wpAny_List_spliced (b8 (h pos pins s σ H _ I hq) λ us s1 ⟨xs,H1,I1,r,z,q⟩=>⟨by rw [<-r.length];exact z,?_⟩)
 have hf:H1 s1.heap.objs.size=none:=I1.hok.fresh (Nat.le_refl _)
 refine ⟨.ref s1.heap.objs.size,upd H1 s1.heap.objs.size (.lst xs),I1.laid (t':=s1.toks) (λ b u e=>Heap.get?_push_of_some _ e) (Nat.le_refl _) ?_,rfl,q _ hf⟩
 exact ⟨z,us,0,r,Heap.get?_push_size _ rfl⟩
end
abbrev Sp:=List V->Hp->VK->XK->Prop
abbrev GY:=List Env->Hp->Shared->XK->Value->Shared->Prop
structure DY (P:Program) (w:World) (K:PySem.W.Frag) (mg:Str->Option Value) (base:Heap) (A:Around) (outer:List Env) (s:Shared) (H:Hp):Prop where
 frames:A.frames=some outer
 mod:Mod K mg base
 bs : ∀ b o,base.get? b=some o->s.heap.get? b=some o/\H b=none
 IJ:base.objs.size<=s.heap.objs.size
 nM:s.heap.FunFrames base outer
 Mc : ∀ b∈frs outer,H b=none
 hok:jJ P w H s.heap
 bare:AllBare s.gens
def CE (outer:List Env) (P:Program) (w:World) (H:Hp) (s:Shared) (Q:VK) (u:Value) (s':Shared):Prop :=
 ∃ v H',s'.os=s.os/\AllBare s'.gens/\Un (frs outer) [] H H' s.heap s'.heap/\jJ P w H' s'.heap/\RelV v u/\Q v H'
def CR (CX:GY) (outer:List Env) (P:Program) (w:World) (H:Hp) (s:Shared) (Q:VK) (E:XK) (r:Result) (s':Shared):Prop :=
 match r with
 | .ok (.ret u)=>CE outer P w H s Q u s'
 | .ok _=>False
 | .error e=>CX outer H s E e s'
structure fO (P:Program) (w:World) (K:PySem.W.Frag) (mg:Str->Option Value) (base:Heap) (CX:GY) (k:Nat) (f:Addr) (fd:FuncData) (ps:List Str) (sp:Sp):Prop where
 len : ∀ vs H Q E,sp vs H Q E->vs.length=ps.length
 run : ∀ (A:Around) (outer:List Env) (s:Shared) (H:Hp) (args:Args) (us:List Value) (vs:List V) (Q:VK) (E:XK),cL k A->DY P w K mg base A outer s H->BindsTo s fd args (ps.zip us)->Vals vs us->sp vs H Q E →
  codeAny (model P w) A (.call (.ref f) args) (CR CX outer P w H s Q E) s
theorem fO.mono {P:Program} {w:World} {K:PySem.W.Frag} {mg:Str->Option Value} {base:Heap} {CX:GY} {j k:Nat} {f:Addr} {fd:FuncData} {ps:List Str} {sp:Sp} (F:fO P w K mg base CX j f fd ps sp) (h:j<=k) :
  fO P w K mg base CX k f fd ps sp:=⟨F.len,λ A outer s H args us vs Q E hr=>F.run A outer s H args us vs Q E (hr.mono h)⟩
theorem fO.imp {P:Program} {w:World} {K:PySem.W.Frag} {mg:Str->Option Value} {base:Heap} {CX:GY} {k:Nat} {f:Addr} {fd:FuncData} {ps:List Str} {sp RZ:Sp} (F:fO P w K mg base CX k f fd ps sp)
  (h : ∀ vs H Q E,RZ vs H Q E->sp vs H Q E):fO P w K mg base CX k f fd ps RZ :=
 ⟨λ vs H Q E q=>F.len vs H Q E (h _ _ _ _ q),λ A outer s H args us vs Q E hr he hb hv hs=>F.run A outer s H args us vs Q E hr he hb hv (h _ _ _ _ hs)⟩
theorem DY.make {P:Program} {w:World} {K:PySem.W.Frag} {mg:Str->Option Value} {base:Heap} {A:Around} {outer:List Env} {s:Shared} {H:Hp} (e:DY P w K mg base A outer s H) (C:Addr) (us:List Value) (kw:List (Str×Value)) :
  DY P w K mg base (A.under (.builtin "type.__call__" ⟨.ref C::us,kw⟩)) outer s H:=⟨by first | exact e.frames | (simpa [Around.under,Code.envs,Code.isFrame,pushEnvs] using e.frames),e.mod,e.bs,e.IJ,e.nM,e.Mc,e.hok,e.bare⟩
section
variable {X:Cx} {pins:List (Addr×Obj)} {σ : St} {H:Hp} {s s':Shared}
theorem Inv.Pu (I:Inv X pins σ H s):DY X.prog X.w X.K X.mg X.base X.A X.stack s H :=
 ⟨I.ok.frames,I.ok.mod,I.bs,Nat.le_trans I.ok.IJ I.sz,I.stack,I.zR,I.hok,I.bare⟩
theorem Inv.after {Q:VK} {u:Value} (I:Inv X pins σ H s) (h:CE X.stack X.prog X.w H s Q u s'):EP X pins σ Q u s':=by
 obtain ⟨v,H',os,bare,un,hok,r,q⟩:=h
 obtain ⟨hh,g,d,t,os'⟩:=s'
 obtain rfl:os' = s.os:=os
 exact ⟨v,H',I.call (h':=hh) (g':=g) (d':=d) (t':=t) (ch:=[]) un hok bare (λ b z=>absurd z (by simp)),r,q⟩
end
def Ca (sp:Sp) (iR:List V) (E:XK) (t:TA):TE:=fun σ H Q=>t σ H λ vs H1=>sp (vs++iR) H1 Q E
def zj (C:Addr) (m:Str) (sp:Sp) (iR:List V) (E:XK) (ta:TE) (t:TA):TE:=fun σ H Q=>ta σ H λ x H1 => ∃ a dx fs,x = .ref a/\H1 a=some (.ins C dx fs)/\fs.lookup m=none ∧
 t σ H1 λ vs H2=>sp (x::(vs++iR)) H2 Q E
def zk (C:Addr) (sp:Sp) (iR:List V) (E:XK) (t:TA):TE:=fun σ H Q=>t σ H λ vs H1 => ∀ x dx,H1 x=none->H1 dx=none->dx≠x →
 sp (.ref x::(vs++iR)) (upd (upd H1 dx (.own x)) x (.ins C dx [])) (λ v H2=>v = .aH/\Q (.ref x) H2) E
def Binds (K:PySem.W.Frag) (fd:FuncData) (ps:List Str) (ds:List Value):Prop :=
 ∀ (s:Shared) (us:List Value),K.In s.heap->(us++ds).length=ps.length->BindsTo s fd ⟨us,[]⟩ (ps.zip (us++ds))
theorem Binds.all {K:PySem.W.Frag} {fd:FuncData} {ps:List Str} (h : ∀ us:List Value,us.length=ps.length->bindArgs fd ⟨us,[]⟩ = pure (ps.zip us)):Binds K fd ps []:=λ s us _ hl=>by
 rw [List.append_nil] at hl ⊢
 exact .of_eq (h us hl)
def Passes (CX:GY) (X:Cx) (E:XK):Prop := ∀ (pins:List (Addr×Obj)) (σ : St) (H:Hp) (s:Shared) (e:Value) (s':Shared),Inv X pins σ H s->CX X.stack H s E e s'->X.xe e s'
section
variable {X:Cx} {CX:GY} {k:Nat} {f C:Addr} {fd:FuncData} {ps:List Str} {sp:Sp} {iR:List V} {ds:List Value} {E:XK} {x m:Str} {p pos apos:Pos} {e o:Expr} {es:List Expr} {ta:TE} {t:TA}
theorem DZ {pins:List (Addr×Obj)} {σ : St} {H:Hp} {s:Shared} {Q:VK} {us:List Value} {vs:List V} (F:fO X.prog X.w X.K X.mg X.base CX k f fd ps sp) (hr:cL k X.A) (hb:Binds X.K fd ps ds) (hd:Vals iR ds) (hx:Passes CX X E)
  (I:Inv X pins σ H s) (r:Vals vs us) (h:sp (vs++iR) H Q E):wpAny (model X.prog X.w) X.A (call (.ref f) us) (EP X pins σ Q) X.xe s:=by
 have r2:Vals (vs++iR) (us++ds):=r.append hd
 have hl:(us++ds).length=ps.length:=by rw [<-r2.length];exact F.len _ _ _ _ h
 refine wpAny_call (codeAny_mono (F.run X.A X.stack s H ⟨us,[]⟩ (us++ds) (vs++iR) Q E hr I.Pu (hb s us I.nN hl) r2 h) λ r s' hq => ?_)
 cases r with
 | error e=>exact hx pins σ H s e s' I hq
 | ok fl =>
   cases fl with
   | ret u=>exact I.after hq
   | next=>exact False.elim hq
   | brk=>exact False.elim hq
   | cont=>exact False.elim hq
theorem Mm (F:fO X.prog X.w X.K X.mg X.base CX k f fd ps sp) (hr:cL k X.A) (hg:Gl X x) (hm:X.mg x=some (.ref f)) (hk:PySem.W.keepIn X.K (.ref f)=true) (hb:Binds X.K fd ps ds) (hd:Vals iR ds) (hx:Passes CX X E)
  (ha:PA X (e::es) t) (hdb:(x == ("__debug__" : Str))=false:=by decide) (he:starEach (e::es) X.env=(false,eval e X.env)::starEach es X.env:=by rfl) (hpl:(backTo pos (starEach es X.env)).any (·.1)=false:=by rfl) :
  PE X (.Call (.Name x p) (e::es) [] pos) (Ca sp iR E t):=by
 intro pins s σ H Q I h
 refine wpAny_Call_Name_kw (lq I hg hm ?_ hdb)
 refine PySem.W.callWith_K (h₀ := X.base) I.ok.mod.O7 hk (b8 (ha pos pins s σ H _ I h) λ us s1 ⟨vs,H1,I1,r,q⟩=>⟨I1.nN,?_⟩) he hpl
 exact DZ F hr hb hd hx I1 r q
theorem Mn {pl:Sem Bool} (he:PE X o ta) (c:LZ X.K C) (hm:Meth X.K C m f) (F:fO X.prog X.w X.K X.mg X.base CX k f fd ps sp) (hr:cL k X.A) (hb:Binds X.K fd ps ds) (hd:Vals iR ds) (hx:Passes CX X E) (ha:PA X (e::es) t)
  (hst:starEach (e::es) X.env=(false,eval e X.env)::starEach es X.env:=by rfl) (hpl:(backTo pos (starEach es X.env)).any (·.1)=false:=by rfl)
  (ht:eval (.Call (.Attribute o m apos) (e::es) [] pos) X.env=(do
   let ov <-eval o X.env
   standAt apos.atName
   let (f,first) <-holding [ov] (getMethod ov m pl)
   callWith pos f first (backTo pos (starEach (e::es) X.env)) (backToKw pos (keywordEach [] X.env))):=by rfl) :
  PE X (.Call (.Attribute o m apos) (e::es) [] pos) (zj C m sp iR E ta t):=by
 intro pins s σ H Q I h
 refine PySem.W.methodCall_KW (pl:=pl) (b8 (he pins s σ H _ I h) λ u s1 ⟨x,H1,I1,rx,a,dx,fs,ex,ea,l,q⟩ => ?_) ht
 subst ex
 obtain rfl:u=Value.ref a:=rx
 refine mH I1 ea c hm l ?_
 refine PySem.W.callWith_K (first:=[.ref a]) (h₀ := X.base) I.ok.mod.O7 hm.kp (b8 (ha pos pins s1 σ H1 _ I1 q) λ us s2 ⟨vs,H2,I2,r,q2⟩=>⟨I2.nN,?_⟩) hst hpl
 exact DZ (us := .ref a::us) (vs := .ref a::vs) F hr hb hd hx I2 (.cons rfl r) q2
theorem Jj {pl:Sem Bool} (he:PE X o ta) (c:LZ X.K C) (hm:Meth X.K C m f) (F:fO X.prog X.w X.K X.mg X.base CX k f fd ps sp) (hr:cL k X.A) (hb:Binds X.K fd ps ds) (hd:Vals iR ds) (hx:Passes CX X E)
  (ht:eval (.Call (.Attribute o m apos) [] [] pos) X.env=(do
   let ov <-eval o X.env
   standAt apos.atName
   let (f,first) <-holding [ov] (getMethod ov m pl)
   callWith pos f first (backTo pos (starEach [] X.env)) (backToKw pos (keywordEach [] X.env))):=by rfl) :
  PE X (.Call (.Attribute o m apos) [] [] pos) (zj C m sp iR E ta B9):=by
 intro pins s σ H Q I h
 refine PySem.W.methodCall_KW (pl:=pl) (b8 (he pins s σ H _ I h) λ u s1 ⟨x,H1,I1,rx,a,dx,fs,ex,ea,l,q⟩ => ?_) ht
 subst ex
 obtain rfl:u=Value.ref a:=rx
 refine mH I1 ea c hm l ?_
 exact PySem.W.callWith_K0 (first:=[.ref a]) I1.nN hm.kp (DZ (us:=[.ref a]) (vs:=[.ref a]) F hr hb hd hx I1 (.cons rfl .nil) q)
structure Mk (K:PySem.W.Frag) (C f:Addr):Prop where
 makes:PySem.W.makesIn K C=true
 init:PySem.W.findIn K (.ref C) "__init__" = some (some (.ref f))
 fn:PySem.W.isFn K (.ref f)=true
 kp:PySem.W.keepIn K (.ref C)=true
theorem Cb {pins:List (Addr×Obj)} {σ : St} {H:Hp} {s:Shared} {Q:VK} {us:List Value} {vs:List V} (M:Mk X.K C f) (F:fO X.prog X.w X.K X.mg X.base CX k f fd ps sp) (hr:cL (k+1) X.A) (hb:Binds X.K fd ps ds) (hd:Vals iR ds)
  (hx:Passes CX X E) (I:Inv X pins σ H s) (r:Vals vs us)
  (h : ∀ x dx,H x=none->H dx=none->dx≠x->sp (.ref x::(vs++iR)) (upd (upd H dx (.own x)) x (.ins C dx [])) (λ v H2=>v = .aH/\Q (.ref x) H2) E) :
  wpAny (model X.prog X.w) X.A (call (.ref C) us) (EP X pins σ Q) X.xe s:=by
 have hq:=h (s.heap.objs.size+1) s.heap.objs.size (I.hok.fresh (Nat.le_succ _)) (I.hok.fresh (Nat.le_refl _)) (Nat.ne_of_lt (Nat.lt_succ_self _))
 have I2:=Inv.made (C:=C) I
 have r2:Vals (V.ref (s.heap.objs.size+1)::(vs++iR)) (Value.ref (s.heap.objs.size+1)::(us++ds)) := .cons rfl (r.append hd)
 have hl:(Value.ref (s.heap.objs.size+1)::us++ds).length=ps.length:=by
  have e:=r2.length
  rw [F.len _ _ _ _ hq] at e
  exact e.symm
 refine wpAny_call (Ji (f:=f) I.nN M.makes M.init (beq_iff_eq.mp M.fn) (codeAny_mono (F.run _ X.stack _ _ ⟨Value.ref (s.heap.objs.size+1)::us,[]⟩ (Value.ref (s.heap.objs.size+1)::(us++ds)) _ _ E (hr.make C us [])
  (I2.Pu.make C us []) (hb _ (Value.ref (s.heap.objs.size+1)::us) I2.nN hl) r2 hq) λ r s' hq' => ?_))
 cases r with
 | error e=>exact hx pins σ _ _ e s' I2 hq'
 | ok fl =>
   cases fl with
   | ret u =>
     obtain ⟨v,H',I3,rv,ev,q3⟩:=I2.after hq'
     subst ev
     exact ⟨rv,⟨V.ref (s.heap.objs.size+1),H',I3,rfl,q3⟩⟩
   | next=>exact False.elim hq'
   | brk=>exact False.elim hq'
   | cont=>exact False.elim hq'
theorem Mp (M:Mk X.K C f) (F:fO X.prog X.w X.K X.mg X.base CX k f fd ps sp) (hr:cL (k+1) X.A) (hg:Gl X x) (hm:X.mg x=some (.ref C)) (hb:Binds X.K fd ps ds) (hd:Vals iR ds) (hx:Passes CX X E)
  (ha:PA X (e::es) t) (hdb:(x == ("__debug__" : Str))=false:=by decide) (he:starEach (e::es) X.env=(false,eval e X.env)::starEach es X.env:=by rfl) (hpl:(backTo pos (starEach es X.env)).any (·.1)=false:=by rfl) :
  PE X (.Call (.Name x p) (e::es) [] pos) (zk C sp iR E t):=by
 intro pins s σ H Q I h
 refine wpAny_Call_Name_kw (lq I hg hm ?_ hdb)
 refine PySem.W.callWith_K (h₀ := X.base) I.ok.mod.O7 M.kp (b8 (ha pos pins s σ H _ I h) λ us s1 ⟨vs,H1,I1,r,q⟩=>⟨I1.nN,?_⟩) he hpl
 exact Cb M F hr hb hd hx I1 r q
theorem Jk (M:Mk X.K C f) (F:fO X.prog X.w X.K X.mg X.base CX k f fd ps sp) (hr:cL (k+1) X.A) (hg:Gl X x) (hm:X.mg x=some (.ref C)) (hb:Binds X.K fd ps ds) (hd:Vals iR ds) (hx:Passes CX X E)
  (hdb:(x == ("__debug__" : Str))=false:=by decide):PE X (.Call (.Name x p) [] [] pos) (zk C sp iR E B9):=by
 intro pins s σ H Q I h
 refine wpAny_Call_Name_kw (lq I hg hm ?_ hdb)
 exact PySem.W.callWith_K0 I.nN M.kp (Cb (us:=[]) M F hr hb hd hx I .nil h)
end
section
variable {X:Cx} {CX:GY} {k:Nat} {f C:Addr} {fd:FuncData} {ps ks:List Str} {sp:Sp} {E:XK} {x m:Str} {p pos apos kpos:Pos} {e o:Expr} {es:List Expr} {kws:List Keyword} {te ta:TE} {t tk:TA} {nm:Option Str}
variable {g:List Value->List Value->List Value} {gV:List V->List V->List V}
end
structure aA (N P:List Str) (sc:Scope):Prop where
 kind:sc.kind = .function
 co:sc.isCoroutine=false
 gen:sc.isGenerator=false
 nd:N.Nodup
 pre:N.take P.length=P
 par : ∀ x∈P,sc.names.lookup x=some .local\/sc.names.lookup x=some .cell
 Pw : ∀ y∈sc.names,y.2 ≠ .free
theorem zl {kindOf:Str->Option NameKind} {x:Str} : ∀ {binds:List (Str×Value)} {m:Str->Option Value},(∀ v,(x,v) ∉ binds)->bindL kindOf binds m x=m x
 | [],_,_=>rfl
 | (n,v)::r,m,h=>by
   unfold bindL
   rw [zl λ w hw=>h w (List.mem_cons_of_mem _ hw)]
   split
   ·have:x≠n:=by rintro rfl;exact h v List.mem_cons_self
    simp [this]
   ·rfl
theorem zm {kindOf:Str->Option NameKind} {x:Str} : ∀ {binds:List (Str×Value)} {m:Str->Option Value},(∀ v,(x,v) ∉ binds)->bindC kindOf binds m x=m x
 | [],_,_=>rfl
 | (n,v)::r,m,h=>by
   unfold bindC
   rw [zm λ w hw=>h w (List.mem_cons_of_mem _ hw)]
   split
   ·rfl
   ·have:x≠n:=by rintro rfl;exact h v List.mem_cons_self
    simp [this]
theorem zo {kindOf:Str->Option NameKind} {x:Str} {v:Value} : ∀ {P:List Str} {vs:List Value} {i:Nat} {m:Str->Option Value},P.Nodup->P[i]? = some x->vs[i]? = some v->kindOf x=some .local →
  bindL kindOf (P.zip vs) m x=some v
 | [],_,_,_,_,h,_,_=>by simp at h
 | _::_,[],_,_,_,_,h,_=>by simp at h
 | p::P,w::vs,0,m,nd,h1,h2,hk=>by
   simp at h1 h2;subst h1;subst h2
   show bindL kindOf ((p,w)::P.zip vs) m p=_
   unfold bindL
   rw [zl λ v hv=>(List.nodup_cons.mp nd).1 (List.of_mem_zip hv).1,if_pos hk]
   simp
 | p::P,w::vs,i+1,m,nd,h1,h2,hk=>by
   show bindL kindOf ((p,w)::P.zip vs) m x=_
   unfold bindL
   exact zo (i:=i) (List.nodup_cons.mp nd).2 (by simpa using h1) (by simpa using h2) hk
theorem zp {kindOf:Str->Option NameKind} {x:Str} {v:Value} : ∀ {P:List Str} {vs:List Value} {i:Nat} {m:Str->Option Value},P.Nodup->P[i]? = some x->vs[i]? = some v->kindOf x≠some .local →
  bindC kindOf (P.zip vs) m x=some v
 | [],_,_,_,_,h,_,_=>by simp at h
 | _::_,[],_,_,_,_,h,_=>by simp at h
 | p::P,w::vs,0,m,nd,h1,h2,hk=>by
   simp at h1 h2;subst h1;subst h2
   show bindC kindOf ((p,w)::P.zip vs) m p=_
   unfold bindC
   rw [zm λ v hv=>(List.nodup_cons.mp nd).1 (List.of_mem_zip hv).1,if_neg hk]
   simp
 | p::P,w::vs,i+1,m,nd,h1,h2,hk=>by
   show bindC kindOf ((p,w)::P.zip vs) m x=_
   unfold bindC
   exact zp (i:=i) (List.nodup_cons.mp nd).2 (by simpa using h1) (by simpa using h2) hk
def start (N:List Str) (vs:List V):St:=vs.map some++List.replicate (N.length - vs.length) none
def uo (CX:GY) (P:Program) (w:World) (K:PySem.W.Frag) (mg:Str->Option Value) (base:Heap) (N:List Str) (qual:Str) (scope:Scope) (f:Addr) (cd:Value) (A:Around) (outer:List Env) (s:Shared) (H:Hp) (E:XK):Cx where
 prog:=P
 w:=w
 K:=K
 mg:=mg
 base:=base
 A:=A.deeper (envOfC qual scope s.heap.objs.size f cd)
 N:=N
 s₀ := s
 H₀ := H
 env:=envOfC qual scope s.heap.objs.size f cd
 outer:=outer
 stack:=envOfC qual scope s.heap.objs.size f cd::outer
 ex:=[]
 calm:=true
 fn:=λ _=>true
 pn:=[]
 xe:=λ e s'=>wpAny (model P w) (A.deeper (envOfC qual scope s.heap.objs.size f cd)) (leaving (envOfC qual scope s.heap.objs.size f cd) e) (λ _ s''=>CX outer H s E e s'') (λ e' s''=>CX outer H s E e' s'') s'
theorem Cc {sc:Scope} {n:Nat} {x:Str} (h:sc.names.lookup x=some .cell) : ∃ c,(cellsFrom n sc.names []).lookup x=some c:=by
 have q:=PySem.W.cellsFrom_some sc.names n [] (.inl h)
 exact Option.isSome_iff_exists.mp q
theorem GZ {CX:GY} {P:Program} {w:World} {K:PySem.W.Frag} {mg:Str->Option Value} {base:Heap} {N ps:List Str} {qual:Str} {scope:Scope} {f:Addr} {cd:Value} {A:Around} {outer:List Env} {s s1:Shared} {H:Hp} {E:XK} {us:List Value} {vs:List V}
  (S:aA N ps scope) (hd:A.handled=none) (e0:DY P w K mg base A outer s H) (hl:vs.length=ps.length) (r:Vals vs us)
  (x:InCallC s s.heap.objs.size (bindL (envOfC qual scope s.heap.objs.size f cd).kindOf (ps.zip us) λ _=>none) (cellsFrom (s.heap.objs.size+1) scope.names []) (bindC (envOfC qual scope s.heap.objs.size f cd).kindOf (ps.zip us) λ _=>none) s1) :
  Inv (uo CX P w K mg base N qual scope f cd A outer s H E) [] (start N vs) H s1:=by
 have hpl:ps.length<=N.length:=by have:=congrArg List.length S.pre;rw [List.length_take] at this;omega
 obtain ⟨h1,tk,rfl,hk⟩:=x.done
 have R0 : ∀ b:Addr,b ∉ (uo CX P w K mg base N qual scope f cd A outer s H E).ex:=λ b z=>absurd (show b∈([]:List Addr) from z) (by simp)
 refine ⟨⟨e0.mod,S.kind,rfl,rfl,Nat.le_refl _,λ y z c h1 h2 => ?_,λ y hy => ?_,λ y c _ h => ?_,λ _=>hd,Around.frames_deeper e0.frames,.inr ⟨rfl,rfl⟩,λ b z=>absurd z (R0 b),e0.bs,e0.IJ,λ b _ _=>R0 b,λ b z=>absurd z (R0 b),e0.nM,e0.Mc⟩,
  rfl,e0.bare,Un.kept hk,⟨_,x.toInCall.ns,λ i y v h1 h2 h3 => ?_⟩,λ y c h=>⟨_,x.cell y c h⟩,e0.hok.fresh (Nat.le_refl _),λ y c h => ?_,λ p hp=>absurd (show p∈([]:List (Addr×Obj)) from hp) (by simp),e0.hok.kept hk,?_⟩
 ·exact name_of_addr x.apart (PySem.mem_of_lookup h1) (PySem.mem_of_lookup h2)
 ·have hy:scope.names.lookup y=some .cell\/scope.names.lookup y=some .free:=hy
  rcases hy with hy | hy
  ·exact Cc hy
  ·exact absurd rfl (S.Pw _ (PySem.mem_of_lookup hy))
 ·exact Nat.le_of_lt (x.above y c (PySem.mem_of_lookup h))
 ·have hi:i < vs.length:=by
   unfold start at h2
   by_cases hi:i < vs.length
   ·exact hi
   ·rw [List.getElem?_append_right (by simpa using hi)] at h2
    rw [List.getElem?_replicate] at h2
    split at h2 <;> cases h2
  have ha:vs[i]? = some v:=by
   unfold start at h2
   rw [List.getElem?_append_left (by simpa using hi),List.getElem?_map] at h2
   cases e:vs[i]? with
   | none=>rw [e] at h2;cases h2
   | some a=>rw [e] at h2;cases h2;rfl
  obtain ⟨u,hu,rv⟩:=r.get ha
  have hp:ps[i]? = some y:=by
   rw [<-S.pre,List.getElem?_take_of_lt (by omega)];exact h1
  have ndP:ps.Nodup:=by rw [<-S.pre];exact S.nd.sublist (List.take_sublist _ _)
  refine ⟨u,rv,?_⟩
  rcases S.par y (List.mem_of_getElem? hp) with k | k
  ·exact .inl ⟨k,zo ndP hp hu k⟩
  ·obtain ⟨c,e⟩:=Cc (n:=s.heap.objs.size+1) k
   refine .inr ⟨.inl k,c,e,?_⟩
   have q:=x.cell y c e
   rw [zp ndP hp hu (by show scope.names.lookup y≠_;rw [k];decide)] at q
   exact q
 ·exact e0.hok.fresh (Nat.le_of_lt (x.above y c (PySem.mem_of_lookup h)))
 ·unfold start
  show _=N.length
  rw [List.length_append,List.length_map,List.length_replicate]
  omega
theorem zq {CX:GY} {P:Program} {w:World} {K:PySem.W.Frag} {mg:Str->Option Value} {base:Heap} {k:Nat} {f:Addr} {name qual:Str} {params:Arguments} {body:List Stmt} {scope:Scope} {dV kV doc pm cdv ct oc:Value} {an od:Option Addr}
  {osl:Array (Option Value)} {N ps:List Str} {sp:Sp} (lk:K.lookup f=some ⟨oc,od,.func (PySem.W.fnOf name qual params body scope dV kV doc pm an cdv ct),osl⟩) (hcd:PySem.W.codeIn K cdv qual=true) (S:aA N ps scope)
  (len : ∀ vs H Q E,sp vs H Q E->vs.length=ps.length)
  (hbody : ∀ (A:Around) (outer:List Env) (s:Shared) (H:Hp) (vs:List V) (Q:VK) (E:XK),cL k (A.deeper (envOfC qual scope s.heap.objs.size f cdv))->sp vs H Q E →
   ∃ t,zg (uo CX P w K mg base N qual scope f cdv A outer s H E) body t/\t { nx:=λ _ H'=>Q .aH H',rt:=Q } (start N vs) H) :
  fO P w K mg base CX (k+1) f (PySem.W.fnOf name qual params body scope dV kV doc pm an cdv ct) ps sp:=by
 refine ⟨len,λ A outer s H args us vs Q E hr e0 hb r DL => ?_⟩
 have hl:=len _ _ _ _ DL
 have KX:K.In s.heap:=e0.mod.O7.keeps λ b o e=>(e0.bs b o e).1
 have lim:s.heap.NoLimit:=e0.mod.nolimit.keeps λ b o e=>(e0.bs b o e).1
 have hkind : ∀ y∈ps.zip us,scope.names.lookup y.1=some .local\/(scope.names.lookup y.1=some .cell/\((cellsFrom (s.heap.objs.size+1) scope.names []).lookup y.1).isSome=true):=λ ⟨n,v⟩ hy=>by
  rcases S.par n (List.of_mem_zip hy).1 with q | q
  ·exact .inl q
  ·exact .inr ⟨q,PySem.W.cellsFrom_some _ _ _ (.inl q)⟩
 refine codeAny_call_function hr.depth (KX _ _ lk) rfl S.co S.gen rfl (PySem.W.codeRec_of KX hcd) (hb _ _ _ _ ?_)
 refine wpAny_newFunctionEnv_cells S.kind hkind λ env he s1 x => ?_
 subst he
 refine ⟨lim.keeps x.toInCall.keep,codeAny_func ?_⟩
 obtain ⟨t,ht,hq⟩:=hbody A outer s H vs Q E (hr.deeper _) DL
 have I:Inv (uo CX P w K mg base N qual scope f cdv A outer s H E) [] (start N vs) H s1:=GZ S hr.hd e0 hl r x
 refine wpAny_mono (ht [] s1 (start N vs) H _ I hq) (λ fl s' hs => ?_) λ e s' hs=>hs
 have fin : ∀ {σ':St} {H':Hp} {v:V} {u:Value},Inv (uo CX P w K mg base N qual scope f cdv A outer s H E) [] σ' H' s'->RelV v u->Q v H'->CE outer P w H s Q u s' :=
  fun {σ' H' v u} J rv q=>⟨v,H',J.os,J.bare,J.base,J.hok,rv,q⟩
 cases fl with
 | ret u =>
   obtain ⟨v,σ',H',J,rv,q⟩:=hs
   exact fin J rv q
 | next =>
   obtain ⟨σ',H',J,q⟩:=hs
   exact fin (v:=V.aH) (u:=Value.none) J rfl q
 | brk =>
   obtain ⟨_,_,_,q⟩:=hs
   exact False.elim q
 | cont =>
   obtain ⟨_,_,_,q⟩:=hs
   exact False.elim q
end L2
namespace L2
open PySem PySem.Spec PyProof.Rows
section
variable {X:Cx} {x:Str} {p pos:Pos} {e:Expr} {es:List Expr} {t:TA} {id T:String} {r:List V->Hp->VK->Prop}
def R1 (r:List V->Hp->VK->Prop) (t:TA):TE:=fun σ H Q=>t σ H λ vs H1=>r vs H1 Q
theorem aL (hc:jZ X (.builtin id) r) (hg:Gl X x) (hm:X.mg x=none) (hv:bootBuiltins x=some (.builtin id)) (ha:PA X (e::es) t) (hn:x ≠ "__name__" := by decide) (hdb:(x == ("__debug__" : Str))=false:=by decide)
  (he:starEach (e::es) X.env=(false,eval e X.env)::starEach es X.env:=by rfl) (hpl:(backTo pos (starEach es X.env)).any (·.1)=false:=by rfl):PE X (.Call (.Name x p) (e::es) [] pos) (R1 r t):=by
 intro pins s σ H Q I h
 refine wpAny_Call_Name_kw (zS I hg hm hv ?_ hn hdb)
 exact PyProof.Rows.callWith_builtin1 (b8 (ha pos pins s σ H _ I h) λ us s1 ⟨vs,H1,I1,r1,q1⟩=>hc pins s1 σ H1 vs us Q I1 r1 q1) he hpl
theorem bw (hc:jZ X (.type T) r) (hg:Gl X x) (hm:X.mg x=none) (hv:bootBuiltins x=some (.type T)) (ha:PA X (e::es) t) (hn:x ≠ "__name__" := by decide) (hdb:(x == ("__debug__" : Str))=false:=by decide)
  (he:starEach (e::es) X.env=(false,eval e X.env)::starEach es X.env:=by rfl) (hpl:(backTo pos (starEach es X.env)).any (·.1)=false:=by rfl):PE X (.Call (.Name x p) (e::es) [] pos) (R1 r t):=by
 intro pins s σ H Q I h
 refine wpAny_Call_Name_kw (zS I hg hm hv ?_ hn hdb)
 exact PyProof.Rows.callWith_type1 (b8 (ha pos pins s σ H _ I h) λ us s1 ⟨vs,H1,I1,r1,q1⟩=>hc pins s1 σ H1 vs us Q I1 r1 q1) he hpl
end
end L2
namespace L2
open PySem PySem.Spec PyProof.Rows
section
variable {κ : Type} [DecidableEq κ]
def bA (kvs:List (κ × V)) (k : κ):Option V:=(kvs.find? λ kv=>decide (kv.1=k)).map (·.2)
def putK (kvs:List (κ × V)) (k : κ) (v:V):List (κ × V) :=
 if (kvs.any λ kv=>decide (kv.1=k))=true then kvs.map (λ kv=>if kv.1=k then (kv.1,v) else kv) else kvs++[(k,v)]
def bz (kvs:List (κ × V)) (k : κ):List (κ × V):=kvs.filter λ kv=>decide (kv.1≠k)
theorem eG {p : κ × V} {r:List (κ × V)} {k : κ} (e:p.1=k):bA (p::r) k=some p.2:=by simp [bA,List.find?_cons,e]
theorem cP {p : κ × V} {r:List (κ × V)} {k : κ} (e : ¬ p.1=k):bA (p::r) k=bA r k:=by simp [bA,List.find?_cons,e]
theorem fP (k : κ) : ∀ kvs:List (κ × V),(kvs.any λ kv=>decide (kv.1=k))=(bA kvs k).isSome
 | []=>rfl
 | p::r=>by
   rw [List.any_cons]
   by_cases e:p.1=k
   ·simp only [eG e,decide_eq_true e,Bool.true_or,Option.isSome_some]
   ·rw [cP e,decide_eq_false e,Bool.false_or];exact fP k r
theorem rj (kvs:List (κ × V)) (k : κ) (v:V):(putK kvs k v).length<=kvs.length+1:=by
 unfold putK
 split
 ·rw [List.length_map];omega
 ·rw [List.length_append,List.length_cons,List.length_nil];omega
theorem iO.gx {o:Option V} {u:Option Value} (r:iO o u):o.isSome=u.isSome:=by
 cases o with
 | none=>cases u with
   | none=>rfl
   | some _=>exact (show False from r).elim
 | some _=>cases u with
   | none=>exact (show False from r).elim
   | some _=>rfl
theorem iO.getD {o:Option V} {u:Option Value} {d:V} {d':Value} (r:iO o u) (rd:RelV d d'):RelV (o.getD d) (u.getD d'):=by
 cases o with
 | none=>cases u with
   | none=>exact rd
   | some _=>exact (show False from r).elim
 | some _=>cases u with
   | none=>exact (show False from r).elim
   | some _=>exact r
theorem KV.val {kvs:List (κ × V)} {vs:List (κ × Value)} (r:KV kvs vs) (k : κ):iO (bA kvs k) (valueAt vs k):=by
 unfold KV at r
 induction r with
 | nil=>exact True.intro
 | @cons p q ps qs h t ih =>
   obtain ⟨h1,h2⟩:=h
   by_cases e:p.1=k
   ·have e':q.1=k:=h1.symm.trans e
    have b:valueAt (q::qs) k=some q.2:=by simp [valueAt,List.find?_cons,e']
    rw [eG e,b];exact h2
   ·have e' : ¬ q.1=k:=λ z=>e (h1.trans z)
    have b:valueAt (q::qs) k=valueAt qs k:=by simp [valueAt,List.find?_cons,e']
    rw [cP e,b];exact ih
theorem KV.any {kvs:List (κ × V)} {vs:List (κ × Value)} (r:KV kvs vs) (k : κ):(kvs.any λ kv=>decide (kv.1=k))=vs.any λ kv=>decide (kv.1=k):=by
 unfold KV at r
 induction r with
 | nil=>rfl
 | cons h t ih=>rw [List.any_cons,List.any_cons,ih,h.1]
theorem KV.repl {kvs:List (κ × V)} {vs:List (κ × Value)} (r:KV kvs vs) (k : κ) {y:V} {u:Value} (ry:RelV y u) :
  KV (kvs.map λ kv=>if kv.1=k then (kv.1,y) else kv) (vs.map λ kv=>if kv.1=k then (kv.1,u) else kv):=by
 unfold KV at r ⊢
 induction r with
 | nil=>exact .nil
 | @cons p q ps qs h t ih =>
   rw [List.map_cons,List.map_cons]
   refine .cons ?_ ih
   obtain ⟨h1,h2⟩:=h
   by_cases e:p.1=k
   ·rw [if_pos e,if_pos (h1.symm.trans e)];exact ⟨h1,ry⟩
   ·rw [if_neg e,if_neg (λ z=>e (h1.trans z))];exact ⟨h1,h2⟩
theorem KV.put {kvs:List (κ × V)} {vs:List (κ × Value)} (r:KV kvs vs) (k : κ) {y:V} {u:Value} (ry:RelV y u):KV (putK kvs k y) (stored vs k u):=by
 unfold putK stored
 rw [r.any k]
 by_cases e:(vs.any λ kv=>decide (kv.1=k))=true
 ·rw [if_pos e,if_pos e];exact r.repl k ry
 ·rw [if_neg e,if_neg e];exact Paired.snoc r ⟨rfl,ry⟩
theorem KV.drop {kvs:List (κ × V)} {vs:List (κ × Value)} (r:KV kvs vs) (k : κ):KV (bz kvs k) (without vs k):=by
 unfold KV at r ⊢
 unfold bz without
 induction r with
 | nil=>exact .nil
 | @cons p q ps qs h t ih =>
   obtain ⟨h1,h2⟩:=h
   rw [List.filter_cons,List.filter_cons]
   by_cases e:p.1=k
   ·have a : ¬ decide (p.1≠k)=true:=by simp [e]
    have b : ¬ decide (q.1≠k)=true:=by simp [h1.symm.trans e]
    rw [if_neg a,if_neg b];exact ih
   ·have e' : ¬ q.1=k:=λ z=>e (h1.trans z)
    have a:decide (p.1≠k)=true:=by simp [e]
    have b:decide (q.1≠k)=true:=by simp [e']
    rw [if_pos a,if_pos b];exact .cons ⟨h1,h2⟩ ih
theorem KV.keys {kvs:List (κ × V)} {vs:List (κ × Value)} (r:KV kvs vs):kvs.map (·.1)=vs.map (·.1):=by
 unfold KV at r
 induction r with
 | nil=>rfl
 | cons h t ih=>rw [List.map_cons,List.map_cons,ih,h.1]
theorem KV.length {kvs:List (κ × V)} {vs:List (κ × Value)} (r:KV kvs vs):kvs.length=vs.length:=Paired.length r
theorem nU (kvs:List (κ × V)) (k : κ):(bz kvs k).length<=kvs.length:=List.length_filter_le _ _
end
theorem uq {P:Program} {w:World} {k:Key} {u:Value} (r:RelV (kV k) u):(bC P w).is k u=true:=by
 cases k with
 | inl i=>obtain ⟨t,e⟩:=(show ∃ t,u=Value.int i t from r);subst e;exact B5 P w i t
 | inr x=>obtain ⟨t,e⟩:=(show ∃ t,u=Value.str x t from r);subst e;exact B6 P w x t
theorem zu {P:Program} {w:World} : ∀ {ks:List Key} {us:List Value},Vals (ks.map kV) us->ItemsAre (bC P w) ks us
 | [],_,r=>by rw [List.map_nil] at r;cases r;exact .nil
 | k::ks,_,r=>by
   rw [List.map_cons] at r
   cases r with
   | cons h t=>exact .cons (uq h) (zu t)
abbrev KT (H:Hp):List (List Key×V)->List (List Key×Addr×Value)->Prop:=Paired λ p q=>p.1=q.1/\H q.2.1=some (.tup (p.1.map kV))/\RelV p.2 q.2.2
theorem KT.val {H:Hp} {kvs:List (List Key×V)} {xs:List (List Key×Addr×Value)} (r:KT H kvs xs) (k:List Key):iO (bA kvs k) ((atKey xs k).map (·.2)):=by
 induction r with
 | nil=>exact True.intro
 | @cons p q ps qs h t ih =>
   obtain ⟨h1,_,h2⟩:=h
   by_cases e:p.1=k
   ·have e':q.1=k:=h1.symm.trans e
    have b:atKey (q::qs) k=some q.2:=by simp [atKey,List.find?_cons,e']
    rw [eG e,b];exact h2
   ·have e' : ¬ q.1=k:=λ z=>e (h1.trans z)
    have b:atKey (q::qs) k=atKey qs k:=by simp [atKey,List.find?_cons,e']
    rw [cP e,b];exact ih
theorem KT.repl {H:Hp} {kvs:List (List Key×V)} {xs:List (List Key×Addr×Value)} (r:KT H kvs xs) (k:List Key) {y:V} {u:Value} (ry:RelV y u) :
  KT H (kvs.map λ kv=>if kv.1=k then (kv.1,y) else kv) (xs.map (putAt k u)):=by
 induction r with
 | nil=>exact .nil
 | @cons p q ps qs h t ih =>
   rw [List.map_cons,List.map_cons]
   refine .cons ?_ ih
   obtain ⟨h1,h2,h3⟩:=h
   unfold putAt
   by_cases e:p.1=k
   ·rw [if_pos e,if_pos (h1.symm.trans e)];exact ⟨h1,h2,ry⟩
   ·rw [if_neg e,if_neg (λ z=>e (h1.trans z))];exact ⟨h1,h2,h3⟩
theorem KT.put {H:Hp} {kvs:List (List Key×V)} {xs:List (List Key×Addr×Value)} (r:KT H kvs xs) (k:List Key) {b:Addr} {y:V} {u:Value} (hb:H b=some (.tup (k.map kV))) (ry:RelV y u) :
  KT H (putK kvs k y) (storedH xs k b u):=by
 have e:(kvs.any λ kv=>decide (kv.1=k))=(atKey xs k).isSome:=by
  rw [fP,(r.val k).gx,Option.isSome_map]
 unfold putK storedH
 rw [e]
 by_cases q:(atKey xs k).isSome=true
 ·rw [if_pos q,if_pos q];exact r.repl k ry
 ·rw [if_neg q,if_neg q];exact Paired.snoc r ⟨rfl,hb,ry⟩
theorem KT.keeps {H H':Hp} {kvs:List (List Key×V)} {xs:List (List Key×Addr×Value)} (r:KT H kvs xs) (ht : ∀ b ys,H b=some (.tup ys)->H' b=some (.tup ys)):KT H' kvs xs :=
 Paired.O5 r λ _ _ z=>⟨z.1,ht _ _ z.2.1,z.2.2⟩
section
variable {P:Program} {w:World} {H:Hp} {h:Heap} {a:Addr}
theorem Og {u:HO} (ok:jJ P w H h) (e:Rd H a u):bI P w H h a u:=e.ok ok
theorem ur {kvs:List (Key×V)} (ok:jJ P w H h) (e:Rd H a (.dK kvs)):kvs.length<=sizeLine/\(a == sysModules)=false ∧ ∃ vs,KV kvs vs/\h.DictOf (bC P w) a vs :=
 show bI P w H h a (.dK kvs) from Og ok e
theorem Jl {kvs:List (Key×V)} (ok:jJ P w H h) (e:H a=some (.dK kvs)):kvs.length<=sizeLine/\(a == sysModules)=false ∧ ∃ vs,KV kvs vs/\h.DictOf (bC P w) a vs:=ur ok (.inl e)
theorem pQ {ks:List Key} (ok:jJ P w H h) (e:H a=some (.tup (ks.map kV))):(tupleKind (bC P w)).is h ks a:=by
 obtain ⟨_,its,r,o,h1,h2,n,h3⟩:=(show bI P w H h a (.tup (ks.map kV)) from ok a _ e)
 exact ⟨o,its.toArray,n,h1,h2,h3,by simpa using zu r⟩
theorem zv {kvs:List (List Key×V)} (ok:jJ P w H h) (e:Rd H a (.dT kvs)):kvs.length<=sizeLine/\(a == sysModules)=false ∧
  ∃ xs,KT H kvs xs/\h.DictOfH (tupleKind (bC P w)) a xs:=by
 obtain ⟨z,y,xs,r,o,es,ep,h1,h2,h3,h4,h5⟩:=(show bI P w H h a (.dT kvs) from Og ok e)
 refine ⟨z,y,xs,r,o,es,ep,h1,h2,h3,h4,λ x hx => ?_,h5⟩
 have all : ∀ {l:List (List Key×V)} {m:List (List Key×Addr×Value)},KT H l m->∀ x∈m,(tupleKind (bC P w)).is h x.1 x.2.1:=by
  intro l m q
  induction q with
  | nil=>intro x hx;exact nomatch hx
  | @cons p q ps qs hq t ih =>
    intro x hx
    rcases List.mem_cons.mp hx with e | hx
    ·subst e
     exact pQ ok (by rw [<-hq.1];exact hq.2.1)
    ·exact ih x hx
 exact all r x hx
theorem Jm {kvs:List (List Key×V)} (ok:jJ P w H h) (e:H a=some (.dT kvs)):kvs.length<=sizeLine/\(a == sysModules)=false ∧
  ∃ xs,KT H kvs xs/\h.DictOfH (tupleKind (bC P w)) a xs:=zv ok (.inl e)
end
def fV (H:Hp) (a:Addr) (y:V) (r:Option V):Prop :=
 (∃ kvs k,Rd H a (.dK kvs)/\y=kV k/\r=bA kvs k) ∨ ∃ kvs k b,Rd H a (.dT kvs)/\y = .ref b/\H b=some (.tup (k.map kV))/\r=bA kvs k
def mJ (H:Hp) (a:Addr) (y v:V) (H':Hp):Prop :=
 (∃ kvs k,H a=some (.dK kvs)/\y=kV k/\kvs.length < sizeLine/\H' = upd H a (.dK (putK kvs k v))) ∨
 ∃ kvs k b,H a=some (.dT kvs)/\y = .ref b/\H b=some (.tup (k.map kV))/\kvs.length < sizeLine/\H' = upd H a (.dT (putK kvs k v))
theorem fV.k {H:Hp} {a:Addr} {kvs:List (Key×V)} {k:Key} (e:H a=some (.dK kvs)):fV H a (kV k) (bA kvs k) := .inl ⟨kvs,k,.inl e,rfl,rfl⟩
theorem fV.t {H:Hp} {a b:Addr} {kvs:List (List Key×V)} {k:List Key} (e:H a=some (.dT kvs)) (eb:H b=some (.tup (k.map kV))):fV H a (.ref b) (bA kvs k) := .inr ⟨kvs,k,b,.inl e,rfl,eb,rfl⟩
theorem mJ.k {H:Hp} {a:Addr} {kvs:List (Key×V)} {k:Key} {v:V} (e:H a=some (.dK kvs)) (hl:kvs.length < sizeLine):mJ H a (kV k) v (upd H a (.dK (putK kvs k v))) := .inl ⟨kvs,k,e,rfl,hl,rfl⟩
theorem mJ.t {H:Hp} {a b:Addr} {kvs:List (List Key×V)} {k:List Key} {v:V} (e:H a=some (.dT kvs)) (eb:H b=some (.tup (k.map kV))) (hl:kvs.length < sizeLine) :
  mJ H a (.ref b) v (upd H a (.dT (putK kvs k v))) := .inr ⟨kvs,k,b,e,rfl,eb,hl,rfl⟩
section
variable {X:Cx} {pins:List (Addr×Obj)} {σ : St} {H:Hp} {s:Shared} {a:Addr} {y v:V} {u r:Value} {o:Option V} {A:Around} {E:Value->Shared->Prop}
theorem Inv.big (I:Inv X pins σ H s):sysModules < s.heap.objs.size:=by
 have h:mainGlobals < s.heap.objs.size:=(I.mod.glob.keeps I.bk).lt
 exact Nat.lt_trans (by decide) h
theorem G0 {Q:Value->Shared->Prop} (hu:A.units+1 < cLine) (I:Inv X pins σ H s) (g:fV H a y (some v)) (ry:RelV y u) (h : ∀ w' s',Inv X pins σ H s'->RelV v w'->Q w' s') :
  wpAny (model X.prog X.w) A (getItem (.ref a) u) Q E s:=by
 rcases g with ⟨kvs,k,e,ey,l⟩ | ⟨kvs,k,b,e,ey,eb,l⟩
 ·subst ey
  obtain ⟨z,hd,vs,rel,dd⟩:=ur I.hok e
  obtain ⟨w',hw,rw'⟩:=iO.some_of (v:=v) (o:=valueAt vs k) (by rw [l];exact rel.val k)
  exact wpAny_getItem_of (uq ry) dd.mapOf hw (h w' _ (I.tok _) rw')
 ·subst ey
  cases (show u=Value.ref b from ry)
  obtain ⟨z,hd,xs,rel,dd⟩:=zv I.hok e
  obtain ⟨w',hw,rw'⟩:=iO.some_of (v:=v) (o:=(atKey xs k).map (·.2)) (by rw [l];exact rel.val k)
  obtain ⟨p,hp,hp2⟩:=Option.map_eq_some_iff.mp hw
  refine wpAny_getItem_heap (tupleKind_room_in1 hu) (pQ I.hok eb) dd hp ?_
  rw [hp2]
  exact h w' _ (I.tok _) rw'
theorem VC {Q:Value->Shared->Prop} (hu:A.units+1 < cLine) (I:Inv X pins σ H s) (g:fV H a y o) (ry:RelV y u) (h : ∀ s',Inv X pins σ H s'->Q (.bool o.isSome) s') :
  wpAny (model X.prog X.w) A (compareOp .In u (.ref a)) Q E s:=by
 rcases g with ⟨kvs,k,e,ey,l⟩ | ⟨kvs,k,b,e,ey,eb,l⟩
 ·subst ey
  obtain ⟨z,hd,vs,rel,dd⟩:=ur I.hok e
  refine wpAny_in_of (uq ry) hd dd.mapOf ?_
  rw [<-(rel.val k).gx,<-l]
  exact h _ (I.tok _)
 ·subst ey
  cases (show u=Value.ref b from ry)
  obtain ⟨z,hd,xs,rel,dd⟩:=zv I.hok e
  refine wpAny_in_heap (tupleKind_room_in1 hu) (pQ I.hok eb) hd dd ?_
  have q:=(rel.val k).gx
  rw [Option.isSome_map] at q
  rw [<-q,<-l]
  exact h _ (I.tok _)
theorem Mq {Q:Value->Shared->Prop} (hu:A.units+1 < cLine) (I:Inv X pins σ H s) (g:fV H a y o) (ry:RelV y u) (h : ∀ s',Inv X pins σ H s'->Q (.bool (!o.isSome)) s') :
  wpAny (model X.prog X.w) A (compareOp .NotIn u (.ref a)) Q E s:=by
 rcases g with ⟨kvs,k,e,ey,l⟩ | ⟨kvs,k,b,e,ey,eb,l⟩
 ·subst ey
  obtain ⟨z,hd,vs,rel,dd⟩:=ur I.hok e
  refine wpAny_notIn_of (uq ry) hd dd.mapOf ?_
  rw [<-(rel.val k).gx,<-l]
  exact h _ (I.tok _)
 ·subst ey
  cases (show u=Value.ref b from ry)
  obtain ⟨z,hd,xs,rel,dd⟩:=zv I.hok e
  refine wpAny_notIn_heap (tupleKind_room_in1 hu) (pQ I.hok eb) hd dd ?_
  have q:=(rel.val k).gx
  rw [Option.isSome_map] at q
  rw [<-q,<-l]
  exact h _ (I.tok _)
theorem nV {h':Heap} {t':Nat} {ob:HO} (I:Inv X pins σ H s) (mu:RI (H a)) (hs:Heap.SameBut a s.heap h') (he : ∃ q,h'.get? a=some q) (new:bI X.prog X.w (upd H a ob) h' a ob) :
  Inv X pins σ (upd H a ob) { s with heap:=h',toks:=t' } :=
 I.write (x:=a) (e:=a) mu (.inl rfl) (λ b q hb z=>(hs.2 b hb).trans z) he new
theorem D0 {P:Program} {w:World} {H':Hp} {h':Heap} {kvs:List (Key×V)} {vs:List (Key×Value)} (z:kvs.length<=sizeLine) (hd:(a == sysModules)=false) (rel:KV kvs vs) (dd:h'.DictOf (bC P w) a vs) :
  bI P w H' h' a (.dK kvs):=⟨z,hd,vs,rel,dd⟩
theorem G1 {H':Hp} {Q:Unit->Shared->Prop} (hu:A.units+1 < cLine) (I:Inv X pins σ H s) (g:mJ H a y v H') (ry:RelV y u) (rv:RelV v r) (h : ∀ s',Inv X pins σ H' s'->Q () s') :
  wpAny (model X.prog X.w) A (setItem (.ref a) u r) Q E s:=by
 rcases g with ⟨kvs,k,e,ey,l,eH⟩ | ⟨kvs,k,b,e,ey,eb,l,eH⟩
 ·subst ey eH
  obtain ⟨z,hd,vs,rel,dd⟩:=Jl I.hok e
  have hz:vs.length<=sizeLine:=by rw [<-rel.length];exact z
  have hl:(putK kvs k v).length<=sizeLine:=by have:=rj kvs k v;omega
  refine wpAny_setItem_pairs (hsz:=hz) (uq ry) dd λ h' L0 hs=>h _ ?_
  have he : ∃ q,h'.get? a=some q:=let ⟨q,_,_,hq,_⟩:=L0; ⟨q,hq⟩
  exact nV I (by rw [e];exact True.intro) hs he (D0 hl hd (rel.put k rv) L0)
 ·subst ey eH
  cases (show u=Value.ref b from ry)
  obtain ⟨z,hd,xs,rel,dd⟩:=Jm I.hok e
  have hz:xs.length<=sizeLine:=by rw [<-Paired.length rel];exact z
  have hl:(putK kvs k v).length<=sizeLine:=by have:=rj kvs k v;omega
  refine wpAny_setItem_heap (hsz:=hz) (tupleKind_room_in1 hu) (pQ I.hok eb) dd λ h' L0 hs=>h _ ?_
  obtain ⟨q,es,ep,hq,h2,h3,h4,_,h5⟩:=L0
  refine nV I (by rw [e];exact True.intro) hs ⟨q,hq⟩ ⟨hl,hd,_,(rel.put k eb rv).keeps λ c ys ec => ?_,q,es,ep,hq,h2,h3,h4,h5⟩
  rw [bN (Od ec e (λ z=>nomatch z))]
  exact ec
end
section
variable {X:Cx} {pins:List (Addr×Obj)} {σ : St} {H:Hp} {s:Shared} {a:Addr} {kvs:List (Key×V)} {k:Key} {u:Value} {A:Around} {E:Value->Shared->Prop}
theorem Rv {Q:Unit->Shared->Prop} (I:Inv X pins σ H s) (e:H a=some (.dK kvs)) (ry:RelV (kV k) u) (l:(bA kvs k).isSome=true) (h : ∀ s',Inv X pins σ (upd H a (.dK (bz kvs k))) s'->Q () s') :
  wpAny (model X.prog X.w) A (delItem (.ref a) u) Q E s:=by
 obtain ⟨z,hd,vs,rel,dd⟩:=Jl I.hok e
 refine wpAny_delItem_slot dd.typeIs (by decide) PySem.F.slot_dict_delitem
  (call_meetsIn PySem.F.slot_dict_delitem dd.typeIs PySem.F.entry_dict_delitem (PySem.F.args_dict_delitem_2 _ _) (meets_dict_delitem_pairs (bC X.prog X.w) a (uq ry)) ⟨vs,dd,by rw [<-rel.length];exact z,by rw [<-(rel.val k).gx];exact l,λ h' L0 hs=>h _ ?_⟩)
 have he : ∃ q,h'.get? a=some q:=let ⟨q,_,_,hq,_⟩:=L0; ⟨q,hq⟩
 exact nV I (by rw [e];exact True.intro) hs he (D0 (Nat.le_trans (nU kvs k) z) hd (rel.drop k) L0)
theorem R4 {v:V} {more:List Value} {Q:Value->Shared->Prop} (I:Inv X pins σ H s) (e:H a=some (.dK kvs)) (ry:RelV (kV k) u) (l:bA kvs k=some v) (hm:more = [] ∨ ∃ x,more = [x])
  (h : ∀ w' s',Inv X pins σ (upd H a (.dK (bz kvs k))) s'->RelV v w'->Q w' s'):wpAny (model X.prog X.w) A (call (.builtin "dict.pop") (.ref a::u::more)) Q E s:=by
 obtain ⟨z,hd,vs,rel,dd⟩:=Jl I.hok e
 obtain ⟨w',hw,rw'⟩:=iO.some_of (v:=v) (o:=valueAt vs k) (by rw [<-l];exact rel.val k)
 have hp:(keyPart u).isSome=true:=by
  cases k with
  | inl i=>obtain ⟨t,q⟩:=(show ∃ t,u=Value.int i t from ry);subst q;rfl
  | inr x=>obtain ⟨t,q⟩:=(show ∃ t,u=Value.str x t from ry);subst q;rfl
 have ha:argsOk "dict.pop" ⟨.ref a::u::more,[]⟩:=by
  rcases hm with q | ⟨x,q⟩
  ·subst q;exact PySem.F.args_dict_pop_2 _ _
  ·subst q;exact PySem.F.args_dict_pop_3 _ _ _
 refine call_meetsIn PySem.F.slot_dict_pop dd.typeIs PySem.F.entry_dict_pop ha (meets_dict_pop_there (bC X.prog X.w) a (uq ry) more hm hp)
  ⟨vs,w',dd,by rw [<-rel.length];exact z,hw,λ h' L0 hs=>h w' _ ?_ rw'⟩
 have he : ∃ q,h'.get? a=some q:=let ⟨q,_,_,hq,_⟩:=L0; ⟨q,hq⟩
 exact nV I (by rw [e];exact True.intro) hs he (D0 (Nat.le_trans (nU kvs k) z) hd (rel.drop k) L0)
theorem R6 {Q:Value->Shared->Prop} (I:Inv X pins σ H s) (e:Rd H a (.dK kvs)) (h : ∀ t s',Inv X pins σ H s'->Q (.int kvs.length t) s'):wpAny (model X.prog X.w) A (call (.builtin "len") [.ref a]) Q E s:=by
 obtain ⟨z,hd,vs,rel,dd⟩:=ur I.hok e
 refine call_len_dict hd dd (by rw [<-rel.length];rw [sizeLine_eq] at z;omega) ?_
 rw [<-rel.length]
 exact h _ _ (I.tok _)
end
def R7 (i:Expr):Prop := ∀ ov iv,subscripted i false ov iv=operate [ov,iv] (getItem ov iv)
theorem Mr {prog:Program} {w:World} {A:Around} {E:Value->Shared->Prop} {s:Shared} {env:Env} {value slice:Expr} {pos:Pos} {T id:String} {Q:Value->Shared->Prop}
  (hl:typeLookup (.type T) "__getitem__" = pure (some (.builtin id))) (hs:R7 slice)
  (h:wpAny (model prog w) A (eval value env) (λ o s₁ => wpAny (model prog w) A (eval slice env) (λ i s₂ => s₂.TypeIs o T/\wpAny (model prog w) A (getItem o i) Q E s₂) E s₁) E s) :
  wpAny (model prog w) A (eval (.Subscript value slice pos) env) Q E s:=by
 refine Subscript_ (wpAny_mono h (λ o s₁ h₁ => wpAny_mono h₁ (λ i s₂ h₂ => ?_) λ _ _ x=>x) λ _ _ x=>x)
 obtain ⟨hT,h₂⟩:=h₂
 unfold subscriptTail
 refine wpAny_bind ?_
 rw [getitemInPython_of_ne hT.not_modules]
 refine wpAny_bind (wpAny_specialOf hT hl ?_)
 have fin:wpAny (model prog w) A (subscripted slice false o i) (λ r s₃ => wpAny (model prog w) A (letTemporaryGo value o r >>= λ _=>pure r) Q E s₃) E s₂ := by
  rw [hs o i]
  exact wpAny_operating (wpAny_mono h₂ (λ r s₃ h₃ => wpAny_bind (wpAny_letTemporaryGo (wpAny_pure h₃))) λ _ _ x=>x)
 first
  | exact wpAny_pure (wpAny_bind fin)
  | exact wpAny_bind (wpAny_pure (wpAny_bind fin))
  | exact wpAny_bind fin
theorem Cd {X:Cx} {pins:List (Addr×Obj)} {σ : St} {H:Hp} {s:Shared} {a:Addr} {y:V} {o:Option V} (I:Inv X pins σ H s) (g:fV H a y o):s.TypeIs (.ref a) "dict" := by
 rcases g with ⟨kvs,k,e,_,_⟩ | ⟨kvs,k,b,e,_,_,_⟩
 ·obtain ⟨_,_,vs,_,dd⟩:=ur I.hok e
  exact dd.typeIs
 ·obtain ⟨_,_,xs,_,dd⟩:=zv I.hok e
  exact dd.typeIs
def Jo (td ty:TE):TE:=fun σ H Q=>td σ H λ x H1=>ty σ H1 λ y H2 => ∃ a v,x = .ref a/\fV H2 a y (some v)/\Q v H2
def Px (ty td:TE):TE:=fun σ H Q=>ty σ H λ y H1=>td σ H1 λ x H2 => ∃ a o,x = .ref a/\fV H2 a y o/\Q (.bl o.isSome) H2
def zW (ty td:TE):TE:=fun σ H Q=>ty σ H λ y H1=>td σ H1 λ x H2 => ∃ a o,x = .ref a/\fV H2 a y o/\Q (.bl (!o.isSome)) H2
def Jp (td ty tv:TE):TS:=λ D σ H=>tv σ H λ v H1=>td σ H1 λ x H2=>ty σ H2 λ y H3 => ∃ a H4,x = .ref a/\mJ H3 a y v H4/\D.nx σ H4
section
variable {X:Cx} {o i e value:Expr} {pos pos' tpos:Pos} {td ty tv:TE}
theorem g7 (hu:X.A.units+1 < cLine) (ho:PE X o td) (hi:PE X i ty) (hs:R7 i):PE X (.Subscript o i pos) (Jo td ty):=by
 intro pins s σ H Q I h
 refine Mr PySem.F.slot_dict_getitem.lookup hs (b8 (ho pins s σ H _ I h) λ u s1 ⟨x,H1,I1,rx,q1⟩=>b8 (hi pins s1 σ H1 _ I1 q1) λ iv s2 ⟨y,H2,I2,ry,a,v,ex,g,q2⟩ => ?_)
 subst ex
 obtain rfl:u=Value.ref a:=rx
 exact ⟨Cd I2 g,G0 hu I2 g ry λ w' s3 I3 rw'=>⟨v,H2,I3,rw',q2⟩⟩
theorem Py (hu:X.A.units+1 < cLine) (hi:PE X i ty) (ho:PE X o td):PC X .In i o (Px ty td):=by
 intro pins s σ H Q I h
 refine b8 (hi pins s σ H _ I h) λ iv s1 ⟨y,H1,I1,ry,q1⟩=>b8 (ho pins s1 σ H1 _ I1 q1) λ u s2 ⟨x,H2,I2,rx,a,ov,ex,g,q2⟩ => ?_
 subst ex
 obtain rfl:u=Value.ref a:=rx
 exact VC hu I2 g ry λ s3 I3=>⟨.bl ov.isSome,H2,I3,rfl,q2⟩
theorem G2 (hu:X.A.units+1 < cLine) (hi:PE X i ty) (ho:PE X o td):PC X .NotIn i o (zW ty td):=by
 intro pins s σ H Q I h
 refine b8 (hi pins s σ H _ I h) λ iv s1 ⟨y,H1,I1,ry,q1⟩=>b8 (ho pins s1 σ H1 _ I1 q1) λ u s2 ⟨x,H2,I2,rx,a,ov,ex,g,q2⟩ => ?_
 subst ex
 obtain rfl:u=Value.ref a:=rx
 exact Mq hu I2 g ry λ s3 I3=>⟨.bl (!ov.isSome),H2,I3,rfl,q2⟩
theorem ji (hu:X.A.units+1 < cLine) (ho:PE X o td) (hi:PE X i ty) (hv:PE X value tv) (hs:swapsWith value (some (.Subscript o i pos')) pos.line X.env=pure false) :
  PS X (.Assign [.Subscript o i pos'] value pos) (Jp td ty tv):=by
 intro pins s σ H D I h
 refine wpAny_Assign_Subscript (b8 (hv pins s σ H _ I h) λ r s1 ⟨v,H1,I1,rv,q1⟩=>b8 (ho pins s1 σ H1 _ I1 q1) λ u s2 ⟨x,H2,I2,rx,q2⟩=>b8 (hi pins s2 σ H2 _ I2 q2) λ iv s3 ⟨y,H3,I3,ry,a,H4,ex,g,q3⟩ => ?_) hs
 subst ex
 obtain rfl:u=Value.ref a:=rx
 exact G1 hu I3 g ry rv λ s4 I4=>⟨σ,H4,I4,q3⟩
end
theorem Jq {P:Program} {w:World} {H:Hp} (h:Heap) (hb:sysModules < h.objs.size):bI P w H (h.push { cls := .type "dict",data := .dict #[] }) h.objs.size (.dK []) :=
 ⟨Nat.zero_le _,beq_eq_false_iff_ne.mpr (Ne.symm (Nat.ne_of_lt hb)),[],.nil,Heap.DictOf.new h⟩
theorem Jr {P:Program} {w:World} {H:Hp} (h:Heap) (hb:sysModules < h.objs.size):bI P w H (h.push { cls := .type "dict",data := .dict #[] }) h.objs.size (.dT []) :=
 ⟨Nat.zero_le _,beq_eq_false_iff_ne.mpr (Ne.symm (Nat.ne_of_lt hb)),[],.nil,_,#[],0,Heap.get?_push_size _ rfl,⟨rfl,rfl,rfl⟩,rfl,rfl,List.nodup_nil⟩
def D3:TE:=λ _ H Q => ∀ p,H p=none->Q (.ref p) (upd H p (.dK []))
def Pz:TE:=λ _ H Q => ∀ p,H p=none->Q (.ref p) (upd H p (.dT []))
section
variable {X:Cx} {pos:Pos}
theorem uu:PE X (.Dict [] [] pos) D3:=λ pins s σ H Q I h =>
 wpAny_Dict_empty ⟨.ref s.heap.objs.size,_,I.laid (a:=s.heap.objs.size) (o := .dK []) (t':=s.toks) (λ _ _ q=>Heap.get?_push_of_some _ q) (Nat.le_refl _) (Jq s.heap I.big),rfl,h _ (I.hok.fresh (Nat.le_refl _))⟩
theorem Js:PE X (.Dict [] [] pos) Pz:=λ pins s σ H Q I h =>
 wpAny_Dict_empty ⟨.ref s.heap.objs.size,_,I.laid (a:=s.heap.objs.size) (o := .dT []) (t':=s.toks) (λ _ _ q=>Heap.get?_push_of_some _ q) (Nat.le_refl _) (Jr s.heap I.big),rfl,h _ (I.hok.fresh (Nat.le_refl _))⟩
end
structure M1 (X:Cx) (o:Expr) (m:Str) (apos:Pos) (e:Expr) (cpos:Pos):Prop where
 base:attributeBase o m X.env (eval o X.env)=eval o X.env
 few:((backTo cpos (starEach [e] X.env)).all (λ x => !x.1) && (backToKw cpos (keywordEach [] X.env)).all (λ x=>x.1.isSome)
  && decide (([e]:List Expr).length+([]:List Keyword).length+(if ([]:List Keyword).isEmpty then 0 else 1) < 30))=true
 line:(apos.endLine == cpos.line)=true
 trees:backTo cpos (starEach [e] X.env) = [(false,eval e X.env)]
structure M2 (X:Cx) (o:Expr) (m:Str) (apos:Pos) (e f:Expr) (cpos:Pos):Prop where
 base:attributeBase o m X.env (eval o X.env)=eval o X.env
 few:((backTo cpos (starEach [e,f] X.env)).all (λ x => !x.1) && (backToKw cpos (keywordEach [] X.env)).all (λ x=>x.1.isSome)
  && decide (([e,f]:List Expr).length+([]:List Keyword).length+(if ([]:List Keyword).isEmpty then 0 else 1) < 30))=true
 line:(apos.endLine == cpos.line)=true
 trees:backTo cpos (starEach [e,f] X.env) = [(false,eval e X.env),(false,eval f X.env)]
def Jt (H:Hp) (a:Addr):Prop:=(∃ kvs,Rd H a (.dK kvs)) ∨ ∃ kvs,Rd H a (.dT kvs)
theorem Ju {X:Cx} {pins:List (Addr×Obj)} {σ : St} {H:Hp} {s:Shared} {a:Addr} (I:Inv X pins σ H s) (d:Jt H a) :
  s.TypeIs (.ref a) "dict" ∧ (∀ b,Value.ref a = .ref b->∃ ob,s.heap.get? b=some ob/\ob.dict=none)/\(a == sysModules)=false:=by
 rcases d with ⟨kvs,e⟩ | ⟨kvs,e⟩
 ·obtain ⟨_,hd,vs,_,dd⟩:=ur I.hok e
  refine ⟨dd.typeIs,λ b q => ?_,hd⟩
  cases q
  obtain ⟨ob,_,_,h1,h2,_⟩:=dd
  exact ⟨ob,h1,h2.2.1⟩
 ·obtain ⟨_,hd,xs,_,dd⟩:=zv I.hok e
  refine ⟨dd.typeIs,λ b q => ?_,hd⟩
  cases q
  obtain ⟨ob,_,_,h1,h2,_⟩:=dd
  exact ⟨ob,h1,h2.2.1⟩
section
variable {X:Cx} {pins:List (Addr×Obj)} {σ : St} {H:Hp} {s:Shared} {a:Addr} {y d:V} {u r:Value} {o:Option V} {A:Around} {E:Value->Shared->Prop}
end
def D4 (td ty:TE):TE:=fun σ H Q=>td σ H λ x H1 => ∃ a,x = .ref a/\Jt H1 a/\ty σ H1 λ y H2 => ∃ kvs k v,H2 a=some (.dK kvs)/\y=kV k/\bA kvs k=some v/\Q v (upd H2 a (.dK (bz kvs k)))
section
variable {X:Cx} {o e f:Expr} {apos cpos:Pos} {td ty tx:TE}
theorem Ce (ho:PE X o td) (he:PE X e ty) (m:M1 X o "pop" apos e cpos):PE X (.Call (.Attribute o "pop" apos) [e] [] cpos) (D4 td ty):=by
 intro pins s σ H Q I h
 refine wpAny_Call_method m.base m.few m.line PySem.F.plainAttrs_dict PySem.F.slot_dict_pop PySem.F.type_dict_pop (b8 (ho pins s σ H _ I h) λ u s1 ⟨x,H1,I1,rx,a,ex,d,q1⟩ => ?_)
 subst ex
 obtain rfl:u=Value.ref a:=rx
 obtain ⟨t1,t2,_⟩:=Ju I1 d
 refine ⟨t1,t2,?_⟩
 rw [m.trees]
 refine Calls.callWith_builtin rfl (Calls.evalArgs_plain (Calls.spliced_cons (b8 (he pins s1 σ H1 _ I1 q1) λ iv s2 ⟨y,H2,I2,ry,kvs,k,v,ea,ey,l,q2⟩=>Calls.spliced_nil ?_)))
 subst ey
 exact R4 I2 ea ry l (.inl rfl) λ w' s3 I3 rw'=>⟨v,_,I3,rw',q2⟩
end
section
variable {X:Cx} {pins:List (Addr×Obj)} {σ : St} {H:Hp} {s:Shared} {a:Addr} {kvs:List (Key×V)} {A:Around} {E:Value->Shared->Prop}
end
section
variable {X:Cx} {pins:List (Addr×Obj)} {σ : St} {H:Hp} {s:Shared} {a:Addr} {y:V} {u:Value} {A:Around} {E:Value->Shared->Prop}
end
end L2
namespace HT
open PySem PyProof.Rows
section
open PySem.SeqAt
open PySem.AutoSeq1 (wpAny_loadPart')
open PySem.MeetsSeq PySem.MeetsSeq2 PySem.MeetsSeq3
end
section
variable {prog:Program} {w:World} {A:Around} {E:Value->Shared->Prop} {s:Shared}
def rq (n d:Nat):Option Int->Nat
 | none=>d
 | some v=>if v < 0 then (v+(n:Int)).toNat else min v.toNat n
theorem Cf (n d:Nat):rq n d none=d:=rfl
theorem Ge (n d k:Nat):rq n d (some (k:Int))=min k n:=by
 show (if (k:Int) < 0 then ((k:Int)+(n:Int)).toNat else min (k:Int).toNat n)=min k n
 rw [if_neg (by omega),Int.toNat_natCast]
end
end HT
namespace L2
open PySem PySem.Spec PyProof.Rows
abbrev TO:=St->Hp->(Option Int->Hp->Prop)->Prop
def PO (X:Cx) (e:Option Expr) (t:TO):Prop :=
 ∀ (pins:List (Addr×Obj)) (s:Shared) (σ : St) (H:Hp) (Q:Option Int->Hp->Prop),Inv X pins σ H s->t σ H Q →
   wpAny (model X.prog X.w) X.A (evalPart e X.env) (λ u s' => ∃ o H',Inv X pins σ H' s'/\IsPart u o/\Q o H') X.xe s
def zX:TO:=λ _ H Q=>Q none H
def Jv (t:TE):TO:=fun σ H Q=>t σ H λ x H1 => ∃ i,x = .int i/\Q (some i) H1
section
variable {X:Cx} {e:Expr} {te:TE} {lo hi:Option Expr} {tl th:TO} {pos p2:Pos}
theorem tX:PO X none zX:=by
 intro pins s σ H Q I h
 rw [evalPart_none]
 exact wpAny_pure ⟨none,H,I,.none,h⟩
theorem ly (h:PE X e te):PO X (some e) (Jv te):=by
 intro pins s σ H Q I hw
 rw [evalPart_some]
 refine b8 (h pins s σ H _ I hw) λ u s1 ⟨x,H1,I1,r1,q1⟩ => ?_
 obtain ⟨i,rfl,q⟩:=q1
 obtain ⟨t,rfl⟩:=r1
 exact ⟨some i,H1,I1,.int i t,q⟩
def Uu (X:Cx) (r:V->Option Int->Option Int->Hp->VK->Prop):Prop :=
 ∀ (pins:List (Addr×Obj)) (s:Shared) (σ : St) (H:Hp) (x:V) (v vl vu:Value) (lo hi:Option Int) (sl:Addr) (Q:VK),Inv X pins σ H s->RelV x v->s.heap.IsSliceOf sl vl vu .none->IsPart vl lo->IsPart vu hi->r x lo hi H Q →
   ∃ T id,typeLookup (.type T) "__getitem__" = pure (some (.builtin id))/\s.TypeIs v T/\wpAny (model X.prog X.w) X.A (getItem v (.ref sl)) (EP X pins σ Q) X.xe s
def VD (r:V->Option Int->Option Int->Hp->VK->Prop) (te:TE) (tl th:TO):TE:=fun σ H Q=>te σ H λ x H1=>tl σ H1 λ l H2=>th σ H2 λ u H3=>r x l u H3 Q
theorem j3 {r:V->Option Int->Option Int->Hp->VK->Prop} (hr:Uu X r) (he:PE X e te) (hl:PO X lo tl) (hu:PO X hi th):PE X (.Subscript e (.Slice lo hi none p2) pos) (VD r te tl th):=by
 intro pins s σ H Q I h
 refine Subscript_ (b8 (he pins s σ H _ I h) λ v s1 ⟨x,H1,I1,r1,q1⟩ => ?_)
 refine wpAny_Slice (b8 (hl pins s1 σ H1 _ I1 q1) λ vl s2 ⟨l,H2,I2,pl,q2⟩=>b8 (hu pins s2 σ H2 _ I2 q2) λ vu s3 ⟨u,H3,I3,pu,q3⟩ => ?_)
 rw [evalPart_none]
 refine wpAny_pure ?_
 have I4:Inv X pins σ H3 { s3 with heap:=s3.heap.push { cls := .type "slice",data := .fields #[vl,vu,.none] } } := I3.kept (t':=s3.toks) λ b ob q=>Heap.get?_push_of_some _ q
 obtain ⟨T,id,hT,ht,hg⟩:=hr pins { s3 with heap:=s3.heap.push { cls := .type "slice",data := .fields #[vl,vu,.none] } } σ H3 x v vl vu l u s3.heap.objs.size Q I4 r1 (Heap.IsSliceOf.new ..) pl pu q3
 show wpAny (model X.prog X.w) X.A (subscriptTail e (.Slice lo hi none p2) v (.ref s3.heap.objs.size)) (EP X pins σ Q) X.xe { s3 with heap:=s3.heap.push { cls := .type "slice",data := .fields #[vl,vu,.none] } }
 exact tail_any (ops:=[.ref s3.heap.objs.size,v]) ht hT hg (by with_unfolding_all rfl)
def j4 (xs:List V) (lo hi:Option Int):List V:=(xs.drop (HT.rq xs.length 0 lo)).take (HT.rq xs.length xs.length hi - HT.rq xs.length 0 lo)
theorem j5 (xs:List V) (lo hi:Option Int):(j4 xs lo hi).length<=xs.length:=by
 unfold j4
 rw [List.length_take,List.length_drop]
 omega
def Ms (K:PySem.W.Frag):V->Option Int->Option Int->Hp->VK->Prop:=λ x lo hi H Q => ∃ a xs,x = .ref a/\DK K H a xs ∧
 ¬ (HT.rq xs.length 0 lo=0/\HT.rq xs.length xs.length hi=xs.length) ∧ ∀ p,H p=none->Q (.ref p) (upd H p (.tup (j4 xs lo hi)))
end
end L2
namespace L2
open PySem PySem.Spec PyProof.Rows
def L1 (n:Nat) (i:Int):Option Nat:=if 0<=i then (if i < n then some i.toNat else none) else if -(n:Int)<=i then some (i+n).toNat else none
def jL {α : Type} (xs:List α) (i:Int):Option α := (L1 xs.length i).bind λ j=>xs[j]?
theorem Gf {n:Nat} {i:Int} {j:Nat} (h:L1 n i=some j):seqIndex? i n=some j/\j < n ∧ -(n:Int)<=i/\i < n:=by
 unfold L1 at h
 by_cases h0:0<=i
 ·rw [if_pos h0] at h
  by_cases h1:i < n
  ·rw [if_pos h1] at h
   have e:i.toNat=j:=Option.some.inj h
   exact ⟨by rw [seqIndex_of h0 h1,e],by omega,by omega,h1⟩
  ·rw [if_neg h1] at h;cases h
 ·rw [if_neg h0] at h
  by_cases h1 : -(n:Int)<=i
  ·rw [if_pos h1] at h
   have e:(i+n).toNat=j:=Option.some.inj h
   exact ⟨by rw [seqIndex_neg (by omega) h1,e],by omega,h1,by omega⟩
  ·rw [if_neg h1] at h;cases h
theorem zY {α : Type} {xs:List α} {i:Int} {v : α} (h:jL xs i=some v) : ∃ j,seqIndex? i xs.length=some j/\xs[j]? = some v/\j < xs.length ∧ -(xs.length:Int)<=i/\i < xs.length:=by
 unfold jL at h
 cases e:L1 xs.length i with
 | none=>rw [e] at h;cases h
 | some j =>
   rw [e] at h
   obtain ⟨h1,h2,h3,h4⟩:=Gf e
   exact ⟨j,h1,h,h2,h3,h4⟩
theorem gj {α : Type} {xs:List α} {j:Nat} {v : α} (h:xs[j]? = some v):jL xs (j:Int)=some v:=by
 have hj:j < xs.length:=(List.getElem?_eq_some_iff.mp h).1
 have e:L1 xs.length (j:Int)=some j:=by
  unfold L1
  rw [if_pos (by omega),if_pos (by omega)];simp
 unfold jL;rw [e];exact h
def Mt (b:Expr):Prop := ∀ o i,subscripted b false o i=operate [o,i] (getItem o i)
def Rw (X:Cx) (r:R2):Prop :=
 ∀ (value slice:Expr) (pins:List (Addr×Obj)) (s:Shared) (σ : St) (H:Hp) (x y:V) (v u:Value) (Q:VK),Inv X pins σ H s->RelV x v->RelV y u->r x y H Q →
   subscripted slice false v u=operate [v,u] (getItem v u)->wpAny (model X.prog X.w) X.A (subscriptTail value slice v u) (EP X pins σ Q) X.xe s
def MtR (X:Cx) (id:String) (r:V->List V->Hp->VK->Prop):Prop :=
 ∀ (pins:List (Addr×Obj)) (s:Shared) (σ : St) (H:Hp) (x:V) (xs:List V) (v:Value) (us:List Value) (Q:VK),Inv X pins σ H s->RelV x v->Vals xs us->r x xs H Q →
   wpAny (model X.prog X.w) X.A (call (.builtin id) (v::us)) (EP X pins σ Q) X.xe s
section
variable {X:Cx} {a b:Expr} {ta tb:TE} {pos:Pos}
theorem bB {r:R2} (hr:Rw X r) (ha:PE X a ta) (hb:PE X b tb) (hs:Mt b):PE X (.Subscript a b pos) (Pk r ta tb):=by
 intro pins s σ H Q I h
 exact Subscript_ (Pn ha hb I h λ v u s2 x y H2 I2 rx ry q=>hr a b pins s2 σ H2 x y v u Q I2 rx ry q (hs _ _))
def PB (K:PySem.W.Frag):R2:=λ x y H Q => ∃ p xs i v,x = .ref p/\y = .int i/\fE K H p xs/\jL xs i=some v/\Q v H
def VE (K:PySem.W.Frag):R2:=λ x y H Q => ∃ p xs i v,x = .ref p/\y = .int i/\DK K H p xs/\jL xs i=some v/\Q v H
def R8:R2:=λ x y H Q => ∃ z i c,x = .str z/\y = .int i/\z.length<=sizeLine/\jL z.cps.toList i=some c/\Q (.str ⟨#[c]⟩) H
theorem Gg:Rw X (PB X.K):=by
 intro value slice pins s σ H x y v u Q I rx ry h hs
 obtain ⟨p,xs,i,z,rfl,rfl,hq,he,q⟩:=h
 cases rx
 obtain ⟨t,rfl⟩:=ry
 obtain ⟨its,r,pl,hz⟩:=I.list hq
 obtain ⟨j,h1,h2,h3,h4,h5⟩:=zY he
 obtain ⟨w,ew,rw'⟩:=r.get h2
 have hl:=r.length
 have hn:=mG
 have fin:EP X pins σ Q w s:=⟨z,H,I,rw',q⟩
 by_cases h0:0<=i
 ·have hj:i.toNat=j:=by
   rw [seqIndex_of h0 h5] at h1
   exact Option.some.inj h1
  exact item_listR pl.isList h0 (by omega) (by rw [hj];simpa using ew) fin hs
 ·have hj:(i+(its.toArray.size:Int)).toNat=j:=by
   rw [seqIndex_neg (by omega) h4] at h1
   rw [List.size_toArray,<-hl]
   exact Option.some.inj h1
  exact subscriptTail_builtinR (x:=w) pl.isList.typeIs slot_list_getitem.lookup
   (wpAny_getItem_list_neg (Q:=λ r s'=>r=w/\EP X pins σ Q r s') pl.isList (by omega) (by rw [List.size_toArray] <;> omega) (by omega) (by rw [hj];simpa using ew) ⟨rfl,fin⟩) hs
theorem PD:Rw X (VE X.K):=by
 intro value slice pins s σ H x y v u Q I rx ry h hs
 obtain ⟨p,xs,i,z,rfl,rfl,hq,he,q⟩:=h
 cases rx
 obtain ⟨t,rfl⟩:=ry
 obtain ⟨its,r,pl,hz⟩:=I.tuple hq
 obtain ⟨j,h1,h2,h3,h4,h5⟩:=zY he
 obtain ⟨w,ew,rw'⟩:=r.get h2
 have hl:=r.length
 have hn:=mG
 have fin:EP X pins σ Q w s:=⟨z,H,I,rw',q⟩
 exact subscriptTail_builtinR (x:=w) pl.typeIs slot_tuple_getitem.lookup
  (getItem_tuple (j:=j) (Q:=λ r s'=>r=w/\EP X pins σ Q r s') pl (by omega) (by omega) (by rw [List.size_toArray,<-hl];exact h1) (by simpa using ew) ⟨rfl,fin⟩) hs
theorem PF:Rw X R8:=by
 intro value slice pins s σ H x y v u Q I rx ry h hs
 obtain ⟨z,i,c,rfl,rfl,hz,he,q⟩:=h
 obtain ⟨t,rfl⟩:=rx
 obtain ⟨t',rfl⟩:=ry
 obtain ⟨j,h1,h2,h3,h4,h5⟩:=zY he
 have hl:z.cps.toList.length=z.length:=by simp [Str.length]
 rw [hl] at h1 h4 h5
 have hn:=mG
 exact tail_any (typeIs_str s z t) slot_str_getitem.lookup (getItem_str (c:=c) (by
  have e1:decide (i < -(2 ^ 63:Int))=false:=decide_eq_false (by omega)
  have e2:decide (i ≥ 2 ^ 63)=false:=decide_eq_false (by omega)
  rw [e1,e2,Bool.or_false]) (by rw [h1];simpa using h2) ⟨.str ⟨#[c]⟩,H,I.tok _,⟨_,rfl⟩,q⟩) hs
theorem D5 (its:List Value) (n j:Nat) (u:Value):Obj.mapSeq (·.setIfInBounds j u) { cls := .type "list",data := .seq its.toArray n } = { cls := .type "list",data := .seq (its.set j u).toArray n } := by
 simp [Obj.mapSeq]
theorem Inv.lst {pins:List (Addr×Obj)} {σ : St} {H:Hp} {s:Shared} {p:Addr} {xs:List V} (I:Inv X pins σ H s) (h:H p=some (.lst xs)) :
  ∃ (its:List Value) (n:Nat),Vals xs its/\s.heap.get? p=some { cls := .type "list",data := .seq its.toArray n } ∧ xs.length<=sizeLine:=by
 obtain ⟨z,its,n,r,e⟩:=I.hok p _ h
 exact ⟨its,n,r,e,z⟩
theorem Inv.PJ {pins:List (Addr×Obj)} {σ : St} {H:Hp} {s:Shared} {p:Addr} {xs ys:List V} {its its':List Value} {n n':Nat} {f:Obj->Obj} (I:Inv X pins σ H s) (h:H p=some (.lst xs))
  (ho:s.heap.get? p=some { cls := .type "list",data := .seq its.toArray n }) (hf:f { cls := .type "list",data := .seq its.toArray n } = { cls := .type "list",data := .seq its'.toArray n' }) (r:Vals ys its') (hz:ys.length<=sizeLine) (t:Nat) :
  Inv X pins σ (upd H p (.lst ys)) { s with heap:=s.heap.update p f,toks:=t } := by
 have e:(s.heap.update p f).get? p=some { cls := .type "list",data := .seq its'.toArray n' } := by
  rw [Heap.get?_update_self f ho (by rw [hf] <;> rfl),hf]
 refine I.write (x:=p) (e:=p) (by rw [h];trivial) (.inl rfl) (λ b u hb q=>(Heap.get?_update_other _ _ (Ne.symm hb)).trans q) ⟨_,e⟩ ?_
 exact ⟨hz,its',n',r,e⟩
def Oh:V->V->V->Hp->(Hp->Prop)->Prop:=λ o i v H Q => ∃ p xs k j,o = .ref p/\i = .int k/\H p=some (.lst xs)/\L1 xs.length k=some j/\Q (upd H p (.lst (xs.set j v)))
theorem set_list:RM X Oh:=by
 intro pins s σ H o i v ov iv u Q I ro ri rv h
 obtain ⟨p,xs,k,j,rfl,rfl,hp,hj,q⟩:=h
 cases ro
 obtain ⟨t,rfl⟩:=ri
 obtain ⟨its,n,r,ho,hz⟩:=I.lst hp
 obtain ⟨h1,h2,h3,h4⟩:=Gf hj
 have hl:=r.length
 have hn:=mG
 have I':Inv X pins σ (upd H p (.lst (xs.set j v))) { s with heap:=s.heap.update p (Obj.mapSeq (·.setIfInBounds j u)) } :=
  I.PJ hp ho (D5 its n j u) (r.set rv j) (by rw [List.length_set];exact hz) s.toks
 by_cases h0:0<=k
 ·have hk:k.toNat=j:=by
   rw [seqIndex_of h0 h4] at h1
   exact Option.some.inj h1
  exact PySem.W.ki_setAt ho h0 (by omega) (by rw [List.size_toArray,<-hl];exact h4) (by rw [hk];exact ⟨_,I',q⟩)
 ·have hk:(k+(its.toArray.size:Int)).toNat=j:=by
   rw [seqIndex_neg (by omega) h3] at h1
   rw [List.size_toArray,<-hl]
   exact Option.some.inj h1
  exact PySem.W.ki_setBack ho (by omega) (by rw [List.size_toArray,<-hl];exact h3) (by omega) (by rw [hk];exact ⟨_,I',q⟩)
theorem zZ (lo hi:Option Int) (n:Nat):(sliceBounds lo hi none n).1=((HT.rq n 0 lo:Nat):Int)/\(sliceBounds lo hi none n).2.1=((HT.rq n n hi:Nat):Int)/\(sliceBounds lo hi none n).2.2=1:=by
 refine ⟨?_,?_,rfl⟩
 ·cases lo with
  | none=>simp [sliceBounds,HT.rq]
  | some i =>
    simp only [sliceBounds,HT.rq,Option.getD_none,show (1:Int) > 0 by decide,if_true]
    by_cases h:i < 0
    ·simp only [h,if_true] <;> omega
    ·simp only [h,if_false] <;> omega
 ·cases hi with
  | none=>simp [sliceBounds,HT.rq]
  | some i =>
    simp only [sliceBounds,HT.rq,Option.getD_none,show (1:Int) > 0 by decide,if_true]
    by_cases h:i < 0
    ·simp only [h,if_true] <;> omega
    ·simp only [h,if_false] <;> omega
theorem wV (its:List Value) (lo hi:Option Int):slicePick its.toArray lo hi none=((its.drop (HT.rq its.length 0 lo)).take (HT.rq its.length its.length hi - HT.rq its.length 0 lo)).toArray:=by
 obtain ⟨h1,h2,h3⟩:=zZ lo hi its.toArray.size
 unfold slicePick
 rw [h1,h2,h3]
 simp only [sliceRange_one,pick_run,List.size_toArray] <;> rfl
def Mu (K:PySem.W.Frag):V->Option Int->Option Int->Hp->VK->Prop:=λ x lo hi H Q => ∃ a xs,x = .ref a/\fE K H a xs ∧ ∀ p,H p=none->Q (.ref p) (upd H p (.lst (j4 xs lo hi)))
theorem Mv:Uu X (Mu X.K):=by
 intro pins s σ H x v vl vu lo hi sl Q I rx hs pl pu h
 obtain ⟨a,xs,rfl,hx,q⟩:=h
 cases rx
 obtain ⟨its,r,ht,hz⟩:=I.list hx
 have hlen:=r.length
 refine ⟨"list",_,slot_list_getitem.lookup,ht.isList.typeIs,?_⟩
 refine wpAny_getItem_list_slice ht.isList hs pl pu .none (by simp) ?_ (by rw [List.size_toArray] <;> omega)
 rw [wV,<-hlen]
 refine ⟨.ref s.heap.objs.size,_,I.laid (t':=s.toks) (o := .lst (j4 xs lo hi)) (λ b ob q=>Heap.get?_push_of_some _ q) (Nat.le_refl _) ?_,rfl,q _ (I.hok.fresh (Nat.le_refl _))⟩
 exact ⟨Nat.le_trans (j5 xs lo hi) hz,_,0,(r.drop (HT.rq xs.length 0 lo)).take (HT.rq xs.length xs.length hi - HT.rq xs.length 0 lo),Heap.get?_push_size _ rfl⟩
def eK:V->Bool
 | .aH=>true
 | .bl _=>true
 | .int _=>true
 | .str _=>true
 | _=>false
def Aa:V->V->Bool
 | .aH,.aH=>true
 | .bl a,.bl b=>a == b
 | .bl a,.int b=>(if a then 1 else 0) == b
 | .int a,.bl b=>a == (if b then 1 else 0)
 | .int a,.int b=>a == b
 | .str a,.str b=>a == b
 | _,_=>false
theorem PK {A:Around} {s:Shared} {y x:V} {u v:Value} (ry:RelV y u) (rx:RelV x v) (fy:eK y=true) (fx:eK x=true):SeqAt.EqAt A s u v (Aa y x):=by
 cases y with
 | aH =>
   cases ry
   cases x with
   | aH=>cases rx;exact SeqAt.EqAt.same _
   | bl b=>cases rx;exact SeqAt.EqAt.none_bool b
   | int b=>obtain ⟨t,rfl⟩:=rx;exact SeqAt.EqAt.none_int b t
   | str b=>obtain ⟨t,rfl⟩:=rx;exact SeqAt.EqAt.none_str b t
   | _=>exact absurd (show false=true from fx) Bool.false_ne_true
 | bl a =>
   cases ry
   cases x with
   | aH=>cases rx;exact SeqAt.EqAt.bool_none a
   | bl b=>cases rx;exact SeqAt.EqAt.bool_bool a b
   | int b=>obtain ⟨t,rfl⟩:=rx;exact SeqAt.EqAt.bool_int a b t
   | str b=>obtain ⟨t,rfl⟩:=rx;exact SeqAt.EqAt.bool_str a b t
   | _=>exact absurd (show false=true from fx) Bool.false_ne_true
 | int a =>
   obtain ⟨t',rfl⟩:=ry
   cases x with
   | aH=>cases rx;exact SeqAt.EqAt.int_none a t'
   | bl b=>cases rx;exact SeqAt.EqAt.int_bool a t' b
   | int b=>obtain ⟨t,rfl⟩:=rx;exact SeqAt.EqAt.int_int a t' b t
   | str b=>obtain ⟨t,rfl⟩:=rx;exact SeqAt.EqAt.int_str a t' b t
   | _=>exact absurd (show false=true from fx) Bool.false_ne_true
 | str a =>
   obtain ⟨t',rfl⟩:=ry
   cases x with
   | aH=>cases rx;exact SeqAt.EqAt.str_none a t'
   | bl b=>cases rx;exact SeqAt.EqAt.str_bool a t' b
   | int b=>obtain ⟨t,rfl⟩:=rx;exact SeqAt.EqAt.str_int a t' b t
   | str b=>obtain ⟨t,rfl⟩:=rx;exact SeqAt.EqAt.str_str a t' b t
   | _=>exact absurd (show false=true from fx) Bool.false_ne_true
 | _=>exact absurd (show false=true from fy) Bool.false_ne_true
def Jw (x:V) (u:Value):Bool:=match u with
 | .none=>Aa .aH x
 | .bool b=>Aa (.bl b) x
 | .int i _=>Aa (.int i) x
 | .str z _=>Aa (.str z) x
 | _=>false
theorem D6 {x y:V} {u:Value} (r:RelV y u) (f:eK y=true):Jw x u=Aa y x:=by
 cases y with
 | aH=>cases r;rfl
 | bl b=>cases r;rfl
 | int i=>obtain ⟨t,rfl⟩:=r;rfl
 | str z=>obtain ⟨t,rfl⟩:=r;rfl
 | _=>exact absurd (show false=true from f) Bool.false_ne_true
theorem Ab {x:V} : ∀ {xs:List V} {us:List Value},Vals xs us->xs.all eK=true->us.any (Jw x)=xs.any λ y=>Aa y x
 | _,_,.nil,_=>rfl
 | y::xs,u::us,.cons r t,f=>by
   rw [List.all_cons,Bool.and_eq_true] at f
   rw [List.any_cons,List.any_cons,D6 r f.1,Ab t f.2]
theorem nW {A:Around} {s:Shared} {x:V} {v:Value} (rx:RelV x v) (fx:eK x=true) : ∀ {xs:List V} {us:List Value},Vals xs us->xs.all eK=true->∀ u∈us,SeqAt.EqAt A s u v (Jw x u)
 | _,_,.nil,_=>λ u hu=>by cases hu
 | y::xs,u::us,.cons r t,f=>λ u' hu=>by
   rw [List.all_cons,Bool.and_eq_true] at f
   rcases List.mem_cons.mp hu with rfl | hu
   ·rw [D6 r f.1];exact PK r rx f.1 fx
   ·exact nW rx fx t f.2 u' hu
def nX (x:V) (xs:List V):Bool:=xs.any λ y=>Aa y x
def rIn (K:PySem.W.Frag) (neg:Bool):R2:=λ x y H Q => ∃ p xs,y = .ref p/\(fE K H p xs\/DK K H p xs)/\eK x=true/\xs.all eK=true/\Q (.bl (if neg then !nX x xs else nX x xs)) H
theorem Ac:qY X (compareOp .NotIn) (rIn X.K true):=by
 intro pins s σ H x y v u Q I rx ry h
 obtain ⟨p,xs,rfl,hq,fx,fs,q⟩:=h
 cases ry
 rcases hq with hq | hq
 ·obtain ⟨its,r,pl,hz⟩:=I.list hq
  refine SeqAt.notIn_listAt (Jw x) pl.isList (λ w hw=>nW rx fx r fs w (by simpa using hw)) ⟨.bl _,H,I,rfl,?_⟩
  rw [show its.toArray.any (Jw x)=its.any (Jw x) by simp,Ab r fs]
  exact q
 ·obtain ⟨its,r,pl,hz⟩:=I.tuple hq
  refine SeqAt.notIn_tupleAt (Jw x) pl (λ w hw=>nW rx fx r fs w (by simpa using hw)) ⟨.bl _,H,I,rfl,?_⟩
  rw [show its.toArray.any (Jw x)=its.any (Jw x) by simp,Ab r fs]
  exact q
theorem jj:jZ X (.builtin "len") (λ xs H Q => ∃ p ys,xs = [.ref p]/\(fE X.K H p ys\/DK X.K H p ys)/\Q (.int ys.length) H):=by
 intro pins s σ H xs us Q I r h
 obtain ⟨p,ys,rfl,hq,q⟩:=h
 obtain ⟨u,rfl,rx⟩:=vals1 r
 cases rx
 have hn:=mG
 rcases hq with hq | hq
 ·obtain ⟨its,r',pl,hz⟩:=I.list hq
  have hlen:=r'.length
  exact Calls.call_len_list pl.isList (by simp only [List.size_toArray] <;> omega) ⟨.int ys.length,H,I.tok _,⟨s.toks+1,by rw [List.size_toArray,hlen]⟩,q⟩
 ·obtain ⟨its,r',pl,hz⟩:=I.tuple hq
  have hlen:=r'.length
  exact len_tuple pl (by simp only [List.size_toArray] <;> omega) ⟨.int ys.length,H,I.tok _,⟨s.toks+1,by rw [List.size_toArray,hlen]⟩,q⟩
theorem Ad:jZ X (.type "list") (λ xs H Q => ∃ p ys,xs = [.ref p]/\(fE X.K H p ys\/DK X.K H p ys) ∧ ∀ l,H l=none->Q (.ref l) (upd H l (.lst ys))):=by
 intro pins s σ H xs us Q I r h
 obtain ⟨p,ys,rfl,hq,q⟩:=h
 obtain ⟨u,rfl,rx⟩:=vals1 r
 cases rx
 have fin : ∀ (its:List Value),Vals ys its->ys.length<=sizeLine->∀ (h':Heap) (c':Nat),(∀ b o',s.heap.get? b=some o'->h'.get? b=some o') →
   h'.get? s.heap.objs.size=some { cls := .type "list",dict:=none,data := .seq its.toArray c',slots := #[] }->EP X pins σ Q (.ref s.heap.objs.size) { s with heap:=h' } := λ its r' hz h' c' kp e =>
  ⟨.ref s.heap.objs.size,_,I.laid (t':=s.toks) kp (Nat.le_refl _) (show bI X.prog X.w _ h' _ (.lst ys) from ⟨hz,its,c',r',e⟩),rfl,q _ (I.hok.fresh (Nat.le_refl _))⟩
 rcases hq with hq | hq
 ·obtain ⟨its,r',pl,hz⟩:=I.list hq
  have hlen:=r'.length
  obtain ⟨o,ho,hc,n,hd⟩:=pl.isList
  exact call_list_seq p (.inl rfl) ho hc hd (λ h' c' kp e=>fin its r' hz h' c' kp e) (by simp only [List.size_toArray] <;> omega)
 ·obtain ⟨its,r',pl,hz⟩:=I.tuple hq
  have hlen:=r'.length
  obtain ⟨o,ho,hc,n,hd⟩:=pl
  exact call_list_seq p (.inr rfl) ho hc hd (λ h' c' kp e=>fin its r' hz h' c' kp e) (by simp only [List.size_toArray] <;> omega)
def R9 (K:PySem.W.Frag) (T:String) (x:V) (H:Hp):Prop:=match x with
 | .str _=>T = "str"
 | .int _=>T = "int"
 | .ref p=>(T = "list" ∧ ∃ xs,fE K H p xs)\/(T = "tuple" ∧ ∃ o,K.lookup p=some o/\o.cls = .type "tuple" ∧ o.dict=none) ∨
   (T = "dict" ∧ ((∃ kvs,H p=some (.dK kvs)) ∨ ∃ kvs,H p=some (.dT kvs)))\/(T = "set" ∧ ∃ S n,H p=some (.set S n))
 | _=>False
theorem PL {pins:List (Addr×Obj)} {σ : St} {H:Hp} {s:Shared} {T:String} {x:V} {v:Value} (I:Inv X pins σ H s) (r:RelV x v) (ty:R9 X.K T x H) :
  s.TypeIs v T ∧ ∀ a,v = .ref a->∃ ob,s.heap.get? a=some ob/\ob.dict=none:=by
 cases x with
 | str z =>
   obtain ⟨t,rfl⟩:=r
   cases (show T = "str" from ty)
   exact ⟨typeIs_str s z t,λ _ e=>nomatch e⟩
 | int i =>
   obtain ⟨t,rfl⟩:=r
   cases (show T = "int" from ty)
   exact ⟨typeIs_int s i t,λ _ e=>nomatch e⟩
 | ref p =>
   cases r
   rcases ty with ⟨rfl,xs,hq⟩ | ⟨rfl,o,hk,hc,hd⟩ | ⟨rfl,hk⟩ | ⟨rfl,S,n,hk⟩
   ·obtain ⟨its,_,pl,_⟩:=I.list hq
    refine ⟨pl.isList.typeIs,λ a e => ?_⟩
    cases e
    obtain ⟨o,n,e,c,hd,_⟩:=pl
    exact ⟨o,e,hd⟩
   ·refine ⟨⟨o,I.nN p o hk,hc⟩,λ a e => ?_⟩
    cases e
    exact ⟨o,I.nN _ o hk,hd⟩
   ·have z : ∃ o,s.heap.get? p=some o/\o.ExactDict:=by
     rcases hk with ⟨kvs,hk⟩ | ⟨kvs,hk⟩
     ·obtain ⟨_,_,_,_,o,_,_,e,ex,_⟩:=I.hok p _ hk
      exact ⟨o,e,ex⟩
     ·obtain ⟨_,_,_,_,o,_,_,e,ex,_⟩:=I.hok p _ hk
      exact ⟨o,e,ex⟩
    obtain ⟨o,e,ex⟩:=z
    refine ⟨⟨o,e,ex.1⟩,λ a e2 => ?_⟩
    cases e2
    exact ⟨o,e,ex.2.1⟩
   ·obtain ⟨o,_,_,_,e,ex,_⟩:=I.hok p _ hk
    refine ⟨⟨o,e,ex.1⟩,λ a e2 => ?_⟩
    cases e2
    exact ⟨o,e,ex.2.1⟩
 | _=>exact False.elim ty
def VF (K:PySem.W.Frag) (T:String) (r:V->List V->Hp->VK->Prop) (to:TE) (t:TA):TE:=fun σ H Q=>to σ H λ x H1=>R9 K T x H1/\t σ H1 λ xs H2=>r x xs H2 Q
variable {o e:Expr} {es:List Expr} {to:TE} {t:TA} {name:Str} {apos cpos:Pos} {T id:String} {r:V->List V->Hp->VK->Prop}
theorem Jx (pa:PlainAttrs T) (slot:Slot T name id) (hty:typeOf (.builtin id)=pure (.type "method_descriptor")) (hm:MtR X id r) (ho:PE X o to) (ha:PA X (e::es) t)
  (hbase:attributeBase o name X.env (eval o X.env)=eval o X.env:=by rfl)
  (hfew:((backTo cpos (starEach (e::es) X.env)).all (λ x => !x.1) && (backToKw cpos (keywordEach [] X.env)).all (λ x=>x.1.isSome)
   && decide ((e::es).length+([]:List Keyword).length+(if ([]:List Keyword).isEmpty then 0 else 1) < 30))=true:=by rfl)
  (hline:(apos.endLine == cpos.line)=true:=by rfl) (hs:starEach (e::es) X.env=(false,eval e X.env)::starEach es X.env:=by rfl) (hplain:(backTo cpos (starEach es X.env)).any (·.1)=false:=by rfl) :
  PE X (.Call (.Attribute o name apos) (e::es) [] cpos) (VF X.K T r to t):=by
 intro pins s σ H Q I h
 refine wpAny_Call_method_late hbase hfew hline rfl (b8 (ho pins s σ H _ I h) λ v s1 ⟨x,H1,I1,r1,ty,q1⟩ => ?_)
 obtain ⟨h1,h2⟩:=PL I1 r1 ty
 refine ⟨T,id,pa,slot,hty,h1,h2,?_⟩
 have hA:=ha cpos pins s1 σ H1 _ I1 q1
 rw [hs] at hA ⊢
 refine Calls.callWith_builtin (by show (false || (backTo cpos (starEach es X.env)).any (·.1))=false;rw [hplain] <;> rfl) (Calls.evalArgs_plain ?_)
 exact b8 hA λ us s2 ⟨vs,H2,I2,r2,q2⟩=>hm pins s2 σ H2 x vs v us Q I2 r1 r2 q2
/- xs.append(e),list.index on a Jy tuple .. are MtR facts of 06m -/
end
end L2
namespace L2
open PySem PySem.Spec PyProof.Rows
def Uv (X:Cx) (id:String) (r:V->List V->Hp->VK->Prop):Prop :=
 ∀ (pins:List (Addr×Obj)) (s:Shared) (σ : St) (H:Hp) (x:V) (xs:List V) (v:Value) (us:List Value) (Q:VK),Inv X pins σ H s->RelV x v->Vals xs us->r x xs H Q →
   wpAny (model X.prog X.w) X.A (call (.builtin id) (v::us)) (EP X pins σ Q) X.xe s
theorem Vals.one : ∀ {x:V} {us:List Value},Vals [x] us->∃ u,us = [u]/\RelV x u
 | _,_,.cons r .nil=>⟨_,rfl,r⟩
theorem Vals.two : ∀ {x y:V} {us:List Value},Vals [x,y] us->∃ u v,us = [u,v]/\RelV x u/\RelV y v
 | _,_,_,.cons r (.cons q .nil)=>⟨_,_,rfl,r,q⟩
theorem Vals.rep {xs:List V} {us:List Value} (h:Vals xs us) : ∀ k:Nat,Vals (List.replicate k xs).flatten (List.replicate k us).flatten
 | 0 => .nil
 | k+1=>by
   rw [List.replicate_succ,List.replicate_succ,List.flatten_cons,List.flatten_cons]
   exact Vals.append h (Vals.rep h k)
theorem foldl_rep (its:List Value) : ∀ (k:Nat) (acc:List Value),
  List.foldl (λ x1 x2=>x1++x2) acc.toArray (List.replicate k its.toArray)=(acc++(List.replicate k its).flatten).toArray
 | 0,acc=>by simp
 | k+1,acc=>by
   have e:acc.toArray++its.toArray=(acc++its).toArray:=by simp
   have e2:(acc++its)++(List.replicate k its).flatten=acc++(List.replicate (k+1) its).flatten:=by
    rw [List.replicate_succ,List.flatten_cons,List.append_assoc]
   rw [<-e2,<-foldl_rep its k (acc++its),<-e,List.replicate_succ,List.foldl_cons]
section
variable {X:Cx} {pins:List (Addr×Obj)} {σ : St} {H:Hp} {s:Shared} {l b:Addr} {xs ys zs:List V}
theorem Inv.Sa {its its':List Value} {n:Nat} {f:Array Value->Array Value} {t':Nat} (I:Inv X pins σ H s) (hH:H l=some (.lst xs))
  (e:s.heap.get? l=some { cls := .type "list",data := .seq its.toArray n }) (hf:f its.toArray=its'.toArray) (hv:Vals ys its') (hz:ys.length<=sizeLine) :
  Inv X pins σ (upd H l (.lst ys)) { s with heap:=s.heap.update l (Obj.mapSeq f),toks:=t' } := by
 have q:=PySem.IsL.update e f
 rw [hf] at q
 refine I.write (x:=l) (e:=l) (by rw [hH];exact trivial) (.inl rfl) (λ b' u hb hu=>(Heap.get?_update_other s.heap (Obj.mapSeq f) (Ne.symm hb)).trans hu) ⟨_,q⟩ ?_
 exact ⟨hz,its',_,hv,q⟩
theorem Inv.Sb {its:List Value} {t':Nat} (I:Inv X pins σ H s) (hv:Vals ys its) (hz:ys.length<=sizeLine) :
  Inv X pins σ (upd H s.heap.objs.size (.lst ys)) { s with heap:=s.heap.push { cls := .type "list",data := .seq its.toArray },toks:=t' } :=
 I.laid (λ _ _ q=>Heap.get?_push_of_some _ q) (Nat.le_refl _) ⟨hz,its,0,hv,Heap.get?_push_size _ rfl⟩
theorem Inv.fresh (I:Inv X pins σ H s):H s.heap.objs.size=none:=I.hok.fresh (Nat.le_refl _)
theorem Inv.Cg (I:Inv X pins σ H s) (hH:H l=some (.lst xs)):xs.length<=sizeLine ∧ ∃ (its:List Value) (n:Nat),Vals xs its/\xs.length=its.length/\s.heap.get? l=some { cls := .type "list",data := .seq its.toArray n } := by
 obtain ⟨z,its,n,r,e⟩:=I.hok l _ hH
 exact ⟨z,its,n,r,r.length,e⟩
theorem Ci {n:Nat} (h:n<=sizeLine):Builtin.List.listTooLong n=false:=by
 unfold Builtin.List.listTooLong
 exact decide_eq_false (by omega)
end
section
variable {X:Cx}
def Mw:V->List V->Hp->VK->Prop:=λ x vs H Q => ∃ l xs y,x = .ref l/\vs = [y]/\H l=some (.lst xs)/\xs.length < sizeLine/\Q .aH (upd H l (.lst (xs++[y])))
theorem G3:Uv X "list.append" Mw:=by
 intro pins s σ H x vs v us Q I rx rv h
 obtain ⟨l,xs,y,rfl,rfl,hH,hz,q⟩:=h
 cases rx
 obtain ⟨u,rfl,ru⟩:=rv.one
 obtain ⟨z,its,n,r,hl,e⟩:=I.Cg hH
 refine call_meets F.slot_list_append ⟨_,e,rfl⟩ F.entry_list_append (F.args_list_append_2 _ _) (PySem.list_append l its.toArray n u (by rw [List.size_toArray];omega)) ⟨e,?_⟩
 refine ⟨.aH,_,I.Sa (its':=its++[u]) hH e (by simp) (r.append (.cons ru .nil)) ?_,rfl,q⟩
 rw [List.length_append,List.length_singleton]
 omega
def Mx:V->List V->Hp->VK->Prop:=λ x vs H Q => ∃ l b xs zs,x = .ref l/\vs = [.ref b]/\H l=some (.lst xs)/\H b=some (.lst zs)/\xs.length+zs.length<=sizeLine/\Q .aH (upd H l (.lst (xs++zs)))
theorem Rx:Uv X "list.extend" Mx:=by
 intro pins s σ H x vs v us Q I rx rv h
 obtain ⟨l,b,xs,zs,rfl,rfl,hH,hB,hz,q⟩:=h
 cases rx
 obtain ⟨u,rfl,ru⟩:=rv.one
 cases ru
 obtain ⟨z,its,n,r,hl,e⟩:=I.Cg hH
 obtain ⟨z2,its2,n2,r2,hl2,e2⟩:=I.Cg hB
 have hsz:its.toArray.size+its2.toArray.size<=sizeLine:=by rw [List.size_toArray,List.size_toArray];omega
 have Jz : ¬ (!its.toArray.isEmpty && Builtin.List.listTooLong (its.toArray.size+its2.toArray.size))=true:=by
  rw [Ci hsz,Bool.and_false]
  exact Bool.false_ne_true
 refine call_meets F.slot_list_extend ⟨_,e,rfl⟩ F.entry_list_extend (F.args_list_extend_2 _ _)
  (AutoSeq1.list_extend_list_list_0 l its.toArray n b its2.toArray n2 Jz (by rw [List.size_toArray];omega) (by omega)) ⟨e,e2,?_⟩
 refine ⟨.aH,_,I.Sa (its':=its++its2) hH e (by simp) (r.append r2) ?_,rfl,q⟩
 rw [List.length_append]
 omega
def PM:R2:=λ x y H Q => ∃ l b xs zs,x = .ref l/\y = .ref b/\H l=some (.lst xs)/\H b=some (.lst zs)/\xs.length+zs.length<=sizeLine ∧ ∀ p,H p=none->Q (.ref p) (upd H p (.lst (xs++zs)))
theorem JA:qY X (binaryOp .Add) PM:=by
 intro pins s σ H x y v u Q I rx ry h
 obtain ⟨l,b,xs,zs,rfl,rfl,hH,hB,hz,q⟩:=h
 cases rx
 cases ry
 obtain ⟨z,its,n,r,hl,e⟩:=I.Cg hH
 obtain ⟨z2,its2,n2,r2,hl2,e2⟩:=I.Cg hB
 refine PySem.P.add_list e e2 ?_ (by rw [List.size_toArray,List.size_toArray];omega)
 have ea:its.toArray++its2.toArray=(its++its2).toArray:=by simp
 rw [ea]
 exact ⟨.ref _,_,I.Sb (t':=s.toks) (r.append r2) (by rw [List.length_append];omega),rfl,q _ I.fresh⟩
def Sd:R2:=λ x y H Q => ∃ l k xs,x = .ref l/\y = .int k/\H l=some (.lst xs) ∧ -(2 ^ 63)<=k/\k < 2 ^ 63/\xs.length * k.toNat<=sizeLine ∧
 ∀ p,H p=none->Q (.ref p) (upd H p (.lst (List.replicate k.toNat xs).flatten))
theorem len_rep {α : Type} (xs:List α) (k:Nat):(List.replicate k xs).flatten.length=k * xs.length:=by
 induction k with
 | zero=>simp
 | succ k ih=>rw [List.replicate_succ,List.flatten_cons,List.length_append,ih,Nat.succ_mul,Nat.add_comm]
theorem uv:qY X (binaryOp .Mult) Sd:=by
 intro pins s σ H x y v u Q I rx ry h
 obtain ⟨l,k,xs,rfl,rfl,hH,h1,h2,hz,q⟩:=h
 cases rx
 obtain ⟨t,rfl⟩:=ry
 obtain ⟨z,its,n,r,hl,e⟩:=I.Cg hH
 have hlen:its.toArray.size * k.toNat<=sizeLine:=by rw [List.size_toArray,<-hl];exact hz
 have hcap : ¬ its.toArray.size * k.toNat > (2 ^ 63 - 1) / 8:=by
  have:(sizeLine:Nat)<=(2 ^ 63 - 1) / 8:=by decide
  omega
 have hfit : ¬ (!Builtin.List.listFitsIndex k)=true:=by
  rw [fitsIndex_both h1 h2]
  exact Bool.false_ne_true
 have Jz : ¬ Builtin.List.listTooLong (its.toArray.size * k.toNat)=true:=by
  rw [Ci hlen]
  exact Bool.false_ne_true
 have hnew:List.foldl (λ x1 x2=>x1++x2) #[] (List.replicate (if its.toArray.isEmpty=true then 0 else k.toNat) its.toArray)=(List.replicate k.toNat its).flatten.toArray:=by
  have f0 : ∀ m:Nat,List.foldl (λ x1 x2=>x1++x2) #[] (List.replicate m its.toArray)=(List.replicate m its).flatten.toArray:=λ m=>by
   have:=foldl_rep its m []
   rw [List.nil_append] at this
   exact this
  rw [f0]
  cases its with
  | nil=>simp
  | cons a r'=>rw [if_neg (by simp)]
 refine wpAny_binaryOp_repeat_ref (T := "list") (U := "int") (by decide) ⟨_,e,rfl⟩ (λ s'=>typeIs_int s' k t) noFill_list_mul F.fills_int_mul F.slot_int_rmul repeat_list F.slot_int_index.lookup
  (call_meets F.slot_int_rmul (typeIs_int s k t) F.entry_int_rmul (F.args_int_rmul_2 _ _) (int___rmul___int_list k t l its.toArray n)
   ⟨e,rfl,⟨_,e,rfl⟩,call_meets F.slot_list_mul ⟨_,e,rfl⟩ F.entry_list_mul (F.args_list_mul_2 _ _) (AutoListH.list___mul___list_int_3 l its.toArray n k t hfit hcap Jz) ⟨e,?_⟩⟩)
 rw [hnew]
 exact ⟨.ref _,_,I.Sb (t':=s.toks) (r.rep k.toNat) (by rw [len_rep,Nat.mul_comm];exact hz),rfl,q _ I.fresh⟩
end
section
variable {prog:Program} {w:World} {A:Around} {E:Value->Shared->Prop} {s:Shared}
end
section
variable {X:Cx}
end
end L2
namespace Uw
open PySem PySem.W PySem.Calls PyProof.Rows
theorem rY {P:Params} {h:Heap} : ∀ (ns:List Int) (vs:List Value),WellAll P h vs (ns.map WData.int)->IntsAre vs ns:=by
 intro ns
 induction ns with
 | nil =>
   intro vs w
   rw [List.map_nil] at w
   cases w
   exact .nil
 | cons n ns ih =>
   intro vs w
   rw [List.map_cons] at w
   cases w with
   | cons a b =>
     cases a
     exact .cons _ _ (ih _ b)
theorem G4 {l:OpenLaw} {n:Nat} (hn:l.most=some n) {P:Params} {h:Heap} {args:List WData} {vals:List Value}
  (hpre:l.row.toRowW.claim.pre args=true) (hwl:WellAll P h vals args) :
  ∃ a vs ns,vals = [Value.ref a]/\args = [WData.list (ns.map WData.int)]/\h.get? a=some { cls := .type "list",data := .seq vs.toArray } ∧ IntsAre vs ns/\ns.length<=n:=by
 have hsh:WShape.hasAll [] args [.list .int]=true:=(pre_splitW hpre).1
 have hc:l.pre.holds [] { args:=args } = true:=(pre_splitW hpre).2
 obtain ⟨d,r,rfl,h1,h2⟩:=hasAllW_cons hsh
 obtain rfl:=hasAllW_nil h2
 obtain ⟨xs,rfl,h3⟩:=hasW_list h1
 obtain ⟨ns,rfl⟩:=items_int h3
 have hlen:ns.length<=n:=by
  unfold OpenLaw.pre at hc
  have h4:(WTm.not (.lt (.lit (.int (n:Int))) (.len (.arg 0)))).holds [] { args:=[.list (ns.map .int)] } = true:=by
   have h4:=(holds_andW hc).1
   rw [hn] at h4
   exact h4
  have h5:=condW_of h4 (w_not (w_lt w_lit (w_len_list (w_arg rfl))))
  rw [List.length_map] at h5
  refine Nat.le_of_not_lt λ q => ?_
  have q':(n:Int) < ((ns.length:Nat):Int):=by omega
  first
   | (rw [decide_eq_true q'] at h5;exact absurd h5 (by decide))
   | (simp at h5;omega)
 cases hwl with
 | cons w1 w2 =>
   cases w2
   cases w1 with
   | list ho hall=>exact ⟨_,_,ns,rfl,rfl,ho,rY ns _ hall,hlen⟩
theorem G5 (l:OpenLaw) (args:List WData):l.row.toRowW.claim.post args (.bool true) args=true :=
 postW_of (r:=l.row.toRowW) (X:=(true == true))
  (show WShape.has [] (.bool true) .bool=true by first | rfl | decide | simp [WShape.has,WShape.arms,WShape.armsAll])
  (show (WTm.eq .res (.lit (.bool true))).value [] { args:=args,res:=some (.bool true),after:=args } = some (.bool (true == true)) from w_eq_bool (w_res rfl) w_lit) rfl
section
variable {prog:Program} {w:World} {A:Around} {E:Value->Shared->Prop} {s:Shared} {K:Frag}
def ledger (h:Heap) (L d:Addr):List (Addr×Obj):=(List.range h.objs.size).filterMap λ a=>if a=L\/a=d then none else (h.get? a).map λ o=>(a,o)
end
end Uw
namespace L2
open PySem PySem.Spec PyProof.Rows
theorem zw : ∀ {vs:List Value} {ns:List Int},IntsAre vs ns->Vals (ns.map V.int) vs
 | _,_,.nil => .nil
 | _,_,.cons n t h => .cons ⟨t,rfl⟩ (zw h)
def Mz (H:Hp):Prop := ∀ b,H b=none ∨ ∃ o xs,H b=some (.BX o (.lst xs))
theorem JB {P:Program} {w:World} {K:PySem.W.Frag} {mg mb:Str->Option Value} {CX:GY} {k:Nat} {fa a:Addr} {fd:FuncData} {x:Str} {sp:Sp} {s₁ : Shared} {vs:List Value} {ns:List Int}
  (KX:K.In s₁.heap) (hns:s₁.heap.Ns mainGlobals mg) (hb:s₁.heap.Ns builtinsNs mb) (Se : ∀ x:Str,x ≠ "__name__"->mb x=bootBuiltins x) (hlim:s₁.heap.NoLimit) (hg:s₁.gens = #[])
  (ha:s₁.heap.get? a=some { cls := .type "list",data := .seq vs.toArray }) (hi:IntsAre vs ns) (hl:ns.length<=sizeLine) (hr:cL k callerA)
  (F : ∀ base:Heap,K.In base->base.Ns mainGlobals mg->fO P w K mg base CX k fa fd [x] sp) (hbind : ∀ (s:Shared) (u:Value),BindsTo s fd ⟨[u],[]⟩ [(x,u)])
  (DL : ∀ H:Hp,Mz H->fE K H a (ns.map V.int)->sp [.ref a] H (λ v _=>v = .bl true) λ _ _ _=>False)
  (hCX : ∀ H e s',CX [] H s₁ (λ _ _ _=>False) e s'->False) :
  codeAny (model P w) callerA (.call (.ref fa) ⟨[.ref a],[]⟩) (λ r s'=>r = .ok (.ret (.bool true))/\OldK s₁.heap s'.heap/\s'.os=s₁.os/\AllBare s'.gens) s₁ := by
 have rv:=zw hi
 have VG:=hi.length
 -- from an abstract heap in which nothing but LX script may be tracked
 have core : ∀ H:Hp,Mz H->fE K H a (ns.map V.int)->jJ P w H s₁.heap->(∀ b,H b≠none->b=a)->(H a≠none->K.lookup a=none) →
   codeAny (model P w) callerA (.call (.ref fa) ⟨[.ref a],[]⟩) (λ r s'=>r = .ok (.ret (.bool true))/\OldK s₁.heap s'.heap/\s'.os=s₁.os/\AllBare s'.gens) s₁ := by
  intro H hO hS hok hA hK
  have Gh : ∀ {b:Addr} {o:Obj},s₁.heap.get? b=some o->H b=none->(zQ s₁.heap H).get? b=some o:=λ e n=>IS e n
  have R0 : ∀ {b:Addr} {o:Obj} {es:Array DictEntry} {ep:Nat},s₁.heap.get? b=some o->o.data = .dict es ep->H b=none:=fun {b o es ep} e d=>by
   cases q:H b with
   | none=>rfl
   | some u =>
     have e':b=a:=hA b (by rw [q];simp)
     subst e'
     rw [ha] at e;cases e
     have d':Data.seq vs.toArray _=Data.dict es ep:=d
     cases d'
  have Ux : ∀ {b:Addr} {m:Str->Option Value},s₁.heap.Ns b m->(zQ s₁.heap H).Ns b m:=fun {b m} ⟨o,es,ep,e,d,r⟩=>⟨o,es,ep,Gh e (R0 e d),d,r⟩
  have hKb:K.In (zQ s₁.heap H):=λ b o e=>Gh (KX b o e) (by
   cases q:H b with
   | none=>rfl
   | some u =>
     have e':b=a:=hA b (by rw [q];simp)
     subst e'
     rw [hK (by rw [q];simp)] at e;cases e)
  have hM:Mod K mg (zQ s₁.heap H):=⟨hKb,Ux hns,⟨mb,Ux hb,Se⟩,let ⟨mc,h1,h2⟩:=hlim; ⟨mc,Ux h1,h2⟩⟩
  have e0:DY P w K mg (zQ s₁.heap H) callerA [] s₁ H:=⟨rfl,hM,λ b o e=>Ma e,Nat.le_of_eq (GO _ _),trivial,λ b hb=>absurd (show b∈([]:List Addr) from hb) (by simp),hok,.of_eq hg⟩
  refine codeAny_mono ((F _ hKb (Ux hns)).run callerA [] s₁ H ⟨[.ref a],[]⟩ [.ref a] [.ref a] _ _ hr e0 (hbind s₁ (.ref a)) (.cons rfl .nil) (DL H hO hS)) λ r s' h => ?_
  cases r with
  | error e=>exact (hCX H e s' h).elim
  | ok fl =>
    cases fl with
    | next=>exact False.elim h
    | brk=>exact False.elim h
    | cont=>exact False.elim h
    | ret u =>
      obtain ⟨v,H',os,bare,un,VH,r',q⟩:=h
      have q':v = .bl true:=q
      subst q'
      obtain rfl:u=Value.bool true:=r'
      refine ⟨rfl,OldK.of_keep λ b o e => ?_,os,bare⟩
      cases q:H b with
      | none=>exact un.keep b o e q (by intro z;exact absurd (show b∈([]:List Addr) from z) (by simp)) (by simp)
      | some u =>
        rcases hO b with z | ⟨ob,xs,z⟩
        ·rw [q] at z;cases z
        ·have z2:=un.jK b ob _ z
         obtain ⟨e1,_⟩:=hok b _ z
         obtain ⟨e2,_⟩:=VH b _ z2
         rw [e] at e1;cases e1
         exact e2
 cases hk:K.lookup a with
 | some o =>
   -- LX script is one of LX Jy own objects
   have e:=KX a o hk
   rw [ha] at e
   cases e
   refine core (λ _=>none) (λ _ => .inl rfl) (.inr ⟨_,vs.toArray,_,hk,rfl,rfl,rfl,by rw [List.size_toArray,VG];exact hl,by simpa using rv⟩) (λ b u z=>by have z':(none:Option HO)=some u:=z;cases z') (λ b z=>absurd rfl z) λ z=>absurd rfl z
 | none =>
   refine core (λ b=>if b=a then some (.BX { cls := .type "list",data := .seq vs.toArray } (.lst (ns.map V.int))) else none) (λ b => ?_) (.inl (.inr ⟨{ cls := .type "list",data := .seq vs.toArray },if_pos rfl⟩)) (λ b u z => ?_) (λ b z => ?_) λ _=>hk
   ·by_cases hb:b=a
    ·exact .inr ⟨_,_,if_pos hb⟩
    ·exact .inl (if_neg hb)
   ·by_cases hb:b=a
    ·have z':=(if_pos hb).symm.trans z
     cases z'
     subst hb
     exact ⟨ha,by rw [List.length_map];exact hl,vs,_,rv,ha⟩
    ·have z':=(if_neg hb).symm.trans z
     cases z'
   ·by_cases hb:b=a
    ·exact hb
    ·exact absurd (if_neg hb) z
end L2
namespace L2
open PySem PySem.Spec PyProof.Rows
abbrev KOf {K:PySem.W.Frag} {h:Heap} (_:K.In h):PySem.W.Frag:=K
end L2
/- THE aeG Uy (shape; LID,My.* are aer):
   My.Adr: a structure of LX addresses aeH aeI aes names (classes,Ry); My.Txt K t: a structure (Prop) of LX equations over K;
   My.D7 : {K} {implicit addresses ..} (e1:nsIn K mainGlobals "law" = some (some (.ref f))) (e2:K.lookup f=some ⟨oc,od,.func (fnOf "law" "law" params body scope dV kV doc pm an cdv ct),sl⟩) (e3:codeIn K cdv "law" = true) .. : ∃ t,My.Txt K t
set_option maxRecDepth 100000 in
set_option maxHeartbeats 0 in
theorem PySem.Challenge.cw_LID_holds : PySem.Challenge.rw_LID.Holds := by
 w_on;o_law;k_head; (case hw=>w_witness2)
 k_fill
 refine L2.Uz (l := PySem.Challenge.rw_LID) (n := 63) (k := 40) (x := "script") (CX := fun w => ..) (sp := fun _ => My.VI) rfl (by decide) rfl ⟨rfl, by decide, by decide⟩ (fun w h Y => PySem.W.kIn_of Y) ?F ?S ?C
 case F =>
  intro w mg fa h KX G hmg
  have T : ∃ t,My.Txt (L2.KOf KX) t:=by
   dsimp only [L2.KOf]                          -- K aeJ stand as «<heap const> w.params» for k_is
   refine' My.D7 ?e1 ?e2 ?e3 ..
   (case e1=>PySem.W.k_is)                    -- in LX order: a name -> its address -> its object -> its parts
   (case e2=>PySem.W.k_is)
   ..
  obtain ⟨t,T⟩:=T
  have e0:=hmg.symm.trans (PySem.W.mg_of KX G T.law)
  cases e0                                       -- fa is LX aet own address
  exact ⟨_,λ s u => .of_eq rfl,λ base kb nb=>My.PN T kb nb⟩     -- if «.of_eq rfl» comes too early: refine' ⟨_,?b,λ base kb nb=>My.PN T kb nb⟩;exact λ s u => .of_eq rfl
 case S=>exact λ w H a ns hl hO hS => ..
 case C=>exact ..
(LX tactic k_is has no namespace: write k_is) -/
namespace L2
open PySem PySem.Spec PyProof.Rows
def inClass (s:Stmt) (j:Nat):Stmt:=match s with
 | .ClassDef _ _ _ body _ _ _ _ _ _ _=>body.getD j (.Pass ⟨0,0,0,0⟩)
 | _ => .Pass ⟨0,0,0,0⟩
def ay (s:Stmt):Arguments:=match s with
 | .FunctionDef _ a _ _ _ _ _ _ _ _=>a
 | _ => { posonlyargs:=[],args:=[],vararg:=none,kwonlyargs:=[],kw_defaults:=[],kwarg:=none,defaults:=[] }
def aq (s:Stmt):List Stmt:=match s with
 | .FunctionDef _ _ b _ _ _ _ _ _ _=>b
 | _=>[]
def af (s:Stmt):Scope:=match s with
 | .FunctionDef _ _ _ _ _ _ sc _ _ _=>sc
 | _ => { kind := .function,names:=[],isGenerator:=false,isCoroutine:=false }
abbrev CX0:GY:=λ _ _ _ _ _ _=>False
abbrev E0:XK:=λ _ _ _=>False
structure G6 (K:PySem.W.Frag) (x qual:Str) (st:Stmt) (f:Addr) (fd:FuncData):Prop where
 ex : ∃ (oc:Value) (od:Option Addr) (kV doc pm:Value) (an:Option Addr) (cdv ct:Value) (osl:Array (Option Value)),
  fd=PySem.W.fnOf x qual (ay st) (aq st) (af st) .none kV doc pm an cdv ct/\K.lookup f=some ⟨oc,od,.func fd,osl⟩/\PySem.W.codeIn K cdv qual=true
 kp:PySem.W.keepIn K (.ref f)=true
section
variable {P:Program} {w:World} {K:PySem.W.Frag} {mg:Str->Option Value} {base:Heap}
theorem G6.ok {x qual:Str} {st:Stmt} {f:Addr} {fd:FuncData} {N ps:List Str} {k:Nat} {sp:Sp} (F:G6 K x qual st f fd) (S:aA N ps (af st)) (len : ∀ vs H Q E,sp vs H Q E->vs.length=ps.length)
  (hbody : ∀ (cdv:Value) (A:Around) (outer:List Env) (s:Shared) (H:Hp) (vs:List V) (Q:VK) (E:XK),cL k (A.deeper (envOfC qual (af st) s.heap.objs.size f cdv))->sp vs H Q E →
   ∃ t,zg (uo CX0 P w K mg base N qual (af st) f cdv A outer s H E).BY (aq st) t/\t { nx:=λ _ H'=>Q .aH H',rt:=Q } (start N vs) H):fO P w K mg base CX0 (k+1) f fd ps sp:=by
 obtain ⟨oc,od,kV,doc,pm,an,cdv,ct,osl,rfl,lk,hcd⟩:=F.ex
 refine zq lk hcd S len λ A outer s H vs Q E hr DL => ?_
 obtain ⟨t,h,q⟩:=hbody cdv A outer s H vs Q E hr DL
 exact ⟨t,h.BY,q⟩
theorem G6.binds {x qual:Str} {st:Stmt} {f:Addr} {fd:FuncData} {ps:List Str} (F:G6 K x qual st f fd)
  (h : ∀ (kV doc pm:Value) (an:Option Addr) (cdv ct:Value) (us:List Value),us.length=ps.length->bindArgs (PySem.W.fnOf x qual (ay st) (aq st) (af st) .none kV doc pm an cdv ct) ⟨us,[]⟩ = pure (ps.zip us)):Binds K fd ps []:=by
 obtain ⟨oc,od,kV,doc,pm,an,cdv,ct,osl,rfl,lk,hcd⟩:=F.ex
 exact .all (h kV doc pm an cdv ct)
theorem D8 {x qual:Str} {st:Stmt} {f:Addr} {oc:Value} {od an:Option Addr} {osl:Array (Option Value)} {kV doc pm cdv ct:Value} (l:K.lookup f=some ⟨oc,od,.func (PySem.W.fnOf x qual (ay st) (aq st) (af st) .none kV doc pm an cdv ct),osl⟩)
  (c:PySem.W.codeIn K cdv qual=true) (k:PySem.W.keepIn K (.ref f)=true):G6 K x qual st f (PySem.W.fnOf x qual (ay st) (aq st) (af st) .none kV doc pm an cdv ct):=⟨⟨oc,od,kV,doc,pm,an,cdv,ct,osl,rfl,l,c⟩,k⟩
end
section
variable {X:Cx}
theorem pv (i:Nat) {x:Str} {pos:Pos} (hN:X.N[i]? = some x:=by rfl) (hv:O8 X.env.scope x:=by first | exact Or.inl rfl | exact Or.inr (Or.inl rfl) | exact Or.inr (Or.inr rfl)) (hd:(x == ("__debug__" : Str))=false:=by decide)
  (hcd:(x == ("__classdict__" : Str))=false:=by decide):PE X (.Name x pos) (GQ i):=DO hN hv hd hcd
theorem ao (i:Nat) {x:Str} {pos:Pos} (h:X.N[i]? = some x/\O8 X.env.scope x/\(x == ("__debug__" : Str))=false/\(x == ("__classdict__" : Str))=false):PE X (.Name x pos) (GQ i):=DO h.1 h.2.1 h.2.2.1 h.2.2.2
theorem G7:jZ X (.builtin "len") (λ xs H Q => ∃ a kvs,xs = [V.ref a]/\H a=some (.dK kvs)/\Q (.int kvs.length) H):=by
 intro pins s σ H xs us Q I r h
 obtain ⟨a,kvs,rfl,ha,q⟩:=h
 obtain ⟨u,rfl,ru⟩:=vals1 r
 cases ru
 exact R6 I (.inl ha) λ t s' I'=>⟨.int kvs.length,H,I',⟨t,rfl⟩,q⟩
end
theorem Sf {A B:Prop} (h:B):if false=true then A else B:=by
 rw [if_neg Bool.false_ne_true]
 exact h
theorem Sg {A B:Prop} (h:A):if true=true then A else B:=by
 rw [if_pos rfl]
 exact h
theorem VJ {c A B:Prop} [Decidable c] (h1:c->A) (h2 : ¬ c->B):if c then A else B:=by
 by_cases h:c
 ·rw [if_pos h]
  exact h1 h
 ·rw [if_neg h]
  exact h2 h
def jM (H H':Hp):Prop := ∀ b o,H b=some o->H' b=some o
theorem jM.trans {H H1 H2:Hp} (a:jM H H1) (b:jM H1 H2):jM H H2:=λ c o h=>b c o (a c o h)
theorem jM.free {H H':Hp} (e:jM H H') {l:Addr} (h:H' l=Option.none):H l=Option.none:=by
 cases q:H l with
 | none=>rfl
 | some o =>
   rw [e l o q] at h
   cases h
theorem jM.seq {K:PySem.W.Frag} {H H':Hp} {a:Addr} {xs:List V} (e:jM H H') (h:fE K H a xs):fE K H' a xs:=by
 rcases h with (h | ⟨o,h⟩) | h
 ·exact .inl (.inl (e _ _ h))
 ·exact .inl (.inr ⟨o,e _ _ h⟩)
 ·exact .inr h
section
variable {κ : Type} [DecidableEq κ]
theorem JC {kvs:List (κ × V)} {k : κ} (h:bA kvs k=none) : ¬ k∈kvs.map (·.1):=by
 intro m
 obtain ⟨p,hp,e⟩:=List.mem_map.mp m
 have q:(kvs.any λ kv=>decide (kv.1=k))=true:=List.any_eq_true.mpr ⟨p,hp,decide_eq_true e⟩
 rw [fP,h] at q
 exact absurd q (by simp)
theorem MA {kvs:List (κ × V)} {k : κ} {v:V} (h:bA kvs k=some v):k∈kvs.map (·.1):=by
 have q:(kvs.any λ kv=>decide (kv.1=k))=true:=by
  rw [fP,h]
  all_goals rfl
 obtain ⟨p,hp,e⟩:=List.any_eq_true.mp q
 exact List.mem_map.mpr ⟨p,hp,of_decide_eq_true e⟩
theorem lz {p : κ × V} {r:List (κ × V)} {k : κ} (e:p.1=k):bz (p::r) k=bz r k:=by
 unfold bz
 rw [List.filter_cons,if_neg (by simp [e])]
theorem iS {p : κ × V} {r:List (κ × V)} {k : κ} (e : ¬ p.1=k):bz (p::r) k=p::bz r k:=by
 unfold bz
 rw [List.filter_cons,if_pos (by simp [e])]
theorem Cj : ∀ {kvs:List (κ × V)} {k : κ},¬ k∈kvs.map (·.1)->bz kvs k=kvs
 | [],_,_=>rfl
 | p::r,k,h=>by
   have h' : ¬ k∈r.map (·.1):=λ m=>by
    obtain ⟨q,hq,e⟩:=List.mem_map.mp m
    exact h (List.mem_map.mpr ⟨q,List.mem_cons.mpr (Or.inr hq),e⟩)
   rw [iS λ e=>h (List.mem_map.mpr ⟨p,List.mem_cons.mpr (Or.inl rfl),e⟩),Cj h']
theorem zx {kvs:List (κ × V)} {k : κ} {p : κ × V} (h:p∈bz kvs k):p∈kvs:=(List.mem_filter.mp h).1
theorem uw : ∀ {kvs:List (κ × V)} {k : κ},(kvs.map (·.1)).Nodup->((bz kvs k).map (·.1)).Nodup
 | [],_,_=>List.nodup_nil
 | p::r,k,h=>by
   have h:(p.1::r.map (·.1)).Nodup:=h
   obtain ⟨h1,h2⟩:=List.nodup_cons.mp h
   by_cases e:p.1=k
   ·rw [lz e]
    exact uw h2
   ·rw [iS e]
    show (p.1::(bz r k).map (·.1)).Nodup
    refine List.nodup_cons.mpr ⟨λ m=>h1 ?_,uw h2⟩
    obtain ⟨q,hq,eq⟩:=List.mem_map.mp m
    exact List.mem_map.mpr ⟨q,zx hq,eq⟩
end
end L2
namespace L2
open PySem PySem.Spec PyProof.Rows
structure JD (P:Program) (w:World) (l:List Env) (H:Hp) (h0:Heap) (H':Hp) (h:Heap) (ea:Addr) (cls:Value):Prop where
 un:Un (frs l) [] H H' h0 h
 hok:jJ P w H' h
 new:h0.get? ea=none
 VL : ∃ B a0,Heap.FlyingW B l ea cls a0 h/\(∀ b u o,H' b=some u->h.get? b=some o->B.get? b=some o) ∧ ∀ b o o',h0.get? b=some o->h.get? b=some o'->b ∉ frs l->B.get? b=some o'
def tY (P:Program) (w:World):GY:=λ outer H s E e s' => ∃ (H':Hp) (ea:Addr) (cls:Value),e = .ref ea/\s'.os=s.os/\AllBare s'.gens/\JD P w outer H s.heap H' s'.heap ea cls/\E cls none H'
theorem aB {P:Program} {w:World} {X:Cx} : Passes (tY P w) X E0:=λ _ _ _ _ _ _ _ ⟨_,_,_,_,_,_,_,h⟩=>h.elim
def Def (K:PySem.W.Frag) (mg:Str->Option Value) (x:Str) (st:Stmt):Prop := ∃ f fd,mg x=some (.ref f)/\G6 K x x st f fd
structure bX (P:Program) (w:World) (K:PySem.W.Frag) (mg:Str->Option Value) (base:Heap) (k:Nat) (x:Str) (ps:List Str) (sp:Sp):Prop where
 ex : ∃ f fd,mg x=some (.ref f)/\PySem.W.keepIn K (.ref f)=true/\Binds K fd ps []/\fO P w K mg base (tY P w) k f fd ps sp
theorem bX.mono {P:Program} {w:World} {K:PySem.W.Frag} {mg:Str->Option Value} {base:Heap} {j k:Nat} {x:Str} {ps:List Str} {sp:Sp} (F:bX P w K mg base j x ps sp) (h:j<=k):bX P w K mg base k x ps sp:=by
 obtain ⟨f,fd,h1,h2,h3,h4⟩:=F.ex
 exact ⟨f,fd,h1,h2,h3,h4.mono h⟩
section
variable {P:Program} {w:World} {K:PySem.W.Frag} {mg:Str->Option Value} {base:Heap}
theorem G6.okN {x qual:Str} {st:Stmt} {f:Addr} {fd:FuncData} {N ps:List Str} {k:Nat} {sp:Sp} (F:G6 K x qual st f fd) (S:aA N ps (af st)) (len : ∀ vs H Q E,sp vs H Q E->vs.length=ps.length)
  (hbody : ∀ (cdv:Value) (A:Around) (outer:List Env) (s:Shared) (H:Hp) (vs:List V) (Q:VK) (E:XK),cL k (A.deeper (envOfC qual (af st) s.heap.objs.size f cdv))->sp vs H Q E →
   ∃ t,zg (uo (tY P w) P w K mg base N qual (af st) f cdv A outer s H E).BY (aq st) t/\t { nx:=λ _ H'=>Q .aH H',rt:=Q } (start N vs) H):fO P w K mg base (tY P w) (k+1) f fd ps sp:=by
 obtain ⟨oc,od,kV,doc,pm,an,cdv,ct,osl,rfl,lk,hcd⟩:=F.ex
 refine zq lk hcd S len λ A outer s H vs Q E hr DL => ?_
 obtain ⟨t,h,q⟩:=hbody cdv A outer s H vs Q E hr DL
 exact ⟨t,h.BY,q⟩
theorem Def.ok {x:Str} {st:Stmt} {N ps:List Str} {k:Nat} {sp:Sp} (D:Def K mg x st) (S:aA N ps (af st)) (len : ∀ vs H Q E,sp vs H Q E->vs.length=ps.length)
  (hb : ∀ (kV doc pm:Value) (an:Option Addr) (cdv ct:Value) (us:List Value),us.length=ps.length->bindArgs (PySem.W.fnOf x x (ay st) (aq st) (af st) .none kV doc pm an cdv ct) ⟨us,[]⟩ = pure (ps.zip us))
  (hbody : ∀ (f:Addr) (cdv:Value) (A:Around) (outer:List Env) (s:Shared) (H:Hp) (vs:List V) (Q:VK) (E:XK),cL k (A.deeper (envOfC x (af st) s.heap.objs.size f cdv))->sp vs H Q E →
   ∃ t,zg (uo (tY P w) P w K mg base N x (af st) f cdv A outer s H E).BY (aq st) t/\t { nx:=λ _ H'=>Q .aH H',rt:=Q } (start N vs) H):bX P w K mg base (k+1) x ps sp:=by
 obtain ⟨f,fd,hm,F⟩:=D
 refine ⟨f,fd,hm,F.kp,F.binds hb,?_⟩
 obtain ⟨oc,od,kV,doc,pm,an,cdv,ct,osl,rfl,lk,hcd⟩:=F.ex
 refine zq lk hcd S len λ A outer s H vs Q E hr DL => ?_
 obtain ⟨t,h,q⟩:=hbody f cdv A outer s H vs Q E hr DL
 exact ⟨t,h.BY,q⟩
end
section
variable {X:Cx} {k:Nat} {ps:List Str} {sp:Sp} {E:XK} {x:Str} {p pos:Pos} {e:Expr} {es:List Expr} {t:TA}
theorem az (F:bX X.prog X.w X.K X.mg X.base k x ps sp) (hr:cL k X.A) (hg:Gl X x) (hx:Passes (tY X.prog X.w) X E) (ha:PA X (e::es) t)
  (hdb:(x == ("__debug__" : Str))=false:=by decide) (he:starEach (e::es) X.env=(false,eval e X.env)::starEach es X.env:=by rfl) (hpl:(backTo pos (starEach es X.env)).any (·.1)=false:=by rfl) :
  PE X (.Call (.Name x p) (e::es) [] pos) (Ca sp [] E t):=by
 obtain ⟨f,fd,h1,h2,h3,h4⟩:=F.ex
 exact Mm h4 hr hg h1 h2 h3 .nil hx ha hdb he hpl
end
section
variable {X:Cx}
def VM (K:PySem.W.Frag):List V->Hp->VK->Prop:=λ xs H Q => ∃ x c t b,xs = [x,c]/\nS K H x t/\((∃ n,c = .ty n/\PySem.W.kitOne K t (.type n)=some b) ∨ ∃ a,c = .ref a/\PySem.W.kitOne K t (.ref a)=some b)/\Q (.bl b) H
theorem JE:jZ X (.builtin "isinstance") (VM X.K):=by
 intro pins s σ H xs us Q I r h
 obtain ⟨x,c,t,b,rfl,ty,hc,q⟩:=h
 obtain ⟨u,v,rfl,ru,rv⟩:=Vals.two r
 rcases hc with ⟨n,rfl,e⟩ | ⟨a,rfl,e⟩
 ·cases (show v=Value.type n from rv)
  exact zh I ru ty e λ tk=>⟨.bl b,H,I.tok tk,rfl,q⟩
 ·cases (show v=Value.ref a from rv)
  exact zh I ru ty e λ tk=>⟨.bl b,H,I.tok tk,rfl,q⟩
end
theorem aO:bootBuiltins "isinstance" = some (.builtin "isinstance"):=by decide +kernel
theorem dX:bootBuiltins "len" = some (.builtin "len"):=by decide +kernel
theorem JF:bootBuiltins "int" = some (.type "int"):=by decide +kernel
theorem tZ:bootBuiltins "bool" = some (.type "bool"):=by decide +kernel
theorem JG:bootBuiltins "str" = some (.type "str"):=by decide +kernel
theorem bZ:bootBuiltins "list" = some (.type "list"):=by decide +kernel
theorem nY:bootBuiltins "tuple" = some (.type "tuple"):=by decide +kernel
structure iK (mg:Str->Option Value):Prop where
 isinstance:mg "isinstance" = none
 len:mg "len" = none
 int:mg "int" = none
 bool:mg "bool" = none
 str:mg "str" = none
 list:mg "list" = none
 tuple:mg "tuple" = none
 dict:mg "dict" = none
 range:mg "range" = none
 sorted:mg "sorted" = none
 min:mg "min" = none
 max:mg "max" = none
 all:mg "all" = none
 any:mg "any" = none
 enumerate:mg "enumerate" = none
 sum:mg "sum" = none
 ValueError:mg "ValueError" = none
theorem PR {K:PySem.W.Frag} {h:Heap} {mg:Str->Option Value} (X:K.In h) (G:h.Ns mainGlobals mg)
  (z0:PySem.W.nsIn K mainGlobals "isinstance" = some none)
  (z1:PySem.W.nsIn K mainGlobals "len" = some none)
  (z2:PySem.W.nsIn K mainGlobals "int" = some none)
  (z3:PySem.W.nsIn K mainGlobals "bool" = some none)
  (z4:PySem.W.nsIn K mainGlobals "str" = some none)
  (z5:PySem.W.nsIn K mainGlobals "list" = some none)
  (z6:PySem.W.nsIn K mainGlobals "tuple" = some none)
  (z7:PySem.W.nsIn K mainGlobals "dict" = some none)
  (z8:PySem.W.nsIn K mainGlobals "range" = some none)
  (z9:PySem.W.nsIn K mainGlobals "sorted" = some none)
  (UA:PySem.W.nsIn K mainGlobals "min" = some none)
  (UB:PySem.W.nsIn K mainGlobals "max" = some none)
  (UC:PySem.W.nsIn K mainGlobals "all" = some none)
  (UD:PySem.W.nsIn K mainGlobals "any" = some none)
  (UE:PySem.W.nsIn K mainGlobals "enumerate" = some none)
  (UG:PySem.W.nsIn K mainGlobals "sum" = some none)
  (UH:PySem.W.nsIn K mainGlobals "ValueError" = some none)
  : iK mg:=⟨PySem.W.mg_none_of X G z0,PySem.W.mg_none_of X G z1,PySem.W.mg_none_of X G z2,PySem.W.mg_none_of X G z3,PySem.W.mg_none_of X G z4,PySem.W.mg_none_of X G z5,PySem.W.mg_none_of X G z6,PySem.W.mg_none_of X G z7,PySem.W.mg_none_of X G z8,PySem.W.mg_none_of X G z9,PySem.W.mg_none_of X G UA,PySem.W.mg_none_of X G UB,PySem.W.mg_none_of X G UC,PySem.W.mg_none_of X G UD,PySem.W.mg_none_of X G UE,PySem.W.mg_none_of X G UG,PySem.W.mg_none_of X G UH⟩
theorem bq {K:PySem.W.Frag} {h:Heap} {mg:Str->Option Value} {x:Str} {st:Stmt} {f:Addr} {oc:Value} {od an:Option Addr} {osl:Array (Option Value)} {kV doc pm cdv ct:Value} (X:K.In h) (G:h.Ns mainGlobals mg)
  (a:PySem.W.nsIn K mainGlobals x=some (some (.ref f))) (l:K.lookup f=some ⟨oc,od,.func (PySem.W.fnOf x x (ay st) (aq st) (af st) .none kV doc pm an cdv ct),osl⟩)
  (c:PySem.W.codeIn K cdv x=true) (k:PySem.W.keepIn K (.ref f)=true):Def K mg x st:=⟨f,_,PySem.W.mg_of X G a,D8 l c k⟩
theorem Sh {P:Program} {w:World} {K:PySem.W.Frag} {mg:Str->Option Value} {st:Stmt} {fa:Addr} {k:Nat} {sp:Sp} {x:Str} (D:Def K mg "law" st) (hmg:mg "law" = some (.ref fa))
  (hb : ∀ (kV doc pm:Value) (an:Option Addr) (cdv ct u:Value),bindArgs (PySem.W.fnOf "law" "law" (ay st) (aq st) (af st) .none kV doc pm an cdv ct) ⟨[u],[]⟩ = pure [(x,u)])
  (ok : ∀ (base:Heap) (f:Addr) (fd:FuncData),G6 K "law" "law" st f fd->fO P w K mg base (tY P w) k f fd [x] sp) :
  ∃ fd:FuncData,(∀ (s:Shared) (u:Value),BindsTo s fd ⟨[u],[]⟩ [(x,u)]) ∧ ∀ base:Heap,K.In base->base.Ns mainGlobals mg->fO P w K mg base (tY P w) k fa fd [x] sp:=by
 obtain ⟨f,fd,hm,F⟩:=D
 rw [hm] at hmg
 cases hmg
 obtain ⟨oc,od,kV,doc,pm,an,cdv,ct,osl,rfl,lk,hcd⟩:=id F.ex
 exact ⟨_,λ s u => .of_eq (hb kV doc pm an cdv ct u),λ base _ _=>ok base _ _ F⟩
end L2
namespace L2
open PySem PySem.Spec PyProof.Rows
def Is {α : Sort _} (a b : α):Prop:=a=b
theorem Is.eq {α : Sort _} {a b : α} (h:Is a b):a=b:=h
theorem Is.rfl {α : Sort _} {a : α} : Is a a:=Eq.refl a
theorem VN {t u:TS} {D:Ends} {σ : St} {H:Hp} (h : ∀ M,Is M (u D)->t { D with nx:=M } σ H):IY t u D σ H:=h _ Is.rfl
def Oi (K:PySem.W.Frag) (a:Addr) (g:TG) (tb:TS) (D:Ends) (σ : St) (H:Hp):Prop :=
 ∃ W:Nat->Nat->St->Hp->Prop,(∃ m,W 0 m σ H) ∧ ∀ i m σ H,W i m σ H →
     ((Jb K a).stop i H/\D.nx σ H)\/((Jb K a).go i H ∧ ∃ N:St->Hp->Prop,(∀ σ' H',N σ' H'->∃ m',m' < m/\W (i+1) m' σ' H') ∧ ∀ x H',(Jb K a).Mh i H x H'->g x σ H' fun σ2 H2=>tb { D with nx:=N,ct:=N,bk:=D.nx } σ2 H2)
theorem forL {K:PySem.W.Frag} {tl:TE} {g:TG} {tb:TS} {D:Ends} {σ : St} {H:Hp}
  (h : ∀ L,Is L (λ a H1=>Oi K a g tb D σ H1)->tl σ H λ x H1 => ∃ a,x = .ref a/\(∃ xs,fE K H1 a xs)/\L a H1):Ph (Jc K tl) g tb D σ H:=h _ Is.rfl
theorem Oj {K:PySem.W.Frag} {a:Addr} {g:TG} {tb:TS} {D:Ends} {σ : St} {H:Hp} (xs:List V) (Pv:Nat->St->Hp->Prop) (h0:Pv 0 σ H) (hl : ∀ i σ H,i<=xs.length->Pv i σ H->fE K H a xs)
  (hs : ∀ i x σ H,xs[i]? = some x->Pv i σ H->g x σ H fun σ2 H2=>tb { D with nx:=Pv (i+1),ct:=Pv (i+1),bk:=D.nx } σ2 H2) (hd : ∀ σ H,Pv xs.length σ H->D.nx σ H):Oi K a g tb D σ H:=Jf Pv h0 hl hs hd
def Ol (lo:Int) (n:Nat) (g:TG) (tb:TS) (D:Ends) (σ : St) (H:Hp):Prop :=
 ∃ W:Nat->Nat->St->Hp->Prop,(∃ m,W 0 m σ H) ∧ ∀ i m σ H,W i m σ H →
     ((GR lo n).stop i H/\D.nx σ H)\/((GR lo n).go i H ∧ ∃ N:St->Hp->Prop,(∀ σ' H',N σ' H'->∃ m',m' < m/\W (i+1) m' σ' H') ∧ ∀ x H',(GR lo n).Mh i H x H'->g x σ H' fun σ2 H2=>tb { D with nx:=N,ct:=N,bk:=D.nx } σ2 H2)
theorem ux {ta:TA} {g:TG} {tb:TS} {D:Ends} {σ : St} {H:Hp}
  (h : ∀ L,Is L (λ n H1=>Ol 0 n g tb D σ H1)->ta σ H λ vs H1 => ∃ j:Int,vs = [.int j] ∧ -(2 ^ 62)<=j/\j < 2 ^ 62/\L j.toNat H1):Ph (Je ta) g tb D σ H:=h _ Is.rfl
theorem uy {lo:Int} {n:Nat} {g:TG} {tb:TS} {D:Ends} {σ : St} {H:Hp} (Pv:Nat->St->Hp->Prop) (h0:Pv 0 σ H)
  (hs : ∀ i σ H,i < n->Pv i σ H->g (.int (lo+i)) σ H fun σ2 H2=>tb { D with nx:=Pv (i+1),ct:=Pv (i+1),bk:=D.nx } σ2 H2) (hd : ∀ σ H,Pv n σ H->D.nx σ H):Ol lo n g tb D σ H:=GV Pv h0 hs hd
theorem Si {c:Prop} [Decidable c] {A B:Prop} (h1:c->A) (h2 : ¬ c->B):if decide c=true then A else B:=by
 by_cases h:c
 ·rw [decide_eq_true h];exact Sg (h1 h)
 ·rw [decide_eq_false h];exact Sf (h2 h)
theorem uz {H:Hp} {a:Addr} {o:HO} (h:H a=none):jM H (upd H a o):=λ b o' e=>by rw [bN (fc e h)];exact e
end L2
namespace L2
open PySem PySem.Spec PyProof.Rows
section
variable {X:Cx}
def D9:R2:=λ x y H Q => ∃ p i,x = .ref p/\y = .int i/\((∃ xs,H p=some (.lst xs) ∧ ∃ v,jL xs i=some v/\Q v H)\/(∃ xs,H p=some (.tup xs) ∧ ∃ v,jL xs i=some v/\Q v H))
theorem aU:Rw X D9:=by
 intro value slice pins s σ H x y v u Q I rx ry h hs
 obtain ⟨p,i,e1,e2,⟨xs,hp,z,ha,q⟩ | ⟨xs,hp,z,ha,q⟩⟩:=h
 ·exact Gg value slice pins s σ H x y v u Q I rx ry ⟨p,xs,i,z,e1,e2,fE.of hp,ha,q⟩ hs
 ·exact PD value slice pins s σ H x y v u Q I rx ry ⟨p,xs,i,z,e1,e2,DK.of hp,ha,q⟩ hs
def uA:List V->Hp->VK->Prop:=λ xs H Q => ∃ p,xs = [.ref p]/\((∃ ys,H p=some (.lst ys)/\Q (.int ys.length) H)\/(∃ ys,H p=some (.tup ys)/\Q (.int ys.length) H)\/(∃ kvs,H p=some (.dK kvs)/\Q (.int kvs.length) H))
theorem bD:jZ X (.builtin "len") uA:=by
 intro pins s σ H xs us Q I r h
 obtain ⟨p,e1,⟨ys,hp,q⟩ | ⟨ys,hp,q⟩ | ⟨kvs,hp,q⟩⟩:=h
 ·exact jj pins s σ H xs us Q I r ⟨p,ys,e1,.inl (fE.of hp),q⟩
 ·exact jj pins s σ H xs us Q I r ⟨p,ys,e1,.inr (DK.of hp),q⟩
 ·exact G7 pins s σ H xs us Q I r ⟨p,kvs,e1,hp,q⟩
theorem Om {α : Type} {x : α} {xs:List α} : jL (x::xs) 0=some x:=gj (j:=0) rfl
theorem Oo {α : Type} {x y : α} {xs:List α} : jL (x::y::xs) 1=some y:=gj (j:=1) rfl
theorem Oq {α : Type} {x y z : α} {xs:List α} : jL (x::y::z::xs) 2=some z:=gj (j:=2) rfl
theorem Ot {α : Type} {x y z t : α} {xs:List α} : jL (x::y::z::t::xs) 3=some t:=gj (j:=3) rfl
theorem Ou {α : Type} {x y z t r : α} {xs:List α} : jL (x::y::z::t::r::xs) 4=some r:=gj (j:=4) rfl
def gm (t n:String):Option Bool:=PySem.W.kitOne [] (.type t) (.type n)
def IK (H:Hp):V->Option String
 | .aH=>some "NoneType"
 | .bl _=>some "bool"
 | .int _=>some "int"
 | .str _=>some "str"
 | .ref a=>match H a with
   | some (.lst _)=>some "list"
   | some (.tup _)=>some "tuple"
   | some (.dK _)=>some "dict"
   | _=>none
 | _=>none
theorem PU {K:PySem.W.Frag} {H:Hp} {x:V} {t:String} (h:IK H x=some t):nS K H x (.type t):=by
 cases x with
 | aH=>cases h;exact .aH
 | bl b=>cases h;exact .bl b
 | int i=>cases h;exact .int i
 | str i=>cases h;exact .str i
 | ref a =>
   unfold IK at h
   cases e:H a with
   | none=>simp only [e] at h;cases h
   | some o =>
     simp only [e] at h
     cases o with
     | lst xs=>cases h;exact .lst e
     | tup xs=>cases h;exact .tup e
     | dK xs=>cases h;exact .dK e
     | _=>cases h
 | _=>cases h
theorem PV (K:PySem.W.Frag) (t n:String):PySem.W.kitOne K (.type t) (.type n)=gm t n:=by
 unfold gm PySem.W.kitOne PySem.W.kitCls PySem.W.subIn
 rfl
def JH:List V->Hp->VK->Prop:=λ xs H Q => ∃ x n t b,xs = [x,.ty n]/\IK H x=some t/\gm t n=some b/\Q (.bl b) H
theorem bJ:jZ X (.builtin "isinstance") JH:=by
 intro pins s σ H xs us Q I r h
 obtain ⟨x,n,t,b,e1,e2,e3,q⟩:=h
 exact JE pins s σ H xs us Q I r ⟨x,.ty n,.type t,b,e1,PU e2,.inl ⟨n,rfl,by rw [PV];exact e3⟩,q⟩
theorem Ck:gm "int" "int" = some true:=rfl
theorem Ae:gm "int" "bool" = some false:=rfl
theorem wW:gm "bool" "bool" = some true:=rfl
theorem Af:gm "NoneType" "int" = some false:=rfl
theorem wX:gm "NoneType" "bool" = some false:=rfl
theorem Cm:gm "str" "int" = some false:=rfl
theorem Ag:gm "str" "bool" = some false:=rfl
theorem Ah:gm "list" "int" = some false:=rfl
theorem wY:gm "list" "bool" = some false:=rfl
theorem wZ:gm "tuple" "int" = some false:=rfl
theorem uB:gm "tuple" "bool" = some false:=rfl
theorem w4:gm "list" "list" = some true:=rfl
theorem rZ:gm "tuple" "tuple" = some true:=rfl
theorem uC:gm "list" "tuple" = some false:=rfl
theorem w6:gm "NoneType" "list" = some false:=rfl
theorem uD:gm "NoneType" "tuple" = some false:=rfl
theorem Cn:gm "str" "str" = some true:=rfl
end
section
variable {X:Cx} {o e:Expr} {to:TE} {t:TA} {apos pos:Pos}
end
end L2
namespace L2
open PySem PySem.Spec PyProof.Rows
theorem bI.there {P:Program} {w:World} {H:Hp} {h:Heap} {a:Addr} {o:HO} (x:bI P w H h a o) : ∃ u,h.get? a=some u:=by
 cases o with
 | lst xs=>obtain ⟨_,_,_,_,e⟩:=x;exact ⟨_,e⟩
 | tup xs=>obtain ⟨_,_,_,o,e,_⟩:=x;exact ⟨_,e⟩
 | dK kvs=>obtain ⟨_,_,_,_,o,_,_,e,_⟩:=x;exact ⟨_,e⟩
 | dT kvs=>obtain ⟨_,_,_,_,o,_,_,e,_⟩:=x;exact ⟨_,e⟩
 | set S n=>obtain ⟨o,_,_,_,e,_⟩:=x;exact ⟨_,e⟩
 | ins C dx fs=>obtain ⟨_,_,_,e,_⟩:=x;exact ⟨_,e⟩
 | own y=>obtain ⟨_,e⟩:=x;exact ⟨_,e⟩
 | xd fs=>obtain ⟨_,⟨_,_,_,e,_⟩,_⟩:=x;exact ⟨_,e⟩
 | Uo lo hi=>obtain ⟨_,_,_,e⟩:=x;exact ⟨_,e⟩
 | BX ob u=>obtain ⟨e,_⟩:=x;exact ⟨_,e⟩
 | Oc ps=>exact ⟨_,(show h.get? a=some _ from x)⟩
 | met f y=>exact ⟨_,(show h.get? a=some _ from x)⟩
 | ext φ => obtain ⟨_,⟨_,e⟩,_⟩:=x;exact ⟨_,e⟩
theorem uE {P:Program} {w:World} {l:List Env} {H H':Hp} {h0 h h2 B:Heap} (un:Un (frs l) [] H H' h0 h) (hok:jJ P w H' h) (fr:h.FunFrames B l)
  (tr : ∀ b u o,H' b=some u->h.get? b=some o->B.get? b=some o) (kp : ∀ b o o',h0.get? b=some o->h.get? b=some o'->b ∉ frs l->B.get? b=some o') (st:B.StaysIn h2) (sm:h.UpToSlots h2) :
  Un (frs l) [] H H' h0 h2/\jJ P w H' h2:=by
 refine ⟨⟨λ b o q n hb hx => ?_,λ b o q n hb hx => ?_,un.free,λ b o q hx => ?_,un.tups,un.jK,un.jX⟩,λ a o e => ?_⟩
 ·exact st b o (kp b o o q (un.keep b o q n hb hx) hb)
 ·obtain ⟨sl,e⟩:=un.slot b o q n hb hx
  obtain ⟨_,o',ho',hd⟩:=fr.mem hb
  rw [e] at ho';cases ho'
  obtain ⟨IQ,e'⟩:=sm b _ e hd
  exact ⟨IQ,e'⟩
 ·obtain ⟨o',e⟩:=un.there b o q hx
  by_cases hb:b∈frs l
  ·obtain ⟨_,o2,ho2,hd⟩:=fr.mem hb
   obtain ⟨IQ,e'⟩:=sm b _ ho2 hd
   exact ⟨_,e'⟩
  ·exact ⟨o',st b o' (kp b o o' q e hb)⟩
 ·refine (hok a o e).stay (λ b u hb q => ?_) (λ _ q=>q) λ _ _ q=>q
  rcases hb with rfl | hb
  ·exact st b u (tr b _ u e q)
  ·exact st b u (tr b _ u hb q)
theorem Gi {fs fs':List Addr} {L:Addr} {H H1 H2:Hp} {h h1 h2:Heap} (a:Un fs [] H H1 h h1) (b:Un fs' [] H1 H2 h1 h2) (hL:h.get? L=none) (sub : ∀ x∈fs',x=L\/x∈fs):Un fs [] H H2 h h2 where
 keep:=λ c ob q n hc hx=>b.keep c ob (a.keep c ob q n hc hx) (a.free c ob q n hx) (λ z=>(sub c z).elim (λ e=>by rw [e,hL] at q;cases q) hc) hx
 slot:=λ c ob q n hc hx=>by
  obtain ⟨sl,e1⟩:=a.slot c ob q n hc hx
  obtain ⟨IQ,e2⟩:=b.any e1 (a.free c ob q n hx) hx
  exact ⟨IQ,e2⟩
 free:=λ c ob q n hx=>by
  obtain ⟨o',e1⟩:=a.there c ob q hx
  exact b.free c o' e1 (a.free c ob q n hx) hx
 there:=λ c ob q hx=>by
  obtain ⟨o',e1⟩:=a.there c ob q hx
  exact b.there c o' e1 hx
 tups:=λ c xs q=>b.tups c xs (a.tups c xs q)
 jK:=λ c ob xs q=>b.jK c ob xs (a.jK c ob xs q)
 jX:=λ c ps q=>by
  obtain ⟨m1,e1⟩:=a.jX c ps q
  obtain ⟨m2,e2⟩:=b.jX c _ e1
  exact ⟨m1++m2,by rw [e2,Array.append_assoc]⟩
section
variable {P:Program} {w:World} {K:PySem.W.Frag} {mg:Str->Option Value} {base:Heap} {N:List Str} {qual:Str} {scope:Scope} {f:Addr} {cd:Value} {A:Around} {outer:List Env} {s:Shared} {H:Hp} {E:XK}
abbrev G8 (P:Program) (w:World) (K:PySem.W.Frag) (mg:Str->Option Value) (base:Heap) (N:List Str) (qual:Str) (scope:Scope) (f:Addr) (cd:Value) (A:Around) (outer:List Env) (s:Shared) (H:Hp) (E:XK):Cx :=
 uo (tY P w) P w K mg base N qual scope f cd A outer s H E
theorem j6 {L:Addr} {env:Env} {l:List Env} (h:env.frame=some L):frs (env::l)=L::frs l:=by unfold frs;rw [List.filterMap_cons,h]
theorem jA:Passes (tY P w) (G8 P w K mg base N qual scope f cd A outer s H E) E:=by
 intro pins σ H1 s1 e s' I h
 obtain ⟨H',ea,cls,rfl,os,bare,fl,hE⟩:=h
 obtain ⟨B,a0,hfl,tr,kp⟩:=fl.VL
 have fr:=hfl.2.2.1
 show wpAny _ _ (leaving _ _) _ _ s'
 refine wpAny_leaves_onW (I.ok.frames) (L:=s.heap.objs.size) rfl hfl λ h2 r4 sm => ?_
 obtain ⟨MB,Ai⟩:=uE fl.un fl.hok fr tr kp r4.1 sm
 have hfs:frs (envOfC qual scope s.heap.objs.size f cd::outer)=s.heap.objs.size::frs outer:=j6 rfl
 have hL:s.heap.get? s.heap.objs.size=none:=Heap.get?_none_of_le (Nat.le_refl _)
 have sub : ∀ x∈frs (envOfC qual scope s.heap.objs.size f cd::outer),x=s.heap.objs.size\/x∈frs outer:=λ x hx=>by rw [hfs] at hx;exact List.mem_cons.mp hx
 refine ⟨H',ea,cls,rfl,os.trans I.os,bare,⟨Gi I.base MB hL sub,Ai,?_,B,a0,r4,λ b u o e q => ?_,λ b o o2 q q2 hb => ?_⟩,hE⟩
 ·cases q:s.heap.get? ea with
  | none=>rfl
  | some o =>
    obtain ⟨o',e⟩:=I.base.there ea o q (by intro z;cases z)
    rw [fl.new] at e;cases e
 ·obtain ⟨o',e'⟩:=(fl.hok b u e).there
  have h1:=tr b u o' e e'
  have h2':=r4.1 b o' h1
  rw [q] at h2';cases h2';exact h1
 ·obtain ⟨o1,e1⟩:=I.base.there b o q (by intro z;cases z)
  obtain ⟨o',e'⟩:=fl.un.there b o1 e1 (by intro z;cases z)
  have nb:b ∉ frs (envOfC qual scope s.heap.objs.size f cd::outer):=λ z=>(sub b z).elim (λ e=>by rw [e,hL] at q;cases q) hb
  have h1:=kp b o1 o' e1 e' nb
  have h2':=r4.1 b o' h1
  rw [q2] at h2';cases h2';exact h1
theorem Aj {pins:List (Addr×Obj)} {σ : St} {H1:Hp} {s2:Shared} {h':Heap} {e C:Addr} {vs:List Value} (I:Inv (G8 P w K mg base N qual scope f cd A outer s H E) pins σ H1 s2)
  (hx:Heap.MadeExcOf s2.heap h' e (.ref C) vs) (hE:E (.ref C) none H1):(G8 P w K mg base N qual scope f cd A outer s H E).xe (.ref e) { s2 with heap:=h' } := by
 have hfs:frs (envOfC qual scope s.heap.objs.size f cd::outer)=s.heap.objs.size::frs outer:=j6 rfl
 have hL:s.heap.get? s.heap.objs.size=none:=Heap.get?_none_of_le (Nat.le_refl _)
 have sub : ∀ x∈frs (envOfC qual scope s.heap.objs.size f cd::outer),x=s.heap.objs.size\/x∈frs outer:=λ x hx=>by rw [hfs] at hx;exact List.mem_cons.mp hx
 have hin : ∀ env∈(envOfC qual scope s.heap.objs.size f cd::outer),∀ b,env.frame=some b->b∈(envOfC qual scope s.heap.objs.size f cd::outer).filterMap (·.frame):=λ env he b hb=>List.mem_filterMap.mpr ⟨env,he,hb⟩
 have fr0:s2.heap.FunFrames (PySem.W.hideAll s2.heap (frs (envOfC qual scope s.heap.objs.size f cd::outer))) (envOfC qual scope s.heap.objs.size f cd::outer):=PySem.W.funFrames_hide I.stack hin
 have kB : ∀ b o,s2.heap.get? b=some o->b ∉ frs (envOfC qual scope s.heap.objs.size f cd::outer)->(PySem.W.hideAll s2.heap (frs (envOfC qual scope s.heap.objs.size f cd::outer))).get? b=some o:=λ b o q hb=>PySem.W.hideAll_get _ q hb
 show wpAny _ _ (leaving _ _) _ _ _
 refine wpAny_leaves_madeW (s := { s2 with heap:=h' }) (base:=PySem.W.hideAll s2.heap (frs (envOfC qual scope s.heap.objs.size f cd::outer))) (h:=s2.heap) I.ok.frames (L:=s.heap.objs.size) rfl (λ b o q=>PySem.W.of_hideAll _ q) fr0 hx λ h2 t r4 _ _ sm => ?_
 have Rz : ∀ b u,H1 b=some u->b ∉ frs (envOfC qual scope s.heap.objs.size f cd::outer):=λ b u q z=>by rw [I.zR b z] at q;cases q
 have tr : ∀ b u o,H1 b=some u->h'.get? b=some o->(PySem.W.hideAll s2.heap (frs (envOfC qual scope s.heap.objs.size f cd::outer))).get? b=some o:=λ b u o q qo=>by
  obtain ⟨o',e'⟩:=(I.hok b u q).there
  have:=hx.keeps b o' e'
  rw [qo] at this;cases this
  exact kB b _ e' (Rz b u q)
 have kp : ∀ b o o',s2.heap.get? b=some o->h'.get? b=some o'->b ∉ frs (envOfC qual scope s.heap.objs.size f cd::outer)->(PySem.W.hideAll s2.heap (frs (envOfC qual scope s.heap.objs.size f cd::outer))).get? b=some o':=λ b o o' q q' hb=>by
  have:=hx.keeps b o q
  rw [q'] at this;cases this
  exact kB b _ q hb
 obtain ⟨MB,Ai⟩:=uE (l:=envOfC qual scope s.heap.objs.size f cd::outer) (H:=H1) (H':=H1) (h0:=s2.heap) (Un.kept hx.keeps) (I.hok.kept hx.keeps) (fr0.of_keeps λ b o q _=>⟨o,hx.keeps b o q,rfl⟩) tr kp r4.1 sm
 refine ⟨H1,e,.ref C,rfl,I.os,I.bare,⟨Gi I.base MB hL sub,Ai,?_,_,_,r4,λ b u o q qo => ?_,λ b o o2 q q2 hb => ?_⟩,hE⟩
 ·cases q:s.heap.get? e with
  | none=>rfl
  | some o =>
    obtain ⟨o',e'⟩:=I.base.there e o q (by intro z;cases z)
    rw [hx.new] at e';cases e'
 ·obtain ⟨o',e'⟩:=(I.hok b u q).there
  have h1:=kB b o' e' (Rz b u q)
  have h2':=r4.1 b o' h1
  rw [qo] at h2';cases h2';exact h1
 ·obtain ⟨o1,e1⟩:=I.base.there b o q (by intro z;cases z)
  have nb:b ∉ frs (envOfC qual scope s.heap.objs.size f cd::outer):=λ z=>(sub b z).elim (λ e=>by rw [e,hL] at q;cases q) hb
  have h1:=kB b o1 e1 nb
  have h2':=r4.1 b o1 h1
  rw [q2] at h2';cases h2';exact h1
end
structure Exc (K:PySem.W.Frag) (mg:Str->Option Value) (x:Str) (C:Addr):Prop where
 RA:mg x=some (.ref C)
 ex:PySem.W.excIn K C [.type "ValueError",.type "Exception",.type "BaseException",.type "object"] "ValueError.__new__" = true
theorem Exc.own {K:PySem.W.Frag} {mg:Str->Option Value} {x:Str} {C:Addr} {h:Heap} (O:Exc K mg x C) (X:K.In h):OwnCls x C [.type "ValueError",.type "Exception",.type "BaseException",.type "object"] "ValueError.__new__" mg h:=by
 refine ⟨O.RA,?_⟩
 have q:=O.ex
 unfold PySem.W.excIn at q
 split at q
 ·rename_i dd cd sl ho
  split at q
  ·rename_i C' bm k0 k1 k2 k3 n k5 hm hs
   simp only [Bool.and_eq_true,beq_iff_eq,Bool.not_eq_true'] at q
   obtain ⟨⟨⟨⟨⟨rfl,rfl⟩,Sj⟩,ht⟩,hok⟩,hni⟩:=q
   obtain ⟨nm,bs,mro,ns,qn,hd,sn,sub,ab,col,del⟩:=cd
   dsimp only at hm Sj hok hni
   subst hm Sj
   have hsl:sl = #[k0,k1,k2,k3,some (.builtin "ValueError.__new__"),k5]:=by
    obtain ⟨l⟩:=sl
    simp only at hs
    rw [hs]
   subst hsl
   exact ⟨bm,ns,nm,qn,bs,hd,sn,sub,ab,col,dd,k0,k1,k2,k3,k5,_,X _ _ ho,.of_isNs (PySem.W.isNs_of_in X hok),PySem.W.nsMap_none_of_in X hok hni,PySem.W.tail_of_in X ht⟩
  ·cases q
 ·cases q
theorem Ak {K:PySem.W.Frag} {h:Heap} {mg:Str->Option Value} {x:Str} {C:Addr} (X:K.In h) (G:h.Ns mainGlobals mg) (a:PySem.W.nsIn K mainGlobals x=some (some (.ref C)))
  (q:PySem.W.excIn K C [.type "ValueError",.type "Exception",.type "BaseException",.type "object"] "ValueError.__new__" = true):Exc K mg x C:=⟨PySem.W.mg_of X G a,q⟩
section
variable {P:Program} {w:World} {K:PySem.W.Frag} {mg:Str->Option Value} {base:Heap} {N:List Str} {qual:Str} {scope:Scope} {f:Addr} {cd:Value} {A:Around} {outer:List Env} {s:Shared} {H:Hp} {E:XK}
def JI (E:XK) (C:Addr) (ta:TA):TS:=λ _ σ H=>ta σ H λ vs H1=>vs.length<=sizeLine/\E (.ref C) none H1
theorem iT {x:Str} {C:Addr} {e₀ : Expr} {np cpos pos:Pos} {ta:TA} (O:Exc K mg x C) (hg:Gl (G8 P w K mg base N qual scope f cd A outer s H E) x) (ha:PA (G8 P w K mg base N qual scope f cd A outer s H E) [e₀] ta)
  (hd:(x == ("__debug__" : Str))=false:=by decide) (he:starEach [e₀] (G8 P w K mg base N qual scope f cd A outer s H E).env = [(false,eval e₀ (G8 P w K mg base N qual scope f cd A outer s H E).env)]:=by rfl) :
  PS (G8 P w K mg base N qual scope f cd A outer s H E) (.Raise (some (.Call (.Name x np) [e₀] [] cpos)) none pos) (JI E C ta):=by
 intro pins s1 σ H1 D I h
 have own:=O.own I.mod.O7
 obtain ⟨tl,NN,nm,q,bs,hdct,sn,sub,ab,col,dd,k0,k1,k2,k3,k5,mN,hC,hN,hni,T⟩:=own.obj
 refine wpAny_Raise_call_subT (C:=C) (nm:=nm) (q:=q) (N:=NN) (bs:=bs) (bm:=tl) (hdct:=hdct) (sn:=sn) (sub:=sub) (ab:=ab) (col:=col) (dd:=dd) (k0:=k0) (k1:=k1) (k2:=k2) (k3:=k3) (k5:=k5)
  PySem.F.excBase_ValueError (mN:=mN) (T.hasType PySem.F.excBase_ValueError.hasBase) (I.ok.hd rfl) (by rw [he];rfl) hni (lq I hg O.RA ⟨rfl,?_⟩ hd)
 rw [he]
 have ha':=ha cpos pins s1 σ H1 _ I h
 rw [he] at ha'
 refine Calls.evalArgs_plain (wpAny_mono ha' (λ us s2 hq => ?_) λ _ _ y=>y)
 obtain ⟨vs,H2,I2,r,hl,hE⟩:=hq
 exact ⟨rfl,by rw [<-r.length];exact hl,I2.bk _ _ hC,hN.keeps I2.bk,T.keeps I2.bk,λ h' e hx=>Aj I2 hx hE⟩
end
end L2
namespace L2
open PySem PySem.Spec PyProof.Rows
abbrev Cx.mK (X:Cx) (ea:Addr):Cx := { X with A:=X.A.mark (some (.ref ea)),calm:=false }
section
variable {X:Cx} {pins:List (Addr×Obj)} {σ : St} {H:Hp} {s:Shared}
theorem Inv.mK (I:Inv X pins σ H s) (ea:Addr):Inv (X.mK ea) pins σ H s :=
 ⟨⟨I.ok.mod,I.ok.kind,I.ok.glob,I.ok.blt,I.ok.above,I.ok.inj,I.ok.has,I.ok.O9,(λ z=>nomatch z),I.ok.frames,I.ok.stk,I.ok.Uq,I.ok.bs,I.ok.IJ,I.ok.DN,I.ok.GP,I.ok.nM,I.ok.Mc⟩,I.os,I.bare,I.base,I.loc,I.cell,I.free,I.jz,I.pin,I.hok,I.len⟩
theorem Inv.uncaught {ea:Addr} (I:Inv (X.mK ea) pins σ H s) (ok:X.Ok):Inv X pins σ H s:=⟨ok,I.os,I.bare,I.base,I.loc,I.cell,I.free,I.jz,I.pin,I.hok,I.len⟩
end
abbrev XR (X:Cx) (pins:List (Addr×Obj)) (σ : St) (E:XK):Value->Shared->Prop:=λ e s' => ∃ H1 s1,Inv X pins σ H1 s1/\tY X.prog X.w X.stack H1 s1 E e s'
def PEX (X:Cx) (e:Expr) (t:XK->TE):Prop :=
 ∀ (E:XK) (pins:List (Addr×Obj)) (s:Shared) (σ : St) (H:Hp) (Q:VK),Inv X pins σ H s->t E σ H Q->wpAny (model X.prog X.w) X.A (eval e X.env) (EP X pins σ Q) (XR X pins σ E) s
def PSX (X:Cx) (st:Stmt) (t:XK->TS):Prop :=
 ∀ (E:XK) (pins:List (Addr×Obj)) (s:Shared) (σ : St) (H:Hp) (D:Ends),Inv X pins σ H s->t E D σ H->wpAny (model X.prog X.w) X.A (exec st X.env) (SP X pins D) (XR X pins σ E) s
def Sk (X:Cx) (st:List Stmt) (t:XK->TS):Prop :=
 ∀ (E:XK) (pins:List (Addr×Obj)) (s:Shared) (σ : St) (H:Hp) (D:Ends),Inv X pins σ H s->t E D σ H->wpAny (model X.prog X.w) X.A (execs st X.env) (SP X pins D) (XR X pins σ E) s
section
variable {X:Cx}
theorem JJ {st:Stmt} {t:XK->TS} (h1:PSX X st t):Sk X [st] t:=by
 intro E pins s σ H D I h
 refine wpAny_execs_cons (b8 (h1 E pins s σ H D I h) λ f s1 q => ?_)
 cases f with
 | next =>
   obtain ⟨σ',H',I',q'⟩:=q
   exact wpAny_execs_nil ⟨σ',H',I',q'⟩
 | _=>exact q
theorem JK {e:Expr} {te:XK->TE} {pos:Pos} (he:PEX X e te) (hs:swapsWith e none pos.line X.env=pure false:=by rfl):PSX X (.Expr e pos) λ E=>F4 (te E):=by
 intro E pins s σ H D I h
 exact wpAny_Expr_any (b8 (he E pins s σ H _ I h) λ v s1 ⟨x',H1,I1,r,q⟩=>⟨_,_,I1,q⟩) I.quiet hs
end
end L2
namespace PySem.W
open PySem PySem.Spec PySem.Calls PyProof.Rows Builtin Builtin.ObjectAttr Builtin.Getset_descriptor
section
variable {prog:Program} {w:World} {A:Around} {E:Value->Shared->Prop} {s:Shared} {K:Frag} {x C:Addr} {R:Result->Shared->Prop}
structure Sl (K:Frag) (C:Addr):Prop where
 c0:hasDictIn K C=true
 c1:findIn K (.ref C) "__getattribute__" = some (some (.builtin "BaseException.__getattribute__"))
 c2:findIn K (.ref C) "__getattr__" = some none
 c3:findIn K (.ref C) "__class__" = some (some (.builtin "object.__class__"))
 c4:specialIn K (.builtin "object.__class__") "__get__" = some (some (.builtin "getset_descriptor.__get__"))
 c5:takesIn K (.builtin "object.__class__")=some true
 c6:mroIn K C (.type "object")=some true
 c7:subIn K (.ref C) (.type "BaseException")=some true
end
end PySem.W
namespace L2
open PySem PySem.Spec PyProof.Rows
section
variable {X:Cx}
def Ov (K:PySem.W.Frag) (C:Addr) (tb:XK->TS) (ts:TS):TS:=λ D σ H =>
 tb (λ cls _ H'=>PySem.W.exmOne K cls (.ref C)=some true/\ts D σ H') D σ H
theorem PX {pins:List (Addr×Obj)} {σ : St} {H1 H':Hp} {s1 s':Shared} {h6 B:Heap} {ea:Addr} {cls a0:Value} (I:Inv X pins σ H1 s1) (os:s'.os=s1.os) (bare:AllBare s'.gens) (fl:JD X.prog X.w X.stack H1 s1.heap H' s'.heap ea cls)
  (hfl:Heap.FlyingW B X.stack ea cls a0 s'.heap) (tr : ∀ b u o,H' b=some u->s'.heap.get? b=some o->B.get? b=some o) (kp : ∀ b o o',s1.heap.get? b=some o->s'.heap.get? b=some o'->b ∉ frs X.stack->B.get? b=some o')
  (h6l:Heap.FlyingW B X.stack ea cls a0 h6) (sm:s'.heap.UpToSlots h6):Inv X pins σ H' { s' with heap:=h6 } := by
 obtain ⟨MB,Ai⟩:=uE fl.un fl.hok hfl.2.2.1 tr kp h6l.1 sm
 exact I.IT (s' := { s' with heap:=h6 }) (ch:=[]) os MB Ai bare (λ _ z=>nomatch z)
theorem MC {body:List Stmt} {b₀ : Stmt} {suite:List Stmt} {x:Str} {C:Addr} {tb:XK->TS} {ts:TS} {np hpos pos:Pos} (hst:X.stack=X.env::X.outer) (hf:X.env.frame=some X.env.locals) (hb:Sk X body tb) (hg:Gl X x) (hm:X.mg x=some (.ref C))
  (hs : ∀ ea,zg (X.mK ea).BY (b₀ :: suite) ts) (hd:(x == ("__debug__" : Str))=false:=by decide) :
  PS X (.Try body [.ExceptHandler (some (.Name x np)) none (b₀ :: suite) hpos] [] [] pos) (Ov X.K C tb ts):=by
 intro pins s σ H D I h
 refine wpAny_Try_except (wpAny_mono (hb _ pins s σ H D I h) (λ f s1 q => ?_) λ e s' q => ?_)
 ·cases f with
  | next=>exact wpAny_execs_nil q
  | _=>exact q
 ·obtain ⟨H1,s1,I1,H',ea,cls,rfl,os,bare,fl,hmt,k⟩:=q
  obtain ⟨B,a0,hfl,tr,kp⟩:=id fl.VL
  have up : ∀ {h6:Heap},Heap.FlyingW B (X.env::X.outer) ea cls a0 h6->s'.heap.UpToSlots h6->Inv X pins σ H' { s' with heap:=h6 } := λ z sm=>PX I1 os bare fl hfl tr kp (by rw [hst];exact z) sm
  have PY:Heap.FlyingW B (X.env::X.outer) ea cls a0 s'.heap:=by rw [<-hst];exact hfl
  refine wpAny_looks_onW (by rw [I1.ok.frames,hst]) hf PY λ h4 UI Sm => ?_
  refine wpAny_landsW UI λ h5 PZ sm5 => ?_
  have I5:=up PZ (Sm.trans sm5)
  refine wpAny_handleBy_cons (codeAny_handlers_test (lq (X:=X.mK ea) (I5.mK ea) hg hm ?_ hd)) (by intro q;cases q)
  have LT:PySem.W.Looks (model X.prog X.w) h5 (typeOf (.ref ea)) cls:=by
   obtain ⟨ob,e,c⟩:=PZ.there
   exact c ▸ (PySem.W.Looks.ld e).andThen .now
  refine (PySem.W.exm_one I5.nN LT hmt).here ?_
  refine codeAny_handlers_suite ?_
  refine lands_againW PZ λ h6 VO sm6 => ?_
  have I6:=up VO ((Sm.trans sm5).trans sm6)
  refine wpAny_mono (hs ea pins _ _ _ _ ((I6.mK ea).jf _) k) (λ f s9 q9 => ?_) λ _ _ z=>z.elim
  cases f with
  | next =>
    obtain ⟨σ',H9,I9,q'⟩:=q9
    exact ⟨_,_,I9.dg.uncaught I.ok,q'⟩
  | brk =>
    obtain ⟨σ',H9,I9,q'⟩:=q9
    exact ⟨_,_,I9.dg.uncaught I.ok,q'⟩
  | cont =>
    obtain ⟨σ',H9,I9,q'⟩:=q9
    exact ⟨_,_,I9.dg.uncaught I.ok,q'⟩
  | ret u =>
    obtain ⟨v,σ',H9,I9,r,q'⟩:=q9
    exact ⟨_,_,_,I9.dg.uncaught I.ok,r,q'⟩
end
section
variable {X:Cx} {k:Nat} {f C:Addr} {fd:FuncData} {ps:List Str} {sp:Sp} {x m:Str} {p pos apos:Pos} {e o:Expr} {es:List Expr} {ta:TE} {t:TA}
theorem MD {E:XK} {pins:List (Addr×Obj)} {σ : St} {H:Hp} {s:Shared} {Q:VK} {us:List Value} {vs:List V} (F:fO X.prog X.w X.K X.mg X.base (tY X.prog X.w) k f fd ps sp) (hr:cL k X.A) (hb:Binds X.K fd ps [])
  (I:Inv X pins σ H s) (r:Vals vs us) (h:sp vs H Q E):wpAny (model X.prog X.w) X.A (call (.ref f) us) (EP X pins σ Q) (XR X pins σ E) s:=by
 have hl:(us++[]).length=ps.length:=by rw [List.append_nil,<-r.length];exact F.len _ _ _ _ h
 refine wpAny_call (codeAny_mono (F.run X.A X.stack s H ⟨us,[]⟩ us vs Q E hr I.Pu (by have:=hb s us I.nN hl;rw [List.append_nil] at this;exact this) r h) λ r s' hq => ?_)
 cases r with
 | error e=>exact ⟨H,s,I,hq⟩
 | ok fl =>
   cases fl with
   | ret u=>exact I.after hq
   | next=>exact False.elim hq
   | brk=>exact False.elim hq
   | cont=>exact False.elim hq
theorem G9 (F:bX X.prog X.w X.K X.mg X.base k x ps sp) (hr:cL k X.A) (hg:Gl X x) (ha:PA X.BY (e::es) t)
  (hdb:(x == ("__debug__" : Str))=false:=by decide) (he:starEach (e::es) X.env=(false,eval e X.env)::starEach es X.env:=by rfl) (hpl:(backTo pos (starEach es X.env)).any (·.1)=false:=by rfl) :
  PEX X (.Call (.Name x p) (e::es) [] pos) λ E=>Ca sp [] E t:=by
 obtain ⟨f,fd,h1,h2,h3,h4⟩:=F.ex
 intro E pins s σ H Q I h
 refine wpAny_Call_Name_kw (lq I hg h1 ?_ hdb)
 refine PySem.W.callWith_K (h₀ := X.base) I.ok.mod.O7 h2 (wpAny_mono (ha pos pins s σ H _ (I.jf _) h) (λ us s1 ⟨vs,H1,I1,r,q⟩=>⟨I1.nN,?_⟩) λ _ _ z=>z.elim) he hpl
 have q':sp (vs++[]) H1 Q E:=q
 rw [List.append_nil] at q'
 exact MD h4 hr h3 I1.dg r q'
end
end L2
namespace L2
open PySem PySem.Spec PyProof.Rows
def cY (cells:List (Str×Addr)):List (Str×NameKind)->List (Str×Addr)->List (Str×Addr)
 | [],cs=>cs
 | (n,k)::r,cs=>cY cells r (if k == .free then (n,(cells.lookup n).getD 0)::cs else cs)
theorem lV {scope:Scope} {env:Env} (h : ∀ y∈scope.names,y.2 = .free->∃ c,env.cells.lookup y.1=some c):closureFor scope env=pure (cY env.cells scope.names []):=by
 simp only [closureFor]
 have all : ∀ (l:List (Str×NameKind)) (cs:List (Str×Addr)),(∀ y∈l,y.2 = .free->∃ c,env.cells.lookup y.1=some c) →
   (forIn l cs fun (x:Str×NameKind) (r:List (Str×Addr))=>match x with
    | (name,kind)=>if (kind == NameKind.free)=true then do
      let __do_lift <-cellOf env name
      pure (ForInStep.yield ((name,__do_lift)::r))
     else pure (ForInStep.yield r))=(pure (cY env.cells l cs):Sem (List (Str×Addr))):=by
  intro l
  induction l with
  | nil=>intro cs _;rfl
  | cons y r ih =>
    intro cs hy
    obtain ⟨n,k⟩:=y
    rw [List.forIn_cons]
    have hr : ∀ y∈r,y.2 = .free->∃ c,env.cells.lookup y.1=some c:=λ y hm=>hy y (List.mem_cons_of_mem _ hm)
    by_cases hk:k = .free
    ·subst hk
     obtain ⟨c,hc⟩:=hy (n,.free) List.mem_cons_self rfl
     have hc':env.cells.lookup n=some c:=hc
     have e1:cellOf env n=pure c:=by unfold cellOf;rw [hc']
     simp only [beq_self_eq_true,if_true,e1,pure_bind]
     rw [ih _ hr]
     simp only [cY,beq_self_eq_true,if_true,hc',Option.getD_some]
    ·have hb:(k == NameKind.free)=false:=by simpa using hk
     simp only [hb,Bool.false_eq_true,if_false,pure_bind]
     rw [ih _ hr]
     simp only [cY,hb,Bool.false_eq_true,if_false]
 first
  | (rw [all scope.names [] h];rfl)
  | (have:=all scope.names [] h;simp only [this,pure_bind])
theorem uF {cells:List (Str×Addr)} : ∀ (l:List (Str×NameKind)) (cs:List (Str×Addr)) {y:Str} {c:Addr},(cY cells l cs).lookup y=some c->((y,.free)∈l/\c=(cells.lookup y).getD 0)\/cs.lookup y=some c
 | [],_,_,_,h => .inr h
 | (n,k)::r,cs,y,c,h=>by
   rw [cY] at h
   rcases uF r _ h with ⟨a,b⟩ | q
   ·exact .inl ⟨List.mem_cons_of_mem _ a,b⟩
   ·by_cases hk:k = .free
    ·subst hk
     simp only [beq_self_eq_true,if_true,List.lookup_cons] at q
     by_cases hy:y=n
     ·subst hy
      simp only [beq_self_eq_true] at q
      cases q
      exact .inl ⟨List.mem_cons_self,rfl⟩
     ·have:(y == n)=false:=by simpa using hy
      simp only [this] at q
      exact .inr q
    ·have hb:(k == NameKind.free)=false:=by simpa using hk
     simp only [hb,Bool.false_eq_true,if_false] at q
     exact .inr q
theorem jk {cells:List (Str×Addr)} : ∀ (l:List (Str×NameKind)) (cs:List (Str×Addr)) {y:Str},(∃ c,cs.lookup y=some c)\/(y,NameKind.free)∈l->∃ c,(cY cells l cs).lookup y=some c
 | [],_,_,h=>by
   rcases h with h | h
   ·exact h
   ·cases h
 | (n,k)::r,cs,y,h=>by
   rw [cY]
   refine jk r _ ?_
   rcases h with ⟨c,h⟩ | h
   ·refine .inl ?_
    split
    ·rw [List.lookup_cons]
     split
     ·exact ⟨_,rfl⟩
     ·exact ⟨c,h⟩
    ·exact ⟨c,h⟩
   ·rcases List.mem_cons.mp h with e | e
    ·cases e
     refine .inl ⟨(List.lookup n cells).getD 0,?_⟩
     simp only [beq_self_eq_true,if_true,List.lookup_cons]
    ·exact .inr e
structure j7 (scope es:Scope) (x:Str) (N:List Str):Prop where
 kind:scope.kind = .function
 cell : ∀ y∈scope.names,y.2 ≠ .cell
 nms : ∀ y∈scope.names,y.2 = .local->scope.names.lookup y.1=some .local
 loc:scope.names.lookup x=some .local
 noe:scope.names.lookup ("" : Str)=none
 UJ : ∀ y∈scope.names,y.2 = .free->es.names.lookup y.1=some .cell\/es.names.lookup y.1=some .free
 only : ∀ y∈scope.names,y.2 = .local->y.1=x\/y.1 ∉ N
 nd:(x::N.map λ y=>if y=x then ("" : Str) else y).Nodup
theorem lookup_mem {α β : Type} [BEq α] [LawfulBEq α] : ∀ {l:List (α × β)} {x : α} {v : β},l.lookup x=some v->(x,v)∈l
 | (n,k)::r,x,v,h=>by
   rw [List.lookup_cons] at h
   split at h
   ·rename_i e;cases h;rw [eq_of_beq e];exact List.mem_cons_self
   ·exact List.mem_cons_of_mem _ (lookup_mem h)
theorem cj {scope:Scope} {env:Env} : ∀ {l:List (Str×NameKind)} {y:Str} {k:NameKind},(l.map fun (p:Str×NameKind)=>match p with | (n,k)=>if (k == .free && env.scope.kind == .function && env.kindOf n == some .cell) then (n,NameKind.cell) else (n,k)).lookup y=some k →
  l.lookup y=some k\/(k = .cell/\l.lookup y=some .free)
 | [],_,_,h=>by simp at h
 | (n,k0)::r,y,k,h=>by
   rw [List.map_cons,List.lookup_cons] at h
   rw [List.lookup_cons]
   dsimp only at h
   split at h
   ·rename_i e
    split at e
    ·rename_i hc
     dsimp only at e h
     cases h
     have:k0 = .free:=by simp only [Bool.and_eq_true,beq_iff_eq] at hc;exact hc.1.1
     subst this
     rw [e,if_pos hc]
     exact .inr ⟨rfl,rfl⟩
    ·rename_i hc
     dsimp only at e h
     rw [e]
     rw [if_neg hc] at h
     exact .inl h
   ·rename_i e
    have e':(y == n)=false:=by
     split at e <;> exact e
    rw [e']
    exact cj (scope:=scope) h
def gy (M:Model) (A:Around) (E:Value->Shared->Prop) (use:Option (Value->Sem Unit)) (Q:Value->Shared->Prop) (acc:Value) (cenv:Env) (r:Result) (s':Shared):Prop :=
 match r,use with
 | .ok _,none => ∃ m,s'.heap.Ns cenv.locals m ∧ ∀ h',Heap.SameBut cenv.locals s'.heap h'->Q acc { s' with heap:=h' }
 | .ok _,some u=>wpAny M A (u acc) (λ _ s'' => ∃ m,s''.heap.Ns cenv.locals m ∧ ∀ h',Heap.SameBut cenv.locals s''.heap h'->Q .none { s'' with heap:=h' }) E s'
 | .error x,_ => ∃ m,s'.heap.Ns cenv.locals m ∧ ∀ h',Heap.SameBut cenv.locals s'.heap h'->wpAny M A (passOn "comprehension.variables-let-go" x cenv:Sem Value) (λ _ _=>False) E { s' with heap:=h' }
theorem fQ {M:Model} {A:Around} {E:Value->Shared->Prop} {s:Shared} {env:Env} {e:Expr} {scope:Scope} {pos:Pos} {newAcc first:Sem Value} {g:Comprehension} {gs:List Comprehension} {cl:List (Str×Addr)} {use:Option (Value->Sem Unit)}
  {Q:Value->Shared->Prop}
  (hcl:clausesOf e=g::gs) (hs : ∀ x,foldedSetIterable g.iter env x=pure x) (hclos:closureFor scope env=pure cl)
  (hkind:scope.kind = .function) (hnames : ∀ x∈scope.names,x.2 = .local->scope.names.lookup x.1=some .local)
  (h:wpAny M A first (λ x s₁ => wpAny M A (pyIter x) (λ it s₂ => wpAny M A newAcc (λ acc s₃ =>
   wpAny M A (newFunctionEnv scope env.globals cl [] env.qual none .none (some env)) (λ cenv s₄ =>
    codeAny M A (.compStart e 0 it acc { cenv with scope:=relabel scope env }) (gy M A E use Q acc { cenv with scope:=relabel scope env }) s₄) E s₃) E s₂) E s₁) E s) :
  wpAny M A (comprehension e scope env pos newAcc false first use) Q E s:=by
 unfold comprehension
 rw [hclos,hcl]
 refine wpAny_bind (wpAny_mono h (λ x s₁ h₁ => wpAny_bind (wpAny_standAt (wpAny_bind (wpAny_of_eq (hs x) (wpAny_bind (wpAny_holding (wpAny_mono h₁ (λ it s₂ h₂ =>
  wpAny_standIf (wpAny_bind (wpAny_mono h₂ (λ acc s₃ h₃ => wpAny_bind (wpAny_pure (wpAny_bind (wpAny_mono h₃ (λ cenv s₄ h₄ => ?_) λ _ _ h'=>h')))) λ _ _ h'=>h')))
   λ _ _ h'=>h'))))))) λ _ _ h'=>h')
 dsimp only
 have hv : ∀ x∈(scope.names.filter λ x=>(x.2 == .local || x.2 == .cell) && x.1 != (".0" : Str)).reverse,x.2 = .local →
   Env.kindOf { cenv with scope:=relabel scope env } x.1=some .local:=λ x hx hl=>lookup_relabel_local (hnames x (List.mem_filter.mp (List.mem_reverse.mp hx)).1 hl)
 have hv' : ∀ x∈(scope.names.filter λ x=>(x.2 == .local || x.2 == .cell) && x.1 != (".0" : Str)).reverse.drop 1++(scope.names.filter λ x=>(x.2 == .local || x.2 == .cell) && x.1 != (".0" : Str)).reverse.take 1,
   x.2 = .local->Env.kindOf { cenv with scope:=relabel scope env } x.1=some .local:=λ x hx hl=>by
  rcases List.mem_append.mp hx with h1 | h1
  ·exact hv x (List.mem_of_mem_drop h1) hl
  ·exact hv x (List.mem_of_mem_take h1) hl
 refine wpAny_holding (wpAny_bind (wpAny_attempt (wpAny_holding (wpAny_run (codeAny_mono h₄ λ r s' hr => ?_)))))
 cases r with
 | ok f =>
   cases use with
   | none =>
     obtain ⟨m,hn,hr⟩:=hr
     exact wpAny_bind (wpAny_holding (wpAny_comp_letGo (cenv := { cenv with scope:=relabel scope env }) hkind _ s' m hv hn λ h' m' _ hs'=>wpAny_pure (hr h' hs')))
   | some u =>
     refine wpAny_bind (wpAny_rule (wpAny_bind (wpAny_holding (wpAny_mono hr (λ _ s'' hr' => ?_) λ _ _ h'=>h'))))
     obtain ⟨m,hn,hr'⟩:=hr'
     exact wpAny_bind (wpAny_comp_letGo (cenv := { cenv with scope:=relabel scope env }) hkind _ s'' m hv' hn λ h' m' _ hs'=>wpAny_pure (hr' h' hs'))
 | error x =>
   have hr' : ∃ m,s'.heap.Ns cenv.locals m ∧ ∀ h',Heap.SameBut cenv.locals s'.heap h'->wpAny M A (passOn "comprehension.variables-let-go" x { cenv with scope:=relabel scope env } : Sem Value) (λ _ _=>False) E { s' with heap:=h' } := by cases use <;> exact hr
   obtain ⟨m,hn,hr⟩:=hr'
   exact wpAny_bind (wpAny_holding (wpAny_comp_letGo (cenv := { cenv with scope:=relabel scope env }) hkind _ s' m hv hn λ h' m' _ hs'=>wpAny_mono (hr h' hs') (λ _ _ f=>f.elim) λ _ _ y=>y))
def Cx.comp (X:Cx) (scope:Scope) (x:Str) (pins:List (Addr×Obj)) (fp:List Addr) (s3:Shared) (H3:Hp) (E:Value->Shared->Prop):Cx where
 prog:=X.prog
 w:=X.w
 K:=X.K
 mg:=X.mg
 base:=X.base
 A:=X.A
 N:=x::X.N.map λ y=>if y=x then ("" : Str) else y
 s₀ := s3
 H₀ := H3
 env:=compEnvC scope (cY X.env.cells scope.names []) s3.heap.objs.size X.env
 outer:=X.stack
 stack:=X.stack
 ex:=fp
 fn:=λ _=>false
 calm:=X.calm
 pn:=X.pn++pins
 xe:=E
section
variable {X:Cx} {pins:List (Addr×Obj)} {σ : St} {H3:Hp} {s3:Shared} {scope:Scope} {x:Str} {fp:List Addr} {E:Value->Shared->Prop}
theorem pR {y:Str} (h:(compEnvC scope (cY X.env.cells scope.names []) s3.heap.objs.size X.env).kindOf y=some .cell\/(compEnvC scope (cY X.env.cells scope.names []) s3.heap.objs.size X.env).kindOf y=some .free) (hc : ∀ y∈scope.names,y.2 ≠ .cell):(y,NameKind.free)∈scope.names:=by
 rcases h with h | h
 ·rcases cj (scope:=scope) (env:=X.env) h with q | ⟨_,q⟩
  ·exact absurd rfl (hc _ (lookup_mem q))
  ·exact lookup_mem q
 ·rcases cj (scope:=scope) (env:=X.env) h with q | ⟨z,_⟩
  ·exact lookup_mem q
  ·cases z
theorem fk (ok:X.Ok) (S:j7 scope X.env.scope x X.N) {y:Str} {c:Addr} (h:(cY X.env.cells scope.names []).lookup y=some c):(y,NameKind.free)∈scope.names/\X.env.cells.lookup y=some c:=by
 rcases uF scope.names [] h with ⟨a,b⟩ | q
 ·obtain ⟨c',e⟩:=ok.has y (S.UJ _ a rfl)
  rw [e] at b
  exact ⟨a,by rw [e,b];rfl⟩
 ·simp at q
theorem ME (I:Inv X pins σ H3 s3) (S:j7 scope X.env.scope x X.N) (hfp : ∀ b∈fp,nP X pins H3 b) (hfo : ∀ b∈fp,∃ o,s3.heap.get? b=some o):(X.comp scope x pins fp s3 H3 E).Ok where
 mod:=I.ok.mod
 kind:=S.kind
 glob:=I.ok.glob
 blt:=I.ok.blt
 above:=Nat.le_refl _
 inj:=λ y z c h1 h2=>I.ok.inj y z c (fk I.ok S h1).2 (fk I.ok S h2).2
 has:=λ y h=>jk scope.names [] (.inr (pR h S.cell))
 O9:=λ _ _ h=>nomatch h
 hd:=I.ok.hd
 frames:=I.ok.frames
 stk := .inl rfl
 Uq:=λ b hb=>by
  obtain ⟨o,e⟩:=hfo b hb
  refine ⟨Nat.ne_of_lt (Heap.lt_size e),λ y c h => ?_⟩
  exact (hfp b hb).2.2.2.2.1 y c (fk I.ok S h).2
 bs:=I.bs
 IJ:=Nat.le_trans I.ok.IJ I.sz
 DN:=λ b o e hb=>by
  rcases (hfp b hb).2.2.2.1 with z | z
  ·exact I.ok.DN b o e z
  ·exact absurd (Nat.lt_of_lt_of_le (Heap.lt_size e) (Nat.le_trans I.ok.IJ z)) (Nat.lt_irrefl _)
 GP:=λ b hb z=>by
  rcases List.mem_cons.mp (I.uf b z) with q | q
  ·exact (hfp b hb).2.1 q
  ·exact (hfp b hb).2.2.1 q
 nM:=I.stack
 Mc:=I.zR
theorem Ea {s4:Shared} (I:Inv X pins σ H3 s3) (S:j7 scope X.env.scope x X.N) (hfp : ∀ b∈fp,nP X pins H3 b) (hfo : ∀ b∈fp,∃ o,s3.heap.get? b=some o) {m:Str->Option Value} (hn:s4.heap.Ns s3.heap.objs.size m) (kk : ∀ b o,s3.heap.get? b=some o->s4.heap.get? b=some o)
  (os:s4.os=s3.os) (bare:AllBare s4.gens):Inv (X.comp scope x pins fp s3 H3 E) [] (none :: σ) H3 s4:=by
 refine ⟨ME I S hfp hfo,os,bare,Un.kept kk,⟨m,hn,λ i y v h1 h2 h3 => ?_⟩,λ y c h => ?_,I.hok.fresh (Nat.le_refl _),λ y c h=>I.jz y c (fk I.ok S h).2,λ p hp => ?_,I.hok.kept kk,?_⟩
 ·cases i with
  | zero=>cases h2
  | succ i =>
    have xg:(X.N.map λ y=>if y=x then ("" : Str) else y)[i]? = some y:=h1
    have h2' : σ[i]? = some (some v):=h2
    rw [List.getElem?_map] at xg
    cases hN:X.N[i]? with
    | none=>rw [hN] at xg;cases xg
    | some z =>
      rw [hN] at xg
      have MF:(if z=x then ("" : Str) else z)=y:=Option.some.inj xg
      have vis : ∀ y,O8 (relabel scope X.env) y->y≠("" : Str):=λ y hv e=>by
       subst e
       have no : ∀ k,(relabel scope X.env).names.lookup ("" : Str)=some k->False:=λ k h=>by
        rcases cj (scope:=scope) (env:=X.env) h with q | ⟨_,q⟩ <;> (rw [S.noe] at q;cases q)
       rcases hv with q | q | q <;> exact no _ q
      have hz:z≠x:=λ e=>by rw [if_pos e] at MF;exact vis y h3 MF.symm
      rw [if_neg hz] at MF
      subst MF
      -- z is seen by LX block,and is no local of it: it is free there
      have hf:(z,NameKind.free)∈scope.names\/(relabel scope X.env).names.lookup z=some .local:=by
       rcases h3 with q | q | q
       ·exact .inr q
       ·exact .inl (pR (X:=X) (s3:=s3) (.inl q) S.cell)
       ·exact .inl (pR (X:=X) (s3:=s3) (.inr q) S.cell)
      have hfr:(z,NameKind.free)∈scope.names:=by
       rcases hf with q | q
       ·exact q
       ·rcases cj (scope:=scope) (env:=X.env) q with q | ⟨e,_⟩
        ·rcases S.only _ (lookup_mem q) rfl with e | e
         ·exact absurd e hz
         ·exact absurd (List.mem_of_getElem? hN) e
        ·cases e
      have hnl:(relabel scope X.env).names.lookup z≠some .local:=λ q=>by
       rcases cj (scope:=scope) (env:=X.env) q with q | ⟨e,_⟩
       ·rcases S.only _ (lookup_mem q) rfl with e | e
        ·exact absurd e hz
        ·exact absurd (List.mem_of_getElem? hN) e
       ·cases e
      have hk:=S.UJ _ hfr rfl
      obtain ⟨m0,hn0,hl0⟩:=I.loc
      obtain ⟨u,r,l⟩:=hl0 i z v hN h2' (hk.elim (λ q => .inr (.inl q)) λ q => .inr (.inr q))
      refine ⟨u,r,.inr ⟨?_,?_⟩⟩
      ·rcases h3 with q | q | q
       ·exact absurd q hnl
       ·exact .inl q
       ·exact .inr q
      ·rcases l with ⟨k,_⟩ | ⟨_,c,e,hc⟩
       ·have k':X.env.scope.names.lookup z=some .local:=k
        rcases hk with q | q <;> (rw [show List.lookup z X.env.scope.names=_ from k'] at q;cases q)
       ·obtain ⟨c',e'⟩:=jk (cells:=X.env.cells) scope.names [] (.inr hfr)
        have:=(fk I.ok S e').2
        rw [e] at this;cases this
        obtain ⟨o,ho,hd⟩:=hc
        exact ⟨c,e',o,kk _ _ ho,hd⟩
 ·obtain ⟨v,o,ho,hd⟩:=I.cell y c (fk I.ok S h).2
  exact ⟨v,o,kk _ _ ho,hd⟩
 ·have hp':p∈X.pn++pins:=by simpa [Cx.comp] using hp
  obtain ⟨a,b,c,d,e⟩:=I.pin p hp'
  refine ⟨kk _ _ a,b,Nat.ne_of_lt (Heap.lt_size a),λ z => ?_,e⟩
  rcases List.mem_cons.mp (I.uf _ z) with q | q
  ·exact c q
  ·exact d q
 ·show (none :: σ).length=(x::X.N.map λ y=>if y=x then ("" : Str) else y).length
  rw [List.length_cons,List.length_cons,List.length_map,I.len]
end
end L2
namespace L2
open PySem PySem.Spec PyProof.Rows
theorem MG {P:Program} {w:World} {l:List Env} {ex:List Addr} {H H':Hp} {h0 h h2 B:Heap} (un:Un (frs l) ex H H' h0 h) (hok:jJ P w H' h) (fr:h.FunFrames B l)
  (tr : ∀ b u o,H' b=some u->h.get? b=some o->B.get? b=some o) (kp : ∀ b o o',h0.get? b=some o->h.get? b=some o'->b ∉ frs l->b ∉ ex->B.get? b=some o') (st:B.StaysIn h2)
  (sm : ∀ b∈frs l,∀ o,h.get? b=some o->(∀ vs,o.data ≠ .fields vs)->∃ sl,h2.get? b=some { o with slots:=sl }):Un (frs l) ex H H' h0 h2/\jJ P w H' h2:=by
 refine ⟨⟨λ b o q n hb hx => ?_,λ b o q n hb hx => ?_,un.free,λ b o q hx => ?_,un.tups,un.jK,un.jX⟩,λ a o e => ?_⟩
 ·exact st b o (kp b o o q (un.keep b o q n hb hx) hb hx)
 ·obtain ⟨sl,e⟩:=un.slot b o q n hb hx
  obtain ⟨_,o',ho',hd⟩:=fr.mem hb
  rw [e] at ho';cases ho'
  obtain ⟨IQ,e'⟩:=sm b hb _ e hd
  exact ⟨IQ,e'⟩
 ·obtain ⟨o',e⟩:=un.there b o q hx
  by_cases hb:b∈frs l
  ·obtain ⟨_,o2,ho2,hd⟩:=fr.mem hb
   obtain ⟨IQ,e'⟩:=sm b hb _ ho2 hd
   exact ⟨_,e'⟩
  ·exact ⟨o',st b o' (kp b o o' q e hb hx)⟩
 ·refine (hok a o e).stay (λ b u hb q => ?_) (λ _ q=>q) λ _ _ q=>q
  rcases hb with rfl | hb
  ·exact st b u (tr b _ u e q)
  ·exact st b u (tr b _ u hb q)
def RB (X:Cx) (E:XK):Value->Shared->Prop:=λ e s'' => ∃ (pins:List (Addr×Obj)) (σ : St) (H':Hp) (ea:Addr) (cls a0:Value) (B:Heap),Inv X pins σ H' s''/\e = .ref ea/\X.s₀.heap.get? ea=none/\Heap.HeldW B X.stack ea cls a0 X.env.locals s''.heap ∧
 (∀ b u o,H' b=some u->s''.heap.get? b=some o->B.get? b=some o)/\(∀ b o o',X.s₀.heap.get? b=some o->s''.heap.get? b=some o'->b ∉ frs X.stack->B.get? b=some o')/\E cls none H'
section
variable {P:Program} {w:World} {K:PySem.W.Frag} {mg:Str->Option Value} {base:Heap} {N:List Str} {qual:Str} {scope:Scope} {f:Addr} {cd:Value} {A:Around} {outer:List Env} {s:Shared} {H:Hp} {E:XK}
theorem Ow : ∀ e s',RB (G8 P w K mg base N qual scope f cd A outer s H E) E e s'->(G8 P w K mg base N qual scope f cd A outer s H E).xe e s':=by
 rintro e s' ⟨pins,σ,H',ea,cls,a0,B,I,rfl,new,hh,tr,kp,hE⟩
 have hfs:frs (envOfC qual scope s.heap.objs.size f cd::outer)=s.heap.objs.size::frs outer:=j6 rfl
 have hL:s.heap.get? s.heap.objs.size=none:=Heap.get?_none_of_le (Nat.le_refl _)
 have sub : ∀ x∈frs (envOfC qual scope s.heap.objs.size f cd::outer),x=s.heap.objs.size\/x∈frs outer:=λ x hx=>by rw [hfs] at hx;exact List.mem_cons.mp hx
 show wpAny _ _ (leaving _ _) _ _ s'
 unfold leaving
 refine wpAny_bind (wpAny_noteFrame_againW (L:=s.heap.objs.size) rfl hh.2.2.2 ?_)
 refine wpAny_landsW hh λ h2 r4 sm => ?_
 have fr:s'.heap.FunFrames B outer:=hh.2.2.1.2.2
 have Sn : ∀ b o o',s.heap.get? b=some o->s'.heap.get? b=some o'->b ∉ frs outer->B.get? b=some o':=λ b o o' q q' hb=>kp b o o' q q' λ z=>(sub b z).elim (λ e=>by rw [e,hL] at q;cases q) hb
 obtain ⟨MB,Ai⟩:=uE (l:=outer) I.base I.hok fr tr Sn r4.1 sm
 obtain ⟨k1,k2,⟨_,_,k3⟩,k4⟩:=r4
 refine ⟨H',ea,cls,rfl,I.os,I.bare,⟨MB,Ai,new,B,a0,⟨k1,k2,k3,k4⟩,λ b u o e q => ?_,λ b o o2 q q2 hb => ?_⟩,hE⟩
 ·obtain ⟨o',e'⟩:=(I.hok b u e).there
  have h1:=tr b u o' e e'
  have h2':=k1 b o' h1
  rw [q] at h2';cases h2';exact h1
 ·obtain ⟨o1,e1⟩:=I.base.there b o q (by intro z;cases z)
  have h1:=Sn b o o1 q e1 hb
  have h2':=k1 b o1 h1
  rw [q2] at h2';cases h2';exact h1
end
theorem j8 {C:Addr} {h h' base:Heap} (hs:Heap.SameBut C h h') : ∀ {l:List Env},(∀ b∈frs l,b≠C)->h.FunFrames base l->h'.FunFrames base l
 | [],_,_=>trivial
 | env::l,hc,⟨hk,⟨L,o,hf,hn,ho,hd⟩,hr⟩=>⟨hk,⟨L,o,hf,hn,(hs.2 L (hc L (by rw [j6 hf];exact List.mem_cons_self))).trans ho,hd⟩,j8 hs (λ b hb=>hc b (by rw [j6 hf];exact List.mem_cons_of_mem _ hb)) hr⟩
theorem j9 {M:Model} {A:Around} {E:Value->Shared->Prop} {s:Shared} {base:Heap} {l:List Env} {e L:Addr} {cls a0:Value} {Q:Unit->Shared->Prop} (R:Heap.HeldW base l e cls a0 L s.heap)
  (h : ∀ h',Heap.HeldW base l e cls a0 L h'->s.heap.UpToSlots h'->Q () { s with heap:=h' }):wpAny M A (setFlight (.ref e) (some L)) Q E s:=by
 obtain ⟨hkb,hen,hl,oe,vs,T,oT,ts,he,hcls,hd,h1,hnT,hTe,hT,UK,h3⟩:=R
 have So:3 < ts.size:=(Array.getElem?_eq_some_iff.mp h3).1
 have other : ∀ b,b≠T->(s.heap.update T (Obj.mapFields (·.setIfInBounds 3 ((some L).elim Value.none λ f=>rawInt f)))).get? b=s.heap.get? b :=
  λ b hb=>Heap.get?_update_other _ _ (Ne.symm hb)
 have Co : ∀ b o,s.heap.get? b=some o->(∀ vs,o.data ≠ .fields vs)->b≠T:=λ b o hb hnf q=>by
  rw [q,hT] at hb;injection hb with hb;subst hb;exact hnf ts UK
 unfold setFlight
 refine wpAny_bind (wpAny_field he hd h1 ?_)
 rw [if_pos (show (Value.ref T != Value.none)=true from by simp)]
 refine wpAny_setField hT UK So (h _ ⟨λ b o VP=>(other b λ q=>by rw [q,hnT] at VP;cases VP).trans (hkb b o VP),hen,
  hl.of_keeps λ b o hb hnf=>⟨o,(other b (Co b o hb hnf)).trans hb,rfl⟩,?_⟩ λ b o hb hnf=>⟨o.slots,(other b (Co b o hb hnf)).trans hb⟩)
 exact ⟨oe,vs,T,_,_,(other e (Ne.symm hTe)).trans he,hcls,hd,h1,hnT,hTe,Heap.get?_update_self _ hT (Obj.isFreed_of_fields (Obj.data_mapFields UK _)),Obj.data_mapFields UK _,by simp [So]⟩
theorem Cp {α : Type} {M:Model} {A:Around} {E:Value->Shared->Prop} {s:Shared} {base:Heap} {l:List Env} {e L:Addr} {cls a0:Value} {what:String} {env:Env} {Q : α->Shared->Prop} (hf:env.frame=some L) (R:Heap.HeldW base l e cls a0 L s.heap)
  (h : ∀ h',Heap.HeldW base l e cls a0 L h'->s.heap.UpToSlots h'->E (.ref e) { s with heap:=h' }):wpAny M A (PySem.passOn what (.ref e) env:Sem α) Q E s:=by
 obtain ⟨_,_,_,oe,vs,T,oT,ts,he,hcls,hd,h1,_⟩:=id R
 unfold PySem.passOn
 refine wpAny_bind (wpAny_field he hd h1 ?_)
 rw [if_neg (show ¬ ((Value.ref T == Value.none)=true) from by simp),hf]
 first
  | exact wpAny_bind (wpAny_pure (wpAny_bind (j9 R λ h' hh hs=>wpAny_throw (h h' hh hs))))
  | exact wpAny_bind (j9 R λ h' hh hs=>wpAny_throw (h h' hh hs))
theorem Hf {C L e:Addr} {h h' B:Heap} {l:List Env} {cls a0:Value} {m:Str->Option Value} (R:Heap.HeldW B l e cls a0 L h) (hn:h.Ns C m) (hc : ∀ b∈frs l,b≠C) (hs:Heap.SameBut C h h'):Heap.HeldW (PySem.W.hideAll B [C]) l e cls a0 L h':=by
 have hB:(PySem.W.hideAll B [C]).StaysIn B:=λ b o q=>PySem.W.of_hideAll _ q
 obtain ⟨f1,f2,f3,oe,vs,T,oT,ts,a1,a2,a3,a4,a5,a6,a7,a8,a9⟩:=PySem.W.heldW_base hB R
 obtain ⟨oC,es,ep,hoC,hdC,_⟩:=hn
 have ne:e≠C:=λ z=>by rw [z,hoC] at a1;cases a1;rw [hdC] at a3;cases a3
 have nT:T≠C:=λ z=>by rw [z,hoC] at a7;cases a7;rw [hdC] at a8;cases a8
 refine ⟨λ b o q => ?_,f2,j8 hs hc f3,oe,vs,T,oT,ts,(hs.2 e ne).trans a1,a2,a3,a4,a5,a6,(hs.2 T nT).trans a7,a8,a9⟩
 have nb:b≠C:=λ z=>by rw [z,PySem.W.hideAll_none _ (by simp)] at q;cases q
 exact (hs.2 b nb).trans (f1 b o q)
section
variable {X:Cx} {pins:List (Addr×Obj)} {σ : St} {H3:Hp} {s3:Shared} {scope:Scope} {x:Str} {fp:List Addr}
abbrev XC (Xb:Cx) (E:XK):Value->Shared->Prop:=λ e s' => ∃ (ug:List (Addr×Obj)) (σ':St) (H1:Hp) (s1:Shared),Inv Xb ug σ' H1 s1/\tY Xb.prog Xb.w Xb.stack H1 s1 E e s'
theorem Al {e:Value} {env env':Env} (h:env.frame=env'.frame):noteFrame e env=noteFrame e env':=by
 unfold noteFrame PySem.frameOf
 rw [h]
theorem Cq {E:XK} {Q:Value->Shared->Prop} {use:Option (Value->Sem Unit)} {acc:Value} {cenv:Env} {e:Value} {s':Shared} (hst:X.stack=X.env::X.outer) (hf:X.env.frame=some X.env.locals) (hex:X.ex = []) (I:Inv X pins σ H3 s3)
  (hfp : ∀ b∈fp,nP X pins H3 b) (P0 : ∀ e s,RB X E e s->X.xe e s) (hcf:cenv.frame=X.env.frame) (hcl:cenv.locals=s3.heap.objs.size) (h:XC (X.comp scope x pins fp s3 H3 λ _ _=>False) E e s') :
  notedBy (model X.prog X.w) X.A cenv (λ x s''=>gy (model X.prog X.w) X.A X.xe use Q acc cenv (.error x) s'') e s':=by
 obtain ⟨ug,σ',H1,s1,Ib,H',ea,cls,rfl,os,bare,fl,hE⟩:=h
 have fl:JD X.prog X.w X.stack H1 s1.heap H' s'.heap ea cls:=fl
 have osb:s1.os=s3.os:=Ib.os
 have VQ:Un (frs X.stack) fp H3 H1 s3.heap s1.heap:=Ib.base
 obtain ⟨B,a0,hfl,tr,kp⟩:=fl.VL
 have fr:=hfl.2.2.1
 have PY:Heap.FlyingW B (X.env::X.outer) ea cls a0 s'.heap:=by rw [<-hst];exact hfl
 have Rz : ∀ b∈frs X.stack,b≠s3.heap.objs.size:=λ b hb z=>by
  obtain ⟨_,o,ho,_⟩:=I.stack.mem hb
  exact absurd (Heap.lt_size ho) (by rw [z];exact Nat.lt_irrefl _)
 show wpAny _ _ (noteFrame _ cenv) _ _ _
 rw [Al hcf]
 refine wpAny_looks_onW (by rw [I.ok.frames,hst]) hf PY λ h4 UI Sm => ?_
 obtain ⟨m1,hn1,_⟩:=Ib.loc
 have hn1:s1.heap.Ns s3.heap.objs.size m1:=hn1
 obtain ⟨un4,aeK⟩:=uE fl.un fl.hok fr tr kp UI.1 Sm
 have hC1:H1 s3.heap.objs.size=none:=Ib.free
 have hC':H' s3.heap.objs.size=none:=by
  obtain ⟨o,_,_,ho,_⟩:=hn1
  exact fl.un.free _ o ho hC1 (by intro z;cases z)
 have hn4:h4.Ns s3.heap.objs.size m1:=hn1.at' λ o ho=>un4.keep _ o ho hC1 (λ z=>Rz _ z rfl) (by intro z;cases z)
 refine ⟨m1,by rw [hcl];exact hn4,λ h' hs' => ?_⟩
 rw [hcl] at hs'
 have hh':Heap.HeldW (PySem.W.hideAll B [s3.heap.objs.size]) X.stack ea cls a0 X.env.locals h':=Hf (by rw [hst];exact UI) hn4 Rz hs'
 refine Cp (s := { s' with heap:=h' }) (hcf.trans hf) hh' λ h2 UL sm2 => ?_
 have hB : ∀ b o,B.get? b=some o->b≠s3.heap.objs.size->(PySem.W.hideAll B [s3.heap.objs.size]).get? b=some o:=λ b o q n=>PySem.W.hideAll_get _ q (by simpa using n)
 have tr' : ∀ b u o,H' b=some u->s'.heap.get? b=some o->(PySem.W.hideAll B [s3.heap.objs.size]).get? b=some o:=λ b u o q qo=>hB b o (tr b u o q qo) λ z=>by rw [z,hC'] at q;cases q
 have Sn : ∀ b o o',s3.heap.get? b=some o->s'.heap.get? b=some o'->b ∉ frs X.stack->b ∉ fp->(PySem.W.hideAll B [s3.heap.objs.size]).get? b=some o':=λ b o o' q q' hb hx=>by
  obtain ⟨o1,e1⟩:=VQ.there b o q hx
  exact hB b o' (kp b o1 o' e1 q' hb) (Nat.ne_of_lt (Heap.lt_size q))
 have fr':s'.heap.FunFrames (PySem.W.hideAll B [s3.heap.objs.size]) X.stack:=PySem.W.funFrames_base (λ b o q=>PySem.W.of_hideAll _ q) fr
 have sm' : ∀ b∈frs X.stack,∀ o,s'.heap.get? b=some o->(∀ vs,o.data ≠ .fields vs)->∃ sl,h2.get? b=some { o with slots:=sl } := λ b hb o q hd=>by
  obtain ⟨sl,e⟩:=Sm b o q hd
  have e':h'.get? b=some { o with slots:=sl } := (hs'.2 b (Rz b hb)).trans e
  obtain ⟨sl2,e2⟩:=sm2 b _ e' hd
  exact ⟨sl2,e2⟩
 have unA:Un (frs X.stack) fp H3 H' s3.heap s'.heap:=VQ.trans (fl.un.mono (λ _ z=>z) (λ _ z=>nomatch z))
 obtain ⟨MB,Ai⟩:=MG unA fl.hok fr' tr' Sn UL.1 sm'
 have I2:Inv X pins σ H' { s' with heap:=h2 } := I.IT (s' := { s' with heap:=h2 }) (ch:=fp) (os.trans osb) MB Ai bare λ b hb=>⟨(hfp b hb).2.2.2.1,(hfp b hb).2.1,(hfp b hb).2.2.2.2.1,(hfp b hb).2.2.2.2.2⟩
 have nx : ∀ b o,X.s₀.heap.get? b=some o->b ∉ fp:=λ b o q z=>by
  rcases (hfp b z).2.2.2.1 with y | y
  ·rw [hex] at y;cases y
  ·exact absurd (Nat.lt_of_lt_of_le (Heap.lt_size q) y) (Nat.lt_irrefl _)
 have in3 : ∀ b o,X.s₀.heap.get? b=some o->∃ o',s3.heap.get? b=some o':=λ b o q=>I.base.there b o q (by rw [hex];intro z;cases z)
 refine P0 _ _ ⟨pins,σ,H',ea,cls,a0,_,I2,rfl,?_,UL,λ b u o q qo => ?_,λ b o o2 q q2 hb => ?_,hE⟩
 ·cases q:X.s₀.heap.get? ea with
  | none=>rfl
  | some o =>
    obtain ⟨o3,e3⟩:=in3 ea o q
    obtain ⟨o1,e1⟩:=VQ.there ea o3 e3 (nx ea o q)
    rw [fl.new] at e1;cases e1
 ·obtain ⟨o',e'⟩:=(fl.hok b u q).there
  have h1:=tr' b u o' q e'
  have h2':=UL.1 b o' h1
  rw [qo] at h2';cases h2';exact h1
 ·obtain ⟨o3,e3⟩:=in3 b o q
  obtain ⟨o1,e1⟩:=unA.there b o3 e3 (nx b o q)
  have h1:=Sn b o3 o1 e3 e1 hb (nx b o q)
  have h2':=UL.1 b o1 h1
  rw [q2] at h2';cases h2';exact h1
end
end L2
namespace L2
open PySem PySem.Spec PyProof.Rows
def Gj (wi:TI) (tt:TT) (te:TE):TE:=fun σ H Q=>wi σ H λ J H1 => ∀ p,H1 p=none->∃ W:Nat->Nat->List V->Hp->Prop,(∃ m,W 0 m [] (upd H1 p (.lst []))) ∧ ∀ i m acc H2,W i m acc H2 →
 H2 p=some (.lst acc)/\((J.stop i H2/\Q (.ref p) H2)\/(J.go i H2 ∧ ∃ N:List V->Hp->Prop,(∀ acc' H',N acc' H'->∃ m',m' < m/\W (i+1) m' acc' H') ∧ ∀ x H3,J.Mh i H2 x H3->tt (some x :: σ) H3 λ b H4 =>
  if b=true then te (some x :: σ) H4 λ v H5=>H5 p=some (.lst acc)/\acc.length < sizeLine/\N (acc++[v]) (upd H5 p (.lst (acc++[v]))) else N acc H4))
def Eb:TT:=λ _ H Q=>Q true H
def UM (X:Cx) (ifs:List Expr) (t:TT):Prop :=
 ∀ (pins:List (Addr×Obj)) (s:Shared) (σ : St) (H:Hp) (Q:Bool->Hp->Prop),Inv X pins σ H s->t σ H Q->wpAny (model X.prog X.w) X.A (forIn ifs true λ c r=>if r=true then do let ok <-isTrue c X.env (eval c X.env);pure (ForInStep.yield ok) else pure (ForInStep.yield r)) (TP X pins σ Q) X.xe s
theorem lA {X:Cx} : UM X [] Eb:=λ pins s σ H Q I h=>wpAny_tests_nil ⟨H,I,h⟩
section
variable {X:Cx} {pins:List (Addr×Obj)} {σ : St} {H3:Hp} {s3:Shared} {scope:Scope} {x:Str} {fp:List Addr}
theorem Am {E:Value->Shared->Prop} {H':Hp} (I:Inv X pins σ H3 s3) (S:j7 scope X.env.scope x X.N) (hfp : ∀ b∈fp,nP X pins H3 b) (hfo : ∀ b∈fp,∃ o,s3.heap.get? b=some o) (hn : ∀ b∈fp,H' b=none) : ∀ b∈fp,nP (X.comp scope x pins fp s3 H3 E) [] H' b:=λ b hb=>by
 obtain ⟨o,e⟩:=hfo b hb
 refine ⟨hn b hb,Nat.ne_of_lt (Heap.lt_size e),λ z => ?_,.inl hb,λ y c h=>(hfp b hb).2.2.2.2.1 y c (fk I.ok S h).2,λ p hp=>(hfp b hb).2.2.2.2.2 p (by simpa [Cx.comp] using hp)⟩
 rcases List.mem_cons.mp (I.uf b z) with q | q
 ·exact (hfp b hb).2.1 q
 ·exact (hfp b hb).2.2.1 q
theorem Hg {E:Value->Shared->Prop} {ug:List (Addr×Obj)} {σ':St} {H':Hp} {s':Shared} (I:Inv X pins σ H3 s3) (hfp : ∀ b∈fp,nP X pins H3 b) (J:Inv (X.comp scope x pins fp s3 H3 E) ug σ' H' s'):Inv X pins σ H' s' :=
 I.IT (ch:=fp) J.os J.base J.hok J.bare λ b hb=>⟨(hfp b hb).2.2.2.1,(hfp b hb).2.1,(hfp b hb).2.2.2.2.1,(hfp b hb).2.2.2.2.2⟩
theorem rz {E:Value->Shared->Prop} {H':Hp} {σ'':St} {s' s'':Shared} {h':Heap} (I:Inv X pins σ H3 s3) (J:Inv X pins σ'' H' s'') (hC:H' s3.heap.objs.size=none) (hs:Heap.SameBut s3.heap.objs.size s''.heap h'):Inv X pins σ'' H' { s'' with heap:=h' } := by
 refine J.turned (t':=s''.toks) (λ b o hb e=>(hs.2 b hb).trans e) hC (Nat.ne_of_gt I.lt) (.inr I.sz) (λ y c e z => ?_) λ p hp z => ?_
 ·obtain ⟨v,q⟩:=I.cell y c e
  exact absurd q.lt (by rw [z];exact Nat.lt_irrefl _)
 ·exact absurd (Heap.lt_size (I.pin p hp).1) (by rw [z];exact Nat.lt_irrefl _)
theorem An {prog:Program} {w:World} {A:Around} {R:Result->Shared->Prop} {s:Shared} {elt target iter:Expr} {ifs:List Expr} {scope:Scope} {pos:Pos} {it acc:Value} {env:Env} (I:Nat->Shared->Prop)
  (turn : ∀ n s,I n s->wpAny (model prog w) A (pyNext it) (λ r s₁ => match r with
   | none=>R (.ok .next) s₁
   | some v=>wpAny (model prog w) A (letOwnedTupleGo target it v) (λ _ s₁'=>wpAny (model prog w) A (assign target env v) (λ _ s₂ =>
     wpAny (model prog w) A (forIn ifs true λ c r=>if r=true then do let ok <-isTrue c env (eval c env);pure (ForInStep.yield ok) else pure (ForInStep.yield r)) (λ ok s₃ =>
      if ok=true then wpAny (model prog w) A (eval elt env) (λ x s₄ =>
       wpAny (model prog w) A (call (.builtin "list.append") [acc,x]) (λ _ s₅ => ∃ m,m < n/\I m s₅) (notedBy (model prog w) A env λ e s'=>R (.error e) s') s₄) (notedBy (model prog w) A env λ e s'=>R (.error e) s') s₃
      else ∃ m,m < n/\I m s₃) (notedBy (model prog w) A env λ e s'=>R (.error e) s') s₂) (notedBy (model prog w) A env λ e s'=>R (.error e) s') s₁') (notedBy (model prog w) A env λ e s'=>R (.error e) s') s₁) (notedBy (model prog w) A env λ e s'=>R (.error e) s') s)
  (n:Nat) (h:I n s) :
  codeAny (model prog w) A (.compLoop (.ListComp elt [⟨target,iter,ifs,0⟩] scope pos) 0 it acc env) R s:=by
 refine codeAny_loop rfl I (λ n s hI => ?_) n h
 show wpAny _ A ((compTurn (.ListComp elt [⟨target,iter,ifs,0⟩] scope pos) 0 it acc env).onRaise (λ x=>do noteFrame x env;theTreesLotGoes x)) _ _ s
 refine wpAny_noted ?_
 rw [compTurn_list]
 refine wpAny_bind (wpAny_standAt (wpAny_bind (wpAny_mono (turn n s hI) (λ r s₁ h₁ => ?_) λ _ _ h'=>h')))
 cases r with
 | none=>exact wpAny_pure h₁
 | some v =>
   refine wpAny_bind (wpAny_mono h₁ (λ _ s₁' h₁' => ?_) λ _ _ h'=>h')
   refine wpAny_bind (wpAny_mono h₁' (λ _ s₂ h₂ => wpAny_bind (wpAny_mono h₂ (λ ok s₃ h₃ => ?_) λ _ _ h'=>h')) λ _ _ h'=>h')
   cases ok with
   | false=>exact wpAny_pure ⟨rfl,h₃⟩
   | true =>
     exact wpAny_bind (wpAny_bind (wpAny_mono h₃ (λ x s₄ h₄ => wpAny_bind (wpAny_mono h₄ (λ _ s₅ h₅ => wpAny_pure (wpAny_pure ⟨rfl,h₅⟩)) λ _ _ h'=>h')) λ _ _ h'=>h'))
theorem uG {E:XK} {use:Option (Value->Sem Unit)} {QQ:Value->Shared->Prop} {elt iter:Expr} {px:Pos} {ifs:List Expr} {pos:Pos} {tt:TT} {te:TE} {it:Addr} {tn:Nat->Heap->Prop} {J:It} {Q:VK} {H2:Hp} {s2:Shared}
  (hc:X.calm=true) (hst:X.stack=X.env::X.outer) (hf:X.env.frame=some X.env.locals) (hex:X.ex = []) (P0 : ∀ e s,RB X E e s->X.xe e s) (S:j7 scope X.env.scope x X.N)
  (ht : ∀ (pins:List (Addr×Obj)) (fp:List Addr) (s3:Shared) (H3:Hp),UM ((X.comp scope x pins fp s3 H3 λ _ _=>False).jf (XC (X.comp scope x pins fp s3 H3 λ _ _=>False) E)) ifs tt)
  (he : ∀ (pins:List (Addr×Obj)) (fp:List Addr) (s3:Shared) (H3:Hp),PE ((X.comp scope x pins fp s3 H3 λ _ _=>False).jf (XC (X.comp scope x pins fp s3 H3 λ _ _=>False) E)) elt te)
  (I2:Inv X pins σ H2 s2) (T:Turn X.prog X.w X.K (.Name x px) J fp it tn) (st2:tn 0 s2.heap) (f2 : ∀ b∈fp,nP X pins H2 b)
  (h : ∀ p,H2 p=none->∃ W:Nat->Nat->List V->Hp->Prop,(∃ m,W 0 m [] (upd H2 p (.lst []))) ∧ ∀ i m acc H2,W i m acc H2 →
   H2 p=some (.lst acc)/\((J.stop i H2/\Q (.ref p) H2)\/(J.go i H2 ∧ ∃ N:List V->Hp->Prop,(∀ acc' H',N acc' H'->∃ m',m' < m/\W (i+1) m' acc' H') ∧ ∀ x H3,J.Mh i H2 x H3->tt (some x :: σ) H3 λ b H4 =>
    if b=true then te (some x :: σ) H4 λ v H5=>H5 p=some (.lst acc)/\acc.length < sizeLine/\N (acc++[v]) (upd H5 p (.lst (acc++[v]))) else N acc H4)))
  (fin : ∀ (s3:Shared) (H3:Hp) (p:Addr) (s':Shared) (H':Hp) (m:Str->Option Value),Inv X pins σ H3 s3->Inv X pins σ H' s'->H' s3.heap.objs.size=none->s'.heap.Ns s3.heap.objs.size m->Q (.ref p) H'->∀ cenv:Env,cenv.locals=s3.heap.objs.size->gy (model X.prog X.w) X.A X.xe use QQ (.ref p) cenv (.ok .next) s') :
  wpAny (model X.prog X.w) X.A (newList []) (λ acc s₃ => wpAny (model X.prog X.w) X.A (newFunctionEnv scope X.env.globals (cY X.env.cells scope.names []) [] X.env.qual none .none (some X.env)) (λ cenv s₄ =>
   codeAny (model X.prog X.w) X.A (.compStart (.ListComp elt [⟨.Name x px,iter,ifs,0⟩] scope pos) 0 (.ref it) acc { cenv with scope:=relabel scope X.env }) (gy (model X.prog X.w) X.A X.xe use QQ acc { cenv with scope:=relabel scope X.env }) s₄) X.xe s₃) X.xe s2:=by
 have hp:H2 s2.heap.objs.size=none:=I2.hok.fresh (Nat.le_refl _)
 obtain ⟨W,⟨m0,w0⟩,turn⟩:=h _ hp
 refine wpAny_newObj_type (wpAny_newFunctionEnv S.cell (by intro y hy;simp at hy) (λ h₁ Qa VR => ?_) S.kind)
 generalize hs3:({ s2 with heap:=s2.heap.push { cls := .type "list",dict:=none,data := .seq ([]:List Value).toArray } } : Shared)=s3
 have Sq:s3.heap=s2.heap.push { cls := .type "list",dict:=none,data := .seq ([]:List Value).toArray } := by rw [<-hs3]
 have I3:Inv X pins σ (upd H2 s2.heap.objs.size (.lst [])) s3:=by
  rw [<-hs3]
  exact I2.laid (t':=s2.toks) (λ b o e=>Heap.get?_push_of_some _ e) (Nat.le_refl _) ⟨by show 0<=sizeLine;exact Nat.zero_le _,[],0,.nil,Heap.get?_push_size _ rfl⟩
 have f3 : ∀ b∈fp,nP X pins (upd H2 s2.heap.objs.size (.lst [])) b:=λ b hb=>⟨by
  obtain ⟨o,e,_⟩:=T.obj _ _ st2 b hb
  rw [bN (Nat.ne_of_lt (Heap.lt_size e))];exact (f2 b hb).1,(f2 b hb).2⟩
 have o3 : ∀ b∈fp,∃ o,s3.heap.get? b=some o:=λ b hb=>by
  obtain ⟨o,e,_⟩:=T.obj _ _ st2 b hb
  exact ⟨o,by rw [Sq];exact Heap.get?_push_of_some _ e⟩
 have Qa:h₁.Ns s3.heap.objs.size (λ x=>([]:List (Str×Value)).reverse.lookup x):=by rw [Sq];exact Qa
 have kk : ∀ b o,s3.heap.get? b=some o->h₁.get? b=some o:=λ b o e=>VR.extBut b o (by
  have:=Heap.lt_size e
  rw [Sq] at this
  exact Nat.ne_of_lt this) (Heap.get?_push_of_some _ (by rw [<-Sq];exact e))
 generalize VS:({ s3 with heap:=h₁,toks:=s3.toks+([]:List (Str×Value)).length } : Shared)=s4
 have VT:s4.heap=h₁ := by rw [<-VS]
 have I4:Inv (X.comp scope x pins fp s3 (upd H2 s2.heap.objs.size (.lst [])) λ _ _=>False) [] (none :: σ) (upd H2 s2.heap.objs.size (.lst [])) s4:=Ea I3 S f3 o3 (by rw [VT];exact Qa) (by rw [VT];exact kk) (by rw [<-VS]) (by rw [<-VS];exact I3.bare)
 have st4:tn 0 s4.heap:=T.keep _ _ _ st2 λ b hb o e=>by rw [VT];exact kk b o (by rw [Sq];exact Heap.get?_push_of_some _ e)
 have loop:codeAny (model X.prog X.w) X.A (.compLoop (.ListComp elt [⟨.Name x px,iter,ifs,0⟩] scope pos) 0 (.ref it) (.ref s2.heap.objs.size) (compEnvC scope (cY X.env.cells scope.names []) s3.heap.objs.size X.env))
   (gy (model X.prog X.w) X.A X.xe use QQ (.ref s2.heap.objs.size) (compEnvC scope (cY X.env.cells scope.names []) s3.heap.objs.size X.env)) s4:=by
  have raised : ∀ e s',XC (X.comp scope x pins fp s3 (upd H2 s2.heap.objs.size (.lst [])) λ _ _=>False) E e s'->notedBy (model X.prog X.w) X.A (compEnvC scope (cY X.env.cells scope.names []) s3.heap.objs.size X.env) (λ x s''=>gy (model X.prog X.w) X.A X.xe use QQ (.ref s2.heap.objs.size) (compEnvC scope (cY X.env.cells scope.names []) s3.heap.objs.size X.env) (.error x) s'') e s' :=
   λ e s' h=>Cq hst hf hex I3 f3 P0 rfl rfl h
  refine An (λ n s' => ∃ i acc H' v0,Inv (X.comp scope x pins fp s3 (upd H2 s2.heap.objs.size (.lst [])) λ _ _=>False) [] (v0 :: σ) H' s'/\tn i s'.heap/\(∀ b∈fp,H' b=none)/\W i n acc H') ?_ m0 ⟨0,[],_,none,I4,st4,λ b hb=>(f3 b hb).1,w0⟩
  rintro n s5 ⟨i,acc,H5,v0,I5,Ru,Ut,w5⟩
  obtain ⟨hacc,hh⟩:=turn i n acc H5 w5
  rcases hh with ⟨stop,q⟩ | ⟨go,N,hN,step⟩
  ·refine b8 (T.done (X.comp scope x pins fp s3 (upd H2 s2.heap.objs.size (.lst [])) λ _ _=>False) rfl rfl rfl hc i [] s5 _ H5 _ I5 (Am I3 S f3 o3 Ut) Ru stop) λ r s6 ⟨hr,I6⟩ => ?_
   subst hr
   obtain ⟨m6,hn6,_⟩:=id I6.loc
   exact fin s3 _ _ s6 H5 m6 I3 (Hg I3 f3 I6) I6.free hn6 q _ rfl
  ·refine b8 (T.item (X.comp scope x pins fp s3 (upd H2 s2.heap.objs.size (.lst [])) λ _ _=>False) rfl rfl rfl hc i [] s5 _ H5 _ I5 (Am I3 S f3 o3 Ut) Ru go) λ r s6 ⟨u,hr,h6⟩ => ?_
   subst hr
   refine b8 h6 λ _ s7 ⟨y,H7,I7,r7,y7,VU,fr7⟩ => ?_
   have I7':=I7.pinned (Am I3 S f3 o3 fr7) (T.obj _ _ VU)
   have again : ∀ {n':List V} {v1:Option V} {H9:Hp} {s9:Shared},Inv (X.comp scope x pins fp s3 (upd H2 s2.heap.objs.size (.lst [])) λ _ _=>False) ([]++um fp s7.heap) (v1 :: σ) H9 s9->N n' H9->∃ m,m < n ∧ ∃ i acc H' v0,Inv (X.comp scope x pins fp s3 (upd H2 s2.heap.objs.size (.lst [])) λ _ _=>False) [] (v0 :: σ) H' s9/\tn i s9.heap/\(∀ b∈fp,H' b=none)/\W i m acc H':=fun {n' v1 H9 s9} I9 n9=>by
    obtain ⟨m',hm,w9⟩:=hN n' H9 n9
    refine ⟨m',hm,i+1,n',H9,v1,I9.nR,T.keep _ _ _ VU λ b hb o e=>(I9.pin (b,o) (List.mem_append_right _ (List.mem_append_right _ (jg hb e)))).1,λ b hb => ?_,w9⟩
    obtain ⟨o,e,d⟩:=T.obj _ _ VU b hb
    exact (I9.pin (b,o) (List.mem_append_right _ (List.mem_append_right _ (jg hb e)))).2.1
   refine wpAny_assign_Name (uh (X:=X.comp scope x pins fp s3 (upd H2 s2.heap.objs.size (.lst [])) λ _ _=>False) (i:=0) I7' S.nd rfl (Or.inl (lookup_relabel_local S.loc)) r7 (λ s8 I8 => ?_) (Or.inr (lookup_relabel_local S.loc)))
   refine wpAny_mono (ht pins fp s3 _ _ s8 _ H7 _ (I8.jf _) (step y H7 y7)) (λ ok s9 ⟨H9,I9,q9⟩ => ?_) raised
   cases ok with
   | false =>
     rw [if_neg Bool.false_ne_true]
     have VV:N acc H9:=by simpa using q9
     exact again I9.dg VV
   | true =>
     rw [if_pos rfl]
     have VV:te (some y :: σ) H9 (λ v H5=>H5 s2.heap.objs.size=some (.lst acc)/\acc.length < sizeLine/\N (acc++[v]) (upd H5 s2.heap.objs.size (.lst (acc++[v])))):=q9
     refine wpAny_mono (he pins fp s3 _ _ s9 _ H9 _ I9 VV) (λ u10 s10 ⟨v,UN,I10,r10,ha,hl,n10⟩ => ?_) raised
     refine wpAny_mono (G3 (X:=(X.comp scope x pins fp s3 (upd H2 s2.heap.objs.size (.lst [])) λ _ _=>False).jf (XC (X.comp scope x pins fp s3 (upd H2 s2.heap.objs.size (.lst [])) λ _ _=>False) E)) _ s10 _ UN (.ref s2.heap.objs.size) [v] (.ref s2.heap.objs.size) [u10] (λ w H'=>w = .aH/\H' = upd UN s2.heap.objs.size (.lst (acc++[v]))) I10 rfl (.cons r10 .nil) ⟨_,acc,v,rfl,rfl,ha,hl,rfl,rfl⟩) (λ u11 s11 ⟨v11,H11,I11,r11,q11,e11⟩ => ?_) raised
     rw [e11] at I11
     exact again I11.dg n10
 exact codeAny_compStart_list loop (T.self _ 0 _ _ _ st4 loop)
end
section
variable {X:Cx} {scope:Scope} {x:Str} {E:XK} {elt iter:Expr} {px pos:Pos} {ifs:List Expr} {wi:TI} {tt:TT} {te:TE}
abbrev Cx.UO (X:Cx) (scope:Scope) (x:Str) (pins:List (Addr×Obj)) (fp:List Addr) (s3:Shared) (H3:Hp) (E:XK):Cx:=(X.comp scope x pins fp s3 H3 λ _ _=>False).jf (XC (X.comp scope x pins fp s3 H3 λ _ _=>False) E)
theorem t6 (hc:X.calm=true) (hst:X.stack=X.env::X.outer) (hf:X.env.frame=some X.env.locals) (hex:X.ex = []) (P0 : ∀ e s,RB X E e s->X.xe e s) (S:j7 scope X.env.scope x X.N) (hi:PI X (.Name x px) iter wi)
  (ht : ∀ pins fp s3 H3,UM (X.UO scope x pins fp s3 H3 E) ifs tt) (he : ∀ pins fp s3 H3,PE (X.UO scope x pins fp s3 H3 E) elt te) (hs : ∀ x,foldedSetIterable iter X.env x=pure x:=by intro _;rfl) :
  PE X (.ListComp elt [⟨.Name x px,iter,ifs,0⟩] scope pos) (Gj wi tt te):=by
 intro pins s σ H Q I h
 rw [eval_ListComp]
 refine fQ (use:=none) rfl hs (lV λ y hy e=>I.ok.has y.1 (S.UJ y hy e)) S.kind S.nms (b8 (hi pins s σ H _ I h) λ v s1 h1=>b8 h1 λ itv s2 h2 => ?_)
 obtain ⟨it,fp,tn,J,H2,e,I2,T,st2,f2,hW⟩:=h2
 subst e
 refine uG hc hst hf hex P0 S ht he I2 T st2 f2 hW λ s3 H3 p s' H' m I3 I' hC hn q cenv hcl => ?_
 refine ⟨m,by rw [hcl];exact hn,λ h' hs'=>⟨.ref p,H',rz (E:=X.xe) (s':=s') I3 I' hC (by rw [<-hcl];exact hs'),rfl,q⟩⟩
theorem uI {y:Str} {i:Nat} {py spos:Pos} (hc:X.calm=true) (hst:X.stack=X.env::X.outer) (hf:X.env.frame=some X.env.locals) (hex:X.ex = []) (P0 : ∀ e s,RB X E e s->X.xe e s) (S:j7 scope X.env.scope x X.N) (hi:PI X (.Name x px) iter wi)
  (ht : ∀ pins fp s3 H3,UM (X.UO scope x pins fp s3 H3 E) ifs tt) (he : ∀ pins fp s3 H3,PE (X.UO scope x pins fp s3 H3 E) elt te) (hN:X.N.Nodup) (hy:X.N[i]? = some y) (hl:Loc X.env.scope y)
  (hs : ∀ x,foldedSetIterable iter X.env x=pure x:=by intro _;rfl) (hsw:swapsWith (.ListComp elt [⟨.Name x px,iter,ifs,0⟩] scope pos) (some (.Name y py)) spos.line X.env=pure true:=by rfl)
  (hfn:X.fn y=true\/X.env.scope.names.lookup y=some .local:=by first | exact .inl rfl | exact .inr rfl | assumption) :
  PS X (.Assign [.Name y py] (.ListComp elt [⟨.Name x px,iter,ifs,0⟩] scope pos) spos) (Ja (Gj wi tt te) (qX i)):=by
 intro pins s σ H D I h
 rw [exec_Assign_Name_used _ _ _ _ hsw]
 refine wpAny_bind (wpAny_standAt (wpAny_bind ?_))
 show wpAny _ X.A (do let _ <-comprehension (.ListComp elt [⟨.Name x px,iter,ifs,0⟩] scope pos) scope X.env _ (newList []) false (eval iter X.env) (some (assign (.Name y py) X.env))) _ _ s
 refine wpAny_bind (wpAny_mono (fQ (use:=some (assign (.Name y py) X.env)) (Q:=λ _ s'=>SP X pins D .next s') rfl hs (lV λ y hy e=>I.ok.has y.1 (S.UJ y hy e)) S.kind S.nms
  (b8 (hi pins s σ H _ I h) λ v s1 h1=>b8 h1 λ itv s2 h2 => ?_)) (λ _ s' hq=>wpAny_pure (wpAny_pure hq)) λ _ _ e=>e)
 obtain ⟨it,fp,tn,J,H2,e,I2,T,st2,f2,hW⟩:=h2
 subst e
 refine uG (Q:=λ v H1=>qX i v σ H1 D.nx) hc hst hf hex P0 S ht he I2 T st2 f2 hW λ s3 H3 p s' H' m I3 I' hC hn q cenv hcl => ?_
 show wpAny _ X.A (assign (.Name y py) X.env (.ref p)) _ _ s'
 refine wpAny_assign_Name (zf I' hN hy hl (v := .ref p) rfl (λ s'' I'' hch => ?_) hfn)
 obtain ⟨a,hsb,ha⟩:=hch
 have Rt:s3.heap.objs.size≠a:=by
  rcases ha with rfl | ha
  ·exact Nat.ne_of_gt I3.lt
  ·obtain ⟨w,z⟩:=I3.cell y a ha
   exact Nat.ne_of_gt z.lt
 refine ⟨m,by rw [hcl];exact hn.sameBut hsb Rt,λ h' hs'=>⟨_,H',rz (E:=X.xe) (s':=s') I3 I'' hC (by rw [<-hcl];exact hs'),q⟩⟩
end
end L2
namespace L2
open PySem PySem.Spec PyProof.Rows
mutual
inductive fR (H:Hp):V->PyData->Prop
 | aH:fR H .aH .none
 | bl (b:Bool):fR H (.bl b) (.bool b)
 | int (i:Int):fR H (.int i) (.int i)
 | str (x:Str):fR H (.str x) (.str x)
 | lst {a:Addr} {xs:List V} {ds:List PyData} (e:H a=some (.lst xs)) (h:bO H xs ds):fR H (.ref a) (.list ds)
 | tup {a:Addr} {xs:List V} {ds:List PyData} (e:H a=some (.tup xs)) (h:bO H xs ds):fR H (.ref a) (.tuple ds)
inductive bO (H:Hp):List V->List PyData->Prop
 | nil:bO H [] []
 | cons {x:V} {xs:List V} {d:PyData} {ds:List PyData} : fR H x d->bO H xs ds->bO H (x::xs) (d::ds)
end
mutual
theorem fR.reads {P:Program} {w:World} {H:Hp} {h:Heap} (ok:jJ P w H h) : ∀ {x:V} {d:PyData} {u:Value},fR H x d->RelV x u->∃ as,Reads h u d as
 | _,_,_,.aH,r=>by cases r;exact ⟨_,.none⟩
 | _,_,_,.bl b,r=>by cases r;exact ⟨_,.bool b⟩
 | _,_,_,.int i,r=>by obtain ⟨t,rfl⟩:=r;exact ⟨_,.int i t⟩
 | _,_,_,.str x,r=>by obtain ⟨t,rfl⟩:=r;exact ⟨_,.str x t⟩
 | _,_,_,.lst e hs,r=>by
   cases r
   obtain ⟨_,its,n,rv,ho⟩:=(show bI P w H h _ (.lst _) from ok _ _ e)
   obtain ⟨as,ra⟩:=bO.reads ok hs rv
   exact ⟨_,.list ho rfl rfl ra⟩
 | _,_,_,.tup e hs,r=>by
   cases r
   obtain ⟨_,its,rv,o,ho,hc,n,hd⟩:=(show bI P w H h _ (.tup _) from ok _ _ e)
   obtain ⟨as,ra⟩:=bO.reads ok hs rv
   exact ⟨_,.tuple ho hc hd ra⟩
theorem bO.reads {P:Program} {w:World} {H:Hp} {h:Heap} (ok:jJ P w H h) : ∀ {xs:List V} {ds:List PyData} {us:List Value},bO H xs ds->Vals xs us->∃ as,ReadsAll h us ds as
 | _,_,_,.nil,.nil=>⟨_,.nil⟩
 | _,_,_,.cons a b,.cons r t=>by
   obtain ⟨_,ra⟩:=fR.reads ok a r
   obtain ⟨_,rb⟩:=bO.reads ok b t
   exact ⟨_,.cons ra rb⟩
end
mutual
theorem fR.mono {H H':Hp} (k : ∀ a xs,H a=some (.lst xs)->H' a=some (.lst xs)) (k2 : ∀ a xs,H a=some (.tup xs)->H' a=some (.tup xs)) : ∀ {x:V} {d:PyData},fR H x d->fR H' x d
 | _,_,.aH => .aH
 | _,_,.bl b => .bl b
 | _,_,.int i => .int i
 | _,_,.str x => .str x
 | _,_,.lst e hs => .lst (k _ _ e) (bO.mono k k2 hs)
 | _,_,.tup e hs => .tup (k2 _ _ e) (bO.mono k k2 hs)
theorem bO.mono {H H':Hp} (k : ∀ a xs,H a=some (.lst xs)->H' a=some (.lst xs)) (k2 : ∀ a xs,H a=some (.tup xs)->H' a=some (.tup xs)) : ∀ {xs:List V} {ds:List PyData},bO H xs ds->bO H' xs ds
 | _,_,.nil => .nil
 | _,_,.cons a b => .cons (fR.mono k k2 a) (bO.mono k k2 b)
end
theorem fR.same {H H':Hp} (s:jM H H') {x:V} {d:PyData} (h:fR H x d):fR H' x d:=h.mono (λ _ _ e=>s _ _ e) λ _ _ e=>s _ _ e
theorem bO.same {H H':Hp} (s:jM H H') {xs:List V} {ds:List PyData} (h:bO H xs ds):bO H' xs ds:=h.mono (λ _ _ e=>s _ _ e) λ _ _ e=>s _ _ e
theorem bO.append {H:Hp} : ∀ {xs ys:List V} {ds es:List PyData},bO H xs ds->bO H ys es->bO H (xs++ys) (ds++es)
 | _,_,_,_,.nil,h=>h
 | _,_,_,_,.cons a b,h => .cons a (bO.append b h)
theorem bO.length {H:Hp} : ∀ {xs:List V} {ds:List PyData},bO H xs ds->xs.length=ds.length
 | _,_,.nil=>rfl
 | _,_,.cons _ b=>by rw [List.length_cons,List.length_cons,bO.length b]
abbrev shaped:=PySem.SeqAt.shaped
section
variable {X:Cx}
end
end L2
namespace L2
open PySem PySem.Spec PyProof.Rows
theorem kc : ∀ (ns:List Int),∀ n∈ns,Builtin.Int.intBits n<=PySem.W.WData.weightAll (ns.map PySem.W.WData.int)
 | m::r,n,h=>by
   simp only [List.map_cons,PySem.W.WData.weightAll]
   rcases List.mem_cons.mp h with rfl | h
   ·have:PySem.W.WData.weight (.int n)=Builtin.Int.intBits n:=by simp only [PySem.W.WData.weight,Builtin.Int.intBits]
    omega
   ·have:=kc r n h
    omega
theorem Cr {ns:List Int} (h:PySem.W.WData.layableAll [.list (ns.map PySem.W.WData.int)]=true) : ∀ n∈ns,Builtin.Int.intBits n<=1048576:=λ n hn=>by
 have h1:PySem.W.WData.layable (.list (ns.map PySem.W.WData.int))=true:=by simpa [PySem.W.WData.layableAll] using h
 unfold PySem.W.WData.layable at h1
 have h2:=of_decide_eq_true (Bool.and_eq_true_iff.mp h1).2
 have e:(2:Nat) ^ 20=1048576:=by decide
 simp only [PySem.W.WData.weight,e] at h2
 exact Nat.le_trans (kc ns n hn) h2
end L2
namespace Uw
open PySem PySem.W PySem.Calls PyProof.Rows
theorem Ao {l:OpenLaw} {n:Nat} {q:Program} {loose:List Str} {XP:(Str->Option Value)->Heap->Prop} {YP:World->Heap->Prop} {d:DefRec}
  (hn:l.most=some n) (hdf:d.params.defaults = [])
  (call : ∀ (w:World) (s₀ s₁ : Shared) (mg mb:Str->Option Value) (fa:Addr) (o:Obj) (pm cd doc:Value) (a:Addr) (vs:List Value) (ns:List Int),
   Ground q loose [] XP w s₀ mg mb s₁.heap->YP w s₁.heap →
   s₁.heap.get? fa=some o->o.data = .func (docDef d.name d.params d.body d.scope pm cd doc)->s₁.heap.CodeRec cd d.name->mg d.name=some (.ref fa) →
   s₁.heap.get? a=some { cls := .type "list",data := .seq vs.toArray }->IntsAre vs ns->ns.length<=n->(∀ n∈ns,Builtin.Int.intBits n<=1048576)->s₁.gens = #[] →
   codeAny (model l.prog w) callerA (.call (.ref fa) ⟨[.ref a],[]⟩) (λ r s'=>r = .ok (.ret (.bool true))/\OldK s₁.heap s'.heap/\s'.os=s₁.os/\AllBare s'.gens) s₁) :
  WalkO q loose XP YP l.row.toRowW d [] (λ f vs=>PySem.call f vs):=by
 intro w s₀ s₁ mg mb G Y fa o pm cd doc dV kV ho hd hcd hD hmg hg args vals as hpre hlay hrd hwl hlo
 obtain rfl:dV = .none:=Dflts.none hD hdf
 obtain rfl:kV = .none:=Dflts.noKw hD
 obtain ⟨a,vs,ns,rfl,rfl,hobj,hints,hlen⟩:=G4 hn hpre hwl
 refine enter_call (codeAny_mono (call w s₀ s₁ mg mb fa o pm cd doc a vs ns G Y ho (fd_plain hd) hcd hmg hobj hints hlen (L2.Cr hlay) hg) λ r s' hq => ?_)
 obtain ⟨rfl,h2,h3,h4⟩:=hq
 exact ⟨.inl ⟨.bool true,.bool true,[],rfl,λ _=>rfl,.bool true,G5 l _,λ _=>⟨List.Pairwise.nil,λ _ hm=>(nomatch hm)⟩⟩,h2,h3,h4⟩
end Uw
namespace L2
open PySem PySem.Spec PyProof.Rows
def Ec (K:PySem.W.Frag):Sp:=λ vs H Q _ => ∃ (a:Addr) (ns:List Int),vs = [.ref a]/\fE K H a (ns.map V.int)/\ns.length<=63/\(∀ n∈ns,Builtin.Int.intBits n<=1048576)/\Mz H ∧ ∀ H',Q (.bl true) H'
theorem Hh {l:PySem.W.OpenLaw} {q:Program} {loose:List Str} {XP:(Str->Option Value)->Heap->Prop} {YP:World->Heap->Prop} {d:DefRec} {K:Params->PySem.W.Frag} {k:Nat} {x:Str} (hn:l.most=some 63) (hdf:d.params.defaults = [])
  (hr:cL k callerA) (hY : ∀ (w:World) (h:Heap),YP w h->(K w.params).In h)
  (F : ∀ (w:World) (mg:Str->Option Value) (fa:Addr) (h:Heap),(K w.params).In h->h.Ns mainGlobals mg->mg d.name=some (.ref fa) →
   ∃ fd:FuncData,(∀ (s:Shared) (u:Value),BindsTo s fd ⟨[u],[]⟩ [(x,u)]) ∧ ∀ base:Heap,(K w.params).In base->base.Ns mainGlobals mg->fO l.prog w (K w.params) mg base (tY l.prog w) k fa fd [x] (Ec (K w.params))) :
  PySem.W.WalkO q loose XP YP l.row.toRowW d [] (λ f vs=>PySem.call f vs):=by
 refine Uw.Ao hn hdf λ w s₀ s₁ mg mb fa o pm cd doc a vs ns G Y ho hd hcd hmg hobj hints hlen Ct hg => ?_
 have KX:=hY w _ Y
 obtain ⟨fd,hb,hF⟩:=F w mg fa _ KX G.T.g hmg
 exact JB KX G.T.g G.T.b G.T.builtins G.T.nolimit hg hobj hints (Nat.le_trans hlen (by decide)) hr hF hb (λ H hO hS=>⟨a,ns,rfl,hS,hlen,Ct,hO,λ _=>rfl⟩) λ H e s' ⟨_,_,_,_,_,_,_,z⟩=>z
theorem Aq {X:Cx} : qY X (binaryOp .Mult) (rI (λ i j=>IntMulOk i j) λ i j => .int (i * j)):=RQ λ _ _ _ _ _ _ _ hc q=>mul_int q hc
end L2
namespace L2
open PySem PySem.Spec PyProof.Rows
def Gk (scope es:Scope) (x:Str) (N:List Str):Bool :=
 decide (scope.kind = .function) && (scope.names.all λ y=>decide (y.2 ≠ .cell)) && (scope.names.all λ y=>decide (y.2 ≠ .local) || decide (scope.names.lookup y.1=some .local)) && decide (scope.names.lookup x=some .local) &&
 decide (scope.names.lookup ("" : Str)=none) && (scope.names.all λ y=>decide (y.2 ≠ .free) || (decide (es.names.lookup y.1=some .cell) || decide (es.names.lookup y.1=some .free))) &&
 (scope.names.all λ y=>decide (y.2 ≠ .local) || (decide (y.1=x) || !N.contains y.1)) && decide (x::N.map λ y=>if y=x then ("" : Str) else y).Nodup
theorem gz {scope es:Scope} {x:Str} {N:List Str} (h:Gk scope es x N=true):j7 scope es x N:=by
 unfold Gk at h
 simp only [Bool.and_eq_true,decide_eq_true_eq,List.all_eq_true,Bool.or_eq_true,Bool.not_eq_true'] at h
 obtain ⟨⟨⟨⟨⟨⟨⟨h1,h2⟩,h3⟩,h4⟩,h5⟩,h6⟩,h7⟩,h8⟩:=h
 refine ⟨h1,h2,λ y hy e=>(h3 y hy).resolve_left λ z=>z e,h4,h5,λ y hy e=>(h6 y hy).resolve_left λ z=>z e,λ y hy e => ?_,h8⟩
 rcases (h7 y hy).resolve_left λ z=>z e with q | q
 ·exact .inl q
 ·exact .inr λ m=>by
   have:N.contains y.1=true:=List.contains_iff_mem.mpr m
   rw [q] at this;cases this
def Qc (sc:Scope) (x:Str):Bool:=match sc.names.lookup x with
 | some .local=>true
 | some .cell=>true
 | some .free=>true
 | _=>false
theorem Qd {sc:Scope} {x:Str} (h:Qc sc x=true):O8 sc x:=by
 unfold Qc at h
 unfold O8
 split at h <;> simp_all
section
variable {X:Cx}
theorem pk (i:Nat) {x:Str} {pos:Pos} (hN:X.N[i]? = some x:=by kernel_rfl) (hv:Qc X.env.scope x=true:=by kernel_rfl) (hd:(x == ("__debug__" : Str))=false:=by decide)
  (hcd:(x == ("__classdict__" : Str))=false:=by decide):PE X (.Name x pos) (GQ i):=DO hN (Qd hv) hd hcd
theorem UP {X:Cx} : ∀ e s,RB X E0 e s->X.xe e s:=λ _ _ ⟨_,_,_,_,_,_,_,_,_,_,_,_,_,z⟩=>z.elim
end
section
variable {P:Program} {w:World} {K:PySem.W.Frag} {mg:Str->Option Value} {base:Heap}
theorem Def.Cu {x:Str} {st:Stmt} {N ps:List Str} {k:Nat} {sp:Sp} (D:Def K mg x st) (S:aA N ps (af st)) (len : ∀ vs H Q E,sp vs H Q E->vs.length=ps.length)
  (hb : ∀ (kV doc pm:Value) (an:Option Addr) (cdv ct:Value) (us:List Value),us.length=ps.length->bindArgs (PySem.W.fnOf x x (ay st) (aq st) (af st) .none kV doc pm an cdv ct) ⟨us,[]⟩ = pure (ps.zip us))
  (hbody : ∀ (f:Addr) (cdv:Value) (A:Around) (outer:List Env) (s:Shared) (H:Hp) (vs:List V) (Q:VK) (E:XK),cL k (A.deeper (envOfC x (af st) s.heap.objs.size f cdv))->sp vs H Q E →
   ∃ t,zg (G8 P w K mg base N x (af st) f cdv A outer s H E) (aq st) t/\t { nx:=λ _ H'=>Q .aH H',rt:=Q } (start N vs) H):bX P w K mg base (k+1) x ps sp:=by
 obtain ⟨f,fd,hm,F⟩:=D
 refine ⟨f,fd,hm,F.kp,F.binds hb,?_⟩
 obtain ⟨oc,od,kV,doc,pm,an,cdv,ct,osl,rfl,lk,hcd⟩:=F.ex
 exact zq lk hcd S len λ A outer s H vs Q E hr DL=>hbody _ cdv A outer s H vs Q E hr DL
structure r8 (K:PySem.W.Frag) (mg:Str->Option Value) (x:Str) (C:Addr):Prop where
 cl:LZ K C
 RA:mg x=some (.ref C)
def bH (K:PySem.W.Frag) (C:Addr) (m qual:Str) (st:Stmt):Prop := ∃ f fd,Meth K C m f/\G6 K m qual st f fd
structure aI (P:Program) (w:World) (K:PySem.W.Frag) (mg:Str->Option Value) (base:Heap) (k:Nat) (C:Addr) (m:Str) (ps:List Str) (sp:Sp):Prop where
 ex : ∃ f fd,Meth K C m f/\Binds K fd ps []/\fO P w K mg base (tY P w) k f fd ps sp
def mL (K:PySem.W.Frag) (C:Addr) (qual:Str) (st:Stmt):Prop := ∃ f fd,Mk K C f/\G6 K "__init__" qual st f fd
structure g8 (P:Program) (w:World) (K:PySem.W.Frag) (mg:Str->Option Value) (base:Heap) (k:Nat) (C:Addr) (ps:List Str) (sp:Sp):Prop where
 ex : ∃ f fd,Mk K C f/\Binds K fd ps []/\fO P w K mg base (tY P w) k f fd ps sp
theorem aI.mono {C:Addr} {m:Str} {ps:List Str} {sp:Sp} {j k:Nat} (F:aI P w K mg base j C m ps sp) (h:j<=k):aI P w K mg base k C m ps sp:=by
 obtain ⟨f,fd,h1,h3,h4⟩:=F.ex
 exact ⟨f,fd,h1,h3,h4.mono h⟩
theorem bH.Cu {C:Addr} {m qual:Str} {st:Stmt} {N ps:List Str} {k:Nat} {sp:Sp} (D:bH K C m qual st) (S:aA N ps (af st)) (len : ∀ vs H Q E,sp vs H Q E->vs.length=ps.length)
  (hb : ∀ (kV doc pm:Value) (an:Option Addr) (cdv ct:Value) (us:List Value),us.length=ps.length->bindArgs (PySem.W.fnOf m qual (ay st) (aq st) (af st) .none kV doc pm an cdv ct) ⟨us,[]⟩ = pure (ps.zip us))
  (hbody : ∀ (f:Addr) (cdv:Value) (A:Around) (outer:List Env) (s:Shared) (H:Hp) (vs:List V) (Q:VK) (E:XK),cL k (A.deeper (envOfC qual (af st) s.heap.objs.size f cdv))->sp vs H Q E →
   ∃ t,zg (G8 P w K mg base N qual (af st) f cdv A outer s H E) (aq st) t/\t { nx:=λ _ H'=>Q .aH H',rt:=Q } (start N vs) H):aI P w K mg base (k+1) C m ps sp:=by
 obtain ⟨f,fd,hm,F⟩:=D
 refine ⟨f,fd,hm,F.binds hb,?_⟩
 obtain ⟨oc,od,kV,doc,pm,an,cdv,ct,osl,rfl,lk,hcd⟩:=F.ex
 exact zq lk hcd S len λ A outer s H vs Q E hr DL=>hbody _ cdv A outer s H vs Q E hr DL
theorem bH.ok {C:Addr} {m qual:Str} {st:Stmt} {N ps:List Str} {k:Nat} {sp:Sp} (D:bH K C m qual st) (S:aA N ps (af st)) (len : ∀ vs H Q E,sp vs H Q E->vs.length=ps.length)
  (hb : ∀ (kV doc pm:Value) (an:Option Addr) (cdv ct:Value) (us:List Value),us.length=ps.length->bindArgs (PySem.W.fnOf m qual (ay st) (aq st) (af st) .none kV doc pm an cdv ct) ⟨us,[]⟩ = pure (ps.zip us))
  (hbody : ∀ (f:Addr) (cdv:Value) (A:Around) (outer:List Env) (s:Shared) (H:Hp) (vs:List V) (Q:VK) (E:XK),cL k (A.deeper (envOfC qual (af st) s.heap.objs.size f cdv))->sp vs H Q E →
   ∃ t,zg (uo (tY P w) P w K mg base N qual (af st) f cdv A outer s H E).BY (aq st) t/\t { nx:=λ _ H'=>Q .aH H',rt:=Q } (start N vs) H):aI P w K mg base (k+1) C m ps sp:=by
 refine D.Cu S len hb λ f cdv A outer s H vs Q E hr h => ?_
 obtain ⟨t,h,q⟩:=hbody f cdv A outer s H vs Q E hr h
 exact ⟨t,h.BY,q⟩
theorem mL.Cu {C:Addr} {qual:Str} {st:Stmt} {N ps:List Str} {k:Nat} {sp:Sp} (D:mL K C qual st) (S:aA N ps (af st)) (len : ∀ vs H Q E,sp vs H Q E->vs.length=ps.length)
  (hb : ∀ (kV doc pm:Value) (an:Option Addr) (cdv ct:Value) (us:List Value),us.length=ps.length->bindArgs (PySem.W.fnOf "__init__" qual (ay st) (aq st) (af st) .none kV doc pm an cdv ct) ⟨us,[]⟩ = pure (ps.zip us))
  (hbody : ∀ (f:Addr) (cdv:Value) (A:Around) (outer:List Env) (s:Shared) (H:Hp) (vs:List V) (Q:VK) (E:XK),cL k (A.deeper (envOfC qual (af st) s.heap.objs.size f cdv))->sp vs H Q E →
   ∃ t,zg (G8 P w K mg base N qual (af st) f cdv A outer s H E) (aq st) t/\t { nx:=λ _ H'=>Q .aH H',rt:=Q } (start N vs) H):g8 P w K mg base (k+1) C ps sp:=by
 obtain ⟨f,fd,hm,F⟩:=D
 refine ⟨f,fd,hm,F.binds hb,?_⟩
 obtain ⟨oc,od,kV,doc,pm,an,cdv,ct,osl,rfl,lk,hcd⟩:=F.ex
 exact zq lk hcd S len λ A outer s H vs Q E hr DL=>hbody _ cdv A outer s H vs Q E hr DL
theorem mL.ok {C:Addr} {qual:Str} {st:Stmt} {N ps:List Str} {k:Nat} {sp:Sp} (D:mL K C qual st) (S:aA N ps (af st)) (len : ∀ vs H Q E,sp vs H Q E->vs.length=ps.length)
  (hb : ∀ (kV doc pm:Value) (an:Option Addr) (cdv ct:Value) (us:List Value),us.length=ps.length->bindArgs (PySem.W.fnOf "__init__" qual (ay st) (aq st) (af st) .none kV doc pm an cdv ct) ⟨us,[]⟩ = pure (ps.zip us))
  (hbody : ∀ (f:Addr) (cdv:Value) (A:Around) (outer:List Env) (s:Shared) (H:Hp) (vs:List V) (Q:VK) (E:XK),cL k (A.deeper (envOfC qual (af st) s.heap.objs.size f cdv))->sp vs H Q E →
   ∃ t,zg (uo (tY P w) P w K mg base N qual (af st) f cdv A outer s H E).BY (aq st) t/\t { nx:=λ _ H'=>Q .aH H',rt:=Q } (start N vs) H):g8 P w K mg base (k+1) C ps sp:=by
 refine D.Cu S len hb λ f cdv A outer s H vs Q E hr h => ?_
 obtain ⟨t,h,q⟩:=hbody f cdv A outer s H vs Q E hr h
 exact ⟨t,h.BY,q⟩
theorem uJ {h:Heap} {x:Str} {C:Addr} (X:K.In h) (G:h.Ns mainGlobals mg) (a:PySem.W.nsIn K mainGlobals x=some (some (.ref C))) (h1:PySem.W.plainGet K C Str.empty=true) (h2:PySem.W.hasDictIn K C=true) (h3:PySem.W.plainOver K C=true)
  (h4:PySem.W.findIn K (.ref C) "__setattr__" = some (some (.builtin "object.__setattr__"))):r8 K mg x C:=⟨⟨h1,h2,h3,h4⟩,PySem.W.mg_of X G a⟩
theorem br {C f:Addr} {m qual:Str} {st:Stmt} {oc:Value} {od an:Option Addr} {osl:Array (Option Value)} {kV doc pm cdv ct:Value} (a:PySem.W.findIn K (.ref C) m=some (some (.ref f))) (fn:PySem.W.isFn K (.ref f)=true)
  (l:K.lookup f=some ⟨oc,od,.func (PySem.W.fnOf m qual (ay st) (aq st) (af st) .none kV doc pm an cdv ct),osl⟩) (c:PySem.W.codeIn K cdv qual=true) (k:PySem.W.keepIn K (.ref f)=true):bH K C m qual st:=⟨f,_,⟨a,fn,k⟩,D8 l c k⟩
theorem nZ {C f:Addr} {qual:Str} {st:Stmt} {oc:Value} {od an:Option Addr} {osl:Array (Option Value)} {kV doc pm cdv ct:Value} (m:PySem.W.makesIn K C=true) (a:PySem.W.findIn K (.ref C) "__init__" = some (some (.ref f))) (fn:PySem.W.isFn K (.ref f)=true) (kC:PySem.W.keepIn K (.ref C)=true)
  (l:K.lookup f=some ⟨oc,od,.func (PySem.W.fnOf "__init__" qual (ay st) (aq st) (af st) .none kV doc pm an cdv ct),osl⟩) (c:PySem.W.codeIn K cdv qual=true) (k:PySem.W.keepIn K (.ref f)=true):mL K C qual st:=⟨f,_,⟨m,a,fn,kC⟩,D8 l c k⟩
end
section
variable {X:Cx} {k:Nat} {C:Addr} {ps:List Str} {sp:Sp} {E:XK} {x m:Str} {p pos apos:Pos} {e o:Expr} {es:List Expr} {ta:TE} {t:TA}
theorem aK {pl:Sem Bool} (T:r8 X.K X.mg x C) (F:aI X.prog X.w X.K X.mg X.base k C m ps sp) (hr:cL k X.A) (hx:Passes (tY X.prog X.w) X E) (he:PE X o ta) (ha:PA X (e::es) t)
  (hst:starEach (e::es) X.env=(false,eval e X.env)::starEach es X.env:=by rfl) (hpl:(backTo pos (starEach es X.env)).any (·.1)=false:=by rfl)
  (ht:eval (.Call (.Attribute o m apos) (e::es) [] pos) X.env=(do
   let ov <-eval o X.env
   standAt apos.atName
   let (f,first) <-holding [ov] (getMethod ov m pl)
   callWith pos f first (backTo pos (starEach (e::es) X.env)) (backToKw pos (keywordEach [] X.env))):=by rfl) :
  PE X (.Call (.Attribute o m apos) (e::es) [] pos) (zj C m sp [] E ta t):=by
 obtain ⟨f,fd,h1,h3,h4⟩:=F.ex
 exact Mn he T.cl h1 h4 hr h3 .nil hx ha hst hpl ht
theorem gA {pl:Sem Bool} (T:r8 X.K X.mg x C) (F:aI X.prog X.w X.K X.mg X.base k C m ps sp) (hr:cL k X.A) (hx:Passes (tY X.prog X.w) X E) (he:PE X o ta)
  (ht:eval (.Call (.Attribute o m apos) [] [] pos) X.env=(do
   let ov <-eval o X.env
   standAt apos.atName
   let (f,first) <-holding [ov] (getMethod ov m pl)
   callWith pos f first (backTo pos (starEach [] X.env)) (backToKw pos (keywordEach [] X.env))):=by rfl) :
  PE X (.Call (.Attribute o m apos) [] [] pos) (zj C m sp [] E ta B9):=by
 obtain ⟨f,fd,h1,h3,h4⟩:=F.ex
 exact Jj he T.cl h1 h4 hr h3 .nil hx ht
theorem n5 (T:r8 X.K X.mg x C) (F:g8 X.prog X.w X.K X.mg X.base k C ps sp) (hr:cL (k+1) X.A) (hg:Gl X x) (hx:Passes (tY X.prog X.w) X E) (ha:PA X (e::es) t)
  (hdb:(x == ("__debug__" : Str))=false:=by decide) (he:starEach (e::es) X.env=(false,eval e X.env)::starEach es X.env:=by rfl) (hpl:(backTo pos (starEach es X.env)).any (·.1)=false:=by rfl) :
  PE X (.Call (.Name x p) (e::es) [] pos) (zk C sp [] E t):=by
 obtain ⟨f,fd,h1,h3,h4⟩:=F.ex
 exact Mp h1 h4 hr hg T.RA h3 .nil hx ha hdb he hpl
theorem Hi (T:r8 X.K X.mg x C) (F:g8 X.prog X.w X.K X.mg X.base k C ps sp) (hr:cL (k+1) X.A) (hg:Gl X x) (hx:Passes (tY X.prog X.w) X E)
  (hdb:(x == ("__debug__" : Str))=false:=by decide):PE X (.Call (.Name x p) [] [] pos) (zk C sp [] E B9):=by
 obtain ⟨f,fd,h1,h3,h4⟩:=F.ex
 exact Jk h1 h4 hr hg T.RA h3 .nil hx hdb
def JL (C:Addr) (ta:TE) (f:Str):TE:=fun σ H Q=>ta σ H λ x H1 => ∃ a dx fs v,x = .ref a/\H1 a=some (.ins C dx fs)/\fs.lookup f=some v/\Q v H1
theorem av {f:Str} (T:r8 X.K X.mg x C) (na:cg X.K C f) (he:PE X o ta) (hb:attributeBase o f X.env (eval o X.env)=eval o X.env:=by rfl):PE X (.Attribute o f pos) (JL C ta f):=by
 intro pins s σ H Q I h
 refine Ml hb (b8 (he pins s σ H _ I h) λ u s1 ⟨x,H1,I1,rx,a,dx,fs,v,ex,ea,l,q⟩ => ?_)
 subst ex
 obtain rfl:u=Value.ref a:=rx
 exact DU I1 ea T.cl na l λ u' s2 I2 ru=>⟨v,H1,I2,ru,q⟩
def JM (C:Addr) (ta tv:TE) (f:Str):TS:=λ D σ H=>tv σ H λ y H1=>ta σ H1 λ x H2 => ∃ a dx fs,x = .ref a/\H2 a=some (.ins C dx fs)/\fs.length < 1000/\D.nx σ (upd H2 a (.ins C dx (cK f y fs)))
theorem b6 {f:Str} {value:Expr} {tv:TE} {pos':Pos} (T:r8 X.K X.mg x C) (na:cg X.K C f) (ha:PE X o ta) (hv:PE X value tv) (hs:swapsWith value (some (.Attribute o f pos')) pos.line X.env=pure false:=by rfl):PS X (.Assign [.Attribute o f pos'] value pos) (JM C ta tv f):=by
 intro pins s σ H D I h
 refine plainObj_wpAny_Assign_Attribute (b8 (hv pins s σ H _ I h) λ u s1 ⟨y,H1,I1,ry,q⟩=>b8 (ha pins s1 σ H1 _ I1 q) λ ov s2 ⟨x,H2,I2,rx,a,dx,fs,ex,ea,l,q2⟩ => ?_) hs
 subst ex
 obtain rfl:ov=Value.ref a:=rx
 exact DV I2 ea T.cl na l ry λ s3 I3=>⟨σ,_,I3,q2⟩
end
end L2
namespace L2
open PySem PySem.Spec PyProof.Rows
theorem MH {K:PySem.W.Frag} {C:Addr} (c0:PySem.W.hasDictIn K C=true) (c1:PySem.W.findIn K (.ref C) "__getattribute__" = some (some (.builtin "BaseException.__getattribute__"))) (c2:PySem.W.findIn K (.ref C) "__getattr__" = some none)
  (c3:PySem.W.findIn K (.ref C) "__class__" = some (some (.builtin "object.__class__"))) (c4:PySem.W.specialIn K (.builtin "object.__class__") "__get__" = some (some (.builtin "getset_descriptor.__get__"))) (c5:PySem.W.takesIn K (.builtin "object.__class__")=some true)
  (c6:PySem.W.mroIn K C (.type "object")=some true) (c7:PySem.W.subIn K (.ref C) (.type "BaseException")=some true):PySem.W.Sl K C:=⟨c0,c1,c2,c3,c4,c5,c6,c7⟩
theorem Ar:gm "NoneType" "str" = some false:=rfl
theorem As:gm "list" "str" = some false:=rfl
theorem xh:gm "tuple" "str" = some false:=rfl
theorem MI:mF 10 60=True:=eq_true ⟨by decide,by decide,by decide⟩
theorem MJ:mF 10 59=True:=eq_true ⟨by decide,by decide,by decide⟩
theorem MK:mF 10 20=True:=eq_true ⟨by decide,by decide,by decide⟩
section
variable {X:Cx} {K:PySem.W.Frag}
theorem JN (h:X.K=K):Rw X (PB K):=by subst h;exact Gg
theorem uK (h:X.K=K):Uu X (Mu K):=by subst h;exact Mv
theorem xj (h:X.K=K):jZ X (.builtin "len") (λ xs H Q => ∃ p ys,xs = [.ref p]/\(fE K H p ys\/DK K H p ys)/\Q (.int ys.length) H):=by subst h;exact jj
theorem aP (h:X.K=K):jZ X (.type "list") (λ xs H Q => ∃ p ys,xs = [.ref p]/\(fE K H p ys\/DK K H p ys) ∧ ∀ l,H l=none->Q (.ref l) (upd H l (.lst ys))):=by subst h;exact Ad
end
end L2
namespace L2
open PySem PySem.Spec PyProof.Rows
def uL (J:It) (tt:TT) (te:TE) (σ : St) (Q:VK) (H1:Hp):Prop := ∀ p,H1 p=none->∃ W:Nat->Nat->List V->Hp->Prop,(∃ m,W 0 m [] (upd H1 p (.lst []))) ∧ ∀ i m acc H2,W i m acc H2 →
 H2 p=some (.lst acc)/\((J.stop i H2/\Q (.ref p) H2)\/(J.go i H2 ∧ ∃ N:List V->Hp->Prop,(∀ acc' H',N acc' H'->∃ m',m' < m/\W (i+1) m' acc' H') ∧ ∀ x H3,J.Mh i H2 x H3->tt (some x :: σ) H3 λ b H4 =>
  if b=true then te (some x :: σ) H4 λ v H5=>H5 p=some (.lst acc)/\acc.length < sizeLine/\N (acc++[v]) (upd H5 p (.lst (acc++[v]))) else N acc H4))
theorem JO {K:PySem.W.Frag} {tl:TE} {tt:TT} {te:TE} {σ : St} {H:Hp} {Q:VK}
  (h : ∀ L,Is L (λ a H1=>uL (Jb K a) tt te σ Q H1)->tl σ H λ x H1 => ∃ a,x = .ref a/\(∃ xs,fE K H1 a xs)/\L a H1):Gj (Jc K tl) tt te σ H Q:=h _ Is.rfl
theorem Ed {ta:TA} {tt:TT} {te:TE} {σ : St} {H:Hp} {Q:VK}
  (h : ∀ L,Is L (λ n H1=>uL (GR 0 n) tt te σ Q H1)->ta σ H λ vs H1 => ∃ j:Int,vs = [.int j] ∧ -(2 ^ 62)<=j/\j < 2 ^ 62/\L j.toNat H1):Gj (Je ta) tt te σ H Q:=h _ Is.rfl
theorem JP {K:PySem.W.Frag} {a:Addr} {tt:TT} {te:TE} {σ : St} {Q:VK} {H1:Hp} (xs:List V) (Pv:Addr->Nat->List V->Hp->Prop) (h0 : ∀ p,H1 p=none->Pv p 0 [] (upd H1 p (.lst [])))
  (hl : ∀ p i acc H,H1 p=none->Pv p i acc H->H p=some (.lst acc)/\fE K H a xs)
  (hs : ∀ p i x acc H,H1 p=none->xs[i]? = some x->Pv p i acc H->tt (some x :: σ) H λ b H4=>if b=true then te (some x :: σ) H4 λ v H5=>H5 p=some (.lst acc)/\acc.length < sizeLine/\Pv p (i+1) (acc++[v]) (upd H5 p (.lst (acc++[v]))) else Pv p (i+1) acc H4)
  (hd : ∀ p acc H,H1 p=none->Pv p xs.length acc H->Q (.ref p) H):uL (Jb K a) tt te σ Q H1:=by
 intro p hp
 refine ⟨λ i m acc H=>Pv p i acc H/\i<=xs.length/\m=xs.length - i,⟨_,h0 p hp,Nat.zero_le _,rfl⟩,?_⟩
 rintro i m acc H2 ⟨hP,hi,rfl⟩
 obtain ⟨ha,hq⟩:=hl p i acc H2 hp hP
 refine ⟨ha,?_⟩
 by_cases e:i=xs.length
 ·subst e
  exact .inl ⟨⟨xs,hq,Nat.le_refl _⟩,hd p acc H2 hp hP⟩
 ·have hlt:i < xs.length:=by omega
  refine .inr ⟨⟨xs,xs[i],hq,by simp [hlt]⟩,λ acc' H'=>Pv p (i+1) acc' H',λ acc' H' h'=>⟨_,?_,h',hlt,rfl⟩,?_⟩
  ·omega
  ·rintro x H3 ⟨rfl,hx⟩
   exact hs p i x acc H3 hp (hx xs hq) hP
theorem zy {lo:Int} {n:Nat} {tt:TT} {te:TE} {σ : St} {Q:VK} {H1:Hp} (Pv:Addr->Nat->List V->Hp->Prop) (h0 : ∀ p,H1 p=none->Pv p 0 [] (upd H1 p (.lst [])))
  (hl : ∀ p i acc H,H1 p=none->Pv p i acc H->H p=some (.lst acc))
  (hs : ∀ p i acc H,H1 p=none->i < n->Pv p i acc H->tt (some (.int (lo+i)) :: σ) H λ b H4=>if b=true then te (some (.int (lo+i)) :: σ) H4 λ v H5=>H5 p=some (.lst acc)/\acc.length < sizeLine/\Pv p (i+1) (acc++[v]) (upd H5 p (.lst (acc++[v]))) else Pv p (i+1) acc H4)
  (hd : ∀ p acc H,H1 p=none->Pv p n acc H->Q (.ref p) H):uL (GR lo n) tt te σ Q H1:=by
 intro p hp
 refine ⟨λ i m acc H=>Pv p i acc H/\i<=n/\m=n - i,⟨_,h0 p hp,Nat.zero_le _,rfl⟩,?_⟩
 rintro i m acc H2 ⟨hP,hi,rfl⟩
 refine ⟨hl p i acc H2 hp hP,?_⟩
 by_cases e:i=n
 ·subst e
  exact .inl ⟨Nat.le_refl _,hd p acc H2 hp hP⟩
 ·have hlt:i < n:=by omega
  refine .inr ⟨hlt,λ acc' H'=>Pv p (i+1) acc' H',λ acc' H' h'=>⟨_,?_,h',hlt,rfl⟩,?_⟩
  ·omega
  ·rintro x H3 ⟨rfl,rfl⟩
   exact hs p i acc H3 hp hlt hP
theorem Ox {α : Type} {x0 x1 x2 x3 x4 x5 : α} {xs:List α} : jL (x0::x1::x2::x3::x4::x5::xs) 5=some x5:=gj (j:=5) rfl
theorem Ss {α : Type} {x0 x1 x2 x3 x4 x5 x6 x7 : α} {xs:List α} : jL (x0::x1::x2::x3::x4::x5::x6::x7::xs) 7=some x7:=gj (j:=7) rfl
theorem Qe (xs:List V) {j:Int} (h:0<=j):j4 xs none (some j)=xs.take j.toNat:=by
 obtain ⟨j,rfl⟩:=Int.eq_ofNat_of_zero_le h
 have e:=HT.Ge xs.length xs.length j
 unfold j4
 rw [HT.Cf,e,List.drop_zero,Nat.sub_zero,Int.toNat_natCast]
 by_cases hj:j<=xs.length
 ·rw [Nat.min_eq_left hj]
 ·rw [Nat.min_eq_right (by omega),List.take_of_length_le (Nat.le_refl _),List.take_of_length_le (by omega)]
theorem JQ (xs:List V) {i:Int} (h:0<=i):j4 xs (some i) none=xs.drop i.toNat:=by
 obtain ⟨i,rfl⟩:=Int.eq_ofNat_of_zero_le h
 have e:=HT.Ge xs.length 0 i
 unfold j4
 rw [HT.Cf,e,Int.toNat_natCast]
 by_cases hi:i<=xs.length
 ·rw [Nat.min_eq_left hi,List.take_of_length_le (by simp)]
 ·rw [Nat.min_eq_right (by omega),List.drop_of_length_le (Nat.le_refl _),List.drop_of_length_le (by omega)];simp
structure New (H:Hp) (p:Addr) (H':Hp):Prop where
 free:H p=none
 same:jM H H'
theorem New.upd {H:Hp} {p:Addr} {o:HO} (h:H p=none):New H p (L2.upd H p o):=⟨h,uz h⟩
end L2
namespace L2
open PySem PySem.Spec PyProof.Rows
theorem Is.use {α β : Type} {R S : α->β->Prop} (h:Is R S) {x : α} {y : β} (k:S x y):R x y:=by cases h;exact k
def Hid {α β : Type} (S : α->β->Prop) (g:(α->β->Prop)->Prop):Prop := ∀ R,(∀ x y,S x y->R x y)->g R
theorem VW {α β : Type} {S : α->β->Prop} {g:(α->β->Prop)->Prop} (h : ∀ R,(∀ x y,S x y->R x y)->g R):Hid S g:=h
section
variable {σ : St} {H:Hp} {Q:VK} {D:Ends} {ta tb tc te:TE} {t u:TA} {r:R2} {b:TS} {QB:Bool->Hp->Prop} {c d:TT} {QA:List V->Hp->Prop}
theorem VX {g:TG} (h : ∀ R,Is R (λ x H1=>g x σ H1 D.nx)->te σ H R):Ja te g D σ H:=h _ Is.rfl
theorem Su (h : ∀ R,Is R (λ _ H1=>D.nx σ H1)->te σ H R):F4 te D σ H:=h _ Is.rfl
theorem VY (h : ∀ R,Is R (λ x H1=>D.rt x H1)->te σ H R):Me te D σ H:=h _ Is.rfl
theorem ifH {a b:TS} (h : ∀ R,Is R (λ k H1=>if k=true then a D σ H1 else b D σ H1)->c σ H R):Mf c a b D σ H:=h _ Is.rfl
theorem Sv (h : ∀ R,Is R (λ x H1 => ∃ k,x = .bl k/\QB k H1)->te σ H R):Gb te σ H QB:=h _ Is.rfl
theorem tBH (h : ∀ R,Is R (λ x H1 => ∃ k,x = .bl k/\QB k H1)->te σ H R):tB te σ H QB:=h _ Is.rfl
theorem VZ (h : ∀ R,Is R (λ k H1=>QB (!k) H1)->c σ H R):Pc c σ H QB:=h _ Is.rfl
theorem V0 (h : ∀ R,Is R (λ k H1=>if k=true then d σ H1 QB else QB false H1)->c σ H R):Pb c d σ H QB:=h _ Is.rfl
theorem orH (h : ∀ R,Is R (λ k H1=>if k=true then QB true H1 else d σ H1 QB)->c σ H R):Vx c d σ H QB:=h _ Is.rfl
theorem Sw {α β : Type} {R S : α->β->Prop} (h : ∀ x y,S x y->R x y) {x : α} {y : β} (k:S x y):R x y:=h x y k
theorem Sx (h : ∀ R,Is R (λ x H1 => ∃ c,x = .bl c/\if c=true then tb σ H1 Q else Q (.bl false) H1)->ta σ H R):IV ta tb σ H Q:=h _ Is.rfl
theorem V1 (h : ∀ R,Is R (λ x H1 => ∃ c,x = .bl c/\if c=true then Q (.bl true) H1 else tb σ H1 Q)->ta σ H R):Pd ta tb σ H Q:=h _ Is.rfl
theorem Sy (h : ∀ R,Is R (λ x H1 => ∃ c,x = .bl c/\Q (.bl (!c)) H1)->ta σ H R):IW ta σ H Q:=h _ Is.rfl
theorem opH (h : ∀ R,(∀ x H1,Hid (λ y H2=>r x y H2 Q) (λ R2=>tb σ H1 R2)->R x H1)->ta σ H R):Pk r ta tb σ H Q:=h (λ x H1=>tb σ H1 λ y H2=>r x y H2 Q) λ _ _ z=>z _ λ _ _ z2=>z2
theorem unH {q:V->Hp->VK->Prop} (h : ∀ R,Is R (λ x H1=>q x H1 Q)->ta σ H R):VA q ta σ H Q:=h _ Is.rfl
theorem slH {q:V->Option Int->Option Int->Hp->VK->Prop} {tl th:TO} (h : ∀ R,Is R (λ x H1=>tl σ H1 λ l H2=>th σ H2 λ u H3=>q x l u H3 Q)->te σ H R):VD q te tl th σ H Q:=h _ Is.rfl
theorem Sz {QO:Option Int->Hp->Prop} (h : ∀ R,Is R (λ x H1 => ∃ i,x = .int i/\QO (some i) H1)->te σ H R):Jv te σ H QO:=h _ Is.rfl
theorem SA (h : ∀ R,Is R (λ x H1=>t σ H1 λ xs H2=>QA (x::xs) H2)->te σ H R):Gd te t σ H QA:=h _ Is.rfl
theorem V2 (h : ∀ R,Is R (λ xs H1=>xs.length<=sizeLine ∧ ∀ p,H1 p=none->Q (.ref p) (upd H1 p (.tup xs)))->t σ H R):Pq t σ H Q:=h _ Is.rfl
theorem V3 (h : ∀ R,Is R (λ xs H1=>xs.length<=sizeLine ∧ ∀ p,H1 p=none->Q (.ref p) (upd H1 p (.lst xs)))->t σ H R):Pr t σ H Q:=h _ Is.rfl
theorem SD {sp:Sp} {iR:List V} {E:XK} (h : ∀ R,Is R (λ vs H1=>sp (vs++iR) H1 Q E)->t σ H R):Ca sp iR E t σ H Q:=h _ Is.rfl
theorem cbH {q:List V->Hp->VK->Prop} (h : ∀ R,Is R (λ vs H1=>q vs H1 Q)->t σ H R):R1 q t σ H Q:=h _ Is.rfl
theorem SE {C:Addr} {m:Str} {sp:Sp} {iR:List V} {E:XK} (h : ∀ R,Is R (λ x H1 => ∃ a dx fs,x = .ref a/\H1 a=some (.ins C dx fs)/\fs.lookup m=none/\t σ H1 λ vs H2=>sp (x::(vs++iR)) H2 Q E)->ta σ H R):zj C m sp iR E ta t σ H Q:=h _ Is.rfl
theorem SG {C:Addr} {sp:Sp} {iR:List V} {E:XK} (h : ∀ R,Is R (λ vs H1 => ∀ x dx,H1 x=none->H1 dx=none->dx≠x->sp (.ref x::(vs++iR)) (upd (upd H1 dx (.own x)) x (.ins C dx [])) (λ v H2=>v = .aH/\Q (.ref x) H2) E)->t σ H R):zk C sp iR E t σ H Q:=h _ Is.rfl
theorem V4 {C:Addr} {f:Str} (h : ∀ R,Is R (λ x H1 => ∃ a dx fs v,x = .ref a/\H1 a=some (.ins C dx fs)/\fs.lookup f=some v/\Q v H1)->ta σ H R):JL C ta f σ H Q:=h _ Is.rfl
theorem SH {C:Addr} {f:Str} (h : ∀ R,Is R (λ y H1=>ta σ H1 λ x H2 => ∃ a dx fs,x = .ref a/\H2 a=some (.ins C dx fs)/\fs.length < 1000/\D.nx σ (upd H2 a (.ins C dx (cK f y fs))))->te σ H R):JM C ta te f D σ H:=h _ Is.rfl
theorem bmH {K:PySem.W.Frag} {T:String} {q:V->List V->Hp->VK->Prop} (h : ∀ R,Is R (λ x H1=>R9 K T x H1/\t σ H1 λ xs H2=>q x xs H2 Q)->ta σ H R):VF K T q ta t σ H Q:=h _ Is.rfl
theorem SJ (h : ∀ R,(∀ v H1,Hid (λ x H2=>Hid (λ y H3 => ∃ a H4,x = .ref a/\mJ H3 a y v H4/\D.nx σ H4) (λ R3=>tb σ H2 R3)) (λ R2=>ta σ H1 R2)->R v H1)->te σ H R):Jp ta tb te D σ H:=h (λ v H1=>ta σ H1 λ x H2=>tb σ H2 λ y H3 => ∃ a H4,x = .ref a/\mJ H3 a y v H4/\D.nx σ H4) λ v H1 z=>z _ λ x H2 z2=>z2 _ λ _ _ z3=>z3
theorem SK {to ti:TE} {tt:IZ} {v:V} {QS:St->Hp->Prop} (h : ∀ R,(∀ o H1,Hid (λ i H2=>tt o i v H2 λ H3=>QS σ H3) (λ R2=>ti σ H1 R2)->R o H1)->to σ H R):Pg to ti tt v σ H QS:=h (λ o H1=>ti σ H1 λ i H2=>tt o i v H2 λ H3=>QS σ H3) λ _ _ z=>z _ λ _ _ z2=>z2
theorem SM (h : ∀ R,Is R (λ x H1=>tb σ H1 λ y H2 => ∃ a v,x = .ref a/\fV H2 a y (some v)/\Q v H2)->ta σ H R):Jo ta tb σ H Q:=h _ Is.rfl
theorem V5 (h : ∀ R,Is R (λ y H1=>tb σ H1 λ x H2 => ∃ a o,x = .ref a/\fV H2 a y o/\Q (.bl o.isSome) H2)->ta σ H R):Px ta tb σ H Q:=h _ Is.rfl
theorem SN (h : ∀ R,Is R (λ y H1=>tb σ H1 λ x H2 => ∃ a o,x = .ref a/\fV H2 a y o/\Q (.bl (!o.isSome)) H2)->ta σ H R):zW ta tb σ H Q:=h _ Is.rfl
theorem SO {i:Nat} {v:V} (e : σ[i]? = some (some v)) (h:Q v H):GQ i σ H Q:=⟨v,e,h⟩
theorem V6 {v:V} (h:Q v H):tC v σ H Q:=h
theorem V7 (h:QA [] H):B9 σ H QA:=h
theorem ML {QO:Option Int->Hp->Prop} (h:QO none H):zX σ H QO:=h
theorem SQ (h:D.nx σ H):F3 D σ H:=h
theorem SR {i:Nat} {v:V} {QS:St->Hp->Prop} (h:QS (σ.set i (some v)) H):qX i v σ H QS:=h
theorem i0H {g:Int->Int->V} {i j:Int} (h:Q (g i j) H):LY g (.int i) (.int j) H Q:=⟨i,j,rfl,rfl,h⟩
theorem iH {C:Int->Int->Prop} {g:Int->Int->V} {i j:Int} (c:C i j) (h:Q (g i j) H):rI C g (.int i) (.int j) H Q:=⟨i,j,rfl,rfl,c,h⟩
theorem uH {g:Int->V} {i:Int} (h:Q (g i) H):rU g (.int i) H Q:=⟨i,rfl,h⟩
theorem blH {b:Bool} {S:Bool->Prop} (h:S b) : ∃ k,V.bl b = .bl k/\S k:=⟨b,rfl,h⟩
theorem V8 {n:Int} {S:Int->Prop} (h:S n) : ∃ k,V.int n = .int k/\S k:=⟨n,rfl,h⟩
end
def lasts:HO->Bool
 | .tup _=>true
 | .BX _ _=>true
 | _=>false
abbrev Cells:=List (Addr×HO)
structure Led (H:Hp) (L:Cells):Prop where
 at_ : ∀ p∈L,H p.1=some p.2
 nd:((L.filter λ p => !lasts p.2).map (·.1)).Nodup
theorem Led.get {H:Hp} {L:Cells} (h:Led H L) {a:Addr} {o:HO} (m:(a,o)∈L):H a=some o:=h.at_ _ m
theorem Led.nil {H:Hp} : Led H []:=⟨λ _ h=>(nomatch h),List.nodup_nil⟩
theorem Led.new {H:Hp} {L:Cells} (h:Led H L) {p:Addr} {o:HO} (hp:H p=none):Led (upd H p o) ((p,o)::L):=by
 have ne : ∀ q∈L,q.1≠p:=λ q hq e=>by have:=h.at_ q hq;rw [e,hp] at this;cases this
 refine ⟨λ q hq => ?_,?_⟩
 ·rcases List.mem_cons.mp hq with rfl | hq
  ·exact iP
  ·rw [bN (ne q hq)];exact h.at_ q hq
 ·rw [List.filter_cons]
  split
  ·rw [List.map_cons]
   refine List.nodup_cons.mpr ⟨λ m => ?_,h.nd⟩
   obtain ⟨q,hq,e⟩:=List.mem_map.mp m
   exact ne q (List.mem_filter.mp hq).1 e
  ·exact h.nd
theorem Led.perm {H:Hp} {L L':Cells} (h:Led H L) (e:L.Perm L'):Led H L':=by
 refine ⟨λ p hp=>h.at_ p (e.mem_iff.mpr hp),?_⟩
 exact ((e.filter _).map _).nodup_iff.mp h.nd
theorem Led.put {H:Hp} {L:Cells} {a:Addr} {o o':HO} (h:Led H ((a,o)::L)) (hl:lasts o=false) (hl':lasts o' = false):Led (upd H a o') ((a,o')::L):=by
 have ha:=h.at_ _ List.mem_cons_self
 have nd:=h.nd
 rw [List.filter_cons,if_pos (by simp [hl]),List.map_cons] at nd
 obtain ⟨n1,n2⟩:=List.nodup_cons.mp nd
 have ne : ∀ q∈L,q.1≠a:=λ q hq e=>by
  have hq':=h.at_ q (List.mem_cons_of_mem _ hq)
  rw [e,ha] at hq'
  have e2:o=q.2:=Option.some.inj hq'
  refine n1 (List.mem_map.mpr ⟨q,List.mem_filter.mpr ⟨hq,by rw [<-e2,hl];rfl⟩,e⟩)
 refine ⟨λ q hq => ?_,?_⟩
 ·rcases List.mem_cons.mp hq with rfl | hq
  ·exact iP
  ·rw [bN (ne q hq)];exact h.at_ q (List.mem_cons_of_mem _ hq)
 ·rw [List.filter_cons,if_pos (by simp [hl']),List.map_cons]
  exact List.nodup_cons.mpr ⟨n1,n2⟩
theorem Led.sub {H:Hp} {L L':Cells} (h:Led H L) (s:L'.Sublist L):Led H L':=⟨λ p hp=>h.at_ p (s.subset hp),List.Nodup.sublist ((s.filter _).map _) h.nd⟩
theorem Led.tail {H:Hp} {L:Cells} {p:Addr×HO} (h:Led H (p::L)):Led H L:=h.sub (List.sublist_cons_self p L)
theorem Led.left {H:Hp} {L M:Cells} (h:Led H (L++M)):Led H L:=h.sub (List.sublist_append_left L M)
theorem Led.again {H:Hp} {L:Cells} {a:Addr} {o:HO} (h:Led H L) (ha:H a=some o) (hl:lasts o=true):Led H ((a,o)::L):=by
 refine ⟨λ q hq => ?_,?_⟩
 ·rcases List.mem_cons.mp hq with rfl | hq
  ·exact ha
  ·exact h.at_ q hq
 ·rw [List.filter_cons,if_neg (by simp [hl])];exact h.nd
theorem Led.swap {H:Hp} {L:Cells} {p q:Addr×HO} (h:Led H (p::q::L)):Led H (q::p::L):=h.perm (List.Perm.swap q p L)
theorem Led.pull {H:Hp} {L M:Cells} {p:Addr×HO} (h:Led H (L++p::M)):Led H (p::(L++M)):=h.perm List.perm_middle
theorem Led.push {H:Hp} {L M:Cells} {p:Addr×HO} (h:Led H (p::(L++M))):Led H (L++p::M):=h.perm List.perm_middle.symm
theorem Led.alloc {H:Hp} {L:Cells} {o:HO} {Q:VK} (h:Led H L) (k : ∀ p H',H p=none->Led H' ((p,o)::L)->jM H H'->Q (.ref p) H') : ∀ p,H p=none->Q (.ref p) (upd H p o):=λ p hp=>k p _ hp (h.new hp) (uz hp)
theorem Led.same {H H':Hp} {L:Cells} (h:Led H L) (s:jM H H'):Led H' L:=⟨λ p hp=>s _ _ (h.at_ p hp),h.nd⟩
theorem bX.imp {P:Program} {w:World} {K:PySem.W.Frag} {mg:Str->Option Value} {base:Heap} {k:Nat} {x:Str} {ps:List Str} {sp RZ:Sp} (F:bX P w K mg base k x ps sp) (h : ∀ vs H Q E,RZ vs H Q E->sp vs H Q E):bX P w K mg base k x ps RZ:=by
 obtain ⟨f,fd,h1,h2,h3,h4⟩:=F.ex
 exact ⟨f,fd,h1,h2,h3,h4.imp h⟩
def Oz (K:PySem.W.Frag) (L:Cells) (a:Addr) (xs:List V):Prop:=(∃ o,(a,HO.BX o (.lst xs))∈L) ∨ ∀ H,fE K H a xs
theorem Oz.seq {K:PySem.W.Frag} {L:Cells} {a:Addr} {xs:List V} {H:Hp} (s:Oz K L a xs) (h:Led H L):fE K H a xs:=by
 rcases s with ⟨o,m⟩ | s
 ·exact .inl (.inr ⟨o,h.get m⟩)
 ·exact s H
theorem Oz.mono {K:PySem.W.Frag} {L L':Cells} {a:Addr} {xs:List V} (s:Oz K L a xs) (h : ∀ p∈L,p∈L'):Oz K L' a xs:=by
 rcases s with ⟨o,m⟩ | s
 ·exact .inl ⟨o,h _ m⟩
 ·exact .inr s
theorem Hj {K:PySem.W.Frag} {H:Hp} {a:Addr} {xs:List V} (hS:fE K H a xs) (hO:Mz H) : ∃ L,Led H L/\Oz K L a xs:=by
 rcases hS with (h | ⟨o,h⟩) | h
 ·rcases hO a with z | ⟨o,ys,z⟩
  ·rw [h] at z;cases z
  ·rw [h] at z;cases z
 ·exact ⟨[(a,.BX o (.lst xs))],Led.nil.again h rfl,.inl ⟨o,List.mem_cons_self⟩⟩
 ·exact ⟨[],Led.nil,.inr λ H' => .inr h⟩
theorem JR {H:Hp} {Q:VK} {l:Addr} {k:Int} {xs:List V} (h1:H l=some (.lst xs)) (hk : -(2 ^ 63)<=k/\k < 2 ^ 63) (hl:xs.length * k.toNat<=sizeLine) (h : ∀ p,H p=none->Q (.ref p) (upd H p (.lst (List.replicate k.toNat xs).flatten))):Sd (.ref l) (.int k) H Q:=⟨l,k,xs,rfl,rfl,h1,hk.1,hk.2,hl,h⟩
theorem Led.r9 {H:Hp} {L:Cells} {a:Addr} {o o':HO} (i:Nat) (h:Led H L) (e:L[i]? = some (a,o)) (hl:lasts o=false) (hl':lasts o' = false):Led (upd H a o') (L.set i (a,o')):=by
 have hi:i < L.length:=(List.getElem?_eq_some_iff.mp e).1
 have e1:L=L.take i++(a,o)::L.drop (i+1):=by
  have:=(List.getElem?_eq_some_iff.mp e).2
  rw [<-this,List.getElem_cons_drop,List.take_append_drop]
 have e2:L.set i (a,o')=L.take i++(a,o')::L.drop (i+1):=by
  rw [List.set_eq_take_append_cons_drop,if_pos hi]
 rw [e1] at h
 rw [e2]
 exact ((h.pull).put hl hl').push
section
variable {H:Hp} {Q:VK} {x y v:V} {a:Addr} {xs:List V} {i:Int}
theorem V9 {m n:Int} (h:Q (.bl (decide (m=n))) H):Pp (.int m) (.int n) H Q:=⟨rfl,by rw [show decide (V.int m=V.int n)=decide (m=n) by simp];exact h⟩
theorem Wa {m n:Int} (h:Q (.bl (!decide (m=n))) H):VB (.int m) (.int n) H Q:=⟨rfl,by rw [show decide (V.int m=V.int n)=decide (m=n) by simp];exact h⟩
theorem Wb {m n:Str} (h:Q (.bl (decide (m=n))) H):Pp (.str m) (.str n) H Q:=⟨rfl,by rw [show decide (V.str m=V.str n)=decide (m=n) by simp];exact h⟩
theorem Wc {m n:Bool} (h:Q (.bl (decide (m=n))) H):Pp (.bl m) (.bl n) H Q:=⟨rfl,by rw [show decide (V.bl m=V.bl n)=decide (m=n) by simp];exact h⟩
theorem Wd {n t:String} {b:Bool} (h1:IK H x=some t) (h2:gm t n=some b) (h:Q (.bl b) H):JH [x,.ty n] H Q:=⟨x,n,t,b,rfl,h1,h2,h⟩
theorem Qf (h1:H a=some (.lst xs)) (h2:jL xs i=some v) (h:Q v H):D9 (.ref a) (.int i) H Q:=⟨a,i,rfl,rfl,.inl ⟨xs,h1,v,h2,h⟩⟩
theorem SV (h1:H a=some (.tup xs)) (h2:jL xs i=some v) (h:Q v H):D9 (.ref a) (.int i) H Q:=⟨a,i,rfl,rfl,.inr ⟨xs,h1,v,h2,h⟩⟩
theorem SW (h1:H a=some (.lst xs)) (h:Q (.int xs.length) H):uA [.ref a] H Q:=⟨a,rfl,.inl ⟨xs,h1,h⟩⟩
theorem SX (h1:H a=some (.tup xs)) (h:Q (.int xs.length) H):uA [.ref a] H Q:=⟨a,rfl,.inr (.inl ⟨xs,h1,h⟩)⟩
theorem SY {kvs:List (Key×V)} (h1:H a=some (.dK kvs)) (h:Q (.int kvs.length) H):uA [.ref a] H Q:=⟨a,rfl,.inr (.inr ⟨kvs,h1,h⟩)⟩
theorem tyL (h:H a=some (.lst xs)):IK H (.ref a)=some "list" := by unfold IK;simp only [h]
theorem tyT (h:H a=some (.tup xs)):IK H (.ref a)=some "tuple" := by unfold IK;simp only [h]
theorem We {b:Addr} {zs:List V} (h1:H a=some (.lst xs)) (h2:H b=some (.lst zs)) (hl:xs.length+zs.length<=sizeLine) (h : ∀ p,H p=none->Q (.ref p) (upd H p (.lst (xs++zs)))):PM (.ref a) (.ref b) H Q:=⟨a,b,xs,zs,rfl,rfl,h1,h2,hl,h⟩
theorem S5 {K:PySem.W.Frag} {lo hi:Option Int} (h1:fE K H a xs) (h : ∀ p,H p=none->Q (.ref p) (upd H p (.lst (j4 xs lo hi)))):Mu K (.ref a) lo hi H Q:=⟨a,xs,rfl,h1,h⟩
theorem g9 {QH:Hp->Prop} {p:Addr} {k:Int} {j:Nat} (h1:H p=some (.lst xs)) (h2:L1 xs.length k=some j) (h:QH (upd H p (.lst (xs.set j v)))):Oh (.ref p) (.int k) v H QH:=⟨p,xs,k,j,rfl,rfl,h1,h2,h⟩
theorem rtH {n b' c':St->Hp->Prop} {q:VK} (h:q x H):(Ends.mk n q b' c').rt x H:=h
theorem nxH {n b' c':St->Hp->Prop} {q:VK} {σ : St} (h:n σ H):(Ends.mk n q b' c').nx σ H:=h
theorem OA {A B:Prop} (h:B):if (!true)=true then A else B:=by simpa using h
theorem OB {A B:Prop} (h:A):if (!false)=true then A else B:=by simpa using h
theorem OC {c:Prop} [Decidable c] {A B:Prop} (h1 : ¬ c->A) (h2:c->B):if (!decide c)=true then A else B:=by
 by_cases h:c
 ·rw [decide_eq_true h];exact OA (h2 h)
 ·rw [decide_eq_false h];exact OB (h1 h)
theorem MM {m:Int} (e:(10:Int) ^ i.toNat=m) (c:mF 10 i) (h:Q (.int m) H):rI mF (λ i j => .int (i ^ j.toNat)) (.int 10) (.int i) H Q:=⟨10,i,rfl,rfl,c,by dsimp only;rw [e];exact h⟩
theorem Qg (h:Q (.int 1000000000000000000000000000000000000000000000000000000000000) H):rI mF (λ i j => .int (i ^ j.toNat)) (.int 10) (.int 60) H Q:=MM (by decide) (of_eq_true MI) h
theorem Qh (h:Q (.int 100000000000000000000000000000000000000000000000000000000000) H):rI mF (λ i j => .int (i ^ j.toNat)) (.int 10) (.int 59) H Q:=MM (by decide) (of_eq_true MJ) h
theorem Qi (h:Q (.int 100000000000000000000) H):rI mF (λ i j => .int (i ^ j.toNat)) (.int 10) (.int 20) H Q:=MM (by decide) (of_eq_true MK) h
theorem tyI {n:Int} : IK H (.int n)=some "int" := rfl
theorem tyB {n:Bool} : IK H (.bl n)=some "bool" := rfl
theorem tyS {n:Str} : IK H (.str n)=some "str" := rfl
theorem tyO:IK H .aH=some "NoneType" := rfl
theorem Qj {K:PySem.W.Frag} (h:H a=some (.lst xs)):R9 K "list" (.ref a) H := .inl ⟨rfl,xs,fE.of h⟩
end
def Qk (p:Prop):Prop:=p/\True
theorem aD {t u:TS} {D:Ends} {σ : St} {H:Hp} (h : ∀ M,Qk (Is M (u D))->t { D with nx:=M } σ H):IY t u D σ H:=h _ ⟨Is.rfl,trivial⟩
theorem Qk.use {M N:St->Hp->Prop} (h:Qk (Is M N)) {σ : St} {H:Hp} (k:N σ H):M σ H:=by cases h.1;exact k
theorem S6 {K:PySem.W.Frag} {H:Hp} {Q:VK} {a:Addr} {ys:List V} (h1:fE K H a ys) (h : ∀ l,H l=none->Q (.ref l) (upd H l (.lst ys))) : ∃ p ys,[V.ref a] = [.ref p]/\(fE K H p ys\/DK K H p ys) ∧ ∀ l,H l=none->Q (.ref l) (upd H l (.lst ys)):=⟨a,ys,rfl,.inl h1,h⟩
theorem dY {n:Nat} {i:Int} (h0:0<=i) (h1:i < n):L1 n i=some i.toNat:=by unfold L1;rw [if_pos h0,if_pos h1]
theorem gK {xs:List V} {i:Int} {v:V} (h0:0<=i) (h:xs[i.toNat]? = some v):jL xs i=some v:=by
 have hj:i.toNat < xs.length:=(List.getElem?_eq_some_iff.mp h).1
 unfold jL
 rw [dY h0 (by omega)]
 exact h
theorem uM {lo:Int} {n:Nat} {te:TE} {σ : St} {Q:VK} {H1:Hp} {L:Cells} (F:Nat->V->Prop) (hL:Led H1 L) (hn:n<=sizeLine)
  (hs : ∀ (i:Nat) (H:Hp) (R:VK) (q:Addr×HO),i < n->Led H (q::L)->(∀ v H',F i v->Led H' (q::L)->R v H')->te (some (.int (lo+i)) :: σ) H R)
  (hd : ∀ p acc H',acc.length=n->(∀ i v,acc[i]? = some v->F i v)->Led H' ((p,.lst acc)::L)->Q (.ref p) H'):uL (GR lo n) Eb te σ Q H1:=by
 refine zy (λ p i acc H=>i<=n/\acc.length=i/\(∀ j v,acc[j]? = some v->F j v)/\Led H ((p,.lst acc)::L)) (λ p hp=>⟨Nat.zero_le _,rfl,λ j v h=>by simp at h,hL.new hp⟩) (λ p i acc H hp h=>h.2.2.2.get List.mem_cons_self) ?_ ?_
 ·rintro p i acc H hp hi ⟨_,rfl,hF,hl⟩
  unfold Eb
  dsimp only
  rw [if_pos rfl]
  refine hs _ _ _ (p,.lst acc) hi hl λ v H' fv hl'=>⟨hl'.get List.mem_cons_self,by omega,hi,by simp,λ j u hj => ?_,hl'.put rfl rfl⟩
  rw [List.getElem?_append] at hj
  split at hj
  ·exact hF j u hj
  ·rename_i hge
   have:j - acc.length=0:=by
    rcases Nat.lt_or_ge (j - acc.length) 1 with h | h
    ·omega
    ·rw [List.getElem?_eq_none (by simpa using h)] at hj;cases hj
   rw [this] at hj
   have e:j=acc.length:=by omega
   subst e
   cases hj
   exact fv
 ·rintro p acc H hp ⟨_,e,hF,hl⟩
  exact hd p acc H e hF hl
end L2
namespace L2
open PySem PySem.Spec PyProof.Rows PySem.W
section
variable {X:Cx}
end
end L2
namespace L2
open PySem PySem.Spec PyProof.Rows
section
variable {X:Cx} {pins:List (Addr×Obj)} {σ : St} {H:Hp} {s:Shared} {h':Heap}
end
section
variable {X:Cx}
end
end L2
namespace L2
open PySem PySem.Spec PyProof.Rows
section
variable {H:Hp} {Q:VK} {a:Addr} {σ : St} {D:Ends}
theorem S7 {C dx:Addr} {fs:List (Str×V)} {f:Str} {v:V} {S:V->Prop} (h1:H a=some (.ins C dx fs)) (h2:fs.lookup f=some v) (h:S v) : ∃ b dx fs v,V.ref a = .ref b/\H b=some (.ins C dx fs)/\fs.lookup f=some v/\S v:=⟨a,dx,fs,v,rfl,h1,h2,h⟩
theorem OD {C dx:Addr} {fs:List (Str×V)} {m:Str} {S:Prop} (h1:H a=some (.ins C dx fs)) (h2:fs.lookup m=none) (h:S) : ∃ b dx fs,V.ref a = .ref b/\H b=some (.ins C dx fs)/\fs.lookup m=none/\S:=⟨a,dx,fs,rfl,h1,h2,h⟩
theorem OE {kvs:List (Key×V)} {n:Int} {v:V} {S:V->Prop} (h1:H a=some (.dK kvs)) (h2:bA kvs (.inl n)=some v) (h:S v) : ∃ b v,V.ref a = .ref b/\fV H b (.int n) (some v)/\S v:=⟨a,v,rfl,h2 ▸ fV.k (k := .inl n) h1,h⟩
theorem JS {kvs:List (Key×V)} {n:Int} {v:V} (h1:H a=some (.dK kvs)) (hl:kvs.length < sizeLine) (h:D.nx σ (upd H a (.dK (putK kvs (.inl n) v)))) : ∃ b H4,V.ref a = .ref b/\mJ H b (.int n) v H4/\D.nx σ H4:=⟨a,_,rfl,mJ.k (k := .inl n) h1 hl,h⟩
theorem S8 {C dx:Addr} {fs:List (Str×V)} {f:Str} {y:V} (h1:H a=some (.ins C dx fs)) (h2:fs.length < 1000) (h:D.nx σ (upd H a (.ins C dx (cK f y fs)))) : ∃ b dx fs,V.ref a = .ref b/\H b=some (.ins C dx fs)/\fs.length < 1000/\D.nx σ (upd H b (.ins C dx (cK f y fs))):=⟨a,dx,fs,rfl,h1,h2,h⟩
theorem S9 {L:Cells} (hL:Led H L) (h : ∀ p H',H p=none->Led H' ((p,.dK [])::L)->jM H H'->Q (.ref p) H'):D3 σ H Q:=λ p hp=>h p _ hp (hL.new hp) (uz hp)
theorem isH {x:V} (h:Q (.bl (decide (x = .aH))) H):V.aH = .aH/\Q (.bl (decide (x = .aH))) H:=⟨rfl,h⟩
theorem Wf {x:V} (h:Q (.bl (!decide (x = .aH))) H):V.aH = .aH/\Q (.bl (!decide (x = .aH))) H:=⟨rfl,h⟩
theorem JT {td ty:TE} (h : ∀ R,(∀ x H1,Hid (λ y H2 => ∃ a kvs k v,x = .ref a/\H2 a=some (.dK kvs)/\y=kV k/\bA kvs k=some v/\Q v (upd H2 a (.dK (bz kvs k)))) (λ R2=>(∃ a,x = .ref a/\Jt H1 a)/\ty σ H1 R2)->R x H1)->td σ H R):D4 td ty σ H Q:=by
 unfold D4
 refine h (λ x H1 => ∃ a,x = .ref a/\Jt H1 a/\ty σ H1 λ y H2 => ∃ kvs k v,H2 a=some (.dK kvs)/\y=kV k/\bA kvs k=some v/\Q v (upd H2 a (.dK (bz kvs k)))) λ x H1 z => ?_
 obtain ⟨a,e,hd⟩:=(z (λ _ _=>True) λ _ _ _=>True.intro).1
 subst e
 refine ⟨a,rfl,hd,(z _ λ y H2 q => ?_).2⟩
 obtain ⟨b,kvs,k,v,e,q⟩:=q
 cases e
 exact ⟨kvs,k,v,q⟩
theorem Ql {kvs:List (Key×V)} (h:H a=some (.dK kvs)) : ∃ b,V.ref a = .ref b/\Jt H b:=⟨a,rfl,.inl ⟨kvs,.inl h⟩⟩
theorem OF {kvs:List (Key×V)} {n:Int} {v:V} (h1:H a=some (.dK kvs)) (h2:bA kvs (.inl n)=some v) (h:Q v (upd H a (.dK (bz kvs (.inl n))))) : ∃ b kvs k v,V.ref a = .ref b/\H b=some (.dK kvs)/\V.int n=kV k/\bA kvs k=some v/\Q v (upd H b (.dK (bz kvs k))):=⟨a,kvs,.inl n,v,rfl,h1,rfl,h2,h⟩
end
end L2
namespace L2
open PySem PySem.Spec PyProof.Rows
theorem pS {K:PySem.W.Frag} {a:Addr} {te:TE} {σ : St} {Q:VK} {H1:Hp} {L:Cells} (xs:List V) (G:Nat->V->Cells->Prop) (hL:Led H1 L) (ha:(a,HO.lst xs)∈L) (hn:xs.length<=sizeLine)
  (hs : ∀ (i:Nat) (x:V) (H:Hp) (R:VK) (M:Cells),xs[i]? = some x->Led H (M++L)->(∀ v H' C,G i v C->Led H' (C++(M++L))->R v H')->te (some x :: σ) H R)
  (hd : ∀ (p:Addr) (vs:List V) (Cs:List Cells) (H':Hp),vs.length=xs.length->Cs.length=xs.length->(∀ (i:Nat) v C,vs[i]? = some v->Cs[i]? = some C->G i v C)->Led H' ((p,.lst vs)::(Cs.flatten++L))->Q (.ref p) H'):uL (Jb K a) Eb te σ Q H1:=by
 refine JP xs (λ p i acc H=>i<=xs.length/\acc.length=i ∧ ∃ Cs:List Cells,Cs.length=i/\(∀ (j:Nat) v C,acc[j]? = some v->Cs[j]? = some C->G j v C)/\Led H ((p,.lst acc)::(Cs.flatten++L))) (λ p hp=>⟨Nat.zero_le _,rfl,[],rfl,λ j v C h=>by simp at h,hL.new hp⟩) (λ p i acc H hp h => ?_) ?_ ?_
 ·obtain ⟨_,_,Cs,_,_,hl⟩:=h
  exact ⟨hl.get List.mem_cons_self,fE.of (hl.get (List.mem_cons_of_mem _ (List.mem_append_right _ ha)))⟩
 ·rintro p i x acc H hp hx ⟨_,rfl,Cs,hc,hG,hl⟩
  have hi:acc.length < xs.length:=(List.getElem?_eq_some_iff.mp hx).1
  unfold Eb
  dsimp only
  rw [if_pos rfl]
  refine hs _ x H _ ((p,.lst acc)::Cs.flatten) hx hl λ v H' C g hl' => ?_
  have h1:Led H' ((p,.lst acc)::(C++(Cs.flatten++L))):=Led.pull hl'
  refine ⟨h1.get List.mem_cons_self,by omega,hi,by simp,Cs++[C],by simp [hc],λ j u D hu hD => ?_,?_⟩
  ·rw [List.getElem?_append] at hu hD
   rw [hc] at hD
   by_cases hj:j < acc.length
   ·rw [if_pos hj] at hu hD
    exact hG j u D hu hD
   ·rw [if_neg hj] at hu hD
    have h0:j - acc.length=0:=by
     rcases Nat.lt_or_ge (j - acc.length) 1 with h | h
     ·omega
     ·rw [List.getElem?_eq_none (by simpa using h)] at hu;cases hu
    rw [h0] at hu hD
    have e:j=acc.length:=by omega
    subst e
    cases hu
    cases hD
    exact g
  ·refine (h1.put (o' := .lst (acc++[v])) rfl rfl).perm (List.Perm.cons _ ?_)
   rw [List.flatten_append,List.flatten_cons,List.flatten_nil,List.append_nil,List.append_assoc,<-List.append_assoc,<-List.append_assoc]
   exact List.Perm.append_right _ List.perm_append_comm
 ·rintro p acc H hp ⟨_,e,Cs,hc,hG,hl⟩
  exact hd p acc Cs H e hc hG hl
end L2
namespace L2
open PySem PySem.Spec PyProof.Rows
section
variable {H:Hp} {Q:VK} {a:Addr} {σ : St} {D:Ends}
end
section
variable {α : Type} {A B B' X Y:List α} {a b : α}
theorem pcC (h:(a::B').Perm B):(a::b::B').Perm (b::B):=(List.Perm.swap _ _ _).trans (h.cons b)
theorem pcA (h:(a::B').Perm B):(a::(Y++B')).Perm (Y++B):=(List.perm_middle.symm).trans (List.Perm.append_left Y h)
theorem paC (h:(X++B').Perm B):(X++(b::B')).Perm (b::B):=List.perm_middle.trans (h.cons b)
theorem paA (h:(X++B').Perm B):(X++(Y++B')).Perm (Y++B):=by
 refine List.Perm.trans ?_ (List.Perm.append_left Y h)
 rw [<-List.append_assoc,<-List.append_assoc]
 exact List.Perm.append_right _ List.perm_append_comm
def xm (B A:List α):Prop := ∃ A',B.Perm A'/\A'.Sublist A
theorem spR:xm A A:=⟨A,.refl _,.refl _⟩
theorem spC (h1:(a::A).Perm B) (h2:xm Y A):xm (a::Y) B:=by
 obtain ⟨A',p,s⟩:=h2
 obtain ⟨C,p2,s2⟩:=List.exists_perm_sublist (s.cons₂ a) h1
 exact ⟨C,(p.cons a).trans p2.symm,s2⟩
theorem spA (h1:(X++A).Perm B) (h2:xm Y A):xm (X++Y) B:=by
 obtain ⟨A',p,s⟩:=h2
 obtain ⟨C,p2,s2⟩:=List.exists_perm_sublist (List.Sublist.append_left s X) h1
 exact ⟨C,(List.Perm.append_left X p).trans p2.symm,s2⟩
theorem spD (h:xm B A):xm B (a::A):=by
 obtain ⟨A',p,s⟩:=h
 exact ⟨A',p,s.cons a⟩
theorem Wg (h:xm B A):xm B (X++A):=by
 obtain ⟨A',p,s⟩:=h
 exact ⟨A',p,s.trans (List.sublist_append_right X A)⟩
end
theorem Led.wk {H:Hp} {L L':Cells} (h:Led H L) (s:xm L' L):Led H L':=by
 obtain ⟨A',p,q⟩:=s
 exact (h.sub q).perm p.symm
theorem Led.make {H:Hp} {L:Cells} {C x dx:Addr} (hL:Led H L) (h1:H x=none) (h2:H dx=none) (hn:dx≠x):Led (upd (upd H dx (.own x)) x (.ins C dx [])) ((x,.ins C dx [])::L):=by
 have:=(hL.new (o := .own x) h2).new (p:=x) (o := .ins C dx []) (by rw [bN (Ne.symm hn)];exact h1)
 exact this.sub (.cons₂ _ (.cons _ (.refl _)))
end L2
namespace L2
open PySem PySem.Spec PyProof.Rows PySem.W
theorem jl {d:Dat} (h:kqdOk 8 d=true):shaped (kqdP d)=true:=by
 have l:=kqd_lay 8 d h
 show ((kqdP d).canLay0 && decide ((kqdP d).depth<=64))=true
 rw [l.1,Bool.true_and]
 exact decide_eq_true (Nat.le_trans l.2 (by decide))
theorem lB : ∀ ds:List Dat,kqdPs ds=ds.map kqdP
 | []=>rfl
 | d::ds=>by rw [kqdPs,lB ds];rfl
theorem Wh {H:Hp} {Q:VK} {K:PySem.W.Frag} {a:Addr} {xs:List V} {lo hi:Option Int} (h1:H a=some (.tup xs)) (h2 : ¬ (HT.rq xs.length 0 lo=0/\HT.rq xs.length xs.length hi=xs.length)) (h : ∀ p,H p=none->Q (.ref p) (upd H p (.tup (j4 xs lo hi)))):Ms K (.ref a) lo hi H Q:=⟨a,xs,rfl,DK.of h1,h2,h⟩
end L2
namespace L2
open PySem PySem.Spec PyProof.Rows
theorem pT (k j:Key) : ∀ kvs:List (Key×V),bA (bz kvs k) j=if j=k then none else bA kvs j
 | []=>by simp [bz,bA]
 | p::r=>by
   by_cases e:p.1=k
   ·rw [lz e,pT k j r]
    by_cases hj:j=k
    ·rw [if_pos hj,if_pos hj]
    ·rw [if_neg hj,if_neg hj,cP (λ z=>hj (by rw [<-z,e]))]
   ·rw [iS e]
    by_cases hp:p.1=j
    ·rw [eG hp,eG hp,if_neg (λ z=>e (by rw [hp,z]))]
    ·rw [cP hp,cP hp,pT k j r]
structure WD (kvs:List (Key×V)) (f:Int->V) (n:Nat):Prop where
 nd:(kvs.map (·.1)).Nodup
 ik : ∀ k∈kvs.map (·.1),∃ m:Int,k=Sum.inl m
 le:kvs.length<=n
 vl : ∀ m,bA kvs (.inl m)=if f m = .aH then none else some (f m)
theorem WD.keys {kvs:List (Key×V)} (h : ∀ k∈kvs.map (·.1),∃ m:Int,k=Sum.inl m) : ∃ ns:List Int,kvs.map (·.1)=ns.map Sum.inl:=by
 induction kvs with
 | nil=>exact ⟨[],rfl⟩
 | cons p r ih =>
   obtain ⟨ns,e⟩:=ih λ k hk=>h k (List.mem_cons_of_mem _ hk)
   obtain ⟨m,hm⟩:=h p.1 List.mem_cons_self
   exact ⟨m::ns,by rw [List.map_cons,List.map_cons,e,hm]⟩
theorem WD.ns {kvs:List (Key×V)} {f:Int->V} {n:Nat} (h:WD kvs f n) : ∃ ns:List Int,kvs.map (·.1)=ns.map Sum.inl/\ns.length<=n/\ns.Nodup ∧ ∀ m,m∈ns↔f m ≠ .aH:=by
 obtain ⟨ns,e⟩:=WD.keys h.ik
 refine ⟨ns,e,?_,?_,λ m => ?_⟩
 ·have:=congrArg List.length e
  rw [List.length_map,List.length_map] at this
  have:=h.le
  omega
 ·have:=h.nd
  rw [e] at this
  exact (List.pairwise_map.mp this).imp fun {a b} hab z=>hab (by rw [z])
 ·have h1:m∈ns↔(Sum.inl m:Key)∈kvs.map (·.1):=by
   rw [e,List.mem_map]
   constructor
   ·intro hm;exact ⟨m,hm,rfl⟩
   ·rintro ⟨m',hm,z⟩;cases z;exact hm
  rw [h1]
  have hv:=h.vl m
  constructor
  ·intro hk z
   rw [if_pos z] at hv
   exact JC hv hk
  ·intro z
   rw [if_neg z] at hv
   exact MA hv
theorem WD.start:WD [] (λ _ => .aH) 0:=⟨List.nodup_nil,(λ _ h=>nomatch h),Nat.le_refl _,λ m=>by rw [if_pos rfl];rfl⟩
theorem WD.drop {kvs:List (Key×V)} {f:Int->V} {n:Nat} (h:WD kvs f n) (p:Int):WD (bz kvs (.inl p)) (λ m=>if m=p then .aH else f m) n:=by
 refine ⟨uw h.nd,λ k hk => ?_,Nat.le_trans (nU kvs _) h.le,λ m => ?_⟩
 ·obtain ⟨q,hq,rfl⟩:=List.mem_map.mp hk
  exact h.ik _ (List.mem_map.mpr ⟨q,zx hq,rfl⟩)
 ·rw [pT,h.vl m]
  by_cases hm:m=p
  ·rw [if_pos (by rw [hm]),if_pos hm,if_pos rfl]
  ·rw [if_neg (λ z=>hm (Sum.inl.inj z)),if_neg hm]
theorem WD.mono {kvs:List (Key×V)} {f:Int->V} {n n':Nat} (h:WD kvs f n) (hn:n<=n'):WD kvs f n':=⟨h.nd,h.ik,Nat.le_trans h.le hn,h.vl⟩
theorem WD.get {kvs:List (Key×V)} {f:Int->V} {n:Nat} (h:WD kvs f n) (m:Int):(bA kvs (.inl m)).getD .aH=f m:=by
 rw [h.vl]
 split
 ·rename_i e;rw [e];rfl
 ·rfl
theorem JU (ns:List Int) (lo hi:Option Int) : ∃ ms:List Int,j4 (ns.map V.int) lo hi=ms.map V.int/\ms.length<=ns.length:=by
 refine ⟨(ns.drop (HT.rq (ns.map V.int).length 0 lo)).take (HT.rq (ns.map V.int).length (ns.map V.int).length hi - HT.rq (ns.map V.int).length 0 lo),?_,?_⟩
 ·unfold j4
  rw [List.map_take,List.map_drop]
 ·rw [List.length_take,List.length_drop]
  omega
theorem Wi {H:Hp} {Q:VK} {K:PySem.W.Frag} {p:Addr} {a b c d:V} (h1:H p=some (.tup [a,b,c,d])) (h : ∀ q,H q=none->Q (.ref q) (upd H q (.tup [c,d]))):Ms K (.ref p) (some 2) none H Q:=Wh h1 (show ¬ (HT.rq 4 0 (some 2)=0/\HT.rq 4 4 none=4) by decide) h
end L2
namespace L2
open PySem PySem.Spec PyProof.Rows
end L2
namespace L2
open PySem PySem.Spec PyProof.Rows PySem.W
section
variable {X:Cx}
end
section
variable {X:Cx}
def Qm (neg:Bool):R2:=λ x y H Q => ∃ d ds,fR H x d/\fR H y (.list ds)/\d.depth<=60/\shaped d=true/\shaped (.list ds)=true/\Q (.bl (if neg then !(ds.any λ e=>PyData.eqv e d) else ds.any λ e=>PyData.eqv e d)) H
theorem jm {d:PyData} (h:shaped d=true):d.canLay0=true/\d.depth<=64:=by
 have h':(d.canLay0 && decide (d.depth<=64))=true:=h
 rw [Bool.and_eq_true,decide_eq_true_iff] at h'
 exact h'
theorem mO {ds:List PyData} (h:shaped (.list ds)=true):PyData.canLayAll0 ds=true:=by
 have:=(jm h).1
 simpa [PyData.canLay0] using this
theorem Wj (hu:X.A.units+64 < cLine):qY X (compareOp .In) (Qm false):=by
 intro pins s σ H x y u v Q I rx ry h
 obtain ⟨d,ds,hd,he,h60,sd,se,q⟩:=h
 obtain ⟨_,ra⟩:=hd.reads I.hok rx
 obtain ⟨_,rb⟩:=he.reads I.hok ry
 have h1:=jm sd
 exact SeqAt.in_list_reads rb ra (mO se) h1.1 (by have:=Nat.min_le_right (PyData.depthAll ds) d.depth;omega) ⟨.bl _,H,I,rfl,q⟩
theorem Hl (hu:X.A.units+64 < cLine):qY X (compareOp .NotIn) (Qm true):=by
 intro pins s σ H x y u v Q I rx ry h
 obtain ⟨d,ds,hd,he,h60,sd,se,q⟩:=h
 obtain ⟨_,ra⟩:=hd.reads I.hok rx
 obtain ⟨_,rb⟩:=he.reads I.hok ry
 have h1:=jm sd
 exact SeqAt.notIn_list_reads rb ra (mO se) h1.1 (by have:=Nat.min_le_right (PyData.depthAll ds) d.depth;omega) ⟨.bl _,H,I,rfl,q⟩
end
end L2
namespace L2
open PySem PySem.Spec PyProof.Rows PySem.W
theorem Tc {K:PySem.W.Frag} {C:Addr} {tb:XK->TS} {ts:TS} {D:Ends} {σ : St} {H:Hp} (h : ∀ E:XK,Is E (λ cls _ H'=>PySem.W.exmOne K cls (.ref C)=some true/\ts D σ H')->tb E D σ H):Ov K C tb ts D σ H:=h _ Is.rfl
theorem mP {E:XK} {C:Addr} {ta:TA} {D:Ends} {σ : St} {H:Hp} (h : ∀ R,Is R (λ vs H1=>vs.length<=sizeLine/\E (.ref C) none H1)->ta σ H R):JI E C ta D σ H:=h _ Is.rfl
section
variable {X:Cx} {k:Nat} {C:Addr} {ps:List Str} {sp:Sp} {x m:Str} {pos apos:Pos} {e o:Expr} {es:List Expr} {ta:TE} {t:TA}
end
theorem Td {K:PySem.W.Frag} {H:Hp} {p:Addr} {x y:V} {σ : L2.St} {i j:Nat} {Q:L2.St->Hp->Prop} (h:H p=some (.tup [x,y])) (hq:Q ((σ.set i (some x)).set j (some y)) H):RO K 2 (I0 (qX i) (I0 (qX j) RN)) (.ref p) σ H Q:=⟨p,[x,y],rfl,DK.of h,rfl,x,[y],rfl,y,[],rfl,rfl,hq⟩
end L2
namespace L2
open PySem PySem.Spec PyProof.Rows PySem.W
section
variable {X:Cx}
def Te:V->Option Int->Option Int->Hp->VK->Prop:=λ x lo hi H Q => ∃ z,x = .str z/\z.length<=sizeLine/\Q (.str (Txt.slice z lo hi)) H
theorem part_of {v:Value} {o:Option Int} (h:IsPart v o) : ∃ l:Option (Int×Tok),v=partValue l/\o=l.map (·.1):=by
 cases h with
 | none=>exact ⟨none,rfl,rfl⟩
 | int i t=>exact ⟨some (i,t),rfl,rfl⟩
theorem JV:Uu X Te:=by
 intro pins s σ H x v vl vu lo hi sl Q I rx hs pl pu h
 obtain ⟨z,rfl,hz,q⟩:=h
 obtain ⟨t,rfl⟩:=rx
 obtain ⟨l,rfl,rfl⟩:=part_of pl
 obtain ⟨u,rfl,rfl⟩:=part_of pu
 refine ⟨"str",_,F.slot_str_getitem.lookup,typeIs_str _ z t,wpAny_getItem_str_slice (l:=l) (u:=u) (st:=none) hs rfl ?_⟩
 have hle:=Txt.slice_le z (l.map (·.1)) (u.map (·.1))
 unfold sliceMade
 unfold Txt.slice at q hle
 by_cases c:(((none:Option (Int×Tok)).map (·.1)).getD 1 == 1 && (slicePicked z l u none).length == z.length)=true
 ·rw [if_pos c]
  have c':((1:Int) == 1 && (Builtin.Str.strSliceIndices (l.map (·.1)) (u.map (·.1)) 1 z.length).length == z.length)=true:=c
  rw [if_pos c'] at q
  exact ⟨.str z,H,I,⟨t,rfl⟩,q⟩
 ·rw [if_neg c]
  have c' : ¬ ((1:Int) == 1 && (Builtin.Str.strSliceIndices (l.map (·.1)) (u.map (·.1)) 1 z.length).length == z.length)=true:=c
  rw [if_neg c'] at q hle
  exact ⟨Nat.le_trans hle hz,.str _,H,I.tok _,⟨_,rfl⟩,q⟩
theorem Tf {H:Hp} {Q:VK} {z:Str} {lo hi:Option Int} (hz:z.length<=sizeLine) (h:Q (.str (Txt.slice z lo hi)) H):Te (.str z) lo hi H Q:=⟨z,rfl,hz,h⟩
abbrev sg (c:Nat):V := .str ⟨#[c]⟩
end
theorem Wk {H:Hp} {Q:VK} {z:Str} {i:Int} {c:Nat} (hz:z.length<=sizeLine) (h1:jL z.cps.toList i=some c) (h:Q (sg c) H):R8 (.str z) (.int i) H Q:=⟨z,i,c,rfl,rfl,hz,h1,h⟩
theorem Tg {H:Hp} {Q:VK} {i j:Str} (hz:i.length+j.length<=sizeLine) (h:Q (.str (i++j)) H) : ∃ a b,V.str i = .str a/\V.str j = .str b/\a.length+b.length<=sizeLine/\Q (.str (a++b)) H:=⟨i,j,rfl,rfl,hz,h⟩
end L2
namespace L2
open PySem PySem.Spec PyProof.Rows PySem.W
section
variable {X:Cx}
def Ef:V->List V->Hp->VK->Prop:=λ x vs H Q => ∃ l xs y j,x = .ref l/\vs = [y]/\H l=some (.lst xs)/\eK y=true/\xs.all eK=true/\(∃ v,xs[j]? = some v/\Aa v y=true)/\(∀ m v,m < j->xs[m]? = some v->Aa v y=false)/\Q (.int (j:Nat)) H
theorem Cv:Uv X "list.index" Ef:=by
 intro pins s σ H x vs v us Q I rx rv h
 obtain ⟨l,xs,y,j,rfl,rfl,hH,fy,fs,⟨vj,hvj,hit⟩,hno,q⟩:=h
 cases rx
 obtain ⟨u,rfl,ru⟩:=rv.one
 obtain ⟨z,its,n,r,hl,e⟩:=I.Cg hH
 have hj:j < xs.length:=(List.getElem?_eq_some_iff.mp hvj).1
 have at_ : ∀ (m:Nat) (hm:m < its.toArray.size) (w:V),xs[m]? = some w->Jw y its.toArray[m]=Aa w y:=λ m hm w hw=>by
  obtain ⟨u',hu',ru'⟩:=r.get hw
  have fw:eK w=true:=List.all_eq_true.mp fs w (List.mem_of_getElem? hw)
  have e1:its.toArray[m]=u':=by
   have:its[m]? = some u':=hu'
   simpa [List.getElem?_eq_some_iff] using (List.getElem?_eq_some_iff.mp this).2
  rw [e1]
  exact D6 ru' fw
 have hsz:its.toArray.size=xs.length:=by rw [List.size_toArray];omega
 have hl2:=mG
 refine call_meets F.slot_list_index ⟨_,e,rfl⟩ F.entry_list_index (F.args_list_index_2 _ _) (SeqAt.list_indexAt l its.toArray n none #[] u (Jw y) j (by omega) (by omega) ?_ ?_) ⟨e,λ w hw=>nW ru fy r fs w (by simpa using hw),?_⟩
 ·rw [at_ j (by omega) vj hvj];exact hit
 ·intro m hm hlt
  have Qn:m < xs.length:=by omega
  rw [at_ m hm _ (List.getElem?_eq_getElem Qn)]
  exact hno m _ hlt (List.getElem?_eq_getElem Qn)
 ·exact ⟨.int j,H,I.tok _,⟨_,rfl⟩,q⟩
theorem Qo {H:Hp} {Q:VK} {l:Addr} {xs:List V} {y v:V} {j:Nat} (h1:H l=some (.lst xs)) (fy:eK y=true) (fs:xs.all eK=true) (hj:xs[j]? = some v) (hit:Aa v y=true) (hno : ∀ m v,m < j->xs[m]? = some v->Aa v y=false) (h:Q (.int (j:Nat)) H):Ef (.ref l) [y] H Q:=⟨l,xs,y,j,rfl,rfl,h1,fy,fs,⟨v,hj,hit⟩,hno,h⟩
end
abbrev jN:=List (Int×Addr×List Int)
def t7 (es:jN):List (Key×V):=es.map λ e=>(Sum.inl e.1,V.ref e.2.1)
def iU (es:jN):Cells:=es.map λ e=>(e.2.1,HO.lst (e.2.2.map V.int))
theorem Au (es:jN) (n:Int):bA (t7 es) (.inl n)=(es.find? λ e=>decide (e.1=n)).map λ e => .ref e.2.1:=by
 induction es with
 | nil=>rfl
 | cons e es ih =>
   unfold t7 at ih ⊢
   rw [List.map_cons,List.find?_cons]
   by_cases h:e.1=n
   ·rw [eG (by rw [h]),decide_eq_true h];rfl
   ·rw [cP (λ q=>h (Sum.inl.inj q)),decide_eq_false h];exact ih
theorem JW {es:jN} {n:Int} (h:n ∉ es.map (·.1)):bA (t7 es) (.inl n)=none:=by
 rw [Au,List.find?_eq_none.mpr]
 ·rfl
 ·intro e he q
  exact h (List.mem_map.mpr ⟨e,he,of_decide_eq_true q⟩)
theorem MN {es:jN} {n:Int} (h:n ∉ es.map (·.1)) (a:Addr) (row:List Int):putK (t7 es) (.inl n) (.ref a)=t7 (es++[(n,a,row)]):=by
 unfold putK
 rw [if_neg]
 ·unfold t7;rw [List.map_append];rfl
 ·rw [fP,JW h];exact Bool.false_ne_true
theorem JX (es:jN) (n:Int):bz (t7 es) (.inl n)=t7 (es.filter λ e=>decide (e.1≠n)):=by
 unfold bz t7
 rw [List.filter_map]
 congr 1
 refine List.filter_congr λ e _ => ?_
 show decide ((Sum.inl e.1:Key)≠Sum.inl n)=decide (e.1≠n)
 exact decide_eq_decide.mpr ⟨λ q z=>q (by rw [z]),λ q z=>q (Sum.inl.inj z)⟩
theorem n6 {es:jN} {e:Int×Addr×List Int} (nd:(es.map (·.1)).Nodup) (h:e∈es):es.find? (λ x=>decide (x.1=e.1))=some e:=by
 induction es with
 | nil=>cases h
 | cons x es ih =>
   rw [List.map_cons,List.nodup_cons] at nd
   rw [List.find?_cons]
   rcases List.mem_cons.mp h with rfl | h
   ·rw [decide_eq_true rfl]
   ·have:x.1≠e.1:=λ q=>nd.1 (q ▸ List.mem_map.mpr ⟨e,h,rfl⟩)
    rw [decide_eq_false this]
    exact ih nd.2 h
theorem MO:mF 10 40=True:=eq_true ⟨by decide,by decide,by decide⟩
section
variable {H:Hp} {Q:VK}
theorem Qp (h:Q (.int 10000000000000000000000000000000000000000) H):rI mF (λ i j => .int (i ^ j.toNat)) (.int 10) (.int 40) H Q:=MM (by decide) (of_eq_true MO) h
end
theorem Cw {c m:Int} {n:Nat} (hm:0<=m) (h:Builtin.Int.intBits c<=n):Builtin.Int.intBits (c / m)<=n:=by rw [<-Int.fdiv_eq_ediv_of_nonneg c hm];exact intBits_fdiv_le h
theorem bits_add {x y:Int} {n:Nat} (hx:Builtin.Int.intBits x<=n) (h0:0<=y) (h1:y<=1000000) (hn:20<=n):Builtin.Int.intBits (x+y)<=n+1:=by
 have hy:Builtin.Int.intBits y<=20:=intBits_le_iff.mpr (by omega)
 exact Nat.le_trans (intBits_add_le hx hy) (by omega)
theorem uN {x:Int} (h0:0<=x) (h1:x<=1000000):Builtin.Int.intBits x<=20:=intBits_le_iff.mpr (by omega)
theorem Qq {c m:Int} (hb:Builtin.Int.intBits c<=2000000) (hm:Builtin.Int.intBits m<=1000):IntMulOk c m:=IntMulOk.of_le hb hm (by decide)
theorem Wl {a0 a1 a2 a3 a4 a5 t:Int} (h0:0<=t) (h5:t<=5) : ∃ z:Int,jL [V.int a0,.int a1,.int a2,.int a3,.int a4,.int a5] t=some (.int z):=by
 have h:t=0\/t=1\/t=2\/t=3\/t=4\/t=5:=by omega
 rcases h with rfl | rfl | rfl | rfl | rfl | rfl
 ·exact ⟨_,Om⟩
 ·exact ⟨_,Oo⟩
 ·exact ⟨_,Oq⟩
 ·exact ⟨_,Ot⟩
 ·exact ⟨_,Ou⟩
 ·exact ⟨_,Ox⟩
theorem intsOf : ∀ {vs:List V},(∀ (i:Nat) v,vs[i]? = some v->∃ z:Int,v=V.int z)->∃ zs:List Int,vs=zs.map V.int
 | [],_=>⟨[],rfl⟩
 | v::vs,h=>by
   obtain ⟨z,rfl⟩:=h 0 v rfl
   obtain ⟨zs,rfl⟩:=intsOf (vs:=vs) λ i u hu=>h (i+1) u hu
   exact ⟨z::zs,rfl⟩
theorem Ho {es:jN} {e:Int×Addr×List Int} (nd:(es.map (·.1)).Nodup) (h:e∈es) : ∃ as bs,es=as++e::bs/\es.filter (λ x=>decide (x.1≠e.1))=as++bs:=by
 obtain ⟨as,bs,rfl⟩:=List.append_of_mem h
 refine ⟨as,bs,rfl,?_⟩
 rw [List.map_append,List.map_cons] at nd
 have h1 : ∀ x∈as++bs,x.1≠e.1:=λ x hx q=>by
  have Ti:=(List.perm_middle (l₁ := as.map (·.1)) (a:=e.1) (l₂ := bs.map (·.1))).nodup_iff.mp nd
  rw [List.nodup_cons] at Ti
  refine Ti.1 ?_
  rw [<-List.map_append,<-q]
  exact List.mem_map.mpr ⟨x,hx,rfl⟩
 rw [List.filter_append,List.filter_cons,if_neg (by simp)]
 rw [List.filter_eq_self.mpr,List.filter_eq_self.mpr]
 ·intro x hx;exact decide_eq_true (h1 x (List.mem_append_right _ hx))
 ·intro x hx;exact decide_eq_true (h1 x (List.mem_append_left _ hx))
theorem JY (as bs:jN) (e:Int×Addr×List Int):iU (as++e::bs)=iU as++(e.2.1,HO.lst (e.2.2.map V.int))::iU bs:=by unfold iU;rw [List.map_append];rfl
theorem JZ (as bs:jN):iU (as++bs)=iU as++iU bs:=by unfold iU;rw [List.map_append]
end L2
namespace L2
open PySem PySem.Spec PyProof.Rows PySem.W
section
variable {X:Cx} {pins:List (Addr×Obj)} {σ : St} {H:Hp} {s:Shared} {h':Heap}
end
section
variable {X:Cx}
end
end L2
namespace L2
open PySem PySem.Spec PyProof.Rows PySem.W
abbrev Tj:Str:=Str.ofString "0123456789"
def UQ (c:Nat):Bool := !(Builtin.Str.occurrences Tj ⟨#[c]⟩ 0 Tj.length 1).isEmpty
end L2
namespace L2
open PySem PySem.Spec PyProof.Rows PySem.W
end L2
namespace L2
open PySem PySem.Spec PyProof.Rows PySem.W
section
variable {X:Cx}
def Gm:V->List V->Hp->VK->Prop:=λ x vs H Q => ∃ l xs y d ds j,x = .ref l/\vs = [y]/\H l=some (.lst xs)/\fR H y d/\bO H xs ds/\d.depth<=60/\shaped d=true/\shaped (.list ds)=true/\(∃ e,ds[j]? = some e/\PyData.eqv e d=true)/\(∀ (m:Nat) e,m < j->ds[m]? = some e->PyData.eqv e d=false)/\Q (.int (j:Nat)) H
theorem Hq (hu:X.A.units+64 < cLine):Uv X "list.index" Gm:=by
 intro pins s σ H x vs v us Q I rx rv h
 obtain ⟨l,xs,y,d,ds,j,rfl,rfl,hH,hd,hds,h60,sd,se,⟨ej,UR,hit⟩,hno,q⟩:=h
 cases rx
 obtain ⟨u,rfl,ru⟩:=rv.one
 obtain ⟨z,its,n,r,hl,e⟩:=I.Cg hH
 obtain ⟨_,ra⟩:=hd.reads I.hok ru
 obtain ⟨_,rb⟩:=hds.reads I.hok r
 have h1:=jm sd
 have hcl:=mO se
 have hm:=SeqAt.readsAll_map ds its _ hcl rb
 have hdl:=hds.length
 have hj:j < ds.length:=(List.getElem?_eq_some_iff.mp UR).1
 have hsz:its.toArray.size=ds.length:=by rw [List.size_toArray,<-hm,List.length_map]
 have at_ : ∀ (m:Nat) (US:m < its.toArray.size) (w:PyData),ds[m]? = some w->SeqAt.readOf s.heap its.toArray[m]=w:=λ m US w hw=>by
  rw [<-hm,List.getElem?_map] at hw
  have hm2:m < its.length:=by simpa using US
  rw [List.getElem?_eq_getElem hm2] at hw
  simpa using hw
 have hl2:=mG
 refine call_meets F.slot_list_index ⟨_,e,rfl⟩ F.entry_list_index (F.args_list_index_2 _ _) (SeqAt.list_indexAt l its.toArray n none #[] u (λ v=>PyData.eqv (SeqAt.readOf s.heap v) d) j (by omega) (by omega) ?_ ?_) ⟨e,SeqAt.items_eqAt (by simpa using rb) ra hcl h1.1 (by have:=Nat.min_le_right (PyData.depthAll ds) d.depth;omega),?_⟩
 ·show PyData.eqv (SeqAt.readOf s.heap its.toArray[j]) d=true
  rw [at_ j (by omega) ej UR];exact hit
 ·intro m US hlt
  have Qn:m < ds.length:=by omega
  show PyData.eqv (SeqAt.readOf s.heap its.toArray[m]) d=false
  rw [at_ m US _ (List.getElem?_eq_getElem Qn)]
  exact hno m _ hlt (List.getElem?_eq_getElem Qn)
 ·exact ⟨.int j,H,I.tok _,⟨_,rfl⟩,q⟩
end
theorem Tn {H:Hp} {Q:VK} {l:Addr} {xs:List V} {y:V} {d:Dat} {ds:List Dat} {j:Nat} (h1:H l=some (.lst xs)) (hd:fR H y (kqdP d)) (hds:bO H xs (kqdPs ds)) (o1:kqdOk 8 d=true) (o2 : ∀ e∈ds,kqdOk 7 e=true) (hj:ds[j]? = some d) (hno : ∀ (m:Nat) e,m < j->ds[m]? = some e->e≠d) (h:Q (.int (j:Nat)) H):Gm (.ref l) [y] H Q:=by
 have s1:kqdOk 8 (.list ds)=true:=by rw [kqdOk,List.all_eq_true];exact o2
 have s2:=jl s1
 rw [kqdP] at s2
 have dp:=(kqd_lay 8 d o1).2
 refine ⟨l,xs,y,kqdP d,kqdPs ds,j,rfl,rfl,h1,hd,hds,by omega,jl o1,s2,⟨kqdP d,by rw [lB,List.getElem?_map,hj];rfl,(kqd_eqv 8 d d 8 o1 o1).mpr rfl⟩,λ m e hm he => ?_,h⟩
 rw [lB,List.getElem?_map] at he
 obtain ⟨e',he',rfl⟩:=Option.map_eq_some_iff.mp he
 exact Bool.eq_false_iff.mpr λ z=>hno m e' hm he' ((kqd_eqv 7 e' d 8 (o2 e' (List.mem_of_getElem? he')) o1).mp z)
theorem To {H:Hp} {Q:VK} {l:Addr} {y:V} {d:Dat} {ds:List Dat} {xs:List V} {neg b:Bool} (h1:H l=some (.lst xs)) (hd:fR H y (kqdP d)) (hds:bO H xs (kqdPs ds)) (o1:kqdOk 8 d=true) (o2 : ∀ e∈ds,kqdOk 7 e=true) (hb:b=true↔d∈ds) (h:Q (.bl (if neg then !b else b)) H):Qm neg y (.ref l) H Q:=by
 have s1:kqdOk 8 (.list ds)=true:=by rw [kqdOk,List.all_eq_true];exact o2
 have s2:=jl s1
 rw [kqdP] at s2
 have dp:=(kqd_lay 8 d o1).2
 have e:((kqdPs ds).any λ e=>PyData.eqv e (kqdP d))=b:=by
  rw [Bool.eq_iff_iff,hb,lB,List.any_map,List.any_eq_true]
  constructor
  ·rintro ⟨x,hx,hz⟩
   rw [<-(kqd_eqv 7 x d 8 (o2 x hx) o1).mp hz]
   exact hx
  ·intro hx
   exact ⟨d,hx,(kqd_eqv 8 d d 8 o1 o1).mpr rfl⟩
 exact ⟨kqdP d,kqdPs ds,hd,.lst h1 hds,by omega,jl o1,s2,by rw [e];exact h⟩
end L2
namespace L2
open PySem PySem.Spec PyProof.Rows PySem.W
section
variable {X:Cx}
end
end L2
namespace L2
open PySem PySem.Spec PyProof.Rows PySem.W
theorem Eg {lo:Int} {n:Nat} {te:TE} {σ : St} {Q:VK} {H1:Hp} {L:Cells} (G:Nat->V->Cells->Prop) (hL:Led H1 L) (hn:n<=sizeLine)
  (hs : ∀ (i:Nat) (H:Hp) (R:VK) (M:Cells),i < n->Led H (M++L)->(∀ v H' C,G i v C->Led H' (C++(M++L))->R v H')->te (some (.int (lo+i)) :: σ) H R)
  (hd : ∀ (p:Addr) (vs:List V) (Cs:List Cells) (H':Hp),vs.length=n->Cs.length=n->(∀ (i:Nat) v C,vs[i]? = some v->Cs[i]? = some C->G i v C)->Led H' ((p,.lst vs)::(Cs.flatten++L))->Q (.ref p) H'):uL (GR lo n) Eb te σ Q H1:=by
 refine zy (λ p i acc H=>i<=n/\acc.length=i ∧ ∃ Cs:List Cells,Cs.length=i/\(∀ (j:Nat) v C,acc[j]? = some v->Cs[j]? = some C->G j v C)/\Led H ((p,.lst acc)::(Cs.flatten++L))) (λ p hp=>⟨Nat.zero_le _,rfl,[],rfl,λ j v C h=>by simp at h,hL.new hp⟩) (λ p i acc H hp h => ?_) ?_ ?_
 ·obtain ⟨_,_,Cs,_,_,hl⟩:=h
  exact hl.get List.mem_cons_self
 ·rintro p i acc H hp hi ⟨_,rfl,Cs,hc,hG,hl⟩
  unfold Eb
  dsimp only
  rw [if_pos rfl]
  refine hs _ H _ ((p,.lst acc)::Cs.flatten) hi hl λ v H' C g hl' => ?_
  have h1:Led H' ((p,.lst acc)::(C++(Cs.flatten++L))):=Led.pull hl'
  refine ⟨h1.get List.mem_cons_self,by omega,hi,by simp,Cs++[C],by simp [hc],λ j u D hu hD => ?_,?_⟩
  ·rw [List.getElem?_append] at hu hD
   rw [hc] at hD
   by_cases hj:j < acc.length
   ·rw [if_pos hj] at hu hD
    exact hG j u D hu hD
   ·rw [if_neg hj] at hu hD
    have h0:j - acc.length=0:=by
     rcases Nat.lt_or_ge (j - acc.length) 1 with h | h
     ·omega
     ·rw [List.getElem?_eq_none (by simpa using h)] at hu;cases hu
    rw [h0] at hu hD
    have e:j=acc.length:=by omega
    subst e
    cases hu
    cases hD
    exact g
  ·refine (h1.put (o' := .lst (acc++[v])) rfl rfl).perm (List.Perm.cons _ ?_)
   rw [List.flatten_append,List.flatten_cons,List.flatten_nil,List.append_nil,List.append_assoc,<-List.append_assoc,<-List.append_assoc]
   exact List.Perm.append_right _ List.perm_append_comm
 ·rintro p acc H hp ⟨_,e,Cs,hc,hG,hl⟩
  exact hd p acc Cs H e hc hG hl
abbrev BZ:=List (Addr×List Int)
def nJ (rs:BZ):List V:=rs.map λ r=>V.ref r.1
def Hr (rs:BZ):Cells:=rs.map λ r=>(r.1,HO.lst (r.2.map V.int))
theorem fG (rs:BZ):(nJ rs).length=rs.length:=List.length_map _
theorem Av {rs:BZ} {r:Addr×List Int} (h:r∈rs):(r.1,HO.lst (r.2.map V.int))∈Hr rs:=List.mem_map.mpr ⟨r,h,rfl⟩
theorem rowsOf {p:Nat->List Int->Prop} : ∀ {vs:List V} {Cs:List Cells},vs.length=Cs.length->(∀ (i:Nat) v C,vs[i]? = some v->Cs[i]? = some C->∃ (r:Addr) (row:List Int),v=V.ref r/\C = [(r,HO.lst (row.map V.int))]/\p i row)->∃ rs:BZ,vs=nJ rs/\Cs.flatten=Hr rs/\rs.length=vs.length ∧ ∀ (i:Nat) r,rs[i]? = some r->p i r.2:=by
 intro vs
 induction vs generalizing p with
 | nil=>intro Cs h _;cases Cs with
   | nil=>exact ⟨[],rfl,rfl,rfl,λ i r h=>by simp at h⟩
   | cons _ _=>cases h
 | cons v vs ih=>intro Cs hl h;cases Cs with
   | nil=>cases hl
   | cons C Cs =>
     obtain ⟨r,row,rfl,rfl,hp⟩:=h 0 v C rfl rfl
     obtain ⟨rs,rfl,e2,e3,e4⟩:=ih (p:=λ i row=>p (i+1) row) (Cs:=Cs) (Nat.succ.inj hl) λ i u D hu hD=>h (i+1) u D hu hD
     refine ⟨(r,row)::rs,rfl,by rw [List.flatten_cons,e2];rfl,by rw [List.length_cons,List.length_cons,e3],λ i q hq => ?_⟩
     cases i with
     | zero=>cases hq;exact hp
     | succ i=>exact e4 i q hq
abbrev xo:=Str×Addr×BZ
abbrev cM:=List xo
def wR (es:cM):List (Key×V):=es.map λ e=>(Sum.inr e.1,V.ref e.2.1)
def mQ (es:cM):Cells:=es.map λ e=>(e.2.1,HO.lst (nJ e.2.2))
theorem Aw (es:cM) (z:Str):bA (wR es) (.inr z)=(es.find? λ e=>decide (e.1=z)).map λ e => .ref e.2.1:=by
 induction es with
 | nil=>rfl
 | cons e es ih =>
   unfold wR at ih ⊢
   rw [List.map_cons,List.find?_cons]
   by_cases h:e.1=z
   ·rw [eG (by rw [h]),decide_eq_true h];rfl
   ·rw [cP (λ q=>h (Sum.inr.inj q)),decide_eq_false h];exact ih
theorem Cy {es:cM} {z:Str} (h:z ∉ es.map (·.1)):bA (wR es) (.inr z)=none:=by
 rw [Aw,List.find?_eq_none.mpr]
 ·rfl
 ·intro e he q
  exact h (List.mem_map.mpr ⟨e,he,of_decide_eq_true q⟩)
theorem findF {es:cM} {e:xo} (nd:(es.map (·.1)).Nodup) (h:e∈es):es.find? (λ x=>decide (x.1=e.1))=some e:=by
 induction es with
 | nil=>cases h
 | cons x es ih =>
   rw [List.map_cons,List.nodup_cons] at nd
   rw [List.find?_cons]
   rcases List.mem_cons.mp h with rfl | h
   ·rw [decide_eq_true rfl]
   ·have:x.1≠e.1:=λ q=>nd.1 (q ▸ List.mem_map.mpr ⟨e,h,rfl⟩)
    rw [decide_eq_false this]
    exact ih nd.2 h
theorem uO {es:cM} {e:xo} (nd:(es.map (·.1)).Nodup) (h:e∈es):bA (wR es) (.inr e.1)=some (.ref e.2.1):=by rw [Aw,findF nd h];rfl
theorem MP {es:cM} {z:Str} (h:z ∉ es.map (·.1)) (a:Addr) (rs:BZ):putK (wR es) (.inr z) (.ref a)=wR (es++[(z,a,rs)]):=by
 unfold putK
 rw [if_neg]
 ·unfold wR;rw [List.map_append];rfl
 ·rw [fP,Cy h];exact Bool.false_ne_true
theorem Qs {es:cM} {e:xo} (nd:(es.map (·.1)).Nodup) (h:e∈es) : ∃ as bs,es=as++e::bs/\es.filter (λ x=>decide (x.1≠e.1))=as++bs:=by
 obtain ⟨as,bs,rfl⟩:=List.append_of_mem h
 refine ⟨as,bs,rfl,?_⟩
 rw [List.map_append,List.map_cons] at nd
 have h1 : ∀ x∈as++bs,x.1≠e.1:=λ x hx q=>by
  have Ti:=(List.perm_middle (l₁ := as.map (·.1)) (a:=e.1) (l₂ := bs.map (·.1))).nodup_iff.mp nd
  rw [List.nodup_cons] at Ti
  refine Ti.1 ?_
  rw [<-List.map_append,<-q]
  exact List.mem_map.mpr ⟨x,hx,rfl⟩
 rw [List.filter_append,List.filter_cons,if_neg (by simp)]
 rw [List.filter_eq_self.mpr,List.filter_eq_self.mpr]
 ·intro x hx;exact decide_eq_true (h1 x (List.mem_append_right _ hx))
 ·intro x hx;exact decide_eq_true (h1 x (List.mem_append_left _ hx))
theorem Cz (as bs:cM) (e:xo):mQ (as++e::bs)=mQ as++(e.2.1,HO.lst (nJ e.2.2))::mQ bs:=by unfold mQ;rw [List.map_append];rfl
theorem J0 {es:cM} {e:xo} (h:e∈es):(e.2.1,HO.lst (nJ e.2.2))∈mQ es:=List.mem_map.mpr ⟨e,h,rfl⟩
theorem MQ (as bs:cM) (e e':xo) (h1:e.1=e'.1) (h2:e.2.1=e'.2.1):wR (as++e::bs)=wR (as++e'::bs):=by unfold wR;rw [List.map_append,List.map_append,List.map_cons,List.map_cons,h1,h2]
section
variable {H:Hp} {a:Addr} {Q:VK} {D:Ends} {σ : St}
theorem Tp {kvs:List (Key×V)} {z:Str} {S:Option V->Prop} (h1:H a=some (.dK kvs)) (h:S (bA kvs (.inr z))) : ∃ b o,V.ref a = .ref b/\fV H b (.str z) o/\S o:=⟨a,_,rfl,fV.k (k := .inr z) h1,h⟩
theorem J1 {kvs:List (Key×V)} {z:Str} {v:V} {S:V->Prop} (h1:H a=some (.dK kvs)) (h2:bA kvs (.inr z)=some v) (h:S v) : ∃ b v,V.ref a = .ref b/\fV H b (.str z) (some v)/\S v:=⟨a,v,rfl,h2 ▸ fV.k (k := .inr z) h1,h⟩
theorem Tq {kvs:List (Key×V)} {z:Str} {v:V} (h1:H a=some (.dK kvs)) (hl:kvs.length < sizeLine) (h:D.nx σ (upd H a (.dK (putK kvs (.inr z) v)))) : ∃ b H4,V.ref a = .ref b/\mJ H b (.str z) v H4/\D.nx σ H4:=⟨a,_,rfl,mJ.k (k := .inr z) h1 hl,h⟩
end
end L2
namespace L2
open PySem PySem.Spec PyProof.Rows PySem.W
section
variable {X:Cx}
end
section
variable {X:Cx} {k:Nat} {f C:Addr} {fd:FuncData} {ps:List Str} {sp:Sp} {x:Str} {p pos:Pos} {e:Expr} {es:List Expr} {t:TA}
end
end L2
namespace L2
open PySem PySem.Spec PyProof.Rows PySem.W
section
variable {X:Cx}
end
section
variable {P:Program} {w:World} {K:PySem.W.Frag} {mg:Str->Option Value} {base:Heap}
end
section
variable {X:Cx} {ea:Addr} {k:Nat} {ps:List Str} {sp:Sp} {x:Str} {p pos:Pos} {e:Expr} {es:List Expr} {t:TA}
end
end L2
namespace L2
open PySem PySem.Spec PyProof.Rows PySem.W
section
variable {X:Cx}
end
end L2
namespace L2
open PySem PySem.Spec PyProof.Rows PySem.W
section
variable {prog:Program} {w:World} {A:Around} {E:Value->Shared->Prop} {s:Shared}
end
end L2
namespace L2
open PySem PySem.Spec PyProof.Rows PySem.W
namespace SI
end SI
section
variable {prog:Program} {w:World} {A:Around} {E:Value->Shared->Prop} {s:Shared}
end
end L2
namespace L2
open PySem PySem.Spec PyProof.Rows PySem.W
section
variable {prog:Program} {w:World} {A:Around} {E:Value->Shared->Prop} {s:Shared}
end
end L2
namespace L2
open PySem PySem.Spec PyProof.Rows PySem.W
section
variable {prog:Program} {w:World} {A:Around} {E:Value->Shared->Prop} {s:Shared}
end
section
variable {X:Cx} {pins:List (Addr×Obj)} {σ : St} {H:Hp} {s:Shared}
end
end L2
namespace L2
open PySem PySem.Spec PyProof.Rows PySem.W
section
variable {prog:Program} {w:World} {A:Around} {E:Value->Shared->Prop} {s:Shared} {d it:Addr} {es:Array DictEntry} {ep i:Nat}
def sf (h:Heap) (d:Addr) (es:Array DictEntry) (ep:Nat):Prop := ∃ o,h.get? d=some o/\o.ExactDict/\o.data = .dict es ep
theorem sf.ty (x:sf s.heap d es ep):s.TypeIs (.ref d) "dict" := let ⟨o,ho,hc,_⟩:=x; ⟨o,ho,hc.1⟩
theorem sf.lt {h:Heap} (x:sf h d es ep):d < h.objs.size:=let ⟨_,ho,_⟩:=x; Heap.lt_size ho
theorem sf.to {h h':Heap} (x:sf h d es ep) (k : ∀ o,h.get? d=some o->h'.get? d=some o):sf h' d es ep:=let ⟨o,ho,r⟩:=x; ⟨o,k o ho,r⟩
theorem J2 {Q:Value->Shared->Prop} (lo:(d == sysModules)=false) (m:sf s.heap d es ep)
  (q:Q (.ref s.heap.objs.size) { s with heap:=s.heap.push { cls := .type "dict_keyiterator",data := .fields #[.ref d,.int 0 0,.int es.size 0,.int ep 0] } }):wpAny (model prog w) A (pyIter (.ref d)) Q E s:=by
 obtain ⟨o,ho,hc,hdat⟩:=id m
 have ty:=m.ty
 refine wpAny_pyIter_slot ty F.slot_dict_iter (wpAny_call_entry F.slot_dict_iter ty F.entry_dict_iter ?_ (F.args_dict_iter_1 _))
 unfold Builtin.«dict.__iter__»
 refine wpAny_bind ?_;unfold Builtin.Dict.dictSlotNone
 refine wpAny_bind (wpAny_notOrdered_dict ty ?_)
 show wpAny _ _ (pure (Value.ref d)) _ _ s;refine wpAny_pure ?_
 show wpAny _ _ (Builtin.Dict.showsAll d >>= _) _ _ s;unfold Builtin.Dict.showsAll
 rw [if_neg (by rw [lo];exact Bool.false_ne_true)];refine wpAny_bind (wpAny_pure ?_)
 refine wpAny_bind (wpAny_dictEntries ho hdat (wpAny_bind (wpAny_dictEpoch ho hdat ?_)))
 refine wpAny_bind (wpAny_newObj_type (wpAny_pure ⟨_,rfl,"dict_keyiterator",_,⟨_,Heap.get?_push_size _ rfl,rfl⟩,F.slot_dict_keyiterator_next.lookup,?_⟩))
 simpa [rawInt] using q
theorem J3 {Q:Option Value->Shared->Prop} (ti:s.heap.IsKeyIter it d i es.size ep) (m:sf s.heap d es ep) (hi:i < es.size)
  (q : ∀ h',h'.IsKeyIter it d (i+1) es.size ep->Heap.SameBut it s.heap h'->Q (some es[i].key) { s with heap:=h' }):wpAny (model prog w) A (pyNext (.ref it)) Q E s:=by
 obtain ⟨o,ho,hc,hd⟩:=id ti
 obtain ⟨od,hod,hcd,Tr⟩:=id m
 unfold pyNext
 refine wpAny_bind (wpAny_attempt (wpAny_callSpecial?_slot (name:=Str.ofString "__next__") ti.typeIs F.slot_dict_keyiterator_next (wpAny_call_entry F.slot_dict_keyiterator_next ti.typeIs F.entry_dict_keyiterator_next ?_ (F.args_dict_keyiterator_next_1 _))))
 refine wpAny_bind (wpAny_pure (wpAny_bind (wpAny_bind ?_)))
 first | refine wpAny_bind (wpAny_typeNameOfWhole_keyiter ti.typeIs (wpAny_pure ?_)) | refine wpAny_bind (wpAny_typeNameOf_keyiter ti.typeIs (wpAny_pure ?_))
 refine wpAny_bind (wpAny_fieldsOf ho hd ?_)
 have own:Builtin.Dict_items.ownsTuple "dict_keyiterator" = false:=by decide
 simp only [own,Bool.false_eq_true,if_false];show wpAny _ _ (if (Value.ref d == Value.none)=true then _ else _) _ _ s
 rw [if_neg (show ¬ ((Value.ref d == Value.none)=true) from Bool.false_ne_true)];refine wpAny_bind (wpAny_pure ?_)
 refine wpAny_bind (wpAny_dictEntries hod Tr ?_);rw [if_neg (by simp)]
 refine wpAny_bind (wpAny_pure (wpAny_bind (wpAny_dictEpoch hod Tr ?_)));rw [if_neg (by simp)]
 refine wpAny_pure ?_
 simp only [show ¬ ((i:Int) < 0) from by omega,if_false,Int.toNat_natCast,Array.getElem?_eq_getElem hi]
 refine wpAny_bind ?_;first | refine wpAny_bind (wpAny_typeNameOfWhole_keyiter ti.typeIs (wpAny_pure ?_)) | refine wpAny_bind (wpAny_typeNameOf_keyiter ti.typeIs (wpAny_pure ?_))
 refine wpAny_bind (wpAny_isOneOf_keyiter ti.typeIs ?_);show wpAny _ _ (setField (.ref it) 1 (rawInt ((i:Int)+1)) >>= _) _ _ s
 refine wpAny_bind (wpAny_setField ho hd (by simp) ?_)
 have ti':(s.heap.update it (Obj.mapFields (·.setIfInBounds 1 (rawInt ((i:Int)+1))))).IsKeyIter it d (i+1) es.size ep :=
  ⟨_,Heap.get?_update_self _ ho (Obj.isFreed_of_fields (Obj.data_mapFields hd _)),(Obj.cls_mapFields ..).trans hc,by rw [Obj.data_mapFields hd];simp [rawInt]⟩
 refine wpAny_bind (wpAny_holding (wpAny_bind (wpAny_isOneOf_keyiter (s := { s with heap:=s.heap.update it (Obj.mapFields (·.setIfInBounds 1 (rawInt ((i:Int)+1)))) }) ti'.typeIs ?_)))
 show wpAny _ _ (pure es[i].key) _ _ _;exact wpAny_pure (wpAny_pure ⟨_,rfl,wpAny_pure (q _ ti' (Heap.SameBut.update ..))⟩)
theorem MR {Q:Option Value->Shared->Prop} (hh:A.handled=none) (ti:s.heap.IsKeyIter it d es.size es.size ep) (m:sf s.heap d es ep)
  (q : ∀ h',Heap.ExtBut it s.heap h'->Q none { s with heap:=h' }):wpAny (model prog w) A (pyNext (.ref it)) Q E s:=by
 obtain ⟨o,ho,hc,hd⟩:=id ti
 obtain ⟨od,hod,hcd,Tr⟩:=id m
 unfold pyNext
 refine wpAny_bind (wpAny_attempt (wpAny_callSpecial?_slot (name:=Str.ofString "__next__") ti.typeIs F.slot_dict_keyiterator_next (wpAny_call_entry F.slot_dict_keyiterator_next ti.typeIs F.entry_dict_keyiterator_next ?_ (F.args_dict_keyiterator_next_1 _))))
 refine wpAny_bind (wpAny_pure (wpAny_bind (wpAny_bind ?_)))
 first | refine wpAny_bind (wpAny_typeNameOfWhole_keyiter ti.typeIs (wpAny_pure ?_)) | refine wpAny_bind (wpAny_typeNameOf_keyiter ti.typeIs (wpAny_pure ?_))
 refine wpAny_bind (wpAny_fieldsOf ho hd ?_)
 have own:Builtin.Dict_items.ownsTuple "dict_keyiterator" = false:=by decide
 simp only [own,Bool.false_eq_true,if_false];show wpAny _ _ (if (Value.ref d == Value.none)=true then _ else _) _ _ s
 rw [if_neg (show ¬ ((Value.ref d == Value.none)=true) from Bool.false_ne_true)];refine wpAny_bind (wpAny_pure ?_)
 refine wpAny_bind (wpAny_dictEntries hod Tr ?_);rw [if_neg (by simp)]
 refine wpAny_bind (wpAny_pure (wpAny_bind (wpAny_dictEpoch hod Tr ?_)));rw [if_neg (by simp)]
 refine wpAny_pure ?_
 simp only [show ¬ ((es.size:Int) < 0) from by omega,if_false,Int.toNat_natCast,Array.getElem?_eq_none (Nat.le_refl es.size)]
 refine wpAny_bind ?_;first | refine wpAny_bind (wpAny_typeNameOfWhole_keyiter ti.typeIs (wpAny_pure ?_)) | refine wpAny_bind (wpAny_typeNameOf_keyiter ti.typeIs (wpAny_pure ?_))
 show wpAny _ _ (setField (.ref it) 0 .none >>= _) _ _ s;refine wpAny_bind (wpAny_setField ho hd (by simp) ?_)
 show wpAny _ _ (newExc (.type "StopIteration") [] >>= _) _ _ _;refine wpAny_bind ?_;simp only [newExc,newTuple]
 refine wpAny_bind (wpAny_newObj_type ?_ (by size_fits));refine wpAny_bind (m:=firstArgMember _ _) (wpAny_of_eq (a:=Value.none) (by first | rfl | (simp only [firstArgMember];rfl)) ?_)
 refine wpAny_newObj_type ?_ (by size_fits);simp only [raiseNew];refine wpAny_bind (wpAny_handled ?_);rw [show A.in1.handled=none from hh]
 refine wpAny_bind (wpAny_pure (wpAny_throw ?_));refine wpAny_bind (wpAny_isInstance (T := "StopIteration") (b:=true) ⟨_,Heap.get?_push_size _ rfl,rfl⟩ isSubtype_stop ?_)
 exact wpAny_pure (q _ (((Heap.SameBut.update ..).extBut.push _).push _))
theorem Hs (hh:A.handled=none) (I d:Addr) (hne:d≠I) (es:Array DictEntry) (ep:Nat) :
  Walks prog w A I [I,d] [I] es.size (λ i v => ∃ e,es[i]? = some e/\v=e.key) (λ i h=>h.IsKeyIter I d i es.size ep/\sf h d es ep) where
 sub:=λ b hb=>by simp at hb;simp [hb]
 frame:=λ _ _ _ st hk=>⟨st.1.at λ o e=>hk I (by simp) o e,st.2.to λ o e=>hk d (by simp) o e⟩
 item:=λ i s Q E hi st hQ=>J3 st.1 st.2 hi λ h' ti' hs'=>hQ _ h' s.toks ⟨es[i],by simp [hi],rfl⟩ ⟨ti',st.2.to λ o e=>hs'.extBut d o hne e⟩ λ b o hb e=>hs'.extBut b o (λ h=>hb (by simp [h])) e
 done:=λ s Q E st hQ=>MR hh st.1 st.2 λ h' he'=>hQ h' s.toks λ b o hb e=>he' b o (λ h=>hb (by simp [h])) e
 self:=λ _ _ _ _ st hQ=>wpAny_pyIter_keyiter st.1 hQ
theorem MS (lo:(d == sysModules)=false):KdlSrc prog w "dict" d d es.size (λ i v => ∃ e,es[i]? = some e/\v=e.key) (λ h=>sf h d es ep) where
 type:=λ _ m=>m.ty
 there:=λ _ m=>⟨m.lt,m.lt⟩
 keep:=λ _ _ m k=>m.to λ o e=>k d (.inl rfl) o e
 notList:=by decide
 notTuple:=by decide
 hint:=λ _ _ _ _ m q=>kdl_hint_dict m.ty q
 iter:=λ _ _ hh m=>⟨_,_,(λ _ _ q=>J2 lo m q),Hs hh _ d (Nat.ne_of_lt m.lt) es ep,⟨⟨_,Heap.get?_push_size _ rfl,rfl,rfl⟩,m.to λ o e=>Heap.get?_push_of_some _ e⟩⟩
end
section
variable {X:Cx}
def Ax:List V->Hp->VK->Prop:=λ xs H Q => ∃ (p:Addr) (kvs:List (List Key×V)),xs = [.ref p]/\H p=some (.dT kvs) ∧ ∀ (l:Addr) (as:List Addr),H l=none->as.length=kvs.length->(∀ (i:Nat) b k v,as[i]? = some b->kvs[i]? = some (k,v)->H b=some (.tup (k.map kV)))->Q (.ref l) (upd H l (.lst (as.map V.ref)))
theorem kt_at {H:Hp} : ∀ {kvs:List (List Key×V)} {xs:List (List Key×Addr×Value)},KT H kvs xs->∀ (i:Nat) x k v,xs[i]? = some x->kvs[i]? = some (k,v)->H x.2.1=some (.tup (k.map kV)):=by
 intro kvs xs r
 induction r with
 | nil=>intro i x k v h;simp at h
 | @cons p q ps qs hq t ih =>
   intro i x k v h1 h2
   cases i with
   | zero =>
     simp only [List.getElem?_cons_zero,Option.some.injEq] at h1 h2
     subst h1
     rw [h2] at hq
     exact hq.2.1
   | succ i=>exact ih i x k v (by simpa using h1) (by simpa using h2)
theorem Eh {us:List Value} {as:List Addr} (h:us=as.map Value.ref):Vals (as.map V.ref) us:=by
 subst h
 induction as with
 | nil=>exact .nil
 | cons a as ih=>exact .cons rfl ih
theorem rA (hc:X.calm=true):jZ X (.type "list") Ax:=by
 intro pins s σ H xs us Q I r h
 obtain ⟨p,kvs,rfl,hp,q⟩:=h
 obtain ⟨u,rfl,rx⟩:=vals1 r
 cases rx
 obtain ⟨hz,hS,zs,rr,o,es,ep,h1,h2,h3,h4,_,_⟩:=Jm I.hok hp
 have hl:kvs.length=zs.length:=Paired.length rr
 have hsz:es.size=zs.length:=by rw [<-Array.length_toList,h4,List.length_map]
 refine kdl_call (MS (es:=es) (ep:=ep) hS) (I.ok.hd hc) ⟨o,h1,h2,h3⟩ (by omega) λ h' tk acc' c' hk' hS' hacc => ?_
 have hat:acc'.toList=(zs.map λ z=>z.2.1).map Value.ref:=by
  refine List.ext_getElem? λ i => ?_
  by_cases hi:i < zs.length
  ·have hi2:i < acc'.toList.length:=by rw [Array.length_toList,hacc.1];omega
   rw [List.getElem?_eq_getElem hi2]
   obtain ⟨e,he,ev⟩:=hacc.2 i _ (by rw [<-Array.getElem?_toList];exact List.getElem?_eq_getElem hi2)
   have uP:es.toList[i]? = some e:=by rw [Array.getElem?_toList];exact he
   rw [h4,List.getElem?_map,List.getElem?_eq_getElem hi] at uP
   rw [ev,List.getElem?_map,List.getElem?_map,List.getElem?_eq_getElem hi]
   have:e=entryOfKey (tupleKind (bC X.prog X.w)) zs[i]:=(Option.some.inj uP).symm
   rw [this]
   rfl
  ·rw [List.getElem?_eq_none (by rw [Array.length_toList,hacc.1];omega),List.getElem?_eq_none (by simp;omega)]
 refine ⟨.ref s.heap.objs.size,_,I.laid (t':=tk) hk' (Nat.le_refl _) (show bI X.prog X.w _ h' _ (.lst ((zs.map λ z=>z.2.1).map V.ref)) from ⟨by rw [List.length_map,List.length_map];omega,acc'.toList,c',Eh hat,by simpa using hS'⟩),rfl,q _ (zs.map λ z=>z.2.1) (I.hok.fresh (Nat.le_refl _)) (by rw [List.length_map];omega) λ i b k v hb hkv => ?_⟩
 rw [List.getElem?_map] at hb
 obtain ⟨x,hx,rfl⟩:=Option.map_eq_some_iff.mp hb
 exact kt_at rr i x k v hx hkv
theorem MT {H:Hp} {Q:VK} {p:Addr} {kvs:List (List Key×V)} (h1:H p=some (.dT kvs)) (h : ∀ (l:Addr) (as:List Addr),H l=none->as.length=kvs.length->(∀ (i:Nat) b k v,as[i]? = some b->kvs[i]? = some (k,v)->H b=some (.tup (k.map kV)))->Q (.ref l) (upd H l (.lst (as.map V.ref)))):Ax [.ref p] H Q:=⟨p,kvs,rfl,h1,h⟩
end
end L2
namespace L2
open PySem PySem.Spec PyProof.Rows
class uQ (G:Prop) (P:outParam Prop):Prop where
 h:P->G
class dc (G:Prop) (P:outParam Prop):Prop where
 h:P->G
section
variable {σ : St} {H:Hp} {Q:VK} {D:Ends} {ta tb tc te:TE} {t u:TA} {r:R2} {b:TS} {QB:Bool->Hp->Prop} {c d:TT} {QA:List V->Hp->Prop}
instance Wm {α β : Type} {S : α->β->Prop} {g:(α->β->Prop)->Prop} : dc (Hid S g) (∀ R,(∀ x y,S x y->R x y)->g R):=⟨VW⟩
instance Wn {t u:TS} {D:Ends} {σ : St} {H:Hp} : dc (IY t u D σ H) (∀ M,Is M (u D)->t { D with nx:=M } σ H):=⟨VN⟩
instance UT  : dc (Gd te t σ H QA) (∀ R,Is R (λ x H1=>t σ H1 λ xs H2=>QA (x::xs) H2)->te σ H R):=⟨SA⟩
instance aeu  : dc (Pk r ta tb σ H Q) (∀ R,(∀ x H1,Hid (λ y H2=>r x y H2 Q) (λ R2=>tb σ H1 R2)->R x H1)->ta σ H R):=⟨opH⟩
instance Wo {g:TG} : dc (Ja te g D σ H) (∀ R,Is R (λ x H1=>g x σ H1 D.nx)->te σ H R):=⟨VX⟩
instance Wq  : dc (Me te D σ H) (∀ R,Is R (λ x H1=>D.rt x H1)->te σ H R):=⟨VY⟩
instance UU  : dc (F4 te D σ H) (∀ R,Is R (λ _ H1=>D.nx σ H1)->te σ H R):=⟨Su⟩
instance aev {a b:TS} : dc (Mf c a b D σ H) (∀ R,Is R (λ k H1=>if k=true then a D σ H1 else b D σ H1)->c σ H R):=⟨ifH⟩
instance UW  : dc (Gb te σ H QB) (∀ R,Is R (λ x H1 => ∃ k,x = .bl k/\QB k H1)->te σ H R):=⟨Sv⟩
instance aew  : dc (tB te σ H QB) (∀ R,Is R (λ x H1 => ∃ k,x = .bl k/\QB k H1)->te σ H R):=⟨tBH⟩
instance Wr  : dc (Pc c σ H QB) (∀ R,Is R (λ k H1=>QB (!k) H1)->c σ H R):=⟨VZ⟩
instance Ws  : dc (Pb c d σ H QB) (∀ R,Is R (λ k H1=>if k=true then d σ H1 QB else QB false H1)->c σ H R):=⟨V0⟩
instance aex  : dc (Vx c d σ H QB) (∀ R,Is R (λ k H1=>if k=true then QB true H1 else d σ H1 QB)->c σ H R):=⟨orH⟩
instance UX  : dc (IV ta tb σ H Q) (∀ R,Is R (λ x H1 => ∃ c,x = .bl c/\if c=true then tb σ H1 Q else Q (.bl false) H1)->ta σ H R):=⟨Sx⟩
instance Wt  : dc (Pd ta tb σ H Q) (∀ R,Is R (λ x H1 => ∃ c,x = .bl c/\if c=true then Q (.bl true) H1 else tb σ H1 Q)->ta σ H R):=⟨V1⟩
instance UY  : dc (IW ta σ H Q) (∀ R,Is R (λ x H1 => ∃ c,x = .bl c/\Q (.bl (!c)) H1)->ta σ H R):=⟨Sy⟩
instance aey {q:V->Hp->VK->Prop} : dc (VA q ta σ H Q) (∀ R,Is R (λ x H1=>q x H1 Q)->ta σ H R):=⟨unH⟩
instance aez {q:V->Option Int->Option Int->Hp->VK->Prop} {tl th:TO} : dc (VD q te tl th σ H Q) (∀ R,Is R (λ x H1=>tl σ H1 λ l H2=>th σ H2 λ u H3=>q x l u H3 Q)->te σ H R):=⟨slH⟩
instance UZ {QO:Option Int->Hp->Prop} : dc (Jv te σ H QO) (∀ R,Is R (λ x H1 => ∃ i,x = .int i/\QO (some i) H1)->te σ H R):=⟨Sz⟩
instance Wu  : dc (Pq t σ H Q) (∀ R,Is R (λ xs H1=>xs.length<=sizeLine ∧ ∀ p,H1 p=none->Q (.ref p) (upd H1 p (.tup xs)))->t σ H R):=⟨V2⟩
instance Wv  : dc (Pr t σ H Q) (∀ R,Is R (λ xs H1=>xs.length<=sizeLine ∧ ∀ p,H1 p=none->Q (.ref p) (upd H1 p (.lst xs)))->t σ H R):=⟨V3⟩
instance U0 {sp:Sp} {iR:List V} {E:XK} : dc (Ca sp iR E t σ H Q) (∀ R,Is R (λ vs H1=>sp (vs++iR) H1 Q E)->t σ H R):=⟨SD⟩
instance aeA {q:List V->Hp->VK->Prop} : dc (R1 q t σ H Q) (∀ R,Is R (λ vs H1=>q vs H1 Q)->t σ H R):=⟨cbH⟩
instance U1 {C:Addr} {m:Str} {sp:Sp} {iR:List V} {E:XK} : dc (zj C m sp iR E ta t σ H Q) (∀ R,Is R (λ x H1 => ∃ a dx fs,x = .ref a/\H1 a=some (.ins C dx fs)/\fs.lookup m=none/\t σ H1 λ vs H2=>sp (x::(vs++iR)) H2 Q E)->ta σ H R):=⟨SE⟩
instance U3 {C:Addr} {sp:Sp} {iR:List V} {E:XK} : dc (zk C sp iR E t σ H Q) (∀ R,Is R (λ vs H1 => ∀ x dx,H1 x=none->H1 dx=none->dx≠x->sp (.ref x::(vs++iR)) (upd (upd H1 dx (.own x)) x (.ins C dx [])) (λ v H2=>v = .aH/\Q (.ref x) H2) E)->t σ H R):=⟨SG⟩
instance Ww {C:Addr} {f:Str} : dc (JL C ta f σ H Q) (∀ R,Is R (λ x H1 => ∃ a dx fs v,x = .ref a/\H1 a=some (.ins C dx fs)/\fs.lookup f=some v/\Q v H1)->ta σ H R):=⟨V4⟩
instance U4 {C:Addr} {f:Str} : dc (JM C ta te f D σ H) (∀ R,Is R (λ y H1=>ta σ H1 λ x H2 => ∃ a dx fs,x = .ref a/\H2 a=some (.ins C dx fs)/\fs.length < 1000/\D.nx σ (upd H2 a (.ins C dx (cK f y fs))))->te σ H R):=⟨SH⟩
instance aeB {K:PySem.W.Frag} {T:String} {q:V->List V->Hp->VK->Prop} : dc (VF K T q ta t σ H Q) (∀ R,Is R (λ x H1=>R9 K T x H1/\t σ H1 λ xs H2=>q x xs H2 Q)->ta σ H R):=⟨bmH⟩
instance U5  : dc (Jp ta tb te D σ H) (∀ R,(∀ v H1,Hid (λ x H2=>Hid (λ y H3 => ∃ a H4,x = .ref a/\mJ H3 a y v H4/\D.nx σ H4) (λ R3=>tb σ H2 R3)) (λ R2=>ta σ H1 R2)->R v H1)->te σ H R):=⟨SJ⟩
instance U6 {to ti:TE} {tt:IZ} {v:V} {QS:St->Hp->Prop} : dc (Pg to ti tt v σ H QS) (∀ R,(∀ o H1,Hid (λ i H2=>tt o i v H2 λ H3=>QS σ H3) (λ R2=>ti σ H1 R2)->R o H1)->to σ H R):=⟨SK⟩
instance U7  : dc (Jo ta tb σ H Q) (∀ R,Is R (λ x H1=>tb σ H1 λ y H2 => ∃ a v,x = .ref a/\fV H2 a y (some v)/\Q v H2)->ta σ H R):=⟨SM⟩
instance Wx  : dc (Px ta tb σ H Q) (∀ R,Is R (λ y H1=>tb σ H1 λ x H2 => ∃ a o,x = .ref a/\fV H2 a y o/\Q (.bl o.isSome) H2)->ta σ H R):=⟨V5⟩
instance U8  : dc (zW ta tb σ H Q) (∀ R,Is R (λ y H1=>tb σ H1 λ x H2 => ∃ a o,x = .ref a/\fV H2 a y o/\Q (.bl (!o.isSome)) H2)->ta σ H R):=⟨SN⟩
instance Wy {v:V} : uQ (tC v σ H Q) (Q v H):=⟨V6⟩
instance Wz  : uQ (B9 σ H QA) (QA [] H):=⟨V7⟩
instance aeC {g:Int->Int->V} {i j:Int} : uQ (LY g (.int i) (.int j) H Q) (Q (g i j) H):=⟨i0H⟩
instance U9 {i:Nat} {v:V} {QS:St->Hp->Prop} : uQ (qX i v σ H QS) (QS (σ.set i (some v)) H):=⟨SR⟩
instance Va  : uQ (F3 D σ H) (D.nx σ H):=⟨SQ⟩
instance aeL {g:Int->V} {i:Int} : uQ (rU g (.int i) H Q) (Q (g i) H):=⟨uH⟩
instance RC {QO:Option Int->Hp->Prop} : uQ (zX σ H QO) (QO none H):=⟨ML⟩
instance aeD {b:Bool} {S:Bool->Prop} : uQ (∃ k,V.bl b = .bl k/\S k) (S b):=⟨blH⟩
instance WA {n:Int} {S:Int->Prop} : uQ (∃ k,V.int n = .int k/\S k) (S n):=⟨V8⟩
instance WB {m n:Int} : uQ (Pp (.int m) (.int n) H Q) (Q (.bl (decide (m=n))) H):=⟨V9⟩
instance WC {m n:Int} : uQ (VB (.int m) (.int n) H Q) (Q (.bl (!decide (m=n))) H):=⟨Wa⟩
instance WE {m n:Str} : uQ (Pp (.str m) (.str n) H Q) (Q (.bl (decide (m=n))) H):=⟨Wb⟩
instance WG {m n:Bool} : uQ (Pp (.bl m) (.bl n) H Q) (Q (.bl (decide (m=n))) H):=⟨Wc⟩
instance WH {A B:Prop} : uQ (if true=true then A else B) (A):=⟨Sg⟩
instance WI {A B:Prop} : uQ (if false=true then A else B) (B):=⟨Sf⟩
instance Vb {A B:Prop} : uQ (if (!true)=true then A else B) (B):=⟨OA⟩
instance Vc {A B:Prop} : uQ (if (!false)=true then A else B) (A):=⟨OB⟩
instance Tt  : uQ (rI mF (λ i j => .int (i ^ j.toNat)) (.int 10) (.int 60) H Q) (Q (.int 1000000000000000000000000000000000000000000000000000000000000) H):=⟨Qg⟩
instance Tu  : uQ (rI mF (λ i j => .int (i ^ j.toNat)) (.int 10) (.int 59) H Q) (Q (.int 100000000000000000000000000000000000000000000000000000000000) H):=⟨Qh⟩
instance Tv  : uQ (rI mF (λ i j => .int (i ^ j.toNat)) (.int 10) (.int 20) H Q) (Q (.int 100000000000000000000) H):=⟨Qi⟩
instance Tw  : uQ (rI mF (λ i j => .int (i ^ j.toNat)) (.int 10) (.int 40) H Q) (Q (.int 10000000000000000000000000000000000000000) H):=⟨Qp⟩
end
end L2
namespace L2
open PySem PySem.Spec PyProof.Rows PySem.W
theorem KT.keys {H:Hp} {kvs:List (List Key×V)} {xs:List (List Key×Addr×Value)} (r:KT H kvs xs):kvs.map (·.1)=xs.map (·.1):=by
 induction r with
 | nil=>rfl
 | cons h t ih=>rw [List.map_cons,List.map_cons,ih,h.1]
theorem KT.erase {H:Hp} {kvs:List (List Key×V)} {xs:List (List Key×Addr×Value)} (r:KT H kvs xs) : ∀ {j:Nat} {k:List Key} {p:Addr×Value},(xs.map (·.1)).Nodup->xs[j]? = some (k,p)->KT H (bz kvs k) (xs.eraseIdx j):=by
 induction r with
 | nil=>intro j k p _ hj;exact nomatch hj
 | @cons a q ps qs h t ih =>
   intro j k p nd hj
   rw [List.map_cons,List.nodup_cons] at nd
   cases j with
   | zero =>
     have e:q=(k,p):=by simpa using hj
     have e1:a.1=k:=by rw [h.1,e]
     rw [lz e1,Cj (by rw [KT.keys t,<-e1,h.1];exact nd.1)]
     exact t
   | succ j =>
     have hj':qs[j]? = some (k,p):=by simpa using hj
     have e1 : ¬ a.1=k:=λ z=>nd.1 (by rw [<-h.1,z];exact List.mem_map.mpr ⟨_,List.mem_of_getElem? hj',rfl⟩)
     rw [iS e1]
     exact .cons h (ih nd.2 hj')
theorem zA {α β : Type} (f : α->β) : ∀ (l:List α) (j:Nat),(l.map f).eraseIdx j=(l.eraseIdx j).map f
 | [],_=>rfl
 | _::_,0=>rfl
 | x::l,j+1=>by rw [List.map_cons,List.eraseIdx_cons_succ,List.eraseIdx_cons_succ,List.map_cons,zA f l j]
theorem J4 {xs:List (List Key×Addr×Value)} {k:List Key} {p:Addr×Value} (nd:(xs.map (·.1)).Nodup) (h:(k,p)∈xs):atKey xs k=some p:=by
 induction xs with
 | nil=>exact nomatch h
 | cons x xs ih =>
   rw [List.map_cons,List.nodup_cons] at nd
   rcases List.mem_cons.mp h with e | h
   ·subst e;simp [atKey,List.find?_cons]
   ·have e : ¬ x.1=k:=λ z=>nd.1 (by rw [z];exact List.mem_map.mpr ⟨_,h,rfl⟩)
    have b:atKey (x::xs) k=atKey xs k:=by simp [atKey,List.find?_cons,e]
    rw [b];exact ih nd.2 h
section
variable {X:Cx} {pins:List (Addr×Obj)} {σ : St} {H:Hp} {s:Shared} {a b:Addr} {kvs:List (List Key×V)} {k:List Key} {A:Around} {E:Value->Shared->Prop}
theorem Qt {v:V} {Q:Value->Shared->Prop} (hu:A.units+1 < cLine) (I:Inv X pins σ H s) (e:H a=some (.dT kvs)) (eb:H b=some (.tup (k.map kV))) (l:bA kvs k=some v)
  (h : ∀ w' s',Inv X pins σ (upd H a (.dT (bz kvs k))) s'->RelV v w'->Q w' s'):wpAny (model X.prog X.w) A (call (.builtin "dict.pop") [.ref a,.ref b]) Q E s:=by
 obtain ⟨z,hd,xs,rel,dd⟩:=Jm I.hok e
 obtain ⟨w',hw,rw'⟩:=iO.some_of (v:=v) (o:=(atKey xs k).map (·.2)) (by rw [<-l];exact rel.val k)
 obtain ⟨p,hp,hp2⟩:=Option.map_eq_some_iff.mp hw
 have ty:=dd.typeIs
 have hz:xs.length<=sizeLine:=by rw [<-Paired.length rel];exact z
 obtain ⟨o,es,ep,ho,hc,hdat,hes,his,hnd⟩:=id dd
 have hsz:es.size=xs.length:=by rw [<-Array.length_toList,hes,List.length_map]
 have room:=tupleKind_room_in1 (knd:=bC X.prog X.w) hu
 have key:=pQ I.hok eb
 refine wpAny_call_entry PySem.F.slot_dict_pop ty PySem.F.entry_dict_pop ?_ (PySem.F.args_dict_pop_2 _ _)
 unfold Builtin.«dict.pop»
 refine wpAny_bind ?_
 unfold Builtin.Dict.keyAndDefault
 refine wpAny_bind (wpAny_notOrdered_dict ty ?_)
 refine wpAny_bind (wpAny_pure ?_)
 refine wpAny_bind (wpAny_pure ?_)
 refine wpAny_bind (wpAny_pure ?_)
 refine wpAny_pure ?_
 dsimp only
 rw [if_neg (show ¬ ((keyPart (Value.ref b)).isSome=true) from Bool.false_ne_true)]
 refine wpAny_bind (wpAny_dictEntries ho hdat ?_)
 refine wpAny_bind (wpAny_pure ?_)
 have hne:es.isEmpty=false:=by
  obtain ⟨x,hx⟩ : ∃ x,x∈xs:=by
   unfold atKey at hp
   obtain ⟨y,hy,_⟩:=Option.map_eq_some_iff.mp hp
   exact ⟨y,List.mem_of_find?_eq_some hy⟩
  have:0 < xs.length:=List.length_pos_of_mem hx
  exact decide_eq_false (by omega)
 rw [if_neg (by rw [hne];exact Bool.false_ne_true)]
 refine wpAny_bind ?_
 unfold Builtin.Dict.takeOut
 refine wpAny_holding (wpAny_bind ((tupleKind (bC X.prog X.w)).pyHash room key (wpAny_bind (wpAny_dictFind_heap room key ho hdat hes his hnd (λ hno => ?_) (λ j p' hj => ?_)))))
 ·exfalso
  unfold atKey at hp
  obtain ⟨y,hy,e2⟩:=Option.map_eq_some_iff.mp hp
  obtain ⟨j,hj⟩:=List.getElem?_of_mem (List.mem_of_find?_eq_some hy)
  have hk:y.1=k:=by have:=List.find?_some hy;simpa using this
  exact hno j y.2 (by rw [hj,<-hk])
 ·have hpp:p' = p:=Option.some.inj ((J4 hnd (List.mem_of_getElem? hj)).symm.trans hp)
  subst hpp
  have UR:es[j]? = some (entryOfKey (tupleKind (bC X.prog X.w)) (k,p')):=by
   rw [<-Array.getElem?_toList,hes,List.getElem?_map,hj];rfl
  refine wpAny_bind (wpAny_dictEntries ho hdat ?_)
  rw [UR]
  dsimp only
  refine wpAny_bind (wpAny_updateDictKeys ho hdat ?_ (by omega) (by unfold Array.eraseIdxIfInBounds;split <;> simp <;> omega))
  refine wpAny_pure ?_
  rw [if_neg (show ¬ ((some (entryOfKey (tupleKind (bC X.prog X.w)) (k,p')):Option DictEntry).isNone=true) from Bool.false_ne_true)]
  dsimp only
  refine wpAny_bind (wpAny_letGo (wpAny_pure ⟨_,rfl,?_⟩))
  show Q p'.2 _
  rw [hp2]
  refine h w' _ ?_ rw'
  have hq:=Heap.get?_update_self (Obj.mapDictKeys λ x=>x.eraseIdxIfInBounds j) ho (Obj.isFreed_of_dict (Obj.data_mapDictKeys hdat _))
  refine nV I (by rw [e];exact True.intro) (Heap.SameBut.update ..) ⟨_,hq⟩ ⟨Nat.le_trans (nU kvs k) z,hd,xs.eraseIdx j,(rel.erase hnd hj).keeps λ c ys ec => ?_,_,_,_,hq,hc.mapDictKeys _,Obj.data_mapDictKeys hdat _,?_,?_⟩
  ·rw [bN (Od ec e (λ z=>nomatch z))]
   exact ec
  ·rw [Array.toList_eraseIdxIfInBounds,hes,zA]
  ·exact List.Nodup.sublist ((List.eraseIdx_sublist xs j).map _) hnd
end
def Ay (td ty:TE):TE:=fun σ H Q=>td σ H λ x H1 => ∃ a,x = .ref a/\Jt H1 a/\ty σ H1 λ y H2 => ∃ kvs k b v,H2 a=some (.dT kvs)/\y = .ref b/\H2 b=some (.tup (k.map kV))/\bA kvs k=some v/\Q v (upd H2 a (.dT (bz kvs k)))
section
variable {X:Cx} {o e f:Expr} {apos cpos:Pos} {td ty tx:TE}
theorem J5 (hu:X.A.units+1 < cLine) (ho:PE X o td) (he:PE X e ty) (m:M1 X o "pop" apos e cpos):PE X (.Call (.Attribute o "pop" apos) [e] [] cpos) (Ay td ty):=by
 intro pins s σ H Q I h
 refine wpAny_Call_method m.base m.few m.line PySem.F.plainAttrs_dict PySem.F.slot_dict_pop PySem.F.type_dict_pop (b8 (ho pins s σ H _ I h) λ u s1 ⟨x,H1,I1,rx,a,ex,d,q1⟩ => ?_)
 subst ex
 obtain rfl:u=Value.ref a:=rx
 obtain ⟨t1,t2,_⟩:=Ju I1 d
 refine ⟨t1,t2,?_⟩
 rw [m.trees]
 refine Calls.callWith_builtin rfl (Calls.evalArgs_plain (Calls.spliced_cons (b8 (he pins s1 σ H1 _ I1 q1) λ iv s2 ⟨y,H2,I2,ry,kvs,k,b,v,ea,ey,eb,l,q2⟩=>Calls.spliced_nil ?_)))
 subst ey
 obtain rfl:iv=Value.ref b:=ry
 exact Qt hu I2 ea eb l λ w' s3 I3 rw'=>⟨v,_,I3,rw',q2⟩
end
section
variable {σ : St} {H:Hp} {Q:VK}
theorem Qu {td ty:TE} (h : ∀ R,(∀ x H1,Hid (λ y H2 => ∃ a kvs k b v,x = .ref a/\H2 a=some (.dT kvs)/\y = .ref b/\H2 b=some (.tup (k.map kV))/\bA kvs k=some v/\Q v (upd H2 a (.dT (bz kvs k)))) (λ R2=>(∃ a,x = .ref a/\Jt H1 a)/\ty σ H1 R2)->R x H1)->td σ H R):Ay td ty σ H Q:=by
 unfold Ay
 refine h (λ x H1 => ∃ a,x = .ref a/\Jt H1 a/\ty σ H1 λ y H2 => ∃ kvs k b v,H2 a=some (.dT kvs)/\y = .ref b/\H2 b=some (.tup (k.map kV))/\bA kvs k=some v/\Q v (upd H2 a (.dT (bz kvs k)))) λ x H1 z => ?_
 obtain ⟨a,e,hd⟩:=(z (λ _ _=>True) λ _ _ _=>True.intro).1
 subst e
 refine ⟨a,rfl,hd,(z _ λ y H2 q => ?_).2⟩
 obtain ⟨b,kvs,k,c,v,e,q⟩:=q
 cases e
 exact ⟨kvs,k,c,v,q⟩
theorem MU {a:Addr} {kvs:List (List Key×V)} (h:H a=some (.dT kvs)) : ∃ b,V.ref a = .ref b/\Jt H b:=⟨a,rfl,.inr ⟨kvs,.inl h⟩⟩
theorem Qv {a b:Addr} {kvs:List (List Key×V)} {k:List Key} {v:V} (h1:H a=some (.dT kvs)) (hb:H b=some (.tup (k.map kV))) (h2:bA kvs k=some v) (h:Q v (upd H a (.dT (bz kvs k)))) : ∃ c kvs k b' v,V.ref a = .ref c/\H c=some (.dT kvs)/\V.ref b = .ref b'/\H b' = some (.tup (k.map kV))/\bA kvs k=some v/\Q v (upd H c (.dT (bz kvs k))):=⟨a,kvs,k,b,v,rfl,h1,rfl,hb,h2,h⟩
instance Tz {td ty:TE} : dc (Ay td ty σ H Q) (∀ R,(∀ x H1,Hid (λ y H2 => ∃ a kvs k b v,x = .ref a/\H2 a=some (.dT kvs)/\y = .ref b/\H2 b=some (.tup (k.map kV))/\bA kvs k=some v/\Q v (upd H2 a (.dT (bz kvs k)))) (λ R2=>(∃ a,x = .ref a/\Jt H1 a)/\ty σ H1 R2)->R x H1)->td σ H R):=⟨Qu⟩
end
end L2
set_option maxHeartbeats 4000000
namespace My
open PySem PySem.Spec PyProof.Rows L2
def top (i : Nat) : Stmt := PySem.Challenge.pw_paneworks_k44_as_many_as_there_is_room.main.body.getD i (.Pass ⟨0, 0, 0, 0⟩)
abbrev d7:Stmt:=inClass (top 8) 0
theorem n8:aA ["self","many"] ["self","many"] (af d7):=by walk_at "sc"
abbrev uR:Stmt:=inClass (top 8) 1
theorem IL:aA ["self"] ["self"] (af uR):=by walk_at "sc"
abbrev Az:Stmt:=inClass (top 8) 2
theorem L3:aA ["self","frame"] ["self","frame"] (af Az):=by walk_at "sc"
abbrev dz:Stmt:=inClass (top 8) 3
theorem lW:aA ["self","frame"] ["self","frame"] (af dz):=by walk_at "sc"
abbrev cR:Stmt:=inClass (top 8) 5
theorem kh:aA ["self","may","many","step","frame"] ["self","may"] (af cR):=by walk_at "sc"
abbrev dB:Stmt:=inClass (top 10) 0
theorem lX:aA ["self"] ["self"] (af dB):=by walk_at "sc"
abbrev dD:Stmt:=inClass (top 10) 1
theorem lY:aA ["self","name","rows"] ["self","name","rows"] (af dD):=by walk_at "sc"
abbrev bQ:Stmt:=inClass (top 10) 2
theorem iV:aA ["self","name"] ["self","name"] (af bQ):=by walk_at "sc"
abbrev ck:Stmt:=inClass (top 10) 3
theorem jB:aA ["self","name","page"] ["self","name","page"] (af ck):=by walk_at "sc"
abbrev bE:Stmt:=inClass (top 10) 4
theorem gM:aA ["self","name","page","row"] ["self","name","page","row"] (af bE):=by walk_at "sc"
abbrev bK:Stmt:=inClass (top 10) 7
theorem ia:aA ["self","name"] ["self","name"] (af bK):=by walk_at "sc"
abbrev bL:Stmt:=inClass (top 10) 8
theorem ic:aA ["self","name","page","size"] ["self","name","page"] (af bL):=by walk_at "sc"
abbrev dF:Stmt:=top 12
theorem xq:aA ["row","cell","numbers"] ["row","cell","numbers"] (af dF):=by walk_at "sc"
abbrev cV:Stmt:=inClass (top 14) 0
theorem ki:aA ["self","many"] ["self","many"] (af cV):=by walk_at "sc"
abbrev cW:Stmt:=inClass (top 14) 1
theorem kj:aA ["self","frame","thing","row"] ["self","frame","thing","row"] (af cW):=by walk_at "sc"
abbrev cu:Stmt:=inClass (top 14) 2
theorem jC:aA ["self","frame"] ["self","frame"] (af cu):=by walk_at "sc"
abbrev bF:Stmt:=inClass (top 14) 3
theorem gO:aA ["self","frame"] ["self","frame"] (af bF):=by walk_at "sc"
abbrev bR:Stmt:=inClass (top 14) 4
theorem iW:aA ["self","frame"] ["self","frame"] (af bR):=by walk_at "sc"
abbrev bS:Stmt:=inClass (top 14) 5
theorem iX:aA ["self","frame","cell","numbers"] ["self","frame","cell","numbers"] (af bS):=by walk_at "sc"
abbrev bx:Stmt:=inClass (top 14) 6
theorem f9:aA ["self","frame"] ["self","frame"] (af bx):=by walk_at "sc"
abbrev bg:Stmt:=inClass (top 14) 7
theorem fS:aA ["self"] ["self"] (af bg):=by walk_at "sc"
abbrev cy:Stmt:=inClass (top 14) 8
theorem jD:aA ["self","thing"] ["self","thing"] (af cy):=by walk_at "sc"
abbrev bT:Stmt:=inClass (top 14) 9
theorem iY:aA ["self"] ["self"] (af bT):=by walk_at "sc"
abbrev dG:Stmt:=inClass (top 16) 0
theorem lZ:aA ["self","many"] ["self","many"] (af dG):=by walk_at "sc"
abbrev cz:Stmt:=inClass (top 16) 1
theorem jE:aA ["self","sheet","row","place"] ["self","sheet","row"] (af cz):=by walk_at "sc"
abbrev bM:Stmt:=inClass (top 16) 2
theorem ig:aA ["self","sheet"] ["self","sheet"] (af bM):=by walk_at "sc"
abbrev aZ:Stmt:=inClass (top 16) 3
theorem eY:aA ["self","sheet"] ["self","sheet"] (af aZ):=by walk_at "sc"
abbrev CA:Stmt:=inClass (top 16) 4
theorem MV:aA ["self","sheet"] ["self","sheet"] (af CA):=by walk_at "sc"
abbrev bU:Stmt:=inClass (top 16) 5
theorem iZ:aA ["self"] ["self"] (af bU):=by walk_at "sc"
abbrev cE:Stmt:=inClass (top 16) 6
theorem jF:aA ["self"] ["self"] (af cE):=by walk_at "sc"
abbrev dH:Stmt:=inClass (top 18) 0
theorem l5:aA ["self","many","places"] ["self","many","places"] (af dH):=by walk_at "sc"
abbrev fm:Stmt:=top 19
theorem rB:aA ["thing"] ["thing"] (af fm):=by walk_at "sc"
abbrev dI:Stmt:=top 20
theorem l6:aA ["store","frame"] ["store","frame"] (af dI):=by walk_at "sc"
abbrev gB:Stmt:=top 21
theorem uS:aA ["store","frame","thing","row"] ["store","frame"] (af gB):=by walk_at "sc"
abbrev dJ:Stmt:=top 22
theorem l7:aA ["store","free","full","frame"] ["store"] (af dJ):=by walk_at "sc"
abbrev gC:Stmt:=top 23
theorem uT:aA ["store","thing"] ["store","thing"] (af gC):=by walk_at "sc"
abbrev lC:Stmt:=top 24
theorem CB:aA ["store","thing","frame","row"] ["store","thing"] (af lC):=by walk_at "sc"
abbrev gD:Stmt:=top 25
theorem uU:aA ["store","thing","frame"] ["store","thing"] (af gD):=by walk_at "sc"
abbrev gE:Stmt:=top 27
theorem uV:aA ["store","most"] ["store"] (af gE):=by walk_at "sc"
abbrev d8:Stmt:=top 28
theorem oh:aA ["store","row","frame","sheet"] ["store","row"] (af d8):=by walk_at "sc"
abbrev i0:Stmt:=top 29
theorem zB:aA ["store","sheet","left"] ["store","sheet"] (af i0):=by walk_at "sc"
abbrev d9:Stmt:=top 30
theorem oi:aA ["store","sheet","frame"] ["store","sheet"] (af d9):=by walk_at "sc"
abbrev ef:Stmt:=top 32
theorem AA:aA ["_law_script","_law_k"] ["_law_script","_law_k"] (af ef):=by walk_at "sc"
abbrev gF:Stmt:=top 33
theorem uW:aA ["_law_found"] ["_law_found"] (af gF):=by walk_at "sc"
abbrev eg:Stmt:=top 34
theorem mR:aA ["_law_found","_law_due","_law_k"] ["_law_found","_law_due"] (af eg):=by walk_at "sc"
abbrev lD:Stmt:=top 35
theorem CC:aA ["_law_cell","_law_k","_law_most","_law_big","_law_way"] ["_law_cell","_law_k"] (af lD):=by walk_at "sc"
abbrev lE:Stmt:=top 36
theorem CD:aA ["_law_cell"] ["_law_cell"] (af lE):=by walk_at "sc"
abbrev i6:Stmt:=top 37
theorem zC:aA ["_law_cell","_law_turn","_law_letters","_law_size","_law_spot","_law_name_here","_law_k","_law_sign"] ["_law_cell","_law_turn"] (af i6):=by walk_at "sc"
abbrev ek:Stmt:=top 38
theorem oj:aA ["_law_row_here","_law_cell","_law_nums","_law_due","_law_k"] ["_law_row_here","_law_cell","_law_nums"] (af ek):=by walk_at "sc"
abbrev gG:Stmt:=top 39
theorem uX:aA ["_law_cell"] ["_law_cell"] (af gG):=by walk_at "sc"
abbrev eo:Stmt:=top 40
theorem om:aA ["_law_store","_law_row_here","_law_refused_here"] ["_law_store","_law_row_here"] (af eo):=by walk_at "sc"
abbrev dM:Stmt:=top 41
theorem l8:aA ["_law_store","_law_thing","_law_found"] ["_law_store","_law_thing"] (af dM):=by walk_at "sc"
abbrev i7:Stmt:=top 42
theorem zD:aA ["_law_store","_law_rows","_law_sheet","_law_row_here","_law_found"] ["_law_store","_law_rows","_law_sheet","_law_row_here"] (af i7):=by walk_at "sc"
abbrev eu:Stmt:=top 43
theorem oq:aA ["_law_store","_law_rows","_law_thing","_law_cell","_law_frame","_law_at","_law_nums"] ["_law_store","_law_rows","_law_thing","_law_cell"] (af eu):=by walk_at "sc"
abbrev fq:Stmt:=top 44
theorem rC:aA ["_law_store","_law_rows","_law_thing","_law_frame"] ["_law_store","_law_rows"] (af fq):=by walk_at "sc"
abbrev gH:Stmt:=top 45
theorem uY:aA ["_law_store","_law_rows","_law_script","_law_name_here","_law_made_here","_law_page"] ["_law_store","_law_rows","_law_script"] (af gH):=by walk_at "sc"
abbrev fu:Stmt:=top 46
theorem rE:aA ["_law_store","_law_rows","_law_room","_law_cell","_law_k"] ["_law_store","_law_rows","_law_room","_law_cell"] (af fu):=by walk_at "sc"
abbrev uZ:Stmt:=top 47
theorem Qw:aA ["_law_script","_law_many","_law_places","_law_store","_law_rows","_law_room","_law_made_here","_law_cell","_law_things","_law_thing"] ["_law_script"] (af uZ):=by walk_at "sc"
structure Txt (K:PySem.W.Frag) (mg:Str->Option Value) (cU cA cB cC cT cF cD cS cI:Addr):Prop where
 Full:Exc K mg "Full" cU
 Qx:Exc K mg "NoFile" cA
 Qy:Exc K mg "NoPage" cB
 Taken:Exc K mg "Taken" cC
 aeE:PySem.W.Sl K cU
 J6:PySem.W.exmOne K (.ref cU) (.ref cU)=some true
 aW:r8 K mg "Store" cT
 bu:cg K cT "frames"
 Ei:cg K cT "dial"
 jn:cg K cT "shelf"
 ou:cg K cT "files"
 gI:cg K cT "holders"
 iL:cg K cT "sheets_made"
 MW:mL K cT "Store.__init__" dH
 Frames:r8 K mg "Frames" cF
 mT:cg K cF "held"
 pU:cg K cF "rows"
 ko:cg K cF "soiled"
 J7:mL K cF "Frames.__init__" cV
 xu:bH K cF "fill" "Frames.fill" cW
 u0:bH K cF "empty" "Frames.empty" cu
 ow:bH K cF "thing_in" "Frames.thing_in" bF
 sj:bH K cF "row_in" "Frames.row_in" bR
 sr:bH K cF "put_in" "Frames.put_in" bS
 mU:bH K cF "is_soiled" "Frames.is_soiled" bx
 lH:bH K cF "least_free" "Frames.least_free" bg
 u5:bH K cF "where" "Frames.where" cy
 su:bH K cF "things" "Frames.things" bT
 u6:r8 K mg "Dial" cD
 kr:cg K cD "stands_at"
 ku:cg K cD "marked"
 Qz:mL K cD "Dial.__init__" d7
 AB:bH K cD "clear" "Dial.clear" dz
 xw:bH K cD "choose" "Dial.choose" cR
 eL:r8 K mg "Shelf" cS
 gP:cg K cS "placed"
 eN:cg K cS "row_by_sheet"
 MX:mL K cS "Shelf.__init__" dG
 u7:bH K cS "put_on" "Shelf.put_on" cz
 pV:bH K cS "take_off" "Shelf.take_off" bM
 kD:bH K cS "row_of_sheet" "Shelf.row_of_sheet" aZ
 sy:bH K cS "is_full" "Shelf.is_full" bU
 u9:bH K cS "sheets" "Shelf.sheets" cE
 gb:r8 K mg "Files" cI
 bP:cg K cI "rows_by_name"
 MY:mL K cI "Files.__init__" dB
 AD:bH K cI "make" "Files.make" dD
 sA:bH K cI "size_of" "Files.size_of" bQ
 vc:bH K cI "row_at" "Files.row_at" ck
 oz:bH K cI "store_row" "Files.store_row" bE
 pW:bH K cI "ask_name" "Files.ask_name" bK
 pX:bH K cI "ask_page" "Files.ask_page" bL
 AE:Def K mg "with_cells" dF
 Ej:Def K mg "is_sheet" fm
 AF:Def K mg "free_frame" dI
 Ht:Def K mg "put_out" gB
 AG:Def K mg "have_frame" dJ
 Hu:Def K mg "fetched" gC
 MZ:Def K mg "bring" lC
 Hv:Def K mg "room_of" gE
 CF:Def K mg "new_sheet" d8
 Hw:Def K mg "row_now" gD
 J8:Def K mg "let_go" i0
 CG:Def K mg "end_sheet" d9
 CH:Def K mg "_law_cell_at" ef
 Hx:Def K mg "_law_whole" gF
 Hy:Def K mg "_law_alike" eg
 M4:Def K mg "_law_num" lD
 M5:Def K mg "_law_row" lE
 J9:Def K mg "_law_name" i6
 CI:Def K mg "_law_laid_in" ek
 Hz:Def K mg "_law_sizes" gG
 CJ:Def K mg "_law_refused" eo
 AH:Def K mg "_law_frame_of" dM
 Ka:Def K mg "_law_made" i7
 CK:Def K mg "_law_written" eu
 Ek:Def K mg "_law_is_all" fq
 HA:Def K mg "_law_begun" gH
 El:Def K mg "_law_filled" fu
 TF:Def K mg "law" uZ
theorem D7 {K:PySem.W.Frag} {h:Heap} {mg:Str->Option Value} {cU cA cB cC cT cF cD cS cI:Addr} {iu:Addr} {xx:Value} {xy xA:Option Addr} {vd:Array (Option Value)} {xB ve xC kE xD:Value} {gp:Addr} {vf:Value} {vg vh:Option Addr} {sC:Array (Option Value)} {vm sD vn jG vo:Value} {gq:Addr} {vp:Value} {vq vt:Option Addr} {sE:Array (Option Value)} {vv sF vz jH vA:Value} {fH:Addr} {sG:Value} {sH sI:Option Addr} {pY:Array (Option Value)} {sJ pZ sL i8 sM:Value} {dN:Addr} {mV:Value} {mW mX:Option Addr} {lI:Array (Option Value)} {mY lJ mZ gc m5:Value} {eO:Addr} {p5:Value} {p6 p7:Option Addr} {oA:Array (Option Value)} {p8 oB p9 iw qa:Value} {eS:Addr} {qb:Value} {qc qd:Option Addr} {oE:Array (Option Value)} {qe oF qf iy qg:Value} {cZ:Addr} {lK:Value} {lM lN:Option Addr} {kF:Array (Option Value)} {lO kG lP fT lQ:Value} {cN:Addr} {kH:Value} {kI kJ:Option Addr} {jO:Array (Option Value)} {kK jP kL eZ kM:Value} {fJ:Addr} {sN:Value} {sO sP:Option Addr} {qh:Array (Option Value)} {sQ qi sR i9 sS:Value} {eT:Addr} {qj:Value} {qk ql:Option Addr} {oG:Array (Option Value)} {qm oH qp iz qq:Value} {jo:Addr} {AI:Value} {AJ AK:Option Addr} {xE:Array (Option Value)} {AL xF AM l9 AN:Value} {iA:Addr} {xG:Value} {xH xJ:Option Addr} {vB:Array (Option Value)} {xK vC xM kN xN:Value} {gu:Addr} {vD:Value} {vE vF:Option Addr} {sU:Array (Option Value)} {vG sV vH jI vI:Value} {iB:Addr} {xO:Value} {xP xQ:Option Addr} {vJ:Array (Option Value)} {xR vK xS kO xT:Value} {fK:Addr} {sW:Value} {sX sY:Option Addr} {qu:Array (Option Value)} {sZ qv tu ja tw:Value} {dQ:Addr} {oJ:Value} {oK oM:Option Addr} {m7:Array (Option Value)} {oN m8 oO gQ oQ:Value} {b7:Addr} {jQ:Value} {jR jS:Option Addr} {jq:Array (Option Value)} {jT jr jU eU jV:Value} {eV:Addr} {qw:Value} {qx qy:Option Addr} {oR:Array (Option Value)} {qz oS qA iC qB:Value} {fL:Addr} {tD:Value} {tE tF:Option Addr} {qC:Array (Option Value)} {tG qD tH jb tK:Value} {iD:Addr} {xU:Value} {xV xW:Option Addr} {vL:Array (Option Value)} {xX vM xY kP xZ:Value} {iE:Addr} {x8:Value} {x9 ya:Option Addr} {vN:Array (Option Value)} {yb vO yc kQ yd:Value} {eW:Addr} {qE:Value} {qF qG:Option Addr} {oU:Array (Option Value)} {qH oV qI iF qJ:Value} {fM:Addr} {tL:Value} {tM tN:Option Addr} {qK:Array (Option Value)} {tO qL tP jc tQ:Value} {dO:Addr} {m9:Value} {nc ng:Option Addr} {lR:Array (Option Value)} {nh lS ni gg nj:Value} {dR:Addr} {oW:Value} {oX oY:Option Addr} {nk:Array (Option Value)} {oZ nq o4 gR o5:Value} {dS:Addr} {o6:Value} {o7 o8:Option Addr} {nt:Array (Option Value)} {o9 nu pq gS pA:Value} {kR:Addr} {ye:Value} {yf yg:Option Addr} {vP:Array (Option Value)} {yh vQ yi kT yj:Value} {qM:Addr} {CL:Value} {CM CN:Option Addr} {AO:Array (Option Value)} {CO AQ CP pB CQ:Value} {kU:Addr} {yk:Value} {yl ym:Option Addr} {vR:Array (Option Value)} {yo vS yq kW yt:Value} {vU:Addr} {Em:Value} {En Eo:Option Addr} {CS:Array (Option Value)} {Ep CT Er rG Es:Value} {kX:Addr} {yu:Value} {yv yw:Option Addr} {vV:Array (Option Value)} {yx vW yy kY yz:Value} {vX:Addr} {Et:Value} {Eu Ew:Option Addr} {CU:Array (Option Value)} {Ex CV Ey rH Ez:Value} {EA:Addr} {Kc:Value} {Kd Ke:Option Addr} {HB:Array (Option Value)} {Kf HC Kg zE Kh:Value} {vY:Addr} {EB:Value} {EC ED:Option Addr} {CW:Array (Option Value)} {EE CY EF rJ EG:Value} {nv:Addr} {AR:Value} {AS AU:Option Addr} {yC:Array (Option Value)} {AV yD AW mh AX:Value} {vZ:Addr} {EH:Value} {EI EJ:Option Addr} {CZ:Array (Option Value)} {EK C0 EL rK EM:Value} {AY:Addr} {HD:Value} {HE HF:Option Addr} {EN:Array (Option Value)} {HG EO HH wc HJ:Value} {ny:Addr} {AZ:Value} {A0 A1:Option Addr} {yE:Array (Option Value)} {A2 yF A3 mj A4:Value} {nA:Addr} {A5:Value} {A6 A7:Option Addr} {yG:Array (Option Value)} {A8 yH A9 mq Ba:Value} {we:Addr} {ER:Value} {ES ET:Option Addr} {C1:Array (Option Value)} {EU C2 EV rL EW:Value} {wg:Addr} {EX:Value} {EY EZ:Option Addr} {C3:Array (Option Value)} {E2 C4 E3 rM E4:Value} {E5:Addr} {Kl:Value} {Km Kn:Option Addr} {HK:Array (Option Value)} {Ko HL Kp zF Kq:Value} {E6:Addr} {Kr:Value} {Ks Ku:Option Addr} {HM:Array (Option Value)} {Kv HN Kw zG Ky:Value} {Bb:Addr} {HP:Value} {HQ HR:Option Addr} {E7:Array (Option Value)} {HS E8 HU wj HV:Value} {nB:Addr} {Bc:Value} {Bd Be:Option Addr} {yI:Array (Option Value)} {Bf yJ Bg mw Bh:Value} {wm:Addr} {E9:Value} {Fb Fc:Option Addr} {C5:Array (Option Value)} {Fd C6 Fe rN Ff:Value} {nC:Addr} {Bj:Value} {Bk Bl:Option Addr} {yK:Array (Option Value)} {Bm yL Bo mz Bp:Value} {kZ:Addr} {yM:Value} {yN yO:Option Addr} {wo:Array (Option Value)} {yP wu yQ k6 yR:Value} {Bq:Addr} {HW:Value} {HX HY:Option Addr} {Fg:Array (Option Value)} {HZ Fi Ia wz Ic:Value} {nD:Addr} {Br:Value} {Bs Bt:Option Addr} {yS:Array (Option Value)} {Bu yT Bv mD Bw:Value} {qN:Addr} {C7:Value} {C8 C9:Option Addr} {Bx:Array (Option Value)} {Dc By Dd pC De:Value} {wA:Addr} {Fj:Value} {Fl Fo:Option Addr} {Df:Array (Option Value)} {Fp Dg Fq rO Ft:Value} {qO:Addr} {Dh:Value} {Di Dj:Option Addr} {BA:Array (Option Value)} {Dk BB Dl pD Dm:Value} {QC:Addr} {QD:Value} {QE QF:Option Addr} {M6:Array (Option Value)} {QG M7 QI Gn QJ:Value} (X:K.In h) (G:h.Ns mainGlobals mg)
  (z1:PySem.W.nsIn K mainGlobals "Full" = some (some (.ref cU)))
  (z2:PySem.W.excIn K cU [.type "ValueError",.type "Exception",.type "BaseException",.type "object"] "ValueError.__new__" = true)
  (z3:PySem.W.nsIn K mainGlobals "NoFile" = some (some (.ref cA)))
  (z4:PySem.W.excIn K cA [.type "ValueError",.type "Exception",.type "BaseException",.type "object"] "ValueError.__new__" = true)
  (z5:PySem.W.nsIn K mainGlobals "NoPage" = some (some (.ref cB)))
  (z6:PySem.W.excIn K cB [.type "ValueError",.type "Exception",.type "BaseException",.type "object"] "ValueError.__new__" = true)
  (z7:PySem.W.nsIn K mainGlobals "Taken" = some (some (.ref cC)))
  (z8:PySem.W.excIn K cC [.type "ValueError",.type "Exception",.type "BaseException",.type "object"] "ValueError.__new__" = true)
  (z9:PySem.W.hasDictIn K cU=true)
  (UA:PySem.W.findIn K (.ref cU) "__getattribute__" = some (some (.builtin "BaseException.__getattribute__")))
  (UB:PySem.W.findIn K (.ref cU) "__getattr__" = some none)
  (UC:PySem.W.findIn K (.ref cU) "__class__" = some (some (.builtin "object.__class__")))
  (UD:PySem.W.specialIn K (.builtin "object.__class__") "__get__" = some (some (.builtin "getset_descriptor.__get__")))
  (UE:PySem.W.takesIn K (.builtin "object.__class__")=some true)
  (UG:PySem.W.mroIn K cU (.type "object")=some true)
  (UH:PySem.W.subIn K (.ref cU) (.type "BaseException")=some true)
  (z17:PySem.W.exmOne K (.ref cU) (.ref cU)=some true)
  (z18:PySem.W.nsIn K mainGlobals "Store" = some (some (.ref cT)))
  (z19:PySem.W.plainGet K cT Str.empty=true)
  (z20:PySem.W.hasDictIn K cT=true)
  (z21:PySem.W.plainOver K cT=true)
  (z22:PySem.W.findIn K (.ref cT) "__setattr__" = some (some (.builtin "object.__setattr__")))
  (z23:PySem.W.findIn K (.ref cT) "frames" = some none)
  (z24:PySem.W.findIn K (.ref cT) "dial" = some none)
  (z25:PySem.W.findIn K (.ref cT) "shelf" = some none)
  (z26:PySem.W.findIn K (.ref cT) "files" = some none)
  (z27:PySem.W.findIn K (.ref cT) "holders" = some none)
  (z28:PySem.W.findIn K (.ref cT) "sheets_made" = some none)
  (z29:PySem.W.makesIn K cT=true)
  (z30:PySem.W.findIn K (.ref cT) "__init__" = some (some (.ref iu)))
  (z31:PySem.W.isFn K (.ref iu)=true)
  (z32:PySem.W.keepIn K (.ref cT)=true)
  (z33:K.lookup iu=some ⟨xx,xy,.func (PySem.W.fnOf "__init__" "Store.__init__" (ay dH) (aq dH) (af dH) .none xB ve xC xA kE xD),vd⟩)
  (z34:PySem.W.codeIn K kE "Store.__init__" = true)
  (z35:PySem.W.keepIn K (.ref iu)=true)
  (z36:PySem.W.nsIn K mainGlobals "Frames" = some (some (.ref cF)))
  (z37:PySem.W.plainGet K cF Str.empty=true)
  (z38:PySem.W.hasDictIn K cF=true)
  (z39:PySem.W.plainOver K cF=true)
  (z40:PySem.W.findIn K (.ref cF) "__setattr__" = some (some (.builtin "object.__setattr__")))
  (z41:PySem.W.findIn K (.ref cF) "held" = some none)
  (z42:PySem.W.findIn K (.ref cF) "rows" = some none)
  (z43:PySem.W.findIn K (.ref cF) "soiled" = some none)
  (z44:PySem.W.makesIn K cF=true)
  (z45:PySem.W.findIn K (.ref cF) "__init__" = some (some (.ref gp)))
  (z46:PySem.W.isFn K (.ref gp)=true)
  (z47:PySem.W.keepIn K (.ref cF)=true)
  (z48:K.lookup gp=some ⟨vf,vg,.func (PySem.W.fnOf "__init__" "Frames.__init__" (ay cV) (aq cV) (af cV) .none vm sD vn vh jG vo),sC⟩)
  (z49:PySem.W.codeIn K jG "Frames.__init__" = true)
  (z50:PySem.W.keepIn K (.ref gp)=true)
  (z51:PySem.W.findIn K (.ref cF) "fill" = some (some (.ref gq)))
  (z52:PySem.W.isFn K (.ref gq)=true)
  (z53:K.lookup gq=some ⟨vp,vq,.func (PySem.W.fnOf "fill" "Frames.fill" (ay cW) (aq cW) (af cW) .none vv sF vz vt jH vA),sE⟩)
  (z54:PySem.W.codeIn K jH "Frames.fill" = true)
  (z55:PySem.W.keepIn K (.ref gq)=true)
  (z56:PySem.W.findIn K (.ref cF) "empty" = some (some (.ref fH)))
  (z57:PySem.W.isFn K (.ref fH)=true)
  (z58:K.lookup fH=some ⟨sG,sH,.func (PySem.W.fnOf "empty" "Frames.empty" (ay cu) (aq cu) (af cu) .none sJ pZ sL sI i8 sM),pY⟩)
  (z59:PySem.W.codeIn K i8 "Frames.empty" = true)
  (z60:PySem.W.keepIn K (.ref fH)=true)
  (z61:PySem.W.findIn K (.ref cF) "thing_in" = some (some (.ref dN)))
  (z62:PySem.W.isFn K (.ref dN)=true)
  (z63:K.lookup dN=some ⟨mV,mW,.func (PySem.W.fnOf "thing_in" "Frames.thing_in" (ay bF) (aq bF) (af bF) .none mY lJ mZ mX gc m5),lI⟩)
  (z64:PySem.W.codeIn K gc "Frames.thing_in" = true)
  (z65:PySem.W.keepIn K (.ref dN)=true)
  (z66:PySem.W.findIn K (.ref cF) "row_in" = some (some (.ref eO)))
  (z67:PySem.W.isFn K (.ref eO)=true)
  (z68:K.lookup eO=some ⟨p5,p6,.func (PySem.W.fnOf "row_in" "Frames.row_in" (ay bR) (aq bR) (af bR) .none p8 oB p9 p7 iw qa),oA⟩)
  (z69:PySem.W.codeIn K iw "Frames.row_in" = true)
  (z70:PySem.W.keepIn K (.ref eO)=true)
  (z71:PySem.W.findIn K (.ref cF) "put_in" = some (some (.ref eS)))
  (z72:PySem.W.isFn K (.ref eS)=true)
  (z73:K.lookup eS=some ⟨qb,qc,.func (PySem.W.fnOf "put_in" "Frames.put_in" (ay bS) (aq bS) (af bS) .none qe oF qf qd iy qg),oE⟩)
  (z74:PySem.W.codeIn K iy "Frames.put_in" = true)
  (z75:PySem.W.keepIn K (.ref eS)=true)
  (z76:PySem.W.findIn K (.ref cF) "is_soiled" = some (some (.ref cZ)))
  (z77:PySem.W.isFn K (.ref cZ)=true)
  (z78:K.lookup cZ=some ⟨lK,lM,.func (PySem.W.fnOf "is_soiled" "Frames.is_soiled" (ay bx) (aq bx) (af bx) .none lO kG lP lN fT lQ),kF⟩)
  (z79:PySem.W.codeIn K fT "Frames.is_soiled" = true)
  (z80:PySem.W.keepIn K (.ref cZ)=true)
  (z81:PySem.W.findIn K (.ref cF) "least_free" = some (some (.ref cN)))
  (z82:PySem.W.isFn K (.ref cN)=true)
  (z83:K.lookup cN=some ⟨kH,kI,.func (PySem.W.fnOf "least_free" "Frames.least_free" (ay bg) (aq bg) (af bg) .none kK jP kL kJ eZ kM),jO⟩)
  (z84:PySem.W.codeIn K eZ "Frames.least_free" = true)
  (z85:PySem.W.keepIn K (.ref cN)=true)
  (z86:PySem.W.findIn K (.ref cF) "where" = some (some (.ref fJ)))
  (z87:PySem.W.isFn K (.ref fJ)=true)
  (z88:K.lookup fJ=some ⟨sN,sO,.func (PySem.W.fnOf "where" "Frames.where" (ay cy) (aq cy) (af cy) .none sQ qi sR sP i9 sS),qh⟩)
  (z89:PySem.W.codeIn K i9 "Frames.where" = true)
  (z90:PySem.W.keepIn K (.ref fJ)=true)
  (z91:PySem.W.findIn K (.ref cF) "things" = some (some (.ref eT)))
  (z92:PySem.W.isFn K (.ref eT)=true)
  (z93:K.lookup eT=some ⟨qj,qk,.func (PySem.W.fnOf "things" "Frames.things" (ay bT) (aq bT) (af bT) .none qm oH qp ql iz qq),oG⟩)
  (z94:PySem.W.codeIn K iz "Frames.things" = true)
  (z95:PySem.W.keepIn K (.ref eT)=true)
  (z96:PySem.W.nsIn K mainGlobals "Dial" = some (some (.ref cD)))
  (z97:PySem.W.plainGet K cD Str.empty=true)
  (z98:PySem.W.hasDictIn K cD=true)
  (z99:PySem.W.plainOver K cD=true)
  (WJ:PySem.W.findIn K (.ref cD) "__setattr__" = some (some (.builtin "object.__setattr__")))
  (WK:PySem.W.findIn K (.ref cD) "stands_at" = some none)
  (WL:PySem.W.findIn K (.ref cD) "marked" = some none)
  (WM:PySem.W.makesIn K cD=true)
  (WN:PySem.W.findIn K (.ref cD) "__init__" = some (some (.ref jo)))
  (WO:PySem.W.isFn K (.ref jo)=true)
  (WQ:PySem.W.keepIn K (.ref cD)=true)
  (WR:K.lookup jo=some ⟨AI,AJ,.func (PySem.W.fnOf "__init__" "Dial.__init__" (ay d7) (aq d7) (af d7) .none AL xF AM AK l9 AN),xE⟩)
  (WS:PySem.W.codeIn K l9 "Dial.__init__" = true)
  (WT:PySem.W.keepIn K (.ref jo)=true)
  (WU:PySem.W.findIn K (.ref cD) "clear" = some (some (.ref iA)))
  (WV:PySem.W.isFn K (.ref iA)=true)
  (WW:K.lookup iA=some ⟨xG,xH,.func (PySem.W.fnOf "clear" "Dial.clear" (ay dz) (aq dz) (af dz) .none xK vC xM xJ kN xN),vB⟩)
  (WX:PySem.W.codeIn K kN "Dial.clear" = true)
  (WY:PySem.W.keepIn K (.ref iA)=true)
  (WZ:PySem.W.findIn K (.ref cD) "choose" = some (some (.ref gu)))
  (W0:PySem.W.isFn K (.ref gu)=true)
  (W2:K.lookup gu=some ⟨vD,vE,.func (PySem.W.fnOf "choose" "Dial.choose" (ay cR) (aq cR) (af cR) .none vG sV vH vF jI vI),sU⟩)
  (W3:PySem.W.codeIn K jI "Dial.choose" = true)
  (W4:PySem.W.keepIn K (.ref gu)=true)
  (W5:PySem.W.nsIn K mainGlobals "Shelf" = some (some (.ref cS)))
  (W6:PySem.W.plainGet K cS Str.empty=true)
  (W7:PySem.W.hasDictIn K cS=true)
  (W8:PySem.W.plainOver K cS=true)
  (W9:PySem.W.findIn K (.ref cS) "__setattr__" = some (some (.builtin "object.__setattr__")))
  (Xa:PySem.W.findIn K (.ref cS) "placed" = some none)
  (Xc:PySem.W.findIn K (.ref cS) "row_by_sheet" = some none)
  (Xd:PySem.W.makesIn K cS=true)
  (Xe:PySem.W.findIn K (.ref cS) "__init__" = some (some (.ref iB)))
  (Xf:PySem.W.isFn K (.ref iB)=true)
  (Xg:PySem.W.keepIn K (.ref cS)=true)
  (Xh:K.lookup iB=some ⟨xO,xP,.func (PySem.W.fnOf "__init__" "Shelf.__init__" (ay dG) (aq dG) (af dG) .none xR vK xS xQ kO xT),vJ⟩)
  (Xi:PySem.W.codeIn K kO "Shelf.__init__" = true)
  (Xj:PySem.W.keepIn K (.ref iB)=true)
  (Xk:PySem.W.findIn K (.ref cS) "put_on" = some (some (.ref fK)))
  (Xl:PySem.W.isFn K (.ref fK)=true)
  (Xm:K.lookup fK=some ⟨sW,sX,.func (PySem.W.fnOf "put_on" "Shelf.put_on" (ay cz) (aq cz) (af cz) .none sZ qv tu sY ja tw),qu⟩)
  (Xn:PySem.W.codeIn K ja "Shelf.put_on" = true)
  (Xo:PySem.W.keepIn K (.ref fK)=true)
  (Xp:PySem.W.findIn K (.ref cS) "take_off" = some (some (.ref dQ)))
  (Xq:PySem.W.isFn K (.ref dQ)=true)
  (Xr:K.lookup dQ=some ⟨oJ,oK,.func (PySem.W.fnOf "take_off" "Shelf.take_off" (ay bM) (aq bM) (af bM) .none oN m8 oO oM gQ oQ),m7⟩)
  (Xs:PySem.W.codeIn K gQ "Shelf.take_off" = true)
  (Xu:PySem.W.keepIn K (.ref dQ)=true)
  (Xv:PySem.W.findIn K (.ref cS) "row_of_sheet" = some (some (.ref b7)))
  (Xw:PySem.W.isFn K (.ref b7)=true)
  (Xx:K.lookup b7=some ⟨jQ,jR,.func (PySem.W.fnOf "row_of_sheet" "Shelf.row_of_sheet" (ay aZ) (aq aZ) (af aZ) .none jT jr jU jS eU jV),jq⟩)
  (Xy:PySem.W.codeIn K eU "Shelf.row_of_sheet" = true)
  (Xz:PySem.W.keepIn K (.ref b7)=true)
  (XA:PySem.W.findIn K (.ref cS) "is_full" = some (some (.ref eV)))
  (XD:PySem.W.isFn K (.ref eV)=true)
  (XE:K.lookup eV=some ⟨qw,qx,.func (PySem.W.fnOf "is_full" "Shelf.is_full" (ay bU) (aq bU) (af bU) .none qz oS qA qy iC qB),oR⟩)
  (XF:PySem.W.codeIn K iC "Shelf.is_full" = true)
  (XG:PySem.W.keepIn K (.ref eV)=true)
  (XH:PySem.W.findIn K (.ref cS) "sheets" = some (some (.ref fL)))
  (XI:PySem.W.isFn K (.ref fL)=true)
  (XJ:K.lookup fL=some ⟨tD,tE,.func (PySem.W.fnOf "sheets" "Shelf.sheets" (ay cE) (aq cE) (af cE) .none tG qD tH tF jb tK),qC⟩)
  (XM:PySem.W.codeIn K jb "Shelf.sheets" = true)
  (XN:PySem.W.keepIn K (.ref fL)=true)
  (XO:PySem.W.nsIn K mainGlobals "Files" = some (some (.ref cI)))
  (XQ:PySem.W.plainGet K cI Str.empty=true)
  (XS:PySem.W.hasDictIn K cI=true)
  (XT:PySem.W.plainOver K cI=true)
  (XU:PySem.W.findIn K (.ref cI) "__setattr__" = some (some (.builtin "object.__setattr__")))
  (XW:PySem.W.findIn K (.ref cI) "rows_by_name" = some none)
  (XX:PySem.W.makesIn K cI=true)
  (XY:PySem.W.findIn K (.ref cI) "__init__" = some (some (.ref iD)))
  (XZ:PySem.W.isFn K (.ref iD)=true)
  (X0:PySem.W.keepIn K (.ref cI)=true)
  (X3:K.lookup iD=some ⟨xU,xV,.func (PySem.W.fnOf "__init__" "Files.__init__" (ay dB) (aq dB) (af dB) .none xX vM xY xW kP xZ),vL⟩)
  (X4:PySem.W.codeIn K kP "Files.__init__" = true)
  (X5:PySem.W.keepIn K (.ref iD)=true)
  (X6:PySem.W.findIn K (.ref cI) "make" = some (some (.ref iE)))
  (X7:PySem.W.isFn K (.ref iE)=true)
  (X8:K.lookup iE=some ⟨x8,x9,.func (PySem.W.fnOf "make" "Files.make" (ay dD) (aq dD) (af dD) .none yb vO yc ya kQ yd),vN⟩)
  (Yb:PySem.W.codeIn K kQ "Files.make" = true)
  (Yc:PySem.W.keepIn K (.ref iE)=true)
  (Yd:PySem.W.findIn K (.ref cI) "size_of" = some (some (.ref eW)))
  (Ye:PySem.W.isFn K (.ref eW)=true)
  (Yg:K.lookup eW=some ⟨qE,qF,.func (PySem.W.fnOf "size_of" "Files.size_of" (ay bQ) (aq bQ) (af bQ) .none qH oV qI qG iF qJ),oU⟩)
  (Yh:PySem.W.codeIn K iF "Files.size_of" = true)
  (Yi:PySem.W.keepIn K (.ref eW)=true)
  (Yj:PySem.W.findIn K (.ref cI) "row_at" = some (some (.ref fM)))
  (Yk:PySem.W.isFn K (.ref fM)=true)
  (Yl:K.lookup fM=some ⟨tL,tM,.func (PySem.W.fnOf "row_at" "Files.row_at" (ay ck) (aq ck) (af ck) .none tO qL tP tN jc tQ),qK⟩)
  (Ym:PySem.W.codeIn K jc "Files.row_at" = true)
  (Yn:PySem.W.keepIn K (.ref fM)=true)
  (Yo:PySem.W.findIn K (.ref cI) "store_row" = some (some (.ref dO)))
  (Yp:PySem.W.isFn K (.ref dO)=true)
  (Yq:K.lookup dO=some ⟨m9,nc,.func (PySem.W.fnOf "store_row" "Files.store_row" (ay bE) (aq bE) (af bE) .none nh lS ni ng gg nj),lR⟩)
  (Yr:PySem.W.codeIn K gg "Files.store_row" = true)
  (Ys:PySem.W.keepIn K (.ref dO)=true)
  (Yt:PySem.W.findIn K (.ref cI) "ask_name" = some (some (.ref dR)))
  (Yu:PySem.W.isFn K (.ref dR)=true)
  (Yv:K.lookup dR=some ⟨oW,oX,.func (PySem.W.fnOf "ask_name" "Files.ask_name" (ay bK) (aq bK) (af bK) .none oZ nq o4 oY gR o5),nk⟩)
  (Yw:PySem.W.codeIn K gR "Files.ask_name" = true)
  (Yx:PySem.W.keepIn K (.ref dR)=true)
  (Yy:PySem.W.findIn K (.ref cI) "ask_page" = some (some (.ref dS)))
  (Yz:PySem.W.isFn K (.ref dS)=true)
  (YA:K.lookup dS=some ⟨o6,o7,.func (PySem.W.fnOf "ask_page" "Files.ask_page" (ay bL) (aq bL) (af bL) .none o9 nu pq o8 gS pA),nt⟩)
  (YB:PySem.W.codeIn K gS "Files.ask_page" = true)
  (YC:PySem.W.keepIn K (.ref dS)=true)
  (YD:PySem.W.nsIn K mainGlobals "with_cells" = some (some (.ref kR)))
  (YE:K.lookup kR=some ⟨ye,yf,.func (PySem.W.fnOf "with_cells" "with_cells" (ay dF) (aq dF) (af dF) .none yh vQ yi yg kT yj),vP⟩)
  (YF:PySem.W.codeIn K kT "with_cells" = true)
  (YG:PySem.W.keepIn K (.ref kR)=true)
  (YH:PySem.W.nsIn K mainGlobals "is_sheet" = some (some (.ref qM)))
  (YI:K.lookup qM=some ⟨CL,CM,.func (PySem.W.fnOf "is_sheet" "is_sheet" (ay fm) (aq fm) (af fm) .none CO AQ CP CN pB CQ),AO⟩)
  (YJ:PySem.W.codeIn K pB "is_sheet" = true)
  (YK:PySem.W.keepIn K (.ref qM)=true)
  (YL:PySem.W.nsIn K mainGlobals "free_frame" = some (some (.ref kU)))
  (YM:K.lookup kU=some ⟨yk,yl,.func (PySem.W.fnOf "free_frame" "free_frame" (ay dI) (aq dI) (af dI) .none yo vS yq ym kW yt),vR⟩)
  (YN:PySem.W.codeIn K kW "free_frame" = true)
  (YO:PySem.W.keepIn K (.ref kU)=true)
  (YQ:PySem.W.nsIn K mainGlobals "put_out" = some (some (.ref vU)))
  (YR:K.lookup vU=some ⟨Em,En,.func (PySem.W.fnOf "put_out" "put_out" (ay gB) (aq gB) (af gB) .none Ep CT Er Eo rG Es),CS⟩)
  (YS:PySem.W.codeIn K rG "put_out" = true)
  (YT:PySem.W.keepIn K (.ref vU)=true)
  (YU:PySem.W.nsIn K mainGlobals "have_frame" = some (some (.ref kX)))
  (YV:K.lookup kX=some ⟨yu,yv,.func (PySem.W.fnOf "have_frame" "have_frame" (ay dJ) (aq dJ) (af dJ) .none yx vW yy yw kY yz),vV⟩)
  (YW:PySem.W.codeIn K kY "have_frame" = true)
  (YX:PySem.W.keepIn K (.ref kX)=true)
  (YY:PySem.W.nsIn K mainGlobals "fetched" = some (some (.ref vX)))
  (YZ:K.lookup vX=some ⟨Et,Eu,.func (PySem.W.fnOf "fetched" "fetched" (ay gC) (aq gC) (af gC) .none Ex CV Ey Ew rH Ez),CU⟩)
  (Y0:PySem.W.codeIn K rH "fetched" = true)
  (Y3:PySem.W.keepIn K (.ref vX)=true)
  (Y4:PySem.W.nsIn K mainGlobals "bring" = some (some (.ref EA)))
  (Y5:K.lookup EA=some ⟨Kc,Kd,.func (PySem.W.fnOf "bring" "bring" (ay lC) (aq lC) (af lC) .none Kf HC Kg Ke zE Kh),HB⟩)
  (Y6:PySem.W.codeIn K zE "bring" = true)
  (Y7:PySem.W.keepIn K (.ref EA)=true)
  (Y8:PySem.W.nsIn K mainGlobals "room_of" = some (some (.ref vY)))
  (Y9:K.lookup vY=some ⟨EB,EC,.func (PySem.W.fnOf "room_of" "room_of" (ay gE) (aq gE) (af gE) .none EE CY EF ED rJ EG),CW⟩)
  (Za:PySem.W.codeIn K rJ "room_of" = true)
  (Zb:PySem.W.keepIn K (.ref vY)=true)
  (Zc:PySem.W.nsIn K mainGlobals "new_sheet" = some (some (.ref nv)))
  (Zd:K.lookup nv=some ⟨AR,AS,.func (PySem.W.fnOf "new_sheet" "new_sheet" (ay d8) (aq d8) (af d8) .none AV yD AW AU mh AX),yC⟩)
  (Ze:PySem.W.codeIn K mh "new_sheet" = true)
  (Zf:PySem.W.keepIn K (.ref nv)=true)
  (Zg:PySem.W.nsIn K mainGlobals "row_now" = some (some (.ref vZ)))
  (Zh:K.lookup vZ=some ⟨EH,EI,.func (PySem.W.fnOf "row_now" "row_now" (ay gD) (aq gD) (af gD) .none EK C0 EL EJ rK EM),CZ⟩)
  (Zi:PySem.W.codeIn K rK "row_now" = true)
  (Zj:PySem.W.keepIn K (.ref vZ)=true)
  (Zk:PySem.W.nsIn K mainGlobals "let_go" = some (some (.ref AY)))
  (Zl:K.lookup AY=some ⟨HD,HE,.func (PySem.W.fnOf "let_go" "let_go" (ay i0) (aq i0) (af i0) .none HG EO HH HF wc HJ),EN⟩)
  (Zm:PySem.W.codeIn K wc "let_go" = true)
  (Zn:PySem.W.keepIn K (.ref AY)=true)
  (Zo:PySem.W.nsIn K mainGlobals "end_sheet" = some (some (.ref ny)))
  (Zp:K.lookup ny=some ⟨AZ,A0,.func (PySem.W.fnOf "end_sheet" "end_sheet" (ay d9) (aq d9) (af d9) .none A2 yF A3 A1 mj A4),yE⟩)
  (Zq:PySem.W.codeIn K mj "end_sheet" = true)
  (Zr:PySem.W.keepIn K (.ref ny)=true)
  (Zs:PySem.W.nsIn K mainGlobals "_law_cell_at" = some (some (.ref nA)))
  (Zt:K.lookup nA=some ⟨A5,A6,.func (PySem.W.fnOf "_law_cell_at" "_law_cell_at" (ay ef) (aq ef) (af ef) .none A8 yH A9 A7 mq Ba),yG⟩)
  (Zu:PySem.W.codeIn K mq "_law_cell_at" = true)
  (Zv:PySem.W.keepIn K (.ref nA)=true)
  (Zw:PySem.W.nsIn K mainGlobals "_law_whole" = some (some (.ref we)))
  (Zx:K.lookup we=some ⟨ER,ES,.func (PySem.W.fnOf "_law_whole" "_law_whole" (ay gF) (aq gF) (af gF) .none EU C2 EV ET rL EW),C1⟩)
  (Zy:PySem.W.codeIn K rL "_law_whole" = true)
  (Zz:PySem.W.keepIn K (.ref we)=true)
  (ZA:PySem.W.nsIn K mainGlobals "_law_alike" = some (some (.ref wg)))
  (ZC:K.lookup wg=some ⟨EX,EY,.func (PySem.W.fnOf "_law_alike" "_law_alike" (ay eg) (aq eg) (af eg) .none E2 C4 E3 EZ rM E4),C3⟩)
  (ZD:PySem.W.codeIn K rM "_law_alike" = true)
  (ZE:PySem.W.keepIn K (.ref wg)=true)
  (ZF:PySem.W.nsIn K mainGlobals "_law_num" = some (some (.ref E5)))
  (ZG:K.lookup E5=some ⟨Kl,Km,.func (PySem.W.fnOf "_law_num" "_law_num" (ay lD) (aq lD) (af lD) .none Ko HL Kp Kn zF Kq),HK⟩)
  (ZH:PySem.W.codeIn K zF "_law_num" = true)
  (ZI:PySem.W.keepIn K (.ref E5)=true)
  (ZJ:PySem.W.nsIn K mainGlobals "_law_row" = some (some (.ref E6)))
  (ZK:K.lookup E6=some ⟨Kr,Ks,.func (PySem.W.fnOf "_law_row" "_law_row" (ay lE) (aq lE) (af lE) .none Kv HN Kw Ku zG Ky),HM⟩)
  (ZL:PySem.W.codeIn K zG "_law_row" = true)
  (ZM:PySem.W.keepIn K (.ref E6)=true)
  (ZN:PySem.W.nsIn K mainGlobals "_law_name" = some (some (.ref Bb)))
  (ZO:K.lookup Bb=some ⟨HP,HQ,.func (PySem.W.fnOf "_law_name" "_law_name" (ay i6) (aq i6) (af i6) .none HS E8 HU HR wj HV),E7⟩)
  (ZP:PySem.W.codeIn K wj "_law_name" = true)
  (ZQ:PySem.W.keepIn K (.ref Bb)=true)
  (ZR:PySem.W.nsIn K mainGlobals "_law_laid_in" = some (some (.ref nB)))
  (ZS:K.lookup nB=some ⟨Bc,Bd,.func (PySem.W.fnOf "_law_laid_in" "_law_laid_in" (ay ek) (aq ek) (af ek) .none Bf yJ Bg Be mw Bh),yI⟩)
  (ZT:PySem.W.codeIn K mw "_law_laid_in" = true)
  (ZU:PySem.W.keepIn K (.ref nB)=true)
  (ZV:PySem.W.nsIn K mainGlobals "_law_sizes" = some (some (.ref wm)))
  (ZW:K.lookup wm=some ⟨E9,Fb,.func (PySem.W.fnOf "_law_sizes" "_law_sizes" (ay gG) (aq gG) (af gG) .none Fd C6 Fe Fc rN Ff),C5⟩)
  (ZX:PySem.W.codeIn K rN "_law_sizes" = true)
  (ZY:PySem.W.keepIn K (.ref wm)=true)
  (ZZ:PySem.W.nsIn K mainGlobals "_law_refused" = some (some (.ref nC)))
  (Z0:K.lookup nC=some ⟨Bj,Bk,.func (PySem.W.fnOf "_law_refused" "_law_refused" (ay eo) (aq eo) (af eo) .none Bm yL Bo Bl mz Bp),yK⟩)
  (Z1:PySem.W.codeIn K mz "_law_refused" = true)
  (Z2:PySem.W.keepIn K (.ref nC)=true)
  (Z3:PySem.W.nsIn K mainGlobals "_law_frame_of" = some (some (.ref kZ)))
  (Z4:K.lookup kZ=some ⟨yM,yN,.func (PySem.W.fnOf "_law_frame_of" "_law_frame_of" (ay dM) (aq dM) (af dM) .none yP wu yQ yO k6 yR),wo⟩)
  (Z5:PySem.W.codeIn K k6 "_law_frame_of" = true)
  (Z6:PySem.W.keepIn K (.ref kZ)=true)
  (Z7:PySem.W.nsIn K mainGlobals "_law_made" = some (some (.ref Bq)))
  (Z8:K.lookup Bq=some ⟨HW,HX,.func (PySem.W.fnOf "_law_made" "_law_made" (ay i7) (aq i7) (af i7) .none HZ Fi Ia HY wz Ic),Fg⟩)
  (Z9:PySem.W.codeIn K wz "_law_made" = true)
  (aaa:PySem.W.keepIn K (.ref Bq)=true)
  (aab:PySem.W.nsIn K mainGlobals "_law_written" = some (some (.ref nD)))
  (aac:K.lookup nD=some ⟨Br,Bs,.func (PySem.W.fnOf "_law_written" "_law_written" (ay eu) (aq eu) (af eu) .none Bu yT Bv Bt mD Bw),yS⟩)
  (aad:PySem.W.codeIn K mD "_law_written" = true)
  (aae:PySem.W.keepIn K (.ref nD)=true)
  (aaf:PySem.W.nsIn K mainGlobals "_law_is_all" = some (some (.ref qN)))
  (aag:K.lookup qN=some ⟨C7,C8,.func (PySem.W.fnOf "_law_is_all" "_law_is_all" (ay fq) (aq fq) (af fq) .none Dc By Dd C9 pC De),Bx⟩)
  (aah:PySem.W.codeIn K pC "_law_is_all" = true)
  (aai:PySem.W.keepIn K (.ref qN)=true)
  (aaj:PySem.W.nsIn K mainGlobals "_law_begun" = some (some (.ref wA)))
  (aak:K.lookup wA=some ⟨Fj,Fl,.func (PySem.W.fnOf "_law_begun" "_law_begun" (ay gH) (aq gH) (af gH) .none Fp Dg Fq Fo rO Ft),Df⟩)
  (aal:PySem.W.codeIn K rO "_law_begun" = true)
  (aam:PySem.W.keepIn K (.ref wA)=true)
  (aan:PySem.W.nsIn K mainGlobals "_law_filled" = some (some (.ref qO)))
  (aao:K.lookup qO=some ⟨Dh,Di,.func (PySem.W.fnOf "_law_filled" "_law_filled" (ay fu) (aq fu) (af fu) .none Dk BB Dl Dj pD Dm),BA⟩)
  (aap:PySem.W.codeIn K pD "_law_filled" = true)
  (aaq:PySem.W.keepIn K (.ref qO)=true)
  (aar:PySem.W.nsIn K mainGlobals "law" = some (some (.ref QC)))
  (aas:K.lookup QC=some ⟨QD,QE,.func (PySem.W.fnOf "law" "law" (ay uZ) (aq uZ) (af uZ) .none QG M7 QI QF Gn QJ),M6⟩)
  (aat:PySem.W.codeIn K Gn "law" = true)
  (aau:PySem.W.keepIn K (.ref QC)=true) : ∃ cU cA cB cC cT cF cD cS cI,Txt K mg cU cA cB cC cT cF cD cS cI :=
 ⟨cU,cA,cB,cC,cT,cF,cD,cS,cI,Ak X G z1 z2,Ak X G z3 z4,Ak X G z5 z6,Ak X G z7 z8,MH z9 UA UB UC UD UE UG UH,z17,uJ X G z18 z19 z20 z21 z22,z23,z24,z25,z26,z27,z28,nZ z29 z30 z31 z32 z33 z34 z35,uJ X G z36 z37 z38 z39 z40,z41,z42,z43,nZ z44 z45 z46 z47 z48 z49 z50,br z51 z52 z53 z54 z55,br z56 z57 z58 z59 z60,br z61 z62 z63 z64 z65,br z66 z67 z68 z69 z70,br z71 z72 z73 z74 z75,br z76 z77 z78 z79 z80,br z81 z82 z83 z84 z85,br z86 z87 z88 z89 z90,br z91 z92 z93 z94 z95,uJ X G z96 z97 z98 z99 WJ,WK,WL,nZ WM WN WO WQ WR WS WT,br WU WV WW WX WY,br WZ W0 W2 W3 W4,uJ X G W5 W6 W7 W8 W9,Xa,Xc,nZ Xd Xe Xf Xg Xh Xi Xj,br Xk Xl Xm Xn Xo,br Xp Xq Xr Xs Xu,br Xv Xw Xx Xy Xz,br XA XD XE XF XG,br XH XI XJ XM XN,uJ X G XO XQ XS XT XU,XW,nZ XX XY XZ X0 X3 X4 X5,br X6 X7 X8 Yb Yc,br Yd Ye Yg Yh Yi,br Yj Yk Yl Ym Yn,br Yo Yp Yq Yr Ys,br Yt Yu Yv Yw Yx,br Yy Yz YA YB YC,bq X G YD YE YF YG,bq X G YH YI YJ YK,bq X G YL YM YN YO,bq X G YQ YR YS YT,bq X G YU YV YW YX,bq X G YY YZ Y0 Y3,bq X G Y4 Y5 Y6 Y7,bq X G Y8 Y9 Za Zb,bq X G Zc Zd Ze Zf,bq X G Zg Zh Zi Zj,bq X G Zk Zl Zm Zn,bq X G Zo Zp Zq Zr,bq X G Zs Zt Zu Zv,bq X G Zw Zx Zy Zz,bq X G ZA ZC ZD ZE,bq X G ZF ZG ZH ZI,bq X G ZJ ZK ZL ZM,bq X G ZN ZO ZP ZQ,bq X G ZR ZS ZT ZU,bq X G ZV ZW ZX ZY,bq X G ZZ Z0 Z1 Z2,bq X G Z3 Z4 Z5 Z6,bq X G Z7 Z8 Z9 aaa,bq X G aab aac aad aae,bq X G aaf aag aah aai,bq X G aaj aak aal aam,bq X G aan aao aap aaq,bq X G aar aas aat aau⟩
local macro_rules | `(tactic| walk_at $_:str) => `(tactic| fail)
theorem mC {α : Type} {b a : α} {l:List α} (h:a∈l):a∈b::l:=List.mem_cons_of_mem b h
theorem mA {α : Type} {a : α} {k l:List α} (h:a∈l):a∈k++l:=List.mem_append_right k h
theorem mB {α : Type} {a : α} {k l:List α} (h:a∈k):a∈k++l:=List.mem_append_left l h
theorem mS {α : Type} {a : α} {l:List α} : a∈a::l:=List.mem_cons_self
local macro_rules | `(tactic| walk_at "mem") => `(tactic| repeat (first | with_reducible exact List.mem_cons_self | with_reducible assumption | with_reducible refine List.mem_cons_of_mem _ ?_))
local macro_rules | `(tactic| walk_at "sub") => `(tactic| repeat (first | with_reducible exact List.Sublist.refl _ | with_reducible apply List.Sublist.cons₂ | with_reducible apply List.Sublist.cons))
local macro_rules | `(tactic| walk_at "led") => `(tactic| first | with_reducible assumption | exact L2.Led.sub (by assumption) (by walk_at "sub"))
local macro_rules | `(tactic| walk_at "cell") => `(tactic| first | with_reducible assumption | with_reducible exact L2.Led.get (by assumption) (by walk_at "mem"))
local macro_rules | `(tactic| walk_at "atc") => `(tactic| first | with_reducible assumption | with_reducible exact L2.Om | with_reducible exact L2.Oo | with_reducible exact L2.Oq | with_reducible exact L2.Ot | with_reducible exact L2.Ou | with_reducible exact L2.Ox | with_reducible exact L2.aeF | with_reducible exact L2.Ss)
local macro_rules | `(tactic| walk_at "szs") => `(tactic| first | decide | (simp only [List.length_cons,List.length_nil,List.length_append,List.length_map];have hsz:=PySem.sizeLine_eq;omega) | (have hsz:=PySem.sizeLine_eq;omega))
local macro_rules | `(tactic| walk_at "tyc") => `(tactic| first | with_reducible exact L2.tyI | with_reducible exact L2.tyB | with_reducible exact L2.tyS | with_reducible exact L2.tyO | exact L2.tyL (by walk_at "cell") | exact L2.tyT (by walk_at "cell") | exact L2.tyD (by walk_at "cell") | with_reducible assumption)
local macro_rules | `(tactic| walk_at "cnd") => `(tactic| first | omega | (unfold L2.RT;omega) | (unfold L2.Mi;omega) | (unfold L2.RU;omega) | (dsimp only;omega) | exact PySem.IntMulOk.of_right (by decide +kernel) | exact PySem.IntMulOk.of_left (by decide +kernel))
local macro_rules | `(tactic| walk_at "seq") => `(tactic| first | assumption | exact L2.fE.of (by walk_at "cell") | exact L2.jM.seq (by assumption) (by assumption) | exact L2.Oz.seq (by assumption) (by walk_at "led"))
local macro_rules | `(tactic| walk_at "isi") => `(tactic| first | with_reducible exact L2.Ck | with_reducible exact L2.Ae | with_reducible exact L2.M8 | with_reducible exact L2.wW | with_reducible exact L2.Af | with_reducible exact L2.wX | with_reducible exact L2.Cm | with_reducible exact L2.Ag | with_reducible exact L2.Ah | with_reducible exact L2.wY | with_reducible exact L2.wZ | with_reducible exact L2.uB | with_reducible exact L2.w4 | with_reducible exact L2.rZ | with_reducible exact L2.Kz | with_reducible exact L2.uC | with_reducible exact L2.w6 | with_reducible exact L2.uD | with_reducible exact L2.M9 | with_reducible exact L2.Na | with_reducible exact L2.L4 | with_reducible exact L2.L5 | with_reducible exact L2.KA | with_reducible exact L2.Cn | with_reducible exact L2.L6 | with_reducible exact L2.OG | with_reducible exact L2.Nb | with_reducible exact L2.Ar | with_reducible exact L2.As | with_reducible exact L2.xh | rfl)
local macro_rules | `(tactic| walk_at "cl") => `(tactic| ((repeat (with_reducible rename L2.Is _ _=>zz;clear zz)); (repeat (with_reducible rename L2.jM _ _=>zz;clear zz)); (repeat (with_reducible rename L2.VK=>zz;clear zz))))
local macro_rules | `(tactic| walk_at "g1") => `(tactic| first
 | ((with_reducible show L2.uA _ _ _);with_reducible refine L2.SW (by walk_at "cell") ?_)
 | ((with_reducible show L2.uA _ _ _);with_reducible refine L2.SX (by walk_at "cell") ?_)
 | ((with_reducible show L2.uA _ _ _);with_reducible refine L2.SY (by walk_at "cell") ?_)
 | ((with_reducible show L2.JH _ _ _);with_reducible refine L2.Wd (by walk_at "tyc") (by walk_at "isi") ?_)
 | ((with_reducible show L2.PM _ _ _ _);with_reducible refine L2.We (by walk_at "cell") (by walk_at "cell") (by walk_at "szs") (L2.Led.alloc (by assumption) λ _ _ _ _ _ => ?_))
 | ((with_reducible show ∃ (p:Addr) (ys:List L2.V),_ = [L2.V.ref p]/\_);with_reducible refine L2.S6 (by walk_at "seq") (L2.Led.alloc (by assumption) λ _ _ _ _ _ => ?_))
 | ((with_reducible show ∃ (p:Addr) (ys:List L2.V),_ = [L2.V.ref p]/\_);with_reducible refine L2.aav (by walk_at "seq") (L2.Led.alloc (by assumption) λ _ _ _ _ _ => ?_))
 | ((with_reducible show L2.Mu _ _ _ _ _ _);with_reducible refine L2.S5 (by first | assumption | exact L2.fE.of (by walk_at "cell") | exact L2.jM.seq (by assumption) (by assumption) | exact L2.Oz.seq (by assumption) (by walk_at "led")) (L2.Led.alloc (by assumption) λ _ _ _ _ _ => ?_)))
local macro_rules | `(tactic| walk_at "g2") => `(tactic| first
 | walk_at "g1"
 | ((with_reducible show ∃ (b:Addr) (dx:Addr) (fs:List (Str×L2.V)),_/\_);with_reducible refine L2.S8 (by walk_at "cell") (by first | decide | with_unfolding_all exact Nat.le_of_ble_eq_true rfl) ?_)
 | ((with_reducible show ∃ (b:Addr) (o:Option L2.V),_/\_);with_reducible refine L2.aeM (by walk_at "cell") ?_)
 | ((with_reducible show L2.D3 _ _ _);with_reducible refine L2.S9 (by assumption) λ _ _ _ _ _ => ?_)
 | with_reducible refine L2.isH ?_
 | with_reducible refine L2.Wf ?_)
local macro_rules | `(tactic| walk_at "gd") => `(tactic| repeat' first
 | (with_reducible refine L2.dc.h ?_;intro _ _)
 | with_reducible refine L2.uQ.h ?_
 | with_reducible refine L2.SO rfl ?_
 | with_reducible refine L2.Is.use (by assumption) ?_
 | with_reducible refine L2.Sw (by assumption) ?_
 | ((with_reducible show L2.Ends.rt _ _ _);with_reducible refine L2.rtH ?_)
 | ((with_reducible show L2.Ends.nx _ _ _);with_reducible refine L2.nxH ?_)
 | with_reducible refine L2.Si (λ _ => ?_) (λ _ => ?_)
 | with_reducible refine L2.OC (λ _ => ?_) (λ _ => ?_)
 | ((with_reducible show L2.rI _ _ _ _ _ _);with_reducible refine L2.iH (by walk_at "cnd") ?_)
 | ((with_reducible show (_<=PySem.sizeLine)/\_);with_reducible refine And.intro (by walk_at "szs") (L2.Led.alloc (by assumption) λ _ _ _ _ _ => ?_))
 | ((with_reducible show L2.D9 _ _ _ _);with_reducible refine L2.Qf (by walk_at "cell") (by walk_at "atc") ?_)
 | ((with_reducible show L2.D9 _ _ _ _);with_reducible refine L2.SV (by walk_at "cell") (by walk_at "atc") ?_)
 | ((with_reducible show ∃ (b:Addr) (dx:Addr) (fs:List (Str×L2.V)) (v:L2.V),_/\_);with_reducible refine L2.S7 (by walk_at "cell") (by first | assumption | with_unfolding_all rfl) ?_)
 | ((with_reducible show ∃ (b:Addr) (dx:Addr) (fs:List (Str×L2.V)),_/\_);with_reducible refine L2.OD (by walk_at "cell") (by first | assumption | with_unfolding_all rfl) ?_)
 | walk_at "g2")
local macro_rules | `(tactic| walk_at "pf") => `(tactic| repeat (first | with_reducible exact List.Perm.refl _ | with_reducible apply L2.pcC | with_reducible apply L2.pcA | with_reducible apply L2.paC | with_reducible apply L2.paA))
local macro_rules | `(tactic| walk_at "sp") => `(tactic| repeat (first | (with_reducible apply L2.spC; · walk_at "pf") | (with_reducible apply L2.spA; · walk_at "pf") | with_reducible exact L2.spR | with_reducible exact L2.spN | with_reducible apply L2.spD | with_reducible apply L2.Wg))
local macro_rules | `(tactic| walk_at "g3") => `(tactic| first
 | walk_at "g2"
 | with_reducible refine L2.aaw (λ _ _ => ?_) L2.aax
 | ((with_reducible show (∃ (a:Addr),_/\L2.Jt _ _)/\_);with_reducible refine And.intro (L2.Ql (by walk_at "cell")) ?_)
 | ((with_reducible show ∃ (b:Addr) (o:Option L2.V),_/\_);with_reducible refine L2.aay (by walk_at "cell") ?_)
 | ((with_reducible show L2.Ms _ _ none (some 2) _ _);with_reducible refine L2.aeN (by walk_at "cell") (L2.Led.alloc (by assumption) λ _ _ _ _ _ => ?_))
 | ((with_reducible show L2.Ms _ _ (some 2) none _ _);with_reducible refine L2.Wi (by walk_at "cell") (L2.Led.alloc (by assumption) λ _ _ _ _ _ => ?_)))
local macro_rules | `(tactic| walk_at "ge") => `(tactic| repeat' first
 | (with_reducible refine L2.dc.h ?_;intro _ _)
 | with_reducible refine L2.uQ.h ?_
 | with_reducible refine L2.SO rfl ?_
 | with_reducible refine L2.Is.use (by assumption) ?_
 | with_reducible refine L2.Sw (by assumption) ?_
 | ((with_reducible show L2.Ends.rt _ _ _);with_reducible refine L2.rtH ?_)
 | ((with_reducible show L2.Ends.nx _ _ _);with_reducible refine L2.nxH ?_)
 | with_reducible refine L2.Si (λ _ => ?_) (λ _ => ?_)
 | with_reducible refine L2.OC (λ _ => ?_) (λ _ => ?_)
 | ((with_reducible show L2.rI _ _ _ _ _ _);with_reducible refine L2.iH (by walk_at "cnd") ?_)
 | ((with_reducible show (_<=PySem.sizeLine)/\_);with_reducible refine And.intro (by walk_at "szs") (L2.Led.alloc (by assumption) λ _ _ _ _ _ => ?_))
 | ((with_reducible show L2.D9 _ _ _ _);with_reducible refine L2.Qf (by walk_at "cell") (by walk_at "atc") ?_)
 | ((with_reducible show L2.D9 _ _ _ _);with_reducible refine L2.SV (by walk_at "cell") (by walk_at "atc") ?_)
 | ((with_reducible show ∃ (b:Addr) (dx:Addr) (fs:List (Str×L2.V)) (v:L2.V),_/\_);with_reducible refine L2.S7 (by walk_at "cell") (by first | assumption | with_unfolding_all rfl) ?_)
 | ((with_reducible show ∃ (b:Addr) (dx:Addr) (fs:List (Str×L2.V)),_/\_);with_reducible refine L2.OD (by walk_at "cell") (by first | assumption | with_unfolding_all rfl) ?_)
 | walk_at "g3")
section
variable {P:Program} {w:World} {K:PySem.W.Frag} {mg:Str->Option Value} {base:Heap} {cU cA cB cC cT cF cD cS cI:Addr}
theorem gi {A:Around} {k:Nat} (hr:cL k A):A.units+1 < cLine:=Nat.lt_of_le_of_lt (Nat.add_le_add_left (by decide) _) hr.units
def TH (z:Str):Prop:=PyData.strOk z=true
inductive Th
 | own (n:Int)
 | file (z:Str) (p:Int)
deriving DecidableEq
def fN:Th->List V
 | .own n=>[.str (Str.ofString "own"),.int n]
 | .file z p=>[.str (Str.ofString "file"),.str z,.int p]
def L7:Th->Prop
 | .own _=>True
 | .file z _=>TH z
def pF:Th->PySem.W.Dat
 | .own n => .tuple [.str (Str.ofString "own"),.int n]
 | .file z p => .tuple [.str (Str.ofString "file"),.str z,.int p]
theorem KC {a b:Th} : pF a=pF b↔a=b:=by
 cases a <;> cases b <;> simp [pF]
theorem Nc {a:Th} (h:L7 a) (k:Nat):PySem.W.kqdOk (k+1) (pF a)=true:=by
 have h1:PyData.strOk (Str.ofString "own")=true:=by decide +kernel
 have h2:PyData.strOk (Str.ofString "file")=true:=by decide +kernel
 cases a with
 | own n=>unfold pF;rw [PySem.W.kqdOk];cases k <;> simp [PySem.W.kqdOk,h1]
 | file z p =>
   have h3:PyData.strOk z=true:=h
   unfold pF;rw [PySem.W.kqdOk];cases k <;> simp [PySem.W.kqdOk,h2,h3]
theorem KD {H:Hp} {p:Addr} {a:Th} (h:H p=some (.tup (fN a))):fR H (.ref p) (PySem.W.kqdP (pF a)):=by
 cases a with
 | own n =>
   unfold pF
   rw [PySem.W.kqdP,PySem.W.kqdPs,PySem.W.kqdPs,PySem.W.kqdPs,PySem.W.kqdP,PySem.W.kqdP]
   exact .tup h (.cons (.str _) (.cons (.int _) .nil))
 | file z q =>
   unfold pF
   rw [PySem.W.kqdP,PySem.W.kqdPs,PySem.W.kqdPs,PySem.W.kqdPs,PySem.W.kqdPs,PySem.W.kqdP,PySem.W.kqdP,PySem.W.kqdP]
   exact .tup h (.cons (.str _) (.cons (.str _) (.cons (.int _) .nil)))
abbrev Hd:=Option (Addr×Th)
def aS:Hd->V
 | none => .aH
 | some x => .ref x.1
def nK (x:Hd):Option Th:=x.map (·.2)
def tR:Option Th->PySem.W.Dat
 | none => .none
 | some a=>pF a
theorem Dn {a b:Option Th} : tR a=tR b↔a=b:=by
 cases a with
 | none=>cases b with
   | none=>exact iff_of_true rfl rfl
   | some b=>cases b <;> simp [tR,pF]
 | some a=>cases b with
   | none=>cases a <;> simp [tR,pF]
   | some b=>show pF a=pF b↔_;rw [KC,Option.some.injEq]
def eX:Option (Addr×List Int)->V
 | none => .aH
 | some x => .ref x.1
structure FS where
 b:Addr
 dx:Addr
 hl:Addr
 rl:Addr
 sl:Addr
 hs:List Hd
 rs:List (Option (Addr×List Int))
 bs:List Bool
def t8 (hl rl sl:Addr):List (Str×V):=[("held",.ref hl),("rows",.ref rl),("soiled",.ref sl)]
abbrev qP (cF:Addr) (F:FS) (M:Cells):Cells:=(F.b,.ins cF F.dx (t8 F.hl F.rl F.sl))::(F.hl,.lst (F.hs.map aS))::(F.rl,.lst (F.rs.map eX))::(F.sl,.lst (F.bs.map V.bl))::M
structure DM (F:FS) (n:Nat) (M:Cells):Prop where
 h:F.hs.length=n
 r:F.rs.length=n
 s:F.bs.length=n
 th : ∀ t a,some (t,a)∈F.hs->(t,HO.tup (fN a))∈M/\L7 a
 rw : ∀ t row,some (t,row)∈F.rs->(t,HO.lst (row.map V.int))∈M
theorem DM.mono {F:FS} {n:Nat} {M M':Cells} (g:DM F n M) (h : ∀ c∈M,c∈M'):DM F n M':=⟨g.h,g.r,g.s,λ t a ha=>⟨h _ (g.th t a ha).1,(g.th t a ha).2⟩,λ t a ha=>h _ (g.rw t a ha)⟩
def FS.fill (F:FS) (i:Nat) (x:Hd) (y:Option (Addr×List Int)) (b:Bool):FS := { F with hs:=F.hs.set i x,rs:=F.rs.set i y,bs:=F.bs.set i b }
theorem DM.fill {F:FS} {n:Nat} {M:Cells} (g:DM F n M) {i:Nat} {x:Hd} {y:Option (Addr×List Int)} {b:Bool} (hx : ∀ t a,x=some (t,a)->(t,HO.tup (fN a))∈M/\L7 a) (hy : ∀ t row,y=some (t,row)->(t,HO.lst (row.map V.int))∈M):DM (F.fill i x y b) n M:=by
 refine ⟨by show (F.hs.set i x).length=n;rw [List.length_set];exact g.h,by show (F.rs.set i y).length=n;rw [List.length_set];exact g.r,by show (F.bs.set i b).length=n;rw [List.length_set];exact g.s,λ t a ha => ?_,λ t a ha => ?_⟩
 ·rcases List.mem_or_eq_of_mem_set ha with h | h
  ·exact g.th t a h
  ·exact hx t a h.symm
 ·rcases List.mem_or_eq_of_mem_set ha with h | h
  ·exact g.rw t a h
  ·exact hy t a h.symm
theorem QK (v:V) (n:Nat):(List.replicate n [v]).flatten=List.replicate n v:=by
 induction n with
 | zero=>rfl
 | succ n ih=>rw [List.replicate_succ,List.flatten_cons,ih,List.replicate_succ];rfl
def FS.new (b dx hl rl sl:Addr) (n:Nat):FS:=⟨b,dx,hl,rl,sl,List.replicate n none,List.replicate n none,List.replicate n false⟩
 local macro_rules | `(tactic| walk_at "spf") => `(tactic| (simp only [qP,FS.fill,FS.new,List.cons_append,List.nil_append];walk_at "sp"))
theorem DM.new {b dx hl rl sl:Addr} {n:Nat} {M:Cells} : DM (FS.new b dx hl rl sl n) n M:=by
 refine ⟨List.length_replicate,List.length_replicate,List.length_replicate,λ t a h => ?_,λ t a h => ?_⟩
 ·exact nomatch (List.mem_replicate.mp h).2
 ·exact nomatch (List.mem_replicate.mp h).2
def Gp (cF:Addr):Sp:=λ vs H Q _ => ∃ (b dx:Addr) (n:Nat) (L:Cells),vs = [.ref b,.int (n:Nat)]/\Led H ((b,.ins cF dx [])::L)/\n<=600 ∧ ∀ hl rl sl H',Led H' (qP cF (FS.new b dx hl rl sl n) L)->Q .aH H'
theorem KG (D:mL K cF "Frames.__init__" cV) (T:Txt K mg cU cA cB cC cT cF cD cS cI):g8 P w K mg base 1 cF ["self","many"] (Gp cF):=by
 have sc:=ki
 refine D.ok ki (λ vs H Q E h => ?_) (λ _ _ _ _ _ _ us hl=>match us,hl with | [_,_],_=>rfl) (λ f cdv A outer s H vs Q E hr h => ?_)
 ·obtain ⟨_,_,_,_,rfl,_⟩:=h;rfl
 ·obtain ⟨b,dx,n,L,rfl,hL,Nd,k⟩:=h
  refine ⟨_,(@ah _ _ _ _ _ (@b6 _ _ _ _ _ _ _ _ _ _ T.Frames T.mT (@ao _ 0 _ _ (by walk_at "v")) (@au _ _ _ _ _ _ _ _ uv (@jh _ _ _ _ (@aa _ _ _ _ _ (@dP _ _ _) (@ai _) (by rfl))) (@ao _ 1 _ _ (by walk_at "v"))) (by rfl)) (@ah _ _ _ _ _ (@b6 _ _ _ _ _ _ _ _ _ _ T.Frames T.pU (@ao _ 0 _ _ (by walk_at "v")) (@au _ _ _ _ _ _ _ _ uv (@jh _ _ _ _ (@aa _ _ _ _ _ (@dP _ _ _) (@ai _) (by rfl))) (@ao _ 1 _ _ (by walk_at "v"))) (by rfl)) (@ak _ _ _ (@b6 _ _ _ _ _ _ _ _ _ _ T.Frames T.ko (@ao _ 0 _ _ (by walk_at "v")) (@au _ _ _ _ _ _ _ _ uv (@jh _ _ _ _ (@aa _ _ _ _ _ (@bY _ _ _ _) (@ai _) (by rfl))) (@ao _ 1 _ _ (by walk_at "v"))) (by rfl))))),?_⟩
  refine aD λ M1 K1 => ?_
  walk_at "gd"
  rename Led _ _=>hl2
  refine JR (hl2.get mS) ⟨by omega,by omega⟩ (by have:=sizeLine_eq;simp only [List.length_cons,List.length_nil];omega) (Led.alloc hl2 λ l H3 _ hl3 _ => ?_)
  rw [QK,Int.toNat_natCast] at hl3
  walk_at "gd"
  refine K1.use ?_
  walk_at "cl"
  clear K1
  have c8:Led H3 ((b,.ins cF dx [])::(l,.lst (List.replicate n .aH))::L):=hl3.wk (by walk_at "sp")
  have dh:Led (upd H3 b (.ins cF dx (cK (Str.ofString "held") (V.ref l) []))) ((b,.ins cF dx [("held",.ref l)])::(l,.lst (List.replicate n .aH))::L):=c8.put rfl rfl
  generalize upd H3 b (.ins cF dx (cK (Str.ofString "held") (V.ref l) []))=H4 at dh ⊢
  clear c8 hl3 hl2 hL
  refine aD λ M1 K1 => ?_
  walk_at "gd"
  rename Led _ _=>hl2
  refine JR (hl2.get mS) ⟨by omega,by omega⟩ (by have:=sizeLine_eq;simp only [List.length_cons,List.length_nil];omega) (Led.alloc hl2 λ r H5 _ fW _ => ?_)
  rw [QK,Int.toNat_natCast] at fW
  walk_at "gd"
  refine K1.use ?_
  walk_at "cl"
  clear K1
  have jW:Led H5 ((b,.ins cF dx [("held",.ref l)])::(l,.lst (List.replicate n .aH))::(r,.lst (List.replicate n .aH))::L):=fW.wk (by walk_at "sp")
  have qQ:Led (upd H5 b (.ins cF dx (cK (Str.ofString "rows") (V.ref r) [("held",.ref l)]))) ((b,.ins cF dx [("held",.ref l),("rows",.ref r)])::(l,.lst (List.replicate n .aH))::(r,.lst (List.replicate n .aH))::L):=jW.put rfl rfl
  generalize upd H5 b (.ins cF dx (cK (Str.ofString "rows") (V.ref r) [("held",.ref l)]))=H6 at qQ ⊢
  clear jW fW hl2 dh
  walk_at "gd"
  rename Led _ _=>hl2
  refine JR (hl2.get mS) ⟨by omega,by omega⟩ (by have:=sizeLine_eq;simp only [List.length_cons,List.length_nil];omega) (Led.alloc hl2 λ q H7 _ nE _ => ?_)
  rw [QK,Int.toNat_natCast] at nE
  walk_at "gd"
  have gY:Led H7 ((b,.ins cF dx [("held",.ref l),("rows",.ref r)])::(l,.lst (List.replicate n .aH))::(r,.lst (List.replicate n .aH))::(q,.lst (List.replicate n (.bl false)))::L):=nE.wk (by walk_at "sp")
  have fX:=gY.put (o' := .ins cF dx (t8 l r q)) rfl rfl
  refine k l r q _ ?_
  unfold qP FS.new
  simp only [List.map_replicate]
  exact fX
def Fv (cF:Addr):Sp:=λ vs H Q _ => ∃ (F:FS) (n i:Nat) (t r0:Addr) (a:Th) (row:List Int) (M:Cells),vs = [.ref F.b,.int (i:Nat),.ref t,.ref r0]/\Led H (qP cF F M)/\DM F n M/\i < n/\(r0,HO.lst (row.map V.int))∈M/\row.length<=600 ∧
 ∀ r H',Led H' (qP cF (F.fill i (some (t,a)) (some (r,row)) false) ((r,.lst (row.map V.int))::M))->Q .aH H'
theorem Nf (D:bH K cF "fill" "Frames.fill" cW) (B:iK mg) (T:Txt K mg cU cA cB cC cT cF cD cS cI):aI P w K mg base 1 cF "fill" ["self","frame","thing","row"] (Fv cF):=by
 have sc:=kj
 refine D.ok kj (λ vs H Q E h => ?_) (λ _ _ _ _ _ _ us hl=>match us,hl with | [_,_,_,_],_=>rfl) (λ f cdv A outer s H vs Q E hr h => ?_)
 ·obtain ⟨_,_,_,_,_,_,_,_,rfl,_⟩:=h;rfl
 ·obtain ⟨F,n,i,t,r0,a,row,M,rfl,hL,g,hi,rP,hrl,k⟩:=h
  have hf1:(t8 F.hl F.rl F.sl).lookup (Str.ofString "held")=some (.ref F.hl):=rfl
  have hf2:(t8 F.hl F.rl F.sl).lookup (Str.ofString "rows")=some (.ref F.rl):=rfl
  have hf3:(t8 F.hl F.rl F.sl).lookup (Str.ofString "soiled")=some (.ref F.sl):=rfl
  have gh:=g.h
  have gr:=g.r
  have gs:=g.s
  have m1:(F.hs.map aS).length=F.hs.length:=List.length_map _
  have m2:(F.rs.map eX).length=F.rs.length:=List.length_map _
  have m3:(F.bs.map V.bl).length=F.bs.length:=List.length_map _
  refine ⟨_,(@ah _ _ _ _ _ (@dW _ _ _ _ _ _ (@ao _ 2 _ _ (by walk_at "v")) (@eE _ _ _ _ _ _ _ (@av _ _ _ _ _ _ _ T.Frames T.mT (@ao _ 0 _ _ (by walk_at "v")) (by rfl)) (@ao _ 1 _ _ (by walk_at "v")) set_list (by intro _;rfl)) (by rfl) (by rfl) (by rfl)) (@ah _ _ _ _ _ (@dW _ _ _ _ _ _ (@bw _ _ _ _ _ _ _ _ _ (aP (K:=K) rfl) (by rfl) B.list bZ (@aa _ _ _ _ _ (@ao _ 3 _ _ (by walk_at "v")) (@ai _) (by rfl)) (by decide) (by decide) (by rfl) (by rfl)) (@eE _ _ _ _ _ _ _ (@av _ _ _ _ _ _ _ T.Frames T.pU (@ao _ 0 _ _ (by walk_at "v")) (by rfl)) (@ao _ 1 _ _ (by walk_at "v")) set_list (by intro _;rfl)) (by rfl) (by rfl) (by rfl)) (@ak _ _ _ (@dW _ _ _ _ _ _ (@bY _ _ _ _) (@eE _ _ _ _ _ _ _ (@av _ _ _ _ _ _ _ T.Frames T.ko (@ao _ 0 _ _ (by walk_at "v")) (by rfl)) (@ao _ 1 _ _ (by walk_at "v")) set_list (by intro _;rfl)) (by rfl) (by rfl) (by rfl))))),?_⟩
  refine aD λ M1 K1 => ?_
  walk_at "ge"
  refine g9 (hL.get (mC mS)) (dY (by omega) (by omega)) ?_
  rw [Int.toNat_natCast,show (F.hs.map aS).set i (V.ref t)=(F.hs.set i (some (t,a))).map aS by rw [List.map_set];rfl]
  have hl2:Led (upd H F.hl (.lst ((F.hs.set i (some (t,a))).map aS))) ((F.b,.ins cF F.dx (t8 F.hl F.rl F.sl))::(F.hl,.lst ((F.hs.set i (some (t,a))).map aS))::(F.rl,.lst (F.rs.map eX))::(F.sl,.lst (F.bs.map V.bl))::M):=hL.r9 1 rfl rfl rfl
  generalize upd H F.hl (.lst ((F.hs.set i (some (t,a))).map aS))=H2 at hl2 ⊢
  walk_at "ge"
  refine K1.use ?_
  walk_at "cl"
  clear K1 hL
  refine aD λ M1 K1 => ?_
  walk_at "ge"
  rename_i r H3 _ hl3 _ _ _ _ _ _ _
  refine g9 (hl3.get (mC (mC (mC mS)))) (dY (by omega) (by omega)) ?_
  rw [Int.toNat_natCast,show (F.rs.map eX).set i (V.ref r)=(F.rs.set i (some (r,row))).map eX by rw [List.map_set];rfl]
  have c8:Led (upd H3 F.rl (.lst ((F.rs.set i (some (r,row))).map eX))) ((r,.lst (row.map V.int))::(F.b,.ins cF F.dx (t8 F.hl F.rl F.sl))::(F.hl,.lst ((F.hs.set i (some (t,a))).map aS))::(F.rl,.lst ((F.rs.set i (some (r,row))).map eX))::(F.sl,.lst (F.bs.map V.bl))::M):=hl3.r9 3 rfl rfl rfl
  generalize upd H3 F.rl (.lst ((F.rs.set i (some (r,row))).map eX))=H4 at c8 ⊢
  walk_at "ge"
  refine K1.use ?_
  walk_at "cl"
  clear K1 hl2 hl3
  walk_at "ge"
  refine g9 (c8.get (mC (mC (mC (mC mS))))) (dY (by omega) (by omega)) ?_
  rw [Int.toNat_natCast,show (F.bs.map V.bl).set i (V.bl false)=(F.bs.set i false).map V.bl by rw [List.map_set]]
  have dh:Led (upd H4 F.sl (.lst ((F.bs.set i false).map V.bl))) ((r,.lst (row.map V.int))::(F.b,.ins cF F.dx (t8 F.hl F.rl F.sl))::(F.hl,.lst ((F.hs.set i (some (t,a))).map aS))::(F.rl,.lst ((F.rs.set i (some (r,row))).map eX))::(F.sl,.lst ((F.bs.set i false).map V.bl))::M):=c8.r9 4 rfl rfl rfl
  walk_at "ge"
  exact k r _ (dh.wk (by walk_at "spf"))
def Gq (cF:Addr):Sp:=λ vs H Q _ => ∃ (F:FS) (n i:Nat) (M:Cells),vs = [.ref F.b,.int (i:Nat)]/\Led H (qP cF F M)/\DM F n M/\i < n ∧ ∀ H',Led H' (qP cF (F.fill i none none false) M)->Q .aH H'
theorem KH (D:bH K cF "empty" "Frames.empty" cu) (B:iK mg) (T:Txt K mg cU cA cB cC cT cF cD cS cI):aI P w K mg base 1 cF "empty" ["self","frame"] (Gq cF):=by
 have sc:=jC
 refine D.ok jC (λ vs H Q E h => ?_) (λ _ _ _ _ _ _ us hl=>match us,hl with | [_,_],_=>rfl) (λ f cdv A outer s H vs Q E hr h => ?_)
 ·obtain ⟨_,_,_,_,rfl,_⟩:=h;rfl
 ·obtain ⟨F,n,i,M,rfl,hL,g,hi,k⟩:=h
  have hf1:(t8 F.hl F.rl F.sl).lookup (Str.ofString "held")=some (.ref F.hl):=rfl
  have hf2:(t8 F.hl F.rl F.sl).lookup (Str.ofString "rows")=some (.ref F.rl):=rfl
  have hf3:(t8 F.hl F.rl F.sl).lookup (Str.ofString "soiled")=some (.ref F.sl):=rfl
  have gh:=g.h
  have gr:=g.r
  have gs:=g.s
  have m1:(F.hs.map aS).length=F.hs.length:=List.length_map _
  have m2:(F.rs.map eX).length=F.rs.length:=List.length_map _
  have m3:(F.bs.map V.bl).length=F.bs.length:=List.length_map _
  refine ⟨_,(@ah _ _ _ _ _ (@dW _ _ _ _ _ _ (@dP _ _ _) (@eE _ _ _ _ _ _ _ (@av _ _ _ _ _ _ _ T.Frames T.mT (@ao _ 0 _ _ (by walk_at "v")) (by rfl)) (@ao _ 1 _ _ (by walk_at "v")) set_list (by intro _;rfl)) (by rfl) (by rfl) (by rfl)) (@ah _ _ _ _ _ (@dW _ _ _ _ _ _ (@dP _ _ _) (@eE _ _ _ _ _ _ _ (@av _ _ _ _ _ _ _ T.Frames T.pU (@ao _ 0 _ _ (by walk_at "v")) (by rfl)) (@ao _ 1 _ _ (by walk_at "v")) set_list (by intro _;rfl)) (by rfl) (by rfl) (by rfl)) (@ak _ _ _ (@dW _ _ _ _ _ _ (@bY _ _ _ _) (@eE _ _ _ _ _ _ _ (@av _ _ _ _ _ _ _ T.Frames T.ko (@ao _ 0 _ _ (by walk_at "v")) (by rfl)) (@ao _ 1 _ _ (by walk_at "v")) set_list (by intro _;rfl)) (by rfl) (by rfl) (by rfl))))),?_⟩
  refine aD λ M1 K1 => ?_
  walk_at "ge"
  refine g9 (hL.get (mC mS)) (dY (by omega) (by omega)) ?_
  rw [Int.toNat_natCast,show (F.hs.map aS).set i V.aH=(F.hs.set i none).map aS by rw [List.map_set];rfl]
  have hl2:Led (upd H F.hl (.lst ((F.hs.set i none).map aS))) ((F.b,.ins cF F.dx (t8 F.hl F.rl F.sl))::(F.hl,.lst ((F.hs.set i none).map aS))::(F.rl,.lst (F.rs.map eX))::(F.sl,.lst (F.bs.map V.bl))::M):=hL.r9 1 rfl rfl rfl
  generalize upd H F.hl (.lst ((F.hs.set i none).map aS))=H2 at hl2 ⊢
  walk_at "ge"
  refine K1.use ?_
  walk_at "cl"
  clear K1 hL
  refine aD λ M1 K1 => ?_
  walk_at "ge"
  refine g9 (hl2.get (mC (mC mS))) (dY (by omega) (by omega)) ?_
  rw [Int.toNat_natCast,show (F.rs.map eX).set i V.aH=(F.rs.set i none).map eX by rw [List.map_set];rfl]
  have c8:Led (upd H2 F.rl (.lst ((F.rs.set i none).map eX))) ((F.b,.ins cF F.dx (t8 F.hl F.rl F.sl))::(F.hl,.lst ((F.hs.set i none).map aS))::(F.rl,.lst ((F.rs.set i none).map eX))::(F.sl,.lst (F.bs.map V.bl))::M):=hl2.r9 2 rfl rfl rfl
  generalize upd H2 F.rl (.lst ((F.rs.set i none).map eX))=H4 at c8 ⊢
  walk_at "ge"
  refine K1.use ?_
  walk_at "cl"
  clear K1 hl2
  walk_at "ge"
  refine g9 (c8.get (mC (mC (mC mS)))) (dY (by omega) (by omega)) ?_
  rw [Int.toNat_natCast,show (F.bs.map V.bl).set i (V.bl false)=(F.bs.set i false).map V.bl by rw [List.map_set]]
  have dh:Led (upd H4 F.sl (.lst ((F.bs.set i false).map V.bl))) ((F.b,.ins cF F.dx (t8 F.hl F.rl F.sl))::(F.hl,.lst ((F.hs.set i none).map aS))::(F.rl,.lst ((F.rs.set i none).map eX))::(F.sl,.lst ((F.bs.set i false).map V.bl))::M):=c8.r9 3 rfl rfl rfl
  walk_at "ge"
  exact k _ dh
def rQ (p:Int) (m:Addr):List (Str×V):=[("stands_at",.int p),("marked",.ref m)]
def e7 (cD d dx m:Addr) (p:Int) (bs:List Bool):Cells:=[(d,.ins cD dx (rQ p m)),(m,.lst (bs.map V.bl))]
theorem TJ {cD d dx m:Addr} {p:Int} {bs:List Bool} {L:Cells} : (d,HO.ins cD dx (rQ p m))∈e7 cD d dx m p bs++L:=mS
theorem dk2 {cD d dx m:Addr} {p:Int} {bs:List Bool} {L:Cells} : (m,HO.lst (bs.map V.bl))∈e7 cD d dx m p bs++L:=mC mS
theorem OH (bs:List Bool) (j:Nat) (b:Bool):(bs.map V.bl).set j (.bl b)=(bs.set j b).map V.bl:=by rw [List.map_set]
theorem Led.TL {H:Hp} {cD d dx m:Addr} {p:Int} {bs bs':List Bool} {L:Cells} (h:Led H (e7 cD d dx m p bs++L)):Led (upd H m (.lst (bs'.map V.bl))) (e7 cD d dx m p bs'++L) :=
 (Led.put (Led.swap (show Led H ((d,.ins cD dx (rQ p m))::(m,.lst (bs.map V.bl))::L) from h)) rfl rfl).swap
theorem QL (n:Nat):(List.replicate n [V.bl false]).flatten=(List.replicate n false).map V.bl:=by
 induction n with
 | zero=>rfl
 | succ n ih=>rw [List.replicate_succ,List.flatten_cons,ih,List.replicate_succ];rfl
def Gr (cD:Addr):Sp:=λ vs H Q _ => ∃ (d dx:Addr) (n:Int) (L:Cells),vs = [.ref d,.int n]/\Led H ((d,.ins cD dx [])::L)/\0<=n/\n<=64 ∧ ∀ m H',Led H' (e7 cD d dx m 0 (List.replicate n.toNat false)++L)->Q .aH H'
theorem KI (D:mL K cD "Dial.__init__" d7) (T:Txt K mg cU cA cB cC cT cF cD cS cI):g8 P w K mg base 1 cD ["self","many"] (Gr cD):=by
 have sc:=n8
 refine D.ok n8 (λ vs H Q E h => ?_) (λ _ _ _ _ _ _ us hl=>match us,hl with | [_,_],_=>rfl) (λ f cdv A outer s H vs Q E hr h => ?_)
 ·obtain ⟨_,_,_,_,rfl,_⟩:=h;rfl
 ·obtain ⟨d,dx,n,L,rfl,hL,h0,h64,k⟩:=h
  refine ⟨_,(@ah _ _ _ _ _ (@b6 _ _ _ _ _ _ _ _ _ _ T.u6 T.kr (@ao _ 0 _ _ (by walk_at "v")) (@aj _ _ _ _) (by rfl)) (@ak _ _ _ (@b6 _ _ _ _ _ _ _ _ _ _ T.u6 T.ku (@ao _ 0 _ _ (by walk_at "v")) (@au _ _ _ _ _ _ _ _ uv (@jh _ _ _ _ (@aa _ _ _ _ _ (@bY _ _ _ _) (@ai _) (by rfl))) (@ao _ 1 _ _ (by walk_at "v"))) (by rfl)))),?_⟩
  refine aD λ M1 K1 => ?_
  walk_at "gd"
  refine K1.use ?_
  clear K1
  have hL1:Led (upd H d (.ins cD dx (cK (Str.ofString "stands_at") (V.int 0) []))) ((d,.ins cD dx [("stands_at",.int 0)])::L):=hL.put rfl rfl
  generalize upd H d (.ins cD dx (cK (Str.ofString "stands_at") (V.int 0) []))=H1 at hL1 ⊢
  walk_at "gd"
  rename_i l0 H2 _ hl2 _ _ _
  have hsz:1 * n.toNat<=sizeLine:=by have:=sizeLine_eq;omega
  refine JR (hl2.get mS) ⟨by omega,by omega⟩ hsz (Led.alloc hl2 λ m H3 _ hl3 _ => ?_)
  rw [QL] at hl3
  walk_at "gd"
  have c8:Led H3 ((d,.ins cD dx [("stands_at",.int 0)])::(m,.lst ((List.replicate n.toNat false).map V.bl))::L):=hl3.wk (by walk_at "sp")
  exact k m _ (c8.put (o' := .ins cD dx (rQ 0 m)) rfl rfl)
def KJ (cD:Addr) (b:Bool):Sp:=λ vs H Q _ => ∃ (d dx m:Addr) (p f:Int) (bs:List Bool) (L:Cells),vs = [.ref d,.int f]/\Led H (e7 cD d dx m p bs++L)/\0<=f/\f < bs.length ∧ ∀ H',Led H' (e7 cD d dx m p (bs.set f.toNat b)++L)->Q .aH H'
theorem KL (D:bH K cD "clear" "Dial.clear" dz) (T:Txt K mg cU cA cB cC cT cF cD cS cI):aI P w K mg base 1 cD "clear" ["self","frame"] (KJ cD false):=by
 have sc:=lW
 refine D.ok lW (λ vs H Q E h => ?_) (λ _ _ _ _ _ _ us hl=>match us,hl with | [_,_],_=>rfl) (λ f cdv A outer s H vs Q E hr h => ?_)
 ·obtain ⟨_,_,_,_,_,_,_,rfl,_⟩:=h;rfl
 ·obtain ⟨d,dx,m,p,fr,bs,L,rfl,hL,f0,f1,k⟩:=h
  have hf:(rQ p m).lookup (Str.ofString "marked")=some (.ref m):=rfl
  have c1:=hL.get (TJ (cD:=cD) (d:=d) (dx:=dx) (m:=m) (p:=p) (bs:=bs) (L:=L))
  have c2:=hL.get (dk2 (cD:=cD) (d:=d) (dx:=dx) (m:=m) (p:=p) (bs:=bs) (L:=L))
  refine ⟨_,(@ak _ _ _ (@dW _ _ _ _ _ _ (@bY _ _ _ _) (@eE _ _ _ _ _ _ _ (@av _ _ _ _ _ _ _ T.u6 T.ku (@ao _ 0 _ _ (by walk_at "v")) (by rfl)) (@ao _ 1 _ _ (by walk_at "v")) set_list (by intro _;rfl)) (by rfl) (by rfl) (by rfl))),?_⟩
  walk_at "gd"
  refine g9 c2 (dY f0 (by rw [List.length_map];exact f1)) ?_
  rw [OH]
  walk_at "gd"
  exact k _ (Led.TL hL)
def Fw (may:List Bool):Nat->Nat->List Bool->Option (Nat×List Bool)
 | 0,_,_=>none
 | k+1,p,bs=>if may.getD (p % may.length) false=true/\bs.getD (p % may.length) false=false then some (p % may.length,bs) else Fw may k (p+1) (if may.getD (p % may.length) false=true then bs.set (p % may.length) false else bs)
theorem KN (may:List Bool) (k p:Nat) (bs:List Bool):Fw may (k+1) p bs=if may.getD (p % may.length) false=true/\bs.getD (p % may.length) false=false then some (p % may.length,bs) else Fw may k (p+1) (if may.getD (p % may.length) false=true then bs.set (p % may.length) false else bs):=rfl
theorem Ie {bs:List Bool} {f g:Nat} (h:bs.getD f false=false):(bs.set g false).getD f false=false:=by
 rw [List.getD_eq_getElem?_getD] at h ⊢
 rw [List.getElem?_set]
 split
 ·split
  ·rfl
  ·rfl
 ·exact h
theorem KO {bs:List Bool} {f:Nat} : (bs.set f false).getD f false=false:=by
 rw [List.getD_eq_getElem?_getD,List.getElem?_set]
 rw [if_pos rfl]
 split <;> rfl
theorem OI {may:List Bool} {f:Nat} (hf:may.getD f false=true) : ∀ (k p:Nat) (bs:List Bool),bs.getD f false=false->(∃ j,j < k/\(p+j) % may.length=f)->∃ r,Fw may k p bs=some r
 | 0,_,_,_,⟨j,hj,_⟩=>absurd hj (Nat.not_lt_zero _)
 | k+1,p,bs,hb,⟨j,hj,hm⟩=>by
   unfold Fw
   by_cases h:may.getD (p % may.length) false=true/\bs.getD (p % may.length) false=false
   ·rw [if_pos h];exact ⟨_,rfl⟩
   ·rw [if_neg h]
    cases j with
    | zero=>rw [Nat.add_zero] at hm;rw [hm] at h;exact absurd ⟨hf,hb⟩ h
    | succ j =>
      refine OI hf k (p+1) _ ?_ ⟨j,by omega,by rw [<-hm];congr 1;omega⟩
      split
      ·exact Ie hb
      ·exact hb
theorem OJ {may:List Bool} {f:Nat} (hf:may.getD f false=true) (hn:0 < may.length) : ∀ (k p:Nat) (bs:List Bool),(∃ j,j+may.length < k/\(p+j) % may.length=f)->∃ r,Fw may k p bs=some r
 | 0,_,_,⟨j,hj,_⟩=>absurd hj (Nat.not_lt_zero _)
 | k+1,p,bs,⟨j,hj,hm⟩=>by
   unfold Fw
   by_cases h:may.getD (p % may.length) false=true/\bs.getD (p % may.length) false=false
   ·rw [if_pos h];exact ⟨_,rfl⟩
   ·rw [if_neg h]
    cases j with
    | zero =>
      rw [Nat.add_zero] at hm
      rw [hm,if_pos hf]
      refine OI hf k (p+1) _ KO ⟨may.length - 1,by omega,?_⟩
      rw [show p+1+(may.length - 1)=p+may.length by omega,Nat.add_mod_right,hm]
    | succ j=>exact OJ hf hn k (p+1) _ ⟨j,by omega,by rw [<-hm];congr 1;omega⟩
theorem reach (p f n:Nat) (hf:f < n) : ∃ j,j < n/\(p+j) % n=f:=by
 have hr:p % n < n:=Nat.mod_lt _ (by omega)
 by_cases h:p % n<=f
 ·refine ⟨f - p % n,by omega,?_⟩
  rw [<-Nat.mod_add_mod,show p % n+(f - p % n)=f by omega,Nat.mod_eq_of_lt hf]
 ·refine ⟨f+n - p % n,by omega,?_⟩
  rw [<-Nat.mod_add_mod,show p % n+(f+n - p % n)=f+n by omega,Nat.add_mod_right,Nat.mod_eq_of_lt hf]
theorem KP {may:List Bool} (h:true∈may) (p:Nat) (bs:List Bool) : ∃ r,Fw may (2 * may.length) p bs=some r:=by
 obtain ⟨f,hf,e⟩:=List.getElem_of_mem h
 obtain ⟨j,hj,hm⟩:=reach p f may.length hf
 refine OJ (f:=f) ?_ (by omega) _ p bs ⟨j,by omega,hm⟩
 rw [List.getD_eq_getElem?_getD,List.getElem?_eq_getElem hf,e]
 rfl
theorem pG {may:List Bool} : ∀ (k p:Nat) (bs:List Bool) {f:Nat} {bs':List Bool},Fw may k p bs=some (f,bs')->bs'.length=bs.length/\(0 < may.length->f < may.length)/\may.getD f false=true
 | 0,_,_,_,_,h=>nomatch h
 | k+1,p,bs,f,bs',h=>by
   unfold Fw at h
   split at h
   ·rename_i hc
    cases h
    exact ⟨rfl,λ hp=>Nat.mod_lt _ hp,hc.1⟩
   ·obtain ⟨h1,h2,h3⟩:=pG k (p+1) _ h
    refine ⟨?_,h2,h3⟩
    rw [h1]
    split
    ·rw [List.length_set]
    ·rfl
def Dp (cD cU:Addr):Sp:=λ vs H Q E => ∃ (d dx m q:Addr) (p:Nat) (may bs:List Bool) (L:Cells),vs = [.ref d,.ref q]/\Led H (e7 cD d dx m p bs++L)/\(q,HO.lst (may.map V.bl))∈L/\may.length=bs.length/\0 < bs.length/\bs.length<=64 ∧
 (∀ f bs' H',Fw may (2 * may.length) p bs=some (f,bs')->Led H' (e7 cD d dx m ((f+1) % may.length:Nat) bs'++L)->Q (.int f) H')/\(∀ H',true ∉ may->Led H' (e7 cD d dx m p bs++L)->E (.ref cU) none H')
theorem Ig (D:bH K cD "choose" "Dial.choose" cR) (B:iK mg) (T:Txt K mg cU cA cB cC cT cF cD cS cI):aI P w K mg base 1 cD "choose" ["self","may"] (Dp cD cU):=by
 have sc:=kh
 refine D.Cu kh (λ vs H Q E h => ?_) (λ _ _ _ _ _ _ us hl=>match us,hl with | [_,_],_=>rfl) (λ f cdv A outer s H vs Q E hr h => ?_)
 ·obtain ⟨_,_,_,_,_,_,_,_,rfl,_⟩:=h;rfl
 ·obtain ⟨d,dx,m,q,p,may,bs,L,rfl,hL,iq,hml,hn0,h64,k1,k2⟩:=h
  have hf1:(rQ p m).lookup (Str.ofString "marked")=some (.ref m):=rfl
  have hf2:(rQ p m).lookup (Str.ofString "stands_at")=some (.int p):=rfl
  have c1:=hL.get (TJ (cD:=cD) (d:=d) (dx:=dx) (m:=m) (p:=p) (bs:=bs) (L:=L))
  have c2:=hL.get (dk2 (cD:=cD) (d:=d) (dx:=dx) (m:=m) (p:=p) (bs:=bs) (L:=L))
  have hlb:((bs.map V.bl).length:Int)=bs.length:=by rw [List.length_map]
  refine ⟨_,(@ah _ _ _ _ _ (@aJ _ _ 2 _ _ _ _ sc.nd rfl (by walk_at "o2") (@aL _ _ _ _ _ _ _ _ _ bD (by rfl) B.len dX (@aa _ _ _ _ _ (@av _ _ _ _ _ _ _ T.u6 T.ku (@ao _ 0 _ _ (by walk_at "v")) (by rfl)) (@ai _) (by rfl)) (by decide) (by decide) (by rfl) (by rfl)) (by rfl) (by walk_at "o4")) (@ah _ _ _ _ _ (@jY _ _ _ _ _ _ _ _ PassesOwn.leaving rfl (@dw _ _ _ _ _ _ (by rfl) B.range (@aa _ _ _ _ _ (@au _ _ _ _ _ _ _ _ gJ (@aj _ _ _ _) (@ao _ 2 _ _ (by walk_at "v"))) (@ai _) (by rfl)) (by rfl)) (@fF _ _ 3 _ sc.nd rfl (by walk_at "o2") (by walk_at "o4")) (@ah _ _ _ _ _ (@aJ _ _ 4 _ _ _ _ sc.nd rfl (by walk_at "o2") (@au _ _ _ _ _ _ _ _ aN (@au _ _ _ _ _ _ _ _ aT (@av _ _ _ _ _ _ _ T.u6 T.kr (@ao _ 0 _ _ (by walk_at "v")) (by rfl)) (@ao _ 3 _ _ (by walk_at "v"))) (@ao _ 2 _ _ (by walk_at "v"))) (by rfl) (by walk_at "o4")) (@ah _ _ _ _ _ (@aR _ _ _ _ _ _ _ _ (@PW.pt _ _ _ (@pw_and _ _ _ _ _ _ _ (@aY _ _ _ (@bB _ _ _ _ _ _ _ aU (@ao _ 1 _ _ (by walk_at "v")) (@ao _ 4 _ _ (by walk_at "v")) (λ _ _=>rfl)) (by intro _;rfl)) (@pw_and1 _ _ _ _ (@b9 _ _ _ _ (@aY _ _ _ (@bB _ _ _ _ _ _ _ aU (@av _ _ _ _ _ _ _ T.u6 T.ku (@ao _ 0 _ _ (by walk_at "v")) (by rfl)) (@ao _ 4 _ _ (by walk_at "v")) (λ _ _=>rfl)) (by intro _;rfl)))))) (@ah _ _ _ _ _ (@b6 _ _ _ _ _ _ _ _ _ _ T.u6 T.kr (@ao _ 0 _ _ (by walk_at "v")) (@au _ _ _ _ _ _ _ _ aN (@au _ _ _ _ _ _ _ _ aT (@ao _ 4 _ _ (by walk_at "v")) (@aj _ _ _ _)) (@ao _ 2 _ _ (by walk_at "v"))) (by rfl)) (@ak _ _ _ (@aC _ _ _ _ (@ao _ 4 _ _ (by walk_at "v"))))) (@aE _)) (@ak _ _ _ (@aR _ _ _ _ _ _ _ _ (@aY _ _ _ (@bB _ _ _ _ _ _ _ aU (@ao _ 1 _ _ (by walk_at "v")) (@ao _ 4 _ _ (by walk_at "v")) (λ _ _=>rfl)) (by intro _;rfl)) (@ak _ _ _ (@dW _ _ _ _ _ _ (@bY _ _ _ _) (@eE _ _ _ _ _ _ _ (@av _ _ _ _ _ _ _ T.u6 T.ku (@ao _ 0 _ _ (by walk_at "v")) (by rfl)) (@ao _ 4 _ _ (by walk_at "v")) set_list (by intro _;rfl)) (by rfl) (by rfl) (by rfl))) (@aE _))))) (by intro _;rfl)) (@ak _ _ _ (@iT _ _ _ _ _ _ _ _ _ _ _ _ _ _ _ _ _ _ _ _ _ _ T.Full (by rfl) (@aa _ _ _ _ _ (@dU _ _ _ _) (@ai _) (by rfl)) (by decide) (by rfl))))),?_⟩
  refine aD λ M1 K1 => ?_
  walk_at "gd"
  rw [hlb]
  refine K1.use ?_
  walk_at "cl"
  clear K1
  refine aD λ M1 K1 => ?_
  refine ux λ Lr rR => ?_
  walk_at "gd"
  refine ⟨_,rfl,by omega,by omega,rR.use ?_⟩
  clear rR
  have hlr:(2 * (bs.length:Int)).toNat=2 * bs.length:=by omega
  rw [hlr]
  clear c1 c2
  refine uy (λ i σ H' => ∃ cur:List Bool,Led H' (e7 cD d dx m p cur++L)/\cur.length=bs.length/\Fw may (2 * may.length - i) (p+i) cur=Fw may (2 * may.length) p bs/\(cur=bs\/true∈may) ∧ ∃ v1 v2,σ = [some (.ref d),some (.ref q),some (.int bs.length),v1,v2]) ⟨bs,hL,rfl,rfl,.inl rfl,_,_,rfl⟩ ?_ ?_
  ·clear hL K1
   rintro i σ H' hi ⟨cur,hl',hcl,hgo,QM,v1,v2,rfl⟩
   have c1:=hl'.get (TJ (cD:=cD) (d:=d) (dx:=dx) (m:=m) (p:=p) (bs:=cur) (L:=L))
   have c2:=hl'.get (dk2 (cD:=cD) (d:=d) (dx:=dx) (m:=m) (p:=p) (bs:=cur) (L:=L))
   have c3:=hl'.get (mA iq)
   refine aD λ M2 K2 => ?_
   walk_at "gd"
   have hfr:((p:Int)+(0+(i:Int))) % (bs.length:Int)=((p+i) % may.length:Nat):=by rw [hml];simp
   rw [hfr]
   refine K2.use ?_
   walk_at "cl"
   clear K2
   obtain ⟨f,hf⟩ : ∃ f:Nat,(p+i) % may.length=f:=⟨_,rfl⟩
   have hfl:f < may.length:=by rw [<-hf];exact Nat.mod_lt _ (by omega)
   obtain ⟨r,hr2⟩ : ∃ r,2 * may.length - i=r+1:=⟨2 * may.length - i - 1,by omega⟩
   rw [hr2] at hgo
   rw [KN,hf] at hgo
   rw [hf]
   obtain ⟨my,Vd⟩ : ∃ b,may.getD f false=b:=⟨_,rfl⟩
   obtain ⟨mk,L8⟩ : ∃ b,cur.getD f false=b:=⟨_,rfl⟩
   rw [Vd,L8] at hgo
   have a1:jL (may.map V.bl) ((f:Nat):Int)=some (.bl my):=gK (by omega) (by rw [Int.toNat_natCast,List.getElem?_map,List.getElem?_eq_getElem hfl,<-Vd,List.getD_eq_getElem?_getD,List.getElem?_eq_getElem hfl];rfl)
   have hfc:f < cur.length:=by omega
   have a2:jL (cur.map V.bl) ((f:Nat):Int)=some (.bl mk):=gK (by omega) (by rw [Int.toNat_natCast,List.getElem?_map,List.getElem?_eq_getElem hfc,<-L8,List.getD_eq_getElem?_getD,List.getElem?_eq_getElem hfc];rfl)
   have hr3:2 * may.length - (i+1)=r:=by omega
   cases my with
   | false =>
     rw [if_neg (by simp),if_neg (by simp)] at hgo
     walk_at "gd"
     exact ⟨cur,hl',hcl,by rw [hr3];exact hgo,QM,_,_,rfl⟩
   | true =>
     have hin:true∈may:=by
      rw [List.getD_eq_getElem?_getD,List.getElem?_eq_getElem hfl] at Vd
      exact Vd ▸ List.getElem_mem hfl
     cases mk with
     | false =>
       rw [if_pos ⟨rfl,rfl⟩] at hgo
       walk_at "gd"
       have hl2:=hl'.put (o' := .ins cD dx (rQ ((f+1) % may.length:Nat) m)) rfl rfl
       have e1:((f:Int)+1) % (bs.length:Int)=((f+1) % may.length:Nat):=by rw [hml];simp
       rw [e1]
       exact k1 f cur _ hgo.symm hl2
     | true =>
       rw [if_neg (by simp),if_pos rfl] at hgo
       walk_at "gd"
       refine g9 c2 (dY (by omega) (by rw [List.length_map];omega)) ?_
       rw [OH,Int.toNat_natCast]
       walk_at "gd"
       exact ⟨cur.set f false,Led.TL hl',by rw [List.length_set];exact hcl,by rw [hr3];exact hgo,.inr hin,_,_,rfl⟩
  ·clear hL
   rintro σ H' ⟨cur,hl',hcl,hgo,QM,v1,v2,rfl⟩
   walk_at "gd"
   refine K1.use ?_
   walk_at "cl"
   clear K1
   have hno:true ∉ may:=λ hin=>by
    obtain ⟨r,hr2⟩:=KP hin p bs
    rw [<-hgo,show 2 * may.length - 2 * bs.length=0 by omega] at hr2
    cases hr2
   have hc:cur=bs:=QM.resolve_right hno
   subst hc
   refine mP λ R hR => ?_
   walk_at "gd"
   exact ⟨by decide,k2 _ hno hl'⟩
end
 local macro_rules | `(tactic| walk_at "spf") => `(tactic| (simp only [qP,FS.fill,FS.new,List.cons_append,List.nil_append];walk_at "sp"))
section
variable {P:Program} {w:World} {K:PySem.W.Frag} {mg:Str->Option Value} {base:Heap} {cU cA cB cC cT cF cD cS cI:Addr}
def KQ:Sp:=λ vs H Q _ => ∃ (a b:Addr) (c:Int) (rs ms:List Int) (L:Cells),vs = [.ref a,.int c,.ref b]/\Led H L/\(a,HO.lst (rs.map V.int))∈L/\(b,HO.lst (ms.map V.int))∈L/\0<=c/\rs.length<=100/\ms.length<=100 ∧ ∀ p H',Led H' ((p,.lst ((rs.take c.toNat++ms++rs.drop (c.toNat+ms.length)).map V.int))::L)->Q (.ref p) H'
theorem Ng (D:Def K mg "with_cells" dF) (B:iK mg):bX P w K mg base 1 "with_cells" ["row","cell","numbers"] KQ:=by
 refine D.ok xq (λ vs H Q E h => ?_) (λ _ _ _ _ _ _ us hl=>match us,hl with | [_,_,_],_=>rfl) (λ f cdv A outer s H vs Q E hr h => ?_)
 ·obtain ⟨_,_,_,_,_,_,rfl,_⟩:=h;rfl
 ·obtain ⟨a,b,c,rs,ms,L,rfl,hL,ha,hb,hc,h1,h2,k⟩:=h
  refine ⟨_,(@ak _ _ _ (@aC _ _ _ _ (@au _ _ _ _ _ _ _ _ JA (@au _ _ _ _ _ _ _ _ JA (@j3 _ _ _ _ _ _ _ _ _ _ (uK (K:=K) rfl) (@ao _ 0 _ _ (by walk_at "v")) (@tX _) (@ly _ _ _ (@ao _ 1 _ _ (by walk_at "v")))) (@ao _ 2 _ _ (by walk_at "v"))) (@j3 _ _ _ _ _ _ _ _ _ _ (uK (K:=K) rfl) (@ao _ 0 _ _ (by walk_at "v")) (@ly _ _ _ (@au _ _ _ _ _ _ _ _ aT (@ao _ 1 _ _ (by walk_at "v")) (@aL _ _ _ _ _ _ _ _ _ bD (by rfl) B.len dX (@aa _ _ _ _ _ (@ao _ 2 _ _ (by walk_at "v")) (@ai _) (by rfl)) (by decide) (by decide) (by rfl) (by rfl)))) (@tX _))))),?_⟩
  have c1:=j5 (rs.map V.int) none (some c)
  have c2:=j5 (rs.map V.int) (some (c+(ms.map V.int).length)) none
  simp only [List.length_map] at c1 c2
  have hsz:sizeLine=16777216:=sizeLine_eq
  walk_at "ge"
  rename_i p H' _ hL' _
  refine k p H' ?_
  have e:j4 (rs.map V.int) none (some c)++ms.map V.int++j4 (rs.map V.int) (some (c+(ms.map V.int).length)) none=(rs.take c.toNat++ms++rs.drop (c.toNat+ms.length)).map V.int:=by
   rw [Qe _ hc,JQ _ (by omega),List.map_append,List.map_append,List.map_take,List.map_drop,List.length_map]
   congr 2
   omega
  rw [e] at hL'
  walk_at "led"
theorem BC {α : Type} {f : α->V} {l:List α} {i:Nat} {x : α} (h:l[i]? = some x):jL (l.map f) ((i:Nat):Int)=some (f x):=gK (by omega) (by rw [Int.toNat_natCast,List.getElem?_map,h];rfl)
def zH (cF:Addr):Sp:=λ vs H Q _ => ∃ (F:FS) (i:Nat) (x:Hd) (M:Cells),vs = [.ref F.b,.int (i:Nat)]/\Led H (qP cF F M)/\F.hs[i]? = some x/\Q (aS x) H
theorem Dq (D:bH K cF "thing_in" "Frames.thing_in" bF) (T:Txt K mg cU cA cB cC cT cF cD cS cI):aI P w K mg base 1 cF "thing_in" ["self","frame"] (zH cF):=by
 have sc:=gO
 refine D.ok gO (λ vs H Q E h => ?_) (λ _ _ _ _ _ _ us hl=>match us,hl with | [_,_],_=>rfl) (λ f cdv A outer s H vs Q E hr h => ?_)
 ·obtain ⟨_,_,_,_,rfl,_⟩:=h;rfl
 ·obtain ⟨F,i,x,M,rfl,hL,hx,k⟩:=h
  have hf1:(t8 F.hl F.rl F.sl).lookup (Str.ofString "held")=some (.ref F.hl):=rfl
  have ha:=BC (f:=aS) hx
  refine ⟨_,(@ak _ _ _ (@aC _ _ _ _ (@bB _ _ _ _ _ _ _ aU (@av _ _ _ _ _ _ _ T.Frames T.mT (@ao _ 0 _ _ (by walk_at "v")) (by rfl)) (@ao _ 1 _ _ (by walk_at "v")) (λ _ _=>rfl)))),?_⟩
  walk_at "ge"
  exact k
def Dr (cF:Addr):Sp:=λ vs H Q _ => ∃ (F:FS) (i:Nat) (x:Bool) (M:Cells),vs = [.ref F.b,.int (i:Nat)]/\Led H (qP cF F M)/\F.bs[i]? = some x/\Q (.bl x) H
theorem Ih (D:bH K cF "is_soiled" "Frames.is_soiled" bx) (T:Txt K mg cU cA cB cC cT cF cD cS cI):aI P w K mg base 1 cF "is_soiled" ["self","frame"] (Dr cF):=by
 have sc:=f9
 refine D.ok f9 (λ vs H Q E h => ?_) (λ _ _ _ _ _ _ us hl=>match us,hl with | [_,_],_=>rfl) (λ f cdv A outer s H vs Q E hr h => ?_)
 ·obtain ⟨_,_,_,_,rfl,_⟩:=h;rfl
 ·obtain ⟨F,i,x,M,rfl,hL,hx,k⟩:=h
  have hf1:(t8 F.hl F.rl F.sl).lookup (Str.ofString "soiled")=some (.ref F.sl):=rfl
  have ha:=BC (f:=V.bl) hx
  refine ⟨_,(@ak _ _ _ (@aC _ _ _ _ (@bB _ _ _ _ _ _ _ aU (@av _ _ _ _ _ _ _ T.Frames T.ko (@ao _ 0 _ _ (by walk_at "v")) (by rfl)) (@ao _ 1 _ _ (by walk_at "v")) (λ _ _=>rfl)))),?_⟩
  walk_at "ge"
  exact k
def t9 (cF:Addr):Sp:=λ vs H Q _ => ∃ (F:FS) (i:Nat) (r:Addr) (row:List Int) (M:Cells),vs = [.ref F.b,.int (i:Nat)]/\Led H (qP cF F M)/\F.rs[i]? = some (some (r,row))/\(r,HO.lst (row.map V.int))∈M/\row.length<=600 ∧ ∀ q H',Led H' ((q,.lst (row.map V.int))::qP cF F M)->Q (.ref q) H'
theorem Ii (D:bH K cF "row_in" "Frames.row_in" bR) (B:iK mg) (T:Txt K mg cU cA cB cC cT cF cD cS cI):aI P w K mg base 1 cF "row_in" ["self","frame"] (t9 cF):=by
 have sc:=iW
 refine D.ok iW (λ vs H Q E h => ?_) (λ _ _ _ _ _ _ us hl=>match us,hl with | [_,_],_=>rfl) (λ f cdv A outer s H vs Q E hr h => ?_)
 ·obtain ⟨_,_,_,_,_,rfl,_⟩:=h;rfl
 ·obtain ⟨F,i,r,row,M,rfl,hL,hx,rP,hrl,k⟩:=h
  have hf1:(t8 F.hl F.rl F.sl).lookup (Str.ofString "rows")=some (.ref F.rl):=rfl
  have ha:jL (F.rs.map eX) ((i:Nat):Int)=some (.ref r):=BC (f:=eX) hx
  have hrm:(row.map V.int).length=row.length:=List.length_map _
  refine ⟨_,(@ak _ _ _ (@aC _ _ _ _ (@bw _ _ _ _ _ _ _ _ _ (aP (K:=K) rfl) (by rfl) B.list bZ (@aa _ _ _ _ _ (@bB _ _ _ _ _ _ _ aU (@av _ _ _ _ _ _ _ T.Frames T.pU (@ao _ 0 _ _ (by walk_at "v")) (by rfl)) (@ao _ 1 _ _ (by walk_at "v")) (λ _ _=>rfl)) (@ai _) (by rfl)) (by decide) (by decide) (by rfl) (by rfl)))),?_⟩
  walk_at "ge"
  rename Led _ _=>hl1
  exact k _ _ hl1
theorem OL {H:Hp} : ∀ {hs:List Hd},(∀ t a,some (t,a)∈hs->H t=some (.tup (fN a)))->bO H (hs.map aS) (PySem.W.kqdPs (hs.map λ x=>tR (nK x)))
 | [],_ => .nil
 | x::hs,h=>by
   rw [List.map_cons,List.map_cons,PySem.W.kqdPs]
   refine .cons ?_ (OL λ t a ha=>h t a (mC ha))
   cases x with
   | none=>show fR H .aH (PySem.W.kqdP .none);rw [PySem.W.kqdP];exact .aH
   | some x=>exact KD (h x.1 x.2 mS)
theorem Gs {x:Option Th} (h : ∀ a,x=some a->L7 a) (k:Nat):PySem.W.kqdOk (k+1) (tR x)=true:=by
 cases x with
 | none=>rfl
 | some a=>exact Nc (h a rfl) k
def gv (cF:Addr):Sp:=λ vs H Q _ => ∃ (F:FS) (n:Nat) (x:Hd) (M:Cells),vs = [.ref F.b,aS x]/\Led H (qP cF F M)/\DM F n M/\(∀ t a,x=some (t,a)->(t,HO.tup (fN a))∈M/\L7 a)/\n<=600 ∧
 ((∀ y∈F.hs,nK y≠nK x)->Q .aH H) ∧ ∀ (j:Nat) y,F.hs[j]? = some y->nK y=nK x->(∀ (m:Nat) z,m < j->F.hs[m]? = some z->nK z≠nK x)->Q (.int (j:Nat)) H
theorem KR (D:bH K cF "where" "Frames.where" cy) (B:iK mg) (T:Txt K mg cU cA cB cC cT cF cD cS cI):aI P w K mg base 1 cF "where" ["self","thing"] (gv cF):=by
 have sc:=jD
 refine D.ok jD (λ vs H Q E h => ?_) (λ _ _ _ _ _ _ us hl=>match us,hl with | [_,_],_=>rfl) (λ f cdv A outer s H vs Q E hr h => ?_)
 ·obtain ⟨_,_,_,_,rfl,_⟩:=h;rfl
 ·obtain ⟨F,n,x,M,rfl,hL,g,hx,hn,k0,k1⟩:=h
  have hf1:(t8 F.hl F.rl F.sl).lookup (Str.ofString "held")=some (.ref F.hl):=rfl
  have up : ∀ {c:Addr×HO},c∈M->c∈qP cF F M:=λ h=>mC (mC (mC (mC h)))
  have Fx:H F.hl=some (.lst (F.hs.map aS)):=hL.get (mC mS)
  have d1:fR H (aS x) (PySem.W.kqdP (tR (nK x))):=by
   cases x with
   | none=>show fR H .aH (PySem.W.kqdP .none);rw [PySem.W.kqdP];exact .aH
   | some x=>exact KD (hL.get (up (hx x.1 x.2 rfl).1))
  have d2:=OL (H:=H) (hs:=F.hs) λ t a ha=>hL.get (up (g.th t a ha).1)
  have o1:PySem.W.kqdOk 8 (tR (nK x))=true:=Gs (λ a ha=>by
   cases x with
   | none=>cases ha
   | some x=>cases ha;exact (hx x.1 x.2 rfl).2) 7
  have o2 : ∀ e∈F.hs.map (λ x=>tR (nK x)),PySem.W.kqdOk 7 e=true:=λ e he=>by
   obtain ⟨y,hy,rfl⟩:=List.mem_map.mp he
   refine Gs (λ a ha => ?_) 6
   cases y with
   | none=>cases ha
   | some y=>cases ha;exact (g.th y.1 y.2 hy).2
  refine ⟨_,(@ah _ _ _ _ _ (@aR _ _ _ _ _ _ _ _ (@aX _ _ _ _ _ _ _ _ (Hl hr.units) (@ao _ 1 _ _ (by walk_at "v")) (@av _ _ _ _ _ _ _ T.Frames T.mT (@ao _ 0 _ _ (by walk_at "v")) (by rfl)) (by with_unfolding_all rfl)) (@ak _ _ _ (@aC _ _ _ _ (@dP _ _ _))) (@aE _)) (@ak _ _ _ (@aC _ _ _ _ (@Jx _ _ _ _ _ _ _ _ _ _ _ _ PySem.F.plainAttrs_list PySem.F.slot_list_index PySem.F.type_list_index (Hq hr.units) (@av _ _ _ _ _ _ _ T.Frames T.mT (@ao _ 0 _ _ (by walk_at "v")) (by rfl)) (@aa _ _ _ _ _ (@ao _ 1 _ _ (by walk_at "v")) (@ai _) (by rfl)) (by rfl) (by rfl) (by rfl) (by rfl) (by rfl))))),?_⟩
  refine aD λ M1 K1 => ?_
  walk_at "ge"
  by_cases hin:tR (nK x)∈F.hs.map λ x=>tR (nK x)
  ·refine To (neg:=true) (b:=true) Fx d1 d2 o1 o2 (iff_of_true rfl hin) ?_
   walk_at "ge"
   refine K1.use ?_
   walk_at "cl"
   clear K1
   walk_at "ge"
   refine ⟨Qj Fx,?_⟩
   walk_at "ge"
   obtain ⟨y0,hy0,he0⟩:=List.mem_map.mp hin
   have hex : ∃ y∈F.hs,decide (nK y=nK x)=true:=⟨y0,hy0,decide_eq_true (Dn.mp he0)⟩
   have hlt:F.hs.findIdx (λ y=>decide (nK y=nK x)) < F.hs.length:=List.findIdx_lt_length_of_exists hex
   have hat:=List.getElem?_eq_getElem hlt
   have QN:nK (F.hs[F.hs.findIdx λ y=>decide (nK y=nK x)]'hlt)=nK x:=of_decide_eq_true (List.findIdx_getElem (w:=hlt))
   have hno : ∀ (m:Nat) z,m < F.hs.findIdx (λ y=>decide (nK y=nK x))->F.hs[m]? = some z->nK z≠nK x:=λ m z hm hz=>by
    have h:=List.not_of_lt_findIdx hm
    have hlm:m < F.hs.length:=(List.getElem?_eq_some_iff.mp hz).1
    have e:F.hs[m]=z:=(List.getElem?_eq_some_iff.mp hz).2
    rw [<-e]
    simpa using h
   generalize F.hs.findIdx (λ y=>decide (nK y=nK x))=j at hlt hat QN hno
   refine Tn Fx d1 d2 o1 o2 (j:=j) (by rw [List.getElem?_map,hat];show some (tR _)=_;rw [QN]) (λ m e hm he => ?_) ?_
   ·rw [List.getElem?_map] at he
    obtain ⟨z,hz,rfl⟩:=Option.map_eq_some_iff.mp he
    exact λ q=>hno m z hm hz (Dn.mp q)
   ·walk_at "ge"
    exact k1 j _ hat QN hno
  ·refine To (neg:=true) (b:=false) Fx d1 d2 o1 o2 (iff_of_false Bool.false_ne_true hin) ?_
   walk_at "ge"
   exact k0 λ y hy e=>hin (List.mem_map.mpr ⟨y,hy,by rw [e]⟩)
theorem yU (D:bH K cF "least_free" "Frames.least_free" bg) (T:Txt K mg cU cA cB cC cT cF cD cS cI) (aQ:aI P w K mg base 1 cF "where" ["self","thing"] (gv cF)):aI P w K mg base 2 cF "least_free" ["self"] (λ vs H Q E => ∃ b,vs = [.ref b]/\gv cF [.ref b,.aH] H Q E):=by
 have sc:=fS
 refine D.ok fS (λ vs H Q E h => ?_) (λ _ _ _ _ _ _ us hl=>match us,hl with | [_],_=>rfl) (λ f cdv A outer s H vs Q E hr h => ?_)
 ·obtain ⟨_,rfl,_⟩:=h;rfl
 ·obtain ⟨b,rfl,F,n,x,M,e,hL,g,hx,hn,k0,k1⟩:=h
  obtain ⟨rfl,ex⟩:b=F.b/\aS x = .aH:=by
   injection e with e1 e2
   injection e1 with e1
   injection e2 with e2
   exact ⟨e1,e2.symm⟩
  refine ⟨_,(@ak _ _ _ (@aC _ _ _ _ (@aK _ _ _ _ _ _ _ _ _ _ _ _ _ _ _ _ T.Frames aQ (hr.mono (by omega)) aB (@ao _ 0 _ _ (by walk_at "v")) (@aa _ _ _ _ _ (@dP _ _ _) (@ai _) (by rfl)) (by rfl) (by rfl) (by rfl)))),?_⟩
  walk_at "ge"
  refine ⟨F,n,x,M,by rw [ex];rfl,hL,g,hx,hn,λ h => ?_,λ j y h1 h2 h3 => ?_⟩
  ·walk_at "ge"
   exact k0 h
  ·walk_at "ge"
   exact k1 j y h1 h2 h3
def wB (cF:Addr):Sp:=λ vs H Q _ => ∃ (F:FS) (M:Cells),vs = [.ref F.b]/\Led H (qP cF F M)/\F.hs.length<=600 ∧ ∀ q H',Led H' ((q,.lst (F.hs.map aS))::qP cF F M)->Q (.ref q) H'
theorem Ij (D:bH K cF "things" "Frames.things" bT) (B:iK mg) (T:Txt K mg cU cA cB cC cT cF cD cS cI):aI P w K mg base 1 cF "things" ["self"] (wB cF):=by
 have sc:=iY
 refine D.ok iY (λ vs H Q E h => ?_) (λ _ _ _ _ _ _ us hl=>match us,hl with | [_],_=>rfl) (λ f cdv A outer s H vs Q E hr h => ?_)
 ·obtain ⟨_,_,rfl,_⟩:=h;rfl
 ·obtain ⟨F,M,rfl,hL,hn,k⟩:=h
  have hf1:(t8 F.hl F.rl F.sl).lookup (Str.ofString "held")=some (.ref F.hl):=rfl
  have m1:(F.hs.map aS).length=F.hs.length:=List.length_map _
  refine ⟨_,(@ak _ _ _ (@aC _ _ _ _ (@bw _ _ _ _ _ _ _ _ _ (aP (K:=K) rfl) (by rfl) B.list bZ (@aa _ _ _ _ _ (@av _ _ _ _ _ _ _ T.Frames T.mT (@ao _ 0 _ _ (by walk_at "v")) (by rfl)) (@ai _) (by rfl)) (by decide) (by decide) (by rfl) (by rfl)))),?_⟩
  walk_at "ge"
  rename Led _ _=>hl1
  exact k _ _ hl1
def Gu (cF:Addr):Sp:=λ vs H Q _ => ∃ (F:FS) (n i:Nat) (c:Int) (q r:Addr) (row ms:List Int) (M:Cells),vs = [.ref F.b,.int (i:Nat),.int c,.ref q]/\Led H (qP cF F M)/\DM F n M/\i < n/\F.rs[i]? = some (some (r,row))/\(q,HO.lst (ms.map V.int))∈M/\0<=c/\row.length<=100/\ms.length<=100 ∧
 ∀ p H',Led H' (qP cF { F with rs:=F.rs.set i (some (p,row.take c.toNat++ms++row.drop (c.toNat+ms.length))),bs:=F.bs.set i true } ((p,.lst ((row.take c.toNat++ms++row.drop (c.toNat+ms.length)).map V.int))::M))->Q .aH H'
theorem Ik (D:bH K cF "put_in" "Frames.put_in" bS) (B:iK mg) (T:Txt K mg cU cA cB cC cT cF cD cS cI) (BD:bX P w K mg base 1 "with_cells" ["row","cell","numbers"] KQ):aI P w K mg base 2 cF "put_in" ["self","frame","cell","numbers"] (Gu cF):=by
 have sc:=iX
 refine D.ok iX (λ vs H Q E h => ?_) (λ _ _ _ _ _ _ us hl=>match us,hl with | [_,_,_,_],_=>rfl) (λ f cdv A outer s H vs Q E hr h => ?_)
 ·obtain ⟨_,_,_,_,_,_,_,_,_,rfl,_⟩:=h;rfl
 ·obtain ⟨F,n,i,c,q,r,row,ms,M,rfl,hL,g,hi,hx,Ve,c0,h1,h2,k⟩:=h
  have hf2:(t8 F.hl F.rl F.sl).lookup (Str.ofString "rows")=some (.ref F.rl):=rfl
  have hf3:(t8 F.hl F.rl F.sl).lookup (Str.ofString "soiled")=some (.ref F.sl):=rfl
  have rP:=g.rw r row (List.mem_of_getElem? hx)
  have ha:jL (F.rs.map eX) ((i:Nat):Int)=some (.ref r):=BC (f:=eX) hx
  have gr:=g.r
  have gs:=g.s
  have m2:(F.rs.map eX).length=F.rs.length:=List.length_map _
  have m3:(F.bs.map V.bl).length=F.bs.length:=List.length_map _
  have up : ∀ {c:Addr×HO},c∈M->c∈qP cF F M:=λ h=>mC (mC (mC (mC h)))
  refine ⟨_,(@ah _ _ _ _ _ (@dW _ _ _ _ _ _ (@az _ _ _ _ _ _ _ _ _ _ _ BD (hr.mono (by omega)) (by rfl) aB (@aa _ _ _ _ _ (@bB _ _ _ _ _ _ _ aU (@av _ _ _ _ _ _ _ T.Frames T.pU (@ao _ 0 _ _ (by walk_at "v")) (by rfl)) (@ao _ 1 _ _ (by walk_at "v")) (λ _ _=>rfl)) (@aa _ _ _ _ _ (@ao _ 2 _ _ (by walk_at "v")) (@aa _ _ _ _ _ (@ao _ 3 _ _ (by walk_at "v")) (@ai _) (by rfl)) (by rfl)) (by rfl)) (by decide) (by rfl) (by rfl)) (@eE _ _ _ _ _ _ _ (@av _ _ _ _ _ _ _ T.Frames T.pU (@ao _ 0 _ _ (by walk_at "v")) (by rfl)) (@ao _ 1 _ _ (by walk_at "v")) set_list (by intro _;rfl)) (by rfl) (by rfl) (by rfl)) (@ak _ _ _ (@dW _ _ _ _ _ _ (@bY _ _ _ _) (@eE _ _ _ _ _ _ _ (@av _ _ _ _ _ _ _ T.Frames T.ko (@ao _ 0 _ _ (by walk_at "v")) (by rfl)) (@ao _ 1 _ _ (by walk_at "v")) set_list (by intro _;rfl)) (by rfl) (by rfl) (by rfl)))),?_⟩
  refine aD λ M1 K1 => ?_
  walk_at "ge"
  refine ⟨r,q,c,row,ms,_,rfl,hL,up rP,up Ve,c0,h1,h2,λ p H2 hl2 => ?_⟩
  generalize row.take c.toNat++ms++row.drop (c.toNat+ms.length)=nw at hl2 k
  walk_at "ge"
  refine g9 (hl2.get (mC (mC (mC mS)))) (dY (by omega) (by omega)) ?_
  rw [Int.toNat_natCast,show (F.rs.map eX).set i (V.ref p)=(F.rs.set i (some (p,nw))).map eX by rw [List.map_set];rfl]
  have c8:Led (upd H2 F.rl (.lst ((F.rs.set i (some (p,nw))).map eX))) ((p,.lst (nw.map V.int))::(F.b,.ins cF F.dx (t8 F.hl F.rl F.sl))::(F.hl,.lst (F.hs.map aS))::(F.rl,.lst ((F.rs.set i (some (p,nw))).map eX))::(F.sl,.lst (F.bs.map V.bl))::M):=hl2.r9 3 rfl rfl rfl
  generalize upd H2 F.rl (.lst ((F.rs.set i (some (p,nw))).map eX))=H4 at c8 ⊢
  walk_at "ge"
  refine K1.use ?_
  walk_at "cl"
  clear K1 hl2 hL
  walk_at "ge"
  refine g9 (c8.get (mC (mC (mC (mC mS))))) (dY (by omega) (by omega)) ?_
  rw [Int.toNat_natCast,show (F.bs.map V.bl).set i (V.bl true)=(F.bs.set i true).map V.bl by rw [List.map_set]]
  have dh:Led (upd H4 F.sl (.lst ((F.bs.set i true).map V.bl))) ((p,.lst (nw.map V.int))::(F.b,.ins cF F.dx (t8 F.hl F.rl F.sl))::(F.hl,.lst (F.hs.map aS))::(F.rl,.lst ((F.rs.set i (some (p,nw))).map eX))::(F.sl,.lst ((F.bs.set i true).map V.bl))::M):=c8.r9 4 rfl rfl rfl
  walk_at "ge"
  exact k p _ (dh.wk (by walk_at "spf"))
def B0 (l d:Addr):List (Str×V):=[("placed",.ref l),("row_by_sheet",.ref d)]
def wU (cS b dx l d:Addr) (ps:List V) (es:jN):Cells:=(b,.ins cS dx (B0 l d))::(l,.lst ps)::(d,.dK (t7 es))::iU es
section
variable {b dx l d:Addr} {ps:List V} {es:jN} {L:Cells}
theorem Nh:(b,HO.ins cS dx (B0 l d))∈wU cS b dx l d ps es++L:=mS
theorem sk2:(l,HO.lst ps)∈wU cS b dx l d ps es++L:=mC mS
theorem sk3:(d,HO.dK (t7 es))∈wU cS b dx l d ps es++L:=mC (mC mS)
theorem sk4 {e:Int×Addr×List Int} (h:e∈es):(e.2.1,HO.lst (e.2.2.map V.int))∈wU cS b dx l d ps es++L:=mB (mC (mC (mC (List.mem_map.mpr ⟨e,h,rfl⟩))))
end
def idx (ps:List V) (y:V):Nat:=ps.findIdx λ v=>Aa v y
theorem BE {ps:List V} {y:V} (h:nX y ps=true) : ∃ v,ps[idx ps y]? = some v/\Aa v y=true:=by
 unfold nX at h
 rw [List.any_eq_true] at h
 obtain ⟨v,hv,he⟩:=h
 have hlt:ps.findIdx (λ v=>Aa v y) < ps.length:=List.findIdx_lt_length_of_exists ⟨v,hv,he⟩
 exact ⟨ps[ps.findIdx λ v=>Aa v y],List.getElem?_eq_getElem hlt,List.findIdx_getElem (w:=hlt)⟩
theorem QT {ps:List V} {y:V} {m:Nat} {v:V} (hm:m < idx ps y) (hv:ps[m]? = some v):Aa v y=false:=by
 unfold idx at hm
 have h:=List.not_of_lt_findIdx hm
 have hlt:m < ps.length:=(List.getElem?_eq_some_iff.mp hv).1
 have e:ps[m]=v:=(List.getElem?_eq_some_iff.mp hv).2
 rw [<-e]
 simpa using h
theorem KS {ps:List V} {y:V} (h:nX y ps=true):idx ps y < ps.length:=by
 obtain ⟨v,hv,_⟩:=BE h
 exact (List.getElem?_eq_some_iff.mp hv).1
theorem TM {H:Hp} {Q:VK} {l:Addr} {ps:List V} {y:V} (h1:H l=some (.lst ps)) (fy:eK y=true) (fs:ps.all eK=true) (hin:nX y ps=true) (h:Q (.int (idx ps y:Nat)) H):Ef (.ref l) [y] H Q:=by
 obtain ⟨v,hv,he⟩:=BE hin
 exact Qo h1 fy fs hv he (λ m w hm hw=>QT hm hw) h
theorem aaz (n:Nat):(List.replicate n [V.aH]).flatten=List.replicate n V.aH:=by
 induction n with
 | zero=>rfl
 | succ n ih=>rw [List.replicate_succ,List.flatten_cons,ih,List.replicate_succ];rfl
def Gv (cS:Addr):Sp:=λ vs H Q _ => ∃ (b dx:Addr) (n:Int) (L:Cells),vs = [.ref b,.int n]/\Led H ((b,.ins cS dx [])::L)/\0<=n/\n<=600 ∧ ∀ l d H',Led H' (wU cS b dx l d (List.replicate n.toNat .aH) []++L)->Q .aH H'
theorem Il (D:mL K cS "Shelf.__init__" dG) (T:Txt K mg cU cA cB cC cT cF cD cS cI):g8 P w K mg base 1 cS ["self","many"] (Gv cS):=by
 have sc:=lZ
 refine D.ok lZ (λ vs H Q E h => ?_) (λ _ _ _ _ _ _ us hl=>match us,hl with | [_,_],_=>rfl) (λ f cdv A outer s H vs Q E hr h => ?_)
 ·obtain ⟨_,_,_,_,rfl,_⟩:=h;rfl
 ·obtain ⟨b,dx,n,L,rfl,hL,h0,Nd,k⟩:=h
  refine ⟨_,(@ah _ _ _ _ _ (@b6 _ _ _ _ _ _ _ _ _ _ T.eL T.gP (@ao _ 0 _ _ (by walk_at "v")) (@au _ _ _ _ _ _ _ _ uv (@jh _ _ _ _ (@aa _ _ _ _ _ (@dP _ _ _) (@ai _) (by rfl))) (@ao _ 1 _ _ (by walk_at "v"))) (by rfl)) (@ak _ _ _ (@b6 _ _ _ _ _ _ _ _ _ _ T.eL T.eN (@ao _ 0 _ _ (by walk_at "v")) (@uu _ _) (by rfl)))),?_⟩
  refine aD λ M1 K1 => ?_
  walk_at "gd"
  rename_i l0 H2 _ hl2 _ _ _
  refine JR (hl2.get mS) ⟨by omega,by omega⟩ (by have:=sizeLine_eq;simp only [List.length_cons,List.length_nil];omega) (Led.alloc hl2 λ l H3 _ hl3 _ => ?_)
  rw [aaz] at hl3
  walk_at "gd"
  refine K1.use ?_
  walk_at "cl"
  clear K1
  have c8:Led H3 ((b,.ins cS dx [])::(l,.lst (List.replicate n.toNat .aH))::L):=hl3.wk (by walk_at "sp")
  have dh:Led (upd H3 b (.ins cS dx (cK (Str.ofString "placed") (V.ref l) []))) ((b,.ins cS dx [("placed",.ref l)])::(l,.lst (List.replicate n.toNat .aH))::L):=c8.put rfl rfl
  generalize upd H3 b (.ins cS dx (cK (Str.ofString "placed") (V.ref l) []))=H4 at dh ⊢
  clear c8 hl3 hl2 hL
  walk_at "gd"
  rename_i d H5 _ fW _
  have jW:=(fW.swap).put (o' := .ins cS dx (B0 l d)) rfl rfl
  exact k l d _ (jW.wk (by unfold wU iU;simp only [t7,List.map_nil,List.cons_append,List.nil_append];walk_at "sp"))
def Fy (cS:Addr):Sp:=λ vs H Q _ => ∃ (b dx l d:Addr) (ps:List V),vs = [.ref b]/\H b=some (.ins cS dx (B0 l d))/\H l=some (.lst ps)/\ps.all eK=true/\Q (.bl (!nX .aH ps)) H
theorem Ni (D:bH K cS "is_full" "Shelf.is_full" bU) (T:Txt K mg cU cA cB cC cT cF cD cS cI):aI P w K mg base 1 cS "is_full" ["self"] (Fy cS):=by
 have sc:=iZ
 refine D.ok iZ (λ vs H Q E h => ?_) (λ _ _ _ _ _ _ us hl=>match us,hl with | [_],_=>rfl) (λ f cdv A outer s H vs Q E hr h => ?_)
 ·obtain ⟨_,_,_,_,_,rfl,_⟩:=h;rfl
 ·obtain ⟨b,dx,l,d,ps,rfl,c1,c2,fs,k⟩:=h
  have hf:(B0 l d).lookup (Str.ofString "placed")=some (.ref l):=rfl
  refine ⟨_,(@ak _ _ _ (@aC _ _ _ _ (@lu _ _ _ _ _ _ _ _ Ac (@dP _ _ _) (@av _ _ _ _ _ _ _ T.eL T.gP (@ao _ 0 _ _ (by walk_at "v")) (by rfl)) (by with_unfolding_all rfl)))),?_⟩
  walk_at "gd"
  refine ⟨l,ps,rfl,.inl (fE.of c2),rfl,fs,?_⟩
  walk_at "gd"
  exact k
def Ds (cS:Addr):Sp:=λ vs H Q _ => ∃ (b dx l d:Addr) (ps:List V) (L:Cells),vs = [.ref b]/\Led H L/\H b=some (.ins cS dx (B0 l d))/\H l=some (.lst ps) ∧ ∀ r H',Led H' ((r,.lst ps)::L)->Q (.ref r) H'
theorem Im (D:bH K cS "sheets" "Shelf.sheets" cE) (B:iK mg) (T:Txt K mg cU cA cB cC cT cF cD cS cI):aI P w K mg base 1 cS "sheets" ["self"] (Ds cS):=by
 have sc:=jF
 refine D.ok jF (λ vs H Q E h => ?_) (λ _ _ _ _ _ _ us hl=>match us,hl with | [_],_=>rfl) (λ f cdv A outer s H vs Q E hr h => ?_)
 ·obtain ⟨_,_,_,_,_,_,rfl,_⟩:=h;rfl
 ·obtain ⟨b,dx,l,d,ps,L,rfl,hL,c1,c2,k⟩:=h
  have hf:(B0 l d).lookup (Str.ofString "placed")=some (.ref l):=rfl
  refine ⟨_,(@ak _ _ _ (@aC _ _ _ _ (@bw _ _ _ _ _ _ _ _ _ (aP (K:=K) rfl) (by rfl) B.list bZ (@aa _ _ _ _ _ (@av _ _ _ _ _ _ _ T.eL T.gP (@ao _ 0 _ _ (by walk_at "v")) (by rfl)) (@ai _) (by rfl)) (by decide) (by decide) (by rfl) (by rfl)))),?_⟩
  walk_at "gd"
  rename_i r H1 _ hl1 _
  exact k r _ hl1
def OM (cS cU:Addr):Sp:=λ vs H Q E => ∃ (b dx l d r:Addr) (n:Int) (row:List Int) (ps:List V) (es:jN) (L:Cells),vs = [.ref b,.int n,.ref r]/\Led H (wU cS b dx l d ps es++L)/\(r,HO.lst (row.map V.int))∈L/\ps.all eK=true/\n ∉ es.map (·.1)/\es.length<=600 ∧
 (nX .aH ps=true->∀ a H',Led H' (wU cS b dx l d (ps.set (idx ps .aH) (.int n)) (es++[(n,a,row)])++L)->Q (.int (idx ps .aH:Nat)) H')/\(nX .aH ps=false->E (.ref cU) none H)
theorem Io (es:jN) (n:Int) (a:Addr) (row:List Int):iU (es++[(n,a,row)])=iU es++[(a,HO.lst (row.map V.int))]:=by unfold iU;rw [List.map_append];rfl
theorem QU (D:bH K cS "put_on" "Shelf.put_on" cz) (B:iK mg) (T:Txt K mg cU cA cB cC cT cF cD cS cI) (fY:aI P w K mg base 1 cS "is_full" ["self"] (Fy cS)):aI P w K mg base 2 cS "put_on" ["self","sheet","row"] (OM cS cU):=by
 have sc:=jE
 refine D.Cu jE (λ vs H Q E h => ?_) (λ _ _ _ _ _ _ us hl=>match us,hl with | [_,_,_],_=>rfl) (λ f cdv A outer s H vs Q E hr h => ?_)
 ·obtain ⟨_,_,_,_,_,_,_,_,_,_,rfl,_⟩:=h;rfl
 ·obtain ⟨b,dx,l,d,r,n,row,ps,es,L,rfl,hL,rP,fs,hn,Nd,k1,k2⟩:=h
  have hu:=gi hr
  have hf1:(B0 l d).lookup (Str.ofString "placed")=some (.ref l):=rfl
  have hf2:(B0 l d).lookup (Str.ofString "row_by_sheet")=some (.ref d):=rfl
  have c1:=hL.get (Nh (cS:=cS) (b:=b) (dx:=dx) (l:=l) (d:=d) (ps:=ps) (es:=es) (L:=L))
  have c2:=hL.get (sk2 (cS:=cS) (b:=b) (dx:=dx) (l:=l) (d:=d) (ps:=ps) (es:=es) (L:=L))
  refine ⟨_,(@ah _ _ _ _ _ (@aR _ _ _ _ _ _ _ _ (@aY _ _ _ (@gA _ _ _ _ _ _ _ _ _ _ _ _ _ T.eL fY (hr.mono (by omega)) aB (@ao _ 0 _ _ (by walk_at "v")) (by rfl)) (by intro _;rfl)) (@ak _ _ _ (@iT _ _ _ _ _ _ _ _ _ _ _ _ _ _ _ _ _ _ _ _ _ _ T.Full (by rfl) (@aa _ _ _ _ _ (@dU _ _ _ _) (@ai _) (by rfl)) (by decide) (by rfl))) (@aE _)) (@ah _ _ _ _ _ (@aJ _ _ 3 _ _ _ _ sc.nd rfl (by walk_at "o2") (@Jx _ _ _ _ _ _ _ _ _ _ _ _ PySem.F.plainAttrs_list PySem.F.slot_list_index PySem.F.type_list_index Cv (@av _ _ _ _ _ _ _ T.eL T.gP (@ao _ 0 _ _ (by walk_at "v")) (by rfl)) (@aa _ _ _ _ _ (@dP _ _ _) (@ai _) (by rfl)) (by rfl) (by rfl) (by rfl) (by rfl) (by rfl)) (by rfl) (by walk_at "o4")) (@ah _ _ _ _ _ (@dW _ _ _ _ _ _ (@ao _ 1 _ _ (by walk_at "v")) (@eE _ _ _ _ _ _ _ (@av _ _ _ _ _ _ _ T.eL T.gP (@ao _ 0 _ _ (by walk_at "v")) (by rfl)) (@ao _ 3 _ _ (by walk_at "v")) set_list (by intro _;rfl)) (by rfl) (by rfl) (by rfl)) (@ah _ _ _ _ _ (@ji _ _ _ _ _ _ _ _ _ hu (@av _ _ _ _ _ _ _ T.eL T.eN (@ao _ 0 _ _ (by walk_at "v")) (by rfl)) (@ao _ 1 _ _ (by walk_at "v")) (@bw _ _ _ _ _ _ _ _ _ (aP (K:=K) rfl) (by rfl) B.list bZ (@aa _ _ _ _ _ (@ao _ 2 _ _ (by walk_at "v")) (@ai _) (by rfl)) (by decide) (by decide) (by rfl) (by rfl)) rfl) (@ak _ _ _ (@aC _ _ _ _ (@ao _ 3 _ _ (by walk_at "v")))))))),?_⟩
  refine aD λ M1 K1 => ?_
  walk_at "ge"
  refine ⟨b,dx,l,d,ps,rfl,c1,c2,fs,?_⟩
  cases hin:nX .aH ps with
  | false =>
    walk_at "ge"
    refine mP λ R hR => ?_
    walk_at "ge"
    exact ⟨by decide,k2 hin⟩
  | true =>
    walk_at "ge"
    refine K1.use ?_
    walk_at "cl"
    clear K1
    refine aD λ M1 K1 => ?_
    walk_at "ge"
    refine ⟨Qj c2,?_⟩
    walk_at "ge"
    refine TM c2 rfl fs hin ?_
    walk_at "ge"
    refine K1.use ?_
    walk_at "cl"
    clear K1
    have hlt:=KS hin
    refine aD λ M1 K1 => ?_
    walk_at "ge"
    refine g9 c2 (dY (by omega) (by omega)) ?_
    rw [Int.toNat_natCast]
    have hl2:Led (upd H l (.lst (ps.set (idx ps .aH) (.int n)))) (wU cS b dx l d (ps.set (idx ps .aH) (.int n)) es++L):=(Led.put (Led.swap (show Led H ((b,.ins cS dx (B0 l d))::(l,.lst ps)::((d,.dK (t7 es))::iU es++L)) from hL)) rfl rfl).swap
    generalize upd H l (.lst (ps.set (idx ps .aH) (.int n)))=H2 at hl2 ⊢
    generalize ps.set (idx ps .aH) (.int n)=ps2 at hl2 k1
    walk_at "ge"
    refine K1.use ?_
    walk_at "cl"
    clear K1 c1 c2 hL
    have c1:=hl2.get (Nh (cS:=cS) (b:=b) (dx:=dx) (l:=l) (d:=d) (ps:=ps2) (es:=es) (L:=L))
    have nL:=hl2.get (mA rP)
    have aeO:Led H2 ((b,.ins cS dx (B0 l d))::(l,.lst ps2)::(d,.dK (t7 es))::(iU es++L)):=hl2
    clear hl2
    refine aD λ M1 K1 => ?_
    walk_at "ge"
    rename_i a H3 _ hl3 _ _ _ _ _ _ _
    have c8:Led H3 ((d,.dK (t7 es))::(b,.ins cS dx (B0 l d))::(l,.lst ps2)::(iU es++((a,.lst (row.map V.int))::L))):=hl3.wk (by walk_at "sp")
    refine JS (c8.get mS) (by unfold t7;rw [List.length_map];have:=sizeLine_eq;omega) ?_
    rw [MN hn a row]
    have dh:=c8.put (o' := .dK (t7 (es++[(n,a,row)]))) rfl rfl
    walk_at "ge"
    refine K1.use ?_
    walk_at "ge"
    refine k1 hin a _ (dh.wk ?_)
    unfold wU
    rw [Io]
    simp only [List.cons_append,List.append_assoc,List.nil_append]
    walk_at "sp"
def Fz (cS:Addr):Sp:=λ vs H Q _ => ∃ (b dx l d:Addr) (ps:List V) (es:jN) (e:Int×Addr×List Int) (L:Cells),vs = [.ref b,.int e.1]/\Led H (wU cS b dx l d ps es++L)/\ps.all eK=true/\nX (.int e.1) ps=true/\(es.map (·.1)).Nodup/\e∈es ∧
 ∀ H',Led H' ((e.2.1,.lst (e.2.2.map V.int))::(wU cS b dx l d (ps.set (idx ps (.int e.1)) .aH) (es.filter λ x=>decide (x.1≠e.1))++L))->Q (.ref e.2.1) H'
theorem Nj (D:bH K cS "take_off" "Shelf.take_off" bM) (B:iK mg) (T:Txt K mg cU cA cB cC cT cF cD cS cI):aI P w K mg base 1 cS "take_off" ["self","sheet"] (Fz cS):=by
 have sc:=ig
 refine D.ok ig (λ vs H Q E h => ?_) (λ _ _ _ _ _ _ us hl=>match us,hl with | [_,_],_=>rfl) (λ f cdv A outer s H vs Q E hr h => ?_)
 ·obtain ⟨_,_,_,_,_,_,_,_,rfl,_⟩:=h;rfl
 ·obtain ⟨b,dx,l,d,ps,es,e,L,rfl,hL,fs,hin,nd,he,k⟩:=h
  have hu:=gi hr
  have hf1:(B0 l d).lookup (Str.ofString "placed")=some (.ref l):=rfl
  have hf2:(B0 l d).lookup (Str.ofString "row_by_sheet")=some (.ref d):=rfl
  have yV:Led H ((b,.ins cS dx (B0 l d))::(l,.lst ps)::(d,.dK (t7 es))::(iU es++L)):=hL
  have c2:H l=some (.lst ps):=yV.get (mC mS)
  have hlt:=KS hin
  have hv:bA (t7 es) (.inl e.1)=some (.ref e.2.1):=by rw [Au,n6 nd he];rfl
  refine ⟨_,(@ah _ _ _ _ _ (@dW _ _ _ _ _ _ (@dP _ _ _) (@eE _ _ _ _ _ _ _ (@av _ _ _ _ _ _ _ T.eL T.gP (@ao _ 0 _ _ (by walk_at "v")) (by rfl)) (@Jx _ _ _ _ _ _ _ _ _ _ _ _ PySem.F.plainAttrs_list PySem.F.slot_list_index PySem.F.type_list_index Cv (@av _ _ _ _ _ _ _ T.eL T.gP (@ao _ 0 _ _ (by walk_at "v")) (by rfl)) (@aa _ _ _ _ _ (@ao _ 1 _ _ (by walk_at "v")) (@ai _) (by rfl)) (by rfl) (by rfl) (by rfl) (by rfl) (by rfl)) set_list (by intro _;rfl)) (by rfl) (by rfl) (by rfl)) (@ak _ _ _ (@aC _ _ _ _ (@Ce _ _ _ _ _ _ _ (@av _ _ _ _ _ _ _ T.eL T.eN (@ao _ 0 _ _ (by walk_at "v")) (by rfl)) (@ao _ 1 _ _ (by walk_at "v")) ⟨rfl,rfl,rfl,rfl⟩)))),?_⟩
  refine aD λ M1 K1 => ?_
  walk_at "ge"
  refine ⟨Qj c2,?_⟩
  walk_at "ge"
  refine TM c2 rfl fs hin ?_
  walk_at "ge"
  refine g9 c2 (dY (by omega) (by omega)) ?_
  rw [Int.toNat_natCast]
  have hl2:Led (upd H l (.lst (ps.set (idx ps (.int e.1)) .aH))) ((b,.ins cS dx (B0 l d))::(l,.lst (ps.set (idx ps (.int e.1)) .aH))::(d,.dK (t7 es))::(iU es++L)):=(Led.put (Led.swap yV) rfl rfl).swap
  generalize upd H l (.lst (ps.set (idx ps (.int e.1)) .aH))=H2 at hl2 ⊢
  generalize ps.set (idx ps (.int e.1)) .aH=ps2 at hl2 k
  walk_at "ge"
  refine K1.use ?_
  walk_at "cl"
  clear K1 c2 hL yV
  have c3:H2 d=some (.dK (t7 es)):=hl2.get (mC (mC mS))
  walk_at "ge"
  refine JT λ R5 hR5 => ?_
  walk_at "ge"
  refine OF c3 hv ?_
  rw [JX]
  obtain ⟨as,bs,hab,aaA⟩:=Ho nd he
  have hl3:Led H2 ((d,.dK (t7 es))::(e.2.1,.lst (e.2.2.map V.int))::(b,.ins cS dx (B0 l d))::(l,.lst ps2)::(iU as++(iU bs++L))):=by
   have TN:=hl2
   rw [hab,JY,<-hab] at TN
   exact TN.wk (by simp only [List.append_assoc,List.cons_append];walk_at "sp")
  have c8:=hl3.put (o' := .dK (t7 (es.filter λ x=>decide (x.1≠e.1)))) rfl rfl
  walk_at "ge"
  refine k _ (c8.wk ?_)
  unfold wU
  rw [aaA,JZ]
  simp only [List.cons_append,List.append_assoc]
  walk_at "sp"
def Gw (cS:Addr):Sp:=λ vs H Q _ => ∃ (b dx l d:Addr) (ps:List V) (es:jN) (e:Int×Addr×List Int) (L:Cells),vs = [.ref b,.int e.1]/\Led H (wU cS b dx l d ps es++L)/\(es.map (·.1)).Nodup/\e∈es ∧ ∀ r H',Led H' ((r,.lst (e.2.2.map V.int))::(wU cS b dx l d ps es++L))->Q (.ref r) H'
theorem Ip (D:bH K cS "row_of_sheet" "Shelf.row_of_sheet" aZ) (B:iK mg) (T:Txt K mg cU cA cB cC cT cF cD cS cI):aI P w K mg base 1 cS "row_of_sheet" ["self","sheet"] (Gw cS):=by
 have sc:=eY
 refine D.ok eY (λ vs H Q E h => ?_) (λ _ _ _ _ _ _ us hl=>match us,hl with | [_,_],_=>rfl) (λ f cdv A outer s H vs Q E hr h => ?_)
 ·obtain ⟨_,_,_,_,_,_,_,_,rfl,_⟩:=h;rfl
 ·obtain ⟨b,dx,l,d,ps,es,e,L,rfl,hL,nd,he,k⟩:=h
  have hu:=gi hr
  have hf:(B0 l d).lookup (Str.ofString "row_by_sheet")=some (.ref d):=rfl
  have c1:=hL.get (Nh (cS:=cS) (b:=b) (dx:=dx) (l:=l) (d:=d) (ps:=ps) (es:=es) (L:=L))
  have c3:=hL.get (sk3 (cS:=cS) (b:=b) (dx:=dx) (l:=l) (d:=d) (ps:=ps) (es:=es) (L:=L))
  have c4:=hL.get (sk4 (cS:=cS) (b:=b) (dx:=dx) (l:=l) (d:=d) (ps:=ps) (L:=L) he)
  have hv:bA (t7 es) (.inl e.1)=some (.ref e.2.1):=by rw [Au,n6 nd he];rfl
  refine ⟨_,(@ak _ _ _ (@aC _ _ _ _ (@bw _ _ _ _ _ _ _ _ _ (aP (K:=K) rfl) (by rfl) B.list bZ (@aa _ _ _ _ _ (@g7 _ _ _ _ _ _ hu (@av _ _ _ _ _ _ _ T.eL T.eN (@ao _ 0 _ _ (by walk_at "v")) (by rfl)) (@ao _ 1 _ _ (by walk_at "v")) (λ _ _=>rfl)) (@ai _) (by rfl)) (by decide) (by decide) (by rfl) (by rfl)))),?_⟩
  walk_at "ge"
  refine OE c3 hv ?_
  walk_at "ge"
  rename_i r H1 _ hl1 _
  exact k r _ hl1
end
section
variable {P:Program} {w:World} {K:PySem.W.Frag} {mg:Str->Option Value} {base:Heap} {cU cA cB cC cT cF cD cS cI:Addr}
def iG (d:Addr):List (Str×V):=[("rows_by_name",.ref d)]
abbrev Iq (cI b dx d:Addr) (es:cM) (R:Cells):Cells:=(b,.ins cI dx (iG d))::(d,.dK (wR es))::(mQ es++R)
structure FH (cI:Addr) (H:Hp) (b dx d:Addr) (es:cM):Prop where
 cb:H b=some (.ins cI dx (iG d))
 cd:H d=some (.dK (wR es))
 cf : ∀ e∈es,H e.2.1=some (.lst (nJ e.2.2))
 nd:(es.map (·.1)).Nodup
theorem FH.of {cI:Addr} {H:Hp} {b dx d:Addr} {es:cM} {R:Cells} (hL:Led H (Iq cI b dx d es R)) (nd:(es.map (·.1)).Nodup):FH cI H b dx d es :=
 ⟨hL.get mS,hL.get (mC mS),λ e he=>hL.get (mC (mC (mB (J0 he)))),nd⟩
theorem KU (es:cM) (z:Str):(bA (wR es) (.inr z)).isSome=decide (z∈es.map (·.1)):=by
 by_cases h:z∈es.map (·.1)
 ·rw [decide_eq_true h,Aw,Option.isSome_map]
  obtain ⟨e,he,rfl⟩:=List.mem_map.mp h
  rw [List.find?_isSome]
  exact ⟨e,he,decide_eq_true rfl⟩
 ·rw [decide_eq_false h,Cy h];rfl
def Gx (cI:Addr):Sp:=λ vs H Q _ => ∃ (b dx:Addr) (L:Cells),vs = [.ref b]/\Led H ((b,.ins cI dx [])::L) ∧ ∀ d H',Led H' (Iq cI b dx d [] L)->Q .aH H'
theorem KW (D:mL K cI "Files.__init__" dB) (T:Txt K mg cU cA cB cC cT cF cD cS cI):g8 P w K mg base 1 cI ["self"] (Gx cI):=by
 have sc:=lX
 refine D.ok lX (λ vs H Q E h => ?_) (λ _ _ _ _ _ _ us hl=>match us,hl with | [_],_=>rfl) (λ f cdv A outer s H vs Q E hr h => ?_)
 ·obtain ⟨_,_,_,rfl,_⟩:=h;rfl
 ·obtain ⟨b,dx,L,rfl,hL,k⟩:=h
  refine ⟨_,(@ak _ _ _ (@b6 _ _ _ _ _ _ _ _ _ _ T.gb T.bP (@ao _ 0 _ _ (by walk_at "v")) (@uu _ _) (by rfl))),?_⟩
  walk_at "gd"
  rename_i d H5 _ fW _
  have jW:=(fW.swap).put (o' := .ins cI dx (iG d)) rfl rfl
  exact k d _ jW
def KY (cI cA:Addr):Sp:=λ vs H Q E => ∃ (b dx d:Addr) (es:cM) (z:Str),vs = [.ref b,.str z]/\FH cI H b dx d es/\(z∈es.map (·.1)->Q .aH H)/\(z ∉ es.map (·.1)->E (.ref cA) none H)
theorem Dt (D:bH K cI "ask_name" "Files.ask_name" bK) (B:iK mg) (T:Txt K mg cU cA cB cC cT cF cD cS cI):aI P w K mg base 1 cI "ask_name" ["self","name"] (KY cI cA):=by
 have sc:=ia
 refine D.Cu ia (λ vs H Q E h => ?_) (λ _ _ _ _ _ _ us hl=>match us,hl with | [_,_],_=>rfl) (λ f cdv A outer s H vs Q E hr h => ?_)
 ·obtain ⟨_,_,_,_,_,rfl,_⟩:=h;rfl
 ·obtain ⟨b,dx,d,es,z,rfl,fh,k1,k2⟩:=h
  have hu:=gi hr
  have hf:(iG d).lookup (Str.ofString "rows_by_name")=some (.ref d):=rfl
  have c1:=fh.cb
  have c2:=fh.cd
  refine ⟨_,(@ak _ _ _ (@aR _ _ _ _ _ _ _ _ (@IU _ _ _ _ _ _ (@G2 _ _ _ _ _ hu (@ao _ 1 _ _ (by walk_at "v")) (@av _ _ _ _ _ _ _ T.gb T.bP (@ao _ 0 _ _ (by walk_at "v")) (by rfl))) (by first | exact nO _ (by decide) (by decide) | rfl)) (@ak _ _ _ (@iT _ _ _ _ _ _ _ _ _ _ _ _ _ _ _ _ _ _ _ _ _ _ T.Qx (by rfl) (@aa _ _ _ _ _ (@dU _ _ _ _) (@ai _) (by rfl)) (by decide) (by rfl))) (@aE _))),?_⟩
  walk_at "ge"
  refine Tp c2 ?_
  rw [KU]
  by_cases hz:z∈es.map (·.1)
  ·rw [decide_eq_true hz]
   walk_at "ge"
   exact k1 hz
  ·rw [decide_eq_false hz]
   walk_at "ge"
   refine mP λ R hR => ?_
   walk_at "ge"
   exact ⟨by decide,k2 hz⟩
def KZ (cI cA:Addr):Sp:=λ vs H Q E => ∃ (b dx d:Addr) (es:cM) (z:Str),vs = [.ref b,.str z]/\FH cI H b dx d es/\(∀ e∈es,e.1=z->Q (.int (e.2.2.length:Nat)) H)/\(z ∉ es.map (·.1)->E (.ref cA) none H)
theorem Nk (D:bH K cI "size_of" "Files.size_of" bQ) (B:iK mg) (T:Txt K mg cU cA cB cC cT cF cD cS cI) (qR:aI P w K mg base 1 cI "ask_name" ["self","name"] (KY cI cA)):aI P w K mg base 2 cI "size_of" ["self","name"] (KZ cI cA):=by
 have sc:=iV
 refine D.Cu iV (λ vs H Q E h => ?_) (λ _ _ _ _ _ _ us hl=>match us,hl with | [_,_],_=>rfl) (λ f cdv A outer s H vs Q E hr h => ?_)
 ·obtain ⟨_,_,_,_,_,rfl,_⟩:=h;rfl
 ·obtain ⟨b,dx,d,es,z,rfl,fh,k1,k2⟩:=h
  have hu:=gi hr
  have hf:(iG d).lookup (Str.ofString "rows_by_name")=some (.ref d):=rfl
  have c1:=fh.cb
  have c2:=fh.cd
  refine ⟨_,(@ah _ _ _ _ _ (@bG _ _ _ _ (@aK _ _ _ _ _ _ _ _ _ _ _ _ _ _ _ _ T.gb qR (hr.mono (by omega)) jA (@ao _ 0 _ _ (by walk_at "v")) (@aa _ _ _ _ _ (@ao _ 1 _ _ (by walk_at "v")) (@ai _) (by rfl)) (by rfl) (by rfl) (by rfl)) (by rfl)) (@ak _ _ _ (@aC _ _ _ _ (@aL _ _ _ _ _ _ _ _ _ bD (by rfl) B.len dX (@aa _ _ _ _ _ (@g7 _ _ _ _ _ _ hu (@av _ _ _ _ _ _ _ T.gb T.bP (@ao _ 0 _ _ (by walk_at "v")) (by rfl)) (@ao _ 1 _ _ (by walk_at "v")) (λ _ _=>rfl)) (@ai _) (by rfl)) (by decide) (by decide) (by rfl) (by rfl))))),?_⟩
  refine aD λ M1 K1 => ?_
  walk_at "ge"
  refine ⟨b,dx,d,es,z,rfl,fh,λ hz => ?_,λ hz => ?_⟩
  ·obtain ⟨e,he,rfl⟩:=List.mem_map.mp hz
   have c3:=fh.cf e he
   walk_at "ge"
   refine K1.use ?_
   walk_at "cl"
   clear K1
   walk_at "ge"
   refine J1 c2 (uO fh.nd he) ?_
   walk_at "ge"
   rw [fG]
   exact k1 e he rfl
  ·exact k2 hz
def FA (cI cA cB:Addr):Sp:=λ vs H Q E => ∃ (b dx d:Addr) (es:cM) (z:Str) (p:Int),vs = [.ref b,.str z,.int p]/\FH cI H b dx d es/\(∀ e∈es,e.1=z->0<=p->p < e.2.2.length->Q .aH H)/\(∀ e∈es,e.1=z->¬ (0<=p/\p < e.2.2.length)->E (.ref cB) none H)/\(z ∉ es.map (·.1)->E (.ref cA) none H)
theorem Du (D:bH K cI "ask_page" "Files.ask_page" bL) (B:iK mg) (T:Txt K mg cU cA cB cC cT cF cD cS cI) (tS:aI P w K mg base 2 cI "size_of" ["self","name"] (KZ cI cA)):aI P w K mg base 3 cI "ask_page" ["self","name","page"] (FA cI cA cB):=by
 have sc:=ic
 refine D.Cu ic (λ vs H Q E h => ?_) (λ _ _ _ _ _ _ us hl=>match us,hl with | [_,_,_],_=>rfl) (λ f cdv A outer s H vs Q E hr h => ?_)
 ·obtain ⟨_,_,_,_,_,_,rfl,_⟩:=h;rfl
 ·obtain ⟨b,dx,d,es,z,p,rfl,fh,k1,k2,k3⟩:=h
  have c1:=fh.cb
  refine ⟨_,(@ah _ _ _ _ _ (@aJ _ _ 3 _ _ _ _ sc.nd rfl (by walk_at "o2") (@aK _ _ _ _ _ _ _ _ _ _ _ _ _ _ _ _ T.gb tS (hr.mono (by omega)) jA (@ao _ 0 _ _ (by walk_at "v")) (@aa _ _ _ _ _ (@ao _ 1 _ _ (by walk_at "v")) (@ai _) (by rfl)) (by rfl) (by rfl) (by rfl)) (by rfl) (by walk_at "o4")) (@ak _ _ _ (@aR _ _ _ _ _ _ _ _ (@PW.pt _ _ _ (@pw_or _ _ _ _ _ _ _ (@aX _ _ _ _ _ _ _ _ Ga (@ao _ 2 _ _ (by walk_at "v")) (@aj _ _ _ _) (bf _)) (@pw_or1 _ _ _ _ (@aX _ _ _ _ _ _ _ _ RX (@ao _ 2 _ _ (by walk_at "v")) (@ao _ 3 _ _ (by walk_at "v")) (bf _))))) (@ak _ _ _ (@iT _ _ _ _ _ _ _ _ _ _ _ _ _ _ _ _ _ _ _ _ _ _ T.Qy (by rfl) (@aa _ _ _ _ _ (@dU _ _ _ _) (@ai _) (by rfl)) (by decide) (by rfl))) (@aE _)))),?_⟩
  refine aD λ M1 K1 => ?_
  walk_at "ge"
  refine ⟨b,dx,d,es,z,rfl,fh,λ e he hz => ?_,λ hz => ?_⟩
  ·walk_at "ge"
   refine K1.use ?_
   walk_at "cl"
   clear K1
   walk_at "ge"
   ·refine mP λ R hR => ?_
    walk_at "ge"
    exact ⟨by decide,k2 e he hz (by omega)⟩
   ·refine mP λ R hR => ?_
    walk_at "ge"
    exact ⟨by decide,k2 e he hz (by omega)⟩
   ·exact k1 e he hz (by omega) (by omega)
  ·exact k3 hz
def Gy (cI cA cB:Addr):Sp:=λ vs H Q E => ∃ (b dx d r0:Addr) (es:cM) (z:Str) (p:Int) (row:List Int) (R:Cells),vs = [.ref b,.str z,.int p,.ref r0]/\Led H (Iq cI b dx d es R)/\(es.map (·.1)).Nodup/\(r0,HO.lst (row.map V.int))∈R/\row.length<=600/\(∀ (as bs:cM) (e:xo),es=as++e::bs->e.1=z->∀ j:Nat,p=((j:Nat):Int)->j < e.2.2.length->∀ (nr:Addr) (H':Hp),Led H' (Iq cI b dx d (as++(e.1,e.2.1,e.2.2.set j (nr,row))::bs) ((nr,.lst (row.map V.int))::R))->Q .aH H')/\(∀ e∈es,e.1=z->¬ (0<=p/\p < e.2.2.length)->E (.ref cB) none H)/\(z ∉ es.map (·.1)->E (.ref cA) none H)
theorem K0 (D:bH K cI "store_row" "Files.store_row" bE) (B:iK mg) (T:Txt K mg cU cA cB cC cT cF cD cS cI) (fz:aI P w K mg base 3 cI "ask_page" ["self","name","page"] (FA cI cA cB)):aI P w K mg base 4 cI "store_row" ["self","name","page","row"] (Gy cI cA cB):=by
 have sc:=gM
 refine D.Cu gM (λ vs H Q E h => ?_) (λ _ _ _ _ _ _ us hl=>match us,hl with | [_,_,_,_],_=>rfl) (λ f cdv A outer s H vs Q E hr h => ?_)
 ·obtain ⟨_,_,_,_,_,_,_,_,_,rfl,_⟩:=h;rfl
 ·obtain ⟨b,dx,d,r0,es,z,p,row,R,rfl,hL,nd,rP,hrl,k1,k2,k3⟩:=h
  have hu:=gi hr
  have hf:(iG d).lookup (Str.ofString "rows_by_name")=some (.ref d):=rfl
  have fh:=FH.of hL nd
  have c1:=fh.cb
  have c2:=fh.cd
  have mr:(row.map V.int).length=row.length:=List.length_map _
  refine ⟨_,(@ah _ _ _ _ _ (@bG _ _ _ _ (@aK _ _ _ _ _ _ _ _ _ _ _ _ _ _ _ _ T.gb fz (hr.mono (by omega)) jA (@ao _ 0 _ _ (by walk_at "v")) (@aa _ _ _ _ _ (@ao _ 1 _ _ (by walk_at "v")) (@aa _ _ _ _ _ (@ao _ 2 _ _ (by walk_at "v")) (@ai _) (by rfl)) (by rfl)) (by rfl) (by rfl) (by rfl)) (by rfl)) (@ak _ _ _ (@dW _ _ _ _ _ _ (@bw _ _ _ _ _ _ _ _ _ (aP (K:=K) rfl) (by rfl) B.list bZ (@aa _ _ _ _ _ (@ao _ 3 _ _ (by walk_at "v")) (@ai _) (by rfl)) (by decide) (by decide) (by rfl) (by rfl)) (@eE _ _ _ _ _ _ _ (@g7 _ _ _ _ _ _ hu (@av _ _ _ _ _ _ _ T.gb T.bP (@ao _ 0 _ _ (by walk_at "v")) (by rfl)) (@ao _ 1 _ _ (by walk_at "v")) (λ _ _=>rfl)) (@ao _ 2 _ _ (by walk_at "v")) set_list (by intro _;rfl)) (by rfl) (by rfl) (by rfl)))),?_⟩
  refine aD λ M1 K1 => ?_
  walk_at "ge"
  refine ⟨b,dx,d,es,z,p,rfl,fh,λ e he hz p0 p1 => ?_,λ e he hz hp => ?_,λ hz => ?_⟩
  ·subst hz
   obtain ⟨j,rfl⟩:=Int.eq_ofNat_of_zero_le p0
   have hj:j < e.2.2.length:=by omega
   have hjl:j < (nJ e.2.2).length:=by rw [fG];exact hj
   have hkv:=uO nd he
   obtain ⟨as,bs,rfl,_⟩:=Qs nd he
   have nL:=hL.get (mC (mC (mA rP)))
   walk_at "ge"
   refine K1.use ?_
   walk_at "cl"
   clear K1
   walk_at "ge"
   rename_i nr H2 _ hl2 _ _ _ _ _ _ _
   have c3:H2 d=some (.dK (wR (as++e::bs))):=hl2.get (mC (mC mS))
   refine J1 c3 hkv ?_
   walk_at "ge"
   have hl3:Led H2 ((e.2.1,.lst (nJ e.2.2))::(b,.ins cI dx (iG d))::(d,.dK (wR (as++e::bs)))::(mQ as++(mQ bs++((nr,.lst (row.map V.int))::R)))):=hl2.wk (by unfold Iq;rw [Cz];simp only [List.append_assoc,List.cons_append];walk_at "sp")
   refine g9 (hl3.get mS) (dY (by omega) (by omega)) ?_
   rw [Int.toNat_natCast,show (nJ e.2.2).set j (V.ref nr)=nJ (e.2.2.set j (nr,row)) by unfold nJ;rw [List.map_set]]
   have c8:=hl3.put (o' := .lst (nJ (e.2.2.set j (nr,row)))) rfl rfl
   walk_at "ge"
   refine k1 as bs e rfl rfl j rfl hj nr _ (c8.wk ?_)
   unfold Iq
   rw [Cz,<-MQ as bs e (e.1,e.2.1,e.2.2.set j (nr,row)) rfl rfl]
   simp only [List.append_assoc,List.cons_append]
   walk_at "sp"
  ·exact k2 e he hz hp
  ·exact k3 hz
def wC (K:PySem.W.Frag):Sp:=λ vs H Q _ => ∃ (a:Addr) (ns:List Int) (j:Int),vs = [.ref a,.int j]/\0<=j/\fE K H a (ns.map V.int)/\Q (.int (ns.getD j.toNat 0)) H
theorem FD (D:Def K mg "_law_cell_at" ef) (B:iK mg):bX P w K mg base 1 "_law_cell_at" ["_law_script","_law_k"] (wC K):=by
 refine D.ok AA (λ vs H Q E h => ?_) (λ _ _ _ _ _ _ us hl=>match us,hl with | [_,_],_=>rfl) (λ f cdv A outer s H vs Q E hr h => ?_)
 ·obtain ⟨_,_,_,rfl,_⟩:=h;rfl
 ·obtain ⟨a,ns,j,rfl,hj0,hS,k⟩:=h
  obtain ⟨j,rfl⟩:=Int.eq_ofNat_of_zero_le hj0
  refine ⟨_,(@ah _ _ _ _ _ (@aR _ _ _ _ _ _ _ _ (@aX _ _ _ _ _ _ _ _ Ga (@ao _ 1 _ _ (by walk_at "v")) (@aL _ _ _ _ _ _ _ _ _ (xj (K:=K) rfl) (by rfl) B.len dX (@aa _ _ _ _ _ (@ao _ 0 _ _ (by walk_at "v")) (@ai _) (by rfl)) (by decide) (by decide) (by rfl) (by rfl)) (bf _)) (@ak _ _ _ (@aC _ _ _ _ (@bB _ _ _ _ _ _ _ (JN (K:=K) rfl) (@ao _ 0 _ _ (by walk_at "v")) (@ao _ 1 _ _ (by walk_at "v")) (λ _ _=>rfl)))) (@aE _)) (@ak _ _ _ (@aC _ _ _ _ (@aj _ _ _ _)))),?_⟩
  simp only [IY,Mf,Gb,Pk,GQ,L2.start,List.map_cons,List.map_nil,List.length_cons,List.length_nil,Nat.zero_add,Nat.reduceAdd,Nat.reduceSub,List.replicate,List.append_nil,List.getElem?_cons_succ,List.getElem?_cons_zero,Option.some.injEq,R1,Gd,B9,List.cons.injEq,and_true,LY,V.int.injEq,V.bl.injEq,Me,PB,exists_and_left,exists_eq_left',V.ref.injEq,F3,tC,decide_eq_true_eq]
  refine ⟨_,.inl hS,?_⟩
  rw [List.length_map]
  rw [Int.toNat_natCast] at k
  refine VJ (λ hlt => ?_) (λ hge => ?_)
  ·refine ⟨_,hS,_,gj (j:=j) (v:=V.int (ns.getD j 0)) ?_,k⟩
   have hj:j < ns.length:=by omega
   simp [hj]
  ·rw [List.getD_eq_getElem?_getD,List.getElem?_eq_none (by omega)] at k
   exact k
def ua:Sp:=λ vs H Q _ => ∃ n:Int,vs = [.int n]/\Q (.bl true) H
theorem K3 (D:Def K mg "_law_whole" gF) (B:iK mg) (T:Txt K mg cU cA cB cC cT cF cD cS cI):bX P w K mg base 1 "_law_whole" ["_law_found"] ua:=by
 refine D.ok uW (λ vs H Q E h => ?_) (λ _ _ _ _ _ _ us hl=>match us,hl with | [_],_=>rfl) (λ f cdv A outer s H vs Q E hr h => ?_)
 ·obtain ⟨_,rfl,_⟩:=h;rfl
 ·obtain ⟨n,rfl,k⟩:=h
  have sc:=uW
  refine ⟨_,(@ak _ _ _ (@aC _ _ _ _ (@pO _ _ _ _ _ _ _ (@aL _ _ _ _ _ _ _ _ _ bJ (by rfl) B.isinstance aO (@aa _ _ _ _ _ (@ao _ 0 _ _ (by walk_at "v")) (@aa _ _ _ _ _ (@dj _ _ (.ty "int") _ _ (by rfl) B.int JF rfl (by decide) (by decide)) (@ai _) (by rfl)) (by rfl)) (by decide) (by decide) (by rfl) (by rfl)) (@mE _ _ _ _ _ (@DP _ _ _ _ (@aL _ _ _ _ _ _ _ _ _ bJ (by rfl) B.isinstance aO (@aa _ _ _ _ _ (@ao _ 0 _ _ (by walk_at "v")) (@aa _ _ _ _ _ (@dj _ _ (.ty "bool") _ _ (by rfl) B.bool tZ rfl (by decide) (by decide)) (@ai _) (by rfl)) (by rfl)) (by decide) (by decide) (by rfl) (by rfl))))))),?_⟩
  walk_at "ge"
  exact k
def K4 (x y:V):Prop:=(x = .aH/\y = .aH)\/(∃ b,x = .bl b/\y = .bl b)\/(∃ n,x = .int n/\y = .int n)\/(∃ z,x = .str z/\y = .str z)
def Alike (H:Hp):Nat->V->V->Prop
 | 0,x,y=>K4 x y
 | k+1,x,y=>K4 x y ∨ ∃ a b xs ys,x = .ref a/\y = .ref b/\((H a=some (.lst xs)/\H b=some (.lst ys))\/(H a=some (.tup xs)/\H b=some (.tup ys)))/\xs.length=ys.length/\ys.length<=100000 ∧ ∀ (i:Nat) x' y',xs[i]? = some x'->ys[i]? = some y'->Alike H k x' y'
def jt (k:Nat):Sp:=λ vs H Q _ => ∃ x y,vs = [x,y]/\Alike H k x y/\Q (.bl true) H
theorem wD (D:Def K mg "_law_alike" eg) (B:iK mg) (T:Txt K mg cU cA cB cC cT cF cD cS cI) {n:Nat} {sp0:Sp} (cO:bX P w K mg base 1 "_law_whole" ["_law_found"] ua) (aM:bX P w K mg base (n+1) "_law_alike" ["_law_found","_law_due"] sp0) (k:Nat) (hrec : ∀ (H:Hp) (x y:V) (Q:VK) (j:Nat),k=j+1->Alike H j x y->Q (.bl true) H->sp0 [x,y] H Q E0):bX P w K mg base (n+2) "_law_alike" ["_law_found","_law_due"] (jt k):=by
 refine D.ok mR (λ vs H Q E h => ?_) (λ _ _ _ _ _ _ us hl=>match us,hl with | [_,_],_=>rfl) (λ f cdv A outer s H vs Q E hr h => ?_)
 ·obtain ⟨_,_,rfl,_⟩:=h;rfl
 ·obtain ⟨x,y,rfl,ha,kq⟩:=h
  have sc:=mR
  refine ⟨_,(@ah _ _ _ _ _ (@aR _ _ _ _ _ _ _ _ (@aX _ _ _ _ _ _ _ _ DR (@ao _ 1 _ _ (by walk_at "v")) (@dP _ _ _) (bf _)) (@ak _ _ _ (@aC _ _ _ _ (@lu _ _ _ _ _ _ _ _ DR (@ao _ 0 _ _ (by walk_at "v")) (@dP _ _ _) (bf _)))) (@aE _)) (@ah _ _ _ _ _ (@aR _ _ _ _ _ _ _ _ (@aY _ _ _ (@aL _ _ _ _ _ _ _ _ _ bJ (by rfl) B.isinstance aO (@aa _ _ _ _ _ (@ao _ 1 _ _ (by walk_at "v")) (@aa _ _ _ _ _ (@dj _ _ (.ty "bool") _ _ (by rfl) B.bool tZ rfl (by decide) (by decide)) (@ai _) (by rfl)) (by rfl)) (by decide) (by decide) (by rfl) (by rfl)) (by intro _;rfl)) (@ak _ _ _ (@aC _ _ _ _ (@pO _ _ _ _ _ _ _ (@aL _ _ _ _ _ _ _ _ _ bJ (by rfl) B.isinstance aO (@aa _ _ _ _ _ (@ao _ 0 _ _ (by walk_at "v")) (@aa _ _ _ _ _ (@dj _ _ (.ty "bool") _ _ (by rfl) B.bool tZ rfl (by decide) (by decide)) (@ai _) (by rfl)) (by rfl)) (by decide) (by decide) (by rfl) (by rfl)) (@mE _ _ _ _ _ (@lu _ _ _ _ _ _ _ _ iQ (@ao _ 0 _ _ (by walk_at "v")) (@ao _ 1 _ _ (by walk_at "v")) (bf _)))))) (@aE _)) (@ah _ _ _ _ _ (@aR _ _ _ _ _ _ _ _ (@aY _ _ _ (@aL _ _ _ _ _ _ _ _ _ bJ (by rfl) B.isinstance aO (@aa _ _ _ _ _ (@ao _ 1 _ _ (by walk_at "v")) (@aa _ _ _ _ _ (@dj _ _ (.ty "int") _ _ (by rfl) B.int JF rfl (by decide) (by decide)) (@ai _) (by rfl)) (by rfl)) (by decide) (by decide) (by rfl) (by rfl)) (by intro _;rfl)) (@ak _ _ _ (@aC _ _ _ _ (@pO _ _ _ _ _ _ _ (@az _ _ _ _ _ _ _ _ _ _ _ cO (hr.mono (by omega)) (by rfl) aB (@aa _ _ _ _ _ (@ao _ 0 _ _ (by walk_at "v")) (@ai _) (by rfl)) (by decide) (by rfl) (by rfl)) (@mE _ _ _ _ _ (@lu _ _ _ _ _ _ _ _ iQ (@ao _ 0 _ _ (by walk_at "v")) (@ao _ 1 _ _ (by walk_at "v")) (bf _)))))) (@aE _)) (@ah _ _ _ _ _ (@aR _ _ _ _ _ _ _ _ (@aY _ _ _ (@aL _ _ _ _ _ _ _ _ _ bJ (by rfl) B.isinstance aO (@aa _ _ _ _ _ (@ao _ 1 _ _ (by walk_at "v")) (@aa _ _ _ _ _ (@dj _ _ (.ty "str") _ _ (by rfl) B.str JG rfl (by decide) (by decide)) (@ai _) (by rfl)) (by rfl)) (by decide) (by decide) (by rfl) (by rfl)) (by intro _;rfl)) (@ak _ _ _ (@aC _ _ _ _ (@pO _ _ _ _ _ _ _ (@aL _ _ _ _ _ _ _ _ _ bJ (by rfl) B.isinstance aO (@aa _ _ _ _ _ (@ao _ 0 _ _ (by walk_at "v")) (@aa _ _ _ _ _ (@dj _ _ (.ty "str") _ _ (by rfl) B.str JG rfl (by decide) (by decide)) (@ai _) (by rfl)) (by rfl)) (by decide) (by decide) (by rfl) (by rfl)) (@mE _ _ _ _ _ (@lu _ _ _ _ _ _ _ _ iQ (@ao _ 0 _ _ (by walk_at "v")) (@ao _ 1 _ _ (by walk_at "v")) (bf _)))))) (@aE _)) (@ah _ _ _ _ _ (@aR _ _ _ _ _ _ _ _ (@aY _ _ _ (@aL _ _ _ _ _ _ _ _ _ bJ (by rfl) B.isinstance aO (@aa _ _ _ _ _ (@ao _ 1 _ _ (by walk_at "v")) (@aa _ _ _ _ _ (@dj _ _ (.ty "tuple") _ _ (by rfl) B.tuple nY rfl (by decide) (by decide)) (@ai _) (by rfl)) (by rfl)) (by decide) (by decide) (by rfl) (by rfl)) (by intro _;rfl)) (@ak _ _ _ (@aR _ _ _ _ _ _ _ _ (@b9 _ _ _ _ (@aY _ _ _ (@aL _ _ _ _ _ _ _ _ _ bJ (by rfl) B.isinstance aO (@aa _ _ _ _ _ (@ao _ 0 _ _ (by walk_at "v")) (@aa _ _ _ _ _ (@dj _ _ (.ty "tuple") _ _ (by rfl) B.tuple nY rfl (by decide) (by decide)) (@ai _) (by rfl)) (by rfl)) (by decide) (by decide) (by rfl) (by rfl)) (by intro _;rfl))) (@ak _ _ _ (@aC _ _ _ _ (@bY _ _ _ _))) (@aE _))) (@ak _ _ _ (@aR _ _ _ _ _ _ _ _ (@b9 _ _ _ _ (@aY _ _ _ (@aL _ _ _ _ _ _ _ _ _ bJ (by rfl) B.isinstance aO (@aa _ _ _ _ _ (@ao _ 0 _ _ (by walk_at "v")) (@aa _ _ _ _ _ (@dj _ _ (.ty "list") _ _ (by rfl) B.list bZ rfl (by decide) (by decide)) (@ai _) (by rfl)) (by rfl)) (by decide) (by decide) (by rfl) (by rfl)) (by intro _;rfl))) (@ak _ _ _ (@aC _ _ _ _ (@bY _ _ _ _))) (@aE _)))) (@ah _ _ _ _ _ (@aR _ _ _ _ _ _ _ _ (@aX _ _ _ _ _ _ _ _ F9 (@aL _ _ _ _ _ _ _ _ _ bD (by rfl) B.len dX (@aa _ _ _ _ _ (@ao _ 0 _ _ (by walk_at "v")) (@ai _) (by rfl)) (by decide) (by decide) (by rfl) (by rfl)) (@aL _ _ _ _ _ _ _ _ _ bD (by rfl) B.len dX (@aa _ _ _ _ _ (@ao _ 1 _ _ (by walk_at "v")) (@ai _) (by rfl)) (by decide) (by decide) (by rfl) (by rfl)) (bf _)) (@ak _ _ _ (@aC _ _ _ _ (@bY _ _ _ _))) (@aE _)) (@ah _ _ _ _ _ (@jY _ _ _ _ _ _ _ _ PassesOwn.never rfl (@dw _ _ _ _ _ _ (by rfl) B.range (@aa _ _ _ _ _ (@aL _ _ _ _ _ _ _ _ _ bD (by rfl) B.len dX (@aa _ _ _ _ _ (@ao _ 1 _ _ (by walk_at "v")) (@ai _) (by rfl)) (by decide) (by decide) (by rfl) (by rfl)) (@ai _) (by rfl)) (by rfl)) (@fF _ _ 2 _ sc.nd rfl (by walk_at "o2") (by walk_at "o4")) (@ak _ _ _ (@aR _ _ _ _ _ _ _ _ (@b9 _ _ _ _ (@aY _ _ _ (@az _ _ _ _ _ _ _ _ _ _ _ aM (hr.mono (by omega)) (by rfl) aB (@aa _ _ _ _ _ (@bB _ _ _ _ _ _ _ aU (@ao _ 0 _ _ (by walk_at "v")) (@ao _ 2 _ _ (by walk_at "v")) (λ _ _=>rfl)) (@aa _ _ _ _ _ (@bB _ _ _ _ _ _ _ aU (@ao _ 1 _ _ (by walk_at "v")) (@ao _ 2 _ _ (by walk_at "v")) (λ _ _=>rfl)) (@ai _) (by rfl)) (by rfl)) (by decide) (by rfl) (by rfl)) (by intro _;rfl))) (@ak _ _ _ (@aC _ _ _ _ (@bY _ _ _ _))) (@aE _))) (by intro _;rfl)) (@ak _ _ _ (@aC _ _ _ _ (@bY _ _ _ _)))))))))),?_⟩
  have ha2:K4 x y ∨ ∃ a b xs ys j,k=j+1/\x = .ref a/\y = .ref b/\((H a=some (.lst xs)/\H b=some (.lst ys))\/(H a=some (.tup xs)/\H b=some (.tup ys)))/\xs.length=ys.length/\ys.length<=100000 ∧ ∀ (i:Nat) x' y',xs[i]? = some x'->ys[i]? = some y'->Alike H j x' y':=by
   cases k with
   | zero=>exact .inl ha
   | succ j =>
     rcases ha with h | ⟨a,b,xs,ys,h1,h2,h3,h4,h5,h6⟩
     ·exact .inl h
     ·exact .inr ⟨a,b,xs,ys,j,rfl,h1,h2,h3,h4,h5,h6⟩
  clear ha
  rcases ha2 with (⟨rfl,rfl⟩ | ⟨c,rfl,rfl⟩ | ⟨m,rfl,rfl⟩ | ⟨z,rfl,rfl⟩) | ⟨a,b,xs,ys,j,hk,rfl,rfl,hh,hxy,hyl,hin⟩
  ·walk_at "ge"
   all_goals first | exact kq | (exfalso;simp_all;done)
  ·walk_at "ge"
   all_goals first | (exfalso;simp_all;done) | skip
   rw [decide_eq_true rfl]
   exact kq
  ·walk_at "ge"
   all_goals first | (exfalso;simp_all;done) | skip
   refine ⟨m,rfl,?_⟩
   walk_at "ge"
   rw [decide_eq_true rfl]
   exact kq
  ·walk_at "ge"
   all_goals first | (exfalso;simp_all;done) | skip
   rw [decide_eq_true rfl]
   exact kq
  ·have fin : ∀ (Lx:Hp->Prop),True:=λ _=>True.intro
   rcases hh with ⟨c1,c2⟩ | ⟨c1,c2⟩
   ·refine aD λ M1 K1 => ?_
    walk_at "ge"
    all_goals first | (exfalso;simp_all;done) | skip
    refine K1.use ?_
    walk_at "cl"
    clear K1
    refine aD λ M1 K1 => ?_
    walk_at "ge"
    refine K1.use ?_
    walk_at "cl"
    clear K1
    refine aD λ M1 K1 => ?_
    walk_at "ge"
    refine K1.use ?_
    walk_at "cl"
    clear K1
    refine aD λ M1 K1 => ?_
    walk_at "ge"
    refine K1.use ?_
    walk_at "cl"
    clear K1
    refine aD λ M1 K1 => ?_
    walk_at "ge"
    refine K1.use ?_
    walk_at "cl"
    clear K1
    refine aD λ M1 K1 => ?_
    walk_at "ge"
    all_goals first | (exfalso;omega) | skip
    refine K1.use ?_
    walk_at "cl"
    clear K1
    refine aD λ M1 K1 => ?_
    refine ux λ Lr rR => ?_
    walk_at "ge"
    refine ⟨_,rfl,by omega,by omega,rR.use ?_⟩
    clear rR
    rw [show ((ys.length:Int)).toNat=ys.length by omega]
    refine uy (λ i σ H'=>H' = H ∧ ∃ v1,σ = [some (.ref a),some (.ref b),v1]) ⟨rfl,_,rfl⟩ ?_ ?_
    ·rintro i σ H' hi ⟨rfl,v1,rfl⟩
     have a1:jL xs (0+(i:Int))=some xs[i]:=gK (by omega) (by rw [show (0+(i:Int)).toNat=i by omega];exact List.getElem?_eq_getElem (by omega))
     have a2:jL ys (0+(i:Int))=some ys[i]:=gK (by omega) (by rw [show (0+(i:Int)).toNat=i by omega];exact List.getElem?_eq_getElem (by omega))
     walk_at "ge"
     refine hrec _ _ _ _ j hk (hin i _ _ (List.getElem?_eq_getElem (by omega)) (List.getElem?_eq_getElem (by omega))) ?_
     walk_at "ge"
     exact ⟨rfl,_,rfl⟩
    ·rintro σ H' ⟨rfl,v1,rfl⟩
     walk_at "ge"
     refine K1.use ?_
     walk_at "ge"
     exact kq
   ·refine aD λ M1 K1 => ?_
    walk_at "ge"
    all_goals first | (exfalso;simp_all;done) | skip
    refine K1.use ?_
    walk_at "cl"
    clear K1
    refine aD λ M1 K1 => ?_
    walk_at "ge"
    refine K1.use ?_
    walk_at "cl"
    clear K1
    refine aD λ M1 K1 => ?_
    walk_at "ge"
    refine K1.use ?_
    walk_at "cl"
    clear K1
    refine aD λ M1 K1 => ?_
    walk_at "ge"
    refine K1.use ?_
    walk_at "cl"
    clear K1
    refine aD λ M1 K1 => ?_
    walk_at "ge"
    refine K1.use ?_
    walk_at "cl"
    clear K1
    refine aD λ M1 K1 => ?_
    walk_at "ge"
    all_goals first | (exfalso;omega) | skip
    refine K1.use ?_
    walk_at "cl"
    clear K1
    refine aD λ M1 K1 => ?_
    refine ux λ Lr rR => ?_
    walk_at "ge"
    refine ⟨_,rfl,by omega,by omega,rR.use ?_⟩
    clear rR
    rw [show ((ys.length:Int)).toNat=ys.length by omega]
    refine uy (λ i σ H'=>H' = H ∧ ∃ v1,σ = [some (.ref a),some (.ref b),v1]) ⟨rfl,_,rfl⟩ ?_ ?_
    ·rintro i σ H' hi ⟨rfl,v1,rfl⟩
     have a1:jL xs (0+(i:Int))=some xs[i]:=gK (by omega) (by rw [show (0+(i:Int)).toNat=i by omega];exact List.getElem?_eq_getElem (by omega))
     have a2:jL ys (0+(i:Int))=some ys[i]:=gK (by omega) (by rw [show (0+(i:Int)).toNat=i by omega];exact List.getElem?_eq_getElem (by omega))
     walk_at "ge"
     refine hrec _ _ _ _ j hk (hin i _ _ (List.getElem?_eq_getElem (by omega)) (List.getElem?_eq_getElem (by omega))) ?_
     walk_at "ge"
     exact ⟨rfl,_,rfl⟩
    ·rintro σ H' ⟨rfl,v1,rfl⟩
     walk_at "ge"
     refine K1.use ?_
     walk_at "ge"
     exact kq
theorem Dv (D:Def K mg "_law_alike" eg):bX P w K mg base 1 "_law_alike" ["_law_found","_law_due"] (λ _ _ _ _=>False) :=
 D.ok mR (λ vs H Q E h=>h.elim) (λ _ _ _ _ _ _ us hl=>match us,hl with | [_,_],_=>rfl) (λ f cdv A outer s H vs Q E hr h=>h.elim)
theorem Dw (D:Def K mg "_law_alike" eg) (B:iK mg) (T:Txt K mg cU cA cB cC cT cF cD cS cI) (cO:bX P w K mg base 1 "_law_whole" ["_law_found"] ua) : ∀ k:Nat,bX P w K mg base (k+2) "_law_alike" ["_law_found","_law_due"] (jt k)
 | 0=>wD D B T cO (Dv D) 0 λ _ _ _ _ j h=>nomatch h
 | k+1=>wD D B T cO (Dw D B T cO k) (k+1) λ H x y Q j h ha hq=>by
     cases h
     exact ⟨x,y,rfl,ha,hq⟩
def QV (j:Int):Int:=if j % 4=0 then 48271 else if j % 4=1 then 10 ^ 20+39 else if j % 4=2 then 10 ^ 40+121 else 10 ^ 59+7
def Gz (c j:Int):Int:=c * QV j+7919 * j * j
def ON (c j:Int):Int:=(c+5 * j) * 69621 % 15101 % 6
def numAt (big wy:Int):Int:=match jL [V.int (big % 9),.int (big % (999999999999999999999999999999999999999999999999999999999999+1)),.int (-(big % (999999999999999999999999999999999999999999999999999999999999+1))),.int (999999999999999999999999999999999999999999999999999999999999 - big % 2),.int (big % 2 - 999999999999999999999999999999999999999999999999999999999999),.int (-1 - big % 7)] wy with | some (.int z)=>z | _=>0
def numOf (c j:Int):Int:=numAt (Gz c j) (ON c j)
def rowOf (c:Int):List Int:=(List.range 4).map λ k:Nat=>numOf (c+31 * (k:Int)) (k:Int)
theorem lF (c:Int):(rowOf c).length=4:=by unfold rowOf;rw [List.length_map,List.length_range]
def K5:Sp:=λ vs H Q _ => ∃ (c k:Int) (L:Cells),vs = [.int c,.int k]/\Builtin.Int.intBits c<=1500000/\0<=k/\k<=1000/\Led H L ∧ ∀ (H':Hp),Led H' L->Q (.int (numOf c k)) H'
theorem QW (D:Def K mg "_law_num" lD) (T:Txt K mg cU cA cB cC cT cF cD cS cI):bX P w K mg base 1 "_law_num" ["_law_cell","_law_k"] K5:=by
 have sc:=CC
 refine D.ok CC (λ vs H Q E h => ?_) (λ _ _ _ _ _ _ us hl=>match us,hl with | [_,_],_=>rfl) (λ f cdv A outer s H vs Q E hr h => ?_)
 ·obtain ⟨_,_,_,rfl,_⟩:=h;rfl
 ·obtain ⟨c,j,L,rfl,hb,j0,j1,hL,k⟩:=h
  refine ⟨_,(@ah _ _ _ _ _ (@aJ _ _ 2 _ _ _ _ sc.nd rfl (by walk_at "o2") (@au _ _ _ _ _ _ _ _ iJ (@au _ _ _ _ _ _ _ _ zT (@aj _ _ _ _) (@aj _ _ _ _)) (@aj _ _ _ _)) (by rfl) (by walk_at "o4")) (@ah _ _ _ _ _ (@aJ _ _ 3 _ _ _ _ sc.nd rfl (by walk_at "o2") (@au _ _ _ _ _ _ _ _ aT (@au _ _ _ _ _ _ _ _ Aq (@ao _ 0 _ _ (by walk_at "v")) (@bB _ _ _ _ _ _ _ aU (@jh _ _ _ _ (@aa _ _ _ _ _ (@aj _ _ _ _) (@aa _ _ _ _ _ (@au _ _ _ _ _ _ _ _ aT (@au _ _ _ _ _ _ _ _ zT (@aj _ _ _ _) (@aj _ _ _ _)) (@aj _ _ _ _)) (@aa _ _ _ _ _ (@au _ _ _ _ _ _ _ _ aT (@au _ _ _ _ _ _ _ _ zT (@aj _ _ _ _) (@aj _ _ _ _)) (@aj _ _ _ _)) (@aa _ _ _ _ _ (@au _ _ _ _ _ _ _ _ aT (@au _ _ _ _ _ _ _ _ zT (@aj _ _ _ _) (@aj _ _ _ _)) (@aj _ _ _ _)) (@ai _) (by rfl)) (by rfl)) (by rfl)) (by rfl))) (@au _ _ _ _ _ _ _ _ aN (@ao _ 1 _ _ (by walk_at "v")) (@aj _ _ _ _)) (λ _ _=>rfl))) (@au _ _ _ _ _ _ _ _ gJ (@au _ _ _ _ _ _ _ _ gJ (@aj _ _ _ _) (@ao _ 1 _ _ (by walk_at "v"))) (@ao _ 1 _ _ (by walk_at "v")))) (by rfl) (by walk_at "o4")) (@ah _ _ _ _ _ (@aJ _ _ 4 _ _ _ _ sc.nd rfl (by walk_at "o2") (@au _ _ _ _ _ _ _ _ aN (@au _ _ _ _ _ _ _ _ aN (@au _ _ _ _ _ _ _ _ Aq (@au _ _ _ _ _ _ _ _ aT (@ao _ 0 _ _ (by walk_at "v")) (@au _ _ _ _ _ _ _ _ gJ (@aj _ _ _ _) (@ao _ 1 _ _ (by walk_at "v")))) (@aj _ _ _ _)) (@aj _ _ _ _)) (@aj _ _ _ _)) (by rfl) (by walk_at "o4")) (@ak _ _ _ (@aC _ _ _ _ (@bB _ _ _ _ _ _ _ aU (@jh _ _ _ _ (@aa _ _ _ _ _ (@au _ _ _ _ _ _ _ _ aN (@ao _ 3 _ _ (by walk_at "v")) (@aj _ _ _ _)) (@aa _ _ _ _ _ (@au _ _ _ _ _ _ _ _ aN (@ao _ 3 _ _ (by walk_at "v")) (@au _ _ _ _ _ _ _ _ aT (@ao _ 2 _ _ (by walk_at "v")) (@aj _ _ _ _))) (@aa _ _ _ _ _ (@F5 _ _ _ _ _ _ zU (@au _ _ _ _ _ _ _ _ aN (@ao _ 3 _ _ (by walk_at "v")) (@au _ _ _ _ _ _ _ _ aT (@ao _ 2 _ _ (by walk_at "v")) (@aj _ _ _ _)))) (@aa _ _ _ _ _ (@au _ _ _ _ _ _ _ _ iJ (@ao _ 2 _ _ (by walk_at "v")) (@au _ _ _ _ _ _ _ _ aN (@ao _ 3 _ _ (by walk_at "v")) (@aj _ _ _ _))) (@aa _ _ _ _ _ (@au _ _ _ _ _ _ _ _ iJ (@au _ _ _ _ _ _ _ _ aN (@ao _ 3 _ _ (by walk_at "v")) (@aj _ _ _ _)) (@ao _ 2 _ _ (by walk_at "v"))) (@aa _ _ _ _ _ (@au _ _ _ _ _ _ _ _ iJ (@F5 _ _ _ _ _ _ zU (@aj _ _ _ _)) (@au _ _ _ _ _ _ _ _ aN (@ao _ 3 _ _ (by walk_at "v")) (@aj _ _ _ _))) (@ai _) (by rfl)) (by rfl)) (by rfl)) (by rfl)) (by rfl)) (by rfl))) (@ao _ 4 _ _ (by walk_at "v")) (λ _ _=>rfl))))))),?_⟩
  refine aD λ M1 K1 => ?_
  walk_at "ge"
  refine K1.use ?_
  walk_at "cl"
  clear K1
  refine aD λ M1 K1 => ?_
  have rest : ∀ (big:Int) (H':Hp),big=Gz c j->Led H' L->M1 [some (.int c),some (.int j),some (.int 999999999999999999999999999999999999999999999999999999999999),some (.int big),none] H':=by
   intro big H' aaB hl'
   refine K1.use ?_
   clear K1 hL
   refine aD λ M1 K1 => ?_
   walk_at "ge"
   obtain ⟨wy,hwy⟩ : ∃ z:Int,(c+5 * j) * 69621 % 15101 % 6=z:=⟨_,rfl⟩
   have w0:0<=wy:=by rw [<-hwy];exact Int.emod_nonneg _ (by decide)
   have w5:wy<=5:=by have:=Int.emod_lt_of_pos ((c+5 * j) * 69621 % 15101) (show (0:Int) < 6 by decide);omega
   rw [hwy]
   refine K1.use ?_
   walk_at "cl"
   clear K1
   walk_at "ge"
   obtain ⟨z,hz⟩:=Wl (a0:=big % 9) (a1:=big % (999999999999999999999999999999999999999999999999999999999999+1)) (a2 := -(big % (999999999999999999999999999999999999999999999999999999999999+1))) (a3:=999999999999999999999999999999999999999999999999999999999999 - big % 2) (a4:=big % 2 - 999999999999999999999999999999999999999999999999999999999999) (a5 := -1 - big % 7) w0 w5
   have ez:numOf c j=z:=by unfold numOf ON;rw [<-aaB,hwy];unfold numAt;rw [hz]
   refine Qf (by walk_at "cell") hz ?_
   walk_at "ge"
   rw [<-ez]
   exact k _ (Led.tail (by assumption))
  clear K1
  have h4:j % 4=0\/j % 4=1\/j % 4=2\/j % 4=3:=by omega
  walk_at "ge"
  rcases h4 with h4 | h4 | h4 | h4 <;> rw [h4] <;> walk_at "ge" <;> first | exact rest _ _ (by unfold Gz QV;rw [h4];rfl) (Led.tail (by assumption)) | (refine iH (Qq (Nat.le_trans hb (by decide)) (by decide)) ?_;walk_at "ge";exact rest _ _ (by unfold Gz QV;rw [h4];rfl) (Led.tail (by assumption)))
def GA:Sp:=λ vs H Q _ => ∃ (c:Int) (L:Cells),vs = [.int c]/\Builtin.Int.intBits c<=1400000/\Led H L ∧ ∀ (r:Addr) (H':Hp),Led H' ((r,.lst ((rowOf c).map V.int))::L)->Q (.ref r) H'
theorem QX (D:Def K mg "_law_row" lE) (B:iK mg) (T:Txt K mg cU cA cB cC cT cF cD cS cI) (nF:bX P w K mg base 1 "_law_num" ["_law_cell","_law_k"] K5):bX P w K mg base 2 "_law_row" ["_law_cell"] GA:=by
 have sc:=CD
 refine D.ok CD (λ vs H Q E h => ?_) (λ _ _ _ _ _ _ us hl=>match us,hl with | [_],_=>rfl) (λ f cdv A outer s H vs Q E hr h => ?_)
 ·obtain ⟨_,_,rfl,_⟩:=h;rfl
 ·obtain ⟨c,L,rfl,hb,hL,k⟩:=h
  refine ⟨_,(@ak _ _ _ (@aC _ _ _ _ (@t6 _ _ "_law_k" _ _ _ _ _ _ _ _ _ rfl rfl rfl rfl UP (gz (by kernel_rfl)) (@dw _ _ _ _ _ _ (by rfl) B.range (@aa _ _ _ _ _ (@aj _ _ _ _) (@ai _) (by rfl)) (by rfl)) (λ _ _ _ _=>(@lA _)) (λ _ _ _ _=>(@az _ _ _ _ _ _ _ _ _ _ _ nF (hr.mono (by omega)) (by rfl) aB (@aa _ _ _ _ _ (@au _ _ _ _ _ _ _ _ aT (@pk _ 1 _ _ (by kernel_rfl) (by kernel_rfl) (by decide) (by decide)) (@au _ _ _ _ _ _ _ _ gJ (@aj _ _ _ _) (@pk _ 0 _ _ (by kernel_rfl) (by kernel_rfl) (by decide) (by decide)))) (@aa _ _ _ _ _ (@pk _ 0 _ _ (by kernel_rfl) (by kernel_rfl) (by decide) (by decide)) (@ai _) (by rfl)) (by rfl)) (by decide) (by rfl) (by rfl))) (by intro _;rfl)))),?_⟩
  walk_at "ge"
  refine Ed λ Lc yV => ?_
  walk_at "ge"
  refine ⟨_,rfl,by omega,by omega,yV.use ?_⟩
  clear yV
  refine uM (λ i v=>v=V.int (numOf (c+31 * (i:Int)) (i:Int))) hL (by decide) (λ i H2 R q hi hl2 hR => ?_) (λ p acc H2 hlen hacc hl2 => ?_)
  ·have hi4:i < 4:=hi
   walk_at "ge"
   refine ⟨_,_,_,rfl,Nat.le_trans (bits_add hb (by omega) (by omega) (by decide)) (by decide),by omega,by omega,hl2,λ H3 hl3 => ?_⟩
   walk_at "ge"
   exact hR _ _ (by rw [show (0:Int)+(i:Int)=(i:Int) by omega]) hl3
  ·have e:acc=(rowOf c).map V.int:=by
    refine List.ext_getElem? λ i => ?_
    by_cases hi:i < 4
    ·have hl:i < acc.length:=by rw [hlen];exact hi
     rw [List.getElem?_eq_getElem hl,hacc i _ (List.getElem?_eq_getElem hl)]
     rw [List.getElem?_map,rowOf,List.getElem?_map,List.getElem?_range hi]
     rfl
    ·rw [List.getElem?_eq_none (by rw [hlen];exact Nat.le_of_not_lt hi),List.getElem?_eq_none (by rw [List.length_map,lF];exact Nat.le_of_not_lt hi)]
   subst e
   walk_at "ge"
   exact k p _ hl2
end
section
variable {P:Program} {w:World} {K:PySem.W.Frag} {mg:Str->Option Value} {base:Heap} {cU cA cB cC cT cF cD cS cI:Addr}
theorem Led.perm {H:Hp} {L L':Cells} (h:Led H L) (p:L.Perm L'):Led H L':=⟨λ c hc=>h.at_ c (p.mem_iff.mpr hc),((p.filter _).map _).nodup_iff.mp h.nd⟩
structure SS where
 b:Addr
 dx:Addr
 F:FS
 d:Addr
 QY:Addr
 dm:Addr
 p:Nat
 bs:List Bool
 sb:Addr
 IM:Addr
 sl:Addr
 sd:Addr
 ps:List V
 es:jN
 ib:Addr
 ix:Addr
 im:Addr
 fs:cM
 ho:Addr
 hs:List (Int×Int)
 made:Int
def FE (S:SS):List (Str×V):=[("frames",.ref S.F.b),("dial",.ref S.d),("shelf",.ref S.sb),("files",.ref S.ib),("holders",.ref S.ho),("sheets_made",.int S.made)]
def pN (hs:List (Int×Int)):List (Key×V):=hs.map λ e=>(Sum.inl e.1,V.int e.2)
def zI (cT:Addr) (S:SS):Cells:=[(S.b,.ins cT S.dx (FE S)),(S.ho,.dK (pN S.hs))]
def pH (cF:Addr) (F:FS):Cells:=[(F.b,.ins cF F.dx (t8 F.hl F.rl F.sl)),(F.hl,.lst (F.hs.map aS)),(F.rl,.lst (F.rs.map eX)),(F.sl,.lst (F.bs.map V.bl))]
abbrev FF (cD:Addr) (S:SS):Cells:=e7 cD S.d S.QY S.dm S.p S.bs
abbrev FG (cS:Addr) (S:SS):Cells:=wU cS S.sb S.IM S.sl S.sd S.ps S.es
def Dy (cI:Addr) (S:SS):Cells:=(S.ib,.ins cI S.ix (iG S.im))::(S.im,.dK (wR S.fs))::mQ S.fs
def bh (cT cF cD cS cI:Addr) (S:SS) (M:Cells):Cells:=zI cT S++(pH cF S.F++(FF cD S++(FG cS S++(Dy cI S++M))))
section
variable {H:Hp} {S:SS} {M N:Cells}
def rF (cT cD cS cI:Addr) (S:SS) (M:Cells):Cells:=zI cT S++(FF cD S++(FG cS S++(Dy cI S++M)))
def rD (cT cF cS cI:Addr) (S:SS) (M:Cells):Cells:=zI cT S++(pH cF S.F++(FG cS S++(Dy cI S++M)))
def rS (cT cF cD cI:Addr) (S:SS) (M:Cells):Cells:=zI cT S++(pH cF S.F++(FF cD S++(Dy cI S++M)))
def rI (cT cF cD cS:Addr) (S:SS) (M:Cells):Cells:=zI cT S++(pH cF S.F++(FF cD S++(FG cS S++M)))
theorem aF {α : Type} (a b m:List α):(a++(b++m)).Perm (b++(a++m)):=by
 rw [<-List.append_assoc,<-List.append_assoc]
 exact List.Perm.append_right _ List.perm_append_comm
theorem St.toF (h:Led H (bh cT cF cD cS cI S M)):Led H (qP cF S.F (rF cT cD cS cI S M)):=Led.perm h (aF _ _ _)
theorem St.toD (h:Led H (bh cT cF cD cS cI S M)):Led H (e7 cD S.d S.QY S.dm S.p S.bs++rD cT cF cS cI S M):=Led.perm h ((List.Perm.append_left _ (aF _ _ _)).trans (aF _ _ _))
theorem St.toS (h:Led H (bh cT cF cD cS cI S M)):Led H (wU cS S.sb S.IM S.sl S.sd S.ps S.es++rS cT cF cD cI S M):=Led.perm h ((List.Perm.append_left _ ((List.Perm.append_left _ (aF _ _ _)).trans (aF _ _ _))).trans (aF _ _ _))
theorem St.TQ (h:Led H (bh cT cF cD cS cI S M)):Led H (Iq cI S.ib S.ix S.im S.fs (rI cT cF cD cS S M)):=by
 have h1:Led H (Dy cI S++rI cT cF cD cS S M):=Led.perm h ((List.Perm.append_left _ ((List.Perm.append_left _ ((List.Perm.append_left _ (aF _ _ _)).trans (aF _ _ _))).trans (aF _ _ _))).trans (aF _ _ _))
 exact h1
theorem St.OO {F':FS} (e:F'.b=S.F.b) (h:Led H (qP cF F' (N++rF cT cD cS cI S M))):Led H (bh cT cF cD cS cI { S with F:=F' } (N++M)):=by
 have h1:Led H (pH cF F'++(N++(zI cT S++(FF cD S++(FG cS S++(Dy cI S++M)))))):=h
 have e2:zI cT S=zI cT { S with F:=F' } := by unfold zI FE;rw [<-e]
 rw [e2] at h1
 exact Led.perm h1 ((List.Perm.append_left _ ((aF _ _ _).trans (List.Perm.append_left _ ((aF _ _ _).trans (List.Perm.append_left _ ((aF _ _ _).trans (List.Perm.append_left _ (aF _ _ _)))))))).trans (aF _ _ _))
theorem St.ofD {p':Nat} {bs':List Bool} (h:Led H (e7 cD S.d S.QY S.dm p' bs'++(N++rD cT cF cS cI S M))):Led H (bh cT cF cD cS cI { S with p:=p',bs:=bs' } (N++M)):=by
 have h1:Led H (e7 cD S.d S.QY S.dm p' bs'++(N++(zI cT S++(pH cF S.F++(FG cS S++(Dy cI S++M)))))):=h
 exact Led.perm h1 ((List.Perm.append_left _ ((aF _ _ _).trans (List.Perm.append_left _ ((aF _ _ _).trans (List.Perm.append_left _ ((aF _ _ _).trans (List.Perm.append_left _ (aF _ _ _)))))))).trans ((aF _ _ _).trans (List.Perm.append_left _ (aF _ _ _))))
theorem St.Vf {ps':List V} {es':jN} (h:Led H (wU cS S.sb S.IM S.sl S.sd ps' es'++(N++rS cT cF cD cI S M))):Led H (bh cT cF cD cS cI { S with ps:=ps',es:=es' } (N++M)):=by
 have h1:Led H (wU cS S.sb S.IM S.sl S.sd ps' es'++(N++(zI cT S++(pH cF S.F++(FF cD S++(Dy cI S++M)))))):=h
 exact Led.perm h1 ((List.Perm.append_left _ ((aF _ _ _).trans (List.Perm.append_left _ ((aF _ _ _).trans (List.Perm.append_left _ ((aF _ _ _).trans (List.Perm.append_left _ (aF _ _ _)))))))).trans ((aF _ _ _).trans (List.Perm.append_left _ ((aF _ _ _).trans (List.Perm.append_left _ (aF _ _ _))))))
theorem St.ofI {fs':cM} (h:Led H (Iq cI S.ib S.ix S.im fs' (N++rI cT cF cD cS S M))):Led H (bh cT cF cD cS cI { S with fs:=fs' } (N++M)):=by
 have h1:Led H (Dy cI { S with fs:=fs' } ++ (N++(zI cT S++(pH cF S.F++(FF cD S++(FG cS S++M)))))):=h
 exact Led.perm h1 ((List.Perm.append_left _ ((aF _ _ _).trans (List.Perm.append_left _ ((aF _ _ _).trans (List.Perm.append_left _ ((aF _ _ _).trans (List.Perm.append_left _ (aF _ _ _)))))))).trans ((aF _ _ _).trans (List.Perm.append_left _ ((aF _ _ _).trans (List.Perm.append_left _ ((aF _ _ _).trans (List.Perm.append_left _ (aF _ _ _))))))))
theorem St.b:(S.b,HO.ins cT S.dx (FE S))∈bh cT cF cD cS cI S M:=mS
theorem St.ho:(S.ho,HO.dK (pN S.hs))∈bh cT cF cD cS cI S M:=mC mS
theorem St.up {c:Addr×HO} (h:c∈M):c∈bh cT cF cD cS cI S M:=mA (mA (mA (mA (mA h))))
theorem eB {c:Addr×HO} (h:c∈M):c∈rF cT cD cS cI S M:=mA (mA (mA (mA h)))
theorem TR {c:Addr×HO} (h:c∈M):c∈rD cT cF cS cI S M:=mA (mA (mA (mA h)))
theorem TU {c:Addr×HO} (h:c∈M):c∈rS cT cF cD cI S M:=mA (mA (mA (mA h)))
theorem K6 {c:Addr×HO} (h:c∈M):c∈rI cT cF cD cS S M:=mA (mA (mA (mA h)))
end
end
section
variable {P:Program} {w:World} {K:PySem.W.Frag} {mg:Str->Option Value} {base:Heap} {cU cA cB cC cT cF cD cS cI:Addr}
def freed (S:SS) (i:Nat):SS := { S with F:=S.F.fill i none none false,bs:=S.bs.set i false }
theorem fB (S:SS):(FE S).lookup (Str.ofString "frames")=some (.ref S.F.b):=rfl
theorem FI (S:SS):(FE S).lookup (Str.ofString "dial")=some (.ref S.d):=rfl
theorem qS (S:SS):(FE S).lookup (Str.ofString "shelf")=some (.ref S.sb):=rfl
theorem BF (S:SS):(FE S).lookup (Str.ofString "files")=some (.ref S.ib):=rfl
theorem wF (S:SS):(FE S).lookup (Str.ofString "holders")=some (.ref S.ho):=rfl
theorem QZ (S:SS):(FE S).lookup (Str.ofString "sheets_made")=some (.int S.made):=rfl
def jd:Sp:=λ vs H Q _ => ∃ (t:Addr) (a:Th),vs = [.ref t]/\H t=some (.tup (fN a))/\(∀ m,a = .own m->Q (.bl true) H)/\(∀ z p,a = .file z p->Q (.bl false) H)
theorem Dz (D:Def K mg "is_sheet" fm) (T:Txt K mg cU cA cB cC cT cF cD cS cI):bX P w K mg base 1 "is_sheet" ["thing"] jd:=by
 have sc:=rB
 refine D.ok rB (λ vs H Q E h => ?_) (λ _ _ _ _ _ _ us hl=>match us,hl with | [_],_=>rfl) (λ f cdv A outer s H vs Q E hr h => ?_)
 ·obtain ⟨_,_,rfl,_⟩:=h;rfl
 ·obtain ⟨t,a,rfl,ht,k1,k2⟩:=h
  refine ⟨_,(@ak _ _ _ (@aC _ _ _ _ (@lu _ _ _ _ _ _ _ _ iQ (@bB _ _ _ _ _ _ _ aU (@ao _ 0 _ _ (by walk_at "v")) (@aj _ _ _ _) (λ _ _=>rfl)) (@dU _ _ _ _) (bf _)))),?_⟩
  cases a with
  | own m =>
    have ht':H t=some (.tup [.str (Str.ofString "own"),.int m]):=ht
    walk_at "ge"
    have:=k1 m rfl
    simpa using this
  | file z p =>
    have ht':H t=some (.tup [.str (Str.ofString "file"),.str z,.int p]):=ht
    walk_at "ge"
    have hne : ¬ Str.ofString "file" = Str.ofString "own" := by decide +kernel
    have:=k2 z p rfl
    simpa [hne] using this
def FJ (cT cF cD cS cI:Addr):Sp:=λ vs H Q _ => ∃ (S:SS) (n i:Nat) (M:Cells),vs = [.ref S.b,.int (i:Nat)]/\Led H (bh cT cF cD cS cI S M)/\DM S.F n M/\S.bs.length=n/\i < n ∧ ∀ H',Led H' (bh cT cF cD cS cI (freed S i) M)->Q .aH H'
theorem Nl (D:Def K mg "free_frame" dI) (T:Txt K mg cU cA cB cC cT cF cD cS cI) (wG:aI P w K mg base 1 cF "empty" ["self","frame"] (Gq cF)) (BG:aI P w K mg base 1 cD "clear" ["self","frame"] (KJ cD false)):bX P w K mg base 2 "free_frame" ["store","frame"] (FJ cT cF cD cS cI):=by
 have sc:=l6
 refine D.ok l6 (λ vs H Q E h => ?_) (λ _ _ _ _ _ _ us hl=>match us,hl with | [_,_],_=>rfl) (λ f cdv A outer s H vs Q E hr h => ?_)
 ·obtain ⟨_,_,_,_,rfl,_⟩:=h;rfl
 ·obtain ⟨S,n,i,M,rfl,hL,g,hb,hi,k⟩:=h
  have f1:=fB S
  have f2:=FI S
  have je:=hL.get St.b
  have hF:=St.toF hL
  have tT:=hF.get mS
  refine ⟨_,(@ah _ _ _ _ _ (@bG _ _ _ _ (@aK _ _ _ _ _ _ _ _ _ _ _ _ _ _ _ _ T.Frames wG (hr.mono (by omega)) aB (@av _ _ _ _ _ _ _ T.aW T.bu (@ao _ 0 _ _ (by walk_at "v")) (by rfl)) (@aa _ _ _ _ _ (@ao _ 1 _ _ (by walk_at "v")) (@ai _) (by rfl)) (by rfl) (by rfl) (by rfl)) (by rfl)) (@ak _ _ _ (@bG _ _ _ _ (@aK _ _ _ _ _ _ _ _ _ _ _ _ _ _ _ _ T.u6 BG (hr.mono (by omega)) aB (@av _ _ _ _ _ _ _ T.aW T.Ei (@ao _ 0 _ _ (by walk_at "v")) (by rfl)) (@aa _ _ _ _ _ (@ao _ 1 _ _ (by walk_at "v")) (@ai _) (by rfl)) (by rfl) (by rfl) (by rfl)) (by rfl)))),?_⟩
  refine aD λ M1 K1 => ?_
  walk_at "ge"
  refine ⟨S.F,n,i,_,rfl,hF,g.mono (λ c hc=>eB hc),hi,λ H1 hl1 => ?_⟩
  have hl2:=St.OO (S:=S) (N:=[]) (F':=S.F.fill i none none false) rfl hl1
  clear hL hF hl1 tT je
  have je:=hl2.get St.b
  have hD:=St.toD hl2
  have c_d:=hD.get TJ
  walk_at "ge"
  refine K1.use ?_
  walk_at "cl"
  clear K1
  walk_at "ge"
  have hb2:((i:Nat):Int) < (S.bs.length:Int):=by omega
  refine ⟨S.d,S.QY,S.dm,(S.p:Int),((i:Nat):Int),S.bs,_,rfl,hD,by omega,hb2,λ H2 hl3 => ?_⟩
  rw [Int.toNat_natCast] at hl3
  have c8:=St.ofD (S := { S with F:=S.F.fill i none none false }) (N:=[]) (p':=S.p) (bs':=S.bs.set i false) hl3
  walk_at "ge"
  exact k _ c8
structure aG (S:SS) (n q:Nat) (M:Cells):Prop where
 f:DM S.F n M
 n1:1<=n
 n64:n<=64
 bl:S.bs.length=n
 pn:S.p < n
 rr : ∀ (i:Nat) (t:Addr) (a:Th),S.F.hs[i]? = some (some (t,a))->∃ (r:Addr) (row:List Int),S.F.rs[i]? = some (some (r,row))/\row.length=4
 inj : ∀ (i j:Nat) (t u:Addr) (a:Th),S.F.hs[i]? = some (some (t,a))->S.F.hs[j]? = some (some (u,a))->i=j
 pl:S.ps.length=q
 q6:q<=550
 pe : ∀ v∈S.ps,v = .aH ∨ ∃ m:Int,v = .int m
 nd:(S.es.map (·.1)).Nodup
 pk : ∀ m:Int,V.int m∈S.ps↔m∈S.es.map (·.1)
 pi : ∀ (i j:Nat) (m:Int),S.ps[i]? = some (.int m)->S.ps[j]? = some (.int m)->i=j
 ap : ∀ (i:Nat) (t:Addr) (m:Int),S.F.hs[i]? = some (some (t,Th.own m))->m ∉ S.es.map (·.1)
 er : ∀ e∈S.es,e.2.2.length=4
 fn:(S.fs.map (·.1)).Nodup
 fr : ∀ e∈S.fs,∀ r∈e.2.2,(r.1,HO.lst (r.2.map V.int))∈M/\r.2.length=4
 ff : ∀ (i:Nat) (t:Addr) (z:Str) (p:Int),S.F.hs[i]? = some (some (t,Th.file z p))->∃ e∈S.fs,∃ j:Nat,e.1=z/\p=j/\j < e.2.2.length
theorem aG.mono {S:SS} {n q:Nat} {M M':Cells} (g:aG S n q M) (s : ∀ c∈M,c∈M'):aG S n q M' := { g with f:=g.f.mono s,fr:=λ e he r hr=>⟨s _ (g.fr e he r hr).1,(g.fr e he r hr).2⟩ }
theorem aG.freed {S:SS} {n q:Nat} {M:Cells} (g:aG S n q M) (i:Nat):aG (freed S i) n q M:=by
 have old : ∀ (j:Nat) (x:Addr×Th),(S.F.hs.set i none)[j]? = some (some x)->S.F.hs[j]? = some (some x)/\i≠j:=λ j x h=>by
  rw [List.getElem?_set] at h
  split at h
  ·split at h
   ·cases h
   ·cases h
  ·exact ⟨h,by assumption⟩
 refine { g with f:=g.f.fill (λ t a e=>nomatch e) (λ t a e=>nomatch e),bl:=(List.length_set ..).trans g.bl,rr:=λ j t a h => ?_,inj:=λ j l t u a h1 h2=>g.inj j l t u a (old j _ h1).1 (old l _ h2).1,ap:=λ j t m h=>g.ap j t m (old j _ h).1,ff:=λ j t z p h=>g.ff j t z p (old j _ h).1 }
 obtain ⟨h1,h2⟩:=old j _ h
 obtain ⟨r,row,e,h4⟩:=g.rr j t a h1
 exact ⟨r,row,by show (S.F.rs.set i none)[j]? = _;rw [List.getElem?_set,if_neg h2];exact e,h4⟩
end
section
variable {P:Program} {w:World} {K:PySem.W.Frag} {mg:Str->Option Value} {base:Heap} {cU cA cB cC cT cF cD cS cI:Addr}
def PO (N:Cells) (S:SS) (i:Nat) (S':SS):Th->Prop
 | .own m => ∃ (r:Addr) (row:List Int) (b:Addr),S.F.rs[i]? = some (some (r,row))/\S' = freed { S with ps:=S.ps.set (idx S.ps .aH) (.int m),es:=S.es++[(m,b,row)] } i
 | .file z p => ∃ (r:Addr) (row:List Int),S.F.rs[i]? = some (some (r,row))/\((S.F.bs[i]? = some false/\S' = freed S i)\/(S.F.bs[i]? = some true ∧ ∃ (as bs:cM) (e:xo) (j:Nat) (nr:Addr),S.fs=as++e::bs/\e.1=z/\p=(j:Int)/\j < e.2.2.length/\(nr,HO.lst (row.map V.int))∈N/\S' = freed { S with fs:=as++(e.1,e.2.1,e.2.2.set j (nr,row))::bs } i))
theorem aG.flat {S:SS} {n q:Nat} {M:Cells} (g:aG S n q M):S.ps.all eK=true:=by
 rw [List.all_eq_true]
 intro v hv
 rcases g.pe v hv with rfl | ⟨m,rfl⟩ <;> rfl
theorem aG.K7 {S:SS} {n q:Nat} {M:Cells} (g:aG S n q M) (h:nX .aH S.ps=true):S.ps[idx S.ps .aH]? = some .aH:=by
 obtain ⟨v,hv,he⟩:=BE h
 rcases g.pe v (List.mem_of_getElem? hv) with rfl | ⟨m,rfl⟩
 ·exact hv
 ·cases he
theorem aG.Nm {S:SS} {n q:Nat} {M:Cells} (g:aG S n q M):S.es.length<=q:=by
 have h1:(S.es.map (·.1)).length<=(S.ps.map λ v=>match v with | .int m=>m | _=>0).length:=by
  refine g.nd.length_le_of_subset λ m hm => ?_
  exact List.mem_map.mpr ⟨.int m,(g.pk m).mpr hm,rfl⟩
 rw [List.length_map,List.length_map,g.pl] at h1
 exact h1
theorem aG.K8 {S:SS} {n q i:Nat} {M:Cells} {t b:Addr} {m:Int} {row:List Int} (g:aG S n q M) (hi:S.F.hs[i]? = some (some (t,.own m))) (hn:nX .aH S.ps=true) (h4:row.length=4) :
  aG (My.freed { S with ps:=S.ps.set (idx S.ps .aH) (.int m),es:=S.es++[(m,b,row)] } i) n q M:=by
 have hat:=g.K7 hn
 have hlt:idx S.ps .aH < S.ps.length:=(List.getElem?_eq_some_iff.mp hat).1
 have L8:=g.ap i t m hi
 have hmp:V.int m ∉ S.ps:=λ h=>L8 ((g.pk m).mp h)
 have gf:=g.freed i
 have atS : ∀ (j:Nat) (v:V),(S.ps.set (idx S.ps .aH) (.int m))[j]? = some v->(j=idx S.ps .aH/\v = .int m)\/(j≠idx S.ps .aH/\S.ps[j]? = some v):=λ j v h=>by
  rw [List.getElem?_set] at h
  by_cases e:idx S.ps .aH=j
  ·rw [if_pos e,if_pos hlt] at h
   exact .inl ⟨e.symm,(Option.some.inj h).symm⟩
  ·rw [if_neg e] at h
   exact .inr ⟨λ q=>e q.symm,h⟩
 have old : ∀ (j:Nat) (x:Addr×Th),(S.F.hs.set i none)[j]? = some (some x)->S.F.hs[j]? = some (some x)/\i≠j:=λ j x h=>by
  rw [List.getElem?_set] at h
  split at h
  ·split at h
   ·cases h
   ·cases h
  ·exact ⟨h,by assumption⟩
 refine ⟨gf.f,gf.n1,gf.n64,gf.bl,gf.pn,gf.rr,gf.inj,(List.length_set ..).trans g.pl,g.q6,λ v hv => ?_,?_,λ k => ?_,λ j l k h1 h2 => ?_,λ j u k h => ?_,λ e he => ?_,g.fn,gf.fr,gf.ff⟩
 ·rcases List.mem_or_eq_of_mem_set hv with h | h
  ·exact g.pe v h
  ·exact .inr ⟨m,h⟩
 ·show ((S.es++[(m,b,row)]).map (·.1)).Nodup
  rw [List.map_append]
  refine List.nodup_append.mpr ⟨g.nd,by simp,λ x hx y hy e => ?_⟩
  rw [List.map_singleton,List.mem_singleton] at hy
  have hy':y=m:=hy
  exact L8 (hy' ▸ e ▸ hx)
 ·show V.int k∈S.ps.set (idx S.ps .aH) (.int m)↔k∈(S.es++[(m,b,row)]).map (·.1)
  rw [List.map_append,List.mem_append,List.map_singleton,List.mem_singleton,<-g.pk k]
  constructor
  ·intro h
   rcases List.mem_or_eq_of_mem_set h with h | h
   ·exact .inl h
   ·injection h with h;exact .inr h
  ·rintro (h | rfl)
   ·obtain ⟨j,hj⟩:=List.getElem?_of_mem h
    have hne:idx S.ps .aH≠j:=λ e=>by rw [<-e,hat] at hj;cases hj
    exact List.mem_of_getElem? (i:=j) (by rw [List.getElem?_set,if_neg hne];exact hj)
   ·exact List.mem_of_getElem? (i:=idx S.ps .aH) (by rw [List.getElem?_set,if_pos rfl,if_pos hlt])
 ·rcases atS j _ h1 with ⟨e1,e2⟩ | ⟨e1,e2⟩
  ·rcases atS l _ h2 with ⟨e3,e4⟩ | ⟨e3,e4⟩
   ·rw [e1,e3]
   ·injection e2 with e2;subst e2
    exact absurd (List.mem_of_getElem? e4) hmp
  ·rcases atS l _ h2 with ⟨e3,e4⟩ | ⟨e3,e4⟩
   ·injection e4 with e4;subst e4
    exact absurd (List.mem_of_getElem? e2) hmp
   ·exact g.pi j l k e2 e4
 ·obtain ⟨h1,h2⟩:=old j _ h
  show k ∉ (S.es++[(m,b,row)]).map (·.1)
  rw [List.map_append,List.mem_append,List.map_singleton,List.mem_singleton]
  rintro (h3 | rfl)
  ·exact g.ap j u k h1 h3
  ·exact h2 (g.inj i j t u _ hi h1)
 ·rcases List.mem_append.mp he with he | he
  ·exact g.er e he
  ·rw [List.mem_singleton.mp he];exact h4
theorem aG.stored {S:SS} {n q i:Nat} {M:Cells} {as bs:cM} {e:xo} {j:Nat} {nr:Addr} {row:List Int} (g:aG S n q M) (hf:S.fs=as++e::bs) (h4:row.length=4) (hn:(nr,HO.lst (row.map V.int))∈M) :
  aG (My.freed { S with fs:=as++(e.1,e.2.1,e.2.2.set j (nr,row))::bs } i) n q M:=by
 have gf:=g.freed i
 have keys:(as++(e.1,e.2.1,e.2.2.set j (nr,row))::bs).map (·.1)=S.fs.map (·.1):=by rw [hf];simp
 refine ⟨gf.f,gf.n1,gf.n64,gf.bl,gf.pn,gf.rr,gf.inj,g.pl,g.q6,g.pe,g.nd,g.pk,g.pi,gf.ap,g.er,?_,λ x hx r hr => ?_,λ l t z p h => ?_⟩
 ·show ((as++(e.1,e.2.1,e.2.2.set j (nr,row))::bs).map (·.1)).Nodup
  rw [keys];exact g.fn
 ·rcases List.mem_append.mp hx with hx | hx
  ·exact g.fr x (by rw [hf];exact mB hx) r hr
  ·rcases List.mem_cons.mp hx with rfl | hx
   ·rcases List.mem_or_eq_of_mem_set hr with h | rfl
    ·exact g.fr e (by rw [hf];exact mA mS) r h
    ·exact ⟨hn,h4⟩
   ·exact g.fr x (by rw [hf];exact mA (mC hx)) r hr
 ·obtain ⟨x,hx,k,h1,h2,h3⟩:=gf.ff l t z p h
  have hx':x∈as++e::bs:=by rw [<-hf];exact hx
  rcases List.mem_append.mp hx' with hx' | hx'
  ·exact ⟨x,mB hx',k,h1,h2,h3⟩
  ·rcases List.mem_cons.mp hx' with rfl | hx'
   ·exact ⟨_,mA mS,k,h1,h2,by show k < (x.2.2.set j (nr,row)).length;rw [List.length_set];exact h3⟩
   ·exact ⟨x,mA (mC hx'),k,h1,h2,h3⟩
theorem PO.mono {N N':Cells} {S S':SS} {i:Nat} {a:Th} (h:PO N S i S' a) (up : ∀ c∈N,c∈N'):PO N' S i S' a:=by
 cases a with
 | own m=>exact h
 | file z p =>
   obtain ⟨r,row,h1,h2⟩:=h
   refine ⟨r,row,h1,?_⟩
   rcases h2 with h2 | ⟨h2,as,bs,e,j,nr,h3,h4,h5,h6,h7,h8⟩
   ·exact .inl h2
   ·exact .inr ⟨h2,as,bs,e,j,nr,h3,h4,h5,h6,up _ h7,h8⟩
theorem aG.po {N:Cells} {S S':SS} {n q i:Nat} {M:Cells} {t:Addr} {a:Th} (g:aG S n q M) (hi:S.F.hs[i]? = some (some (t,a))) (hn : ∀ m,a = .own m->nX .aH S.ps=true) (h:PO N S i S' a):aG S' n q (N++M):=by
 have up : ∀ c∈M,c∈N++M:=λ c hc=>mA hc
 obtain ⟨r0,wH,hr0,h40⟩:=g.rr i t a hi
 cases a with
 | own m =>
   obtain ⟨r,row,b,h1,rfl⟩:=h
   rw [hr0] at h1
   cases h1
   exact (g.K8 hi (hn m rfl) h40).mono up
 | file z p =>
   obtain ⟨r,row,h1,h2⟩:=h
   rw [hr0] at h1
   cases h1
   rcases h2 with ⟨_,rfl⟩ | ⟨_,as,bs,e,j,nr,h3,h4,h5,h6,h7,rfl⟩
   ·exact (g.freed i).mono up
   ·exact (g.mono up).stored h3 h40 (mB h7)
def DA (cT cF cD cS cI:Addr):Sp:=λ vs H Q _ => ∃ (S:SS) (n q i:Nat) (t:Addr) (a:Th) (M:Cells),vs = [.ref S.b,.int (i:Nat)]/\Led H (bh cT cF cD cS cI S M)/\aG S n q M/\S.F.hs[i]? = some (some (t,a))/\(∀ m,a = .own m->nX .aH S.ps=true) ∧ ∀ (S':SS) (N:Cells) (H':Hp),PO N S i S' a->aG S' n q (N++M)->Led H' (bh cT cF cD cS cI S' (N++M))->Q .aH H'
theorem FL (D:Def K mg "put_out" gB) (T:Txt K mg cU cA cB cC cT cF cD cS cI) (pI:aI P w K mg base 1 cF "thing_in" ["self","frame"] (zH cF)) (cQ:aI P w K mg base 1 cF "row_in" ["self","frame"] (t9 cF)) (nG:aI P w K mg base 1 cF "is_soiled" ["self","frame"] (Dr cF)) (wI:aI P w K mg base 2 cS "put_on" ["self","sheet","row"] (OM cS cU)) (pJ:aI P w K mg base 4 cI "store_row" ["self","name","page","row"] (Gy cI cA cB)) (dZ:bX P w K mg base 1 "is_sheet" ["thing"] jd) (ju:bX P w K mg base 2 "free_frame" ["store","frame"] (FJ cT cF cD cS cI)):bX P w K mg base 5 "put_out" ["store","frame"] (DA cT cF cD cS cI):=by
 have sc:=uS
 refine D.Cu uS (λ vs H Q E h => ?_) (λ _ _ _ _ _ _ us hl=>match us,hl with | [_,_],_=>rfl) (λ f cdv A outer s H vs Q E hr h => ?_)
 ·obtain ⟨_,_,_,_,_,_,_,rfl,_⟩:=h;rfl
 ·obtain ⟨S,n,q,i,t,a,M,rfl,hL,g,hi,GB,k⟩:=h
  obtain ⟨r,row,tU,h4⟩:=g.rr i t a hi
  have hin:i < n:=by rw [<-g.f.h];exact (List.getElem?_eq_some_iff.mp hi).1
  obtain ⟨uc,OP⟩:=g.f.th t a (List.mem_of_getElem? hi)
  have rP:=g.f.rw r row (List.mem_of_getElem? tU)
  have f1:=fB S
  have f2:=FI S
  have f3:=qS S
  have f4:=BF S
  have je:=hL.get St.b
  have hF:=St.toF hL
  have tT:=hF.get mS
  refine ⟨_,(@ah _ _ _ _ _ (@aJ _ _ 2 _ _ _ _ sc.nd rfl (by walk_at "o2") (@aK _ _ _ _ _ _ _ _ _ _ _ _ _ _ _ _ T.Frames pI (hr.mono (by omega)) aB (@av _ _ _ _ _ _ _ T.aW T.bu (@ao _ 0 _ _ (by walk_at "v")) (by rfl)) (@aa _ _ _ _ _ (@ao _ 1 _ _ (by walk_at "v")) (@ai _) (by rfl)) (by rfl) (by rfl) (by rfl)) (by rfl) (by walk_at "o4")) (@ah _ _ _ _ _ (@aJ _ _ 3 _ _ _ _ sc.nd rfl (by walk_at "o2") (@aK _ _ _ _ _ _ _ _ _ _ _ _ _ _ _ _ T.Frames cQ (hr.mono (by omega)) aB (@av _ _ _ _ _ _ _ T.aW T.bu (@ao _ 0 _ _ (by walk_at "v")) (by rfl)) (@aa _ _ _ _ _ (@ao _ 1 _ _ (by walk_at "v")) (@ai _) (by rfl)) (by rfl) (by rfl) (by rfl)) (by rfl) (by walk_at "o4")) (@ah _ _ _ _ _ (@aR _ _ _ _ _ _ _ _ (@aY _ _ _ (@az _ _ _ _ _ _ _ _ _ _ _ dZ (hr.mono (by omega)) (by rfl) aB (@aa _ _ _ _ _ (@ao _ 2 _ _ (by walk_at "v")) (@ai _) (by rfl)) (by decide) (by rfl) (by rfl)) (by intro _;rfl)) (@ak _ _ _ (@bG _ _ _ _ (@aK _ _ _ _ _ _ _ _ _ _ _ _ _ _ _ _ T.eL wI (hr.mono (by omega)) jA (@av _ _ _ _ _ _ _ T.aW T.jn (@ao _ 0 _ _ (by walk_at "v")) (by rfl)) (@aa _ _ _ _ _ (@bB _ _ _ _ _ _ _ aU (@ao _ 2 _ _ (by walk_at "v")) (@aj _ _ _ _) (λ _ _=>rfl)) (@aa _ _ _ _ _ (@ao _ 3 _ _ (by walk_at "v")) (@ai _) (by rfl)) (by rfl)) (by rfl) (by rfl) (by rfl)) (by rfl))) (@ak _ _ _ (@aR _ _ _ _ _ _ _ _ (@aY _ _ _ (@aK _ _ _ _ _ _ _ _ _ _ _ _ _ _ _ _ T.Frames nG (hr.mono (by omega)) aB (@av _ _ _ _ _ _ _ T.aW T.bu (@ao _ 0 _ _ (by walk_at "v")) (by rfl)) (@aa _ _ _ _ _ (@ao _ 1 _ _ (by walk_at "v")) (@ai _) (by rfl)) (by rfl) (by rfl) (by rfl)) (by intro _;rfl)) (@ak _ _ _ (@bG _ _ _ _ (@aK _ _ _ _ _ _ _ _ _ _ _ _ _ _ _ _ T.gb pJ (hr.mono (by omega)) jA (@av _ _ _ _ _ _ _ T.aW T.ou (@ao _ 0 _ _ (by walk_at "v")) (by rfl)) (@aa _ _ _ _ _ (@bB _ _ _ _ _ _ _ aU (@ao _ 2 _ _ (by walk_at "v")) (@aj _ _ _ _) (λ _ _=>rfl)) (@aa _ _ _ _ _ (@bB _ _ _ _ _ _ _ aU (@ao _ 2 _ _ (by walk_at "v")) (@aj _ _ _ _) (λ _ _=>rfl)) (@aa _ _ _ _ _ (@ao _ 3 _ _ (by walk_at "v")) (@ai _) (by rfl)) (by rfl)) (by rfl)) (by rfl) (by rfl) (by rfl)) (by rfl))) (@aE _)))) (@ak _ _ _ (@bG _ _ _ _ (@az _ _ _ _ _ _ _ _ _ _ _ ju (hr.mono (by omega)) (by rfl) aB (@aa _ _ _ _ _ (@ao _ 0 _ _ (by walk_at "v")) (@aa _ _ _ _ _ (@ao _ 1 _ _ (by walk_at "v")) (@ai _) (by rfl)) (by rfl)) (by decide) (by rfl) (by rfl)) (by rfl)))))),?_⟩
  refine aD λ M1 K1 => ?_
  walk_at "ge"
  refine ⟨S.F,i,some (t,a),_,rfl,hF,hi,?_⟩
  rw [show aS (some (t,a))=V.ref t from rfl]
  walk_at "ge"
  refine K1.use ?_
  walk_at "cl"
  clear K1
  refine aD λ M1 K1 => ?_
  walk_at "ge"
  refine ⟨S.F,i,r,row,_,rfl,hF,tU,eB rP,by omega,λ qr H1 hl1 => ?_⟩
  have hl2:Led H1 (qP cF S.F ([(qr,HO.lst (row.map V.int))]++rF cT cD cS cI S M)):=Led.perm hl1 (aF [(qr,HO.lst (row.map V.int))] (pH cF S.F) _)
  have hl3:=St.OO (S:=S) (F':=S.F) rfl hl2
  have c8:Led H1 (bh cT cF cD cS cI S ([(qr,HO.lst (row.map V.int))]++M)):=hl3
  clear hl1 hl2 hl3 hL hF je tT
  walk_at "ge"
  refine K1.use ?_
  walk_at "cl"
  clear K1
  have up4 : ∀ c∈M,c∈[(qr,HO.lst (row.map V.int))]++M:=λ c hc=>mC hc
  have g4:=g.mono up4
  have yW:=c8.get (St.up (up4 _ uc))
  have je:=c8.get St.b
  refine aD λ M1 K1 => ?_
  have rest : ∀ (S1:SS) (N:Cells) (H':Hp),S1.b=S.b->S1.bs.length=n->DM S1.F n (N++M)->PO N S i (freed S1 i) a->aG (freed S1 i) n q (N++M)->Led H' (bh cT cF cD cS cI S1 (N++M))->M1 [some (.ref S.b),some (.int (i:Nat)),some (.ref t),some (.ref qr)] H':=by
   intro S1 N H' e1 e2 e3 e4 e5 hl'
   refine K1.use ?_
   clear K1 c8
   walk_at "ge"
   refine ⟨S1,n,i,_,by rw [e1];rfl,hl',e3,e2,hin,λ H2 hl2 => ?_⟩
   walk_at "ge"
   exact k _ _ _ e4 e5 hl2
  clear K1
  walk_at "ge"
  refine ⟨t,a,rfl,yW,λ m hm => ?_,λ z p hz => ?_⟩
  ·subst hm
   have DB:H1 t=some (.tup [.str (Str.ofString "own"),.int m]):=yW
   have hS:=St.toS c8
   have Nn:=hS.get Nh
   walk_at "ge"
   refine ⟨S.sb,S.IM,S.sl,S.sd,qr,m,row,S.ps,S.es,_,rfl,hS,TU mS,g.flat,g.ap i t m hi,by have:=g.Nm;have:=g.q6;omega,λ hn b H2 dh => ?_,λ hn=>absurd hn (by rw [GB m rfl];decide)⟩
   have fW:=St.Vf (S:=S) (N:=[]) (M:=[(qr,HO.lst (row.map V.int))]++M) dh
   walk_at "ge"
   exact rest { S with ps:=S.ps.set (idx S.ps .aH) (.int m),es:=S.es++[(m,b,row)] } _ _ rfl g.bl g4.f ⟨r,row,b,tU,rfl⟩ (g4.K8 hi hn h4) fW
  ·subst hz
   have DB:H1 t=some (.tup [.str (Str.ofString "file"),.str z,.int p]):=yW
   have hF:=St.toF c8
   have tT:=hF.get mS
   obtain ⟨so,hso⟩ : ∃ b,S.F.bs[i]? = some b:=⟨_,List.getElem?_eq_getElem (by rw [g.f.s];exact hin)⟩
   walk_at "ge"
   refine ⟨S.F,i,so,_,rfl,hF,hso,?_⟩
   cases so with
   | false =>
     walk_at "ge"
     exact rest S _ _ rfl g.bl g4.f ⟨r,row,tU,.inl ⟨hso,rfl⟩⟩ (g4.freed i) c8
   | true =>
     obtain ⟨e,he,j,e1,e2,e3⟩:=g.ff i t z p hi
     have hI:=St.TQ c8
     have TV:=hI.get mS
     walk_at "ge"
     refine ⟨S.ib,S.ix,S.im,qr,S.fs,z,p,row,_,rfl,hI,g.fn,K6 mS,by omega,λ as bs e' hf he1 j' hj1 hj2 nr H2 dh => ?_,λ e' he' h1 h2 => ?_,λ hz=>absurd (List.mem_map.mpr ⟨e,he,e1⟩) hz⟩
     ·have fW:=St.ofI (S:=S) (N:=[(nr,HO.lst (row.map V.int))]) (M:=[(qr,HO.lst (row.map V.int))]++M) dh
      have g6:=g4.mono (M':=[(nr,HO.lst (row.map V.int))]++([(qr,HO.lst (row.map V.int))]++M)) λ c hc=>mC hc
      walk_at "ge"
      exact rest { S with fs:=as++(e'.1,e'.2.1,e'.2.2.set j' (nr,row))::bs } ([(nr,HO.lst (row.map V.int))]++[(qr,HO.lst (row.map V.int))]) _ rfl g.bl g6.f ⟨r,row,tU,.inr ⟨hso,as,bs,e',j',nr,hf,he1,hj1,hj2,mS,rfl⟩⟩ (g6.stored hf h4 mS) fW
     ·exfalso
      have:e' = e:=by
       have h3:=findF g.fn he
       have h5:=findF g.fn he'
       rw [h1,<-e1] at h5
       exact Option.some.inj (h5.symm.trans h3)
      subst this
      exact h2 ⟨by omega,by rw [e2];exact_mod_cast e3⟩
end
section
variable {P:Program} {w:World} {K:PySem.W.Frag} {mg:Str->Option Value} {base:Heap} {cU cA cB cC cT cF cD cS cI:Addr}
def qT:Th->Bool
 | .own _=>false
 | .file _ _=>true
def gw (S:SS):List Bool:=S.F.hs.map λ x=>match x with | some y=>qT y.2 || nX .aH S.ps | none=>false
theorem pK {S:SS} {i:Nat} {t:Addr} {a:Th} (h:S.F.hs[i]? = some (some (t,a))):(gw S)[i]? = some (qT a || nX .aH S.ps):=by unfold gw;rw [List.getElem?_map,h];rfl
theorem Q0 {vs:List V} {bs:List Bool} (hl:vs.length=bs.length) (h : ∀ (i:Nat) v,vs[i]? = some v->∃ b,bs[i]? = some b/\v = .bl b):vs=bs.map V.bl:=by
 refine List.ext_getElem? λ i => ?_
 rw [List.getElem?_map]
 by_cases hi:i < vs.length
 ·obtain ⟨b,hb,e⟩:=h i _ (List.getElem?_eq_getElem hi)
  rw [List.getElem?_eq_getElem hi,e,hb]
  rfl
 ·rw [List.getElem?_eq_none (by omega),List.getElem?_eq_none (by omega)]
  rfl
theorem aG.turned {S:SS} {n q:Nat} {M:Cells} (g:aG S n q M) {p:Nat} {bs:List Bool} (hp:p < n) (hb:bs.length=n):aG { S with p:=p,bs:=bs } n q M := { g with bl:=hb,pn:=hp }
def FN (cT cF cD cS cI cU:Addr):Sp:=λ vs H Q E => ∃ (S:SS) (n q:Nat) (M:Cells),vs = [.ref S.b]/\Led H (bh cT cF cD cS cI S M)/\aG S n q M ∧
 (∀ (i:Nat) (H':Hp),S.F.hs[i]? = some none->(∀ (j:Nat) z,j < i->S.F.hs[j]? = some z->z≠none)->Led H' (bh cT cF cD cS cI S M)->Q (.int (i:Nat)) H') ∧
 ((∀ z∈S.F.hs,z≠none)->∀ (f:Nat) (bs':List Bool) (t:Addr) (a:Th),Fw (gw S) (2 * n) S.p S.bs=some (f,bs')->S.F.hs[f]? = some (some (t,a))->∀ (S':SS) (N:Cells) (H':Hp),PO N { S with p:=(f+1) % n,bs:=bs' } f S' a->aG S' n q (N++M)->Led H' (bh cT cF cD cS cI S' (N++M))->Q (.int (f:Nat)) H') ∧
 ((∀ z∈S.F.hs,z≠none)->true ∉ gw S->∀ (N:Cells) (H':Hp),Led H' (bh cT cF cD cS cI S (N++M))->E (.ref cU) none H')
theorem Np (D:Def K mg "have_frame" dJ) (B:iK mg) (T:Txt K mg cU cA cB cC cT cF cD cS cI) (lT:aI P w K mg base 2 cF "least_free" ["self"] (λ vs H Q E => ∃ b,vs = [.ref b]/\gv cF [.ref b,.aH] H Q E)) (fZ:aI P w K mg base 1 cF "things" ["self"] (wB cF)) (fY:aI P w K mg base 1 cS "is_full" ["self"] (Fy cS)) (yX:aI P w K mg base 1 cD "choose" ["self","may"] (Dp cD cU)) (dZ:bX P w K mg base 1 "is_sheet" ["thing"] jd) (Ir:bX P w K mg base 5 "put_out" ["store","frame"] (DA cT cF cD cS cI)):bX P w K mg base 6 "have_frame" ["store"] (FN cT cF cD cS cI cU):=by
 have sc:=l7
 refine D.Cu l7 (λ vs H Q E h => ?_) (λ _ _ _ _ _ _ us hl=>match us,hl with | [_],_=>rfl) (λ f cdv A outer s H vs Q E hr h => ?_)
 ·obtain ⟨_,_,_,_,rfl,_⟩:=h;rfl
 ·obtain ⟨S,n,q,M,rfl,hL,g,kf,kg,ke⟩:=h
  have hsz:=sizeLine_eq
  have f1:=fB S
  have f2:=FI S
  have f3:=qS S
  have je:=hL.get St.b
  have hF:=St.toF hL
  have tT:=hF.get mS
  have gn:=g.n64
  refine ⟨_,(@ah _ _ _ _ _ (@aJ _ _ 1 _ _ _ _ sc.nd rfl (by walk_at "o2") (@gA _ _ _ _ _ _ _ _ _ _ _ _ _ T.Frames lT (hr.mono (by omega)) aB (@av _ _ _ _ _ _ _ T.aW T.bu (@ao _ 0 _ _ (by walk_at "v")) (by rfl)) (by rfl)) (by rfl) (by walk_at "o4")) (@ah _ _ _ _ _ (@aR _ _ _ _ _ _ _ _ (@aX _ _ _ _ _ _ _ _ zV (@ao _ 1 _ _ (by walk_at "v")) (@dP _ _ _) (bf _)) (@ak _ _ _ (@aC _ _ _ _ (@ao _ 1 _ _ (by walk_at "v")))) (@aE _)) (@ah _ _ _ _ _ (@aJ _ _ 2 _ _ _ _ sc.nd rfl (by walk_at "o2") (@gA _ _ _ _ _ _ _ _ _ _ _ _ _ T.eL fY (hr.mono (by omega)) aB (@av _ _ _ _ _ _ _ T.aW T.jn (@ao _ 0 _ _ (by walk_at "v")) (by rfl)) (by rfl)) (by rfl) (by walk_at "o4")) (@ah _ _ _ _ _ (@aJ _ _ 3 _ _ _ _ sc.nd rfl (by walk_at "o2") (@aK _ _ _ _ _ _ _ _ _ _ _ _ _ _ _ _ T.u6 yX (hr.mono (by omega)) jA (@av _ _ _ _ _ _ _ T.aW T.Ei (@ao _ 0 _ _ (by walk_at "v")) (by rfl)) (@aa _ _ _ _ _ (@t6 _ _ "thing" _ _ _ _ _ _ _ _ _ rfl rfl rfl rfl Ow (gz (by kernel_rfl)) (@nQ _ _ _ _ (@gA _ _ _ _ _ _ _ _ _ _ _ _ _ T.Frames fZ (hr.mono (by omega)) aB (@av _ _ _ _ _ _ _ T.aW T.bu (@ao _ 0 _ _ (by walk_at "v")) (by rfl)) (by rfl))) (λ _ _ _ _=>(@lA _)) (λ _ _ _ _=>(@RL _ _ _ _ _ _ _ (@DP _ _ _ _ (@az _ _ _ _ _ _ _ _ _ _ _ dZ (hr.mono (by omega)) (by rfl) aB (@aa _ _ _ _ _ (@pk _ 0 _ _ (by kernel_rfl) (by kernel_rfl) (by decide) (by decide)) (@ai _) (by rfl)) (by decide) (by rfl) (by rfl))) (@mE _ _ _ _ _ (@DP _ _ _ _ (@pk _ 3 _ _ (by kernel_rfl) (by kernel_rfl) (by decide) (by decide)))))) (by intro _;rfl)) (@ai _) (by rfl)) (by rfl) (by rfl) (by rfl)) (by rfl) (by walk_at "o4")) (@ah _ _ _ _ _ (@bG _ _ _ _ (@az _ _ _ _ _ _ _ _ _ _ _ Ir (hr.mono (by omega)) (by rfl) jA (@aa _ _ _ _ _ (@ao _ 0 _ _ (by walk_at "v")) (@aa _ _ _ _ _ (@ao _ 3 _ _ (by walk_at "v")) (@ai _) (by rfl)) (by rfl)) (by decide) (by rfl) (by rfl)) (by rfl)) (@ak _ _ _ (@aC _ _ _ _ (@ao _ 3 _ _ (by walk_at "v"))))))))),?_⟩
  refine aD λ M1 K1 => ?_
  walk_at "ge"
  have rest:(∀ z∈S.F.hs,z≠none)->M1 [some (.ref S.b),some .aH,none,none] H:=by
   intro hall
   refine K1.use ?_
   clear K1
   refine aD λ M1 K1 => ?_
   walk_at "ge"
   ·exact absurd (rfl:V.aH=V.aH) (by assumption)
   refine K1.use ?_
   walk_at "cl"
   clear K1
   have hS:=St.toS hL
   have Nn:=hS.get Nh
   have K9:=hS.get sk2
   refine aD λ M1 K1 => ?_
   walk_at "ge"
   refine ⟨S.sb,S.IM,S.sl,S.sd,S.ps,rfl,Nn,K9,g.flat,?_⟩
   walk_at "ge"
   refine K1.use ?_
   walk_at "cl"
   clear K1 hS Nn K9
   have hD:=St.toD hL
   have c_d:=hD.get TJ
   refine aD λ M1 K1 => ?_
   walk_at "ge"
   refine JO λ Lc yV => ?_
   walk_at "ge"
   refine ⟨S.F,_,rfl,hF,by rw [g.f.h];omega,λ qt H1 hl1 => ?_⟩
   refine ⟨qt,rfl,⟨_,fE.of (hl1.get mS)⟩,yV.use ?_⟩
   clear yV c_d je tT hD hF
   have ml:(gw S).length=n:=by unfold gw;rw [List.length_map];exact g.f.h
   refine pS (S.F.hs.map aS) (λ i v C=>C = [] ∧ ∃ b,(gw S)[i]? = some b/\v = .bl b) hl1 List.mem_cons_self (by rw [List.length_map,g.f.h];omega) (λ i y H2 R N hy hl2 hR => ?_) (λ pm vs Cs H2 hv hc hG hl2 => ?_)
   ·rw [List.getElem?_map] at hy
    obtain ⟨x,hx,rfl⟩:=Option.map_eq_some_iff.mp hy
    cases x with
    | none=>exact absurd rfl (hall none (List.mem_of_getElem? hx))
    | some x =>
      have c_x:=hl2.get (mA (mC (mC (mC (mC (mC (eB (g.f.th x.1 x.2 (List.mem_of_getElem? hx)).1)))))))
      have hm:=pK (t:=x.1) (a:=x.2) hx
      rw [show aS (some x)=V.ref x.1 from rfl]
      walk_at "ge"
      refine ⟨x.1,x.2,rfl,c_x,λ m e => ?_,λ z p e => ?_⟩
      ·rw [e] at hm
       walk_at "ge"
       rw [Bool.not_not]
       exact hR _ _ [] ⟨rfl,_,hm,rfl⟩ hl2
      ·rw [e] at hm
       walk_at "ge"
       exact hR _ _ [] ⟨rfl,_,hm,rfl⟩ hl2
   ·rw [List.length_map,g.f.h] at hv hc
    have hvs:=Q0 (by rw [hv,ml]) λ i v hi=>by
     have hlt:i < Cs.length:=by have:=(List.getElem?_eq_some_iff.mp hi).1;omega
     exact (hG i v _ hi (List.getElem?_eq_getElem hlt)).2
    have hcs:Cs.flatten = []:=by
     rw [List.flatten_eq_nil_iff]
     intro C hC
     obtain ⟨i,hi⟩:=List.getElem?_of_mem hC
     have hlt:i < vs.length:=by have:=(List.getElem?_eq_some_iff.mp hi).1;omega
     exact (hG i _ C (List.getElem?_eq_getElem hlt) hi).1
    rw [hvs,hcs] at hl2
    have hl3:Led H2 (qP cF S.F ([(pm,HO.lst ((gw S).map V.bl)),(qt,HO.lst (S.F.hs.map aS))]++rF cT cD cS cI S M)):=Led.perm hl2 (aF [(pm,HO.lst ((gw S).map V.bl)),(qt,HO.lst (S.F.hs.map aS))] (pH cF S.F) _)
    have c8:Led H2 (bh cT cF cD cS cI S ([(pm,HO.lst ((gw S).map V.bl)),(qt,HO.lst (S.F.hs.map aS))]++M)):=St.OO (S:=S) (F':=S.F) rfl hl3
    clear hl2 hl3 hl1 hG hvs hcs hL
    have hD:=St.toD c8
    have g1:=g.n1
    walk_at "ge"
    refine ⟨S.d,S.QY,S.dm,pm,S.p,gw S,S.bs,_,rfl,hD,TR mS,by rw [ml,g.bl],by rw [g.bl];omega,by rw [g.bl];omega,λ fr bs' H3 hgo dh => ?_,λ H3 hno dh => ?_⟩
    ·rw [ml] at hgo dh
     have fW:=St.ofD (S:=S) (N:=[]) (M:=[(pm,HO.lst ((gw S).map V.bl)),(qt,HO.lst (S.F.hs.map aS))]++M) dh
     obtain ⟨l1,l2,l3⟩:=pG _ _ _ hgo
     rw [ml] at l2
     have hfn:=l2 (by omega)
     obtain ⟨x,hx⟩ : ∃ x,S.F.hs[fr]? = some x:=⟨_,List.getElem?_eq_getElem (by rw [g.f.h];exact hfn)⟩
     cases x with
     | none=>exact absurd rfl (hall none (List.mem_of_getElem? hx))
     | some x =>
       have Qn:=pK (t:=x.1) (a:=x.2) hx
       rw [List.getD_eq_getElem?_getD,Qn] at l3
       walk_at "ge"
       refine K1.use ?_
       walk_at "cl"
       clear K1 dh hD c8
       refine aD λ M1 K1 => ?_
       walk_at "ge"
       refine ⟨{ S with p:=(fr+1) % n,bs:=bs' },n,q,fr,x.1,x.2,_,rfl,fW,(g.turned (Nat.mod_lt _ (by omega)) (l1.trans g.bl)).mono (λ c hc=>List.mem_append_right [] (mA hc)),hx,λ m e => ?_,λ S' N H4 TX gk jW => ?_⟩
       ·rw [e] at l3
        exact l3
       ·walk_at "ge"
        refine K1.use ?_
        walk_at "cl"
        clear K1
        walk_at "ge"
        have e2:N++([(pm,HO.lst ((gw S).map V.bl)),(qt,HO.lst (S.F.hs.map aS))]++M)=(N++[(pm,HO.lst ((gw S).map V.bl)),(qt,HO.lst (S.F.hs.map aS))])++M:=(List.append_assoc _ _ _).symm
        have gk':aG S' n q (N++([(pm,HO.lst ((gw S).map V.bl)),(qt,HO.lst (S.F.hs.map aS))]++M)):=gk
        have TY:Led H4 (bh cT cF cD cS cI S' (N++([(pm,HO.lst ((gw S).map V.bl)),(qt,HO.lst (S.F.hs.map aS))]++M))):=jW
        rw [e2] at gk' TY
        exact kg hall fr bs' x.1 x.2 hgo hx S' _ _ (TX.mono λ c hc=>mB hc) gk' TY
    ·have fW:=St.ofD (S:=S) (N:=[]) (M:=[(pm,HO.lst ((gw S).map V.bl)),(qt,HO.lst (S.F.hs.map aS))]++M) dh
     exact ke hall hno _ _ fW
  refine ⟨S.F.b,rfl,S.F,n,none,_,rfl,hF,g.f.mono (λ c hc=>eB hc),(λ t a e=>nomatch e),by omega,λ hno => ?_,λ j y h1 h2 h3 => ?_⟩
  ·walk_at "ge"
   exact rest λ z hz e=>hno z hz (by rw [e])
  ·walk_at "ge"
   refine K1.use ?_
   walk_at "cl"
   clear K1
   walk_at "ge"
   ·exact kf j _ (by rw [h1];cases y with | none=>rfl | some y=>cases h2) (λ m z hm hz e=>h3 m z hm hz (by rw [e])) hL
   ·exact nomatch (show V.int (j:Nat)=V.aH by assumption)
end
section
variable {P:Program} {w:World} {K:PySem.W.Frag} {mg:Str->Option Value} {base:Heap} {cU cA cB cC cT cF cD cS cI:Addr}
def jv (hs:List (Int×Int)) (m c:Int):List (Int×Int):=hs.map λ e=>if e.1=m then (e.1,c) else e
theorem Iu (hs:List (Int×Int)) (m c:Int):(jv hs m c).map (·.1)=hs.map (·.1):=by
 unfold jv
 rw [List.map_map]
 refine List.map_congr_left λ e _ => ?_
 show (if e.1=m then (e.1,c) else e).1=e.1
 split <;> rfl
theorem La {hs:List (Int×Int)} {m:Int} (h:m ∉ hs.map (·.1)):bA (pN hs) (.inl m)=none:=by
 induction hs with
 | nil=>rfl
 | cons e hs ih =>
   rw [List.map_cons,List.mem_cons,not_or] at h
   have hne : ¬ (Sum.inl e.1:Key) = .inl m:=λ z=>h.1 (Sum.inl.inj z).symm
   show bA ((Sum.inl e.1,V.int e.2)::pN hs) (.inl m)=none
   rw [cP (p:=(Sum.inl e.1,V.int e.2)) hne]
   exact ih h.2
theorem Lb {hs:List (Int×Int)} {m c:Int} (nd:(hs.map (·.1)).Nodup) (h:(m,c)∈hs):bA (pN hs) (.inl m)=some (.int c):=by
 induction hs with
 | nil=>cases h
 | cons e hs ih =>
   rw [List.map_cons,List.nodup_cons] at nd
   show bA ((Sum.inl e.1,V.int e.2)::pN hs) (.inl m)=_
   rcases List.mem_cons.mp h with rfl | h
   ·exact eG (p:=((Sum.inl m:Key),V.int c)) rfl
   ·have hne : ¬ (Sum.inl e.1:Key) = .inl m:=λ z=>nd.1 (Sum.inl.inj z ▸ List.mem_map.mpr ⟨(m,c),h,rfl⟩)
    rw [cP (p:=(Sum.inl e.1,V.int e.2)) hne]
    exact ih nd.2 h
theorem Nq {hs:List (Int×Int)} {m:Int} (c:Int) (h:m∈hs.map (·.1)):(m,c)∈jv hs m c:=by
 obtain ⟨e,he,rfl⟩:=List.mem_map.mp h
 exact List.mem_map.mpr ⟨e,he,if_pos rfl⟩
theorem Nr {hs:List (Int×Int)} {m:Int} (c:Int) (h:m∈hs.map (·.1)):putK (pN hs) (.inl m) (.int c)=pN (jv hs m c):=by
 unfold putK
 rw [if_pos]
 ·unfold pN jv
  rw [List.map_map,List.map_map]
  refine List.map_congr_left λ e _ => ?_
  show (if (Sum.inl e.1:Key) = .inl m then ((Sum.inl e.1:Key),V.int c) else (Sum.inl e.1,V.int e.2))=(Sum.inl (if e.1=m then (e.1,c) else e).1,V.int (if e.1=m then (e.1,c) else e).2)
  by_cases q:e.1=m
  ·rw [if_pos q,if_pos (by rw [q])]
  ·rw [if_neg q,if_neg (λ z=>q (Sum.inl.inj z))]
 ·obtain ⟨e,he,rfl⟩:=List.mem_map.mp h
  exact List.any_eq_true.mpr ⟨(Sum.inl e.1,V.int e.2),List.mem_map.mpr ⟨e,he,rfl⟩,decide_eq_true rfl⟩
theorem Nt {hs:List (Int×Int)} {m:Int} (c:Int) (h:m ∉ hs.map (·.1)):putK (pN hs) (.inl m) (.int c)=pN (hs++[(m,c)]):=by
 unfold putK
 rw [if_neg]
 ·unfold pN;rw [List.map_append];rfl
 ·rw [fP,La h];exact Bool.false_ne_true
theorem Ld (hs:List (Int×Int)) (m:Int):bz (pN hs) (.inl m)=pN (hs.filter λ e=>decide (e.1≠m)):=by
 unfold bz pN
 rw [List.filter_map]
 congr 1
 refine List.filter_congr λ e _ => ?_
 show decide ((Sum.inl e.1:Key)≠Sum.inl m)=decide (e.1≠m)
 exact decide_eq_decide.mpr ⟨λ q z=>q (by rw [z]),λ q z=>q (Sum.inl.inj z)⟩
theorem St.push {H:Hp} {S:SS} {M:Cells} {c:Addr×HO} (h:Led H (c::bh cT cF cD cS cI S M)):Led H (bh cT cF cD cS cI S (c::M)):=by
 have e : ∀ X:Cells,bh cT cF cD cS cI S X=(zI cT S++(pH cF S.F++(FF cD S++(FG cS S++Dy cI S))))++X:=λ X=>by unfold bh;simp only [List.append_assoc]
 rw [e] at h ⊢
 exact Led.perm h List.perm_middle.symm
theorem St.jv {H:Hp} {S:SS} {M:Cells} (h:Led H (bh cT cF cD cS cI S M)) (hs':List (Int×Int)):Led (upd H S.ho (.dK (pN hs'))) (bh cT cF cD cS cI { S with hs:=hs' } M):=by
 have h1:Led H ((S.b,.ins cT S.dx (FE S))::(S.ho,.dK (pN S.hs))::(pH cF S.F++(FF cD S++(FG cS S++(Dy cI S++M))))):=h
 exact (Led.put (o' := .dK (pN hs')) h1.swap rfl rfl).swap
theorem St.aaC {H:Hp} {S:SS} {M:Cells} (h:Led H (bh cT cF cD cS cI S M)) (k:Int):Led (upd H S.b (.ins cT S.dx (cK (Str.ofString "sheets_made") (.int k) (FE S)))) (bh cT cF cD cS cI { S with made:=k } M):=by
 have h1:Led H ((S.b,.ins cT S.dx (FE S))::(S.ho,.dK (pN S.hs))::(pH cF S.F++(FF cD S++(FG cS S++(Dy cI S++M))))):=h
 exact Led.put (o' := .ins cT S.dx (FE { S with made:=k })) h1 rfl rfl
def BH (cT cF cD cS cI:Addr):Sp:=λ vs H Q _ => ∃ (S:SS) (n q:Nat) (M:Cells),vs = [.ref S.b]/\Led H (bh cT cF cD cS cI S M)/\S.F.hs.length=n/\n<=64/\S.ps.length=q/\q<=550/\S.hs.length<=600 ∧ ∀ (N:Cells) (H':Hp),Led H' (bh cT cF cD cS cI S (N++M))->Q (.int ((n:Int) - 1+(q:Int) - (S.hs.length:Int))) H'
theorem Nu (D:Def K mg "room_of" gE) (B:iK mg) (T:Txt K mg cU cA cB cC cT cF cD cS cI) (fZ:aI P w K mg base 1 cF "things" ["self"] (wB cF)) (wJ:aI P w K mg base 1 cS "sheets" ["self"] (Ds cS)):bX P w K mg base 2 "room_of" ["store"] (BH cT cF cD cS cI):=by
 have sc:=uV
 refine D.ok uV (λ vs H Q E h => ?_) (λ _ _ _ _ _ _ us hl=>match us,hl with | [_],_=>rfl) (λ f cdv A outer s H vs Q E hr h => ?_)
 ·obtain ⟨_,_,_,_,rfl,_⟩:=h;rfl
 ·obtain ⟨S,n,q,M,rfl,hL,hn,h64,hq,aeP,hh,k⟩:=h
  have hsz:=sizeLine_eq
  have f1:=fB S
  have f3:=qS S
  have f5:=wF S
  have je:=hL.get St.b
  have hF:=St.toF hL
  have tT:=hF.get mS
  refine ⟨_,(@ah _ _ _ _ _ (@aJ _ _ 1 _ _ _ _ sc.nd rfl (by walk_at "o2") (@au _ _ _ _ _ _ _ _ aT (@au _ _ _ _ _ _ _ _ iJ (@aL _ _ _ _ _ _ _ _ _ bD (by rfl) B.len dX (@aa _ _ _ _ _ (@gA _ _ _ _ _ _ _ _ _ _ _ _ _ T.Frames fZ (hr.mono (by omega)) aB (@av _ _ _ _ _ _ _ T.aW T.bu (@ao _ 0 _ _ (by walk_at "v")) (by rfl)) (by rfl)) (@ai _) (by rfl)) (by decide) (by decide) (by rfl) (by rfl)) (@aj _ _ _ _)) (@aL _ _ _ _ _ _ _ _ _ bD (by rfl) B.len dX (@aa _ _ _ _ _ (@gA _ _ _ _ _ _ _ _ _ _ _ _ _ T.eL wJ (hr.mono (by omega)) aB (@av _ _ _ _ _ _ _ T.aW T.jn (@ao _ 0 _ _ (by walk_at "v")) (by rfl)) (by rfl)) (@ai _) (by rfl)) (by decide) (by decide) (by rfl) (by rfl))) (by rfl) (by walk_at "o4")) (@ak _ _ _ (@aC _ _ _ _ (@au _ _ _ _ _ _ _ _ iJ (@ao _ 1 _ _ (by walk_at "v")) (@aL _ _ _ _ _ _ _ _ _ bD (by rfl) B.len dX (@aa _ _ _ _ _ (@av _ _ _ _ _ _ _ T.aW T.gI (@ao _ 0 _ _ (by walk_at "v")) (by rfl)) (@ai _) (by rfl)) (by decide) (by decide) (by rfl) (by rfl)))))),?_⟩
  refine aD λ M1 K1 => ?_
  walk_at "ge"
  refine ⟨S.F,_,rfl,hF,by omega,λ qt H1 hl1 => ?_⟩
  have hl2:Led H1 (qP cF S.F ([(qt,HO.lst (S.F.hs.map aS))]++rF cT cD cS cI S M)):=Led.perm hl1 (aF [(qt,HO.lst (S.F.hs.map aS))] (pH cF S.F) _)
  have Vg:=hl1.get mS
  have hl3:Led H1 (bh cT cF cD cS cI S ([(qt,HO.lst (S.F.hs.map aS))]++M)):=St.OO (S:=S) (F':=S.F) rfl hl2
  clear hl1 hl2 hF tT je hL
  have je:=hl3.get St.b
  have hS:=St.toS hl3
  have Nn:=hS.get Nh
  have K9:=hS.get sk2
  walk_at "ge"
  refine ⟨S.sb,S.IM,S.sl,S.sd,S.ps,_,rfl,hl3,Nn,K9,λ r H2 c8 => ?_⟩
  walk_at "ge"
  have dh:=St.push c8
  clear hl3 c8 hS Nn K9 je Vg
  have je:=dh.get St.b
  have Fx:=dh.get St.ho
  refine K1.use ?_
  walk_at "cl"
  clear K1
  walk_at "ge"
  have e1:(pN S.hs).length=S.hs.length:=by unfold pN;exact List.length_map ..
  have e2:(S.F.hs.map aS).length=n:=by rw [List.length_map];exact hn
  have:=k [(r,HO.lst S.ps),(qt,HO.lst (S.F.hs.map aS))] _ dh
  rw [e1,e2,hq]
  exact this
end
section
variable {P:Program} {w:World} {K:PySem.W.Frag} {mg:Str->Option Value} {base:Heap} {cU cA cB cC cT cF cD cS cI:Addr}
theorem Nv {v:V} {m:Int} (hv:v = .aH ∨ ∃ k:Int,v = .int k) (h:Aa v (.int m)=true):v = .int m:=by
 rcases hv with rfl | ⟨k,rfl⟩
 ·cases h
 ·have:decide (k=m)=true:=h
  rw [of_decide_eq_true this]
theorem aG.int_at {S:SS} {n q:Nat} {M:Cells} (g:aG S n q M) {m:Int} (h:nX (.int m) S.ps=true):S.ps[idx S.ps (.int m)]? = some (.int m):=by
 obtain ⟨v,hv,he⟩:=BE h
 rw [hv,Nv (g.pe v (List.mem_of_getElem? hv)) he]
theorem aG.wK {S:SS} {n q:Nat} {M:Cells} {m:Int} (g:aG S n q M) (hin:nX (.int m) S.ps=true) :
  aG { S with ps:=S.ps.set (idx S.ps (.int m)) .aH,es:=S.es.filter λ x=>decide (x.1≠m) } n q M:=by
 have hat:=g.int_at hin
 have hlt:idx S.ps (.int m) < S.ps.length:=(List.getElem?_eq_some_iff.mp hat).1
 have atS : ∀ (j:Nat) (k:Int),(S.ps.set (idx S.ps (.int m)) .aH)[j]? = some (.int k)->j≠idx S.ps (.int m)/\S.ps[j]? = some (.int k):=λ j k h=>by
  rw [List.getElem?_set] at h
  by_cases e:idx S.ps (.int m)=j
  ·rw [if_pos e,if_pos hlt] at h
   cases h
  ·rw [if_neg e] at h
   exact ⟨λ z=>e z.symm,h⟩
 refine { g with pl:=(List.length_set ..).trans g.pl,pe:=λ v hv => ?_,nd := ?_,pk:=λ k => ?_,pi:=λ i j k h1 h2=>g.pi i j k (atS i k h1).2 (atS j k h2).2,ap:=λ i t k h hk => ?_,er:=λ e he=>g.er e (List.mem_filter.mp he).1 }
 ·rcases List.mem_or_eq_of_mem_set hv with h | h
  ·exact g.pe v h
  ·exact .inl h
 ·exact g.nd.sublist (List.Sublist.map _ List.filter_sublist)
 ·show V.int k∈S.ps.set (idx S.ps (.int m)) .aH↔k∈(S.es.filter λ x=>decide (x.1≠m)).map (·.1)
  constructor
  ·intro h
   obtain ⟨j,hj⟩:=List.getElem?_of_mem h
   obtain ⟨h1,h2⟩:=atS j k hj
   obtain ⟨e,he,rfl⟩:=List.mem_map.mp ((g.pk k).mp (List.mem_of_getElem? h2))
   refine List.mem_map.mpr ⟨e,List.mem_filter.mpr ⟨he,decide_eq_true λ z=>h1 ?_⟩,rfl⟩
   rw [z] at h2
   exact g.pi j _ m h2 hat
  ·intro h
   obtain ⟨e,he,rfl⟩:=List.mem_map.mp h
   obtain ⟨he,hne⟩:=List.mem_filter.mp he
   obtain ⟨j,hj⟩:=List.getElem?_of_mem ((g.pk e.1).mpr (List.mem_map.mpr ⟨e,he,rfl⟩))
   have hjn:idx S.ps (.int m)≠j:=λ z=>by
    rw [<-z,hat] at hj
    injection hj with hj
    injection hj with hj
    exact of_decide_eq_true hne hj.symm
   refine List.mem_of_getElem? (i:=j) ?_
   rw [List.getElem?_set,if_neg hjn]
   exact hj
 ·obtain ⟨e,he,e2⟩:=List.mem_map.mp hk
  exact g.ap i t k h (List.mem_map.mpr ⟨e,(List.mem_filter.mp he).1,e2⟩)
def iI (S S':SS) (m:Int):Prop :=
 (∃ (i:Nat) (t:Addr),S.F.hs[i]? = some (some (t,Th.own m))/\S' = My.freed { S with hs:=S.hs.filter λ e=>decide (e.1≠m) } i) ∨
 ((∀ (i:Nat) (t:Addr),S.F.hs[i]? ≠ some (some (t,Th.own m)))/\nX (.int m) S.ps=true/\S' = { S with hs:=S.hs.filter λ e=>decide (e.1≠m),ps:=S.ps.set (idx S.ps (.int m)) .aH,es:=S.es.filter λ x=>decide (x.1≠m) })
def OQ (cT cF cD cS cI:Addr):Sp:=λ vs H Q _ => ∃ (S:SS) (n q:Nat) (m c:Int) (M:Cells),vs = [.ref S.b,.int m]/\Led H (bh cT cF cD cS cI S M)/\aG S n q M/\bA (pN S.hs) (.inl m)=some (.int c)/\((∃ (i:Nat) (t:Addr),S.F.hs[i]? = some (some (t,Th.own m)))\/m∈S.es.map (·.1)) ∧
 ∀ (S':SS) (N:Cells) (H':Hp),iI S S' m->aG S' n q (N++M)->Led H' (bh cT cF cD cS cI S' (N++M))->Q .aH H'
theorem Q2 (D:Def K mg "end_sheet" d9) (B:iK mg) (T:Txt K mg cU cA cB cC cT cF cD cS cI) (aQ:aI P w K mg base 1 cF "where" ["self","thing"] (gv cF)) (fC:aI P w K mg base 1 cS "take_off" ["self","sheet"] (Fz cS)) (ju:bX P w K mg base 2 "free_frame" ["store","frame"] (FJ cT cF cD cS cI)):bX P w K mg base 3 "end_sheet" ["store","sheet"] (OQ cT cF cD cS cI):=by
 have sc:=oi
 refine D.ok oi (λ vs H Q E h => ?_) (λ _ _ _ _ _ _ us hl=>match us,hl with | [_,_],_=>rfl) (λ f cdv A outer s H vs Q E hr h => ?_)
 ·obtain ⟨_,_,_,_,_,_,rfl,_⟩:=h;rfl
 ·obtain ⟨S,n,q,m,c,M,rfl,hL,g,hv,hw,k⟩:=h
  have hu:=gi hr
  have f5:=wF S
  have je:=hL.get St.b
  have Fx:=hL.get St.ho
  refine ⟨_,(@ah _ _ _ _ _ (@bG _ _ _ _ (@Ce _ _ _ _ _ _ _ (@av _ _ _ _ _ _ _ T.aW T.gI (@ao _ 0 _ _ (by walk_at "v")) (by rfl)) (@ao _ 1 _ _ (by walk_at "v")) ⟨rfl,rfl,rfl,rfl⟩) (by rfl)) (@ah _ _ _ _ _ (@aJ _ _ 2 _ _ _ _ sc.nd rfl (by walk_at "o2") (@aK _ _ _ _ _ _ _ _ _ _ _ _ _ _ _ _ T.Frames aQ (hr.mono (by omega)) aB (@av _ _ _ _ _ _ _ T.aW T.bu (@ao _ 0 _ _ (by walk_at "v")) (by rfl)) (@aa _ _ _ _ _ (@fj _ _ _ _ _ (@aa _ _ _ _ _ (@dU _ _ _ _) (@aa _ _ _ _ _ (@ao _ 1 _ _ (by walk_at "v")) (@ai _) (by rfl)) (by rfl))) (@ai _) (by rfl)) (by rfl) (by rfl) (by rfl)) (by rfl) (by walk_at "o4")) (@ak _ _ _ (@aR _ _ _ _ _ _ _ _ (@aX _ _ _ _ _ _ _ _ DR (@ao _ 2 _ _ (by walk_at "v")) (@dP _ _ _) (bf _)) (@ak _ _ _ (@bG _ _ _ _ (@aK _ _ _ _ _ _ _ _ _ _ _ _ _ _ _ _ T.eL fC (hr.mono (by omega)) aB (@av _ _ _ _ _ _ _ T.aW T.jn (@ao _ 0 _ _ (by walk_at "v")) (by rfl)) (@aa _ _ _ _ _ (@ao _ 1 _ _ (by walk_at "v")) (@ai _) (by rfl)) (by rfl) (by rfl) (by rfl)) (by rfl))) (@ak _ _ _ (@bG _ _ _ _ (@az _ _ _ _ _ _ _ _ _ _ _ ju (hr.mono (by omega)) (by rfl) aB (@aa _ _ _ _ _ (@ao _ 0 _ _ (by walk_at "v")) (@aa _ _ _ _ _ (@ao _ 2 _ _ (by walk_at "v")) (@ai _) (by rfl)) (by rfl)) (by decide) (by rfl) (by rfl)) (by rfl))))))),?_⟩
  refine aD λ M1 K1 => ?_
  walk_at "ge"
  refine JT λ R5 hR5 => ?_
  walk_at "ge"
  refine OF Fx hv ?_
  rw [Ld]
  have hl2:=St.jv hL (S.hs.filter λ e=>decide (e.1≠m))
  generalize upd H S.ho (.dK (pN (S.hs.filter λ e=>decide (e.1≠m))))=H2 at hl2 ⊢
  obtain ⟨S2,zJ⟩ : ∃ S2:SS,S2 = { S with hs:=S.hs.filter λ e=>decide (e.1≠m) } := ⟨_,rfl⟩
  rw [<-zJ] at hl2
  walk_at "ge"
  refine K1.use ?_
  walk_at "cl"
  clear K1 hL Fx je f5
  have g2:aG S2 n q M:=by rw [zJ];exact { g with }
  have eb:S.b=S2.b:=by rw [zJ]
  have f1:=fB S2
  have f3:=qS S2
  rw [eb]
  have je:=hl2.get St.b
  have hF0:=St.toF hl2
  have tT:=hF0.get mS
  refine aD λ M1 K1 => ?_
  walk_at "ge"
  rename_i t H3 _ hl3 _
  have c8:Led H3 (qP cF S2.F ([(t,HO.tup (fN (.own m)))]++rF cT cD cS cI S2 M)):=Led.perm hl3 (aF [(t,HO.tup (fN (.own m)))] (pH cF S2.F) _)
  have dh:Led H3 (bh cT cF cD cS cI S2 ([(t,HO.tup (fN (.own m)))]++M)):=St.OO (S:=S2) (F':=S2.F) rfl c8
  clear hl3 hl2 hF0 tT je
  have g3:aG S2 n q ([(t,HO.tup (fN (.own m)))]++M):=g2.mono λ c hc=>mA hc
  have je:=dh.get St.b
  have hS:=St.toS dh
  have Nn:=hS.get Nh
  refine ⟨S2.F,n,some (t,.own m),_,rfl,c8,g2.f.mono (λ c hc=>mA (eB hc)),λ t' a e => ?_,by have:=g.n64;omega,λ hno => ?_,λ j y h1 h2 _ => ?_⟩
  ·cases e
   exact ⟨mS,True.intro⟩
  ·have hk:m∈S2.es.map (·.1):=by
    rcases hw with ⟨i,t',hi⟩ | h
    ·refine absurd rfl (hno (some (t',.own m)) ?_)
     rw [zJ]
     exact List.mem_of_getElem? hi
    ·rw [zJ];exact h
   obtain ⟨e,he,em⟩:=List.mem_map.mp hk
   have hin:nX (.int m) S2.ps=true:=List.any_eq_true.mpr ⟨.int m,(g2.pk m).mpr hk,show decide (m=m)=true from decide_eq_true rfl⟩
   walk_at "ge"
   refine K1.use ?_
   walk_at "cl"
   clear K1
   walk_at "ge"
   ·refine ⟨S2.sb,S2.IM,S2.sl,S2.sd,S2.ps,S2.es,e,_,by rw [em];rfl,hS,g2.flat,by rw [em];exact hin,g2.nd,he,λ H4 fW => ?_⟩
    rw [em] at fW
    have jW:Led H4 (wU cS S2.sb S2.IM S2.sl S2.sd (S2.ps.set (idx S2.ps (.int m)) .aH) (S2.es.filter λ x=>decide (x.1≠m))++([(e.2.1,.lst (e.2.2.map V.int))]++rS cT cF cD cI S2 ([(t,HO.tup (fN (.own m)))]++M))):=Led.perm fW List.perm_middle.symm
    have qQ:=St.Vf jW
    have g4:=(g3.wK hin).mono (M':=[(e.2.1,.lst (e.2.2.map V.int))]++([(t,HO.tup (fN (.own m)))]++M)) λ c hc=>mA hc
    walk_at "ge"
    subst zJ
    exact k _ [(e.2.1,.lst (e.2.2.map V.int)),(t,HO.tup (fN (.own m)))] _ (.inr ⟨λ i t' hi=>hno (some (t',Th.own m)) (List.mem_of_getElem? hi) rfl,hin,rfl⟩) g4 qQ
   ·exact absurd (rfl:V.aH=V.aH) (by assumption)
  ·walk_at "ge"
   refine K1.use ?_
   walk_at "cl"
   clear K1
   walk_at "ge"
   ·exact nomatch (show V.int (j:Nat)=V.aH by assumption)
   ·have hj:j < n:=by have:=(List.getElem?_eq_some_iff.mp h1).1;rw [g2.f.h] at this;exact this
    refine ⟨S2,n,j,_,rfl,dh,g3.f,g3.bl,hj,λ H4 fW => ?_⟩
    have g4:=g3.freed j
    walk_at "ge"
    have hy : ∃ t',y=some (t',Th.own m):=by
     cases y with
     | none=>cases h2
     | some y=>exact ⟨y.1,congrArg some (Prod.ext rfl (Option.some.inj h2))⟩
    obtain ⟨t',rfl⟩:=hy
    subst zJ
    exact k _ [(t,HO.tup (fN (.own m)))] _ (.inl ⟨j,t',h1,rfl⟩) g4 fW
theorem Iv (hs:List (Int×Int)) (m c:Int):((jv hs m c).filter λ e=>decide (e.1≠m))=hs.filter λ e=>decide (e.1≠m):=by
 induction hs with
 | nil=>rfl
 | cons e hs ih =>
   show ((if e.1=m then (e.1,c) else e)::jv hs m c).filter _=_
   by_cases q:e.1=m
   ·rw [if_pos q,List.filter_cons_of_neg (by simp [q]),List.filter_cons_of_neg (by simp [q])]
    exact ih
   ·rw [if_neg q,List.filter_cons_of_pos (by simp [q]),List.filter_cons_of_pos (by simp [q]),ih]
def OR (cT cF cD cS cI:Addr):Sp:=λ vs H Q _ => ∃ (S:SS) (n q:Nat) (m c:Int) (M:Cells),vs = [.ref S.b,.int m]/\Led H (bh cT cF cD cS cI S M)/\aG S n q M/\S.hs.length<=600/\(S.hs.map (·.1)).Nodup/\(m,c)∈S.hs/\((∃ (i:Nat) (t:Addr),S.F.hs[i]? = some (some (t,Th.own m)))\/m∈S.es.map (·.1)) ∧
 (c≠1->∀ H',Led H' (bh cT cF cD cS cI { S with hs:=jv S.hs m (c - 1) } M)->Q (.int (c - 1)) H') ∧
 (c=1->∀ (S':SS) (N:Cells) (H':Hp),iI S S' m->aG S' n q (N++M)->Led H' (bh cT cF cD cS cI S' (N++M))->Q (.int 0) H')
theorem iI.of {S S':SS} {m c:Int} (h:iI { S with hs:=jv S.hs m c } S' m):iI S S' m:=by
 unfold iI at h ⊢
 have e:=Iv S.hs m c
 rcases h with ⟨i,t,h1,h2⟩ | ⟨h1,h2,h3⟩
 ·refine .inl ⟨i,t,h1,?_⟩
  rw [h2]
  show My.freed { S with hs:=(jv S.hs m c).filter λ e=>decide (e.1≠m) } i=_
  rw [e]
 ·refine .inr ⟨h1,h2,?_⟩
  rw [h3]
  show ({ S with hs:=(jv S.hs m c).filter λ e=>decide (e.1≠m),ps:=_,es:=_ } : SS)=_
  rw [e]
theorem Q3 (D:Def K mg "let_go" i0) (B:iK mg) (T:Txt K mg cU cA cB cC cT cF cD cS cI) (DC:bX P w K mg base 3 "end_sheet" ["store","sheet"] (OQ cT cF cD cS cI)):bX P w K mg base 4 "let_go" ["store","sheet"] (OR cT cF cD cS cI):=by
 have sc:=zB
 refine D.ok zB (λ vs H Q E h => ?_) (λ _ _ _ _ _ _ us hl=>match us,hl with | [_,_],_=>rfl) (λ f cdv A outer s H vs Q E hr h => ?_)
 ·obtain ⟨_,_,_,_,_,_,rfl,_⟩:=h;rfl
 ·obtain ⟨S,n,q,m,c,M,rfl,hL,g,hh,nd,hm,hw,k1,k2⟩:=h
  have hu:=gi hr
  have hsz:=sizeLine_eq
  have hv:=Lb nd hm
  have L8:m∈S.hs.map (·.1):=List.mem_map.mpr ⟨_,hm,rfl⟩
  have f5:=wF S
  have je:=hL.get St.b
  have Fx:=hL.get St.ho
  refine ⟨_,(@ah _ _ _ _ _ (@aJ _ _ 2 _ _ _ _ sc.nd rfl (by walk_at "o2") (@au _ _ _ _ _ _ _ _ iJ (@g7 _ _ _ _ _ _ hu (@av _ _ _ _ _ _ _ T.aW T.gI (@ao _ 0 _ _ (by walk_at "v")) (by rfl)) (@ao _ 1 _ _ (by walk_at "v")) (λ _ _=>rfl)) (@aj _ _ _ _)) (by rfl) (by walk_at "o4")) (@ah _ _ _ _ _ (@ji _ _ _ _ _ _ _ _ _ hu (@av _ _ _ _ _ _ _ T.aW T.gI (@ao _ 0 _ _ (by walk_at "v")) (by rfl)) (@ao _ 1 _ _ (by walk_at "v")) (@ao _ 2 _ _ (by walk_at "v")) rfl) (@ah _ _ _ _ _ (@aR _ _ _ _ _ _ _ _ (@aX _ _ _ _ _ _ _ _ iQ (@ao _ 2 _ _ (by walk_at "v")) (@aj _ _ _ _) (bf _)) (@ak _ _ _ (@bG _ _ _ _ (@az _ _ _ _ _ _ _ _ _ _ _ DC (hr.mono (by omega)) (by rfl) aB (@aa _ _ _ _ _ (@ao _ 0 _ _ (by walk_at "v")) (@aa _ _ _ _ _ (@ao _ 1 _ _ (by walk_at "v")) (@ai _) (by rfl)) (by rfl)) (by decide) (by rfl) (by rfl)) (by rfl))) (@aE _)) (@ak _ _ _ (@aC _ _ _ _ (@ao _ 2 _ _ (by walk_at "v"))))))),?_⟩
  refine aD λ M1 K1 => ?_
  walk_at "ge"
  refine OE Fx hv ?_
  walk_at "ge"
  refine K1.use ?_
  walk_at "cl"
  clear K1
  refine aD λ M1 K1 => ?_
  walk_at "ge"
  refine JS Fx (by unfold pN;rw [List.length_map];omega) ?_
  rw [Nr _ L8]
  have hl2:=St.jv hL (jv S.hs m (c - 1))
  generalize upd H S.ho (.dK (pN (jv S.hs m (c - 1))))=H2 at hl2 ⊢
  walk_at "ge"
  refine K1.use ?_
  walk_at "cl"
  clear K1 je Fx hL
  refine aD λ M1 K1 => ?_
  walk_at "ge"
  ·have hc:c=1:=by omega
   refine ⟨{ S with hs:=jv S.hs m (c - 1) },n,q,m,c - 1,M,rfl,hl2,{ g with },Lb (by show ((jv S.hs m (c - 1)).map (·.1)).Nodup;rw [Iu];exact nd) (Nq _ L8),hw,λ S' N H3 hE g3 hl3 => ?_⟩
   walk_at "ge"
   refine K1.use ?_
   walk_at "cl"
   clear K1
   walk_at "ge"
   rw [show c - 1=0 by omega]
   exact k2 hc S' N _ (iI.of hE) g3 hl3
  ·have hc:c≠1:=by omega
   refine K1.use ?_
   walk_at "cl"
   clear K1
   walk_at "ge"
   exact k1 hc _ hl2
end
section
variable {P:Program} {w:World} {K:PySem.W.Frag} {mg:Str->Option Value} {base:Heap} {cU cA cB cC cT cF cD cS cI:Addr}
def Lies (S:SS) (m:Int):Prop:=(∃ (i:Nat) (t:Addr),S.F.hs[i]? = some (some (t,Th.own m)))\/m∈S.es.map (·.1)
theorem PO.hs {N:Cells} {S S':SS} {i:Nat} {a:Th} (h:PO N S i S' a):S'.F.hs=S.F.hs.set i none/\S'.hs=S.hs/\S'.made=S.made/\S'.b=S.b/\S'.ho=S.ho:=by
 cases a with
 | own m=>obtain ⟨r,row,b,_,rfl⟩:=h;exact ⟨rfl,rfl,rfl,rfl,rfl⟩
 | file z p =>
   obtain ⟨r,row,_,h⟩:=h
   rcases h with ⟨_,rfl⟩ | ⟨_,as,bs,e,j,nr,_,_,_,_,_,rfl⟩
   ·exact ⟨rfl,rfl,rfl,rfl,rfl⟩
   ·exact ⟨rfl,rfl,rfl,rfl,rfl⟩
theorem PO.es {N:Cells} {S S':SS} {i:Nat} {a:Th} (h:PO N S i S' a):S'.es.map (·.1)=S.es.map (·.1)++(match a with | .own m=>[m] | .file _ _=>[]):=by
 cases a with
 | own m=>obtain ⟨r,row,b,_,rfl⟩:=h;show (S.es++[(m,b,row)]).map (·.1)=_;rw [List.map_append];rfl
 | file z p =>
   obtain ⟨r,row,_,h⟩:=h
   rcases h with ⟨_,rfl⟩ | ⟨_,as,bs,e,j,nr,_,_,_,_,_,rfl⟩
   ·exact (List.append_nil _).symm
   ·exact (List.append_nil _).symm
theorem PO.lies {N:Cells} {S S':SS} {i:Nat} {a:Th} {t:Addr} (hi:S.F.hs[i]? = some (some (t,a))) (h:PO N S i S' a) (k:Int):Lies S' k↔Lies S k:=by
 have hlt:i < S.F.hs.length:=(List.getElem?_eq_some_iff.mp hi).1
 unfold Lies
 rw [h.es,h.hs.1,List.mem_append]
 constructor
 ·rintro (⟨j,u,hj⟩ | hk | hk)
  ·rw [List.getElem?_set] at hj
   by_cases e:i=j
   ·subst e
    rw [if_pos rfl,if_pos hlt] at hj
    cases hj
   ·rw [if_neg e] at hj
    exact .inl ⟨j,u,hj⟩
  ·exact .inr hk
  ·cases a with
   | own m=>rw [List.mem_singleton.mp hk];exact .inl ⟨i,t,hi⟩
   | file z p=>cases hk
 ·rintro (⟨j,u,hj⟩ | hk)
  ·by_cases e:i=j
   ·subst e
    rw [hi] at hj
    cases hj
    exact .inr (.inr mS)
   ·exact .inl ⟨j,u,by rw [List.getElem?_set,if_neg e];exact hj⟩
  ·exact .inr (.inl hk)
def iM (N:Cells) (S:SS) (n i:Nat) (S1:SS):Prop :=
 (S.F.hs[i]? = some none/\(∀ (j:Nat) z,j < i->S.F.hs[j]? = some z->z≠none)/\S1=S) ∨
 ((∀ z∈S.F.hs,z≠none) ∧ ∃ (bs':List Bool) (t:Addr) (a:Th),Fw (gw S) (2 * n) S.p S.bs=some (i,bs')/\S.F.hs[i]? = some (some (t,a))/\PO N { S with p:=(i+1) % n,bs:=bs' } i S1 a)
theorem iM.lies {N:Cells} {S S1:SS} {n i:Nat} (h:iM N S n i S1) (k:Int):Lies S1 k↔Lies S k:=by
 rcases h with ⟨_,_,rfl⟩ | ⟨_,bs',t,a,_,hi,h⟩
 ·exact Iff.rfl
 ·exact PO.lies (S := { S with p:=(i+1) % n,bs:=bs' }) hi h k
theorem iM.at {N:Cells} {S S1:SS} {n i:Nat} (h:iM N S n i S1):S1.F.hs[i]? = some none/\S1.hs=S.hs/\S1.made=S.made/\S1.b=S.b/\S1.ho=S.ho:=by
 rcases h with ⟨h,_,rfl⟩ | ⟨_,bs',t,a,_,hi,h⟩
 ·exact ⟨h,rfl,rfl,rfl,rfl⟩
 ·refine ⟨?_,h.hs.2⟩
  have hlt:i < S.F.hs.length:=(List.getElem?_eq_some_iff.mp hi).1
  rw [h.hs.1]
  show (S.F.hs.set i none)[i]? = _
  rw [List.getElem?_set,if_pos rfl,if_pos hlt]
theorem iM.mono {N N':Cells} {S S1:SS} {n i:Nat} (h:iM N S n i S1) (up : ∀ c∈N,c∈N'):iM N' S n i S1:=by
 rcases h with h | ⟨h,bs',t,a,h1,h2,h3⟩
 ·exact .inl h
 ·exact .inr ⟨h,bs',t,a,h1,h2,h3.mono up⟩
theorem aG.had {N:Cells} {S S1:SS} {n q i:Nat} {M:Cells} (g:aG S n q M) (h:iM N S n i S1):aG S1 n q (N++M):=by
 rcases h with ⟨_,_,rfl⟩ | ⟨_,bs',t,a,hgo,hi,h⟩
 ·exact g.mono λ c hc=>mA hc
 ·obtain ⟨l1,l2,l3⟩:=pG _ _ _ hgo
  have n1:=g.n1
  refine aG.po (S := { S with p:=(i+1) % n,bs:=bs' }) (g.turned (Nat.mod_lt _ (by omega)) (l1.trans g.bl)) hi (λ m e => ?_) h
  rw [List.getD_eq_getElem?_getD,pK hi,e] at l3
  exact l3
theorem aG.filled {S:SS} {n q i:Nat} {M:Cells} (g:aG S n q M) {t r:Addr} {m k:Int} {row:List Int} {hs':List (Int×Int)} (ht:(t,HO.tup (fN (.own m)))∈M) (hr:(r,HO.lst (row.map V.int))∈M) (h4:row.length=4) (hn : ¬ Lies S m) :
  aG { S with made:=k,hs:=hs',F:=S.F.fill i (some (t,.own m)) (some (r,row)) false } n q M:=by
 have old : ∀ (j:Nat) (x:Addr×Th),(S.F.hs.set i (some (t,.own m)))[j]? = some (some x)->(j=i/\x=(t,.own m))\/(i≠j/\S.F.hs[j]? = some (some x)):=λ j x h=>by
  rw [List.getElem?_set] at h
  split at h
  ·split at h
   ·cases h
    exact .inl ⟨by omega,rfl⟩
   ·cases h
  ·exact .inr ⟨by assumption,h⟩
 refine { g with f:=g.f.fill (λ t' a e=>by cases e;exact ⟨ht,True.intro⟩) (λ t' a e=>by cases e;exact hr),rr:=λ j u a h => ?_,inj:=λ j l u v a h1 h2 => ?_,ap:=λ j u k h => ?_,ff:=λ j u z p h => ?_ }
 ·rcases old j _ h with ⟨rfl,_⟩ | ⟨h1,h2⟩
  ·have hlt:j < S.F.rs.length:=by
    have h5:=(List.getElem?_eq_some_iff.mp h).1
    have h6:(S.F.hs.set j (some (t,.own m))).length=n:=(List.length_set ..).trans g.f.h
    rw [g.f.r,<-h6]
    exact h5
   exact ⟨r,row,by show (S.F.rs.set j _)[j]? = _;rw [List.getElem?_set,if_pos rfl,if_pos hlt],h4⟩
  ·obtain ⟨r',fU,e,h5⟩:=g.rr j u a h2
   exact ⟨r',fU,by show (S.F.rs.set i _)[j]? = _;rw [List.getElem?_set,if_neg h1];exact e,h5⟩
 ·rcases old j _ h1 with ⟨e1,x1⟩ | ⟨n1,o1⟩
  ·rcases old l _ h2 with ⟨e2,_⟩ | ⟨n2,o2⟩
   ·rw [e1,e2]
   ·cases x1
    exact absurd (.inl ⟨l,v,o2⟩) hn
  ·rcases old l _ h2 with ⟨e2,x2⟩ | ⟨n2,o2⟩
   ·cases x2
    exact absurd (.inl ⟨j,u,o1⟩) hn
   ·exact g.inj j l u v a o1 o2
 ·rcases old j _ h with ⟨_,x⟩ | ⟨_,o⟩
  ·cases x
   exact λ z=>hn (.inr z)
  ·exact g.ap j u k o
 ·rcases old j _ h with ⟨_,x⟩ | ⟨_,o⟩
  ·cases x
  ·exact g.ff j u z p o
def Le (cT cF cD cS cI cU:Addr):Sp:=λ vs H Q E => ∃ (S:SS) (n q:Nat) (r0:Addr) (row:List Int) (M:Cells),vs = [.ref S.b,.ref r0]/\Led H (bh cT cF cD cS cI S M)/\aG S n q M/\(r0,HO.lst (row.map V.int))∈M/\row.length=4/\S.hs.length<=600 ∧ ¬ Lies S (S.made+1)/\S.made+1 ∉ S.hs.map (·.1) ∧
 ((n:Int) - 1+(q:Int) - (S.hs.length:Int)=0->∀ (N:Cells) (H':Hp),Led H' (bh cT cF cD cS cI S (N++M))->E (.ref cU) none H') ∧
 ((n:Int) - 1+(q:Int) - (S.hs.length:Int)≠0->(∀ z∈S.F.hs,z≠none)->true ∉ gw S->False) ∧
 ((n:Int) - 1+(q:Int) - (S.hs.length:Int)≠0->∀ (i:Nat) (S1:SS) (t r p:Addr) (N:Cells) (H':Hp),iM N S n i S1->(t,HO.tup (fN (.own (S.made+1))))∈N->(r,HO.lst (row.map V.int))∈N->aG { S1 with made:=S.made+1,hs:=S.hs++[(S.made+1,1)],F:=S1.F.fill i (some (t,.own (S.made+1))) (some (r,row)) false } n q (N++M)->(p,HO.tup [.int (S.made+1),.int (i:Nat)])∈N->Led H' (bh cT cF cD cS cI { S1 with made:=S.made+1,hs:=S.hs++[(S.made+1,1)],F:=S1.F.fill i (some (t,.own (S.made+1))) (some (r,row)) false } (N++M))->Q (.ref p) H')
theorem Q4 (D:Def K mg "new_sheet" d8) (B:iK mg) (T:Txt K mg cU cA cB cC cT cF cD cS cI) (iN:aI P w K mg base 1 cF "fill" ["self","frame","thing","row"] (Fv cF)) (fD:bX P w K mg base 2 "room_of" ["store"] (BH cT cF cD cS cI)) (jw:bX P w K mg base 6 "have_frame" ["store"] (FN cT cF cD cS cI cU)):bX P w K mg base 7 "new_sheet" ["store","row"] (Le cT cF cD cS cI cU):=by
 have sc:=oh
 refine D.Cu oh (λ vs H Q E h => ?_) (λ _ _ _ _ _ _ us hl=>match us,hl with | [_,_],_=>rfl) (λ f cdv A outer s H vs Q E hr h => ?_)
 ·obtain ⟨_,_,_,_,_,_,rfl,_⟩:=h;rfl
 ·obtain ⟨S,n,q,r0,row,M,rfl,hL,g,rP,h4,hh,Lf,L8,ke,kn,k⟩:=h
  have hu:=gi hr
  have hsz:=sizeLine_eq
  refine ⟨_,(@ah _ _ _ _ _ (@aR _ _ _ _ _ _ _ _ (@aX _ _ _ _ _ _ _ _ iQ (@az _ _ _ _ _ _ _ _ _ _ _ fD (hr.mono (by omega)) (by rfl) aB (@aa _ _ _ _ _ (@ao _ 0 _ _ (by walk_at "v")) (@ai _) (by rfl)) (by decide) (by rfl) (by rfl)) (@aj _ _ _ _) (bf _)) (@ak _ _ _ (@iT _ _ _ _ _ _ _ _ _ _ _ _ _ _ _ _ _ _ _ _ _ _ T.Full (by rfl) (@aa _ _ _ _ _ (@dU _ _ _ _) (@ai _) (by rfl)) (by decide) (by rfl))) (@aE _)) (@ah _ _ _ _ _ (@aJ _ _ 2 _ _ _ _ sc.nd rfl (by walk_at "o2") (@az _ _ _ _ _ _ _ _ _ _ _ jw (hr.mono (by omega)) (by rfl) jA (@aa _ _ _ _ _ (@ao _ 0 _ _ (by walk_at "v")) (@ai _) (by rfl)) (by decide) (by rfl) (by rfl)) (by rfl) (by walk_at "o4")) (@ah _ _ _ _ _ (@aJ _ _ 3 _ _ _ _ sc.nd rfl (by walk_at "o2") (@au _ _ _ _ _ _ _ _ aT (@av _ _ _ _ _ _ _ T.aW T.iL (@ao _ 0 _ _ (by walk_at "v")) (by rfl)) (@aj _ _ _ _)) (by rfl) (by walk_at "o4")) (@ah _ _ _ _ _ (@b6 _ _ _ _ _ _ _ _ _ _ T.aW T.iL (@ao _ 0 _ _ (by walk_at "v")) (@ao _ 3 _ _ (by walk_at "v")) (by rfl)) (@ah _ _ _ _ _ (@ji _ _ _ _ _ _ _ _ _ hu (@av _ _ _ _ _ _ _ T.aW T.gI (@ao _ 0 _ _ (by walk_at "v")) (by rfl)) (@ao _ 3 _ _ (by walk_at "v")) (@aj _ _ _ _) rfl) (@ah _ _ _ _ _ (@bG _ _ _ _ (@aK _ _ _ _ _ _ _ _ _ _ _ _ _ _ _ _ T.Frames iN (hr.mono (by omega)) aB (@av _ _ _ _ _ _ _ T.aW T.bu (@ao _ 0 _ _ (by walk_at "v")) (by rfl)) (@aa _ _ _ _ _ (@ao _ 2 _ _ (by walk_at "v")) (@aa _ _ _ _ _ (@fj _ _ _ _ _ (@aa _ _ _ _ _ (@dU _ _ _ _) (@aa _ _ _ _ _ (@ao _ 3 _ _ (by walk_at "v")) (@ai _) (by rfl)) (by rfl))) (@aa _ _ _ _ _ (@ao _ 1 _ _ (by walk_at "v")) (@ai _) (by rfl)) (by rfl)) (by rfl)) (by rfl) (by rfl) (by rfl)) (by rfl)) (@ak _ _ _ (@aC _ _ _ _ (@fj _ _ _ _ _ (@aa _ _ _ _ _ (@ao _ 3 _ _ (by walk_at "v")) (@aa _ _ _ _ _ (@ao _ 2 _ _ (by walk_at "v")) (@ai _) (by rfl)) (by rfl))))))))))),?_⟩
  refine aD λ M1 K1 => ?_
  walk_at "ge"
  refine ⟨S,n,q,M,rfl,hL,g.f.h,g.n64,g.pl,g.q6,hh,λ N1 H1 hl1 => ?_⟩
  have g1:aG S n q (N1++M):=g.mono λ c hc=>mA hc
  walk_at "ge"
  ·refine mP λ R hR => ?_
   walk_at "ge"
   exact ⟨by decide,ke (by assumption) N1 _ hl1⟩
  ·have hroom:(n:Int) - 1+(q:Int) - (S.hs.length:Int)≠0:=by assumption
   refine K1.use ?_
   walk_at "cl"
   clear K1
   refine aD λ M1 K1 => ?_
   have rest : ∀ (i:Nat) (S1:SS) (N:Cells) (H2:Hp),iM N S n i S1->aG S1 n q (N++(N1++M))->Led H2 (bh cT cF cD cS cI S1 (N++(N1++M)))->M1 [some (.ref S.b),some (.ref r0),some (.int (i:Nat)),none] H2:=by
    intro i S1 N H2 FO gk hl2
    rw [show N++(N1++M)=(N++N1)++M from (List.append_assoc _ _ _).symm] at gk hl2
    obtain ⟨h0,Nx,Q5,eb,eho⟩:=FO.at
    have hi:i < n:=by have:=(List.getElem?_eq_some_iff.mp h0).1;rw [gk.f.h] at this;exact this
    have nl : ¬ Lies S1 (S.made+1):=λ z=>Lf ((FO.lies _).mp z)
    refine K1.use ?_
    clear K1
    have f6:=QZ S1
    have f5:=wF S1
    have je:=hl2.get St.b
    rw [<-eb]
    refine aD λ M1 K1 => ?_
    walk_at "ge"
    refine K1.use ?_
    walk_at "cl"
    clear K1
    rw [Q5]
    refine aD λ M1 K1 => ?_
    walk_at "ge"
    have hl3:=St.aaC hl2 (S.made+1)
    generalize upd H2 S1.b (HO.ins cT S1.dx (cK (Str.ofString "sheets_made") (V.int (S.made+1)) (FE S1)))=H3 at hl3 ⊢
    refine K1.use ?_
    walk_at "cl"
    clear K1 je hl2 f5 f6
    have f5:=wF { S1 with made:=S.made+1 }
    have je:=hl3.get St.b
    have Fx:=hl3.get St.ho
    refine aD λ M1 K1 => ?_
    walk_at "ge"
    have aaD:S.made+1 ∉ S1.hs.map (·.1):=by rw [Nx];exact L8
    refine JS Fx (by unfold pN;rw [List.length_map];show S1.hs.length < _;rw [Nx];omega) ?_
    rw [Nt _ aaD]
    have c8:=St.jv hl3 (S1.hs++[(S.made+1,1)])
    obtain ⟨S3,TZ⟩ : ∃ S3:SS,S3 = { S1 with made:=S.made+1,hs:=S1.hs++[(S.made+1,1)] } := ⟨_,rfl⟩
    have dh:Led (upd H3 S1.ho (HO.dK (pN (S1.hs++[(S.made+1,1)])))) (bh cT cF cD cS cI S3 ((N++N1)++M)):=by rw [TZ];exact c8
    have g3:aG S3 n q ((N++N1)++M):=by rw [TZ];exact { gk with }
    have eb3:S1.b=S3.b:=by rw [TZ]
    clear c8 hl3 je Fx f5
    walk_at "ge"
    refine K1.use ?_
    walk_at "cl"
    clear K1
    generalize upd H3 S1.ho (HO.dK (pN (S1.hs++[(S.made+1,1)])))=H4 at dh ⊢
    rw [eb3]
    have f1:=fB S3
    have je:=dh.get St.b
    have hF:=St.toF dh
    have tT:=hF.get mS
    refine aD λ M1 K1 => ?_
    walk_at "ge"
    rename_i t H5 _ fW _ _ _
    have jW:Led H5 (qP cF S3.F ([(t,HO.tup (fN (.own (S.made+1))))]++rF cT cD cS cI S3 ((N++N1)++M))):=Led.perm fW (aF [(t,HO.tup (fN (.own (S.made+1))))] (pH cF S3.F) _)
    clear fW hF je tT dh
    refine ⟨S3.F,n,i,t,r0,.own (S.made+1),row,_,rfl,jW,g3.f.mono (λ c hc=>mA (eB hc)),hi,mA (eB (mA rP)),by omega,λ r H6 qQ => ?_⟩
    have nE:Led H6 (bh cT cF cD cS cI { S3 with F:=S3.F.fill i (some (t,.own (S.made+1))) (some (r,row)) false } ([(r,HO.lst (row.map V.int)),(t,HO.tup (fN (.own (S.made+1))))]++((N++N1)++M))):=St.OO (S:=S3) rfl qQ
    have nl3 : ¬ Lies S3 (S.made+1):=by rw [TZ];exact nl
    have g4:=(g3.mono (M':=[(r,HO.lst (row.map V.int)),(t,HO.tup (fN (.own (S.made+1))))]++((N++N1)++M)) λ c hc=>mA hc).filled (i:=i) (t:=t) (r:=r) (m:=S.made+1) (k:=S.made+1) (row:=row) (hs':=S3.hs) (mC mS) mS h4 nl3
    clear jW qQ
    walk_at "ge"
    refine K1.use ?_
    walk_at "cl"
    clear K1
    walk_at "ge"
    rename_i p H7 _ gY _
    have fX:=St.push gY
    have g5:=g4.mono (M':=(p,HO.tup [V.int (S.made+1),V.int (i:Nat)])::([(r,HO.lst (row.map V.int)),(t,HO.tup (fN (.own (S.made+1))))]++((N++N1)++M))) λ c hc=>mC hc
    subst TZ
    rw [Nx] at g5 fX
    exact k hroom i S1 t r p ((p,HO.tup [V.int (S.made+1),V.int (i:Nat)])::(r,HO.lst (row.map V.int))::(t,HO.tup (fN (.own (S.made+1))))::(N++N1)) H7 (FO.mono λ c hc=>mC (mC (mC (mB hc)))) (mC (mC mS)) (mC mS) g5 mS fX
   walk_at "ge"
   refine ⟨S,n,q,_,rfl,hl1,g1,λ i H2 h1 h2 hl2 => ?_,λ hall i bs' t a hgo hi S1 N H2 TX gk hl2 => ?_,λ hall hno N H2 hl2=>(kn hroom hall hno).elim⟩
   ·walk_at "ge"
    exact rest i S [] H2 (.inl ⟨h1,h2,rfl⟩) g1 hl2
   ·walk_at "ge"
    exact rest i S1 N H2 (.inr ⟨hall,bs',t,a,hgo,hi,TX⟩) gk hl2
end
section
variable {P:Program} {w:World} {K:PySem.W.Frag} {mg:Str->Option Value} {base:Heap} {cU cA cB cC cT cF cD cS cI:Addr}
def S0 (b dx fr yY l r s di BI mk sh B3 pl rd fi B4 fd ho:Addr) (n q:Nat):SS := { b:=b,dx:=dx,F:=FS.new fr yY l r s n,d:=di,QY:=BI,dm:=mk,p:=0,bs:=List.replicate n false,sb:=sh,IM:=B3,sl:=pl,sd:=rd,ps:=List.replicate q .aH,es:=[],ib:=fi,ix:=B4,im:=fd,fs:=[],ho:=ho,hs:=[],made:=0 }
def GC (cT cF cD cS cI:Addr):Sp:=λ vs H Q _ => ∃ (b dx:Addr) (n q:Nat) (L:Cells),vs = [.ref b,.int (n:Nat),.int (q:Nat)]/\Led H ((b,.ins cT dx [])::L)/\n<=64/\q<=550 ∧ ∀ fr yY l r s di BI mk sh B3 pl rd fi B4 fd ho H',Led H' (bh cT cF cD cS cI (S0 b dx fr yY l r s di BI mk sh B3 pl rd fi B4 fd ho n q) L)->Q .aH H'
theorem Q6 {α : Type} (fi sh di fr L:List α):(fi++(sh++(di++(fr++L)))).Perm (fr++(di++(sh++(fi++L)))) :=
 (((List.Perm.append_left fi (List.Perm.append_left sh (aF di fr L))).trans (List.Perm.append_left fi (aF sh fr _))).trans (aF fi fr _)).trans (List.Perm.append_left fr (((List.Perm.append_left fi (aF sh di L)).trans (aF fi di _)).trans (List.Perm.append_left di (aF fi sh L))))
theorem Lg (D:mL K cT "Store.__init__" dH) (T:Txt K mg cU cA cB cC cT cF cD cS cI) (Lh:g8 P w K mg base 1 cF ["self","many"] (Gp cF)) (Q7:g8 P w K mg base 1 cD ["self","many"] (Gr cD)) (Ny:g8 P w K mg base 1 cS ["self","many"] (Gv cS)) (Nz:g8 P w K mg base 1 cI ["self"] (Gx cI)):g8 P w K mg base 3 cT ["self","many","places"] (GC cT cF cD cS cI):=by
 have sc:=l5
 refine D.ok l5 (λ vs H Q E h => ?_) (λ _ _ _ _ _ _ us hl=>match us,hl with | [_,_,_],_=>rfl) (λ f cdv A outer s H vs Q E hr h => ?_)
 ·obtain ⟨_,_,_,_,_,rfl,_⟩:=h;rfl
 ·obtain ⟨b,dx,n,q,L,rfl,hL,n64,q6,k⟩:=h
  refine ⟨_,(@ah _ _ _ _ _ (@b6 _ _ _ _ _ _ _ _ _ _ T.aW T.bu (@ao _ 0 _ _ (by walk_at "v")) (@n5 _ _ _ _ _ _ _ _ _ _ _ _ T.Frames Lh (hr.mono (by omega)) (by rfl) aB (@aa _ _ _ _ _ (@ao _ 1 _ _ (by walk_at "v")) (@ai _) (by rfl)) (by decide) (by rfl) (by rfl)) (by rfl)) (@ah _ _ _ _ _ (@b6 _ _ _ _ _ _ _ _ _ _ T.aW T.Ei (@ao _ 0 _ _ (by walk_at "v")) (@n5 _ _ _ _ _ _ _ _ _ _ _ _ T.u6 Q7 (hr.mono (by omega)) (by rfl) aB (@aa _ _ _ _ _ (@ao _ 1 _ _ (by walk_at "v")) (@ai _) (by rfl)) (by decide) (by rfl) (by rfl)) (by rfl)) (@ah _ _ _ _ _ (@b6 _ _ _ _ _ _ _ _ _ _ T.aW T.jn (@ao _ 0 _ _ (by walk_at "v")) (@n5 _ _ _ _ _ _ _ _ _ _ _ _ T.eL Ny (hr.mono (by omega)) (by rfl) aB (@aa _ _ _ _ _ (@ao _ 2 _ _ (by walk_at "v")) (@ai _) (by rfl)) (by decide) (by rfl) (by rfl)) (by rfl)) (@ah _ _ _ _ _ (@b6 _ _ _ _ _ _ _ _ _ _ T.aW T.ou (@ao _ 0 _ _ (by walk_at "v")) (@Hi _ _ _ _ _ _ _ _ _ T.gb Nz (hr.mono (by omega)) (by rfl) aB (by decide)) (by rfl)) (@ah _ _ _ _ _ (@b6 _ _ _ _ _ _ _ _ _ _ T.aW T.gI (@ao _ 0 _ _ (by walk_at "v")) (@uu _ _) (by rfl)) (@ak _ _ _ (@b6 _ _ _ _ _ _ _ _ _ _ T.aW T.iL (@ao _ 0 _ _ (by walk_at "v")) (@aj _ _ _ _) (by rfl)))))))),?_⟩
  refine aD λ M1 K1 => ?_
  walk_at "ge"
  intro fr yY z1 z2 z3
  refine ⟨fr,yY,n,_,rfl,hL.make z1 z2 z3,by omega,λ l r s' H1 hl1=>⟨rfl,?_⟩⟩
  clear z1 z2 z3 hL
  have hl2:Led H1 ((b,.ins cT dx [])::(pH cF (FS.new fr yY l r s' n)++L)):=Led.perm hl1 (List.perm_middle (l₁ := pH cF (FS.new fr yY l r s' n)))
  have hl3:Led (upd H1 b (.ins cT dx (cK (Str.ofString "frames") (V.ref fr) []))) ((b,.ins cT dx [("frames",.ref fr)])::_):=hl2.put rfl rfl
  clear hl1
  walk_at "ge"
  refine K1.use ?_
  walk_at "cl"
  clear K1 hl2
  generalize upd H1 b (.ins cT dx (cK (Str.ofString "frames") (V.ref fr) []))=H2 at hl3 ⊢
  refine aD λ M1 K1 => ?_
  walk_at "ge"
  intro di BI z1 z2 z3
  refine ⟨di,BI,(n:Int),_,rfl,hl3.make z1 z2 z3,by omega,by omega,λ mk H3 c8=>⟨rfl,?_⟩⟩
  clear z1 z2 z3 hl3
  rw [Int.toNat_natCast] at c8
  have dh:Led H3 ((b,.ins cT dx [("frames",.ref fr)])::(e7 cD di BI mk 0 (List.replicate n false)++(pH cF (FS.new fr yY l r s' n)++L))):=Led.perm c8 List.perm_middle
  have fW:Led (upd H3 b (.ins cT dx (cK (Str.ofString "dial") (V.ref di) [("frames",.ref fr)]))) ((b,.ins cT dx [("frames",.ref fr),("dial",.ref di)])::_):=dh.put rfl rfl
  clear c8
  walk_at "ge"
  refine K1.use ?_
  walk_at "cl"
  clear K1 dh
  generalize upd H3 b (.ins cT dx (cK (Str.ofString "dial") (V.ref di) [("frames",.ref fr)]))=H4 at fW ⊢
  refine aD λ M1 K1 => ?_
  walk_at "ge"
  intro sh B3 z1 z2 z3
  refine ⟨sh,B3,(q:Int),_,rfl,fW.make z1 z2 z3,by omega,by omega,λ pl rd H5 jW=>⟨rfl,?_⟩⟩
  clear z1 z2 z3 fW
  rw [Int.toNat_natCast] at jW
  have qQ:Led H5 ((b,.ins cT dx [("frames",.ref fr),("dial",.ref di)])::(wU cS sh B3 pl rd (List.replicate q .aH) []++(e7 cD di BI mk 0 (List.replicate n false)++(pH cF (FS.new fr yY l r s' n)++L)))):=Led.perm jW List.perm_middle
  have nE:Led (upd H5 b (.ins cT dx (cK (Str.ofString "shelf") (V.ref sh) [("frames",.ref fr),("dial",.ref di)]))) ((b,.ins cT dx [("frames",.ref fr),("dial",.ref di),("shelf",.ref sh)])::_):=qQ.put rfl rfl
  clear jW
  walk_at "ge"
  refine K1.use ?_
  walk_at "cl"
  clear K1 qQ
  generalize upd H5 b (.ins cT dx (cK (Str.ofString "shelf") (V.ref sh) [("frames",.ref fr),("dial",.ref di)]))=H6 at nE ⊢
  refine aD λ M1 K1 => ?_
  walk_at "ge"
  intro fi B4 z1 z2 z3
  refine ⟨fi,B4,_,rfl,nE.make z1 z2 z3,λ fd H7 gY=>⟨rfl,?_⟩⟩
  clear z1 z2 z3 nE
  have fX:Led H7 ((b,.ins cT dx [("frames",.ref fr),("dial",.ref di),("shelf",.ref sh)])::(((fi,.ins cI B4 (iG fd))::(fd,.dK (wR []))::mQ [])++(wU cS sh B3 pl rd (List.replicate q .aH) []++(e7 cD di BI mk 0 (List.replicate n false)++(pH cF (FS.new fr yY l r s' n)++L))))):=Led.perm gY (List.perm_middle (l₁ := (fi,HO.ins cI B4 (iG fd))::(fd,.dK (wR []))::mQ []))
  have lU:Led (upd H7 b (.ins cT dx (cK (Str.ofString "files") (V.ref fi) [("frames",.ref fr),("dial",.ref di),("shelf",.ref sh)]))) ((b,.ins cT dx [("frames",.ref fr),("dial",.ref di),("shelf",.ref sh),("files",.ref fi)])::_):=fX.put rfl rfl
  clear gY
  walk_at "ge"
  refine K1.use ?_
  walk_at "cl"
  clear K1 fX
  generalize upd H7 b (.ins cT dx (cK (Str.ofString "files") (V.ref fi) [("frames",.ref fr),("dial",.ref di),("shelf",.ref sh)]))=H8 at lU ⊢
  refine aD λ M1 K1 => ?_
  walk_at "ge"
  rename_i ho H9 _ gZ _
  have DE:Led (upd H9 b (.ins cT dx (cK (Str.ofString "holders") (V.ref ho) [("frames",.ref fr),("dial",.ref di),("shelf",.ref sh),("files",.ref fi)]))) ((b,.ins cT dx [("frames",.ref fr),("dial",.ref di),("shelf",.ref sh),("files",.ref fi),("holders",.ref ho)])::_):=(gZ.swap).put rfl rfl
  refine K1.use ?_
  walk_at "cl"
  clear K1 gZ lU
  generalize upd H9 b (.ins cT dx (cK (Str.ofString "holders") (V.ref ho) [("frames",.ref fr),("dial",.ref di),("shelf",.ref sh),("files",.ref fi)]))=UN at DE ⊢
  walk_at "ge"
  have FP:=DE.put (o' := .ins cT dx (FE (S0 b dx fr yY l r s' di BI mk sh B3 pl rd fi B4 fd ho n q))) rfl rfl
  exact k fr yY l r s' di BI mk sh B3 pl rd fi B4 fd ho _ (Led.perm FP (List.Perm.cons _ (List.Perm.cons _ (Q6 _ _ _ _ _))))
end
section
variable {P:Program} {w:World} {K:PySem.W.Frag} {mg:Str->Option Value} {base:Heap} {cU cA cB cC cT cF cD cS cI:Addr}
structure DF (S:SS) (n q:Nat):Prop where
 nd:(S.hs.map (·.1)).Nodup
 le : ∀ e∈S.hs,1<=e.1/\e.1<=S.made
 c1 : ∀ e∈S.hs,1<=e.2
 OS : ∀ m,m∈S.hs.map (·.1)↔Lies S m
 most:S.hs.length<=n - 1+q
 m0:0<=S.made
theorem DF.key {S:SS} {n q:Nat} (g:DF S n q):S.made+1 ∉ S.hs.map (·.1):=λ h=>by
 obtain ⟨e,he,e1⟩:=List.mem_map.mp h
 have:=(g.le e he).2
 have e2:e.1=S.made+1:=e1
 omega
theorem DF.fresh {S:SS} {n q:Nat} (g:DF S n q) : ¬ Lies S (S.made+1):=λ h=>g.key ((g.OS _).mpr h)
def ownOf:Hd->Int
 | some (_,.own m)=>m
 | _=>0
def intOf:V->Int
 | .int m=>m
 | _=>0
theorem DF.zK {S:SS} {n q:Nat} {M:Cells} (g:aG S n q M) (h:DF S n q) (hall : ∀ z∈S.F.hs,z≠none) (hno:true ∉ gw S):False:=by
 have own : ∀ (i:Nat) (z:Hd),S.F.hs[i]? = some z->∃ t m,z=some (t,Th.own m)/\nX .aH S.ps=false:=λ i z hz=>by
  cases z with
  | none=>exact absurd rfl (hall none (List.mem_of_getElem? hz))
  | some x =>
    have hm:=pK (t:=x.1) (a:=x.2) hz
    have hf:(qT x.2 || nX .aH S.ps)=false:=by
     cases hb:(qT x.2 || nX .aH S.ps) with
     | false=>rfl
     | true=>rw [hb] at hm;exact absurd (List.mem_of_getElem? hm) hno
    obtain ⟨t,a⟩:=x
    cases a with
    | own m=>exact ⟨t,m,rfl,(Bool.or_eq_false_iff.mp hf).2⟩
    | file z p=>cases (Bool.or_eq_false_iff.mp hf).1
 have n1:=g.n1
 obtain ⟨_,_,_,GB⟩:=own 0 _ (List.getElem?_eq_getElem (by rw [g.f.h];omega))
 have nums : ∀ (i:Nat) (v:V),S.ps[i]? = some v->∃ m,v = .int m:=λ i v hv=>by
  rcases g.pe v (List.mem_of_getElem? hv) with rfl | h
  ·have:nX .aH S.ps=true:=List.any_eq_true.mpr ⟨.aH,List.mem_of_getElem? hv,rfl⟩
   rw [this] at GB
   cases GB
  ·exact h
 have sub : ∀ m∈S.F.hs.map ownOf++S.ps.map intOf,m∈S.hs.map (·.1):=λ m hm=>by
  refine (h.OS m).mpr ?_
  rcases List.mem_append.mp hm with hm | hm
  ·obtain ⟨z,hz,rfl⟩:=List.mem_map.mp hm
   obtain ⟨i,hi⟩:=List.getElem?_of_mem hz
   obtain ⟨t,m,rfl,_⟩:=own i z hi
   exact .inl ⟨i,t,hi⟩
  ·obtain ⟨v,hv,rfl⟩:=List.mem_map.mp hm
   obtain ⟨i,hi⟩:=List.getElem?_of_mem hv
   obtain ⟨m,rfl⟩:=nums i v hi
   exact .inr ((g.pk m).mp hv)
 have nd:(S.F.hs.map ownOf++S.ps.map intOf).Nodup:=by
  refine List.nodup_append.mpr ⟨?_,?_,?_⟩
  ·refine List.pairwise_iff_getElem.mpr λ i j hi hj hij e => ?_
   rw [List.length_map] at hi hj
   rw [List.getElem_map,List.getElem_map] at e
   obtain ⟨t,m,e1,_⟩:=own i _ (List.getElem?_eq_getElem hi)
   obtain ⟨u,k,e2,_⟩:=own j _ (List.getElem?_eq_getElem hj)
   rw [e1,e2] at e
   have e':m=k:=e
   have:=g.inj i j t u (.own m) (by rw [List.getElem?_eq_getElem hi,e1]) (by rw [List.getElem?_eq_getElem hj,e2,e'])
   omega
  ·refine List.pairwise_iff_getElem.mpr λ i j hi hj hij e => ?_
   rw [List.length_map] at hi hj
   rw [List.getElem_map,List.getElem_map] at e
   obtain ⟨m,e1⟩:=nums i _ (List.getElem?_eq_getElem hi)
   obtain ⟨k,e2⟩:=nums j _ (List.getElem?_eq_getElem hj)
   rw [e1,e2] at e
   have e':m=k:=e
   have:=g.pi i j m (by rw [List.getElem?_eq_getElem hi,e1]) (by rw [List.getElem?_eq_getElem hj,e2,e'])
   omega
  ·intro a ha b hb e
   obtain ⟨z,hz,rfl⟩:=List.mem_map.mp ha
   obtain ⟨v,hv,rfl⟩:=List.mem_map.mp hb
   obtain ⟨i,hi⟩:=List.getElem?_of_mem hz
   obtain ⟨j,hj⟩:=List.getElem?_of_mem hv
   obtain ⟨t,m,rfl,_⟩:=own i z hi
   obtain ⟨k,rfl⟩:=nums j v hj
   have e':m=k:=e
   rw [<-e'] at hv
   exact g.ap i t m hi ((g.pk m).mp hv)
 have:=nd.length_le_of_subset sub
 rw [List.length_append,List.length_map,List.length_map,List.length_map,g.f.h,g.pl] at this
 have:=h.most
 omega
theorem DF.Li {N:Cells} {S S1:SS} {n q i:Nat} {M:Cells} {t r:Addr} {row:List Int} (g:DF S n q) (h:iM N S n i S1) (gs:aG S n q M) (hr:(n:Int) - 1+(q:Int) - (S.hs.length:Int)≠0):DF { S1 with made:=S.made+1,hs:=S.hs++[(S.made+1,1)],F:=S1.F.fill i (some (t,.own (S.made+1))) (some (r,row)) false } n q:=by
 have n1:=gs.n1
 have m0:=g.m0
 have hm:=g.most
 have h0:=h.at.1
 have hlt:=(List.getElem?_eq_some_iff.mp h0).1
 refine ⟨?_,λ e he => ?_,λ e he => ?_,λ k => ?_,?_,?_⟩
 ·show ((S.hs++[((S.made+1,1):Int×Int)]).map (λ e:Int×Int=>e.1)).Nodup
  rw [List.map_append]
  refine List.nodup_append.mpr ⟨g.nd,by simp,λ x hx y hy e => ?_⟩
  have hy':y=S.made+1:=by simpa using hy
  exact g.key (hy' ▸ e ▸ hx)
 ·show 1<=e.1/\e.1<=S.made+1
  rcases List.mem_append.mp he with he | he
  ·have:=g.le e he;omega
  ·rw [List.mem_singleton.mp he];show 1<=S.made+1/\S.made+1<=S.made+1;omega
 ·rcases List.mem_append.mp he with he | he
  ·exact g.c1 e he
  ·rw [List.mem_singleton.mp he];exact Int.le_refl 1
 ·show k∈(S.hs++[((S.made+1,1):Int×Int)]).map (λ e:Int×Int=>e.1)↔_
  rw [List.map_append,List.mem_append,g.OS k,<-h.lies k]
  unfold Lies
  show _↔(∃ (j:Nat) (u:Addr),(S1.F.hs.set i (some (t,.own (S.made+1))))[j]? = some (some (u,Th.own k)))\/k∈S1.es.map (·.1)
  constructor
  ·rintro ((⟨j,u,hj⟩ | hk) | hk)
   ·refine .inl ⟨j,u,?_⟩
    have:i≠j:=λ z=>by rw [<-z,h0] at hj;cases hj
    rw [List.getElem?_set,if_neg this]
    exact hj
   ·exact .inr hk
   ·have hk':k=S.made+1:=by simpa using hk
    refine .inl ⟨i,t,?_⟩
    rw [List.getElem?_set,if_pos rfl,if_pos hlt,hk']
  ·rintro (⟨j,u,hj⟩ | hk)
   ·by_cases z:i=j
    ·rw [List.getElem?_set,if_pos z,if_pos hlt] at hj
     cases hj
     exact .inr mS
    ·rw [List.getElem?_set,if_neg z] at hj
     exact .inl (.inl ⟨j,u,hj⟩)
   ·exact .inl (.inr hk)
 ·show (S.hs++[(S.made+1,1)]).length<=_
  rw [List.length_append]
  show S.hs.length+1<=_
  omega
 ·show 0<=S.made+1
  omega
end
section
variable {P:Program} {w:World} {K:PySem.W.Frag} {mg:Str->Option Value} {base:Heap} {cU cA cB cC cT cF cD cS cI:Addr}
theorem iI.lies {S S':SS} {n q:Nat} {M:Cells} {m:Int} (gs:aG S n q M) (h:iI S S' m) (k:Int):Lies S' k↔Lies S k/\k≠m:=by
 rcases h with ⟨i,t,hi,rfl⟩ | ⟨hn,_,rfl⟩
 ·have hlt:=(List.getElem?_eq_some_iff.mp hi).1
  show ((∃ (j:Nat) (u:Addr),(S.F.hs.set i none)[j]? = some (some (u,Th.own k)))\/k∈S.es.map (·.1))↔_
  constructor
  ·rintro (⟨j,u,hj⟩ | hk)
   ·by_cases z:i=j
    ·rw [List.getElem?_set,if_pos z,if_pos hlt] at hj
     cases hj
    ·rw [List.getElem?_set,if_neg z] at hj
     refine ⟨.inl ⟨j,u,hj⟩,λ e=>z ?_⟩
     rw [e] at hj
     exact gs.inj i j t u _ hi hj
   ·exact ⟨.inr hk,λ e=>gs.ap i t m hi (e ▸ hk)⟩
  ·rintro ⟨⟨j,u,hj⟩ | hk,hne⟩
   ·refine .inl ⟨j,u,?_⟩
    have z:i≠j:=λ z=>by
     rw [<-z,hi] at hj
     cases hj
     exact hne rfl
    rw [List.getElem?_set,if_neg z]
    exact hj
   ·exact .inr hk
 ·show ((∃ (j:Nat) (u:Addr),S.F.hs[j]? = some (some (u,Th.own k)))\/k∈(S.es.filter λ x=>decide (x.1≠m)).map (·.1))↔_
  constructor
  ·rintro (⟨j,u,hj⟩ | hk)
   ·exact ⟨.inl ⟨j,u,hj⟩,λ e=>hn j u (e ▸ hj)⟩
   ·obtain ⟨e,he,rfl⟩:=List.mem_map.mp hk
    obtain ⟨h1,h2⟩:=List.mem_filter.mp he
    exact ⟨.inr (List.mem_map.mpr ⟨e,h1,rfl⟩),of_decide_eq_true h2⟩
  ·rintro ⟨⟨j,u,hj⟩ | hk,hne⟩
   ·exact .inl ⟨j,u,hj⟩
   ·obtain ⟨e,he,rfl⟩:=List.mem_map.mp hk
    exact .inr (List.mem_map.mpr ⟨e,List.mem_filter.mpr ⟨he,decide_eq_true hne⟩,rfl⟩)
theorem iI.hs {S S':SS} {m:Int} (h:iI S S' m):S'.hs=(S.hs.filter λ e=>decide (e.1≠m))/\S'.made=S.made/\S'.b=S.b/\S'.p=S.p:=by
 rcases h with ⟨i,t,hi,rfl⟩ | ⟨hn,_,rfl⟩
 ·exact ⟨rfl,rfl,rfl,rfl⟩
 ·exact ⟨rfl,rfl,rfl,rfl⟩
theorem DF.ended {S S':SS} {n q:Nat} {M:Cells} {m:Int} (g:DF S n q) (gs:aG S n q M) (h:iI S S' m):DF S' n q:=by
 obtain ⟨e1,e2,_⟩:=h.hs
 refine ⟨?_,λ e he => ?_,λ e he => ?_,λ k => ?_,?_,by rw [e2];exact g.m0⟩
 ·rw [e1]
  exact g.nd.sublist (List.Sublist.map _ List.filter_sublist)
 ·rw [e1] at he
  rw [e2]
  exact g.le e (List.mem_filter.mp he).1
 ·rw [e1] at he
  exact g.c1 e (List.mem_filter.mp he).1
 ·rw [h.lies gs k,<-g.OS k,e1]
  constructor
  ·intro hk
   obtain ⟨e,he,rfl⟩:=List.mem_map.mp hk
   obtain ⟨h1,h2⟩:=List.mem_filter.mp he
   exact ⟨List.mem_map.mpr ⟨e,h1,rfl⟩,of_decide_eq_true h2⟩
  ·rintro ⟨hk,hne⟩
   obtain ⟨e,he,rfl⟩:=List.mem_map.mp hk
   exact List.mem_map.mpr ⟨e,List.mem_filter.mpr ⟨he,decide_eq_true hne⟩,rfl⟩
 ·rw [e1]
  exact Nat.le_trans (List.length_filter_le ..) g.most
theorem BJ {α : Type} {n i:Nat} {x y : α} (h:(List.replicate n x)[i]? = some y):y=x:=List.eq_of_mem_replicate (List.mem_of_getElem? h)
section
variable {b dx fr yY l r s di BI mk sh B3 pl rd fi B4 fd ho:Addr} {n q:Nat} {M:Cells}
theorem aG.laid (n1:1<=n) (n64:n<=64) (q6:q<=550):aG (S0 b dx fr yY l r s di BI mk sh B3 pl rd fi B4 fd ho n q) n q M:=by
 have no : ∀ (i:Nat) (x:Addr×Th),(S0 b dx fr yY l r s di BI mk sh B3 pl rd fi B4 fd ho n q).F.hs[i]? = some (some x)->False:=λ i x h=>nomatch (BJ (α := Hd) (x:=none) h)
 exact { f:=DM.new,n1:=n1,n64:=n64,bl:=List.length_replicate,pn:=n1,rr:=λ i t a h=>(no i _ h).elim,inj:=λ i _ t _ a h _=>(no i _ h).elim,pl:=List.length_replicate,q6:=q6,pe:=λ v hv => .inl (List.eq_of_mem_replicate hv),nd:=List.nodup_nil,pk:=λ m=>⟨λ h=>(nomatch (List.eq_of_mem_replicate h)),λ h=>(nomatch h)⟩,pi:=λ i j m h _=>(nomatch (BJ (α := V) (x := .aH) h)),ap:=λ i t m h=>(no i _ h).elim,er:=λ e he=>(nomatch he),fn:=List.nodup_nil,fr:=λ e he=>(nomatch he),ff:=λ i t z p h=>(no i _ h).elim }
theorem DF.laid:DF (S0 b dx fr yY l r s di BI mk sh B3 pl rd fi B4 fd ho n q) n q:=by
 refine ⟨List.nodup_nil,λ e he=>(nomatch he),λ e he=>(nomatch he),λ m=>⟨λ h=>(nomatch h),λ h => ?_⟩,Nat.zero_le _,Int.le_refl 0⟩
 rcases h with ⟨i,t,h⟩ | h
 ·exact nomatch (BJ (α := Hd) (x:=none) h)
 ·exact (nomatch h)
end
end
section
variable {P:Program} {w:World} {K:PySem.W.Frag} {mg:Str->Option Value} {base:Heap} {cU cA cB cC cT cF cD cS cI:Addr}
def BK (cI cA cB:Addr):Sp:=λ vs H Q E => ∃ (b dx d:Addr) (es:cM) (z:Str) (p:Int) (L:Cells),vs = [.ref b,.str z,.int p]/\Led H L/\FH cI H b dx d es/\(∀ e∈es,∀ r∈e.2.2,H r.1=some (.lst (r.2.map V.int))/\r.2.length<=600)/\(∀ e∈es,e.1=z->∀ (j:Nat) r,p=((j:Nat):Int)->e.2.2[j]? = some r->∀ q H',Led H' ((q,.lst (r.2.map V.int))::L)->Q (.ref q) H')/\(∀ e∈es,e.1=z->¬ (0<=p/\p < e.2.2.length)->E (.ref cB) none H)/\(z ∉ es.map (·.1)->E (.ref cA) none H)
theorem Iw (D:bH K cI "row_at" "Files.row_at" ck) (B:iK mg) (T:Txt K mg cU cA cB cC cT cF cD cS cI) (fz:aI P w K mg base 3 cI "ask_page" ["self","name","page"] (FA cI cA cB)):aI P w K mg base 4 cI "row_at" ["self","name","page"] (BK cI cA cB):=by
 have sc:=jB
 refine D.Cu jB (λ vs H Q E h => ?_) (λ _ _ _ _ _ _ us hl=>match us,hl with | [_,_,_],_=>rfl) (λ f cdv A outer s H vs Q E hr h => ?_)
 ·obtain ⟨_,_,_,_,_,_,_,rfl,_⟩:=h;rfl
 ·obtain ⟨b,dx,d,es,z,p,L,rfl,hL,fh,hr4,k1,k2,k3⟩:=h
  have hu:=gi hr
  have hf:(iG d).lookup (Str.ofString "rows_by_name")=some (.ref d):=rfl
  have c1:=fh.cb
  have c2:=fh.cd
  refine ⟨_,(@ah _ _ _ _ _ (@bG _ _ _ _ (@aK _ _ _ _ _ _ _ _ _ _ _ _ _ _ _ _ T.gb fz (hr.mono (by omega)) jA (@ao _ 0 _ _ (by walk_at "v")) (@aa _ _ _ _ _ (@ao _ 1 _ _ (by walk_at "v")) (@aa _ _ _ _ _ (@ao _ 2 _ _ (by walk_at "v")) (@ai _) (by rfl)) (by rfl)) (by rfl) (by rfl) (by rfl)) (by rfl)) (@ak _ _ _ (@aC _ _ _ _ (@bw _ _ _ _ _ _ _ _ _ (aP (K:=K) rfl) (by rfl) B.list bZ (@aa _ _ _ _ _ (@bB _ _ _ _ _ _ _ aU (@g7 _ _ _ _ _ _ hu (@av _ _ _ _ _ _ _ T.gb T.bP (@ao _ 0 _ _ (by walk_at "v")) (by rfl)) (@ao _ 1 _ _ (by walk_at "v")) (λ _ _=>rfl)) (@ao _ 2 _ _ (by walk_at "v")) (λ _ _=>rfl)) (@ai _) (by rfl)) (by decide) (by decide) (by rfl) (by rfl))))),?_⟩
  refine aD λ M1 K1 => ?_
  walk_at "ge"
  refine ⟨b,dx,d,es,z,p,rfl,fh,λ e he hz p0 p1 => ?_,λ e he hz hp => ?_,λ hz => ?_⟩
  ·subst hz
   obtain ⟨j,rfl⟩:=Int.eq_ofNat_of_zero_le p0
   have hj:j < e.2.2.length:=by omega
   have hjr:=List.getElem?_eq_getElem hj
   have c3:=fh.cf e he
   have c4:=hr4 e he _ (List.getElem_mem hj)
   generalize e.2.2[j]=r at hjr c4
   have ha:jL (nJ e.2.2) ((j:Nat):Int)=some (.ref r.1):=gK (by omega) (by unfold nJ;rw [Int.toNat_natCast,List.getElem?_map,hjr];rfl)
   have mr:(r.2.map V.int).length=r.2.length:=List.length_map _
   have c5:=c4.1
   have h6:=c4.2
   walk_at "ge"
   refine K1.use ?_
   walk_at "cl"
   clear K1
   walk_at "ge"
   refine J1 c2 (uO fh.nd he) ?_
   walk_at "ge"
   rename Led _ _=>hl2
   exact k1 e he rfl j r rfl hjr _ _ hl2
  ·exact k2 e he hz hp
  ·exact k3 hz
def Back (S:SS) (row:List Int):Th->Prop
 | .own m => ∃ b:Addr,(m,b,row)∈S.es
 | .file z p => ∃ e∈S.fs,e.1=z ∧ ∃ (j:Nat) (r:Addr),p=(j:Int)/\e.2.2[j]? = some (r,row)
def gone (S:SS):Th->SS
 | .own m => { S with ps:=S.ps.set (idx S.ps (.int m)) .aH,es:=S.es.filter λ x=>decide (x.1≠m) }
 | .file _ _=>S
theorem aG.inS {S:SS} {n q:Nat} {M:Cells} {m:Int} (g:aG S n q M) (h:m∈S.es.map (·.1)):nX (.int m) S.ps=true:=List.any_eq_true.mpr ⟨.int m,(g.pk m).mpr h,show decide (m=m)=true from decide_eq_true rfl⟩
theorem Back.key {S:SS} {m:Int} {row:List Int} (h:Back S row (.own m)):m∈S.es.map (·.1):=let ⟨_,hb⟩:=h; List.mem_map.mpr ⟨_,hb,rfl⟩
theorem Back.len {S:SS} {n q:Nat} {M:Cells} {a:Th} {row:List Int} (g:aG S n q M) (h:Back S row a):row.length=4:=by
 cases a with
 | own m=>obtain ⟨b,hb⟩:=h;exact g.er _ hb
 | file z p=>obtain ⟨e,he,_,j,r,_,hr⟩:=h;exact (g.fr e he _ (List.mem_of_getElem? hr)).2
theorem aG.gone {S:SS} {n q:Nat} {M:Cells} {a:Th} {row:List Int} (g:aG S n q M) (h:Back S row a):aG (My.gone S a) n q M:=by
 cases a with
 | own m=>exact g.wK (g.inS h.key)
 | file z p=>exact g
theorem qU (S:SS) (a:Th):(gone S a).b=S.b/\(gone S a).F=S.F/\(gone S a).hs=S.hs/\(gone S a).made=S.made/\(gone S a).fs=S.fs/\(gone S a).p=S.p/\(gone S a).bs=S.bs:=by cases a <;> exact ⟨rfl,rfl,rfl,rfl,rfl,rfl,rfl⟩
def zL (cT cF cD cS cI:Addr):Sp:=λ vs H Q _ => ∃ (S:SS) (n q:Nat) (t:Addr) (a:Th) (wH:List Int) (M:Cells),vs = [.ref S.b,.ref t]/\Led H (bh cT cF cD cS cI S M)/\aG S n q M/\(t,HO.tup (fN a))∈M/\Back S wH a ∧ ∀ (row:List Int) (r:Addr) (N:Cells) (H':Hp),Back S row a->(r,HO.lst (row.map V.int))∈N->Led H' (bh cT cF cD cS cI (gone S a) (N++M))->Q (.ref r) H'
theorem FQ (D:Def K mg "fetched" gC) (T:Txt K mg cU cA cB cC cT cF cD cS cI) (fC:aI P w K mg base 1 cS "take_off" ["self","sheet"] (Fz cS)) (gT:aI P w K mg base 4 cI "row_at" ["self","name","page"] (BK cI cA cB)) (dZ:bX P w K mg base 1 "is_sheet" ["thing"] jd):bX P w K mg base 5 "fetched" ["store","thing"] (zL cT cF cD cS cI):=by
 have sc:=uT
 refine D.Cu uT (λ vs H Q E h => ?_) (λ _ _ _ _ _ _ us hl=>match us,hl with | [_,_],_=>rfl) (λ f cdv A outer s H vs Q E hr h => ?_)
 ·obtain ⟨_,_,_,_,_,_,_,rfl,_⟩:=h;rfl
 ·obtain ⟨S,n,q,t,a,wH,M,rfl,hL,g,uc,hb0,k⟩:=h
  have f3:=qS S
  have f4:=BF S
  have je:=hL.get St.b
  have yW:=hL.get (St.up uc)
  refine ⟨_,(@ah _ _ _ _ _ (@aR _ _ _ _ _ _ _ _ (@aY _ _ _ (@az _ _ _ _ _ _ _ _ _ _ _ dZ (hr.mono (by omega)) (by rfl) aB (@aa _ _ _ _ _ (@ao _ 1 _ _ (by walk_at "v")) (@ai _) (by rfl)) (by decide) (by rfl) (by rfl)) (by intro _;rfl)) (@ak _ _ _ (@aC _ _ _ _ (@aK _ _ _ _ _ _ _ _ _ _ _ _ _ _ _ _ T.eL fC (hr.mono (by omega)) aB (@av _ _ _ _ _ _ _ T.aW T.jn (@ao _ 0 _ _ (by walk_at "v")) (by rfl)) (@aa _ _ _ _ _ (@bB _ _ _ _ _ _ _ aU (@ao _ 1 _ _ (by walk_at "v")) (@aj _ _ _ _) (λ _ _=>rfl)) (@ai _) (by rfl)) (by rfl) (by rfl) (by rfl)))) (@aE _)) (@ak _ _ _ (@aC _ _ _ _ (@aK _ _ _ _ _ _ _ _ _ _ _ _ _ _ _ _ T.gb gT (hr.mono (by omega)) jA (@av _ _ _ _ _ _ _ T.aW T.ou (@ao _ 0 _ _ (by walk_at "v")) (by rfl)) (@aa _ _ _ _ _ (@bB _ _ _ _ _ _ _ aU (@ao _ 1 _ _ (by walk_at "v")) (@aj _ _ _ _) (λ _ _=>rfl)) (@aa _ _ _ _ _ (@bB _ _ _ _ _ _ _ aU (@ao _ 1 _ _ (by walk_at "v")) (@aj _ _ _ _) (λ _ _=>rfl)) (@ai _) (by rfl)) (by rfl)) (by rfl) (by rfl) (by rfl))))),?_⟩
  refine aD λ M1 K1 => ?_
  walk_at "ge"
  refine ⟨t,a,rfl,yW,λ m e => ?_,λ z p e => ?_⟩
  ·subst e
   have DB:H t=some (.tup [.str (Str.ofString "own"),.int m]):=yW
   have hin:=g.inS hb0.key
   obtain ⟨e,he,em⟩:=List.mem_map.mp hb0.key
   have RD:e.1=m:=em
   have hS:=St.toS hL
   have Nn:=hS.get Nh
   walk_at "ge"
   refine ⟨S.sb,S.IM,S.sl,S.sd,S.ps,S.es,e,_,by rw [RD];rfl,hS,g.flat,by rw [RD];exact hin,g.nd,he,λ H2 hl2 => ?_⟩
   rw [RD] at hl2
   have hl3:Led H2 (bh cT cF cD cS cI (gone S (.own m)) ([(e.2.1,HO.lst (e.2.2.map V.int))]++M)):=St.Vf (S:=S) (N:=[(e.2.1,HO.lst (e.2.2.map V.int))]) (Led.perm hl2 List.perm_middle.symm)
   walk_at "ge"
   exact k e.2.2 e.2.1 _ H2 ⟨e.2.1,by rw [<-RD];exact he⟩ mS hl3
  ·subst e
   have DB:H t=some (.tup [.str (Str.ofString "file"),.str z,.int p]):=yW
   obtain ⟨e,he,e1,j,r,e2,e3⟩:=hb0
   have hI:=St.TQ hL
   have TV:=hI.get mS
   have hj:j < e.2.2.length:=(List.getElem?_eq_some_iff.mp e3).1
   have uniq : ∀ e'∈S.fs,e'.1=z->e' = e:=λ e' he' h=>by
    have h3:=findF g.fn he
    have h5:=findF g.fn he'
    rw [h,<-e1] at h5
    exact Option.some.inj (h5.symm.trans h3)
   walk_at "ge"
   refine K1.use ?_
   walk_at "cl"
   clear K1
   walk_at "ge"
   refine ⟨S.ib,S.ix,S.im,S.fs,z,p,_,rfl,hL,FH.of hI g.fn,λ x hx y hy=>⟨hL.get (St.up (g.fr x hx y hy).1),by rw [(g.fr x hx y hy).2];decide⟩,λ e' he' xg j' r' hp hr' qr H2 hl2 => ?_,λ e' he' xg hn=>absurd ?_ hn,λ hz=>absurd (List.mem_map.mpr ⟨e,he,e1⟩) hz⟩
   ·walk_at "ge"
    exact k r'.2 qr [(qr,HO.lst (r'.2.map V.int))] H2 ⟨e',he',xg,j',r'.1,hp,hr'⟩ List.mem_cons_self (St.push hl2)
   ·rw [uniq e' he' xg,e2]
    exact ⟨by omega,by exact_mod_cast hj⟩
theorem aG.NB {S:SS} {n q i:Nat} {M:Cells} (g:aG S n q M) {t r:Addr} {a:Th} {row:List Int} (ht:(t,HO.tup (fN a))∈M) (OP:L7 a) (hr:(r,HO.lst (row.map V.int))∈M) (h4:row.length=4) (hn : ∀ (j:Nat) (u:Addr),S.F.hs[j]? ≠ some (some (u,a))) (ho : ∀ m,a = .own m->m ∉ S.es.map (·.1)) (hf : ∀ z p,a = .file z p->∃ e∈S.fs,∃ j:Nat,e.1=z/\p=j/\j < e.2.2.length) :
  aG { S with F:=S.F.fill i (some (t,a)) (some (r,row)) false } n q M:=by
 have old : ∀ (j:Nat) (x:Addr×Th),(S.F.hs.set i (some (t,a)))[j]? = some (some x)->(j=i/\x=(t,a))\/(i≠j/\S.F.hs[j]? = some (some x)):=λ j x h=>by
  rw [List.getElem?_set] at h
  split at h
  ·split at h
   ·cases h
    exact .inl ⟨by omega,rfl⟩
   ·cases h
  ·exact .inr ⟨by assumption,h⟩
 refine { g with f:=g.f.fill (λ t' a' e=>by cases e;exact ⟨ht,OP⟩) (λ t' a' e=>by cases e;exact hr),rr:=λ j u b h => ?_,inj:=λ j l u v b h1 h2 => ?_,ap:=λ j u k h => ?_,ff:=λ j u z p h => ?_ }
 ·rcases old j _ h with ⟨rfl,_⟩ | ⟨h1,h2⟩
  ·have hlt:j < S.F.rs.length:=by
    have h5:=(List.getElem?_eq_some_iff.mp h).1
    have h6:(S.F.hs.set j (some (t,a))).length=n:=(List.length_set ..).trans g.f.h
    rw [g.f.r,<-h6]
    exact h5
   exact ⟨r,row,by show (S.F.rs.set j _)[j]? = _;rw [List.getElem?_set,if_pos rfl,if_pos hlt],h4⟩
  ·obtain ⟨r',fU,e,h5⟩:=g.rr j u b h2
   exact ⟨r',fU,by show (S.F.rs.set i _)[j]? = _;rw [List.getElem?_set,if_neg h1];exact e,h5⟩
 ·rcases old j _ h1 with ⟨e1,x1⟩ | ⟨n1,o1⟩
  ·rcases old l _ h2 with ⟨e2,_⟩ | ⟨n2,o2⟩
   ·rw [e1,e2]
   ·cases x1
    exact absurd o2 (hn l v)
  ·rcases old l _ h2 with ⟨e2,x2⟩ | ⟨n2,o2⟩
   ·cases x2
    exact absurd o1 (hn j u)
   ·exact g.inj j l u v b o1 o2
 ·rcases old j _ h with ⟨_,x⟩ | ⟨_,o⟩
  ·cases x
   exact ho k rfl
  ·exact g.ap j u k o
 ·rcases old j _ h with ⟨_,x⟩ | ⟨_,o⟩
  ·cases x
   exact hf z p rfl
  ·exact g.ff j u z p o
def GD (cT cF cD cS cI:Addr):Sp:=λ vs H Q _ => ∃ (S:SS) (n q:Nat) (t:Addr) (a:Th) (M:Cells),vs = [.ref S.b,.ref t]/\Led H (bh cT cF cD cS cI S M)/\aG S n q M/\(t,HO.tup (fN a))∈M/\L7 a ∧
 ((∀ (j:Nat) (u:Addr),S.F.hs[j]? ≠ some (some (u,a)))->∃ wH,Back S wH a) ∧
 ((∀ z∈S.F.hs,z≠none)->true ∉ gw (gone S a)->False) ∧
 (∀ (j:Nat) (u p:Addr) (N:Cells) (H':Hp),S.F.hs[j]? = some (some (u,a))->(p,HO.tup [.int (j:Nat),.bl false])∈N->Led H' (bh cT cF cD cS cI S (N++M))->Q (.ref p) H') ∧
 ((∀ (j:Nat) (u:Addr),S.F.hs[j]? ≠ some (some (u,a)))->∀ (row:List Int) (i:Nat) (S1:SS) (r p:Addr) (N:Cells) (H':Hp),Back S row a->iM N (gone S a) n i S1->(r,HO.lst (row.map V.int))∈N->(p,HO.tup [.int (i:Nat),.bl true])∈N->Led H' (bh cT cF cD cS cI { S1 with F:=S1.F.fill i (some (t,a)) (some (r,row)) false } (N++M))->Q (.ref p) H')
theorem Lj (D:Def K mg "bring" lC) (B:iK mg) (T:Txt K mg cU cA cB cC cT cF cD cS cI) (aQ:aI P w K mg base 1 cF "where" ["self","thing"] (gv cF)) (iN:aI P w K mg base 1 cF "fill" ["self","frame","thing","row"] (Fv cF)) (Iz:bX P w K mg base 5 "fetched" ["store","thing"] (zL cT cF cD cS cI)) (jw:bX P w K mg base 6 "have_frame" ["store"] (FN cT cF cD cS cI cU)):bX P w K mg base 7 "bring" ["store","thing"] (GD cT cF cD cS cI):=by
 have sc:=CB
 refine D.Cu CB (λ vs H Q E h => ?_) (λ _ _ _ _ _ _ us hl=>match us,hl with | [_,_],_=>rfl) (λ f cdv A outer s H vs Q E hr h => ?_)
 ·obtain ⟨_,_,_,_,_,_,rfl,_⟩:=h;rfl
 ·obtain ⟨S,n,q,t,a,M,rfl,hL,g,uc,OP,T3,hgo,k1,k2⟩:=h
  have n64:=g.n64
  have f1:=fB S
  have je:=hL.get St.b
  have hF:=St.toF hL
  have tT:=hF.get mS
  refine ⟨_,(@ah _ _ _ _ _ (@aJ _ _ 2 _ _ _ _ sc.nd rfl (by walk_at "o2") (@aK _ _ _ _ _ _ _ _ _ _ _ _ _ _ _ _ T.Frames aQ (hr.mono (by omega)) aB (@av _ _ _ _ _ _ _ T.aW T.bu (@ao _ 0 _ _ (by walk_at "v")) (by rfl)) (@aa _ _ _ _ _ (@ao _ 1 _ _ (by walk_at "v")) (@ai _) (by rfl)) (by rfl) (by rfl) (by rfl)) (by rfl) (by walk_at "o4")) (@ah _ _ _ _ _ (@aR _ _ _ _ _ _ _ _ (@aX _ _ _ _ _ _ _ _ zV (@ao _ 2 _ _ (by walk_at "v")) (@dP _ _ _) (bf _)) (@ak _ _ _ (@aC _ _ _ _ (@fj _ _ _ _ _ (@aa _ _ _ _ _ (@ao _ 2 _ _ (by walk_at "v")) (@aa _ _ _ _ _ (@bY _ _ _ _) (@ai _) (by rfl)) (by rfl))))) (@aE _)) (@ah _ _ _ _ _ (@aJ _ _ 3 _ _ _ _ sc.nd rfl (by walk_at "o2") (@az _ _ _ _ _ _ _ _ _ _ _ Iz (hr.mono (by omega)) (by rfl) jA (@aa _ _ _ _ _ (@ao _ 0 _ _ (by walk_at "v")) (@aa _ _ _ _ _ (@ao _ 1 _ _ (by walk_at "v")) (@ai _) (by rfl)) (by rfl)) (by decide) (by rfl) (by rfl)) (by rfl) (by walk_at "o4")) (@ah _ _ _ _ _ (@aJ _ _ 2 _ _ _ _ sc.nd rfl (by walk_at "o2") (@az _ _ _ _ _ _ _ _ _ _ _ jw (hr.mono (by omega)) (by rfl) jA (@aa _ _ _ _ _ (@ao _ 0 _ _ (by walk_at "v")) (@ai _) (by rfl)) (by decide) (by rfl) (by rfl)) (by rfl) (by walk_at "o4")) (@ah _ _ _ _ _ (@bG _ _ _ _ (@aK _ _ _ _ _ _ _ _ _ _ _ _ _ _ _ _ T.Frames iN (hr.mono (by omega)) aB (@av _ _ _ _ _ _ _ T.aW T.bu (@ao _ 0 _ _ (by walk_at "v")) (by rfl)) (@aa _ _ _ _ _ (@ao _ 2 _ _ (by walk_at "v")) (@aa _ _ _ _ _ (@ao _ 1 _ _ (by walk_at "v")) (@aa _ _ _ _ _ (@ao _ 3 _ _ (by walk_at "v")) (@ai _) (by rfl)) (by rfl)) (by rfl)) (by rfl) (by rfl) (by rfl)) (by rfl)) (@ak _ _ _ (@aC _ _ _ _ (@fj _ _ _ _ _ (@aa _ _ _ _ _ (@ao _ 2 _ _ (by walk_at "v")) (@aa _ _ _ _ _ (@bY _ _ _ _) (@ai _) (by rfl)) (by rfl)))))))))),?_⟩
  refine aD λ M1 K1 => ?_
  walk_at "ge"
  refine ⟨S.F,n,some (t,a),_,rfl,hF,g.f.mono (λ c hc=>eB hc),λ t' a' e => ?_,by omega,λ hno => ?_,λ j y h1 h2 _ => ?_⟩
  ·cases e
   exact ⟨eB uc,OP⟩
  ·have hnf : ∀ (j:Nat) (u:Addr),S.F.hs[j]? ≠ some (some (u,a)):=λ j u h=>hno _ (List.mem_of_getElem? h) rfl
   obtain ⟨wH,hb0⟩:=T3 hnf
   walk_at "ge"
   refine K1.use ?_
   walk_at "cl"
   clear K1
   refine aD λ M1 K1 => ?_
   walk_at "ge"
   ·exact absurd (rfl:V.aH=V.aH) (by assumption)
   refine K1.use ?_
   walk_at "cl"
   clear K1
   refine aD λ M1 K1 => ?_
   walk_at "ge"
   refine ⟨S,n,q,t,a,wH,M,rfl,hL,g,uc,hb0,λ row r0 N1 H1 hb rP hl1 => ?_⟩
   clear hL hF je tT
   walk_at "ge"
   refine K1.use ?_
   walk_at "cl"
   clear K1
   have g1:aG (gone S a) n q M:=g.gone hb
   have h4:=hb.len g
   obtain ⟨eb,eF,Nx,Q5,efs,ep,ebs⟩:=qU S a
   refine aD λ M1 K1 => ?_
   have rest : ∀ (i:Nat) (S1:SS) (N:Cells) (H2:Hp),iM N (gone S a) n i S1->Led H2 (bh cT cF cD cS cI S1 (N++(N1++M)))->M1 [some (.ref S.b),some (.ref t),some (.int (i:Nat)),some (.ref r0)] H2:=by
    intro i S1 N H2 FO hl2
    obtain ⟨h0,e2,e3,e4,e5⟩:=FO.at
    have gS1:=g1.had FO
    have hi:i < n:=by have:=(List.getElem?_eq_some_iff.mp h0).1;rw [gS1.f.h] at this;exact this
    have ebS:S1.b=S.b:=e4.trans eb
    refine K1.use ?_
    clear K1
    rw [<-ebS]
    have f1:=fB S1
    have je:=hl2.get St.b
    have hF:=St.toF hl2
    have tT:=hF.get mS
    refine aD λ M1 K1 => ?_
    walk_at "ge"
    refine ⟨S1.F,n,i,t,r0,a,row,_,rfl,hF,gS1.f.mono (λ c hc=>eB ?_),hi,eB (mA (mB rP)),by omega,λ r H3 hl3 => ?_⟩
    ·rcases List.mem_append.mp hc with hc | hc
     ·exact mB hc
     ·exact mA (mA hc)
    have c8:Led H3 (bh cT cF cD cS cI { S1 with F:=S1.F.fill i (some (t,a)) (some (r,row)) false } ([(r,HO.lst (row.map V.int))]++(N++(N1++M)))):=St.OO (S:=S1) rfl hl3
    clear hl3 hl2 hF je tT
    walk_at "ge"
    refine K1.use ?_
    walk_at "cl"
    clear K1
    walk_at "ge"
    rename_i p H4 _ dh _
    have fW:=St.push dh
    refine k2 hnf row i S1 r p ((p,HO.tup [.int (i:Nat),.bl true])::(r,HO.lst (row.map V.int))::(N++N1)) H4 hb (FO.mono λ c hc=>mC (mC (mB hc))) (mC mS) mS ?_
    rw [List.cons_append,List.cons_append,List.append_assoc]
    exact fW
   walk_at "ge"
   refine ⟨gone S a,n,q,_,by rw [eb];rfl,hl1,g1.mono (λ c hc=>mA hc),λ i H2 q1 q2 hl2 => ?_,λ hall i bs' t' a' hg hi S1 N H2 TX gk hl2 => ?_,λ hall hno N H2 hl2=>(hgo (by rw [<-eF];exact hall) hno).elim⟩
   ·walk_at "ge"
    exact rest i (gone S a) [] H2 (.inl ⟨q1,q2,rfl⟩) hl2
   ·walk_at "ge"
    exact rest i S1 N H2 (.inr ⟨hall,bs',t',a',hg,hi,TX⟩) hl2
  ·walk_at "ge"
   refine K1.use ?_
   walk_at "cl"
   clear K1
   refine aD λ M1 K1 => ?_
   walk_at "ge"
   ·rename_i p H1 _ hl1 _
    cases y with
    | none=>cases h2
    | some y =>
      have h3:y.2=a:=Option.some.inj h2
      exact k1 j y.1 p [(p,_)] H1 (by rw [h1,<-h3]) List.mem_cons_self (St.push (Led.perm hl1 (List.Perm.cons _ (aF (pH cF S.F) (zI cT S) (FF cD S++(FG cS S++(Dy cI S++M)))))))
   ·exact nomatch (show V.int (j:Nat)=V.aH by assumption)
end
section
variable {P:Program} {w:World} {K:PySem.W.Frag} {mg:Str->Option Value} {base:Heap} {cU cA cB cC cT cF cD cS cI:Addr}
def jx:Th->List Key
 | .own m=>[.inr (Str.ofString "own"),.inl m]
 | .file z p=>[.inr (Str.ofString "file"),.inr z,.inl p]
theorem rT (a:Th):(jx a).map kV=fN a:=by cases a <;> rfl
theorem ud {a b:Th} (h:jx a=jx b):a=b:=by
 cases a <;> cases b <;> simp [jx] at h <;> simp [h]
abbrev Ts:=List (Th×Addr×List Int)
def cX (ts:Ts):List (List Key×V):=ts.map λ e=>(jx e.1,V.ref e.2.1)
theorem ue (ts:Ts):(cX ts).length=ts.length:=by unfold cX;exact List.length_map ..
theorem BL {ts:Ts} {e:Th×Addr×List Int} (nd:(ts.map (·.1)).Nodup) (h:e∈ts):bA (cX ts) (jx e.1)=some (.ref e.2.1):=by
 induction ts with
 | nil=>cases h
 | cons x ts ih =>
   rw [List.map_cons,List.nodup_cons] at nd
   show bA ((jx x.1,V.ref x.2.1)::cX ts) (jx e.1)=_
   rcases List.mem_cons.mp h with rfl | h
   ·exact eG (p:=(jx e.1,V.ref e.2.1)) rfl
   ·have hne : ¬ jx x.1=jx e.1:=λ z=>nd.1 (ud z ▸ List.mem_map.mpr ⟨e,h,rfl⟩)
    rw [cP (p:=(jx x.1,V.ref x.2.1)) hne]
    exact ih nd.2 h
theorem Lk {ts:Ts} {a:Th} (h:a ∉ ts.map (·.1)):bA (cX ts) (jx a)=none:=by
 induction ts with
 | nil=>rfl
 | cons x ts ih =>
   rw [List.map_cons,List.mem_cons,not_or] at h
   have hne : ¬ jx x.1=jx a:=λ z=>h.1 (ud z).symm
   show bA ((jx x.1,V.ref x.2.1)::cX ts) (jx a)=none
   rw [cP (p:=(jx x.1,V.ref x.2.1)) hne]
   exact ih h.2
def yZ (ts:Ts) (a:Th) (r:Addr) (row:List Int):Ts:=ts.map λ e=>if e.1=a then (e.1,r,row) else e
theorem qV (ts:Ts) (a:Th) (r:Addr) (row:List Int):(yZ ts a r row).map (·.1)=ts.map (·.1):=by
 unfold yZ
 rw [List.map_map]
 refine List.map_congr_left λ e _ => ?_
 show (if e.1=a then (e.1,r,row) else e).1=e.1
 split <;> rfl
theorem NC {ts:Ts} {a:Th} {r:Addr} {row:List Int} {e:Th×Addr×List Int} (h:e∈yZ ts a r row):e=(a,r,row)\/(e.1≠a/\e∈ts):=by
 obtain ⟨d,hd,rfl⟩:=List.mem_map.mp h
 by_cases z:d.1=a
 ·rw [if_pos z,z];exact .inl rfl
 ·rw [if_neg z];exact .inr ⟨z,hd⟩
theorem ND {ts:Ts} {a:Th} (r:Addr) (row:List Int) (h:a∈ts.map (·.1)):putK (cX ts) (jx a) (.ref r)=cX (yZ ts a r row):=by
 unfold putK
 rw [if_pos]
 ·unfold cX yZ
  rw [List.map_map,List.map_map]
  refine List.map_congr_left λ e _ => ?_
  show (if jx e.1=jx a then (jx e.1,V.ref r) else (jx e.1,V.ref e.2.1))=(jx (if e.1=a then (e.1,r,row) else e).1,V.ref (if e.1=a then (e.1,r,row) else e).2.1)
  by_cases q:e.1=a
  ·rw [if_pos q,if_pos (by rw [q])]
  ·rw [if_neg q,if_neg (λ z=>q (ud z))]
 ·obtain ⟨e,he,rfl⟩:=List.mem_map.mp h
  exact List.any_eq_true.mpr ⟨(jx e.1,V.ref e.2.1),List.mem_map.mpr ⟨e,he,rfl⟩,decide_eq_true rfl⟩
theorem GF {ts:Ts} {a:Th} (r:Addr) (row:List Int) (h:a ∉ ts.map (·.1)):putK (cX ts) (jx a) (.ref r)=cX (ts++[(a,r,row)]):=by
 unfold putK
 rw [if_neg]
 ·unfold cX;rw [List.map_append];rfl
 ·rw [fP,Lk h];exact Bool.false_ne_true
def BN (S:SS) (a:Th):Prop := ∃ (i:Nat) (t:Addr),S.F.hs[i]? = some (some (t,a))
def cG (S:SS) (a:Th) (row:List Int):Prop:=(∃ (i:Nat) (t r:Addr),S.F.hs[i]? = some (some (t,a))/\S.F.rs[i]? = some (some (r,row)))\/(¬ BN S a/\Back S row a)
def Clean (S:SS):Prop := ∀ (i:Nat) (t r:Addr) (z:Str) (p:Int) (row:List Int),S.F.hs[i]? = some (some (t,.file z p))->S.F.rs[i]? = some (some (r,row))->S.F.bs[i]? = some false->Back S row (.file z p)
theorem cH {α : Type} {l:List α} {i j:Nat} {x y : α} (h:i≠j):(l.set i x)[j]? = some y↔l[j]? = some y:=by rw [List.getElem?_set,if_neg h]
theorem nH {l:List Hd} {i j:Nat} {x:Addr×Th} (h:(l.set i none)[j]? = some (some x)):i≠j/\l[j]? = some (some x):=by
 rw [List.getElem?_set] at h
 split at h
 ·split at h <;> cases h
 ·exact ⟨by assumption,h⟩
theorem PO.rows {N:Cells} {S S':SS} {n q i:Nat} {M:Cells} {t:Addr} {a:Th} (g:aG S n q M) (cl:Clean S) (hi:S.F.hs[i]? = some (some (t,a))) (h:PO N S i S' a):Clean S' ∧ ∀ b row,cG S b row->cG S' b row:=by
 obtain ⟨r0,wH,hr0,_⟩:=g.rr i t a hi
 have hF:S'.F=S.F.fill i none none false:=by
  cases a with
  | own m=>obtain ⟨r,row,b,_,rfl⟩:=h;rfl
  | file z p =>
    obtain ⟨r,row,_,h⟩:=h
    rcases h with ⟨_,rfl⟩ | ⟨_,as,bs,e,j,nr,_,_,_,_,_,rfl⟩ <;> rfl
 have hh:S'.F.hs=S.F.hs.set i none:=by rw [hF];rfl
 have hrs:S'.F.rs=S.F.rs.set i none:=by rw [hF];rfl
 have hbs:S'.F.bs=S.F.bs.set i false:=by rw [hF];rfl
 have self:Back S' wH a:=by
  cases a with
  | own m =>
    obtain ⟨r,row,b,h1,rfl⟩:=h
    rw [hr0] at h1
    cases h1
    exact ⟨b,mA mS⟩
  | file z p =>
    obtain ⟨r,row,h1,h⟩:=h
    rw [hr0] at h1
    cases h1
    rcases h with ⟨h2,rfl⟩ | ⟨_,as,bs,e,j,nr,h3,h4,h5,h6,_,rfl⟩
    ·exact cl i t r0 z p wH hi hr0 h2
    ·exact ⟨_,mA mS,h4,j,nr,h5,by show (e.2.2.set j (nr,wH))[j]? = _;rw [List.getElem?_set,if_pos rfl,if_pos h6]⟩
 have other : ∀ b row,b≠a->Back S row b->Back S' row b:=λ b row hne hb=>by
  cases a with
  | own m =>
    obtain ⟨r,NF,b1,h1,rfl⟩:=h
    cases b with
    | own k=>obtain ⟨x,hx⟩:=hb;exact ⟨x,mB hx⟩
    | file z p=>exact hb
  | file z p =>
    obtain ⟨r,NF,h1,h⟩:=h
    rcases h with ⟨h2,rfl⟩ | ⟨_,as,bs,e,j,nr,h3,h4,h5,h6,_,rfl⟩
    ·exact hb
    ·cases b with
     | own k=>exact hb
     | file z2 p2 =>
       obtain ⟨e2,uP,z3,j2,r2,p3,hr2⟩:=hb
       rw [h3] at uP
       rcases List.mem_append.mp uP with uP | uP
       ·exact ⟨e2,mB uP,z3,j2,r2,p3,hr2⟩
       ·rcases List.mem_cons.mp uP with rfl | uP
        ·refine ⟨_,mA mS,z3,j2,r2,p3,?_⟩
         have hj:j≠j2:=λ z=>hne (by rw [<-z3,<-h4,p3,h5,z])
         exact (cH hj).mpr hr2
        ·exact ⟨e2,mA (mC uP),z3,j2,r2,p3,hr2⟩
 have out : ¬ BN S' a:=λ ⟨j,u,hj⟩=>by
  rw [hh] at hj
  obtain ⟨h1,h2⟩:=nH hj
  exact h1 (g.inj i j t u a hi h2)
 refine ⟨λ j u r z p row h1 h2 h3 => ?_,λ b row hb => ?_⟩
 ·rw [hh] at h1
  obtain ⟨hne,h1⟩:=nH h1
  rw [hrs] at h2
  rw [hbs] at h3
  have hba:Th.file z p≠a:=λ e=>hne (g.inj i j t u a hi (by rw [h1,e]))
  exact other _ _ hba (cl j u r z p row h1 ((cH hne).mp h2) ((cH hne).mp h3))
 ·by_cases e:b=a
  ·subst e
   rcases hb with ⟨j,u,r,h1,h2⟩ | ⟨h1,_⟩
   ·have:=g.inj i j t u b hi h1
    subst this
    rw [hr0] at h2
    cases h2
    exact .inr ⟨out,self⟩
   ·exact absurd ⟨i,t,hi⟩ h1
  ·rcases hb with ⟨j,u,r,h1,h2⟩ | ⟨h1,h2⟩
   ·have hne:i≠j:=λ z=>by rw [<-z,hi] at h1;cases h1;exact e rfl
    exact .inl ⟨j,u,r,by rw [hh];exact (cH hne).mpr h1,by rw [hrs];exact (cH hne).mpr h2⟩
   ·refine .inr ⟨λ ⟨j,u,hj⟩=>h1 ⟨j,u,?_⟩,other b row e h2⟩
    rw [hh] at hj
    exact (nH hj).2
theorem iM.rows {N:Cells} {S S1:SS} {n q i:Nat} {M:Cells} (g:aG S n q M) (cl:Clean S) (h:iM N S n i S1):Clean S1 ∧ ∀ b row,cG S b row->cG S1 b row:=by
 rcases h with ⟨_,_,rfl⟩ | ⟨_,bs',t,a,hgo,hi,h⟩
 ·exact ⟨cl,λ _ _ h=>h⟩
 ·obtain ⟨l1,_⟩:=pG _ _ _ hgo
  have n1:=g.n1
  exact PO.rows (S := { S with p:=(i+1) % n,bs:=bs' }) (g.turned (Nat.mod_lt _ (by omega)) (l1.trans g.bl)) cl hi h
theorem cG.fill {S:SS} {n q i:Nat} {M:Cells} {t r:Addr} {a:Th} {row:List Int} {k:Int} {hs':List (Int×Int)} (g:aG S n q M) (h0:S.F.hs[i]? = some none):(∀ b fU,b≠a->cG S b fU->cG { S with made:=k,hs:=hs',F:=S.F.fill i (some (t,a)) (some (r,row)) false } b fU)/\cG { S with made:=k,hs:=hs',F:=S.F.fill i (some (t,a)) (some (r,row)) false } a row:=by
 have hlt:i < S.F.hs.length:=(List.getElem?_eq_some_iff.mp h0).1
 have hlr:i < S.F.rs.length:=by rw [g.f.r,<-g.f.h];exact hlt
 refine ⟨λ b fU hne hb => ?_,.inl ⟨i,t,r,?_,?_⟩⟩
 ·rcases hb with ⟨j,u,r',h1,h2⟩ | ⟨h1,h2⟩
  ·have hij:i≠j:=λ z=>by rw [<-z,h0] at h1;cases h1
   exact .inl ⟨j,u,r',(cH hij).mpr h1,(cH hij).mpr h2⟩
  ·refine .inr ⟨λ ⟨j,u,hj⟩ => ?_,?_⟩
   ·have hj':(S.F.hs.set i (some (t,a)))[j]? = some (some (u,b)):=hj
    by_cases e:i=j
    ·subst e
     rw [List.getElem?_set,if_pos rfl,if_pos hlt] at hj'
     cases hj'
     exact hne rfl
    ·exact h1 ⟨j,u,(cH e).mp hj'⟩
   ·cases b with
    | own m=>exact h2
    | file z p=>exact h2
 ·show (S.F.hs.set i _)[i]? = _
  rw [List.getElem?_set,if_pos rfl,if_pos hlt]
 ·show (S.F.rs.set i _)[i]? = _
  rw [List.getElem?_set,if_pos rfl,if_pos hlr]
theorem Clean.fill {S:SS} {n q i:Nat} {M:Cells} {t r:Addr} {a:Th} {row:List Int} {k:Int} {hs':List (Int×Int)} (g:aG S n q M) (cl:Clean S) (h0:S.F.hs[i]? = some none) (hb : ∀ z p,a = .file z p->Back S row a):Clean { S with made:=k,hs:=hs',F:=S.F.fill i (some (t,a)) (some (r,row)) false } := by
 have hlt:i < S.F.hs.length:=(List.getElem?_eq_some_iff.mp h0).1
 have hlr:i < S.F.rs.length:=by rw [g.f.r,<-g.f.h];exact hlt
 intro j u r' z p fU h1 h2 h3
 have xg:(S.F.hs.set i (some (t,a)))[j]? = some (some (u,.file z p)):=h1
 have h2':(S.F.rs.set i (some (r,row)))[j]? = some (some (r',fU)):=h2
 have h3':(S.F.bs.set i false)[j]? = some false:=h3
 by_cases e:i=j
 ·subst e
  rw [List.getElem?_set,if_pos rfl,if_pos hlt] at xg
  rw [List.getElem?_set,if_pos rfl,if_pos hlr] at h2'
  cases xg
  cases h2'
  exact hb z p rfl
 ·exact cl j u r' z p fU ((cH e).mp xg) ((cH e).mp h2') ((cH e).mp h3')
theorem Led.aaE {H:Hp} {L:Cells} {b:Addr} {xs:List V} (h:Led H L) (hb:H b=some (.tup xs)):Led H ((b,.tup xs)::L):=⟨λ c hc=>by
 rcases List.mem_cons.mp hc with rfl | hc
 ·exact hb
 ·exact h.at_ c hc,by rw [List.filter_cons_of_neg (by simp [lasts])];exact h.nd⟩
def RE (ys:List (Addr×Th)):Cells:=ys.map λ y=>(y.1,HO.tup (fN y.2))
theorem Led.OT {H:Hp} {L:Cells} (h:Led H L) : ∀ {ys:List (Addr×Th)},(∀ y∈ys,H y.1=some (.tup (fN y.2)))->Led H (RE ys++L)
 | [],_=>h
 | y::ys,hy=>Led.aaE (Led.OT h λ z hz=>hy z (mC hz)) (hy y mS)
theorem zM {H:Hp} {ts:Ts} {rd:Addr} {Q:VK} {L:Cells} (h1:H rd=some (.dT (cX ts))) (hL:Led H L) (h : ∀ (l:Addr) (ys:List (Addr×Th)) (H':Hp),ys.map (·.2)=ts.map (·.1)->Led H' ((l,.lst (ys.map λ y=>V.ref y.1))::(RE ys++L))->Q (.ref l) H'):Ax [.ref rd] H Q:=by
 refine MT h1 λ l as hl hlen hat => ?_
 rw [ue] at hlen
 have e1:(as.zip (ts.map (·.1))).map (·.2)=ts.map (·.1):=List.map_snd_zip (by rw [List.length_map];omega)
 have e2:(as.zip (ts.map (·.1))).map (λ y=>V.ref y.1)=as.map V.ref:=by
  have h3:(as.zip (ts.map (·.1))).map (·.1)=as:=List.map_fst_zip (by rw [List.length_map];omega)
  conv=>rhs;rw [<-h3]
  rw [List.map_map]
  rfl
 have hin : ∀ y∈as.zip (ts.map (·.1)),H y.1=some (.tup (fN y.2)):=λ y hy=>by
  obtain ⟨i,hi⟩:=List.getElem?_of_mem hy
  rw [List.getElem?_zip_eq_some] at hi
  obtain ⟨i1,i2⟩:=hi
  rw [List.getElem?_map] at i2
  obtain ⟨e,he,e3⟩:=Option.map_eq_some_iff.mp i2
  have h4:=hat i y.1 (jx e.1) (.ref e.2.1) i1 (by unfold cX;rw [List.getElem?_map,he];rfl)
  rw [rT] at h4
  rw [<-e3]
  exact h4
 have h5:=(Led.OT hL hin).new (o := .lst (as.map V.ref)) hl
 rw [<-e2] at h5 ⊢
 exact h l _ _ e1 h5
section
variable {N M:Cells} {S S1:SS} {n q i:Nat} {a b:Th} {row r1 r2:List Int}
theorem Back.uniq (g:aG S n q M) (h1:Back S r1 a) (h2:Back S r2 a):r1=r2:=by
 cases a with
 | own m =>
   obtain ⟨x,hx⟩:=h1
   obtain ⟨y,hy⟩:=h2
   have e1:=n6 g.nd hx
   have e2:=n6 g.nd hy
   have e3:(m,x,r1)=(m,y,r2):=Option.some.inj (e1.symm.trans e2)
   cases e3
   rfl
 | file z p =>
   obtain ⟨x,hx,x1,j,r,xp,xr⟩:=h1
   obtain ⟨y,hy,y1,k,r',yp,yr⟩:=h2
   have e1:=findF g.fn hx
   have e2:=findF g.fn hy
   rw [x1] at e1
   rw [y1] at e2
   have e3:x=y:=Option.some.inj (e1.symm.trans e2)
   subst e3
   have:j=k:=by omega
   subst this
   rw [xr] at yr
   cases yr
   rfl
theorem Back.gone (h:Back S row b) (hne:b≠a):Back (My.gone S a) row b:=by
 cases a with
 | file z p=>exact h
 | own m =>
   cases b with
   | own k =>
     obtain ⟨x,hx⟩:=h
     exact ⟨x,List.mem_filter.mpr ⟨hx,decide_eq_true λ z=>hne (by show Th.own k = .own m;rw [show k=m from z])⟩⟩
   | file z p=>exact h
theorem Back.Q8 (h:Back (My.gone S a) row b):Back S row b:=by
 cases a with
 | file z p=>exact h
 | own m =>
   cases b with
   | own k=>obtain ⟨x,hx⟩:=h;exact ⟨x,(List.mem_filter.mp hx).1⟩
   | file z p=>exact h
theorem cG.gone (h:cG S b row) (hne:b≠a):cG (My.gone S a) b row:=by
 have eF:=(qU S a).2.1
 rcases h with ⟨j,t,r,h1,h2⟩ | ⟨h1,h2⟩
 ·exact .inl ⟨j,t,r,by rw [eF];exact h1,by rw [eF];exact h2⟩
 ·exact .inr ⟨λ ⟨j,t,hj⟩=>h1 ⟨j,t,by rw [<-eF];exact hj⟩,h2.gone hne⟩
theorem PO.back {S':SS} {t:Addr} (g:aG S n q M) (hi:S.F.hs[i]? = some (some (t,a))) (h:PO N S i S' a) (hb:Back S' row b):BN S b ∨ ∃ r,Back S r b:=by
 cases a with
 | own m =>
   obtain ⟨r,NF,b1,h1,rfl⟩:=h
   cases b with
   | own k =>
     obtain ⟨x,hx⟩:=hb
     rcases List.mem_append.mp hx with hx | hx
     ·exact .inr ⟨row,x,hx⟩
     ·have e:=List.mem_singleton.mp hx
      cases e
      exact .inl ⟨i,t,hi⟩
   | file z p=>exact .inr ⟨row,hb⟩
 | file z p =>
   obtain ⟨r,NF,h1,h⟩:=h
   rcases h with ⟨h2,rfl⟩ | ⟨_,as,bs,e,j,nr,h3,h4,h5,h6,_,rfl⟩
   ·exact .inr ⟨row,by cases b <;> exact hb⟩
   ·cases b with
    | own k=>exact .inr ⟨row,hb⟩
    | file z2 p2 =>
      obtain ⟨e2,uP,z3,j2,r2,p3,hr2⟩:=hb
      rcases List.mem_append.mp uP with uP | uP
      ·exact .inr ⟨row,e2,by rw [h3];exact mB uP,z3,j2,r2,p3,hr2⟩
      ·rcases List.mem_cons.mp uP with rfl | uP
       ·have hl:j2 < e.2.2.length:=by
         have h7:=(List.getElem?_eq_some_iff.mp hr2).1
         have h8:j2 < (e.2.2.set j (nr,NF)).length:=h7
         rw [List.length_set] at h8
         exact h8
        exact .inr ⟨e.2.2[j2].2,e,by rw [h3];exact mA mS,z3,j2,e.2.2[j2].1,p3,List.getElem?_eq_getElem hl⟩
       ·exact .inr ⟨row,e2,by rw [h3];exact mA (mC uP),z3,j2,r2,p3,hr2⟩
theorem iM.back (g:aG S n q M) (h:iM N S n i S1) (hb:Back S1 row b):BN S b ∨ ∃ r,Back S r b:=by
 rcases h with ⟨_,_,rfl⟩ | ⟨_,bs',t,c,hgo,hi,h⟩
 ·exact .inr ⟨row,hb⟩
 ·obtain ⟨l1,_⟩:=pG _ _ _ hgo
  have n1:=g.n1
  exact PO.back (S := { S with p:=(i+1) % n,bs:=bs' }) (g.turned (Nat.mod_lt _ (by omega)) (l1.trans g.bl)) hi h hb
theorem iM.UQ (h:iM N S n i S1) (hb:BN S1 b):BN S b:=by
 obtain ⟨j,t,hj⟩:=hb
 rcases h with ⟨_,_,rfl⟩ | ⟨_,bs',u,c,hgo,hi,h⟩
 ·exact ⟨j,t,hj⟩
 ·rw [h.hs.1] at hj
  exact ⟨j,t,(nH hj).2⟩
theorem Lies.gone {m:Int} (g:aG S n q M) (hnf : ¬ BN S a):Lies (My.gone S a) m↔Lies S m/\(a ≠ .own m):=by
 cases a with
 | file z p=>exact ⟨λ h=>⟨h,λ e=>nomatch e⟩,λ h=>h.1⟩
 | own k =>
   constructor
   ·rintro (⟨j,t,hj⟩ | h)
    ·exact ⟨.inl ⟨j,t,hj⟩,λ e=>by cases e;exact hnf ⟨j,t,hj⟩⟩
    ·obtain ⟨e,he,rfl⟩:=List.mem_map.mp h
     obtain ⟨h1,h2⟩:=List.mem_filter.mp he
     exact ⟨.inr (List.mem_map.mpr ⟨e,h1,rfl⟩),λ z=>by cases z;exact (of_decide_eq_true h2) rfl⟩
   ·rintro ⟨⟨j,t,hj⟩ | h,hne⟩
    ·exact .inl ⟨j,t,hj⟩
    ·obtain ⟨e,he,rfl⟩:=List.mem_map.mp h
     exact .inr (List.mem_map.mpr ⟨e,List.mem_filter.mpr ⟨he,decide_eq_true λ z=>hne (by rw [z])⟩,rfl⟩)
end
end
section
variable {P:Program} {w:World} {K:PySem.W.Frag} {mg:Str->Option Value} {base:Heap} {cU cA cB cC cT cF cD cS cI:Addr}
def c9 (row:List Int) (c:Nat) (ms:List Int):List Int:=row.take c++ms++row.drop (c+ms.length)
theorem zN {row ms:List Int} {c:Nat} (h:c+ms.length<=row.length):(c9 row c ms).length=row.length:=by
 unfold c9
 rw [List.length_append,List.length_append,List.length_take,List.length_drop]
 omega
theorem IA {row ms:List Int} {c i:Nat} {n:Int} (h:c+ms.length<=row.length) (hn:ms[i]? = some n):(c9 row c (ms.take i)).set (c+i) n=c9 row c (ms.take (i+1)):=by
 have hi:i < ms.length:=(List.getElem?_eq_some_iff.mp hn).1
 have htl:(ms.take i).length=i:=by rw [List.length_take];omega
 have aaF:(ms.take (i+1)).length=i+1:=by rw [List.length_take];omega
 have htc:(row.take c).length=c:=by rw [List.length_take];omega
 have e1:ms.take (i+1)=ms.take i++[n]:=by rw [List.take_succ,hn];rfl
 unfold c9
 rw [htl,aaF]
 rw [List.set_append_right (c+i) n (by rw [List.length_append,htc,htl];exact Nat.le_refl _),List.length_append,htc,htl,Nat.sub_self]
 have hd:row.drop (c+i)=row[c+i]'(by omega)::row.drop (c+(i+1)):=by rw [List.drop_eq_getElem_cons (by omega)];rfl
 rw [hd,List.set_cons_zero,e1]
 simp
def Ll:Sp:=λ vs H Q _ => ∃ (r q:Addr) (c:Nat) (row ms:List Int) (L:Cells),vs = [.ref r,.int (c:Nat),.ref q]/\Led H L/\(r,HO.lst (row.map V.int))∈L/\(q,HO.lst (ms.map V.int))∈L/\c+ms.length<=row.length/\row.length<=600 ∧ ∀ p H',Led H' ((p,.lst ((c9 row c ms).map V.int))::L)->Q (.ref p) H'
theorem NG (D:Def K mg "_law_laid_in" ek) (B:iK mg) (T:Txt K mg cU cA cB cC cT cF cD cS cI):bX P w K mg base 1 "_law_laid_in" ["_law_row_here","_law_cell","_law_nums"] Ll:=by
 have sc:=oj
 refine D.ok oj (λ vs H Q E h => ?_) (λ _ _ _ _ _ _ us hl=>match us,hl with | [_,_,_],_=>rfl) (λ f cdv A outer s H vs Q E hr h => ?_)
 ·obtain ⟨_,_,_,_,_,_,rfl,_⟩:=h;rfl
 ·obtain ⟨r,q,c,row,ms,L,rfl,hL,rP,Ve,hc,h6,k⟩:=h
  have mr:(row.map V.int).length=row.length:=List.length_map _
  have mm:(ms.map V.int).length=ms.length:=List.length_map _
  have nL:=hL.get rP
  refine ⟨_,(@ah _ _ _ _ _ (@aJ _ _ 3 _ _ _ _ sc.nd rfl (by walk_at "o2") (@bw _ _ _ _ _ _ _ _ _ (aP (K:=K) rfl) (by rfl) B.list bZ (@aa _ _ _ _ _ (@ao _ 0 _ _ (by walk_at "v")) (@ai _) (by rfl)) (by decide) (by decide) (by rfl) (by rfl)) (by rfl) (by walk_at "o4")) (@ah _ _ _ _ _ (@jY _ _ _ _ _ _ _ _ PassesOwn.never rfl (@dw _ _ _ _ _ _ (by rfl) B.range (@aa _ _ _ _ _ (@aL _ _ _ _ _ _ _ _ _ bD (by rfl) B.len dX (@aa _ _ _ _ _ (@ao _ 2 _ _ (by walk_at "v")) (@ai _) (by rfl)) (by decide) (by decide) (by rfl) (by rfl)) (@ai _) (by rfl)) (by rfl)) (@fF _ _ 4 _ sc.nd rfl (by walk_at "o2") (by walk_at "o4")) (@ak _ _ _ (@dW _ _ _ _ _ _ (@bB _ _ _ _ _ _ _ aU (@ao _ 2 _ _ (by walk_at "v")) (@ao _ 4 _ _ (by walk_at "v")) (λ _ _=>rfl)) (@eE _ _ _ _ _ _ _ (@ao _ 3 _ _ (by walk_at "v")) (@au _ _ _ _ _ _ _ _ aT (@ao _ 1 _ _ (by walk_at "v")) (@ao _ 4 _ _ (by walk_at "v"))) set_list (by intro _;rfl)) (by rfl) (by rfl) (by rfl))) (by intro _;rfl)) (@ak _ _ _ (@aC _ _ _ _ (@ao _ 3 _ _ (by walk_at "v")))))),?_⟩
  refine aD λ M1 K1 => ?_
  walk_at "ge"
  rename_i p H1 _ hl1 _
  refine K1.use ?_
  walk_at "cl"
  clear K1 hL nL
  refine aD λ M1 K1 => ?_
  refine ux λ Lr rR => ?_
  have Vg:=hl1.get (mC Ve)
  walk_at "ge"
  refine ⟨_,rfl,by omega,by omega,rR.use ?_⟩
  clear rR Vg
  rw [mm,show ((ms.length:Nat):Int).toNat=ms.length by omega]
  have aaG:c9 row c (ms.take 0)=row:=by unfold c9;rw [List.take_zero,List.append_nil,List.length_nil,Nat.add_zero,List.take_append_drop]
  refine uy (λ i σ H'=>i<=ms.length/\Led H' ((p,.lst ((c9 row c (ms.take i)).map V.int))::L) ∧ ∃ v1,σ = [some (.ref r),some (.int c),some (.ref q),some (.ref p),v1]) ⟨Nat.zero_le _,by rw [aaG];exact hl1,_,rfl⟩ ?_ ?_
  ·clear K1 k hl1
   rintro i σ H' hi ⟨_,hl',v1,rfl⟩
   have hat:jL (ms.map V.int) (0+(i:Int))=some (.int ms[i]):=gK (by omega) (by rw [List.getElem?_map,show (0+(i:Int)).toNat=i by omega,List.getElem?_eq_getElem hi];rfl)
   have hst:=IA (row:=row) (c:=c) hc (List.getElem?_eq_getElem hi)
   have hll:=zN (row:=row) (c:=c) (ms:=ms.take i) (by rw [List.length_take];omega)
   generalize ms[i]=n at hat hst
   have Vg:=hl'.get (mC Ve)
   walk_at "ge"
   refine g9 (hl'.get mS) (dY (by omega) (by rw [List.length_map];omega)) ?_
   have dh:=hl'.put (o' := .lst (((c9 row c (ms.take i)).map V.int).set ((c:Int)+(0+(i:Int))).toNat (.int n))) rfl rfl
   generalize upd H' p (.lst (((c9 row c (ms.take i)).map V.int).set ((c:Int)+(0+(i:Int))).toNat (.int n)))=H5 at dh ⊢
   rw [show ((c:Int)+(0+(i:Int))).toNat=c+i by omega,<-List.map_set,hst] at dh
   walk_at "ge"
   exact ⟨hi,dh,_,rfl⟩
  ·clear hl1
   rintro σ H' ⟨_,hl',v1,rfl⟩
   rw [List.take_length] at hl'
   walk_at "ge"
   refine K1.use ?_
   walk_at "ge"
   exact k p _ hl'
abbrev pL:Str:=Str.ofString "abcdefghijklmnopqrstuvwxyz"
theorem FT : ∀ j:Nat,j < 26->jL pL.cps.toList ((j:Nat):Int)=some (97+j):=by
 intro j h
 have e:pL.cps.toList = [97,98,99,100,101,102,103,104,105,106,107,108,109,110,111,112,113,114,115,116,117,118,119,120,121,122]:=by decide +kernel
 rw [e]
 refine gj (j:=j) ?_
 exact (by decide +kernel : ∀ j:Nat,j < 26->([97,98,99,100,101,102,103,104,105,106,107,108,109,110,111,112,113,114,115,116,117,118,119,120,121,122]:List Nat)[j]? = some (97+j)) j h
def IB (c t k:Int):Int:=if k=c / 8 % (1+c % 8)/\c / 64 % 3≠1 then ((c / 512+3 * k * k+k) * 48271 % 7919 % 26+t) % 26 else (c / 512+3 * k * k+k) * 48271 % 7919 % 26
theorem Lm (c t k:Int):0<=IB c t k:=by unfold IB;split <;> exact Int.emod_nonneg _ (by decide)
theorem Ln (c t k:Int):IB c t k < 26:=by unfold IB;split <;> exact Int.emod_lt_of_pos _ (by decide)
def DG (c t:Int) (i:Nat):List Nat:=(List.range i).map λ k:Nat=>97+(IB c t (0+(k:Int))).toNat
def za (c t:Int):Int:=if c / 64 % 3=1 then 1+(c+t) % 8 else 1+c % 8
def zO (c t:Int):Str:=⟨((DG c t 8).take (za c t).toNat).toArray⟩
theorem wL (c t:Int) (i:Nat):(DG c t i).length=i:=by unfold DG;rw [List.length_map,List.length_range]
theorem Q9 (c t:Int):1<=za c t/\za c t<=8:=by unfold za;split <;> omega
theorem NH {z:Str} : TH z ↔ ∀ c∈z.cps.toList,c < 0x110000:=by
 unfold TH PyData.strOk
 rw [<-Array.all_toList,List.all_eq_true]
 exact ⟨λ h c hc=>of_decide_eq_true (h c hc),λ h c hc=>decide_eq_true (h c hc)⟩
theorem Lo (c t:Int):TH (zO c t):=by
 rw [NH]
 intro d hd
 have hd:d∈(DG c t 8).take (za c t).toNat:=by simpa [zO] using hd
 obtain ⟨k,_,rfl⟩:=List.mem_map.mp (List.mem_of_mem_take hd)
 have:=Ln c t (0+(k:Int))
 have:=Lm c t (0+(k:Int))
 omega
theorem Ra (x y:Str):(x++y).cps.toList=x.cps.toList++y.cps.toList:=by show (x.cps++y.cps).toList=_;simp
theorem wM {z:Str} {c t:Int} (h:z.cps.toList=DG c t 8) {j:Int} (h0:j=za c t):Txt.slice z none (some j)=zO c t:=by
 have r:=Q9 c t
 have hl:z.cps.toList.length=8:=by rw [h,wL]
 have e:=eq_of_beq (slice_closes_to (x:=z) (j:=j) ⟨by omega,by rw [hl];omega⟩)
 rw [e]
 unfold zO
 rw [h,show (0:Int).toNat=0 from rfl,List.drop_zero,Int.sub_zero,h0]
def Lp:Sp:=λ vs H Q _ => ∃ (c t:Int),vs = [.int c,.int t]/\(0<=t/\t<=5)/\Q (.str (zO c t)) H
theorem NI (D:Def K mg "_law_name" i6) (B:iK mg) (T:Txt K mg cU cA cB cC cT cF cD cS cI):bX P w K mg base 1 "_law_name" ["_law_cell","_law_turn"] Lp:=by
 have sc:=zC
 refine D.ok zC (λ vs H Q E h => ?_) (λ _ _ _ _ _ _ us hl=>match us,hl with | [_,_],_=>rfl) (λ f cdv A outer s H vs Q E hr h => ?_)
 ·obtain ⟨_,_,rfl,_⟩:=h;rfl
 ·obtain ⟨c,t,rfl,ht,k⟩:=h
  have hlz:pL.length<=sizeLine:=by decide +kernel
  refine ⟨_,(@ah _ _ _ _ _ (@aJ _ _ 2 _ _ _ _ sc.nd rfl (by walk_at "o2") (@dU _ _ _ _) (by rfl) (by walk_at "o4")) (@ah _ _ _ _ _ (@aJ _ _ 3 _ _ _ _ sc.nd rfl (by walk_at "o2") (@au _ _ _ _ _ _ _ _ aT (@aj _ _ _ _) (@au _ _ _ _ _ _ _ _ aN (@ao _ 0 _ _ (by walk_at "v")) (@aj _ _ _ _))) (by rfl) (by walk_at "o4")) (@ah _ _ _ _ _ (@aJ _ _ 4 _ _ _ _ sc.nd rfl (by walk_at "o2") (@au _ _ _ _ _ _ _ _ aN (@au _ _ _ _ _ _ _ _ bW (@ao _ 0 _ _ (by walk_at "v")) (@aj _ _ _ _)) (@ao _ 3 _ _ (by walk_at "v"))) (by rfl) (by walk_at "o4")) (@ah _ _ _ _ _ (@aJ _ _ 5 _ _ _ _ sc.nd rfl (by walk_at "o2") (@dU _ _ _ _) (by rfl) (by walk_at "o4")) (@ah _ _ _ _ _ (@jY _ _ _ _ _ _ _ _ PassesOwn.never rfl (@dw _ _ _ _ _ _ (by rfl) B.range (@aa _ _ _ _ _ (@aj _ _ _ _) (@ai _) (by rfl)) (by rfl)) (@fF _ _ 6 _ sc.nd rfl (by walk_at "o2") (by walk_at "o4")) (@ah _ _ _ _ _ (@aJ _ _ 7 _ _ _ _ sc.nd rfl (by walk_at "o2") (@au _ _ _ _ _ _ _ _ aN (@au _ _ _ _ _ _ _ _ aN (@au _ _ _ _ _ _ _ _ gJ (@au _ _ _ _ _ _ _ _ aT (@au _ _ _ _ _ _ _ _ aT (@au _ _ _ _ _ _ _ _ bW (@ao _ 0 _ _ (by walk_at "v")) (@aj _ _ _ _)) (@au _ _ _ _ _ _ _ _ gJ (@au _ _ _ _ _ _ _ _ gJ (@aj _ _ _ _) (@ao _ 6 _ _ (by walk_at "v"))) (@ao _ 6 _ _ (by walk_at "v")))) (@ao _ 6 _ _ (by walk_at "v"))) (@aj _ _ _ _)) (@aj _ _ _ _)) (@aj _ _ _ _)) (by rfl) (by walk_at "o4")) (@ah _ _ _ _ _ (@aR _ _ _ _ _ _ _ _ (@PW.pt _ _ _ (@pw_and _ _ _ _ _ _ _ (@aX _ _ _ _ _ _ _ _ iQ (@ao _ 6 _ _ (by walk_at "v")) (@ao _ 4 _ _ (by walk_at "v")) (bf _)) (@pw_and1 _ _ _ _ (@aX _ _ _ _ _ _ _ _ F9 (@au _ _ _ _ _ _ _ _ aN (@au _ _ _ _ _ _ _ _ bW (@ao _ 0 _ _ (by walk_at "v")) (@aj _ _ _ _)) (@aj _ _ _ _)) (@aj _ _ _ _) (bf _))))) (@ak _ _ _ (@aJ _ _ 7 _ _ _ _ sc.nd rfl (by walk_at "o2") (@au _ _ _ _ _ _ _ _ aN (@au _ _ _ _ _ _ _ _ aT (@ao _ 7 _ _ (by walk_at "v")) (@ao _ 1 _ _ (by walk_at "v"))) (@aj _ _ _ _)) (by rfl) (by walk_at "o4"))) (@aE _)) (@ak _ _ _ (@aJ _ _ 5 _ _ _ _ sc.nd rfl (by walk_at "o2") (@au _ _ _ _ _ _ _ _ DS (@ao _ 5 _ _ (by walk_at "v")) (@bB _ _ _ _ _ _ _ PF (@ao _ 2 _ _ (by walk_at "v")) (@ao _ 7 _ _ (by walk_at "v")) (λ _ _=>rfl))) (by rfl) (by walk_at "o4"))))) (by intro _;rfl)) (@ah _ _ _ _ _ (@aR _ _ _ _ _ _ _ _ (@aX _ _ _ _ _ _ _ _ iQ (@au _ _ _ _ _ _ _ _ aN (@au _ _ _ _ _ _ _ _ bW (@ao _ 0 _ _ (by walk_at "v")) (@aj _ _ _ _)) (@aj _ _ _ _)) (@aj _ _ _ _) (bf _)) (@ak _ _ _ (@aC _ _ _ _ (@j3 _ _ _ _ _ _ _ _ _ _ JV (@ao _ 5 _ _ (by walk_at "v")) (@tX _) (@ly _ _ _ (@au _ _ _ _ _ _ _ _ aT (@aj _ _ _ _) (@au _ _ _ _ _ _ _ _ aN (@au _ _ _ _ _ _ _ _ aT (@ao _ 0 _ _ (by walk_at "v")) (@ao _ 1 _ _ (by walk_at "v"))) (@aj _ _ _ _))))))) (@aE _)) (@ak _ _ _ (@aC _ _ _ _ (@j3 _ _ _ _ _ _ _ _ _ _ JV (@ao _ 5 _ _ (by walk_at "v")) (@tX _) (@ly _ _ _ (@ao _ 3 _ _ (by walk_at "v")))))))))))),?_⟩
  refine aD λ M1 K1 => ?_
  walk_at "ge"
  refine K1.use ?_
  walk_at "cl"
  clear K1
  refine aD λ M1 K1 => ?_
  walk_at "ge"
  refine K1.use ?_
  walk_at "cl"
  clear K1
  refine aD λ M1 K1 => ?_
  walk_at "ge"
  refine K1.use ?_
  walk_at "cl"
  clear K1
  refine aD λ M1 K1 => ?_
  walk_at "ge"
  refine K1.use ?_
  walk_at "cl"
  clear K1
  refine aD λ M1 K1 => ?_
  refine ux λ Lr rR => ?_
  walk_at "ge"
  refine ⟨_,rfl,by omega,by omega,rR.use ?_⟩
  clear rR
  refine uy (λ i σ H'=>H' = H/\i<=8 ∧ ∃ (z:Str) (v1 v2:Option V),z.cps.toList=DG c t i ∧ σ = [some (.int c),some (.int t),some (.str pL),some (.int (1+c % 8)),some (.int (c / 8 % (1+c % 8))),some (.str z),v1,v2]) ⟨rfl,by decide,Str.ofString "",_,_,(by show (Str.ofString "").cps.toList = [];decide +kernel),rfl⟩ ?_ ?_
  ·clear K1
   rintro i σ H' hi ⟨rfl,hi8,z,v1,v2,hz,rfl⟩
   have hi:i < 8:=hi
   have hzl:z.length=i:=by
    have hl:z.cps.toList.length=z.length:=Array.length_toList
    rw [hz,wL] at hl
    exact hl.symm
   refine aD λ M2 K2 => ?_
   walk_at "ge"
   refine K2.use ?_
   walk_at "cl"
   clear K2
   refine aD λ M2 K2 => ?_
   have rest:M2 [some (.int c),some (.int t),some (.str pL),some (.int (1+c % 8)),some (.int (c / 8 % (1+c % 8))),some (.str z),some (.int (0+(i:Int))),some (.int (IB c t (0+(i:Int))))] H':=by
    refine K2.use ?_
    clear K2
    have l0:=Lm c t (0+(i:Int))
    have l1:=Ln c t (0+(i:Int))
    have hla:=FT (IB c t (0+(i:Int))).toNat (by omega)
    rw [Int.toNat_of_nonneg l0] at hla
    walk_at "ge"
    refine Wk hlz hla ?_
    walk_at "ge"
    refine Tg (by show _+1<=_;have:=sizeLine_eq;omega) ?_
    walk_at "ge"
    refine ⟨rfl,hi,_,_,_,?_,rfl⟩
    rw [Ra,hz]
    unfold DG
    rw [List.range_succ,List.map_append]
    rfl
   clear K2
   walk_at "ge"
   ·have hs:IB c t (0+(i:Int))=((c / 512+3 * (0+(i:Int)) * (0+(i:Int))+(0+(i:Int))) * 48271 % 7919 % 26+t) % 26:=by
     unfold IB
     rw [if_pos ⟨by assumption,by assumption⟩]
    rw [hs] at rest
    exact rest
   ·have hs:IB c t (0+(i:Int))=(c / 512+3 * (0+(i:Int)) * (0+(i:Int))+(0+(i:Int))) * 48271 % 7919 % 26:=by
     unfold IB
     rw [if_neg λ h=>by first | exact absurd h.2 (by assumption) | exact h.2 (by assumption) | exact absurd h.1 (by assumption)]
    rw [hs] at rest
    exact rest
   ·have hs:IB c t (0+(i:Int))=(c / 512+3 * (0+(i:Int)) * (0+(i:Int))+(0+(i:Int))) * 48271 % 7919 % 26:=by
     unfold IB
     rw [if_neg λ h=>by first | exact absurd h.2 (by assumption) | exact h.2 (by assumption) | exact absurd h.1 (by assumption)]
    rw [hs] at rest
    exact rest
  ·rintro σ H' ⟨rfl,_,z,v1,v2,hz,rfl⟩
   have hz:z.cps.toList=DG c t 8:=hz
   have hzl:z.length=8:=by
    have hl:z.cps.toList.length=z.length:=Array.length_toList
    rw [hz,wL] at hl
    exact hl.symm
   walk_at "ge"
   refine K1.use ?_
   walk_at "cl"
   clear K1
   refine aD λ M1 K1 => ?_
   walk_at "ge"
   ·have h1:c / 64 % 3=1:=by assumption
    refine Tf (by have:=sizeLine_eq;omega) ?_
    rw [wM hz (show 1+(c+t) % 8=za c t by unfold za;rw [if_pos h1])]
    walk_at "ge"
    exact k
   ·have h1 : ¬ c / 64 % 3=1:=by assumption
    refine K1.use ?_
    walk_at "ge"
    refine Tf (by have:=sizeLine_eq;omega) ?_
    rw [wM hz (show 1+c % 8=za c t by unfold za;rw [if_neg h1])]
    walk_at "ge"
    exact k
def sizesOf (c:Int):Int×Int :=
 if c % 16=7 then (1+c / 16 % 64,c / 1024 % 20) else if c % 128=70 then (1+c / 128 % 4,c / 512 % 513) else if c % 32=6 then (1+c / 32 % 4,c / 128 % 65) else if c % 8=6 then (1+c / 8 % 9,c / 72 % 30) else (1+c / 8 % 5,c / 40 % 6)
theorem FU (c:Int):1<=(sizesOf c).1/\(sizesOf c).1<=64/\0<=(sizesOf c).2/\(sizesOf c).2<=512/\(sizesOf c).1+(sizesOf c).2<=516:=by
 unfold sizesOf
 split
 ·dsimp only;omega
 ·split
  ·dsimp only;omega
  ·split
   ·dsimp only;omega
   ·split
    ·dsimp only;omega
    ·dsimp only;omega
def GG:Sp:=λ vs H Q _ => ∃ (c:Int) (L:Cells),vs = [.int c]/\Led H L ∧ ∀ p H',Led H' ((p,.tup [.int (sizesOf c).1,.int (sizesOf c).2])::L)->Q (.ref p) H'
theorem Lq (D:Def K mg "_law_sizes" gG) (T:Txt K mg cU cA cB cC cT cF cD cS cI):bX P w K mg base 1 "_law_sizes" ["_law_cell"] GG:=by
 have sc:=uX
 refine D.ok uX (λ vs H Q E h => ?_) (λ _ _ _ _ _ _ us hl=>match us,hl with | [_],_=>rfl) (λ f cdv A outer s H vs Q E hr h => ?_)
 ·obtain ⟨_,_,rfl,_⟩:=h;rfl
 ·obtain ⟨c,L,rfl,hL,k⟩:=h
  refine ⟨_,(@ah _ _ _ _ _ (@aR _ _ _ _ _ _ _ _ (@aX _ _ _ _ _ _ _ _ iQ (@au _ _ _ _ _ _ _ _ aN (@ao _ 0 _ _ (by walk_at "v")) (@aj _ _ _ _)) (@aj _ _ _ _) (bf _)) (@ak _ _ _ (@aC _ _ _ _ (@fj _ _ _ _ _ (@aa _ _ _ _ _ (@au _ _ _ _ _ _ _ _ aT (@aj _ _ _ _) (@au _ _ _ _ _ _ _ _ aN (@au _ _ _ _ _ _ _ _ bW (@ao _ 0 _ _ (by walk_at "v")) (@aj _ _ _ _)) (@aj _ _ _ _))) (@aa _ _ _ _ _ (@au _ _ _ _ _ _ _ _ aN (@au _ _ _ _ _ _ _ _ bW (@ao _ 0 _ _ (by walk_at "v")) (@aj _ _ _ _)) (@aj _ _ _ _)) (@ai _) (by rfl)) (by rfl))))) (@aE _)) (@ah _ _ _ _ _ (@aR _ _ _ _ _ _ _ _ (@aX _ _ _ _ _ _ _ _ iQ (@au _ _ _ _ _ _ _ _ aN (@ao _ 0 _ _ (by walk_at "v")) (@aj _ _ _ _)) (@aj _ _ _ _) (bf _)) (@ak _ _ _ (@aC _ _ _ _ (@fj _ _ _ _ _ (@aa _ _ _ _ _ (@au _ _ _ _ _ _ _ _ aT (@aj _ _ _ _) (@au _ _ _ _ _ _ _ _ aN (@au _ _ _ _ _ _ _ _ bW (@ao _ 0 _ _ (by walk_at "v")) (@aj _ _ _ _)) (@aj _ _ _ _))) (@aa _ _ _ _ _ (@au _ _ _ _ _ _ _ _ aN (@au _ _ _ _ _ _ _ _ bW (@ao _ 0 _ _ (by walk_at "v")) (@aj _ _ _ _)) (@aj _ _ _ _)) (@ai _) (by rfl)) (by rfl))))) (@aE _)) (@ah _ _ _ _ _ (@aR _ _ _ _ _ _ _ _ (@aX _ _ _ _ _ _ _ _ iQ (@au _ _ _ _ _ _ _ _ aN (@ao _ 0 _ _ (by walk_at "v")) (@aj _ _ _ _)) (@aj _ _ _ _) (bf _)) (@ak _ _ _ (@aC _ _ _ _ (@fj _ _ _ _ _ (@aa _ _ _ _ _ (@au _ _ _ _ _ _ _ _ aT (@aj _ _ _ _) (@au _ _ _ _ _ _ _ _ aN (@au _ _ _ _ _ _ _ _ bW (@ao _ 0 _ _ (by walk_at "v")) (@aj _ _ _ _)) (@aj _ _ _ _))) (@aa _ _ _ _ _ (@au _ _ _ _ _ _ _ _ aN (@au _ _ _ _ _ _ _ _ bW (@ao _ 0 _ _ (by walk_at "v")) (@aj _ _ _ _)) (@aj _ _ _ _)) (@ai _) (by rfl)) (by rfl))))) (@aE _)) (@ah _ _ _ _ _ (@aR _ _ _ _ _ _ _ _ (@aX _ _ _ _ _ _ _ _ iQ (@au _ _ _ _ _ _ _ _ aN (@ao _ 0 _ _ (by walk_at "v")) (@aj _ _ _ _)) (@aj _ _ _ _) (bf _)) (@ak _ _ _ (@aC _ _ _ _ (@fj _ _ _ _ _ (@aa _ _ _ _ _ (@au _ _ _ _ _ _ _ _ aT (@aj _ _ _ _) (@au _ _ _ _ _ _ _ _ aN (@au _ _ _ _ _ _ _ _ bW (@ao _ 0 _ _ (by walk_at "v")) (@aj _ _ _ _)) (@aj _ _ _ _))) (@aa _ _ _ _ _ (@au _ _ _ _ _ _ _ _ aN (@au _ _ _ _ _ _ _ _ bW (@ao _ 0 _ _ (by walk_at "v")) (@aj _ _ _ _)) (@aj _ _ _ _)) (@ai _) (by rfl)) (by rfl))))) (@aE _)) (@ak _ _ _ (@aC _ _ _ _ (@fj _ _ _ _ _ (@aa _ _ _ _ _ (@au _ _ _ _ _ _ _ _ aT (@aj _ _ _ _) (@au _ _ _ _ _ _ _ _ aN (@au _ _ _ _ _ _ _ _ bW (@ao _ 0 _ _ (by walk_at "v")) (@aj _ _ _ _)) (@aj _ _ _ _))) (@aa _ _ _ _ _ (@au _ _ _ _ _ _ _ _ aN (@au _ _ _ _ _ _ _ _ bW (@ao _ 0 _ _ (by walk_at "v")) (@aj _ _ _ _)) (@aj _ _ _ _)) (@ai _) (by rfl)) (by rfl))))))))),?_⟩
  refine aD λ M1 K1 => ?_
  walk_at "ge"
  ·have e:sizesOf c=(1+c / 16 % 64,c / 1024 % 20):=by unfold sizesOf;rw [if_pos (by assumption)]
   rw [e] at k
   rename Led _ _=>hl
   exact k _ _ hl
  have n1 : ¬ c % 16=7:=by assumption
  refine K1.use ?_
  walk_at "cl"
  clear K1
  refine aD λ M1 K1 => ?_
  walk_at "ge"
  ·have e:sizesOf c=(1+c / 128 % 4,c / 512 % 513):=by unfold sizesOf;rw [if_neg n1,if_pos (by assumption)]
   rw [e] at k
   rename Led _ _=>hl
   exact k _ _ hl
  have n0 : ¬ c % 128=70:=by assumption
  refine K1.use ?_
  walk_at "cl"
  clear K1
  refine aD λ M1 K1 => ?_
  walk_at "ge"
  ·have e:sizesOf c=(1+c / 32 % 4,c / 128 % 65):=by unfold sizesOf;rw [if_neg n1,if_neg n0,if_pos (by assumption)]
   rw [e] at k
   rename Led _ _=>hl
   exact k _ _ hl
  have n2 : ¬ c % 32=6:=by assumption
  refine K1.use ?_
  walk_at "cl"
  clear K1
  refine aD λ M1 K1 => ?_
  walk_at "ge"
  ·have e:sizesOf c=(1+c / 8 % 9,c / 72 % 30):=by unfold sizesOf;rw [if_neg n1,if_neg n0,if_neg n2,if_pos (by assumption)]
   rw [e] at k
   rename Led _ _=>hl
   exact k _ _ hl
  have n3 : ¬ c % 8=6:=by assumption
  refine K1.use ?_
  walk_at "cl"
  clear K1
  walk_at "ge"
  have e:sizesOf c=(1+c / 8 % 5,c / 40 % 6):=by unfold sizesOf;rw [if_neg n1,if_neg n0,if_neg n2,if_neg n3]
  rw [e] at k
  rename Led _ _=>hl
  exact k _ _ hl
theorem St.GH {H:Hp} {S:SS} {M:Cells} (N L:Cells) (h:Led H (bh cT cF cD cS cI S (N++(L++M)))):Led H (L++bh cT cF cD cS cI S (N++M)):=by
 have e : ∀ X:Cells,bh cT cF cD cS cI S X=(zI cT S++(pH cF S.F++(FF cD S++(FG cS S++Dy cI S))))++X:=λ X=>by unfold bh;simp only [List.append_assoc]
 rw [e] at h ⊢
 exact Led.perm h ((List.Perm.append_left _ (aF N L M)).trans (aF _ L _))
theorem St.rV {H:Hp} {S:SS} {M:Cells} (L:Cells) (h:Led H (L++bh cT cF cD cS cI S M)):Led H (bh cT cF cD cS cI S (L++M)):=by
 have e : ∀ X:Cells,bh cT cF cD cS cI S X=(zI cT S++(pH cF S.F++(FF cD S++(FG cS S++Dy cI S))))++X:=λ X=>by unfold bh;simp only [List.append_assoc]
 rw [e] at h ⊢
 exact Led.perm h (aF L _ _)
theorem St.gU {H:Hp} {S:SS} {M M':Cells} (h:Led H (bh cT cF cD cS cI S M)) (p:M.Perm M'):Led H (bh cT cF cD cS cI S M'):=Led.perm h (List.Perm.append_left _ (List.Perm.append_left _ (List.Perm.append_left _ (List.Perm.append_left _ (List.Perm.append_left _ p)))))
theorem rW {H:Hp} {a b:Addr} {row:List Int} (h1:H a=some (.lst (row.map V.int))) (h2:H b=some (.lst (row.map V.int))) (hl:row.length<=100000):Alike H 2 (.ref a) (.ref b):=by
 refine .inr ⟨a,b,_,_,rfl,rfl,.inl ⟨h1,h2⟩,rfl,by rw [List.length_map];exact hl,λ i x y hx hy => ?_⟩
 rw [hx] at hy
 cases hy
 rw [List.getElem?_map] at hx
 obtain ⟨n,_,rfl⟩:=Option.map_eq_some_iff.mp hx
 exact .inl (.inr (.inr (.inl ⟨n,rfl,rfl⟩)))
theorem Ls {H:Hp} {a b:Addr} {kvs:List (List Key×V)} {k:List Key} {v:V} {S:V->Prop} (h1:H a=some (.dT kvs)) (hb:H b=some (.tup (k.map kV))) (h2:bA kvs k=some v) (h:S v) : ∃ c v,V.ref a = .ref c/\fV H c (.ref b) (some v)/\S v:=⟨a,v,rfl,h2 ▸ fV.t h1 hb,h⟩
theorem Lu {H:Hp} {a b:Addr} {kvs:List (List Key×V)} {k:List Key} {v:V} {D:Ends} {σ : L2.St} (h1:H a=some (.dT kvs)) (hb:H b=some (.tup (k.map kV))) (hl:kvs.length < sizeLine) (h:D.nx σ (upd H a (.dT (putK kvs k v)))) : ∃ c H4,V.ref a = .ref c/\mJ H c (.ref b) v H4/\D.nx σ H4:=⟨a,_,rfl,mJ.t h1 hb hl,h⟩
theorem Led.right {H:Hp} : ∀ {A L:Cells},Led H (A++L)->Led H L
 | [],_,h=>h
 | _::_,_,h=>Led.right (Led.tail h)
theorem St.rest {H:Hp} {S:SS} {M:Cells} (h:Led H (bh cT cF cD cS cI S M)):Led H M:=by
 have e:bh cT cF cD cS cI S M=(zI cT S++(pH cF S.F++(FF cD S++(FG cS S++Dy cI S))))++M:=by unfold bh;simp only [List.append_assoc]
 rw [e] at h
 exact Led.right h
end
section
variable {P:Program} {w:World} {K:PySem.W.Frag} {mg:Str->Option Value} {base:Heap} {cU cA cB cC cT cF cD cS cI:Addr}
def Lv (cI cC:Addr):Sp:=λ vs H Q E => ∃ (b dx d l:Addr) (es:cM) (z:Str) (rows:BZ) (R:Cells),vs = [.ref b,.str z,.ref l]/\Led H (Iq cI b dx d es R)/\(es.map (·.1)).Nodup/\(l,HO.lst (nJ rows))∈R/\(∀ r∈rows,(r.1,HO.lst (r.2.map V.int))∈R/\r.2.length<=600)/\rows.length<=100/\es.length<=600 ∧
 (z ∉ es.map (·.1)->∀ (fa:Addr) (rows':BZ) (H':Hp),rows'.map (·.2)=rows.map (·.2)->Led H' (Iq cI b dx d (es++[(z,fa,rows')]) (Hr rows'++R))->Q .aH H')/\(z∈es.map (·.1)->E (.ref cC) none H)
theorem zP {rows rows':BZ} (h : ∀ (i:Nat) r,rows'[i]? = some r->rows[i]?.map (·.2)=some r.2) (hl:rows'.length=rows.length):rows'.map (·.2)=rows.map (·.2):=by
 apply List.ext_getElem?
 intro i
 rw [List.getElem?_map,List.getElem?_map]
 cases hi:rows'[i]? with
 | some r=>rw [h i r hi];rfl
 | none =>
   have:rows'.length<=i:=List.getElem?_eq_none_iff.mp hi
   rw [List.getElem?_eq_none (by omega)]
theorem NJ (D:bH K cI "make" "Files.make" dD) (B:iK mg) (T:Txt K mg cU cA cB cC cT cF cD cS cI):aI P w K mg base 1 cI "make" ["self","name","rows"] (Lv cI cC):=by
 have sc:=lY
 refine D.Cu lY (λ vs H Q E h => ?_) (λ _ _ _ _ _ _ us hl=>match us,hl with | [_,_,_],_=>rfl) (λ f cdv A outer s H vs Q E hr h => ?_)
 ·obtain ⟨_,_,_,_,_,_,_,_,rfl,_⟩:=h;rfl
 ·obtain ⟨b,dx,d,l,es,z,rows,R,rfl,hL,nd,Rb,rP,hrl,h6,k1,k2⟩:=h
  have hu:=gi hr
  have hf:(iG d).lookup (Str.ofString "rows_by_name")=some (.ref d):=rfl
  have fh:=FH.of hL nd
  have c1:=fh.cb
  have c2:=fh.cd
  have up : ∀ {c:Addr×HO},c∈R->c∈Iq cI b dx d es R:=λ h=>mC (mC (mA h))
  refine ⟨_,(@ah _ _ _ _ _ (@aR _ _ _ _ _ _ _ _ (@IU _ _ _ _ _ _ (@Py _ _ _ _ _ hu (@ao _ 1 _ _ (by walk_at "v")) (@av _ _ _ _ _ _ _ T.gb T.bP (@ao _ 0 _ _ (by walk_at "v")) (by rfl))) (by first | exact nO _ (by decide) (by decide) | rfl)) (@ak _ _ _ (@iT _ _ _ _ _ _ _ _ _ _ _ _ _ _ _ _ _ _ _ _ _ _ T.Taken (by rfl) (@aa _ _ _ _ _ (@dU _ _ _ _) (@ai _) (by rfl)) (by decide) (by rfl))) (@aE _)) (@ak _ _ _ (@ji _ _ _ _ _ _ _ _ _ hu (@av _ _ _ _ _ _ _ T.gb T.bP (@ao _ 0 _ _ (by walk_at "v")) (by rfl)) (@ao _ 1 _ _ (by walk_at "v")) (@t6 _ _ "row" _ _ _ _ _ _ _ _ _ rfl rfl rfl rfl Ow (gz (by kernel_rfl)) (@nQ _ _ _ _ (@ao _ 2 _ _ (by walk_at "v"))) (λ _ _ _ _=>(@lA _)) (λ _ _ _ _=>(@bw _ _ _ _ _ _ _ _ _ (aP (K:=K) rfl) (by rfl) B.list bZ (@aa _ _ _ _ _ (@pk _ 0 _ _ (by kernel_rfl) (by kernel_rfl) (by decide) (by decide)) (@ai _) (by rfl)) (by decide) (by decide) (by rfl) (by rfl))) (by intro _;rfl)) rfl))),?_⟩
  refine aD λ M1 K1 => ?_
  walk_at "ge"
  refine Tp c2 ?_
  rw [KU]
  by_cases hz:z∈es.map (·.1)
  ·rw [decide_eq_true hz]
   walk_at "ge"
   refine mP λ R hR => ?_
   walk_at "ge"
   exact ⟨by decide,k2 hz⟩
  ·rw [decide_eq_false hz]
   walk_at "ge"
   refine K1.use ?_
   walk_at "cl"
   clear K1
   have NK:=hL.get (up Rb)
   walk_at "ge"
   refine JO λ Lc yV => ?_
   walk_at "ge"
   refine ⟨_,rfl,⟨_,fE.of NK⟩,yV.use ?_⟩
   clear yV c1 c2 NK fh
   refine pS (nJ rows) (λ i v C => ∃ (r:Addr) (row:List Int),v=V.ref r/\C = [(r,HO.lst (row.map V.int))]/\rows[i]?.map (·.2)=some row) hL (up Rb) (by rw [fG];have:=sizeLine_eq;omega) (λ i x H2 R2 M2 hx hl2 hR => ?_) (λ fa vs Cs H2 hvl hcl hG hl2 => ?_)
   ·unfold nJ at hx
    rw [List.getElem?_map] at hx
    obtain ⟨r,hr,rfl⟩:=Option.map_eq_some_iff.mp hx
    have hm:=List.mem_of_getElem? hr
    have c3:=hl2.get (List.mem_append_right M2 (up (rP r hm).1))
    have h7:=(rP r hm).2
    have mr:(r.2.map V.int).length=r.2.length:=List.length_map _
    walk_at "ge"
    rename Led _ _=>hl3
    exact hR _ _ [_] ⟨_,r.2,rfl,rfl,by rw [hr];rfl⟩ hl3
   ·obtain ⟨rows',rfl,e2,e3,e4⟩:=rowsOf (by rw [hvl,hcl]) hG
    rw [e2] at hl2
    rw [fG,fG] at hvl
    have hsame:=zP e4 (by rw [<-hvl])
    have c1:H2 b=some (.ins cI dx (iG d)):=hl2.get (mC (mA mS))
    have c2:H2 d=some (.dK (wR es)):=hl2.get (mC (mA (mC mS)))
    walk_at "ge"
    refine Tq c2 (by unfold wR;rw [List.length_map];have:=sizeLine_eq;omega) ?_
    rw [MP hz fa rows']
    have hl3:Led H2 ((d,.dK (wR es))::(b,.ins cI dx (iG d))::(mQ es++((fa,.lst (nJ rows'))::(Hr rows'++R)))):=hl2.wk (by simp only [Iq];walk_at "sp")
    have c8:=hl3.put (o' := .dK (wR (es++[(z,fa,rows')]))) rfl rfl
    walk_at "ge"
    refine k1 hz fa rows' _ hsame (c8.wk ?_)
    unfold Iq
    rw [show mQ (es++[(z,fa,rows')])=mQ es++[(fa,HO.lst (nJ rows'))] by unfold mQ;rw [List.map_append];rfl]
    simp only [List.append_assoc,List.cons_append,List.nil_append]
    walk_at "sp"
section
variable {N M:Cells} {S S1:SS} {n q i:Nat} {a:Th} {row:List Int} {ts:Ts} {t r u d:Addr}
theorem Clean.gone (h:Clean S):Clean (My.gone S a):=by
 have eF:=(qU S a).2.1
 intro j t r z p row h1 h2 h3
 rw [eF] at h1 h2 h3
 have:=h j t r z p row h1 h2 h3
 cases a with
 | own m=>exact this
 | file z2 p2=>exact this
theorem FW {x:Addr×Th} {j:Nat} {b:Th} {v:Addr} {l:List Hd} (h:(l.set i (some x))[j]? = some (some (v,b))):(j=i/\(v,b)=x)\/(i≠j/\l[j]? = some (some (v,b))):=by
 rw [List.getElem?_set] at h
 split at h
 ·split at h
  ·cases h
   exact .inl ⟨by omega,rfl⟩
  ·cases h
 ·exact .inr ⟨by assumption,h⟩
structure Lt (n q:Nat) (S:SS) (ts:Ts) (M:Cells):Prop where
 g:aG S n q M
 gh:DF S n q
 cl:Clean S
 nd:(ts.map (·.1)).Nodup
 rw : ∀ e∈ts,(e.2.1,HO.lst (e.2.2.map V.int))∈M/\cG S e.1 e.2.2/\L7 e.1
 BO : ∀ a,(BN S a ∨ ∃ row,Back S row a)->a∈ts.map (·.1)
theorem Lt.mono {M':Cells} (h:Lt n q S ts M) (up : ∀ c∈M,c∈M'):Lt n q S ts M' := { h with g:=h.g.mono up,rw:=λ e he=>⟨up _ (h.rw e he).1,(h.rw e he).2⟩ }
theorem cG.len (g:aG S n q M) (h:cG S a row):row.length=4:=by
 rcases h with ⟨j,v,r,h5,h6⟩ | ⟨_,h5⟩
 ·obtain ⟨r',fU,h7,h8⟩:=g.rr j v a h5
  rw [h6] at h7
  cases h7
  exact h8
 ·exact h5.len g
theorem Lt.NL (h:Lt n q S ts M) (hnf : ¬ BN S a) (hb:Back S row a) (OP:L7 a) (hH:iM N (My.gone S a) n i S1) (ht:(t,HO.tup (fN a))∈N++M) (hr:(r,HO.lst (row.map V.int))∈N++M):Lt n q { S1 with F:=S1.F.fill i (some (t,a)) (some (r,row)) false } ts (N++M):=by
 obtain ⟨eb,eF,Nx,Q5,efs,ep,ebs⟩:=qU S a
 have g0:=h.g.gone hb
 have g1:=g0.had hH
 obtain ⟨h0,e1,e2,_,_⟩:=hH.at
 rw [Nx] at e1
 rw [Q5] at e2
 have hlt:i < S1.F.hs.length:=(List.getElem?_eq_some_iff.mp h0).1
 obtain ⟨cl1,Vh⟩:=hH.rows g0 h.cl.gone
 have unF : ∀ b,BN (My.gone S a) b->BN S b:=λ b ⟨j,v,hj⟩=>⟨j,v,by rw [<-eF];exact hj⟩
 have nf1 : ¬ BN S1 a:=λ z=>hnf (unF a (hH.UQ z))
 have bk : ∀ z p,a = .file z p->Back S1 row a:=λ z p e=>by
  have h1:cG (My.gone S a) a row:=by
   rw [e] at hnf hb ⊢
   exact .inr ⟨hnf,hb⟩
  rcases Vh a row h1 with ⟨j,v,w,h2,_⟩ | ⟨_,h2⟩
  ·exact absurd ⟨j,v,h2⟩ nf1
  ·exact h2
 have lg : ∀ m,Lies S1 m↔Lies S m/\a ≠ .own m:=λ m=>(hH.lies m).trans (Lies.gone h.g hnf)
 have ho : ∀ m,a = .own m->m ∉ S1.es.map (·.1):=λ m e z=>((lg m).mp (.inr z)).2 e
 have OS : ∀ m,Lies { S1 with F:=S1.F.fill i (some (t,a)) (some (r,row)) false } m↔Lies S m:=λ m=>by
  constructor
  ·rintro (⟨j,v,hj⟩ | hm)
   ·rcases FW (l:=S1.F.hs) hj with ⟨_,e⟩ | ⟨_,hj⟩
    ·cases e
     exact .inr hb.key
    ·exact ((lg m).mp (.inl ⟨j,v,hj⟩)).1
   ·exact ((lg m).mp (.inr hm)).1
  ·intro hm
   by_cases e:a = .own m
   ·refine .inl ⟨i,t,?_⟩
    show (S1.F.hs.set i _)[i]? = _
    rw [List.getElem?_set,if_pos rfl,if_pos hlt,e]
   ·rcases (lg m).mpr ⟨hm,e⟩ with ⟨j,v,hj⟩ | hm
    ·have hij:i≠j:=λ z=>by rw [<-z,h0] at hj;cases hj
     exact .inl ⟨j,v,(cH hij).mpr hj⟩
    ·exact .inr hm
 obtain ⟨rf1,rf2⟩:=cG.fill (t:=t) (r:=r) (a:=a) (row:=row) (k:=S1.made) (hs':=S1.hs) g1 h0
 refine { g:=g1.NB ht OP hr (hb.len h.g) (λ j v hj=>nf1 ⟨j,v,hj⟩) ho (λ z p e => ?_),gh:=⟨by show (S1.hs.map (·.1)).Nodup;rw [e1];exact h.gh.nd,λ e he => ?_,λ e he => ?_,λ m => ?_,by show S1.hs.length<=_;rw [e1];exact h.gh.most,by show 0<=S1.made;rw [e2];exact h.gh.m0⟩,cl:=Clean.fill (k:=S1.made) (hs':=S1.hs) g1 cl1 h0 bk,nd:=h.nd,rw:=λ e he => ?_,BO:=λ b Se => ?_ }
 ·have h5:=bk z p e
  rw [e] at h5
  obtain ⟨x,hx,x1,j,w,xp,xr⟩:=h5
  exact ⟨x,hx,j,x1,xp,(List.getElem?_eq_some_iff.mp xr).1⟩
 ·have he':e∈S1.hs:=he
  rw [e1] at he'
  show 1<=e.1/\e.1<=S1.made
  rw [e2]
  exact h.gh.le e he'
 ·have he':e∈S1.hs:=he
  rw [e1] at he'
  exact h.gh.c1 e he'
 ·rw [OS m,<-h.gh.OS m]
  show m∈S1.hs.map (·.1)↔_
  rw [e1]
 ·obtain ⟨c1,c2,c3⟩:=h.rw e he
  refine ⟨mA c1,?_,c3⟩
  by_cases ea:e.1=a
  ·rw [ea] at c2 ⊢
   rcases c2 with ⟨j,v,w,h2,_⟩ | ⟨_,h2⟩
   ·exact absurd ⟨j,v,h2⟩ hnf
   ·rw [Back.uniq h.g h2 hb]
    exact rf2
  ·exact rf1 _ _ ea (Vh _ _ (c2.gone ea))
 ·rcases Se with ⟨j,v,hj⟩ | ⟨fU,hb'⟩
  ·rcases FW (l:=S1.F.hs) hj with ⟨_,e⟩ | ⟨_,hj⟩
   ·cases e
    exact h.BO _ (.inr ⟨row,hb⟩)
   ·exact h.BO b (.inl (unF b (hH.UQ ⟨j,v,hj⟩)))
  ·have hb1:Back S1 fU b:=by cases b <;> exact hb'
   rcases hH.back g0 hb1 with h6 | ⟨r6,h6⟩
   ·exact h.BO b (.inl (unF b h6))
   ·exact h.BO b (.inr ⟨r6,h6.Q8⟩)
theorem Lt.fresh (h:Lt n q S ts M):Th.own (S.made+1) ∉ ts.map (·.1):=λ z=>by
 obtain ⟨e,he,ea⟩:=List.mem_map.mp z
 have ea':e.1 = .own (S.made+1):=ea
 obtain ⟨_,c2,_⟩:=h.rw e he
 rw [ea'] at c2
 refine h.gh.fresh ?_
 rcases c2 with ⟨j,v,w,h2,_⟩ | ⟨_,h2⟩
 ·exact .inl ⟨j,v,h2⟩
 ·exact .inr h2.key
theorem Lt.Li (h:Lt n q S ts M) (hroom:(n:Int) - 1+(q:Int) - (S.hs.length:Int)≠0) (h4:row.length=4) (hH:iM N S n i S1) (ht:(t,HO.tup (fN (.own (S.made+1))))∈N++M) (hr:(r,HO.lst (row.map V.int))∈N++M) (hd:(d,HO.lst (row.map V.int))∈N++M):Lt n q { S1 with made:=S.made+1,hs:=S.hs++[(S.made+1,1)],F:=S1.F.fill i (some (t,.own (S.made+1))) (some (r,row)) false } (ts++[(.own (S.made+1),d,row)]) (N++M):=by
 have g1:=h.g.had hH
 obtain ⟨h0,e1,e2,_,_⟩:=hH.at
 obtain ⟨cl1,Vh⟩:=hH.rows h.g h.cl
 have nl : ¬ Lies S1 (S.made+1):=λ z=>h.gh.fresh ((hH.lies _).mp z)
 obtain ⟨rf1,rf2⟩:=cG.fill (t:=t) (r:=r) (a := .own (S.made+1)) (row:=row) (k:=S.made+1) (hs':=S.hs++[(S.made+1,1)]) g1 h0
 refine { g:=g1.filled ht hr h4 nl,gh:=h.gh.Li hH h.g hroom,cl:=Clean.fill g1 cl1 h0 (λ z p e=>nomatch e),nd := ?_,rw:=λ e he => ?_,BO:=λ b Se => ?_ }
 ·rw [List.map_append]
  refine List.nodup_append.mpr ⟨h.nd,by simp,λ x hx y hy e => ?_⟩
  have hy':y = .own (S.made+1):=by simpa using hy
  exact h.fresh (hy' ▸ e ▸ hx)
 ·rcases List.mem_append.mp he with he | he
  ·obtain ⟨c1,c2,c3⟩:=h.rw e he
   exact ⟨mA c1,rf1 _ _ (λ z=>h.fresh (z ▸ List.mem_map.mpr ⟨e,he,rfl⟩)) (Vh _ _ c2),c3⟩
  ·rw [List.mem_singleton.mp he]
   exact ⟨hd,rf2,True.intro⟩
 ·rw [List.map_append,List.mem_append]
  rcases Se with ⟨j,v,hj⟩ | ⟨fU,hb'⟩
  ·rcases FW (l:=S1.F.hs) hj with ⟨_,e⟩ | ⟨_,hj⟩
   ·cases e
    exact .inr mS
   ·exact .inl (h.BO b (.inl (hH.UQ ⟨j,v,hj⟩)))
  ·have hb1:Back S1 fU b:=by cases b <;> exact hb'
   exact .inl (h.BO b (hH.back h.g hb1))
end
def jy (S:SS) (i:Nat) (p:Addr) (row:List Int):SS := { S with F := { S.F with rs:=S.F.rs.set i (some (p,row)),bs:=S.F.bs.set i true } }
section
variable {S:SS} {n q i:Nat} {M:Cells} {t p:Addr} {a:Th} {row:List Int}
theorem aG.nI (g:aG S n q M) (hi:S.F.hs[i]? = some (some (t,a))) (hp:(p,HO.lst (row.map V.int))∈M) (h4:row.length=4):aG (jy S i p row) n q M:=by
 have hlr:i < S.F.rs.length:=by rw [g.f.r,<-g.f.h];exact (List.getElem?_eq_some_iff.mp hi).1
 refine { g with f:=⟨g.f.h,(List.length_set ..).trans g.f.r,(List.length_set ..).trans g.f.s,g.f.th,λ u w h => ?_⟩,rr:=λ j u b h => ?_ }
 ·rcases List.mem_or_eq_of_mem_set h with h | h
  ·exact g.f.rw u w h
  ·cases h;exact hp
 ·by_cases e:i=j
  ·exact ⟨p,row,by show (S.F.rs.set i _)[j]? = _;rw [<-e,List.getElem?_set,if_pos rfl,if_pos hlr],h4⟩
  ·obtain ⟨r',fU,e1,e2⟩:=g.rr j u b h
   exact ⟨r',fU,(cH e).mpr e1,e2⟩
theorem cG.nI (g:aG S n q M) (hi:S.F.hs[i]? = some (some (t,a))):(∀ b fU,b≠a->cG S b fU->cG (jy S i p row) b fU)/\cG (jy S i p row) a row:=by
 have hlr:i < S.F.rs.length:=by rw [g.f.r,<-g.f.h];exact (List.getElem?_eq_some_iff.mp hi).1
 refine ⟨λ b fU hne hb => ?_,.inl ⟨i,t,p,hi,?_⟩⟩
 ·rcases hb with ⟨j,u,r',h1,h2⟩ | ⟨h1,h2⟩
  ·have hij:i≠j:=λ z=>by rw [<-z,hi] at h1;cases h1;exact hne rfl
   exact .inl ⟨j,u,r',h1,(cH hij).mpr h2⟩
  ·refine .inr ⟨h1,?_⟩
   cases b with
   | own m=>exact h2
   | file z p=>exact h2
 ·show (S.F.rs.set i _)[i]? = _
  rw [List.getElem?_set,if_pos rfl,if_pos hlr]
theorem Clean.nI (cl:Clean S):Clean (jy S i p row):=by
 intro j u r' z p' fU h1 h2 h3
 have h3':(S.F.bs.set i true)[j]? = some false:=h3
 have h2':(S.F.rs.set i (some (p,row)))[j]? = some (some (r',fU)):=h2
 by_cases e:i=j
 ·rw [List.getElem?_set,if_pos e] at h3'
  split at h3' <;> cases h3'
 ·exact cl j u r' z p' fU h1 ((cH e).mp h2') ((cH e).mp h3')
end
section
variable {N M:Cells} {S S1:SS} {n q i:Nat} {a:Th} {row:List Int} {ts:Ts} {t r u d:Addr}
theorem Lt.nI {p:Addr} (h:Lt n q S ts M) (hi:S.F.hs[i]? = some (some (t,a))) (hp:(p,HO.lst (row.map V.int))∈M) (hr:(r,HO.lst (row.map V.int))∈M) (h4:row.length=4):Lt n q (jy S i p row) (yZ ts a r row) M:=by
 obtain ⟨r1,r2⟩:=cG.nI (p:=p) (row:=row) h.g hi
 refine { g:=h.g.nI hi hp h4,gh := { h.gh with },cl:=h.cl.nI,nd:=by rw [qV];exact h.nd,rw:=λ e he => ?_,BO:=λ b hb => ?_ }
 ·rcases NC he with rfl | ⟨hne,he⟩
  ·obtain ⟨e2,uP,e3⟩:=List.mem_map.mp (h.BO a (.inl ⟨i,t,hi⟩))
   have e3':e2.1=a:=e3
   exact ⟨hr,r2,by rw [<-e3'];exact (h.rw e2 uP).2.2⟩
  ·exact ⟨(h.rw e he).1,r1 _ _ hne (h.rw e he).2.1,(h.rw e he).2.2⟩
 ·rw [qV]
  refine h.BO b ?_
  rcases hb with hb | ⟨fU,hb⟩
  ·exact .inl hb
  ·refine .inr ⟨fU,?_⟩
   cases b with
   | own m=>exact hb
   | file z p=>exact hb
theorem Lt.ended {S':SS} {M':Cells} {m:Int} (h:Lt n q S ts M) (hE:iI S S' m) (g':aG S' n q M') (up : ∀ c∈M,c∈M'):Lt n q S' (ts.filter λ e=>decide (e.1 ≠ .own m)) M':=by
 have key:Clean S'/\(∀ b row,b ≠ .own m->cG S b row->cG S' b row)/\(∀ b,BN S' b->BN S b/\b ≠ .own m)/\(∀ b row,Back S' row b->Back S row b/\b ≠ .own m):=by
  rcases hE with ⟨i,t,hi,rfl⟩ | ⟨hno,hin,rfl⟩
  ·refine ⟨λ j u r z p row h1 h2 h3 => ?_,λ b row hne hb => ?_,λ b ⟨j,u,hj⟩ => ?_,λ b row hb => ?_⟩
   ·have xg:(S.F.hs.set i none)[j]? = some (some (u,.file z p)):=h1
    obtain ⟨hij,xg⟩:=nH xg
    exact h.cl j u r z p row xg ((cH hij).mp h2) ((cH hij).mp h3)
   ·rcases hb with ⟨j,u,r',h1,h2⟩ | ⟨h1,h2⟩
    ·have hij:i≠j:=λ z=>by rw [<-z,hi] at h1;cases h1;exact hne rfl
     exact .inl ⟨j,u,r',(cH hij).mpr h1,(cH hij).mpr h2⟩
    ·refine .inr ⟨λ ⟨j,u,hj⟩ => ?_,?_⟩
     ·have hj':(S.F.hs.set i none)[j]? = some (some (u,b)):=hj
      exact h1 ⟨j,u,(nH hj').2⟩
     ·cases b with
      | own k=>exact h2
      | file z p=>exact h2
   ·have hj':(S.F.hs.set i none)[j]? = some (some (u,b)):=hj
    obtain ⟨hij,hj'⟩:=nH hj'
    exact ⟨⟨j,u,hj'⟩,λ z=>hij (h.g.inj i j t u _ hi (by rw [hj',z]))⟩
   ·cases b with
    | own k=>exact ⟨hb,λ z=>by cases z;obtain ⟨x,hx⟩:=hb;exact h.g.ap i t m hi (List.mem_map.mpr ⟨_,hx,rfl⟩)⟩
    | file z p=>exact ⟨hb,λ z=>nomatch z⟩
  ·refine ⟨λ j u r z p row h1 h2 h3=>h.cl j u r z p row h1 h2 h3,λ b row hne hb => ?_,λ b ⟨j,u,hj⟩=>⟨⟨j,u,hj⟩,λ z=>hno j u (by rw [<-z];exact hj)⟩,λ b row hb => ?_⟩
   ·rcases hb with ⟨j,u,r',h1,h2⟩ | ⟨h1,h2⟩
    ·exact .inl ⟨j,u,r',h1,h2⟩
    ·refine .inr ⟨h1,?_⟩
     cases b with
     | own k=>obtain ⟨x,hx⟩:=h2;exact ⟨x,List.mem_filter.mpr ⟨hx,decide_eq_true λ z=>hne (by rw [show k=m from z])⟩⟩
     | file z p=>exact h2
   ·cases b with
    | own k =>
      obtain ⟨x,hx⟩:=hb
      obtain ⟨h1,h2⟩:=List.mem_filter.mp hx
      exact ⟨⟨x,h1⟩,λ z=>by cases z;exact (of_decide_eq_true h2) rfl⟩
    | file z p=>exact ⟨hb,λ z=>nomatch z⟩
 obtain ⟨k1,k2,k3,k4⟩:=key
 refine { g:=g',gh:=h.gh.ended h.g hE,cl:=k1,nd:=List.Nodup.sublist (List.Sublist.map _ List.filter_sublist) h.nd,rw:=λ e he => ?_,BO:=λ b hb => ?_ }
 ·obtain ⟨he,hne⟩:=List.mem_filter.mp he
  obtain ⟨c1,c2,c3⟩:=h.rw e he
  exact ⟨up _ c1,k2 _ _ (of_decide_eq_true hne) c2,c3⟩
 ·have hh:b∈ts.map (·.1)/\b ≠ .own m:=by
   rcases hb with hb | ⟨row,hb⟩
   ·exact ⟨h.BO b (.inl (k3 b hb).1),(k3 b hb).2⟩
   ·exact ⟨h.BO b (.inr ⟨row,(k4 b row hb).1⟩),(k4 b row hb).2⟩
  obtain ⟨e,he,e1⟩:=List.mem_map.mp hh.1
  exact List.mem_map.mpr ⟨e,List.mem_filter.mpr ⟨he,decide_eq_true (by rw [show e.1=b from e1];exact hh.2)⟩,e1⟩
theorem Lw (ts:Ts) (a:Th):bz (cX ts) (jx a)=cX (ts.filter λ e=>decide (e.1≠a)):=by
 induction ts with
 | nil=>rfl
 | cons e ts ih =>
   have hc:cX (e::ts)=(jx e.1,V.ref e.2.1)::cX ts:=rfl
   by_cases z:e.1=a
   ·rw [hc,lz (p:=(jx e.1,V.ref e.2.1)) (by show jx e.1=_;rw [z]),ih,List.filter_cons_of_neg (by simp [z])]
   ·rw [hc,iS (p:=(jx e.1,V.ref e.2.1)) (λ w=>z (ud w)),ih,List.filter_cons_of_pos (by simp [z])]
    rfl
theorem Lt.held {m:Int} (h:Lt n q S ts M) (hm:Th.own m∈ts.map (·.1)):m∈S.hs.map (·.1)/\Lies S m:=by
 obtain ⟨e,he,ea⟩:=List.mem_map.mp hm
 have ea':e.1 = .own m:=ea
 obtain ⟨_,c2,_⟩:=h.rw e he
 rw [ea'] at c2
 have hl:Lies S m:=by
  rcases c2 with ⟨j,v,w,h2,_⟩ | ⟨_,h2⟩
  ·exact .inl ⟨j,v,h2⟩
  ·exact .inr h2.key
 exact ⟨(h.gh.OS m).mpr hl,hl⟩
theorem Ly {hs:List (Int×Int)} {m:Int} (nd:(hs.map (·.1)).Nodup) (h:m∈hs.map (·.1)):(hs.filter λ e=>decide (e.1≠m)).length+1=hs.length:=by
 induction hs with
 | nil=>cases h
 | cons e hs ih =>
   rw [List.map_cons,List.nodup_cons] at nd
   by_cases z:e.1=m
   ·have hn : ∀ x∈hs,decide (x.1≠m)=true:=λ x hx=>decide_eq_true λ w=>nd.1 (by rw [z,<-w];exact List.mem_map.mpr ⟨x,hx,rfl⟩)
    rw [List.filter_cons_of_neg (by simp [z]),List.filter_eq_self.mpr hn]
    rfl
   ·rw [List.filter_cons_of_pos (by simp [z]),List.length_cons,List.length_cons]
    rcases List.mem_cons.mp h with w | w
    ·exact absurd w.symm z
    ·have:=ih nd.2 w
     omega
theorem Lt.laid {b dx fr yY l r s di BI mk sh B3 pl rd fi B4 fd ho:Addr} (n1:1<=n) (n64:n<=64) (q6:q<=550):Lt n q (S0 b dx fr yY l r s di BI mk sh B3 pl rd fi B4 fd ho n q) [] M:=by
 have no : ∀ a,¬ BN (S0 b dx fr yY l r s di BI mk sh B3 pl rd fi B4 fd ho n q) a:=λ a ⟨i,t,h⟩=>nomatch (BJ (α := Hd) (x:=none) h)
 refine { g:=aG.laid n1 n64 q6,gh:=DF.laid,cl:=λ i t r z p row h=>absurd ⟨i,t,h⟩ (no _),nd:=List.nodup_nil,rw:=λ e he=>(nomatch he),BO:=λ a ha => ?_ }
 rcases ha with ha | ⟨row,ha⟩
 ·exact absurd ha (no a)
 ·cases a with
  | own m=>obtain ⟨b,hb⟩:=ha;exact nomatch hb
  | file z p=>obtain ⟨e,he,_⟩:=ha;exact nomatch he
end
def zb (z:Str) (rows:BZ):Ts:=rows.mapIdx λ j r=>(.file z (j:Int),r.1,r.2)
theorem BP (z:Str) (rows:BZ):(zb z rows).length=rows.length:=List.length_mapIdx
theorem Lz {z:Str} {rows:BZ} {e:Th×Addr×List Int} (h:e∈zb z rows) : ∃ (j:Nat) (r:Addr×List Int),rows[j]? = some r/\e=(.file z (j:Int),r.1,r.2):=by
 obtain ⟨j,hj⟩:=List.getElem?_of_mem h
 unfold zb at hj
 rw [List.getElem?_mapIdx] at hj
 obtain ⟨r,hr,e1⟩:=Option.map_eq_some_iff.mp hj
 exact ⟨j,r,hr,e1.symm⟩
theorem BQ {z:Str} {rows:BZ} {a:Th} : a∈(zb z rows).map (·.1) ↔ ∃ j:Nat,j < rows.length/\a = .file z (j:Int):=by
 constructor
 ·intro h
  obtain ⟨e,he,rfl⟩:=List.mem_map.mp h
  obtain ⟨j,r,hj,rfl⟩:=Lz he
  exact ⟨j,(List.getElem?_eq_some_iff.mp hj).1,rfl⟩
 ·rintro ⟨j,hj,rfl⟩
  refine List.mem_map.mpr ⟨(.file z (j:Int),rows[j].1,rows[j].2),?_,rfl⟩
  refine List.mem_of_getElem? (i:=j) ?_
  unfold zb
  rw [List.getElem?_mapIdx,List.getElem?_eq_getElem hj]
  rfl
theorem LA (z:Str) (rows:BZ):(zb z rows).map (·.1)=(List.range rows.length).map λ j:Nat=>Th.file z (j:Int):=by
 refine List.ext_getElem? λ j => ?_
 rw [List.getElem?_map,List.getElem?_map]
 unfold zb
 rw [List.getElem?_mapIdx]
 by_cases hj:j < rows.length
 ·rw [List.getElem?_eq_getElem hj,List.getElem?_range hj]
  rfl
 ·rw [List.getElem?_eq_none (by omega),List.getElem?_eq_none (by rw [List.length_range];omega)]
  rfl
theorem Rc (z:Str) (rows:BZ):((zb z rows).map (·.1)).Nodup:=by
 rw [LA]
 refine List.pairwise_iff_getElem.mpr λ i j hi hj hij e => ?_
 rw [List.getElem_map,List.getElem_map,List.getElem_range,List.getElem_range] at e
 injection e with _ e
 omega
theorem LB (z:Str) (rows:BZ) (r:Addr×List Int):zb z (rows++[r])=zb z rows++[(.file z (rows.length:Int),r.1,r.2)]:=by
 unfold zb
 rw [List.mapIdx_append]
 simp
theorem Lt.T4 {n q:Nat} {S:SS} {ts:Ts} {M M':Cells} {z:Str} {fa:Addr} {rows rows':BZ} (h:Lt n q S ts M) (OU : ∀ a,¬ BN S a) (hz:z ∉ S.fs.map (·.1)) (up : ∀ c∈M,c∈M') (Vi:TH z) (er:rows'.map (·.2)=rows.map (·.2)) (h4 : ∀ r∈rows,r.2.length=4) (c1 : ∀ r∈rows,(r.1,HO.lst (r.2.map V.int))∈M') (c2 : ∀ r∈rows',(r.1,HO.lst (r.2.map V.int))∈M'):Lt n q { S with fs:=S.fs++[(z,fa,rows')] } (ts++zb z rows) M':=by
 have T5 : ∀ a,¬ BN { S with fs:=S.fs++[(z,fa,rows')] } a:=λ a w=>OU a w
 have len:rows'.length=rows.length:=by have:=congrArg List.length er;simpa using this
 have g:=h.g.mono up
 have at' : ∀ (j:Nat) (r:Addr×List Int),rows[j]? = some r->∃ r',rows'[j]? = some (r',r.2):=λ j r hj=>by
  have h5:(rows'.map (·.2))[j]? = some r.2:=by rw [er,List.getElem?_map,hj];rfl
  rw [List.getElem?_map] at h5
  obtain ⟨x,hx,e⟩:=Option.map_eq_some_iff.mp h5
  exact ⟨x.1,by rw [hx,<-e]⟩
 have bk : ∀ a row,Back S row a->Back { S with fs:=S.fs++[(z,fa,rows')] } row a:=λ a row hb=>by
  cases a with
  | own m=>exact hb
  | file w p=>obtain ⟨e,he,e1⟩:=hb;exact ⟨e,mB he,e1⟩
 refine { g := { g with fn := ?_,fr:=λ e he r hr => ?_,ff:=λ i t z p hi=>absurd ⟨i,t,hi⟩ (OU _) },gh := { h.gh with },cl:=λ i t r z p row hi=>absurd ⟨i,t,hi⟩ (OU _),nd := ?_,rw:=λ e he => ?_,BO:=λ a ha => ?_ }
 ·show ((S.fs++[(z,fa,rows')]).map (·.1)).Nodup
  rw [List.map_append]
  refine List.nodup_append.mpr ⟨h.g.fn,by simp,λ x hx y hy e => ?_⟩
  have hy':y=z:=by simpa using hy
  exact hz (hy' ▸ e ▸ hx)
 ·rcases List.mem_append.mp he with he | he
  ·exact g.fr e he r hr
  ·have he':=List.mem_singleton.mp he
   subst he'
   refine ⟨c2 r hr,?_⟩
   have:r.2∈rows.map (·.2):=by rw [<-er];exact List.mem_map.mpr ⟨r,hr,rfl⟩
   obtain ⟨x,hx,e⟩:=List.mem_map.mp this
   rw [<-e]
   exact h4 x hx
 ·rw [List.map_append]
  refine List.nodup_append.mpr ⟨h.nd,Rc z rows,λ x hx y hy e => ?_⟩
  obtain ⟨j,_,hj⟩:=BQ.mp hy
  obtain ⟨d,hd,rfl⟩:=List.mem_map.mp hx
  have ed:d.1 = .file z (j:Int):=e.trans hj
  rcases (h.rw d hd).2.1 with ⟨i,t,r,h5,_⟩ | ⟨_,h5⟩
  ·exact OU _ ⟨i,t,h5⟩
  ·rw [ed] at h5
   obtain ⟨x,hx,x1,_⟩:=h5
   exact hz (List.mem_map.mpr ⟨x,hx,x1⟩)
 ·rcases List.mem_append.mp he with he | he
  ·obtain ⟨d1,d2,d3⟩:=h.rw e he
   refine ⟨up _ d1,?_,d3⟩
   rcases d2 with ⟨i,t,r,h5,_⟩ | ⟨_,h5⟩
   ·exact absurd ⟨i,t,h5⟩ (OU _)
   ·exact .inr ⟨T5 _,bk _ _ h5⟩
  ·obtain ⟨j,r,hj,rfl⟩:=Lz he
   obtain ⟨r',hr'⟩:=at' j r hj
   exact ⟨c1 r (List.mem_of_getElem? hj),.inr ⟨T5 _,(z,fa,rows'),mA mS,rfl,j,r',rfl,hr'⟩,Vi⟩
 ·rw [List.map_append,List.mem_append]
  rcases ha with ha | ⟨row,ha⟩
  ·exact absurd ha (OU a)
  ·cases a with
   | own m=>exact .inl (h.BO _ (.inr ⟨row,ha⟩))
   | file z2 p2 =>
     obtain ⟨e,he,e1,j,r,e2,e3⟩:=ha
     rcases List.mem_append.mp he with he | he
     ·exact .inl (h.BO _ (.inr ⟨row,e,he,e1,j,r,e2,e3⟩))
     ·have he':=List.mem_singleton.mp he
      subst he'
      have hj:=(List.getElem?_eq_some_iff.mp e3).1
      have e1':z=z2:=e1
      rw [<-e1',e2]
      exact .inr (BQ.mpr ⟨j,by rw [<-len];exact hj,rfl⟩)
end
section
variable {P:Program} {w:World} {K:PySem.W.Frag} {mg:Str->Option Value} {base:Heap} {cU cA cB cC cT cF cD cS cI:Addr}
def OV (cT cF cD cS cI:Addr):Sp:=λ vs H Q _ => ∃ (S:SS) (n q:Nat) (t:Addr) (a:Th) (row:List Int) (M:Cells),vs = [.ref S.b,.ref t]/\Led H (bh cT cF cD cS cI S M)/\aG S n q M/\(t,HO.tup (fN a))∈M/\L7 a/\cG S a row ∧ ∀ (r:Addr) (N:Cells) (H':Hp),(r,HO.lst (row.map V.int))∈N->Led H' (bh cT cF cD cS cI S (N++M))->Q (.ref r) H'
theorem Rf (D:Def K mg "row_now" gD) (B:iK mg) (T:Txt K mg cU cA cB cC cT cF cD cS cI) (aQ:aI P w K mg base 1 cF "where" ["self","thing"] (gv cF)) (cQ:aI P w K mg base 1 cF "row_in" ["self","frame"] (t9 cF)) (k7:aI P w K mg base 1 cS "row_of_sheet" ["self","sheet"] (Gw cS)) (gT:aI P w K mg base 4 cI "row_at" ["self","name","page"] (BK cI cA cB)) (dZ:bX P w K mg base 1 "is_sheet" ["thing"] jd):bX P w K mg base 5 "row_now" ["store","thing"] (OV cT cF cD cS cI):=by
 have sc:=uU
 refine D.ok uU (λ vs H Q E h => ?_) (λ _ _ _ _ _ _ us hl=>match us,hl with | [_,_],_=>rfl) (λ f cdv A outer s H vs Q E hr h => ?_)
 ·obtain ⟨_,_,_,_,_,_,_,rfl,_⟩:=h;rfl
 ·obtain ⟨S,n,q,t,a,row,M,rfl,hL,g,uc,OP,tU,k⟩:=h
  have n64:=g.n64
  have f1:=fB S
  have f3:=qS S
  have f4:=BF S
  have je:=hL.get St.b
  have yW:=hL.get (St.up uc)
  have hF:=St.toF hL
  have tT:=hF.get mS
  refine ⟨_,(@ah _ _ _ _ _ (@aJ _ _ 2 _ _ _ _ sc.nd rfl (by walk_at "o2") (@aK _ _ _ _ _ _ _ _ _ _ _ _ _ _ _ _ T.Frames aQ (hr.mono (by omega)) aB (@av _ _ _ _ _ _ _ T.aW T.bu (@ao _ 0 _ _ (by walk_at "v")) (by rfl)) (@aa _ _ _ _ _ (@ao _ 1 _ _ (by walk_at "v")) (@ai _) (by rfl)) (by rfl) (by rfl) (by rfl)) (by rfl) (by walk_at "o4")) (@ah _ _ _ _ _ (@aR _ _ _ _ _ _ _ _ (@aX _ _ _ _ _ _ _ _ zV (@ao _ 2 _ _ (by walk_at "v")) (@dP _ _ _) (bf _)) (@ak _ _ _ (@aC _ _ _ _ (@aK _ _ _ _ _ _ _ _ _ _ _ _ _ _ _ _ T.Frames cQ (hr.mono (by omega)) aB (@av _ _ _ _ _ _ _ T.aW T.bu (@ao _ 0 _ _ (by walk_at "v")) (by rfl)) (@aa _ _ _ _ _ (@ao _ 2 _ _ (by walk_at "v")) (@ai _) (by rfl)) (by rfl) (by rfl) (by rfl)))) (@aE _)) (@ah _ _ _ _ _ (@aR _ _ _ _ _ _ _ _ (@aY _ _ _ (@az _ _ _ _ _ _ _ _ _ _ _ dZ (hr.mono (by omega)) (by rfl) aB (@aa _ _ _ _ _ (@ao _ 1 _ _ (by walk_at "v")) (@ai _) (by rfl)) (by decide) (by rfl) (by rfl)) (by intro _;rfl)) (@ak _ _ _ (@aC _ _ _ _ (@aK _ _ _ _ _ _ _ _ _ _ _ _ _ _ _ _ T.eL k7 (hr.mono (by omega)) aB (@av _ _ _ _ _ _ _ T.aW T.jn (@ao _ 0 _ _ (by walk_at "v")) (by rfl)) (@aa _ _ _ _ _ (@bB _ _ _ _ _ _ _ aU (@ao _ 1 _ _ (by walk_at "v")) (@aj _ _ _ _) (λ _ _=>rfl)) (@ai _) (by rfl)) (by rfl) (by rfl) (by rfl)))) (@aE _)) (@ak _ _ _ (@aC _ _ _ _ (@aK _ _ _ _ _ _ _ _ _ _ _ _ _ _ _ _ T.gb gT (hr.mono (by omega)) aB (@av _ _ _ _ _ _ _ T.aW T.ou (@ao _ 0 _ _ (by walk_at "v")) (by rfl)) (@aa _ _ _ _ _ (@bB _ _ _ _ _ _ _ aU (@ao _ 1 _ _ (by walk_at "v")) (@aj _ _ _ _) (λ _ _=>rfl)) (@aa _ _ _ _ _ (@bB _ _ _ _ _ _ _ aU (@ao _ 1 _ _ (by walk_at "v")) (@aj _ _ _ _) (λ _ _=>rfl)) (@ai _) (by rfl)) (by rfl)) (by rfl) (by rfl) (by rfl))))))),?_⟩
  refine aD λ M1 K1 => ?_
  walk_at "ge"
  refine ⟨S.F,n,some (t,a),_,rfl,hF,g.f.mono (λ c hc=>eB hc),λ t' a' e => ?_,by omega,λ hno => ?_,λ j y h1 h2 _ => ?_⟩
  ·cases e
   exact ⟨eB uc,OP⟩
  ·have hb:Back S row a:=by
    rcases tU with ⟨j,u,r,h,_⟩ | ⟨_,hb⟩
    ·exact (hno (some (u,a)) (List.mem_of_getElem? h) rfl).elim
    ·exact hb
   walk_at "ge"
   refine K1.use ?_
   walk_at "cl"
   clear K1
   refine aD λ M1 K1 => ?_
   walk_at "ge"
   ·exact absurd (rfl:V.aH=V.aH) (by assumption)
   refine K1.use ?_
   walk_at "cl"
   clear K1 hF tT hno
   refine aD λ M1 K1 => ?_
   walk_at "ge"
   refine ⟨t,a,rfl,yW,λ m e => ?_,λ z p e => ?_⟩
   ·subst e
    have DB:H t=some (.tup [.str (Str.ofString "own"),.int m]):=yW
    obtain ⟨b,hb⟩:=hb
    have hS:=St.toS hL
    have Nn:=hS.get Nh
    walk_at "ge"
    refine ⟨S.sb,S.IM,S.sl,S.sd,S.ps,S.es,(m,b,row),_,rfl,hS,g.nd,hb,λ qr H2 hl2 => ?_⟩
    have hl3:Led H2 (bh cT cF cD cS cI S ([(qr,HO.lst (row.map V.int))]++M)):=St.Vf (S:=S) (N:=[(qr,HO.lst (row.map V.int))]) (Led.perm hl2 List.perm_middle.symm)
    walk_at "ge"
    exact k qr _ H2 mS hl3
   ·subst e
    have DB:H t=some (.tup [.str (Str.ofString "file"),.str z,.int p]):=yW
    obtain ⟨e,he,e1,j,r,e2,e3⟩:=hb
    have hI:=St.TQ hL
    have TV:=hI.get mS
    have hj:j < e.2.2.length:=(List.getElem?_eq_some_iff.mp e3).1
    have uniq : ∀ e'∈S.fs,e'.1=z->e' = e:=λ e' he' h=>by
     have h3:=findF g.fn he
     have h5:=findF g.fn he'
     rw [h,<-e1] at h5
     exact Option.some.inj (h5.symm.trans h3)
    walk_at "ge"
    refine K1.use ?_
    walk_at "cl"
    clear K1
    walk_at "ge"
    refine ⟨S.ib,S.ix,S.im,S.fs,z,p,_,rfl,hL,FH.of hI g.fn,λ x hx y hy=>⟨hL.get (St.up (g.fr x hx y hy).1),by rw [(g.fr x hx y hy).2];decide⟩,λ e' he' xg j' r' hp hr' qr H2 hl2 => ?_,λ e' he' xg hn=>absurd ?_ hn,λ hz=>absurd (List.mem_map.mpr ⟨e,he,e1⟩) hz⟩
    ·have ee:=uniq e' he' xg
     subst ee
     have hjj:j' = j:=by omega
     subst hjj
     rw [e3] at hr'
     cases hr'
     walk_at "ge"
     exact k qr [(qr,HO.lst (row.map V.int))] H2 List.mem_cons_self (St.push hl2)
    ·rw [uniq e' he' xg,e2]
     exact ⟨by omega,by exact_mod_cast hj⟩
  ·have hy : ∃ u,S.F.hs[j]? = some (some (u,a)):=by
    cases y with
    | none=>cases h2
    | some y=>exact ⟨y.1,by rw [h1,<-show y.2=a from Option.some.inj h2]⟩
   obtain ⟨u,hu⟩:=hy
   have hrs : ∃ r,S.F.rs[j]? = some (some (r,row)):=by
    rcases tU with ⟨j',u',r,h3,h4⟩ | ⟨h3,_⟩
    ·have:=g.inj j j' u u' a hu h3
     subst this
     exact ⟨r,h4⟩
    ·exact absurd ⟨j,u,hu⟩ h3
   obtain ⟨r,hrs⟩:=hrs
   have h4:=cG.len g tU
   walk_at "ge"
   refine K1.use ?_
   walk_at "cl"
   clear K1
   refine aD λ M1 K1 => ?_
   walk_at "ge"
   all_goals first | exact nomatch (show V.int (j:Nat)=V.aH by assumption) | skip
   refine ⟨S.F,j,r,row,_,rfl,hF,hrs,eB (g.f.rw r row (List.mem_of_getElem? hrs)),by omega,λ qr H2 hl2 => ?_⟩
   have hl3:Led H2 ((qr,HO.lst (row.map V.int))::bh cT cF cD cS cI S M):=Led.perm hl2 (List.Perm.cons _ (aF (pH cF S.F) (zI cT S) (FF cD S++(FG cS S++(Dy cI S++M)))))
   walk_at "ge"
   exact k qr [(qr,_)] H2 List.mem_cons_self (St.push hl3)
end
section
variable {P:Program} {w:World} {K:PySem.W.Frag} {mg:Str->Option Value} {base:Heap} {cU cA cB cC cT cF cD cS cI:Addr}
theorem aG.only {S:SS} {n q i:Nat} {M:Cells} {t x:Addr} {a:Th} (g:aG S n q M) (hi:S.F.hs[i]? = some (some (t,a))):(∀ y∈S.F.hs,nK y≠nK (some (x,a)))->False:=λ h=>h _ (List.mem_of_getElem? hi) rfl
theorem aG.GI {S:SS} {n q i j:Nat} {M:Cells} {t:Addr} {a:Th} {y:Hd} {x:Addr} (g:aG S n q M) (hi:S.F.hs[i]? = some (some (t,a))) (hj:S.F.hs[j]? = some y) (e:nK y=nK (some (x,a))):j=i:=by
 cases y with
 | none=>cases e
 | some y=>exact (g.inj i j t y.1 a hi (by rw [hj,<-show y.2=a from Option.some.inj e])).symm
theorem LC {S:SS} {n q:Nat} {M:Cells} {a:Th} (g:aG S n q M) (h:true∈gw S):true∈gw (My.gone S a):=by
 obtain ⟨j,hj⟩:=List.getElem?_of_mem h
 have hj2:=hj
 unfold gw at hj2
 rw [List.getElem?_map] at hj2
 obtain ⟨x,hx,e⟩:=Option.map_eq_some_iff.mp hj2
 cases x with
 | none=>cases e
 | some y =>
   have e':(qT y.2 || nX .aH S.ps)=true:=e
   have eF:=(qU S a).2.1
   have hm:=pK (S:=My.gone S a) (i:=j) (t:=y.1) (a:=y.2) (by rw [eF];exact hx)
   have ht:(qT y.2 || nX .aH (My.gone S a).ps)=true:=by
    cases a with
    | file z p=>exact e'
    | own m =>
      rcases Bool.or_eq_true_iff.mp e' with e1 | e1
      ·rw [e1];rfl
      ·have hat:=g.K7 e1
       have hin:V.aH∈S.ps.set (idx S.ps (.int m)) .aH:=by
        refine List.mem_of_getElem? (i:=idx S.ps .aH) ?_
        rw [List.getElem?_set]
        split
        ·rw [if_pos (by have:=(List.getElem?_eq_some_iff.mp hat).1;omega)]
        ·exact hat
       have:nX .aH (My.gone S (.own m)).ps=true:=List.any_eq_true.mpr ⟨.aH,hin,rfl⟩
       rw [this,Bool.or_true]
   rw [ht] at hm
   exact List.mem_of_getElem? hm
def qW (cT cF cD cS cI:Addr):Sp:=λ vs H Q _ => ∃ (S:SS) (n q:Nat) (t:Addr) (a:Th) (ts:Ts) (X M:Cells),vs = [.ref S.b,.ref t]/\Led H (bh cT cF cD cS cI S (X++M))/\Lt n q S ts M/\(t,HO.tup (fN a))∈M/\a∈ts.map (·.1) ∧
 ∀ (S':SS) (i:Nat) (u:Addr) (N:Cells) (H':Hp),S'.b=S.b->S'.hs=S.hs->S'.made=S.made->S'.F.hs[i]? = some (some (u,a))->Lt n q S' ts (N++M)->Led H' (bh cT cF cD cS cI S' (X++(N++M)))->Q (.int (i:Nat)) H'
theorem DH (D:Def K mg "_law_frame_of" dM) (B:iK mg) (T:Txt K mg cU cA cB cC cT cF cD cS cI) (aQ:aI P w K mg base 1 cF "where" ["self","thing"] (gv cF)) (NO:bX P w K mg base 7 "bring" ["store","thing"] (GD cT cF cD cS cI)) (cO:bX P w K mg base 1 "_law_whole" ["_law_found"] ua) (aM:bX P w K mg base 4 "_law_alike" ["_law_found","_law_due"] (jt 2)):bX P w K mg base 8 "_law_frame_of" ["_law_store","_law_thing"] (qW cT cF cD cS cI):=by
 have sc:=l8
 refine D.ok l8 (λ vs H Q E h => ?_) (λ _ _ _ _ _ _ us hl=>match us,hl with | [_,_],_=>rfl) (λ f cdv A outer s H vs Q E hr h => ?_)
 ·obtain ⟨_,_,_,_,_,_,_,_,rfl,_⟩:=h;rfl
 ·obtain ⟨S,n,q,t,a,ts,X,M,rfl,hL,lt,uc,hk,k⟩:=h
  have n64:=lt.g.n64
  obtain ⟨e,he,ea⟩:=List.mem_map.mp hk
  have ea':e.1=a:=ea
  obtain ⟨ie,rat,Vj⟩:=lt.rw e he
  rw [ea'] at rat Vj
  refine ⟨_,(@ah _ _ _ _ _ (@aJ _ _ 2 _ _ _ _ sc.nd rfl (by walk_at "o2") (@az _ _ _ _ _ _ _ _ _ _ _ NO (hr.mono (by omega)) (by rfl) aB (@aa _ _ _ _ _ (@ao _ 0 _ _ (by walk_at "v")) (@aa _ _ _ _ _ (@ao _ 1 _ _ (by walk_at "v")) (@ai _) (by rfl)) (by rfl)) (by decide) (by rfl) (by rfl)) (by rfl) (by walk_at "o4")) (@ah _ _ _ _ _ (@aR _ _ _ _ _ _ _ _ (@PW.pt _ _ _ (@pw_or _ _ _ _ _ _ _ (@b9 _ _ _ _ (@aY _ _ _ (@aL _ _ _ _ _ _ _ _ _ bJ (by rfl) B.isinstance aO (@aa _ _ _ _ _ (@ao _ 2 _ _ (by walk_at "v")) (@aa _ _ _ _ _ (@dj _ _ (.ty "tuple") _ _ (by rfl) B.tuple nY rfl (by decide) (by decide)) (@ai _) (by rfl)) (by rfl)) (by decide) (by decide) (by rfl) (by rfl)) (by intro _;rfl))) (@pw_or _ _ _ _ _ _ _ (@aX _ _ _ _ _ _ _ _ F9 (@aL _ _ _ _ _ _ _ _ _ bD (by rfl) B.len dX (@aa _ _ _ _ _ (@ao _ 2 _ _ (by walk_at "v")) (@ai _) (by rfl)) (by decide) (by decide) (by rfl) (by rfl)) (@aj _ _ _ _) (bf _)) (@pw_or1 _ _ _ _ (@b9 _ _ _ _ (@aY _ _ _ (@aL _ _ _ _ _ _ _ _ _ bJ (by rfl) B.isinstance aO (@aa _ _ _ _ _ (@bB _ _ _ _ _ _ _ aU (@ao _ 2 _ _ (by walk_at "v")) (@aj _ _ _ _) (λ _ _=>rfl)) (@aa _ _ _ _ _ (@dj _ _ (.ty "bool") _ _ (by rfl) B.bool tZ rfl (by decide) (by decide)) (@ai _) (by rfl)) (by rfl)) (by decide) (by decide) (by rfl) (by rfl)) (by intro _;rfl))))))) (@ak _ _ _ (@aC _ _ _ _ (@F5 _ _ _ _ _ _ zU (@aj _ _ _ _)))) (@aE _)) (@ah _ _ _ _ _ (@aR _ _ _ _ _ _ _ _ (@PW.pt _ _ _ (@pw_or _ _ _ _ _ _ _ (@b9 _ _ _ _ (@aY _ _ _ (@az _ _ _ _ _ _ _ _ _ _ _ cO (hr.mono (by omega)) (by rfl) aB (@aa _ _ _ _ _ (@bB _ _ _ _ _ _ _ aU (@ao _ 2 _ _ (by walk_at "v")) (@aj _ _ _ _) (λ _ _=>rfl)) (@ai _) (by rfl)) (by decide) (by rfl) (by rfl)) (by intro _;rfl))) (@pw_or1 _ _ _ _ (@b9 _ _ _ _ (@aY _ _ _ (@az _ _ _ _ _ _ _ _ _ _ _ aM (hr.mono (by omega)) (by rfl) aB (@aa _ _ _ _ _ (@aK _ _ _ _ _ _ _ _ _ _ _ _ _ _ _ _ T.Frames aQ (hr.mono (by omega)) aB (@av _ _ _ _ _ _ _ T.aW T.bu (@ao _ 0 _ _ (by walk_at "v")) (by rfl)) (@aa _ _ _ _ _ (@ao _ 1 _ _ (by walk_at "v")) (@ai _) (by rfl)) (by rfl) (by rfl) (by rfl)) (@aa _ _ _ _ _ (@bB _ _ _ _ _ _ _ aU (@ao _ 2 _ _ (by walk_at "v")) (@aj _ _ _ _) (λ _ _=>rfl)) (@ai _) (by rfl)) (by rfl)) (by decide) (by rfl) (by rfl)) (by intro _;rfl)))))) (@ak _ _ _ (@aC _ _ _ _ (@F5 _ _ _ _ _ _ zU (@aj _ _ _ _)))) (@aE _)) (@ak _ _ _ (@aC _ _ _ _ (@bB _ _ _ _ _ _ _ aU (@ao _ 2 _ _ (by walk_at "v")) (@aj _ _ _ _) (λ _ _=>rfl))))))),?_⟩
  refine aD λ M1 K1 => ?_
  have rest : ∀ (S':SS) (i:Nat) (b:Bool) (u p:Addr) (N:Cells) (H':Hp),S'.b=S.b->S'.hs=S.hs->S'.made=S.made->S'.F.hs[i]? = some (some (u,a))->Lt n q S' ts (N++M)->(p,HO.tup [.int (i:Nat),.bl b])∈N->Led H' (bh cT cF cD cS cI S' (X++(N++M)))->M1 [some (.ref S.b),some (.ref t),some (.ref p)] H':=by
   intro S' i b u p N H' e1 e2 e3 hi lt' OW hl
   refine K1.use ?_
   clear K1
   have K9:=hl.get (St.up (mA (mB OW)))
   refine aD λ M1 K1 => ?_
   walk_at "ge"
   all_goals first | (exfalso;exact absurd rfl (by assumption)) | skip
   refine K1.use ?_
   walk_at "cl"
   clear K1
   rw [<-e1]
   have f1:=fB S'
   have je:=hl.get St.b
   have hF:=St.toF hl
   have tT:=hF.get mS
   refine aD λ M1 K1 => ?_
   walk_at "ge"
   refine ⟨_,rfl,?_⟩
   walk_at "ge"
   refine ⟨S'.F,n,some (t,a),_,rfl,hF,lt'.g.f.mono (λ c hc=>eB (mA hc)),λ t' a' e => ?_,by omega,λ hno=>(lt'.g.only hi hno).elim,λ j y h1 h2 _ => ?_⟩
   ·cases e
    exact ⟨eB (mA (mA uc)),Vj⟩
   have hj:=lt'.g.GI hi h1 h2
   subst hj
   walk_at "ge"
   refine ⟨_,_,rfl,.inl (.inr (.inr (.inl ⟨_,rfl,rfl⟩))),?_⟩
   walk_at "ge"
   refine K1.use ?_
   walk_at "ge"
   exact k S' j u N H' e1 e2 e3 hi lt' hl
  walk_at "ge"
  refine ⟨S,n,q,t,a,X++M,rfl,hL,lt.g.mono (λ c hc=>mA hc),mA uc,Vj,λ hnf => ?_,λ hall hno => ?_,λ j u p N H' hj OW hl => ?_,λ hnf row i S1 r p N H' hb hH rP OW hl => ?_⟩
  ·rcases rat with ⟨j,u,r,h1,_⟩ | ⟨_,hb⟩
   ·exact absurd h1 (hnf j u)
   ·exact ⟨_,hb⟩
  ·exact lt.gh.zK lt.g hall λ ht=>hno (LC lt.g ht)
  ·walk_at "ge"
   exact rest S j false u p N H' rfl rfl rfl hj (lt.mono λ c hc=>mA hc) OW (St.gU hl (aF N X M))
  ·have aaH : ¬ BN S a:=λ ⟨j,u,hj⟩=>hnf j u hj
   obtain ⟨h0,e1,e2,e3,_⟩:=hH.at
   obtain ⟨eb,eF,Nx,Q5,efs,ep,ebs⟩:=qU S a
   have hlt:i < S1.F.hs.length:=(List.getElem?_eq_some_iff.mp h0).1
   walk_at "ge"
   exact rest { S1 with F:=S1.F.fill i (some (t,a)) (some (r,row)) false } i true t p N H' (e3.trans eb) (e1.trans Nx) (e2.trans Q5) (by show (S1.F.hs.set i _)[i]? = _;rw [List.getElem?_set,if_pos rfl,if_pos hlt]) (lt.NL aaH hb Vj hH (mA uc) (mB rP)) OW (St.gU hl (aF N X M))
end
section
variable {P:Program} {w:World} {K:PySem.W.Frag} {mg:Str->Option Value} {base:Heap} {cU cA cB cC cT cF cD cS cI:Addr}
def BR (cT cF cD cS cI:Addr):Sp:=λ vs H Q _ => ∃ (S:SS) (n q:Nat) (rd r0:Addr) (row:List Int) (ts:Ts) (M:Cells),vs = [.ref S.b,.ref rd,.int (S.made+1),.ref r0]/\Led H (bh cT cF cD cS cI S ([(rd,HO.dT (cX ts))]++M))/\Lt n q S ts M/\(r0,HO.lst (row.map V.int))∈M/\row.length=4/\ts.length<=1000/\S.hs.length<=600/\(n:Int) - 1+(q:Int) - (S.hs.length:Int)≠0 ∧
 ∀ (S':SS) (N:Cells) (H':Hp),S'.b=S.b->S'.hs=S.hs++[(S.made+1,1)]->S'.made=S.made+1->Lt n q S' (ts++[(.own (S.made+1),r0,row)]) (N++M)->Led H' (bh cT cF cD cS cI S' ([(rd,HO.dT (cX (ts++[(.own (S.made+1),r0,row)])))]++(N++M)))->Q (.bl true) H'
theorem LD (D:Def K mg "_law_made" i7) (B:iK mg) (T:Txt K mg cU cA cB cC cT cF cD cS cI) (aQ:aI P w K mg base 1 cF "where" ["self","thing"] (gv cF)) (k8:bX P w K mg base 7 "new_sheet" ["store","row"] (Le cT cF cD cS cI cU)) (aM:bX P w K mg base 4 "_law_alike" ["_law_found","_law_due"] (jt 2)):bX P w K mg base 8 "_law_made" ["_law_store","_law_rows","_law_sheet","_law_row_here"] (BR cT cF cD cS cI):=by
 have sc:=zD
 refine D.ok zD (λ vs H Q E h => ?_) (λ _ _ _ _ _ _ us hl=>match us,hl with | [_,_,_,_],_=>rfl) (λ f cdv A outer s H vs Q E hr h => ?_)
 ·obtain ⟨_,_,_,_,_,_,_,_,rfl,_⟩:=h;rfl
 ·obtain ⟨S,n,q,rd,r0,row,ts,M,rfl,hL,lt,i_0,h4,hts,Nd,hroom,k⟩:=h
  have hu:=gi hr
  have hsz:=sizeLine_eq
  have n64:=lt.g.n64
  have c_0:=hL.get (St.up (mC i_0))
  refine ⟨_,(@ah _ _ _ _ _ (@aJ _ _ 4 _ _ _ _ sc.nd rfl (by walk_at "o2") (@az _ _ _ _ _ _ _ _ _ _ _ k8 (hr.mono (by omega)) (by rfl) aB (@aa _ _ _ _ _ (@ao _ 0 _ _ (by walk_at "v")) (@aa _ _ _ _ _ (@bw _ _ _ _ _ _ _ _ _ (aP (K:=K) rfl) (by rfl) B.list bZ (@aa _ _ _ _ _ (@ao _ 3 _ _ (by walk_at "v")) (@ai _) (by rfl)) (by decide) (by decide) (by rfl) (by rfl)) (@ai _) (by rfl)) (by rfl)) (by decide) (by rfl) (by rfl)) (by rfl) (by walk_at "o4")) (@ah _ _ _ _ _ (@aR _ _ _ _ _ _ _ _ (@PW.pt _ _ _ (@pw_or _ _ _ _ _ _ _ (@b9 _ _ _ _ (@aY _ _ _ (@aL _ _ _ _ _ _ _ _ _ bJ (by rfl) B.isinstance aO (@aa _ _ _ _ _ (@ao _ 4 _ _ (by walk_at "v")) (@aa _ _ _ _ _ (@dj _ _ (.ty "tuple") _ _ (by rfl) B.tuple nY rfl (by decide) (by decide)) (@ai _) (by rfl)) (by rfl)) (by decide) (by decide) (by rfl) (by rfl)) (by intro _;rfl))) (@pw_or _ _ _ _ _ _ _ (@aX _ _ _ _ _ _ _ _ F9 (@aL _ _ _ _ _ _ _ _ _ bD (by rfl) B.len dX (@aa _ _ _ _ _ (@ao _ 4 _ _ (by walk_at "v")) (@ai _) (by rfl)) (by decide) (by decide) (by rfl) (by rfl)) (@aj _ _ _ _) (bf _)) (@pw_or1 _ _ _ _ (@b9 _ _ _ _ (@aY _ _ _ (@az _ _ _ _ _ _ _ _ _ _ _ aM (hr.mono (by omega)) (by rfl) aB (@aa _ _ _ _ _ (@bB _ _ _ _ _ _ _ aU (@ao _ 4 _ _ (by walk_at "v")) (@aj _ _ _ _) (λ _ _=>rfl)) (@aa _ _ _ _ _ (@ao _ 2 _ _ (by walk_at "v")) (@ai _) (by rfl)) (by rfl)) (by decide) (by rfl) (by rfl)) (by intro _;rfl))))))) (@ak _ _ _ (@aC _ _ _ _ (@bY _ _ _ _))) (@aE _)) (@ah _ _ _ _ _ (@ji _ _ _ _ _ _ _ _ _ hu (@ao _ 1 _ _ (by walk_at "v")) (@fj _ _ _ _ _ (@aa _ _ _ _ _ (@dU _ _ _ _) (@aa _ _ _ _ _ (@ao _ 2 _ _ (by walk_at "v")) (@ai _) (by rfl)) (by rfl))) (@ao _ 3 _ _ (by walk_at "v")) rfl) (@ak _ _ _ (@aC _ _ _ _ (@az _ _ _ _ _ _ _ _ _ _ _ aM (hr.mono (by omega)) (by rfl) aB (@aa _ _ _ _ _ (@aK _ _ _ _ _ _ _ _ _ _ _ _ _ _ _ _ T.Frames aQ (hr.mono (by omega)) aB (@av _ _ _ _ _ _ _ T.aW T.bu (@ao _ 0 _ _ (by walk_at "v")) (by rfl)) (@aa _ _ _ _ _ (@fj _ _ _ _ _ (@aa _ _ _ _ _ (@dU _ _ _ _) (@aa _ _ _ _ _ (@ao _ 2 _ _ (by walk_at "v")) (@ai _) (by rfl)) (by rfl))) (@ai _) (by rfl)) (by rfl) (by rfl) (by rfl)) (@aa _ _ _ _ _ (@bB _ _ _ _ _ _ _ aU (@ao _ 4 _ _ (by walk_at "v")) (@aj _ _ _ _) (λ _ _=>rfl)) (@ai _) (by rfl)) (by rfl)) (by decide) (by rfl) (by rfl))))))),?_⟩
  refine aD λ M1 K1 => ?_
  walk_at "ge"
  rename_i hd H1 _ hl1 _
  have hl2:=St.push hl1
  clear hL c_0 hl1
  refine ⟨S,n,q,hd,row,_,rfl,hl2,lt.g.mono (λ x hx=>mC (mA hx)),mS,h4,Nd,lt.gh.fresh,lt.gh.key,λ h=>absurd h hroom,λ _ hall hno=>lt.gh.zK lt.g hall hno,λ _ i S1 t r p N H3 hH uc rP g2 OW c8 => ?_⟩
  clear g2 hl2
  obtain ⟨h0,Nx,Q5,eb,eho⟩:=hH.at
  have hlt:i < S1.F.hs.length:=(List.getElem?_eq_some_iff.mp h0).1
  obtain ⟨S2,zJ⟩ : ∃ S2:SS,S2 = { S1 with made:=S.made+1,hs:=S.hs++[(S.made+1,1)],F:=S1.F.fill i (some (t,.own (S.made+1))) (some (r,row)) false } := ⟨_,rfl⟩
  rw [<-zJ] at c8
  have eb2:S2.b=S.b:=by rw [zJ];exact eb
  have hi2:S2.F.hs[i]? = some (some (t,.own (S.made+1))):=by
   rw [zJ]
   show (S1.F.hs.set i _)[i]? = _
   rw [List.getElem?_set,if_pos rfl,if_pos hlt]
  have K9:=c8.get (St.up (mB OW))
  walk_at "ge"
  refine K1.use ?_
  walk_at "cl"
  clear K1
  refine aD λ M1 K1 => ?_
  walk_at "ge"
  all_goals first | (exfalso;exact absurd rfl (by assumption)) | skip
  refine ⟨_,_,rfl,.inl (.inr (.inr (.inl ⟨_,rfl,rfl⟩))),?_⟩
  walk_at "ge"
  refine K1.use ?_
  walk_at "cl"
  clear K1
  refine aD λ M1 K1 => ?_
  walk_at "ge"
  rename_i t3 H4 _ dh _
  obtain ⟨M3,Vk⟩ : ∃ M3:Cells,N++((hd,HO.lst (row.map V.int))::M)=M3:=⟨_,rfl⟩
  have fW:Led H4 ([(rd,HO.dT (cX ts))]++bh cT cF cD cS cI S2 ([(t3,HO.tup (fN (.own (S.made+1))))]++M3)):=by
   have h5:=St.push dh
   have h6:Led H4 (bh cT cF cD cS cI S2 (([(t3,HO.tup (fN (.own (S.made+1))))]++N++[(hd,HO.lst (row.map V.int))])++([(rd,HO.dT (cX ts))]++M))):=by
    have e5:([(t3,HO.tup (fN (.own (S.made+1))))]++N++[(hd,HO.lst (row.map V.int))])++([(rd,HO.dT (cX ts))]++M)=(t3,HO.tup (fN (.own (S.made+1))))::(N++((hd,HO.lst (row.map V.int))::([(rd,HO.dT (cX ts))]++M))):=by simp
    rw [e5]
    exact h5
   have h7:=St.GH _ _ h6
   have e6:([(t3,HO.tup (fN (.own (S.made+1))))]++N++[(hd,HO.lst (row.map V.int))])++M = [(t3,HO.tup (fN (.own (S.made+1))))]++M3:=by rw [<-Vk];simp
   rw [e6] at h7
   exact h7
  clear c8 dh K9
  have nL:=fW.get mS
  have yW:H4 t3=some (.tup ((jx (.own (S.made+1))).map kV)):=by rw [rT];exact fW.get (mA (St.up mS))
  refine Lu nL yW (by rw [ue];omega) ?_
  rw [GF r0 row lt.fresh]
  obtain ⟨IC,Vl⟩ : ∃ IC,ts++[(Th.own (S.made+1),r0,row)]=IC:=⟨_,rfl⟩
  rw [Vl] at k ⊢
  have jW:Led (upd H4 rd (.dT (cX IC))) ([(rd,HO.dT (cX IC))]++bh cT cF cD cS cI S2 ([(t3,HO.tup (fN (.own (S.made+1))))]++M3)):=fW.r9 0 rfl rfl rfl
  generalize upd H4 rd (.dT (cX IC))=H5 at jW ⊢
  clear fW nL yW
  walk_at "ge"
  refine K1.use ?_
  walk_at "cl"
  clear K1
  have wN:=Lt.Li (t:=t) (r:=r) (d:=r0) (lt.mono (M':=(hd,HO.lst (row.map V.int))::M) λ x hx=>mC hx) hroom h4 hH (mB uc) (mB rP) (mA (mC i_0))
  rw [<-zJ,Vl,Vk] at wN
  have qQ:=St.rV _ jW
  clear jW
  rw [<-eb2]
  have f1:=fB S2
  have je:=qQ.get St.b
  have T6:(p,HO.tup [.int (S.made+1),.int (i:Nat)])∈M3:=by rw [<-Vk];exact mB OW
  have K9:=qQ.get (St.up (mA (mA T6)))
  have hF:=St.toF qQ
  have tT:=hF.get mS
  walk_at "ge"
  rename_i t4 H6 _ nE _
  have gY:Led H6 (bh cT cF cD cS cI S2 ([(t4,HO.tup (fN (.own (S.made+1))))]++([(rd,HO.dT (cX IC))]++([(t3,HO.tup (fN (.own (S.made+1))))]++M3)))):=St.push (Led.perm nE (List.Perm.cons _ (aF (pH cF S2.F) (zI cT S2) _)))
  have hF2:=St.toF gY
  clear qQ hF tT K9 je nE
  have K9:=gY.get (St.up (mA (mA (mA T6))))
  refine ⟨S2.F,n,some (t4,.own (S.made+1)),_,rfl,hF2,wN.g.f.mono (λ c hc=>eB (mA (mA (mA hc)))),λ t' a' e => ?_,by omega,λ hno=>(wN.g.only hi2 hno).elim,λ j y h1 h2 _ => ?_⟩
  ·cases e
   exact ⟨eB mS,True.intro⟩
  have hj:=wN.g.GI hi2 h1 h2
  subst hj
  walk_at "ge"
  refine ⟨_,_,rfl,.inl (.inr (.inr (.inl ⟨_,rfl,rfl⟩))),?_⟩
  walk_at "ge"
  obtain ⟨N9,Vm⟩ : ∃ N9:Cells,[(t4,HO.tup (fN (.own (S.made+1))))]++([(t3,HO.tup (fN (.own (S.made+1))))]++(N++[(hd,HO.lst (row.map V.int))]))=N9:=⟨_,rfl⟩
  have e9:N9++M = [(t4,HO.tup (fN (.own (S.made+1))))]++([(t3,HO.tup (fN (.own (S.made+1))))]++M3):=by rw [<-Vm,<-Vk];simp
  refine k S2 N9 H6 eb2 (by rw [zJ]) (by rw [zJ]) (by rw [e9];exact wN.mono λ x hx=>mA (mA hx)) ?_
  rw [e9]
  exact St.gU gY (aF _ _ _)
def FY (cT cF cD cS cI:Addr):Sp:=λ vs H Q _ => ∃ (S:SS) (n q:Nat) (r0:Addr) (row:List Int) (M:Cells),vs = [.ref S.b,.ref r0]/\Led H (bh cT cF cD cS cI S M)/\aG S n q M/\DF S n q/\(r0,HO.lst (row.map V.int))∈M/\row.length=4/\S.hs.length<=600/\(n:Int) - 1+(q:Int) - (S.hs.length:Int)=0 ∧ ∀ (N:Cells) (H':Hp),Led H' (bh cT cF cD cS cI S (N++M))->Q (.bl true) H'
theorem NP (D:Def K mg "_law_refused" eo) (B:iK mg) (T:Txt K mg cU cA cB cC cT cF cD cS cI) (k8:bX P w K mg base 7 "new_sheet" ["store","row"] (Le cT cF cD cS cI cU)):bX P w K mg base 8 "_law_refused" ["_law_store","_law_row_here"] (FY cT cF cD cS cI):=by
 refine D.ok om (λ vs H Q E h => ?_) (λ _ _ _ _ _ _ us hl=>match us,hl with | [_,_],_=>rfl) (λ f cdv A outer s H vs Q E hr h => ?_)
 ·obtain ⟨_,_,_,_,_,_,rfl,_⟩:=h;rfl
 ·obtain ⟨S,n,q,r0,row,M,rfl,hL,g,gh,rP,h4,hh,h0,k⟩:=h
  have sc:=om
  refine ⟨_,(@ah _ _ _ _ _ (@aJ _ _ 2 _ _ _ _ sc.nd rfl (by walk_at "o2") (@bY _ _ _ _) (by rfl) (by walk_at "o4")) (@ah _ _ _ _ _ (@MC _ _ _ _ _ _ _ _ _ _ _ rfl rfl (@JJ _ _ _ (@JK _ _ _ _ (@G9 _ _ _ _ _ _ _ _ _ _ k8 (hr.mono (by omega)) (by rfl) (@aa _ _ _ _ _ (@ao _ 0 _ _ (by walk_at "v")) (@aa _ _ _ _ _ (@ao _ 1 _ _ (by walk_at "v")) (@ai _) (by rfl)) (by rfl)) (by decide) (by rfl) (by rfl)) (by rfl))) (by rfl) T.Full.RA (λ _=>(@ak _ _ _ (@aJ _ _ 2 _ _ _ _ sc.nd rfl (by walk_at "o2") (@bY _ _ _ _) (by rfl) (by walk_at "o4")))) (by decide)) (@ak _ _ _ (@aC _ _ _ _ (@ao _ 2 _ _ (by walk_at "v")))))),?_⟩
  refine aD λ M1 K1 => ?_
  walk_at "ge"
  refine K1.use ?_
  walk_at "cl"
  clear K1
  refine aD λ M1 K1 => ?_
  refine Tc λ E1 hE1 => ?_
  walk_at "ge"
  refine ⟨S,n,q,r0,row,M,rfl,hL,g,rP,h4,hh,gh.fresh,gh.key,λ _ N H1 hl1 => ?_,λ h=>absurd h0 h,λ h=>absurd h0 h⟩
  rw [hE1.eq]
  refine ⟨T.J6,?_⟩
  clear hE1
  walk_at "ge"
  refine K1.use ?_
  walk_at "ge"
  exact k N _ hl1
end
section
variable {P:Program} {w:World} {K:PySem.W.Frag} {mg:Str->Option Value} {base:Heap} {cU cA cB cC cT cF cD cS cI:Addr}
def LF (cT cF cD cS cI:Addr):Sp:=λ vs H Q _ => ∃ (S:SS) (n q:Nat) (rd t:Addr) (a:Th) (c:Int) (ts:Ts) (M:Cells),vs = [.ref S.b,.ref rd,.ref t,.int c]/\Led H (bh cT cF cD cS cI S ([(rd,HO.dT (cX ts))]++M))/\Lt n q S ts M/\(t,HO.tup (fN a))∈M/\a∈ts.map (·.1)/\ts.length<=1000/\Builtin.Int.intBits c<=1048576 ∧
 ∀ (S':SS) (ts':Ts) (N:Cells) (H':Hp),S'.b=S.b->S'.hs=S.hs->S'.made=S.made->ts'.map (·.1)=ts.map (·.1)->Lt n q S' ts' (N++M)->Led H' (bh cT cF cD cS cI S' ([(rd,HO.dT (cX ts'))]++(N++M)))->Q (.bl true) H'
theorem NQ (D:Def K mg "_law_written" eu) (B:iK mg) (T:Txt K mg cU cA cB cC cT cF cD cS cI) (tV:aI P w K mg base 2 cF "put_in" ["self","frame","cell","numbers"] (Gu cF)) (f7:bX P w K mg base 8 "_law_frame_of" ["_law_store","_law_thing"] (qW cT cF cD cS cI)) (nF:bX P w K mg base 1 "_law_num" ["_law_cell","_law_k"] K5) (wO:bX P w K mg base 1 "_law_laid_in" ["_law_row_here","_law_cell","_law_nums"] Ll):bX P w K mg base 9 "_law_written" ["_law_store","_law_rows","_law_thing","_law_cell"] (LF cT cF cD cS cI):=by
 have sc:=oq
 refine D.ok oq (λ vs H Q E h => ?_) (λ _ _ _ _ _ _ us hl=>match us,hl with | [_,_,_,_],_=>rfl) (λ f cdv A outer s H vs Q E hr h => ?_)
 ·obtain ⟨_,_,_,_,_,_,_,_,_,rfl,_⟩:=h;rfl
 ·obtain ⟨S,n,q,rd,t,a,c,ts,M,rfl,hL,lt,uc,ka,hts,Ct,k⟩:=h
  have hu:=gi hr
  have hsz:=sizeLine_eq
  have n64:=lt.g.n64
  refine ⟨_,(@ah _ _ _ _ _ (@aJ _ _ 4 _ _ _ _ sc.nd rfl (by walk_at "o2") (@az _ _ _ _ _ _ _ _ _ _ _ f7 (hr.mono (by omega)) (by rfl) aB (@aa _ _ _ _ _ (@ao _ 0 _ _ (by walk_at "v")) (@aa _ _ _ _ _ (@ao _ 2 _ _ (by walk_at "v")) (@ai _) (by rfl)) (by rfl)) (by decide) (by rfl) (by rfl)) (by rfl) (by walk_at "o4")) (@ah _ _ _ _ _ (@aR _ _ _ _ _ _ _ _ (@aX _ _ _ _ _ _ _ _ Ga (@ao _ 4 _ _ (by walk_at "v")) (@aj _ _ _ _) (bf _)) (@ak _ _ _ (@aC _ _ _ _ (@bY _ _ _ _))) (@aE _)) (@ah _ _ _ _ _ (@aJ _ _ 5 _ _ _ _ sc.nd rfl (by walk_at "o2") (@au _ _ _ _ _ _ _ _ aN (@ao _ 3 _ _ (by walk_at "v")) (@aj _ _ _ _)) (by rfl) (by walk_at "o4")) (@ah _ _ _ _ _ (@uI _ _ "_law_k" _ _ _ _ _ _ _ _ _ _ 6 _ _ rfl rfl rfl rfl UP (gz (by kernel_rfl)) (@dw _ _ _ _ _ _ (by rfl) B.range (@aa _ _ _ _ _ (@au _ _ _ _ _ _ _ _ aT (@aj _ _ _ _) (@au _ _ _ _ _ _ _ _ aN (@au _ _ _ _ _ _ _ _ bW (@ao _ 3 _ _ (by walk_at "v")) (@aj _ _ _ _)) (@au _ _ _ _ _ _ _ _ iJ (@aj _ _ _ _) (@ao _ 5 _ _ (by walk_at "v"))))) (@ai _) (by rfl)) (by rfl)) (λ _ _ _ _=>(@lA _)) (λ _ _ _ _=>(@az _ _ _ _ _ _ _ _ _ _ _ nF (hr.mono (by omega)) (by rfl) aB (@aa _ _ _ _ _ (@au _ _ _ _ _ _ _ _ aT (@pk _ 4 _ _ (by kernel_rfl) (by kernel_rfl) (by decide) (by decide)) (@au _ _ _ _ _ _ _ _ gJ (@aj _ _ _ _) (@pk _ 0 _ _ (by kernel_rfl) (by kernel_rfl) (by decide) (by decide)))) (@aa _ _ _ _ _ (@au _ _ _ _ _ _ _ _ aT (@pk _ 0 _ _ (by kernel_rfl) (by kernel_rfl) (by decide) (by decide)) (@aj _ _ _ _)) (@ai _) (by rfl)) (by rfl)) (by decide) (by rfl) (by rfl))) sc.nd rfl (by walk_at "o2") (by intro _;rfl) (by rfl) (by walk_at "o4")) (@ah _ _ _ _ _ (@bG _ _ _ _ (@aK _ _ _ _ _ _ _ _ _ _ _ _ _ _ _ _ T.Frames tV (hr.mono (by omega)) aB (@av _ _ _ _ _ _ _ T.aW T.bu (@ao _ 0 _ _ (by walk_at "v")) (by rfl)) (@aa _ _ _ _ _ (@ao _ 4 _ _ (by walk_at "v")) (@aa _ _ _ _ _ (@ao _ 5 _ _ (by walk_at "v")) (@aa _ _ _ _ _ (@bw _ _ _ _ _ _ _ _ _ (aP (K:=K) rfl) (by rfl) B.list bZ (@aa _ _ _ _ _ (@ao _ 6 _ _ (by walk_at "v")) (@ai _) (by rfl)) (by decide) (by decide) (by rfl) (by rfl)) (@ai _) (by rfl)) (by rfl)) (by rfl)) (by rfl) (by rfl) (by rfl)) (by rfl)) (@ah _ _ _ _ _ (@ji _ _ _ _ _ _ _ _ _ hu (@ao _ 1 _ _ (by walk_at "v")) (@ao _ 2 _ _ (by walk_at "v")) (@az _ _ _ _ _ _ _ _ _ _ _ wO (hr.mono (by omega)) (by rfl) aB (@aa _ _ _ _ _ (@g7 _ _ _ _ _ _ hu (@ao _ 1 _ _ (by walk_at "v")) (@ao _ 2 _ _ (by walk_at "v")) (λ _ _=>rfl)) (@aa _ _ _ _ _ (@ao _ 5 _ _ (by walk_at "v")) (@aa _ _ _ _ _ (@ao _ 6 _ _ (by walk_at "v")) (@ai _) (by rfl)) (by rfl)) (by rfl)) (by decide) (by rfl) (by rfl)) rfl) (@ak _ _ _ (@aC _ _ _ _ (@bY _ _ _ _))))))))),?_⟩
  refine aD λ M1 K1 => ?_
  walk_at "ge"
  refine ⟨S,n,q,t,a,ts,[(rd,HO.dT (cX ts))],M,rfl,hL,lt,uc,ka,λ S1 i u N1 H1 b1 hs1 m1 hi Rg hl1 => ?_⟩
  clear hL
  walk_at "ge"
  refine K1.use ?_
  walk_at "cl"
  clear K1
  refine aD λ M1 K1 => ?_
  walk_at "ge"
  all_goals first | (exfalso;omega) | skip
  refine K1.use ?_
  walk_at "cl"
  clear K1
  have g1:=Rg.g
  have hin:i < n:=by rw [<-g1.f.h];exact (List.getElem?_eq_some_iff.mp hi).1
  obtain ⟨r,row,tU,h4⟩:=g1.rr i u a hi
  obtain ⟨e,he,ea⟩:=List.mem_map.mp ka
  have ea':e.1=a:=ea
  obtain ⟨ie,rowAt,oke⟩:=Rg.rw e he
  have FZ:e.2.2=row:=by
   rw [ea'] at rowAt
   rcases rowAt with ⟨j,u2,r2,h1,h2⟩ | ⟨h1,_⟩
   ·have:=g1.inj i j u u2 a hi h1
    subst this
    rw [tU] at h2
    cases h2
    rfl
   ·exact absurd ⟨i,u,hi⟩ h1
  refine aD λ M1 K1 => ?_
  walk_at "ge"
  refine K1.use ?_
  walk_at "cl"
  clear K1
  obtain ⟨BS,aaI⟩ : ∃ z:Nat,c % 4=(z:Int):=⟨_,(Int.toNat_of_nonneg (Int.emod_nonneg _ (by decide))).symm⟩
  have at3:BS < 4:=by omega
  rw [aaI]
  refine aD λ M1 K1 => ?_
  walk_at "ge"
  refine Ed λ Lc yV => ?_
  have p4:(0:Int) < 4 - (BS:Int):=by omega
  have m0:=Int.emod_nonneg (c / 4) (show (4 - (BS:Int))≠0 by omega)
  have mm:=Int.emod_lt_of_pos (c / 4) p4
  walk_at "ge"
  refine ⟨_,rfl,by omega,by omega,yV.use ?_⟩
  clear yV
  refine uM (λ _ v => ∃ z:Int,v=V.int z) hl1 (by omega) (λ k2 H2 R q2 hk2 hl2 hR => ?_) (λ pm acc H2 hlen hacc hl2 => ?_)
  ·walk_at "ge"
   refine ⟨_,_,_,rfl,Nat.le_trans (bits_add Ct (by omega) (by omega) (by decide)) (by decide),by omega,by omega,hl2,λ H3 hl3 => ?_⟩
   walk_at "ge"
   exact hR _ _ ⟨_,rfl⟩ hl3
  ·obtain ⟨ms,rfl⟩:=intsOf hacc
   rw [List.length_map] at hlen
   have hms:ms.length<=4 - BS:=by omega
   clear hl1
   have hl3:=St.push hl2
   clear hl2
   walk_at "ge"
   refine K1.use ?_
   walk_at "cl"
   clear K1
   rw [<-b1]
   have f1:=fB S1
   have je:=hl3.get St.b
   have aaJ:=hl3.get (St.up mS)
   have hF:=St.toF hl3
   have tT:=hF.get mS
   refine aD λ M1 K1 => ?_
   walk_at "ge"
   rename_i q2 H3 _ c8 _
   have dh:Led H3 (qP cF S1.F ([(q2,HO.lst (ms.map V.int))]++rF cT cD cS cI S1 ((pm,HO.lst (ms.map V.int))::([(rd,HO.dT (cX ts))]++(N1++M))))):=Led.perm c8 (aF [(q2,HO.lst (ms.map V.int))] (pH cF S1.F) _)
   clear c8 hF tT aaJ je hl3
   refine ⟨S1.F,n,i,(BS:Int),q2,r,row,ms,_,rfl,dh,g1.f.mono (λ x hx=>mA (eB (mC (mA hx)))),hin,tU,mS,by omega,by omega,by omega,λ p H4 fW => ?_⟩
   rw [Int.toNat_natCast] at fW
   have jW:Led H4 (bh cT cF cD cS cI (jy S1 i p (c9 row BS ms)) ([(p,HO.lst ((c9 row BS ms).map V.int)),(q2,HO.lst (ms.map V.int))]++((pm,HO.lst (ms.map V.int))::([(rd,HO.dT (cX ts))]++(N1++M))))):=St.OO (S:=S1) (F' := { S1.F with rs:=S1.F.rs.set i (some (p,c9 row BS ms)),bs:=S1.F.bs.set i true }) rfl fW
   clear dh fW
   obtain ⟨S2,zJ⟩ : ∃ S2:SS,S2=jy S1 i p (c9 row BS ms):=⟨_,rfl⟩
   rw [<-zJ] at jW
   have Vn : ∀ {x:Addr×HO},x∈[(rd,HO.dT (cX ts))]++(N1++M)->x∈bh cT cF cD cS cI S2 ([(p,HO.lst ((c9 row BS ms).map V.int)),(q2,HO.lst (ms.map V.int))]++((pm,HO.lst (ms.map V.int))::([(rd,HO.dT (cX ts))]++(N1++M)))):=λ hx=>St.up (mA (mC hx))
   walk_at "ge"
   refine K1.use ?_
   walk_at "cl"
   clear K1
   have nL:=jW.get (Vn mS)
   have ID:H4 t=some (.tup ((jx a).map kV)):=by rw [rT];exact jW.get (Vn (mA (mA uc)))
   have hv:=BL Rg.nd he
   rw [ea'] at hv
   refine aD λ M1 K1 => ?_
   walk_at "ge"
   refine Ls nL ID hv ?_
   walk_at "ge"
   refine ⟨e.2.1,pm,BS,row,ms,_,rfl,jW,Vn (mA (by rw [<-FZ];exact ie)),St.up (mA mS),by omega,by omega,λ p2 H5 qQ => ?_⟩
   have nE:=St.push qQ
   obtain ⟨N4,eN4⟩ : ∃ N4,[(p2,HO.lst ((c9 row BS ms).map V.int)),(p,HO.lst ((c9 row BS ms).map V.int)),(q2,HO.lst (ms.map V.int)),(pm,HO.lst (ms.map V.int))]=N4:=⟨_,rfl⟩
   have gY:Led H5 (bh cT cF cD cS cI S2 (N4++([(rd,HO.dT (cX ts))]++(N1++M)))):=by rw [<-eN4];exact nE
   have fX:=St.GH N4 _ gY
   clear jW qQ nE gY Vn nL ID
   have nL:=fX.get mS
   have ID:H5 t=some (.tup ((jx a).map kV)):=by rw [rT];exact fX.get (mA (St.up (mA (mA uc))))
   walk_at "ge"
   refine Lu nL ID (by rw [ue];omega) ?_
   rw [ND p2 (c9 row BS ms) ka]
   have lU:Led (upd H5 rd (.dT (cX (yZ ts a p2 (c9 row BS ms))))) ([(rd,HO.dT (cX (yZ ts a p2 (c9 row BS ms))))]++bh cT cF cD cS cI S2 (N4++(N1++M))):=fX.r9 0 rfl rfl rfl
   generalize upd H5 rd (.dT (cX (yZ ts a p2 (c9 row BS ms))))=H6 at lU ⊢
   clear fX nL ID
   have gZ:=St.rV _ lU
   walk_at "ge"
   refine K1.use ?_
   walk_at "ge"
   have wN:=(Rg.mono (M':=N4++(N1++M)) λ x hx=>mA hx).nI (p:=p) (r:=p2) (row:=c9 row BS ms) hi (by rw [<-eN4];exact mB (mC mS)) (by rw [<-eN4];exact mB mS) (by rw [zN (by omega)];exact h4)
   have e9:N4++(N1++M)=(N4++N1)++M:=(List.append_assoc ..).symm
   rw [e9] at wN gZ
   refine k S2 (yZ ts a p2 (c9 row BS ms)) (N4++N1) _ (by rw [zJ];exact b1) (by rw [zJ];exact hs1) (by rw [zJ];exact m1) (qV ..) (by rw [zJ];exact wN) gZ
def LG (cT cF cD cS cI:Addr):Sp:=λ vs H Q _ => ∃ (S:SS) (n q:Nat) (rd:Addr) (ts:Ts) (M:Cells),vs = [.ref S.b,.ref rd]/\Led H (bh cT cF cD cS cI S ([(rd,HO.dT (cX ts))]++M))/\Lt n q S ts M/\ts.length<=1000 ∧
 ∀ (S':SS) (N:Cells) (H':Hp),S'.b=S.b->S'.hs=S.hs->S'.made=S.made->Lt n q S' ts (N++M)->Led H' (bh cT cF cD cS cI S' ([(rd,HO.dT (cX ts))]++(N++M)))->Q (.bl true) H'
theorem NR (D:Def K mg "_law_is_all" fq) (B:iK mg) (T:Txt K mg cU cA cB cC cT cF cD cS cI) (cQ:aI P w K mg base 1 cF "row_in" ["self","frame"] (t9 cF)) (IE:bX P w K mg base 5 "row_now" ["store","thing"] (OV cT cF cD cS cI)) (f7:bX P w K mg base 8 "_law_frame_of" ["_law_store","_law_thing"] (qW cT cF cD cS cI)) (aM:bX P w K mg base 4 "_law_alike" ["_law_found","_law_due"] (jt 2)):bX P w K mg base 9 "_law_is_all" ["_law_store","_law_rows"] (LG cT cF cD cS cI):=by
 have sc:=rC
 refine D.ok rC (λ vs H Q E h => ?_) (λ _ _ _ _ _ _ us hl=>match us,hl with | [_,_],_=>rfl) (λ f cdv A outer s H vs Q E hr h => ?_)
 ·obtain ⟨_,_,_,_,_,_,rfl,_⟩:=h;rfl
 ·obtain ⟨S0,n,q,rd,ts,M,rfl,hL,OX,hts,k⟩:=h
  have hu:=gi hr
  have nL:=hL.get (St.up mS)
  refine ⟨_,(@ah _ _ _ _ _ (@jY _ _ _ _ _ _ _ _ PassesOwn.never rfl (@nQ _ _ _ _ (@bw _ _ _ _ _ _ _ _ _ (rA rfl) (by rfl) B.list bZ (@aa _ _ _ _ _ (@ao _ 1 _ _ (by walk_at "v")) (@ai _) (by rfl)) (by decide) (by decide) (by rfl) (by rfl))) (@fF _ _ 2 _ sc.nd rfl (by walk_at "o2") (by walk_at "o4")) (@ah _ _ _ _ _ (@aR _ _ _ _ _ _ _ _ (@b9 _ _ _ _ (@aY _ _ _ (@az _ _ _ _ _ _ _ _ _ _ _ aM (hr.mono (by omega)) (by rfl) aB (@aa _ _ _ _ _ (@az _ _ _ _ _ _ _ _ _ _ _ IE (hr.mono (by omega)) (by rfl) aB (@aa _ _ _ _ _ (@ao _ 0 _ _ (by walk_at "v")) (@aa _ _ _ _ _ (@ao _ 2 _ _ (by walk_at "v")) (@ai _) (by rfl)) (by rfl)) (by decide) (by rfl) (by rfl)) (@aa _ _ _ _ _ (@g7 _ _ _ _ _ _ hu (@ao _ 1 _ _ (by walk_at "v")) (@ao _ 2 _ _ (by walk_at "v")) (λ _ _=>rfl)) (@ai _) (by rfl)) (by rfl)) (by decide) (by rfl) (by rfl)) (by intro _;rfl))) (@ak _ _ _ (@aC _ _ _ _ (@bY _ _ _ _))) (@aE _)) (@ah _ _ _ _ _ (@aJ _ _ 3 _ _ _ _ sc.nd rfl (by walk_at "o2") (@az _ _ _ _ _ _ _ _ _ _ _ f7 (hr.mono (by omega)) (by rfl) aB (@aa _ _ _ _ _ (@ao _ 0 _ _ (by walk_at "v")) (@aa _ _ _ _ _ (@ao _ 2 _ _ (by walk_at "v")) (@ai _) (by rfl)) (by rfl)) (by decide) (by rfl) (by rfl)) (by rfl) (by walk_at "o4")) (@ak _ _ _ (@aR _ _ _ _ _ _ _ _ (@PW.pt _ _ _ (@pw_or _ _ _ _ _ _ _ (@aX _ _ _ _ _ _ _ _ Ga (@ao _ 3 _ _ (by walk_at "v")) (@aj _ _ _ _) (bf _)) (@pw_or1 _ _ _ _ (@b9 _ _ _ _ (@aY _ _ _ (@az _ _ _ _ _ _ _ _ _ _ _ aM (hr.mono (by omega)) (by rfl) aB (@aa _ _ _ _ _ (@aK _ _ _ _ _ _ _ _ _ _ _ _ _ _ _ _ T.Frames cQ (hr.mono (by omega)) aB (@av _ _ _ _ _ _ _ T.aW T.bu (@ao _ 0 _ _ (by walk_at "v")) (by rfl)) (@aa _ _ _ _ _ (@ao _ 3 _ _ (by walk_at "v")) (@ai _) (by rfl)) (by rfl) (by rfl) (by rfl)) (@aa _ _ _ _ _ (@g7 _ _ _ _ _ _ hu (@ao _ 1 _ _ (by walk_at "v")) (@ao _ 2 _ _ (by walk_at "v")) (λ _ _=>rfl)) (@ai _) (by rfl)) (by rfl)) (by decide) (by rfl) (by rfl)) (by intro _;rfl)))))) (@ak _ _ _ (@aC _ _ _ _ (@bY _ _ _ _))) (@aE _))))) (by intro _;rfl)) (@ak _ _ _ (@aC _ _ _ _ (@bY _ _ _ _)))),?_⟩
  refine aD λ M1 K1 => ?_
  refine forL λ Lr0 rR => ?_
  walk_at "ge"
  refine zM nL hL λ ky ys H2 ey hl2 => ?_
  refine ⟨ky,rfl,⟨_,fE.of (hl2.get mS)⟩,rR.use ?_⟩
  clear rR nL hL
  obtain ⟨N0,NS⟩ : ∃ N0:Cells,(ky,HO.lst (ys.map λ y=>V.ref y.1))::RE ys=N0:=⟨_,rfl⟩
  have hl3:Led H2 (bh cT cF cD cS cI S0 ([(rd,HO.dT (cX ts))]++(N0++M))):=by
   have h5:=St.rV ((ky,HO.lst (ys.map λ y=>V.ref y.1))::RE ys) hl2
   rw [NS] at h5
   exact St.gU h5 (aF _ _ _)
  have Rh:(ky,HO.lst (ys.map λ y=>V.ref y.1))∈N0:=by rw [<-NS];exact mS
  have i_y : ∀ y∈ys,(y.1,HO.tup (fN y.2))∈N0:=λ y hy=>by rw [<-NS];exact mC (List.mem_map.mpr ⟨y,hy,rfl⟩)
  clear hl2 NS
  walk_at "cl"
  refine Oj (ys.map λ y=>V.ref y.1) (λ i σ H' => ∃ (S:SS) (N:Cells) (v2 v3:Option V),S.b=S0.b/\S.hs=S0.hs/\S.made=S0.made/\Lt n q S ts (N++M)/\(∀ x∈N0,x∈N)/\Led H' (bh cT cF cD cS cI S ([(rd,HO.dT (cX ts))]++(N++M))) ∧ σ = [some (.ref S0.b),some (.ref rd),v2,v3]) ⟨S0,N0,none,none,rfl,rfl,rfl,OX.mono λ x hx=>mA hx,λ x hx=>hx,hl3,rfl⟩ (λ i σ H' _ h => ?_) ?_ ?_
  ·obtain ⟨S,N,_,_,_,_,_,_,up,hl,_⟩:=h
   exact fE.of (hl.get (St.up (mA (mB (up _ Rh)))))
  ·clear hl3 K1 k
   rintro i v σ H' hv ⟨S,N,v2,v3,b1,b2,b3,lt,up,hl,rfl⟩
   rw [List.getElem?_map] at hv
   obtain ⟨y,hyi,rfl⟩:=Option.map_eq_some_iff.mp hv
   have hy:=List.mem_of_getElem? hyi
   have hk:y.2∈ts.map (·.1):=by rw [<-ey];exact List.mem_map.mpr ⟨y,hy,rfl⟩
   obtain ⟨e,he,ea⟩:=List.mem_map.mp hk
   have ea':e.1=y.2:=ea
   obtain ⟨ie,rat,oke⟩:=lt.rw e he
   have e4:=cG.len lt.g rat
   have Vo:(y.1,HO.tup (fN e.1))∈N++M:=by rw [ea'];exact mB (up _ (i_y y hy))
   rw [<-b1]
   walk_at "ge"
   refine ⟨S,n,q,y.1,e.1,e.2.2,_,rfl,hl,lt.g.mono (λ x hx=>mA hx),mA Vo,oke,rat,λ r N5 H5 rP nE => ?_⟩
   have nL:=nE.get (St.up (mA mS))
   have ID:H5 y.1=some (.tup ((jx e.1).map kV)):=by rw [rT];exact nE.get (St.up (mA (mA Vo)))
   walk_at "ge"
   refine Ls nL ID (BL lt.nd he) ?_
   walk_at "ge"
   refine ⟨_,_,rfl,rW (nE.get (St.up (mB rP))) (nE.get (St.up (mA (mA ie)))) (by omega),?_⟩
   clear nL ID hl
   have gY:Led H5 (bh cT cF cD cS cI S ([(rd,HO.dT (cX ts))]++(N5++(N++M)))):=St.gU nE (aF _ _ _)
   walk_at "ge"
   refine ⟨S,n,q,y.1,e.1,ts,[(rd,HO.dT (cX ts))],N5++(N++M),rfl,gY,lt.mono (λ x hx=>mA hx),mA Vo,List.mem_map.mpr ⟨e,he,rfl⟩,λ S2 i2 u2 N6 H6 q1 q2 q3 hi2 wN fX => ?_⟩
   clear nE gY
   walk_at "ge"
   all_goals first | (exfalso;omega) | skip
   obtain ⟨ie2,aaK,_⟩:=wN.rw e he
   have hrs : ∃ r,S2.F.rs[i2]? = some (some (r,e.2.2)):=by
    rcases aaK with ⟨j',u',r,h3,h4⟩ | ⟨h3,_⟩
    ·have:=wN.g.inj i2 j' u2 u' e.1 hi2 h3
     subst this
     exact ⟨r,h4⟩
    ·exact absurd ⟨i2,u2,hi2⟩ h3
   obtain ⟨r2,hrs⟩:=hrs
   rw [<-q1]
   have f1:=fB S2
   have je:=fX.get St.b
   have hF:=St.toF fX
   have tT:=hF.get mS
   walk_at "ge"
   refine ⟨S2.F,i2,r2,e.2.2,_,rfl,hF,hrs,eB (mA (wN.g.f.rw r2 e.2.2 (List.mem_of_getElem? hrs))),by omega,λ qr H7 lU => ?_⟩
   have gZ:Led H7 (bh cT cF cD cS cI S2 ([(qr,HO.lst (e.2.2.map V.int))]++([(rd,HO.dT (cX ts))]++(N6++(N5++(N++M)))))):=St.push (Led.perm lU (List.Perm.cons _ (aF (pH cF S2.F) (zI cT S2) _)))
   clear lU hF tT je fX f1
   have nL:=gZ.get (St.up (mA mS))
   have ID:H7 y.1=some (.tup ((jx e.1).map kV)):=by rw [rT];exact gZ.get (St.up (mA (mA (mA (mA Vo)))))
   walk_at "ge"
   refine Ls nL ID (BL lt.nd he) ?_
   walk_at "ge"
   refine ⟨_,_,rfl,rW (gZ.get (St.up mS)) (gZ.get (St.up (mA (mA ie2)))) (by omega),?_⟩
   walk_at "ge"
   have e9:[(qr,HO.lst (e.2.2.map V.int))]++(N6++(N5++(N++M)))=((qr,HO.lst (e.2.2.map V.int))::(N6++(N5++N)))++M:=by simp
   have DE:=St.gU gZ (aF [(qr,HO.lst (e.2.2.map V.int))] [(rd,HO.dT (cX ts))] _)
   have Ri:=wN.mono (M':=[(qr,HO.lst (e.2.2.map V.int))]++(N6++(N5++(N++M)))) λ x hx=>mA hx
   rw [e9] at DE Ri
   exact ⟨S2,_,_,_,q1,q2.trans b2,q3.trans b3,Ri,λ x hx=>mC (mA (mA (up x hx))),DE,rfl⟩
  ·clear hl3
   rintro σ H' ⟨S,N,v2,v3,b1,b2,b3,lt,up,hl,rfl⟩
   walk_at "ge"
   refine K1.use ?_
   walk_at "ge"
   exact k S N H' b1 b2 b3 lt hl
end
section
variable {P:Program} {w:World} {K:PySem.W.Frag} {mg:Str->Option Value} {base:Heap} {cU cA cB cC cT cF cD cS cI:Addr}
def LH (K:PySem.W.Frag) (cT cF cD cS cI:Addr):Sp:=λ vs H Q _ => ∃ (S:SS) (n q:Nat) (rd a:Addr) (ns:List Int) (M:Cells),vs = [.ref S.b,.ref rd,.ref a]/\Led H (bh cT cF cD cS cI S ([(rd,HO.dT (cX []))]++M))/\Lt n q S [] M/\S.fs = []/\(∀ H',Led H' M->fE K H' a (ns.map V.int)) ∧
 ∀ (S':SS) (ts':Ts) (N:Cells) (H':Hp),S'.b=S.b->S'.hs=S.hs->S'.made=S.made->ts'.length<=4->1<=ts'.length->Lt n q S' ts' (N++M)->Led H' (bh cT cF cD cS cI S' ([(rd,HO.dT (cX ts'))]++(N++M)))->Q .aH H'
theorem NT (D:Def K mg "_law_begun" gH) (B:iK mg) (T:Txt K mg cU cA cB cC cT cF cD cS cI) (BU:aI P w K mg base 1 cI "make" ["self","name","rows"] (Lv cI cC)) (cJ:bX P w K mg base 1 "_law_cell_at" ["_law_script","_law_k"] (wC K)) (DI:bX P w K mg base 1 "_law_name" ["_law_cell","_law_turn"] Lp) (gW:bX P w K mg base 2 "_law_row" ["_law_cell"] GA):bX P w K mg base 3 "_law_begun" ["_law_store","_law_rows","_law_script"] (LH K cT cF cD cS cI):=by
 have sc:=uY
 refine D.ok uY (λ vs H Q E h => ?_) (λ _ _ _ _ _ _ us hl=>match us,hl with | [_,_,_],_=>rfl) (λ f cdv A outer s H vs Q E hr h => ?_)
 ·obtain ⟨_,_,_,_,_,_,_,rfl,_⟩:=h;rfl
 ·obtain ⟨S,n,q,rd,a,ns,M,rfl,hL,lt,hfs,RG,k⟩:=h
  have hu:=gi hr
  have hsz:=sizeLine_eq
  obtain ⟨x1,hx1⟩ : ∃ x,ns.getD (Int.toNat 1) 0=x:=⟨_,rfl⟩
  obtain ⟨x2,hx2⟩ : ∃ x,ns.getD (Int.toNat 2) 0=x:=⟨_,rfl⟩
  have OU : ∀ a,¬ BN S a:=λ a z=>nomatch (lt.BO a (.inl z))
  have sq:fE K H a (ns.map V.int):=RG _ (Led.right (St.rest hL))
  refine ⟨_,(@ah _ _ _ _ _ (@aJ _ _ 3 _ _ _ _ sc.nd rfl (by walk_at "o2") (@az _ _ _ _ _ _ _ _ _ _ _ DI (hr.mono (by omega)) (by rfl) aB (@aa _ _ _ _ _ (@az _ _ _ _ _ _ _ _ _ _ _ cJ (hr.mono (by omega)) (by rfl) aB (@aa _ _ _ _ _ (@ao _ 2 _ _ (by walk_at "v")) (@aa _ _ _ _ _ (@aj _ _ _ _) (@ai _) (by rfl)) (by rfl)) (by decide) (by rfl) (by rfl)) (@aa _ _ _ _ _ (@aj _ _ _ _) (@ai _) (by rfl)) (by rfl)) (by decide) (by rfl) (by rfl)) (by rfl) (by walk_at "o4")) (@ah _ _ _ _ _ (@uI _ _ "_law_k" _ _ _ _ _ _ _ _ _ _ 4 _ _ rfl rfl rfl rfl UP (gz (by kernel_rfl)) (@dw _ _ _ _ _ _ (by rfl) B.range (@aa _ _ _ _ _ (@au _ _ _ _ _ _ _ _ aT (@aj _ _ _ _) (@au _ _ _ _ _ _ _ _ aN (@au _ _ _ _ _ _ _ _ bW (@az _ _ _ _ _ _ _ _ _ _ _ cJ (hr.mono (by omega)) (by rfl) aB (@aa _ _ _ _ _ (@ao _ 2 _ _ (by walk_at "v")) (@aa _ _ _ _ _ (@aj _ _ _ _) (@ai _) (by rfl)) (by rfl)) (by decide) (by rfl) (by rfl)) (@aj _ _ _ _)) (@aj _ _ _ _))) (@ai _) (by rfl)) (by rfl)) (λ _ _ _ _=>(@lA _)) (λ _ _ _ _=>(@az _ _ _ _ _ _ _ _ _ _ _ gW (hr.mono (by omega)) (by rfl) aB (@aa _ _ _ _ _ (@au _ _ _ _ _ _ _ _ aT (@au _ _ _ _ _ _ _ _ aN (@az _ _ _ _ _ _ _ _ _ _ _ cJ (hr.mono (by omega)) (by rfl) aB (@aa _ _ _ _ _ (@pk _ 3 _ _ (by kernel_rfl) (by kernel_rfl) (by decide) (by decide)) (@aa _ _ _ _ _ (@aj _ _ _ _) (@ai _) (by rfl)) (by rfl)) (by decide) (by rfl) (by rfl)) (@aj _ _ _ _)) (@au _ _ _ _ _ _ _ _ gJ (@aj _ _ _ _) (@pk _ 0 _ _ (by kernel_rfl) (by kernel_rfl) (by decide) (by decide)))) (@ai _) (by rfl)) (by decide) (by rfl) (by rfl))) sc.nd rfl (by walk_at "o2") (by intro _;rfl) (by rfl) (by walk_at "o4")) (@ah _ _ _ _ _ (@bG _ _ _ _ (@aK _ _ _ _ _ _ _ _ _ _ _ _ _ _ _ _ T.gb BU (hr.mono (by omega)) aB (@av _ _ _ _ _ _ _ T.aW T.ou (@ao _ 0 _ _ (by walk_at "v")) (by rfl)) (@aa _ _ _ _ _ (@ao _ 3 _ _ (by walk_at "v")) (@aa _ _ _ _ _ (@t6 _ _ "_law_row_here" _ _ _ _ _ _ _ _ _ rfl rfl rfl rfl UP (gz (by kernel_rfl)) (@nQ _ _ _ _ (@ao _ 4 _ _ (by walk_at "v"))) (λ _ _ _ _=>(@lA _)) (λ _ _ _ _=>(@bw _ _ _ _ _ _ _ _ _ (aP (K:=K) rfl) (by rfl) B.list bZ (@aa _ _ _ _ _ (@pk _ 0 _ _ (by kernel_rfl) (by kernel_rfl) (by decide) (by decide)) (@ai _) (by rfl)) (by decide) (by decide) (by rfl) (by rfl))) (by intro _;rfl)) (@ai _) (by rfl)) (by rfl)) (by rfl) (by rfl) (by rfl)) (by rfl)) (@ak _ _ _ (@jY _ _ _ _ _ _ _ _ PassesOwn.never rfl (@dw _ _ _ _ _ _ (by rfl) B.range (@aa _ _ _ _ _ (@aL _ _ _ _ _ _ _ _ _ bD (by rfl) B.len dX (@aa _ _ _ _ _ (@ao _ 4 _ _ (by walk_at "v")) (@ai _) (by rfl)) (by decide) (by decide) (by rfl) (by rfl)) (@ai _) (by rfl)) (by rfl)) (@fF _ _ 5 _ sc.nd rfl (by walk_at "o2") (by walk_at "o4")) (@ak _ _ _ (@ji _ _ _ _ _ _ _ _ _ hu (@ao _ 1 _ _ (by walk_at "v")) (@fj _ _ _ _ _ (@aa _ _ _ _ _ (@dU _ _ _ _) (@aa _ _ _ _ _ (@ao _ 3 _ _ (by walk_at "v")) (@aa _ _ _ _ _ (@ao _ 5 _ _ (by walk_at "v")) (@ai _) (by rfl)) (by rfl)) (by rfl))) (@bB _ _ _ _ _ _ _ aU (@ao _ 4 _ _ (by walk_at "v")) (@ao _ 5 _ _ (by walk_at "v")) (λ _ _=>rfl)) rfl)) (by intro _;rfl)))))),?_⟩
  refine aD λ M1 K1 => ?_
  walk_at "ge"
  refine ⟨a,ns,1,rfl,by decide,sq,?_⟩
  rw [hx1]
  walk_at "ge"
  refine ⟨_,0,rfl,⟨by decide,by decide⟩,?_⟩
  have Vi:=Lo x1 0
  generalize zO x1 0=z at Vi ⊢
  have hz:z ∉ S.fs.map (·.1):=by rw [hfs];exact λ h=>nomatch h
  walk_at "ge"
  refine K1.use ?_
  walk_at "cl"
  clear K1
  refine aD λ M1 K1 => ?_
  walk_at "ge"
  refine Ed λ Lc yV => ?_
  walk_at "ge"
  refine ⟨a,ns,1,rfl,by decide,sq,?_⟩
  rw [hx1]
  walk_at "ge"
  obtain ⟨m,hm⟩ : ∃ m:Nat,1+x1 / 3 % 4=((m:Nat):Int):=⟨(1+x1 / 3 % 4).toNat,by omega⟩
  have m1:1<=m:=by omega
  have m4:m<=4:=by omega
  rw [hm]
  refine ⟨_,rfl,by omega,by omega,yV.use ?_⟩
  clear yV
  rw [show ((m:Nat):Int).toNat=m by omega]
  refine Eg (λ _ v C => ∃ (r:Addr) (row:List Int),v=V.ref r/\C = [(r,HO.lst (row.map V.int))]/\row.length=4) hL (by omega) (λ i H2 R M2 hi hl2 hR => ?_) (λ l vs Cs H2 hvl hcl hG hl2 => ?_)
  ·have sq2:fE K H2 a (ns.map V.int):=RG _ (Led.right (St.rest (Led.right hl2)))
   walk_at "ge"
   refine ⟨a,ns,2,rfl,by decide,sq2,?_⟩
   rw [hx2]
   walk_at "ge"
   refine ⟨_,_,rfl,Nat.le_trans (uN (by omega) (by omega)) (by decide),hl2,λ r H3 hl3 => ?_⟩
   walk_at "ge"
   exact hR _ _ [_] ⟨r,_,rfl,rfl,lF _⟩ hl3
  ·obtain ⟨rows,rfl,e2,e3,e4⟩:=rowsOf (p:=λ _ row=>row.length=4) (by rw [hvl,hcl]) hG
   rw [e2] at hl2
   rw [fG] at hvl
   have h4 : ∀ r∈rows,r.2.length=4:=λ r hr=>by
    obtain ⟨i,hi⟩:=List.getElem?_of_mem hr
    exact e4 i r hi
   clear hG e2 e3 e4 hcl
   walk_at "ge"
   refine K1.use ?_
   walk_at "cl"
   clear K1 hL sq
   obtain ⟨M2,T7⟩ : ∃ M2:Cells,((l,HO.lst (nJ rows))::Hr rows)++M=M2:=⟨_,rfl⟩
   have hl3:Led H2 (bh cT cF cD cS cI S ([(rd,HO.dT (cX []))]++M2)):=by
    rw [<-T7]
    exact St.gU (St.rV ((l,HO.lst (nJ rows))::Hr rows) hl2) (aF _ _ _)
   have wN:Lt n q S [] M2:=lt.mono λ x hx=>by rw [<-T7];exact mA hx
   have Rb:(l,HO.lst (nJ rows))∈M2:=by rw [<-T7];exact mS
   have T8 : ∀ r∈rows,(r.1,HO.lst (r.2.map V.int))∈M2:=λ r hr=>by rw [<-T7];exact mB (mC (Av hr))
   clear hl2
   refine aD λ M1 K1 => ?_
   have f4:=BF S
   have je:=hl3.get St.b
   have NK:=hl3.get (St.up (mA Rb))
   have hI:=St.TQ hl3
   have TV:=hI.get mS
   walk_at "ge"
   refine JO λ Lc yV => ?_
   walk_at "ge"
   refine ⟨l,rfl,⟨_,fE.of NK⟩,yV.use ?_⟩
   clear yV
   refine pS (nJ rows) (λ i v C => ∃ (r:Addr) (row:List Int),v=V.ref r/\C = [(r,HO.lst (row.map V.int))]/\rows[i]?.map (·.2)=some row) hl3 (St.up (mA Rb)) (by rw [fG];omega) (λ i y H4 R N hy c8 hR => ?_) (λ l2 vs Cs H4 Rj T9 hG c8 => ?_)
   ·unfold nJ at hy
    rw [List.getElem?_map] at hy
    obtain ⟨r,hr,rfl⟩:=Option.map_eq_some_iff.mp hy
    have nL:=c8.get (mA (St.up (mA (T8 r (List.mem_of_getElem? hr)))))
    clear hl3 hI je NK TV
    walk_at "ge"
    rename_i q2 H5 _ dh _
    exact hR _ _ [_] ⟨q2,r.2,rfl,rfl,by rw [hr];rfl⟩ dh
   ·obtain ⟨rX,rfl,e2,e3,e4⟩:=rowsOf (p:=λ i row=>rows[i]?.map (·.2)=some row) (by rw [Rj,T9]) hG
    rw [e2] at c8
    rw [fG,fG] at Rj
    have same:=zP (λ i r hi=>e4 i r hi) Rj
    have h42 : ∀ r∈rX,r.2.length=4:=λ r hr=>by
     have h5:r.2∈rows.map (·.2):=by rw [<-same];exact List.mem_map.mpr ⟨r,hr,rfl⟩
     obtain ⟨x,hx,e⟩:=List.mem_map.mp h5
     rw [<-e]
     exact h4 x hx
    clear hG e2 e3 e4 T9 hI je NK TV hl3
    have dh:=St.rV ((l2,HO.lst (nJ rX))::Hr rX) c8
    have hI:=St.TQ dh
    clear c8
    walk_at "ge"
    refine ⟨S.ib,S.ix,S.im,l2,S.fs,z,rX,_,rfl,hI,lt.g.fn,K6 (mB mS),λ r hr=>⟨K6 (mB (mC (Av hr))),by rw [h42 r hr];decide⟩,by omega,by rw [hfs];decide,λ _ fa rows' H5 er fW => ?_,λ hz2=>absurd hz2 hz⟩
    have jW:Led H5 (bh cT cF cD cS cI { S with fs:=S.fs++[(z,fa,rows')] } (Hr rows'++(((l2,HO.lst (nJ rX))::Hr rX)++([(rd,HO.dT (cX []))]++M2)))):=St.ofI (S:=S) (N:=Hr rows') fW
    obtain ⟨B2,eB2⟩ : ∃ B2:Cells,Hr rows'++((l2,HO.lst (nJ rX))::Hr rX)=B2:=⟨_,rfl⟩
    have qQ:Led H5 (bh cT cF cD cS cI { S with fs:=S.fs++[(z,fa,rows')] } ([(rd,HO.dT (cX []))]++(B2++M2))):=by
     rw [<-List.append_assoc,eB2] at jW
     exact St.gU jW (aF B2 [(rd,HO.dT (cX []))] M2)
    have Ri:=wN.T4 (fa:=fa) (M':=B2++M2) OU hz (λ x hx=>mA hx) Vi (er.trans same) h4 (λ r hr=>mA (T8 r hr)) (λ r hr=>by rw [<-eB2];exact mB (mB (Av hr)))
    obtain ⟨S1,Ua⟩ : ∃ S1:SS,S1 = { S with fs:=S.fs++[(z,fa,rows')] } := ⟨_,rfl⟩
    rw [<-Ua] at qQ Ri
    have eb1:S1.b=S.b:=by rw [Ua]
    have ep1:S1.hs=S.hs:=by rw [Ua]
    have em1:S1.made=S.made:=by rw [Ua]
    clear dh fW jW hI Ua
    walk_at "ge"
    refine K1.use ?_
    walk_at "cl"
    clear K1
    have hrl:rows.length=m:=hvl
    have NK:=qQ.get (St.up (mA (mA Rb)))
    refine ux λ Lr0 rR => ?_
    walk_at "ge"
    rw [fG,hrl]
    refine ⟨_,rfl,by omega,by omega,rR.use ?_⟩
    clear rR NK
    rw [show ((m:Nat):Int).toNat=m by omega]
    refine uy (λ i σ H' => ∃ (N:Cells) (v5:Option V),Led H' (bh cT cF cD cS cI S1 ([(rd,HO.dT (cX (zb z (rows.take i))))]++(N++(B2++M2)))) ∧ σ = [some (.ref S.b),some (.ref rd),some (.ref a),some (.str z),some (.ref l),v5]) ⟨[],none,qQ,rfl⟩ ?_ ?_
    ·clear qQ
     rintro i σ H' hi ⟨N,v5,hl',rfl⟩
     have e0:(0+(i:Int))=((i:Nat):Int):=by omega
     have hir:i < rows.length:=by omega
     have al:jL (nJ rows) (0+(i:Int))=some (.ref rows[i].1):=gK (by omega) (by rw [e0,Int.toNat_natCast];unfold nJ;rw [List.getElem?_map,List.getElem?_eq_getElem hir];rfl)
     have NK:=hl'.get (St.up (mA (mA (mA Rb))))
     walk_at "ge"
     rename_i t H6 _ nE _
     rw [e0] at nE
     have gY:Led H6 (bh cT cF cD cS cI S1 ([(t,HO.tup (fN (.file z ((i:Nat):Int))))]++([(rd,HO.dT (cX (zb z (rows.take i))))]++(N++(B2++M2))))):=St.push nE
     have fX:=St.GH _ _ gY
     have nL:=fX.get mS
     have yW:H6 t=some (.tup ((jx (.file z ((i:Nat):Int))).map kV)):=by rw [rT];exact nE.get mS
     have hnew:Th.file z ((i:Nat):Int) ∉ (zb z (rows.take i)).map (·.1):=λ h=>by
      obtain ⟨j,hj,e⟩:=BQ.mp h
      rw [List.length_take] at hj
      injection e with _ e
      omega
     have Vl:zb z (rows.take i)++[(.file z ((i:Nat):Int),rows[i].1,rows[i].2)]=zb z (rows.take (i+1)):=by
      rw [<-List.take_append_getElem hir,LB,List.length_take,Nat.min_eq_left (by omega)]
     refine Lu nL yW (by rw [ue,BP,List.length_take];omega) ?_
     rw [GF rows[i].1 rows[i].2 hnew,Vl]
     have lU:Led (upd H6 rd (.dT (cX (zb z (rows.take (i+1)))))) ([(rd,HO.dT (cX (zb z (rows.take (i+1)))))]++bh cT cF cD cS cI S1 ([(t,HO.tup (fN (.file z ((i:Nat):Int))))]++(N++(B2++M2)))):=fX.r9 0 rfl rfl rfl
     have gZ:=St.rV _ lU
     walk_at "ge"
     exact ⟨[(t,HO.tup (fN (.file z ((i:Nat):Int))))]++N,_,by rw [List.append_assoc];exact gZ,rfl⟩
    ·clear qQ
     rintro σ H' ⟨N,v5,hl',rfl⟩
     rw [List.take_of_length_le (by omega)] at hl'
     walk_at "ge"
     obtain ⟨N1,eN1⟩ : ∃ N1:Cells,N++(B2++((l,HO.lst (nJ rows))::Hr rows))=N1:=⟨_,rfl⟩
     have e5:N++(B2++M2)=N1++M:=by rw [<-eN1,<-T7];simp
     rw [e5] at hl'
     have IP:Lt n q S1 (zb z rows) (N1++M):=by rw [<-e5];exact Ri.mono λ x hx=>mA hx
     exact k S1 (zb z rows) N1 H' eb1 ep1 em1 (by rw [BP];omega) (by rw [BP];omega) IP hl'
end
section
variable {P:Program} {w:World} {K:PySem.W.Frag} {mg:Str->Option Value} {base:Heap} {cU cA cB cC cT cF cD cS cI:Addr}
def LI (cT cF cD cS cI:Addr):Sp:=λ vs H Q _ => ∃ (S:SS) (n q:Nat) (rd:Addr) (c:Int) (ts:Ts) (M:Cells),vs = [.ref S.b,.ref rd,.int ((n:Int) - 1+(q:Int)),.int c]/\Led H (bh cT cF cD cS cI S ([(rd,HO.dT (cX ts))]++M))/\Lt n q S ts M/\S.hs = []/\S.made=0/\ts.length<=4/\n+q<=516 ∧
 ∀ (S':SS) (ts':Ts) (N:Cells) (H':Hp),S'.b=S.b->S'.made=(n:Int) - 1+(q:Int)->(S'.hs.length:Int)=(n:Int) - 1+(q:Int)->(∀ e∈S'.hs,e.2=1)->ts'.length=ts.length+S'.hs.length->Lt n q S' ts' (N++M)->Led H' (bh cT cF cD cS cI S' ([(rd,HO.dT (cX ts'))]++(N++M)))->Q (.bl true) H'
theorem NU (D:Def K mg "_law_filled" fu) (B:iK mg) (T:Txt K mg cU cA cB cC cT cF cD cS cI) (fD:bX P w K mg base 2 "room_of" ["store"] (BH cT cF cD cS cI)) (k9:bX P w K mg base 8 "_law_made" ["_law_store","_law_rows","_law_sheet","_law_row_here"] (BR cT cF cD cS cI)) (gX:bX P w K mg base 8 "_law_refused" ["_law_store","_law_row_here"] (FY cT cF cD cS cI)) (gW:bX P w K mg base 2 "_law_row" ["_law_cell"] GA) (aM:bX P w K mg base 4 "_law_alike" ["_law_found","_law_due"] (jt 2)):bX P w K mg base 9 "_law_filled" ["_law_store","_law_rows","_law_room","_law_cell"] (LI cT cF cD cS cI):=by
 have sc:=rE
 refine D.ok rE (λ vs H Q E h => ?_) (λ _ _ _ _ _ _ us hl=>match us,hl with | [_,_,_,_],_=>rfl) (λ f cdv A outer s H vs Q E hr h => ?_)
 ·obtain ⟨_,_,_,_,_,_,_,rfl,_⟩:=h;rfl
 ·obtain ⟨S0,n,q,rd,c,ts0,M,rfl,hL,OX,hh0,hm0,hts,hnq,k⟩:=h
  have hsz:=sizeLine_eq
  have n1:=OX.g.n1
  have n64:=OX.g.n64
  have q6:=OX.g.q6
  obtain ⟨rm,hrm⟩ : ∃ rm:Nat,(n:Int) - 1+(q:Int)=(rm:Int):=⟨n - 1+q,by omega⟩
  rw [hrm] at k ⊢
  refine ⟨_,(@ah _ _ _ _ _ (@jY _ _ _ _ _ _ _ _ PassesOwn.never rfl (@dw _ _ _ _ _ _ (by rfl) B.range (@aa _ _ _ _ _ (@ao _ 2 _ _ (by walk_at "v")) (@ai _) (by rfl)) (by rfl)) (@fF _ _ 4 _ sc.nd rfl (by walk_at "o2") (by walk_at "o4")) (@ah _ _ _ _ _ (@aR _ _ _ _ _ _ _ _ (@b9 _ _ _ _ (@aY _ _ _ (@az _ _ _ _ _ _ _ _ _ _ _ aM (hr.mono (by omega)) (by rfl) aB (@aa _ _ _ _ _ (@az _ _ _ _ _ _ _ _ _ _ _ fD (hr.mono (by omega)) (by rfl) aB (@aa _ _ _ _ _ (@ao _ 0 _ _ (by walk_at "v")) (@ai _) (by rfl)) (by decide) (by rfl) (by rfl)) (@aa _ _ _ _ _ (@au _ _ _ _ _ _ _ _ iJ (@ao _ 2 _ _ (by walk_at "v")) (@ao _ 4 _ _ (by walk_at "v"))) (@ai _) (by rfl)) (by rfl)) (by decide) (by rfl) (by rfl)) (by intro _;rfl))) (@ak _ _ _ (@aC _ _ _ _ (@bY _ _ _ _))) (@aE _)) (@ak _ _ _ (@aR _ _ _ _ _ _ _ _ (@b9 _ _ _ _ (@aY _ _ _ (@az _ _ _ _ _ _ _ _ _ _ _ k9 (hr.mono (by omega)) (by rfl) aB (@aa _ _ _ _ _ (@ao _ 0 _ _ (by walk_at "v")) (@aa _ _ _ _ _ (@ao _ 1 _ _ (by walk_at "v")) (@aa _ _ _ _ _ (@au _ _ _ _ _ _ _ _ aT (@aj _ _ _ _) (@ao _ 4 _ _ (by walk_at "v"))) (@aa _ _ _ _ _ (@az _ _ _ _ _ _ _ _ _ _ _ gW (hr.mono (by omega)) (by rfl) aB (@aa _ _ _ _ _ (@au _ _ _ _ _ _ _ _ aT (@au _ _ _ _ _ _ _ _ aN (@ao _ 3 _ _ (by walk_at "v")) (@aj _ _ _ _)) (@au _ _ _ _ _ _ _ _ gJ (@ao _ 4 _ _ (by walk_at "v")) (@ao _ 4 _ _ (by walk_at "v")))) (@ai _) (by rfl)) (by decide) (by rfl) (by rfl)) (@ai _) (by rfl)) (by rfl)) (by rfl)) (by rfl)) (by decide) (by rfl) (by rfl)) (by intro _;rfl))) (@ak _ _ _ (@aC _ _ _ _ (@bY _ _ _ _))) (@aE _)))) (by intro _;rfl)) (@ak _ _ _ (@aC _ _ _ _ (@pO _ _ _ _ _ _ _ (@az _ _ _ _ _ _ _ _ _ _ _ aM (hr.mono (by omega)) (by rfl) aB (@aa _ _ _ _ _ (@az _ _ _ _ _ _ _ _ _ _ _ fD (hr.mono (by omega)) (by rfl) aB (@aa _ _ _ _ _ (@ao _ 0 _ _ (by walk_at "v")) (@ai _) (by rfl)) (by decide) (by rfl) (by rfl)) (@aa _ _ _ _ _ (@aj _ _ _ _) (@ai _) (by rfl)) (by rfl)) (by decide) (by rfl) (by rfl)) (@mE _ _ _ _ _ (@az _ _ _ _ _ _ _ _ _ _ _ gX (hr.mono (by omega)) (by rfl) aB (@aa _ _ _ _ _ (@ao _ 0 _ _ (by walk_at "v")) (@aa _ _ _ _ _ (@jh _ _ _ _ (@aa _ _ _ _ _ (@aj _ _ _ _) (@aa _ _ _ _ _ (@aj _ _ _ _) (@aa _ _ _ _ _ (@aj _ _ _ _) (@aa _ _ _ _ _ (@aj _ _ _ _) (@ai _) (by rfl)) (by rfl)) (by rfl)) (by rfl))) (@ai _) (by rfl)) (by rfl)) (by decide) (by rfl) (by rfl))))))),?_⟩
  refine aD λ M1 K1 => ?_
  refine ux λ Lr0 rR => ?_
  walk_at "ge"
  refine ⟨_,rfl,by omega,by omega,rR.use ?_⟩
  clear rR
  rw [show ((rm:Nat):Int).toNat=rm by omega]
  refine uy (λ i σ H' => ∃ (S:SS) (ts:Ts) (N:Cells) (v4:Option V),S.b=S0.b/\S.made=(i:Int)/\S.hs.length=i/\(∀ e∈S.hs,e.2=1)/\ts.length=ts0.length+i/\Lt n q S ts (N++M)/\Led H' (bh cT cF cD cS cI S ([(rd,HO.dT (cX ts))]++(N++M))) ∧ σ = [some (.ref S0.b),some (.ref rd),some (.int (rm:Nat)),some (.int c),v4]) ⟨S0,ts0,[],none,rfl,hm0,by rw [hh0];rfl,(by rw [hh0];exact λ e he=>nomatch he),rfl,OX,hL,rfl⟩ ?_ ?_
  ·clear hL K1 k
   rintro i σ H' hi ⟨S,ts,N,v4,b1,b2,b3,b4,b5,lt,hl,rfl⟩
   rw [<-b1]
   walk_at "ge"
   refine ⟨S,n,q,_,rfl,hl,lt.g.f.h,n64,lt.g.pl,q6,by omega,λ N2 H2 hl2 => ?_⟩
   have hl3:Led H2 (bh cT cF cD cS cI S ([(rd,HO.dT (cX ts))]++(N2++(N++M)))):=St.gU hl2 (aF _ _ _)
   clear hl hl2
   walk_at "ge"
   rw [show (n:Int) - 1+(q:Int) - (S.hs.length:Int)=(rm:Int) - (0+(i:Int)) by omega]
   refine ⟨_,_,rfl,.inl (.inr (.inr (.inl ⟨_,rfl,rfl⟩))),?_⟩
   walk_at "ge"
   have hkk:(0+(i:Int)) * (0+(i:Int))<=360000/\0<=(0+(i:Int)) * (0+(i:Int)):=by
    have h1:i * i<=600 * 600:=Nat.mul_le_mul (by omega) (by omega)
    have h2:(0+(i:Int)) * (0+(i:Int))=((i * i:Nat):Int):=by rw [Int.zero_add,Int.natCast_mul]
    rw [h2]
    omega
   refine ⟨_,_,rfl,Nat.le_trans (uN (by omega) (by omega)) (by decide),hl3,λ r0 H3 c8 => ?_⟩
   generalize FZ:rowOf (c % 9973+(0+(i:Int)) * (0+(i:Int)))=row at c8
   have h4:row.length=4:=by rw [<-FZ];exact lF _
   clear FZ hl3
   have dh:Led H3 (bh cT cF cD cS cI S ([(rd,HO.dT (cX ts))]++((r0,HO.lst (row.map V.int))::(N2++(N++M))))):=St.gU (St.push c8) (List.Perm.swap _ _ _)
   clear c8
   walk_at "ge"
   refine ⟨S,n,q,rd,r0,row,ts,_,by rw [show 1+(0+(i:Int))=S.made+1 by omega];rfl,dh,lt.mono (λ x hx=>mC (mA hx)),mS,h4,by omega,by omega,by omega,λ S2 N3 H4 q1 q2 q3 wN fW => ?_⟩
   walk_at "ge"
   have e9:N3++((r0,HO.lst (row.map V.int))::(N2++(N++M)))=(N3++((r0,HO.lst (row.map V.int))::(N2++N)))++M:=by simp
   rw [e9] at wN fW
   exact ⟨S2,_,_,_,q1,by rw [q3,b2];rfl,by rw [q2,List.length_append,b3];rfl,λ e he=>by
    rw [q2] at he
    rcases List.mem_append.mp he with he | he
    ·exact b4 e he
    ·rw [List.mem_singleton.mp he],by rw [List.length_append,b5];exact Nat.add_assoc ..,wN,fW,rfl⟩
  ·clear hL
   rintro σ H' ⟨S,ts,N,v4,b1,b2,b3,b4,b5,lt,hl,rfl⟩
   walk_at "ge"
   refine K1.use ?_
   walk_at "cl"
   clear K1
   rw [<-b1]
   walk_at "ge"
   refine ⟨S,n,q,_,rfl,hl,lt.g.f.h,n64,lt.g.pl,q6,by omega,λ N2 H2 hl2 => ?_⟩
   clear hl
   walk_at "ge"
   rw [show (n:Int) - 1+(q:Int) - (S.hs.length:Int)=0 by omega]
   refine ⟨_,_,rfl,.inl (.inr (.inr (.inl ⟨_,rfl,rfl⟩))),?_⟩
   walk_at "ge"
   rename_i r0 H3 _ hl3 _
   have c8:=St.push hl3
   refine ⟨S,n,q,r0,[1,2,3,4],_,rfl,c8,lt.g.mono (λ x hx=>mC (mA (mA hx))),lt.gh,mS,rfl,by omega,by omega,λ N5 H5 dh => ?_⟩
   walk_at "ge"
   have e9:N5++((r0,HO.lst [V.int 1,V.int 2,V.int 3,V.int 4])::(N2++([(rd,HO.dT (cX ts))]++(N++M))))=(N5++((r0,HO.lst [V.int 1,V.int 2,V.int 3,V.int 4])::N2))++([(rd,HO.dT (cX ts))]++(N++M)):=by simp
   have fW:=St.gU (by rw [<-e9];exact dh) (aF (N5++((r0,HO.lst [V.int 1,V.int 2,V.int 3,V.int 4])::N2)) [(rd,HO.dT (cX ts))] (N++M))
   rw [<-List.append_assoc (N5++_)] at fW
   exact k S ts _ H5 b1 (by omega) (by omega) b4 (by omega) (by rw [List.append_assoc];exact lt.mono λ x hx=>mA hx) fW
end
section
variable {P:Program} {w:World} {K:PySem.W.Frag} {mg:Str->Option Value} {base:Heap} {cU cA cB cC cT cF cD cS cI:Addr}
theorem aG.ended {S S':SS} {n q:Nat} {M:Cells} {m:Int} (g:aG S n q M) (h:iI S S' m):aG S' n q M:=by
 rcases h with ⟨i,t,hi,rfl⟩ | ⟨_,hin,rfl⟩
 ·exact aG.freed (S := { S with hs:=S.hs.filter λ e=>decide (e.1≠m) }) { g with } i
 ·exact { g.wK hin with }
theorem Ub {ys:List (Addr×Th)} (z:Int) (h:0 < ys.length) : ∃ y∈ys,jL (ys.map λ y=>V.ref y.1) (z % ((ys.map λ y=>V.ref y.1).length:Int))=some (.ref y.1):=by
 rw [List.length_map]
 have e0:=Int.emod_nonneg z (show (ys.length:Int)≠0 by omega)
 have e1:=Int.emod_lt_of_pos z (show (0:Int) < ys.length by omega)
 have hj:(z % (ys.length:Int)).toNat < ys.length:=by omega
 exact ⟨_,List.getElem_mem hj,gK e0 (by rw [List.getElem?_map,List.getElem?_eq_getElem hj];rfl)⟩
theorem LJ {ts:Ts} {a:Th} (nd:(ts.map (·.1)).Nodup) (h:a∈ts.map (·.1)):(ts.filter λ e=>decide (e.1≠a)).length+1=ts.length:=by
 induction ts with
 | nil=>cases h
 | cons e ts ih =>
   rw [List.map_cons,List.nodup_cons] at nd
   by_cases z:e.1=a
   ·have hn : ∀ x∈ts,decide (x.1≠a)=true:=λ x hx=>decide_eq_true λ w=>nd.1 (by rw [z,<-w];exact List.mem_map.mpr ⟨x,hx,rfl⟩)
    rw [List.filter_cons_of_neg (by simp [z]),List.filter_eq_self.mpr hn]
    rfl
   ·rw [List.filter_cons_of_pos (by simp [z]),List.length_cons,List.length_cons]
    rcases List.mem_cons.mp h with w | w
    ·exact absurd w.symm z
    ·have:=ih nd.2 w
     omega
theorem Rk {f:Addr} {fd:FuncData} (F:G6 K "law" "law" uZ f fd) (B:iK mg) (T:Txt K mg cU cA cB cC cT cF cD cS cI) (NV:g8 P w K mg base 3 cT ["self","many","places"] (GC cT cF cD cS cI)) (LK:bX P w K mg base 4 "let_go" ["store","sheet"] (OR cT cF cD cS cI)) (fD:bX P w K mg base 2 "room_of" ["store"] (BH cT cF cD cS cI)) (cJ:bX P w K mg base 1 "_law_cell_at" ["_law_script","_law_k"] (wC K)) (BV:bX P w K mg base 1 "_law_sizes" ["_law_cell"] GG) (gW:bX P w K mg base 2 "_law_row" ["_law_cell"] GA) (BW:bX P w K mg base 3 "_law_begun" ["_law_store","_law_rows","_law_script"] (LH K cT cF cD cS cI)) (zc:bX P w K mg base 9 "_law_filled" ["_law_store","_law_rows","_law_room","_law_cell"] (LI cT cF cD cS cI)) (wQ:bX P w K mg base 9 "_law_written" ["_law_store","_law_rows","_law_thing","_law_cell"] (LF cT cF cD cS cI)) (k9:bX P w K mg base 8 "_law_made" ["_law_store","_law_rows","_law_sheet","_law_row_here"] (BR cT cF cD cS cI)) (gX:bX P w K mg base 8 "_law_refused" ["_law_store","_law_row_here"] (FY cT cF cD cS cI)) (zd:bX P w K mg base 9 "_law_is_all" ["_law_store","_law_rows"] (LG cT cF cD cS cI)) (aM:bX P w K mg base 4 "_law_alike" ["_law_found","_law_due"] (jt 2)):fO P w K mg base (tY P w) 10 f fd ["_law_script"] (Ec K):=by
 have sc:=Qw
 refine F.okN sc (λ vs H Q E h => ?_) (λ cdv A outer s H vs Q E hr h => ?_)
 ·obtain ⟨a,ns,rfl,_⟩:=h;rfl
 ·obtain ⟨a,ns,rfl,hS,hlen,Ct,hO,k⟩:=h
  have hu:=gi hr
  refine ⟨_,(@ah _ _ _ _ _ (@dW _ _ _ _ _ _ (@az _ _ _ _ _ _ _ _ _ _ _ BV (hr.mono (by omega)) (by rfl) aB (@aa _ _ _ _ _ (@az _ _ _ _ _ _ _ _ _ _ _ cJ (hr.mono (by omega)) (by rfl) aB (@aa _ _ _ _ _ (@ao _ 0 _ _ (by walk_at "v")) (@aa _ _ _ _ _ (@aj _ _ _ _) (@ai _) (by rfl)) (by rfl)) (by decide) (by rfl) (by rfl)) (@ai _) (by rfl)) (by decide) (by rfl) (by rfl)) (@Pf _ _ _ _ _ _ rfl (@B8 _ _ _ _ _ (@fF _ _ 1 _ sc.nd rfl (by walk_at "o2") (by walk_at "o4")) (@B8 _ _ _ _ _ (@fF _ _ 2 _ sc.nd rfl (by walk_at "o2") (by walk_at "o4")) (@Mg _) (by rfl)) (by rfl)) (by rfl) (by rfl)) (by rfl) (by rfl) (by rfl)) (@ah _ _ _ _ _ (@aJ _ _ 3 _ _ _ _ sc.nd rfl (by walk_at "o2") (@n5 _ _ _ _ _ _ _ _ _ _ _ _ T.aW NV (hr.mono (by omega)) (by rfl) aB (@aa _ _ _ _ _ (@ao _ 1 _ _ (by walk_at "v")) (@aa _ _ _ _ _ (@ao _ 2 _ _ (by walk_at "v")) (@ai _) (by rfl)) (by rfl)) (by decide) (by rfl) (by rfl)) (by rfl) (by walk_at "o4")) (@ah _ _ _ _ _ (@aJ _ _ 4 _ _ _ _ sc.nd rfl (by walk_at "o2") (@Js _ _) (by rfl) (by walk_at "o4")) (@ah _ _ _ _ _ (@aJ _ _ 5 _ _ _ _ sc.nd rfl (by walk_at "o2") (@au _ _ _ _ _ _ _ _ aT (@au _ _ _ _ _ _ _ _ iJ (@ao _ 1 _ _ (by walk_at "v")) (@aj _ _ _ _)) (@ao _ 2 _ _ (by walk_at "v"))) (by rfl) (by walk_at "o4")) (@ah _ _ _ _ _ (@bG _ _ _ _ (@az _ _ _ _ _ _ _ _ _ _ _ BW (hr.mono (by omega)) (by rfl) aB (@aa _ _ _ _ _ (@ao _ 3 _ _ (by walk_at "v")) (@aa _ _ _ _ _ (@ao _ 4 _ _ (by walk_at "v")) (@aa _ _ _ _ _ (@ao _ 0 _ _ (by walk_at "v")) (@ai _) (by rfl)) (by rfl)) (by rfl)) (by decide) (by rfl) (by rfl)) (by rfl)) (@ah _ _ _ _ _ (@aR _ _ _ _ _ _ _ _ (@b9 _ _ _ _ (@aY _ _ _ (@az _ _ _ _ _ _ _ _ _ _ _ zc (hr.mono (by omega)) (by rfl) aB (@aa _ _ _ _ _ (@ao _ 3 _ _ (by walk_at "v")) (@aa _ _ _ _ _ (@ao _ 4 _ _ (by walk_at "v")) (@aa _ _ _ _ _ (@ao _ 5 _ _ (by walk_at "v")) (@aa _ _ _ _ _ (@az _ _ _ _ _ _ _ _ _ _ _ cJ (hr.mono (by omega)) (by rfl) aB (@aa _ _ _ _ _ (@ao _ 0 _ _ (by walk_at "v")) (@aa _ _ _ _ _ (@aj _ _ _ _) (@ai _) (by rfl)) (by rfl)) (by decide) (by rfl) (by rfl)) (@ai _) (by rfl)) (by rfl)) (by rfl)) (by rfl)) (by decide) (by rfl) (by rfl)) (by intro _;rfl))) (@ak _ _ _ (@aC _ _ _ _ (@bY _ _ _ _))) (@aE _)) (@ah _ _ _ _ _ (@aJ _ _ 6 _ _ _ _ sc.nd rfl (by walk_at "o2") (@ao _ 5 _ _ (by walk_at "v")) (by rfl) (by walk_at "o4")) (@ah _ _ _ _ _ (@jY _ _ _ _ _ _ _ _ PassesOwn.never rfl (@nQ _ _ _ _ (@j3 _ _ _ _ _ _ _ _ _ _ (uK (K:=K) rfl) (@ao _ 0 _ _ (by walk_at "v")) (@ly _ _ _ (@aj _ _ _ _)) (@ly _ _ _ (@aj _ _ _ _)))) (@fF _ _ 7 _ sc.nd rfl (by walk_at "o2") (by walk_at "o4")) (@ah _ _ _ _ _ (@aJ _ _ 8 _ _ _ _ sc.nd rfl (by walk_at "o2") (@bw _ _ _ _ _ _ _ _ _ (rA rfl) (by rfl) B.list bZ (@aa _ _ _ _ _ (@ao _ 4 _ _ (by walk_at "v")) (@ai _) (by rfl)) (by decide) (by decide) (by rfl) (by rfl)) (by rfl) (by walk_at "o4")) (@ah _ _ _ _ _ (@aJ _ _ 9 _ _ _ _ sc.nd rfl (by walk_at "o2") (@bB _ _ _ _ _ _ _ aU (@ao _ 8 _ _ (by walk_at "v")) (@au _ _ _ _ _ _ _ _ aN (@au _ _ _ _ _ _ _ _ aN (@au _ _ _ _ _ _ _ _ Aq (@ao _ 7 _ _ (by walk_at "v")) (@aj _ _ _ _)) (@aj _ _ _ _)) (@aL _ _ _ _ _ _ _ _ _ bD (by rfl) B.len dX (@aa _ _ _ _ _ (@ao _ 8 _ _ (by walk_at "v")) (@ai _) (by rfl)) (by decide) (by decide) (by rfl) (by rfl))) (λ _ _=>rfl)) (by rfl) (by walk_at "o4")) (@ak _ _ _ (@aR _ _ _ _ _ _ _ _ (@PW.pt _ _ _ (@pw_or _ _ _ _ _ _ _ (@aX _ _ _ _ _ _ _ _ RW (@au _ _ _ _ _ _ _ _ aN (@ao _ 7 _ _ (by walk_at "v")) (@aj _ _ _ _)) (@aj _ _ _ _) (bf _)) (@pw_or1 _ _ _ _ (@aX _ _ _ _ _ _ _ _ iQ (@bB _ _ _ _ _ _ _ aU (@ao _ 9 _ _ (by walk_at "v")) (@aj _ _ _ _) (λ _ _=>rfl)) (@dU _ _ _ _) (bf _))))) (@ak _ _ _ (@aR _ _ _ _ _ _ _ _ (@b9 _ _ _ _ (@aY _ _ _ (@az _ _ _ _ _ _ _ _ _ _ _ wQ (hr.mono (by omega)) (by rfl) aB (@aa _ _ _ _ _ (@ao _ 3 _ _ (by walk_at "v")) (@aa _ _ _ _ _ (@ao _ 4 _ _ (by walk_at "v")) (@aa _ _ _ _ _ (@ao _ 9 _ _ (by walk_at "v")) (@aa _ _ _ _ _ (@au _ _ _ _ _ _ _ _ bW (@ao _ 7 _ _ (by walk_at "v")) (@aj _ _ _ _)) (@ai _) (by rfl)) (by rfl)) (by rfl)) (by rfl)) (by decide) (by rfl) (by rfl)) (by intro _;rfl))) (@ak _ _ _ (@aC _ _ _ _ (@bY _ _ _ _))) (@aE _))) (@ah _ _ _ _ _ (@aR _ _ _ _ _ _ _ _ (@PW.pt _ _ _ (@pw_or _ _ _ _ _ _ _ (@b9 _ _ _ _ (@aY _ _ _ (@az _ _ _ _ _ _ _ _ _ _ _ aM (hr.mono (by omega)) (by rfl) aB (@aa _ _ _ _ _ (@az _ _ _ _ _ _ _ _ _ _ _ LK (hr.mono (by omega)) (by rfl) aB (@aa _ _ _ _ _ (@ao _ 3 _ _ (by walk_at "v")) (@aa _ _ _ _ _ (@bB _ _ _ _ _ _ _ aU (@ao _ 9 _ _ (by walk_at "v")) (@aj _ _ _ _) (λ _ _=>rfl)) (@ai _) (by rfl)) (by rfl)) (by decide) (by rfl) (by rfl)) (@aa _ _ _ _ _ (@aj _ _ _ _) (@ai _) (by rfl)) (by rfl)) (by decide) (by rfl) (by rfl)) (by intro _;rfl))) (@pw_or1 _ _ _ _ (@b9 _ _ _ _ (@aY _ _ _ (@az _ _ _ _ _ _ _ _ _ _ _ aM (hr.mono (by omega)) (by rfl) aB (@aa _ _ _ _ _ (@az _ _ _ _ _ _ _ _ _ _ _ fD (hr.mono (by omega)) (by rfl) aB (@aa _ _ _ _ _ (@ao _ 3 _ _ (by walk_at "v")) (@ai _) (by rfl)) (by decide) (by rfl) (by rfl)) (@aa _ _ _ _ _ (@aj _ _ _ _) (@ai _) (by rfl)) (by rfl)) (by decide) (by rfl) (by rfl)) (by intro _;rfl)))))) (@ak _ _ _ (@aC _ _ _ _ (@bY _ _ _ _))) (@aE _)) (@ah _ _ _ _ _ (@bG _ _ _ _ (@J5 _ _ _ _ _ _ _ hu (@ao _ 4 _ _ (by walk_at "v")) (@ao _ 9 _ _ (by walk_at "v")) ⟨rfl,rfl,rfl,rfl⟩) (by rfl)) (@ah _ _ _ _ _ (@aJ _ _ 6 _ _ _ _ sc.nd rfl (by walk_at "o2") (@au _ _ _ _ _ _ _ _ aT (@ao _ 6 _ _ (by walk_at "v")) (@aj _ _ _ _)) (by rfl) (by walk_at "o4")) (@ak _ _ _ (@aR _ _ _ _ _ _ _ _ (@PW.pt _ _ _ (@pw_or _ _ _ _ _ _ _ (@b9 _ _ _ _ (@aY _ _ _ (@az _ _ _ _ _ _ _ _ _ _ _ k9 (hr.mono (by omega)) (by rfl) aB (@aa _ _ _ _ _ (@ao _ 3 _ _ (by walk_at "v")) (@aa _ _ _ _ _ (@ao _ 4 _ _ (by walk_at "v")) (@aa _ _ _ _ _ (@ao _ 6 _ _ (by walk_at "v")) (@aa _ _ _ _ _ (@az _ _ _ _ _ _ _ _ _ _ _ gW (hr.mono (by omega)) (by rfl) aB (@aa _ _ _ _ _ (@ao _ 7 _ _ (by walk_at "v")) (@ai _) (by rfl)) (by decide) (by rfl) (by rfl)) (@ai _) (by rfl)) (by rfl)) (by rfl)) (by rfl)) (by decide) (by rfl) (by rfl)) (by intro _;rfl))) (@pw_or1 _ _ _ _ (@b9 _ _ _ _ (@aY _ _ _ (@az _ _ _ _ _ _ _ _ _ _ _ gX (hr.mono (by omega)) (by rfl) aB (@aa _ _ _ _ _ (@ao _ 3 _ _ (by walk_at "v")) (@aa _ _ _ _ _ (@jh _ _ _ _ (@aa _ _ _ _ _ (@aj _ _ _ _) (@aa _ _ _ _ _ (@aj _ _ _ _) (@aa _ _ _ _ _ (@aj _ _ _ _) (@aa _ _ _ _ _ (@aj _ _ _ _) (@ai _) (by rfl)) (by rfl)) (by rfl)) (by rfl))) (@ai _) (by rfl)) (by rfl)) (by decide) (by rfl) (by rfl)) (by intro _;rfl)))))) (@ak _ _ _ (@aC _ _ _ _ (@bY _ _ _ _))) (@aE _)))))))))) (by intro _;rfl)) (@ak _ _ _ (@aC _ _ _ _ (@pO _ _ _ _ _ _ _ (@az _ _ _ _ _ _ _ _ _ _ _ zd (hr.mono (by omega)) (by rfl) aB (@aa _ _ _ _ _ (@ao _ 3 _ _ (by walk_at "v")) (@aa _ _ _ _ _ (@ao _ 4 _ _ (by walk_at "v")) (@ai _) (by rfl)) (by rfl)) (by decide) (by rfl) (by rfl)) (@mE _ _ _ _ _ (@az _ _ _ _ _ _ _ _ _ _ _ aM (hr.mono (by omega)) (by rfl) aB (@aa _ _ _ _ _ (@az _ _ _ _ _ _ _ _ _ _ _ fD (hr.mono (by omega)) (by rfl) aB (@aa _ _ _ _ _ (@ao _ 3 _ _ (by walk_at "v")) (@ai _) (by rfl)) (by decide) (by rfl) (by rfl)) (@aa _ _ _ _ _ (@aj _ _ _ _) (@ai _) (by rfl)) (by rfl)) (by decide) (by rfl) (by rfl)))))))))))))),?_⟩
  obtain ⟨L,hL,hs⟩:=Hj hS hO
  clear hO
  refine aD λ M1 K1 => ?_
  walk_at "ge"
  refine ⟨a,ns,0,rfl,by decide,hS,?_⟩
  walk_at "ge"
  generalize ns.getD (Int.toNat 0) 0=first
  refine ⟨first,L,rfl,hL,λ p0 H1 hl1 => ?_⟩
  obtain ⟨z1,z2,z3,z4,z5⟩:=FU first
  obtain ⟨n,hn⟩ : ∃ n:Nat,(sizesOf first).1=n:=⟨_,(Int.toNat_of_nonneg (by omega)).symm⟩
  obtain ⟨q,hq⟩ : ∃ q:Nat,(sizesOf first).2=q:=⟨_,(Int.toNat_of_nonneg z3).symm⟩
  rw [hn,hq] at hl1 z5
  rw [hn] at z1 z2
  rw [hq] at z3 z4
  clear hn hq
  walk_at "ge"
  refine Td (hl1.get mS) ?_
  walk_at "ge"
  refine K1.use ?_
  walk_at "cl"
  clear K1
  refine aD λ M1 K1 => ?_
  walk_at "ge"
  intro st dx y1 y2 y3
  refine ⟨st,dx,n,q,_,rfl,hl1.make y1 y2 y3,by omega,by omega,λ fr yY l r s' di BI mk0 sh B3 pl rdd fi B4 fd ho H2 hl2=>⟨rfl,?_⟩⟩
  clear y1 y2 y3
  walk_at "ge"
  refine K1.use ?_
  walk_at "cl"
  clear K1
  obtain ⟨Rl,Rm⟩ : ∃ S,S=S0 st dx fr yY l r s' di BI mk0 sh B3 pl rdd fi B4 fd ho n q:=⟨_,rfl⟩
  rw [<-Rm] at hl2
  refine aD λ M1 K1 => ?_
  walk_at "ge"
  refine Led.alloc hl2 λ rd H6 _ nE _ => ?_
  walk_at "ge"
  refine K1.use ?_
  walk_at "cl"
  clear K1
  obtain ⟨M0,eM0⟩ : ∃ M0:Cells,(p0,HO.tup [.int (n:Nat),.int (q:Nat)])::L=M0:=⟨_,rfl⟩
  rw [eM0] at nE
  have fX:Led H6 (bh cT cF cD cS cI Rl ([(rd,HO.dT (cX []))]++M0)):=St.push nE
  have OX:Lt n q Rl [] M0:=by rw [Rm];exact Lt.laid (by omega) (by omega) (by omega)
  have eb0:Rl.b=st:=by rw [Rm];rfl
  have ef0:Rl.fs = []:=by rw [Rm];rfl
  have eh0:Rl.hs = []:=by rw [Rm];rfl
  have em0:Rl.made=0:=by rw [Rm];rfl
  have RG : ∀ H',Led H' M0->fE K H' a (ns.map V.int):=λ H' h=>hs.seq (by rw [<-eM0] at h;exact h.tail)
  clear nE hl2 hl1 Rm
  refine aD λ M1 K1 => ?_
  walk_at "ge"
  refine K1.use ?_
  walk_at "cl"
  clear K1
  refine aD λ M1 K1 => ?_
  walk_at "ge"
  refine ⟨Rl,n,q,rd,a,ns,M0,by rw [eb0];rfl,fX,OX,ef0,RG,λ S1 ts1 N1 H7 b1 h1 m1 t1 t2 Rg lU => ?_⟩
  rw [eb0] at b1
  rw [eh0] at h1
  rw [em0] at m1
  walk_at "ge"
  refine K1.use ?_
  walk_at "cl"
  clear K1 fX
  have sq:fE K H7 a (ns.map V.int):=RG _ (Led.right (Led.right (St.rest lU)))
  refine aD λ M1 K1 => ?_
  walk_at "ge"
  refine ⟨a,ns,2,rfl,by decide,sq,?_⟩
  walk_at "ge"
  refine ⟨S1,n,q,rd,_,ts1,N1++M0,by rw [b1];rfl,lU,Rg,h1,m1,t1,by omega,λ S2 IC N2 H8 b2 m2 h2 o2 l2 wN gZ => ?_⟩
  rw [b1] at b2
  walk_at "ge"
  refine K1.use ?_
  walk_at "cl"
  clear K1 lU sq
  refine aD λ M1 K1 => ?_
  walk_at "ge"
  refine K1.use ?_
  walk_at "cl"
  clear K1
  have e5:N2++(N1++M0)=(N2++N1)++M0:=(List.append_assoc ..).symm
  rw [e5] at wN gZ
  generalize N2++N1=N3 at wN gZ
  clear e5 Rg
  have sq:fE K H8 a (ns.map V.int):=RG _ (Led.right (Led.right (St.rest gZ)))
  refine aD λ M1 K1 => ?_
  refine forL λ Lr0 rR => ?_
  walk_at "ge"
  obtain ⟨cs,hcs,hcl⟩:=JU ns (some 3) (some 40)
  have hmem : ∀ x∈cs,x∈ns:=λ x hx=>by
   have h1:V.int x∈j4 (ns.map V.int) (some 3) (some 40):=by rw [hcs];exact List.mem_map.mpr ⟨x,hx,rfl⟩
   unfold j4 at h1
   have h2:=List.mem_of_mem_drop (List.mem_of_mem_take h1)
   obtain ⟨y,hy,e⟩:=List.mem_map.mp h2
   cases e
   exact hy
  refine S5 sq λ sl hsl => ?_
  rw [hcs]
  refine ⟨sl,rfl,⟨_,fE.of iP⟩,rR.use ?_⟩
  have FP:=gZ.new (o := .lst (cs.map V.int)) hsl
  generalize upd H8 sl (.lst (cs.map V.int))=H9 at FP ⊢
  have LL:Led H9 (bh cT cF cD cS cI S2 ([(rd,HO.dT (cX IC))]++(((sl,HO.lst (cs.map V.int))::N3)++M0))):=St.gU (St.push FP) (List.Perm.swap _ _ _)
  have Ri:Lt n q S2 IC (((sl,HO.lst (cs.map V.int))::N3)++M0):=wN.mono λ x hx=>mC hx
  clear rR sq gZ hsl FP hcs wN
  walk_at "cl"
  have Uc:IC.length<=600:=by omega
  refine Oj (cs.map V.int) (λ i σ H' => ∃ (S:SS) (ts:Ts) (N:Cells) (md:Int) (v7 v8 v9:Option V),S.b=st/\S.made=md/\(S.hs.length:Int)=(n:Int) - 1+(q:Int)/\(∀ e∈S.hs,e.2=1)/\ts.length=IC.length/\Lt n q S ts (N++M0)/\Led H' (bh cT cF cD cS cI S ([(rd,HO.dT (cX ts))]++(N++M0)))/\(sl,HO.lst (cs.map V.int))∈N ∧ σ = [some (.ref a),some (.int (n:Nat)),some (.int (q:Nat)),some (.ref st),some (.ref rd),some (.int ((n:Int) - 1+(q:Int))),some (.int md),v7,v8,v9]) ⟨S2,IC,(sl,HO.lst (cs.map V.int))::N3,_,none,none,none,b2,m2,h2,o2,rfl,Ri,LL,mS,rfl⟩ (λ i σ H' _ h => ?_) ?_ ?_
  ·obtain ⟨S,ts,N,_,_,_,_,_,_,_,_,_,_,hl,RH,_⟩:=h
   exact fE.of (hl.get (St.up (mA (mB RH))))
  ·clear LL K1 k
   rintro i v σ H' hv ⟨S,ts,N,md,v7,v8,v9,q1,q2,q3,q4,q5,lt,hl,RH,rfl⟩
   rw [List.getElem?_map] at hv
   obtain ⟨cell,hcell,rfl⟩:=Option.map_eq_some_iff.mp hv
   have hcb:=Ct cell (hmem cell (List.mem_of_getElem? hcell))
   have nL:=hl.get (St.up mS)
   walk_at "ge"
   refine zM nL hl λ ky ys H2 ey hl2 => ?_
   have hyl:ys.length=ts.length:=by have:=congrArg List.length ey;simpa using this
   obtain ⟨N0,NS⟩ : ∃ N0:Cells,(ky,HO.lst (ys.map λ y=>V.ref y.1))::RE ys=N0:=⟨_,rfl⟩
   have hl3:Led H2 (bh cT cF cD cS cI S ([(rd,HO.dT (cX ts))]++(N0++(N++M0)))):=by
    have h5:=St.rV ((ky,HO.lst (ys.map λ y=>V.ref y.1))::RE ys) hl2
    rw [NS] at h5
    exact St.gU h5 (aF _ _ _)
   have IP:Lt n q S ts (N0++(N++M0)):=lt.mono λ x hx=>mA hx
   have Rh:(ky,HO.lst (ys.map λ y=>V.ref y.1))∈N0:=by rw [<-NS];exact mS
   have i_y : ∀ y∈ys,(y.1,HO.tup (fN y.2))∈N0:=λ y hy=>by rw [<-NS];exact mC (List.mem_map.mpr ⟨y,hy,rfl⟩)
   clear hl hl2 nL lt NS
   have c_k:=hl3.get (St.up (mA (mB Rh)))
   obtain ⟨y,hy,hat⟩:=Ub (ys:=ys) (cell * 48271 % 104729) (by omega)
   have ka:y.2∈ts.map (·.1):=by rw [<-ey];exact List.mem_map.mpr ⟨y,hy,rfl⟩
   have uc:=i_y y hy
   have hpos:(0:Int) < ((ys.map λ y=>V.ref y.1).length:Int):=by rw [List.length_map];omega
   have yW:=hl3.get (St.up (mA (mB uc)))
   obtain ⟨t,th⟩:=y
   have aeQ:IC.length<=600:=Uc
   cases th with
   | file z p =>
     have DB:H2 t=some (.tup [.str (Str.ofString "file"),.str z,.int p]):=yW
     clear yW
     have hne:Str.ofString "file" = Str.ofString "file" := rfl
     walk_at "ge"
     all_goals first | exact absurd hne (by assumption) | skip
     all_goals
      refine ⟨S,n,q,rd,t,.file z p,_,ts,N0++(N++M0),by rw [q1];rfl,hl3,IP,mB uc,ka,by omega,Cw (by decide) hcb,λ S3 F0 N4 H3 p1 p2 p3 p4 IF dh => ?_⟩
      walk_at "ge"
      have e8:N4++(N0++(N++M0))=(N4++(N0++N))++M0:=by simp
      rw [e8] at IF dh
      have tl:F0.length=ts.length:=by have:=congrArg List.length p4;simpa using this
      exact ⟨S3,F0,_,md,_,_,_,p1.trans q1,p3.trans q2,by rw [p2];exact q3,by rw [p2];exact q4,tl.trans q5,IF,dh,mA (mA RH),rfl⟩
   | own m =>
     have DB:H2 t=some (.tup [.str (Str.ofString "own"),.int m]):=yW
     clear yW
     have hne : ¬ Str.ofString "own" = Str.ofString "file" := by decide +kernel
     walk_at "ge"
     all_goals first | exact absurd (by assumption) hne | skip
     ·refine ⟨S,n,q,rd,t,.own m,_,ts,N0++(N++M0),by rw [q1];rfl,hl3,IP,mB uc,ka,by omega,Cw (by decide) hcb,λ S3 F0 N4 H3 p1 p2 p3 p4 IF dh => ?_⟩
      walk_at "ge"
      have e8:N4++(N0++(N++M0))=(N4++(N0++N))++M0:=by simp
      rw [e8] at IF dh
      have tl:F0.length=ts.length:=by have:=congrArg List.length p4;simpa using this
      exact ⟨S3,F0,_,md,_,_,_,p1.trans q1,p3.trans q2,by rw [p2];exact q3,by rw [p2];exact q4,tl.trans q5,IF,dh,mA (mA RH),rfl⟩
     ·obtain ⟨hm,Lf⟩:=IP.held ka
      obtain ⟨e,he,em⟩:=List.mem_map.mp hm
      have RD:e.1=m:=em
      have hm1:(m,(1:Int))∈S.hs:=by
       have:e=(m,1):=Prod.ext RD (q4 e he)
       rw [<-this]
       exact he
      refine ⟨S,n,q,m,1,_,by rw [q1];rfl,hl3,IP.g.mono (λ x hx=>mA hx),by omega,IP.gh.nd,hm1,Lf,λ h=>absurd rfl h,λ _ S3 N4 H3 hE g3 dh => ?_⟩
      clear hl3 c_k DB
      obtain ⟨h31,h32,Vp,_⟩:=hE.hs
      have hdl:=Ly IP.gh.nd hm
      rw [<-h31] at hdl
      walk_at "ge"
      refine ⟨_,_,rfl,.inl (.inr (.inr (.inl ⟨_,rfl,rfl⟩))),?_⟩
      walk_at "ge"
      refine ⟨S3,n,q,_,by rw [Vp,q1];rfl,dh,g3.f.h,g3.n64,g3.pl,g3.q6,by omega,λ N6 H6 fW => ?_⟩
      clear dh
      walk_at "ge"
      rw [show (n:Int) - 1+(q:Int) - (S3.hs.length:Int)=1 by omega]
      refine ⟨_,_,rfl,.inl (.inr (.inr (.inl ⟨_,rfl,rfl⟩))),?_⟩
      have g5:aG S3 n q (N6++(N4++(N0++(N++M0)))):=(IP.g.ended hE).mono λ x hx=>mA (mA hx)
      have IF:=IP.ended hE g5 λ x hx=>mA (mA hx)
      have jW:Led H6 ([(rd,HO.dT (cX ts))]++bh cT cF cD cS cI S3 (N6++(N4++(N0++(N++M0))))):=by
       have h5:Led H6 (bh cT cF cD cS cI S3 ((N6++N4)++([(rd,HO.dT (cX ts))]++(N0++(N++M0))))):=by rw [List.append_assoc];exact fW
       have h6:=St.GH _ _ h5
       rw [List.append_assoc] at h6
       exact h6
      clear fW
      have nL:=jW.get mS
      have aaL:(t,HO.tup (fN (.own m)))∈N6++(N4++(N0++(N++M0))):=mA (mA (mB uc))
      have ID:H6 t=some (.tup ((jx (.own m)).map kV)):=by rw [rT];exact jW.get (mA (St.up aaL))
      obtain ⟨e2,uP,ee2⟩:=List.mem_map.mp ka
      have aaM:e2.1 = .own m:=ee2
      have hv:=BL IP.nd uP
      rw [aaM] at hv
      walk_at "ge"
      refine ⟨MU nL,?_⟩
      walk_at "ge"
      refine Qv nL ID hv ?_
      rw [Lw]
      have hdc:=LJ IP.nd ka
      obtain ⟨F0,aaN⟩ : ∃ F0,(ts.filter λ e=>decide (e.1 ≠ .own m))=F0:=⟨_,rfl⟩
      rw [aaN] at IF hdc ⊢
      have qQ:Led (upd H6 rd (.dT (cX F0))) ([(rd,HO.dT (cX F0))]++bh cT cF cD cS cI S3 (N6++(N4++(N0++(N++M0))))):=jW.r9 0 rfl rfl rfl
      generalize upd H6 rd (.dT (cX F0))=H7 at qQ ⊢
      clear jW nL ID
      have nE:=St.rV _ qQ
      clear qQ
      walk_at "ge"
      refine ⟨cell,_,rfl,Nat.le_trans hcb (by decide),nE,λ r0 H8 gY => ?_⟩
      generalize FZ:rowOf cell=row at gY
      have h4:row.length=4:=by rw [<-FZ];exact lF _
      clear FZ nE
      have fX:Led H8 (bh cT cF cD cS cI S3 ([(rd,HO.dT (cX F0))]++((r0,HO.lst (row.map V.int))::(N6++(N4++(N0++(N++M0))))))):=St.gU (St.push gY) (List.Perm.swap _ _ _)
      clear gY
      walk_at "ge"
      refine ⟨S3,n,q,rd,r0,row,F0,_,by rw [Vp,q1,h32,q2];rfl,fX,IF.mono (λ x hx=>mC hx),mS,h4,by omega,by omega,by omega,λ S4 N7 H9 w1 w2 w3 lt6 lU => ?_⟩
      have aeR:S4.hs.length=S3.hs.length+1:=by rw [w2,List.length_append];rfl
      walk_at "ge"
      rename_i r1 UN _ gZ _
      have DE:=St.push gZ
      refine ⟨S4,n,q,r1,[0,0,0,0],_,by rw [w1,Vp,q1];rfl,DE,lt6.g.mono (λ x hx=>mC (mA hx)),lt6.gh,mS,rfl,by omega,by omega,λ N8 H11 FP => ?_⟩
      clear DE gZ lU fX
      walk_at "ge"
      obtain ⟨N9,Vm⟩ : ∃ N9:Cells,N8++((r1,HO.lst [V.int 0,V.int 0,V.int 0,V.int 0])::(N7++((r0,HO.lst (row.map V.int))::(N6++(N4++(N0++N))))))=N9:=⟨_,rfl⟩
      have e9:N9++M0=(N8++[(r1,HO.lst [V.int 0,V.int 0,V.int 0,V.int 0])])++(N7++((r0,HO.lst (row.map V.int))::(N6++(N4++(N0++(N++M0)))))):=by rw [<-Vm];simp
      have LL:=St.gU (M':=[(rd,HO.dT (cX (F0++[(.own (S3.made+1),r0,row)])))]++(N9++M0)) FP (by
       rw [e9]
       have e10 : ∀ X:Cells,N8++((r1,HO.lst [V.int 0,V.int 0,V.int 0,V.int 0])::X)=(N8++[(r1,HO.lst [V.int 0,V.int 0,V.int 0,V.int 0])])++X:=λ X=>by simp
       refine (List.Perm.of_eq (e10 _)).trans (aF _ _ _))
      refine ⟨S4,_,N9,_,_,_,_,w1.trans (Vp.trans q1),w3,by omega,λ e he => ?_,?_,by rw [e9];exact lt6.mono λ x hx=>mA hx,LL,?_,by rw [h32,q2];rfl⟩
      ·rw [w2] at he
       rcases List.mem_append.mp he with he | he
       ·rw [h31] at he
        exact q4 e (List.mem_filter.mp he).1
       ·rw [List.mem_singleton.mp he]
      ·rw [List.length_append]
       show F0.length+1=_
       omega
      ·rw [<-Vm]
       exact mA (mC (mA (mC (mA (mA (mA RH))))))
  ·clear LL
   rintro σ H' ⟨S,ts,N,md,v7,v8,v9,q1,q2,q3,q4,q5,lt,hl,RH,rfl⟩
   walk_at "ge"
   refine K1.use ?_
   walk_at "cl"
   clear K1
   walk_at "ge"
   refine ⟨S,n,q,rd,ts,_,by rw [q1];rfl,hl,lt,by omega,λ S3 N4 H3 p1 p2 p3 IF dh => ?_⟩
   walk_at "ge"
   refine ⟨S3,n,q,_,by rw [p1,q1];rfl,dh,IF.g.f.h,IF.g.n64,IF.g.pl,IF.g.q6,by rw [p2];omega,λ N6 H6 fW => ?_⟩
   walk_at "ge"
   rw [show (n:Int) - 1+(q:Int) - (S3.hs.length:Int)=0 by rw [p2];omega]
   refine ⟨_,_,rfl,.inl (.inr (.inr (.inl ⟨_,rfl,rfl⟩))),?_⟩
   walk_at "ge"
   exact k _
end
section
variable {P:Program} {w:World} {K:PySem.W.Frag} {mg:Str->Option Value} {base:Heap} {cU cA cB cC cT cF cD cS cI:Addr}
theorem Rn {f:Addr} {fd:FuncData} (F:G6 K "law" "law" uZ f fd) (B:iK mg) (T:Txt K mg cU cA cB cC cT cF cD cS cI):fO P w K mg base (tY P w) 10 f fd ["_law_script"] (Ec K):=by
 have lG:=KR (P:=P) (w:=w) (base:=base) T.u5 B T
 have DJ:=Ij (P:=P) (w:=w) (base:=base) T.su B T
 have LM:=Ii (P:=P) (w:=w) (base:=base) T.sj B T
 have LN:=Nf (P:=P) (w:=w) (base:=base) T.xu B T
 have NW:=Ik (P:=P) (w:=w) (base:=base) T.sr B T (Ng T.AE B)
 have NX:=KL (P:=P) (w:=w) (base:=base) T.AB T
 have LO:=Ni (P:=P) (w:=w) (base:=base) T.sy T
 have LP:=Im (P:=P) (w:=w) (base:=base) T.u9 B T
 have Ud:=QU (P:=P) (w:=w) (base:=base) T.u7 B T LO
 have LQ:=Nj (P:=P) (w:=w) (base:=base) T.pV B T
 have NY:=Ip (P:=P) (w:=w) (base:=base) T.kD B T
 have Ro:=Dt (P:=P) (w:=w) (base:=base) T.pW B T
 have Rp:=Nk (P:=P) (w:=w) (base:=base) T.sA B T Ro
 have LR:=Du (P:=P) (w:=w) (base:=base) T.pX B T Rp
 have NZ:=K0 (P:=P) (w:=w) (base:=base) T.oz B T LR
 have GJ:=Iw (P:=P) (w:=w) (base:=base) T.vc B T LR
 have Oa:=Dz (P:=P) (w:=w) (base:=base) T.Ej T
 have LS:=Nl (P:=P) (w:=w) (base:=base) T.AF T (KH T.u0 B T) NX
 have aaO:=Ih (P:=P) (w:=w) (base:=base) T.mU T
 have Ue:=FL (P:=P) (w:=w) (base:=base) T.Ht T (Dq T.ow T) LM aaO Ud NZ Oa LS
 have LU:=Np (P:=P) (w:=w) (base:=base) T.AG B T (yU T.lH T lG) DJ LO (Ig T.xw B T) Oa Ue
 have F1:=Nu (P:=P) (w:=w) (base:=base) T.Hv B T DJ LP
 have OY:=Q4 (P:=P) (w:=w) (base:=base) T.CF B T LN F1 LU
 have IG:=FQ (P:=P) (w:=w) (base:=base) T.Hu T LQ GJ Oa
 have Ob:=Lj (P:=P) (w:=w) (base:=base) T.MZ B T lG LN IG LU
 have GK:=K3 (P:=P) (w:=w) (base:=base) T.Hx B T
 have pM:=Dw (P:=P) (w:=w) (base:=base) T.Hy B T GK 2
 have g_num:=QW (P:=P) (w:=w) (base:=base) T.M4 T
 have g_row:=QX (P:=P) (w:=w) (base:=base) T.M5 B T g_num
 have LV:=FD (P:=P) (w:=w) (base:=base) T.CH B
 have Ug:=Rf (P:=P) (w:=w) (base:=base) T.Hw B T lG LM NY GJ Oa
 have Uh:=Q2 (P:=P) (w:=w) (base:=base) T.CG B T lG LQ LS
 have Ui:=Q3 (P:=P) (w:=w) (base:=base) T.J8 B T Uh
 have Uj:=DH (P:=P) (w:=w) (base:=base) T.AH B T lG Ob GK pM
 have LW:=LD (P:=P) (w:=w) (base:=base) T.Ka B T lG OY pM
 have OZ:=NP (P:=P) (w:=w) (base:=base) T.CJ B T OY
 have Rq:=NQ (P:=P) (w:=w) (base:=base) T.CK B T NW Uj g_num (NG T.CI B T)
 have Uk:=NR (P:=P) (w:=w) (base:=base) T.Ek B T LM Ug Uj pM
 have Ul:=NT (P:=P) (w:=w) (base:=base) T.HA B T (NJ T.AD B T) LV (NI T.J9 B T) g_row
 have Um:=NU (P:=P) (w:=w) (base:=base) T.El B T F1 LW OZ g_row pM
 exact Rk F B T (Lg T.MW T (KG T.J7 T) (KI T.Qz T) (Il T.MX T) (KW T.MY T)) Ui F1 LV (Lq T.Hz T) g_row Ul Um Rq LW OZ Uk pM
end
end My
def PySem.W.Fast.tw7808062934497728444:Unit:=()
def PySem.W.Fast.tw9327731347499647413:Unit:=()
def PySem.W.Fast.tw5332695318743224765:Unit:=()
def PySem.W.Fast.tw3251524160089155537:Unit:=()
def PySem.W.Fast.tw14956876915134601759:Unit:=()
def PySem.W.Fast.tw7389005673200159809:Unit:=()
def PySem.W.Fast.tw7506199872697750808:Unit:=()
def PySem.W.Fast.tw14896996896653759394:Unit:=()
def PySem.W.Fast.tw14217653084639652405:Unit:=()
def PySem.W.Fast.tw18074079735167312013:Unit:=()
def PySem.W.Fast.tw1918061425395126350:Unit:=()
def PySem.W.Fast.tw12230970081098812142:Unit:=()
def PySem.W.Fast.tw9864625105366820074:Unit:=()
def PySem.W.Fast.tw12680582709725564215:Unit:=()
def PySem.W.Fast.tw14589634126497331436:Unit:=()
def PySem.W.Fast.tw2707006645496956273:Unit:=()
def PySem.W.Fast.tw6940330383004500581:Unit:=()
def PySem.W.Fast.tw7448795211431741520:Unit:=()
def PySem.W.Fast.tw3940462485110310221:Unit:=()
def PySem.W.Fast.tw13058333460822893003:Unit:=()
def PySem.W.Fast.tw8511283033198548329:Unit:=()
def PySem.W.Fast.tw14345936032620670948:Unit:=()
def PySem.W.Fast.tw8602719882037293288:Unit:=()
def PySem.W.Fast.tw6882025651201692439:Unit:=()
def PySem.W.Fast.tw7745093785418930116:Unit:=()
def PySem.W.Fast.tw17429945046397950327:Unit:=()
def PySem.W.Fast.tw11350145561710302221:Unit:=()
def PySem.W.Fast.tw15075588805062892490:Unit:=()
def PySem.W.Fast.tw546888990190459459:Unit:=()
def PySem.W.Fast.tw3476622090287392309:Unit:=()
def PySem.W.Fast.tw5101125250448263722:Unit:=()
def PySem.W.Fast.tw5780748193546892384:Unit:=()
def PySem.W.Fast.tw8768600822972769892:Unit:=()
def PySem.W.Fast.tw5913468140354712858:Unit:=()
def PySem.W.Fast.tw17129466238529985724:Unit:=()
def PySem.W.Fast.tw15438086984146689607:Unit:=()
def PySem.W.Fast.tw640635924711778209:Unit:=()
def PySem.W.Fast.tw11054903682126517792:Unit:=()
def PySem.W.Fast.tw16558233145738914386:Unit:=()
def PySem.W.Fast.tw12860081406951268888:Unit:=()
def PySem.W.Fast.tw7372223904195202650:Unit:=()
def PySem.W.Fast.tw13329516919242061357:Unit:=()
def PySem.W.Fast.tw13252047977748197740:Unit:=()
def PySem.W.Fast.tw7917359010886425485:Unit:=()
def PySem.W.Fast.tw2429752602067869275:Unit:=()
def PySem.W.Fast.tw13851160689830647977:Unit:=()
def PySem.W.Fast.tw12052773573254376434:Unit:=()
def PySem.W.Fast.tw10849591652993673:Unit:=()
def PySem.W.Fast.tw15013008755439555813:Unit:=()
def PySem.W.Fast.tw8816038208272266994:Unit:=()
def PySem.W.Fast.tw9535266155029000305:Unit:=()
def PySem.W.Fast.tw15560023222237103075:Unit:=()
def PySem.W.Fast.tw3856507346027376445:Unit:=()
def PySem.W.Fast.tw5873042284908394195:Unit:=()
def PySem.W.Fast.tw4537093874494736055:Unit:=()
def PySem.W.Fast.tw16869051160434851033:Unit:=()
def PySem.W.Fast.tw9445987619374538780:Unit:=()
def PySem.W.Fast.tw4756664709321139398:Unit:=()
def PySem.W.Fast.tw2823244918811806923:Unit:=()
def PySem.W.Fast.tw7013807597675337859:Unit:=()
def PySem.W.Fast.tw17724123014896215763:Unit:=()
def PySem.W.Fast.tw17467497579774079933:Unit:=()
def PySem.W.Fast.tw12947650722165398426:Unit:=()
def PySem.W.Fast.tw13126837098931724877:Unit:=()
def PySem.W.Fast.tw18101529686072136216:Unit:=()
def PySem.W.Fast.tw7403919421698719174:Unit:=()
def PySem.W.Fast.tw11471268543270115029:Unit:=()
def PySem.W.Fast.tw12405709312306234116:Unit:=()
def PySem.W.Fast.tw14339856078171395640:Unit:=()
def PySem.W.Fast.tw12015957655436403594:Unit:=()
def PySem.W.Fast.tw13862760170557341921:Unit:=()
def PySem.W.Fast.tw3141802210709803317:Unit:=()
def PySem.W.Fast.tw7312977742465813537:Unit:=()
def PySem.W.Fast.tw17199028237198616257:Unit:=()
def PySem.W.Fast.tw5575086716213309502:Unit:=()
def PySem.W.Fast.tw1379198055068848460:Unit:=()
def PySem.W.Fast.tw8165930481310392559:Unit:=()
def PySem.W.Fast.tw4051451134677581440:Unit:=()
def PySem.W.Fast.tw1857030010765081642:Unit:=()
def PySem.W.Fast.tw16016950574868015537:Unit:=()
def PySem.W.Fast.tw16593419558782492115:Unit:=()
def PySem.W.Fast.tw5081419211029711011:Unit:=()
def PySem.W.Fast.tw6749134369212631675:Unit:=()
def PySem.W.Fast.tw14311859048516053974:Unit:=()
def PySem.W.Fast.tw1850668273816060113:Unit:=()
def PySem.W.Fast.tw17009562053608081564:Unit:=()
def PySem.W.Fast.tw5305994646558385106:Unit:=()
def PySem.W.Fast.tw8233581182276803698:Unit:=()
def PySem.W.Fast.tw12212928267556061180:Unit:=()
def PySem.W.Fast.tw3548951878448421677:Unit:=()
def PySem.W.Fast.tw14181351965616473515:Unit:=()
def PySem.W.Fast.tw14707992716175108648:Unit:=()
def PySem.W.Fast.tw11950645283507699496:Unit:=()
def PySem.W.Fast.tw13106210098205928929:Unit:=()
def PySem.W.Fast.tw7897171680896280961:Unit:=()
def PySem.W.Fast.tw976874096886591405:Unit:=()
def PySem.W.Fast.tw14315193554102432826:Unit:=()
def PySem.W.Fast.tw11225260561301543718:Unit:=()
def PySem.W.Fast.tw8655082687269569591:Unit:=()
def PySem.W.Fast.tw2289271313446358627:Unit:=()
def PySem.W.Fast.tw14377484888059172560:Unit:=()
def PySem.W.Fast.tw17618743452738336342:Unit:=()
def PySem.W.Fast.tw18198628851068123124:Unit:=()
def PySem.W.Fast.tw11132461634664587142:Unit:=()
def PySem.W.Fast.tw17206256574849754967:Unit:=()
def PySem.W.Fast.tw7361042090357463070:Unit:=()
def PySem.W.Fast.tw2246077133366208620:Unit:=()
def PySem.W.Fast.tw17676098483975283126:Unit:=()
def PySem.W.Fast.tw12312281568352982336:Unit:=()
def PySem.W.Fast.tw16111483647709383347:Unit:=()
def PySem.W.Fast.tw12812159325537384621:Unit:=()
def PySem.W.Fast.tw7648052011396582241:Unit:=()
def PySem.W.Fast.tw2616486168011898011:Unit:=()
def PySem.W.Fast.tw18175675977573920167:Unit:=()
def PySem.W.Fast.tw14874897766616672528:Unit:=()
def PySem.W.Fast.tw9145526051549087147:Unit:=()
def PySem.W.Fast.tw17856904200684533049:Unit:=()
def PySem.W.Fast.tw4481627306931667161:Unit:=()
def PySem.W.Fast.tw7764994236005966733:Unit:=()
def PySem.W.Fast.tw12571827940994588525:Unit:=()
def PySem.W.Fast.tw3928550724897397221:Unit:=()
def PySem.W.Fast.tw5349079882492390330:Unit:=()
def PySem.W.Fast.tw13104599347013809169:Unit:=()
def PySem.W.Fast.tw5197266722828654586:Unit:=()
def PySem.W.Fast.tw13316134920942164641:Unit:=()
def PySem.W.Fast.tw15618062911936317942:Unit:=()
def PySem.W.Fast.tw17187631000568775387:Unit:=()
def PySem.W.Fast.tw4274511989605277889:Unit:=()
def PySem.W.Fast.tw14900620354978044823:Unit:=()
def PySem.W.Fast.tw7530480906854252022:Unit:=()
def PySem.W.Fast.tw13531816106721909685:Unit:=()
def PySem.W.Fast.tw8902340977837201239:Unit:=()
def PySem.W.Fast.tw13861769637198363614:Unit:=()
def PySem.W.Fast.tw15282862257299969794:Unit:=()
def PySem.W.Fast.tw71859217989622022:Unit:=()
def PySem.W.Fast.tw16739134461756551642:Unit:=()
def PySem.W.Fast.tw14791742353846087685:Unit:=()
def PySem.W.Fast.tw5677838516235669310:Unit:=()
def PySem.W.Fast.tw4833742103187272898:Unit:=()
def PySem.W.Fast.tw10128056712060529180:Unit:=()
def PySem.W.Fast.tw15293042906282944981:Unit:=()
def PySem.W.Fast.tw8484106705391747676:Unit:=()
def PySem.W.Fast.tw10595398501106294911:Unit:=()
def PySem.W.Fast.tw7464916307708076770:Unit:=()
def PySem.W.Fast.tw10257604207355113898:Unit:=()
def PySem.W.Fast.tw4977147047663954695:Unit:=()
def PySem.W.Fast.tw10958286198256743229:Unit:=()
def PySem.W.Fast.tw113404798710374863:Unit:=()
def PySem.W.Fast.tw18327076501813161687:Unit:=()
def PySem.W.Fast.tw6757387163282457788:Unit:=()
def PySem.W.Fast.tw9714067078706312446:Unit:=()
def PySem.W.Fast.tw13277040866165957267:Unit:=()
def PySem.W.Fast.tw218433936362019408:Unit:=()
def PySem.W.Fast.tw11377065820823425845:Unit:=()
def PySem.W.Fast.tw14917159341505686988:Unit:=()
def PySem.W.Fast.tw1211480449384673878:Unit:=()
def PySem.W.Fast.tw13428396473555233064:Unit:=()
def PySem.W.Fast.tw17176838346098947754:Unit:=()
def PySem.W.Fast.tw17504148763346789905:Unit:=()
def PySem.W.Fast.tw394391823605816141:Unit:=()
def PySem.W.Fast.tw9999562162587996536:Unit:=()
def PySem.W.Fast.tw399667161566249373:Unit:=()
def PySem.W.Fast.tw3794813990266801078:Unit:=()
def PySem.W.Fast.tw18164675844307394801:Unit:=()
def PySem.W.Fast.tw10423532215569571999:Unit:=()
def PySem.W.Fast.tw9051793896917513759:Unit:=()
def PySem.W.Fast.tw14219741011339255394:Unit:=()
def PySem.W.Fast.tw15195576015452385035:Unit:=()
def PySem.W.Fast.tw631701118665662272:Unit:=()
def PySem.W.Fast.tw134692820806178539:Unit:=()
def PySem.W.Fast.tw10166100733845743391:Unit:=()
def PySem.W.Fast.tw3151869446371547185:Unit:=()
def PySem.W.Fast.tw10152727042449734951:Unit:=()
def PySem.W.Fast.tw3857579151480391721:Unit:=()
def PySem.W.Fast.tw15316855643102748237:Unit:=()
def PySem.W.Fast.tw9973531855353813196:Unit:=()
def PySem.W.Fast.tw2972914098937985304:Unit:=()
def PySem.W.Fast.tw13566002338328396447:Unit:=()
def PySem.W.Fast.tw6769418277130209027:Unit:=()
def PySem.W.Fast.tw17542611601557784772:Unit:=()
def PySem.W.Fast.tw1578413037643306893:Unit:=()
def PySem.W.Fast.tw17622128135377470664:Unit:=()
def PySem.W.Fast.tw3619000107717878971:Unit:=()
def PySem.W.Fast.tw10204357507712082993:Unit:=()
def PySem.W.Fast.tw1838365050364741606:Unit:=()
def PySem.W.Fast.tw16656436903168139740:Unit:=()
def PySem.W.Fast.tw18329339467558059388:Unit:=()
def PySem.W.Fast.tw7511741268940504:Unit:=()
def PySem.W.Fast.tw17574673273894671661:Unit:=()
def PySem.W.Fast.tw14483259183196430010:Unit:=()
def PySem.W.Fast.tw11073931877757334120:Unit:=()
def PySem.W.Fast.tw16553992629178011027:Unit:=()
def PySem.W.Fast.tw14605135704860700501:Unit:=()
def PySem.W.Fast.tw3327837867444543601:Unit:=()
def PySem.W.Fast.tw6865100050542954012:Unit:=()
def PySem.W.Fast.tw3770017371753916494:Unit:=()
def PySem.W.Fast.tw13012758889716478278:Unit:=()
def PySem.W.Fast.tw1561793613555464080:Unit:=()
def PySem.W.Fast.tw15283576706700410046:Unit:=()
def PySem.W.Fast.tw6799685473148870592:Unit:=()
def PySem.W.Fast.tw12937829252558042128:Unit:=()
def PySem.W.Fast.tw378614053678996995:Unit:=()
def PySem.W.Fast.tw957311099730900840:Unit:=()
def PySem.W.Fast.tw14044100661780502764:Unit:=()
def PySem.W.Fast.tw15926523687146596442:Unit:=()
def PySem.W.Fast.tw15126848004390514777:Unit:=()
def PySem.W.Fast.tw2483633008928835656:Unit:=()
def PySem.W.Fast.tw7003488862033850044:Unit:=()
def PySem.W.Fast.tw6546797248476795836:Unit:=()
def PySem.W.Fast.tw11331868082852196138:Unit:=()
def PySem.W.Fast.tw14339253313191436654:Unit:=()
def PySem.W.Fast.tw8619424492642631188:Unit:=()
def PySem.W.Fast.tw13832260131914319223:Unit:=()
def PySem.W.Fast.tw17166117298783626609:Unit:=()
def PySem.W.Fast.tw15123399048803084481:Unit:=()
def PySem.W.Fast.tw8467158580848336670:Unit:=()
def PySem.W.Fast.tw2152484079222411701:Unit:=()
def PySem.W.Fast.tw17570370726834042233:Unit:=()
def PySem.W.Fast.tw8449514779402065297:Unit:=()
def PySem.W.Fast.tw14092149629648807058:Unit:=()
def PySem.W.Fast.tw627004969146659237:Unit:=()
def PySem.W.Fast.tw6141099149062673916:Unit:=()
def PySem.W.Fast.tw5936572159060375607:Unit:=()
def PySem.W.Fast.tw6783531949144304828:Unit:=()
def PySem.W.Fast.tw14824152961117703997:Unit:=()
def PySem.W.Fast.tw3304470970211350889:Unit:=()
def PySem.W.Fast.tw14823079920318776017:Unit:=()
def PySem.W.Fast.tw3462098637989045672:Unit:=()
def PySem.W.Fast.tw4140242748620110104:Unit:=()
def PySem.W.Fast.tw659659497130513949:Unit:=()
def PySem.W.Fast.tw7070361245193042189:Unit:=()
def PySem.W.Fast.tw1285168534518790774:Unit:=()
def PySem.W.Fast.tw4667585216247623706:Unit:=()
def PySem.W.Fast.tw14194883108070121577:Unit:=()
def PySem.W.Fast.tw4527749371925982595:Unit:=()
def PySem.W.Fast.tw4733441975248394671:Unit:=()
def PySem.W.Fast.tw7714689263591032566:Unit:=()
def PySem.W.Fast.tw17393053736416768792:Unit:=()
def PySem.W.Fast.tw12063755928453014048:Unit:=()
def PySem.W.Fast.tw11634531920035730347:Unit:=()
def PySem.W.Fast.tw10225142601297063227:Unit:=()
def PySem.W.Fast.tw16801501818240729710:Unit:=()
def PySem.W.Fast.tw17331773687184154324:Unit:=()
def PySem.W.Fast.tw10436265328737719311:Unit:=()
def PySem.W.Fast.tw1450514274842113715:Unit:=()
def PySem.W.Fast.tw10402129894725908536:Unit:=()
def PySem.W.Fast.tw9561221875033243677:Unit:=()
def PySem.W.Fast.tw863418305888260658:Unit:=()
def PySem.W.Fast.tw161611735828492077:Unit:=()
def PySem.W.Fast.tw6551949950758838576:Unit:=()
def PySem.W.Fast.tw6661730563648497126:Unit:=()
def PySem.W.Fast.tw1856781550184735741:Unit:=()
def PySem.W.Fast.tw3954992188474639342:Unit:=()
def PySem.W.Fast.tw3227177357894874664:Unit:=()
def PySem.W.Fast.tw5352258858395871621:Unit:=()
def PySem.W.Fast.tw16765083245836415773:Unit:=()
def PySem.W.Fast.tw16725889261077756453:Unit:=()
def PySem.W.Fast.tw18026575990347282754:Unit:=()
def PySem.W.Fast.tw14076492673518627397:Unit:=()
def PySem.W.Fast.tw15334661026666982525:Unit:=()
def PySem.W.Fast.tw6269868221284874078:Unit:=()
def PySem.W.Fast.tw13823958622372412896:Unit:=()
def PySem.W.Fast.tw16657710860653804783:Unit:=()
def PySem.W.Fast.tw7295822976890237518:Unit:=()
def PySem.W.Fast.tw5551130319903363209:Unit:=()
def PySem.W.Fast.tw10927800824904213046:Unit:=()
def PySem.W.Fast.tw15793755667063635703:Unit:=()
def PySem.W.Fast.tw8392605033380696559:Unit:=()
def PySem.W.Fast.tw8972460220499260442:Unit:=()
def PySem.W.Fast.tw7648880681381347889:Unit:=()
def PySem.W.Fast.tw10487832861743832055:Unit:=()
def PySem.W.Fast.tw13033432618704936998:Unit:=()
def PySem.W.Fast.tw15159620547946624035:Unit:=()
def PySem.W.Fast.tw6467686434200714666:Unit:=()
def PySem.W.Fast.tw6522931043004381962:Unit:=()
def PySem.W.Fast.tw18178249284810613798:Unit:=()
def PySem.W.Fast.tw177695203126769264:Unit:=()
def PySem.W.Fast.tw16740292073723439710:Unit:=()
def PySem.W.Fast.tw74708732728781471:Unit:=()
def PySem.W.Fast.tw15619862418129957309:Unit:=()
def PySem.W.Fast.tw7132507765208993376:Unit:=()
def PySem.W.Fast.tw13418657607069425104:Unit:=()
def PySem.W.Fast.tw3523764968950092253:Unit:=()
def PySem.W.Fast.tw12960152413162008543:Unit:=()
def PySem.W.Fast.tw12262942126824572984:Unit:=()
def PySem.W.Fast.tw1636197643430622804:Unit:=()
def PySem.W.Fast.tw14470563333138334268:Unit:=()
def PySem.W.Fast.tw6399360039670086590:Unit:=()
def PySem.W.Fast.tw2878519342557436249:Unit:=()
def PySem.W.Fast.tw11221815636904947625:Unit:=()
def PySem.W.Fast.tw4627699989772686177:Unit:=()
def PySem.W.Fast.tw12734507412936890563:Unit:=()
def PySem.W.Fast.tw13580594181827049972:Unit:=()
def PySem.W.Fast.tw7779751692048003823:Unit:=()
def PySem.W.Fast.tw8700027486145880623:Unit:=()
def PySem.W.Fast.tw4336348421238698933:Unit:=()
def PySem.W.Fast.tw1694080513563782092:Unit:=()
def PySem.W.Fast.tw5287435059178727005:Unit:=()
def PySem.W.Fast.tw7224744627223160555:Unit:=()
def PySem.W.Fast.tw948198368702723236:Unit:=()
def PySem.W.Fast.tw16837152563413382132:Unit:=()
def PySem.W.Fast.tw11242330331425925370:Unit:=()
def PySem.W.Fast.tw9410270809398780914:Unit:=()
def PySem.W.Fast.tw16319785401454500492:Unit:=()
def PySem.W.Fast.tw16730057795813867520:Unit:=()
def PySem.W.Fast.tw9464926267396141638:Unit:=()
def PySem.W.Fast.tw7553451495514970313:Unit:=()
def PySem.W.Fast.tw17112107674293892783:Unit:=()
def PySem.W.Fast.tw17227670190655901013:Unit:=()
def PySem.W.Fast.tw13270083224714762773:Unit:=()
def PySem.W.Fast.tw9237267573528937033:Unit:=()
def PySem.W.Fast.tw4279551344471316854:Unit:=()
def PySem.W.Fast.tw8724073571744466963:Unit:=()
def PySem.W.Fast.tw18063406047640259952:Unit:=()
def PySem.W.Fast.tw16456772436314773030:Unit:=()
open PySem PySem.W PyProof.Rows
set_option maxRecDepth 100000 in
set_option maxHeartbeats 0 in
theorem PySem.Challenge.cw_paneworks_k44_as_many_as_there_is_room_holds : PySem.Challenge.rw_paneworks_k44_as_many_as_there_is_room.Holds := by
 w_on;o_law;k_head; (case hw=>w_witness2)
 k_fill
 refine L2.Hh (l := PySem.Challenge.rw_paneworks_k44_as_many_as_there_is_room) (k := 10) (x := "_law_script") rfl rfl ⟨rfl, by decide, by decide⟩ (fun w h Y => PySem.W.kIn_of Y) ?F
 case F =>
  intro w mg fa h KX G hmg
  have B:L2.iK mg:=by
   refine' L2.PR KX G ?z0 ?z1 ?z2 ?z3 ?z4 ?z5 ?z6 ?z7 ?z8 ?z9 ?UA ?UB ?UC ?UD ?UE ?UG ?UH
   all_goals k_is
  have T : ∃ cU cA cB cC cT cF cD cS cI,My.Txt (L2.KOf KX) mg cU cA cB cC cT cF cD cS cI:=by
   dsimp only [L2.KOf]
   refine' My.D7 KX G ?y1 ?y2 ?y3 ?y4 ?y5 ?y6 ?y7 ?y8 ?y9 ?y10 ?y11 ?y12 ?y13 ?y14 ?y15 ?y16 ?y17 ?y18 ?y19 ?y20 ?y21 ?y22 ?y23 ?y24 ?y25 ?y26 ?y27 ?y28 ?y29 ?y30 ?y31 ?y32 ?y33 ?y34 ?y35 ?y36 ?y37 ?y38 ?y39 ?y40 ?y41 ?y42 ?y43 ?y44 ?y45 ?y46 ?y47 ?y48 ?y49 ?y50 ?y51 ?y52 ?y53 ?y54 ?y55 ?y56 ?y57 ?y58 ?y59 ?y60 ?y61 ?y62 ?y63 ?y64 ?y65 ?y66 ?y67 ?y68 ?y69 ?y70 ?y71 ?y72 ?y73 ?y74 ?y75 ?y76 ?y77 ?y78 ?y79 ?y80 ?y81 ?y82 ?y83 ?y84 ?y85 ?y86 ?y87 ?y88 ?y89 ?y90 ?y91 ?y92 ?y93 ?y94 ?y95 ?y96 ?y97 ?y98 ?y99 ?aaP ?aaQ ?aaR ?aaS ?aaT ?aaU ?aaV ?aaW ?aaX ?aaY ?aaZ ?aa0 ?aa1 ?aa2 ?aa3 ?aa4 ?aa5 ?aa6 ?aa7 ?aa8 ?aa9 ?aba ?abb ?abc ?abd ?abe ?abf ?abg ?abh ?abi ?abj ?abk ?abl ?abm ?abn ?abo ?abp ?abq ?abr ?abt ?abu ?abv ?abw ?abx ?aby ?abz ?abA ?abB ?abC ?abD ?abE ?abF ?abG ?abH ?abI ?abJ ?abK ?abL ?abM ?abN ?abO ?abP ?abQ ?abR ?abS ?abT ?abU ?abV ?abW ?abX ?abY ?abZ ?ab0 ?ab1 ?ab2 ?ab3 ?ab4 ?ab5 ?ab6 ?ab7 ?ab8 ?ab9 ?acd ?ace ?acf ?acg ?ach ?aci ?acj ?ack ?acm ?acn ?aco ?acp ?acq ?acr ?acs ?acu ?acv ?acw ?acy ?acz ?acA ?acB ?acC ?acD ?acE ?acF ?acG ?acH ?acI ?acJ ?acK ?acL ?acM ?acN ?acO ?acP ?acQ ?acR ?acS ?acT ?acU ?acV ?acW ?acX ?acY ?acZ ?ac0 ?ac1 ?ac2 ?ac3 ?ac4 ?ac5 ?ac6 ?ac7 ?ac8 ?ac9 ?ada ?adb ?ade ?adf ?adg ?adh ?adi ?adj ?adk ?adl ?adm ?adn ?ado ?adp ?adq ?ads ?adt ?adu ?adv ?adw ?adx ?ady ?adz ?adA ?adB ?adC ?adD ?adE ?adF ?adG ?adH ?adI ?adJ ?adK ?adL ?adM ?adN ?adO ?adP ?adQ ?adR ?adS ?adT ?adU ?adV ?adW ?adX ?adY ?adZ ?ad0 ?ad1 ?ad2 ?ad3 ?ad4 ?ad5 ?ad6 ?ad7 ?ad8 ?ad9 ?aea ?aeb ?aec ?aed ?aee ?aef ?aeg ?aeh ?aei ?aej ?aek ?ael ?aem ?aen ?aeo ?aep ?aeq
   (case y1=>walk_at "kr")
   (case y2=>walk_at "kr")
   (case y3=>walk_at "kr")
   (case y4=>walk_at "kr")
   (case y5=>walk_at "kr")
   (case y6=>walk_at "kr")
   (case y7=>walk_at "kr")
   (case y8=>walk_at "kr")
   (case y9=>walk_at "kr")
   (case y10=>walk_at "kr")
   (case y11=>walk_at "kr")
   (case y12=>walk_at "kr")
   (case y13=>walk_at "kr")
   (case y14=>walk_at "kr")
   (case y15=>walk_at "kr")
   (case y16=>walk_at "kr")
   (case y17=>walk_at "kr")
   (case y18=>walk_at "kr")
   (case y19=>walk_at "kr")
   (case y20=>walk_at "kr")
   (case y21=>walk_at "kr")
   (case y22=>walk_at "kr")
   (case y23=>walk_at "kr")
   (case y24=>walk_at "kr")
   (case y25=>walk_at "kr")
   (case y26=>walk_at "kr")
   (case y27=>walk_at "kr")
   (case y28=>walk_at "kr")
   (case y29=>walk_at "kr")
   (case y30=>walk_at "kr")
   (case y31=>walk_at "kr")
   (case y32=>walk_at "kr")
   (case y33=>walk_at "kr")
   (case y34=>walk_at "kr")
   (case y35=>walk_at "kr")
   (case y36=>walk_at "kr")
   (case y37=>walk_at "kr")
   (case y38=>walk_at "kr")
   (case y39=>walk_at "kr")
   (case y40=>walk_at "kr")
   (case y41=>walk_at "kr")
   (case y42=>walk_at "kr")
   (case y43=>walk_at "kr")
   (case y44=>walk_at "kr")
   (case y45=>walk_at "kr")
   (case y46=>walk_at "kr")
   (case y47=>walk_at "kr")
   (case y48=>walk_at "kr")
   (case y49=>walk_at "kr")
   (case y50=>walk_at "kr")
   (case y51=>walk_at "kr")
   (case y52=>walk_at "kr")
   (case y53=>walk_at "kr")
   (case y54=>walk_at "kr")
   (case y55=>walk_at "kr")
   (case y56=>walk_at "kr")
   (case y57=>walk_at "kr")
   (case y58=>walk_at "kr")
   (case y59=>walk_at "kr")
   (case y60=>walk_at "kr")
   (case y61=>walk_at "kr")
   (case y62=>walk_at "kr")
   (case y63=>walk_at "kr")
   (case y64=>walk_at "kr")
   (case y65=>walk_at "kr")
   (case y66=>walk_at "kr")
   (case y67=>walk_at "kr")
   (case y68=>walk_at "kr")
   (case y69=>walk_at "kr")
   (case y70=>walk_at "kr")
   (case y71=>walk_at "kr")
   (case y72=>walk_at "kr")
   (case y73=>walk_at "kr")
   (case y74=>walk_at "kr")
   (case y75=>walk_at "kr")
   (case y76=>walk_at "kr")
   (case y77=>walk_at "kr")
   (case y78=>walk_at "kr")
   (case y79=>walk_at "kr")
   (case y80=>walk_at "kr")
   (case y81=>walk_at "kr")
   (case y82=>walk_at "kr")
   (case y83=>walk_at "kr")
   (case y84=>walk_at "kr")
   (case y85=>walk_at "kr")
   (case y86=>walk_at "kr")
   (case y87=>walk_at "kr")
   (case y88=>walk_at "kr")
   (case y89=>walk_at "kr")
   (case y90=>walk_at "kr")
   (case y91=>walk_at "kr")
   (case y92=>walk_at "kr")
   (case y93=>walk_at "kr")
   (case y94=>walk_at "kr")
   (case y95=>walk_at "kr")
   (case y96=>walk_at "kr")
   (case y97=>walk_at "kr")
   (case y98=>walk_at "kr")
   (case y99=>walk_at "kr")
   (case aaP=>walk_at "kr")
   (case aaQ=>walk_at "kr")
   (case aaR=>walk_at "kr")
   (case aaS=>walk_at "kr")
   (case aaT=>walk_at "kr")
   (case aaU=>walk_at "kr")
   (case aaV=>walk_at "kr")
   (case aaW=>walk_at "kr")
   (case aaX=>walk_at "kr")
   (case aaY=>walk_at "kr")
   (case aaZ=>walk_at "kr")
   (case aa0=>walk_at "kr")
   (case aa1=>walk_at "kr")
   (case aa2=>walk_at "kr")
   (case aa3=>walk_at "kr")
   (case aa4=>walk_at "kr")
   (case aa5=>walk_at "kr")
   (case aa6=>walk_at "kr")
   (case aa7=>walk_at "kr")
   (case aa8=>walk_at "kr")
   (case aa9=>walk_at "kr")
   (case aba=>walk_at "kr")
   (case abb=>walk_at "kr")
   (case abc=>walk_at "kr")
   (case abd=>walk_at "kr")
   (case abe=>walk_at "kr")
   (case abf=>walk_at "kr")
   (case abg=>walk_at "kr")
   (case abh=>walk_at "kr")
   (case abi=>walk_at "kr")
   (case abj=>walk_at "kr")
   (case abk=>walk_at "kr")
   (case abl=>walk_at "kr")
   (case abm=>walk_at "kr")
   (case abn=>walk_at "kr")
   (case abo=>walk_at "kr")
   (case abp=>walk_at "kr")
   (case abq=>walk_at "kr")
   (case abr=>walk_at "kr")
   (case abt=>walk_at "kr")
   (case abu=>walk_at "kr")
   (case abv=>walk_at "kr")
   (case abw=>walk_at "kr")
   (case abx=>walk_at "kr")
   (case aby=>walk_at "kr")
   (case abz=>walk_at "kr")
   (case abA=>walk_at "kr")
   (case abB=>walk_at "kr")
   (case abC=>walk_at "kr")
   (case abD=>walk_at "kr")
   (case abE=>walk_at "kr")
   (case abF=>walk_at "kr")
   (case abG=>walk_at "kr")
   (case abH=>walk_at "kr")
   (case abI=>walk_at "kr")
   (case abJ=>walk_at "kr")
   (case abK=>walk_at "kr")
   (case abL=>walk_at "kr")
   (case abM=>walk_at "kr")
   (case abN=>walk_at "kr")
   (case abO=>walk_at "kr")
   (case abP=>walk_at "kr")
   (case abQ=>walk_at "kr")
   (case abR=>walk_at "kr")
   (case abS=>walk_at "kr")
   (case abT=>walk_at "kr")
   (case abU=>walk_at "kr")
   (case abV=>walk_at "kr")
   (case abW=>walk_at "kr")
   (case abX=>walk_at "kr")
   (case abY=>walk_at "kr")
   (case abZ=>walk_at "kr")
   (case ab0=>walk_at "kr")
   (case ab1=>walk_at "kr")
   (case ab2=>walk_at "kr")
   (case ab3=>walk_at "kr")
   (case ab4=>walk_at "kr")
   (case ab5=>walk_at "kr")
   (case ab6=>walk_at "kr")
   (case ab7=>walk_at "kr")
   (case ab8=>walk_at "kr")
   (case ab9=>walk_at "kr")
   (case acd=>walk_at "kr")
   (case ace=>walk_at "kr")
   (case acf=>walk_at "kr")
   (case acg=>walk_at "kr")
   (case ach=>walk_at "kr")
   (case aci=>walk_at "kr")
   (case acj=>walk_at "kr")
   (case ack=>walk_at "kr")
   (case acm=>walk_at "kr")
   (case acn=>walk_at "kr")
   (case aco=>walk_at "kr")
   (case acp=>walk_at "kr")
   (case acq=>walk_at "kr")
   (case acr=>walk_at "kr")
   (case acs=>walk_at "kr")
   (case acu=>walk_at "kr")
   (case acv=>walk_at "kr")
   (case acw=>walk_at "kr")
   (case acy=>walk_at "kr")
   (case acz=>walk_at "kr")
   (case acA=>walk_at "kr")
   (case acB=>walk_at "kr")
   (case acC=>walk_at "kr")
   (case acD=>walk_at "kr")
   (case acE=>walk_at "kr")
   (case acF=>walk_at "kr")
   (case acG=>walk_at "kr")
   (case acH=>walk_at "kr")
   (case acI=>walk_at "kr")
   (case acJ=>walk_at "kr")
   (case acK=>walk_at "kr")
   (case acL=>walk_at "kr")
   (case acM=>walk_at "kr")
   (case acN=>walk_at "kr")
   (case acO=>walk_at "kr")
   (case acP=>walk_at "kr")
   (case acQ=>walk_at "kr")
   (case acR=>walk_at "kr")
   (case acS=>walk_at "kr")
   (case acT=>walk_at "kr")
   (case acU=>walk_at "kr")
   (case acV=>walk_at "kr")
   (case acW=>walk_at "kr")
   (case acX=>walk_at "kr")
   (case acY=>walk_at "kr")
   (case acZ=>walk_at "kr")
   (case ac0=>walk_at "kr")
   (case ac1=>walk_at "kr")
   (case ac2=>walk_at "kr")
   (case ac3=>walk_at "kr")
   (case ac4=>walk_at "kr")
   (case ac5=>walk_at "kr")
   (case ac6=>walk_at "kr")
   (case ac7=>walk_at "kr")
   (case ac8=>walk_at "kr")
   (case ac9=>walk_at "kr")
   (case ada=>walk_at "kr")
   (case adb=>walk_at "kr")
   (case ade=>walk_at "kr")
   (case adf=>walk_at "kr")
   (case adg=>walk_at "kr")
   (case adh=>walk_at "kr")
   (case adi=>walk_at "kr")
   (case adj=>walk_at "kr")
   (case adk=>walk_at "kr")
   (case adl=>walk_at "kr")
   (case adm=>walk_at "kr")
   (case adn=>walk_at "kr")
   (case ado=>walk_at "kr")
   (case adp=>walk_at "kr")
   (case adq=>walk_at "kr")
   (case ads=>walk_at "kr")
   (case adt=>walk_at "kr")
   (case adu=>walk_at "kr")
   (case adv=>walk_at "kr")
   (case adw=>walk_at "kr")
   (case adx=>walk_at "kr")
   (case ady=>walk_at "kr")
   (case adz=>walk_at "kr")
   (case adA=>walk_at "kr")
   (case adB=>walk_at "kr")
   (case adC=>walk_at "kr")
   (case adD=>walk_at "kr")
   (case adE=>walk_at "kr")
   (case adF=>walk_at "kr")
   (case adG=>walk_at "kr")
   (case adH=>walk_at "kr")
   (case adI=>walk_at "kr")
   (case adJ=>walk_at "kr")
   (case adK=>walk_at "kr")
   (case adL=>walk_at "kr")
   (case adM=>walk_at "kr")
   (case adN=>walk_at "kr")
   (case adO=>walk_at "kr")
   (case adP=>walk_at "kr")
   (case adQ=>walk_at "kr")
   (case adR=>walk_at "kr")
   (case adS=>walk_at "kr")
   (case adT=>walk_at "kr")
   (case adU=>walk_at "kr")
   (case adV=>walk_at "kr")
   (case adW=>walk_at "kr")
   (case adX=>walk_at "kr")
   (case adY=>walk_at "kr")
   (case adZ=>walk_at "kr")
   (case ad0=>walk_at "kr")
   (case ad1=>walk_at "kr")
   (case ad2=>walk_at "kr")
   (case ad3=>walk_at "kr")
   (case ad4=>walk_at "kr")
   (case ad5=>walk_at "kr")
   (case ad6=>walk_at "kr")
   (case ad7=>walk_at "kr")
   (case ad8=>walk_at "kr")
   (case ad9=>walk_at "kr")
   (case aea=>walk_at "kr")
   (case aeb=>walk_at "kr")
   (case aec=>walk_at "kr")
   (case aed=>walk_at "kr")
   (case aee=>walk_at "kr")
   (case aef=>walk_at "kr")
   (case aeg=>walk_at "kr")
   (case aeh=>walk_at "kr")
   (case aei=>walk_at "kr")
   (case aej=>walk_at "kr")
   (case aek=>walk_at "kr")
   (case ael=>walk_at "kr")
   (case aem=>walk_at "kr")
   (case aen=>walk_at "kr")
   (case aeo=>walk_at "kr")
   (case aep=>walk_at "kr")
   (case aeq=>walk_at "kr")
  obtain ⟨cU,cA,cB,cC,cT,cF,cD,cS,cI,T⟩:=T
  exact L2.Sh T.TF hmg (λ _ _ _ _ _ _ _=>rfl) λ base f fd F=>My.Rn F B T
#print axioms PySem.Challenge.cw_paneworks_k44_as_many_as_there_is_room_holds

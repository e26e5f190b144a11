import PyProof.Rows.All
import KE.KEqDeep
import KE.KDictSum
import KE.KEqDat
import KE.KTryMore
import PySem.Challenge.RW_paneworks_k61_spaces_numbered
set_option Elab.async false
set_option compiler.extract_closed false
set_option linter.all false
set_option maxRecDepth 100000
local macro_rules | `(tactic| walk_at "o3") => `(tactic| first | exact Or.inl rfl | exact Or.inr (Or.inl rfl) | exact Or.inr (Or.inr rfl))
local macro_rules | `(tactic| walk_at "o2") => `(tactic| first | exact Or.inl rfl | exact Or.inr rfl)
local macro_rules | `(tactic| walk_at "sc") => `(tactic| exact ⟨rfl,rfl,rfl,by decide +kernel,rfl,by decide +kernel,by decide +kernel⟩)
local macro_rules | `(tactic| walk_at "o4") => `(tactic| first | exact .inl rfl | exact .inr rfl | assumption)
local macro_rules | `(tactic| walk_at "v") => `(tactic| exact ⟨by rfl,by walk_at "o3",by decide,by decide⟩)
local macro_rules | `(tactic| walk_at "kr") => `(tactic| first | k_is | kernel_rfl)
namespace L2
open PySem PySem.Spec PyProof.Rows
abbrev Key:=Sum Int Str
def qS:Key->Value->Bool
 | .inl k,v=>Value.isInt k v
 | .inr x,v=>Value.isStrOf x v
def Ky (w:World):Key->Int
 | .inl k=>hashInt k
 | .inr x=>hashStr w x
theorem bG : ∀ {k:Key} {v:Value},qS k v=true->(∃ i t,k=Sum.inl i/\v=Value.int i t)\/(∃ x t,k=Sum.inr x/\v=Value.str x t)
 | .inl i,v,h=>by
   obtain ⟨t,e⟩:=Value.isInt_shape (k:=i) (v:=v) h
   exact .inl ⟨i,t,rfl,e⟩
 | .inr x,v,h=>by
   obtain ⟨t,e⟩:=Value.isStrOf_shape (x:=x) (v:=v) h
   exact .inr ⟨x,t,rfl,e⟩
theorem zC (i:Int) (t:Tok):qS (.inl i) (.int i t)=true:=by simp [qS,Value.isInt]
theorem zD (x:Str) (t:Tok):qS (.inr x) (.str x t)=true:=by simp [qS,Value.isStrOf]
theorem Fg (a b:Int):decide ((Sum.inl a:Key)=Sum.inl b)=(a == b):=by
 by_cases e:a=b
 ·subst e;simp
 ·have h : ¬ (Sum.inl a:Key)=Sum.inl b:=λ q=>e (Sum.inl.inj q)
  rw [decide_eq_false h]
  exact (beq_eq_false_iff_ne.mpr e).symm
theorem Fi (a b:Str):decide ((Sum.inr a:Key)=Sum.inr b)=decide (a=b):=by
 by_cases e:a=b
 ·subst e;simp
 ·have h : ¬ (Sum.inr a:Key)=Sum.inr b:=λ q=>e (Sum.inr.inj q)
  rw [decide_eq_false h,decide_eq_false e]
theorem Fj (a:Int) (b:Str):decide ((Sum.inl a:Key)=Sum.inr b)=false:=decide_eq_false (λ q=>nomatch q)
theorem Fl (a:Str) (b:Int):decide ((Sum.inr a:Key)=Sum.inl b)=false:=decide_eq_false (λ q=>nomatch q)
def br (prog:Program) (w:World):PySem.KeyKind prog w Key where
 is:=qS
 hash:=Ky w
 inj:=λ v a b ha hb=>by
  rcases bG ha with ⟨i,t,rfl,rfl⟩ | ⟨x,t,rfl,rfl⟩
  ·rcases bG hb with ⟨j,u,rfl,e⟩ | ⟨y,u,rfl,e⟩
   ·injection e with e1 _;rw [e1]
   ·exact nomatch e
  ·rcases bG hb with ⟨j,u,rfl,e⟩ | ⟨y,u,rfl,e⟩
   ·exact nomatch e
   ·injection e with e1 _;rw [e1]
 byValue:=λ k v h=>by
  rcases bG h with ⟨i,t,rfl,rfl⟩ | ⟨x,t,rfl,rfl⟩ <;> rfl
 pyHash:=λ hv h=>by
  rcases bG hv with ⟨i,t,rfl,rfl⟩ | ⟨x,t,rfl,rfl⟩
  ·exact wpAny_pyHash_int h
  ·exact wpAny_pyHash_str h
 eqBool:=λ hu hv h=>by
  rcases bG hu with ⟨i,t,rfl,rfl⟩ | ⟨x,t,rfl,rfl⟩
  ·rcases bG hv with ⟨j,u,rfl,rfl⟩ | ⟨y,u,rfl,rfl⟩
   ·rw [Fg] at h;exact wpAny_eqBool_int h
   ·rw [Fj] at h;exact SeqAt.EqAt.int_str i t y u _ _ _ _ h
  ·rcases bG hv with ⟨j,u,rfl,rfl⟩ | ⟨y,u,rfl,rfl⟩
   ·rw [Fl] at h;exact SeqAt.EqAt.str_int x t j u _ _ _ _ h
   ·rw [Fi] at h;exact wpAny_eqBool_str h
 «strs» := λ k x t v h=>by
  rcases bG h with ⟨i,u,rfl,e⟩ | ⟨y,u,rfl,e⟩
  ·exact nomatch e
  ·injection e with e1 _
   subst e1
   cases v <;> rfl
theorem uC (prog:Program) (w:World) (i:Int) (t:Tok):(br prog w).is (.inl i) (.int i t)=true:=zC i t
theorem uD (prog:Program) (w:World) (x:Str) (t:Tok):(br prog w).is (.inr x) (.str x t)=true:=zD x t
inductive V where
 | aN | bl (b:Bool) | int (i:Int) | str (x:Str) | yg (b:Array UInt8) | Fo (b:UInt64) | ref (a:Addr) | ty (n:String)
 deriving DecidableEq
def RelV:V->Value->Prop
 | .aN,u=>u=Value.none
 | .bl b,u=>u=Value.bool b
 | .int i,u => ∃ t,u=Value.int i t
 | .str x,u => ∃ t,u=Value.str x t
 | .yg b,u => ∃ t,u=Value.bytes b t
 | .Fo b,u => ∃ t,u=Value.float b t
 | .ref a,u=>u=Value.ref a
 | .ty n,u=>u=Value.type n
abbrev Vals:List V->List Value->Prop:=Paired RelV
theorem Vals.length {xs:List V} {us:List Value} (r:Vals xs us):xs.length=us.length:=Paired.length r
theorem Vals.get : ∀ {xs:List V} {us:List Value} {i:Nat} {x:V},Vals xs us->xs[i]? = some x->∃ u,us[i]? = some u/\RelV x u
 | _,_,_,_,.nil,e=>by simp at e
 | _,_,0,_,.cons r _,e=>by simp at e;subst e;exact ⟨_,rfl,r⟩
 | _,_,i+1,x,.cons _ t,e=>by
   obtain ⟨u,h1,h2⟩:=Vals.get (i:=i) (x:=x) t (by simpa using e)
   exact ⟨u,by simpa using h1,h2⟩
theorem Vals.set {x:V} {u:Value} (r:RelV x u) : ∀ {xs:List V} {us:List Value} (i:Nat),Vals xs us->Vals (xs.set i x) (us.set i u)
 | _,_,_,.nil => .nil
 | _,_,0,.cons _ t => .cons r t
 | _,_,i+1,.cons q t => .cons q (Vals.set r i t)
theorem Vals.append : ∀ {xs ys:List V} {us ws:List Value},Vals xs us->Vals ys ws->Vals (xs++ys) (us++ws)
 | _,_,_,_,.nil,s=>s
 | _,_,_,_,.cons r t,s => .cons r (Vals.append t s)
theorem Vals.take : ∀ {xs:List V} {us:List Value} (n:Nat),Vals xs us->Vals (xs.take n) (us.take n)
 | _,_,0,_ => .nil
 | _,_,_+1,.nil => .nil
 | _,_,n+1,.cons r t => .cons r (Vals.take n t)
theorem Vals.drop : ∀ {xs:List V} {us:List Value} (n:Nat),Vals xs us->Vals (xs.drop n) (us.drop n)
 | _,_,0,r=>r
 | _,_,_+1,.nil => .nil
 | _,_,n+1,.cons _ t=>Vals.drop n t
def gy:Option V->Option Value->Prop
 | some v,some u=>RelV v u
 | none,none=>True
 | _,_=>False
def KV {κ : Type} : List (κ × V)->List (κ × Value)->Prop:=Paired fun (p : κ × V) (q : κ × Value)=>p.1=q.1/\RelV p.2 q.2
def kV:Key->V
 | .inl i => .int i
 | .inr x => .str x
inductive HO where
  | lst (xs:List V)
  | tup (xs:List V)
  | dK (kvs:List (Key×V)) | dT (kvs:List (List Key×V))
  | set (S:Int->Bool) (n:Nat)
  | ins (C dx:Addr) (fs:List (Str×V))
  | own (x:Addr)
  | xd (fs:List (Str×V))
  | met (f x:Addr)
  | JG (lo hi:Int)
  | ux (o:Obj) (u:HO)
  | EG (ps:Array Value)
  | ext (φ : Heap->Prop)
abbrev Hp:=Addr->Option HO
def upd (H:Hp) (a:Addr) (o:HO):Hp:=λ b=>if b=a then some o else H b
theorem dG {H:Hp} {a:Addr} {o:HO} : upd H a o a=some o:=by unfold upd;rw [if_pos rfl]
theorem aQ {H:Hp} {a b:Addr} {o:HO} (h:b≠a):upd H a o b=H b:=by unfold upd;rw [if_neg h]
theorem Hv {H:Hp} {a b:Addr} {o u:HO} (h:H a=some o) (h':H b=some u) (d:o≠u):a≠b:=by
 intro e;subst e;rw [h] at h';exact d (Option.some.inj h')
theorem cX {H:Hp} {a b:Addr} {o:HO} (h:H a=some o) (h':H b=none):a≠b:=by
 intro e;subst e;rw [h] at h';cases h'
section
variable (P:Program) (w:World)
def bx (H:Hp) (h:Heap) (a:Addr):HO->Prop
 | .lst xs=>xs.length<=sizeLine ∧ ∃ (its:List Value) (n:Nat),Vals xs its/\h.get? a=some { cls := .type "list",data := .seq its.toArray n }
 | .tup xs=>xs.length<=sizeLine ∧ ∃ its:List Value,Vals xs its/\IsTup h a its.toArray
 | .dK kvs=>kvs.length<=sizeLine/\(a == sysModules)=false ∧ ∃ vs,KV kvs vs/\h.DictOf (br P w) a vs
 | .dT kvs=>kvs.length<=sizeLine/\(a == sysModules)=false ∧ ∃ xs:List (List Key×Addr×Value),
   Paired (fun (p:List Key×V) (q:List Key×Addr×Value)=>p.1=q.1/\H q.2.1=some (.tup (p.1.map kV))/\RelV p.2 q.2.2) kvs xs ∧
   ∃ o es ep,h.get? a=some o/\o.ExactDict/\o.data = .dict es ep/\es.toList=xs.map (entryOfKey (tupleKind (br P w)))/\(xs.map (·.1)).Nodup
 | .set S n=>h.SetOf (intKind P w) a S n
 | .ins C dx fs=>H dx=some (.own a)/\fs.length<=1000/\dx≠a/\h.get? a=some (PySem.W.instObj C dx) ∧
   ∃ mA,h.Ns1 dx mA/\(∀ f,gy (fs.lookup f) (mA f))/\PySem.Within mA (fs.map (·.1))
 | .own _ => ∃ o,h.get? a=some o
 | .xd fs => ∃ mA,h.Ns1 a mA ∧ ∀ f,gy (fs.lookup f) (mA f)
 | .JG lo hi => ∃ t u v,h.get? a=some { cls := .type "range",data := .fields #[.int lo t,.int hi u,.int 1 v] }
 | .ux o u=>h.get? a=some o/\bx H h a u
 | .EG ps=>h.get? a=some { cls := .none,data := .fields ps }
 | .met f x=>h.get? a=some (PySem.W.methodObj (.ref f) (.ref x))
 | .ext φ => φ h/\(∃ o,h.get? a=some o) ∧ ∀ h1 h2:Heap,φ h1->(∀ o,h1.get? a=some o->h2.get? a=some o)->φ h2
def ic (H:Hp) (h:Heap):Prop := ∀ a o,H a=some o->bx P w H h a o
end
section
variable {P:Program} {w:World} {H H':Hp} {h h':Heap} {a:Addr} {o:HO}
theorem bx.lt (x:bx P w H h a o):a < h.objs.size:=by
 cases o with
 | lst xs=>obtain ⟨_,_,_,_,e⟩:=x;exact Heap.lt_size e
 | tup xs=>obtain ⟨_,_,_,p⟩:=x;exact p.lt
 | dK kvs=>obtain ⟨_,_,_,_,o,_,_,e,_⟩:=x;exact Heap.lt_size e
 | dT kvs=>obtain ⟨_,_,_,_,o,_,_,e,_⟩:=x;exact Heap.lt_size e
 | set S n=>obtain ⟨o,_,_,_,e,_⟩:=x;exact Heap.lt_size e
 | ins C dx fs=>obtain ⟨_,_,_,e,_⟩:=x;exact Heap.lt_size e
 | own y=>obtain ⟨_,e⟩:=x;exact Heap.lt_size e
 | xd fs=>obtain ⟨_,⟨_,_,_,e,_⟩,_⟩:=x;exact Heap.lt_size e
 | JG lo hi=>obtain ⟨_,_,_,e⟩:=x;exact Heap.lt_size e
 | ux ob u=>obtain ⟨e,_⟩:=x;exact Heap.lt_size e
 | EG ps=>exact Heap.lt_size (show h.get? a=some _ from x)
 | met f y=>exact Heap.lt_size (show h.get? a=some _ from x)
 | ext φ => obtain ⟨_,⟨_,e⟩,_⟩:=x;exact Heap.lt_size e
theorem Paired.Fp {α β : Type} {F G : α->β->Prop} : ∀ {l₁ : List α} {l₂ : List β},Paired F l₁ l₂->(∀ a b,F a b->G a b)->Paired G l₁ l₂
 | _,_,.nil,_ => .nil
 | _,_,.cons r t,f => .cons (f _ _ r) (Paired.Fp t f)
theorem bx.stay (x:bx P w H h a o) (k : ∀ b u,(b=a\/H b=some (.own a))->h.get? b=some u->h'.get? b=some u)
  (ho : ∀ b,H b=some (.own a)->H' b=some (.own a)) (ht : ∀ b xs,H b=some (.tup xs)->H' b=some (.tup xs)):bx P w H' h' a o:=by
 induction o with
 | lst xs=>obtain ⟨z,its,n,r,e⟩:=x;exact ⟨z,its,n,r,k _ _ (.inl rfl) e⟩
 | tup xs=>obtain ⟨z,its,r,ob,e,c⟩:=x;exact ⟨z,its,r,ob,k _ _ (.inl rfl) e,c⟩
 | dK kvs=>obtain ⟨z,y,vs,r,ob,es,ep,e,c⟩:=x;exact ⟨z,y,vs,r,ob,es,ep,k _ _ (.inl rfl) e,c⟩
 | dT kvs =>
   obtain ⟨z,y,xs,r,ob,es,ep,e,c⟩:=x
   exact ⟨z,y,xs,Paired.Fp r λ p q z=>⟨z.1,ht _ _ z.2.1,z.2.2⟩,ob,es,ep,k _ _ (.inl rfl) e,c⟩
 | set S n=>obtain ⟨ob,es,ep,t,e,c⟩:=x;exact ⟨ob,es,ep,t,k _ _ (.inl rfl) e,c⟩
 | ins C dx fs =>
   obtain ⟨d,z,ne,e,mA,⟨od,es,ep,e2,c⟩,r⟩:=x
   exact ⟨ho _ d,z,ne,k _ _ (.inl rfl) e,mA,⟨od,es,ep,k _ _ (.inr d) e2,c⟩,r⟩
 | own y=>obtain ⟨ob,e⟩:=x;exact ⟨ob,k _ _ (.inl rfl) e⟩
 | xd fs=>obtain ⟨mA,⟨od,es,ep,e,c⟩,r⟩:=x;exact ⟨mA,⟨od,es,ep,k _ _ (.inl rfl) e,c⟩,r⟩
 | JG lo hi=>obtain ⟨t,u,v,e⟩:=x;exact ⟨t,u,v,k _ _ (.inl rfl) e⟩
 | ux ob u ih=>obtain ⟨e,q⟩:=x;exact ⟨k _ _ (.inl rfl) e,ih q⟩
 | EG ps =>
   have e:h.get? a=some { cls := .none,data := .fields ps } := x
   show h'.get? a=some { cls := .none,data := .fields ps }
   exact k a _ (.inl rfl) e
 | met f y =>
   have e:h.get? a=some (PySem.W.methodObj (.ref f) (.ref y)):=x
   show h'.get? a=some (PySem.W.methodObj (.ref f) (.ref y))
   exact k a _ (.inl rfl) e
 | ext φ => obtain ⟨p,⟨o,e⟩,st⟩:=x;exact ⟨st _ _ p λ o q=>k _ _ (.inl rfl) q,⟨o,k _ _ (.inl rfl) e⟩,st⟩
theorem ic.lt (x:ic P w H h) (e:H a=some o):a < h.objs.size:=(x a o e).lt
theorem ic.fresh (x:ic P w H h) (e:h.objs.size<=a):H a=none:=by
 cases q:H a with
 | none=>rfl
 | some u=>exact absurd (Nat.lt_of_lt_of_le (x.lt q) e) (Nat.lt_irrefl _)
theorem ic.kept (x:ic P w H h) (k : ∀ b u,h.get? b=some u->h'.get? b=some u):ic P w H h':=λ a o e =>
 (x a o e).stay (λ b u _ q=>k b u q) (λ _ q=>q) λ _ _ q=>q
theorem ic.laid (x:ic P w H h) (k : ∀ b u,h.get? b=some u->h'.get? b=some u) (hp:h.objs.size<=a) (new:bx P w (upd H a o) h' a o):ic P w (upd H a o) h':=λ b u e=>by
 have hn:=x.fresh hp
 by_cases hb:b=a
 ·subst hb;rw [dG] at e;cases e;exact new
 ·rw [aQ hb] at e
  exact (x b u e).stay (λ c v _ q=>k c v q) (λ c q=>by rw [aQ (cX q hn)];exact q) λ c xs q=>by rw [aQ (cX q hn)];exact q
end
def Rd (H:Hp) (a:Addr) (u:HO):Prop:=H a=some u ∨ ∃ o,H a=some (.ux o u)
theorem Rd.of {H:Hp} {a:Addr} {u:HO} (h:H a=some u):Rd H a u := .inl h
theorem Rd.ok {P:Program} {w:World} {H:Hp} {h:Heap} {a:Addr} {u:HO} (r:Rd H a u) (x:ic P w H h):bx P w H h a u:=by
 rcases r with r | ⟨o,r⟩
 ·exact x a u r
 ·obtain ⟨_,q⟩:=x a _ r
  exact q
def Hw:Option HO->Prop
 | some (.lst _)=>True
 | some (.dK _)=>True
 | some (.dT _)=>True
 | some (.set _ _)=>True
 | some (.ins _ _ _)=>True
 | some (.ext _)=>True
 | _=>False
section
variable {P:Program} {w:World} {H:Hp} {h h':Heap} {x e:Addr} {o':HO}
theorem ic.write (ok:ic P w H h) (mu:Hw (H x)) (he:e=x\/H e=some (.own x)) (k : ∀ b u,b≠e->h.get? b=some u->h'.get? b=some u) (GZ : ∃ u,h'.get? e=some u)
  (new:bx P w (upd H x o') h' x o'):ic P w (upd H x o') h':=λ b u q=>by
 have Hy : ∀ c y,H c=some (.own y)->c≠x:=λ c y r z=>by subst z;rw [r] at mu;exact mu
 have Kz : ∀ c xs,H c=some (.tup xs)->c≠x:=λ c xs r z=>by subst z;rw [r] at mu;exact mu
 by_cases hb:b=x
 ·subst hb;rw [dG] at q;cases q;exact new
 ·rw [aQ hb] at q
  by_cases Fq:b=e
  ·have q':H b=some (.own x):=by
    rcases he with z | z
    ·exact absurd (Fq.trans z) hb
    ·rw [Fq];exact z
   rw [q] at q';cases q'
   obtain ⟨v,hv⟩:=GZ
   exact ⟨v,by rw [Fq];exact hv⟩
  ·refine (ok b u q).stay (λ c v hc r=>k c v ?_ r) (λ c r=>by rw [aQ (Hy c b r)];exact r) λ c xs r=>by rw [aQ (Kz c xs r)];exact r
   rcases hc with rfl | hc
   ·exact Fq
   ·rintro rfl
    rcases he with z | z
    ·exact Hy c b hc z
    ·rw [hc] at z;cases z;exact hb rfl
end
structure Un (fs ex:List Addr) (H H':Hp) (h h':Heap):Prop where
 keep : ∀ b o,h.get? b=some o->H b=none->b ∉ fs->b ∉ ex->h'.get? b=some o
 slot : ∀ b o,h.get? b=some o->H b=none->b∈fs->b ∉ ex->∃ sl,h'.get? b=some { o with slots:=sl }
 free : ∀ b o,h.get? b=some o->H b=none->b ∉ ex->H' b=none
 there : ∀ b o,h.get? b=some o->b ∉ ex->∃ o',h'.get? b=some o'
 tups : ∀ b xs,H b=some (.tup xs)->H' b=some (.tup xs)
 gg : ∀ b o u,H b=some (.ux o u)->H' b=some (.ux o u)
 gz : ∀ b ps,H b=some (.EG ps)->∃ more,H' b=some (.EG (ps++more))
section
variable {fs fs' ex ex':List Addr} {H H1 H2:Hp} {h h1 h2 h':Heap} {a x e:Addr} {o:HO}
theorem Un.any (u:Un fs ex H H1 h h1) {b:Addr} {ob:Obj} (q:h.get? b=some ob) (n:H b=none) (hx:b ∉ ex) : ∃ sl,h1.get? b=some { ob with slots:=sl } := by
 by_cases hb:b∈fs
 ·exact u.slot b ob q n hb hx
 ·exact ⟨ob.slots,u.keep b ob q n hb hx⟩
theorem Un.trans (a:Un fs ex H H1 h h1) (b:Un fs ex H1 H2 h1 h2):Un fs ex H H2 h h2 where
 keep:=λ c ob q n hc hx=>b.keep c ob (a.keep c ob q n hc hx) (a.free c ob q n hx) hc hx
 slot:=λ c ob q n hc hx=>by
  obtain ⟨sl,e1⟩:=a.slot c ob q n hc hx
  obtain ⟨zE,e2⟩:=b.slot c _ e1 (a.free c ob q n hx) hc hx
  exact ⟨zE,e2⟩
 free:=λ c ob q n hx=>by
  obtain ⟨o',e1⟩:=a.there c ob q hx
  exact b.free c o' e1 (a.free c ob q n hx) hx
 there:=λ c ob q hx=>by
  obtain ⟨o',e1⟩:=a.there c ob q hx
  exact b.there c o' e1 hx
 tups:=λ c xs q=>b.tups c xs (a.tups c xs q)
 gg:=λ c ob xs q=>b.gg c ob xs (a.gg c ob xs q)
 gz:=λ c ps q=>by
  obtain ⟨m1,e1⟩:=a.gz c ps q
  obtain ⟨m2,e2⟩:=b.gz c _ e1
  exact ⟨m1++m2,by rw [e2,Array.append_assoc]⟩
theorem Un.kept (k : ∀ b u,h.get? b=some u->h'.get? b=some u):Un fs ex H H h h' :=
 ⟨λ b ob q _ _ _=>k b ob q,λ b ob q _ _ _=>⟨ob.slots,k b ob q⟩,λ _ _ _ n _=>n,λ b ob q _=>⟨ob,k b ob q⟩,λ _ _ q=>q,λ _ _ _ q=>q,λ _ ps q=>⟨#[],by rw [q];simp⟩⟩
theorem Un.refl:Un fs ex H H h h:=Un.kept λ _ _ q=>q
theorem Un.laid (k : ∀ b u,h.get? b=some u->h'.get? b=some u) (hp:h.objs.size<=a) (hn:H a=none):Un fs ex H (upd H a o) h h' where
 keep:=λ b u q _ _ _=>k b u q
 slot:=λ b u q _ _ _=>⟨u.slots,k b u q⟩
 free:=λ b u q n _=>by rw [aQ (Nat.ne_of_lt (Nat.lt_of_lt_of_le (Heap.lt_size q) hp))];exact n
 there:=λ b u q _=>⟨u,k b u q⟩
 tups:=λ b xs q=>by rw [aQ (cX q hn)];exact q
 gg:=λ b u xs q=>by rw [aQ (cX q hn)];exact q
 gz:=λ b ps q=>⟨#[],by rw [aQ (cX q hn),q];simp⟩
theorem Un.write (mu:Hw (H x)) (he:e=x\/H e=some (.own x)) (k : ∀ b u,b≠e->h.get? b=some u->h'.get? b=some u) (GZ : ∃ u,h'.get? e=some u):Un fs ex H (upd H x o) h h':=by
 have hx : ∀ b,H b=none->b≠x:=λ b n z=>by subst z;rw [n] at mu;exact mu
 have hb : ∀ b,H b=none->b≠e:=λ b n z=>by
  subst z
  rcases he with r | r
  ·exact hx b n r
  ·rw [n] at r;cases r
 have hm : ∀ b u,H b=some u->¬ Hw (some u)->b≠x:=λ b u q nm z=>by subst z;rw [q] at mu;exact nm mu
 refine ⟨λ b u q n _ _=>k b u (hb b n) q,λ b u q n _ _=>⟨u.slots,k b u (hb b n) q⟩,λ b u q n _=>by rw [aQ (hx b n)];exact n,λ b u q _ => ?_,
  λ b xs q=>by rw [aQ (hm b _ q λ z=>z)];exact q,λ b u xs q=>by rw [aQ (hm b _ q λ z=>z)];exact q,λ b ps q=>⟨#[],by rw [aQ (hm b _ q λ z=>z),q];simp⟩⟩
 by_cases Fq:b=e
 ·subst Fq;exact GZ
 ·exact ⟨u,k b u Fq q⟩
theorem Un.mono (u:Un fs ex H H1 h h1) (hs : ∀ b∈fs,b∈fs') (hx : ∀ b∈ex,b∈ex'):Un fs' ex' H H1 h h1 :=
 ⟨λ b ob q n hb he=>u.keep b ob q n (λ z=>hb (hs b z)) λ z=>he (hx b z),λ _ _ q n _ he=>u.any q n λ z=>he (hx _ z),λ b ob q n he=>u.free b ob q n λ z=>he (hx b z),λ b ob q he=>u.there b ob q λ z=>he (hx b z),u.tups,u.gg,u.gz⟩
end
def JH (h:Heap) (H:Hp):List Addr:=(List.range h.objs.size).filter λ a=>(H a).isSome
def rX (h:Heap) (H:Hp):Heap:=PySem.W.hideAll h (JH h H)
theorem zF (h:Heap) (H:Hp):(rX h H).objs.size=h.objs.size:=PySem.W.hideAll_size _ _
theorem AV {h:Heap} {H:Hp} {b:Addr} {o:Obj} (e:h.get? b=some o) (n:H b=none):(rX h H).get? b=some o :=
 PySem.W.hideAll_get _ e λ hm=>by
  have q:(H b).isSome=true:=(List.mem_filter.mp hm).2
  rw [n] at q;simp at q
theorem Dl {h:Heap} {H:Hp} {b:Addr} {o:Obj} (e:(rX h H).get? b=some o):h.get? b=some o/\H b=none:=by
 have e':h.get? b=some o:=PySem.W.of_hideAll (JH h H) e
 refine ⟨e',?_⟩
 cases q:H b with
 | none=>rfl
 | some x =>
   have hm:b∈JH h H:=List.mem_filter.mpr ⟨List.mem_range.mpr (Heap.lt_size e'),by simp [q]⟩
   have z:(rX h H).get? b=none:=PySem.W.hideAll_none (JH h H) hm
   rw [z] at e;cases e
def Dm (g h:Heap) (L:Addr):List (Addr×Obj):=(List.range h.objs.size).filterMap λ a=>if a=L\/(g.get? a).isSome=true then none else (h.get? a).map λ o=>(a,o)
def rest (g h:Heap) (L d:Addr):List (Addr×Obj):=(Dm g h L).filter λ p=>decide (p.1≠d)
structure Mod (K:PySem.W.Frag) (mg:Str->Option Value) (base:Heap):Prop where
 Ft:K.In base
 glob:base.Ns mainGlobals mg
 blt : ∃ mb,base.Ns builtinsNs mb ∧ ∀ x:Str,x ≠ "__name__"->mb x=bootBuiltins x
 nolimit:base.NoLimit
structure Cx where
 prog:Program
 w:World
 K:PySem.W.Frag
 mg:Str->Option Value
 base:Heap
 A:Around
 N:List Str
 s₀ : Shared
 H₀ : Hp
 env:Env
 outer:List Env
 stack:List Env
 ex:List Addr
 fn:Str->Bool
 calm:Bool
 pn:List (Addr×Obj)
 xe:Value->Shared->Prop
def frs (l:List Env):List Addr:=l.filterMap (·.frame)
abbrev Cx.fs (X:Cx):List Addr:=frs X.outer
def Fv (sc:Scope) (x:Str):Prop:=sc.names.lookup x=some .local\/sc.names.lookup x=some .cell\/sc.names.lookup x=some .free
def Loc (sc:Scope) (x:Str):Prop:=sc.names.lookup x=some .local\/sc.names.lookup x=some .cell
def Look (env:Env) (h:Heap) (m:Str->Option Value) (x:Str) (u:Value):Prop :=
 (env.kindOf x=some .local/\m x=some u)\/((env.kindOf x=some .cell\/env.kindOf x=some .free) ∧ ∃ c,env.cells.lookup x=some c/\h.IsCell c (some u))
structure Cx.Ok (X:Cx):Prop where
 mod:Mod X.K X.mg X.base
 kind:X.env.scope.kind = .function
 glob:X.env.globals=mainGlobals
 blt:X.env.builtins=builtinsNs
 above:X.s₀.heap.objs.size<=X.env.locals
 inj : ∀ x y c,X.env.cells.lookup x=some c->X.env.cells.lookup y=some c->x=y
 has : ∀ x,(X.env.kindOf x=some .cell\/X.env.kindOf x=some .free)->∃ c,X.env.cells.lookup x=some c
 Fw : ∀ x c,X.fn x=true->X.env.cells.lookup x=some c->X.s₀.heap.objs.size<=c
 hd:X.calm=true->X.A.handled=none
 frames:X.A.frames=some X.stack
 stk:X.stack=X.outer\/(X.stack=X.env::X.outer/\X.env.frame=some X.env.locals)
 JI : ∀ b∈X.ex,b≠X.env.locals ∧ ∀ x c,X.env.cells.lookup x=some c->c≠b
 bs : ∀ b o,X.base.get? b=some o->X.s₀.heap.get? b=some o/\X.H₀ b=none
 AN:X.base.objs.size<=X.s₀.heap.objs.size
 wI : ∀ b o,X.base.get? b=some o->b ∉ X.ex
 zG : ∀ b∈X.ex,b ∉ X.fs
 kZ:X.s₀.heap.FunFrames X.base X.outer
 Dn : ∀ b∈X.fs,X.H₀ b=none
structure Inv (X:Cx) (pins:List (Addr×Obj)) (σ : List (Option V)) (H:Hp) (s:Shared):Prop where
 ok:X.Ok
 os:s.os=X.s₀.os
 bare:AllBare s.gens
 base:Un X.fs X.ex X.H₀ H X.s₀.heap s.heap
 loc : ∃ m,s.heap.Ns X.env.locals m ∧ ∀ (i:Nat) (x:Str) (v:V),X.N[i]? = some x->σ[i]? = some (some v)->Fv X.env.scope x->∃ u,RelV v u/\Look X.env s.heap m x u
 cell : ∀ x c,X.env.cells.lookup x=some c->∃ v,s.heap.IsCell c v
 free:H X.env.locals=none
 fJ : ∀ x c,X.env.cells.lookup x=some c->H c=none
 pin : ∀ p∈X.pn++pins,s.heap.get? p.1=some p.2/\H p.1=none/\p.1≠X.env.locals/\p.1 ∉ X.fs ∧ ∀ v,p.2.data ≠ .cell v
 hok:ic X.prog X.w H s.heap
 len : σ.length=X.N.length
section
variable {X:Cx} {pins:List (Addr×Obj)} {σ : List (Option V)} {H H':Hp} {s:Shared} {h':Heap}
theorem Cx.Ok.KA (ok:X.Ok) {b:Addr} {o:Obj} (e:X.base.get? b=some o):b ∉ X.fs:=λ hb=>by
 have:=(ok.kZ.mem hb).1
 rw [e] at this;cases this
theorem Inv.bs (I:Inv X pins σ H s) : ∀ b o,X.base.get? b=some o->s.heap.get? b=some o/\H b=none:=λ b o e =>
 ⟨I.base.keep b o (I.ok.bs b o e).1 (I.ok.bs b o e).2 (I.ok.KA e) (I.ok.wI b o e),I.base.free b o (I.ok.bs b o e).1 (I.ok.bs b o e).2 (I.ok.wI b o e)⟩
theorem Inv.bk (I:Inv X pins σ H s) : ∀ b o,X.base.get? b=some o->s.heap.get? b=some o:=λ b o e=>(I.bs b o e).1
theorem Inv.mod (I:Inv X pins σ H s):Mod X.K X.mg X.base:=I.ok.mod
theorem Inv.jN (I:Inv X pins σ H s):X.K.In s.heap:=I.ok.mod.Ft.keeps I.bk
theorem Inv.fr (I:Inv X pins σ H s) : ∃ m,Fr X.base X.env.locals s.heap m :=
 let ⟨m,hn,_⟩:=I.loc
 ⟨m,hn,I.bk,Nat.le_trans I.ok.AN I.ok.above⟩
theorem Inv.lt (I:Inv X pins σ H s):X.env.locals < s.heap.objs.size:=let ⟨_,hn,_⟩:=I.loc;hn.lt
theorem Inv.sz (I:Inv X pins σ H s):X.s₀.heap.objs.size<=s.heap.objs.size:=Nat.le_trans I.ok.above (Nat.le_of_lt I.lt)
theorem Inv.KC (I:Inv X pins σ H s) {a:Addr} (h:s.heap.objs.size<=a):a ∉ X.fs:=λ hb=>by
 obtain ⟨_,o,ho,_⟩:=I.ok.kZ.mem hb
 exact absurd (Nat.lt_of_lt_of_le (Heap.lt_size ho) (Nat.le_trans I.sz h)) (Nat.lt_irrefl _)
theorem Inv.AW (I:Inv X pins σ H s) : ∀ x c,X.env.cells.lookup x=some c->c≠X.env.locals:=λ x c e z=>by
 obtain ⟨v,o,ho,hd⟩:=I.cell x c e
 obtain ⟨m,⟨o',es,ep,ho',hd',_⟩,_⟩:=I.loc
 rw [z,ho'] at ho;cases ho;rw [hd'] at hd;cases hd
theorem Inv.kZ (I:Inv X pins σ H s):s.heap.FunFrames X.base X.outer:=by
 have all : ∀ (l:List Env),(∀ b∈frs l,b∈X.fs)->X.s₀.heap.FunFrames X.base l->s.heap.FunFrames X.base l:=by
  intro l
  induction l with
  | nil=>intro _ _;trivial
  | cons env r ih =>
    intro hs hl
    obtain ⟨hk,⟨L,o,hf,hn,ho,hd⟩,hr⟩:=hl
    have hL:L∈X.fs:=hs L (by unfold frs;rw [List.filterMap_cons,hf];exact List.mem_cons_self)
    obtain ⟨sl,e⟩:=I.base.slot L o ho (I.ok.Dn L hL) hL λ z=>I.ok.zG L z hL
    exact ⟨hk,⟨L,_,hf,hn,e,hd⟩,ih (λ b hb=>hs b (by unfold frs;rw [List.filterMap_cons,hf];exact List.mem_cons_of_mem _ hb)) hr⟩
 exact all X.outer (λ _ hb=>hb) I.ok.kZ
theorem Inv.stack (I:Inv X pins σ H s):s.heap.FunFrames X.base X.stack:=by
 rcases I.ok.stk with e | ⟨e,hf⟩
 ·rw [e];exact I.kZ
 ·rw [e]
  obtain ⟨m,hn,_⟩:=I.loc
  refine .cons (by rw [I.ok.kind];decide) hf hn ?_ I.kZ
  exact Heap.get?_none_of_le (Nat.le_trans I.ok.AN I.ok.above)
theorem Inv.oH (I:Inv X pins σ H s) : ∀ b∈frs X.stack,b∈X.env.locals::X.fs:=λ b hb=>by
 rcases I.ok.stk with e | ⟨e,hf⟩
 ·rw [e] at hb;exact List.mem_cons_of_mem _ hb
 ·rw [e] at hb
  unfold frs at hb
  rw [List.filterMap_cons,hf] at hb
  exact hb
theorem Inv.rY (I:Inv X pins σ H s) : ∀ b∈frs X.stack,H b=none:=λ b hb=>by
 rcases List.mem_cons.mp (I.oH b hb) with e | hb
 ·rw [e];exact I.free
 ·obtain ⟨_,o,ho,_⟩:=I.ok.kZ.mem hb
  exact I.base.free b o ho (I.ok.Dn b hb) λ z=>I.ok.zG b z hb
theorem Inv.step {g':Array GenState} {t':Nat} {d':Drawn} {ch:List Addr} (I:Inv X pins σ H s)
  (hch : ∀ b∈ch,(b∈X.ex\/X.s₀.heap.objs.size<=b)/\b≠X.env.locals/\(∀ x c,X.env.cells.lookup x=some c->c≠b) ∧ ∀ p∈X.pn++pins,p.1≠b)
  (keep : ∀ b o,b≠X.env.locals->b ∉ X.fs->b ∉ ch->s.heap.get? b=some o->H b=none->h'.get? b=some o)
  (slot : ∀ b o,b≠X.env.locals->b∈X.fs->b ∉ ch->s.heap.get? b=some o->H b=none->∃ sl,h'.get? b=some { o with slots:=sl }) (free : ∀ b o,b ∉ ch->s.heap.get? b=some o->H b=none->H' b=none)
  (there : ∀ b o,b ∉ ch->s.heap.get? b=some o->∃ o',h'.get? b=some o')
  (tups : ∀ b xs,H b=some (.tup xs)->H' b=some (.tup xs)) (gg : ∀ b o u,H b=some (.ux o u)->H' b=some (.ux o u)) (gz : ∀ b ps,H b=some (.EG ps)->∃ more,H' b=some (.EG (ps++more)))
  (ns : ∀ m,s.heap.Ns X.env.locals m->h'.Ns X.env.locals m) (hok:ic X.prog X.w H' h') (hg:AllBare g') :
  Inv X pins σ H' { s with heap:=h',gens:=g',drawn:=d',toks:=t' } := by
 have MQ : ∀ b o,X.s₀.heap.get? b=some o->b≠X.env.locals:=λ b o e=>Nat.ne_of_lt (Nat.lt_of_lt_of_le (Heap.lt_size e) I.ok.above)
 have G0 : ∀ b o,X.s₀.heap.get? b=some o->b ∉ X.ex->b ∉ ch:=λ b o e hx hb=>by
  rcases (hch b hb).1 with z | z
  ·exact hx z
  ·exact absurd (Nat.lt_of_lt_of_le (Heap.lt_size e) z) (Nat.lt_irrefl _)
 have cellK : ∀ x c,X.env.cells.lookup x=some c->∀ v,s.heap.IsCell c v->h'.IsCell c v:=λ x c e v ⟨o,ho,hd⟩=>by
  have Hz:c ∉ ch:=λ z=>(hch c z).2.2.1 x c e rfl
  by_cases hc:c∈X.fs
  ·obtain ⟨sl,q⟩:=slot c o (I.AW x c e) hc Hz ho (I.fJ x c e)
   exact ⟨_,q,hd⟩
  ·exact ⟨o,keep c o (I.AW x c e) hc Hz ho (I.fJ x c e),hd⟩
 refine ⟨I.ok,I.os,hg,⟨λ b o e n hb hx => ?_,λ b o e n hb hx => ?_,λ b o e n hx => ?_,λ b o e hx => ?_,λ b xs e=>tups b xs (I.base.tups b xs e),λ b o xs e=>gg b o xs (I.base.gg b o xs e),λ b ps e => ?_⟩,?_,λ x c e => ?_,?_,λ x c e => ?_,λ p hp => ?_,hok,I.len⟩
 ·exact keep b o (MQ b o e) hb (G0 b o e hx) (I.base.keep b o e n hb hx) (I.base.free b o e n hx)
 ·obtain ⟨sl,e1⟩:=I.base.slot b o e n hb hx
  obtain ⟨zE,e2⟩:=slot b _ (MQ b o e) hb (G0 b o e hx) e1 (I.base.free b o e n hx)
  exact ⟨zE,e2⟩
 ·obtain ⟨o',e1⟩:=I.base.there b o e hx
  exact free b o' (G0 b o e hx) e1 (I.base.free b o e n hx)
 ·obtain ⟨o',e1⟩:=I.base.there b o e hx
  exact there b o' (G0 b o e hx) e1
 ·obtain ⟨m1,e1⟩:=I.base.gz b ps e
  obtain ⟨m2,e2⟩:=gz b _ e1
  exact ⟨m1++m2,by rw [e2,Array.append_assoc]⟩
 ·obtain ⟨m,hn,hl⟩:=I.loc
  refine ⟨m,ns m hn,λ i x v e1 e2 e3 => ?_⟩
  obtain ⟨u,r,l⟩:=hl i x v e1 e2 e3
  refine ⟨u,r,?_⟩
  rcases l with l | ⟨k,c,e,z⟩
  ·exact .inl l
  ·exact .inr ⟨k,c,e,cellK x c e _ z⟩
 ·obtain ⟨v,z⟩:=I.cell x c e
  exact ⟨v,cellK x c e v z⟩
 ·obtain ⟨m,⟨o,_,_,ho,_⟩,_⟩:=I.loc
  exact free _ o (λ z=>(hch _ z).2.1 rfl) ho I.free
 ·obtain ⟨v,o,ho,hd⟩:=I.cell x c e
  exact free c o (λ z=>(hch c z).2.2.1 x c e rfl) ho (I.fJ x c e)
 ·obtain ⟨e,n,ne,nf,d⟩:=I.pin p hp
  have Hz:p.1 ∉ ch:=λ z=>(hch p.1 z).2.2.2 p hp rfl
  exact ⟨keep p.1 p.2 ne nf Hz e n,free p.1 p.2 Hz e n,ne,nf,d⟩
theorem Inv.un {t':Nat} (I:Inv X pins σ H s) (u:Un X.fs [] H H' s.heap h') (hok:ic X.prog X.w H' h'):Inv X pins σ H' { s with heap:=h',toks:=t' } := by
 obtain ⟨m,⟨o,es,ep,ho,r⟩,_⟩:=id I.loc
 obtain ⟨sl,hL⟩:=u.any ho I.free (by simp)
 exact I.step (g':=s.gens) (d':=s.drawn) (ch:=[]) (λ _ z=>nomatch z) (λ b o _ hb _ e n=>u.keep b o e n hb (by simp)) (λ b o _ hb _ e n=>u.slot b o e n hb (by simp)) (λ b o _ e n=>u.free b o e n (by simp)) (λ b o _ e=>u.there b o e (by simp)) u.tups u.gg u.gz (λ m' hm=>by
  obtain ⟨o',es',KD,ho',r'⟩:=hm
  rw [ho] at ho';cases ho'
  exact ⟨_,es',KD,hL,r'⟩) hok I.bare
theorem Inv.call {g':Array GenState} {t':Nat} {d':Drawn} {ch:List Addr} (I:Inv X pins σ H s) (u:Un (frs X.stack) ch H H' s.heap h') (hok:ic X.prog X.w H' h') (hg:AllBare g')
  (hch : ∀ b∈ch,(b∈X.ex\/X.s₀.heap.objs.size<=b)/\b≠X.env.locals/\(∀ x c,X.env.cells.lookup x=some c->c≠b) ∧ ∀ p∈X.pn++pins,p.1≠b) :
  Inv X pins σ H' { s with heap:=h',gens:=g',drawn:=d',toks:=t' } := by
 obtain ⟨m,⟨o,es,ep,ho,r⟩,_⟩:=id I.loc
 obtain ⟨sl,hL⟩:=u.any ho I.free λ z=>(hch _ z).2.1 rfl
 exact I.step (ch:=ch) hch (λ b o hL hb hc e n=>u.keep b o e n (λ z=>(List.mem_cons.mp (I.oH b z)).elim hL hb) hc) (λ b o _ _ hc e n=>u.any e n hc) (λ b o hc e n=>u.free b o e n hc) (λ b o hc e=>u.there b o e hc) u.tups u.gg u.gz (λ m' hm=>by
  obtain ⟨o',es',KD,ho',r'⟩:=hm
  rw [ho] at ho';cases ho'
  exact ⟨_,es',KD,hL,r'⟩) hok hg
theorem Inv.turned {t':Nat} {it:Addr} (I:Inv X pins σ H s) (k : ∀ b o,b≠it->s.heap.get? b=some o->h'.get? b=some o) (hn:H it=none) (hL:it≠X.env.locals)
  (h1:it∈X.ex\/X.s₀.heap.objs.size<=it) (h2 : ∀ x c,X.env.cells.lookup x=some c->c≠it) (h3 : ∀ p∈X.pn++pins,p.1≠it):Inv X pins σ H { s with heap:=h',toks:=t' } := by
 have MR : ∀ b u,H b=some u->b≠it:=λ b u e z=>by rw [z,hn] at e;cases e
 refine I.step (g':=s.gens) (d':=s.drawn) (ch:=[it]) (λ b hb => ?_) (λ b o _ _ hc e _=>k b o (λ z=>hc (by simp [z])) e) (λ b o _ _ hc e _=>⟨o.slots,k b o (λ z=>hc (by simp [z])) e⟩) (λ _ _ _ _ n=>n)
  (λ b o hc e=>⟨o,k b o (λ z=>hc (by simp [z])) e⟩) (λ _ _ e=>e) (λ _ _ _ e=>e) (λ b ps e=>⟨#[],by rw [e];simp⟩) (λ m hm => ?_) (λ b u e => ?_) I.bare
 ·have e:b=it:=by simpa using hb
  subst e
  exact ⟨h1,hL,h2,h3⟩
 ·obtain ⟨o,es,ep,ho,r⟩:=hm
  exact ⟨o,es,ep,k _ o (Ne.symm hL) ho,r⟩
 ·refine (I.hok b u e).stay (λ c v hc q=>k c v ?_ q) (λ _ q=>q) λ _ _ q=>q
  rcases hc with z | z
  ·rw [z];exact MR b u e
  ·exact MR c _ z
theorem Inv.tok (I:Inv X pins σ H s) (t:Nat):Inv X pins σ H { s with toks:=t } := I.un (h':=s.heap) (t':=t) Un.refl I.hok
theorem Inv.kept {t':Nat} (I:Inv X pins σ H s) (k : ∀ b u,s.heap.get? b=some u->h'.get? b=some u):Inv X pins σ H { s with heap:=h',toks:=t' } := I.un (Un.kept k) (I.hok.kept k)
theorem Inv.laid {a:Addr} {o:HO} {t':Nat} (I:Inv X pins σ H s) (k : ∀ b u,s.heap.get? b=some u->h'.get? b=some u) (hp:s.heap.objs.size<=a) (new:bx X.prog X.w (upd H a o) h' a o) :
  Inv X pins σ (upd H a o) { s with heap:=h',toks:=t' } := I.un (Un.laid k hp (I.hok.fresh hp)) (I.hok.laid k hp new)
theorem Inv.write {x e:Addr} {o:HO} {t':Nat} (I:Inv X pins σ H s) (mu:Hw (H x)) (he:e=x\/H e=some (.own x)) (k : ∀ b u,b≠e->s.heap.get? b=some u->h'.get? b=some u) (GZ : ∃ u,h'.get? e=some u)
  (new:bx X.prog X.w (upd H x o) h' x o):Inv X pins σ (upd H x o) { s with heap:=h',toks:=t' } := I.un (Un.write mu he k GZ) (I.hok.write mu he k GZ new)
theorem Inv.yh {k7:List (Addr×Obj)} (I:Inv X pins σ H s) (h : ∀ p∈k7,s.heap.get? p.1=some p.2/\H p.1=none/\p.1≠X.env.locals/\p.1 ∉ X.fs ∧ ∀ v,p.2.data ≠ .cell v):Inv X k7 σ H s :=
 ⟨I.ok,I.os,I.bare,I.base,I.loc,I.cell,I.free,I.fJ,λ p hp=>(List.mem_append.mp hp).elim (λ z=>I.pin p (List.mem_append_left _ z)) (h p),I.hok,I.len⟩
theorem oJ {N:List Str} (hN:N.Nodup) {i j:Nat} {x:Str} (a:N[i]? = some x) (b:N[j]? = some x):i=j:=by
 obtain ⟨h1,e1⟩:=List.getElem?_eq_some_iff.mp a
 obtain ⟨h2,e2⟩:=List.getElem?_eq_some_iff.mp b
 exact (List.getElem_inj hN).mp (e1.trans e2.symm)
theorem qT {M:Model} {A:Around} {E:Value->Shared->Prop} {i:Nat} {x:Str} {v:V} {u:Value} {Q:Unit->Shared->Prop} (I:Inv X pins σ H s) (hN:X.N.Nodup) (hi:X.N[i]? = some x) (hx:Loc X.env.scope x) (r:RelV v u)
  (h : ∀ s',Inv X pins (σ.set i (some v)) H s'->(∃ a,Heap.SameBut a s.heap s'.heap/\(a=X.env.locals\/X.env.cells.lookup x=some a))->Q () s') (hf:X.fn x=true\/X.env.scope.names.lookup x=some .local:=by first | exact .inl rfl | exact .inr rfl | assumption):wpAny M A (storeName X.env x u) Q E s:=by
 obtain ⟨m,hn,hl⟩:=id I.loc
 have hcls:(X.env.scope.kind == .class || (X.env.scope.kind == .module && X.env.locals != X.env.globals))=false:=by rw [I.ok.kind];rfl
 have JJ:i < σ.length:=by rw [I.len];exact (List.getElem?_eq_some_iff.mp hi).1
 have AW:=I.AW
 have tracked : ∀ {a:Addr} {h':Heap},(∃ o,s.heap.get? a=some o/\H a=none)->Heap.SameBut a s.heap h'->ic X.prog X.w H h':=fun {a h'} ha hs b ob e=>by
  obtain ⟨_,_,hfree⟩:=ha
  refine (I.hok b ob e).stay (λ c w' hc q=>(hs.2 c ?_).trans q) (λ _ q=>q) λ _ _ q=>q
  rintro rfl
  rcases hc with rfl | hc
  ·rw [hfree] at e;cases e
  ·rw [hfree] at hc;cases hc
 rcases hx with hk | hk
 ·refine wpAny_storeName_local hk hn (λ h' hn' hs => ?_) hcls
  obtain ⟨oL,_,_,C8,_⟩:=id hn
  refine h _ ⟨I.ok,I.os,I.bare,⟨λ b o e n hb hx => ?_,λ b o e n hb hx => ?_,I.base.free,λ b o e hx => ?_,I.base.tups,I.base.gg,I.base.gz⟩,⟨_,hn',λ j y v' e1 e2 e3 => ?_⟩,λ y c e => ?_,I.free,I.fJ,λ p hp => ?_,tracked ⟨oL,C8,I.free⟩ hs,by simpa using I.len⟩ ⟨_,hs,.inl rfl⟩
  ·exact (hs.2 b (Nat.ne_of_lt (Nat.lt_of_lt_of_le (Heap.lt_size e) I.ok.above))).trans (I.base.keep b o e n hb hx)
  ·obtain ⟨sl,e1⟩:=I.base.slot b o e n hb hx
   exact ⟨sl,(hs.2 b (Nat.ne_of_lt (Nat.lt_of_lt_of_le (Heap.lt_size e) I.ok.above))).trans e1⟩
  ·obtain ⟨o',e1⟩:=I.base.there b o e hx
   exact ⟨o',(hs.2 b (Nat.ne_of_lt (Nat.lt_of_lt_of_le (Heap.lt_size e) I.ok.above))).trans e1⟩
  ·by_cases hj:j=i
   ·subst hj
    rw [hi] at e1;cases e1
    rw [List.getElem?_set_self JJ] at e2
    cases e2
    exact ⟨u,r,.inl ⟨hk,by simp⟩⟩
   ·rw [List.getElem?_set_ne (Ne.symm hj)] at e2
    obtain ⟨u',r',q⟩:=hl j y v' e1 e2 e3
    refine ⟨u',r',?_⟩
    rcases q with ⟨k,e⟩ | ⟨k,c,e,z⟩
    ·refine .inl ⟨k,?_⟩
     have:y≠x:=λ e=>hj (oJ hN e1 (e ▸ hi))
     simp [this,e]
    ·exact .inr ⟨k,c,e,z.sameBut hs (AW y c e)⟩
  ·obtain ⟨w',z⟩:=I.cell y c e
   exact ⟨w',z.sameBut hs (AW y c e)⟩
  ·obtain ⟨e,n,ne,nf,d⟩:=I.pin p hp
   exact ⟨(hs.2 p.1 ne).trans e,n,ne,nf,d⟩
 ·have hfn:X.fn x=true:=by
   rcases hf with z | z
   ·exact z
   ·rw [z] at hk;cases hk
  obtain ⟨c,hc⟩:=I.ok.has x (.inl hk)
  obtain ⟨w',z⟩:=I.cell x c hc
  refine wpAny_storeName_cell I.ok.kind hk hc z (λ h' hc' hs => ?_)
  obtain ⟨oc,hoc,KG⟩:=id z
  refine h { s with heap:=h' } ⟨I.ok,I.os,I.bare,⟨λ b o e n hb hx => ?_,λ b o e n hb hx => ?_,I.base.free,λ b o e hx => ?_,I.base.tups,I.base.gg,I.base.gz⟩,⟨m,hn.sameBut hs (Ne.symm (AW x c hc)),λ j y v' e1 e2 e3 => ?_⟩,λ y c' e => ?_,I.free,I.fJ,λ p hp => ?_,tracked ⟨oc,hoc,I.fJ x c hc⟩ hs,by simpa using I.len⟩ ⟨c,hs,.inr hc⟩
  ·exact (hs.2 b (Nat.ne_of_lt (Nat.lt_of_lt_of_le (Heap.lt_size e) (I.ok.Fw x c hfn hc)))).trans (I.base.keep b o e n hb hx)
  ·obtain ⟨sl,e1⟩:=I.base.slot b o e n hb hx
   exact ⟨sl,(hs.2 b (Nat.ne_of_lt (Nat.lt_of_lt_of_le (Heap.lt_size e) (I.ok.Fw x c hfn hc)))).trans e1⟩
  ·obtain ⟨o',e1⟩:=I.base.there b o e hx
   exact ⟨o',(hs.2 b (Nat.ne_of_lt (Nat.lt_of_lt_of_le (Heap.lt_size e) (I.ok.Fw x c hfn hc)))).trans e1⟩
  ·by_cases hj:j=i
   ·subst hj
    rw [hi] at e1;cases e1
    rw [List.getElem?_set_self JJ] at e2
    cases e2
    exact ⟨u,r,.inr ⟨.inl hk,c,hc,hc'⟩⟩
   ·rw [List.getElem?_set_ne (Ne.symm hj)] at e2
    obtain ⟨u',r',q⟩:=hl j y v' e1 e2 e3
    refine ⟨u',r',?_⟩
    rcases q with q | ⟨k,c',e,z'⟩
    ·exact .inl q
    ·refine .inr ⟨k,c',e,z'.sameBut hs ?_⟩
     rintro rfl
     exact hj (oJ hN e1 (I.ok.inj _ _ _ e hc ▸ hi))
  ·by_cases hcc:c' = c
   ·subst hcc;exact ⟨_,hc'⟩
   ·obtain ⟨w2,z2⟩:=I.cell y c' e
    exact ⟨w2,z2.sameBut hs hcc⟩
  ·obtain ⟨e,n,ne,nf,d⟩:=I.pin p hp
   refine ⟨(hs.2 p.1 ?_).trans e,n,ne,nf,d⟩
   intro q
   rw [q,hoc] at e
   have q':oc=p.2:=Option.some.inj e
   exact d w' (by rw [<-q'];exact KG)
theorem k8 {M:Model} {A:Around} {E:Value->Shared->Prop} {i:Nat} {x:Str} {v:V} {u:Value} {Q:Unit->Shared->Prop} (I:Inv X pins σ H s) (hN:X.N.Nodup) (hi:X.N[i]? = some x) (hx:Loc X.env.scope x) (r:RelV v u)
  (h : ∀ s',Inv X pins (σ.set i (some v)) H s'->Q () s') (hf:X.fn x=true\/X.env.scope.names.lookup x=some .local:=by first | exact .inl rfl | exact .inr rfl | assumption):wpAny M A (storeName X.env x u) Q E s :=
 qT I hN hi hx r (λ s' I' _=>h s' I') hf
theorem Inv.AX {s':Shared} {ch:List Addr} (I:Inv X pins σ H s) (ho:s'.os=s.os) (u:Un (frs X.stack) ch H H' s.heap s'.heap) (hok:ic X.prog X.w H' s'.heap) (hg:AllBare s'.gens)
  (hch : ∀ b∈ch,(b∈X.ex\/X.s₀.heap.objs.size<=b)/\b≠X.env.locals/\(∀ x c,X.env.cells.lookup x=some c->c≠b) ∧ ∀ p∈X.pn++pins,p.1≠b):Inv X pins σ H' s':=by
 obtain ⟨h',g',d',t',o'⟩:=s'
 have e:o' = s.os:=ho
 subst e
 exact I.call (g':=g') (t':=t') (d':=d') u hok hg hch
end
abbrev XK:=Value->Option Addr->Hp->Prop
abbrev St:=List (Option V)
abbrev VK:=V->Hp->Prop
abbrev TE:=St->Hp->VK->Prop
abbrev TT:=St->Hp->(Bool->Hp->Prop)->Prop
abbrev TA:=St->Hp->(List V->Hp->Prop)->Prop
structure Ends where
 nx:St->Hp->Prop
 rt:VK
 bk:St->Hp->Prop:=λ _ _=>False
 ct:St->Hp->Prop:=λ _ _=>False
abbrev TS:=Ends->St->Hp->Prop
def EP (X:Cx) (pins:List (Addr×Obj)) (σ : St) (Q:VK) (u:Value) (s':Shared):Prop := ∃ v H',Inv X pins σ H' s'/\RelV v u/\Q v H'
def TP (X:Cx) (pins:List (Addr×Obj)) (σ : St) (Q:Bool->Hp->Prop) (b:Bool) (s':Shared):Prop := ∃ H',Inv X pins σ H' s'/\Q b H'
def AP (X:Cx) (pins:List (Addr×Obj)) (σ : St) (Q:List V->Hp->Prop) (us:List Value) (s':Shared):Prop := ∃ vs H',Inv X pins σ H' s'/\Vals vs us/\Q vs H'
def SP (X:Cx) (pins:List (Addr×Obj)) (D:Ends) (f:Flow) (s':Shared):Prop :=
 match f with
 | .next => ∃ σ' H',Inv X pins σ' H' s'/\D.nx σ' H'
 | .brk => ∃ σ' H',Inv X pins σ' H' s'/\D.bk σ' H'
 | .cont => ∃ σ' H',Inv X pins σ' H' s'/\D.ct σ' H'
 | .ret u => ∃ v σ' H',Inv X pins σ' H' s'/\RelV v u/\D.rt v H'
def PE (X:Cx) (e:Expr) (t:TE):Prop :=
 ∀ (pins:List (Addr×Obj)) (s:Shared) (σ : St) (H:Hp) (Q:VK),Inv X pins σ H s->t σ H Q->wpAny (model X.prog X.w) X.A (eval e X.env) (EP X pins σ Q) X.xe s
def PT (X:Cx) (e:Expr) (t:TT):Prop :=
 ∀ (pins:List (Addr×Obj)) (s:Shared) (σ : St) (H:Hp) (Q:Bool->Hp->Prop),Inv X pins σ H s->t σ H Q->wpAny (model X.prog X.w) X.A (isTrue e X.env (eval e X.env)) (TP X pins σ Q) X.xe s
def PW (X:Cx) (e:Expr) (t:TT):Prop :=
 ∀ (whole:Sem Value) (pins:List (Addr×Obj)) (s:Shared) (σ : St) (H:Hp) (Q:Bool->Hp->Prop),Inv X pins σ H s->t σ H Q->wpAny (model X.prog X.w) X.A (isTrue e X.env whole) (TP X pins σ Q) X.xe s
theorem PW.pt {X:Cx} {e:Expr} {t:TT} (h:PW X e t):PT X e t:=h _
def PA (X:Cx) (es:List Expr) (t:TA):Prop :=
 ∀ (pos:Pos) (pins:List (Addr×Obj)) (s:Shared) (σ : St) (H:Hp) (Q:List V->Hp->Prop),Inv X pins σ H s->t σ H Q->wpAny (model X.prog X.w) X.A (spliced (backTo pos (starEach es X.env))) (AP X pins σ Q) X.xe s
def PS (X:Cx) (st:Stmt) (t:TS):Prop :=
 ∀ (pins:List (Addr×Obj)) (s:Shared) (σ : St) (H:Hp) (D:Ends),Inv X pins σ H s->t D σ H->wpAny (model X.prog X.w) X.A (exec st X.env) (SP X pins D) X.xe s
def qm (X:Cx) (st:List Stmt) (t:TS):Prop :=
 ∀ (pins:List (Addr×Obj)) (s:Shared) (σ : St) (H:Hp) (D:Ends),Inv X pins σ H s->t D σ H->wpAny (model X.prog X.w) X.A (execs st X.env) (SP X pins D) X.xe s
theorem bL {α : Type} {t:Sem α} {Q Q' : α->Shared->Prop} {M:Model} {A:Around} {E:Value->Shared->Prop} {s:Shared} (h:wpAny M A t Q E s) (hQ : ∀ a s,Q a s->Q' a s):wpAny M A t Q' E s:=wpAny_mono h hQ λ _ _ x=>x
section
variable {X:Cx}
theorem bin {a b:Expr} {ta tb:TE} (ha:PE X a ta) (hb:PE X b tb) {pins:List (Addr×Obj)} {s:Shared} {σ : St} {H:Hp} {R:V->V->Hp->Prop} (I:Inv X pins σ H s) (h:ta σ H λ x H1=>tb σ H1 λ y H2=>R x y H2)
  {α : Type} {Q : α->Shared->Prop} {f:Value->Value->Sem α}
  (hf : ∀ v u s2 x y H2,Inv X pins σ H2 s2->RelV x v->RelV y u->R x y H2->wpAny (model X.prog X.w) X.A (f v u) Q X.xe s2) :
  wpAny (model X.prog X.w) X.A (eval a X.env) (λ v s₁ => wpAny (model X.prog X.w) X.A (eval b X.env) (λ u s₂ => wpAny (model X.prog X.w) X.A (f v u) Q X.xe s₂) X.xe s₁) X.xe s:=by
 refine bL (ha pins s σ H _ I h) ?_
 rintro v s1 ⟨x,H1,I1,r1,q1⟩
 refine bL (hb pins s1 σ H1 _ I1 q1) ?_
 rintro u s2 ⟨y,H2,I2,r2,q2⟩
 exact hf v u s2 x y H2 I2 r1 r2 q2
def uE (i:Nat):TE:=fun σ H Q => ∃ v,σ[i]? = some (some v)/\Q v H
def tC (v:V):TE:=λ _ H Q=>Q v H
theorem wJ {i:Nat} {x:Str} {pos:Pos} (hN:X.N[i]? = some x) (hv:Fv X.env.scope x) (hd:(x == ("__debug__" : Str))=false:=by decide) (hcd:(x == ("__classdict__" : Str))=false:=by decide):PE X (.Name x pos) (uE i):=by
 intro pins s σ H Q I h
 obtain ⟨v,e,h⟩:=h
 obtain ⟨m,hn,hl⟩:=I.loc
 obtain ⟨u,r,l⟩:=hl i x v hN e hv
 have fin:EP X pins σ Q u s:=⟨v,H,I,r,h⟩
 rcases l with ⟨hk,hm⟩ | ⟨hk,c,hc,hcell⟩
 ·exact wpAny_Name (wpAny_loadName_local I.ok.kind hk hn hm fin) hd
 ·rcases hk with hk | hk
  ·exact wpAny_Name (wpAny_loadName_cell I.ok.kind hk hc hcell fin) hd
  ·exact wpAny_Name (wpAny_loadName_free I.ok.kind hk hc hcell fin hcd) hd
theorem ao {i j pos} : PE X (.Constant (.int i) j pos) (tC (.int i)):=λ _ _ _ H _ I h=>wpAny_Constant_int ⟨.int i,H,I.tok _,⟨_,rfl⟩,h⟩
theorem cY {b j pos} : PE X (.Constant (.bool b) j pos) (tC (.bl b)):=λ _ _ _ H _ I h=>Constant_bool ⟨.bl b,H,I,rfl,h⟩
theorem kG {j pos} : PE X (.Constant .none j pos) (tC .aN):=λ _ _ _ H _ I h=>Constant_none ⟨.aN,H,I,rfl,h⟩
theorem bz {x j pos} : PE X (.Constant (.str x) j pos) (tC (.str x)):=λ _ _ _ H _ I h=>Calls.Constant_str ⟨.str x,H,I.tok _,⟨_,rfl⟩,h⟩
def Gl (X:Cx) (x:Str):Prop:=X.env.kindOf x=some .globalImplicit
theorem gA {E:Value->Shared->Prop} {pins:List (Addr×Obj)} {s:Shared} {σ : St} {H:Hp} {x:Str} {u:Value} {pos:Pos} {Q:Value->Shared->Prop} (I:Inv X pins σ H s) (hg:Gl X x) (hm:X.mg x=some u) (h:Q u s)
  (hd:(x == ("__debug__" : Str))=false:=by decide):wpAny (model X.prog X.w) X.A (eval (.Name x pos) X.env) Q E s :=
 Calls.Name_function_global I.ok.kind hg (Calls.loadGlobal_global (by rw [I.ok.glob];exact I.mod.glob.keeps I.bk) hm h) hd
theorem mG {E:Value->Shared->Prop} {pins:List (Addr×Obj)} {s:Shared} {σ : St} {H:Hp} {x:Str} {u:Value} {pos:Pos} {Q:Value->Shared->Prop} (I:Inv X pins σ H s) (hg:Gl X x) (hm:X.mg x=none) (hv:bootBuiltins x=some u) (h:Q u s)
  (hn:x ≠ "__name__" := by decide) (hd:(x == ("__debug__" : Str))=false:=by decide):wpAny (model X.prog X.w) X.A (eval (.Name x pos) X.env) Q E s:=by
 obtain ⟨mb,h1,h2⟩:=I.mod.blt
 exact Calls.Name_function_global I.ok.kind hg (Calls.loadGlobal_builtin (by rw [I.ok.glob];exact I.mod.glob.keeps I.bk) hm (by rw [I.ok.blt];exact h1.keeps I.bk) ((h2 x hn).trans hv) h) hd
theorem d8 {x:Str} {v:V} {u:Value} {pos:Pos} (hg:Gl X x) (hm:X.mg x=some u) (r:RelV v u) (hd:(x == ("__debug__" : Str))=false:=by decide):PE X (.Name x pos) (tC v) :=
 λ _ _ _ H _ I h=>gA I hg hm ⟨v,H,I,r,h⟩ hd
theorem eU {x:Str} {v:V} {u:Value} {pos:Pos} (hg:Gl X x) (hm:X.mg x=none) (hv:bootBuiltins x=some u) (r:RelV v u) (hn:x ≠ "__name__" := by decide) (hd:(x == ("__debug__" : Str))=false:=by decide):PE X (.Name x pos) (tC v) :=
 λ _ _ _ H _ I h=>mG I hg hm hv ⟨v,H,I,r,h⟩ hn hd
variable {a b:Expr} {ta tb:TE} {pos:Pos}
def PC (X:Cx) (op:CmpOp) (a b:Expr) (t:TE):Prop :=
 ∀ (pins:List (Addr×Obj)) (s:Shared) (σ : St) (H:Hp) (Q:VK),Inv X pins σ H s->t σ H Q →
   wpAny (model X.prog X.w) X.A (eval a X.env) (λ v s₁ => wpAny (model X.prog X.w) X.A (eval b X.env) (λ u s₂ => wpAny (model X.prog X.w) X.A (compareOp op v u) (EP X pins σ Q) X.xe s₂) X.xe s₁) X.xe s
def tB (t:TE):TT:=fun σ H Q=>t σ H λ x H1 => ∃ c,x = .bl c/\Q c H1
theorem Fx {op:CmpOp} {t:TE} (h:PC X op a b t) (h1:behindInMarks op b=false:=by first | exact AY _ (by decide) (by decide) | rfl):PT X (.Compare a [op] [b] pos) (tB t):=by
 intro pins s σ H Q I hw
 refine wpAny_isTrue_Compare1 (bL (h pins s σ H _ I hw) λ v s1 h1=>bL h1 λ u s2 h2=>bL h2 ?_) h1
 rintro c s3 ⟨x,H1,I1,r1,q1⟩
 obtain ⟨d,rfl,q⟩:=q1
 cases r1
 exact wpAny_truthy_bool ⟨H1,I1,q⟩
theorem b9 {e:Expr} {t:TE} (h:PE X e t) (he : ∀ whole,isTrue e X.env whole=(do let v <-whole;standAt e.pos;holding [v] (truthy v)):=by intro _;rfl):PT X e (tB t):=by
 intro pins s σ H Q I hw
 refine isTrue_plain (bL (h pins s σ H _ I hw) ?_) (he _)
 rintro v s1 ⟨x,H1,I1,r1,q1⟩
 obtain ⟨d,rfl,q⟩:=q1
 cases r1
 exact wpAny_truthy_bool ⟨H1,I1,q⟩
variable {tA JK:TT} {rest:List Expr}
def AZ (t u:TT):TT:=fun σ H Q=>t σ H λ c H1=>if c=true then u σ H1 Q else Q false H1
def HA (t u:TT):TT:=fun σ H Q=>t σ H λ c H1=>if c=true then Q true H1 else u σ H1 Q
def A2 (t:TT):TT:=fun σ H Q=>t σ H λ c H1=>Q (!c) H1
theorem pw_and1 (ha:PT X a tA):PW X (.BoolOp .And [a] pos) tA:=by
 intro wh pins s σ H Q I h
 refine isTrue_and (bL (ha pins s σ H Q I h) λ c s1 e => ?_)
 cases c with
 | true=>exact isTrue_and_nil e
 | false=>exact e
theorem pw_or1 (ha:PT X a tA):PW X (.BoolOp .Or [a] pos) tA:=by
 intro wh pins s σ H Q I h
 refine isTrue_or (bL (ha pins s σ H Q I h) λ c s1 e => ?_)
 cases c with
 | false=>exact isTrue_or_nil e
 | true=>exact e
theorem pw_and (ha:PT X a tA) (hb:PW X (.BoolOp .And (b::rest) pos) JK):PW X (.BoolOp .And (a::b::rest) pos) (AZ tA JK):=by
 intro wh pins s σ H Q I h
 refine isTrue_and (bL (ha pins s σ H _ I h) λ c s1 ⟨H1,I1,q1⟩ => ?_)
 cases c with
 | true=>exact hb wh pins s1 σ H1 Q I1 q1
 | false=>exact ⟨H1,I1,q1⟩
theorem pw_or (ha:PT X a tA) (hb:PW X (.BoolOp .Or (b::rest) pos) JK):PW X (.BoolOp .Or (a::b::rest) pos) (HA tA JK):=by
 intro wh pins s σ H Q I h
 refine isTrue_or (bL (ha pins s σ H _ I h) λ c s1 ⟨H1,I1,q1⟩ => ?_)
 cases c with
 | true=>exact ⟨H1,I1,q1⟩
 | false=>exact hb wh pins s1 σ H1 Q I1 q1
theorem b3 (ha:PT X a tA):PT X (.UnaryOp .Not a pos) (A2 tA):=by
 intro pins s σ H Q I h
 exact isTrue_not (ha pins s σ H (λ c H1=>Q (!c) H1) I h)
def uF (ta tb:TE):TE:=fun σ H Q=>ta σ H λ x H1 => ∃ c,x = .bl c/\if c=true then tb σ H1 Q else Q (.bl false) H1
def HB (ta tb:TE):TE:=fun σ H Q=>ta σ H λ x H1 => ∃ c,x = .bl c/\if c=true then Q (.bl true) H1 else tb σ H1 Q
def uG (ta:TE):TE:=fun σ H Q=>ta σ H λ x H1 => ∃ c,x = .bl c/\Q (.bl (!c)) H1
theorem rZ {op} {t:TE} (h:PE X a t):PE X (.BoolOp op [a] pos) t:=λ pins s σ H Q I hw=>BoolOp_one (h pins s σ H Q I hw)
theorem iE (ha:PE X a ta) (hb:PE X (.BoolOp .And (b::rest) pos) tb):PE X (.BoolOp .And (a::b::rest) pos) (uF ta tb):=by
 intro pins s σ H Q I h
 refine BoolOp_and (bL (ha pins s σ H _ I h) ?_)
 rintro v s1 ⟨x,H1,I1,r1,q1⟩
 obtain ⟨c,rfl,q1⟩:=q1
 cases r1
 refine wpAny_truthy_bool ?_
 cases c with
 | true=>exact hb pins s1 σ H1 Q I1 q1
 | false=>exact ⟨.bl false,H1,I1,rfl,q1⟩
theorem wK (ha:PE X a ta):PE X (.UnaryOp .Not a pos) (uG ta):=by
 intro pins s σ H Q I h
 refine UnaryOp_ (bL (ha pins s σ H _ I h) ?_)
 rintro v s1 ⟨x,H1,I1,r1,q1⟩
 obtain ⟨c,rfl,q1⟩:=q1
 cases r1
 exact not_of (wpAny_truthy_bool ⟨.bl (!c),H1,I1,rfl,q1⟩)
def HC (t:TT) (ta tb:TE):TE:=fun σ H Q=>t σ H λ c H1=>if c=true then ta σ H1 Q else tb σ H1 Q
theorem uI {c:Expr} (hc:PT X c tA) (ha:PE X a ta) (hb:PE X b tb):PE X (.IfExp c a b pos) (HC tA ta tb):=by
 intro pins s σ H Q I h
 refine wpAny_IfExp (bL (hc pins s σ H _ I h) λ d s1 ⟨H1,I1,q1⟩ => ?_)
 cases d with
 | true=>exact ha pins s1 σ H1 Q I1 q1
 | false=>exact hb pins s1 σ H1 Q I1 q1
end
def bW (K:PySem.W.Frag) (H:Hp) (a:Addr) (xs:List V):Prop :=
 Rd H a (.lst xs) ∨
  ∃ (o:Obj) (its:Array Value) (n:Nat),K.lookup a=some o/\o.cls = .type "list" ∧ o.dict=none/\o.data = .seq its n/\its.size<=sizeLine/\Vals xs its.toList
def r6 (K:PySem.W.Frag) (H:Hp) (a:Addr) (xs:List V):Prop :=
 Rd H a (.tup xs) ∨
  ∃ (o:Obj) (its:Array Value) (n:Nat),K.lookup a=some o/\o.cls = .type "tuple" ∧ o.data = .seq its n/\its.size<=sizeLine/\Vals xs its.toList
def KH:Value->Option V
 | .none=>some .aN
 | .bool b=>some (.bl b)
 | .int i _=>some (.int i)
 | .str x _=>some (.str x)
 | .bytes b _=>some (.yg b)
 | .float b _=>some (.Fo b)
 | .ref a=>some (.ref a)
 | .type n=>some (.ty n)
 | _=>none
theorem RelV.abs {x:V} {u:Value} (r:RelV x u):KH u=some x:=by
 cases x with
 | aN=>cases r;rfl
 | bl _=>cases r;rfl
 | int _=>obtain ⟨t,rfl⟩:=r;rfl
 | str _=>obtain ⟨t,rfl⟩:=r;rfl
 | yg _=>obtain ⟨t,rfl⟩:=r;rfl
 | Fo _=>obtain ⟨t,rfl⟩:=r;rfl
 | ref _=>cases r;rfl
 | ty _=>cases r;rfl
theorem RelV.inj {x y:V} {u:Value} (r:RelV x u) (q:RelV y u):x=y:=Option.some.inj (r.abs.symm.trans q.abs)
theorem Vals.inj : ∀ {xs ys:List V} {us:List Value},Vals xs us->Vals ys us->xs=ys
 | _,_,_,.nil,.nil=>rfl
 | _,_,_,.cons r t,.cons r' t'=>by rw [r.inj r',Vals.inj t t']
section
variable {X:Cx} {pins:List (Addr×Obj)} {σ : St} {H:Hp} {s:Shared} {a:Addr} {xs ys:List V}
theorem bW.of {K:PySem.W.Frag} (h:H a=some (.lst xs)):bW K H a xs := .inl (.inl h)
theorem r6.of {K:PySem.W.Frag} (h:H a=some (.tup xs)):r6 K H a xs := .inl (.inl h)
theorem Inv.list (I:Inv X pins σ H s) (h:bW X.K H a xs) : ∃ its:List Value,Vals xs its/\PlainL s.heap a its.toArray/\xs.length<=sizeLine:=by
 rcases h with h | ⟨o,its,n,hk,hc,hd,hs,hz,r⟩
 ·obtain ⟨z,its,n,r,e⟩:=h.ok I.hok
  exact ⟨its,r,⟨_,n,e,rfl,rfl,rfl⟩,z⟩
 ·refine ⟨its.toList,r,⟨o,n,I.jN a o hk,hc,hd,by simpa using hs⟩,?_⟩
  have e:=r.length
  simp only [Array.length_toList] at e
  omega
theorem Inv.tuple (I:Inv X pins σ H s) (h:r6 X.K H a xs) : ∃ its:List Value,Vals xs its/\IsTup s.heap a its.toArray/\xs.length<=sizeLine:=by
 rcases h with h | ⟨o,its,n,hk,hc,hs,hz,r⟩
 ·obtain ⟨z,its,r,p⟩:=h.ok I.hok
  exact ⟨its,r,p,z⟩
 ·refine ⟨its.toList,r,⟨o,I.jN a o hk,hc,n,by simpa using hs⟩,?_⟩
  have e:=r.length
  simp only [Array.length_toList] at e
  omega
theorem Inv.uJ (I:Inv X pins σ H s) (h:bW X.K H a xs) (h':bW X.K H a ys):xs=ys:=by
 obtain ⟨its,r,⟨o,n,e,_,_,d⟩,_⟩:=I.list h
 obtain ⟨its',r',⟨o',n',e',_,_,d'⟩,_⟩:=I.list h'
 rw [e] at e';cases e'
 rw [d] at d'
 injection d' with d1 _
 have:its=its':=by simpa using congrArg Array.toList d1
 subst this
 exact r.inj r'
end
abbrev Cx.gh (X:Cx) (E:Value->Shared->Prop):Cx := { X with xe:=E }
abbrev Cx.uy (X:Cx):Cx:=X.gh λ _ _=>False
theorem Cx.Ok.gh {X:Cx} (ok:X.Ok) (E:Value->Shared->Prop):(X.gh E).Ok :=
 ⟨ok.mod,ok.kind,ok.glob,ok.blt,ok.above,ok.inj,ok.has,ok.Fw,ok.hd,ok.frames,ok.stk,ok.JI,ok.bs,ok.AN,ok.wI,ok.zG,ok.kZ,ok.Dn⟩
theorem Cx.Ok.b4 {X:Cx} {E:Value->Shared->Prop} (ok:(X.gh E).Ok):X.Ok :=
 ⟨ok.mod,ok.kind,ok.glob,ok.blt,ok.above,ok.inj,ok.has,ok.Fw,ok.hd,ok.frames,ok.stk,ok.JI,ok.bs,ok.AN,ok.wI,ok.zG,ok.kZ,ok.Dn⟩
section
variable {X:Cx} {pins:List (Addr×Obj)} {σ : St} {H:Hp} {s:Shared} {E:Value->Shared->Prop}
theorem Inv.gh (I:Inv X pins σ H s) (E:Value->Shared->Prop):Inv (X.gh E) pins σ H s:=⟨I.ok.gh E,I.os,I.bare,I.base,I.loc,I.cell,I.free,I.fJ,I.pin,I.hok,I.len⟩
theorem Inv.b4 (I:Inv (X.gh E) pins σ H s):Inv X pins σ H s:=⟨I.ok.b4,I.os,I.bare,I.base,I.loc,I.cell,I.free,I.fJ,I.pin,I.hok,I.len⟩
theorem SP.b4 {D:Ends} {f:Flow} {s':Shared} (h:SP (X.gh E) pins D f s'):SP X pins D f s':=by
 cases f with
 | next=>obtain ⟨σ',H',I,q⟩:=h;exact ⟨σ',H',I.b4,q⟩
 | brk=>obtain ⟨σ',H',I,q⟩:=h;exact ⟨σ',H',I.b4,q⟩
 | cont=>obtain ⟨σ',H',I,q⟩:=h;exact ⟨σ',H',I.b4,q⟩
 | ret u=>obtain ⟨v,σ',H',I,r,q⟩:=h;exact ⟨v,σ',H',I.b4,r,q⟩
theorem PE.uy {e:Expr} {t:TE} (h:PE X.uy e t):PE X e t:=λ pins s σ H Q I hw =>
 wpAny_mono (h pins s σ H Q (I.gh _) hw) (λ _ _ ⟨v,H',I',r,q⟩=>⟨v,H',I'.b4,r,q⟩) λ _ _ z=>False.elim z
theorem PT.uy {e:Expr} {t:TT} (h:PT X.uy e t):PT X e t:=λ pins s σ H Q I hw =>
 wpAny_mono (h pins s σ H Q (I.gh _) hw) (λ _ _ ⟨H',I',q⟩=>⟨H',I'.b4,q⟩) λ _ _ z=>False.elim z
theorem qm.uy {st:List Stmt} {t:TS} (h:qm X.uy st t):qm X st t:=λ pins s σ H D I hw =>
 wpAny_mono (h pins s σ H D (I.gh _) hw) (λ _ _ q=>q.b4) λ _ _ z=>False.elim z
end
section
variable {X:Cx} {st:Stmt} {rest:List Stmt} {t u:TS} {e:Expr} {te:TE} {pos:Pos}
def qU:TS:=λ D σ H=>D.nx σ H
def uK (t u:TS):TS:=λ D σ H=>t { D with nx:=u D } σ H
theorem aO:qm X [] qU:=λ _ _ σ H _ I h=>wpAny_execs_nil ⟨σ,H,I,h⟩
theorem ah (h1:PS X st t) (h2:qm X rest u):qm X (st::rest) (uK t u):=by
 intro pins s σ H D I h
 refine wpAny_execs_cons (bL (h1 pins s σ H { D with nx:=u D } I h) λ f s1 q => ?_)
 cases f with
 | next =>
   obtain ⟨σ',H',I',q⟩:=q
   exact h2 pins s1 σ' H' D I' q
 | ret v=>exact q
 | brk=>exact q
 | cont=>exact q
theorem aj (h1:PS X st t):qm X [st] t:=by
 intro pins s σ H D I h
 refine wpAny_execs_cons (bL (h1 pins s σ H D I h) λ f s1 q => ?_)
 cases f with
 | next=>exact wpAny_execs_nil q
 | ret v=>exact q
 | brk=>exact q
 | cont=>exact q
theorem Inv.quiet {pins:List (Addr×Obj)} {σ : St} {H:Hp} {s:Shared} (I:Inv X pins σ H s):interactive X.env=false:=by simp [interactive,I.ok.kind]
def qV (te:TE):TS:=λ D σ H=>te σ H λ _ H1=>D.nx σ H1
theorem az (he:PE X e te) (hs:swapsWith e none pos.line X.env=pure false:=by rfl):PS X (.Expr e pos) (qV te):=by
 intro pins s σ H D I h
 exact wpAny_Expr_any (bL (he pins s σ H _ I h) λ v s1 ⟨x,H1,I1,r1,q1⟩=>⟨σ,H1,I1,q1⟩) I.quiet hs
def zH (te:TE):TS:=λ D σ H=>te σ H D.rt
theorem ay (he:PE X e te):PS X (.Return (some e) pos) (zH te):=by
 intro pins s σ H D I h
 exact wpAny_Return_some (bL (he pins s σ H _ I h) λ v s1 ⟨x,H1,I1,r1,q1⟩=>⟨x,σ,H1,I1,r1,q1⟩)
def EH:TS:=λ D _ H=>D.rt .aN H
def zI (c:TT) (t u:TS):TS:=λ D σ H=>c σ H λ b H1=>if b=true then t D σ H1 else u D σ H1
theorem aZ {c:Expr} {a b:List Stmt} {tc:TT} (hc:PT X c tc) (ha:qm X a t) (hb:qm X b u):PS X (.If c a b pos) (zI tc t u):=by
 intro pins s σ H D I h
 refine wpAny_If (bL (hc pins s σ H _ I h) λ d s1 ⟨H1,I1,q1⟩ => ?_)
 cases d with
 | true=>exact ha pins s1 σ H1 D I1 q1
 | false=>exact hb pins s1 σ H1 D I1 q1
end
abbrev TG:=V->St->Hp->(St->Hp->Prop)->Prop
abbrev Fy:=List V->St->Hp->(St->Hp->Prop)->Prop
def PG (X:Cx) (target:Expr) (t:TG):Prop :=
 ∀ (pins:List (Addr×Obj)) (s:Shared) (σ : St) (H:Hp) (v:V) (u:Value) (Q:St->Hp->Prop),Inv X pins σ H s->RelV v u->t v σ H Q →
   wpAny (model X.prog X.w) X.A (assign target X.env u) (λ _ s' => ∃ σ' H',Inv X pins σ' H' s'/\Q σ' H') X.xe s
def JL (X:Cx) (ts:List Expr) (t:Fy):Prop :=
 ∀ (pins:List (Addr×Obj)) (s:Shared) (σ : St) (H:Hp) (vs:List V) (us:List Value) (Q:St->Hp->Prop),Inv X pins σ H s->Vals vs us->t vs σ H Q →
   wpAny (model X.prog X.w) X.A (assignInOrder ((assignEach ts X.env).map (·.2)) us) (λ _ s' => ∃ σ' H',Inv X pins σ' H' s'/\Q σ' H') X.xe s
abbrev KI:=V->V->V->Hp->(Hp->Prop)->Prop
section
variable {X:Cx} {pos:Pos}
def nC (i:Nat):TG:=λ v σ H Q=>Q (σ.set i (some v)) H
theorem aX {i:Nat} {x:Str} (hN:X.N.Nodup) (hi:X.N[i]? = some x) (hx:Loc X.env.scope x) (hf:X.fn x=true\/X.env.scope.names.lookup x=some .local:=by first | exact .inl rfl | exact .inr rfl | assumption):PG X (.Name x pos) (nC i):=by
 intro pins s σ H v u Q I r h
 exact wpAny_assign_Name (k8 I hN hi hx r (λ s' I'=>⟨_,H,I',h⟩) hf)
def Fz:Fy:=λ vs σ H Q=>vs = []/\Q σ H
def A3 (t:TG) (u:Fy):Fy:=λ vs σ H Q => ∃ v r,vs=v::r/\t v σ H fun σ' H'=>u r σ' H' Q
theorem ow:JL X [] Fz:=by
 intro pins s σ H vs us Q I r h
 obtain ⟨e,h⟩:=h
 subst e
 cases r
 exact assignInOrder_nil ⟨σ,H,I,h⟩
theorem cO {e:Expr} {es:List Expr} {t:TG} {u:Fy} (h1:PG X e t) (h2:JL X es u)
  (hs:(assignEach (e::es) X.env).map (·.2)=assign e X.env::(assignEach es X.env).map (·.2):=by rfl):JL X (e::es) (A3 t u):=by
 intro pins s σ H vs us Q I r h
 obtain ⟨v,vr,e1,h⟩:=h
 subst e1
 cases r with
 | cons r rr =>
   rw [hs]
   refine assignInOrder_cons (bL (h1 pins s σ H _ _ _ I r h) ?_)
   rintro _ s1 ⟨σ1,H1,I1,q1⟩
   exact h2 pins s1 σ1 H1 _ _ Q I1 rr q1
def FA (K:PySem.W.Frag) (n:Nat) (t:Fy):TG:=λ v σ H Q => ∃ a xs,v = .ref a/\r6 K H a xs/\xs.length=n/\t xs σ H Q
theorem r8 {es:List Expr} {k:Nat} {t:Fy} {n:Nat} (hc:X.calm=true) (h:JL X es t)
  (hn:(assignEach es X.env).length=n:=by rfl) (hst:(assignEach es X.env).findIdx? (·.1)=none:=by rfl):PG X (.Tuple es k pos) (FA X.K n t):=by
 intro pins s σ H v u Q I r hw
 obtain ⟨a,xs,e1,hq,hl,hw⟩:=hw
 subst e1
 cases r
 obtain ⟨its,rv,ht,hz⟩:=I.tuple hq
 refine assign_Tuple_tuple (I.ok.hd hc) ht (by simp [hn,<-hl,rv.length]) hst λ h' hx => ?_
 have I1:Inv X pins σ H { s with heap:=h' } := I.kept (t':=s.toks) λ b o e=>hx b o (Nat.ne_of_lt (Heap.lt_size e)) e
 exact h pins _ σ H xs _ Q I1 (by simpa using rv) hw
def HD (to ti:TE) (t:KI):TG:=λ v σ H Q=>to σ H λ o H1=>ti σ H1 λ i H2=>t o i v H2 λ H3=>Q σ H3
def wL (te:TE) (g:TG):TS:=λ D σ H=>te σ H λ x H1=>g x σ H1 D.nx
theorem aB {i:Nat} {x:Str} {e:Expr} {te:TE} {pos':Pos} (hN:X.N.Nodup) (hi:X.N[i]? = some x) (hx:Loc X.env.scope x) (he:PE X e te) (hs:swapsWith e (some (.Name x pos')) pos.line X.env=pure false:=by rfl) (hf:X.fn x=true\/X.env.scope.names.lookup x=some .local:=by first | exact .inl rfl | exact .inr rfl | assumption) :
  PS X (.Assign [.Name x pos'] e pos) (wL te (nC i)):=by
 intro pins s σ H D I h
 refine wpAny_Assign_Name (bL (he pins s σ H _ I h) ?_) hs
 rintro v s1 ⟨y,H1,I1,r1,q1⟩
 exact k8 I1 hN hi hx r1 (λ s2 I2=>⟨_,H1,I2,q1⟩) hf
def A4 (c:TT) (tb:TS):TS:=λ D σ H => ∃ W:Nat->St->Hp->Prop,(∃ m,W m σ H) ∧ ∀ m σ H,W m σ H →
 c σ H λ b H1=>if b=true then ∃ N:St->Hp->Prop,(∀ σ' H',N σ' H'->∃ m',m' < m/\W m' σ' H')/\tb { D with nx:=N,ct:=N,bk:=D.nx } σ H1 else D.nx σ H1
theorem A5 {c:Expr} {body:List Stmt} {tc:TT} {tb:TS} (hp:PassesOwn (model X.prog X.w) X.A X.env X.xe) (hc:PT X c tc) (hb:qm X body tb):PS X (.While c body [] pos) (A4 tc tb):=by
 intro pins s σ H D I h
 obtain ⟨W,⟨m0,w0⟩,turn⟩:=h
 refine wpAny_While (codeAny_whileLoop (λ n s' => ∃ σ' H',Inv X pins σ' H' s'/\W n σ' H') ?_ m0 ⟨σ,H,I,w0⟩)
 rintro n s1 ⟨σ1,H1,I1,w1⟩
 refine wpAny_passesOwn hp (bL (hc pins s1 σ1 H1 _ I1 (turn n σ1 H1 w1)) λ b s2 ⟨H2,I2,q2⟩ => ?_)
 cases b with
 | true =>
   obtain ⟨N,hN,q2⟩:=q2
   rw [if_pos rfl]
   refine wpAny_passesOwn hp (bL (hb pins s2 σ1 H2 _ I2 q2) λ f s3 q3 => ?_)
   cases f with
   | next =>
     obtain ⟨σ3,H3,I3,n3⟩:=q3
     obtain ⟨m',hm,w3⟩:=hN σ3 H3 n3
     exact ⟨m',hm,σ3,H3,I3,w3⟩
   | cont =>
     obtain ⟨σ3,H3,I3,n3⟩:=q3
     obtain ⟨m',hm,w3⟩:=hN σ3 H3 n3
     exact ⟨m',hm,σ3,H3,I3,w3⟩
   | brk=>exact q3
   | ret v=>exact q3
 | false =>
   rw [if_neg Bool.false_ne_true]
   exact wpAny_execs_nil ⟨σ1,H2,I2,q2⟩
end
structure It where
 go:Nat->Hp->Prop
 Dp:Nat->Hp->V->Hp->Prop
 stop:Nat->Hp->Prop
def iF (X:Cx) (pins:List (Addr×Obj)) (H:Hp) (b:Addr):Prop :=
 H b=none/\b≠X.env.locals/\b ∉ X.fs/\(b∈X.ex\/X.s₀.heap.objs.size<=b)/\(∀ x c,X.env.cells.lookup x=some c->c≠b) ∧ ∀ p∈X.pn++pins,p.1≠b
theorem Inv.A6 {X:Cx} {pins:List (Addr×Obj)} {σ : St} {H H':Hp} {s:Shared} {b:Addr} (I:Inv X pins σ H s) (hb:s.heap.objs.size<=b) (hn:H' b=none):iF X pins H' b:=by
 refine ⟨hn,Nat.ne_of_gt (Nat.lt_of_lt_of_le I.lt hb),I.KC hb,.inr (Nat.le_trans I.sz hb),λ x c e z => ?_,λ p hp z => ?_⟩
 ·obtain ⟨v,q⟩:=I.cell x c e
  exact absurd (Nat.lt_of_lt_of_le q.lt (by rw [z];exact hb)) (Nat.lt_irrefl _)
 ·exact absurd (Nat.lt_of_lt_of_le (Heap.lt_size (I.pin p hp).1) (by rw [z];exact hb)) (Nat.lt_irrefl _)
structure Turn (P:Program) (w:World) (K:PySem.W.Frag) (tg:Expr) (J:It) (fp:List Addr) (it:Addr) (tn:Nat->Heap->Prop):Prop where
 mem:it∈fp
 obj : ∀ i h,tn i h->∀ b∈fp,∃ o,h.get? b=some o ∧ ∀ v,o.data ≠ .cell v
 keep : ∀ i h h',tn i h->(∀ b∈fp,∀ o,h.get? b=some o->h'.get? b=some o)->tn i h'
 item : ∀ (X:Cx),X.prog=P->X.w=w->X.K=K->X.calm=true->∀ (i:Nat) (pins:List (Addr×Obj)) (s:Shared) (σ : St) (H:Hp) (E:Value->Shared->Prop),Inv X pins σ H s->(∀ b∈fp,iF X pins H b)->tn i s.heap->J.go i H →
  wpAny (model P w) X.A (pyNext (.ref it)) (λ r s1 => ∃ u,r=some u ∧
   wpAny (model P w) X.A (letOwnedTupleGo tg (.ref it) u) (λ _ s2 => ∃ x H',Inv X pins σ H' s2/\RelV x u/\J.Dp i H x H'/\tn (i+1) s2.heap ∧ ∀ b∈fp,H' b=none) E s1) E s
 done : ∀ (X:Cx),X.prog=P->X.w=w->X.K=K->X.calm=true->∀ (i:Nat) (pins:List (Addr×Obj)) (s:Shared) (σ : St) (H:Hp) (E:Value->Shared->Prop),Inv X pins σ H s->(∀ b∈fp,iF X pins H b)->tn i s.heap->J.stop i H →
  wpAny (model P w) X.A (pyNext (.ref it)) (λ r s1=>r=none/\Inv X pins σ H s1) E s
 self : ∀ (A:Around) (i:Nat) (s:Shared) (Q:Value->Shared->Prop) (E:Value->Shared->Prop),tn i s.heap->Q (.ref it) s->wpAny (model P w) A (pyIter (.ref it)) Q E s
abbrev TI:=St->Hp->(It->Hp->Prop)->Prop
def MS (X:Cx) (pins:List (Addr×Obj)) (σ : St) (tg:Expr) (R:It->Hp->Prop) (itv:Value) (s2:Shared):Prop :=
 ∃ (it:Addr) (fp:List Addr) (tn:Nat->Heap->Prop) (J:It) (H':Hp),itv = .ref it/\Inv X pins σ H' s2/\Turn X.prog X.w X.K tg J fp it tn/\tn 0 s2.heap/\(∀ b∈fp,iF X pins H' b)/\R J H'
def PI (X:Cx) (tg iter:Expr) (wi:TI):Prop :=
 ∀ (pins:List (Addr×Obj)) (s:Shared) (σ : St) (H:Hp) (R:It->Hp->Prop),Inv X pins σ H s->wi σ H R →
   wpAny (model X.prog X.w) X.A (eval iter X.env) (λ v s1=>wpAny (model X.prog X.w) X.A (pyIter v) (MS X pins σ tg R) X.xe s1) X.xe s
theorem EI {M:Model} {A:Around} {E:Value->Shared->Prop} {s:Shared} {tg:Expr} {it:Addr} {u:Value} {o:Obj} {n:String} {vs:Array Value} {Q:Unit->Shared->Prop} (ho:s.heap.get? it=some o) (hc:o.cls = .type n) (hd:o.data = .fields vs)
  (hn:["enumerate","zip","dict_itemiterator","dict_reverseitemiterator","odict_iterator","itertools.zip_longest","itertools.pairwise"].contains n=false) (hQ:Q () s):wpAny M A (letOwnedTupleGo tg (.ref it) u) Q E s:=by
 unfold letOwnedTupleGo
 cases tg <;> first
  | exact wpAny_pure hQ
  | (cases u <;> first
    | exact wpAny_pure hQ
    | (refine wpAny_bind (wpAny_load ho ?_)
       rw [hc,hd]
       show wpAny M A (if (["enumerate","zip","dict_itemiterator","dict_reverseitemiterator","odict_iterator","itertools.zip_longest","itertools.pairwise"].contains n && vs[0]? == some (rawInt _))=true then _ else _) Q E s
       rw [if_neg (by intro h;rw [hn,Bool.false_and] at h;cases h)]
       exact wpAny_pure hQ))
def AO (K:PySem.W.Frag) (a:Addr):It :=
 ⟨λ i H => ∃ xs x,bW K H a xs/\xs[i]? = some x,λ i H x H'=>H' = H ∧ ∀ xs,bW K H a xs->xs[i]? = some x,λ i H => ∃ xs,bW K H a xs/\xs.length<=i⟩
def wM (lo:Int) (n:Nat):It:=⟨λ i _=>i < n,λ i H x H'=>H' = H/\x = .int (lo+i),λ i _=>n<=i⟩
theorem zJ {P:Program} {w:World} {K:PySem.W.Frag} {tg:Expr} (a it:Addr):Turn P w K tg (AO K a) [it] it (λ i h=>h.IsListIter it a i) where
 mem:=by simp
 obj:=λ i h st b hb=>by
  have e:b=it:=by simpa using hb
  subst e
  obtain ⟨o,e,c,d⟩:=st
  exact ⟨o,e,λ v z=>by rw [d] at z;cases z⟩
 keep:=λ i h h' st k=>st.at λ o e=>k it (by simp) o e
 item:=by
  intro X hP hw hK hc i pins s σ H E I hf st hg
  subst hP hw hK
  obtain ⟨xs,x,hq,hx⟩:=hg
  obtain ⟨its,rv,p,hz⟩:=I.list hq
  obtain ⟨u,hu,ru⟩:=rv.get hx
  obtain ⟨f0,f1,f2,f3,f4,f5⟩:=hf it (by simp)
  refine wpAny_pyNext_list_item st p.isList (x:=u) (by simpa using hu) λ h' st' sb => ?_
  have I1:Inv X pins σ H { s with heap:=h' } := I.turned (t':=s.toks) (λ b o hb e=>(sb.2 b hb).trans e) f0 f1 f3 f4 f5
  obtain ⟨o,e,c,d⟩:=id st'
  exact ⟨u,rfl,EI (s := { s with heap:=h' }) e c d (by decide) ⟨x,H,I1,ru,⟨rfl,λ ys hy=>by rw [I.uJ hy hq];exact hx⟩,st',λ b hb=>(hf b hb).1⟩⟩
 done:=by
  intro X hP hw hK hc i pins s σ H E I hf st hg
  subst hP hw hK
  obtain ⟨xs,hq,hx⟩:=hg
  obtain ⟨its,rv,p,hz⟩:=I.list hq
  obtain ⟨f0,f1,f2,f3,f4,f5⟩:=hf it (by simp)
  have hl:=rv.length
  exact wpAny_pyNext_list_end (I.ok.hd hc) st p.isList (by simp;omega) λ h' eb=>⟨rfl,I.turned (t':=s.toks) (λ b o hb e=>eb b o hb e) f0 f1 f3 f4 f5⟩
 self:=λ _ _ _ _ _ st h=>wpAny_pyIter_listiter st h
theorem wN {P:Program} {w:World} {K:PySem.W.Frag} {tg:Expr} (it:Addr) (lo:Int) (n:Nat):Turn P w K tg (wM lo n) [it] it (λ i h=>IsRangeIter h it (lo+(i:Nat) * 1) ((n:Int) - (i:Nat)) 1) where
 mem:=by simp
 obj:=λ i h st b hb=>by
  have e:b=it:=by simpa using hb
  subst e
  exact ⟨_,st,λ v z=>by
   have z':Data.fields _=Data.cell v:=z
   cases z'⟩
 keep:=λ i h h' st k=>k it (by simp) _ st
 item:=by
  intro X hP hw hK hc i pins s σ H E I hf st hg
  subst hP hw hK
  obtain ⟨f0,f1,f2,f3,f4,f5⟩:=hf it (by simp)
  have W:=Walks.range (prog:=X.prog) (w:=X.w) (I.ok.hd hc) it lo 1 n
  refine W.item i s _ _ hg st λ v h' tk hv st' kk => ?_
  obtain ⟨t,rfl⟩:=hv
  have I1:Inv X pins σ H { s with heap:=h',toks:=tk } := I.turned (λ b o hb e=>kk b o (by simpa using hb) e) f0 f1 f3 f4 f5
  refine ⟨_,rfl,EI (s := { s with heap:=h',toks:=tk }) (n := "range_iterator") st' rfl rfl (by decide) ⟨.int (lo+i),H,I1,⟨t,?_⟩,⟨rfl,rfl⟩,st',λ b hb=>(hf b hb).1⟩⟩
  rw [Int.mul_one]
 done:=by
  intro X hP hw hK hc i pins s σ H E I hf st hg
  subst hP hw hK
  obtain ⟨f0,f1,f2,f3,f4,f5⟩:=hf it (by simp)
  exact wpAny_pyNext_range_end (I.ok.hd hc) st (by have:n<=i:=hg;omega) λ h' eb=>⟨rfl,I.turned (t':=s.toks) (λ b o hb e=>eb b o hb e) f0 f1 f3 f4 f5⟩
 self:=λ _ _ _ _ _ st h=>wpAny_pyIter_rangeiter st h
section
variable {X:Cx} {tg:Expr}
def uL (K:PySem.W.Frag) (tl:TE):TI:=fun σ H R=>tl σ H λ x H1 => ∃ a,x = .ref a/\(∃ xs,bW K H1 a xs)/\R (AO K a) H1
theorem bB {l:Expr} {tl:TE} (hl:PE X l tl):PI X tg l (uL X.K tl):=by
 intro pins s σ H R I h
 refine bL (hl pins s σ H _ I h) ?_
 rintro v s1 ⟨x,H1,I1,r1,q1⟩
 obtain ⟨a,e,⟨xs,hq⟩,q⟩:=q1
 subst e
 cases r1
 obtain ⟨its,rv,p,hz⟩:=I1.list hq
 refine wpAny_pyIter_list p.isList ?_
 refine ⟨s1.heap.objs.size,[s1.heap.objs.size],_,_,H1,rfl,I1.kept (t':=s1.toks) λ b o e=>Heap.get?_push_of_some _ e,zJ a _,⟨_,Heap.get?_push_size _ rfl,rfl,rfl⟩,λ b hb => ?_,q⟩
 have e:b=s1.heap.objs.size:=by simpa using hb
 subst e
 exact I1.A6 (Nat.le_refl _) (I1.hok.fresh (Nat.le_refl _))
theorem uM {pins:List (Addr×Obj)} {σ : St} {H:Hp} {s:Shared} {R:It->Hp->Prop} {E:Value->Shared->Prop} {lo hi:Int} {t u v:Tok} {tk:Nat} (I:Inv X pins σ H s) (h1 : -(2 ^ 62)<=lo) (h2:lo < 2 ^ 62) (h3 : -(2 ^ 62)<=hi) (h4:hi < 2 ^ 62)
  (q:R (wM lo (hi - lo).toNat) H):wpAny (model X.prog X.w) X.A (pyIter (.ref s.heap.objs.size)) (MS X pins σ tg R) E { s with heap:=s.heap.push { cls := .type "range",data := .fields #[.int lo t,.int hi u,.int 1 v] },toks:=tk } := by
 refine wpAny_pyIter_range (IsRange.new ..) (small_one h1 h2 h3 h4) ?_
 have I1:Inv X pins σ H { s with heap:=s.heap.push { cls := .type "range",data := .fields #[.int lo t,.int hi u,.int 1 v] },toks:=tk } := I.kept λ b o e=>Heap.get?_push_of_some _ e
 refine ⟨(s.heap.push { cls := .type "range",data := .fields #[.int lo t,.int hi u,.int 1 v] }).objs.size,[(s.heap.push { cls := .type "range",data := .fields #[.int lo t,.int hi u,.int 1 v] }).objs.size],_,_,H,rfl,
  I1.kept (t':=tk) λ b o e=>Heap.get?_push_of_some _ e,wN _ lo (hi - lo).toNat,?_,λ b hb => ?_,q⟩
 ·have e1:lo+((0:Nat):Int) * 1=lo:=by simp
  have e2:(((hi - lo).toNat:Nat):Int) - ((0:Nat):Int)=Builtin.Range.rangeSize lo hi 1:=by rw [rangeSize_one];split <;> omega
  show IsRangeIter _ _ (lo+((0:Nat):Int) * 1) ((((hi - lo).toNat:Nat):Int) - ((0:Nat):Int)) 1
  rw [e1,e2]
  exact Heap.get?_push_size _ rfl
 ·have e:b=(s.heap.push { cls := .type "range",data := .fields #[.int lo t,.int hi u,.int 1 v] }).objs.size:=by simpa using hb
  subst e
  exact I1.A6 (Nat.le_refl _) (I1.hok.fresh (Nat.le_refl _))
def A7 (ta:TA):TI:=fun σ H R=>ta σ H λ vs H1 => ∃ j:Int,vs = [.int j] ∧ -(2 ^ 62)<=j/\j < 2 ^ 62/\R (wM 0 j.toNat) H1
def EJ (ta:TA):TI:=fun σ H R=>ta σ H λ vs H1 => ∃ i j:Int,vs = [.int i,.int j]/\(-(2 ^ 62)<=i/\i < 2 ^ 62 ∧ -(2 ^ 62)<=j/\j < 2 ^ 62)/\R (wM i (j - i).toNat) H1
theorem gi {a:Expr} {ta:TA} {p pos:Pos} (hg:Gl X "range") (hm:X.mg "range" = none) (ha:PA X [a] ta) (hs:starEach [a] X.env = [(false,eval a X.env)]:=by rfl):PI X tg (.Call (.Name "range" p) [a] [] pos) (A7 ta):=by
 intro pins s σ H R I h
 refine Call_ (mG I hg hm boot_range (PyProof.Rows.callWith_type1 (bL (ha pos pins s σ H _ I h) ?_) hs rfl))
 rintro us s1 ⟨vs,H1,I1,r1,q1⟩
 obtain ⟨j,e,q1,q2,q⟩:=q1
 subst e
 cases r1 with
 | cons r rr =>
   cases rr
   obtain ⟨t,rfl⟩:=r
   exact call_range_1 (uM I1 (by omega) (by omega) q1 q2 (by simpa using q))
theorem mH {a b:Expr} {ta:TA} {p pos:Pos} (hg:Gl X "range") (hm:X.mg "range" = none) (ha:PA X [a,b] ta) (hs:starEach [a,b] X.env = [(false,eval a X.env),(false,eval b X.env)]:=by rfl) (hs2:starEach [b] X.env = [(false,eval b X.env)]:=by rfl) :
  PI X tg (.Call (.Name "range" p) [a,b] [] pos) (EJ ta):=by
 intro pins s σ H R I h
 refine Call_ (mG I hg hm boot_range (PyProof.Rows.callWith_type1 (bL (ha pos pins s σ H _ I h) λ us s1 ⟨vs,H1,I1,r1,q1⟩ => ?_) (by rw [hs,hs2]) (by rw [hs2];rfl)))
 obtain ⟨i,j,e,⟨q1,q2,q3,q4⟩,q⟩:=q1
 subst e
 cases r1 with
 | cons r rr =>
   cases rr with
   | cons r' rr =>
     cases rr
     obtain ⟨t,rfl⟩:=r
     obtain ⟨t',rfl⟩:=r'
     exact call_range_2 (uM I1 q1 q2 q3 q4 q)
def FD (wi:TI) (g:TG) (tb:TS):TS:=λ D σ H=>wi σ H λ J H1 => ∃ W:Nat->Nat->St->Hp->Prop,(∃ m,W 0 m σ H1) ∧ ∀ i m σ H,W i m σ H →
 (J.stop i H/\D.nx σ H)\/(J.go i H ∧ ∃ N:St->Hp->Prop,(∀ σ' H',N σ' H'->∃ m',m' < m/\W (i+1) m' σ' H') ∧ ∀ x H',J.Dp i H x H'->g x σ H' fun σ2 H2=>tb { D with nx:=N,ct:=N,bk:=D.nx } σ2 H2)
def oK (fp:List Addr) (h:Heap):List (Addr×Obj):=fp.filterMap λ b=>(h.get? b).map λ o=>(b,o)
theorem gB {fp:List Addr} {h:Heap} {b:Addr} {o:Obj} (hb:b∈fp) (e:h.get? b=some o):(b,o)∈oK fp h:=List.mem_filterMap.mpr ⟨b,hb,by rw [e];rfl⟩
theorem zK {fp:List Addr} {h:Heap} {p:Addr×Obj} (hp:p∈oK fp h):p.1∈fp/\h.get? p.1=some p.2:=by
 obtain ⟨b,hb,e⟩:=List.mem_filterMap.mp hp
 cases q:h.get? b with
 | none=>rw [q] at e;cases e
 | some o =>
   rw [q] at e
   have e':(b,o)=p:=Option.some.inj e
   subst e'
   exact ⟨hb,q⟩
theorem Inv.pinned {pins:List (Addr×Obj)} {σ : St} {H:Hp} {s:Shared} {fp:List Addr} (I:Inv X pins σ H s) (hf : ∀ b∈fp,iF X pins H b) (ho : ∀ b∈fp,∃ o,s.heap.get? b=some o ∧ ∀ v,o.data ≠ .cell v):Inv X (pins++oK fp s.heap) σ H s :=
 I.yh λ p hp=>(List.mem_append.mp hp).elim (λ z=>I.pin p (List.mem_append_right _ z)) λ z=>by
  obtain ⟨hb,e⟩:=zK z
  obtain ⟨f0,f1,f2,_⟩:=hf p.1 hb
  obtain ⟨o,e',d⟩:=ho p.1 hb
  rw [e] at e';cases e'
  exact ⟨e,f0,f1,f2,d⟩
theorem Inv.lg {pins pl:List (Addr×Obj)} {σ : St} {H:Hp} {s:Shared} (I:Inv X (pins++pl) σ H s):Inv X pins σ H s:=I.yh λ p hp=>I.pin p (List.mem_append_right _ (List.mem_append_left _ hp))
theorem bT {iter:Expr} {body:List Stmt} {wi:TI} {g:TG} {tb:TS} {pos:Pos} (hp:PassesOwn (model X.prog X.w) X.A X.env X.xe) (hc:X.calm=true) (hi:PI X tg iter wi) (hg:PG X tg g) (hb:qm X body tb)
  (hs : ∀ x,foldedSetIterable iter X.env x=pure x:=by intro _;rfl):PS X (.For tg iter body [] pos) (FD wi g tb):=by
 intro pins s σ H D I h
 refine wpAny_For (bL (hi pins s σ H _ I h) λ v s1 h1=>bL h1 λ itv s2 h2 => ?_) hs
 obtain ⟨it,fp,tn,J,H2,e,I2,T,st2,f2,W,⟨m0,w0⟩,turn⟩:=h2
 subst e
 -- what stays true of C9 FE objects through C9 loop
 have stat : ∀ {H':Hp},(∀ b∈fp,H' b=none)->∀ b∈fp,iF X pins H' b:=λ hn b hb=>⟨hn b hb,(f2 b hb).2⟩
 refine codeAny_forLoop_any (λ n s' => ∃ i σ' H',Inv X pins σ' H' s'/\tn i s'.heap/\(∀ b∈fp,H' b=none)/\W i n σ' H') ?_ m0 ⟨0,σ,H2,I2,st2,λ b hb=>(f2 b hb).1,w0⟩
 rintro n s3 ⟨i,σ3,H3,I3,st3,MT,w3⟩
 rcases turn i n σ3 H3 w3 with ⟨stop,qn⟩ | ⟨go,N,hN,step⟩
 ·refine wpAny_passesOwn hp (bL (T.done X rfl rfl rfl hc i pins s3 σ3 H3 X.xe I3 (stat MT) st3 stop) λ r s4 ⟨hr,I4⟩ => ?_)
  subst hr
  exact wpAny_execs_nil ⟨σ3,H3,I4,qn⟩
 ·refine wpAny_passesOwn hp (bL (T.item X rfl rfl rfl hc i pins s3 σ3 H3 X.xe I3 (stat MT) st3 go) λ r s4 ⟨u,hr,h4⟩ => ?_)
  subst hr
  refine wpAny_passesOwn hp (bL h4 ?_)
  rintro _ s5 ⟨x,H5,I5,r5,y5,wD,JM⟩
  have Oa:=I5.pinned (stat JM) (T.obj _ _ wD)
  refine wpAny_passesOwn hp (bL (hg _ s5 σ3 H5 x u _ Oa r5 (step x H5 y5)) ?_)
  rintro _ s6 ⟨σ6,H6,I6,q6⟩
  refine wpAny_passesOwn hp (bL (hb _ s6 σ6 H6 _ I6 q6) λ f s7 q7 => ?_)
  have again : ∀ {σ7:St} {H7:Hp},Inv X (pins++oK fp s5.heap) σ7 H7 s7->N σ7 H7->∃ m,m < n ∧ ∃ i σ' H',Inv X pins σ' H' s7/\tn i s7.heap/\(∀ b∈fp,H' b=none)/\W i m σ' H':=fun {σ7 H7} I7 n7=>by
   obtain ⟨m',hm,w7⟩:=hN σ7 H7 n7
   refine ⟨m',hm,i+1,σ7,H7,I7.lg,T.keep _ _ _ wD λ b hb o e=>(I7.pin (b,o) (List.mem_append_right _ (List.mem_append_right _ (gB hb e)))).1,λ b hb => ?_,w7⟩
   obtain ⟨o,e,d⟩:=T.obj _ _ wD b hb
   exact (I7.pin (b,o) (List.mem_append_right _ (List.mem_append_right _ (gB hb e)))).2.1
  cases f with
  | next=>obtain ⟨σ7,H7,I7,n7⟩:=q7;exact again I7 n7
  | cont=>obtain ⟨σ7,H7,I7,n7⟩:=q7;exact again I7 n7
  | brk=>obtain ⟨σ7,H7,I7,q7⟩:=q7;exact ⟨σ7,H7,I7.lg,q7⟩
  | ret v=>obtain ⟨x7,σ7,H7,I7,r7,q7⟩:=q7;exact ⟨x7,σ7,H7,I7.lg,r7,q7⟩
end
theorem A8 {K:PySem.W.Frag} {a:Addr} {xs:List V} {g:TG} {tb:TS} {D:Ends} {σ : St} {H:Hp} (Pv:Nat->St->Hp->Prop) (h0:Pv 0 σ H) (hl : ∀ i σ H,i<=xs.length->Pv i σ H->bW K H a xs)
  (hs : ∀ i x σ H,xs[i]? = some x->Pv i σ H->g x σ H fun σ2 H2=>tb { D with nx:=Pv (i+1),ct:=Pv (i+1),bk:=D.nx } σ2 H2) (hd : ∀ σ H,Pv xs.length σ H->D.nx σ H) :
  ∃ W:Nat->Nat->St->Hp->Prop,(∃ m,W 0 m σ H) ∧ ∀ i m σ H,W i m σ H →
    ((AO K a).stop i H/\D.nx σ H)\/((AO K a).go i H ∧ ∃ N:St->Hp->Prop,(∀ σ' H',N σ' H'->∃ m',m' < m/\W (i+1) m' σ' H') ∧ ∀ x H',(AO K a).Dp i H x H'->g x σ H' fun σ2 H2=>tb { D with nx:=N,ct:=N,bk:=D.nx } σ2 H2):=by
 refine ⟨λ i m σ H=>m=xs.length - i/\i<=xs.length/\Pv i σ H,⟨xs.length,by simp,Nat.zero_le _,h0⟩,?_⟩
 rintro i m σ H ⟨rfl,hi,p⟩
 have q:=hl i σ H hi p
 by_cases hlt:i < xs.length
 ·refine .inr ⟨⟨xs,xs[i],q,by simp [hlt]⟩,Pv (i+1),fun σ' H' p'=>⟨xs.length - (i+1),by omega,rfl,hlt,p'⟩,λ x H' y => ?_⟩
  obtain ⟨e,y⟩:=y
  subst e
  exact hs i x σ _ (y xs q) p
 ·have e:i=xs.length:=by omega
  subst e
  exact .inl ⟨⟨xs,q,Nat.le_refl _⟩,hd σ H p⟩
theorem zL {lo:Int} {n:Nat} {g:TG} {tb:TS} {D:Ends} {σ : St} {H:Hp} (Pv:Nat->St->Hp->Prop) (h0:Pv 0 σ H)
  (hs : ∀ i σ H,i < n->Pv i σ H->g (.int (lo+i)) σ H fun σ2 H2=>tb { D with nx:=Pv (i+1),ct:=Pv (i+1),bk:=D.nx } σ2 H2) (hd : ∀ σ H,Pv n σ H->D.nx σ H) :
  ∃ W:Nat->Nat->St->Hp->Prop,(∃ m,W 0 m σ H) ∧ ∀ i m σ H,W i m σ H →
    ((wM lo n).stop i H/\D.nx σ H)\/((wM lo n).go i H ∧ ∃ N:St->Hp->Prop,(∀ σ' H',N σ' H'->∃ m',m' < m/\W (i+1) m' σ' H') ∧ ∀ x H',(wM lo n).Dp i H x H'->g x σ H' fun σ2 H2=>tb { D with nx:=N,ct:=N,bk:=D.nx } σ2 H2):=by
 refine ⟨λ i m σ H=>m=n - i/\i<=n/\Pv i σ H,⟨n,by simp,Nat.zero_le _,h0⟩,?_⟩
 rintro i m σ H ⟨rfl,hi,p⟩
 by_cases hlt:i < n
 ·refine .inr ⟨hlt,Pv (i+1),fun σ' H' p'=>⟨n - (i+1),by omega,rfl,hlt,p'⟩,λ x H' y => ?_⟩
  obtain ⟨e,y⟩:=y
  subst e y
  exact hs i σ _ hlt p
 ·have e:i=n:=by omega
  subst e
  exact .inl ⟨Nat.le_refl _,hd σ H p⟩
abbrev R2:=V->V->Hp->VK->Prop
def nD (X:Cx) (f:Value->Value->Sem Value) (r:R2):Prop :=
 ∀ (pins:List (Addr×Obj)) (s:Shared) (σ : St) (H:Hp) (x y:V) (v u:Value) (Q:VK),Inv X pins σ H s->RelV x v->RelV y u->r x y H Q →
   wpAny (model X.prog X.w) X.A (f v u) (EP X pins σ Q) X.xe s
def KJ (X:Cx) (f:Value->Sem Value) (r:V->Hp->VK->Prop):Prop :=
 ∀ (pins:List (Addr×Obj)) (s:Shared) (σ : St) (H:Hp) (x:V) (v:Value) (Q:VK),Inv X pins σ H s->RelV x v->r x H Q →
   wpAny (model X.prog X.w) X.A (f v) (EP X pins σ Q) X.xe s
def eT (X:Cx) (f:Value) (r:List V->Hp->VK->Prop):Prop :=
 ∀ (pins:List (Addr×Obj)) (s:Shared) (σ : St) (H:Hp) (xs:List V) (us:List Value) (Q:VK),Inv X pins σ H s->Vals xs us->r xs H Q →
   wpAny (model X.prog X.w) X.A (call f us) (EP X pins σ Q) X.xe s
def KL (X:Cx) (r:V->Hp->(Bool->Hp->Prop)->Prop):Prop :=
 ∀ (pins:List (Addr×Obj)) (s:Shared) (σ : St) (H:Hp) (x:V) (v:Value) (Q:Bool->Hp->Prop),Inv X pins σ H s->RelV x v->r x H Q →
   wpAny (model X.prog X.w) X.A (truthy v) (TP X pins σ Q) X.xe s
def Dq (r:R2) (ta tb:TE):TE:=fun σ H Q=>ta σ H λ x H1=>tb σ H1 λ y H2=>r x y H2 Q
def HE (r:V->Hp->VK->Prop) (ta:TE):TE:=fun σ H Q=>ta σ H λ x H1=>r x H1 Q
def rI (C:Int->Int->Prop) (g:Int->Int->V):R2:=λ x y H Q => ∃ i j,x = .int i/\y = .int j/\C i j/\Q (g i j) H
def A9 (g:Int->Int->V):R2:=λ x y H Q => ∃ i j,x = .int i/\y = .int j/\Q (g i j) H
def rU (g:Int->V):V->Hp->VK->Prop:=λ x H Q => ∃ i,x = .int i/\Q (g i) H
section
variable {X:Cx} {a b c:Expr} {ta tb tc:TE} {pos:Pos}
theorem FF (ha:PE X a ta) (hb:PE X b tb) {pins:List (Addr×Obj)} {s:Shared} {σ : St} {H:Hp} {R:V->V->Hp->Prop} (I:Inv X pins σ H s)
  (h:ta σ H λ x H1=>tb σ H1 λ y H2=>R x y H2) {Q:Value->Shared->Prop} {f:Value->Value->Sem Value}
  (hf : ∀ v u s2 x y H2,Inv X pins σ H2 s2->RelV x v->RelV y u->R x y H2->wpAny (model X.prog X.w) X.A (f v u) Q X.xe s2) :
  wpAny (model X.prog X.w) X.A (eval a X.env) (λ v s₁ => wpAny (model X.prog X.w) X.A (eval b X.env) (λ u s₂ => wpAny (model X.prog X.w) X.A (f v u) Q X.xe s₂) X.xe s₁) X.xe s:=by
 refine bL (ha pins s σ H _ I h) ?_
 rintro v s1 ⟨x,H1,I1,r1,q1⟩
 refine bL (hb pins s1 σ H1 _ I1 q1) ?_
 rintro u s2 ⟨y,H2,I2,r2,q2⟩
 exact hf v u s2 x y H2 I2 r1 r2 q2
theorem av {op:Operator} {r:R2} (ho:nD X (binaryOp op) r) (ha:PE X a ta) (hb:PE X b tb):PE X (.BinOp a op b pos) (Dq r ta tb):=by
 intro pins s σ H Q I h
 exact wpAny_BinOp (FF ha hb I h λ v u s2 x y H2 I2 rx ry q=>ho pins s2 σ H2 x y v u Q I2 rx ry q)
theorem yi {op:UnaryOp} {r:V->Hp->VK->Prop} (ho:KJ X (unaryOp op) r) (ha:PE X a ta):PE X (.UnaryOp op a pos) (HE r ta):=by
 intro pins s σ H Q I h
 exact UnaryOp_ (bL (ha pins s σ H _ I h) λ v s1 ⟨x,H1,I1,r1,q1⟩=>ho pins s1 σ H1 x v Q I1 r1 q1)
theorem JN {f:Value->Value->Sem Value} {C:Int->Int->Prop} {g:Int->Int->Int}
  (rule : ∀ (i j:Int) (t u:Tok) (s:Shared) (Q:Value->Shared->Prop) (E:Value->Shared->Prop),C i j->Q (.int (g i j) s.toks) { s with toks:=s.toks+1 }->wpAny (model X.prog X.w) X.A (f (.int i t) (.int j u)) Q E s) :
  nD X f (rI C λ i j => .int (g i j)):=by
 intro pins s σ H x y v u Q I rx ry h
 obtain ⟨i,j,rfl,rfl,hc,q⟩:=h
 obtain ⟨t,rfl⟩:=rx
 obtain ⟨t',rfl⟩:=ry
 exact rule i j t t' s _ _ hc ⟨.int (g i j),H,I.tok _,⟨_,rfl⟩,q⟩
theorem HF {f:Value->Value->Sem Value} {g:Int->Int->Int}
  (rule : ∀ (i j:Int) (t u:Tok) (s:Shared) (Q:Value->Shared->Prop) (E:Value->Shared->Prop),Q (.int (g i j) s.toks) { s with toks:=s.toks+1 }->wpAny (model X.prog X.w) X.A (f (.int i t) (.int j u)) Q E s) :
  nD X f (A9 λ i j => .int (g i j)):=by
 intro pins s σ H x y v u Q I rx ry h
 obtain ⟨i,j,rfl,rfl,q⟩:=h
 obtain ⟨t,rfl⟩:=rx
 obtain ⟨t',rfl⟩:=ry
 exact rule i j t t' s _ _ ⟨.int (g i j),H,I.tok _,⟨_,rfl⟩,q⟩
theorem HG {f:Value->Value->Sem Value} {g:Int->Int->Bool}
  (rule : ∀ (i j:Int) (t u:Tok) (s:Shared) (Q:Value->Shared->Prop) (E:Value->Shared->Prop),Q (.bool (g i j)) s->wpAny (model X.prog X.w) X.A (f (.int i t) (.int j u)) Q E s) :
  nD X f (A9 λ i j => .bl (g i j)):=by
 intro pins s σ H x y v u Q I rx ry h
 obtain ⟨i,j,rfl,rfl,q⟩:=h
 obtain ⟨t,rfl⟩:=rx
 obtain ⟨t',rfl⟩:=ry
 exact rule i j t t' s _ _ ⟨.bl (g i j),H,I,rfl,q⟩
def Dr (i j:Int):Prop:=0 < j/\j < 1073741824
def MU (i j:Int):Prop:=j≠0/\j.natAbs < 1073741824
def qq (i j:Int):Prop:=0<=j/\j<=1000000/\i.natAbs < 2 ^ 64
def zM (i j:Int):Prop:=(-(2 ^ 64) < i/\i < 2 ^ 64)\/(-(2 ^ 64) < j/\j < 2 ^ 64)
theorem zM.ok {i j:Int} (h:zM i j):IntMulOk i j:=by
 rcases h with ⟨h1,h2⟩ | ⟨h1,h2⟩
 ·exact .of_left (intBits_le_64 h1 h2)
 ·exact .of_right (intBits_le_64 h1 h2)
theorem bg:nD X (binaryOp .Add) (A9 λ i j => .int (i+j)):=HF λ _ _ _ _ _ _ _ q=>add_int q
theorem cg:nD X (binaryOp .Sub) (A9 λ i j => .int (i - j)):=HF λ _ _ _ _ _ _ _ q=>sub_int q
theorem mJ:nD X (binaryOp .Mult) (rI zM λ i j => .int (i * j)):=JN λ _ _ _ _ _ _ _ hc q=>mul_int q hc.ok
theorem fK:nD X (binaryOp .FloorDiv) (rI Dr λ i j => .int (i / j)):=JN λ i j _ _ _ _ _ hc q=>by
 have h1:(0:Int) < j:=hc.1
 have h2:j < 1073741824:=hc.2
 exact floordiv_int (by omega) (by rw [Int.fdiv_eq_ediv_of_nonneg i (by omega)];exact q) (.inl (PyProof.noPylong_small (by omega)))
theorem bM:nD X (binaryOp .Mod) (rI (λ _ j=>0 < j) λ i j => .int (i % j)):=JN λ i j _ _ _ _ _ hc q=>by
 have h1:(0:Int) < j:=hc
 exact mod_int' (by omega) (by rw [Int.fmod_eq_emod_of_nonneg i (by omega)];exact q)
theorem r9:nD X (binaryOp .Pow) (rI qq λ i j => .int (i ^ j.toNat)):=JN λ _ _ _ _ _ _ _ hc q=>pow_int_small hc.1 hc.2.1 hc.2.2 q
theorem Ob {f:Value->Sem Value} {g:Int->Int}
  (rule : ∀ (i:Int) (t:Tok) (s:Shared) (Q:Value->Shared->Prop) (E:Value->Shared->Prop),Q (.int (g i) s.toks) { s with toks:=s.toks+1 }->wpAny (model X.prog X.w) X.A (f (.int i t)) Q E s) :
  KJ X f (rU λ i => .int (g i)):=by
 intro pins s σ H x v Q I rx h
 obtain ⟨i,rfl,q⟩:=h
 obtain ⟨t,rfl⟩:=rx
 exact rule i t s _ _ ⟨.int (g i),H,I.tok _,⟨_,rfl⟩,q⟩
theorem sf:KJ X (unaryOp .USub) (rU λ i => .int (-i)):=Ob λ _ _ _ _ _ q=>neg_int q
end
def Dt:V->V->Bool
 | .aN,.aN=>true | .aN,.int _=>true | .int _,.aN=>true | .aN,.bl _=>true | .bl _,.aN=>true | .aN,.str _=>true | .str _,.aN=>true
 | .int _,.int _=>true | .bl _,.bl _=>true | .str _,.str _=>true | .yg _,.yg _=>true
 | .int _,.str _=>true | .str _,.int _=>true | .bl _,.str _=>true | .str _,.bl _=>true
 | _,_=>false
def FG:R2:=λ x y H Q=>Dt x y=true/\Q (.bl (decide (x=y))) H
def HH:R2:=λ x y H Q=>Dt x y=true/\Q (.bl (!decide (x=y))) H
theorem yj {i j:Int} : decide (V.int i=V.int j)=(i == j):=by
 rw [Bool.eq_iff_iff]
 simp
theorem Ba {i j:Bool} : decide (V.bl i=V.bl j)=(i == j):=by
 rw [Bool.eq_iff_iff]
 simp
theorem yk {i j:Str} : decide (V.str i=V.str j)=(i == j):=by
 rw [Bool.eq_iff_iff]
 simp
theorem yl {i j:Array UInt8} : decide (V.yg i=V.yg j)=(i.toList == j.toList):=by
 rw [Bool.eq_iff_iff]
 cases i
 cases j
 simp
section
variable {X:Cx} {a b c:Expr} {ta tb tc:TE} {pos:Pos}
theorem aV {pins:List (Addr×Obj)} {σ : St} {H:Hp} {s:Shared} {Q:VK} {k k':Bool} (I:Inv X pins σ H s) (q:Q (.bl k) H) (e:k=k'):EP X pins σ Q (.bool k') s:=by
 subst e
 exact ⟨.bl k,H,I,rfl,q⟩
theorem ie:nD X (compareOp .Eq) FG:=by
 intro pins s σ H x y v u Q I rx ry h
 obtain ⟨hs,q⟩:=h
 cases x with
 | aN =>
   cases rx
   cases y with
   | aN=>cases ry;exact PySem.EqNone.eq_none_none (aV I q (by simp))
   | bl j=>cases ry;exact PySem.EqNone.eq_none_bool (aV I q (by simp))
   | int j=>obtain ⟨t',rfl⟩:=ry;exact PySem.EqNone.eq_none_int (aV I q (by simp))
   | str j=>obtain ⟨t',rfl⟩:=ry;exact PySem.EqNone.eq_none_str (aV I q (by simp))
   | _=>exact absurd (show false=true from hs) Bool.false_ne_true
 | bl i =>
   cases rx
   cases y with
   | aN=>cases ry;exact PySem.EqNone.eq_bool_none (aV I q (by simp))
   | bl j=>cases ry;exact eq_bool (aV I q Ba)
   | str j=>obtain ⟨t',rfl⟩:=ry;exact PySem.EqMixed.eq_bool_str (aV I q (by simp))
   | _=>exact absurd (show false=true from hs) Bool.false_ne_true
 | int i =>
   obtain ⟨t,rfl⟩:=rx
   cases y with
   | aN=>cases ry;exact PySem.EqNone.eq_int_none (aV I q (by simp))
   | int j=>obtain ⟨t',rfl⟩:=ry;exact eq_int (aV I q yj)
   | str j=>obtain ⟨t',rfl⟩:=ry;exact PySem.EqMixed.eq_int_str (aV I q (by simp))
   | _=>exact absurd (show false=true from hs) Bool.false_ne_true
 | str i =>
   obtain ⟨t,rfl⟩:=rx
   cases y with
   | aN=>cases ry;exact PySem.EqNone.eq_str_none (aV I q (by simp))
   | bl j=>cases ry;exact PySem.EqMixed.eq_str_bool (aV I q (by simp))
   | int j=>obtain ⟨t',rfl⟩:=ry;exact PySem.EqMixed.eq_str_int (aV I q (by simp))
   | str j=>obtain ⟨t',rfl⟩:=ry;exact eq_str (aV I q yk)
   | _=>exact absurd (show false=true from hs) Bool.false_ne_true
 | yg i =>
   obtain ⟨t,rfl⟩:=rx
   cases y with
   | yg j=>obtain ⟨t',rfl⟩:=ry;exact PySem.W.eq_bytes (aV I q yl)
   | _=>exact absurd (show false=true from hs) Bool.false_ne_true
 | _=>cases y <;> exact absurd (show false=true from hs) Bool.false_ne_true
theorem qW:nD X (compareOp .NotEq) HH:=by
 intro pins s σ H x y v u Q I rx ry h
 obtain ⟨hs,q⟩:=h
 cases x with
 | aN =>
   cases rx
   cases y with
   | aN=>cases ry;exact PySem.EqNone.ne_none_none (aV I q (by simp))
   | bl j=>cases ry;exact PySem.EqNone.ne_none_bool (aV I q (by simp))
   | int j=>obtain ⟨t',rfl⟩:=ry;exact PySem.EqNone.ne_none_int (aV I q (by simp))
   | str j=>obtain ⟨t',rfl⟩:=ry;exact PySem.EqNone.ne_none_str (aV I q (by simp))
   | _=>exact absurd (show false=true from hs) Bool.false_ne_true
 | bl i =>
   cases rx
   cases y with
   | aN=>cases ry;exact PySem.EqNone.ne_bool_none (aV I q (by simp))
   | bl j=>cases ry;exact ne_bool (aV I q (congrArg not Ba))
   | str j=>obtain ⟨t',rfl⟩:=ry;exact PySem.EqMixed.ne_bool_str (aV I q (by simp))
   | _=>exact absurd (show false=true from hs) Bool.false_ne_true
 | int i =>
   obtain ⟨t,rfl⟩:=rx
   cases y with
   | aN=>cases ry;exact PySem.EqNone.ne_int_none (aV I q (by simp))
   | int j=>obtain ⟨t',rfl⟩:=ry;exact ne_int (aV I q (congrArg not yj))
   | str j=>obtain ⟨t',rfl⟩:=ry;exact PySem.EqMixed.ne_int_str (aV I q (by simp))
   | _=>exact absurd (show false=true from hs) Bool.false_ne_true
 | str i =>
   obtain ⟨t,rfl⟩:=rx
   cases y with
   | aN=>cases ry;exact PySem.EqNone.ne_str_none (aV I q (by simp))
   | bl j=>cases ry;exact PySem.EqMixed.ne_str_bool (aV I q (by simp))
   | int j=>obtain ⟨t',rfl⟩:=ry;exact PySem.EqMixed.ne_str_int (aV I q (by simp))
   | str j=>obtain ⟨t',rfl⟩:=ry;exact ne_str (aV I q (congrArg not yk))
   | _=>exact absurd (show false=true from hs) Bool.false_ne_true
 | yg i =>
   obtain ⟨t,rfl⟩:=rx
   cases y with
   | yg j=>obtain ⟨t',rfl⟩:=ry;exact PySem.W.ne_bytes (aV I q (congrArg not yl))
   | _=>exact absurd (show false=true from hs) Bool.false_ne_true
 | _=>cases y <;> exact absurd (show false=true from hs) Bool.false_ne_true
theorem oM:nD X (compareOp .Lt) (A9 λ i j => .bl (decide (i < j))):=HG λ _ _ _ _ _ _ _ q=>lt_int q
theorem Bb:nD X (compareOp .Gt) (A9 λ i j => .bl (decide (j < i))):=HG λ _ _ _ _ _ _ _ q=>gt_int q
theorem FH:nD X (compareOp .Is) (λ x y H Q=>y = .aN/\Q (.bl (decide (x = .aN))) H):=by
 intro pins s σ H x y v u Q I rx ry h
 obtain ⟨rfl,q⟩:=h
 cases ry
 refine is_none_gen (aV I q ?_)
 cases x <;> first
  | (cases rx;rfl)
  | (obtain ⟨t,rfl⟩:=rx;rfl)
theorem ym:nD X (compareOp .IsNot) (λ x y H Q=>y = .aN/\Q (.bl (!decide (x = .aN))) H):=by
 intro pins s σ H x y v u Q I rx ry h
 obtain ⟨rfl,q⟩:=h
 cases ry
 refine isnot_none_gen (aV I q ?_)
 cases x <;> first
  | (cases rx;rfl)
  | (obtain ⟨t,rfl⟩:=rx;rfl)
theorem aR (b:Expr) {op:CmpOp} (h:op ≠ .In:=by decide) (h2:op ≠ .NotIn:=by decide):behindInMarks op b=false:=by
 have e1:(op == CmpOp.In)=false:=by cases op <;> first | rfl | exact absurd rfl h
 have e2:(op == CmpOp.NotIn)=false:=by cases op <;> first | rfl | exact absurd rfl h2
 cases b <;> simp [behindInMarks,e1,e2]
theorem sj {op:CmpOp} {r:R2} (ho:nD X (compareOp op) r) (ha:PE X a ta) (hb:PE X b tb) (hm:behindInMarks op b=false):PE X (.Compare a [op] [b] pos) (Dq r ta tb):=by
 intro pins s σ H Q I h
 exact wpAny_Compare1 (FF ha hb I h λ v u s2 x y H2 I2 rx ry q=>ho pins s2 σ H2 x y v u Q I2 rx ry q) hm
def qX (t:TE):TT:=fun σ H Q=>t σ H λ x H' => ∃ k,x = .bl k/\Q k H'
theorem aG {op:CmpOp} {r:R2} (ho:nD X (compareOp op) r) (ha:PE X a ta) (hb:PE X b tb) (hm:behindInMarks op b=false):PT X (.Compare a [op] [b] pos) (qX (Dq r ta tb)):=by
 intro pins s σ H Q I h
 refine wpAny_isTrue_Compare1 (bL (ha pins s σ H _ I h) λ v s1 ⟨x,H1,I1,r1,q1⟩=>bL (hb pins s1 σ H1 _ I1 q1) λ u s2 ⟨y,H2,I2,r2,q2⟩ =>
  bL (ho pins s2 σ H2 x y v u _ I2 r1 r2 q2) λ c s3 ⟨z,H3,I3,r3,k,e,q3⟩ => ?_) hm
 subst e
 cases r3
 exact wpAny_truthy_bool ⟨H3,I3,q3⟩
def FI (K:PySem.W.Frag) (x:V) (H:Hp) (k:Bool):Prop :=
 match x with
 | .aN=>k=false
 | .bl b=>k=b
 | .int i=>k=(i != 0)
 | .str y=>y.length<=sizeLine/\k=((y.length:Int) != 0)
 | .yg y=>y.size<=sizeLine/\k=((y.size:Int) != 0)
 | .ref p=>(∃ xs,bW K H p xs/\k = !xs.isEmpty)\/(∃ xs,r6 K H p xs/\k = !xs.isEmpty) ∨ ∃ kvs,H p=some (.dK kvs)/\k = !kvs.isEmpty
 | _=>False
theorem wO {κ : Type} {kvs:List (κ × V)} {vs:List (κ × Value)} (r:KV kvs vs):(!vs.isEmpty) = !kvs.isEmpty:=by
 cases r <;> rfl
theorem oN {xs:List V} {its:List Value} (r:Vals xs its):(!its.toArray.isEmpty) = !xs.isEmpty:=by
 cases r <;> simp
theorem sr:(sizeLine:Nat) < 2 ^ 63:=by rw [sizeLine_eq];decide
theorem FJ:KL X (λ x H Q => ∃ k,FI X.K x H k/\Q k H):=by
 intro pins s σ H x v Q I rx h
 obtain ⟨k,e,q⟩:=h
 have hl:=sr
 have hs:sizeLine=16777216:=sizeLine_eq
 cases x with
 | aN =>
   cases rx
   have e':k=false:=e
   subst e'
   exact truthy_none ⟨H,I,q⟩
 | bl b =>
   cases rx
   have e':k=b:=e
   subst e'
   exact wpAny_truthy_bool ⟨H,I,q⟩
 | int i =>
   obtain ⟨t,rfl⟩:=rx
   have e':k=(i != 0):=e
   subst e'
   exact PySem.P.truthy_int ⟨H,I,q⟩
 | str y =>
   obtain ⟨t,rfl⟩:=rx
   obtain ⟨hy,e'⟩:y.length<=sizeLine/\k=((y.length:Int) != 0):=e
   subst e'
   exact PySem.P.truthy_str (by omega) ⟨H,I.tok _,q⟩
 | yg y =>
   obtain ⟨t,rfl⟩:=rx
   obtain ⟨hy,e'⟩:y.size<=sizeLine/\k=((y.size:Int) != 0):=e
   subst e'
   exact PySem.W.truthy_bytes (by omega) ⟨H,I.tok _,q⟩
 | ref p =>
   cases rx
   have e':(∃ xs,bW X.K H p xs/\k = !xs.isEmpty)\/(∃ xs,r6 X.K H p xs/\k = !xs.isEmpty) ∨ ∃ kvs,H p=some (.dK kvs)/\k = !kvs.isEmpty:=e
   rcases e' with ⟨xs,hx,e'⟩ | ⟨xs,hx,e'⟩ | ⟨kvs,hx,e'⟩
   ·subst e'
    obtain ⟨its,r,pl,hz⟩:=I.list hx
    have hlen:=r.length
    exact wpAny_truthy_list pl.isList (by simp only [List.size_toArray];omega) ⟨H,I.tok _,by rw [oN r];exact q⟩
   ·subst e'
    obtain ⟨its,r,pl,hz⟩:=I.tuple hx
    have hlen:=r.length
    exact truthy_tuple pl (by simp only [List.size_toArray];omega) ⟨H,I.tok _,by rw [oN r];exact q⟩
   ·subst e'
    obtain ⟨hz,hS,vs,r,m⟩:kvs.length<=sizeLine/\(p == sysModules)=false ∧ ∃ vs,KV kvs vs/\s.heap.DictOf (br X.prog X.w) p vs:=I.hok p _ hx
    have hlen:kvs.length=vs.length:=Paired.length r
    exact wpAny_truthy_dict hS m (by omega) ⟨H,I.tok _,by rw [wO r];exact q⟩
 | _=>exact (show False from e).elim
theorem gj (ha:PE X a ta) (he : ∀ whole,isTrue a X.env whole=(do let v <-whole;standAt a.pos;holding [v] (truthy v))) :
  PT X a (fun σ H Q=>ta σ H λ x H' => ∃ k,FI X.K x H' k/\Q k H'):=by
 intro pins s σ H Q I h
 exact isTrue_plain (bL (ha pins s σ H _ I h) λ v s1 ⟨x,H1,I1,r1,q1⟩=>FJ pins s1 σ H1 x v Q I1 r1 q1) (he _)
theorem vals1 {x:V} {us:List Value} (r:Vals [x] us) : ∃ u,us = [u]/\RelV x u:=by
 cases r with
 | cons r1 r2=>cases r2;exact ⟨_,rfl,r1⟩
theorem vals2 {x y:V} {us:List Value} (r:Vals [x,y] us) : ∃ u w',us = [u,w']/\RelV x u/\RelV y w':=by
 cases r with
 | cons r1 r2 =>
   cases r2 with
   | cons r3 r4=>cases r4;exact ⟨_,_,rfl,r1,r3⟩
theorem zN (hc:X.calm=true):eT X (.builtin "max") (λ xs H Q => ∃ i j,xs = [.int i,.int j]/\Q (.int (if j > i then j else i)) H):=by
 intro pins s σ H xs us Q I r h
 obtain ⟨i,j,rfl,q⟩:=h
 obtain ⟨u,w',rfl,⟨t,rfl⟩,⟨t',rfl⟩⟩:=vals2 r
 refine max_two_ints (I.ok.hd hc) λ h' tk k=>⟨_,H,I.kept k,?_,q⟩
 by_cases hj:j > i
 ·rw [if_pos hj,if_pos hj];exact ⟨_,rfl⟩
 ·rw [if_neg hj,if_neg hj];exact ⟨_,rfl⟩
theorem mK (hc:X.calm=true):eT X (.builtin "min") (λ xs H Q => ∃ i j,xs = [.int i,.int j]/\Q (.int (if j < i then j else i)) H):=by
 intro pins s σ H xs us Q I r h
 obtain ⟨i,j,rfl,q⟩:=h
 obtain ⟨u,w',rfl,⟨t,rfl⟩,⟨t',rfl⟩⟩:=vals2 r
 refine min_two_ints (I.ok.hd hc) λ h' tk k=>⟨_,H,I.kept k,?_,q⟩
 by_cases hj:j < i
 ·rw [if_pos hj,if_pos hj];exact ⟨_,rfl⟩
 ·rw [if_neg hj,if_neg hj];exact ⟨_,rfl⟩
end
structure wQ (h:Heap) (x dx C:Addr) (mA:Str->Option Value):Prop where
 obj:h.get? x=some (PySem.W.instObj C dx)
 ns:h.Ns1 dx mA
 ne:dx≠x
theorem zO {h:Heap} {dx:Addr} {mA:Str->Option Value} (n:h.Ns1 dx mA) : ∃ od,h.get? dx=some od ∧ ∀ name,PySem.W.lookIn name od=some (mA name):=by
 obtain ⟨o,es,ep,ho,hd,hk,_,hm⟩:=n
 refine ⟨o,ho,λ name => ?_⟩
 have e:=hm name
 unfold nsFind findBy at e
 rw [<-Array.find?_toList] at e
 unfold PySem.W.lookIn
 rw [hd]
 dsimp only
 split
 ·rename_i y q
  rw [q] at e
  exact congrArg some e
 ·rename_i q
  rw [q] at e
  have a:es.toList.any (·.refKey)=false:=by
   rw [List.any_eq_false]
   intro y hy
   obtain ⟨z,t,hkey⟩:=hk y (Array.mem_toList_iff.mp hy)
   simp [DictEntry.refKey,hkey]
  have a' : ¬ es.toList.any (·.refKey)=true:=by rw [a];exact Bool.false_ne_true
  rw [if_neg a']
  exact congrArg some e
theorem wQ.look {h:Heap} {x dx C:Addr} {mA:Str->Option Value} (I:wQ h x dx C mA) : ∃ od,PySem.W.InstAt h x (PySem.W.instObj C dx) C (some od) ∧ ∀ name,PySem.W.lookIn name od=some (mA name) :=
 let ⟨od,ho,hl⟩:=zO I.ns
 ⟨od,⟨I.obj,rfl,rfl,ho⟩,hl⟩
section
variable {prog:Program} {w:World} {A:Around} {E:Value->Shared->Prop} {s:Shared} {K:PySem.W.Frag} {x dx C f:Addr} {mA:Str->Option Value} {name:Str} {v:Value}
theorem get_map {expr:Bool} {Q:Value->Shared->Prop} (X:K.In s.heap) (I:wQ s.heap x dx C mA) (hg:PySem.W.plainGet K C name=true) (hh:PySem.W.hasDictIn K C=true)
  (ha:PySem.W.findIn K (.ref C) name=some none) (hv:mA name=some v) (hv':PySem.W.handedIn v=true) (h:Q v { s with toks:=s.toks+1 }) :
  wpAny (model prog w) A (getAttr (.ref x) name expr) Q E s:=by
 obtain ⟨od,J,hl⟩:=I.look
 exact PySem.W.get_value X J (PySem.W.plainGet_of hg).1 (PySem.W.findObj_own hh ha rfl (by rw [hl,hv])) hv' h
theorem Bc {pl:Sem Bool} {Q:Value×List Value->Shared->Prop} (X:K.In s.heap) (I:wQ s.heap x dx C mA) (hg:PySem.W.plainGet K C name=true)
  (hf:PySem.W.findIn K (.ref C) name=some (some (.ref f))) (ht:PySem.W.isFn K (.ref f)=true) (hv:mA name=none) (h:Q (.ref f,[.ref x]) s) :
  wpAny (model prog w) A (getMethod (.ref x) name pl) Q E s:=by
 obtain ⟨od,J,hl⟩:=I.look
 exact PySem.W.method_fn X J (PySem.W.plainGet_of hg).1 (PySem.W.plainGet_of hg).2 hf (beq_iff_eq.mp ht) (by show (PySem.W.lookIn name od).map (·.isSome)=some false;rw [hl,hv];rfl) h
theorem Du {ns:List Str} {Q:Unit->Shared->Prop} (X:K.In s.heap) (I:wQ s.heap x dx C mA)
  (hs:PySem.W.findIn K (.ref C) "__setattr__" = some (some (.builtin "object.__setattr__"))) (hp:PySem.W.plainOver K C=true) (ht:PySem.W.takerIn K C name=some none) (hh:PySem.W.hasDictIn K C=true)
  (hw:PySem.Within mA ns) (hsz:ns.length<=sizeLine)
  (h : ∀ h',wQ h' x dx C (λ y=>if y=name then some v else mA y)->Heap.SameBut dx s.heap h'->Q () { s with heap:=h',toks:=s.toks+2 }) :
  wpAny (model prog w) A (setAttr (.ref x) name v) Q E s:=by
 obtain ⟨od,J,hl⟩:=I.look
 refine PySem.W.set_plain X J hs (PySem.W.osa_open (s := { s with toks:=s.toks+1 }) (r:=none) X J hp ht λ b => ?_)
 obtain ⟨cd,hc,hd'⟩:=PySem.W.any_some hh
 have hx:s.heap.get? x=some ⟨.ref C,some dx,.plain,#[]⟩:=I.obj
 refine wpAny_bind (wpAny_pure (wpAny_bind (wpAny_bind (wpAny_loadPart hx (wpAny_bind (PySem.W.Looks.here (s := { s with toks:=s.toks+1 }) (PySem.W.looks_clsIn X hc) ?_))))))
 rw [hd']
 refine wpAny_pure (a:=some dx) (wpAny_bind (wpAny_pure (wpAny_bind ?_)))
 refine wpAny_nsSet1 (s := { s with toks:=s.toks+1 }) I.ns λ h' hn2 hs2 => ?_
 obtain ⟨oD,esD,Qa,Oc,Od,Dv⟩:=hn2.count (PySem.Within.cons name v hw)
 refine wpAny_bind (wpAny_lookBehind Oc (by rw [Od];exact pastItsLine_dict (Nat.le_trans Dv (by rw [List.length_cons];omega))) ?_)
 exact wpAny_pure (h _ ⟨(hs2.2 _ (Ne.symm I.ne)).trans I.obj,hn2,I.ne⟩ hs2)
theorem Bd {R:Result->Shared->Prop} {vs:List Value} {kw:List (Str×Value)} (X:K.In s.heap) (hm:PySem.W.makesIn K C=true)
  (hi:PySem.W.findIn K (.ref C) "__init__" = some (some (.ref f))) (hf:PySem.W.typeIn K (.ref f)=some (.type "function"))
  (h:codeAny (model prog w) (A.under (.builtin "type.__call__" ⟨.ref C::vs,kw⟩)) (.call (.ref f) ⟨.ref (s.heap.objs.size+1)::vs,kw⟩) (PySem.W.InitBack (s.heap.objs.size+1) R)
   { s with heap:=(s.heap.push PySem.W.emptyDict).push (PySem.W.instObj C s.heap.objs.size) }) :
  codeAny (model prog w) A (.call (.ref C) ⟨vs,kw⟩) R s:=by
 obtain ⟨hh,g,d,t,os⟩:=s
 exact PySem.W.make_core (PySem.W.makes_of X hm) (PySem.W.looks_findIn X hi) (λ self=>PySem.W.bind_fn X self hf) (.inl rfl) h
end
def bu (f:Str) (v:V):List (Str×V)->List (Str×V)
 | []=>[(f,v)]
 | (g,x)::r=>if g=f then (g,v)::r else (g,x)::bu f v r
theorem nE (f g:Str) (v:V) : ∀ fs:List (Str×V),(bu f v fs).lookup g=if g=f then some v else fs.lookup g
 | []=>by
   show List.lookup g [(f,v)]=_
   by_cases h:g=f
   ·have hb:(g == f)=true:=beq_iff_eq.mpr h
    simp only [List.lookup,hb,if_pos h]
   ·have hb:(g == f)=false:=beq_eq_false_iff_ne.mpr h
    simp only [List.lookup,hb,if_neg h]
 | (k,x)::r=>by
   have ih:=nE f g v r
   rw [show bu f v ((k,x)::r)=(if k=f then (k,v)::r else (k,x)::bu f v r) from rfl]
   by_cases hk:k=f
   ·rw [if_pos hk]
    by_cases h:g=k
    ·have hb:(g == k)=true:=beq_iff_eq.mpr h
     simp only [List.lookup,hb,if_pos (h.trans hk)]
    ·have hb:(g == k)=false:=beq_eq_false_iff_ne.mpr h
     simp only [List.lookup,hb,if_neg (λ e:g=f=>h (e.trans hk.symm))]
   ·rw [if_neg hk]
    by_cases h:g=k
    ·have hb:(g == k)=true:=beq_iff_eq.mpr h
     simp only [List.lookup,hb,if_neg (λ e:g=f=>hk (h.symm.trans e))]
    ·have hb:(g == k)=false:=beq_eq_false_iff_ne.mpr h
     simp only [List.lookup,hb]
     exact ih
theorem mL (f:Str) (v:V) : ∀ fs:List (Str×V),f∈(bu f v fs).map (·.1) ∧ ∀ g,g∈fs.map (·.1)->g∈(bu f v fs).map (·.1)
 | []=>⟨by simp [bu],λ g h=>by simp at h⟩
 | (k,x)::r=>by
   obtain ⟨i1,i2⟩:=mL f v r
   rw [show bu f v ((k,x)::r)=(if k=f then (k,v)::r else (k,x)::bu f v r) from rfl]
   by_cases hk:k=f
   ·rw [if_pos hk]
    subst hk
    exact ⟨by simp,λ g h=>by simpa using h⟩
   ·rw [if_neg hk]
    refine ⟨?_,λ g h => ?_⟩
    ·rw [List.map_cons]
     exact List.mem_cons_of_mem _ i1
    ·rw [List.map_cons] at h ⊢
     rcases List.mem_cons.mp h with e | e
     ·exact List.mem_cons.mpr (.inl e)
     ·exact List.mem_cons_of_mem _ (i2 g e)
theorem nF (f:Str) (v:V) : ∀ fs:List (Str×V),(bu f v fs).length<=fs.length+1
 | []=>by simp [bu]
 | (k,x)::r=>by
   have ih:=nF f v r
   rw [show bu f v ((k,x)::r)=(if k=f then (k,v)::r else (k,x)::bu f v r) from rfl]
   by_cases hk:k=f
   ·rw [if_pos hk,List.length_cons,List.length_cons];omega
   ·rw [if_neg hk,List.length_cons,List.length_cons];omega
theorem gy.some_of {v:V} {o:Option Value} (r:gy (some v) o) : ∃ u,o=some u/\RelV v u:=by
 cases o with
 | none=>exact (show False from r).elim
 | some u=>exact ⟨u,rfl,r⟩
theorem gy.none_of {o:Option Value} (r:gy none o):o=none:=by
 cases o with
 | none=>rfl
 | some u=>exact (show False from r).elim
theorem zP {v:V} {u:Value} (r:RelV v u):PySem.W.handedIn u=true:=by
 cases v with
 | aN=>cases (show u=Value.none from r);rfl
 | bl b=>cases (show u=Value.bool b from r);rfl
 | int i=>obtain ⟨t,e⟩:=(show ∃ t,u=Value.int i t from r);cases e;rfl
 | str x=>obtain ⟨t,e⟩:=(show ∃ t,u=Value.str x t from r);cases e;rfl
 | yg b=>obtain ⟨t,e⟩:=(show ∃ t,u=Value.bytes b t from r);cases e;rfl
 | Fo b=>obtain ⟨t,e⟩:=(show ∃ t,u=Value.float b t from r);cases e;rfl
 | ref a=>cases (show u=Value.ref a from r);rfl
 | ty n=>cases (show u=Value.type n from r);rfl
section
variable {P:Program} {w:World} {H H':Hp} {h h':Heap} {a C dx:Addr} {fs fs':List (Str×V)}
theorem oz (hok:ic P w H h) (e:H a=some (.ins C dx fs)) : ∃ mA,wQ h a dx C mA/\(∀ f,gy (fs.lookup f) (mA f))/\PySem.Within mA (fs.map (·.1))/\fs.length<=1000/\H dx=some (.own a):=by
 obtain ⟨d,z,ne,ob,mA,n,r,q⟩:=(show bx P w H h a (.ins C dx fs) from hok a _ e)
 exact ⟨mA,⟨ob,n,ne⟩,r,q,z,d⟩
end
structure Dc (K:PySem.W.Frag) (C:Addr):Prop where
 pg:PySem.W.plainGet K C Str.empty=true
 hd:PySem.W.hasDictIn K C=true
 po:PySem.W.plainOver K C=true
 sa:PySem.W.findIn K (.ref C) "__setattr__" = some (some (.builtin "object.__setattr__"))
theorem Dc.get {K:PySem.W.Frag} {C:Addr} (c:Dc K C) (f:Str):PySem.W.plainGet K C f=true:=c.pg
def aY (K:PySem.W.Frag) (C:Addr) (f:Str):Prop:=PySem.W.findIn K (.ref C) f=some none
theorem aY.HJ {K:PySem.W.Frag} {C:Addr} {f:Str} (n:aY K C f):PySem.W.takerIn K C f=some none:=by
 unfold PySem.W.takerIn
 rw [show PySem.W.findIn K (.ref C) f=some none from n]
 rfl
structure Meth (K:PySem.W.Frag) (C:Addr) (m:Str) (f:Addr):Prop where
 at_:PySem.W.findIn K (.ref C) m=some (some (.ref f))
 fn:PySem.W.isFn K (.ref f)=true
 kp:PySem.W.keepIn K (.ref f)=true
section
variable {X:Cx} {pins:List (Addr×Obj)} {σ : St} {H:Hp} {s:Shared} {a C dx:Addr} {fs:List (Str×V)} {f:Str} {v:V} {A:Around} {E:Value->Shared->Prop}
theorem wR {b:Bool} {Q:Value->Shared->Prop} (I:Inv X pins σ H s) (e:H a=some (.ins C dx fs)) (c:Dc X.K C) (n:aY X.K C f) (l:fs.lookup f=some v)
  (h : ∀ u s',Inv X pins σ H s'->RelV v u->Q u s'):wpAny (model X.prog X.w) A (getAttr (.ref a) f b) Q E s:=by
 obtain ⟨mA,O,r,_,_,_⟩:=oz I.hok e
 obtain ⟨u,hu,ru⟩:=gy.some_of (v:=v) (o:=mA f) (by rw [<-l];exact r f)
 exact get_map I.jN O (c.get f) c.hd n hu (zP ru) (h u _ (I.tok _) ru)
theorem kH {m:Str} {g:Addr} {pl:Sem Bool} {Q:Value×List Value->Shared->Prop} (I:Inv X pins σ H s) (e:H a=some (.ins C dx fs)) (c:Dc X.K C) (k:Meth X.K C m g) (l:fs.lookup m=none)
  (h:Q (.ref g,[.ref a]) s):wpAny (model X.prog X.w) A (getMethod (.ref a) m pl) Q E s:=by
 obtain ⟨mA,O,r,_,_,_⟩:=oz I.hok e
 have hn:mA m=none:=gy.none_of (by rw [<-l];exact r m)
 exact Bc I.jN O (c.get m) k.at_ k.fn hn h
theorem wU {y:V} {u:Value} {Q:Unit->Shared->Prop} (I:Inv X pins σ H s) (e:H a=some (.ins C dx fs)) (c:Dc X.K C) (n:aY X.K C f) (hl:fs.length < 1000) (ry:RelV y u)
  (h : ∀ s',Inv X pins σ (upd H a (.ins C dx (bu f y fs))) s'->Q () s'):wpAny (model X.prog X.w) A (setAttr (.ref a) f u) Q E s:=by
 obtain ⟨mA,O,r,wi,_,ho⟩:=oz I.hok e
 have hz:(fs.map (·.1)).length<=sizeLine:=by rw [List.length_map,sizeLine_eq];omega
 refine Du I.jN O c.sa c.po n.HJ c.hd wi hz λ h' O' sb=>h _ ?_
 have hd : ∃ o,h'.get? dx=some o:=let ⟨o,_,_,e',_⟩:=O'.ns; ⟨o,e'⟩
 refine I.write (x:=a) (e:=dx) (by rw [e];exact True.intro) (.inr ho) (λ b q hb z=>(sb.2 b hb).trans z) hd ?_
 refine ⟨by rw [aQ O.ne];exact ho,?_,O.ne,O'.obj,_,O'.ns,λ g => ?_,λ g hg => ?_⟩
 ·have:=nF f y fs;omega
 ·show gy ((bu f y fs).lookup g) (if g=f then some u else mA g)
  rw [nE]
  by_cases q:g=f
  ·rw [if_pos q,if_pos q];exact ry
  ·rw [if_neg q,if_neg q];exact r g
 ·by_cases q:g=f
  ·rw [q];exact (mL f y fs).1
  ·refine (mL f y fs).2 g (wi g λ z=>hg ?_)
   show (if g=f then some u else mA g)=none
   rw [if_neg q];exact z
theorem Inv.made (I:Inv X pins σ H s):Inv X pins σ (upd (upd H s.heap.objs.size (.own (s.heap.objs.size+1))) (s.heap.objs.size+1) (.ins C s.heap.objs.size []))
  { s with heap:=(s.heap.push PySem.W.emptyDict).push (PySem.W.instObj C s.heap.objs.size) } := by
 have e1:(s.heap.push PySem.W.emptyDict).get? s.heap.objs.size=some PySem.W.emptyDict:=Heap.get?_push_size s.heap rfl
 have e2:((s.heap.push PySem.W.emptyDict).push (PySem.W.instObj C s.heap.objs.size)).get? (s.heap.objs.size+1)=some (PySem.W.instObj C s.heap.objs.size):=by
  have:=Heap.get?_push_size (s.heap.push PySem.W.emptyDict) (o:=PySem.W.instObj C s.heap.objs.size) rfl
  rwa [Heap.size_push] at this
 have e3:(s.heap.push PySem.W.emptyDict).Ns s.heap.objs.size (λ _=>none):=⟨PySem.W.emptyDict,#[],_,e1,rfl,(λ e he=>absurd he (by simp)),λ _=>rfl⟩
 have I1:=I.laid (a:=s.heap.objs.size) (o := .own (s.heap.objs.size+1)) (h':=s.heap.push PySem.W.emptyDict) (t':=s.toks) (λ b u q=>Heap.get?_push_of_some _ q) (Nat.le_refl _) ⟨_,e1⟩
 refine I1.laid (a:=s.heap.objs.size+1) (o := .ins C s.heap.objs.size []) (t':=s.toks) (λ b u q=>Heap.get?_push_of_some _ q) (Nat.le_of_eq (Heap.size_push _ _)) ?_
 have ne:s.heap.objs.size≠s.heap.objs.size+1:=Nat.ne_of_lt (Nat.lt_succ_self _)
 refine ⟨by rw [aQ ne,dG],Nat.zero_le _,ne,e2,λ _=>none,(Heap.Ns1.of_empty e3).at λ o q=>Heap.get?_push_of_some _ q,λ _=>True.intro,λ y hy=>absurd rfl hy⟩
theorem Dw {prog:Program} {w:World} {env:Env} {e:Expr} {f:Str} {pos:Pos} {s:Shared} {Q:Value->Shared->Prop} (hb:attributeBase e f env (eval e env)=eval e env)
  (h:wpAny (model prog w) A (eval e env) (λ o s₁ => wpAny (model prog w) A (getAttr o f true) Q E s₁) E s):wpAny (model prog w) A (eval (.Attribute e f pos) env) Q E s :=
 Attribute_any_ h (by rw [arm_eval_Attribute,hb])
end
section
variable {X:Cx} {o e value:Expr} {f:Str} {pos pos' tpos:Pos} {ta tv:TE}
theorem EK {pl:Sem Bool} {m:Str} {apos:Pos} {args:List Expr} {pins:List (Addr×Obj)} {s:Shared} {σ : St} {H:Hp} {Q:Value->Shared->Prop} {te:TE} (he:PE X e te) (I:Inv X pins σ H s)
  (h:te σ H λ x H1 => ∃ a C dx fs g,x = .ref a/\H1 a=some (.ins C dx fs)/\Dc X.K C/\Meth X.K C m g/\fs.lookup m=none ∧
   ∀ s1,Inv X pins σ H1 s1->wpAny (model X.prog X.w) X.A (callWith pos (.ref g) [.ref a] (backTo pos (starEach args X.env)) (backToKw pos (keywordEach [] X.env))) Q X.xe s1)
  (ht:eval (.Call (.Attribute e m apos) args [] pos) X.env=(do
   let ov <-eval e X.env
   standAt apos.atName
   let (f,first) <-holding [ov] (getMethod ov m pl)
   callWith pos f first (backTo pos (starEach args X.env)) (backToKw pos (keywordEach [] X.env)))) :
  wpAny (model X.prog X.w) X.A (eval (.Call (.Attribute e m apos) args [] pos) X.env) Q X.xe s:=by
 refine PySem.W.methodCall_KW (pl:=pl) (bL (he pins s σ H _ I h) ?_) ht
 rintro u s1 ⟨x,H1,I1,rx,a,C,dx,fs,g,ex,ea,c,k,l,q⟩
 subst ex
 obtain rfl:u=Value.ref a:=rx
 exact kH I1 ea c k l (q s1 I1)
end
section
variable {X:Cx} {pins:List (Addr×Obj)} {σ : St} {H:Hp} {s:Shared} {A:Around} {E:Value->Shared->Prop} {Q:Value->Shared->Prop} {c:Value} {b:Bool}
inductive lq (K:PySem.W.Frag) (H:Hp):V->Value->Prop where
 | aN:lq K H .aN (.type "NoneType")
 | bl (x:Bool):lq K H (.bl x) (.type "bool")
 | int (i:Int):lq K H (.int i) (.type "int")
 | str (x:Str):lq K H (.str x) (.type "str")
 | Fo (x:UInt64):lq K H (.Fo x) (.type "float")
 | lst {a:Addr} {xs:List V} (e:H a=some (.lst xs)):lq K H (.ref a) (.type "list")
 | ux {a:Addr} {o:Obj} {xs:List V} (e:H a=some (.ux o (.lst xs))):lq K H (.ref a) (.type "list")
 | tup {a:Addr} {xs:List V} (e:H a=some (.tup xs)):lq K H (.ref a) (.type "tuple")
 | dK {a:Addr} {kvs:List (Key×V)} (e:H a=some (.dK kvs)):lq K H (.ref a) (.type "dict")
 | dT {a:Addr} {kvs:List (List Key×V)} (e:H a=some (.dT kvs)):lq K H (.ref a) (.type "dict")
 | ins {a C dx:Addr} {fs:List (Str×V)} (e:H a=some (.ins C dx fs)) (cl:Dc K C) (ha:PySem.W.findIn K (.ref C) "__class__" = some (some (.builtin "object.__class__")))
   (hn:PySem.W.specialIn K (.builtin "object.__class__") "__get__" = some (some (.builtin "getset_descriptor.__get__"))) (htk:PySem.W.takesIn K (.builtin "object.__class__")=some true)
   (hm:PySem.W.mroIn K C (.type "object")=some true):lq K H (.ref a) (.ref C)
theorem qY {x:V} {u t:Value} (I:Inv X pins σ H s) (rx:RelV x u) (ty:lq X.K H x t) (e:PySem.W.kitOne X.K t c=some b) (h : ∀ tk,Q (.bool b) { s with toks:=tk }) :
  wpAny (model X.prog X.w) A (call (.builtin "isinstance") [u,c]) Q E s:=by
 cases ty with
 | aN=>cases (show u=Value.none from rx);exact PySem.W.kia_one PySem.W.kitx_none I.jN True.intro e (λ z=>nomatch z) h
 | bl y=>cases (show u=Value.bool y from rx);exact PySem.W.kia_one PySem.W.kitx_bool I.jN True.intro e (λ z=>nomatch z) h
 | int i=>obtain ⟨t,q⟩:=(show ∃ t,u=Value.int i t from rx);cases q;exact PySem.W.kia_one PySem.W.kitx_int I.jN True.intro e (λ z=>nomatch z) h
 | str y=>obtain ⟨t,q⟩:=(show ∃ t,u=Value.str y t from rx);cases q;exact PySem.W.kia_one PySem.W.kitx_str I.jN True.intro e (λ z=>nomatch z) h
 | Fo y=>obtain ⟨t,q⟩:=(show ∃ t,u=Value.float y t from rx);cases q;exact PySem.W.kia_one PySem.W.kitx_float I.jN True.intro e (λ z=>nomatch z) h
 | @lst a xs ea =>
   cases (show u=Value.ref a from rx)
   obtain ⟨_,_,n,_,h1⟩:=(show bx X.prog X.w H s.heap a (.lst xs) from I.hok a _ ea)
   exact PySem.W.kia_one PySem.W.kitx_list I.jN ⟨_,h1,rfl⟩ e (λ z=>nomatch z) h
 | @ux a ob xs ea =>
   cases (show u=Value.ref a from rx)
   obtain ⟨_,_,_,n,_,h1⟩:=(show bx X.prog X.w H s.heap a (.ux ob (.lst xs)) from I.hok a _ ea)
   exact PySem.W.kia_one PySem.W.kitx_list I.jN ⟨_,h1,rfl⟩ e (λ z=>nomatch z) h
 | @tup a xs ea =>
   cases (show u=Value.ref a from rx)
   obtain ⟨_,_,_,p⟩:=(show bx X.prog X.w H s.heap a (.tup xs) from I.hok a _ ea)
   obtain ⟨o,h1,h2,_⟩:=p
   exact PySem.W.kia_one PySem.W.kitx_tuple I.jN ⟨o,h1,h2⟩ e (λ z=>nomatch z) h
 | @dK a kvs ea =>
   cases (show u=Value.ref a from rx)
   obtain ⟨_,_,vs,_,p⟩:=(show bx X.prog X.w H s.heap a (.dK kvs) from I.hok a _ ea)
   obtain ⟨o,es,ep,h1,h2,_⟩:=p
   exact PySem.W.kia_one PySem.W.kitx_dict I.jN ⟨o,h1,h2.1⟩ e (λ z=>nomatch z) h
 | @dT a kvs ea =>
   cases (show u=Value.ref a from rx)
   obtain ⟨_,_,xs,_,o,es,ep,h1,h2,_⟩:=(show bx X.prog X.w H s.heap a (.dT kvs) from I.hok a _ ea)
   exact PySem.W.kia_one PySem.W.kitx_dict I.jN ⟨o,h1,h2.1⟩ e (λ z=>nomatch z) h
 | @ins a C dx fs ea cl ha hn htk hm =>
   cases (show u=Value.ref a from rx)
   obtain ⟨mA,O,_⟩:=oz I.hok ea
   obtain ⟨od,J,_⟩:=O.look
   exact PySem.W.kia_one (PySem.W.kitx_own (cl.get _) cl.hd ha hn htk hm) I.jN J e (λ z=>nomatch z) h
end
structure bK (k:Nat) (A:Around):Prop where
 hd:A.handled=none
 dp:A.depth+3 * k+5 < recursionLimit
 un:A.units+16 * k+200 < cLine
theorem bK.mono {j k:Nat} {A:Around} (r:bK k A) (h:j<=k):bK j A:=⟨r.hd,by have:=r.dp;omega,by have:=r.un;omega⟩
theorem bK.deeper {k:Nat} {A:Around} (r:bK (k+1) A) (env:Env):bK k (A.deeper env) :=
 ⟨r.hd,by have:=r.dp;show A.depth+1+3 * k+5 < _;omega,by have:=r.un;show A.units+3+16 * k+200 < _;omega⟩
theorem wV {A:Around} {C:Addr} {us:List Value} {kw:List (Str×Value)} : (A.under (.builtin "type.__call__" ⟨.ref C::us,kw⟩)).depth=A.depth+1:=by
 first | rfl | simp [Around.under,Code.weight,Code.isCreation,Code.isGuard,Code.isCaller,Code.frames,Code.isFrame,guardIds]
theorem wW {A:Around} {C:Addr} {us:List Value} {kw:List (Str×Value)} : (A.under (.builtin "type.__call__" ⟨.ref C::us,kw⟩)).units=A.units+1:=by
 first | rfl | simp [Around.under,Code.cUnits,Code.frames,Code.isFrame]
theorem bK.make {k:Nat} {A:Around} (r:bK (k+1) A) (C:Addr) (us:List Value) (kw:List (Str×Value)):bK k (A.under (.builtin "type.__call__" ⟨.ref C::us,kw⟩)) :=
 ⟨r.hd,by have:=r.dp;rw [wV];omega,by have:=r.un;rw [wW];omega⟩
theorem bK.depth {k:Nat} {A:Around} (r:bK k A):A.depth < recursionLimit:=by have:=r.dp;omega
theorem bK.units {k:Nat} {A:Around} (r:bK k A):A.units+64 < cLine:=by have:=r.un;omega
def qt:TA:=λ _ H Q=>Q [] H
def qZ (ta:TE) (tr:TA):TA:=fun σ H Q=>ta σ H λ x H1=>tr σ H1 λ xs H2=>Q (x::xs) H2
section
variable {X:Cx} {e:Expr} {es:List Expr} {te:TE} {t:TA} {pos:Pos}
theorem af:PA X [] qt:=λ _ _ _ _ H Q I h=>Calls.spliced_nil ⟨[],H,I,.nil,h⟩
theorem aa (ha:PE X e te) (hr:PA X es t) (hs:starEach (e::es) X.env=(false,eval e X.env)::starEach es X.env:=by rfl):PA X (e::es) (qZ te t):=by
 intro pos pins s σ H Q I h
 rw [hs]
 show wpAny _ _ (spliced ((false,eval e X.env)::backTo pos (starEach es X.env))) _ _ s
 refine Calls.spliced_cons (bL (ha pins s σ H _ I h) ?_)
 rintro u s1 ⟨x,H1,I1,r1,q1⟩
 exact bL (hr pos pins s1 σ H1 _ I1 q1) λ us s2 ⟨xs,H2,I2,r2,q2⟩=>⟨x::xs,H2,I2,.cons r1 r2,q2⟩
def Be (t:TA):TE:=fun σ H Q=>t σ H λ xs H1=>xs.length<=sizeLine ∧ ∀ p,H1 p=none->Q (.ref p) (upd H1 p (.tup xs))
def Bf (t:TA):TE:=fun σ H Q=>t σ H λ xs H1=>xs.length<=sizeLine ∧ ∀ p,H1 p=none->Q (.ref p) (upd H1 p (.lst xs))
theorem fj {x1} (h:PA X es t):PE X (.Tuple es x1 pos) (Be t):=by
 intro pins s σ H Q I hq
 refine wpAny_Tuple_spliced (bL (h pos pins s σ H _ I hq) λ us s1 ⟨xs,H1,I1,r,z,q⟩=>⟨by rw [<-r.length];exact z,?_⟩)
 have hf:H1 s1.heap.objs.size=none:=I1.hok.fresh (Nat.le_refl _)
 refine ⟨.ref s1.heap.objs.size,upd H1 s1.heap.objs.size (.tup xs),I1.laid (t':=s1.toks) (λ b u e=>Heap.get?_push_of_some _ e) (Nat.le_refl _) ?_,rfl,q _ hf⟩
 exact ⟨z,us,r,⟨_,Heap.get?_push_size _ rfl,rfl,_,rfl⟩⟩
theorem bC (h:PA X es t):PE X (.List es pos) (Bf t):=by
 intro pins s σ H Q I hq
 refine wpAny_List_spliced (bL (h pos pins s σ H _ I hq) λ us s1 ⟨xs,H1,I1,r,z,q⟩=>⟨by rw [<-r.length];exact z,?_⟩)
 have hf:H1 s1.heap.objs.size=none:=I1.hok.fresh (Nat.le_refl _)
 refine ⟨.ref s1.heap.objs.size,upd H1 s1.heap.objs.size (.lst xs),I1.laid (t':=s1.toks) (λ b u e=>Heap.get?_push_of_some _ e) (Nat.le_refl _) ?_,rfl,q _ hf⟩
 exact ⟨z,us,0,r,Heap.get?_push_size _ rfl⟩
end
abbrev Sp:=List V->Hp->VK->XK->Prop
abbrev yo:=List Env->Hp->Shared->XK->Value->Shared->Prop
structure wX (P:Program) (w:World) (K:PySem.W.Frag) (mg:Str->Option Value) (base:Heap) (A:Around) (outer:List Env) (s:Shared) (H:Hp):Prop where
 frames:A.frames=some outer
 mod:Mod K mg base
 bs : ∀ b o,base.get? b=some o->s.heap.get? b=some o/\H b=none
 AN:base.objs.size<=s.heap.objs.size
 kZ:s.heap.FunFrames base outer
 Dn : ∀ b∈frs outer,H b=none
 hok:ic P w H s.heap
 bare:AllBare s.gens
def CE (outer:List Env) (P:Program) (w:World) (H:Hp) (s:Shared) (Q:VK) (u:Value) (s':Shared):Prop :=
 ∃ v H',s'.os=s.os/\AllBare s'.gens/\Un (frs outer) [] H H' s.heap s'.heap/\ic P w H' s'.heap/\RelV v u/\Q v H'
def CR (CX:yo) (outer:List Env) (P:Program) (w:World) (H:Hp) (s:Shared) (Q:VK) (E:XK) (r:Result) (s':Shared):Prop :=
 match r with
 | .ok (.ret u)=>CE outer P w H s Q u s'
 | .ok _=>False
 | .error e=>CX outer H s E e s'
structure dQ (P:Program) (w:World) (K:PySem.W.Frag) (mg:Str->Option Value) (base:Heap) (CX:yo) (k:Nat) (f:Addr) (fd:FuncData) (ps:List Str) (sp:Sp):Prop where
 len : ∀ vs H Q E,sp vs H Q E->vs.length=ps.length
 run : ∀ (A:Around) (outer:List Env) (s:Shared) (H:Hp) (args:Args) (us:List Value) (vs:List V) (Q:VK) (E:XK),bK k A->wX P w K mg base A outer s H->BindsTo s fd args (ps.zip us)->Vals vs us->sp vs H Q E →
  codeAny (model P w) A (.call (.ref f) args) (CR CX outer P w H s Q E) s
theorem dQ.mono {P:Program} {w:World} {K:PySem.W.Frag} {mg:Str->Option Value} {base:Heap} {CX:yo} {j k:Nat} {f:Addr} {fd:FuncData} {ps:List Str} {sp:Sp} (F:(dQ P w K mg base) CX j f fd ps sp) (h:j<=k) :
  (dQ P w K mg base) CX k f fd ps sp:=⟨F.len,λ A outer s H args us vs Q E hr=>F.run A outer s H args us vs Q E (hr.mono h)⟩
theorem dQ.imp {P:Program} {w:World} {K:PySem.W.Frag} {mg:Str->Option Value} {base:Heap} {CX:yo} {k:Nat} {f:Addr} {fd:FuncData} {ps:List Str} {sp HK:Sp} (F:(dQ P w K mg base) CX k f fd ps sp)
  (h : ∀ vs H Q E,HK vs H Q E->sp vs H Q E):(dQ P w K mg base) CX k f fd ps HK :=
 ⟨λ vs H Q E q=>F.len vs H Q E (h _ _ _ _ q),λ A outer s H args us vs Q E hr he hb hv hs=>F.run A outer s H args us vs Q E hr he hb hv (h _ _ _ _ hs)⟩
theorem wX.make {P:Program} {w:World} {K:PySem.W.Frag} {mg:Str->Option Value} {base:Heap} {A:Around} {outer:List Env} {s:Shared} {H:Hp} (e:wX P w K mg base A outer s H) (C:Addr) (us:List Value) (kw:List (Str×Value)) :
  wX P w K mg base (A.under (.builtin "type.__call__" ⟨.ref C::us,kw⟩)) outer s H:=⟨by first | exact e.frames | (simpa [Around.under,Code.envs,Code.isFrame,pushEnvs] using e.frames),e.mod,e.bs,e.AN,e.kZ,e.Dn,e.hok,e.bare⟩
section
variable {X:Cx} {pins:List (Addr×Obj)} {σ : St} {H:Hp} {s s':Shared}
theorem Inv.FL (I:Inv X pins σ H s):wX X.prog X.w X.K X.mg X.base X.A X.stack s H :=
 ⟨I.ok.frames,I.ok.mod,I.bs,Nat.le_trans I.ok.AN I.sz,I.stack,I.rY,I.hok,I.bare⟩
theorem Inv.after {Q:VK} {u:Value} (I:Inv X pins σ H s) (h:CE X.stack X.prog X.w H s Q u s'):EP X pins σ Q u s':=by
 obtain ⟨v,H',os,bare,un,hok,r,q⟩:=h
 obtain ⟨hh,g,d,t,os'⟩:=s'
 obtain rfl:os' = s.os:=os
 exact ⟨v,H',I.call (h':=hh) (g':=g) (d':=d) (t':=t) (ch:=[]) un hok bare (λ b z=>absurd z (by simp)),r,q⟩
end
def nG (sp:Sp) (fG:List V) (E:XK) (t:TA):TE:=fun σ H Q=>t σ H λ vs H1=>sp (vs++fG) H1 Q E
def nH (C:Addr) (m:Str) (sp:Sp) (fG:List V) (E:XK) (ta:TE) (t:TA):TE:=fun σ H Q=>ta σ H λ x H1 => ∃ a dx fs,x = .ref a/\H1 a=some (.ins C dx fs)/\fs.lookup m=none ∧
 t σ H1 λ vs H2=>sp (x::(vs++fG)) H2 Q E
def nI (C:Addr) (sp:Sp) (fG:List V) (E:XK) (t:TA):TE:=fun σ H Q=>t σ H λ vs H1 => ∀ x dx,H1 x=none->H1 dx=none->dx≠x →
 sp (.ref x::(vs++fG)) (upd (upd H1 dx (.own x)) x (.ins C dx [])) (λ v H2=>v = .aN/\Q (.ref x) H2) E
def Binds (K:PySem.W.Frag) (fd:FuncData) (ps:List Str) (ds:List Value):Prop :=
 ∀ (s:Shared) (us:List Value),K.In s.heap->(us++ds).length=ps.length->BindsTo s fd ⟨us,[]⟩ (ps.zip (us++ds))
theorem Binds.all {K:PySem.W.Frag} {fd:FuncData} {ps:List Str} (h : ∀ us:List Value,us.length=ps.length->bindArgs fd ⟨us,[]⟩ = pure (ps.zip us)):Binds K fd ps []:=λ s us _ hl=>by
 rw [List.append_nil] at hl ⊢
 exact .of_eq (h us hl)
def Passes (CX:yo) (X:Cx) (E:XK):Prop := ∀ (pins:List (Addr×Obj)) (σ : St) (H:Hp) (s:Shared) (e:Value) (s':Shared),Inv X pins σ H s->CX X.stack H s E e s'->X.xe e s'
section
variable {X:Cx} {CX:yo} {k:Nat} {f C:Addr} {fd:FuncData} {ps:List Str} {sp:Sp} {fG:List V} {ds:List Value} {E:XK} {x m:Str} {p pos apos:Pos} {e o:Expr} {es:List Expr} {ta:TE} {t:TA}
theorem wY {pins:List (Addr×Obj)} {σ : St} {H:Hp} {s:Shared} {Q:VK} {us:List Value} {vs:List V} (F:dQ X.prog X.w X.K X.mg X.base CX k f fd ps sp) (hr:bK k X.A) (hb:Binds X.K fd ps ds) (hd:Vals fG ds) (hx:Passes CX X E)
  (I:Inv X pins σ H s) (r:Vals vs us) (h:sp (vs++fG) H Q E):wpAny (model X.prog X.w) X.A (call (.ref f) us) (EP X pins σ Q) X.xe s:=by
 have r2:Vals (vs++fG) (us++ds):=r.append hd
 have hl:(us++ds).length=ps.length:=by rw [<-r2.length];exact F.len _ _ _ _ h
 refine wpAny_call (codeAny_mono (F.run X.A X.stack s H ⟨us,[]⟩ (us++ds) (vs++fG) Q E hr I.FL (hb s us I.jN hl) r2 h) λ r s' hq => ?_)
 cases r with
 | error e=>exact hx pins σ H s e s' I hq
 | ok fl =>
   cases fl with
   | ret u=>exact I.after hq
   | next=>exact False.elim hq
   | brk=>exact False.elim hq
   | cont=>exact False.elim hq
theorem yp (F:dQ X.prog X.w X.K X.mg X.base CX k f fd ps sp) (hr:bK k X.A) (hg:Gl X x) (hm:X.mg x=some (.ref f)) (hk:PySem.W.keepIn X.K (.ref f)=true) (hb:Binds X.K fd ps ds) (hd:Vals fG ds) (hx:Passes CX X E)
  (ha:PA X (e::es) t) (hdb:(x == ("__debug__" : Str))=false:=by decide) (he:starEach (e::es) X.env=(false,eval e X.env)::starEach es X.env:=by rfl) (hpl:(backTo pos (starEach es X.env)).any (·.1)=false:=by rfl) :
  PE X (.Call (.Name x p) (e::es) [] pos) (nG sp fG E t):=by
 intro pins s σ H Q I h
 refine wpAny_Call_Name_kw (gA I hg hm ?_ hdb)
 refine PySem.W.callWith_K (h₀ := X.base) I.ok.mod.Ft hk (bL (ha pos pins s σ H _ I h) λ us s1 ⟨vs,H1,I1,r,q⟩=>⟨I1.jN,?_⟩) he hpl
 exact wY F hr hb hd hx I1 r q
theorem Dy {pl:Sem Bool} (he:PE X o ta) (c:Dc X.K C) (hm:Meth X.K C m f) (F:dQ X.prog X.w X.K X.mg X.base CX k f fd ps sp) (hr:bK k X.A) (hb:Binds X.K fd ps ds) (hd:Vals fG ds) (hx:Passes CX X E) (ha:PA X (e::es) t)
  (hst:starEach (e::es) X.env=(false,eval e X.env)::starEach es X.env:=by rfl) (hpl:(backTo pos (starEach es X.env)).any (·.1)=false:=by rfl)
  (ht:eval (.Call (.Attribute o m apos) (e::es) [] pos) X.env=(do
   let ov <-eval o X.env
   standAt apos.atName
   let (f,first) <-holding [ov] (getMethod ov m pl)
   callWith pos f first (backTo pos (starEach (e::es) X.env)) (backToKw pos (keywordEach [] X.env))):=by rfl) :
  PE X (.Call (.Attribute o m apos) (e::es) [] pos) (nH C m sp fG E ta t):=by
 intro pins s σ H Q I h
 refine PySem.W.methodCall_KW (pl:=pl) (bL (he pins s σ H _ I h) ?_) ht
 rintro u s1 ⟨x,H1,I1,rx,a,dx,fs,ex,ea,l,q⟩
 subst ex
 obtain rfl:u=Value.ref a:=rx
 refine kH I1 ea c hm l ?_
 refine PySem.W.callWith_K (first:=[.ref a]) (h₀ := X.base) I.ok.mod.Ft hm.kp (bL (ha pos pins s1 σ H1 _ I1 q) λ us s2 ⟨vs,H2,I2,r,q2⟩=>⟨I2.jN,?_⟩) hst hpl
 exact wY (us := .ref a::us) (vs := .ref a::vs) F hr hb hd hx I2 (.cons rfl r) q2
theorem Bg {pl:Sem Bool} (he:PE X o ta) (c:Dc X.K C) (hm:Meth X.K C m f) (F:dQ X.prog X.w X.K X.mg X.base CX k f fd ps sp) (hr:bK k X.A) (hb:Binds X.K fd ps ds) (hd:Vals fG ds) (hx:Passes CX X E)
  (ht:eval (.Call (.Attribute o m apos) [] [] pos) X.env=(do
   let ov <-eval o X.env
   standAt apos.atName
   let (f,first) <-holding [ov] (getMethod ov m pl)
   callWith pos f first (backTo pos (starEach [] X.env)) (backToKw pos (keywordEach [] X.env))):=by rfl) :
  PE X (.Call (.Attribute o m apos) [] [] pos) (nH C m sp fG E ta qt):=by
 intro pins s σ H Q I h
 refine PySem.W.methodCall_KW (pl:=pl) (bL (he pins s σ H _ I h) ?_) ht
 rintro u s1 ⟨x,H1,I1,rx,a,dx,fs,ex,ea,l,q⟩
 subst ex
 obtain rfl:u=Value.ref a:=rx
 refine kH I1 ea c hm l ?_
 exact PySem.W.callWith_K0 (first:=[.ref a]) I1.jN hm.kp (wY (us:=[.ref a]) (vs:=[.ref a]) F hr hb hd hx I1 (.cons rfl .nil) q)
structure Mk (K:PySem.W.Frag) (C f:Addr):Prop where
 makes:PySem.W.makesIn K C=true
 init:PySem.W.findIn K (.ref C) "__init__" = some (some (.ref f))
 fn:PySem.W.isFn K (.ref f)=true
 kp:PySem.W.keepIn K (.ref C)=true
theorem uN {pins:List (Addr×Obj)} {σ : St} {H:Hp} {s:Shared} {Q:VK} {us:List Value} {vs:List V} (M:Mk X.K C f) (F:dQ X.prog X.w X.K X.mg X.base CX k f fd ps sp) (hr:bK (k+1) X.A) (hb:Binds X.K fd ps ds) (hd:Vals fG ds)
  (hx:Passes CX X E) (I:Inv X pins σ H s) (r:Vals vs us)
  (h : ∀ x dx,H x=none->H dx=none->dx≠x->sp (.ref x::(vs++fG)) (upd (upd H dx (.own x)) x (.ins C dx [])) (λ v H2=>v = .aN/\Q (.ref x) H2) E) :
  wpAny (model X.prog X.w) X.A (call (.ref C) us) (EP X pins σ Q) X.xe s:=by
 have hq:=h (s.heap.objs.size+1) s.heap.objs.size (I.hok.fresh (Nat.le_succ _)) (I.hok.fresh (Nat.le_refl _)) (Nat.ne_of_lt (Nat.lt_succ_self _))
 have I2:=Inv.made (C:=C) I
 have r2:Vals (V.ref (s.heap.objs.size+1)::(vs++fG)) (Value.ref (s.heap.objs.size+1)::(us++ds)) := .cons rfl (r.append hd)
 have hl:(Value.ref (s.heap.objs.size+1)::us++ds).length=ps.length:=by
  have e:=r2.length
  rw [F.len _ _ _ _ hq] at e
  exact e.symm
 refine wpAny_call (Bd (f:=f) I.jN M.makes M.init (beq_iff_eq.mp M.fn) (codeAny_mono (F.run _ X.stack _ _ ⟨Value.ref (s.heap.objs.size+1)::us,[]⟩ (Value.ref (s.heap.objs.size+1)::(us++ds)) _ _ E (hr.make C us [])
  (I2.FL.make C us []) (hb _ (Value.ref (s.heap.objs.size+1)::us) I2.jN hl) r2 hq) λ r s' hq' => ?_))
 cases r with
 | error e=>exact hx pins σ _ _ e s' I2 hq'
 | ok fl =>
   cases fl with
   | ret u =>
     obtain ⟨v,H',I3,rv,ev,q3⟩:=I2.after hq'
     subst ev
     exact ⟨rv,⟨V.ref (s.heap.objs.size+1),H',I3,rfl,q3⟩⟩
   | next=>exact False.elim hq'
   | brk=>exact False.elim hq'
   | cont=>exact False.elim hq'
theorem Dz (M:Mk X.K C f) (F:dQ X.prog X.w X.K X.mg X.base CX k f fd ps sp) (hr:bK (k+1) X.A) (hg:Gl X x) (hm:X.mg x=some (.ref C)) (hb:Binds X.K fd ps ds) (hd:Vals fG ds) (hx:Passes CX X E)
  (ha:PA X (e::es) t) (hdb:(x == ("__debug__" : Str))=false:=by decide) (he:starEach (e::es) X.env=(false,eval e X.env)::starEach es X.env:=by rfl) (hpl:(backTo pos (starEach es X.env)).any (·.1)=false:=by rfl) :
  PE X (.Call (.Name x p) (e::es) [] pos) (nI C sp fG E t):=by
 intro pins s σ H Q I h
 refine wpAny_Call_Name_kw (gA I hg hm ?_ hdb)
 refine PySem.W.callWith_K (h₀ := X.base) I.ok.mod.Ft M.kp (bL (ha pos pins s σ H _ I h) λ us s1 ⟨vs,H1,I1,r,q⟩=>⟨I1.jN,?_⟩) he hpl
 exact uN M F hr hb hd hx I1 r q
theorem Bh (M:Mk X.K C f) (F:dQ X.prog X.w X.K X.mg X.base CX k f fd ps sp) (hr:bK (k+1) X.A) (hg:Gl X x) (hm:X.mg x=some (.ref C)) (hb:Binds X.K fd ps ds) (hd:Vals fG ds) (hx:Passes CX X E)
  (hdb:(x == ("__debug__" : Str))=false:=by decide):PE X (.Call (.Name x p) [] [] pos) (nI C sp fG E qt):=by
 intro pins s σ H Q I h
 refine wpAny_Call_Name_kw (gA I hg hm ?_ hdb)
 exact PySem.W.callWith_K0 I.jN M.kp (uN (us:=[]) M F hr hb hd hx I .nil h)
end
section
variable {X:Cx} {CX:yo} {k:Nat} {f C:Addr} {fd:FuncData} {ps ks:List Str} {sp:Sp} {E:XK} {x m:Str} {p pos apos kpos:Pos} {e o:Expr} {es:List Expr} {kws:List Keyword} {te ta:TE} {t tk:TA} {nm:Option Str}
variable {g:List Value->List Value->List Value} {gV:List V->List V->List V}
end
structure b6 (N P:List Str) (sc:Scope):Prop where
 kind:sc.kind = .function
 co:sc.isCoroutine=false
 gen:sc.isGenerator=false
 nd:N.Nodup
 pre:N.take P.length=P
 par : ∀ x∈P,sc.names.lookup x=some .local\/sc.names.lookup x=some .cell
 FN : ∀ y∈sc.names,y.2 ≠ .free
theorem q8 {kindOf:Str->Option NameKind} {x:Str} : ∀ {binds:List (Str×Value)} {m:Str->Option Value},(∀ v,(x,v) ∉ binds)->bindL kindOf binds m x=m x
 | [],_,_=>rfl
 | (n,v)::r,m,h=>by
   unfold bindL
   rw [q8 λ w hw=>h w (List.mem_cons_of_mem _ hw)]
   split
   ·have:x≠n:=by rintro rfl;exact h v List.mem_cons_self
    simp [this]
   ·rfl
theorem ri {kindOf:Str->Option NameKind} {x:Str} : ∀ {binds:List (Str×Value)} {m:Str->Option Value},(∀ v,(x,v) ∉ binds)->bindC kindOf binds m x=m x
 | [],_,_=>rfl
 | (n,v)::r,m,h=>by
   unfold bindC
   rw [ri λ w hw=>h w (List.mem_cons_of_mem _ hw)]
   split
   ·rfl
   ·have:x≠n:=by rintro rfl;exact h v List.mem_cons_self
    simp [this]
theorem rj {kindOf:Str->Option NameKind} {x:Str} {v:Value} : ∀ {P:List Str} {vs:List Value} {i:Nat} {m:Str->Option Value},P.Nodup->P[i]? = some x->vs[i]? = some v->kindOf x=some .local →
  bindL kindOf (P.zip vs) m x=some v
 | [],_,_,_,_,h,_,_=>by simp at h
 | _::_,[],_,_,_,_,h,_=>by simp at h
 | p::P,w::vs,0,m,nd,h1,h2,hk=>by
   simp at h1 h2;subst h1;subst h2
   show bindL kindOf ((p,w)::P.zip vs) m p=_
   unfold bindL
   rw [q8 λ v hv=>(List.nodup_cons.mp nd).1 (List.of_mem_zip hv).1,if_pos hk]
   simp
 | p::P,w::vs,i+1,m,nd,h1,h2,hk=>by
   show bindL kindOf ((p,w)::P.zip vs) m x=_
   unfold bindL
   exact rj (i:=i) (List.nodup_cons.mp nd).2 (by simpa using h1) (by simpa using h2) hk
theorem rq {kindOf:Str->Option NameKind} {x:Str} {v:Value} : ∀ {P:List Str} {vs:List Value} {i:Nat} {m:Str->Option Value},P.Nodup->P[i]? = some x->vs[i]? = some v->kindOf x≠some .local →
  bindC kindOf (P.zip vs) m x=some v
 | [],_,_,_,_,h,_,_=>by simp at h
 | _::_,[],_,_,_,_,h,_=>by simp at h
 | p::P,w::vs,0,m,nd,h1,h2,hk=>by
   simp at h1 h2;subst h1;subst h2
   show bindC kindOf ((p,w)::P.zip vs) m p=_
   unfold bindC
   rw [ri λ v hv=>(List.nodup_cons.mp nd).1 (List.of_mem_zip hv).1,if_neg hk]
   simp
 | p::P,w::vs,i+1,m,nd,h1,h2,hk=>by
   show bindC kindOf ((p,w)::P.zip vs) m x=_
   unfold bindC
   exact rq (i:=i) (List.nodup_cons.mp nd).2 (by simpa using h1) (by simpa using h2) hk
def start (N:List Str) (vs:List V):St:=vs.map some++List.replicate (N.length - vs.length) none
def nY (CX:yo) (P:Program) (w:World) (K:PySem.W.Frag) (mg:Str->Option Value) (base:Heap) (N:List Str) (qual:Str) (scope:Scope) (f:Addr) (cd:Value) (A:Around) (outer:List Env) (s:Shared) (H:Hp) (E:XK):Cx where
 prog:=P
 w:=w
 K:=K
 mg:=mg
 base:=base
 A:=A.deeper (envOfC qual scope s.heap.objs.size f cd)
 N:=N
 s₀ := s
 H₀ := H
 env:=envOfC qual scope s.heap.objs.size f cd
 outer:=outer
 stack:=envOfC qual scope s.heap.objs.size f cd::outer
 ex:=[]
 calm:=true
 fn:=λ _=>true
 pn:=[]
 xe:=λ e s'=>wpAny (model P w) (A.deeper (envOfC qual scope s.heap.objs.size f cd)) (leaving (envOfC qual scope s.heap.objs.size f cd) e) (λ _ s''=>CX outer H s E e s'') (λ e' s''=>CX outer H s E e' s'') s'
theorem uO {sc:Scope} {n:Nat} {x:Str} (h:sc.names.lookup x=some .cell) : ∃ c,(cellsFrom n sc.names []).lookup x=some c:=by
 have q:=PySem.W.cellsFrom_some sc.names n [] (.inl h)
 exact Option.isSome_iff_exists.mp q
theorem zQ {CX:yo} {P:Program} {w:World} {K:PySem.W.Frag} {mg:Str->Option Value} {base:Heap} {N ps:List Str} {qual:Str} {scope:Scope} {f:Addr} {cd:Value} {A:Around} {outer:List Env} {s s1:Shared} {H:Hp} {E:XK} {us:List Value} {vs:List V}
  (S:b6 N ps scope) (hd:A.handled=none) (e0:wX P w K mg base A outer s H) (hl:vs.length=ps.length) (r:Vals vs us)
  (x:InCallC s s.heap.objs.size (bindL (envOfC qual scope s.heap.objs.size f cd).kindOf (ps.zip us) λ _=>none) (cellsFrom (s.heap.objs.size+1) scope.names []) (bindC (envOfC qual scope s.heap.objs.size f cd).kindOf (ps.zip us) λ _=>none) s1) :
  Inv (nY CX P w K mg base N qual scope f cd A outer s H E) [] (start N vs) H s1:=by
 have hpl:ps.length<=N.length:=by have:=congrArg List.length S.pre;rw [List.length_take] at this;omega
 obtain ⟨h1,tk,rfl,hk⟩:=x.done
 have HL : ∀ b:Addr,b ∉ (nY CX P w K mg base N qual scope f cd A outer s H E).ex:=λ b z=>absurd (show b∈([]:List Addr) from z) (by simp)
 refine ⟨⟨e0.mod,S.kind,rfl,rfl,Nat.le_refl _,λ y z c h1 h2 => ?_,λ y hy => ?_,λ y c _ h => ?_,λ _=>hd,Around.frames_deeper e0.frames,.inr ⟨rfl,rfl⟩,λ b z=>absurd z (HL b),e0.bs,e0.AN,λ b _ _=>HL b,λ b z=>absurd z (HL b),e0.kZ,e0.Dn⟩,
  rfl,e0.bare,Un.kept hk,⟨_,x.toInCall.ns,λ i y v h1 h2 h3 => ?_⟩,λ y c h=>⟨_,x.cell y c h⟩,e0.hok.fresh (Nat.le_refl _),λ y c h => ?_,λ p hp=>absurd (show p∈([]:List (Addr×Obj)) from hp) (by simp),e0.hok.kept hk,?_⟩
 ·exact name_of_addr x.apart (PySem.mem_of_lookup h1) (PySem.mem_of_lookup h2)
 ·have hy:scope.names.lookup y=some .cell\/scope.names.lookup y=some .free:=hy
  rcases hy with hy | hy
  ·exact uO hy
  ·exact absurd rfl (S.FN _ (PySem.mem_of_lookup hy))
 ·exact Nat.le_of_lt (x.above y c (PySem.mem_of_lookup h))
 ·have hi:i < vs.length:=by
   unfold start at h2
   by_cases hi:i < vs.length
   ·exact hi
   ·rw [List.getElem?_append_right (by simpa using hi)] at h2
    rw [List.getElem?_replicate] at h2
    split at h2 <;> cases h2
  have ha:vs[i]? = some v:=by
   unfold start at h2
   rw [List.getElem?_append_left (by simpa using hi),List.getElem?_map] at h2
   cases e:vs[i]? with
   | none=>rw [e] at h2;cases h2
   | some a=>rw [e] at h2;cases h2;rfl
  obtain ⟨u,hu,rv⟩:=r.get ha
  have hp:ps[i]? = some y:=by
   rw [<-S.pre,List.getElem?_take_of_lt (by omega)];exact h1
  have MV:ps.Nodup:=by rw [<-S.pre];exact S.nd.sublist (List.take_sublist _ _)
  refine ⟨u,rv,?_⟩
  rcases S.par y (List.mem_of_getElem? hp) with k | k
  ·exact .inl ⟨k,rj MV hp hu k⟩
  ·obtain ⟨c,e⟩:=uO (n:=s.heap.objs.size+1) k
   refine .inr ⟨.inl k,c,e,?_⟩
   have q:=x.cell y c e
   rw [rq MV hp hu (by show scope.names.lookup y≠_;rw [k];decide)] at q
   exact q
 ·exact e0.hok.fresh (Nat.le_of_lt (x.above y c (PySem.mem_of_lookup h)))
 ·unfold start
  show _=N.length
  rw [List.length_append,List.length_map,List.length_replicate]
  omega
theorem oO {CX:yo} {P:Program} {w:World} {K:PySem.W.Frag} {mg:Str->Option Value} {base:Heap} {k:Nat} {f:Addr} {name qual:Str} {params:Arguments} {body:List Stmt} {scope:Scope} {dV kV doc pm cdv ct oc:Value} {an od:Option Addr}
  {osl:Array (Option Value)} {N ps:List Str} {sp:Sp} (lk:K.lookup f=some ⟨oc,od,.func (PySem.W.fnOf name qual params body scope dV kV doc pm an cdv ct),osl⟩) (hcd:PySem.W.codeIn K cdv qual=true) (S:b6 N ps scope)
  (len : ∀ vs H Q E,sp vs H Q E->vs.length=ps.length)
  (hbody : ∀ (A:Around) (outer:List Env) (s:Shared) (H:Hp) (vs:List V) (Q:VK) (E:XK),bK k (A.deeper (envOfC qual scope s.heap.objs.size f cdv))->sp vs H Q E →
   ∃ t,qm (nY CX P w K mg base N qual scope f cdv A outer s H E) body t/\t { nx:=λ _ H'=>Q .aN H',rt:=Q } (start N vs) H) :
  (dQ P w K mg base) CX (k+1) f (PySem.W.fnOf name qual params body scope dV kV doc pm an cdv ct) ps sp:=by
 refine ⟨len,λ A outer s H args us vs Q E hr e0 hb r uz => ?_⟩
 have hl:=len _ _ _ _ uz
 have KX:K.In s.heap:=e0.mod.Ft.keeps λ b o e=>(e0.bs b o e).1
 have lim:s.heap.NoLimit:=e0.mod.nolimit.keeps λ b o e=>(e0.bs b o e).1
 have hkind : ∀ y∈ps.zip us,scope.names.lookup y.1=some .local\/(scope.names.lookup y.1=some .cell/\((cellsFrom (s.heap.objs.size+1) scope.names []).lookup y.1).isSome=true):=λ ⟨n,v⟩ hy=>by
  rcases S.par n (List.of_mem_zip hy).1 with q | q
  ·exact .inl q
  ·exact .inr ⟨q,PySem.W.cellsFrom_some _ _ _ (.inl q)⟩
 refine codeAny_call_function hr.depth (KX _ _ lk) rfl S.co S.gen rfl (PySem.W.codeRec_of KX hcd) (hb _ _ _ _ ?_)
 refine wpAny_newFunctionEnv_cells S.kind hkind λ env he s1 x => ?_
 subst he
 refine ⟨lim.keeps x.toInCall.keep,codeAny_func ?_⟩
 obtain ⟨t,ht,hq⟩:=hbody A outer s H vs Q E (hr.deeper _) uz
 have I:Inv (nY CX P w K mg base N qual scope f cdv A outer s H E) [] (start N vs) H s1:=zQ S hr.hd e0 hl r x
 refine wpAny_mono (ht [] s1 (start N vs) H _ I hq) (λ fl s' hs => ?_) λ e s' hs=>hs
 have fin : ∀ {σ':St} {H':Hp} {v:V} {u:Value},Inv (nY CX P w K mg base N qual scope f cdv A outer s H E) [] σ' H' s'->RelV v u->Q v H'->CE outer P w H s Q u s' :=
  fun {σ' H' v u} J rv q=>⟨v,H',J.os,J.bare,J.base,J.hok,rv,q⟩
 cases fl with
 | ret u =>
   obtain ⟨v,σ',H',J,rv,q⟩:=hs
   exact fin J rv q
 | next =>
   obtain ⟨σ',H',J,q⟩:=hs
   exact fin (v:=V.aN) (u:=Value.none) J rfl q
 | brk =>
   obtain ⟨_,_,_,q⟩:=hs
   exact False.elim q
 | cont =>
   obtain ⟨_,_,_,q⟩:=hs
   exact False.elim q
section
variable {X:Cx} {x:Str} {p pos:Pos} {e:Expr} {es:List Expr} {t:TA} {id T:String} {r:List V->Hp->VK->Prop}
def FO (r:List V->Hp->VK->Prop) (t:TA):TE:=fun σ H Q=>t σ H λ vs H1=>r vs H1 Q
theorem aD (hc:eT X (.builtin id) r) (hg:Gl X x) (hm:X.mg x=none) (hv:bootBuiltins x=some (.builtin id)) (ha:PA X (e::es) t) (hn:x ≠ "__name__" := by decide) (hdb:(x == ("__debug__" : Str))=false:=by decide)
  (he:starEach (e::es) X.env=(false,eval e X.env)::starEach es X.env:=by rfl) (hpl:(backTo pos (starEach es X.env)).any (·.1)=false:=by rfl):PE X (.Call (.Name x p) (e::es) [] pos) (FO r t):=by
 intro pins s σ H Q I h
 refine wpAny_Call_Name_kw (mG I hg hm hv ?_ hn hdb)
 exact PyProof.Rows.callWith_builtin1 (bL (ha pos pins s σ H _ I h) λ us s1 ⟨vs,H1,I1,r1,q1⟩=>hc pins s1 σ H1 vs us Q I1 r1 q1) he hpl
theorem dU (hc:eT X (.type T) r) (hg:Gl X x) (hm:X.mg x=none) (hv:bootBuiltins x=some (.type T)) (ha:PA X (e::es) t) (hn:x ≠ "__name__" := by decide) (hdb:(x == ("__debug__" : Str))=false:=by decide)
  (he:starEach (e::es) X.env=(false,eval e X.env)::starEach es X.env:=by rfl) (hpl:(backTo pos (starEach es X.env)).any (·.1)=false:=by rfl):PE X (.Call (.Name x p) (e::es) [] pos) (FO r t):=by
 intro pins s σ H Q I h
 refine wpAny_Call_Name_kw (mG I hg hm hv ?_ hn hdb)
 exact PyProof.Rows.callWith_type1 (bL (ha pos pins s σ H _ I h) λ us s1 ⟨vs,H1,I1,r1,q1⟩=>hc pins s1 σ H1 vs us Q I1 r1 q1) he hpl
end
section
variable {κ : Type} [DecidableEq κ]
def bN (kvs:List (κ × V)) (k : κ):Option V:=(kvs.find? λ kv=>decide (kv.1=k)).map (·.2)
def putK (kvs:List (κ × V)) (k : κ) (v:V):List (κ × V) :=
 if (kvs.any λ kv=>decide (kv.1=k))=true then kvs.map (λ kv=>if kv.1=k then (kv.1,v) else kv) else kvs++[(k,v)]
def bR (kvs:List (κ × V)) (k : κ):List (κ × V):=kvs.filter λ kv=>decide (kv.1≠k)
theorem cR {p : κ × V} {r:List (κ × V)} {k : κ} (e:p.1=k):bN (p::r) k=some p.2:=by simp [bN,List.find?_cons,e]
theorem bO {p : κ × V} {r:List (κ × V)} {k : κ} (e : ¬ p.1=k):bN (p::r) k=bN r k:=by simp [bN,List.find?_cons,e]
theorem dH (k : κ) : ∀ kvs:List (κ × V),(kvs.any λ kv=>decide (kv.1=k))=(bN kvs k).isSome
 | []=>rfl
 | p::r=>by
   rw [List.any_cons]
   by_cases e:p.1=k
   ·simp only [cR e,decide_eq_true e,Bool.true_or,Option.isSome_some]
   ·rw [bO e,decide_eq_false e,Bool.false_or];exact dH k r
theorem iG (kvs:List (κ × V)) (k : κ) (v:V):(putK kvs k v).length<=kvs.length+1:=by
 unfold putK
 split
 ·rw [List.length_map];omega
 ·rw [List.length_append,List.length_cons,List.length_nil];omega
theorem gy.jx {o:Option V} {u:Option Value} (r:gy o u):o.isSome=u.isSome:=by
 cases o with
 | none=>cases u with
   | none=>rfl
   | some _=>exact (show False from r).elim
 | some _=>cases u with
   | none=>exact (show False from r).elim
   | some _=>rfl
theorem gy.getD {o:Option V} {u:Option Value} {d:V} {d':Value} (r:gy o u) (rd:RelV d d'):RelV (o.getD d) (u.getD d'):=by
 cases o with
 | none=>cases u with
   | none=>exact rd
   | some _=>exact (show False from r).elim
 | some _=>cases u with
   | none=>exact (show False from r).elim
   | some _=>exact r
theorem KV.val {kvs:List (κ × V)} {vs:List (κ × Value)} (r:KV kvs vs) (k : κ):gy (bN kvs k) (valueAt vs k):=by
 unfold KV at r
 induction r with
 | nil=>exact True.intro
 | @cons p q ps qs h t ih =>
   obtain ⟨h1,h2⟩:=h
   by_cases e:p.1=k
   ·have e':q.1=k:=h1.symm.trans e
    have b:valueAt (q::qs) k=some q.2:=by simp [valueAt,List.find?_cons,e']
    rw [cR e,b];exact h2
   ·have e' : ¬ q.1=k:=λ z=>e (h1.trans z)
    have b:valueAt (q::qs) k=valueAt qs k:=by simp [valueAt,List.find?_cons,e']
    rw [bO e,b];exact ih
theorem KV.any {kvs:List (κ × V)} {vs:List (κ × Value)} (r:KV kvs vs) (k : κ):(kvs.any λ kv=>decide (kv.1=k))=vs.any λ kv=>decide (kv.1=k):=by
 unfold KV at r
 induction r with
 | nil=>rfl
 | cons h t ih=>rw [List.any_cons,List.any_cons,ih,h.1]
theorem KV.repl {kvs:List (κ × V)} {vs:List (κ × Value)} (r:KV kvs vs) (k : κ) {y:V} {u:Value} (ry:RelV y u) :
  KV (kvs.map λ kv=>if kv.1=k then (kv.1,y) else kv) (vs.map λ kv=>if kv.1=k then (kv.1,u) else kv):=by
 unfold KV at r ⊢
 induction r with
 | nil=>exact .nil
 | @cons p q ps qs h t ih =>
   rw [List.map_cons,List.map_cons]
   refine .cons ?_ ih
   obtain ⟨h1,h2⟩:=h
   by_cases e:p.1=k
   ·rw [if_pos e,if_pos (h1.symm.trans e)];exact ⟨h1,ry⟩
   ·rw [if_neg e,if_neg (λ z=>e (h1.trans z))];exact ⟨h1,h2⟩
theorem KV.put {kvs:List (κ × V)} {vs:List (κ × Value)} (r:KV kvs vs) (k : κ) {y:V} {u:Value} (ry:RelV y u):KV (putK kvs k y) (stored vs k u):=by
 unfold putK stored
 rw [r.any k]
 by_cases e:(vs.any λ kv=>decide (kv.1=k))=true
 ·rw [if_pos e,if_pos e];exact r.repl k ry
 ·rw [if_neg e,if_neg e];exact Paired.snoc r ⟨rfl,ry⟩
theorem KV.drop {kvs:List (κ × V)} {vs:List (κ × Value)} (r:KV kvs vs) (k : κ):KV (bR kvs k) (without vs k):=by
 unfold KV at r ⊢
 unfold bR without
 induction r with
 | nil=>exact .nil
 | @cons p q ps qs h t ih =>
   obtain ⟨h1,h2⟩:=h
   rw [List.filter_cons,List.filter_cons]
   by_cases e:p.1=k
   ·have a : ¬ decide (p.1≠k)=true:=by simp [e]
    have b : ¬ decide (q.1≠k)=true:=by simp [h1.symm.trans e]
    rw [if_neg a,if_neg b];exact ih
   ·have e' : ¬ q.1=k:=λ z=>e (h1.trans z)
    have a:decide (p.1≠k)=true:=by simp [e]
    have b:decide (q.1≠k)=true:=by simp [e']
    rw [if_pos a,if_pos b];exact .cons ⟨h1,h2⟩ ih
theorem KV.keys {kvs:List (κ × V)} {vs:List (κ × Value)} (r:KV kvs vs):kvs.map (·.1)=vs.map (·.1):=by
 unfold KV at r
 induction r with
 | nil=>rfl
 | cons h t ih=>rw [List.map_cons,List.map_cons,ih,h.1]
theorem KV.length {kvs:List (κ × V)} {vs:List (κ × Value)} (r:KV kvs vs):kvs.length=vs.length:=Paired.length r
theorem oQ (kvs:List (κ × V)) (k : κ):(bR kvs k).length<=kvs.length:=List.length_filter_le _ _
end
theorem oR {P:Program} {w:World} {k:Key} {u:Value} (r:RelV (kV k) u):(br P w).is k u=true:=by
 cases k with
 | inl i=>obtain ⟨t,e⟩:=(show ∃ t,u=Value.int i t from r);subst e;exact uC P w i t
 | inr x=>obtain ⟨t,e⟩:=(show ∃ t,u=Value.str x t from r);subst e;exact uD P w x t
theorem rz {P:Program} {w:World} : ∀ {ks:List Key} {us:List Value},Vals (ks.map kV) us->ItemsAre (br P w) ks us
 | [],_,r=>by rw [List.map_nil] at r;cases r;exact .nil
 | k::ks,_,r=>by
   rw [List.map_cons] at r
   cases r with
   | cons h t=>exact .cons (oR h) (rz t)
abbrev KT (H:Hp):List (List Key×V)->List (List Key×Addr×Value)->Prop:=Paired λ p q=>p.1=q.1/\H q.2.1=some (.tup (p.1.map kV))/\RelV p.2 q.2.2
theorem KT.val {H:Hp} {kvs:List (List Key×V)} {xs:List (List Key×Addr×Value)} (r:KT H kvs xs) (k:List Key):gy (bN kvs k) ((atKey xs k).map (·.2)):=by
 induction r with
 | nil=>exact True.intro
 | @cons p q ps qs h t ih =>
   obtain ⟨h1,_,h2⟩:=h
   by_cases e:p.1=k
   ·have e':q.1=k:=h1.symm.trans e
    have b:atKey (q::qs) k=some q.2:=by simp [atKey,List.find?_cons,e']
    rw [cR e,b];exact h2
   ·have e' : ¬ q.1=k:=λ z=>e (h1.trans z)
    have b:atKey (q::qs) k=atKey qs k:=by simp [atKey,List.find?_cons,e']
    rw [bO e,b];exact ih
theorem KT.repl {H:Hp} {kvs:List (List Key×V)} {xs:List (List Key×Addr×Value)} (r:KT H kvs xs) (k:List Key) {y:V} {u:Value} (ry:RelV y u) :
  KT H (kvs.map λ kv=>if kv.1=k then (kv.1,y) else kv) (xs.map (putAt k u)):=by
 induction r with
 | nil=>exact .nil
 | @cons p q ps qs h t ih =>
   rw [List.map_cons,List.map_cons]
   refine .cons ?_ ih
   obtain ⟨h1,h2,h3⟩:=h
   unfold putAt
   by_cases e:p.1=k
   ·rw [if_pos e,if_pos (h1.symm.trans e)];exact ⟨h1,h2,ry⟩
   ·rw [if_neg e,if_neg (λ z=>e (h1.trans z))];exact ⟨h1,h2,h3⟩
theorem KT.put {H:Hp} {kvs:List (List Key×V)} {xs:List (List Key×Addr×Value)} (r:KT H kvs xs) (k:List Key) {b:Addr} {y:V} {u:Value} (hb:H b=some (.tup (k.map kV))) (ry:RelV y u) :
  KT H (putK kvs k y) (storedH xs k b u):=by
 have e:(kvs.any λ kv=>decide (kv.1=k))=(atKey xs k).isSome:=by
  rw [dH,(r.val k).jx,Option.isSome_map]
 unfold putK storedH
 rw [e]
 by_cases q:(atKey xs k).isSome=true
 ·rw [if_pos q,if_pos q];exact r.repl k ry
 ·rw [if_neg q,if_neg q];exact Paired.snoc r ⟨rfl,hb,ry⟩
theorem KT.keeps {H H':Hp} {kvs:List (List Key×V)} {xs:List (List Key×Addr×Value)} (r:KT H kvs xs) (ht : ∀ b ys,H b=some (.tup ys)->H' b=some (.tup ys)):KT H' kvs xs :=
 Paired.Fp r λ _ _ z=>⟨z.1,ht _ _ z.2.1,z.2.2⟩
section
variable {P:Program} {w:World} {H:Hp} {h:Heap} {a:Addr}
theorem EL {u:HO} (ok:ic P w H h) (e:Rd H a u):bx P w H h a u:=e.ok ok
theorem rA {kvs:List (Key×V)} (ok:ic P w H h) (e:Rd H a (.dK kvs)):kvs.length<=sizeLine/\(a == sysModules)=false ∧ ∃ vs,KV kvs vs/\h.DictOf (br P w) a vs :=
 show bx P w H h a (.dK kvs) from EL ok e
theorem rB {kvs:List (Key×V)} (ok:ic P w H h) (e:H a=some (.dK kvs)):kvs.length<=sizeLine/\(a == sysModules)=false ∧ ∃ vs,KV kvs vs/\h.DictOf (br P w) a vs:=rA ok (.inl e)
theorem su {ks:List Key} (ok:ic P w H h) (e:H a=some (.tup (ks.map kV))):(tupleKind (br P w)).is h ks a:=by
 obtain ⟨_,its,r,o,h1,h2,n,h3⟩:=(show bx P w H h a (.tup (ks.map kV)) from ok a _ e)
 exact ⟨o,its.toArray,n,h1,h2,h3,by simpa using rz r⟩
theorem uP {kvs:List (List Key×V)} (ok:ic P w H h) (e:Rd H a (.dT kvs)):kvs.length<=sizeLine/\(a == sysModules)=false ∧
  ∃ xs,KT H kvs xs/\h.DictOfH (tupleKind (br P w)) a xs:=by
 obtain ⟨z,y,xs,r,o,es,ep,h1,h2,h3,h4,h5⟩:=(show bx P w H h a (.dT kvs) from EL ok e)
 refine ⟨z,y,xs,r,o,es,ep,h1,h2,h3,h4,λ x hx => ?_,h5⟩
 have all : ∀ {l:List (List Key×V)} {m:List (List Key×Addr×Value)},KT H l m->∀ x∈m,(tupleKind (br P w)).is h x.1 x.2.1:=by
  intro l m q
  induction q with
  | nil=>intro x hx;exact nomatch hx
  | @cons p q ps qs hq t ih =>
    intro x hx
    rcases List.mem_cons.mp hx with e | hx
    ·subst e
     exact su ok (by rw [<-hq.1];exact hq.2.1)
    ·exact ih x hx
 exact all r x hx
theorem HM {kvs:List (List Key×V)} (ok:ic P w H h) (e:H a=some (.dT kvs)):kvs.length<=sizeLine/\(a == sysModules)=false ∧
  ∃ xs,KT H kvs xs/\h.DictOfH (tupleKind (br P w)) a xs:=uP ok (.inl e)
end
def fO (H:Hp) (a:Addr) (y:V) (r:Option V):Prop :=
 (∃ kvs k,Rd H a (.dK kvs)/\y=kV k/\r=bN kvs k) ∨ ∃ kvs k b,Rd H a (.dT kvs)/\y = .ref b/\H b=some (.tup (k.map kV))/\r=bN kvs k
def lu (H:Hp) (a:Addr) (y v:V) (H':Hp):Prop :=
 (∃ kvs k,H a=some (.dK kvs)/\y=kV k/\kvs.length < sizeLine/\H' = upd H a (.dK (putK kvs k v))) ∨
 ∃ kvs k b,H a=some (.dT kvs)/\y = .ref b/\H b=some (.tup (k.map kV))/\kvs.length < sizeLine/\H' = upd H a (.dT (putK kvs k v))
theorem fO.k {H:Hp} {a:Addr} {kvs:List (Key×V)} {k:Key} (e:H a=some (.dK kvs)):fO H a (kV k) (bN kvs k) := .inl ⟨kvs,k,.inl e,rfl,rfl⟩
theorem fO.t {H:Hp} {a b:Addr} {kvs:List (List Key×V)} {k:List Key} (e:H a=some (.dT kvs)) (eb:H b=some (.tup (k.map kV))):fO H a (.ref b) (bN kvs k) := .inr ⟨kvs,k,b,.inl e,rfl,eb,rfl⟩
theorem lu.k {H:Hp} {a:Addr} {kvs:List (Key×V)} {k:Key} {v:V} (e:H a=some (.dK kvs)) (hl:kvs.length < sizeLine):lu H a (kV k) v (upd H a (.dK (putK kvs k v))) := .inl ⟨kvs,k,e,rfl,hl,rfl⟩
theorem lu.t {H:Hp} {a b:Addr} {kvs:List (List Key×V)} {k:List Key} {v:V} (e:H a=some (.dT kvs)) (eb:H b=some (.tup (k.map kV))) (hl:kvs.length < sizeLine) :
  lu H a (.ref b) v (upd H a (.dT (putK kvs k v))) := .inr ⟨kvs,k,b,e,rfl,eb,hl,rfl⟩
section
variable {X:Cx} {pins:List (Addr×Obj)} {σ : St} {H:Hp} {s:Shared} {a:Addr} {y v:V} {u r:Value} {o:Option V} {A:Around} {E:Value->Shared->Prop}
theorem Inv.big (I:Inv X pins σ H s):sysModules < s.heap.objs.size:=by
 have h:mainGlobals < s.heap.objs.size:=(I.mod.glob.keeps I.bk).lt
 exact Nat.lt_trans (by decide) h
theorem zR {Q:Value->Shared->Prop} (hu:A.units+1 < cLine) (I:Inv X pins σ H s) (g:fO H a y (some v)) (ry:RelV y u) (h : ∀ w' s',Inv X pins σ H s'->RelV v w'->Q w' s') :
  wpAny (model X.prog X.w) A (getItem (.ref a) u) Q E s:=by
 rcases g with ⟨kvs,k,e,ey,l⟩ | ⟨kvs,k,b,e,ey,eb,l⟩
 ·subst ey
  obtain ⟨z,hd,vs,rel,dd⟩:=rA I.hok e
  obtain ⟨w',hw,rw'⟩:=gy.some_of (v:=v) (o:=valueAt vs k) (by rw [l];exact rel.val k)
  exact wpAny_getItem_of (oR ry) dd.mapOf hw (h w' _ (I.tok _) rw')
 ·subst ey
  cases (show u=Value.ref b from ry)
  obtain ⟨z,hd,xs,rel,dd⟩:=uP I.hok e
  obtain ⟨w',hw,rw'⟩:=gy.some_of (v:=v) (o:=(atKey xs k).map (·.2)) (by rw [l];exact rel.val k)
  obtain ⟨p,hp,hp2⟩:=Option.map_eq_some_iff.mp hw
  refine wpAny_getItem_heap (tupleKind_room_in1 hu) (su I.hok eb) dd hp ?_
  rw [hp2]
  exact h w' _ (I.tok _) rw'
theorem DA {Q:Value->Shared->Prop} (hu:A.units+1 < cLine) (I:Inv X pins σ H s) (g:fO H a y o) (ry:RelV y u) (h : ∀ s',Inv X pins σ H s'->Q (.bool (!o.isSome)) s') :
  wpAny (model X.prog X.w) A (compareOp .NotIn u (.ref a)) Q E s:=by
 rcases g with ⟨kvs,k,e,ey,l⟩ | ⟨kvs,k,b,e,ey,eb,l⟩
 ·subst ey
  obtain ⟨z,hd,vs,rel,dd⟩:=rA I.hok e
  refine wpAny_notIn_of (oR ry) hd dd.mapOf ?_
  rw [<-(rel.val k).jx,<-l]
  exact h _ (I.tok _)
 ·subst ey
  cases (show u=Value.ref b from ry)
  obtain ⟨z,hd,xs,rel,dd⟩:=uP I.hok e
  refine wpAny_notIn_heap (tupleKind_room_in1 hu) (su I.hok eb) hd dd ?_
  have q:=(rel.val k).jx
  rw [Option.isSome_map] at q
  rw [<-q,<-l]
  exact h _ (I.tok _)
theorem ly {h':Heap} {t':Nat} {ob:HO} (I:Inv X pins σ H s) (mu:Hw (H a)) (hs:Heap.SameBut a s.heap h') (he : ∃ q,h'.get? a=some q) (new:bx X.prog X.w (upd H a ob) h' a ob) :
  Inv X pins σ (upd H a ob) { s with heap:=h',toks:=t' } :=
 I.write (x:=a) (e:=a) mu (.inl rfl) (λ b q hb z=>(hs.2 b hb).trans z) he new
theorem sy {P:Program} {w:World} {H':Hp} {h':Heap} {kvs:List (Key×V)} {vs:List (Key×Value)} (z:kvs.length<=sizeLine) (hd:(a == sysModules)=false) (rel:KV kvs vs) (dd:h'.DictOf (br P w) a vs) :
  bx P w H' h' a (.dK kvs):=⟨z,hd,vs,rel,dd⟩
theorem zS {H':Hp} {Q:Unit->Shared->Prop} (hu:A.units+1 < cLine) (I:Inv X pins σ H s) (g:lu H a y v H') (ry:RelV y u) (rv:RelV v r) (h : ∀ s',Inv X pins σ H' s'->Q () s') :
  wpAny (model X.prog X.w) A (setItem (.ref a) u r) Q E s:=by
 rcases g with ⟨kvs,k,e,ey,l,eH⟩ | ⟨kvs,k,b,e,ey,eb,l,eH⟩
 ·subst ey eH
  obtain ⟨z,hd,vs,rel,dd⟩:=rB I.hok e
  have hz:vs.length<=sizeLine:=by rw [<-rel.length];exact z
  have hl:(putK kvs k v).length<=sizeLine:=by have:=iG kvs k v;omega
  refine wpAny_setItem_pairs (hsz:=hz) (oR ry) dd λ h' zT hs=>h _ ?_
  have he : ∃ q,h'.get? a=some q:=let ⟨q,_,_,hq,_⟩:=zT; ⟨q,hq⟩
  exact ly I (by rw [e];exact True.intro) hs he (sy hl hd (rel.put k rv) zT)
 ·subst ey eH
  cases (show u=Value.ref b from ry)
  obtain ⟨z,hd,xs,rel,dd⟩:=HM I.hok e
  have hz:xs.length<=sizeLine:=by rw [<-Paired.length rel];exact z
  have hl:(putK kvs k v).length<=sizeLine:=by have:=iG kvs k v;omega
  refine wpAny_setItem_heap (hsz:=hz) (tupleKind_room_in1 hu) (su I.hok eb) dd λ h' zT hs=>h _ ?_
  obtain ⟨q,es,ep,hq,h2,h3,h4,_,h5⟩:=zT
  refine ly I (by rw [e];exact True.intro) hs ⟨q,hq⟩ ⟨hl,hd,_,(rel.put k eb rv).keeps λ c ys ec => ?_,q,es,ep,hq,h2,h3,h4,h5⟩
  rw [aQ (Hv ec e (λ z=>nomatch z))]
  exact ec
end
section
variable {X:Cx} {pins:List (Addr×Obj)} {σ : St} {H:Hp} {s:Shared} {a:Addr} {kvs:List (Key×V)} {k:Key} {u:Value} {A:Around} {E:Value->Shared->Prop}
theorem G1 {Q:Unit->Shared->Prop} (I:Inv X pins σ H s) (e:H a=some (.dK kvs)) (ry:RelV (kV k) u) (l:(bN kvs k).isSome=true) (h : ∀ s',Inv X pins σ (upd H a (.dK (bR kvs k))) s'->Q () s') :
  wpAny (model X.prog X.w) A (delItem (.ref a) u) Q E s:=by
 obtain ⟨z,hd,vs,rel,dd⟩:=rB I.hok e
 refine wpAny_delItem_slot dd.typeIs (by decide) PySem.F.slot_dict_delitem
  (call_meetsIn PySem.F.slot_dict_delitem dd.typeIs PySem.F.entry_dict_delitem (PySem.F.args_dict_delitem_2 _ _) (meets_dict_delitem_pairs (br X.prog X.w) a (oR ry)) ⟨vs,dd,by rw [<-rel.length];exact z,by rw [<-(rel.val k).jx];exact l,λ h' zT hs=>h _ ?_⟩)
 have he : ∃ q,h'.get? a=some q:=let ⟨q,_,_,hq,_⟩:=zT; ⟨q,hq⟩
 exact ly I (by rw [e];exact True.intro) hs he (sy (Nat.le_trans (oQ kvs k) z) hd (rel.drop k) zT)
theorem HN {v:V} {more:List Value} {Q:Value->Shared->Prop} (I:Inv X pins σ H s) (e:H a=some (.dK kvs)) (ry:RelV (kV k) u) (l:bN kvs k=some v) (hm:more = [] ∨ ∃ x,more = [x])
  (h : ∀ w' s',Inv X pins σ (upd H a (.dK (bR kvs k))) s'->RelV v w'->Q w' s'):wpAny (model X.prog X.w) A (call (.builtin "dict.pop") (.ref a::u::more)) Q E s:=by
 obtain ⟨z,hd,vs,rel,dd⟩:=rB I.hok e
 obtain ⟨w',hw,rw'⟩:=gy.some_of (v:=v) (o:=valueAt vs k) (by rw [<-l];exact rel.val k)
 have hp:(keyPart u).isSome=true:=by
  cases k with
  | inl i=>obtain ⟨t,q⟩:=(show ∃ t,u=Value.int i t from ry);subst q;rfl
  | inr x=>obtain ⟨t,q⟩:=(show ∃ t,u=Value.str x t from ry);subst q;rfl
 have ha:argsOk "dict.pop" ⟨.ref a::u::more,[]⟩:=by
  rcases hm with q | ⟨x,q⟩
  ·subst q;exact PySem.F.args_dict_pop_2 _ _
  ·subst q;exact PySem.F.args_dict_pop_3 _ _ _
 refine call_meetsIn PySem.F.slot_dict_pop dd.typeIs PySem.F.entry_dict_pop ha (meets_dict_pop_there (br X.prog X.w) a (oR ry) more hm hp)
  ⟨vs,w',dd,by rw [<-rel.length];exact z,hw,λ h' zT hs=>h w' _ ?_ rw'⟩
 have he : ∃ q,h'.get? a=some q:=let ⟨q,_,_,hq,_⟩:=zT; ⟨q,hq⟩
 exact ly I (by rw [e];exact True.intro) hs he (sy (Nat.le_trans (oQ kvs k) z) hd (rel.drop k) zT)
theorem HP {Q:Value->Shared->Prop} (I:Inv X pins σ H s) (e:Rd H a (.dK kvs)) (h : ∀ t s',Inv X pins σ H s'->Q (.int kvs.length t) s'):wpAny (model X.prog X.w) A (call (.builtin "len") [.ref a]) Q E s:=by
 obtain ⟨z,hd,vs,rel,dd⟩:=rA I.hok e
 refine call_len_dict hd dd (by rw [<-rel.length];rw [sizeLine_eq] at z;omega) ?_
 rw [<-rel.length]
 exact h _ _ (I.tok _)
end
def HQ (i:Expr):Prop := ∀ ov iv,subscripted i false ov iv=operate [ov,iv] (getItem ov iv)
theorem DB {prog:Program} {w:World} {A:Around} {E:Value->Shared->Prop} {s:Shared} {env:Env} {value slice:Expr} {pos:Pos} {T id:String} {Q:Value->Shared->Prop}
  (hl:typeLookup (.type T) "__getitem__" = pure (some (.builtin id))) (hs:HQ slice)
  (h:wpAny (model prog w) A (eval value env) (λ o s₁ => wpAny (model prog w) A (eval slice env) (λ i s₂ => s₂.TypeIs o T/\wpAny (model prog w) A (getItem o i) Q E s₂) E s₁) E s) :
  wpAny (model prog w) A (eval (.Subscript value slice pos) env) Q E s:=by
 refine Subscript_ (wpAny_mono h (λ o s₁ h₁ => wpAny_mono h₁ (λ i s₂ h₂ => ?_) λ _ _ x=>x) λ _ _ x=>x)
 obtain ⟨hT,h₂⟩:=h₂
 unfold subscriptTail
 refine wpAny_bind ?_
 rw [getitemInPython_of_ne hT.not_modules]
 refine wpAny_bind (wpAny_specialOf hT hl ?_)
 have fin:wpAny (model prog w) A (subscripted slice false o i) (λ r s₃ => wpAny (model prog w) A (letTemporaryGo value o r >>= λ _=>pure r) Q E s₃) E s₂ := by
  rw [hs o i]
  exact wpAny_operating (wpAny_mono h₂ (λ r s₃ h₃ => wpAny_bind (wpAny_letTemporaryGo (wpAny_pure h₃))) λ _ _ x=>x)
 first
  | exact wpAny_pure (wpAny_bind fin)
  | exact wpAny_bind (wpAny_pure (wpAny_bind fin))
  | exact wpAny_bind fin
theorem uQ {X:Cx} {pins:List (Addr×Obj)} {σ : St} {H:Hp} {s:Shared} {a:Addr} {y:V} {o:Option V} (I:Inv X pins σ H s) (g:fO H a y o):s.TypeIs (.ref a) "dict" := by
 rcases g with ⟨kvs,k,e,_,_⟩ | ⟨kvs,k,b,e,_,_,_⟩
 ·obtain ⟨_,_,vs,_,dd⟩:=rA I.hok e
  exact dd.typeIs
 ·obtain ⟨_,_,xs,_,dd⟩:=uP I.hok e
  exact dd.typeIs
def uR (td ty:TE):TE:=fun σ H Q=>td σ H λ x H1=>ty σ H1 λ y H2 => ∃ a v,x = .ref a/\fO H2 a y (some v)/\Q v H2
def HR (ty td:TE):TE:=fun σ H Q=>ty σ H λ y H1=>td σ H1 λ x H2 => ∃ a o,x = .ref a/\fO H2 a y o/\Q (.bl o.isSome) H2
def lz (ty td:TE):TE:=fun σ H Q=>ty σ H λ y H1=>td σ H1 λ x H2 => ∃ a o,x = .ref a/\fO H2 a y o/\Q (.bl (!o.isSome)) H2
def uS (td ty tv:TE):TS:=λ D σ H=>tv σ H λ v H1=>td σ H1 λ x H2=>ty σ H2 λ y H3 => ∃ a H4,x = .ref a/\lu H3 a y v H4/\D.nx σ H4
section
variable {X:Cx} {o i e value:Expr} {pos pos' tpos:Pos} {td ty tv:TE}
theorem bU (hu:X.A.units+1 < cLine) (ho:PE X o td) (hi:PE X i ty) (hs:HQ i):PE X (.Subscript o i pos) (uR td ty):=by
 intro pins s σ H Q I h
 refine DB PySem.F.slot_dict_getitem.lookup hs (bL (ho pins s σ H _ I h) λ u s1 ⟨x,H1,I1,rx,q1⟩=>bL (hi pins s1 σ H1 _ I1 q1) ?_)
 rintro iv s2 ⟨y,H2,I2,ry,a,v,ex,g,q2⟩
 subst ex
 obtain rfl:u=Value.ref a:=rx
 exact ⟨uQ I2 g,zR hu I2 g ry λ w' s3 I3 rw'=>⟨v,H2,I3,rw',q2⟩⟩
theorem zU (hu:X.A.units+1 < cLine) (hi:PE X i ty) (ho:PE X o td):PC X .NotIn i o (lz ty td):=by
 intro pins s σ H Q I h
 refine bL (hi pins s σ H _ I h) λ iv s1 ⟨y,H1,I1,ry,q1⟩=>bL (ho pins s1 σ H1 _ I1 q1) ?_
 rintro u s2 ⟨x,H2,I2,rx,a,ov,ex,g,q2⟩
 subst ex
 obtain rfl:u=Value.ref a:=rx
 exact DA hu I2 g ry λ s3 I3=>⟨.bl (!ov.isSome),H2,I3,rfl,q2⟩
theorem lA (hu:X.A.units+1 < cLine) (ho:PE X o td) (hi:PE X i ty) (hv:PE X value tv) (hs:swapsWith value (some (.Subscript o i pos')) pos.line X.env=pure false) :
  PS X (.Assign [.Subscript o i pos'] value pos) (uS td ty tv):=by
 intro pins s σ H D I h
 refine wpAny_Assign_Subscript (bL (hv pins s σ H _ I h) λ r s1 ⟨v,H1,I1,rv,q1⟩=>bL (ho pins s1 σ H1 _ I1 q1) λ u s2 ⟨x,H2,I2,rx,q2⟩=>bL (hi pins s2 σ H2 _ I2 q2) ?_) hs
 rintro iv s3 ⟨y,H3,I3,ry,a,H4,ex,g,q3⟩
 subst ex
 obtain rfl:u=Value.ref a:=rx
 exact zS hu I3 g ry rv λ s4 I4=>⟨σ,H4,I4,q3⟩
end
theorem uT {P:Program} {w:World} {H:Hp} (h:Heap) (hb:sysModules < h.objs.size):bx P w H (h.push { cls := .type "dict",data := .dict #[] }) h.objs.size (.dK []) :=
 ⟨Nat.zero_le _,beq_eq_false_iff_ne.mpr (Ne.symm (Nat.ne_of_lt hb)),[],.nil,Heap.DictOf.new h⟩
def mO:TE:=λ _ H Q => ∀ p,H p=none->Q (.ref p) (upd H p (.dK []))
section
variable {X:Cx} {pos:Pos}
theorem gk:PE X (.Dict [] [] pos) mO:=λ pins s σ H Q I h =>
 wpAny_Dict_empty ⟨.ref s.heap.objs.size,_,I.laid (a:=s.heap.objs.size) (o := .dK []) (t':=s.toks) (λ _ _ q=>Heap.get?_push_of_some _ q) (Nat.le_refl _) (uT s.heap I.big),rfl,h _ (I.hok.fresh (Nat.le_refl _))⟩
end
def wZ:List (TE×TE)->St->Hp->(List (V×V)->Hp->Prop)->Prop
 | [],_,H,Q=>Q [] H
 | (tk,tv)::r,σ,H,Q=>tk σ H λ x H1=>tv σ H1 λ y H2=>wZ r σ H2 λ ps H3=>Q ((x,y)::ps) H3
abbrev VV:List (V×V)->List (Value×Value)->Prop:=Paired λ p q=>RelV p.1 q.1/\RelV p.2 q.2
def JO (X:Cx) (pos:Pos) (keys:List (Option Expr)) (values:List Expr) (DC:List (TE×TE)):Prop :=
 ∀ (pins:List (Addr×Obj)) (s:Shared) (σ : St) (H:Hp) (Q:List (V×V)->Hp->Prop),Inv X pins σ H s->wZ DC σ H Q →
   wpAny (model X.prog X.w) X.A (evalPairs (pairTrees keys values X.env pos)) (λ vs s' => ∃ ps H',Inv X pins σ H' s'/\VV ps vs/\Q ps H') X.xe s
theorem DE {X:Cx} {pos:Pos} : JO X pos [] [] []:=λ pins s σ H Q I h=>pairTrees_nil_walk ⟨[],H,I,.nil,h⟩
theorem uU {X:Cx} {pos:Pos} {k v:Expr} {ks:List (Option Expr)} {vs:List Expr} {tk tv:TE} {DC:List (TE×TE)} (hk:PE X k tk) (hv:PE X v tv) (hr:JO X pos ks vs DC) :
  JO X pos (some k::ks) (v::vs) ((tk,tv)::DC):=λ pins s σ H Q I h =>
 pairTrees_cons_walk (bL (hk pins s σ H _ I h) λ u s1 ⟨x,H1,I1,rx,q1⟩=>bL (hv pins s1 σ H1 _ I1 q1) λ w2 s2 ⟨y,H2,I2,ry,q2⟩ =>
  bL (hr pins s2 σ H2 _ I2 q2) λ ws s3 ⟨ps,H3,I3,rel,q3⟩=>⟨(x,y)::ps,H3,I3,.cons ⟨rx,ry⟩ rel,q3⟩)
def mP (kvs more:List (Key×V)):List (Key×V):=more.foldl (λ acc kv=>putK acc kv.1 kv.2) kvs
theorem KV.merge : ∀ {more:List (Key×V)} {rs:List (Key×Value)} {kvs:List (Key×V)} {vs:List (Key×Value)},KV more rs->KV kvs vs->KV (mP kvs more) (merged vs rs):=by
 intro more rs kvs vs r
 unfold KV at r
 induction r generalizing kvs vs with
 | nil=>intro q;exact q
 | @cons p q ps qs h t ih =>
   intro r0
   have e:KV (putK kvs p.1 p.2) (stored vs q.1 q.2):=by
    have:=r0.put p.1 h.2
    rw [<-h.1];exact this
   exact ih e
theorem jO : ∀ (more kvs:List (Key×V)),(mP kvs more).length<=kvs.length+more.length
 | [],kvs=>by show kvs.length<=kvs.length+0;omega
 | p::r,kvs=>by
   have h1:=jO r (putK kvs p.1 p.2)
   have h2:=iG kvs p.1 p.2
   show (mP (putK kvs p.1 p.2) r).length<=_
   rw [List.length_cons];omega
theorem oS {P:Program} {w:World} : ∀ {kvs:List (Key×V)} {ws:List (Value×Value)},VV (kvs.map λ kv=>(kV kv.1,kv.2)) ws->∃ rs,Carries (br P w) ws rs/\KV kvs rs
 | [],_,r=>by rw [List.map_nil] at r;cases r;exact ⟨[],True.intro,.nil⟩
 | p::kvs,_,r=>by
   rw [List.map_cons] at r
   cases r with
   | @cons a b as bs h t =>
     obtain ⟨rs,c,q⟩:=oS (P:=P) (w:=w) t
     obtain ⟨b1,b2⟩:=b
     exact ⟨(p.1,b2)::rs,⟨oR h.1,rfl,c⟩,.cons ⟨rfl,h.2⟩ q⟩
def EM (DC:List (TE×TE)):TE:=fun σ H Q => ∀ p,H p=none->wZ DC σ (upd H p (.dK [])) λ ps H2=>H2 p=some (.dK []) ∧ ∃ kvs:List (Key×V),ps=kvs.map (λ kv=>(kV kv.1,kv.2))/\kvs.length<=15/\Q (.ref p) (upd H2 p (.dK (mP [] kvs)))
theorem DF {X:Cx} {pos:Pos} {keys:List (Option Expr)} {values:List Expr} {DC:List (TE×TE)} (h:JO X pos keys values DC) (hall:keys.all (·.isSome)=true) (hl:keys.length=values.length) (h0:keys≠[])
  (Oe:keys.length<=15):PE X (.Dict keys values pos) (EM DC):=by
 intro pins s σ H Q I q
 have hn:=I.hok.fresh (Nat.le_refl s.heap.objs.size)
 have I1:=I.laid (a:=s.heap.objs.size) (o := .dK []) (h':=s.heap.push { cls := .type "dict",data := .dict #[] }) (t':=s.toks) (λ _ _ q=>Heap.get?_push_of_some _ q) (Nat.le_refl _) (uT s.heap I.big)
 refine wpAny_Dict_walk (knd:=br X.prog X.w) hall hl h0 Oe (bL (h pins _ σ _ _ I1 (q _ hn)) ?_)
 rintro ws s2 ⟨ps,H2,I2,rel,e,kvs,ep,lk,q2⟩
 subst ep
 obtain ⟨rs,c,rk⟩:=oS (P:=X.prog) (w:=X.w) rel
 obtain ⟨z,hd,Qc,r0,dd⟩:=rB I2.hok e
 cases r0
 refine ⟨rs,c,dd,λ h' zT hs=>⟨.ref s.heap.objs.size,_,?_,rfl,q2⟩⟩
 have hz:(mP [] kvs).length<=sizeLine:=by
  have h1:=jO kvs []
  rw [List.length_nil] at h1
  rw [sizeLine_eq];omega
 have he : ∃ q,h'.get? s.heap.objs.size=some q:=let ⟨q,_,_,hq,_⟩:=zT; ⟨q,hq⟩
 exact ly I2 (by rw [e];exact True.intro) hs he (sy hz hd (rk.merge .nil) zT)
structure M1 (X:Cx) (o:Expr) (m:Str) (apos:Pos) (e:Expr) (cpos:Pos):Prop where
 base:attributeBase o m X.env (eval o X.env)=eval o X.env
 few:((backTo cpos (starEach [e] X.env)).all (λ x => !x.1) && (backToKw cpos (keywordEach [] X.env)).all (λ x=>x.1.isSome)
  && decide (([e]:List Expr).length+([]:List Keyword).length+(if ([]:List Keyword).isEmpty then 0 else 1) < 30))=true
 line:(apos.endLine == cpos.line)=true
 trees:backTo cpos (starEach [e] X.env) = [(false,eval e X.env)]
structure M2 (X:Cx) (o:Expr) (m:Str) (apos:Pos) (e f:Expr) (cpos:Pos):Prop where
 base:attributeBase o m X.env (eval o X.env)=eval o X.env
 few:((backTo cpos (starEach [e,f] X.env)).all (λ x => !x.1) && (backToKw cpos (keywordEach [] X.env)).all (λ x=>x.1.isSome)
  && decide (([e,f]:List Expr).length+([]:List Keyword).length+(if ([]:List Keyword).isEmpty then 0 else 1) < 30))=true
 line:(apos.endLine == cpos.line)=true
 trees:backTo cpos (starEach [e,f] X.env) = [(false,eval e X.env),(false,eval f X.env)]
def G2 (H:Hp) (a:Addr):Prop:=(∃ kvs,Rd H a (.dK kvs)) ∨ ∃ kvs,Rd H a (.dT kvs)
theorem FP {X:Cx} {pins:List (Addr×Obj)} {σ : St} {H:Hp} {s:Shared} {a:Addr} (I:Inv X pins σ H s) (d:G2 H a) :
  s.TypeIs (.ref a) "dict" ∧ (∀ b,Value.ref a = .ref b->∃ ob,s.heap.get? b=some ob/\ob.dict=none)/\(a == sysModules)=false:=by
 rcases d with ⟨kvs,e⟩ | ⟨kvs,e⟩
 ·obtain ⟨_,hd,vs,_,dd⟩:=rA I.hok e
  refine ⟨dd.typeIs,λ b q => ?_,hd⟩
  cases q
  obtain ⟨ob,_,_,h1,h2,_⟩:=dd
  exact ⟨ob,h1,h2.2.1⟩
 ·obtain ⟨_,hd,xs,_,dd⟩:=uP I.hok e
  refine ⟨dd.typeIs,λ b q => ?_,hd⟩
  cases q
  obtain ⟨ob,_,_,h1,h2,_⟩:=dd
  exact ⟨ob,h1,h2.2.1⟩
section
variable {X:Cx} {pins:List (Addr×Obj)} {σ : St} {H:Hp} {s:Shared} {a:Addr} {y d:V} {u r:Value} {o:Option V} {A:Around} {E:Value->Shared->Prop}
end
def w4 (td ty:TE):TE:=fun σ H Q=>td σ H λ x H1 => ∃ a,x = .ref a/\G2 H1 a/\ty σ H1 λ y H2 => ∃ kvs k v,H2 a=some (.dK kvs)/\y=kV k/\bN kvs k=some v/\Q v (upd H2 a (.dK (bR kvs k)))
section
variable {X:Cx} {o e f:Expr} {apos cpos:Pos} {td ty tx:TE}
theorem uV (ho:PE X o td) (he:PE X e ty) (m:M1 X o "pop" apos e cpos):PE X (.Call (.Attribute o "pop" apos) [e] [] cpos) (w4 td ty):=by
 intro pins s σ H Q I h
 refine wpAny_Call_method m.base m.few m.line PySem.F.plainAttrs_dict PySem.F.slot_dict_pop PySem.F.type_dict_pop (bL (ho pins s σ H _ I h) ?_)
 rintro u s1 ⟨x,H1,I1,rx,a,ex,d,q1⟩
 subst ex
 obtain rfl:u=Value.ref a:=rx
 obtain ⟨t1,t2,_⟩:=FP I1 d
 refine ⟨t1,t2,?_⟩
 rw [m.trees]
 refine Calls.callWith_builtin rfl (Calls.evalArgs_plain (Calls.spliced_cons (bL (he pins s1 σ H1 _ I1 q1) λ iv s2 ⟨y,H2,I2,ry,kvs,k,v,ea,ey,l,q2⟩=>Calls.spliced_nil ?_)))
 subst ey
 exact HN I2 ea ry l (.inl rfl) λ w' s3 I3 rw'=>⟨v,_,I3,rw',q2⟩
end
section
variable {X:Cx} {pins:List (Addr×Obj)} {σ : St} {H:Hp} {s:Shared} {a:Addr} {kvs:List (Key×V)} {A:Around} {E:Value->Shared->Prop}
end
section
variable {X:Cx} {pins:List (Addr×Obj)} {σ : St} {H:Hp} {s:Shared} {a:Addr} {y:V} {u:Value} {A:Around} {E:Value->Shared->Prop}
end
end L2
namespace HT
open PySem PyProof.Rows
section
open PySem.SeqAt
open PySem.AutoSeq1 (wpAny_loadPart')
open PySem.MeetsSeq PySem.MeetsSeq2 PySem.MeetsSeq3
end
section
variable {prog:Program} {w:World} {A:Around} {E:Value->Shared->Prop} {s:Shared}
theorem DG {t b:Addr} {vs ws:List Value} {Q:Value->Shared->Prop} (ht:IsTup s.heap t vs.toArray) (hb:IsTup s.heap b ws.toArray) (hv:vs≠[])
  (h1:ws = []->Q (.ref t) s) (h2:ws≠[]->Q (.ref s.heap.objs.size) { s with heap:=s.heap.push { cls := .type "tuple",data := .seq (vs++ws).toArray } })
  (hsz:vs.length+ws.length<=sizeLine):wpAny (model prog w) A (binaryOp .Add (.ref t) (.ref b)) Q E s:=by
 obtain ⟨⟨cls,dd,data,sl⟩,ho,hc,n,hd⟩:=id ht
 obtain ⟨⟨Of,dd2,data2,sl2⟩,ho2,hc2,n2,hd2⟩:=id hb
 simp only at hc hd hc2 hd2
 subst hc hd hc2 hd2
 have e:vs.toArray++ws.toArray=(vs++ws).toArray:=by simp
 by_cases hw:ws = []
 ·exact concat_meets ⟨_,ho,rfl⟩ ⟨_,ho2,rfl⟩ noFill_tuple_add seq_tuple_add PySem.F.slot_tuple_add PySem.F.entry_tuple_add (PySem.F.args_tuple_add_2 _ _)
   (tuple_addW1 t b vs.toArray ws.toArray n n2 dd dd2 sl sl2 (by simpa using hv) (by simp [hw])) ⟨ho,ho2,h1 hw⟩
 ·refine concat_meets ⟨_,ho,rfl⟩ ⟨_,ho2,rfl⟩ noFill_tuple_add seq_tuple_add PySem.F.slot_tuple_add PySem.F.entry_tuple_add (PySem.F.args_tuple_add_2 _ _)
   (tuple_addW2 t b vs.toArray ws.toArray n n2 dd dd2 sl sl2 (by simpa using hv) (by simpa using hw) (by rw [List.size_toArray,List.size_toArray];exact hsz)) ⟨ho,ho2,?_⟩
  rw [e]
  exact h2 hw
def dP (n d:Nat):Option Int->Nat
 | none=>d
 | some v=>if v < 0 then (v+(n:Int)).toNat else min v.toNat n
theorem FQ (n d:Nat) (hd:d<=n) (o:Option Int):dP n d o<=n:=by
 cases o with
 | none=>exact hd
 | some v =>
   show (if v < 0 then (v+(n:Int)).toNat else min v.toNat n)<=n
   by_cases hv:v < 0
   ·rw [if_pos hv];omega
   ·rw [if_neg hv];exact Nat.min_le_right _ _
theorem yq (v:Int) (n d:Nat):(if v < 0 then max (v+(n:Int)) 0 else min v (n:Int))=((dP n d (some v):Nat):Int):=by
 show (if v < 0 then max (v+(n:Int)) 0 else min v (n:Int))=(((if v < 0 then (v+(n:Int)).toNat else min v.toNat n):Nat):Int)
 by_cases hv:v < 0
 ·simp only [if_pos hv];omega
 ·simp only [if_neg hv];omega
theorem w6 (lo hi:Option Int) (n:Nat):Builtin.Slice.sliceAdjust lo hi 1 (n:Int)=(((dP n 0 lo:Nat):Int),((dP n n hi:Nat):Int)):=by
 have h1 : ¬ ((1:Int) < 0):=by omega
 unfold Builtin.Slice.sliceAdjust
 simp only [h1,if_false]
 refine Prod.ext ?_ ?_
 ·cases lo with
  | none=>rfl
  | some v=>exact yq v n 0
 ·cases hi with
  | none=>rfl
  | some v=>exact yq v n n
theorem xg (i j:Nat):Builtin.Slice.slicePlaces (i:Int) (j:Int) 1=j - i:=by
 unfold Builtin.Slice.slicePlaces
 have h1:(1:Int) > 0:=by omega
 simp only [h1,if_true,Int.ediv_one]
 split <;> omega
theorem oU {v:Value} {o:Option Int} {Q:Option Int->Shared->Prop} (p:IsPart v o) (h:Q o s):wpAny (model prog w) A (Builtin.Slice.slicePartIndex v) Q E s:=by
 cases p with
 | none=>exact slicePart_none h
 | int i t=>exact slicePart_int h
theorem mQ {sl:Addr} {vl vu:Value} {lo hi:Option Int} {n:Nat} {Q:Int×Int×Nat->Shared->Prop} (hs:s.heap.IsSliceOf sl vl vu .none) (pl:IsPart vl lo) (pu:IsPart vu hi)
  (h:Q (((dP n 0 lo:Nat):Int),1,dP n n hi - dP n 0 lo) s):wpAny (model prog w) A (Builtin.Slice.sliceApplied (.ref sl) (pure (n:Int))) Q E s:=by
 obtain ⟨os,hos,hcs,hds⟩:=id hs
 unfold Builtin.Slice.sliceApplied Builtin.Slice.sliceFields
 refine wpAny_bind (wpAny_bind (wpAny_field hos hds (x:=vl) rfl (wpAny_bind (wpAny_field hos hds (x:=vu) rfl (wpAny_bind (wpAny_field hos hds (x := .none) rfl (wpAny_pure ?_)))))))
 refine wpAny_bind (slicePart_none ?_)
 show wpAny _ _ (if ((1:Int) == 0)=true then _ else _) _ _ s
 rw [if_neg (by decide)]
 refine wpAny_bind (oU pl (wpAny_bind (oU pu (wpAny_bind (wpAny_pure ?_)))))
 show wpAny _ _ (match Builtin.Slice.sliceAdjust lo hi 1 (n:Int) with | (lo,hi)=>pure (lo,(1:Int),Builtin.Slice.slicePlaces lo hi 1)) _ _ s
 rw [w6 lo hi n]
 show wpAny _ _ (pure (((dP n 0 lo:Nat):Int),(1:Int),Builtin.Slice.slicePlaces ((dP n 0 lo:Nat):Int) ((dP n n hi:Nat):Int) 1)) _ _ s
 rw [xg]
 exact wpAny_pure h
theorem Bj (xs:Array Value) (i k:Nat):((List.range k).filterMap fun (m:Nat)=>xs[((i:Int)+(m:Int) * 1).toNat]?).toArray=((xs.toList.drop i).take k).toArray:=by
 have e:(fun (m:Nat)=>xs[((i:Int)+(m:Int) * 1).toNat]?)=λ m=>xs[i+m]? := by
  funext m
  have:((i:Int)+(m:Int) * 1).toNat=i+m:=by omega
  rw [this]
 rw [e]
 have:=pick_run xs i k
 rw [List.filterMap_map] at this
 have e2:((λ x=>xs[x]?) ∘ λ x=>i+x)=λ m=>xs[i+m]? := rfl
 rw [e2] at this
 rw [this]
theorem lB {t sl:Addr} {items:Array Value} {vl vu:Value} {lo hi:Option Int} {Q:Value->Shared->Prop} (ht:IsTup s.heap t items) (hs:s.heap.IsSliceOf sl vl vu .none) (pl:IsPart vl lo) (pu:IsPart vu hi)
  (hw : ¬ (dP items.size 0 lo=0/\dP items.size items.size hi=items.size))
  (h:Q (.ref s.heap.objs.size) { s with heap:=s.heap.push { cls := .type "tuple",data := .seq ((items.toList.drop (dP items.size 0 lo)).take (dP items.size items.size hi - dP items.size 0 lo)).toArray } })
  (hsz:items.size<=sizeLine):wpAny (model prog w) A (getItem (.ref t) (.ref sl)) Q E s:=by
 have yr:sizeOk (.seq ((items.toList.drop (dP items.size 0 lo)).take (dP items.size items.size hi - dP items.size 0 lo)).toArray):=by
  show ((items.toList.drop (dP items.size 0 lo)).take (dP items.size items.size hi - dP items.size 0 lo)).toArray.size<=sizeLine
  rw [List.size_toArray,List.length_take,List.length_drop,Array.length_toList]
  omega
 have hj:dP items.size items.size hi<=items.size:=FQ _ _ (Nat.le_refl _) hi
 obtain ⟨os,hos,hcs,hds⟩:=id hs
 have Og:s.TypeIs (.ref sl) "slice" := ⟨os,hos,hcs⟩
 unfold getItem
 try with_reducible refine wpAny_holding ?_
 first | refine wpAny_bind (wpAny_pure ?_) | skip
 refine wpAny_bind (wpAny_sequenceKey ht.typeIs (by decide) ?_)
 refine wpAny_bind (wpAny_callSpecial?_slot (name:=Str.ofString "__getitem__") ht.typeIs PyProof.Rows.slot_tuple_getitem
  (wpAny_call_entry PyProof.Rows.slot_tuple_getitem ht.typeIs entry_tuple_getitem ?_ (args_tuple_getitem _ _)))
 show wpAny _ _ (Builtin.Tuple.tupleItemsOf (.ref t) >>= _) _ _ s
 refine wpAny_bind (tupleItemsOf_ ht ?_)
 refine wpAny_bind (wpAny_typeOf Og ?_)
 rw [if_pos (by decide)]
 refine wpAny_bind (mQ hs pl pu ?_)
 have hno : ¬ ((((dP items.size 0 lo:Nat):Int) == 0 && (1:Int) == 1 && (dP items.size items.size hi - dP items.size 0 lo) == items.size)=true):=by
  intro q
  rw [Bool.and_eq_true,Bool.and_eq_true] at q
  have q1:((dP items.size 0 lo:Nat):Int)=0:=eq_of_beq q.1.1
  have q2:dP items.size items.size hi - dP items.size 0 lo=items.size:=eq_of_beq q.2
  exact hw ⟨by omega,by omega⟩
 show wpAny _ _ (if (((dP items.size 0 lo:Nat):Int) == 0 && (1:Int) == 1 && (dP items.size items.size hi - dP items.size 0 lo) == items.size)=true then _ else _) _ _ s
 rw [if_neg hno,Bj]
 first
  | exact wpAny_bind (m:=Builtin.Tuple.tupleExact _) (wpAny_newObj_type (wpAny_pure ⟨_,rfl,wpAny_pure h⟩) yr)
  | exact wpAny_bind (m:=Builtin.Tuple.tupleExact _) (wpAny_newObj_type (wpAny_bind (wpAny_pure (wpAny_pure ⟨_,rfl,wpAny_pure h⟩))) yr)
  | exact wpAny_bind (wpAny_bind (m:=Builtin.Tuple.tupleExact _) (wpAny_newObj_type (wpAny_pure (wpAny_pure ⟨_,rfl,wpAny_pure h⟩)) yr))
  | exact wpAny_bind (wpAny_bind (m:=Builtin.Tuple.tupleExact _) (wpAny_newObj_type (wpAny_pure ⟨_,rfl,wpAny_pure h⟩) yr))
end
end HT
namespace L2
open PySem PySem.Spec PyProof.Rows
abbrev TO:=St->Hp->(Option Int->Hp->Prop)->Prop
def PO (X:Cx) (e:Option Expr) (t:TO):Prop :=
 ∀ (pins:List (Addr×Obj)) (s:Shared) (σ : St) (H:Hp) (Q:Option Int->Hp->Prop),Inv X pins σ H s->t σ H Q →
   wpAny (model X.prog X.w) X.A (evalPart e X.env) (λ u s' => ∃ o H',Inv X pins σ H' s'/\IsPart u o/\Q o H') X.xe s
def lC:TO:=λ _ H Q=>Q none H
def uW (t:TE):TO:=fun σ H Q=>t σ H λ x H1 => ∃ i,x = .int i/\Q (some i) H1
section
variable {X:Cx} {e:Expr} {te:TE} {lo hi:Option Expr} {tl th:TO} {pos p2:Pos}
theorem yt:PO X none lC:=by
 intro pins s σ H Q I h
 rw [evalPart_none]
 exact wpAny_pure ⟨none,H,I,.none,h⟩
theorem fL (h:PE X e te):PO X (some e) (uW te):=by
 intro pins s σ H Q I hw
 rw [evalPart_some]
 refine bL (h pins s σ H _ I hw) ?_
 rintro u s1 ⟨x,H1,I1,r1,q1⟩
 obtain ⟨i,rfl,q⟩:=q1
 obtain ⟨t,rfl⟩:=r1
 exact ⟨some i,H1,I1,.int i t,q⟩
def HS (X:Cx) (r:V->Option Int->Option Int->Hp->VK->Prop):Prop :=
 ∀ (pins:List (Addr×Obj)) (s:Shared) (σ : St) (H:Hp) (x:V) (v vl vu:Value) (lo hi:Option Int) (sl:Addr) (Q:VK),Inv X pins σ H s->RelV x v->s.heap.IsSliceOf sl vl vu .none->IsPart vl lo->IsPart vu hi->r x lo hi H Q →
   ∃ T id,typeLookup (.type T) "__getitem__" = pure (some (.builtin id))/\s.TypeIs v T/\wpAny (model X.prog X.w) X.A (getItem v (.ref sl)) (EP X pins σ Q) X.xe s
def HU (r:V->Option Int->Option Int->Hp->VK->Prop) (te:TE) (tl th:TO):TE:=fun σ H Q=>te σ H λ x H1=>tl σ H1 λ l H2=>th σ H2 λ u H3=>r x l u H3 Q
theorem iI {r:V->Option Int->Option Int->Hp->VK->Prop} (hr:HS X r) (he:PE X e te) (hl:PO X lo tl) (hu:PO X hi th):PE X (.Subscript e (.Slice lo hi none p2) pos) (HU r te tl th):=by
 intro pins s σ H Q I h
 refine Subscript_ (bL (he pins s σ H _ I h) ?_)
 rintro v s1 ⟨x,H1,I1,r1,q1⟩
 refine wpAny_Slice (bL (hl pins s1 σ H1 _ I1 q1) λ vl s2 ⟨l,H2,I2,pl,q2⟩=>bL (hu pins s2 σ H2 _ I2 q2) ?_)
 rintro vu s3 ⟨u,H3,I3,pu,q3⟩
 rw [evalPart_none]
 refine wpAny_pure ?_
 have I4:Inv X pins σ H3 { s3 with heap:=s3.heap.push { cls := .type "slice",data := .fields #[vl,vu,.none] } } := I3.kept (t':=s3.toks) λ b ob q=>Heap.get?_push_of_some _ q
 obtain ⟨T,id,hT,ht,hg⟩:=hr pins { s3 with heap:=s3.heap.push { cls := .type "slice",data := .fields #[vl,vu,.none] } } σ H3 x v vl vu l u s3.heap.objs.size Q I4 r1 (Heap.IsSliceOf.new ..) pl pu q3
 show wpAny (model X.prog X.w) X.A (subscriptTail e (.Slice lo hi none p2) v (.ref s3.heap.objs.size)) (EP X pins σ Q) X.xe { s3 with heap:=s3.heap.push { cls := .type "slice",data := .fields #[vl,vu,.none] } }
 exact tail_any (ops:=[.ref s3.heap.objs.size,v]) ht hT hg (by with_unfolding_all rfl)
def qu (xs:List V) (lo hi:Option Int):List V:=(xs.drop (HT.dP xs.length 0 lo)).take (HT.dP xs.length xs.length hi - HT.dP xs.length 0 lo)
theorem nJ (xs:List V) (lo hi:Option Int):(qu xs lo hi).length<=xs.length:=by
 unfold qu
 rw [List.length_take,List.length_drop]
 omega
def DH (K:PySem.W.Frag):V->Option Int->Option Int->Hp->VK->Prop:=λ x lo hi H Q => ∃ a xs,x = .ref a/\r6 K H a xs ∧
 ¬ (HT.dP xs.length 0 lo=0/\HT.dP xs.length xs.length hi=xs.length) ∧ ∀ p,H p=none->Q (.ref p) (upd H p (.tup (qu xs lo hi)))
theorem FT:HS X (DH X.K):=by
 intro pins s σ H x v vl vu lo hi sl Q I rx hs pl pu h
 obtain ⟨a,xs,rfl,hx,hw,q⟩:=h
 cases rx
 obtain ⟨its,r,ht,hz⟩:=I.tuple hx
 have hlen:its.toArray.size=xs.length:=by rw [List.size_toArray];exact r.length.symm
 refine ⟨"tuple",_,PyProof.Rows.slot_tuple_getitem.lookup,ht.typeIs,?_⟩
 refine HT.lB ht hs pl pu (by rw [hlen];exact hw) ?_ (by rw [hlen];exact hz)
 rw [hlen]
 refine ⟨.ref s.heap.objs.size,_,I.laid (t':=s.toks) (o := .tup (qu xs lo hi)) (λ b ob q=>Heap.get?_push_of_some _ q) (Nat.le_refl _) ?_,rfl,q _ (I.hok.fresh (Nat.le_refl _))⟩
 exact ⟨Nat.le_trans (nJ xs lo hi) hz,_,(r.drop (HT.dP xs.length 0 lo)).take (HT.dP xs.length xs.length hi - HT.dP xs.length 0 lo),IsTup.new _ _⟩
def EN (K:PySem.W.Frag):R2:=λ x y H Q => ∃ a b xs ys,x = .ref a/\y = .ref b/\r6 K H a xs/\r6 K H b ys/\xs≠[]/\xs.length+ys.length<=sizeLine ∧
 (ys = []->Q (.ref a) H)/\(ys≠[]->∀ p,H p=none->Q (.ref p) (upd H p (.tup (xs++ys))))
theorem Vals.sA {xs:List V} {us:List Value} (r:Vals xs us):us = []↔xs = []:=by
 cases r with
 | nil=>simp
 | cons _ _=>simp
theorem DI:nD X (binaryOp .Add) (EN X.K):=by
 intro pins s σ H x y v u Q I rx ry h
 obtain ⟨a,b,xs,ys,rfl,rfl,ha,hb,hx,hz,q1,q2⟩:=h
 cases rx
 cases ry
 obtain ⟨its,r1,p1,_⟩:=I.tuple ha
 obtain ⟨its2,r2,p2,_⟩:=I.tuple hb
 refine HT.DG p1 p2 (λ z=>hx (r1.sA.mp z)) (λ z=>⟨.ref a,H,I,rfl,q1 (r2.sA.mp z)⟩) (λ z => ?_) (by rw [<-r1.length,<-r2.length];exact hz)
 refine ⟨.ref s.heap.objs.size,_,I.laid (t':=s.toks) (o := .tup (xs++ys)) (λ b ob q=>Heap.get?_push_of_some _ q) (Nat.le_refl _) ?_,rfl,q2 (λ w=>z (r2.sA.mpr w)) _ (I.hok.fresh (Nat.le_refl _))⟩
 exact ⟨by rw [List.length_append];exact hz,_,r1.append r2,IsTup.new _ _⟩
end
def Bk (n:Nat) (i:Int):Option Nat:=if 0<=i then (if i < n then some i.toNat else none) else if -(n:Int)<=i then some (i+n).toNat else none
def iB {α : Type} (xs:List α) (i:Int):Option α := (Bk xs.length i).bind λ j=>xs[j]?
theorem DJ {n:Nat} {i:Int} {j:Nat} (h:Bk n i=some j):seqIndex? i n=some j/\j < n ∧ -(n:Int)<=i/\i < n:=by
 unfold Bk at h
 by_cases h0:0<=i
 ·rw [if_pos h0] at h
  by_cases h1:i < n
  ·rw [if_pos h1] at h
   have e:i.toNat=j:=Option.some.inj h
   exact ⟨by rw [seqIndex_of h0 h1,e],by omega,by omega,h1⟩
  ·rw [if_neg h1] at h;cases h
 ·rw [if_neg h0] at h
  by_cases h1 : -(n:Int)<=i
  ·rw [if_pos h1] at h
   have e:(i+n).toNat=j:=Option.some.inj h
   exact ⟨by rw [seqIndex_neg (by omega) h1,e],by omega,h1,by omega⟩
  ·rw [if_neg h1] at h;cases h
theorem yu {α : Type} {xs:List α} {i:Int} {v : α} (h:iB xs i=some v) : ∃ j,seqIndex? i xs.length=some j/\xs[j]? = some v/\j < xs.length ∧ -(xs.length:Int)<=i/\i < xs.length:=by
 unfold iB at h
 cases e:Bk xs.length i with
 | none=>rw [e] at h;cases h
 | some j =>
   rw [e] at h
   obtain ⟨h1,h2,h3,h4⟩:=DJ e
   exact ⟨j,h1,h,h2,h3,h4⟩
theorem fM {α : Type} {xs:List α} {j:Nat} {v : α} (h:xs[j]? = some v):iB xs (j:Int)=some v:=by
 have hj:j < xs.length:=(List.getElem?_eq_some_iff.mp h).1
 have e:Bk xs.length (j:Int)=some j:=by
  unfold Bk
  rw [if_pos (by omega),if_pos (by omega)];simp
 unfold iB;rw [e];exact h
theorem Bl {α : Type} (xs:List α) (v : α):iB (xs++[v]) (-1)=some v:=by
 have hl:(xs++[v]).length=xs.length+1:=by simp
 have e:Bk (xs++[v]).length (-1)=some xs.length:=by
  unfold Bk
  rw [hl,if_neg (by decide),if_pos (by omega)]
  congr 1
  omega
 unfold iB
 rw [e]
 show (xs++[v])[xs.length]? = some v
 simp
def DK (b:Expr):Prop := ∀ o i,subscripted b false o i=operate [o,i] (getItem o i)
def HV (X:Cx) (r:R2):Prop :=
 ∀ (value slice:Expr) (pins:List (Addr×Obj)) (s:Shared) (σ : St) (H:Hp) (x y:V) (v u:Value) (Q:VK),Inv X pins σ H s->RelV x v->RelV y u->r x y H Q →
   subscripted slice false v u=operate [v,u] (getItem v u)->wpAny (model X.prog X.w) X.A (subscriptTail value slice v u) (EP X pins σ Q) X.xe s
def KN (X:Cx) (id:String) (r:V->List V->Hp->VK->Prop):Prop :=
 ∀ (pins:List (Addr×Obj)) (s:Shared) (σ : St) (H:Hp) (x:V) (xs:List V) (v:Value) (us:List Value) (Q:VK),Inv X pins σ H s->RelV x v->Vals xs us->r x xs H Q →
   wpAny (model X.prog X.w) X.A (call (.builtin id) (v::us)) (EP X pins σ Q) X.xe s
section
variable {X:Cx} {a b:Expr} {ta tb:TE} {pos:Pos}
theorem aJ {r:R2} (hr:HV X r) (ha:PE X a ta) (hb:PE X b tb) (hs:DK b):PE X (.Subscript a b pos) (Dq r ta tb):=by
 intro pins s σ H Q I h
 exact Subscript_ (FF ha hb I h λ v u s2 x y H2 I2 rx ry q=>hr a b pins s2 σ H2 x y v u Q I2 rx ry q (hs _ _))
def Bm (K:PySem.W.Frag):R2:=λ x y H Q => ∃ p xs i v,x = .ref p/\y = .int i/\bW K H p xs/\iB xs i=some v/\Q v H
def FU (K:PySem.W.Frag):R2:=λ x y H Q => ∃ p xs i v,x = .ref p/\y = .int i/\r6 K H p xs/\iB xs i=some v/\Q v H
theorem yv:HV X (Bm X.K):=by
 intro value slice pins s σ H x y v u Q I rx ry h hs
 obtain ⟨p,xs,i,z,rfl,rfl,hq,he,q⟩:=h
 cases rx
 obtain ⟨t,rfl⟩:=ry
 obtain ⟨its,r,pl,hz⟩:=I.list hq
 obtain ⟨j,h1,h2,h3,h4,h5⟩:=yu he
 obtain ⟨w,ew,rw'⟩:=r.get h2
 have hl:=r.length
 have hn:=sr
 have fin:EP X pins σ Q w s:=⟨z,H,I,rw',q⟩
 by_cases h0:0<=i
 ·have hj:i.toNat=j:=by
   rw [seqIndex_of h0 h5] at h1
   exact Option.some.inj h1
  exact item_listR pl.isList h0 (by omega) (by rw [hj];simpa using ew) fin hs
 ·have hj:(i+(its.toArray.size:Int)).toNat=j:=by
   rw [seqIndex_neg (by omega) h4] at h1
   rw [List.size_toArray,<-hl]
   exact Option.some.inj h1
  exact subscriptTail_builtinR (x:=w) pl.isList.typeIs slot_list_getitem.lookup
   (wpAny_getItem_list_neg (Q:=λ r s'=>r=w/\EP X pins σ Q r s') pl.isList (by omega) (by rw [List.size_toArray] <;> omega) (by omega) (by rw [hj];simpa using ew) ⟨rfl,fin⟩) hs
theorem FW:HV X (FU X.K):=by
 intro value slice pins s σ H x y v u Q I rx ry h hs
 obtain ⟨p,xs,i,z,rfl,rfl,hq,he,q⟩:=h
 cases rx
 obtain ⟨t,rfl⟩:=ry
 obtain ⟨its,r,pl,hz⟩:=I.tuple hq
 obtain ⟨j,h1,h2,h3,h4,h5⟩:=yu he
 obtain ⟨w,ew,rw'⟩:=r.get h2
 have hl:=r.length
 have hn:=sr
 have fin:EP X pins σ Q w s:=⟨z,H,I,rw',q⟩
 exact subscriptTail_builtinR (x:=w) pl.typeIs slot_tuple_getitem.lookup
  (getItem_tuple (j:=j) (Q:=λ r s'=>r=w/\EP X pins σ Q r s') pl (by omega) (by omega) (by rw [List.size_toArray,<-hl];exact h1) (by simpa using ew) ⟨rfl,fin⟩) hs
theorem Inv.lst {pins:List (Addr×Obj)} {σ : St} {H:Hp} {s:Shared} {p:Addr} {xs:List V} (I:Inv X pins σ H s) (h:H p=some (.lst xs)) :
  ∃ (its:List Value) (n:Nat),Vals xs its/\s.heap.get? p=some { cls := .type "list",data := .seq its.toArray n } ∧ xs.length<=sizeLine:=by
 obtain ⟨z,its,n,r,e⟩:=I.hok p _ h
 exact ⟨its,n,r,e,z⟩
def EO:V->V->V->Hp->(Hp->Prop)->Prop:=λ o i v H Q => ∃ p xs k j,o = .ref p/\i = .int k/\H p=some (.lst xs)/\Bk xs.length k=some j/\Q (upd H p (.lst (xs.set j v)))
theorem sC (lo hi:Option Int) (n:Nat):(sliceBounds lo hi none n).1=((HT.dP n 0 lo:Nat):Int)/\(sliceBounds lo hi none n).2.1=((HT.dP n n hi:Nat):Int)/\(sliceBounds lo hi none n).2.2=1:=by
 refine ⟨?_,?_,rfl⟩
 ·cases lo with
  | none=>simp [sliceBounds,HT.dP]
  | some i =>
    simp only [sliceBounds,HT.dP,Option.getD_none,show (1:Int) > 0 by decide,if_true]
    by_cases h:i < 0
    ·simp only [h,if_true] <;> omega
    ·simp only [h,if_false] <;> omega
 ·cases hi with
  | none=>simp [sliceBounds,HT.dP]
  | some i =>
    simp only [sliceBounds,HT.dP,Option.getD_none,show (1:Int) > 0 by decide,if_true]
    by_cases h:i < 0
    ·simp only [h,if_true] <;> omega
    ·simp only [h,if_false] <;> omega
theorem qv (its:List Value) (lo hi:Option Int):slicePick its.toArray lo hi none=((its.drop (HT.dP its.length 0 lo)).take (HT.dP its.length its.length hi - HT.dP its.length 0 lo)).toArray:=by
 obtain ⟨h1,h2,h3⟩:=sC lo hi its.toArray.size
 unfold slicePick
 rw [h1,h2,h3]
 simp only [sliceRange_one,pick_run,List.size_toArray] <;> rfl
def zV (K:PySem.W.Frag):V->Option Int->Option Int->Hp->VK->Prop:=λ x lo hi H Q => ∃ a xs,x = .ref a/\bW K H a xs ∧ ∀ p,H p=none->Q (.ref p) (upd H p (.lst (qu xs lo hi)))
theorem DL:HS X (zV X.K):=by
 intro pins s σ H x v vl vu lo hi sl Q I rx hs pl pu h
 obtain ⟨a,xs,rfl,hx,q⟩:=h
 cases rx
 obtain ⟨its,r,ht,hz⟩:=I.list hx
 have hlen:=r.length
 refine ⟨"list",_,slot_list_getitem.lookup,ht.isList.typeIs,?_⟩
 refine wpAny_getItem_list_slice ht.isList hs pl pu .none (by simp) ?_ (by rw [List.size_toArray] <;> omega)
 rw [qv,<-hlen]
 refine ⟨.ref s.heap.objs.size,_,I.laid (t':=s.toks) (o := .lst (qu xs lo hi)) (λ b ob q=>Heap.get?_push_of_some _ q) (Nat.le_refl _) ?_,rfl,q _ (I.hok.fresh (Nat.le_refl _))⟩
 exact ⟨Nat.le_trans (nJ xs lo hi) hz,_,0,(r.drop (HT.dP xs.length 0 lo)).take (HT.dP xs.length xs.length hi - HT.dP xs.length 0 lo),Heap.get?_push_size _ rfl⟩
def iJ:V->Bool
 | .aN=>true
 | .bl _=>true
 | .int _=>true
 | .str _=>true
 | _=>false
def DM:V->V->Bool
 | .aN,.aN=>true
 | .bl a,.bl b=>a == b
 | .bl a,.int b=>(if a then 1 else 0) == b
 | .int a,.bl b=>a == (if b then 1 else 0)
 | .int a,.int b=>a == b
 | .str a,.str b=>a == b
 | _,_=>false
theorem FY {A:Around} {s:Shared} {y x:V} {u v:Value} (ry:RelV y u) (rx:RelV x v) (fy:iJ y=true) (fx:iJ x=true):SeqAt.EqAt A s u v (DM y x):=by
 cases y with
 | aN =>
   cases ry
   cases x with
   | aN=>cases rx;exact SeqAt.EqAt.same _
   | bl b=>cases rx;exact SeqAt.EqAt.none_bool b
   | int b=>obtain ⟨t,rfl⟩:=rx;exact SeqAt.EqAt.none_int b t
   | str b=>obtain ⟨t,rfl⟩:=rx;exact SeqAt.EqAt.none_str b t
   | _=>exact absurd (show false=true from fx) Bool.false_ne_true
 | bl a =>
   cases ry
   cases x with
   | aN=>cases rx;exact SeqAt.EqAt.bool_none a
   | bl b=>cases rx;exact SeqAt.EqAt.bool_bool a b
   | int b=>obtain ⟨t,rfl⟩:=rx;exact SeqAt.EqAt.bool_int a b t
   | str b=>obtain ⟨t,rfl⟩:=rx;exact SeqAt.EqAt.bool_str a b t
   | _=>exact absurd (show false=true from fx) Bool.false_ne_true
 | int a =>
   obtain ⟨t',rfl⟩:=ry
   cases x with
   | aN=>cases rx;exact SeqAt.EqAt.int_none a t'
   | bl b=>cases rx;exact SeqAt.EqAt.int_bool a t' b
   | int b=>obtain ⟨t,rfl⟩:=rx;exact SeqAt.EqAt.int_int a t' b t
   | str b=>obtain ⟨t,rfl⟩:=rx;exact SeqAt.EqAt.int_str a t' b t
   | _=>exact absurd (show false=true from fx) Bool.false_ne_true
 | str a =>
   obtain ⟨t',rfl⟩:=ry
   cases x with
   | aN=>cases rx;exact SeqAt.EqAt.str_none a t'
   | bl b=>cases rx;exact SeqAt.EqAt.str_bool a t' b
   | int b=>obtain ⟨t,rfl⟩:=rx;exact SeqAt.EqAt.str_int a t' b t
   | str b=>obtain ⟨t,rfl⟩:=rx;exact SeqAt.EqAt.str_str a t' b t
   | _=>exact absurd (show false=true from fx) Bool.false_ne_true
 | _=>exact absurd (show false=true from fy) Bool.false_ne_true
def DN (x:V) (u:Value):Bool:=match u with
 | .none=>DM .aN x
 | .bool b=>DM (.bl b) x
 | .int i _=>DM (.int i) x
 | .str z _=>DM (.str z) x
 | _=>false
theorem Bo {x y:V} {u:Value} (r:RelV y u) (f:iJ y=true):DN x u=DM y x:=by
 cases y with
 | aN=>cases r;rfl
 | bl b=>cases r;rfl
 | int i=>obtain ⟨t,rfl⟩:=r;rfl
 | str z=>obtain ⟨t,rfl⟩:=r;rfl
 | _=>exact absurd (show false=true from f) Bool.false_ne_true
theorem sD {x:V} : ∀ {xs:List V} {us:List Value},Vals xs us->xs.all iJ=true->us.any (DN x)=xs.any λ y=>DM y x
 | _,_,.nil,_=>rfl
 | y::xs,u::us,.cons r t,f=>by
   rw [List.all_cons,Bool.and_eq_true] at f
   rw [List.any_cons,List.any_cons,Bo r f.1,sD t f.2]
theorem oV {A:Around} {s:Shared} {x:V} {v:Value} (rx:RelV x v) (fx:iJ x=true) : ∀ {xs:List V} {us:List Value},Vals xs us->xs.all iJ=true->∀ u∈us,SeqAt.EqAt A s u v (DN x u)
 | _,_,.nil,_=>λ u hu=>by cases hu
 | y::xs,u::us,.cons r t,f=>λ u' hu=>by
   rw [List.all_cons,Bool.and_eq_true] at f
   rcases List.mem_cons.mp hu with rfl | hu
   ·rw [Bo r f.1];exact FY r rx f.1 fx
   ·exact oV rx fx t f.2 u' hu
def ER (x:V) (xs:List V):Bool:=xs.any λ y=>DM y x
def KO (K:PySem.W.Frag) (neg:Bool):R2:=λ x y H Q => ∃ p xs,y = .ref p/\(bW K H p xs\/r6 K H p xs)/\iJ x=true/\xs.all iJ=true/\Q (.bl (if neg then !ER x xs else ER x xs)) H
theorem sE:nD X (compareOp .NotIn) (KO X.K true):=by
 intro pins s σ H x y v u Q I rx ry h
 obtain ⟨p,xs,rfl,hq,fx,fs,q⟩:=h
 cases ry
 rcases hq with hq | hq
 ·obtain ⟨its,r,pl,hz⟩:=I.list hq
  refine SeqAt.notIn_listAt (DN x) pl.isList (λ w hw=>oV rx fx r fs w (by simpa using hw)) ⟨.bl _,H,I,rfl,?_⟩
  rw [show its.toArray.any (DN x)=its.any (DN x) by simp,sD r fs]
  exact q
 ·obtain ⟨its,r,pl,hz⟩:=I.tuple hq
  refine SeqAt.notIn_tupleAt (DN x) pl (λ w hw=>oV rx fx r fs w (by simpa using hw)) ⟨.bl _,H,I,rfl,?_⟩
  rw [show its.toArray.any (DN x)=its.any (DN x) by simp,sD r fs]
  exact q
theorem gC:eT X (.builtin "len") (λ xs H Q => ∃ p ys,xs = [.ref p]/\(bW X.K H p ys\/r6 X.K H p ys)/\Q (.int ys.length) H):=by
 intro pins s σ H xs us Q I r h
 obtain ⟨p,ys,rfl,hq,q⟩:=h
 obtain ⟨u,rfl,rx⟩:=vals1 r
 cases rx
 have hn:=sr
 rcases hq with hq | hq
 ·obtain ⟨its,r',pl,hz⟩:=I.list hq
  have hlen:=r'.length
  exact Calls.call_len_list pl.isList (by simp only [List.size_toArray] <;> omega) ⟨.int ys.length,H,I.tok _,⟨s.toks+1,by rw [List.size_toArray,hlen]⟩,q⟩
 ·obtain ⟨its,r',pl,hz⟩:=I.tuple hq
  have hlen:=r'.length
  exact len_tuple pl (by simp only [List.size_toArray] <;> omega) ⟨.int ys.length,H,I.tok _,⟨s.toks+1,by rw [List.size_toArray,hlen]⟩,q⟩
theorem sF:eT X (.type "list") (λ xs H Q => ∃ p ys,xs = [.ref p]/\(bW X.K H p ys\/r6 X.K H p ys) ∧ ∀ l,H l=none->Q (.ref l) (upd H l (.lst ys))):=by
 intro pins s σ H xs us Q I r h
 obtain ⟨p,ys,rfl,hq,q⟩:=h
 obtain ⟨u,rfl,rx⟩:=vals1 r
 cases rx
 have fin : ∀ (its:List Value),Vals ys its->ys.length<=sizeLine->∀ (h':Heap) (c':Nat),(∀ b o',s.heap.get? b=some o'->h'.get? b=some o') →
   h'.get? s.heap.objs.size=some { cls := .type "list",dict:=none,data := .seq its.toArray c',slots := #[] }->EP X pins σ Q (.ref s.heap.objs.size) { s with heap:=h' } := λ its r' hz h' c' kp e =>
  ⟨.ref s.heap.objs.size,_,I.laid (t':=s.toks) kp (Nat.le_refl _) (show bx X.prog X.w _ h' _ (.lst ys) from ⟨hz,its,c',r',e⟩),rfl,q _ (I.hok.fresh (Nat.le_refl _))⟩
 rcases hq with hq | hq
 ·obtain ⟨its,r',pl,hz⟩:=I.list hq
  have hlen:=r'.length
  obtain ⟨o,ho,hc,n,hd⟩:=pl.isList
  exact call_list_seq p (.inl rfl) ho hc hd (λ h' c' kp e=>fin its r' hz h' c' kp e) (by simp only [List.size_toArray] <;> omega)
 ·obtain ⟨its,r',pl,hz⟩:=I.tuple hq
  have hlen:=r'.length
  obtain ⟨o,ho,hc,n,hd⟩:=pl
  exact call_list_seq p (.inr rfl) ho hc hd (λ h' c' kp e=>fin its r' hz h' c' kp e) (by simp only [List.size_toArray] <;> omega)
def G3 (K:PySem.W.Frag) (T:String) (x:V) (H:Hp):Prop:=match x with
 | .str _=>T = "str"
 | .int _=>T = "int"
 | .ref p=>(T = "list" ∧ ∃ xs,bW K H p xs)\/(T = "tuple" ∧ ∃ o,K.lookup p=some o/\o.cls = .type "tuple" ∧ o.dict=none) ∨
   (T = "dict" ∧ ((∃ kvs,H p=some (.dK kvs)) ∨ ∃ kvs,H p=some (.dT kvs)))\/(T = "set" ∧ ∃ S n,H p=some (.set S n))
 | _=>False
theorem Bp {pins:List (Addr×Obj)} {σ : St} {H:Hp} {s:Shared} {T:String} {x:V} {v:Value} (I:Inv X pins σ H s) (r:RelV x v) (ty:G3 X.K T x H) :
  s.TypeIs v T ∧ ∀ a,v = .ref a->∃ ob,s.heap.get? a=some ob/\ob.dict=none:=by
 cases x with
 | str z =>
   obtain ⟨t,rfl⟩:=r
   cases (show T = "str" from ty)
   exact ⟨typeIs_str s z t,λ _ e=>nomatch e⟩
 | int i =>
   obtain ⟨t,rfl⟩:=r
   cases (show T = "int" from ty)
   exact ⟨typeIs_int s i t,λ _ e=>nomatch e⟩
 | ref p =>
   cases r
   rcases ty with ⟨rfl,xs,hq⟩ | ⟨rfl,o,hk,hc,hd⟩ | ⟨rfl,hk⟩ | ⟨rfl,S,n,hk⟩
   ·obtain ⟨its,_,pl,_⟩:=I.list hq
    refine ⟨pl.isList.typeIs,λ a e => ?_⟩
    cases e
    obtain ⟨o,n,e,c,hd,_⟩:=pl
    exact ⟨o,e,hd⟩
   ·refine ⟨⟨o,I.jN p o hk,hc⟩,λ a e => ?_⟩
    cases e
    exact ⟨o,I.jN _ o hk,hd⟩
   ·have z : ∃ o,s.heap.get? p=some o/\o.ExactDict:=by
     rcases hk with ⟨kvs,hk⟩ | ⟨kvs,hk⟩
     ·obtain ⟨_,_,_,_,o,_,_,e,ex,_⟩:=I.hok p _ hk
      exact ⟨o,e,ex⟩
     ·obtain ⟨_,_,_,_,o,_,_,e,ex,_⟩:=I.hok p _ hk
      exact ⟨o,e,ex⟩
    obtain ⟨o,e,ex⟩:=z
    refine ⟨⟨o,e,ex.1⟩,λ a e2 => ?_⟩
    cases e2
    exact ⟨o,e,ex.2.1⟩
   ·obtain ⟨o,_,_,_,e,ex,_⟩:=I.hok p _ hk
    refine ⟨⟨o,e,ex.1⟩,λ a e2 => ?_⟩
    cases e2
    exact ⟨o,e,ex.2.1⟩
 | _=>exact False.elim ty
def FZ (K:PySem.W.Frag) (T:String) (r:V->List V->Hp->VK->Prop) (to:TE):TE:=fun σ H Q=>to σ H λ x H1=>G3 K T x H1/\r x [] H1 Q
def HW (K:PySem.W.Frag) (T:String) (r:V->List V->Hp->VK->Prop) (to:TE) (t:TA):TE:=fun σ H Q=>to σ H λ x H1=>G3 K T x H1/\t σ H1 λ xs H2=>r x xs H2 Q
variable {o e:Expr} {es:List Expr} {to:TE} {t:TA} {name:Str} {apos cpos:Pos} {T id:String} {r:V->List V->Hp->VK->Prop}
theorem F0 (pa:PlainAttrs T) (slot:Slot T name id) (hty:typeOf (.builtin id)=pure (.type "method_descriptor")) (hm:KN X id r) (ho:PE X o to)
  (hbase:attributeBase o name X.env (eval o X.env)=eval o X.env:=by rfl) (hline:(apos.endLine == cpos.line)=true:=by rfl):PE X (.Call (.Attribute o name apos) [] [] cpos) (FZ X.K T r to):=by
 intro pins s σ H Q I h
 refine wpAny_Call_method0_late hbase hline (bL (ho pins s σ H _ I h) ?_)
 rintro v s1 ⟨x,H1,I1,r1,ty,q1⟩
 obtain ⟨h1,h2⟩:=Bp I1 r1 ty
 exact ⟨T,id,pa,slot,hty,h1,h2,Calls.callWith_builtin rfl (PySem.evalArgs_none (hm pins s1 σ H1 x [] v [] Q I1 r1 .nil q1))⟩
theorem jP (pa:PlainAttrs T) (slot:Slot T name id) (hty:typeOf (.builtin id)=pure (.type "method_descriptor")) (hm:KN X id r) (ho:PE X o to) (ha:PA X (e::es) t)
  (hbase:attributeBase o name X.env (eval o X.env)=eval o X.env:=by rfl)
  (hfew:((backTo cpos (starEach (e::es) X.env)).all (λ x => !x.1) && (backToKw cpos (keywordEach [] X.env)).all (λ x=>x.1.isSome)
   && decide ((e::es).length+([]:List Keyword).length+(if ([]:List Keyword).isEmpty then 0 else 1) < 30))=true:=by rfl)
  (hline:(apos.endLine == cpos.line)=true:=by rfl) (hs:starEach (e::es) X.env=(false,eval e X.env)::starEach es X.env:=by rfl) (hplain:(backTo cpos (starEach es X.env)).any (·.1)=false:=by rfl) :
  PE X (.Call (.Attribute o name apos) (e::es) [] cpos) (HW X.K T r to t):=by
 intro pins s σ H Q I h
 refine wpAny_Call_method_late hbase hfew hline rfl (bL (ho pins s σ H _ I h) ?_)
 rintro v s1 ⟨x,H1,I1,r1,ty,q1⟩
 obtain ⟨h1,h2⟩:=Bp I1 r1 ty
 refine ⟨T,id,pa,slot,hty,h1,h2,?_⟩
 have hA:=ha cpos pins s1 σ H1 _ I1 q1
 rw [hs] at hA ⊢
 refine Calls.callWith_builtin (by show (false || (backTo cpos (starEach es X.env)).any (·.1))=false;rw [hplain] <;> rfl) (Calls.evalArgs_plain ?_)
 exact bL hA λ us s2 ⟨vs,H2,I2,r2,q2⟩=>hm pins s2 σ H2 x vs v us Q I2 r1 r2 q2
/- xs.append(e),list.index on a Bq tuple .. are KN facts of 06m -/
end
def KP (X:Cx) (id:String) (r:V->List V->Hp->VK->Prop):Prop :=
 ∀ (pins:List (Addr×Obj)) (s:Shared) (σ : St) (H:Hp) (x:V) (xs:List V) (v:Value) (us:List Value) (Q:VK),Inv X pins σ H s->RelV x v->Vals xs us->r x xs H Q →
   wpAny (model X.prog X.w) X.A (call (.builtin id) (v::us)) (EP X pins σ Q) X.xe s
theorem Vals.one : ∀ {x:V} {us:List Value},Vals [x] us->∃ u,us = [u]/\RelV x u:=vals1
theorem Vals.two : ∀ {x y:V} {us:List Value},Vals [x,y] us->∃ u v,us = [u,v]/\RelV x u/\RelV y v:=vals2
theorem Vals.zero : ∀ {us:List Value},Vals [] us->us = []
 | _,.nil=>rfl
theorem Vals.dropLast {xs:List V} {us:List Value} (h:Vals xs us):Vals xs.dropLast us.dropLast:=by
 induction h with
 | nil=>exact .nil
 | cons r t ih =>
   cases t with
   | nil=>exact .nil
   | cons q t'=>exact .cons r ih
theorem Vals.rep {xs:List V} {us:List Value} (h:Vals xs us) : ∀ k:Nat,Vals (List.replicate k xs).flatten (List.replicate k us).flatten
 | 0 => .nil
 | k+1=>by
   rw [List.replicate_succ,List.replicate_succ,List.flatten_cons,List.flatten_cons]
   exact Vals.append h (Vals.rep h k)
theorem xh {α : Type} (l:List α):l.eraseIdx (l.length - 1)=l.dropLast:=by
 induction l with
 | nil=>rfl
 | cons a r ih =>
   cases r with
   | nil=>rfl
   | cons b r =>
     have e:(a::b::r).length - 1=((b::r).length - 1)+1:=by
      have h1:(a::b::r).length=r.length+2:=rfl
      have h2:(b::r).length=r.length+1:=rfl
      omega
     rw [e,List.eraseIdx_cons_succ,ih]
     all_goals rfl
theorem foldl_rep (its:List Value) : ∀ (k:Nat) (acc:List Value),
  List.foldl (λ x1 x2=>x1++x2) acc.toArray (List.replicate k its.toArray)=(acc++(List.replicate k its).flatten).toArray
 | 0,acc=>by simp
 | k+1,acc=>by
   have e:acc.toArray++its.toArray=(acc++its).toArray:=by simp
   have e2:(acc++its)++(List.replicate k its).flatten=acc++(List.replicate (k+1) its).flatten:=by
    rw [List.replicate_succ,List.flatten_cons,List.append_assoc]
   rw [<-e2,<-foldl_rep its k (acc++its),<-e,List.replicate_succ,List.foldl_cons]
section
variable {X:Cx} {pins:List (Addr×Obj)} {σ : St} {H:Hp} {s:Shared} {l b:Addr} {xs ys zs:List V}
theorem Inv.F1 {its its':List Value} {n:Nat} {f:Array Value->Array Value} {t':Nat} (I:Inv X pins σ H s) (hH:H l=some (.lst xs))
  (e:s.heap.get? l=some { cls := .type "list",data := .seq its.toArray n }) (hf:f its.toArray=its'.toArray) (hv:Vals ys its') (hz:ys.length<=sizeLine) :
  Inv X pins σ (upd H l (.lst ys)) { s with heap:=s.heap.update l (Obj.mapSeq f),toks:=t' } := by
 have q:=PySem.IsL.update e f
 rw [hf] at q
 refine I.write (x:=l) (e:=l) (by rw [hH];exact trivial) (.inl rfl) (λ b' u hb hu=>(Heap.get?_update_other s.heap (Obj.mapSeq f) (Ne.symm hb)).trans hu) ⟨_,q⟩ ?_
 exact ⟨hz,its',_,hv,q⟩
theorem Inv.HX {its:List Value} {t':Nat} (I:Inv X pins σ H s) (hv:Vals ys its) (hz:ys.length<=sizeLine) :
  Inv X pins σ (upd H s.heap.objs.size (.lst ys)) { s with heap:=s.heap.push { cls := .type "list",data := .seq its.toArray },toks:=t' } :=
 I.laid (λ _ _ q=>Heap.get?_push_of_some _ q) (Nat.le_refl _) ⟨hz,its,0,hv,Heap.get?_push_size _ rfl⟩
theorem Inv.fresh (I:Inv X pins σ H s):H s.heap.objs.size=none:=I.hok.fresh (Nat.le_refl _)
theorem Inv.xj (I:Inv X pins σ H s) (hH:H l=some (.lst xs)):xs.length<=sizeLine ∧ ∃ (its:List Value) (n:Nat),Vals xs its/\xs.length=its.length/\s.heap.get? l=some { cls := .type "list",data := .seq its.toArray n } := by
 obtain ⟨z,its,n,r,e⟩:=I.hok l _ hH
 exact ⟨z,its,n,r,r.length,e⟩
theorem uX {n:Nat} (h:n<=sizeLine):Builtin.List.listTooLong n=false:=by
 unfold Builtin.List.listTooLong
 exact decide_eq_false (by omega)
end
section
variable {X:Cx}
def oA:V->List V->Hp->VK->Prop:=λ x vs H Q => ∃ l xs y,x = .ref l/\vs = [y]/\H l=some (.lst xs)/\xs.length < sizeLine/\Q .aN (upd H l (.lst (xs++[y])))
theorem bY:KP X "list.append" oA:=by
 intro pins s σ H x vs v us Q I rx rv h
 obtain ⟨l,xs,y,rfl,rfl,hH,hz,q⟩:=h
 cases rx
 obtain ⟨u,rfl,ru⟩:=rv.one
 obtain ⟨z,its,n,r,hl,e⟩:=I.xj hH
 refine call_meets F.slot_list_append ⟨_,e,rfl⟩ F.entry_list_append (F.args_list_append_2 _ _) (PySem.list_append l its.toArray n u (by rw [List.size_toArray];omega)) ⟨e,?_⟩
 refine ⟨.aN,_,I.F1 (its':=its++[u]) hH e (by simp) (r.append (.cons ru .nil)) ?_,rfl,q⟩
 rw [List.length_append,List.length_singleton]
 omega
def DO:V->List V->Hp->VK->Prop:=λ x vs H Q => ∃ l b xs zs,x = .ref l/\vs = [.ref b]/\H l=some (.lst xs)/\H b=some (.lst zs)/\xs.length+zs.length<=sizeLine/\Q .aN (upd H l (.lst (xs++zs)))
theorem zW:KP X "list.extend" DO:=by
 intro pins s σ H x vs v us Q I rx rv h
 obtain ⟨l,b,xs,zs,rfl,rfl,hH,hB,hz,q⟩:=h
 cases rx
 obtain ⟨u,rfl,ru⟩:=rv.one
 cases ru
 obtain ⟨z,its,n,r,hl,e⟩:=I.xj hH
 obtain ⟨z2,its2,n2,r2,hl2,e2⟩:=I.xj hB
 have hsz:its.toArray.size+its2.toArray.size<=sizeLine:=by rw [List.size_toArray,List.size_toArray];omega
 have Br : ¬ (!its.toArray.isEmpty && Builtin.List.listTooLong (its.toArray.size+its2.toArray.size))=true:=by
  rw [uX hsz,Bool.and_false]
  exact Bool.false_ne_true
 refine call_meets F.slot_list_extend ⟨_,e,rfl⟩ F.entry_list_extend (F.args_list_extend_2 _ _)
  (AutoSeq1.list_extend_list_list_0 l its.toArray n b its2.toArray n2 Br (by rw [List.size_toArray];omega) (by omega)) ⟨e,e2,?_⟩
 refine ⟨.aN,_,I.F1 (its':=its++its2) hH e (by simp) (r.append r2) ?_,rfl,q⟩
 rw [List.length_append]
 omega
def KQ:V->List V->Hp->VK->Prop:=λ x vs H Q => ∃ l xs y,x = .ref l/\vs = []/\H l=some (.lst xs)/\xs[xs.length - 1]? = some y/\Q y (upd H l (.lst xs.dropLast))
theorem F2:KP X "list.pop" KQ:=by
 intro pins s σ H x vs v us Q I rx rv h
 obtain ⟨l,xs,y,rfl,rfl,hH,hy,q⟩:=h
 cases rx
 have Oh:=rv.zero
 subst Oh
 obtain ⟨z,its,n,r,hl,e⟩:=I.xj hH
 obtain ⟨u,hu,ru⟩:=r.get hy
 have hy':its.toArray[its.toArray.size - 1]? = some u:=by
  show its.toArray[its.length - 1]? = some u
  rw [<-Array.getElem?_toList,<-hl]
  exact hu
 refine call_meets F.slot_list_pop ⟨_,e,rfl⟩ F.entry_list_pop (F.args_list_pop_1 _) (MeetsSeq.list_pop_last l its.toArray n u hy' (by rw [List.size_toArray];omega)) ⟨e,?_⟩
 refine ⟨y,_,I.F1 (its':=its.dropLast) hH e ?_ r.dropLast ?_,ru,q⟩
 ·show its.toArray.eraseIdxIfInBounds (its.toArray.size - 1)=its.dropLast.toArray
  rw [List.size_toArray,List.eraseIdxIfInBounds_toArray,xh]
 ·rw [List.length_dropLast]
  omega
def Bs:R2:=λ x y H Q => ∃ l b xs zs,x = .ref l/\y = .ref b/\H l=some (.lst xs)/\H b=some (.lst zs)/\xs.length+zs.length<=sizeLine ∧ ∀ p,H p=none->Q (.ref p) (upd H p (.lst (xs++zs)))
theorem Bt:nD X (binaryOp .Add) Bs:=by
 intro pins s σ H x y v u Q I rx ry h
 obtain ⟨l,b,xs,zs,rfl,rfl,hH,hB,hz,q⟩:=h
 cases rx
 cases ry
 obtain ⟨z,its,n,r,hl,e⟩:=I.xj hH
 obtain ⟨z2,its2,n2,r2,hl2,e2⟩:=I.xj hB
 refine PySem.P.add_list e e2 ?_ (by rw [List.size_toArray,List.size_toArray];omega)
 have ea:its.toArray++its2.toArray=(its++its2).toArray:=by simp
 rw [ea]
 exact ⟨.ref _,_,I.HX (t':=s.toks) (r.append r2) (by rw [List.length_append];omega),rfl,q _ I.fresh⟩
def DP:R2:=λ x y H Q => ∃ l k xs,x = .ref l/\y = .int k/\H l=some (.lst xs) ∧ -(2 ^ 63)<=k/\k < 2 ^ 63/\xs.length * k.toNat<=sizeLine ∧
 ∀ p,H p=none->Q (.ref p) (upd H p (.lst (List.replicate k.toNat xs).flatten))
theorem len_rep {α : Type} (xs:List α) (k:Nat):(List.replicate k xs).flatten.length=k * xs.length:=by
 induction k with
 | zero=>simp
 | succ k ih=>rw [List.replicate_succ,List.flatten_cons,List.length_append,ih,Nat.succ_mul,Nat.add_comm]
theorem mR:nD X (binaryOp .Mult) DP:=by
 intro pins s σ H x y v u Q I rx ry h
 obtain ⟨l,k,xs,rfl,rfl,hH,h1,h2,hz,q⟩:=h
 cases rx
 obtain ⟨t,rfl⟩:=ry
 obtain ⟨z,its,n,r,hl,e⟩:=I.xj hH
 have hlen:its.toArray.size * k.toNat<=sizeLine:=by rw [List.size_toArray,<-hl];exact hz
 have hcap : ¬ its.toArray.size * k.toNat > (2 ^ 63 - 1) / 8:=by
  have:(sizeLine:Nat)<=(2 ^ 63 - 1) / 8:=by decide
  omega
 have hfit : ¬ (!Builtin.List.listFitsIndex k)=true:=by
  rw [fitsIndex_both h1 h2]
  exact Bool.false_ne_true
 have Br : ¬ Builtin.List.listTooLong (its.toArray.size * k.toNat)=true:=by
  rw [uX hlen]
  exact Bool.false_ne_true
 have hnew:List.foldl (λ x1 x2=>x1++x2) #[] (List.replicate (if its.toArray.isEmpty=true then 0 else k.toNat) its.toArray)=(List.replicate k.toNat its).flatten.toArray:=by
  have f0 : ∀ m:Nat,List.foldl (λ x1 x2=>x1++x2) #[] (List.replicate m its.toArray)=(List.replicate m its).flatten.toArray:=λ m=>by
   have:=foldl_rep its m []
   rw [List.nil_append] at this
   exact this
  rw [f0]
  cases its with
  | nil=>simp
  | cons a r'=>rw [if_neg (by simp)]
 refine wpAny_binaryOp_repeat_ref (T := "list") (U := "int") (by decide) ⟨_,e,rfl⟩ (λ s'=>typeIs_int s' k t) noFill_list_mul F.fills_int_mul F.slot_int_rmul repeat_list F.slot_int_index.lookup
  (call_meets F.slot_int_rmul (typeIs_int s k t) F.entry_int_rmul (F.args_int_rmul_2 _ _) (int___rmul___int_list k t l its.toArray n)
   ⟨e,rfl,⟨_,e,rfl⟩,call_meets F.slot_list_mul ⟨_,e,rfl⟩ F.entry_list_mul (F.args_list_mul_2 _ _) (AutoListH.list___mul___list_int_3 l its.toArray n k t hfit hcap Br) ⟨e,?_⟩⟩)
 rw [hnew]
 exact ⟨.ref _,_,I.HX (t':=s.toks) (r.rep k.toNat) (by rw [len_rep,Nat.mul_comm];exact hz),rfl,q _ I.fresh⟩
end
section
variable {prog:Program} {w:World} {A:Around} {E:Value->Shared->Prop} {s:Shared}
end
section
variable {X:Cx}
end
end L2
namespace JP
open PySem PySem.W PySem.Calls PyProof.Rows
theorem nZ {P:Params} {h:Heap} : ∀ (ns:List Int) (vs:List Value),WellAll P h vs (ns.map WData.int)->IntsAre vs ns:=by
 intro ns
 induction ns with
 | nil =>
   intro vs w
   rw [List.map_nil] at w
   cases w
   exact .nil
 | cons n ns ih =>
   intro vs w
   rw [List.map_cons] at w
   cases w with
   | cons a b =>
     cases a
     exact .cons _ _ (ih _ b)
theorem zX {l:OpenLaw} {n:Nat} (hn:l.most=some n) {P:Params} {h:Heap} {args:List WData} {vals:List Value}
  (hpre:l.row.toRowW.claim.pre args=true) (hwl:WellAll P h vals args) :
  ∃ a vs ns,vals = [Value.ref a]/\args = [WData.list (ns.map WData.int)]/\h.get? a=some { cls := .type "list",data := .seq vs.toArray } ∧ IntsAre vs ns/\ns.length<=n:=by
 have hsh:WShape.hasAll [] args [.list .int]=true:=(pre_splitW hpre).1
 have hc:l.pre.holds [] { args:=args } = true:=(pre_splitW hpre).2
 obtain ⟨d,r,rfl,h1,h2⟩:=hasAllW_cons hsh
 obtain rfl:=hasAllW_nil h2
 obtain ⟨xs,rfl,h3⟩:=hasW_list h1
 obtain ⟨ns,rfl⟩:=items_int h3
 have hlen:ns.length<=n:=by
  unfold OpenLaw.pre at hc
  have h4:(WTm.not (.lt (.lit (.int (n:Int))) (.len (.arg 0)))).holds [] { args:=[.list (ns.map .int)] } = true:=by
   have h4:=(holds_andW hc).1
   rw [hn] at h4
   exact h4
  have h5:=condW_of h4 (w_not (w_lt w_lit (w_len_list (w_arg rfl))))
  rw [List.length_map] at h5
  refine Nat.le_of_not_lt λ q => ?_
  have q':(n:Int) < ((ns.length:Nat):Int):=by omega
  first
   | (rw [decide_eq_true q'] at h5;exact absurd h5 (by decide))
   | (simp at h5;omega)
 cases hwl with
 | cons w1 w2 =>
   cases w2
   cases w1 with
   | list ho hall=>exact ⟨_,_,ns,rfl,rfl,ho,nZ ns _ hall,hlen⟩
theorem zY (l:OpenLaw) (args:List WData):l.row.toRowW.claim.post args (.bool true) args=true :=
 postW_of (r:=l.row.toRowW) (X:=(true == true))
  (show WShape.has [] (.bool true) .bool=true by first | rfl | decide | simp [WShape.has,WShape.arms,WShape.armsAll])
  (show (WTm.eq .res (.lit (.bool true))).value [] { args:=args,res:=some (.bool true),after:=args } = some (.bool (true == true)) from w_eq_bool (w_res rfl) w_lit) rfl
section
variable {prog:Program} {w:World} {A:Around} {E:Value->Shared->Prop} {s:Shared} {K:Frag}
def ledger (h:Heap) (L d:Addr):List (Addr×Obj):=(List.range h.objs.size).filterMap λ a=>if a=L\/a=d then none else (h.get? a).map λ o=>(a,o)
end
end JP
namespace L2
open PySem PySem.Spec PyProof.Rows
theorem jy : ∀ {vs:List Value} {ns:List Int},IntsAre vs ns->Vals (ns.map V.int) vs
 | _,_,.nil => .nil
 | _,_,.cons n t h => .cons ⟨t,rfl⟩ (jy h)
def DQ (H:Hp):Prop := ∀ b,H b=none ∨ ∃ o xs,H b=some (.ux o (.lst xs))
theorem Bu {P:Program} {w:World} {K:PySem.W.Frag} {mg mb:Str->Option Value} {CX:yo} {k:Nat} {fa a:Addr} {fd:FuncData} {x:Str} {sp:Sp} {s₁ : Shared} {vs:List Value} {ns:List Int}
  (KX:K.In s₁.heap) (hns:s₁.heap.Ns mainGlobals mg) (hb:s₁.heap.Ns builtinsNs mb) (Oi : ∀ x:Str,x ≠ "__name__"->mb x=bootBuiltins x) (hlim:s₁.heap.NoLimit) (hg:s₁.gens = #[])
  (ha:s₁.heap.get? a=some { cls := .type "list",data := .seq vs.toArray }) (hi:IntsAre vs ns) (hl:ns.length<=sizeLine) (hr:bK k callerA)
  (F : ∀ base:Heap,K.In base->base.Ns mainGlobals mg->(dQ P w K mg base) CX k fa fd [x] sp) (hbind : ∀ (s:Shared) (u:Value),BindsTo s fd ⟨[u],[]⟩ [(x,u)])
  (uz : ∀ H:Hp,DQ H->bW K H a (ns.map V.int)->sp [.ref a] H (λ v _=>v = .bl true) λ _ _ _=>False)
  (Oj : ∀ H e s',CX [] H s₁ (λ _ _ _=>False) e s'->False) :
  codeAny (model P w) callerA (.call (.ref fa) ⟨[.ref a],[]⟩) (λ r s'=>r = .ok (.ret (.bool true))/\OldK s₁.heap s'.heap/\s'.os=s₁.os/\AllBare s'.gens) s₁ := by
 have rv:=jy hi
 have KR:=hi.length
 -- from an abstract heap in which nothing but C9 script may be tracked
 have core : ∀ H:Hp,DQ H->bW K H a (ns.map V.int)->ic P w H s₁.heap->(∀ b,H b≠none->b=a)->(H a≠none->K.lookup a=none) →
   codeAny (model P w) callerA (.call (.ref fa) ⟨[.ref a],[]⟩) (λ r s'=>r = .ok (.ret (.bool true))/\OldK s₁.heap s'.heap/\s'.os=s₁.os/\AllBare s'.gens) s₁ := by
  intro H hO hS hok hA hK
  have yw : ∀ {b:Addr} {o:Obj},s₁.heap.get? b=some o->H b=none->(rX s₁.heap H).get? b=some o:=λ e n=>AV e n
  have HL : ∀ {b:Addr} {o:Obj} {es:Array DictEntry} {ep:Nat},s₁.heap.get? b=some o->o.data = .dict es ep->H b=none:=fun {b o es ep} e d=>by
   cases q:H b with
   | none=>rfl
   | some u =>
     have e':b=a:=hA b (by rw [q];simp)
     subst e'
     rw [ha] at e;cases e
     have d':Data.seq vs.toArray _=Data.dict es ep:=d
     cases d'
  have JQ : ∀ {b:Addr} {m:Str->Option Value},s₁.heap.Ns b m->(rX s₁.heap H).Ns b m:=fun {b m} ⟨o,es,ep,e,d,r⟩=>⟨o,es,ep,yw e (HL e d),d,r⟩
  have MW:K.In (rX s₁.heap H):=λ b o e=>yw (KX b o e) (by
   cases q:H b with
   | none=>rfl
   | some u =>
     have e':b=a:=hA b (by rw [q];simp)
     subst e'
     rw [hK (by rw [q];simp)] at e;cases e)
  have hM:Mod K mg (rX s₁.heap H):=⟨MW,JQ hns,⟨mb,JQ hb,Oi⟩,let ⟨mc,h1,h2⟩:=hlim; ⟨mc,JQ h1,h2⟩⟩
  have e0:wX P w K mg (rX s₁.heap H) callerA [] s₁ H:=⟨rfl,hM,λ b o e=>Dl e,Nat.le_of_eq (zF _ _),trivial,λ b hb=>absurd (show b∈([]:List Addr) from hb) (by simp),hok,.of_eq hg⟩
  refine codeAny_mono ((F _ MW (JQ hns)).run callerA [] s₁ H ⟨[.ref a],[]⟩ [.ref a] [.ref a] _ _ hr e0 (hbind s₁ (.ref a)) (.cons rfl .nil) (uz H hO hS)) λ r s' h => ?_
  cases r with
  | error e=>exact (Oj H e s' h).elim
  | ok fl =>
    cases fl with
    | next=>exact False.elim h
    | brk=>exact False.elim h
    | cont=>exact False.elim h
    | ret u =>
      obtain ⟨v,H',os,bare,un,KS,r',q⟩:=h
      have q':v = .bl true:=q
      subst q'
      obtain rfl:u=Value.bool true:=r'
      refine ⟨rfl,OldK.of_keep λ b o e => ?_,os,bare⟩
      cases q:H b with
      | none=>exact un.keep b o e q (by intro z;exact absurd (show b∈([]:List Addr) from z) (by simp)) (by simp)
      | some u =>
        rcases hO b with z | ⟨ob,xs,z⟩
        ·rw [q] at z;cases z
        ·have z2:=un.gg b ob _ z
         obtain ⟨e1,_⟩:=hok b _ z
         obtain ⟨e2,_⟩:=KS b _ z2
         rw [e] at e1;cases e1
         exact e2
 cases hk:K.lookup a with
 | some o =>
   -- C9 script is one of C9 Bq own objects
   have e:=KX a o hk
   rw [ha] at e
   cases e
   refine core (λ _=>none) (λ _ => .inl rfl) (.inr ⟨_,vs.toArray,_,hk,rfl,rfl,rfl,by rw [List.size_toArray,KR];exact hl,by simpa using rv⟩) (λ b u z=>by have z':(none:Option HO)=some u:=z;cases z') (λ b z=>absurd rfl z) λ z=>absurd rfl z
 | none =>
   refine core (λ b=>if b=a then some (.ux { cls := .type "list",data := .seq vs.toArray } (.lst (ns.map V.int))) else none) (λ b => ?_) (.inl (.inr ⟨{ cls := .type "list",data := .seq vs.toArray },if_pos rfl⟩)) (λ b u z => ?_) (λ b z => ?_) λ _=>hk
   ·by_cases hb:b=a
    ·exact .inr ⟨_,_,if_pos hb⟩
    ·exact .inl (if_neg hb)
   ·by_cases hb:b=a
    ·have z':=(if_pos hb).symm.trans z
     cases z'
     subst hb
     exact ⟨ha,by rw [List.length_map];exact hl,vs,_,rv,ha⟩
    ·have z':=(if_neg hb).symm.trans z
     cases z'
   ·by_cases hb:b=a
    ·exact hb
    ·exact absurd (if_neg hb) z
abbrev KOf {K:PySem.W.Frag} {h:Heap} (_:K.In h):PySem.W.Frag:=K
end L2
/- Qd Ol JR (shape; Qe,My.* are MX):
   My.Qf: a structure of C9 addresses Om Oo MY names (classes,G4); My.Txt K t: a structure (Prop) of C9 equations over K;
   My.F3 : {K} {implicit addresses ..} (e1:nsIn K mainGlobals "law" = some (some (.ref f))) (e2:K.lookup f=some ⟨oc,od,.func (fnOf "law" "law" params body scope dV kV doc pm an cdv ct),sl⟩) (e3:codeIn K cdv "law" = true) .. : ∃ t,My.Txt K t
set_option maxRecDepth 100000 in
set_option maxHeartbeats 0 in
theorem PySem.Challenge.cw_LID_holds : PySem.Challenge.rw_LID.Holds := by
 w_on;o_law;k_head; (case hw=>w_witness2)
 k_fill
 refine L2.JS (l := PySem.Challenge.rw_LID) (n := 63) (k := 40) (x := "script") (CX := fun w => ..) (sp := fun _ => My.KU) rfl (by decide) rfl ⟨rfl, by decide, by decide⟩ (fun w h Y => PySem.W.kIn_of Y) ?F ?S ?C
 case F =>
  intro w mg fa h KX G hmg
  have T : ∃ t,My.Txt (L2.KOf KX) t:=by
   dsimp only [L2.KOf]                          -- K Oq stand as «<heap const> w.params» for k_is
   refine' My.F3 ?e1 ?e2 ?e3 ..
   (case e1=>PySem.W.k_is)                    -- in C9 order: a name -> its address -> its object -> its parts
   (case e2=>PySem.W.k_is)
   ..
  obtain ⟨t,T⟩:=T
  have e0:=hmg.symm.trans (PySem.W.mg_of KX G T.law)
  cases e0                                       -- fa is C9 MZ own address
  exact ⟨_,λ s u => .of_eq rfl,λ base kb nb=>My.F4 T kb nb⟩     -- if «.of_eq rfl» comes Qg early: refine' ⟨_,?b,λ base kb nb=>My.F4 T kb nb⟩;exact λ s u => .of_eq rfl
 case S=>exact λ w H a ns hl hO hS => ..
 case C=>exact ..
(C9 tactic k_is has no namespace: write k_is) -/
namespace L2
open PySem PySem.Spec PyProof.Rows
def inClass (s:Stmt) (j:Nat):Stmt:=match s with
 | .ClassDef _ _ _ body _ _ _ _ _ _ _=>body.getD j (.Pass ⟨0,0,0,0⟩)
 | _ => .Pass ⟨0,0,0,0⟩
def bD (s:Stmt):Arguments:=match s with
 | .FunctionDef _ a _ _ _ _ _ _ _ _=>a
 | _ => { posonlyargs:=[],args:=[],vararg:=none,kwonlyargs:=[],kw_defaults:=[],kwarg:=none,defaults:=[] }
def aP (s:Stmt):List Stmt:=match s with
 | .FunctionDef _ _ b _ _ _ _ _ _ _=>b
 | _=>[]
def ai (s:Stmt):Scope:=match s with
 | .FunctionDef _ _ _ _ _ _ sc _ _ _=>sc
 | _ => { kind := .function,names:=[],isGenerator:=false,isCoroutine:=false }
abbrev M0:yo:=λ _ _ _ _ _ _=>False
abbrev E0:XK:=λ _ _ _=>False
structure yx (K:PySem.W.Frag) (x qual:Str) (st:Stmt) (f:Addr) (fd:FuncData):Prop where
 ex : ∃ (oc:Value) (od:Option Addr) (kV doc pm:Value) (an:Option Addr) (cdv ct:Value) (osl:Array (Option Value)),
  fd=PySem.W.fnOf x qual (bD st) (aP st) (ai st) .none kV doc pm an cdv ct/\K.lookup f=some ⟨oc,od,.func fd,osl⟩/\PySem.W.codeIn K cdv qual=true
 kp:PySem.W.keepIn K (.ref f)=true
section
variable {P:Program} {w:World} {K:PySem.W.Frag} {mg:Str->Option Value} {base:Heap}
theorem yx.ok {x qual:Str} {st:Stmt} {f:Addr} {fd:FuncData} {N ps:List Str} {k:Nat} {sp:Sp} (F:yx K x qual st f fd) (S:b6 N ps (ai st)) (len : ∀ vs H Q E,sp vs H Q E->vs.length=ps.length)
  (hbody : ∀ (cdv:Value) (A:Around) (outer:List Env) (s:Shared) (H:Hp) (vs:List V) (Q:VK) (E:XK),bK k (A.deeper (envOfC qual (ai st) s.heap.objs.size f cdv))->sp vs H Q E →
   ∃ t,qm (nY M0 P w K mg base N qual (ai st) f cdv A outer s H E).uy (aP st) t/\t { nx:=λ _ H'=>Q .aN H',rt:=Q } (start N vs) H):(dQ P w K mg base) M0 (k+1) f fd ps sp:=by
 obtain ⟨oc,od,kV,doc,pm,an,cdv,ct,osl,rfl,lk,hcd⟩:=F.ex
 refine oO lk hcd S len λ A outer s H vs Q E hr uz => ?_
 obtain ⟨t,h,q⟩:=hbody cdv A outer s H vs Q E hr uz
 exact ⟨t,h.uy,q⟩
theorem yx.binds {x qual:Str} {st:Stmt} {f:Addr} {fd:FuncData} {ps:List Str} (F:yx K x qual st f fd)
  (h : ∀ (kV doc pm:Value) (an:Option Addr) (cdv ct:Value) (us:List Value),us.length=ps.length->bindArgs (PySem.W.fnOf x qual (bD st) (aP st) (ai st) .none kV doc pm an cdv ct) ⟨us,[]⟩ = pure (ps.zip us)):Binds K fd ps []:=by
 obtain ⟨oc,od,kV,doc,pm,an,cdv,ct,osl,rfl,lk,hcd⟩:=F.ex
 exact .all (h kV doc pm an cdv ct)
theorem xm {x qual:Str} {st:Stmt} {f:Addr} {oc:Value} {od an:Option Addr} {osl:Array (Option Value)} {kV doc pm cdv ct:Value} (l:K.lookup f=some ⟨oc,od,.func (PySem.W.fnOf x qual (bD st) (aP st) (ai st) .none kV doc pm an cdv ct),osl⟩)
  (c:PySem.W.codeIn K cdv qual=true) (k:PySem.W.keepIn K (.ref f)=true):yx K x qual st f (PySem.W.fnOf x qual (bD st) (aP st) (ai st) .none kV doc pm an cdv ct):=⟨⟨oc,od,kV,doc,pm,an,cdv,ct,osl,rfl,l,c⟩,k⟩
end
section
variable {X:Cx}
theorem pv (i:Nat) {x:Str} {pos:Pos} (hN:X.N[i]? = some x:=by rfl) (hv:Fv X.env.scope x:=by first | exact Or.inl rfl | exact Or.inr (Or.inl rfl) | exact Or.inr (Or.inr rfl)) (hd:(x == ("__debug__" : Str))=false:=by decide)
  (hcd:(x == ("__classdict__" : Str))=false:=by decide):PE X (.Name x pos) (uE i):=wJ hN hv hd hcd
theorem aq (i:Nat) {x:Str} {pos:Pos} (h:X.N[i]? = some x/\Fv X.env.scope x/\(x == ("__debug__" : Str))=false/\(x == ("__classdict__" : Str))=false):PE X (.Name x pos) (uE i):=wJ h.1 h.2.1 h.2.2.1 h.2.2.2
theorem zZ:eT X (.builtin "len") (λ xs H Q => ∃ a kvs,xs = [V.ref a]/\H a=some (.dK kvs)/\Q (.int kvs.length) H):=by
 intro pins s σ H xs us Q I r h
 obtain ⟨a,kvs,rfl,ha,q⟩:=h
 obtain ⟨u,rfl,ru⟩:=vals1 r
 cases ru
 exact HP I (.inl ha) λ t s' I'=>⟨.int kvs.length,H,I',⟨t,rfl⟩,q⟩
end
theorem HY {A B:Prop} (h:B):if false=true then A else B:=by
 rw [if_neg Bool.false_ne_true]
 exact h
theorem HZ {A B:Prop} (h:A):if true=true then A else B:=by
 rw [if_pos rfl]
 exact h
theorem F5 {c A B:Prop} [Decidable c] (h1:c->A) (h2 : ¬ c->B):if c then A else B:=by
 by_cases h:c
 ·rw [if_pos h]
  exact h1 h
 ·rw [if_neg h]
  exact h2 h
def fP (H H':Hp):Prop := ∀ b o,H b=some o->H' b=some o
theorem fP.trans {H H1 H2:Hp} (a:fP H H1) (b:fP H1 H2):fP H H2:=λ c o h=>b c o (a c o h)
theorem fP.free {H H':Hp} (e:fP H H') {l:Addr} (h:H' l=Option.none):H l=Option.none:=by
 cases q:H l with
 | none=>rfl
 | some o =>
   rw [e l o q] at h
   cases h
theorem fP.seq {K:PySem.W.Frag} {H H':Hp} {a:Addr} {xs:List V} (e:fP H H') (h:bW K H a xs):bW K H' a xs:=by
 rcases h with (h | ⟨o,h⟩) | h
 ·exact .inl (.inl (e _ _ h))
 ·exact .inl (.inr ⟨o,e _ _ h⟩)
 ·exact .inr h
section
variable {κ : Type} [DecidableEq κ]
theorem Bv {kvs:List (κ × V)} {k : κ} (h:bN kvs k=none) : ¬ k∈kvs.map (·.1):=by
 intro m
 obtain ⟨p,hp,e⟩:=List.mem_map.mp m
 have q:(kvs.any λ kv=>decide (kv.1=k))=true:=List.any_eq_true.mpr ⟨p,hp,decide_eq_true e⟩
 rw [dH,h] at q
 exact absurd q (by simp)
theorem DR {kvs:List (κ × V)} {k : κ} {v:V} (h:bN kvs k=some v):k∈kvs.map (·.1):=by
 have q:(kvs.any λ kv=>decide (kv.1=k))=true:=by
  rw [dH,h]
  all_goals rfl
 obtain ⟨p,hp,e⟩:=List.any_eq_true.mp q
 exact List.mem_map.mpr ⟨p,hp,of_decide_eq_true e⟩
theorem jz {p : κ × V} {r:List (κ × V)} {k : κ} (e:p.1=k):bR (p::r) k=bR r k:=by
 unfold bR
 rw [List.filter_cons,if_neg (by simp [e])]
theorem jA {p : κ × V} {r:List (κ × V)} {k : κ} (e : ¬ p.1=k):bR (p::r) k=p::bR r k:=by
 unfold bR
 rw [List.filter_cons,if_pos (by simp [e])]
theorem rC {kvs:List (κ × V)} {k : κ} {p : κ × V} (h:p∈bR kvs k):p∈kvs:=(List.mem_filter.mp h).1
theorem oW : ∀ {kvs:List (κ × V)} {k : κ},(kvs.map (·.1)).Nodup->((bR kvs k).map (·.1)).Nodup
 | [],_,_=>List.nodup_nil
 | p::r,k,h=>by
   have h:(p.1::r.map (·.1)).Nodup:=h
   obtain ⟨h1,h2⟩:=List.nodup_cons.mp h
   by_cases e:p.1=k
   ·rw [jz e]
    exact oW h2
   ·rw [jA e]
    show (p.1::(bR r k).map (·.1)).Nodup
    refine List.nodup_cons.mpr ⟨λ m=>h1 ?_,oW h2⟩
    obtain ⟨q,hq,eq⟩:=List.mem_map.mp m
    exact List.mem_map.mpr ⟨q,rC hq,eq⟩
end
structure Bw (P:Program) (w:World) (l:List Env) (H:Hp) (h0:Heap) (H':Hp) (h:Heap) (ea:Addr) (cls:Value):Prop where
 un:Un (frs l) [] H H' h0 h
 hok:ic P w H' h
 new:h0.get? ea=none
 KW : ∃ B a0,Heap.FlyingW B l ea cls a0 h/\(∀ b u o,H' b=some u->h.get? b=some o->B.get? b=some o) ∧ ∀ b o o',h0.get? b=some o->h.get? b=some o'->b ∉ frs l->B.get? b=some o'
def mF (P:Program) (w:World):yo:=λ outer H s E e s' => ∃ (H':Hp) (ea:Addr) (cls:Value),e = .ref ea/\s'.os=s.os/\AllBare s'.gens/\Bw P w outer H s.heap H' s'.heap ea cls/\E cls none H'
theorem au {P:Program} {w:World} {X:Cx} : Passes (mF P w) X E0:=λ _ _ _ _ _ _ _ ⟨_,_,_,_,_,_,_,h⟩=>h.elim
def Def (K:PySem.W.Frag) (mg:Str->Option Value) (x:Str) (st:Stmt):Prop := ∃ f fd,mg x=some (.ref f)/\yx K x x st f fd
structure aM (P:Program) (w:World) (K:PySem.W.Frag) (mg:Str->Option Value) (base:Heap) (k:Nat) (x:Str) (ps:List Str) (sp:Sp):Prop where
 ex : ∃ f fd,mg x=some (.ref f)/\PySem.W.keepIn K (.ref f)=true/\Binds K fd ps []/\(dQ P w K mg base) (mF P w) k f fd ps sp
theorem aM.mono {P:Program} {w:World} {K:PySem.W.Frag} {mg:Str->Option Value} {base:Heap} {j k:Nat} {x:Str} {ps:List Str} {sp:Sp} (F:(aM P w K mg base) j x ps sp) (h:j<=k):(aM P w K mg base) k x ps sp:=by
 obtain ⟨f,fd,h1,h2,h3,h4⟩:=F.ex
 exact ⟨f,fd,h1,h2,h3,h4.mono h⟩
section
variable {P:Program} {w:World} {K:PySem.W.Frag} {mg:Str->Option Value} {base:Heap}
theorem yx.okN {x qual:Str} {st:Stmt} {f:Addr} {fd:FuncData} {N ps:List Str} {k:Nat} {sp:Sp} (F:yx K x qual st f fd) (S:b6 N ps (ai st)) (len : ∀ vs H Q E,sp vs H Q E->vs.length=ps.length)
  (hbody : ∀ (cdv:Value) (A:Around) (outer:List Env) (s:Shared) (H:Hp) (vs:List V) (Q:VK) (E:XK),bK k (A.deeper (envOfC qual (ai st) s.heap.objs.size f cdv))->sp vs H Q E →
   ∃ t,qm (nY (mF P w) P w K mg base N qual (ai st) f cdv A outer s H E).uy (aP st) t/\t { nx:=λ _ H'=>Q .aN H',rt:=Q } (start N vs) H):(dQ P w K mg base) (mF P w) (k+1) f fd ps sp:=by
 obtain ⟨oc,od,kV,doc,pm,an,cdv,ct,osl,rfl,lk,hcd⟩:=F.ex
 refine oO lk hcd S len λ A outer s H vs Q E hr uz => ?_
 obtain ⟨t,h,q⟩:=hbody cdv A outer s H vs Q E hr uz
 exact ⟨t,h.uy,q⟩
theorem Def.ok {x:Str} {st:Stmt} {N ps:List Str} {k:Nat} {sp:Sp} (D:Def K mg x st) (S:b6 N ps (ai st)) (len : ∀ vs H Q E,sp vs H Q E->vs.length=ps.length)
  (hb : ∀ (kV doc pm:Value) (an:Option Addr) (cdv ct:Value) (us:List Value),us.length=ps.length->bindArgs (PySem.W.fnOf x x (bD st) (aP st) (ai st) .none kV doc pm an cdv ct) ⟨us,[]⟩ = pure (ps.zip us))
  (hbody : ∀ (f:Addr) (cdv:Value) (A:Around) (outer:List Env) (s:Shared) (H:Hp) (vs:List V) (Q:VK) (E:XK),bK k (A.deeper (envOfC x (ai st) s.heap.objs.size f cdv))->sp vs H Q E →
   ∃ t,qm (nY (mF P w) P w K mg base N x (ai st) f cdv A outer s H E).uy (aP st) t/\t { nx:=λ _ H'=>Q .aN H',rt:=Q } (start N vs) H):(aM P w K mg base) (k+1) x ps sp:=by
 obtain ⟨f,fd,hm,F⟩:=D
 refine ⟨f,fd,hm,F.kp,F.binds hb,?_⟩
 obtain ⟨oc,od,kV,doc,pm,an,cdv,ct,osl,rfl,lk,hcd⟩:=F.ex
 refine oO lk hcd S len λ A outer s H vs Q E hr uz => ?_
 obtain ⟨t,h,q⟩:=hbody f cdv A outer s H vs Q E hr uz
 exact ⟨t,h.uy,q⟩
end
section
variable {X:Cx} {k:Nat} {ps:List Str} {sp:Sp} {E:XK} {x:Str} {p pos:Pos} {e:Expr} {es:List Expr} {t:TA}
theorem ak (F:aM X.prog X.w X.K X.mg X.base k x ps sp) (hr:bK k X.A) (hg:Gl X x) (hx:Passes (mF X.prog X.w) X E) (ha:PA X (e::es) t)
  (hdb:(x == ("__debug__" : Str))=false:=by decide) (he:starEach (e::es) X.env=(false,eval e X.env)::starEach es X.env:=by rfl) (hpl:(backTo pos (starEach es X.env)).any (·.1)=false:=by rfl) :
  PE X (.Call (.Name x p) (e::es) [] pos) (nG sp [] E t):=by
 obtain ⟨f,fd,h1,h2,h3,h4⟩:=F.ex
 exact yp h4 hr hg h1 h2 h3 .nil hx ha hdb he hpl
end
section
variable {X:Cx}
def KY (K:PySem.W.Frag):List V->Hp->VK->Prop:=λ xs H Q => ∃ x c t b,xs = [x,c]/\lq K H x t/\((∃ n,c = .ty n/\PySem.W.kitOne K t (.type n)=some b) ∨ ∃ a,c = .ref a/\PySem.W.kitOne K t (.ref a)=some b)/\Q (.bl b) H
theorem Bx:eT X (.builtin "isinstance") (KY X.K):=by
 intro pins s σ H xs us Q I r h
 obtain ⟨x,c,t,b,rfl,ty,hc,q⟩:=h
 obtain ⟨u,v,rfl,ru,rv⟩:=Vals.two r
 rcases hc with ⟨n,rfl,e⟩ | ⟨a,rfl,e⟩
 ·cases (show v=Value.type n from rv)
  exact qY I ru ty e λ tk=>⟨.bl b,H,I.tok tk,rfl,q⟩
 ·cases (show v=Value.ref a from rv)
  exact qY I ru ty e λ tk=>⟨.bl b,H,I.tok tk,rfl,q⟩
end
theorem aW:bootBuiltins "isinstance" = some (.builtin "isinstance"):=by decide +kernel
theorem cH:bootBuiltins "len" = some (.builtin "len"):=by decide +kernel
theorem By:bootBuiltins "int" = some (.type "int"):=by decide +kernel
theorem yy:bootBuiltins "bool" = some (.type "bool"):=by decide +kernel
theorem d9:bootBuiltins "list" = some (.type "list"):=by decide +kernel
theorem BA:bootBuiltins "tuple" = some (.type "tuple"):=by decide +kernel
theorem jB:bootBuiltins "sorted" = some (.builtin "sorted"):=by decide +kernel
theorem xo:bootBuiltins "min" = some (.builtin "min"):=by decide +kernel
theorem F6:bootBuiltins "max" = some (.builtin "max"):=by decide +kernel
theorem qw:bootBuiltins "ValueError" = some (.type "ValueError"):=by decide +kernel
structure e9 (mg:Str->Option Value):Prop where
 isinstance:mg "isinstance" = none
 len:mg "len" = none
 int:mg "int" = none
 bool:mg "bool" = none
 str:mg "str" = none
 list:mg "list" = none
 tuple:mg "tuple" = none
 dict:mg "dict" = none
 range:mg "range" = none
 sorted:mg "sorted" = none
 min:mg "min" = none
 max:mg "max" = none
 all:mg "all" = none
 any:mg "any" = none
 enumerate:mg "enumerate" = none
 sum:mg "sum" = none
 ValueError:mg "ValueError" = none
theorem F7 {K:PySem.W.Frag} {h:Heap} {mg:Str->Option Value} (X:K.In h) (G:h.Ns mainGlobals mg)
  (z0:PySem.W.nsIn K mainGlobals "isinstance" = some none)
  (z1:PySem.W.nsIn K mainGlobals "len" = some none)
  (z2:PySem.W.nsIn K mainGlobals "int" = some none)
  (z3:PySem.W.nsIn K mainGlobals "bool" = some none)
  (z4:PySem.W.nsIn K mainGlobals "str" = some none)
  (z5:PySem.W.nsIn K mainGlobals "list" = some none)
  (z6:PySem.W.nsIn K mainGlobals "tuple" = some none)
  (z7:PySem.W.nsIn K mainGlobals "dict" = some none)
  (z8:PySem.W.nsIn K mainGlobals "range" = some none)
  (z9:PySem.W.nsIn K mainGlobals "sorted" = some none)
  (M3:PySem.W.nsIn K mainGlobals "min" = some none)
  (ES:PySem.W.nsIn K mainGlobals "max" = some none)
  (ET:PySem.W.nsIn K mainGlobals "all" = some none)
  (G5:PySem.W.nsIn K mainGlobals "any" = some none)
  (G6:PySem.W.nsIn K mainGlobals "enumerate" = some none)
  (M4:PySem.W.nsIn K mainGlobals "sum" = some none)
  (M5:PySem.W.nsIn K mainGlobals "ValueError" = some none)
  : e9 mg:=⟨PySem.W.mg_none_of X G z0,PySem.W.mg_none_of X G z1,PySem.W.mg_none_of X G z2,PySem.W.mg_none_of X G z3,PySem.W.mg_none_of X G z4,PySem.W.mg_none_of X G z5,PySem.W.mg_none_of X G z6,PySem.W.mg_none_of X G z7,PySem.W.mg_none_of X G z8,PySem.W.mg_none_of X G z9,PySem.W.mg_none_of X G M3,PySem.W.mg_none_of X G ES,PySem.W.mg_none_of X G ET,PySem.W.mg_none_of X G G5,PySem.W.mg_none_of X G G6,PySem.W.mg_none_of X G M4,PySem.W.mg_none_of X G M5⟩
def cZ (mg:Str->Option Value) (x:Str) (n:Int):Prop := ∃ t,mg x=some (.int n t)
theorem BB {K:PySem.W.Frag} {h:Heap} {mg:Str->Option Value} {x:Str} {n:Int} {t:Tok} (X:K.In h) (G:h.Ns mainGlobals mg) (z:PySem.W.nsIn K mainGlobals x=some (some (.int n t))):cZ mg x n:=⟨t,PySem.W.mg_of X G z⟩
theorem aH {X:Cx} {x:Str} {n:Int} {pos:Pos} (h:cZ X.mg x n) (hg:Gl X x) (hd:(x == ("__debug__" : Str))=false:=by decide):PE X (.Name x pos) (tC (.int n)):=by
 obtain ⟨t,h⟩:=h
 exact d8 hg h ⟨t,rfl⟩ hd
theorem F8 {K:PySem.W.Frag} {h:Heap} {mg:Str->Option Value} {x:Str} {st:Stmt} {f:Addr} {oc:Value} {od an:Option Addr} {osl:Array (Option Value)} {kV doc pm cdv ct:Value} (X:K.In h) (G:h.Ns mainGlobals mg)
  (a:PySem.W.nsIn K mainGlobals x=some (some (.ref f))) (l:K.lookup f=some ⟨oc,od,.func (PySem.W.fnOf x x (bD st) (aP st) (ai st) .none kV doc pm an cdv ct),osl⟩)
  (c:PySem.W.codeIn K cdv x=true) (k:PySem.W.keepIn K (.ref f)=true):Def K mg x st:=⟨f,_,PySem.W.mg_of X G a,xm l c k⟩
theorem Ia {P:Program} {w:World} {K:PySem.W.Frag} {mg:Str->Option Value} {st:Stmt} {fa:Addr} {k:Nat} {sp:Sp} {x:Str} (D:Def K mg "law" st) (hmg:mg "law" = some (.ref fa))
  (hb : ∀ (kV doc pm:Value) (an:Option Addr) (cdv ct u:Value),bindArgs (PySem.W.fnOf "law" "law" (bD st) (aP st) (ai st) .none kV doc pm an cdv ct) ⟨[u],[]⟩ = pure [(x,u)])
  (ok : ∀ (base:Heap) (f:Addr) (fd:FuncData),yx K "law" "law" st f fd->(dQ P w K mg base) (mF P w) k f fd [x] sp) :
  ∃ fd:FuncData,(∀ (s:Shared) (u:Value),BindsTo s fd ⟨[u],[]⟩ [(x,u)]) ∧ ∀ base:Heap,K.In base->base.Ns mainGlobals mg->(dQ P w K mg base) (mF P w) k fa fd [x] sp:=by
 obtain ⟨f,fd,hm,F⟩:=D
 rw [hm] at hmg
 cases hmg
 obtain ⟨oc,od,kV,doc,pm,an,cdv,ct,osl,rfl,lk,hcd⟩:=id F.ex
 exact ⟨_,λ s u => .of_eq (hb kV doc pm an cdv ct u),λ base _ _=>ok base _ _ F⟩
theorem BC {CX:yo} {P:Program} {w:World} {K:PySem.W.Frag} {mg:Str->Option Value} {base:Heap} {N:List Str} {qual:Str} {scope:Scope} {f:Addr} {cd:Value} {A:Around} {outer:List Env} {s:Shared} {H:Hp} {E:XK} : (nY CX P w K mg base N qual scope f cd A outer s H E).K=K:=rfl
def Is {α : Sort _} (a b : α):Prop:=a=b
theorem Is.eq {α : Sort _} {a b : α} (h:Is a b):a=b:=h
theorem Is.rfl {α : Sort _} {a : α} : Is a a:=Eq.refl a
theorem KZ {t u:TS} {D:Ends} {σ : St} {H:Hp} (h : ∀ M,Is M (u D)->t { D with nx:=M } σ H):uK t u D σ H:=h _ Is.rfl
def EU (K:PySem.W.Frag) (a:Addr) (g:TG) (tb:TS) (D:Ends) (σ : St) (H:Hp):Prop :=
 ∃ W:Nat->Nat->St->Hp->Prop,(∃ m,W 0 m σ H) ∧ ∀ i m σ H,W i m σ H →
     ((AO K a).stop i H/\D.nx σ H)\/((AO K a).go i H ∧ ∃ N:St->Hp->Prop,(∀ σ' H',N σ' H'->∃ m',m' < m/\W (i+1) m' σ' H') ∧ ∀ x H',(AO K a).Dp i H x H'->g x σ H' fun σ2 H2=>tb { D with nx:=N,ct:=N,bk:=D.nx } σ2 H2)
theorem forL {K:PySem.W.Frag} {tl:TE} {g:TG} {tb:TS} {D:Ends} {σ : St} {H:Hp}
  (h : ∀ L,Is L (λ a H1=>EU K a g tb D σ H1)->tl σ H λ x H1 => ∃ a,x = .ref a/\(∃ xs,bW K H1 a xs)/\L a H1):FD (uL K tl) g tb D σ H:=h _ Is.rfl
theorem jQ {K:PySem.W.Frag} {a:Addr} {g:TG} {tb:TS} {D:Ends} {σ : St} {H:Hp} (xs:List V) (Pv:Nat->St->Hp->Prop) (h0:Pv 0 σ H) (hl : ∀ i σ H,i<=xs.length->Pv i σ H->bW K H a xs)
  (hs : ∀ i x σ H,xs[i]? = some x->Pv i σ H->g x σ H fun σ2 H2=>tb { D with nx:=Pv (i+1),ct:=Pv (i+1),bk:=D.nx } σ2 H2) (hd : ∀ σ H,Pv xs.length σ H->D.nx σ H):EU K a g tb D σ H:=A8 Pv h0 hl hs hd
def EV (lo:Int) (n:Nat) (g:TG) (tb:TS) (D:Ends) (σ : St) (H:Hp):Prop :=
 ∃ W:Nat->Nat->St->Hp->Prop,(∃ m,W 0 m σ H) ∧ ∀ i m σ H,W i m σ H →
     ((wM lo n).stop i H/\D.nx σ H)\/((wM lo n).go i H ∧ ∃ N:St->Hp->Prop,(∀ σ' H',N σ' H'->∃ m',m' < m/\W (i+1) m' σ' H') ∧ ∀ x H',(wM lo n).Dp i H x H'->g x σ H' fun σ2 H2=>tb { D with nx:=N,ct:=N,bk:=D.nx } σ2 H2)
theorem yz {ta:TA} {g:TG} {tb:TS} {D:Ends} {σ : St} {H:Hp}
  (h : ∀ L,Is L (λ n H1=>EV 0 n g tb D σ H1)->ta σ H λ vs H1 => ∃ j:Int,vs = [.int j] ∧ -(2 ^ 62)<=j/\j < 2 ^ 62/\L j.toNat H1):FD (A7 ta) g tb D σ H:=h _ Is.rfl
theorem yC {lo:Int} {n:Nat} {g:TG} {tb:TS} {D:Ends} {σ : St} {H:Hp} (Pv:Nat->St->Hp->Prop) (h0:Pv 0 σ H)
  (hs : ∀ i σ H,i < n->Pv i σ H->g (.int (lo+i)) σ H fun σ2 H2=>tb { D with nx:=Pv (i+1),ct:=Pv (i+1),bk:=D.nx } σ2 H2) (hd : ∀ σ H,Pv n σ H->D.nx σ H):EV lo n g tb D σ H:=zL Pv h0 hs hd
theorem K0 {c:Prop} [Decidable c] {A B:Prop} (h1:c->A) (h2 : ¬ c->B):if decide c=true then A else B:=by
 by_cases h:c
 ·rw [decide_eq_true h];exact HZ (h1 h)
 ·rw [decide_eq_false h];exact HY (h2 h)
theorem oX {H:Hp} {a:Addr} {o:HO} (h:H a=none):fP H (upd H a o):=λ b o' e=>by rw [aQ (cX e h)];exact e
end L2
local macro_rules | `(tactic| walk_at "rd") => `(tactic| simp only [L2.uK,L2.wL])
namespace L2
open PySem PySem.Spec PyProof.Rows
section
variable {X:Cx}
def xq:R2:=λ x y H Q => ∃ p i,x = .ref p/\y = .int i/\((∃ xs,H p=some (.lst xs) ∧ ∃ v,iB xs i=some v/\Q v H)\/(∃ xs,H p=some (.tup xs) ∧ ∃ v,iB xs i=some v/\Q v H))
theorem aE:HV X xq:=by
 intro value slice pins s σ H x y v u Q I rx ry h hs
 obtain ⟨p,i,e1,e2,⟨xs,hp,z,ha,q⟩ | ⟨xs,hp,z,ha,q⟩⟩:=h
 ·exact yv value slice pins s σ H x y v u Q I rx ry ⟨p,xs,i,z,e1,e2,bW.of hp,ha,q⟩ hs
 ·exact FW value slice pins s σ H x y v u Q I rx ry ⟨p,xs,i,z,e1,e2,r6.of hp,ha,q⟩ hs
def lD:List V->Hp->VK->Prop:=λ xs H Q => ∃ p,xs = [.ref p]/\((∃ ys,H p=some (.lst ys)/\Q (.int ys.length) H)\/(∃ ys,H p=some (.tup ys)/\Q (.int ys.length) H)\/(∃ kvs,H p=some (.dK kvs)/\Q (.int kvs.length) H))
theorem bh:eT X (.builtin "len") lD:=by
 intro pins s σ H xs us Q I r h
 obtain ⟨p,e1,⟨ys,hp,q⟩ | ⟨ys,hp,q⟩ | ⟨kvs,hp,q⟩⟩:=h
 ·exact gC pins s σ H xs us Q I r ⟨p,ys,e1,.inl (bW.of hp),q⟩
 ·exact gC pins s σ H xs us Q I r ⟨p,ys,e1,.inr (r6.of hp),q⟩
 ·exact zZ pins s σ H xs us Q I r ⟨p,kvs,e1,hp,q⟩
theorem yD {α : Type} {x : α} {xs:List α} : iB (x::xs) 0=some x:=fM (j:=0) rfl
theorem yE {α : Type} {x y : α} {xs:List α} : iB (x::y::xs) 1=some y:=fM (j:=1) rfl
theorem yF {α : Type} {x y z : α} {xs:List α} : iB (x::y::z::xs) 2=some z:=fM (j:=2) rfl
theorem yG {α : Type} {x y z t : α} {xs:List α} : iB (x::y::z::t::xs) 3=some t:=fM (j:=3) rfl
theorem yH {α : Type} {x y z t r : α} {xs:List α} : iB (x::y::z::t::r::xs) 4=some r:=fM (j:=4) rfl
def bX (t n:String):Option Bool:=PySem.W.kitOne [] (.type t) (.type n)
def wG (H:Hp):V->Option String
 | .aN=>some "NoneType"
 | .bl _=>some "bool"
 | .int _=>some "int"
 | .str _=>some "str"
 | .ref a=>match H a with
   | some (.lst _)=>some "list"
   | some (.tup _)=>some "tuple"
   | some (.dK _)=>some "dict"
   | _=>none
 | _=>none
theorem F9 {K:PySem.W.Frag} {H:Hp} {x:V} {t:String} (h:wG H x=some t):lq K H x (.type t):=by
 cases x with
 | aN=>cases h;exact .aN
 | bl b=>cases h;exact .bl b
 | int i=>cases h;exact .int i
 | str i=>cases h;exact .str i
 | ref a =>
   unfold wG at h
   cases e:H a with
   | none=>simp only [e] at h;cases h
   | some o =>
     simp only [e] at h
     cases o with
     | lst xs=>cases h;exact .lst e
     | tup xs=>cases h;exact .tup e
     | dK xs=>cases h;exact .dK e
     | _=>cases h
 | _=>cases h
theorem Ga (K:PySem.W.Frag) (t n:String):PySem.W.kitOne K (.type t) (.type n)=bX t n:=by
 unfold bX PySem.W.kitOne PySem.W.kitCls PySem.W.subIn
 rfl
def uZ:List V->Hp->VK->Prop:=λ xs H Q => ∃ x n t b,xs = [x,.ty n]/\wG H x=some t/\bX t n=some b/\Q (.bl b) H
theorem c8:eT X (.builtin "isinstance") uZ:=by
 intro pins s σ H xs us Q I r h
 obtain ⟨x,n,t,b,e1,e2,e3,q⟩:=h
 exact Bx pins s σ H xs us Q I r ⟨x,.ty n,.type t,b,e1,F9 e2,.inl ⟨n,rfl,by rw [Ga];exact e3⟩,q⟩
theorem iK:bX "int" "int" = some true:=rfl
theorem gD:bX "int" "bool" = some false:=rfl
theorem lE:bX "bool" "int" = some true:=rfl
theorem jR:bX "bool" "bool" = some true:=rfl
theorem lF:bX "NoneType" "int" = some false:=rfl
theorem jS:bX "NoneType" "bool" = some false:=rfl
theorem nK:bX "str" "int" = some false:=rfl
theorem lG:bX "str" "bool" = some false:=rfl
theorem lH:bX "list" "int" = some false:=rfl
theorem jT:bX "list" "bool" = some false:=rfl
theorem jU:bX "tuple" "int" = some false:=rfl
theorem iL:bX "tuple" "bool" = some false:=rfl
theorem fQ:bX "list" "list" = some true:=rfl
theorem eF:bX "tuple" "tuple" = some true:=rfl
theorem iM:bX "tuple" "list" = some false:=rfl
theorem iN:bX "list" "tuple" = some false:=rfl
theorem jV:bX "NoneType" "list" = some false:=rfl
theorem iO:bX "NoneType" "tuple" = some false:=rfl
theorem lI:bX "str" "list" = some false:=rfl
theorem lJ:bX "int" "list" = some false:=rfl
theorem jW:bX "bool" "list" = some false:=rfl
theorem jX:bX "int" "tuple" = some false:=rfl
theorem iP:bX "bool" "tuple" = some false:=rfl
theorem nL:bX "str" "str" = some true:=rfl
end
section
variable {X:Cx} {o e:Expr} {to:TE} {t:TA} {apos pos:Pos}
end
theorem fP.old {H H1:Hp} {l:Addr} {o:HO} (s:fP H H1) (h:H l=none):fP H (upd H1 l o):=λ b u e=>by
 rw [aQ (cX e h)];exact s b u e
theorem bx.there {P:Program} {w:World} {H:Hp} {h:Heap} {a:Addr} {o:HO} (x:bx P w H h a o) : ∃ u,h.get? a=some u:=by
 cases o with
 | lst xs=>obtain ⟨_,_,_,_,e⟩:=x;exact ⟨_,e⟩
 | tup xs=>obtain ⟨_,_,_,o,e,_⟩:=x;exact ⟨_,e⟩
 | dK kvs=>obtain ⟨_,_,_,_,o,_,_,e,_⟩:=x;exact ⟨_,e⟩
 | dT kvs=>obtain ⟨_,_,_,_,o,_,_,e,_⟩:=x;exact ⟨_,e⟩
 | set S n=>obtain ⟨o,_,_,_,e,_⟩:=x;exact ⟨_,e⟩
 | ins C dx fs=>obtain ⟨_,_,_,e,_⟩:=x;exact ⟨_,e⟩
 | own y=>obtain ⟨_,e⟩:=x;exact ⟨_,e⟩
 | xd fs=>obtain ⟨_,⟨_,_,_,e,_⟩,_⟩:=x;exact ⟨_,e⟩
 | JG lo hi=>obtain ⟨_,_,_,e⟩:=x;exact ⟨_,e⟩
 | ux ob u=>obtain ⟨e,_⟩:=x;exact ⟨_,e⟩
 | EG ps=>exact ⟨_,(show h.get? a=some _ from x)⟩
 | met f y=>exact ⟨_,(show h.get? a=some _ from x)⟩
 | ext φ => obtain ⟨_,⟨_,e⟩,_⟩:=x;exact ⟨_,e⟩
theorem oY {P:Program} {w:World} {l:List Env} {H H':Hp} {h0 h h2 B:Heap} (un:Un (frs l) [] H H' h0 h) (hok:ic P w H' h) (fr:h.FunFrames B l)
  (tr : ∀ b u o,H' b=some u->h.get? b=some o->B.get? b=some o) (kp : ∀ b o o',h0.get? b=some o->h.get? b=some o'->b ∉ frs l->B.get? b=some o') (st:B.StaysIn h2) (sm:h.UpToSlots h2) :
  Un (frs l) [] H H' h0 h2/\ic P w H' h2:=by
 refine ⟨⟨λ b o q n hb hx => ?_,λ b o q n hb hx => ?_,un.free,λ b o q hx => ?_,un.tups,un.gg,un.gz⟩,λ a o e => ?_⟩
 ·exact st b o (kp b o o q (un.keep b o q n hb hx) hb)
 ·obtain ⟨sl,e⟩:=un.slot b o q n hb hx
  obtain ⟨_,o',ho',hd⟩:=fr.mem hb
  rw [e] at ho';cases ho'
  obtain ⟨zE,e'⟩:=sm b _ e hd
  exact ⟨zE,e'⟩
 ·obtain ⟨o',e⟩:=un.there b o q hx
  by_cases hb:b∈frs l
  ·obtain ⟨_,o2,ho2,hd⟩:=fr.mem hb
   obtain ⟨zE,e'⟩:=sm b _ ho2 hd
   exact ⟨_,e'⟩
  ·exact ⟨o',st b o' (kp b o o' q e hb)⟩
 ·refine (hok a o e).stay (λ b u hb q => ?_) (λ _ q=>q) λ _ _ q=>q
  rcases hb with rfl | hb
  ·exact st b u (tr b _ u e q)
  ·exact st b u (tr b _ u hb q)
theorem yI {fs fs':List Addr} {L:Addr} {H H1 H2:Hp} {h h1 h2:Heap} (a:Un fs [] H H1 h h1) (b:Un fs' [] H1 H2 h1 h2) (hL:h.get? L=none) (sub : ∀ x∈fs',x=L\/x∈fs):Un fs [] H H2 h h2 where
 keep:=λ c ob q n hc hx=>b.keep c ob (a.keep c ob q n hc hx) (a.free c ob q n hx) (λ z=>(sub c z).elim (λ e=>by rw [e,hL] at q;cases q) hc) hx
 slot:=λ c ob q n hc hx=>by
  obtain ⟨sl,e1⟩:=a.slot c ob q n hc hx
  obtain ⟨zE,e2⟩:=b.any e1 (a.free c ob q n hx) hx
  exact ⟨zE,e2⟩
 free:=λ c ob q n hx=>by
  obtain ⟨o',e1⟩:=a.there c ob q hx
  exact b.free c o' e1 (a.free c ob q n hx) hx
 there:=λ c ob q hx=>by
  obtain ⟨o',e1⟩:=a.there c ob q hx
  exact b.there c o' e1 hx
 tups:=λ c xs q=>b.tups c xs (a.tups c xs q)
 gg:=λ c ob xs q=>b.gg c ob xs (a.gg c ob xs q)
 gz:=λ c ps q=>by
  obtain ⟨m1,e1⟩:=a.gz c ps q
  obtain ⟨m2,e2⟩:=b.gz c _ e1
  exact ⟨m1++m2,by rw [e2,Array.append_assoc]⟩
section
variable {P:Program} {w:World} {K:PySem.W.Frag} {mg:Str->Option Value} {base:Heap} {N:List Str} {qual:Str} {scope:Scope} {f:Addr} {cd:Value} {A:Around} {outer:List Env} {s:Shared} {H:Hp} {E:XK}
abbrev yJ (P:Program) (w:World) (K:PySem.W.Frag) (mg:Str->Option Value) (base:Heap) (N:List Str) (qual:Str) (scope:Scope) (f:Addr) (cd:Value) (A:Around) (outer:List Env) (s:Shared) (H:Hp) (E:XK):Cx :=
 nY (mF P w) P w K mg base N qual scope f cd A outer s H E
theorem iQ {L:Addr} {env:Env} {l:List Env} (h:env.frame=some L):frs (env::l)=L::frs l:=by unfold frs;rw [List.filterMap_cons,h]
theorem bA:Passes (mF P w) (yJ P w K mg base N qual scope f cd A outer s H E) E:=by
 intro pins σ H1 s1 e s' I h
 obtain ⟨H',ea,cls,rfl,os,bare,fl,hE⟩:=h
 obtain ⟨B,a0,hfl,tr,kp⟩:=fl.KW
 have fr:=hfl.2.2.1
 show wpAny _ _ (leaving _ _) _ _ s'
 refine wpAny_leaves_onW (I.ok.frames) (L:=s.heap.objs.size) rfl hfl λ h2 n5 sm => ?_
 obtain ⟨DS,sG⟩:=oY fl.un fl.hok fr tr kp n5.1 sm
 have hfs:frs (envOfC qual scope s.heap.objs.size f cd::outer)=s.heap.objs.size::frs outer:=iQ rfl
 have hL:s.heap.get? s.heap.objs.size=none:=Heap.get?_none_of_le (Nat.le_refl _)
 have sub : ∀ x∈frs (envOfC qual scope s.heap.objs.size f cd::outer),x=s.heap.objs.size\/x∈frs outer:=λ x hx=>by rw [hfs] at hx;exact List.mem_cons.mp hx
 refine ⟨H',ea,cls,rfl,os.trans I.os,bare,⟨yI I.base DS hL sub,sG,?_,B,a0,n5,λ b u o e q => ?_,λ b o o2 q q2 hb => ?_⟩,hE⟩
 ·cases q:s.heap.get? ea with
  | none=>rfl
  | some o =>
    obtain ⟨o',e⟩:=I.base.there ea o q (by intro z;cases z)
    rw [fl.new] at e;cases e
 ·obtain ⟨o',e'⟩:=(fl.hok b u e).there
  have h1:=tr b u o' e e'
  have h2':=n5.1 b o' h1
  rw [q] at h2';cases h2';exact h1
 ·obtain ⟨o1,e1⟩:=I.base.there b o q (by intro z;cases z)
  obtain ⟨o',e'⟩:=fl.un.there b o1 e1 (by intro z;cases z)
  have nb:b ∉ frs (envOfC qual scope s.heap.objs.size f cd::outer):=λ z=>(sub b z).elim (λ e=>by rw [e,hL] at q;cases q) hb
  have h1:=kp b o1 o' e1 e' nb
  have h2':=n5.1 b o' h1
  rw [q2] at h2';cases h2';exact h1
theorem sH {pins:List (Addr×Obj)} {σ : St} {H1:Hp} {s2:Shared} {h':Heap} {e C:Addr} {vs:List Value} (I:Inv (yJ P w K mg base N qual scope f cd A outer s H E) pins σ H1 s2)
  (hx:Heap.MadeExcOf s2.heap h' e (.ref C) vs) (hE:E (.ref C) none H1):(yJ P w K mg base N qual scope f cd A outer s H E).xe (.ref e) { s2 with heap:=h' } := by
 have hfs:frs (envOfC qual scope s.heap.objs.size f cd::outer)=s.heap.objs.size::frs outer:=iQ rfl
 have hL:s.heap.get? s.heap.objs.size=none:=Heap.get?_none_of_le (Nat.le_refl _)
 have sub : ∀ x∈frs (envOfC qual scope s.heap.objs.size f cd::outer),x=s.heap.objs.size\/x∈frs outer:=λ x hx=>by rw [hfs] at hx;exact List.mem_cons.mp hx
 have hin : ∀ env∈(envOfC qual scope s.heap.objs.size f cd::outer),∀ b,env.frame=some b->b∈(envOfC qual scope s.heap.objs.size f cd::outer).filterMap (·.frame):=λ env he b hb=>List.mem_filterMap.mpr ⟨env,he,hb⟩
 have M6:s2.heap.FunFrames (PySem.W.hideAll s2.heap (frs (envOfC qual scope s.heap.objs.size f cd::outer))) (envOfC qual scope s.heap.objs.size f cd::outer):=PySem.W.funFrames_hide I.stack hin
 have kB : ∀ b o,s2.heap.get? b=some o->b ∉ frs (envOfC qual scope s.heap.objs.size f cd::outer)->(PySem.W.hideAll s2.heap (frs (envOfC qual scope s.heap.objs.size f cd::outer))).get? b=some o:=λ b o q hb=>PySem.W.hideAll_get _ q hb
 show wpAny _ _ (leaving _ _) _ _ _
 refine wpAny_leaves_madeW (s := { s2 with heap:=h' }) (base:=PySem.W.hideAll s2.heap (frs (envOfC qual scope s.heap.objs.size f cd::outer))) (h:=s2.heap) I.ok.frames (L:=s.heap.objs.size) rfl (λ b o q=>PySem.W.of_hideAll _ q) M6 hx λ h2 t n5 _ _ sm => ?_
 have G7 : ∀ b u,H1 b=some u->b ∉ frs (envOfC qual scope s.heap.objs.size f cd::outer):=λ b u q z=>by rw [I.rY b z] at q;cases q
 have tr : ∀ b u o,H1 b=some u->h'.get? b=some o->(PySem.W.hideAll s2.heap (frs (envOfC qual scope s.heap.objs.size f cd::outer))).get? b=some o:=λ b u o q qo=>by
  obtain ⟨o',e'⟩:=(I.hok b u q).there
  have:=hx.keeps b o' e'
  rw [qo] at this;cases this
  exact kB b _ e' (G7 b u q)
 have kp : ∀ b o o',s2.heap.get? b=some o->h'.get? b=some o'->b ∉ frs (envOfC qual scope s.heap.objs.size f cd::outer)->(PySem.W.hideAll s2.heap (frs (envOfC qual scope s.heap.objs.size f cd::outer))).get? b=some o':=λ b o o' q q' hb=>by
  have:=hx.keeps b o q
  rw [q'] at this;cases this
  exact kB b _ q hb
 obtain ⟨DS,sG⟩:=oY (l:=envOfC qual scope s.heap.objs.size f cd::outer) (H:=H1) (H':=H1) (h0:=s2.heap) (Un.kept hx.keeps) (I.hok.kept hx.keeps) (M6.of_keeps λ b o q _=>⟨o,hx.keeps b o q,rfl⟩) tr kp n5.1 sm
 refine ⟨H1,e,.ref C,rfl,I.os,I.bare,⟨yI I.base DS hL sub,sG,?_,_,_,n5,λ b u o q qo => ?_,λ b o o2 q q2 hb => ?_⟩,hE⟩
 ·cases q:s.heap.get? e with
  | none=>rfl
  | some o =>
    obtain ⟨o',e'⟩:=I.base.there e o q (by intro z;cases z)
    rw [hx.new] at e';cases e'
 ·obtain ⟨o',e'⟩:=(I.hok b u q).there
  have h1:=kB b o' e' (G7 b u q)
  have h2':=n5.1 b o' h1
  rw [qo] at h2';cases h2';exact h1
 ·obtain ⟨o1,e1⟩:=I.base.there b o q (by intro z;cases z)
  have nb:b ∉ frs (envOfC qual scope s.heap.objs.size f cd::outer):=λ z=>(sub b z).elim (λ e=>by rw [e,hL] at q;cases q) hb
  have h1:=kB b o1 e1 nb
  have h2':=n5.1 b o1 h1
  rw [q2] at h2';cases h2';exact h1
end
structure Exc (K:PySem.W.Frag) (mg:Str->Option Value) (x:Str) (C:Addr):Prop where
 wH:mg x=some (.ref C)
 ex:PySem.W.excIn K C [.type "ValueError",.type "Exception",.type "BaseException",.type "object"] "ValueError.__new__" = true
theorem Exc.own {K:PySem.W.Frag} {mg:Str->Option Value} {x:Str} {C:Addr} {h:Heap} (O:Exc K mg x C) (X:K.In h):OwnCls x C [.type "ValueError",.type "Exception",.type "BaseException",.type "object"] "ValueError.__new__" mg h:=by
 refine ⟨O.wH,?_⟩
 have q:=O.ex
 unfold PySem.W.excIn at q
 split at q
 ·rename_i dd cd sl ho
  split at q
  ·rename_i C' bm k0 k1 k2 k3 n k5 hm hs
   simp only [Bool.and_eq_true,beq_iff_eq,Bool.not_eq_true'] at q
   obtain ⟨⟨⟨⟨⟨rfl,rfl⟩,Ic⟩,ht⟩,hok⟩,hni⟩:=q
   obtain ⟨nm,bs,mro,ns,qn,hd,sn,sub,ab,col,del⟩:=cd
   dsimp only at hm Ic hok hni
   subst hm Ic
   have hsl:sl = #[k0,k1,k2,k3,some (.builtin "ValueError.__new__"),k5]:=by
    obtain ⟨l⟩:=sl
    simp only at hs
    rw [hs]
   subst hsl
   exact ⟨bm,ns,nm,qn,bs,hd,sn,sub,ab,col,dd,k0,k1,k2,k3,k5,_,X _ _ ho,.of_isNs (PySem.W.isNs_of_in X hok),PySem.W.nsMap_none_of_in X hok hni,PySem.W.tail_of_in X ht⟩
  ·cases q
 ·cases q
theorem Gb {K:PySem.W.Frag} {h:Heap} {mg:Str->Option Value} {x:Str} {C:Addr} (X:K.In h) (G:h.Ns mainGlobals mg) (a:PySem.W.nsIn K mainGlobals x=some (some (.ref C)))
  (q:PySem.W.excIn K C [.type "ValueError",.type "Exception",.type "BaseException",.type "object"] "ValueError.__new__" = true):Exc K mg x C:=⟨PySem.W.mg_of X G a,q⟩
section
variable {P:Program} {w:World} {K:PySem.W.Frag} {mg:Str->Option Value} {base:Heap} {N:List Str} {qual:Str} {scope:Scope} {f:Addr} {cd:Value} {A:Around} {outer:List Env} {s:Shared} {H:Hp} {E:XK}
def sI (E:XK) (C:Addr) (ta:TA):TS:=λ _ σ H=>ta σ H λ vs H1=>vs.length<=sizeLine/\E (.ref C) none H1
theorem gm {x:Str} {C:Addr} {e₀ : Expr} {np cpos pos:Pos} {ta:TA} (O:Exc K mg x C) (hg:Gl (yJ P w K mg base N qual scope f cd A outer s H E) x) (ha:PA (yJ P w K mg base N qual scope f cd A outer s H E) [e₀] ta)
  (hd:(x == ("__debug__" : Str))=false:=by decide) (he:starEach [e₀] (yJ P w K mg base N qual scope f cd A outer s H E).env = [(false,eval e₀ (yJ P w K mg base N qual scope f cd A outer s H E).env)]:=by rfl) :
  PS (yJ P w K mg base N qual scope f cd A outer s H E) (.Raise (some (.Call (.Name x np) [e₀] [] cpos)) none pos) (sI E C ta):=by
 intro pins s1 σ H1 D I h
 have own:=O.own I.mod.Ft
 obtain ⟨tl,NN,nm,q,bs,hdct,sn,sub,ab,col,dd,k0,k1,k2,k3,k5,mN,hC,hN,hni,T⟩:=own.obj
 refine wpAny_Raise_call_subT (C:=C) (nm:=nm) (q:=q) (N:=NN) (bs:=bs) (bm:=tl) (hdct:=hdct) (sn:=sn) (sub:=sub) (ab:=ab) (col:=col) (dd:=dd) (k0:=k0) (k1:=k1) (k2:=k2) (k3:=k3) (k5:=k5)
  PySem.F.excBase_ValueError (mN:=mN) (T.hasType PySem.F.excBase_ValueError.hasBase) (I.ok.hd rfl) (by rw [he];rfl) hni (gA I hg O.wH ⟨rfl,?_⟩ hd)
 rw [he]
 have ha':=ha cpos pins s1 σ H1 _ I h
 rw [he] at ha'
 refine Calls.evalArgs_plain (wpAny_mono ha' (λ us s2 hq => ?_) λ _ _ y=>y)
 obtain ⟨vs,H2,I2,r,hl,hE⟩:=hq
 exact ⟨rfl,by rw [<-r.length];exact hl,I2.bk _ _ hC,hN.keeps I2.bk,T.keeps I2.bk,λ h' e hx=>sH I2 hx hE⟩
end
abbrev Cx.kI (X:Cx) (ea:Addr):Cx := { X with A:=X.A.mark (some (.ref ea)),calm:=false }
def nM (ea:Addr) (cls:Value):Heap->Prop:=λ h => ∃ o,h.get? ea=some o/\o.cls=cls
section
variable {X:Cx} {pins:List (Addr×Obj)} {σ : St} {H:Hp} {s:Shared}
theorem Inv.kI (I:Inv X pins σ H s) (ea:Addr):Inv (X.kI ea) pins σ H s :=
 ⟨⟨I.ok.mod,I.ok.kind,I.ok.glob,I.ok.blt,I.ok.above,I.ok.inj,I.ok.has,I.ok.Fw,(λ z=>nomatch z),I.ok.frames,I.ok.stk,I.ok.JI,I.ok.bs,I.ok.AN,I.ok.wI,I.ok.zG,I.ok.kZ,I.ok.Dn⟩,I.os,I.bare,I.base,I.loc,I.cell,I.free,I.fJ,I.pin,I.hok,I.len⟩
theorem Inv.uncaught {ea:Addr} (I:Inv (X.kI ea) pins σ H s) (ok:X.Ok):Inv X pins σ H s:=⟨ok,I.os,I.bare,I.base,I.loc,I.cell,I.free,I.fJ,I.pin,I.hok,I.len⟩
theorem Inv.EW {ea:Addr} {o:HO} (I:Inv X pins σ H s) (hn:H ea=none) (h0:X.s₀.heap.get? ea=none) (hL:ea≠X.env.locals) (hc : ∀ x c,X.env.cells.lookup x=some c->c≠ea) (hp : ∀ p∈X.pn++pins,p.1≠ea)
  (new:bx X.prog X.w (upd H ea o) s.heap ea o):Inv X pins σ (upd H ea o) s:=by
 have nn : ∀ b u,H b=some u->b≠ea:=λ b u q z=>by rw [z,hn] at q;cases q
 refine ⟨I.ok,I.os,I.bare,⟨I.base.keep,I.base.slot,λ b ob q n hx => ?_,I.base.there,λ b xs q => ?_,λ b ob u q => ?_,λ b ps q => ?_⟩,I.loc,I.cell,?_,λ x c e => ?_,λ p G8 => ?_,λ b u q => ?_,I.len⟩
 ·rw [aQ (λ z=>by rw [z,h0] at q;cases q)];exact I.base.free b ob q n hx
 ·have:=I.base.tups b xs q
  rw [aQ (nn b _ this)];exact this
 ·have:=I.base.gg b ob u q
  rw [aQ (nn b _ this)];exact this
 ·obtain ⟨m,e⟩:=I.base.gz b ps q
  exact ⟨m,by rw [aQ (nn b _ e)];exact e⟩
 ·rw [aQ (Ne.symm hL)];exact I.free
 ·rw [aQ (hc x c e)];exact I.fJ x c e
 ·obtain ⟨a,b,c,d,e⟩:=I.pin p G8
  exact ⟨a,by rw [aQ (hp p G8)];exact b,c,d,e⟩
 ·by_cases hb:b=ea
  ·subst hb;rw [dG] at q;cases q;exact new
  ·rw [aQ hb] at q
   refine (I.hok b u q).stay (λ _ _ _ r=>r) (λ c r=>by rw [aQ (nn c _ r)];exact r) λ c xs r=>by rw [aQ (nn c _ r)];exact r
theorem jC {M:Model} {A:Around} {E:Value->Shared->Prop} {i:Nat} {x:Str} {pos:Pos} {Q:Unit->Shared->Prop} (I:Inv X pins σ H s) (hN:X.N.Nodup) (hi:X.N[i]? = some x) (hk:X.env.scope.names.lookup x=some .local)
  (h : ∀ s',Inv X pins (σ.set i none) H s'->Q () s'):wpAny M A (do bindName X.env x .none;unbindBehindTheSuite X.env x pos) Q E s:=by
 obtain ⟨m,hn,hl⟩:=id I.loc
 have hcls:(X.env.scope.kind == .class || (X.env.scope.kind == .module && X.env.locals != X.env.globals))=false:=by rw [I.ok.kind];rfl
 have JJ:i < σ.length:=by rw [I.len];exact (List.getElem?_eq_some_iff.mp hi).1
 have AW:=I.AW
 refine wpAny_nameGoes_keeps hk hn hcls λ h' v hn' hs => ?_
 obtain ⟨oL,_,_,C8,_⟩:=id hn
 have tracked:ic X.prog X.w H h':=λ b ob e=>by
  refine (I.hok b ob e).stay (λ c w' hc q=>(hs.2 c ?_).trans q) (λ _ q=>q) λ _ _ q=>q
  rintro rfl
  rcases hc with rfl | hc
  ·rw [I.free] at e;cases e
  ·rw [I.free] at hc;cases hc
 refine h _ ⟨I.ok,I.os,I.bare,⟨λ b o e n hb hx => ?_,λ b o e n hb hx => ?_,I.base.free,λ b o e hx => ?_,I.base.tups,I.base.gg,I.base.gz⟩,⟨_,hn',λ j y v' e1 e2 e3 => ?_⟩,λ y c e => ?_,I.free,I.fJ,λ p hp => ?_,tracked,by simpa using I.len⟩
 ·exact (hs.2 b (Nat.ne_of_lt (Nat.lt_of_lt_of_le (Heap.lt_size e) I.ok.above))).trans (I.base.keep b o e n hb hx)
 ·obtain ⟨sl,e1⟩:=I.base.slot b o e n hb hx
  exact ⟨sl,(hs.2 b (Nat.ne_of_lt (Nat.lt_of_lt_of_le (Heap.lt_size e) I.ok.above))).trans e1⟩
 ·obtain ⟨o',e1⟩:=I.base.there b o e hx
  exact ⟨o',(hs.2 b (Nat.ne_of_lt (Nat.lt_of_lt_of_le (Heap.lt_size e) I.ok.above))).trans e1⟩
 ·by_cases hj:j=i
  ·subst hj
   rw [List.getElem?_set_self JJ] at e2
   cases e2
  ·rw [List.getElem?_set_ne (Ne.symm hj)] at e2
   obtain ⟨u',r',q⟩:=hl j y v' e1 e2 e3
   refine ⟨u',r',?_⟩
   rcases q with ⟨k,e⟩ | ⟨k,c,e,z⟩
   ·refine .inl ⟨k,?_⟩
    have:y≠x:=λ e=>hj (oJ hN e1 (e ▸ hi))
    simp [this,e]
   ·exact .inr ⟨k,c,e,z.sameBut hs (AW y c e)⟩
 ·obtain ⟨w',z⟩:=I.cell y c e
  exact ⟨w',z.sameBut hs (AW y c e)⟩
 ·obtain ⟨e,n,ne,nf,d⟩:=I.pin p hp
  exact ⟨(hs.2 p.1 ne).trans e,n,ne,nf,d⟩
end
abbrev XR (X:Cx) (pins:List (Addr×Obj)) (σ : St) (E:XK):Value->Shared->Prop:=λ e s' => ∃ H1 s1,Inv X pins σ H1 s1/\mF X.prog X.w X.stack H1 s1 E e s'
def M7 (X:Cx) (e:Expr) (t:XK->TE):Prop :=
 ∀ (E:XK) (pins:List (Addr×Obj)) (s:Shared) (σ : St) (H:Hp) (Q:VK),Inv X pins σ H s->t E σ H Q->wpAny (model X.prog X.w) X.A (eval e X.env) (EP X pins σ Q) (XR X pins σ E) s
def M8 (X:Cx) (st:Stmt) (t:XK->TS):Prop :=
 ∀ (E:XK) (pins:List (Addr×Obj)) (s:Shared) (σ : St) (H:Hp) (D:Ends),Inv X pins σ H s->t E D σ H->wpAny (model X.prog X.w) X.A (exec st X.env) (SP X pins D) (XR X pins σ E) s
def Ie (X:Cx) (st:List Stmt) (t:XK->TS):Prop :=
 ∀ (E:XK) (pins:List (Addr×Obj)) (s:Shared) (σ : St) (H:Hp) (D:Ends),Inv X pins σ H s->t E D σ H->wpAny (model X.prog X.w) X.A (execs st X.env) (SP X pins D) (XR X pins σ E) s
section
variable {X:Cx}
theorem BD {st:Stmt} {t:XK->TS} (h1:M8 X st t):Ie X [st] t:=by
 intro E pins s σ H D I h
 refine wpAny_execs_cons (bL (h1 E pins s σ H D I h) λ f s1 q => ?_)
 cases f with
 | next =>
   obtain ⟨σ',H',I',q'⟩:=q
   exact wpAny_execs_nil ⟨σ',H',I',q'⟩
 | _=>exact q
theorem BE {e:Expr} {te:XK->TE} {pos:Pos} (he:M7 X e te) (hs:swapsWith e none pos.line X.env=pure false:=by rfl):M8 X (.Expr e pos) λ E=>qV (te E):=by
 intro E pins s σ H D I h
 exact wpAny_Expr_any (bL (he E pins s σ H _ I h) λ v s1 ⟨x',H1,I1,r,q⟩=>⟨_,_,I1,q⟩) I.quiet hs
end
end L2
namespace PySem.W
open PySem PySem.Spec PySem.Calls PyProof.Rows Builtin Builtin.ObjectAttr Builtin.Getset_descriptor
section
variable {prog:Program} {w:World} {A:Around} {E:Value->Shared->Prop} {s:Shared} {K:Frag} {x C:Addr} {R:Result->Shared->Prop}
theorem Gd {tp:Value} (X:K.In s.heap) (L0 : ∀ M,Looks M s.heap (typeOf (.ref x)) (.ref C)) (hm:mroIn K C (.type "object")=some true)
  (h:R (.ok (.ret (.ref C))) s):codeAny (model prog w) A (.call (.builtin "getset_descriptor.__get__") ⟨[.builtin "object.__class__",.ref x,tp],[]⟩) R s:=by
 obtain ⟨hh,g,dr,t,os⟩:=s
 have L0:=L0 (model prog w)
 have L1:=looks_mroIn (M:=model prog w) X hm
 refine codeAny_call_builtin KF.slot_gs.plain KF.entry_gs (KF.slot_gs.check _ _ _ _ _ _ _ _ KF.type_class (KF.args_gs _ _ _) ?_)
 unfold Builtin.«getset_descriptor.__get__» descrGet
 rw [dga_obj]
 refine wpAny_bind (wpAny_pure ?_)
 unfold descrGetter descrCheckInstance descrNameAndClass isInstance
 simp only [KF.owner_class]
 repeat lk
 refine ⟨Code.quiet_builtin _ (by decide +kernel),codeAny_builtin KF.entry_class ?_⟩
 unfold Builtin.«object.__class__» shownTypeOf
 repeat lk
 exact h
theorem DT {M:Model} {h:Heap} {a g:Value} {name:Str} (X:K.In h) (ha:findIn K (.ref C) name=some (some a)) (hg:specialIn K a "__get__" = some (some g)) (hd:takesIn K a=some true):Looks M h (find (.ref x) (.ref C) name) (.bind g a):=by
 have L1:=looks_findIn (M:=M) X ha
 have L2:Looks M h (getOf (some a)) (some g):=looks_specialIn X hg
 refine L1.andThen (L2.andThen ?_)
 have L3:=looks_takesIn (M:=M) X hd
 exact (show Looks M h (dataDescriptor? (some a) (some g)) (some (g,a)) from L3.andThen .now).andThen (Looks.tag .now)
theorem BF {M:Model} {nameV:Value} {Q:Unit->Shared->Prop} (X:K.In s.heap) (L0 : ∀ M,Looks M s.heap (typeOf (.ref x)) (.ref C)) (hb:subIn K (.ref C) (.type "BaseException")=some true) (hq:Q () s) :
  wpAny M A (checkBuiltinCall "BaseException.__getattribute__" ⟨[.ref x,nameV],[]⟩) Q E s:=by
 have hk:builtinKind "BaseException.__getattribute__" = some .slot:=by decide +kernel
 have hsplit:splitId "BaseException.__getattribute__" = some ("BaseException","__getattribute__"):=by decide +kernel
 have ha:=F.args_bexc_ga (.ref x) nameV
 have L0:=L0 M
 have L1:Looks M s.heap (isSubtype (.ref C) (.type "BaseException")) true:=looks_subIn X hb
 obtain ⟨hh,g,dr,t,os⟩:=s
 simp only [checkBuiltinCall,hk,hsplit]
 refine wpAny_bind ?_
 unfold isInstance
 repeat (any_goals (first | assumption | with_reducible refine Looks.at (by assumption) ?_ | wp_step))
 all_goals exact hq
theorem BG {Q:Option Value->Shared->Prop} (X:K.In s.heap) (L0 : ∀ M h,(∀ b o,s.heap.get? b=some o->h.get? b=some o)->Looks M h (typeOf (.ref x)) (.ref C))
  (h1:findIn K (.ref C) "__getattribute__" = some (some (.builtin "BaseException.__getattribute__"))) (h2:findIn K (.ref C) "__getattr__" = some none) (h3:findIn K (.ref C) "__class__" = some (some (.builtin "object.__class__")))
  (h4:specialIn K (.builtin "object.__class__") "__get__" = some (some (.builtin "getset_descriptor.__get__"))) (h5:takesIn K (.builtin "object.__class__")=some true) (h6:mroIn K C (.type "object")=some true) (h7:subIn K (.ref C) (.type "BaseException")=some true)
  (h:Q (some (.ref C)) { s with toks:=s.toks+1 }):wpAny (model prog w) A (getAttr? (.ref x) "__class__") Q E s:=by
 obtain ⟨hh,g,dr,t,os⟩:=s
 have LT:=L0 (model prog w) hh λ _ _ e=>e
 have L1:=looks_findIn (M:=model prog w) X h1
 have L2:=looks_findIn (M:=model prog w) X h2
 have L3:Looks (model prog w) hh (find (.ref x) (.ref C) "__class__") (.bind (.builtin "getset_descriptor.__get__") (.builtin "object.__class__")):=DT X h3 h4 h5
 have Ot:(Value.builtin "BaseException.__getattribute__" == Value.builtin "object.__getattribute__")=false:=by decide +kernel
 unfold getAttr? getAttrBy? getAttrBy
 refine wpAny_bind (wpAny_mkText (wpAny_bind (wpAny_attempt (wpAny_holding (wpAny_bind (LT.at (wpAny_bind (L1.at ?_))))))))
 dsimp only
 rw [if_neg (by rw [Ot];simp)]
 unfold getAttrByItsOwn hookBefore
 rw [if_pos (by rfl)]
 refine wpAny_bind (L2.at ?_)
 refine wpAny_bind (wpAny_attempt (wpAny_holding ?_))
 unfold callGetattribute
 rw [if_neg (by simp)]
 unfold boundAndCalled
 have ga:Slot "ValueError" "__getattribute__" "BaseException.__getattribute__" := PySem.F.attr_ValueError.ga
 have f3:=ga.bind (.ref x)
 refine wpAny_bind (wpAny_of_eq f3 ?_)
 show wpAny _ _ (call (.builtin "BaseException.__getattribute__") [.ref x,_]) _ _ _
 refine wpAny_call (codeAny_call_builtin ga.plain F.entry_bexc_ga (BF X (λ M=>L0 M hh λ _ _ e=>e) h7 ?_))
 repeat (any_goals (first | assumption | with_reducible refine Looks.at (by assumption) ?_ | wp_step))
 refine Gd X (λ M=>L0 M hh λ _ _ e=>e) h6 ?_
 repeat (any_goals (first | assumption | with_reducible refine Looks.at (by assumption) ?_ | wp_step))
structure DU (K:Frag) (C:Addr):Prop where
 c0:hasDictIn K C=true
 c1:findIn K (.ref C) "__getattribute__" = some (some (.builtin "BaseException.__getattribute__"))
 c2:findIn K (.ref C) "__getattr__" = some none
 c3:findIn K (.ref C) "__class__" = some (some (.builtin "object.__class__"))
 c4:specialIn K (.builtin "object.__class__") "__get__" = some (some (.builtin "getset_descriptor.__get__"))
 c5:takesIn K (.builtin "object.__class__")=some true
 c6:mroIn K C (.type "object")=some true
 c7:subIn K (.ref C) (.type "BaseException")=some true
theorem BH (Z:DU K C):KitX K (.ref x) (.ref C) (L2.nM x (.ref C)) where
 ty:=λ _ _ _ ⟨o,e,c⟩=>c ▸ (Looks.ld e).andThen .now
 it:=λ _ _ X _=>by
  obtain ⟨cdD,Dv,_⟩:=any_some Z.c0
  unfold clsIn at Dv
  split at Dv
  ·rename_i c' d' Ou zE ho
   intro A' Q' E' s' k q
   unfold isType loadHead
   exact wpAny_bind (wpAny_loadPart (k _ _ (X _ _ ho)) (wpAny_pure q))
  ·cases Dv
 ne:=λ h tp dd its n sl X htp=>by
  obtain ⟨cdD,Dv,_⟩:=any_some Z.c0
  refine Bool.eq_false_iff.mpr λ q => ?_
  have e:C=tp:=Value.ref.inj (beq_iff_eq.mp q)
  subst e
  unfold clsIn at Dv
  split at Dv
  ·rename_i c' d' Ou zE ho
   have z:=(X _ _ ho).symm.trans htp
   cases z
  ·cases Dv
 ca:=fun {prog w A E Q s} X I k=>BG X (λ M h kk=>by
  obtain ⟨o,e,c⟩:=I
  exact c ▸ (Looks.ld (kk _ _ e)).andThen .now) Z.c1 Z.c2 Z.c3 Z.c4 Z.c5 Z.c6 Z.c7 k
end
end PySem.W
namespace L2
open PySem PySem.Spec PyProof.Rows
section
variable {X:Cx}
def DV (K:PySem.W.Frag) (C:Addr) (i:Nat) (tb:XK->TS) (ts:TS):TS:=λ D σ H =>
 tb (λ cls _ H'=>PySem.W.exmOne K cls (.ref C)=some true ∧ ∀ ea,H' ea=none →
  ts { nx:=fun σ2 H2=>D.nx (σ2.set i none) H2,rt:=D.rt,bk:=fun σ2 H2=>D.bk (σ2.set i none) H2,ct:=fun σ2 H2=>D.ct (σ2.set i none) H2 } (σ.set i (some (.ref ea))) (upd H' ea (.ext (nM ea cls)))) D σ H
def EX (K:PySem.W.Frag) (C:Addr) (tb:XK->TS) (ts:TS):TS:=λ D σ H =>
 tb (λ cls _ H'=>PySem.W.exmOne K cls (.ref C)=some true/\ts D σ H') D σ H
theorem Ge {pins:List (Addr×Obj)} {σ : St} {H1 H':Hp} {s1 s':Shared} {h6 B:Heap} {ea:Addr} {cls a0:Value} (I:Inv X pins σ H1 s1) (os:s'.os=s1.os) (bare:AllBare s'.gens) (fl:Bw X.prog X.w X.stack H1 s1.heap H' s'.heap ea cls)
  (hfl:Heap.FlyingW B X.stack ea cls a0 s'.heap) (tr : ∀ b u o,H' b=some u->s'.heap.get? b=some o->B.get? b=some o) (kp : ∀ b o o',s1.heap.get? b=some o->s'.heap.get? b=some o'->b ∉ frs X.stack->B.get? b=some o')
  (Ov:Heap.FlyingW B X.stack ea cls a0 h6) (sm:s'.heap.UpToSlots h6):Inv X pins σ H' { s' with heap:=h6 } := by
 obtain ⟨DS,sG⟩:=oY fl.un fl.hok hfl.2.2.1 tr kp Ov.1 sm
 exact I.AX (s' := { s' with heap:=h6 }) (ch:=[]) os DS sG bare (λ _ z=>nomatch z)
theorem Gf {body:List Stmt} {b₀ : Stmt} {suite:List Stmt} {x n:Str} {C:Addr} {i:Nat} {tb:XK->TS} {ts:TS} {np hpos pos:Pos} (hst:X.stack=X.env::X.outer) (hf:X.env.frame=some X.env.locals) (hex:X.ex = []) (hb:Ie X body tb) (hg:Gl X x) (hm:X.mg x=some (.ref C))
  (hN:X.N.Nodup) (hi:X.N[i]? = some n) (hk:X.env.scope.names.lookup n=some .local) (hs : ∀ ea,qm (X.kI ea).uy (b₀ :: suite) ts) (hd:(x == ("__debug__" : Str))=false:=by decide) :
  PS X (.Try body [.ExceptHandler (some (.Name x np)) (some n) (b₀ :: suite) hpos] [] [] pos) (DV X.K C i tb ts):=by
 intro pins s σ H D I h
 refine wpAny_Try_except (wpAny_mono (hb _ pins s σ H D I h) (λ f s1 q => ?_) λ e s' q => ?_)
 ·cases f with
  | next=>exact wpAny_execs_nil q
  | _=>exact q
 ·obtain ⟨H1,s1,I1,H',ea,cls,rfl,os,bare,fl,hmt,k⟩:=q
  obtain ⟨B,a0,hfl,tr,kp⟩:=id fl.KW
  have up : ∀ {h6:Heap},Heap.FlyingW B (X.env::X.outer) ea cls a0 h6->s'.heap.UpToSlots h6->Inv X pins σ H' { s' with heap:=h6 } := λ z sm=>Ge I1 os bare fl hfl tr kp (by rw [hst];exact z) sm
  have Gg:Heap.FlyingW B (X.env::X.outer) ea cls a0 s'.heap:=by rw [<-hst];exact hfl
  refine wpAny_looks_onW (by rw [I1.ok.frames,hst]) hf Gg λ h4 JT Ig => ?_
  refine wpAny_landsW JT λ h5 Gh M9 => ?_
  have I5:=up Gh (Ig.trans M9)
  have JU:H' ea=none:=by
   cases q:H' ea with
   | none=>rfl
   | some u =>
     obtain ⟨o,e⟩:=(fl.hok ea u q).there
     have:=tr ea u o q e
     rw [hfl.2.1] at this;cases this
  refine wpAny_handleBy_cons (codeAny_handlers_test (gA (X:=X.kI ea) (I5.kI ea) hg hm ?_ hd)) (by intro q;cases q)
  have LT:PySem.W.Looks (model X.prog X.w) h5 (typeOf (.ref ea)) cls:=by
   obtain ⟨ob,e,c⟩:=Gh.there
   exact c ▸ (PySem.W.Looks.ld e).andThen .now
  refine (PySem.W.exm_one I5.jN LT hmt).here ?_
  refine codeAny_handlers_suite_as ?_
  refine lands_againW Gh λ h6 Ih Ow => ?_
  have I6:=up Ih ((Ig.trans M9).trans Ow)
  have e0 : ∀ b o,s1.heap.get? b=some o->b≠ea:=λ b o e z=>by rw [z,fl.new] at e;cases e
  have I7:Inv X pins σ (upd H' ea (.ext (nM ea cls))) { s' with heap:=h6 } := by
   refine I6.EW JU ?_ ?_ (λ y c e => ?_) (λ p hp => ?_) ?_
   ·cases q:X.s₀.heap.get? ea with
    | none=>rfl
    | some o =>
      obtain ⟨o',e⟩:=I1.base.there ea o q (by rw [hex];intro z;cases z)
      rw [fl.new] at e;cases e
   ·obtain ⟨m,⟨o,_,_,e,_⟩,_⟩:=I1.loc
    exact (e0 _ o e).symm
   ·obtain ⟨v,o,ho,_⟩:=I1.cell y c e
    exact e0 c o ho
   ·exact e0 _ _ (I1.pin p hp).1
   ·obtain ⟨ob,e,c⟩:=Ih.there
    exact ⟨⟨ob,e,c⟩,⟨ob,e⟩,λ h1 h2 ⟨o1,e1,c1⟩ kk=>⟨o1,kk o1 e1,c1⟩⟩
  refine k8 (X:=X) I7 hN hi (Or.inl hk) (v := .ref ea) rfl (λ s8 I8 => ?_) (Or.inr hk)
  refine wpAny_mono (hs ea pins s8 _ _ _ ((I8.kI ea).gh _) (k ea JU)) (λ f s9 q9 => ?_) λ _ _ z=>z.elim
  cases f with
  | next =>
    obtain ⟨σ',H9,I9,q'⟩:=q9
    exact jC (I9.b4.uncaught I.ok) hN hi hk λ Ii DW=>⟨_,_,DW,q'⟩
  | brk =>
    obtain ⟨σ',H9,I9,q'⟩:=q9
    exact jC (I9.b4.uncaught I.ok) hN hi hk λ Ii DW=>⟨_,_,DW,q'⟩
  | cont =>
    obtain ⟨σ',H9,I9,q'⟩:=q9
    exact jC (I9.b4.uncaught I.ok) hN hi hk λ Ii DW=>⟨_,_,DW,q'⟩
  | ret u =>
    obtain ⟨v,σ',H9,I9,r,q'⟩:=q9
    exact jC (I9.b4.uncaught I.ok) hN hi hk λ Ii DW=>⟨_,_,_,DW,r,q'⟩
end
section
variable {X:Cx} {k:Nat} {f C:Addr} {fd:FuncData} {ps:List Str} {sp:Sp} {x m:Str} {p pos apos:Pos} {e o:Expr} {es:List Expr} {ta:TE} {t:TA}
theorem DX {E:XK} {pins:List (Addr×Obj)} {σ : St} {H:Hp} {s:Shared} {Q:VK} {us:List Value} {vs:List V} (F:dQ X.prog X.w X.K X.mg X.base (mF X.prog X.w) k f fd ps sp) (hr:bK k X.A) (hb:Binds X.K fd ps [])
  (I:Inv X pins σ H s) (r:Vals vs us) (h:sp vs H Q E):wpAny (model X.prog X.w) X.A (call (.ref f) us) (EP X pins σ Q) (XR X pins σ E) s:=by
 have hl:(us++[]).length=ps.length:=by rw [List.append_nil,<-r.length];exact F.len _ _ _ _ h
 refine wpAny_call (codeAny_mono (F.run X.A X.stack s H ⟨us,[]⟩ us vs Q E hr I.FL (by have:=hb s us I.jN hl;rw [List.append_nil] at this;exact this) r h) λ r s' hq => ?_)
 cases r with
 | error e=>exact ⟨H,s,I,hq⟩
 | ok fl =>
   cases fl with
   | ret u=>exact I.after hq
   | next=>exact False.elim hq
   | brk=>exact False.elim hq
   | cont=>exact False.elim hq
theorem Aa (F:aM X.prog X.w X.K X.mg X.base k x ps sp) (hr:bK k X.A) (hg:Gl X x) (ha:PA X.uy (e::es) t)
  (hdb:(x == ("__debug__" : Str))=false:=by decide) (he:starEach (e::es) X.env=(false,eval e X.env)::starEach es X.env:=by rfl) (hpl:(backTo pos (starEach es X.env)).any (·.1)=false:=by rfl) :
  M7 X (.Call (.Name x p) (e::es) [] pos) λ E=>nG sp [] E t:=by
 obtain ⟨f,fd,h1,h2,h3,h4⟩:=F.ex
 intro E pins s σ H Q I h
 refine wpAny_Call_Name_kw (gA I hg h1 ?_ hdb)
 refine PySem.W.callWith_K (h₀ := X.base) I.ok.mod.Ft h2 (wpAny_mono (ha pos pins s σ H _ (I.gh _) h) (λ us s1 ⟨vs,H1,I1,r,q⟩=>⟨I1.jN,?_⟩) λ _ _ z=>z.elim) he hpl
 have q':sp (vs++[]) H1 Q E:=q
 rw [List.append_nil] at q'
 exact DX h4 hr h3 I1.b4 r q'
end
def EY (K:PySem.W.Frag):List V->Hp->VK->Prop:=λ xs H Q => ∃ ea C c b,xs = [.ref ea,c]/\H ea=some (.ext (nM ea (.ref C)))/\PySem.W.DU K C ∧
 ((∃ n,c = .ty n/\PySem.W.kitOne K (.ref C) (.type n)=some b)\/(∃ d,c = .ref d/\PySem.W.kitOne K (.ref C) (.ref d)=some b) ∨ ∃ (d:Addr) (ds:List Addr),c = .ref d/\H d=some (.tup (ds.map V.ref))/\PySem.W.kitAny K (.ref C) (ds.map Value.ref)=some b)/\Q (.bl b) H
theorem rD : ∀ {ds:List Addr} {us:List Value},Vals (ds.map V.ref) us->us=ds.map Value.ref
 | [],_,.nil=>rfl
 | _::_,_,.cons r t=>by rw [rD t,show _=Value.ref _ from r];rfl
theorem Ab {X:Cx} : eT X (.builtin "isinstance") (EY X.K):=by
 intro pins s σ H xs us Q I r h
 obtain ⟨ea,C,c,b,rfl,he,Z,hc,q⟩:=h
 obtain ⟨u,v,rfl,ru,rv⟩:=Vals.two r
 cases (show u=Value.ref ea from ru)
 have ob:nM ea (.ref C) s.heap:=(I.hok ea _ he).1
 have kx:=PySem.W.BH (x:=ea) Z
 rcases hc with ⟨n,rfl,e⟩ | ⟨d,rfl,e⟩ | ⟨d,ds,rfl,hd,e⟩
 ·cases (show v=Value.type n from rv)
  exact PySem.W.kia_one kx I.jN ob e (λ z=>nomatch z) λ tk=>⟨.bl b,H,I.tok tk,rfl,q⟩
 ·cases (show v=Value.ref d from rv)
  exact PySem.W.kia_one kx I.jN ob e (λ z=>nomatch z) λ tk=>⟨.bl b,H,I.tok tk,rfl,q⟩
 ·cases (show v=Value.ref d from rv)
  obtain ⟨_,its,rr,o,h1,h2,n,h3⟩:=(show bx X.prog X.w H s.heap d (.tup (ds.map V.ref)) from I.hok d _ hd)
  have e2:=rD rr
  subst e2
  obtain ⟨oc,od,Qh,osl⟩:=o
  cases h2
  cases h3
  exact PySem.W.kia_tup kx I.jN ob h1 e (λ z=>nomatch z) λ tk=>⟨.bl b,H,I.tok tk,rfl,q⟩
def b5 (cells:List (Str×Addr)):List (Str×NameKind)->List (Str×Addr)->List (Str×Addr)
 | [],cs=>cs
 | (n,k)::r,cs=>b5 cells r (if k == .free then (n,(cells.lookup n).getD 0)::cs else cs)
theorem jY {scope:Scope} {env:Env} (h : ∀ y∈scope.names,y.2 = .free->∃ c,env.cells.lookup y.1=some c):closureFor scope env=pure (b5 env.cells scope.names []):=by
 simp only [closureFor]
 have all : ∀ (l:List (Str×NameKind)) (cs:List (Str×Addr)),(∀ y∈l,y.2 = .free->∃ c,env.cells.lookup y.1=some c) →
   (forIn l cs fun (x:Str×NameKind) (r:List (Str×Addr))=>match x with
    | (name,kind)=>if (kind == NameKind.free)=true then do
      let __do_lift <-cellOf env name
      pure (ForInStep.yield ((name,__do_lift)::r))
     else pure (ForInStep.yield r))=(pure (b5 env.cells l cs):Sem (List (Str×Addr))):=by
  intro l
  induction l with
  | nil=>intro cs _;rfl
  | cons y r ih =>
    intro cs hy
    obtain ⟨n,k⟩:=y
    rw [List.forIn_cons]
    have hr : ∀ y∈r,y.2 = .free->∃ c,env.cells.lookup y.1=some c:=λ y hm=>hy y (List.mem_cons_of_mem _ hm)
    by_cases hk:k = .free
    ·subst hk
     obtain ⟨c,hc⟩:=hy (n,.free) List.mem_cons_self rfl
     have hc':env.cells.lookup n=some c:=hc
     have e1:cellOf env n=pure c:=by unfold cellOf;rw [hc']
     simp only [beq_self_eq_true,if_true,e1,pure_bind]
     rw [ih _ hr]
     simp only [b5,beq_self_eq_true,if_true,hc',Option.getD_some]
    ·have hb:(k == NameKind.free)=false:=by simpa using hk
     simp only [hb,Bool.false_eq_true,if_false,pure_bind]
     rw [ih _ hr]
     simp only [b5,hb,Bool.false_eq_true,if_false]
 first
  | (rw [all scope.names [] h];rfl)
  | (have:=all scope.names [] h;simp only [this,pure_bind])
theorem oZ {cells:List (Str×Addr)} : ∀ (l:List (Str×NameKind)) (cs:List (Str×Addr)) {y:Str} {c:Addr},(b5 cells l cs).lookup y=some c->((y,.free)∈l/\c=(cells.lookup y).getD 0)\/cs.lookup y=some c
 | [],_,_,_,h => .inr h
 | (n,k)::r,cs,y,c,h=>by
   rw [b5] at h
   rcases oZ r _ h with ⟨a,b⟩ | q
   ·exact .inl ⟨List.mem_cons_of_mem _ a,b⟩
   ·by_cases hk:k = .free
    ·subst hk
     simp only [beq_self_eq_true,if_true,List.lookup_cons] at q
     by_cases hy:y=n
     ·subst hy
      simp only [beq_self_eq_true] at q
      cases q
      exact .inl ⟨List.mem_cons_self,rfl⟩
     ·have:(y == n)=false:=by simpa using hy
      simp only [this] at q
      exact .inr q
    ·have hb:(k == NameKind.free)=false:=by simpa using hk
     simp only [hb,Bool.false_eq_true,if_false] at q
     exact .inr q
theorem gE {cells:List (Str×Addr)} : ∀ (l:List (Str×NameKind)) (cs:List (Str×Addr)) {y:Str},(∃ c,cs.lookup y=some c)\/(y,NameKind.free)∈l->∃ c,(b5 cells l cs).lookup y=some c
 | [],_,_,h=>by
   rcases h with h | h
   ·exact h
   ·cases h
 | (n,k)::r,cs,y,h=>by
   rw [b5]
   refine gE r _ ?_
   rcases h with ⟨c,h⟩ | h
   ·refine .inl ?_
    split
    ·rw [List.lookup_cons]
     split
     ·exact ⟨_,rfl⟩
     ·exact ⟨c,h⟩
    ·exact ⟨c,h⟩
   ·rcases List.mem_cons.mp h with e | e
    ·cases e
     refine .inl ⟨(List.lookup n cells).getD 0,?_⟩
     simp only [beq_self_eq_true,if_true,List.lookup_cons]
    ·exact .inr e
structure iR (scope es:Scope) (x:Str) (N:List Str):Prop where
 kind:scope.kind = .function
 cell : ∀ y∈scope.names,y.2 ≠ .cell
 nms : ∀ y∈scope.names,y.2 = .local->scope.names.lookup y.1=some .local
 loc:scope.names.lookup x=some .local
 Ox:scope.names.lookup ("" : Str)=none
 JV : ∀ y∈scope.names,y.2 = .free->es.names.lookup y.1=some .cell\/es.names.lookup y.1=some .free
 only : ∀ y∈scope.names,y.2 = .local->y.1=x\/y.1 ∉ N
 nd:(x::N.map λ y=>if y=x then ("" : Str) else y).Nodup
theorem lookup_mem {α β : Type} [BEq α] [LawfulBEq α] : ∀ {l:List (α × β)} {x : α} {v : β},l.lookup x=some v->(x,v)∈l
 | (n,k)::r,x,v,h=>by
   rw [List.lookup_cons] at h
   split at h
   ·rename_i e;cases h;rw [eq_of_beq e];exact List.mem_cons_self
   ·exact List.mem_cons_of_mem _ (lookup_mem h)
theorem bP {scope:Scope} {env:Env} : ∀ {l:List (Str×NameKind)} {y:Str} {k:NameKind},(l.map fun (p:Str×NameKind)=>match p with | (n,k)=>if (k == .free && env.scope.kind == .function && env.kindOf n == some .cell) then (n,NameKind.cell) else (n,k)).lookup y=some k →
  l.lookup y=some k\/(k = .cell/\l.lookup y=some .free)
 | [],_,_,h=>by simp at h
 | (n,k0)::r,y,k,h=>by
   rw [List.map_cons,List.lookup_cons] at h
   rw [List.lookup_cons]
   dsimp only at h
   split at h
   ·rename_i e
    split at e
    ·rename_i hc
     dsimp only at e h
     cases h
     have:k0 = .free:=by simp only [Bool.and_eq_true,beq_iff_eq] at hc;exact hc.1.1
     subst this
     rw [e,if_pos hc]
     exact .inr ⟨rfl,rfl⟩
    ·rename_i hc
     dsimp only at e h
     rw [e]
     rw [if_neg hc] at h
     exact .inl h
   ·rename_i e
    have e':(y == n)=false:=by
     split at e <;> exact e
    rw [e']
    exact bP (scope:=scope) h
def fc (M:Model) (A:Around) (E:Value->Shared->Prop) (use:Option (Value->Sem Unit)) (Q:Value->Shared->Prop) (acc:Value) (cenv:Env) (r:Result) (s':Shared):Prop :=
 match r,use with
 | .ok _,none => ∃ m,s'.heap.Ns cenv.locals m ∧ ∀ h',Heap.SameBut cenv.locals s'.heap h'->Q acc { s' with heap:=h' }
 | .ok _,some u=>wpAny M A (u acc) (λ _ s'' => ∃ m,s''.heap.Ns cenv.locals m ∧ ∀ h',Heap.SameBut cenv.locals s''.heap h'->Q .none { s'' with heap:=h' }) E s'
 | .error x,_ => ∃ m,s'.heap.Ns cenv.locals m ∧ ∀ h',Heap.SameBut cenv.locals s'.heap h'->wpAny M A (passOn "comprehension.variables-let-go" x cenv:Sem Value) (λ _ _=>False) E { s' with heap:=h' }
theorem eg {M:Model} {A:Around} {E:Value->Shared->Prop} {s:Shared} {env:Env} {e:Expr} {scope:Scope} {pos:Pos} {newAcc first:Sem Value} {g:Comprehension} {gs:List Comprehension} {cl:List (Str×Addr)} {use:Option (Value->Sem Unit)}
  {Q:Value->Shared->Prop}
  (hcl:clausesOf e=g::gs) (hs : ∀ x,foldedSetIterable g.iter env x=pure x) (hclos:closureFor scope env=pure cl)
  (hkind:scope.kind = .function) (hnames : ∀ x∈scope.names,x.2 = .local->scope.names.lookup x.1=some .local)
  (h:wpAny M A first (λ x s₁ => wpAny M A (pyIter x) (λ it s₂ => wpAny M A newAcc (λ acc s₃ =>
   wpAny M A (newFunctionEnv scope env.globals cl [] env.qual none .none (some env)) (λ cenv s₄ =>
    codeAny M A (.compStart e 0 it acc { cenv with scope:=relabel scope env }) (fc M A E use Q acc { cenv with scope:=relabel scope env }) s₄) E s₃) E s₂) E s₁) E s) :
  wpAny M A (comprehension e scope env pos newAcc false first use) Q E s:=by
 unfold comprehension
 rw [hclos,hcl]
 refine wpAny_bind (wpAny_mono h (λ x s₁ h₁ => wpAny_bind (wpAny_standAt (wpAny_bind (wpAny_of_eq (hs x) (wpAny_bind (wpAny_holding (wpAny_mono h₁ (λ it s₂ h₂ =>
  wpAny_standIf (wpAny_bind (wpAny_mono h₂ (λ acc s₃ h₃ => wpAny_bind (wpAny_pure (wpAny_bind (wpAny_mono h₃ (λ cenv s₄ h₄ => ?_) λ _ _ h'=>h')))) λ _ _ h'=>h')))
   λ _ _ h'=>h'))))))) λ _ _ h'=>h')
 dsimp only
 have hv : ∀ x∈(scope.names.filter λ x=>(x.2 == .local || x.2 == .cell) && x.1 != (".0" : Str)).reverse,x.2 = .local →
   Env.kindOf { cenv with scope:=relabel scope env } x.1=some .local:=λ x hx hl=>lookup_relabel_local (hnames x (List.mem_filter.mp (List.mem_reverse.mp hx)).1 hl)
 have hv' : ∀ x∈(scope.names.filter λ x=>(x.2 == .local || x.2 == .cell) && x.1 != (".0" : Str)).reverse.drop 1++(scope.names.filter λ x=>(x.2 == .local || x.2 == .cell) && x.1 != (".0" : Str)).reverse.take 1,
   x.2 = .local->Env.kindOf { cenv with scope:=relabel scope env } x.1=some .local:=λ x hx hl=>by
  rcases List.mem_append.mp hx with h1 | h1
  ·exact hv x (List.mem_of_mem_drop h1) hl
  ·exact hv x (List.mem_of_mem_take h1) hl
 refine wpAny_holding (wpAny_bind (wpAny_attempt (wpAny_holding (wpAny_run (codeAny_mono h₄ λ r s' hr => ?_)))))
 cases r with
 | ok f =>
   cases use with
   | none =>
     obtain ⟨m,hn,hr⟩:=hr
     exact wpAny_bind (wpAny_holding (wpAny_comp_letGo (cenv := { cenv with scope:=relabel scope env }) hkind _ s' m hv hn λ h' m' _ hs'=>wpAny_pure (hr h' hs')))
   | some u =>
     refine wpAny_bind (wpAny_rule (wpAny_bind (wpAny_holding (wpAny_mono hr (λ _ s'' hr' => ?_) λ _ _ h'=>h'))))
     obtain ⟨m,hn,hr'⟩:=hr'
     exact wpAny_bind (wpAny_comp_letGo (cenv := { cenv with scope:=relabel scope env }) hkind _ s'' m hv' hn λ h' m' _ hs'=>wpAny_pure (hr' h' hs'))
 | error x =>
   have hr' : ∃ m,s'.heap.Ns cenv.locals m ∧ ∀ h',Heap.SameBut cenv.locals s'.heap h'->wpAny M A (passOn "comprehension.variables-let-go" x { cenv with scope:=relabel scope env } : Sem Value) (λ _ _=>False) E { s' with heap:=h' } := by cases use <;> exact hr
   obtain ⟨m,hn,hr⟩:=hr'
   exact wpAny_bind (wpAny_holding (wpAny_comp_letGo (cenv := { cenv with scope:=relabel scope env }) hkind _ s' m hv hn λ h' m' _ hs'=>wpAny_mono (hr h' hs') (λ _ _ f=>f.elim) λ _ _ y=>y))
def Cx.comp (X:Cx) (scope:Scope) (x:Str) (pins:List (Addr×Obj)) (fp:List Addr) (s3:Shared) (H3:Hp) (E:Value->Shared->Prop):Cx where
 prog:=X.prog
 w:=X.w
 K:=X.K
 mg:=X.mg
 base:=X.base
 A:=X.A
 N:=x::X.N.map λ y=>if y=x then ("" : Str) else y
 s₀ := s3
 H₀ := H3
 env:=compEnvC scope (b5 X.env.cells scope.names []) s3.heap.objs.size X.env
 outer:=X.stack
 stack:=X.stack
 ex:=fp
 fn:=λ _=>false
 calm:=X.calm
 pn:=X.pn++pins
 xe:=E
section
variable {X:Cx} {pins:List (Addr×Obj)} {σ : St} {H3:Hp} {s3:Shared} {scope:Scope} {x:Str} {fp:List Addr} {E:Value->Shared->Prop}
theorem mT {y:Str} (h:(compEnvC scope (b5 X.env.cells scope.names []) s3.heap.objs.size X.env).kindOf y=some .cell\/(compEnvC scope (b5 X.env.cells scope.names []) s3.heap.objs.size X.env).kindOf y=some .free) (hc : ∀ y∈scope.names,y.2 ≠ .cell):(y,NameKind.free)∈scope.names:=by
 rcases h with h | h
 ·rcases bP (scope:=scope) (env:=X.env) h with q | ⟨_,q⟩
  ·exact absurd rfl (hc _ (lookup_mem q))
  ·exact lookup_mem q
 ·rcases bP (scope:=scope) (env:=X.env) h with q | ⟨z,_⟩
  ·exact lookup_mem q
  ·cases z
theorem dW (ok:X.Ok) (S:iR scope X.env.scope x X.N) {y:Str} {c:Addr} (h:(b5 X.env.cells scope.names []).lookup y=some c):(y,NameKind.free)∈scope.names/\X.env.cells.lookup y=some c:=by
 rcases oZ scope.names [] h with ⟨a,b⟩ | q
 ·obtain ⟨c',e⟩:=ok.has y (S.JV _ a rfl)
  rw [e] at b
  exact ⟨a,by rw [e,b];rfl⟩
 ·simp at q
theorem DY (I:Inv X pins σ H3 s3) (S:iR scope X.env.scope x X.N) (hfp : ∀ b∈fp,iF X pins H3 b) (hfo : ∀ b∈fp,∃ o,s3.heap.get? b=some o):(X.comp scope x pins fp s3 H3 E).Ok where
 mod:=I.ok.mod
 kind:=S.kind
 glob:=I.ok.glob
 blt:=I.ok.blt
 above:=Nat.le_refl _
 inj:=λ y z c h1 h2=>I.ok.inj y z c (dW I.ok S h1).2 (dW I.ok S h2).2
 has:=λ y h=>gE scope.names [] (.inr (mT h S.cell))
 Fw:=λ _ _ h=>nomatch h
 hd:=I.ok.hd
 frames:=I.ok.frames
 stk := .inl rfl
 JI:=λ b hb=>by
  obtain ⟨o,e⟩:=hfo b hb
  refine ⟨Nat.ne_of_lt (Heap.lt_size e),λ y c h => ?_⟩
  exact (hfp b hb).2.2.2.2.1 y c (dW I.ok S h).2
 bs:=I.bs
 AN:=Nat.le_trans I.ok.AN I.sz
 wI:=λ b o e hb=>by
  rcases (hfp b hb).2.2.2.1 with z | z
  ·exact I.ok.wI b o e z
  ·exact absurd (Nat.lt_of_lt_of_le (Heap.lt_size e) (Nat.le_trans I.ok.AN z)) (Nat.lt_irrefl _)
 zG:=λ b hb z=>by
  rcases List.mem_cons.mp (I.oH b z) with q | q
  ·exact (hfp b hb).2.1 q
  ·exact (hfp b hb).2.2.1 q
 kZ:=I.stack
 Dn:=I.rY
theorem xr {s4:Shared} (I:Inv X pins σ H3 s3) (S:iR scope X.env.scope x X.N) (hfp : ∀ b∈fp,iF X pins H3 b) (hfo : ∀ b∈fp,∃ o,s3.heap.get? b=some o) {m:Str->Option Value} (hn:s4.heap.Ns s3.heap.objs.size m) (kk : ∀ b o,s3.heap.get? b=some o->s4.heap.get? b=some o)
  (os:s4.os=s3.os) (bare:AllBare s4.gens):Inv (X.comp scope x pins fp s3 H3 E) [] (none :: σ) H3 s4:=by
 refine ⟨DY I S hfp hfo,os,bare,Un.kept kk,⟨m,hn,λ i y v h1 h2 h3 => ?_⟩,λ y c h => ?_,I.hok.fresh (Nat.le_refl _),λ y c h=>I.fJ y c (dW I.ok S h).2,λ p hp => ?_,I.hok.kept kk,?_⟩
 ·cases i with
  | zero=>cases h2
  | succ i =>
    have Ij:(X.N.map λ y=>if y=x then ("" : Str) else y)[i]? = some y:=h1
    have h2' : σ[i]? = some (some v):=h2
    rw [List.getElem?_map] at Ij
    cases hN:X.N[i]? with
    | none=>rw [hN] at Ij;cases Ij
    | some z =>
      rw [hN] at Ij
      have DZ:(if z=x then ("" : Str) else z)=y:=Option.some.inj Ij
      have vis : ∀ y,Fv (relabel scope X.env) y->y≠("" : Str):=λ y hv e=>by
       subst e
       have no : ∀ k,(relabel scope X.env).names.lookup ("" : Str)=some k->False:=λ k h=>by
        rcases bP (scope:=scope) (env:=X.env) h with q | ⟨_,q⟩ <;> (rw [S.Ox] at q;cases q)
       rcases hv with q | q | q <;> exact no _ q
      have hz:z≠x:=λ e=>by rw [if_pos e] at DZ;exact vis y h3 DZ.symm
      rw [if_neg hz] at DZ
      subst DZ
      -- z is seen by C9 block,and is no local of it: it is free there
      have hf:(z,NameKind.free)∈scope.names\/(relabel scope X.env).names.lookup z=some .local:=by
       rcases h3 with q | q | q
       ·exact .inr q
       ·exact .inl (mT (X:=X) (s3:=s3) (.inl q) S.cell)
       ·exact .inl (mT (X:=X) (s3:=s3) (.inr q) S.cell)
      have hfr:(z,NameKind.free)∈scope.names:=by
       rcases hf with q | q
       ·exact q
       ·rcases bP (scope:=scope) (env:=X.env) q with q | ⟨e,_⟩
        ·rcases S.only _ (lookup_mem q) rfl with e | e
         ·exact absurd e hz
         ·exact absurd (List.mem_of_getElem? hN) e
        ·cases e
      have hnl:(relabel scope X.env).names.lookup z≠some .local:=λ q=>by
       rcases bP (scope:=scope) (env:=X.env) q with q | ⟨e,_⟩
       ·rcases S.only _ (lookup_mem q) rfl with e | e
        ·exact absurd e hz
        ·exact absurd (List.mem_of_getElem? hN) e
       ·cases e
      have hk:=S.JV _ hfr rfl
      obtain ⟨m0,hn0,Dd⟩:=I.loc
      obtain ⟨u,r,l⟩:=Dd i z v hN h2' (hk.elim (λ q => .inr (.inl q)) λ q => .inr (.inr q))
      refine ⟨u,r,.inr ⟨?_,?_⟩⟩
      ·rcases h3 with q | q | q
       ·exact absurd q hnl
       ·exact .inl q
       ·exact .inr q
      ·rcases l with ⟨k,_⟩ | ⟨_,c,e,hc⟩
       ·have k':X.env.scope.names.lookup z=some .local:=k
        rcases hk with q | q <;> (rw [show List.lookup z X.env.scope.names=_ from k'] at q;cases q)
       ·obtain ⟨c',e'⟩:=gE (cells:=X.env.cells) scope.names [] (.inr hfr)
        have:=(dW I.ok S e').2
        rw [e] at this;cases this
        obtain ⟨o,ho,hd⟩:=hc
        exact ⟨c,e',o,kk _ _ ho,hd⟩
 ·obtain ⟨v,o,ho,hd⟩:=I.cell y c (dW I.ok S h).2
  exact ⟨v,o,kk _ _ ho,hd⟩
 ·have G8:p∈X.pn++pins:=by simpa [Cx.comp] using hp
  obtain ⟨a,b,c,d,e⟩:=I.pin p G8
  refine ⟨kk _ _ a,b,Nat.ne_of_lt (Heap.lt_size a),λ z => ?_,e⟩
  rcases List.mem_cons.mp (I.oH _ z) with q | q
  ·exact c q
  ·exact d q
 ·show (none :: σ).length=(x::X.N.map λ y=>if y=x then ("" : Str) else y).length
  rw [List.length_cons,List.length_cons,List.length_map,I.len]
end
theorem D0 {P:Program} {w:World} {l:List Env} {ex:List Addr} {H H':Hp} {h0 h h2 B:Heap} (un:Un (frs l) ex H H' h0 h) (hok:ic P w H' h) (fr:h.FunFrames B l)
  (tr : ∀ b u o,H' b=some u->h.get? b=some o->B.get? b=some o) (kp : ∀ b o o',h0.get? b=some o->h.get? b=some o'->b ∉ frs l->b ∉ ex->B.get? b=some o') (st:B.StaysIn h2)
  (sm : ∀ b∈frs l,∀ o,h.get? b=some o->(∀ vs,o.data ≠ .fields vs)->∃ sl,h2.get? b=some { o with slots:=sl }):Un (frs l) ex H H' h0 h2/\ic P w H' h2:=by
 refine ⟨⟨λ b o q n hb hx => ?_,λ b o q n hb hx => ?_,un.free,λ b o q hx => ?_,un.tups,un.gg,un.gz⟩,λ a o e => ?_⟩
 ·exact st b o (kp b o o q (un.keep b o q n hb hx) hb hx)
 ·obtain ⟨sl,e⟩:=un.slot b o q n hb hx
  obtain ⟨_,o',ho',hd⟩:=fr.mem hb
  rw [e] at ho';cases ho'
  obtain ⟨zE,e'⟩:=sm b hb _ e hd
  exact ⟨zE,e'⟩
 ·obtain ⟨o',e⟩:=un.there b o q hx
  by_cases hb:b∈frs l
  ·obtain ⟨_,o2,ho2,hd⟩:=fr.mem hb
   obtain ⟨zE,e'⟩:=sm b hb _ ho2 hd
   exact ⟨_,e'⟩
  ·exact ⟨o',st b o' (kp b o o' q e hb hx)⟩
 ·refine (hok a o e).stay (λ b u hb q => ?_) (λ _ q=>q) λ _ _ q=>q
  rcases hb with rfl | hb
  ·exact st b u (tr b _ u e q)
  ·exact st b u (tr b _ u hb q)
def G9 (X:Cx) (E:XK):Value->Shared->Prop:=λ e s'' => ∃ (pins:List (Addr×Obj)) (σ : St) (H':Hp) (ea:Addr) (cls a0:Value) (B:Heap),Inv X pins σ H' s''/\e = .ref ea/\X.s₀.heap.get? ea=none/\Heap.HeldW B X.stack ea cls a0 X.env.locals s''.heap ∧
 (∀ b u o,H' b=some u->s''.heap.get? b=some o->B.get? b=some o)/\(∀ b o o',X.s₀.heap.get? b=some o->s''.heap.get? b=some o'->b ∉ frs X.stack->B.get? b=some o')/\E cls none H'
section
variable {P:Program} {w:World} {K:PySem.W.Frag} {mg:Str->Option Value} {base:Heap} {N:List Str} {qual:Str} {scope:Scope} {f:Addr} {cd:Value} {A:Around} {outer:List Env} {s:Shared} {H:Hp} {E:XK}
theorem u0 : ∀ e s',G9 (yJ P w K mg base N qual scope f cd A outer s H E) E e s'->(yJ P w K mg base N qual scope f cd A outer s H E).xe e s':=by
 rintro e s' ⟨pins,σ,H',ea,cls,a0,B,I,rfl,new,hh,tr,kp,hE⟩
 have hfs:frs (envOfC qual scope s.heap.objs.size f cd::outer)=s.heap.objs.size::frs outer:=iQ rfl
 have hL:s.heap.get? s.heap.objs.size=none:=Heap.get?_none_of_le (Nat.le_refl _)
 have sub : ∀ x∈frs (envOfC qual scope s.heap.objs.size f cd::outer),x=s.heap.objs.size\/x∈frs outer:=λ x hx=>by rw [hfs] at hx;exact List.mem_cons.mp hx
 show wpAny _ _ (leaving _ _) _ _ s'
 unfold leaving
 refine wpAny_bind (wpAny_noteFrame_againW (L:=s.heap.objs.size) rfl hh.2.2.2 ?_)
 refine wpAny_landsW hh λ h2 n5 sm => ?_
 have fr:s'.heap.FunFrames B outer:=hh.2.2.1.2.2
 have Ik : ∀ b o o',s.heap.get? b=some o->s'.heap.get? b=some o'->b ∉ frs outer->B.get? b=some o':=λ b o o' q q' hb=>kp b o o' q q' λ z=>(sub b z).elim (λ e=>by rw [e,hL] at q;cases q) hb
 obtain ⟨DS,sG⟩:=oY (l:=outer) I.base I.hok fr tr Ik n5.1 sm
 obtain ⟨k1,k2,⟨_,_,k3⟩,k4⟩:=n5
 refine ⟨H',ea,cls,rfl,I.os,I.bare,⟨DS,sG,new,B,a0,⟨k1,k2,k3,k4⟩,λ b u o e q => ?_,λ b o o2 q q2 hb => ?_⟩,hE⟩
 ·obtain ⟨o',e'⟩:=(I.hok b u e).there
  have h1:=tr b u o' e e'
  have h2':=k1 b o' h1
  rw [q] at h2';cases h2';exact h1
 ·obtain ⟨o1,e1⟩:=I.base.there b o q (by intro z;cases z)
  have h1:=Ik b o o1 q e1 hb
  have h2':=k1 b o1 h1
  rw [q2] at h2';cases h2';exact h1
end
theorem iS {C:Addr} {h h' base:Heap} (hs:Heap.SameBut C h h') : ∀ {l:List Env},(∀ b∈frs l,b≠C)->h.FunFrames base l->h'.FunFrames base l
 | [],_,_=>trivial
 | env::l,hc,⟨hk,⟨L,o,hf,hn,ho,hd⟩,hr⟩=>⟨hk,⟨L,o,hf,hn,(hs.2 L (hc L (by rw [iQ hf];exact List.mem_cons_self))).trans ho,hd⟩,iS hs (λ b hb=>hc b (by rw [iQ hf];exact List.mem_cons_of_mem _ hb)) hr⟩
theorem iT {M:Model} {A:Around} {E:Value->Shared->Prop} {s:Shared} {base:Heap} {l:List Env} {e L:Addr} {cls a0:Value} {Q:Unit->Shared->Prop} (R:Heap.HeldW base l e cls a0 L s.heap)
  (h : ∀ h',Heap.HeldW base l e cls a0 L h'->s.heap.UpToSlots h'->Q () { s with heap:=h' }):wpAny M A (setFlight (.ref e) (some L)) Q E s:=by
 obtain ⟨hkb,hen,hl,oe,vs,T,oT,ts,he,hcls,hd,h1,Na,Nb,hT,JW,h3⟩:=R
 have Il:3 < ts.size:=(Array.getElem?_eq_some_iff.mp h3).1
 have other : ∀ b,b≠T->(s.heap.update T (Obj.mapFields (·.setIfInBounds 3 ((some L).elim Value.none λ f=>rawInt f)))).get? b=s.heap.get? b :=
  λ b hb=>Heap.get?_update_other _ _ (Ne.symm hb)
 have u5 : ∀ b o,s.heap.get? b=some o->(∀ vs,o.data ≠ .fields vs)->b≠T:=λ b o hb hnf q=>by
  rw [q,hT] at hb;injection hb with hb;subst hb;exact hnf ts JW
 unfold setFlight
 refine wpAny_bind (wpAny_field he hd h1 ?_)
 rw [if_pos (show (Value.ref T != Value.none)=true from by simp)]
 refine wpAny_setField hT JW Il (h _ ⟨λ b o K3=>(other b λ q=>by rw [q,Na] at K3;cases K3).trans (hkb b o K3),hen,
  hl.of_keeps λ b o hb hnf=>⟨o,(other b (u5 b o hb hnf)).trans hb,rfl⟩,?_⟩ λ b o hb hnf=>⟨o.slots,(other b (u5 b o hb hnf)).trans hb⟩)
 exact ⟨oe,vs,T,_,_,(other e (Ne.symm Nb)).trans he,hcls,hd,h1,Na,Nb,Heap.get?_update_self _ hT (Obj.isFreed_of_fields (Obj.data_mapFields JW _)),Obj.data_mapFields JW _,by simp [Il]⟩
theorem u6 {α : Type} {M:Model} {A:Around} {E:Value->Shared->Prop} {s:Shared} {base:Heap} {l:List Env} {e L:Addr} {cls a0:Value} {what:String} {env:Env} {Q : α->Shared->Prop} (hf:env.frame=some L) (R:Heap.HeldW base l e cls a0 L s.heap)
  (h : ∀ h',Heap.HeldW base l e cls a0 L h'->s.heap.UpToSlots h'->E (.ref e) { s with heap:=h' }):wpAny M A (PySem.passOn what (.ref e) env:Sem α) Q E s:=by
 obtain ⟨_,_,_,oe,vs,T,oT,ts,he,hcls,hd,h1,_⟩:=id R
 unfold PySem.passOn
 refine wpAny_bind (wpAny_field he hd h1 ?_)
 rw [if_neg (show ¬ ((Value.ref T == Value.none)=true) from by simp),hf]
 first
  | exact wpAny_bind (wpAny_pure (wpAny_bind (iT R λ h' hh hs=>wpAny_throw (h h' hh hs))))
  | exact wpAny_bind (iT R λ h' hh hs=>wpAny_throw (h h' hh hs))
theorem Ac {C L e:Addr} {h h' B:Heap} {l:List Env} {cls a0:Value} {m:Str->Option Value} (R:Heap.HeldW B l e cls a0 L h) (hn:h.Ns C m) (hc : ∀ b∈frs l,b≠C) (hs:Heap.SameBut C h h'):Heap.HeldW (PySem.W.hideAll B [C]) l e cls a0 L h':=by
 have hB:(PySem.W.hideAll B [C]).StaysIn B:=λ b o q=>PySem.W.of_hideAll _ q
 obtain ⟨f1,f2,f3,oe,vs,T,oT,ts,a1,a2,a3,a4,a5,a6,a7,a8,a9⟩:=PySem.W.heldW_base hB R
 obtain ⟨oC,es,ep,Nc,Nd,_⟩:=hn
 have ne:e≠C:=λ z=>by rw [z,Nc] at a1;cases a1;rw [Nd] at a3;cases a3
 have nT:T≠C:=λ z=>by rw [z,Nc] at a7;cases a7;rw [Nd] at a8;cases a8
 refine ⟨λ b o q => ?_,f2,iS hs hc f3,oe,vs,T,oT,ts,(hs.2 e ne).trans a1,a2,a3,a4,a5,a6,(hs.2 T nT).trans a7,a8,a9⟩
 have nb:b≠C:=λ z=>by rw [z,PySem.W.hideAll_none _ (by simp)] at q;cases q
 exact (hs.2 b nb).trans (f1 b o q)
section
variable {X:Cx} {pins:List (Addr×Obj)} {σ : St} {H3:Hp} {s3:Shared} {scope:Scope} {x:Str} {fp:List Addr}
abbrev XC (Xb:Cx) (E:XK):Value->Shared->Prop:=λ e s' => ∃ (k7:List (Addr×Obj)) (σ':St) (H1:Hp) (s1:Shared),Inv Xb k7 σ' H1 s1/\mF Xb.prog Xb.w Xb.stack H1 s1 E e s'
theorem Im {Xb:Cx} {E:XK} : Passes (mF Xb.prog Xb.w) (Xb.gh (XC Xb E)) E:=λ k7 σ' H1 s1 e s' I h=>⟨k7,σ',H1,s1,I.b4,h⟩
theorem sJ {e:Value} {env env':Env} (h:env.frame=env'.frame):noteFrame e env=noteFrame e env':=by
 unfold noteFrame PySem.frameOf
 rw [h]
theorem u7 {E:XK} {Q:Value->Shared->Prop} {use:Option (Value->Sem Unit)} {acc:Value} {cenv:Env} {e:Value} {s':Shared} (hst:X.stack=X.env::X.outer) (hf:X.env.frame=some X.env.locals) (hex:X.ex = []) (I:Inv X pins σ H3 s3)
  (hfp : ∀ b∈fp,iF X pins H3 b) (Gi : ∀ e s,G9 X E e s->X.xe e s) (hcf:cenv.frame=X.env.frame) (hcl:cenv.locals=s3.heap.objs.size) (h:XC (X.comp scope x pins fp s3 H3 λ _ _=>False) E e s') :
  notedBy (model X.prog X.w) X.A cenv (λ x s''=>fc (model X.prog X.w) X.A X.xe use Q acc cenv (.error x) s'') e s':=by
 obtain ⟨k7,σ',H1,s1,Ib,H',ea,cls,rfl,os,bare,fl,hE⟩:=h
 have fl:Bw X.prog X.w X.stack H1 s1.heap H' s'.heap ea cls:=fl
 have Oz:s1.os=s3.os:=Ib.os
 have K4:Un (frs X.stack) fp H3 H1 s3.heap s1.heap:=Ib.base
 obtain ⟨B,a0,hfl,tr,kp⟩:=fl.KW
 have fr:=hfl.2.2.1
 have Gg:Heap.FlyingW B (X.env::X.outer) ea cls a0 s'.heap:=by rw [<-hst];exact hfl
 have G7 : ∀ b∈frs X.stack,b≠s3.heap.objs.size:=λ b hb z=>by
  obtain ⟨_,o,ho,_⟩:=I.stack.mem hb
  exact absurd (Heap.lt_size ho) (by rw [z];exact Nat.lt_irrefl _)
 show wpAny _ _ (noteFrame _ cenv) _ _ _
 rw [sJ hcf]
 refine wpAny_looks_onW (by rw [I.ok.frames,hst]) hf Gg λ h4 JT Ig => ?_
 obtain ⟨m1,hn1,_⟩:=Ib.loc
 have hn1:s1.heap.Ns s3.heap.objs.size m1:=hn1
 obtain ⟨OA,OB⟩:=oY fl.un fl.hok fr tr kp JT.1 Ig
 have Nf:H1 s3.heap.objs.size=none:=Ib.free
 have OC:H' s3.heap.objs.size=none:=by
  obtain ⟨o,_,_,ho,_⟩:=hn1
  exact fl.un.free _ o ho Nf (by intro z;cases z)
 have Ng:h4.Ns s3.heap.objs.size m1:=hn1.at' λ o ho=>OA.keep _ o ho Nf (λ z=>G7 _ z rfl) (by intro z;cases z)
 refine ⟨m1,by rw [hcl];exact Ng,λ h' hs' => ?_⟩
 rw [hcl] at hs'
 have OD:Heap.HeldW (PySem.W.hideAll B [s3.heap.objs.size]) X.stack ea cls a0 X.env.locals h':=Ac (by rw [hst];exact JT) Ng G7 hs'
 refine u6 (s := { s' with heap:=h' }) (hcf.trans hf) OD λ h2 JX OE => ?_
 have hB : ∀ b o,B.get? b=some o->b≠s3.heap.objs.size->(PySem.W.hideAll B [s3.heap.objs.size]).get? b=some o:=λ b o q n=>PySem.W.hideAll_get _ q (by simpa using n)
 have Nh : ∀ b u o,H' b=some u->s'.heap.get? b=some o->(PySem.W.hideAll B [s3.heap.objs.size]).get? b=some o:=λ b u o q qo=>hB b o (tr b u o q qo) λ z=>by rw [z,OC] at q;cases q
 have Ik : ∀ b o o',s3.heap.get? b=some o->s'.heap.get? b=some o'->b ∉ frs X.stack->b ∉ fp->(PySem.W.hideAll B [s3.heap.objs.size]).get? b=some o':=λ b o o' q q' hb hx=>by
  obtain ⟨o1,e1⟩:=K4.there b o q hx
  exact hB b o' (kp b o1 o' e1 q' hb) (Nat.ne_of_lt (Heap.lt_size q))
 have OF:s'.heap.FunFrames (PySem.W.hideAll B [s3.heap.objs.size]) X.stack:=PySem.W.funFrames_base (λ b o q=>PySem.W.of_hideAll _ q) fr
 have OG : ∀ b∈frs X.stack,∀ o,s'.heap.get? b=some o->(∀ vs,o.data ≠ .fields vs)->∃ sl,h2.get? b=some { o with slots:=sl } := λ b hb o q hd=>by
  obtain ⟨sl,e⟩:=Ig b o q hd
  have e':h'.get? b=some { o with slots:=sl } := (hs'.2 b (G7 b hb)).trans e
  obtain ⟨sl2,e2⟩:=OE b _ e' hd
  exact ⟨sl2,e2⟩
 have Ni:Un (frs X.stack) fp H3 H' s3.heap s'.heap:=K4.trans (fl.un.mono (λ _ z=>z) (λ _ z=>nomatch z))
 obtain ⟨DS,sG⟩:=D0 Ni fl.hok OF Nh Ik JX.1 OG
 have I2:Inv X pins σ H' { s' with heap:=h2 } := I.AX (s' := { s' with heap:=h2 }) (ch:=fp) (os.trans Oz) DS sG bare λ b hb=>⟨(hfp b hb).2.2.2.1,(hfp b hb).2.1,(hfp b hb).2.2.2.2.1,(hfp b hb).2.2.2.2.2⟩
 have nx : ∀ b o,X.s₀.heap.get? b=some o->b ∉ fp:=λ b o q z=>by
  rcases (hfp b z).2.2.2.1 with y | y
  ·rw [hex] at y;cases y
  ·exact absurd (Nat.lt_of_lt_of_le (Heap.lt_size q) y) (Nat.lt_irrefl _)
 have Nj : ∀ b o,X.s₀.heap.get? b=some o->∃ o',s3.heap.get? b=some o':=λ b o q=>I.base.there b o q (by rw [hex];intro z;cases z)
 refine Gi _ _ ⟨pins,σ,H',ea,cls,a0,_,I2,rfl,?_,JX,λ b u o q qo => ?_,λ b o o2 q q2 hb => ?_,hE⟩
 ·cases q:X.s₀.heap.get? ea with
  | none=>rfl
  | some o =>
    obtain ⟨o3,e3⟩:=Nj ea o q
    obtain ⟨o1,e1⟩:=K4.there ea o3 e3 (nx ea o q)
    rw [fl.new] at e1;cases e1
 ·obtain ⟨o',e'⟩:=(fl.hok b u q).there
  have h1:=Nh b u o' q e'
  have h2':=JX.1 b o' h1
  rw [qo] at h2';cases h2';exact h1
 ·obtain ⟨o3,e3⟩:=Nj b o q
  obtain ⟨o1,e1⟩:=Ni.there b o3 e3 (nx b o q)
  have h1:=Ik b o3 o1 e3 e1 hb (nx b o q)
  have h2':=JX.1 b o1 h1
  rw [q2] at h2';cases h2';exact h1
end
def u9 (wi:TI) (tt:TT) (te:TE):TE:=fun σ H Q=>wi σ H λ J H1 => ∀ p,H1 p=none->∃ W:Nat->Nat->List V->Hp->Prop,(∃ m,W 0 m [] (upd H1 p (.lst []))) ∧ ∀ i m acc H2,W i m acc H2 →
 H2 p=some (.lst acc)/\((J.stop i H2/\Q (.ref p) H2)\/(J.go i H2 ∧ ∃ N:List V->Hp->Prop,(∀ acc' H',N acc' H'->∃ m',m' < m/\W (i+1) m' acc' H') ∧ ∀ x H3,J.Dp i H2 x H3->tt (some x :: σ) H3 λ b H4 =>
  if b=true then te (some x :: σ) H4 λ v H5=>H5 p=some (.lst acc)/\acc.length < sizeLine/\N (acc++[v]) (upd H5 p (.lst (acc++[v]))) else N acc H4))
def xu:TT:=λ _ H Q=>Q true H
def Io (X:Cx) (ifs:List Expr) (t:TT):Prop :=
 ∀ (pins:List (Addr×Obj)) (s:Shared) (σ : St) (H:Hp) (Q:Bool->Hp->Prop),Inv X pins σ H s->t σ H Q->wpAny (model X.prog X.w) X.A (forIn ifs true λ c r=>if r=true then do let ok <-isTrue c X.env (eval c X.env);pure (ForInStep.yield ok) else pure (ForInStep.yield r)) (TP X pins σ Q) X.xe s
theorem gF {X:Cx} : Io X [] xu:=λ pins s σ H Q I h=>wpAny_tests_nil ⟨H,I,h⟩
theorem yK {X:Cx} {c:Expr} {t:TT} (h:PT X c t):Io X [c] t:=λ pins s σ H Q I q=>wpAny_tests_one (h pins s σ H Q I q)
section
variable {X:Cx} {pins:List (Addr×Obj)} {σ : St} {H3:Hp} {s3:Shared} {scope:Scope} {x:Str} {fp:List Addr}
theorem sL {E:Value->Shared->Prop} {H':Hp} (I:Inv X pins σ H3 s3) (S:iR scope X.env.scope x X.N) (hfp : ∀ b∈fp,iF X pins H3 b) (hfo : ∀ b∈fp,∃ o,s3.heap.get? b=some o) (hn : ∀ b∈fp,H' b=none) : ∀ b∈fp,iF (X.comp scope x pins fp s3 H3 E) [] H' b:=λ b hb=>by
 obtain ⟨o,e⟩:=hfo b hb
 refine ⟨hn b hb,Nat.ne_of_lt (Heap.lt_size e),λ z => ?_,.inl hb,λ y c h=>(hfp b hb).2.2.2.2.1 y c (dW I.ok S h).2,λ p hp=>(hfp b hb).2.2.2.2.2 p (by simpa [Cx.comp] using hp)⟩
 rcases List.mem_cons.mp (I.oH b z) with q | q
 ·exact (hfp b hb).2.1 q
 ·exact (hfp b hb).2.2.1 q
theorem Ad {E:Value->Shared->Prop} {k7:List (Addr×Obj)} {σ':St} {H':Hp} {s':Shared} (I:Inv X pins σ H3 s3) (hfp : ∀ b∈fp,iF X pins H3 b) (J:Inv (X.comp scope x pins fp s3 H3 E) k7 σ' H' s'):Inv X pins σ H' s' :=
 I.AX (ch:=fp) J.os J.base J.hok J.bare λ b hb=>⟨(hfp b hb).2.2.2.1,(hfp b hb).2.1,(hfp b hb).2.2.2.2.1,(hfp b hb).2.2.2.2.2⟩
theorem nN {E:Value->Shared->Prop} {H':Hp} {Nk:St} {s' s'':Shared} {h':Heap} (I:Inv X pins σ H3 s3) (J:Inv X pins Nk H' s'') (hC:H' s3.heap.objs.size=none) (hs:Heap.SameBut s3.heap.objs.size s''.heap h'):Inv X pins Nk H' { s'' with heap:=h' } := by
 refine J.turned (t':=s''.toks) (λ b o hb e=>(hs.2 b hb).trans e) hC (Nat.ne_of_gt I.lt) (.inr I.sz) (λ y c e z => ?_) λ p hp z => ?_
 ·obtain ⟨v,q⟩:=I.cell y c e
  exact absurd q.lt (by rw [z];exact Nat.lt_irrefl _)
 ·exact absurd (Heap.lt_size (I.pin p hp).1) (by rw [z];exact Nat.lt_irrefl _)
theorem sM {prog:Program} {w:World} {A:Around} {R:Result->Shared->Prop} {s:Shared} {elt target iter:Expr} {ifs:List Expr} {scope:Scope} {pos:Pos} {it acc:Value} {env:Env} (I:Nat->Shared->Prop)
  (turn : ∀ n s,I n s->wpAny (model prog w) A (pyNext it) (λ r s₁ => match r with
   | none=>R (.ok .next) s₁
   | some v=>wpAny (model prog w) A (letOwnedTupleGo target it v) (λ _ s₁'=>wpAny (model prog w) A (assign target env v) (λ _ s₂ =>
     wpAny (model prog w) A (forIn ifs true λ c r=>if r=true then do let ok <-isTrue c env (eval c env);pure (ForInStep.yield ok) else pure (ForInStep.yield r)) (λ ok s₃ =>
      if ok=true then wpAny (model prog w) A (eval elt env) (λ x s₄ =>
       wpAny (model prog w) A (call (.builtin "list.append") [acc,x]) (λ _ s₅ => ∃ m,m < n/\I m s₅) (notedBy (model prog w) A env λ e s'=>R (.error e) s') s₄) (notedBy (model prog w) A env λ e s'=>R (.error e) s') s₃
      else ∃ m,m < n/\I m s₃) (notedBy (model prog w) A env λ e s'=>R (.error e) s') s₂) (notedBy (model prog w) A env λ e s'=>R (.error e) s') s₁') (notedBy (model prog w) A env λ e s'=>R (.error e) s') s₁) (notedBy (model prog w) A env λ e s'=>R (.error e) s') s)
  (n:Nat) (h:I n s) :
  codeAny (model prog w) A (.compLoop (.ListComp elt [⟨target,iter,ifs,0⟩] scope pos) 0 it acc env) R s:=by
 refine codeAny_loop rfl I (λ n s hI => ?_) n h
 show wpAny _ A ((compTurn (.ListComp elt [⟨target,iter,ifs,0⟩] scope pos) 0 it acc env).onRaise (λ x=>do noteFrame x env;theTreesLotGoes x)) _ _ s
 refine wpAny_noted ?_
 rw [compTurn_list]
 refine wpAny_bind (wpAny_standAt (wpAny_bind (wpAny_mono (turn n s hI) (λ r s₁ h₁ => ?_) λ _ _ h'=>h')))
 cases r with
 | none=>exact wpAny_pure h₁
 | some v =>
   refine wpAny_bind (wpAny_mono h₁ (λ _ s₁' h₁' => ?_) λ _ _ h'=>h')
   refine wpAny_bind (wpAny_mono h₁' (λ _ s₂ h₂ => wpAny_bind (wpAny_mono h₂ (λ ok s₃ h₃ => ?_) λ _ _ h'=>h')) λ _ _ h'=>h')
   cases ok with
   | false=>exact wpAny_pure ⟨rfl,h₃⟩
   | true =>
     exact wpAny_bind (wpAny_bind (wpAny_mono h₃ (λ x s₄ h₄ => wpAny_bind (wpAny_mono h₄ (λ _ s₅ h₅ => wpAny_pure (wpAny_pure ⟨rfl,h₅⟩)) λ _ _ h'=>h')) λ _ _ h'=>h'))
theorem o4 {E:XK} {use:Option (Value->Sem Unit)} {QQ:Value->Shared->Prop} {elt iter:Expr} {px:Pos} {ifs:List Expr} {pos:Pos} {tt:TT} {te:TE} {it:Addr} {tn:Nat->Heap->Prop} {J:It} {Q:VK} {H2:Hp} {s2:Shared}
  (hc:X.calm=true) (hst:X.stack=X.env::X.outer) (hf:X.env.frame=some X.env.locals) (hex:X.ex = []) (Gi : ∀ e s,G9 X E e s->X.xe e s) (S:iR scope X.env.scope x X.N)
  (ht : ∀ (pins:List (Addr×Obj)) (fp:List Addr) (s3:Shared) (H3:Hp),Io ((X.comp scope x pins fp s3 H3 λ _ _=>False).gh (XC (X.comp scope x pins fp s3 H3 λ _ _=>False) E)) ifs tt)
  (he : ∀ (pins:List (Addr×Obj)) (fp:List Addr) (s3:Shared) (H3:Hp),PE ((X.comp scope x pins fp s3 H3 λ _ _=>False).gh (XC (X.comp scope x pins fp s3 H3 λ _ _=>False) E)) elt te)
  (I2:Inv X pins σ H2 s2) (T:Turn X.prog X.w X.K (.Name x px) J fp it tn) (st2:tn 0 s2.heap) (f2 : ∀ b∈fp,iF X pins H2 b)
  (h : ∀ p,H2 p=none->∃ W:Nat->Nat->List V->Hp->Prop,(∃ m,W 0 m [] (upd H2 p (.lst []))) ∧ ∀ i m acc H2,W i m acc H2 →
   H2 p=some (.lst acc)/\((J.stop i H2/\Q (.ref p) H2)\/(J.go i H2 ∧ ∃ N:List V->Hp->Prop,(∀ acc' H',N acc' H'->∃ m',m' < m/\W (i+1) m' acc' H') ∧ ∀ x H3,J.Dp i H2 x H3->tt (some x :: σ) H3 λ b H4 =>
    if b=true then te (some x :: σ) H4 λ v H5=>H5 p=some (.lst acc)/\acc.length < sizeLine/\N (acc++[v]) (upd H5 p (.lst (acc++[v]))) else N acc H4)))
  (fin : ∀ (s3:Shared) (H3:Hp) (p:Addr) (s':Shared) (H':Hp) (m:Str->Option Value),Inv X pins σ H3 s3->Inv X pins σ H' s'->H' s3.heap.objs.size=none->s'.heap.Ns s3.heap.objs.size m->Q (.ref p) H'->∀ cenv:Env,cenv.locals=s3.heap.objs.size->fc (model X.prog X.w) X.A X.xe use QQ (.ref p) cenv (.ok .next) s') :
  wpAny (model X.prog X.w) X.A (newList []) (λ acc s₃ => wpAny (model X.prog X.w) X.A (newFunctionEnv scope X.env.globals (b5 X.env.cells scope.names []) [] X.env.qual none .none (some X.env)) (λ cenv s₄ =>
   codeAny (model X.prog X.w) X.A (.compStart (.ListComp elt [⟨.Name x px,iter,ifs,0⟩] scope pos) 0 (.ref it) acc { cenv with scope:=relabel scope X.env }) (fc (model X.prog X.w) X.A X.xe use QQ acc { cenv with scope:=relabel scope X.env }) s₄) X.xe s₃) X.xe s2:=by
 have hp:H2 s2.heap.objs.size=none:=I2.hok.fresh (Nat.le_refl _)
 obtain ⟨W,⟨m0,w0⟩,turn⟩:=h _ hp
 refine wpAny_newObj_type (wpAny_newFunctionEnv S.cell (by intro y hy;simp at hy) (λ h₁ Gj K5 => ?_) S.kind)
 generalize Nl:({ s2 with heap:=s2.heap.push { cls := .type "list",dict:=none,data := .seq ([]:List Value).toArray } } : Shared)=s3
 have Ip:s3.heap=s2.heap.push { cls := .type "list",dict:=none,data := .seq ([]:List Value).toArray } := by rw [<-Nl]
 have I3:Inv X pins σ (upd H2 s2.heap.objs.size (.lst [])) s3:=by
  rw [<-Nl]
  exact I2.laid (t':=s2.toks) (λ b o e=>Heap.get?_push_of_some _ e) (Nat.le_refl _) ⟨by show 0<=sizeLine;exact Nat.zero_le _,[],0,.nil,Heap.get?_push_size _ rfl⟩
 have f3 : ∀ b∈fp,iF X pins (upd H2 s2.heap.objs.size (.lst [])) b:=λ b hb=>⟨by
  obtain ⟨o,e,_⟩:=T.obj _ _ st2 b hb
  rw [aQ (Nat.ne_of_lt (Heap.lt_size e))];exact (f2 b hb).1,(f2 b hb).2⟩
 have o3 : ∀ b∈fp,∃ o,s3.heap.get? b=some o:=λ b hb=>by
  obtain ⟨o,e,_⟩:=T.obj _ _ st2 b hb
  exact ⟨o,by rw [Ip];exact Heap.get?_push_of_some _ e⟩
 have Gj:h₁.Ns s3.heap.objs.size (λ x=>([]:List (Str×Value)).reverse.lookup x):=by rw [Ip];exact Gj
 have kk : ∀ b o,s3.heap.get? b=some o->h₁.get? b=some o:=λ b o e=>K5.extBut b o (by
  have:=Heap.lt_size e
  rw [Ip] at this
  exact Nat.ne_of_lt this) (Heap.get?_push_of_some _ (by rw [<-Ip];exact e))
 generalize K6:({ s3 with heap:=h₁,toks:=s3.toks+([]:List (Str×Value)).length } : Shared)=s4
 have K7:s4.heap=h₁ := by rw [<-K6]
 have I4:Inv (X.comp scope x pins fp s3 (upd H2 s2.heap.objs.size (.lst [])) λ _ _=>False) [] (none :: σ) (upd H2 s2.heap.objs.size (.lst [])) s4:=xr I3 S f3 o3 (by rw [K7];exact Gj) (by rw [K7];exact kk) (by rw [<-K6]) (by rw [<-K6];exact I3.bare)
 have De:tn 0 s4.heap:=T.keep _ _ _ st2 λ b hb o e=>by rw [K7];exact kk b o (by rw [Ip];exact Heap.get?_push_of_some _ e)
 have loop:codeAny (model X.prog X.w) X.A (.compLoop (.ListComp elt [⟨.Name x px,iter,ifs,0⟩] scope pos) 0 (.ref it) (.ref s2.heap.objs.size) (compEnvC scope (b5 X.env.cells scope.names []) s3.heap.objs.size X.env))
   (fc (model X.prog X.w) X.A X.xe use QQ (.ref s2.heap.objs.size) (compEnvC scope (b5 X.env.cells scope.names []) s3.heap.objs.size X.env)) s4:=by
  have raised : ∀ e s',XC (X.comp scope x pins fp s3 (upd H2 s2.heap.objs.size (.lst [])) λ _ _=>False) E e s'->notedBy (model X.prog X.w) X.A (compEnvC scope (b5 X.env.cells scope.names []) s3.heap.objs.size X.env) (λ x s''=>fc (model X.prog X.w) X.A X.xe use QQ (.ref s2.heap.objs.size) (compEnvC scope (b5 X.env.cells scope.names []) s3.heap.objs.size X.env) (.error x) s'') e s' :=
   λ e s' h=>u7 hst hf hex I3 f3 Gi rfl rfl h
  refine sM (λ n s' => ∃ i acc H' v0,Inv (X.comp scope x pins fp s3 (upd H2 s2.heap.objs.size (.lst [])) λ _ _=>False) [] (v0 :: σ) H' s'/\tn i s'.heap/\(∀ b∈fp,H' b=none)/\W i n acc H') ?_ m0 ⟨0,[],_,none,I4,De,λ b hb=>(f3 b hb).1,w0⟩
  rintro n s5 ⟨i,acc,H5,v0,I5,wD,JM,w5⟩
  obtain ⟨hacc,hh⟩:=turn i n acc H5 w5
  rcases hh with ⟨stop,q⟩ | ⟨go,N,hN,step⟩
  ·refine bL (T.done (X.comp scope x pins fp s3 (upd H2 s2.heap.objs.size (.lst [])) λ _ _=>False) rfl rfl rfl hc i [] s5 _ H5 _ I5 (sL I3 S f3 o3 JM) wD stop) λ r s6 ⟨hr,I6⟩ => ?_
   subst hr
   obtain ⟨m6,OH,_⟩:=id I6.loc
   exact fin s3 _ _ s6 H5 m6 I3 (Ad I3 f3 I6) I6.free OH q _ rfl
  ·refine bL (T.item (X.comp scope x pins fp s3 (upd H2 s2.heap.objs.size (.lst [])) λ _ _=>False) rfl rfl rfl hc i [] s5 _ H5 _ I5 (sL I3 S f3 o3 JM) wD go) λ r s6 ⟨u,hr,h6⟩ => ?_
   subst hr
   refine bL h6 ?_
   rintro _ s7 ⟨y,H7,I7,r7,y7,K8,OI⟩
   have OJ:=I7.pinned (sL I3 S f3 o3 OI) (T.obj _ _ K8)
   have again : ∀ {n':List V} {v1:Option V} {H9:Hp} {s9:Shared},Inv (X.comp scope x pins fp s3 (upd H2 s2.heap.objs.size (.lst [])) λ _ _=>False) ([]++oK fp s7.heap) (v1 :: σ) H9 s9->N n' H9->∃ m,m < n ∧ ∃ i acc H' v0,Inv (X.comp scope x pins fp s3 (upd H2 s2.heap.objs.size (.lst [])) λ _ _=>False) [] (v0 :: σ) H' s9/\tn i s9.heap/\(∀ b∈fp,H' b=none)/\W i m acc H':=fun {n' v1 H9 s9} I9 n9=>by
    obtain ⟨m',hm,w9⟩:=hN n' H9 n9
    refine ⟨m',hm,i+1,n',H9,v1,I9.lg,T.keep _ _ _ K8 λ b hb o e=>(I9.pin (b,o) (List.mem_append_right _ (List.mem_append_right _ (gB hb e)))).1,λ b hb => ?_,w9⟩
    obtain ⟨o,e,d⟩:=T.obj _ _ K8 b hb
    exact (I9.pin (b,o) (List.mem_append_right _ (List.mem_append_right _ (gB hb e)))).2.1
   refine wpAny_assign_Name (k8 (X:=X.comp scope x pins fp s3 (upd H2 s2.heap.objs.size (.lst [])) λ _ _=>False) (i:=0) OJ S.nd rfl (Or.inl (lookup_relabel_local S.loc)) r7 (λ s8 I8 => ?_) (Or.inr (lookup_relabel_local S.loc)))
   refine wpAny_mono (ht pins fp s3 _ _ s8 _ H7 _ (I8.gh _) (step y H7 y7)) (λ ok s9 ⟨H9,I9,q9⟩ => ?_) raised
   cases ok with
   | false =>
     rw [if_neg Bool.false_ne_true]
     have K9:N acc H9:=by simpa using q9
     exact again I9.b4 K9
   | true =>
     rw [if_pos rfl]
     have K9:te (some y :: σ) H9 (λ v H5=>H5 s2.heap.objs.size=some (.lst acc)/\acc.length < sizeLine/\N (acc++[v]) (upd H5 s2.heap.objs.size (.lst (acc++[v])))):=q9
     refine wpAny_mono (he pins fp s3 _ _ s9 _ H9 _ I9 K9) (?_) raised
     rintro OL Ii ⟨v,Df,DW,OM,ha,hl,ON⟩
     refine wpAny_mono (bY (X:=(X.comp scope x pins fp s3 (upd H2 s2.heap.objs.size (.lst [])) λ _ _=>False).gh (XC (X.comp scope x pins fp s3 (upd H2 s2.heap.objs.size (.lst [])) λ _ _=>False) E)) _ Ii _ Df (.ref s2.heap.objs.size) [v] (.ref s2.heap.objs.size) [OL] (λ w H'=>w = .aN/\H' = upd Df s2.heap.objs.size (.lst (acc++[v]))) DW rfl (.cons OM .nil) ⟨_,acc,v,rfl,rfl,ha,hl,rfl,rfl⟩) (?_) raised
     rintro Qi Qj ⟨v11,D3,Nm,Qk,Ql,OO⟩
     rw [OO] at Nm
     exact again Nm.b4 ON
 exact codeAny_compStart_list loop (T.self _ 0 _ _ _ De loop)
end
section
variable {X:Cx} {scope:Scope} {x:Str} {E:XK} {elt iter:Expr} {px pos:Pos} {ifs:List Expr} {wi:TI} {tt:TT} {te:TE}
abbrev Cx.JY (X:Cx) (scope:Scope) (x:Str) (pins:List (Addr×Obj)) (fp:List Addr) (s3:Shared) (H3:Hp) (E:XK):Cx:=(X.comp scope x pins fp s3 H3 λ _ _=>False).gh (XC (X.comp scope x pins fp s3 H3 λ _ _=>False) E)
theorem gG (hc:X.calm=true) (hst:X.stack=X.env::X.outer) (hf:X.env.frame=some X.env.locals) (hex:X.ex = []) (Gi : ∀ e s,G9 X E e s->X.xe e s) (S:iR scope X.env.scope x X.N) (hi:PI X (.Name x px) iter wi)
  (ht : ∀ pins fp s3 H3,Io (X.JY scope x pins fp s3 H3 E) ifs tt) (he : ∀ pins fp s3 H3,PE (X.JY scope x pins fp s3 H3 E) elt te) (hs : ∀ x,foldedSetIterable iter X.env x=pure x:=by intro _;rfl) :
  PE X (.ListComp elt [⟨.Name x px,iter,ifs,0⟩] scope pos) (u9 wi tt te):=by
 intro pins s σ H Q I h
 rw [eval_ListComp]
 refine eg (use:=none) rfl hs (jY λ y hy e=>I.ok.has y.1 (S.JV y hy e)) S.kind S.nms (bL (hi pins s σ H _ I h) λ v s1 h1=>bL h1 λ itv s2 h2 => ?_)
 obtain ⟨it,fp,tn,J,H2,e,I2,T,st2,f2,hW⟩:=h2
 subst e
 refine o4 hc hst hf hex Gi S ht he I2 T st2 f2 hW λ s3 H3 p s' H' m I3 I' hC hn q cenv hcl => ?_
 refine ⟨m,by rw [hcl];exact hn,λ h' hs'=>⟨.ref p,H',nN (E:=X.xe) (s':=s') I3 I' hC (by rw [<-hcl];exact hs'),rfl,q⟩⟩
theorem o5 {y:Str} {i:Nat} {py spos:Pos} (hc:X.calm=true) (hst:X.stack=X.env::X.outer) (hf:X.env.frame=some X.env.locals) (hex:X.ex = []) (Gi : ∀ e s,G9 X E e s->X.xe e s) (S:iR scope X.env.scope x X.N) (hi:PI X (.Name x px) iter wi)
  (ht : ∀ pins fp s3 H3,Io (X.JY scope x pins fp s3 H3 E) ifs tt) (he : ∀ pins fp s3 H3,PE (X.JY scope x pins fp s3 H3 E) elt te) (hN:X.N.Nodup) (hy:X.N[i]? = some y) (hl:Loc X.env.scope y)
  (hs : ∀ x,foldedSetIterable iter X.env x=pure x:=by intro _;rfl) (hsw:swapsWith (.ListComp elt [⟨.Name x px,iter,ifs,0⟩] scope pos) (some (.Name y py)) spos.line X.env=pure true:=by rfl)
  (hfn:X.fn y=true\/X.env.scope.names.lookup y=some .local:=by first | exact .inl rfl | exact .inr rfl | assumption) :
  PS X (.Assign [.Name y py] (.ListComp elt [⟨.Name x px,iter,ifs,0⟩] scope pos) spos) (wL (u9 wi tt te) (nC i)):=by
 intro pins s σ H D I h
 rw [exec_Assign_Name_used _ _ _ _ hsw]
 refine wpAny_bind (wpAny_standAt (wpAny_bind ?_))
 show wpAny _ X.A (do let _ <-comprehension (.ListComp elt [⟨.Name x px,iter,ifs,0⟩] scope pos) scope X.env _ (newList []) false (eval iter X.env) (some (assign (.Name y py) X.env))) _ _ s
 refine wpAny_bind (wpAny_mono (eg (use:=some (assign (.Name y py) X.env)) (Q:=λ _ s'=>SP X pins D .next s') rfl hs (jY λ y hy e=>I.ok.has y.1 (S.JV y hy e)) S.kind S.nms
  (bL (hi pins s σ H _ I h) λ v s1 h1=>bL h1 λ itv s2 h2 => ?_)) (λ _ s' hq=>wpAny_pure (wpAny_pure hq)) λ _ _ e=>e)
 obtain ⟨it,fp,tn,J,H2,e,I2,T,st2,f2,hW⟩:=h2
 subst e
 refine o4 (Q:=λ v H1=>nC i v σ H1 D.nx) hc hst hf hex Gi S ht he I2 T st2 f2 hW λ s3 H3 p s' H' m I3 I' hC hn q cenv hcl => ?_
 show wpAny _ X.A (assign (.Name y py) X.env (.ref p)) _ _ s'
 refine wpAny_assign_Name (qT I' hN hy hl (v := .ref p) rfl (λ s'' OP hch => ?_) hfn)
 obtain ⟨a,OQ,ha⟩:=hch
 have G0:s3.heap.objs.size≠a:=by
  rcases ha with rfl | ha
  ·exact Nat.ne_of_gt I3.lt
  ·obtain ⟨w,z⟩:=I3.cell y a ha
   exact Nat.ne_of_gt z.lt
 refine ⟨m,by rw [hcl];exact hn.sameBut OQ G0,λ h' hs'=>⟨_,H',nN (E:=X.xe) (s':=s') I3 OP hC (by rw [<-hcl];exact hs'),q⟩⟩
end
mutual
inductive b7 (H:Hp):V->PyData->Prop
 | aN:b7 H .aN .none
 | bl (b:Bool):b7 H (.bl b) (.bool b)
 | int (i:Int):b7 H (.int i) (.int i)
 | str (x:Str):b7 H (.str x) (.str x)
 | lst {a:Addr} {xs:List V} {ds:List PyData} (e:H a=some (.lst xs)) (h:bS H xs ds):b7 H (.ref a) (.list ds)
 | tup {a:Addr} {xs:List V} {ds:List PyData} (e:H a=some (.tup xs)) (h:bS H xs ds):b7 H (.ref a) (.tuple ds)
inductive bS (H:Hp):List V->List PyData->Prop
 | nil:bS H [] []
 | cons {x:V} {xs:List V} {d:PyData} {ds:List PyData} : b7 H x d->bS H xs ds->bS H (x::xs) (d::ds)
end
mutual
theorem b7.reads {P:Program} {w:World} {H:Hp} {h:Heap} (ok:ic P w H h) : ∀ {x:V} {d:PyData} {u:Value},b7 H x d->RelV x u->∃ as,Reads h u d as
 | _,_,_,.aN,r=>by cases r;exact ⟨_,.none⟩
 | _,_,_,.bl b,r=>by cases r;exact ⟨_,.bool b⟩
 | _,_,_,.int i,r=>by obtain ⟨t,rfl⟩:=r;exact ⟨_,.int i t⟩
 | _,_,_,.str x,r=>by obtain ⟨t,rfl⟩:=r;exact ⟨_,.str x t⟩
 | _,_,_,.lst e hs,r=>by
   cases r
   obtain ⟨_,its,n,rv,ho⟩:=(show bx P w H h _ (.lst _) from ok _ _ e)
   obtain ⟨as,ra⟩:=bS.reads ok hs rv
   exact ⟨_,.list ho rfl rfl ra⟩
 | _,_,_,.tup e hs,r=>by
   cases r
   obtain ⟨_,its,rv,o,ho,hc,n,hd⟩:=(show bx P w H h _ (.tup _) from ok _ _ e)
   obtain ⟨as,ra⟩:=bS.reads ok hs rv
   exact ⟨_,.tuple ho hc hd ra⟩
theorem bS.reads {P:Program} {w:World} {H:Hp} {h:Heap} (ok:ic P w H h) : ∀ {xs:List V} {ds:List PyData} {us:List Value},bS H xs ds->Vals xs us->∃ as,ReadsAll h us ds as
 | _,_,_,.nil,.nil=>⟨_,.nil⟩
 | _,_,_,.cons a b,.cons r t=>by
   obtain ⟨_,ra⟩:=b7.reads ok a r
   obtain ⟨_,rb⟩:=bS.reads ok b t
   exact ⟨_,.cons ra rb⟩
end
mutual
theorem b7.mono {H H':Hp} (k : ∀ a xs,H a=some (.lst xs)->H' a=some (.lst xs)) (k2 : ∀ a xs,H a=some (.tup xs)->H' a=some (.tup xs)) : ∀ {x:V} {d:PyData},b7 H x d->b7 H' x d
 | _,_,.aN => .aN
 | _,_,.bl b => .bl b
 | _,_,.int i => .int i
 | _,_,.str x => .str x
 | _,_,.lst e hs => .lst (k _ _ e) (bS.mono k k2 hs)
 | _,_,.tup e hs => .tup (k2 _ _ e) (bS.mono k k2 hs)
theorem bS.mono {H H':Hp} (k : ∀ a xs,H a=some (.lst xs)->H' a=some (.lst xs)) (k2 : ∀ a xs,H a=some (.tup xs)->H' a=some (.tup xs)) : ∀ {xs:List V} {ds:List PyData},bS H xs ds->bS H' xs ds
 | _,_,.nil => .nil
 | _,_,.cons a b => .cons (b7.mono k k2 a) (bS.mono k k2 b)
end
theorem b7.same {H H':Hp} (s:fP H H') {x:V} {d:PyData} (h:b7 H x d):b7 H' x d:=h.mono (λ _ _ e=>s _ _ e) λ _ _ e=>s _ _ e
theorem bS.same {H H':Hp} (s:fP H H') {xs:List V} {ds:List PyData} (h:bS H xs ds):bS H' xs ds:=h.mono (λ _ _ e=>s _ _ e) λ _ _ e=>s _ _ e
theorem bS.ints {H:Hp} : ∀ (ns:List Int),bS H (ns.map V.int) (ns.map PyData.int)
 | [] => .nil
 | n::r => .cons (.int n) (bS.ints r)
theorem bS.length {H:Hp} : ∀ {xs:List V} {ds:List PyData},bS H xs ds->xs.length=ds.length
 | _,_,.nil=>rfl
 | _,_,.cons _ b=>by rw [List.length_cons,List.length_cons,bS.length b]
abbrev shaped:=PySem.SeqAt.shaped
section
variable {X:Cx}
def Gk:R2:=λ x y H Q => ∃ d e,b7 H x d/\b7 H y e/\shaped d=true/\shaped e=true/\Q (.bl (PyData.eqv d e)) H
def Iq:R2:=λ x y H Q => ∃ d e,b7 H x d/\b7 H y e/\shaped d=true/\shaped e=true/\Q (.bl (!PyData.eqv d e)) H
theorem xw (hu:X.A.units+64 < cLine):nD X (compareOp .Eq) Gk:=by
 intro pins s σ H x y u v Q I rx ry h
 obtain ⟨d,e,hd,he,sd,se,q⟩:=h
 obtain ⟨_,ra⟩:=hd.reads I.hok rx
 obtain ⟨_,rb⟩:=he.reads I.hok ry
 exact eq_dataH ra rb sd se hu ⟨.bl _,H,I,rfl,q⟩
theorem Gm (hu:X.A.units+64 < cLine):nD X (compareOp .NotEq) Iq:=by
 intro pins s σ H x y u v Q I rx ry h
 obtain ⟨d,e,hd,he,sd,se,q⟩:=h
 obtain ⟨_,ra⟩:=hd.reads I.hok rx
 obtain ⟨_,rb⟩:=he.reads I.hok ry
 exact ne_dataH ra rb sd se hu ⟨.bl _,H,I,rfl,q⟩
end
theorem canLayAll_ints : ∀ (ns:List Int),PyData.canLayAll0 (ns.map PyData.int)=true
 | []=>by simp [PyData.canLayAll0]
 | n::r=>by simp [PyData.canLayAll0,PyData.canLay0,canLayAll_ints r]
theorem depthAll_ints : ∀ (ns:List Int),PyData.depthAll (ns.map PyData.int)<=1
 | []=>by simp [PyData.depthAll]
 | n::r=>by have:=depthAll_ints r;simp only [List.map_cons,PyData.depthAll,PyData.depth];omega
theorem shaped_ints (ns:List Int):shaped (.list (ns.map PyData.int))=true:=by
 have:=depthAll_ints ns
 have e:PyData.depth (.list (ns.map PyData.int))<=64:=by simp only [PyData.depth];omega
 show (PyData.canLay0 (.list (ns.map PyData.int)) && decide (PyData.depth (.list (ns.map PyData.int))<=64))=true
 rw [decide_eq_true e]
 simp only [PyData.canLay0,canLayAll_ints,Bool.true_and]
theorem BI (ns ms:List Int):PyData.eqv (.list (ns.map PyData.int)) (.list (ms.map PyData.int))=decide (ns=ms):=by
 simp only [PyData.eqv];exact PySem.W.ked_eqvAll ns ms
theorem iU : ∀ (ns:List Int),∀ n∈ns,Builtin.Int.intBits n<=PySem.W.WData.weightAll (ns.map PySem.W.WData.int)
 | m::r,n,h=>by
   simp only [List.map_cons,PySem.W.WData.weightAll]
   rcases List.mem_cons.mp h with rfl | h
   ·have:PySem.W.WData.weight (.int n)=Builtin.Int.intBits n:=by simp only [PySem.W.WData.weight,Builtin.Int.intBits]
    omega
   ·have:=iU r n h
    omega
theorem vc {ns:List Int} (h:PySem.W.WData.layableAll [.list (ns.map PySem.W.WData.int)]=true) : ∀ n∈ns,Builtin.Int.intBits n<=1048576:=λ n hn=>by
 have h1:PySem.W.WData.layable (.list (ns.map PySem.W.WData.int))=true:=by simpa [PySem.W.WData.layableAll] using h
 unfold PySem.W.WData.layable at h1
 have h2:=of_decide_eq_true (Bool.and_eq_true_iff.mp h1).2
 have e:(2:Nat) ^ 20=1048576:=by decide
 simp only [PySem.W.WData.weight,e] at h2
 exact Nat.le_trans (iU ns n hn) h2
end L2
namespace JP
open PySem PySem.W PySem.Calls PyProof.Rows
theorem sN {l:OpenLaw} {n:Nat} {q:Program} {loose:List Str} {XP:(Str->Option Value)->Heap->Prop} {YP:World->Heap->Prop} {d:DefRec}
  (hn:l.most=some n) (hdf:d.params.defaults = [])
  (call : ∀ (w:World) (s₀ s₁ : Shared) (mg mb:Str->Option Value) (fa:Addr) (o:Obj) (pm cd doc:Value) (a:Addr) (vs:List Value) (ns:List Int),
   Ground q loose [] XP w s₀ mg mb s₁.heap->YP w s₁.heap →
   s₁.heap.get? fa=some o->o.data = .func (docDef d.name d.params d.body d.scope pm cd doc)->s₁.heap.CodeRec cd d.name->mg d.name=some (.ref fa) →
   s₁.heap.get? a=some { cls := .type "list",data := .seq vs.toArray }->IntsAre vs ns->ns.length<=n->(∀ n∈ns,Builtin.Int.intBits n<=1048576)->s₁.gens = #[] →
   codeAny (model l.prog w) callerA (.call (.ref fa) ⟨[.ref a],[]⟩) (λ r s'=>r = .ok (.ret (.bool true))/\OldK s₁.heap s'.heap/\s'.os=s₁.os/\AllBare s'.gens) s₁) :
  WalkO q loose XP YP l.row.toRowW d [] (λ f vs=>PySem.call f vs):=by
 intro w s₀ s₁ mg mb G Y fa o pm cd doc dV kV ho hd hcd hD hmg hg args vals as hpre hlay hrd hwl hlo
 obtain rfl:dV = .none:=Dflts.none hD hdf
 obtain rfl:kV = .none:=Dflts.noKw hD
 obtain ⟨a,vs,ns,rfl,rfl,hobj,hints,hlen⟩:=zX hn hpre hwl
 refine enter_call (codeAny_mono (call w s₀ s₁ mg mb fa o pm cd doc a vs ns G Y ho (fd_plain hd) hcd hmg hobj hints hlen (L2.vc hlay) hg) λ r s' hq => ?_)
 obtain ⟨rfl,h2,h3,h4⟩:=hq
 exact ⟨.inl ⟨.bool true,.bool true,[],rfl,λ _=>rfl,.bool true,zY l _,λ _=>⟨List.Pairwise.nil,λ _ hm=>(nomatch hm)⟩⟩,h2,h3,h4⟩
end JP
namespace L2
open PySem PySem.Spec PyProof.Rows
def sO (K:PySem.W.Frag):Sp:=λ vs H Q _ => ∃ (a:Addr) (ns:List Int),vs = [.ref a]/\bW K H a (ns.map V.int)/\ns.length<=63/\(∀ n∈ns,Builtin.Int.intBits n<=1048576)/\DQ H ∧ ∀ H',Q (.bl true) H'
theorem Ae {l:PySem.W.OpenLaw} {q:Program} {loose:List Str} {XP:(Str->Option Value)->Heap->Prop} {YP:World->Heap->Prop} {d:DefRec} {K:Params->PySem.W.Frag} {k:Nat} {x:Str} (hn:l.most=some 63) (hdf:d.params.defaults = [])
  (hr:bK k callerA) (hY : ∀ (w:World) (h:Heap),YP w h->(K w.params).In h)
  (F : ∀ (w:World) (mg:Str->Option Value) (fa:Addr) (h:Heap),(K w.params).In h->h.Ns mainGlobals mg->mg d.name=some (.ref fa) →
   ∃ fd:FuncData,(∀ (s:Shared) (u:Value),BindsTo s fd ⟨[u],[]⟩ [(x,u)]) ∧ ∀ base:Heap,(K w.params).In base->base.Ns mainGlobals mg->dQ l.prog w (K w.params) mg base (mF l.prog w) k fa fd [x] (sO (K w.params))) :
  PySem.W.WalkO q loose XP YP l.row.toRowW d [] (λ f vs=>PySem.call f vs):=by
 refine JP.sN hn hdf λ w s₀ s₁ mg mb fa o pm cd doc a vs ns G Y ho hd hcd hmg hobj hints hlen EZ hg => ?_
 have KX:=hY w _ Y
 obtain ⟨fd,hb,hF⟩:=F w mg fa _ KX G.T.g hmg
 exact Bu KX G.T.g G.T.b G.T.builtins G.T.nolimit hg hobj hints (Nat.le_trans hlen (by decide)) hr hF hb (λ H hO hS=>⟨a,ns,rfl,hS,hlen,EZ,hO,λ _=>rfl⟩) λ H e s' ⟨_,_,_,_,_,_,_,z⟩=>z
def yL (scope es:Scope) (x:Str) (N:List Str):Bool :=
 decide (scope.kind = .function) && (scope.names.all λ y=>decide (y.2 ≠ .cell)) && (scope.names.all λ y=>decide (y.2 ≠ .local) || decide (scope.names.lookup y.1=some .local)) && decide (scope.names.lookup x=some .local) &&
 decide (scope.names.lookup ("" : Str)=none) && (scope.names.all λ y=>decide (y.2 ≠ .free) || (decide (es.names.lookup y.1=some .cell) || decide (es.names.lookup y.1=some .free))) &&
 (scope.names.all λ y=>decide (y.2 ≠ .local) || (decide (y.1=x) || !N.contains y.1)) && decide (x::N.map λ y=>if y=x then ("" : Str) else y).Nodup
theorem cu {scope es:Scope} {x:Str} {N:List Str} (h:yL scope es x N=true):iR scope es x N:=by
 unfold yL at h
 simp only [Bool.and_eq_true,decide_eq_true_eq,List.all_eq_true,Bool.or_eq_true,Bool.not_eq_true'] at h
 obtain ⟨⟨⟨⟨⟨⟨⟨h1,h2⟩,h3⟩,h4⟩,h5⟩,h6⟩,h7⟩,h8⟩:=h
 refine ⟨h1,h2,λ y hy e=>(h3 y hy).resolve_left λ z=>z e,h4,h5,λ y hy e=>(h6 y hy).resolve_left λ z=>z e,λ y hy e => ?_,h8⟩
 rcases (h7 y hy).resolve_left λ z=>z e with q | q
 ·exact .inl q
 ·exact .inr λ m=>by
   have:N.contains y.1=true:=List.contains_iff_mem.mpr m
   rw [q] at this;cases this
def Gn (sc:Scope) (x:Str):Bool:=match sc.names.lookup x with
 | some .local=>true
 | some .cell=>true
 | some .free=>true
 | _=>false
theorem Gp {sc:Scope} {x:Str} (h:Gn sc x=true):Fv sc x:=by
 unfold Gn at h
 unfold Fv
 split at h <;> simp_all
section
variable {X:Cx}
theorem pk (i:Nat) {x:Str} {pos:Pos} (hN:X.N[i]? = some x:=by kernel_rfl) (hv:Gn X.env.scope x=true:=by kernel_rfl) (hd:(x == ("__debug__" : Str))=false:=by decide)
  (hcd:(x == ("__classdict__" : Str))=false:=by decide):PE X (.Name x pos) (uE i):=wJ hN (Gp hv) hd hcd
theorem JZ {X:Cx} : ∀ e s,G9 X E0 e s->X.xe e s:=by
 rintro _ _ ⟨_,_,_,_,_,_,_,_,_,_,_,_,_,z⟩
 exact z.elim
end
section
variable {P:Program} {w:World} {K:PySem.W.Frag} {mg:Str->Option Value} {base:Heap}
theorem Def.o6 {x:Str} {st:Stmt} {N ps:List Str} {k:Nat} {sp:Sp} (D:Def K mg x st) (S:b6 N ps (ai st)) (len : ∀ vs H Q E,sp vs H Q E->vs.length=ps.length)
  (hb : ∀ (kV doc pm:Value) (an:Option Addr) (cdv ct:Value) (us:List Value),us.length=ps.length->bindArgs (PySem.W.fnOf x x (bD st) (aP st) (ai st) .none kV doc pm an cdv ct) ⟨us,[]⟩ = pure (ps.zip us))
  (hbody : ∀ (f:Addr) (cdv:Value) (A:Around) (outer:List Env) (s:Shared) (H:Hp) (vs:List V) (Q:VK) (E:XK),bK k (A.deeper (envOfC x (ai st) s.heap.objs.size f cdv))->sp vs H Q E →
   ∃ t,qm (yJ P w K mg base N x (ai st) f cdv A outer s H E) (aP st) t/\t { nx:=λ _ H'=>Q .aN H',rt:=Q } (start N vs) H):(aM P w K mg base) (k+1) x ps sp:=by
 obtain ⟨f,fd,hm,F⟩:=D
 refine ⟨f,fd,hm,F.kp,F.binds hb,?_⟩
 obtain ⟨oc,od,kV,doc,pm,an,cdv,ct,osl,rfl,lk,hcd⟩:=F.ex
 exact oO lk hcd S len λ A outer s H vs Q E hr uz=>hbody _ cdv A outer s H vs Q E hr uz
structure jG (K:PySem.W.Frag) (mg:Str->Option Value) (x:Str) (C:Addr):Prop where
 cl:Dc K C
 wH:mg x=some (.ref C)
def dD (K:PySem.W.Frag) (C:Addr) (m qual:Str) (st:Stmt):Prop := ∃ f fd,Meth K C m f/\yx K m qual st f fd
structure bH (P:Program) (w:World) (K:PySem.W.Frag) (mg:Str->Option Value) (base:Heap) (k:Nat) (C:Addr) (m:Str) (ps:List Str) (sp:Sp):Prop where
 ex : ∃ f fd,Meth K C m f/\Binds K fd ps []/\(dQ P w K mg base) (mF P w) k f fd ps sp
def fk (K:PySem.W.Frag) (C:Addr) (qual:Str) (st:Stmt):Prop := ∃ f fd,Mk K C f/\yx K "__init__" qual st f fd
structure cj (P:Program) (w:World) (K:PySem.W.Frag) (mg:Str->Option Value) (base:Heap) (k:Nat) (C:Addr) (ps:List Str) (sp:Sp):Prop where
 ex : ∃ f fd,Mk K C f/\Binds K fd ps []/\(dQ P w K mg base) (mF P w) k f fd ps sp
theorem bH.mono {C:Addr} {m:Str} {ps:List Str} {sp:Sp} {j k:Nat} (F:(bH P w K mg base) j C m ps sp) (h:j<=k):(bH P w K mg base) k C m ps sp:=by
 obtain ⟨f,fd,h1,h3,h4⟩:=F.ex
 exact ⟨f,fd,h1,h3,h4.mono h⟩
theorem dD.o6 {C:Addr} {m qual:Str} {st:Stmt} {N ps:List Str} {k:Nat} {sp:Sp} (D:dD K C m qual st) (S:b6 N ps (ai st)) (len : ∀ vs H Q E,sp vs H Q E->vs.length=ps.length)
  (hb : ∀ (kV doc pm:Value) (an:Option Addr) (cdv ct:Value) (us:List Value),us.length=ps.length->bindArgs (PySem.W.fnOf m qual (bD st) (aP st) (ai st) .none kV doc pm an cdv ct) ⟨us,[]⟩ = pure (ps.zip us))
  (hbody : ∀ (f:Addr) (cdv:Value) (A:Around) (outer:List Env) (s:Shared) (H:Hp) (vs:List V) (Q:VK) (E:XK),bK k (A.deeper (envOfC qual (ai st) s.heap.objs.size f cdv))->sp vs H Q E →
   ∃ t,qm (yJ P w K mg base N qual (ai st) f cdv A outer s H E) (aP st) t/\t { nx:=λ _ H'=>Q .aN H',rt:=Q } (start N vs) H):(bH P w K mg base) (k+1) C m ps sp:=by
 obtain ⟨f,fd,hm,F⟩:=D
 refine ⟨f,fd,hm,F.binds hb,?_⟩
 obtain ⟨oc,od,kV,doc,pm,an,cdv,ct,osl,rfl,lk,hcd⟩:=F.ex
 exact oO lk hcd S len λ A outer s H vs Q E hr uz=>hbody _ cdv A outer s H vs Q E hr uz
theorem dD.ok {C:Addr} {m qual:Str} {st:Stmt} {N ps:List Str} {k:Nat} {sp:Sp} (D:dD K C m qual st) (S:b6 N ps (ai st)) (len : ∀ vs H Q E,sp vs H Q E->vs.length=ps.length)
  (hb : ∀ (kV doc pm:Value) (an:Option Addr) (cdv ct:Value) (us:List Value),us.length=ps.length->bindArgs (PySem.W.fnOf m qual (bD st) (aP st) (ai st) .none kV doc pm an cdv ct) ⟨us,[]⟩ = pure (ps.zip us))
  (hbody : ∀ (f:Addr) (cdv:Value) (A:Around) (outer:List Env) (s:Shared) (H:Hp) (vs:List V) (Q:VK) (E:XK),bK k (A.deeper (envOfC qual (ai st) s.heap.objs.size f cdv))->sp vs H Q E →
   ∃ t,qm (nY (mF P w) P w K mg base N qual (ai st) f cdv A outer s H E).uy (aP st) t/\t { nx:=λ _ H'=>Q .aN H',rt:=Q } (start N vs) H):(bH P w K mg base) (k+1) C m ps sp:=by
 refine D.o6 S len hb λ f cdv A outer s H vs Q E hr h => ?_
 obtain ⟨t,h,q⟩:=hbody f cdv A outer s H vs Q E hr h
 exact ⟨t,h.uy,q⟩
theorem fk.o6 {C:Addr} {qual:Str} {st:Stmt} {N ps:List Str} {k:Nat} {sp:Sp} (D:fk K C qual st) (S:b6 N ps (ai st)) (len : ∀ vs H Q E,sp vs H Q E->vs.length=ps.length)
  (hb : ∀ (kV doc pm:Value) (an:Option Addr) (cdv ct:Value) (us:List Value),us.length=ps.length->bindArgs (PySem.W.fnOf "__init__" qual (bD st) (aP st) (ai st) .none kV doc pm an cdv ct) ⟨us,[]⟩ = pure (ps.zip us))
  (hbody : ∀ (f:Addr) (cdv:Value) (A:Around) (outer:List Env) (s:Shared) (H:Hp) (vs:List V) (Q:VK) (E:XK),bK k (A.deeper (envOfC qual (ai st) s.heap.objs.size f cdv))->sp vs H Q E →
   ∃ t,qm (yJ P w K mg base N qual (ai st) f cdv A outer s H E) (aP st) t/\t { nx:=λ _ H'=>Q .aN H',rt:=Q } (start N vs) H):(cj P w K mg base) (k+1) C ps sp:=by
 obtain ⟨f,fd,hm,F⟩:=D
 refine ⟨f,fd,hm,F.binds hb,?_⟩
 obtain ⟨oc,od,kV,doc,pm,an,cdv,ct,osl,rfl,lk,hcd⟩:=F.ex
 exact oO lk hcd S len λ A outer s H vs Q E hr uz=>hbody _ cdv A outer s H vs Q E hr uz
theorem fk.ok {C:Addr} {qual:Str} {st:Stmt} {N ps:List Str} {k:Nat} {sp:Sp} (D:fk K C qual st) (S:b6 N ps (ai st)) (len : ∀ vs H Q E,sp vs H Q E->vs.length=ps.length)
  (hb : ∀ (kV doc pm:Value) (an:Option Addr) (cdv ct:Value) (us:List Value),us.length=ps.length->bindArgs (PySem.W.fnOf "__init__" qual (bD st) (aP st) (ai st) .none kV doc pm an cdv ct) ⟨us,[]⟩ = pure (ps.zip us))
  (hbody : ∀ (f:Addr) (cdv:Value) (A:Around) (outer:List Env) (s:Shared) (H:Hp) (vs:List V) (Q:VK) (E:XK),bK k (A.deeper (envOfC qual (ai st) s.heap.objs.size f cdv))->sp vs H Q E →
   ∃ t,qm (nY (mF P w) P w K mg base N qual (ai st) f cdv A outer s H E).uy (aP st) t/\t { nx:=λ _ H'=>Q .aN H',rt:=Q } (start N vs) H):(cj P w K mg base) (k+1) C ps sp:=by
 refine D.o6 S len hb λ f cdv A outer s H vs Q E hr h => ?_
 obtain ⟨t,h,q⟩:=hbody f cdv A outer s H vs Q E hr h
 exact ⟨t,h.uy,q⟩
theorem Gq {h:Heap} {x:Str} {C:Addr} (X:K.In h) (G:h.Ns mainGlobals mg) (a:PySem.W.nsIn K mainGlobals x=some (some (.ref C))) (h1:PySem.W.plainGet K C Str.empty=true) (h2:PySem.W.hasDictIn K C=true) (h3:PySem.W.plainOver K C=true)
  (h4:PySem.W.findIn K (.ref C) "__setattr__" = some (some (.builtin "object.__setattr__"))):jG K mg x C:=⟨⟨h1,h2,h3,h4⟩,PySem.W.mg_of X G a⟩
theorem D4 {C f:Addr} {m qual:Str} {st:Stmt} {oc:Value} {od an:Option Addr} {osl:Array (Option Value)} {kV doc pm cdv ct:Value} (a:PySem.W.findIn K (.ref C) m=some (some (.ref f))) (fn:PySem.W.isFn K (.ref f)=true)
  (l:K.lookup f=some ⟨oc,od,.func (PySem.W.fnOf m qual (bD st) (aP st) (ai st) .none kV doc pm an cdv ct),osl⟩) (c:PySem.W.codeIn K cdv qual=true) (k:PySem.W.keepIn K (.ref f)=true):dD K C m qual st:=⟨f,_,⟨a,fn,k⟩,xm l c k⟩
theorem D5 {C f:Addr} {qual:Str} {st:Stmt} {oc:Value} {od an:Option Addr} {osl:Array (Option Value)} {kV doc pm cdv ct:Value} (m:PySem.W.makesIn K C=true) (a:PySem.W.findIn K (.ref C) "__init__" = some (some (.ref f))) (fn:PySem.W.isFn K (.ref f)=true) (kC:PySem.W.keepIn K (.ref C)=true)
  (l:K.lookup f=some ⟨oc,od,.func (PySem.W.fnOf "__init__" qual (bD st) (aP st) (ai st) .none kV doc pm an cdv ct),osl⟩) (c:PySem.W.codeIn K cdv qual=true) (k:PySem.W.keepIn K (.ref f)=true):fk K C qual st:=⟨f,_,⟨m,a,fn,kC⟩,xm l c k⟩
end
section
variable {X:Cx} {k:Nat} {C:Addr} {ps:List Str} {sp:Sp} {E:XK} {x m:Str} {p pos apos:Pos} {e o:Expr} {es:List Expr} {ta:TE} {t:TA}
theorem dI {pl:Sem Bool} (T:jG X.K X.mg x C) (F:bH X.prog X.w X.K X.mg X.base k C m ps sp) (hr:bK k X.A) (hx:Passes (mF X.prog X.w) X E) (he:PE X o ta) (ha:PA X (e::es) t)
  (hst:starEach (e::es) X.env=(false,eval e X.env)::starEach es X.env:=by rfl) (hpl:(backTo pos (starEach es X.env)).any (·.1)=false:=by rfl)
  (ht:eval (.Call (.Attribute o m apos) (e::es) [] pos) X.env=(do
   let ov <-eval o X.env
   standAt apos.atName
   let (f,first) <-holding [ov] (getMethod ov m pl)
   callWith pos f first (backTo pos (starEach (e::es) X.env)) (backToKw pos (keywordEach [] X.env))):=by rfl) :
  PE X (.Call (.Attribute o m apos) (e::es) [] pos) (nH C m sp [] E ta t):=by
 obtain ⟨f,fd,h1,h3,h4⟩:=F.ex
 exact Dy he T.cl h1 h4 hr h3 .nil hx ha hst hpl ht
theorem ff {pl:Sem Bool} (T:jG X.K X.mg x C) (F:bH X.prog X.w X.K X.mg X.base k C m ps sp) (hr:bK k X.A) (hx:Passes (mF X.prog X.w) X E) (he:PE X o ta)
  (ht:eval (.Call (.Attribute o m apos) [] [] pos) X.env=(do
   let ov <-eval o X.env
   standAt apos.atName
   let (f,first) <-holding [ov] (getMethod ov m pl)
   callWith pos f first (backTo pos (starEach [] X.env)) (backToKw pos (keywordEach [] X.env))):=by rfl) :
  PE X (.Call (.Attribute o m apos) [] [] pos) (nH C m sp [] E ta qt):=by
 obtain ⟨f,fd,h1,h3,h4⟩:=F.ex
 exact Bg he T.cl h1 h4 hr h3 .nil hx ht
theorem fm (T:jG X.K X.mg x C) (F:cj X.prog X.w X.K X.mg X.base k C ps sp) (hr:bK (k+1) X.A) (hg:Gl X x) (hx:Passes (mF X.prog X.w) X E) (ha:PA X (e::es) t)
  (hdb:(x == ("__debug__" : Str))=false:=by decide) (he:starEach (e::es) X.env=(false,eval e X.env)::starEach es X.env:=by rfl) (hpl:(backTo pos (starEach es X.env)).any (·.1)=false:=by rfl) :
  PE X (.Call (.Name x p) (e::es) [] pos) (nI C sp [] E t):=by
 obtain ⟨f,fd,h1,h3,h4⟩:=F.ex
 exact Dz h1 h4 hr hg T.wH h3 .nil hx ha hdb he hpl
theorem mU (T:jG X.K X.mg x C) (F:cj X.prog X.w X.K X.mg X.base k C ps sp) (hr:bK (k+1) X.A) (hg:Gl X x) (hx:Passes (mF X.prog X.w) X E)
  (hdb:(x == ("__debug__" : Str))=false:=by decide):PE X (.Call (.Name x p) [] [] pos) (nI C sp [] E qt):=by
 obtain ⟨f,fd,h1,h3,h4⟩:=F.ex
 exact Bh h1 h4 hr hg T.wH h3 .nil hx hdb
def vd (C:Addr) (ta:TE) (f:Str):TE:=fun σ H Q=>ta σ H λ x H1 => ∃ a dx fs v,x = .ref a/\H1 a=some (.ins C dx fs)/\fs.lookup f=some v/\Q v H1
theorem aF {f:Str} (T:jG X.K X.mg x C) (na:aY X.K C f) (he:PE X o ta) (hb:attributeBase o f X.env (eval o X.env)=eval o X.env:=by rfl):PE X (.Attribute o f pos) (vd C ta f):=by
 intro pins s σ H Q I h
 refine Dw hb (bL (he pins s σ H _ I h) ?_)
 rintro u s1 ⟨x,H1,I1,rx,a,dx,fs,v,ex,ea,l,q⟩
 subst ex
 obtain rfl:u=Value.ref a:=rx
 exact wR I1 ea T.cl na l λ u' s2 I2 ru=>⟨v,H1,I2,ru,q⟩
def ve (C:Addr) (ta tv:TE) (f:Str):TS:=λ D σ H=>tv σ H λ y H1=>ta σ H1 λ x H2 => ∃ a dx fs,x = .ref a/\H2 a=some (.ins C dx fs)/\fs.length < 1000/\D.nx σ (upd H2 a (.ins C dx (bu f y fs)))
theorem aL {f:Str} {value:Expr} {tv:TE} {pos':Pos} (T:jG X.K X.mg x C) (na:aY X.K C f) (ha:PE X o ta) (hv:PE X value tv) (hs:swapsWith value (some (.Attribute o f pos')) pos.line X.env=pure false:=by rfl):PS X (.Assign [.Attribute o f pos'] value pos) (ve C ta tv f):=by
 intro pins s σ H D I h
 refine plainObj_wpAny_Assign_Attribute (bL (hv pins s σ H _ I h) λ u s1 ⟨y,H1,I1,ry,q⟩=>bL (ha pins s1 σ H1 _ I1 q) ?_) hs
 rintro ov s2 ⟨x,H2,I2,rx,a,dx,fs,ex,ea,l,q2⟩
 subst ex
 obtain rfl:ov=Value.ref a:=rx
 exact wU I2 ea T.cl na l ry λ s3 I3=>⟨σ,_,I3,q2⟩
end
structure Hg (mg:Str->Option Value) (x:Str) (C:Addr):Prop where
 wH:mg x=some (.ref C)
theorem Gr {K:PySem.W.Frag} {h:Heap} {mg:Str->Option Value} {x:Str} {C:Addr} (X:K.In h) (G:h.Ns mainGlobals mg) (a:PySem.W.nsIn K mainGlobals x=some (some (.ref C))):Hg mg x C:=⟨PySem.W.mg_of X G a⟩
theorem D6 {K:PySem.W.Frag} {C:Addr} (c0:PySem.W.hasDictIn K C=true) (c1:PySem.W.findIn K (.ref C) "__getattribute__" = some (some (.builtin "BaseException.__getattribute__"))) (c2:PySem.W.findIn K (.ref C) "__getattr__" = some none)
  (c3:PySem.W.findIn K (.ref C) "__class__" = some (some (.builtin "object.__class__"))) (c4:PySem.W.specialIn K (.builtin "object.__class__") "__get__" = some (some (.builtin "getset_descriptor.__get__"))) (c5:PySem.W.takesIn K (.builtin "object.__class__")=some true)
  (c6:PySem.W.mroIn K C (.type "object")=some true) (c7:PySem.W.subIn K (.ref C) (.type "BaseException")=some true):PySem.W.DU K C:=⟨c0,c1,c2,c3,c4,c5,c6,c7⟩
theorem Af {H:Hp} {x:V} {t:String} (h:wG H x=some t):x = .aN\/(∃ b,x = .bl b)\/(∃ n,x = .int n)\/(∃ s,x = .str s)\/(∃ a xs,x = .ref a/\H a=some (.lst xs))\/(∃ a xs,x = .ref a/\H a=some (.tup xs)) ∨ ∃ a kvs,x = .ref a/\H a=some (.dK kvs):=by
 cases x with
 | aN=>exact .inl rfl
 | bl b=>exact .inr (.inl ⟨b,rfl⟩)
 | int n=>exact .inr (.inr (.inl ⟨n,rfl⟩))
 | str s=>exact .inr (.inr (.inr (.inl ⟨s,rfl⟩)))
 | ref a =>
   unfold wG at h
   cases e:H a with
   | none=>simp only [e] at h;cases h
   | some o =>
     simp only [e] at h
     cases o with
     | lst xs=>exact .inr (.inr (.inr (.inr (.inl ⟨a,xs,rfl,e⟩))))
     | tup xs=>exact .inr (.inr (.inr (.inr (.inr (.inl ⟨a,xs,rfl,e⟩)))))
     | dK xs=>exact .inr (.inr (.inr (.inr (.inr (.inr ⟨a,xs,rfl,e⟩)))))
     | _=>cases h
 | _=>cases h
theorem lK:bX "dict" "int" = some false:=rfl
theorem jZ:bX "dict" "bool" = some false:=rfl
theorem j0:bX "dict" "list" = some false:=rfl
theorem j3:bX "str" "tuple" = some false:=rfl
theorem nO:bX "int" "str" = some false:=rfl
theorem lM:bX "bool" "str" = some false:=rfl
theorem lN:bX "NoneType" "str" = some false:=rfl
theorem lO:bX "list" "str" = some false:=rfl
theorem j4:bX "tuple" "str" = some false:=rfl
theorem j5:bX "dict" "dict" = some true:=rfl
def iV:V->Bool
 | .int _=>true
 | _=>false
theorem sP:qq 10 60=True:=eq_true ⟨by decide,by decide,by decide⟩
theorem yM:qq 10 59=True:=eq_true ⟨by decide,by decide,by decide⟩
theorem yN:qq 10 20=True:=eq_true ⟨by decide,by decide,by decide⟩
theorem BJ:qq 10 9=True:=eq_true ⟨by decide,by decide,by decide⟩
theorem BK:qq 10 6=True:=eq_true ⟨by decide,by decide,by decide⟩
section
variable {X:Cx} {K:PySem.W.Frag}
theorem kJ (h:X.K=K):eT X (.builtin "isinstance") (EY K):=by subst h;exact Ab
theorem o7 (h:X.K=K):HV X (Bm K):=by subst h;exact yv
theorem o8 (h:X.K=K):HS X (zV K):=by subst h;exact DL
theorem qx (h:X.K=K):eT X (.builtin "len") (λ xs H Q => ∃ p ys,xs = [.ref p]/\(bW K H p ys\/r6 K H p ys)/\Q (.int ys.length) H):=by subst h;exact gC
theorem bJ (h:X.K=K):eT X (.type "list") (λ xs H Q => ∃ p ys,xs = [.ref p]/\(bW K H p ys\/r6 K H p ys) ∧ ∀ l,H l=none->Q (.ref l) (upd H l (.lst ys))):=by subst h;exact sF
end
theorem rE (n:Int):iV (.int n)=true:=rfl
theorem rF:iV .aN=false:=rfl
theorem vf (b:Bool):iV (.bl b)=false:=rfl
theorem rG (s:Str):iV (.str s)=false:=rfl
theorem rH (a:Addr):iV (.ref a)=false:=rfl
def lP (J:It) (tt:TT) (te:TE) (σ : St) (Q:VK) (H1:Hp):Prop := ∀ p,H1 p=none->∃ W:Nat->Nat->List V->Hp->Prop,(∃ m,W 0 m [] (upd H1 p (.lst []))) ∧ ∀ i m acc H2,W i m acc H2 →
 H2 p=some (.lst acc)/\((J.stop i H2/\Q (.ref p) H2)\/(J.go i H2 ∧ ∃ N:List V->Hp->Prop,(∀ acc' H',N acc' H'->∃ m',m' < m/\W (i+1) m' acc' H') ∧ ∀ x H3,J.Dp i H2 x H3->tt (some x :: σ) H3 λ b H4 =>
  if b=true then te (some x :: σ) H4 λ v H5=>H5 p=some (.lst acc)/\acc.length < sizeLine/\N (acc++[v]) (upd H5 p (.lst (acc++[v]))) else N acc H4))
theorem rJ {K:PySem.W.Frag} {tl:TE} {tt:TT} {te:TE} {σ : St} {H:Hp} {Q:VK}
  (h : ∀ L,Is L (λ a H1=>lP (AO K a) tt te σ Q H1)->tl σ H λ x H1 => ∃ a,x = .ref a/\(∃ xs,bW K H1 a xs)/\L a H1):u9 (uL K tl) tt te σ H Q:=h _ Is.rfl
theorem Gs {ta:TA} {tt:TT} {te:TE} {σ : St} {H:Hp} {Q:VK}
  (h : ∀ L,Is L (λ n H1=>lP (wM 0 n) tt te σ Q H1)->ta σ H λ vs H1 => ∃ j:Int,vs = [.int j] ∧ -(2 ^ 62)<=j/\j < 2 ^ 62/\L j.toNat H1):u9 (A7 ta) tt te σ H Q:=h _ Is.rfl
theorem Gu {ta:TA} {tt:TT} {te:TE} {σ : St} {H:Hp} {Q:VK}
  (h : ∀ L,Is L (λ i n H1=>lP (wM i n) tt te σ Q H1)->ta σ H λ vs H1 => ∃ i j:Int,vs = [.int i,.int j]/\(-(2 ^ 62)<=i/\i < 2 ^ 62 ∧ -(2 ^ 62)<=j/\j < 2 ^ 62)/\L i (j - i).toNat H1):u9 (EJ ta) tt te σ H Q:=h _ Is.rfl
theorem vg {K:PySem.W.Frag} {a:Addr} {tt:TT} {te:TE} {σ : St} {Q:VK} {H1:Hp} (xs:List V) (Pv:Addr->Nat->List V->Hp->Prop) (h0 : ∀ p,H1 p=none->Pv p 0 [] (upd H1 p (.lst [])))
  (hl : ∀ p i acc H,H1 p=none->Pv p i acc H->H p=some (.lst acc)/\bW K H a xs)
  (hs : ∀ p i x acc H,H1 p=none->xs[i]? = some x->Pv p i acc H->tt (some x :: σ) H λ b H4=>if b=true then te (some x :: σ) H4 λ v H5=>H5 p=some (.lst acc)/\acc.length < sizeLine/\Pv p (i+1) (acc++[v]) (upd H5 p (.lst (acc++[v]))) else Pv p (i+1) acc H4)
  (hd : ∀ p acc H,H1 p=none->Pv p xs.length acc H->Q (.ref p) H):lP (AO K a) tt te σ Q H1:=by
 intro p hp
 refine ⟨λ i m acc H=>Pv p i acc H/\i<=xs.length/\m=xs.length - i,⟨_,h0 p hp,Nat.zero_le _,rfl⟩,?_⟩
 rintro i m acc H2 ⟨hP,hi,rfl⟩
 obtain ⟨ha,hq⟩:=hl p i acc H2 hp hP
 refine ⟨ha,?_⟩
 by_cases e:i=xs.length
 ·subst e
  exact .inl ⟨⟨xs,hq,Nat.le_refl _⟩,hd p acc H2 hp hP⟩
 ·have hlt:i < xs.length:=by omega
  refine .inr ⟨⟨xs,xs[i],hq,by simp [hlt]⟩,λ acc' H'=>Pv p (i+1) acc' H',λ acc' H' h'=>⟨_,?_,h',hlt,rfl⟩,?_⟩
  ·omega
  ·rintro x H3 ⟨rfl,hx⟩
   exact hs p i x acc H3 hp (hx xs hq) hP
theorem rK {lo:Int} {n:Nat} {tt:TT} {te:TE} {σ : St} {Q:VK} {H1:Hp} (Pv:Addr->Nat->List V->Hp->Prop) (h0 : ∀ p,H1 p=none->Pv p 0 [] (upd H1 p (.lst [])))
  (hl : ∀ p i acc H,H1 p=none->Pv p i acc H->H p=some (.lst acc))
  (hs : ∀ p i acc H,H1 p=none->i < n->Pv p i acc H->tt (some (.int (lo+i)) :: σ) H λ b H4=>if b=true then te (some (.int (lo+i)) :: σ) H4 λ v H5=>H5 p=some (.lst acc)/\acc.length < sizeLine/\Pv p (i+1) (acc++[v]) (upd H5 p (.lst (acc++[v]))) else Pv p (i+1) acc H4)
  (hd : ∀ p acc H,H1 p=none->Pv p n acc H->Q (.ref p) H):lP (wM lo n) tt te σ Q H1:=by
 intro p hp
 refine ⟨λ i m acc H=>Pv p i acc H/\i<=n/\m=n - i,⟨_,h0 p hp,Nat.zero_le _,rfl⟩,?_⟩
 rintro i m acc H2 ⟨hP,hi,rfl⟩
 refine ⟨hl p i acc H2 hp hP,?_⟩
 by_cases e:i=n
 ·subst e
  exact .inl ⟨Nat.le_refl _,hd p acc H2 hp hP⟩
 ·have hlt:i < n:=by omega
  refine .inr ⟨hlt,λ acc' H'=>Pv p (i+1) acc' H',λ acc' H' h'=>⟨_,?_,h',hlt,rfl⟩,?_⟩
  ·omega
  ·rintro x H3 ⟨rfl,rfl⟩
   exact hs p i acc H3 hp hlt hP
theorem E2 {α : Type} {x0 x1 x2 x3 x4 x5 : α} {xs:List α} : iB (x0::x1::x2::x3::x4::x5::xs) 5=some x5:=fM (j:=5) rfl
theorem Nn {α : Type} {x0 x1 x2 x3 x4 x5 x6 x7 : α} {xs:List α} : iB (x0::x1::x2::x3::x4::x5::x6::x7::xs) 7=some x7:=fM (j:=7) rfl
structure Np (H:Hp) (p:Addr) (H':Hp):Prop where
 free:H p=none
 same:fP H H'
theorem Np.upd {H:Hp} {p:Addr} {o:HO} (h:H p=none):Np H p (L2.upd H p o):=⟨h,oX h⟩
theorem Is.use {α β : Type} {R S : α->β->Prop} (h:Is R S) {x : α} {y : β} (k:S x y):R x y:=by cases h;exact k
def Hid {α β : Type} (S : α->β->Prop) (g:(α->β->Prop)->Prop):Prop := ∀ R,(∀ x y,S x y->R x y)->g R
theorem La {α β : Type} {S : α->β->Prop} {g:(α->β->Prop)->Prop} (h : ∀ R,(∀ x y,S x y->R x y)->g R):Hid S g:=h
section
variable {σ : St} {H:Hp} {Q:VK} {D:Ends} {ta tb tc te:TE} {t u:TA} {r:R2} {b:TS} {QB:Bool->Hp->Prop} {c d:TT} {QA:List V->Hp->Prop}
theorem Lb {g:TG} (h : ∀ R,Is R (λ x H1=>g x σ H1 D.nx)->te σ H R):wL te g D σ H:=h _ Is.rfl
theorem Ir (h : ∀ R,Is R (λ _ H1=>D.nx σ H1)->te σ H R):qV te D σ H:=h _ Is.rfl
theorem Ld (h : ∀ R,Is R (λ x H1=>D.rt x H1)->te σ H R):zH te D σ H:=h _ Is.rfl
theorem OR {a b:TS} (h : ∀ R,Is R (λ k H1=>if k=true then a D σ H1 else b D σ H1)->c σ H R):zI c a b D σ H:=h _ Is.rfl
theorem Iu (h : ∀ R,Is R (λ x H1 => ∃ k,x = .bl k/\QB k H1)->te σ H R):qX te σ H QB:=h _ Is.rfl
theorem OS (h : ∀ R,Is R (λ x H1 => ∃ k,x = .bl k/\QB k H1)->te σ H R):tB te σ H QB:=h _ Is.rfl
theorem Le (h : ∀ R,Is R (λ k H1=>QB (!k) H1)->c σ H R):A2 c σ H QB:=h _ Is.rfl
theorem Lf (h : ∀ R,Is R (λ k H1=>if k=true then d σ H1 QB else QB false H1)->c σ H R):AZ c d σ H QB:=h _ Is.rfl
theorem OT (h : ∀ R,Is R (λ k H1=>if k=true then QB true H1 else d σ H1 QB)->c σ H R):HA c d σ H QB:=h _ Is.rfl
theorem Lg {α β : Type} {R S : α->β->Prop} (h : ∀ x y,S x y->R x y) {x : α} {y : β} (k:S x y):R x y:=h x y k
theorem Iv (h : ∀ R,Is R (λ x H1 => ∃ c,x = .bl c/\if c=true then tb σ H1 Q else Q (.bl false) H1)->ta σ H R):uF ta tb σ H Q:=h _ Is.rfl
theorem Iw (h : ∀ R,Is R (λ x H1 => ∃ c,x = .bl c/\Q (.bl (!c)) H1)->ta σ H R):uG ta σ H Q:=h _ Is.rfl
theorem Lh (h : ∀ R,Is R (λ k H1=>if k=true then ta σ H1 Q else tb σ H1 Q)->c σ H R):HC c ta tb σ H Q:=h _ Is.rfl
theorem OU (h : ∀ R,(∀ x H1,Hid (λ y H2=>r x y H2 Q) (λ R2=>tb σ H1 R2)->R x H1)->ta σ H R):Dq r ta tb σ H Q:=h (λ x H1=>tb σ H1 λ y H2=>r x y H2 Q) λ _ _ z=>z _ λ _ _ z2=>z2
theorem OV {q:V->Hp->VK->Prop} (h : ∀ R,Is R (λ x H1=>q x H1 Q)->ta σ H R):HE q ta σ H Q:=h _ Is.rfl
theorem OW {q:V->Option Int->Option Int->Hp->VK->Prop} {tl th:TO} (h : ∀ R,Is R (λ x H1=>tl σ H1 λ l H2=>th σ H2 λ u H3=>q x l u H3 Q)->te σ H R):HU q te tl th σ H Q:=h _ Is.rfl
theorem Iz {QO:Option Int->Hp->Prop} (h : ∀ R,Is R (λ x H1 => ∃ i,x = .int i/\QO (some i) H1)->te σ H R):uW te σ H QO:=h _ Is.rfl
theorem IA (h : ∀ R,Is R (λ x H1=>t σ H1 λ xs H2=>QA (x::xs) H2)->te σ H R):qZ te t σ H QA:=h _ Is.rfl
theorem Li (h : ∀ R,Is R (λ xs H1=>xs.length<=sizeLine ∧ ∀ p,H1 p=none->Q (.ref p) (upd H1 p (.tup xs)))->t σ H R):Be t σ H Q:=h _ Is.rfl
theorem Lj (h : ∀ R,Is R (λ xs H1=>xs.length<=sizeLine ∧ ∀ p,H1 p=none->Q (.ref p) (upd H1 p (.lst xs)))->t σ H R):Bf t σ H Q:=h _ Is.rfl
theorem IB {sp:Sp} {fG:List V} {E:XK} (h : ∀ R,Is R (λ vs H1=>sp (vs++fG) H1 Q E)->t σ H R):nG sp fG E t σ H Q:=h _ Is.rfl
theorem OX {q:List V->Hp->VK->Prop} (h : ∀ R,Is R (λ vs H1=>q vs H1 Q)->t σ H R):FO q t σ H Q:=h _ Is.rfl
theorem IC {C:Addr} {m:Str} {sp:Sp} {fG:List V} {E:XK} (h : ∀ R,Is R (λ x H1 => ∃ a dx fs,x = .ref a/\H1 a=some (.ins C dx fs)/\fs.lookup m=none/\t σ H1 λ vs H2=>sp (x::(vs++fG)) H2 Q E)->ta σ H R):nH C m sp fG E ta t σ H Q:=h _ Is.rfl
theorem ID {C:Addr} {sp:Sp} {fG:List V} {E:XK} (h : ∀ R,Is R (λ vs H1 => ∀ x dx,H1 x=none->H1 dx=none->dx≠x->sp (.ref x::(vs++fG)) (upd (upd H1 dx (.own x)) x (.ins C dx [])) (λ v H2=>v = .aN/\Q (.ref x) H2) E)->t σ H R):nI C sp fG E t σ H Q:=h _ Is.rfl
theorem Lk {C:Addr} {f:Str} (h : ∀ R,Is R (λ x H1 => ∃ a dx fs v,x = .ref a/\H1 a=some (.ins C dx fs)/\fs.lookup f=some v/\Q v H1)->ta σ H R):vd C ta f σ H Q:=h _ Is.rfl
theorem IE {C:Addr} {f:Str} (h : ∀ R,Is R (λ y H1=>ta σ H1 λ x H2 => ∃ a dx fs,x = .ref a/\H2 a=some (.ins C dx fs)/\fs.length < 1000/\D.nx σ (upd H2 a (.ins C dx (bu f y fs))))->te σ H R):ve C ta te f D σ H:=h _ Is.rfl
theorem OY {K:PySem.W.Frag} {T:String} {q:V->List V->Hp->VK->Prop} (h : ∀ R,Is R (λ x H1=>G3 K T x H1/\t σ H1 λ xs H2=>q x xs H2 Q)->ta σ H R):HW K T q ta t σ H Q:=h _ Is.rfl
theorem IF (h : ∀ R,(∀ v H1,Hid (λ x H2=>Hid (λ y H3 => ∃ a H4,x = .ref a/\lu H3 a y v H4/\D.nx σ H4) (λ R3=>tb σ H2 R3)) (λ R2=>ta σ H1 R2)->R v H1)->te σ H R):uS ta tb te D σ H:=h (λ v H1=>ta σ H1 λ x H2=>tb σ H2 λ y H3 => ∃ a H4,x = .ref a/\lu H3 a y v H4/\D.nx σ H4) λ v H1 z=>z _ λ x H2 z2=>z2 _ λ _ _ z3=>z3
theorem IG (h : ∀ R,Is R (λ x H1=>tb σ H1 λ y H2 => ∃ a v,x = .ref a/\fO H2 a y (some v)/\Q v H2)->ta σ H R):uR ta tb σ H Q:=h _ Is.rfl
theorem II (h : ∀ R,Is R (λ y H1=>tb σ H1 λ x H2 => ∃ a o,x = .ref a/\fO H2 a y o/\Q (.bl (!o.isSome)) H2)->ta σ H R):lz ta tb σ H Q:=h _ Is.rfl
theorem Ll {i:Nat} {v:V} (e : σ[i]? = some (some v)) (h:Q v H):uE i σ H Q:=⟨v,e,h⟩
theorem Lm {v:V} (h:Q v H):tC v σ H Q:=h
theorem Ln (h:QA [] H):qt σ H QA:=h
theorem D7 {QO:Option Int->Hp->Prop} (h:QO none H):lC σ H QO:=h
theorem IJ (h:D.nx σ H):qU D σ H:=h
theorem vh {i:Nat} {v:V} {QS:St->Hp->Prop} (h:QS (σ.set i (some v)) H):nC i v σ H QS:=h
theorem OZ {g:Int->Int->V} {i j:Int} (h:Q (g i j) H):A9 g (.int i) (.int j) H Q:=⟨i,j,rfl,rfl,h⟩
theorem iH {C:Int->Int->Prop} {g:Int->Int->V} {i j:Int} (c:C i j) (h:Q (g i j) H):rI C g (.int i) (.int j) H Q:=⟨i,j,rfl,rfl,c,h⟩
theorem uH {g:Int->V} {i:Int} (h:Q (g i) H):rU g (.int i) H Q:=⟨i,rfl,h⟩
theorem O0 {b:Bool} {S:Bool->Prop} (h:S b) : ∃ k,V.bl b = .bl k/\S k:=⟨b,rfl,h⟩
theorem Lo {n:Int} {S:Int->Prop} (h:S n) : ∃ k,V.int n = .int k/\S k:=⟨n,rfl,h⟩
end
def lasts:HO->Bool
 | .tup _=>true
 | .ux _ _=>true
 | _=>false
abbrev Cells:=List (Addr×HO)
structure Led (H:Hp) (L:Cells):Prop where
 at_ : ∀ p∈L,H p.1=some p.2
 nd:((L.filter λ p => !lasts p.2).map (·.1)).Nodup
theorem Led.get {H:Hp} {L:Cells} (h:Led H L) {a:Addr} {o:HO} (m:(a,o)∈L):H a=some o:=h.at_ _ m
theorem Led.nil {H:Hp} : Led H []:=⟨λ _ h=>(nomatch h),List.nodup_nil⟩
theorem Led.new {H:Hp} {L:Cells} (h:Led H L) {p:Addr} {o:HO} (hp:H p=none):Led (upd H p o) ((p,o)::L):=by
 have ne : ∀ q∈L,q.1≠p:=λ q hq e=>by have:=h.at_ q hq;rw [e,hp] at this;cases this
 refine ⟨λ q hq => ?_,?_⟩
 ·rcases List.mem_cons.mp hq with rfl | hq
  ·exact dG
  ·rw [aQ (ne q hq)];exact h.at_ q hq
 ·rw [List.filter_cons]
  split
  ·rw [List.map_cons]
   refine List.nodup_cons.mpr ⟨λ m => ?_,h.nd⟩
   obtain ⟨q,hq,e⟩:=List.mem_map.mp m
   exact ne q (List.mem_filter.mp hq).1 e
  ·exact h.nd
theorem Led.perm {H:Hp} {L L':Cells} (h:Led H L) (e:L.Perm L'):Led H L':=by
 refine ⟨λ p hp=>h.at_ p (e.mem_iff.mpr hp),?_⟩
 exact ((e.filter _).map _).nodup_iff.mp h.nd
theorem Led.put {H:Hp} {L:Cells} {a:Addr} {o o':HO} (h:Led H ((a,o)::L)) (hl:lasts o=false) (hl':lasts o' = false):Led (upd H a o') ((a,o')::L):=by
 have ha:=h.at_ _ List.mem_cons_self
 have nd:=h.nd
 rw [List.filter_cons,if_pos (by simp [hl]),List.map_cons] at nd
 obtain ⟨n1,n2⟩:=List.nodup_cons.mp nd
 have ne : ∀ q∈L,q.1≠a:=λ q hq e=>by
  have hq':=h.at_ q (List.mem_cons_of_mem _ hq)
  rw [e,ha] at hq'
  have e2:o=q.2:=Option.some.inj hq'
  refine n1 (List.mem_map.mpr ⟨q,List.mem_filter.mpr ⟨hq,by rw [<-e2,hl];rfl⟩,e⟩)
 refine ⟨λ q hq => ?_,?_⟩
 ·rcases List.mem_cons.mp hq with rfl | hq
  ·exact dG
  ·rw [aQ (ne q hq)];exact h.at_ q (List.mem_cons_of_mem _ hq)
 ·rw [List.filter_cons,if_pos (by simp [hl']),List.map_cons]
  exact List.nodup_cons.mpr ⟨n1,n2⟩
theorem Led.sub {H:Hp} {L L':Cells} (h:Led H L) (s:L'.Sublist L):Led H L':=⟨λ p hp=>h.at_ p (s.subset hp),List.Nodup.sublist ((s.filter _).map _) h.nd⟩
theorem Led.tail {H:Hp} {L:Cells} {p:Addr×HO} (h:Led H (p::L)):Led H L:=h.sub (List.sublist_cons_self p L)
theorem Led.left {H:Hp} {L M:Cells} (h:Led H (L++M)):Led H L:=h.sub (List.sublist_append_left L M)
theorem Led.right {H:Hp} {L M:Cells} (h:Led H (L++M)):Led H M:=h.sub (List.sublist_append_right L M)
theorem Led.again {H:Hp} {L:Cells} {a:Addr} {o:HO} (h:Led H L) (ha:H a=some o) (hl:lasts o=true):Led H ((a,o)::L):=by
 refine ⟨λ q hq => ?_,?_⟩
 ·rcases List.mem_cons.mp hq with rfl | hq
  ·exact ha
  ·exact h.at_ q hq
 ·rw [List.filter_cons,if_neg (by simp [hl])];exact h.nd
theorem Led.swap {H:Hp} {L:Cells} {p q:Addr×HO} (h:Led H (p::q::L)):Led H (q::p::L):=h.perm (List.Perm.swap q p L)
theorem Led.pull {H:Hp} {L M:Cells} {p:Addr×HO} (h:Led H (L++p::M)):Led H (p::(L++M)):=h.perm List.perm_middle
theorem Led.push {H:Hp} {L M:Cells} {p:Addr×HO} (h:Led H (p::(L++M))):Led H (L++p::M):=h.perm List.perm_middle.symm
theorem Led.alloc {H:Hp} {L:Cells} {o:HO} {Q:VK} (h:Led H L) (k : ∀ p H',H p=none->Led H' ((p,o)::L)->fP H H'->Q (.ref p) H') : ∀ p,H p=none->Q (.ref p) (upd H p o):=λ p hp=>k p _ hp (h.new hp) (oX hp)
theorem Led.same {H H':Hp} {L:Cells} (h:Led H L) (s:fP H H'):Led H' L:=⟨λ p hp=>s _ _ (h.at_ p hp),h.nd⟩
theorem aM.imp {P:Program} {w:World} {K:PySem.W.Frag} {mg:Str->Option Value} {base:Heap} {k:Nat} {x:Str} {ps:List Str} {sp HK:Sp} (F:(aM P w K mg base) k x ps sp) (h : ∀ vs H Q E,HK vs H Q E->sp vs H Q E):(aM P w K mg base) k x ps HK:=by
 obtain ⟨f,fd,h1,h2,h3,h4⟩:=F.ex
 exact ⟨f,fd,h1,h2,h3,h4.imp h⟩
def E3 (K:PySem.W.Frag) (L:Cells) (a:Addr) (xs:List V):Prop:=(∃ o,(a,HO.ux o (.lst xs))∈L) ∨ ∀ H,bW K H a xs
theorem E3.seq {K:PySem.W.Frag} {L:Cells} {a:Addr} {xs:List V} {H:Hp} (s:E3 K L a xs) (h:Led H L):bW K H a xs:=by
 rcases s with ⟨o,m⟩ | s
 ·exact .inl (.inr ⟨o,h.get m⟩)
 ·exact s H
theorem E3.mono {K:PySem.W.Frag} {L L':Cells} {a:Addr} {xs:List V} (s:E3 K L a xs) (h : ∀ p∈L,p∈L'):E3 K L' a xs:=by
 rcases s with ⟨o,m⟩ | s
 ·exact .inl ⟨o,h _ m⟩
 ·exact .inr s
theorem Ag {K:PySem.W.Frag} {H:Hp} {a:Addr} {xs:List V} (hS:bW K H a xs) (hO:DQ H) : ∃ L,Led H L/\E3 K L a xs:=by
 rcases hS with (h | ⟨o,h⟩) | h
 ·rcases hO a with z | ⟨o,ys,z⟩
  ·rw [h] at z;cases z
  ·rw [h] at z;cases z
 ·exact ⟨[(a,.ux o (.lst xs))],Led.nil.again h rfl,.inl ⟨o,List.mem_cons_self⟩⟩
 ·exact ⟨[],Led.nil,.inr λ H' => .inr h⟩
theorem Ah {H:Hp} {Q:VK} {l:Addr} {k:Int} {xs:List V} (h1:H l=some (.lst xs)) (hk : -(2 ^ 63)<=k/\k < 2 ^ 63) (hl:xs.length * k.toNat<=sizeLine) (h : ∀ p,H p=none->Q (.ref p) (upd H p (.lst (List.replicate k.toNat xs).flatten))):DP (.ref l) (.int k) H Q:=⟨l,k,xs,rfl,rfl,h1,hk.1,hk.2,hl,h⟩
theorem Led.lQ {H:Hp} {L:Cells} {a:Addr} {o o':HO} (i:Nat) (h:Led H L) (e:L[i]? = some (a,o)) (hl:lasts o=false) (hl':lasts o' = false):Led (upd H a o') (L.set i (a,o')):=by
 have hi:i < L.length:=(List.getElem?_eq_some_iff.mp e).1
 have e1:L=L.take i++(a,o)::L.drop (i+1):=by
  have:=(List.getElem?_eq_some_iff.mp e).2
  rw [<-this,List.getElem_cons_drop,List.take_append_drop]
 have e2:L.set i (a,o')=L.take i++(a,o')::L.drop (i+1):=by
  rw [List.set_eq_take_append_cons_drop,if_pos hi]
 rw [e1] at h
 rw [e2]
 exact ((h.pull).put hl hl').push
section
variable {H:Hp} {Q:VK} {x y v:V} {a:Addr} {xs:List V} {i:Int}
theorem Lp {m n:Int} (h:Q (.bl (decide (m=n))) H):FG (.int m) (.int n) H Q:=⟨rfl,by rw [show decide (V.int m=V.int n)=decide (m=n) by simp];exact h⟩
theorem Lq {m n:Int} (h:Q (.bl (!decide (m=n))) H):HH (.int m) (.int n) H Q:=⟨rfl,by rw [show decide (V.int m=V.int n)=decide (m=n) by simp];exact h⟩
theorem Ls {m n:Str} (h:Q (.bl (decide (m=n))) H):FG (.str m) (.str n) H Q:=⟨rfl,by rw [show decide (V.str m=V.str n)=decide (m=n) by simp];exact h⟩
theorem Lu {n t:String} {b:Bool} (h1:wG H x=some t) (h2:bX t n=some b) (h:Q (.bl b) H):uZ [x,.ty n] H Q:=⟨x,n,t,b,rfl,h1,h2,h⟩
theorem IK (h1:H a=some (.lst xs)) (h2:iB xs i=some v) (h:Q v H):xq (.ref a) (.int i) H Q:=⟨a,i,rfl,rfl,.inl ⟨xs,h1,v,h2,h⟩⟩
theorem Lv (h1:H a=some (.tup xs)) (h2:iB xs i=some v) (h:Q v H):xq (.ref a) (.int i) H Q:=⟨a,i,rfl,rfl,.inr ⟨xs,h1,v,h2,h⟩⟩
theorem IL (h1:H a=some (.lst xs)) (h:Q (.int xs.length) H):lD [.ref a] H Q:=⟨a,rfl,.inl ⟨xs,h1,h⟩⟩
theorem IM (h1:H a=some (.tup xs)) (h:Q (.int xs.length) H):lD [.ref a] H Q:=⟨a,rfl,.inr (.inl ⟨xs,h1,h⟩)⟩
theorem IP {kvs:List (Key×V)} (h1:H a=some (.dK kvs)) (h:Q (.int kvs.length) H):lD [.ref a] H Q:=⟨a,rfl,.inr (.inr ⟨kvs,h1,h⟩)⟩
theorem O1 (h:H a=some (.lst xs)):wG H (.ref a)=some "list" := by unfold wG;simp only [h]
theorem O2 (h:H a=some (.tup xs)):wG H (.ref a)=some "tuple" := by unfold wG;simp only [h]
theorem Lw {b:Addr} {zs:List V} (h1:H a=some (.lst xs)) (h2:H b=some (.lst zs)) (hl:xs.length+zs.length<=sizeLine) (h : ∀ p,H p=none->Q (.ref p) (upd H p (.lst (xs++zs)))):Bs (.ref a) (.ref b) H Q:=⟨a,b,xs,zs,rfl,rfl,h1,h2,hl,h⟩
theorem IQ {K:PySem.W.Frag} {lo hi:Option Int} (h1:bW K H a xs) (h : ∀ p,H p=none->Q (.ref p) (upd H p (.lst (qu xs lo hi)))):zV K (.ref a) lo hi H Q:=⟨a,xs,rfl,h1,h⟩
theorem Ai {l:Addr} (h1:H l=some (.lst xs)) (hl:xs.length < sizeLine) (h:Q .aN (upd H l (.lst (xs++[y])))):oA (.ref l) [y] H Q:=⟨l,xs,y,rfl,rfl,h1,hl,h⟩
theorem O3 {n b' c':St->Hp->Prop} {q:VK} (h:q x H):(Ends.mk n q b' c').rt x H:=h
theorem O4 {n b' c':St->Hp->Prop} {q:VK} {σ : St} (h:n σ H):(Ends.mk n q b' c').nx σ H:=h
theorem E4 {A B:Prop} (h:B):if (!true)=true then A else B:=by simpa using h
theorem E5 {A B:Prop} (h:A):if (!false)=true then A else B:=by simpa using h
theorem IS {c:Prop} [Decidable c] {A B:Prop} (h1 : ¬ c->A) (h2:c->B):if (!decide c)=true then A else B:=by
 by_cases h:c
 ·rw [decide_eq_true h];exact E4 (h2 h)
 ·rw [decide_eq_false h];exact E5 (h1 h)
theorem Ly {m:Int} (e:(10:Int) ^ i.toNat=m) (c:qq 10 i) (h:Q (.int m) H):rI qq (λ i j => .int (i ^ j.toNat)) (.int 10) (.int i) H Q:=⟨10,i,rfl,rfl,c,by dsimp only;rw [e];exact h⟩
theorem Gv (h:Q (.int 1000000000000000000000000000000000000000000000000000000000000) H):rI qq (λ i j => .int (i ^ j.toNat)) (.int 10) (.int 60) H Q:=Ly (by decide) (of_eq_true sP) h
theorem Dg {n:Int} : wG H (.int n)=some "int" := rfl
theorem sQ (H:Hp) : ∀ ns:List Int,bS H (ns.map V.int) (ns.map PyData.int)
 | [] => .nil
 | n::ns => .cons (.int n) (sQ H ns)
theorem Lz {b:Addr} {ns ms:List Int} (h1:H a=some (.lst (ns.map V.int))) (h2:H b=some (.lst (ms.map V.int))) (h:Q (.bl (decide (ns=ms))) H):Gk (.ref a) (.ref b) H Q:=⟨_,_,.lst h1 (sQ H ns),.lst h2 (sQ H ms),shaped_ints _,shaped_ints _,by rw [BI];exact h⟩
theorem Aj {K:PySem.W.Frag} (h:H a=some (.lst xs)):G3 K "list" (.ref a) H := .inl ⟨rfl,xs,bW.of h⟩
end
def Gw (p:Prop):Prop:=p/\True
theorem aA {t u:TS} {D:Ends} {σ : St} {H:Hp} (h : ∀ M,Gw (Is M (u D))->t { D with nx:=M } σ H):uK t u D σ H:=h _ ⟨Is.rfl,trivial⟩
theorem Gw.use {M N:St->Hp->Prop} (h:Gw (Is M N)) {σ : St} {H:Hp} (k:N σ H):M σ H:=by cases h.1;exact k
theorem IT {K:PySem.W.Frag} {H:Hp} {Q:VK} {a:Addr} {ys:List V} (h1:bW K H a ys) (h : ∀ l,H l=none->Q (.ref l) (upd H l (.lst ys))) : ∃ p ys,[V.ref a] = [.ref p]/\(bW K H p ys\/r6 K H p ys) ∧ ∀ l,H l=none->Q (.ref l) (upd H l (.lst ys)):=⟨a,ys,rfl,.inl h1,h⟩
theorem Gx {n:Nat} {i:Int} (h0:0<=i) (h1:i < n):Bk n i=some i.toNat:=by unfold Bk;rw [if_pos h0,if_pos h1]
theorem sR {xs:List V} {i:Int} {v:V} (h0:0<=i) (h:xs[i.toNat]? = some v):iB xs i=some v:=by
 have hj:i.toNat < xs.length:=(List.getElem?_eq_some_iff.mp h).1
 unfold iB
 rw [Gx h0 (by omega)]
 exact h
end L2
namespace L2
open PySem PySem.Spec PyProof.Rows PySem.W
section
variable {X:Cx}
theorem IU {n:Nat} (h:n < 64):n<=sizeLine:=Nat.le_trans (Nat.le_of_lt h) (by decide)
def BL:List V->Hp->VK->Prop:=λ xs H Q => ∃ (p:Addr) (kvs:List (Key×V)) (ns:List Int),xs = [.ref p]/\H p=some (.dK kvs)/\kvs.map (·.1)=ns.map Sum.inl/\ns.length < 64 ∧ ∀ (l:Addr) (ms:List Int),H l=none->ms.Perm ns->ms.Pairwise (· ≤ ·)->Q (.ref l) (upd H l (.lst (ms.map V.int)))
theorem mV {P:Program} {w:World} : ∀ {ns:List Int} {vs:List (Key×Value)} {us:List Value},vs.map (·.1)=ns.map Sum.inl->us.length=vs.length->(∀ (j:Nat) (v:Value),us[j]? = some v->∃ k x,vs[j]? = some (k,x)/\(br P w).is k v=true)->IntsAre us ns
 | [],[],[],_,_,_ => .nil
 | [],[],_::_,_,h,_=>nomatch h
 | [],_::_,_,h,_,_=>nomatch h
 | _::_,[],_,h,_,_=>nomatch h
 | _::_,_::_,[],_,h,_=>nomatch h
 | n::ns,(k,x)::vs,u::us,h,hl,hv=>by
   obtain ⟨k',x',e,hk⟩:=hv 0 u rfl
   cases e
   have h1:k=Sum.inl n:=(List.cons.inj h).1
   subst h1
   have e : ∃ t,u=Value.int n t:=Value.isInt_shape hk
   obtain ⟨t,rfl⟩:=e
   exact .cons n t (mV (List.cons.inj h).2 (Nat.succ.inj hl) λ j v e=>hv (j+1) v e)
theorem xx (hc:X.calm=true):eT X (.builtin "sorted") BL:=by
 intro pins s σ H xs us Q I r h
 obtain ⟨p,kvs,ns,rfl,hp,hk,h64,q⟩:=h
 obtain ⟨u,rfl,rx⟩:=vals1 r
 cases rx
 obtain ⟨hz,hS,vs,rr,m⟩:=rB I.hok hp
 obtain ⟨ep,hat⟩:=m.dictAt
 have hl:kvs.length=vs.length:=Paired.length rr
 have hkn:kvs.length=ns.length:=by have:=congrArg List.length hk;simpa using this
 have hkv:vs.map (·.1)=ns.map Sum.inl:=by
  rw [<-hk]
  have : ∀ {a:List (Key×V)} {b:List (Key×Value)},KV a b->b.map (·.1)=a.map (·.1):=by
   intro a
   induction a with
   | nil=>intro b h;cases b with
     | nil=>rfl
     | cons _ _=>cases h
   | cons x a ih=>intro b h;cases h with
     | cons h1 h2=>rw [List.map_cons,List.map_cons,ih h2,h1.1]
  exact this rr
 refine Calls.call_function_entry kind_sorted plain_sorted entry_sorted (args_sorted1 _) ?_
 unfold Builtin.«sorted»
 refine wpAny_bind (m:=checkCount "sorted" 1 1 _) (wpAny_pure ?_)
 refine wpAny_bind (kdu_collect (A:=X.A.in1) (kdl_dict (knd:=br X.prog X.w) (kvs:=vs) (ep:=ep) hS) (I.ok.hd hc) hat (by omega) λ h' tk acc hk' hacc => ?_)
 have hints:IntsAre acc.toList ns:=mV hkv (by rw [Array.length_toList];exact hacc.1) λ j v e=>hacc.2 j v (by rw [<-Array.getElem?_toList];exact e)
 have hlen:acc.toList.length=ns.length:=by rw [Array.length_toList,hacc.1];omega
 refine wpAny_bind (wpAny_newList ?_ (by rw [hlen];exact IU h64))
 have C8:(h'.push (seqObj "list" acc.toList.toArray 0)).get? h'.objs.size=some (seqObj "list" acc.toList.toArray 0):=Heap.get?_push_size _ rfl
 refine wpAny_bind (wpAny_holding (wpAny_call_entry slot_list_sort ⟨_,C8,rfl⟩ entry_list_sort (list_sort_tree C8 hints (by omega) λ out ms a1 a2 a3=>⟨_,rfl,?_⟩) (args_list_sort _)))
 obtain ⟨e,he⟩:=sortedHeap_at (out:=out) C8
 have hm:ms.length < 64:=by rw [a2.length_eq];exact h64
 have I1:Inv X pins σ H { s with heap:=h',toks:=tk } := I.kept hk'
 refine wpAny_pure ⟨_,rfl,.ref h'.objs.size,_,I1.laid (t':=tk) (λ b o hb => ?_) (Nat.le_refl _) (show bx X.prog X.w _ _ _ (.lst (ms.map V.int)) from ⟨by rw [List.length_map];exact IU hm,out.toList,e,jy a1,he⟩),rfl,q _ ms (I1.hok.fresh (Nat.le_refl _)) a2 a3⟩
 have hlt:=Heap.lt_size hb
 rw [sortedHeap_old (Nat.ne_of_lt hlt) (by rw [size_push'];exact Nat.lt_succ_of_lt hlt)]
 exact Heap.get?_push_of_some _ hb
end
end L2
namespace L2
open PySem PySem.Spec PyProof.Rows
section
variable {X:Cx} {pins:List (Addr×Obj)} {σ : St} {H:Hp} {s:Shared} {h':Heap}
theorem Inv.D8 {t':Nat} {a b:Addr} (I:Inv X pins σ H s) (k : ∀ c o,c≠a->c≠b->s.heap.get? c=some o->h'.get? c=some o) (fa:iF X pins H a) (fb:iF X pins H b):Inv X pins σ H { s with heap:=h',toks:=t' } := by
 obtain ⟨na,la,_,xa,ca,pa⟩:=fa
 obtain ⟨nb,lb,_,xb,cb,pb⟩:=fb
 have Nq : ∀ c u,H c=some u->c≠a:=λ c u e z=>by rw [z,na] at e;cases e
 have Nr : ∀ c u,H c=some u->c≠b:=λ c u e z=>by rw [z,nb] at e;cases e
 have kk : ∀ c o,c ∉ [a,b]->s.heap.get? c=some o->h'.get? c=some o:=λ c o hc e=>k c o (λ z=>hc (by simp [z])) (λ z=>hc (by simp [z])) e
 refine I.step (g':=s.gens) (d':=s.drawn) (ch:=[a,b]) (λ c hc => ?_) (λ c o _ _ hc e _=>kk c o hc e) (λ c o _ _ hc e _=>⟨o.slots,kk c o hc e⟩) (λ _ _ _ _ n=>n) (λ c o hc e=>⟨o,kk c o hc e⟩) (λ _ _ e=>e) (λ _ _ _ e=>e) (λ c ps e=>⟨#[],by rw [e];simp⟩) (λ m hm => ?_) (λ c u e => ?_) I.bare
 ·simp only [List.mem_cons,List.not_mem_nil,or_false] at hc
  rcases hc with z | z
  ·subst z;exact ⟨xa,la,ca,pa⟩
  ·subst z;exact ⟨xb,lb,cb,pb⟩
 ·obtain ⟨o,es,ep,ho,r⟩:=hm
  exact ⟨o,es,ep,k _ o (Ne.symm la) (Ne.symm lb) ho,r⟩
 ·refine (I.hok c u e).stay (λ d v hd q => ?_) (λ _ q=>q) λ _ _ q=>q
  rcases hd with z | z
  ·subst z;exact k _ v (Nq _ u e) (Nr _ u e) q
  ·exact k d v (Nq d _ z) (Nr d _ z) q
end
def Nt (K:PySem.W.Frag) (a:Addr):It :=
 ⟨λ i H => ∃ xs x,bW K H a xs/\xs[i]? = some x,λ i H x H' => ∃ p v,x = .ref p/\H p=none/\H' = upd H p (.tup [.int i,v]) ∧ ∀ xs,bW K H a xs->xs[i]? = some v,λ i H => ∃ xs,bW K H a xs/\xs.length<=i⟩
theorem Ak {P:Program} {w:World} {K:PySem.W.Frag} {elts:List Expr} {x1} {pos:Pos} (a e it:Addr) (hne:e≠it):Turn P w K (.Tuple elts x1 pos) (Nt K a) [e,it] e (λ i h=>(∃ old,IsEnum h e it (i:Nat) old)/\h.IsListIter it a i) where
 mem:=by simp
 obj:=λ i h st b hb=>by
  simp only [List.mem_cons,List.not_mem_nil,or_false] at hb
  rcases hb with z | z
  ·subst z
   obtain ⟨old,q⟩:=st.1
   exact ⟨_,q,λ v z=>by cases z⟩
  ·subst z
   obtain ⟨o,q,c,d⟩:=st.2
   exact ⟨o,q,λ v z=>by rw [d] at z;cases z⟩
 keep:=λ i h h' st k=>⟨let ⟨old,q⟩:=st.1; ⟨old,k e (by simp) _ q⟩,st.2.at λ o q=>k it (by simp) o q⟩
 item:=by
  intro X hP hw hK hc i pins s σ H E I hf st hg
  subst hP hw hK
  obtain ⟨⟨old,he⟩,hit⟩:=st
  obtain ⟨xs,x,hq,hx⟩:=hg
  obtain ⟨its,rv,p,hz⟩:=I.list hq
  obtain ⟨u,hu,ru⟩:=rv.get hx
  have fe:=hf e (by simp)
  have fi:=hf it (by simp)
  have hfr:=I.hok.fresh (Nat.le_refl _)
  have F:iF X pins H s.heap.objs.size:=I.A6 (Nat.le_refl _) hfr
  refine wpAny_pyNext_enum_item he hit p.isList (x:=u) (by simpa using hu) hne λ h1 ho LA ht hz1 kk=>⟨_,rfl,?_⟩
  refine wpAny_letOwnedTupleGo_enum ho λ h2 O5 hs2 => ?_
  have k2 : ∀ b o,b≠e->b≠it->s.heap.get? b=some o->h2.get? b=some o:=λ b o q1 q2 q=>(hs2.2 b q1).trans (kk b o q1 q2 q)
  have I1:Inv X pins σ H { s with heap:=h2,toks:=s.toks+1 } := I.D8 k2 fe fi
  have hse:s.heap.objs.size≠e:=λ z=>absurd (Heap.lt_size he) (by rw [z];exact Nat.lt_irrefl _)
  have hsi:s.heap.objs.size≠it:=λ z=>by obtain ⟨o,q,_⟩:=id hit;exact absurd (Heap.lt_size q) (by rw [z];exact Nat.lt_irrefl _)
  have Gy:=(hs2.2 _ hse).trans ht
  have h0:X.s₀.heap.get? s.heap.objs.size=none:=by
   cases q:X.s₀.heap.get? s.heap.objs.size with
   | none=>rfl
   | some o=>exact absurd (Nat.lt_of_lt_of_le (Heap.lt_size q) I.sz) (Nat.lt_irrefl _)
  have I2:=I1.EW (ea:=s.heap.objs.size) (o := .tup [.int i,x]) hfr h0 F.2.1 F.2.2.2.2.1 F.2.2.2.2.2 ⟨(show 2<=sizeLine by decide),[.int i s.toks,u],.cons ⟨_,rfl⟩ (.cons ru .nil),⟨_,Gy,rfl,_,rfl⟩⟩
  refine ⟨.ref s.heap.objs.size,_,I2,rfl,⟨_,x,rfl,hfr,rfl,λ ys hy=>by rw [I.uJ hy hq];exact hx⟩,⟨⟨_,by simpa using O5⟩,LA.at λ o q=>(hs2.2 it (Ne.symm hne)).trans q⟩,λ b hb => ?_⟩
  simp only [List.mem_cons,List.not_mem_nil,or_false] at hb
  rcases hb with z | z
  ·subst z;rw [aQ (Ne.symm hse)];exact fe.1
  ·subst z;rw [aQ (Ne.symm hsi)];exact fi.1
 done:=by
  intro X hP hw hK hc i pins s σ H E I hf st hg
  subst hP hw hK
  obtain ⟨⟨old,he⟩,hit⟩:=st
  obtain ⟨xs,hq,hx⟩:=hg
  obtain ⟨its,rv,p,hz⟩:=I.list hq
  obtain ⟨f0,f1,f2,f3,f4,f5⟩:=hf it (by simp)
  have hl:=rv.length
  exact wpAny_pyNext_enum_end (I.ok.hd hc) he hit p.isList (by simp;omega) λ h1 eb=>⟨rfl,I.turned (t':=s.toks) (λ b o hb q=>eb b o hb q) f0 f1 f3 f4 f5⟩
 self:=λ _ _ _ _ _ st h=>by
  obtain ⟨⟨old,he⟩,hit⟩:=st
  exact wpAny_pyIter_enum he h
section
variable {X:Cx}
def IV (K:PySem.W.Frag) (ta:TA):TI:=fun σ H R=>ta σ H λ vs H1 => ∃ a,vs = [.ref a]/\(∃ xs,bW K H1 a xs)/\R (Nt K a) H1
theorem D9 {l:Expr} {ta:TA} {p pos pos1:Pos} {elts:List Expr} {x1} (hg:Gl X "enumerate") (hm:X.mg "enumerate" = none) (ha:PA X [l] ta) (hs:starEach [l] X.env = [(false,eval l X.env)]:=by rfl):PI X (.Tuple elts x1 pos1) (.Call (.Name "enumerate" p) [l] [] pos) (IV X.K ta):=by
 intro pins s σ H R I h
 refine Call_ (mG I hg hm boot_enumerate (PyProof.Rows.callWith_type1 (bL (ha pos pins s σ H _ I h) ?_) hs rfl))
 rintro us s1 ⟨vs,H1,I1,r1,q1⟩
 obtain ⟨a,e,⟨xs,hq⟩,q⟩:=q1
 subst e
 obtain ⟨u,rfl,rx⟩:=vals1 r1
 cases rx
 obtain ⟨its,rv,pl,hz⟩:=I1.list hq
 refine call_enumerate_list pl.isList λ h2 he hit hz2 kk => ?_
 have I2:Inv X pins σ H1 { s1 with heap:=h2 } := I1.kept (t':=s1.toks) kk
 have hfr:=fun (b:Addr) (hb:s1.heap.objs.size<=b)=>I1.hok.fresh hb
 refine wpAny_pyIter_enum he ⟨s1.heap.objs.size+1,[s1.heap.objs.size+1,s1.heap.objs.size],_,_,H1,rfl,I2,Ak a _ _ (Nat.succ_ne_self _),⟨⟨_,he⟩,hit⟩,λ b hb => ?_,q⟩
 simp only [List.mem_cons,List.not_mem_nil,or_false] at hb
 rcases hb with z | z
 ·subst z;exact I1.A6 (Nat.le_succ _) (hfr _ (Nat.le_succ _))
 ·subst z;exact I1.A6 (Nat.le_refl _) (hfr _ (Nat.le_refl _))
end
section
variable {H:Hp} {Q:VK} {a:Addr} {σ : St} {D:Ends}
theorem LB {C dx:Addr} {fs:List (Str×V)} {f:Str} {v:V} {S:V->Prop} (h1:H a=some (.ins C dx fs)) (h2:fs.lookup f=some v) (h:S v) : ∃ b dx fs v,V.ref a = .ref b/\H b=some (.ins C dx fs)/\fs.lookup f=some v/\S v:=⟨a,dx,fs,v,rfl,h1,h2,h⟩
theorem IW {C dx:Addr} {fs:List (Str×V)} {m:Str} {S:Prop} (h1:H a=some (.ins C dx fs)) (h2:fs.lookup m=none) (h:S) : ∃ b dx fs,V.ref a = .ref b/\H b=some (.ins C dx fs)/\fs.lookup m=none/\S:=⟨a,dx,fs,rfl,h1,h2,h⟩
theorem LC {kvs:List (Key×V)} {n:Int} {S:Option V->Prop} (h1:H a=some (.dK kvs)) (h:S (bN kvs (.inl n))) : ∃ b o,V.ref a = .ref b/\fO H b (.int n) o/\S o:=⟨a,_,rfl,fO.k (k := .inl n) h1,h⟩
theorem E6 {kvs:List (Key×V)} {n:Int} {v:V} {S:V->Prop} (h1:H a=some (.dK kvs)) (h2:bN kvs (.inl n)=some v) (h:S v) : ∃ b v,V.ref a = .ref b/\fO H b (.int n) (some v)/\S v:=⟨a,v,rfl,h2 ▸ fO.k (k := .inl n) h1,h⟩
theorem IX {C dx:Addr} {fs:List (Str×V)} {f:Str} {y:V} (h1:H a=some (.ins C dx fs)) (h2:fs.length < 1000) (h:D.nx σ (upd H a (.ins C dx (bu f y fs)))) : ∃ b dx fs,V.ref a = .ref b/\H b=some (.ins C dx fs)/\fs.length < 1000/\D.nx σ (upd H b (.ins C dx (bu f y fs))):=⟨a,dx,fs,rfl,h1,h2,h⟩
theorem IY {L:Cells} (hL:Led H L) (h : ∀ p H',H p=none->Led H' ((p,.dK [])::L)->fP H H'->Q (.ref p) H'):mO σ H Q:=λ p hp=>h p _ hp (hL.new hp) (oX hp)
theorem O6 {x:V} (h:Q (.bl (decide (x = .aN))) H):V.aN = .aN/\Q (.bl (decide (x = .aN))) H:=⟨rfl,h⟩
theorem LD {x:V} (h:Q (.bl (!decide (x = .aN))) H):V.aN = .aN/\Q (.bl (!decide (x = .aN))) H:=⟨rfl,h⟩
theorem BN {td ty:TE} (h : ∀ R,(∀ x H1,Hid (λ y H2 => ∃ a kvs k v,x = .ref a/\H2 a=some (.dK kvs)/\y=kV k/\bN kvs k=some v/\Q v (upd H2 a (.dK (bR kvs k)))) (λ R2=>(∃ a,x = .ref a/\G2 H1 a)/\ty σ H1 R2)->R x H1)->td σ H R):w4 td ty σ H Q:=by
 unfold w4
 refine h (λ x H1 => ∃ a,x = .ref a/\G2 H1 a/\ty σ H1 λ y H2 => ∃ kvs k v,H2 a=some (.dK kvs)/\y=kV k/\bN kvs k=some v/\Q v (upd H2 a (.dK (bR kvs k)))) λ x H1 z => ?_
 obtain ⟨a,e,hd⟩:=(z (λ _ _=>True) λ _ _ _=>True.intro).1
 subst e
 refine ⟨a,rfl,hd,(z _ λ y H2 q => ?_).2⟩
 obtain ⟨b,kvs,k,v,e,q⟩:=q
 cases e
 exact ⟨kvs,k,v,q⟩
theorem Gz {kvs:List (Key×V)} (h:H a=some (.dK kvs)) : ∃ b,V.ref a = .ref b/\G2 H b:=⟨a,rfl,.inl ⟨kvs,.inl h⟩⟩
theorem E7 {kvs:List (Key×V)} {n:Int} {v:V} (h1:H a=some (.dK kvs)) (h2:bN kvs (.inl n)=some v) (h:Q v (upd H a (.dK (bR kvs (.inl n))))) : ∃ b kvs k v,V.ref a = .ref b/\H b=some (.dK kvs)/\V.int n=kV k/\bN kvs k=some v/\Q v (upd H b (.dK (bR kvs k))):=⟨a,kvs,.inl n,v,rfl,h1,rfl,h2,h⟩
end
theorem gn {K:PySem.W.Frag} {a:Addr} {te:TE} {σ : St} {Q:VK} {H1:Hp} {L:Cells} (xs:List V) (G:Nat->V->Cells->Prop) (hL:Led H1 L) (ha:(a,HO.lst xs)∈L) (hn:xs.length<=sizeLine)
  (hs : ∀ (i:Nat) (x:V) (H:Hp) (R:VK) (M:Cells),xs[i]? = some x->Led H (M++L)->(∀ v H' C,G i v C->Led H' (C++(M++L))->R v H')->te (some x :: σ) H R)
  (hd : ∀ (p:Addr) (vs:List V) (Cs:List Cells) (H':Hp),vs.length=xs.length->Cs.length=xs.length->(∀ (i:Nat) v C,vs[i]? = some v->Cs[i]? = some C->G i v C)->Led H' ((p,.lst vs)::(Cs.flatten++L))->Q (.ref p) H'):lP (AO K a) xu te σ Q H1:=by
 refine vg xs (λ p i acc H=>i<=xs.length/\acc.length=i ∧ ∃ Cs:List Cells,Cs.length=i/\(∀ (j:Nat) v C,acc[j]? = some v->Cs[j]? = some C->G j v C)/\Led H ((p,.lst acc)::(Cs.flatten++L))) (λ p hp=>⟨Nat.zero_le _,rfl,[],rfl,λ j v C h=>by simp at h,hL.new hp⟩) (λ p i acc H hp h => ?_) ?_ ?_
 ·obtain ⟨_,_,Cs,_,_,hl⟩:=h
  exact ⟨hl.get List.mem_cons_self,bW.of (hl.get (List.mem_cons_of_mem _ (List.mem_append_right _ ha)))⟩
 ·rintro p i x acc H hp hx ⟨_,rfl,Cs,hc,hG,hl⟩
  have hi:acc.length < xs.length:=(List.getElem?_eq_some_iff.mp hx).1
  unfold xu
  dsimp only
  rw [if_pos rfl]
  refine hs _ x H _ ((p,.lst acc)::Cs.flatten) hx hl λ v H' C g hl' => ?_
  have h1:Led H' ((p,.lst acc)::(C++(Cs.flatten++L))):=Led.pull hl'
  refine ⟨h1.get List.mem_cons_self,by omega,hi,by simp,Cs++[C],by simp [hc],λ j u D hu hD => ?_,?_⟩
  ·rw [List.getElem?_append] at hu hD
   rw [hc] at hD
   by_cases hj:j < acc.length
   ·rw [if_pos hj] at hu hD
    exact hG j u D hu hD
   ·rw [if_neg hj] at hu hD
    have h0:j - acc.length=0:=by
     rcases Nat.lt_or_ge (j - acc.length) 1 with h | h
     ·omega
     ·rw [List.getElem?_eq_none (by simpa using h)] at hu;cases hu
    rw [h0] at hu hD
    have e:j=acc.length:=by omega
    subst e
    cases hu
    cases hD
    exact g
  ·refine (h1.put (o' := .lst (acc++[v])) rfl rfl).perm (List.Perm.cons _ ?_)
   rw [List.flatten_append,List.flatten_cons,List.flatten_nil,List.append_nil,List.append_assoc,<-List.append_assoc,<-List.append_assoc]
   exact List.Perm.append_right _ List.perm_append_comm
 ·rintro p acc H hp ⟨_,e,Cs,hc,hG,hl⟩
  exact hd p acc Cs H e hc hG hl
theorem GA {H:Hp} {Q:VK} {a:Addr} {kvs:List (Key×V)} {ns:List Int} (h1:H a=some (.dK kvs)) (h2:kvs.map (·.1)=ns.map Sum.inl) (h3:ns.length < 64) (h : ∀ ms:List Int,ms.Perm ns->ms.Pairwise (· ≤ ·)->∀ l,H l=none->Q (.ref l) (upd H l (.lst (ms.map V.int)))):BL [.ref a] H Q:=⟨a,kvs,ns,rfl,h1,h2,h3,λ l ms hl p s=>h ms p s l hl⟩
section
variable {H:Hp} {Q:VK} {a:Addr} {σ : St} {D:Ends}
end
section
variable {α : Type} {A B B' X Y:List α} {a b : α}
theorem O7 (h:(a::B').Perm B):(a::b::B').Perm (b::B):=(List.Perm.swap _ _ _).trans (h.cons b)
theorem O8 (h:(a::B').Perm B):(a::(Y++B')).Perm (Y++B):=(List.perm_middle.symm).trans (List.Perm.append_left Y h)
theorem O9 (h:(X++B').Perm B):(X++(b::B')).Perm (b::B):=List.perm_middle.trans (h.cons b)
theorem Pa (h:(X++B').Perm B):(X++(Y++B')).Perm (Y++B):=by
 refine List.Perm.trans ?_ (List.Perm.append_left Y h)
 rw [<-List.append_assoc,<-List.append_assoc]
 exact List.Perm.append_right _ List.perm_append_comm
def qy (B A:List α):Prop := ∃ A',B.Perm A'/\A'.Sublist A
theorem Pb:qy A A:=⟨A,.refl _,.refl _⟩
theorem oB (h1:(a::A).Perm B) (h2:qy Y A):qy (a::Y) B:=by
 obtain ⟨A',p,s⟩:=h2
 obtain ⟨C,p2,s2⟩:=List.exists_perm_sublist (s.cons₂ a) h1
 exact ⟨C,(p.cons a).trans p2.symm,s2⟩
theorem Pc (h1:(X++A).Perm B) (h2:qy Y A):qy (X++Y) B:=by
 obtain ⟨A',p,s⟩:=h2
 obtain ⟨C,p2,s2⟩:=List.exists_perm_sublist (List.Sublist.append_left s X) h1
 exact ⟨C,(List.Perm.append_left X p).trans p2.symm,s2⟩
theorem Pd (h:qy B A):qy B (a::A):=by
 obtain ⟨A',p,s⟩:=h
 exact ⟨A',p,s.cons a⟩
theorem LF (h:qy B A):qy B (X++A):=by
 obtain ⟨A',p,s⟩:=h
 exact ⟨A',p,s.trans (List.sublist_append_right X A)⟩
end
theorem Led.wk {H:Hp} {L L':Cells} (h:Led H L) (s:qy L' L):Led H L':=by
 obtain ⟨A',p,q⟩:=s
 exact (h.sub q).perm p.symm
theorem Led.make {H:Hp} {L:Cells} {C x dx:Addr} (hL:Led H L) (h1:H x=none) (h2:H dx=none) (hn:dx≠x):Led (upd (upd H dx (.own x)) x (.ins C dx [])) ((x,.ins C dx [])::L):=by
 have:=(hL.new (o := .own x) h2).new (p:=x) (o := .ins C dx []) (by rw [aQ (Ne.symm hn)];exact h1)
 exact this.sub (.cons₂ _ (.cons _ (.refl _)))
end L2
namespace L2
open PySem PySem.Spec PyProof.Rows PySem.W
theorem gH {d:Dat} (h:kqdOk 8 d=true):shaped (kqdP d)=true:=by
 have l:=kqd_lay 8 d h
 show ((kqdP d).canLay0 && decide ((kqdP d).depth<=64))=true
 rw [l.1,Bool.true_and]
 exact decide_eq_true (Nat.le_trans l.2 (by decide))
theorem yO {d e:Dat} {b:Bool} (h1:kqdOk 8 d=true) (h2:kqdOk 8 e=true) (hb:b=true↔d=e):PyData.eqv (kqdP d) (kqdP e)=b:=by
 have q:=kqd_eqv 8 d e 8 h1 h2
 cases b with
 | true=>exact q.mpr (hb.mp rfl)
 | false=>exact Bool.eq_false_iff.mpr λ x=>absurd (hb.mpr (q.mp x)) Bool.false_ne_true
theorem IZ {H:Hp} {Q:VK} {x y:V} {d e:Dat} {b:Bool} (hx:b7 H x (kqdP d)) (hy:b7 H y (kqdP e)) (h1:kqdOk 8 d=true) (h2:kqdOk 8 e=true) (hb:b=true↔d=e) (h:Q (.bl b) H):Gk x y H Q:=⟨_,_,hx,hy,gH h1,gH h2,by rw [yO h1 h2 hb];exact h⟩
theorem LG {H:Hp} {Q:VK} {x y:V} {d e:Dat} {b:Bool} (hx:b7 H x (kqdP d)) (hy:b7 H y (kqdP e)) (h1:kqdOk 8 d=true) (h2:kqdOk 8 e=true) (hb:b=true↔d=e) (h:Q (.bl (!b)) H):Iq x y H Q:=⟨_,_,hx,hy,gH h1,gH h2,by rw [yO h1 h2 hb];exact h⟩
theorem Al {K:PySem.W.Frag} {β : Type} {a:Addr} {tt:TT} {te:TE} {σ : St} {Q:VK} {H1:Hp} {L:Cells} (ys:List β) (g : β->V) (p : β->Bool) (hL:Led H1 L) (ha:(a,HO.lst (ys.map g))∈L) (hn:ys.length<=sizeLine)
  (ht : ∀ (y : β) (H:Hp) (R:Bool->Hp->Prop) (q:Addr×HO),y∈ys->Led H (q::L)->(∀ H',Led H' (q::L)->R (p y) H')->tt (some (g y) :: σ) H R)
  (he : ∀ (y : β) (H:Hp) (R:VK) (q:Addr×HO),y∈ys->Led H (q::L)->(∀ H',Led H' (q::L)->R (g y) H')->te (some (g y) :: σ) H R)
  (hd : ∀ (r:Addr) (H':Hp),Led H' ((r,.lst ((ys.filter p).map g))::L)->Q (.ref r) H'):lP (AO K a) tt te σ Q H1:=by
 refine vg (ys.map g) (λ r i acc H=>acc=((ys.take i).filter p).map g/\Led H ((r,.lst acc)::L)) (λ r hr=>⟨rfl,hL.new hr⟩) (λ r i acc H hr h=>⟨h.2.get List.mem_cons_self,bW.of (h.2.get (List.mem_cons_of_mem _ ha))⟩) ?_ ?_
 ·rintro r i x acc H hr hx ⟨rfl,hl⟩
  rw [List.getElem?_map] at hx
  obtain ⟨y,hy,rfl⟩:=Option.map_eq_some_iff.mp hx
  have hm:y∈ys:=List.mem_of_getElem? hy
  have hi:i < ys.length:=(List.getElem?_eq_some_iff.mp hy).1
  have e:ys.take (i+1)=ys.take i++[y]:=by rw [List.take_succ,hy];rfl
  have hlen:(((ys.take i).filter p).map g).length < sizeLine:=by
   rw [List.length_map]
   have h1:=List.length_filter_le p (ys.take i)
   rw [List.length_take] at h1
   omega
  refine ht y H _ _ hm hl λ H2 hl2 => ?_
  cases hp:p y with
  | true =>
    rw [if_pos rfl]
    refine he y H2 _ _ hm hl2 λ H3 hl3=>⟨hl3.get List.mem_cons_self,hlen,?_,hl3.put rfl rfl⟩
    rw [e,List.filter_append,List.map_append,List.filter_cons,if_pos hp]
    rfl
  | false =>
    rw [if_neg Bool.false_ne_true]
    refine ⟨?_,hl2⟩
    rw [e,List.filter_append,List.map_append,List.filter_cons,if_neg (by rw [hp];exact Bool.false_ne_true)]
    simp
 ·rintro r acc H hr ⟨rfl,hl⟩
  rw [List.length_map,List.take_length] at hl
  exact hd r H hl
theorem yP {X:Cx} {K:PySem.W.Frag} (h:X.K=K):HS X (DH K):=by subst h;exact FT
theorem LH {H:Hp} {Q:VK} {K:PySem.W.Frag} {a:Addr} {xs:List V} {lo hi:Option Int} (h1:H a=some (.tup xs)) (h2 : ¬ (HT.dP xs.length 0 lo=0/\HT.dP xs.length xs.length hi=xs.length)) (h : ∀ p,H p=none->Q (.ref p) (upd H p (.tup (qu xs lo hi)))):DH K (.ref a) lo hi H Q:=⟨a,xs,rfl,r6.of h1,h2,h⟩
end L2
namespace L2
open PySem PySem.Spec PyProof.Rows
theorem mW (k j:Key) : ∀ kvs:List (Key×V),bN (bR kvs k) j=if j=k then none else bN kvs j
 | []=>by simp [bR,bN]
 | p::r=>by
   by_cases e:p.1=k
   ·rw [jz e,mW k j r]
    by_cases hj:j=k
    ·rw [if_pos hj,if_pos hj]
    ·rw [if_neg hj,if_neg hj,bO (λ z=>hj (by rw [<-z,e]))]
   ·rw [jA e]
    by_cases hp:p.1=j
    ·rw [cR hp,cR hp,if_neg (λ z=>e (by rw [hp,z]))]
    ·rw [bO hp,bO hp,mW k j r]
structure WD (kvs:List (Key×V)) (f:Int->V) (n:Nat):Prop where
 nd:(kvs.map (·.1)).Nodup
 ik : ∀ k∈kvs.map (·.1),∃ m:Int,k=Sum.inl m
 le:kvs.length<=n
 vl : ∀ m,bN kvs (.inl m)=if f m = .aN then none else some (f m)
theorem WD.keys {kvs:List (Key×V)} (h : ∀ k∈kvs.map (·.1),∃ m:Int,k=Sum.inl m) : ∃ ns:List Int,kvs.map (·.1)=ns.map Sum.inl:=by
 induction kvs with
 | nil=>exact ⟨[],rfl⟩
 | cons p r ih =>
   obtain ⟨ns,e⟩:=ih λ k hk=>h k (List.mem_cons_of_mem _ hk)
   obtain ⟨m,hm⟩:=h p.1 List.mem_cons_self
   exact ⟨m::ns,by rw [List.map_cons,List.map_cons,e,hm]⟩
theorem WD.ns {kvs:List (Key×V)} {f:Int->V} {n:Nat} (h:WD kvs f n) : ∃ ns:List Int,kvs.map (·.1)=ns.map Sum.inl/\ns.length<=n/\ns.Nodup ∧ ∀ m,m∈ns↔f m ≠ .aN:=by
 obtain ⟨ns,e⟩:=WD.keys h.ik
 refine ⟨ns,e,?_,?_,λ m => ?_⟩
 ·have:=congrArg List.length e
  rw [List.length_map,List.length_map] at this
  have:=h.le
  omega
 ·have:=h.nd
  rw [e] at this
  exact (List.pairwise_map.mp this).imp fun {a b} hab z=>hab (by rw [z])
 ·have h1:m∈ns↔(Sum.inl m:Key)∈kvs.map (·.1):=by
   rw [e,List.mem_map]
   constructor
   ·intro hm;exact ⟨m,hm,rfl⟩
   ·rintro ⟨m',hm,z⟩;cases z;exact hm
  rw [h1]
  have hv:=h.vl m
  constructor
  ·intro hk z
   rw [if_pos z] at hv
   exact Bv hv hk
  ·intro z
   rw [if_neg z] at hv
   exact DR hv
theorem WD.start:WD [] (λ _ => .aN) 0:=⟨List.nodup_nil,(λ _ h=>nomatch h),Nat.le_refl _,λ m=>by rw [if_pos rfl];rfl⟩
theorem WD.drop {kvs:List (Key×V)} {f:Int->V} {n:Nat} (h:WD kvs f n) (p:Int):WD (bR kvs (.inl p)) (λ m=>if m=p then .aN else f m) n:=by
 refine ⟨oW h.nd,λ k hk => ?_,Nat.le_trans (oQ kvs _) h.le,λ m => ?_⟩
 ·obtain ⟨q,hq,rfl⟩:=List.mem_map.mp hk
  exact h.ik _ (List.mem_map.mpr ⟨q,rC hq,rfl⟩)
 ·rw [mW,h.vl m]
  by_cases hm:m=p
  ·rw [if_pos (by rw [hm]),if_pos hm,if_pos rfl]
  ·rw [if_neg (λ z=>hm (Sum.inl.inj z)),if_neg hm]
theorem WD.mono {kvs:List (Key×V)} {f:Int->V} {n n':Nat} (h:WD kvs f n) (hn:n<=n'):WD kvs f n':=⟨h.nd,h.ik,Nat.le_trans h.le hn,h.vl⟩
theorem WD.congr {kvs:List (Key×V)} {f g:Int->V} {n:Nat} (h:WD kvs f n) (e : ∀ m,f m=g m):WD kvs g n:=⟨h.nd,h.ik,h.le,λ m=>by rw [<-e];exact h.vl m⟩
theorem WD.get {kvs:List (Key×V)} {f:Int->V} {n:Nat} (h:WD kvs f n) (m:Int):(bN kvs (.inl m)).getD .aN=f m:=by
 rw [h.vl]
 split
 ·rename_i e;rw [e];rfl
 ·rfl
theorem BO (ns:List Int) (lo hi:Option Int) : ∃ ms:List Int,qu (ns.map V.int) lo hi=ms.map V.int/\ms.length<=ns.length:=by
 refine ⟨(ns.drop (HT.dP (ns.map V.int).length 0 lo)).take (HT.dP (ns.map V.int).length (ns.map V.int).length hi - HT.dP (ns.map V.int).length 0 lo),?_,?_⟩
 ·unfold qu
  rw [List.map_take,List.map_drop]
 ·rw [List.length_take,List.length_drop]
  omega
theorem Pe {H:Hp} {Q:VK} {K:PySem.W.Frag} {p:Addr} {a b c d:V} (h1:H p=some (.tup [a,b,c,d])) (h : ∀ q,H q=none->Q (.ref q) (upd H q (.tup [c,d]))):DH K (.ref p) (some 2) none H Q:=LH h1 (show ¬ (HT.dP 4 0 (some 2)=0/\HT.dP 4 4 none=4) by decide) h
end L2
namespace L2
open PySem PySem.Spec PyProof.Rows PySem.W
section
variable {X:Cx}
end
theorem GB {c:TT} {tb:TS} {D:Ends} {σ : St} {H:Hp} (W:Nat->St->Hp->Prop) (m:Nat) (h0:W m σ H)
  (hs : ∀ m σ H R,W m σ H->Is R (λ b H1=>if b=true then ∃ N:St->Hp->Prop,(∀ σ' H',N σ' H'->∃ m',m' < m/\W m' σ' H')/\tb { D with nx:=N,ct:=N,bk:=D.nx } σ H1 else D.nx σ H1)->c σ H R):A4 c tb D σ H:=⟨W,⟨m,h0⟩,λ m σ H w=>hs m σ H _ w Is.rfl⟩
theorem LI {K:PySem.W.Frag} {C:Addr} {i:Nat} {tb:XK->TS} {ts:TS} {D:Ends} {σ : St} {H:Hp} (h : ∀ E:XK,Is E (λ cls _ H'=>PySem.W.exmOne K cls (.ref C)=some true ∧ ∀ ea,H' ea=none →
  ts { nx:=fun σ2 H2=>D.nx (σ2.set i none) H2,rt:=D.rt,bk:=fun σ2 H2=>D.bk (σ2.set i none) H2,ct:=fun σ2 H2=>D.ct (σ2.set i none) H2 } (σ.set i (some (.ref ea))) (upd H' ea (.ext (nM ea cls))))->tb E D σ H):DV K C i tb ts D σ H:=h _ Is.rfl
theorem GC {E:XK} {C:Addr} {ta:TA} {D:Ends} {σ : St} {H:Hp} (h : ∀ R,Is R (λ vs H1=>vs.length<=sizeLine/\E (.ref C) none H1)->ta σ H R):sI E C ta D σ H:=h _ Is.rfl
section
variable {X:Cx} {k:Nat} {C:Addr} {ps:List Str} {sp:Sp} {x m:Str} {pos apos:Pos} {e o:Expr} {es:List Expr} {ta:TE} {t:TA}
end
section
variable {X:Cx}
end
def I0 (mg:Str->Option Value) (x:Str) (z:Str):Prop := ∃ t,mg x=some (.str z t)
theorem BP {K:PySem.W.Frag} {h:Heap} {mg:Str->Option Value} {x z:Str} {t:Tok} (X:K.In h) (G:h.Ns mainGlobals mg) (e:PySem.W.nsIn K mainGlobals x=some (some (.str z t))):I0 mg x z:=⟨t,PySem.W.mg_of X G e⟩
section
variable {X:Cx}
end
abbrev Ea:=List (Int×Addr×List Int)
def jH (es:Ea):List (Key×V):=es.map λ e=>(Sum.inl e.1,V.ref e.2.1)
theorem Eb (es:Ea) (n:Int):bN (jH es) (.inl n)=(es.find? λ e=>decide (e.1=n)).map λ e => .ref e.2.1:=by
 induction es with
 | nil=>rfl
 | cons e es ih =>
   unfold jH at ih ⊢
   rw [List.map_cons,List.find?_cons]
   by_cases h:e.1=n
   ·rw [cR (by rw [h]),decide_eq_true h];rfl
   ·rw [bO (λ q=>h (Sum.inl.inj q)),decide_eq_false h];exact ih
theorem o9 {es:Ea} {n:Int} (h:n ∉ es.map (·.1)):bN (jH es) (.inl n)=none:=by
 rw [Eb,List.find?_eq_none.mpr]
 ·rfl
 ·intro e he q
  exact h (List.mem_map.mpr ⟨e,he,of_decide_eq_true q⟩)
theorem vj (es:Ea) (n:Int):bR (jH es) (.inl n)=jH (es.filter λ e=>decide (e.1≠n)):=by
 unfold bR jH
 rw [List.filter_map]
 congr 1
 refine List.filter_congr λ e _ => ?_
 show decide ((Sum.inl e.1:Key)≠Sum.inl n)=decide (e.1≠n)
 exact decide_eq_decide.mpr ⟨λ q z=>q (by rw [z]),λ q z=>q (Sum.inl.inj z)⟩
section
variable {H:Hp} {Q:VK}
end
theorem xy {K:PySem.W.Frag} {H:Hp} {Q:VK} {p:Addr} {xs:List V} {y:V} (h1:H p=some (.lst xs)) (fy:iJ y=true) (fs:xs.all iJ=true) (h:Q (.bl (!ER y xs)) H):KO K true y (.ref p) H Q:=⟨p,xs,rfl,.inl (bW.of h1),fy,fs,h⟩
section
variable {X:Cx} {pins:List (Addr×Obj)} {σ : St} {H:Hp} {s:Shared} {h':Heap}
end
section
variable {X:Cx}
end
theorem pe {X:Cx} {K:PySem.W.Frag} (h:X.K=K):nD X (binaryOp .Add) (EN K):=by subst h;exact DI
section
variable {X:Cx}
end
section
variable {X:Cx}
end
theorem xA {lo:Int} {n:Nat} {te:TE} {σ : St} {Q:VK} {H1:Hp} {L:Cells} (G:Nat->V->Cells->Prop) (hL:Led H1 L) (hn:n<=sizeLine)
  (hs : ∀ (i:Nat) (H:Hp) (R:VK) (M:Cells),i < n->Led H (M++L)->(∀ v H' C,G i v C->Led H' (C++(M++L))->R v H')->te (some (.int (lo+i)) :: σ) H R)
  (hd : ∀ (p:Addr) (vs:List V) (Cs:List Cells) (H':Hp),vs.length=n->Cs.length=n->(∀ (i:Nat) v C,vs[i]? = some v->Cs[i]? = some C->G i v C)->Led H' ((p,.lst vs)::(Cs.flatten++L))->Q (.ref p) H'):lP (wM lo n) xu te σ Q H1:=by
 refine rK (λ p i acc H=>i<=n/\acc.length=i ∧ ∃ Cs:List Cells,Cs.length=i/\(∀ (j:Nat) v C,acc[j]? = some v->Cs[j]? = some C->G j v C)/\Led H ((p,.lst acc)::(Cs.flatten++L))) (λ p hp=>⟨Nat.zero_le _,rfl,[],rfl,λ j v C h=>by simp at h,hL.new hp⟩) (λ p i acc H hp h => ?_) ?_ ?_
 ·obtain ⟨_,_,Cs,_,_,hl⟩:=h
  exact hl.get List.mem_cons_self
 ·rintro p i acc H hp hi ⟨_,rfl,Cs,hc,hG,hl⟩
  unfold xu
  dsimp only
  rw [if_pos rfl]
  refine hs _ H _ ((p,.lst acc)::Cs.flatten) hi hl λ v H' C g hl' => ?_
  have h1:Led H' ((p,.lst acc)::(C++(Cs.flatten++L))):=Led.pull hl'
  refine ⟨h1.get List.mem_cons_self,by omega,hi,by simp,Cs++[C],by simp [hc],λ j u D hu hD => ?_,?_⟩
  ·rw [List.getElem?_append] at hu hD
   rw [hc] at hD
   by_cases hj:j < acc.length
   ·rw [if_pos hj] at hu hD
    exact hG j u D hu hD
   ·rw [if_neg hj] at hu hD
    have h0:j - acc.length=0:=by
     rcases Nat.lt_or_ge (j - acc.length) 1 with h | h
     ·omega
     ·rw [List.getElem?_eq_none (by simpa using h)] at hu;cases hu
    rw [h0] at hu hD
    have e:j=acc.length:=by omega
    subst e
    cases hu
    cases hD
    exact g
  ·refine (h1.put (o' := .lst (acc++[v])) rfl rfl).perm (List.Perm.cons _ ?_)
   rw [List.flatten_append,List.flatten_cons,List.flatten_nil,List.append_nil,List.append_assoc,<-List.append_assoc,<-List.append_assoc]
   exact List.Perm.append_right _ List.perm_append_comm
 ·rintro p acc H hp ⟨_,e,Cs,hc,hG,hl⟩
  exact hd p acc Cs H e hc hG hl
section
variable {H:Hp} {a:Addr} {Q:VK} {D:Ends} {σ : St}
theorem ig {kvs:List (Key×V)} {z:Str} {v:V} {S:V->Prop} (h1:H a=some (.dK kvs)) (h2:bN kvs (.inr z)=some v) (h:S v) : ∃ b v,V.ref a = .ref b/\fO H b (.str z) (some v)/\S v:=⟨a,v,rfl,h2 ▸ fO.k (k := .inr z) h1,h⟩
theorem E8 {kvs:List (Key×V)} {z:Str} {v:V} (h1:H a=some (.dK kvs)) (hl:kvs.length < sizeLine) (h:D.nx σ (upd H a (.dK (putK kvs (.inr z) v)))) : ∃ b H4,V.ref a = .ref b/\lu H b (.str z) v H4/\D.nx σ H4:=⟨a,_,rfl,lu.k (k := .inr z) h1 hl,h⟩
end
section
variable {X:Cx}
end
section
variable {X:Cx} {k:Nat} {f C:Addr} {fd:FuncData} {ps:List Str} {sp:Sp} {x:Str} {p pos:Pos} {e:Expr} {es:List Expr} {t:TA}
end
section
variable {X:Cx}
end
section
variable {P:Program} {w:World} {K:PySem.W.Frag} {mg:Str->Option Value} {base:Heap}
end
section
variable {X:Cx} {ea:Addr} {k:Nat} {ps:List Str} {sp:Sp} {x:Str} {p pos:Pos} {e:Expr} {es:List Expr} {t:TA}
end
section
variable {X:Cx}
end
section
variable {prog:Program} {w:World} {A:Around} {E:Value->Shared->Prop} {s:Shared}
end
namespace SI
end SI
section
variable {prog:Program} {w:World} {A:Around} {E:Value->Shared->Prop} {s:Shared}
end
section
variable {prog:Program} {w:World} {A:Around} {E:Value->Shared->Prop} {s:Shared}
end
section
variable {prog:Program} {w:World} {A:Around} {E:Value->Shared->Prop} {s:Shared}
end
section
variable {X:Cx} {pins:List (Addr×Obj)} {σ : St} {H:Hp} {s:Shared}
end
section
variable {prog:Program} {w:World} {A:Around} {E:Value->Shared->Prop} {s:Shared} {d it:Addr} {es:Array DictEntry} {ep i:Nat}
def BQ (h:Heap) (d:Addr) (es:Array DictEntry) (ep:Nat):Prop := ∃ o,h.get? d=some o/\o.ExactDict/\o.data = .dict es ep
theorem BQ.ty (x:BQ s.heap d es ep):s.TypeIs (.ref d) "dict" := let ⟨o,ho,hc,_⟩:=x; ⟨o,ho,hc.1⟩
theorem BQ.to {h h':Heap} (x:BQ h d es ep) (k : ∀ o,h.get? d=some o->h'.get? d=some o):BQ h' d es ep:=let ⟨o,ho,r⟩:=x; ⟨o,k o ho,r⟩
end
section
variable {X:Cx}
end
end L2
namespace L2
open PySem PySem.Spec PyProof.Rows
class uA (G:Prop) (P:outParam Prop):Prop where
 h:P->G
class cV (G:Prop) (P:outParam Prop):Prop where
 h:P->G
section
variable {σ : St} {H:Hp} {Q:VK} {D:Ends} {ta tb tc te:TE} {t u:TA} {r:R2} {b:TS} {QB:Bool->Hp->Prop} {c d:TT} {QA:List V->Hp->Prop}
instance LJ {α β : Type} {S : α->β->Prop} {g:(α->β->Prop)->Prop} : cV (Hid S g) (∀ R,(∀ x y,S x y->R x y)->g R):=⟨La⟩
instance LK {t u:TS} {D:Ends} {σ : St} {H:Hp} : cV (uK t u D σ H) (∀ M,Is M (u D)->t { D with nx:=M } σ H):=⟨KZ⟩
instance J0  : cV (qZ te t σ H QA) (∀ R,Is R (λ x H1=>t σ H1 λ xs H2=>QA (x::xs) H2)->te σ H R):=⟨IA⟩
instance Nu  : cV (Dq r ta tb σ H Q) (∀ R,(∀ x H1,Hid (λ y H2=>r x y H2 Q) (λ R2=>tb σ H1 R2)->R x H1)->ta σ H R):=⟨OU⟩
instance LL {g:TG} : cV (wL te g D σ H) (∀ R,Is R (λ x H1=>g x σ H1 D.nx)->te σ H R):=⟨Lb⟩
instance LM  : cV (zH te D σ H) (∀ R,Is R (λ x H1=>D.rt x H1)->te σ H R):=⟨Ld⟩
instance J1  : cV (qV te D σ H) (∀ R,Is R (λ _ H1=>D.nx σ H1)->te σ H R):=⟨Ir⟩
instance Nv {a b:TS} : cV (zI c a b D σ H) (∀ R,Is R (λ k H1=>if k=true then a D σ H1 else b D σ H1)->c σ H R):=⟨OR⟩
instance J2  : cV (qX te σ H QB) (∀ R,Is R (λ x H1 => ∃ k,x = .bl k/\QB k H1)->te σ H R):=⟨Iu⟩
instance Nx  : cV (tB te σ H QB) (∀ R,Is R (λ x H1 => ∃ k,x = .bl k/\QB k H1)->te σ H R):=⟨OS⟩
instance LN  : cV (A2 c σ H QB) (∀ R,Is R (λ k H1=>QB (!k) H1)->c σ H R):=⟨Le⟩
instance LO  : cV (AZ c d σ H QB) (∀ R,Is R (λ k H1=>if k=true then d σ H1 QB else QB false H1)->c σ H R):=⟨Lf⟩
instance Ny  : cV (HA c d σ H QB) (∀ R,Is R (λ k H1=>if k=true then QB true H1 else d σ H1 QB)->c σ H R):=⟨OT⟩
instance J3  : cV (uF ta tb σ H Q) (∀ R,Is R (λ x H1 => ∃ c,x = .bl c/\if c=true then tb σ H1 Q else Q (.bl false) H1)->ta σ H R):=⟨Iv⟩
instance J4  : cV (uG ta σ H Q) (∀ R,Is R (λ x H1 => ∃ c,x = .bl c/\Q (.bl (!c)) H1)->ta σ H R):=⟨Iw⟩
instance LP  : cV (HC c ta tb σ H Q) (∀ R,Is R (λ k H1=>if k=true then ta σ H1 Q else tb σ H1 Q)->c σ H R):=⟨Lh⟩
instance Nz {q:V->Hp->VK->Prop} : cV (HE q ta σ H Q) (∀ R,Is R (λ x H1=>q x H1 Q)->ta σ H R):=⟨OV⟩
instance NB {q:V->Option Int->Option Int->Hp->VK->Prop} {tl th:TO} : cV (HU q te tl th σ H Q) (∀ R,Is R (λ x H1=>tl σ H1 λ l H2=>th σ H2 λ u H3=>q x l u H3 Q)->te σ H R):=⟨OW⟩
instance J5 {QO:Option Int->Hp->Prop} : cV (uW te σ H QO) (∀ R,Is R (λ x H1 => ∃ i,x = .int i/\QO (some i) H1)->te σ H R):=⟨Iz⟩
instance LQ  : cV (Be t σ H Q) (∀ R,Is R (λ xs H1=>xs.length<=sizeLine ∧ ∀ p,H1 p=none->Q (.ref p) (upd H1 p (.tup xs)))->t σ H R):=⟨Li⟩
instance LS  : cV (Bf t σ H Q) (∀ R,Is R (λ xs H1=>xs.length<=sizeLine ∧ ∀ p,H1 p=none->Q (.ref p) (upd H1 p (.lst xs)))->t σ H R):=⟨Lj⟩
instance J6 {sp:Sp} {fG:List V} {E:XK} : cV (nG sp fG E t σ H Q) (∀ R,Is R (λ vs H1=>sp (vs++fG) H1 Q E)->t σ H R):=⟨IB⟩
instance NC {q:List V->Hp->VK->Prop} : cV (FO q t σ H Q) (∀ R,Is R (λ vs H1=>q vs H1 Q)->t σ H R):=⟨OX⟩
instance J7 {C:Addr} {m:Str} {sp:Sp} {fG:List V} {E:XK} : cV (nH C m sp fG E ta t σ H Q) (∀ R,Is R (λ x H1 => ∃ a dx fs,x = .ref a/\H1 a=some (.ins C dx fs)/\fs.lookup m=none/\t σ H1 λ vs H2=>sp (x::(vs++fG)) H2 Q E)->ta σ H R):=⟨IC⟩
instance J8 {C:Addr} {sp:Sp} {fG:List V} {E:XK} : cV (nI C sp fG E t σ H Q) (∀ R,Is R (λ vs H1 => ∀ x dx,H1 x=none->H1 dx=none->dx≠x->sp (.ref x::(vs++fG)) (upd (upd H1 dx (.own x)) x (.ins C dx [])) (λ v H2=>v = .aN/\Q (.ref x) H2) E)->t σ H R):=⟨ID⟩
instance LU {C:Addr} {f:Str} : cV (vd C ta f σ H Q) (∀ R,Is R (λ x H1 => ∃ a dx fs v,x = .ref a/\H1 a=some (.ins C dx fs)/\fs.lookup f=some v/\Q v H1)->ta σ H R):=⟨Lk⟩
instance J9 {C:Addr} {f:Str} : cV (ve C ta te f D σ H) (∀ R,Is R (λ y H1=>ta σ H1 λ x H2 => ∃ a dx fs,x = .ref a/\H2 a=some (.ins C dx fs)/\fs.length < 1000/\D.nx σ (upd H2 a (.ins C dx (bu f y fs))))->te σ H R):=⟨IE⟩
instance ND {K:PySem.W.Frag} {T:String} {q:V->List V->Hp->VK->Prop} : cV (HW K T q ta t σ H Q) (∀ R,Is R (λ x H1=>G3 K T x H1/\t σ H1 λ xs H2=>q x xs H2 Q)->ta σ H R):=⟨OY⟩
instance Ka  : cV (uS ta tb te D σ H) (∀ R,(∀ v H1,Hid (λ x H2=>Hid (λ y H3 => ∃ a H4,x = .ref a/\lu H3 a y v H4/\D.nx σ H4) (λ R3=>tb σ H2 R3)) (λ R2=>ta σ H1 R2)->R v H1)->te σ H R):=⟨IF⟩
instance Kc  : cV (uR ta tb σ H Q) (∀ R,Is R (λ x H1=>tb σ H1 λ y H2 => ∃ a v,x = .ref a/\fO H2 a y (some v)/\Q v H2)->ta σ H R):=⟨IG⟩
instance Kd  : cV (lz ta tb σ H Q) (∀ R,Is R (λ y H1=>tb σ H1 λ x H2 => ∃ a o,x = .ref a/\fO H2 a y o/\Q (.bl (!o.isSome)) H2)->ta σ H R):=⟨II⟩
instance LV {v:V} : uA (tC v σ H Q) (Q v H):=⟨Lm⟩
instance LW  : uA (qt σ H QA) (QA [] H):=⟨Ln⟩
instance NF {g:Int->Int->V} {i j:Int} : uA (A9 g (.int i) (.int j) H Q) (Q (g i j) H):=⟨OZ⟩
instance Ke {i:Nat} {v:V} {QS:St->Hp->Prop} : uA (nC i v σ H QS) (QS (σ.set i (some v)) H):=⟨vh⟩
instance Kf  : uA (qU D σ H) (D.nx σ H):=⟨IJ⟩
instance Pf {g:Int->V} {i:Int} : uA (rU g (.int i) H Q) (Q (g i) H):=⟨uH⟩
instance Hh {QO:Option Int->Hp->Prop} : uA (lC σ H QO) (QO none H):=⟨D7⟩
instance NG {b:Bool} {S:Bool->Prop} : uA (∃ k,V.bl b = .bl k/\S k) (S b):=⟨O0⟩
instance LX {n:Int} {S:Int->Prop} : uA (∃ k,V.int n = .int k/\S k) (S n):=⟨Lo⟩
instance LY {m n:Int} : uA (FG (.int m) (.int n) H Q) (Q (.bl (decide (m=n))) H):=⟨Lp⟩
instance LZ {m n:Int} : uA (HH (.int m) (.int n) H Q) (Q (.bl (!decide (m=n))) H):=⟨Lq⟩
instance L4 {m n:Str} : uA (FG (.str m) (.str n) H Q) (Q (.bl (decide (m=n))) H):=⟨Ls⟩
instance L6 {A B:Prop} : uA (if true=true then A else B) (A):=⟨HZ⟩
instance L7 {A B:Prop} : uA (if false=true then A else B) (B):=⟨HY⟩
instance Kg {A B:Prop} : uA (if (!true)=true then A else B) (B):=⟨E4⟩
instance Kh {A B:Prop} : uA (if (!false)=true then A else B) (A):=⟨E5⟩
instance Ja  : uA (rI qq (λ i j => .int (i ^ j.toNat)) (.int 10) (.int 60) H Q) (Q (.int 1000000000000000000000000000000000000000000000000000000000000) H):=⟨Gv⟩
end
end L2
namespace L2
open PySem PySem.Spec PyProof.Rows PySem.W
theorem KT.keys {H:Hp} {kvs:List (List Key×V)} {xs:List (List Key×Addr×Value)} (r:KT H kvs xs):kvs.map (·.1)=xs.map (·.1):=by
 induction r with
 | nil=>rfl
 | cons h t ih=>rw [List.map_cons,List.map_cons,ih,h.1]
section
variable {X:Cx} {pins:List (Addr×Obj)} {σ : St} {H:Hp} {s:Shared} {a b:Addr} {kvs:List (List Key×V)} {k:List Key} {A:Around} {E:Value->Shared->Prop}
end
section
variable {X:Cx} {o e f:Expr} {apos cpos:Pos} {td ty tx:TE}
end
section
variable {σ : St} {H:Hp} {Q:VK}
end
end L2
namespace L2
open PySem PySem.Spec PyProof.Rows
section
variable {X:Cx} {pins:List (Addr×Obj)} {σ : St} {H3:Hp} {s3:Shared} {scope:Scope} {x x2:Str} {fp:List Addr} {E:Value->Shared->Prop}
end
section
variable {X:Cx} {pins:List (Addr×Obj)} {σ : St} {H3:Hp} {s3:Shared} {scope:Scope} {x x2:Str} {fp:List Addr}
end
section
variable {X:Cx} {scope:Scope} {x x2:Str} {E:XK} {elt iter tg:Expr} {g:TG} {pos:Pos} {ifs:List Expr} {wi:TI} {tt:TT} {te:TE}
end
section
variable {X:Cx} {scope:Scope} {x x2:Str} {E:XK} {elt iter:Expr} {pos p1 p2 p3:Pos} {cx:Nat} {ifs:List Expr} {wi:TI} {tt:TT} {te:TE}
end
end L2
namespace HT
open PySem PyProof.Rows
section
variable {prog:Program} {w:World} {A:Around} {E:Value->Shared->Prop} {s:Shared}
end
end HT
namespace L2
open PySem PySem.Spec PyProof.Rows
section
variable {X:Cx}
end
section
variable {σ : St} {H:Hp} {Q:VK} {ta tb tc:TE} {r r':R2}
end
end L2
namespace L2
open PySem PySem.Spec PyProof.Rows PySem.W
section
variable {X:Cx}
end
end L2
namespace L2
open PySem PySem.Spec PyProof.Rows
structure L8 (K:PySem.W.Frag) (x:Str) (st:Stmt) (d1 d2:Value) (f:Addr) (fd:FuncData):Prop where
 ex : ∃ (oc:Value) (od:Option Addr) (T:Addr) (kV doc pm:Value) (an:Option Addr) (cdv ct:Value) (osl:Array (Option Value)) (o:Obj) (n:Nat),
  fd=PySem.W.fnOf x x (bD st) (aP st) (ai st) (.ref T) kV doc pm an cdv ct/\K.lookup f=some ⟨oc,od,.func fd,osl⟩/\PySem.W.codeIn K cdv x=true/\K.lookup T=some o/\o.data = .seq #[d1,d2] n
 kp:PySem.W.keepIn K (.ref f)=true
def BR (K:PySem.W.Frag) (mg:Str->Option Value) (x:Str) (st:Stmt) (v1 v2:V):Prop := ∃ d1 d2 f fd,RelV v1 d1/\RelV v2 d2/\mg x=some (.ref f)/\L8 K x st d1 d2 f fd
structure Jb (P:Program) (w:World) (K:PySem.W.Frag) (mg:Str->Option Value) (base:Heap) (k:Nat) (x:Str) (ps:List Str) (fG:List V) (sp:Sp):Prop where
 ex : ∃ f fd ds,mg x=some (.ref f)/\PySem.W.keepIn K (.ref f)=true/\Vals fG ds/\Binds K fd ps ds/\(dQ P w K mg base) (mF P w) k f fd ps sp
section
variable {P:Program} {w:World} {K:PySem.W.Frag} {mg:Str->Option Value} {base:Heap}
theorem Vals.Jc {v1 v2:V} {d1 d2:Value} (h1:RelV v1 d1) (h2:RelV v2 d2) (j:Nat):Vals ([v1,v2].drop j) ([d1,d2].drop j):=by
 match j with
 | 0=>exact .cons h1 (.cons h2 .nil)
 | 1=>exact .cons h2 .nil
 | j+2=>rw [List.drop_of_length_le (by simp),List.drop_of_length_le (by simp)];exact .nil
theorem BR.o6 {x:Str} {st:Stmt} {N ps:List Str} {k:Nat} {sp:Sp} {v1 v2:V} (D:BR K mg x st v1 v2) (j:Nat) (S:b6 N ps (ai st)) (len : ∀ vs H Q E,sp vs H Q E->vs.length=ps.length)
  (hb : ∀ (T:Addr) (kV doc pm:Value) (an:Option Addr) (cdv ct d1 d2:Value) (us:List Value),(us++[d1,d2].drop j).length=ps.length->∃ g,bindArgs (PySem.W.fnOf x x (bD st) (aP st) (ai st) (.ref T) kV doc pm an cdv ct) ⟨us,[]⟩ = seqItems? (.ref T) >>= g/\g (some #[d1,d2])=pure (ps.zip (us++[d1,d2].drop j)))
  (hbody : ∀ (f:Addr) (cdv:Value) (A:Around) (outer:List Env) (s:Shared) (H:Hp) (vs:List V) (Q:VK) (E:XK),bK k (A.deeper (envOfC x (ai st) s.heap.objs.size f cdv))->sp vs H Q E →
   ∃ t,qm (yJ P w K mg base N x (ai st) f cdv A outer s H E) (aP st) t/\t { nx:=λ _ H'=>Q .aN H',rt:=Q } (start N vs) H):Jb P w K mg base (k+1) x ps ([v1,v2].drop j) sp:=by
 obtain ⟨d1,d2,f,fd,r1,r2,hm,F⟩:=D
 obtain ⟨oc,od,T,kV,doc,pm,an,cdv,ct,osl,o,n,rfl,lk,hcd,lT,ho⟩:=F.ex
 refine ⟨f,_,[d1,d2].drop j,hm,F.kp,Vals.Jc r1 r2 j,λ s us X hl => ?_,oO lk hcd S len λ A outer s H vs Q E hr uz=>hbody _ cdv A outer s H vs Q E hr uz⟩
 obtain ⟨g,h1,h2⟩:=hb T kV doc pm an cdv ct d1 d2 us hl
 exact BindsTo.of_defaults (T:=T) rfl (X _ _ lT) ho h1 h2
theorem Ec {h:Heap} {x:Str} {st:Stmt} {f T:Addr} {oc tc:Value} {od an td:Option Addr} {osl Pg:Array (Option Value)} {kV doc pm cdv ct:Value} {n:Nat} {t:Tok} (X:K.In h) (G:h.Ns mainGlobals mg) (a:PySem.W.nsIn K mainGlobals x=some (some (.ref f)))
  (l:K.lookup f=some ⟨oc,od,.func (PySem.W.fnOf x x (bD st) (aP st) (ai st) (.ref T) kV doc pm an cdv ct),osl⟩) (c:PySem.W.codeIn K cdv x=true) (k:PySem.W.keepIn K (.ref f)=true)
  (lT:K.lookup T=some ⟨tc,td,.seq #[.none,.int 0 t] n,Pg⟩):BR K mg x st .aN (.int 0) :=
 ⟨.none,.int 0 t,f,_,rfl,⟨t,rfl⟩,PySem.W.mg_of X G a,⟨⟨oc,od,T,kV,doc,pm,an,cdv,ct,osl,_,n,rfl,l,c,lT,rfl⟩,k⟩⟩
def eV:Sp:=λ _ _ _ _=>False
theorem Def.no {x:Str} {st:Stmt} {N ps:List Str} (D:Def K mg x st) (S:b6 N ps (ai st))
  (hb : ∀ (kV doc pm:Value) (an:Option Addr) (cdv ct:Value) (us:List Value),us.length=ps.length->bindArgs (PySem.W.fnOf x x (bD st) (aP st) (ai st) .none kV doc pm an cdv ct) ⟨us,[]⟩ = pure (ps.zip us)):(aM P w K mg base) 1 x ps eV :=
 D.o6 S (λ _ _ _ _ h=>h.elim) hb (λ _ _ _ _ _ _ _ _ _ _ h=>h.elim)
end
section
variable {X:Cx} {k:Nat} {ps:List Str} {sp:Sp} {E:XK} {x:Str} {p pos:Pos} {e:Expr} {es:List Expr} {t:TA} {fG:List V}
theorem vm (F:Jb X.prog X.w X.K X.mg X.base k x ps fG sp) (hr:bK k X.A) (hg:Gl X x) (hx:Passes (mF X.prog X.w) X E) (ha:PA X (e::es) t)
  (hdb:(x == ("__debug__" : Str))=false:=by decide) (he:starEach (e::es) X.env=(false,eval e X.env)::starEach es X.env:=by rfl) (hpl:(backTo pos (starEach es X.env)).any (·.1)=false:=by rfl) :
  PE X (.Call (.Name x p) (e::es) [] pos) (nG sp fG E t):=by
 obtain ⟨f,fd,ds,h1,h2,h3,h4,h5⟩:=F.ex
 exact yp h5 hr hg h1 h2 h4 h3 hx ha hdb he hpl
end
end L2
namespace L2
open PySem PySem.Spec PyProof.Rows PySem.W
theorem rL : ∀ (f n r:Nat),minRun' f n r<=n+r
 | 0,_,_=>Nat.le_refl _
 | f+1,n,r=>by
   rw [minRun'_succ]
   by_cases h:n < 64
   ·rw [if_pos h];exact Nat.le_refl _
   ·rw [if_neg h]
    have:=rL f (n / 2) (max r (n % 2))
    omega
section
variable {prog:Program} {w:World} {A:Around} {E:Value->Shared->Prop} {s:Shared} {z:Array Keyed}
theorem Am {u:SortSt} {R:Option Nat->SortSt->Prop} (ik:IntKeys z) (z1:1<=z.size) (sb:SBase z u) (up:SortedTo (arrOf u) z.size) (k:R (some z.size) u):wpS (model prog w) A E s (countRun' 0 z.size) R u:=by
 rw [countRun0_eq]
 refine wpS_bind (wpS_ascLoop ik (Nat.le_refl _) (Nat.le_refl _) z1 sb (λ i j a b=>up i j a (by omega)) λ n n1 n2 _ hn => ?_)
 have e:n=z.size:=by
  rcases hn with e | lt
  ·exact e
  ·exact Classical.byContradiction λ ne=>absurd (up (n - 1) n (by omega) (by omega)) (Int.not_le.mpr lt)
 subst e
 dsimp only
 rw [if_pos (beq_self_eq_true _)]
 exact wpS_pure k
theorem BS {u:SortSt} {R:Unit->SortSt->Prop} (ik:IntKeys z) (z2:2<=z.size) (sb:SBase z u) (up:SortedTo (arrOf u) z.size) (k:R () (setPending u #[(0,z.size,0)])):wpS (model prog w) A E s sortRuns' R u:=by
 have le:=rL z.size z.size 0
 obtain ⟨v,ev⟩ : ∃ v,v=setPending u #[(0,z.size,0)]:=⟨_,rfl⟩
 rw [<-ev] at k
 have pv:pendingOf v = #[(0,z.size,0)]:=by rw [ev]
 rw [sortRuns'_eq]
 refine wpS_bind (wpS_get ?_)
 dsimp only
 rw [sb.size]
 refine wpS_bind (wpS_mono (wpS_forRange (I:=λ x c t=>(x=0/\c=(none,0)/\t=u)\/(0 < x/\c=(none,z.size)/\t=v)) (Q:=λ c t=>c=(none,z.size)/\t=v) ?turn ?stop (.inl ⟨rfl,rfl,rfl⟩)) ?next)
 case stop =>
  rintro c t (⟨h,_⟩ | ⟨_,h⟩)
  ·omega
  ·exact h
 case turn =>
  rintro x c t _ _ (⟨rfl,rfl,rfl⟩ | ⟨_,rfl,rfl⟩)
  ·dsimp only
   rw [if_neg (by omega),Nat.sub_zero]
   refine wpS_bind (Am ik (by omega) sb up ?_)
   dsimp only
   rw [if_neg (by omega)]
   refine wpS_bind (wpS_get ?_)
   rw [show (pendingOf t).back? = none by rw [sb.pend];rfl]
   dsimp only
   refine wpS_bind (wpS_modify (wpS_pure (.inr ⟨by omega,by rw [Nat.zero_add],?_⟩)))
   rw [ev,sb.pend]
   rfl
  ·dsimp only
   rw [if_pos (Nat.le_refl _)]
   exact wpS_pure ⟨rfl,rfl⟩
 case next =>
  rintro c t ⟨rfl,rfl⟩
  dsimp only
  refine wpS_bind (wpS_mono (wpS_forRange (I:=λ _ c t'=>c=(none,())/\t' = t) (Q:=λ c t'=>c=(none,())/\t' = t) ?_ (λ _ _ h=>h) ⟨rfl,rfl⟩) ?_)
  ·rintro _ c t' _ _ ⟨rfl,rfl⟩
   refine wpS_bind (wpS_get ?_)
   rw [if_pos (by rw [pv];exact Nat.le_refl 1)]
   exact wpS_pure ⟨rfl,rfl⟩
  ·rintro c t' ⟨rfl,rfl⟩
   exact wpS_pure k
theorem BU {vs:List Value} {ns:List Int} (hI:IntsAre vs ns) (up:ns.Pairwise (· ≤ ·)):SortedTo (pairsOf vs) (pairsOf vs).size:=by
 have hk : ∀ i:Nat,i < vs.length->PyProof.Rows.K (pairsOf vs) i=ns.getD i 0:=λ i hi=>by
  have h1:i < (pairsOf vs).size:=by rw [pairsOf_size];exact hi
  rw [K_eq h1]
  have e:(pairsOf vs)[i]=(vs[i],vs[i]):=by
   have:(pairsOf vs).toList[i]? = some (vs[i],vs[i]):=by rw [pairsOf_toList,List.getElem?_zip_eq_some];exact ⟨List.getElem?_eq_getElem hi,List.getElem?_eq_getElem hi⟩
   rw [Array.getElem?_toList,Array.getElem?_eq_getElem h1] at this
   exact Option.some.inj this
  rw [e]
  obtain ⟨t,ht⟩:=hI.int_at i vs[i] (List.getElem?_eq_getElem hi)
  show numOf vs[i]=_
  rw [ht]
  rfl
 have hl:vs.length=ns.length:=by rw [<-hI.nums,List.length_map]
 intro i j ij hj
 rw [pairsOf_size] at hj
 rw [hk i (by omega),hk j hj]
 by_cases e:i=j
 ·subst e;exact Int.le_refl _
 ·rw [List.getD_eq_getElem?_getD,List.getD_eq_getElem?_getD,List.getElem?_eq_getElem (by omega:i < ns.length),List.getElem?_eq_getElem (by omega:j < ns.length)]
  exact List.pairwise_iff_getElem.mp up i j (by omega) (by omega) (by omega)
theorem BV {a:Addr} {vs:List Value} {ns:List Int} {n:Nat} {R:Fin->Shared->Prop} (at_:s.heap.get? a=some (seqObj "list" vs.toArray n)) (hI:IntsAre vs ns) (up:ns.Pairwise (· ≤ ·)) (few:vs.length<=1000)
  (k : ∀ out:Array Value,IntsAre out.toList ns->R (.done (.ret .none)) { s with heap:=sortedHeap s.heap a vs out }):wpAny (model prog w) A (Builtin.«list.sort» ⟨[.ref a],[]⟩) R E s:=by
 have hps:=BU hI up
 have same : ∀ t:SortSt,arrOf t=pairsOf vs->R (.done (.ret .none)) { s with heap:=sortedHeap s.heap a vs ((arrOf t).map (·.2)) } := λ t e=>by
  obtain ⟨ms,h1,h2,h3⟩:=sorted_out hI (xs:=arrOf t) (by rw [e]) (by rw [e];exact hps)
  have em:ms=ns:=h2.eq_of_pairwise (λ x y _ _ p q=>Int.le_antisymm p q) h3 up
  rw [em] at h1
  exact k _ h1
 have lt:a < s.heap.objs.size:=Heap.lt_size at_
 have fits : ∀ xs:Array Keyed,xs=pairsOf vs->(xs.map (·.2)).size<=sizeLine+1:=λ xs e=>by rw [Array.size_map,e,pairsOf_size,sizeLine_eq];omega
 rw [list_sort_plain]
 refine wpAny_bind (listItems_at at_ rfl (wpAny_bind (listUpdate_at at_ rfl ?_)))
 obtain ⟨e1,NH⟩ : ∃ e1,(s.heap.update a (Obj.mapSeq λ _ => #[])).get? a=some (seqObj "list" #[] e1):=⟨_,get?_update_seq at_ (λ _ => #[])⟩
 refine wpAny_bind (seqEpoch_at NH rfl (wpAny_bind (wpAny_newTuple (wpAny_bind (wpAny_newList (wpAny_holding ?_))))))
 have AQ:(((s.heap.update a (Obj.mapSeq λ _ => #[])).push (seqObj "tuple" vs.toArray 0)).push (seqObj "list" #[] 0)).get? a=some (seqObj "list" #[] e1):=Heap.get?_push_of_some _ (Heap.get?_push_of_some _ NH)
 show wpAny (model prog w) A _ R E { s with heap:=((s.heap.update a (Obj.mapSeq λ _ => #[])).push (seqObj "tuple" vs.toArray 0)).push (seqObj "list" #[] 0) }
 dsimp only
 match vs,hI,at_,k,hps,same,fits,AQ with
 | [],hI,at_,k,hps,same,fits,AQ =>
   rw [if_pos (by decide),if_pos (by decide)]
   refine wpAny_bind (wpAny_pure ?_)
   rw [StateT.run_pure]
   refine wpAny_bind (wpAny_pure ?_)
   dsimp only
   refine wpAny_bind (seqEpoch_at AQ rfl (wpAny_bind (listUpdate_at AQ rfl ?_ (hsz2:=fits _ rfl))))
   simp only [bne_self_eq_false,Bool.false_eq_true,if_false]
   exact wpAny_pure (same (SortSt.mk' general' (([]:List Value).toArray.zip ([]:List Value).toArray) #[] 7 none) rfl)
 | [v],hI,at_,k,hps,same,fits,AQ =>
   rw [if_pos (by show (1:Nat) < 2;decide),if_pos (by show (1:Nat) < 2;decide)]
   refine wpAny_bind (wpAny_pure ?_)
   rw [StateT.run_pure]
   refine wpAny_bind (wpAny_pure ?_)
   dsimp only
   refine wpAny_bind (seqEpoch_at AQ rfl (wpAny_bind (listUpdate_at AQ rfl ?_ (hsz2:=fits _ rfl))))
   simp only [bne_self_eq_false,Bool.false_eq_true,if_false]
   exact wpAny_pure (same (SortSt.mk' general' ([v].toArray.zip [v].toArray) #[] 7 none) rfl)
 | v1::v2::vs,hI,at_,k,hps,same,fits,AQ =>
   have two : ¬ (v1::v2::vs).toArray.size < 2:=by simp
   rw [if_neg two,if_neg two,keyKind_ints hI]
   refine wpAny_bind (wpAny_pure ?_)
   refine wpAny_bind (wpAny_mono (BS (z:=pairsOf (v1::v2::vs)) (u:=SortSt.mk' oneType' ((v1::v2::vs).toArray.zip (v1::v2::vs).toArray) #[] 7 none) (R:=λ _ t=>arrOf t=pairsOf (v1::v2::vs)/\failedOf t=none) hI.intKeys (by rw [pairsOf_size];simp) ⟨Array.Perm.refl _,rfl,rfl,rfl⟩ hps ⟨rfl,rfl⟩) ?_ λ _ _ e=>e)
   rintro ⟨⟨⟩,t⟩ s' ⟨rfl,ha,hf⟩
   dsimp only
   refine wpAny_bind (seqEpoch_at AQ rfl (wpAny_bind (listUpdate_at AQ rfl ?_ (hsz2:=fits _ ha))))
   rw [hf]
   simp only [bne_self_eq_false,Bool.false_eq_true,if_false]
   exact wpAny_pure (same t ha)
end
def BW:List V->Hp->VK->Prop:=λ xs H Q => ∃ (p:Addr) (kvs:List (Key×V)) (ns:List Int),xs = [.ref p]/\H p=some (.dK kvs)/\kvs.map (·.1)=ns.map Sum.inl/\ns.Pairwise (· ≤ ·)/\ns.length<=1000 ∧ ∀ l:Addr,H l=none->Q (.ref l) (upd H l (.lst (ns.map V.int)))
section
variable {X:Cx}
theorem kK (hc:X.calm=true):eT X (.builtin "sorted") BW:=by
 intro pins s σ H xs us Q I r h
 obtain ⟨p,kvs,ns,rfl,hp,hk,up,few,q⟩:=h
 obtain ⟨u,rfl,rx⟩:=vals1 r
 cases rx
 obtain ⟨hz,hS,vs,rr,m⟩:=rB I.hok hp
 obtain ⟨ep,hat⟩:=m.dictAt
 have l1:kvs.length=vs.length:=Paired.length rr
 have l2:kvs.length=ns.length:=by have:=congrArg List.length hk;simpa using this
 have keys : ∀ {a:List (Key×V)} {b:List (Key×Value)},KV a b->b.map (·.1)=a.map (·.1):=by
  intro a b h
  induction h with
  | nil=>rfl
  | cons h1 h2 ih=>rw [List.map_cons,List.map_cons,ih,h1.1]
 have hkv:vs.map (·.1)=ns.map Sum.inl:=by rw [<-hk];exact keys rr
 have big:ns.length<=sizeLine:=by rw [sizeLine_eq];omega
 refine Calls.call_function_entry kind_sorted plain_sorted entry_sorted (args_sorted1 _) ?_
 unfold Builtin.«sorted»
 refine wpAny_bind (m:=checkCount "sorted" 1 1 _) (wpAny_pure (wpAny_bind (kdu_collect (A:=X.A.in1) (kdl_dict (knd:=br X.prog X.w) (kvs:=vs) (ep:=ep) hS) (I.ok.hd hc) hat (by omega) λ h' tk acc hk' hacc => ?_)))
 have hI:IntsAre acc.toList ns:=mV hkv (by rw [Array.length_toList];exact hacc.1) λ j v e=>hacc.2 j v (by rw [<-Array.getElem?_toList];exact e)
 have la:acc.toList.length=ns.length:=by rw [Array.length_toList,hacc.1];omega
 refine wpAny_bind (wpAny_newList ?_ (by rw [la];exact big))
 have C8:(h'.push (seqObj "list" acc.toList.toArray 0)).get? h'.objs.size=some (seqObj "list" acc.toList.toArray 0):=Heap.get?_push_size _ rfl
 refine wpAny_bind (wpAny_holding (wpAny_call_entry slot_list_sort ⟨_,C8,rfl⟩ entry_list_sort (BV C8 hI up (by omega) λ out a1=>⟨_,rfl,?_⟩) (args_list_sort _)))
 obtain ⟨e,he⟩:=sortedHeap_at (out:=out) C8
 have I1:Inv X pins σ H { s with heap:=h',toks:=tk } := I.kept hk'
 refine wpAny_pure ⟨_,rfl,.ref h'.objs.size,_,I1.laid (t':=tk) (λ b o hb => ?_) (Nat.le_refl _) (show bx X.prog X.w _ _ _ (.lst (ns.map V.int)) from ⟨by rw [List.length_map];exact big,out.toList,e,jy a1,he⟩),rfl,q _ (I1.hok.fresh (Nat.le_refl _))⟩
 have hlt:=Heap.lt_size hb
 rw [sortedHeap_old (Nat.ne_of_lt hlt) (by rw [size_push'];exact Nat.lt_succ_of_lt hlt)]
 exact Heap.get?_push_of_some _ hb
end
theorem xB {H:Hp} {Q:VK} {a:Addr} {kvs:List (Key×V)} {ns:List Int} {L:Cells} (hL:Led H L) (h1:H a=some (.dK kvs)) (h2:kvs.map (·.1)=ns.map Sum.inl) (h3:ns.Pairwise (· ≤ ·)) (h4:ns.length<=1000) (h : ∀ l H',Led H' ((l,.lst (ns.map V.int))::L)->Q (.ref l) H'):BW [.ref a] H Q:=⟨a,kvs,ns,rfl,h1,h2,h3,h4,λ l hl=>h l _ (hL.new hl)⟩
end L2
set_option maxHeartbeats 4000000
set_option hygiene false
local macro_rules | `(tactic| walk_at "ln") => `(tactic| first | (obtain ⟨rfl,_⟩:=h;rfl) | (obtain ⟨_,h⟩:=h;walk_at "ln"))
set_option hygiene true
open PySem in
abbrev L2.bQ (N:List Str) (k:Nat) (s:Scope):Prop:=L2.b6 N (N.take k) s
namespace My
open PySem
theorem Ph {us:List Value} (h:us.length=0):us = []:=List.length_eq_zero_iff.mp h
theorem NI {us:List Value} (h:us.length=1) : ∃ a0,us = [a0]:=by
 obtain ⟨a0,us,rfl⟩:=List.exists_cons_of_length_eq_add_one h
 obtain rfl:=Ph (Nat.succ.inj h)
 exact ⟨a0,rfl⟩
theorem NJ {us:List Value} (h:us.length=2) : ∃ a0 a1,us = [a0,a1]:=by
 obtain ⟨a0,us,rfl⟩:=List.exists_cons_of_length_eq_add_one h
 obtain ⟨a1,rfl⟩:=NI (Nat.succ.inj h)
 exact ⟨a0,a1,rfl⟩
theorem NK {us:List Value} (h:us.length=3) : ∃ a0 a1 a2,us = [a0,a1,a2]:=by
 obtain ⟨a0,us,rfl⟩:=List.exists_cons_of_length_eq_add_one h
 obtain ⟨a1,a2,rfl⟩:=NJ (Nat.succ.inj h)
 exact ⟨a0,a1,a2,rfl⟩
theorem NL {us:List Value} (h:us.length=4) : ∃ a0 a1 a2 a3,us = [a0,a1,a2,a3]:=by
 obtain ⟨a0,us,rfl⟩:=List.exists_cons_of_length_eq_add_one h
 obtain ⟨a1,a2,a3,rfl⟩:=NK (Nat.succ.inj h)
 exact ⟨a0,a1,a2,a3,rfl⟩
theorem Pj {us:List Value} (h:us.length=5) : ∃ a0 a1 a2 a3 a4,us = [a0,a1,a2,a3,a4]:=by
 obtain ⟨a0,us,rfl⟩:=List.exists_cons_of_length_eq_add_one h
 obtain ⟨a1,a2,a3,a4,rfl⟩:=NL (Nat.succ.inj h)
 exact ⟨a0,a1,a2,a3,a4,rfl⟩
end My
set_option hygiene false
local macro_rules | `(tactic| walk_at "us") => `(tactic| (intro _ _ _ _ _ _ _ hl;first | (obtain ⟨_,rfl⟩:=My.NI hl;rfl) | (obtain ⟨_,_,rfl⟩:=My.NJ hl;rfl) | (obtain ⟨_,_,_,rfl⟩:=My.NK hl;rfl) | (obtain ⟨_,_,_,_,rfl⟩:=My.NL hl;rfl) | (obtain ⟨_,_,_,_,_,rfl⟩:=My.Pj hl;rfl)))
set_option hygiene true
namespace My
open PySem PySem.Spec PyProof.Rows L2
def top (i : Nat) : Stmt := PySem.Challenge.pw_paneworks_k61_spaces_numbered.main.body.getD i (.Pass ⟨0, 0, 0, 0⟩)
abbrev iW:Stmt:=inClass (top 13) 0
theorem lR:bQ ["self","many"] 2 (ai iW):=by walk_at "sc"
abbrev pq:Stmt:=inClass (top 13) 1
theorem AR:bQ ["self"] 1 (ai pq):=by walk_at "sc"
abbrev lS:Stmt:=inClass (top 13) 2
theorem qz:bQ ["self","frame"] 2 (ai lS):=by walk_at "sc"
abbrev gI:Stmt:=inClass (top 15) 0
theorem j6:bQ ["self"] 1 (ai gI):=by walk_at "sc"
abbrev iu:Stmt:=inClass (top 15) 2
theorem mX:bQ ["self","name"] 2 (ai iu):=by walk_at "sc"
abbrev kL:Stmt:=top 19
theorem vn:bQ ["thing"] 1 (ai kL):=by walk_at "sc"
abbrev pA:Stmt:=top 20
theorem An:bQ ["thing","low","high"] 3 (ai pA):=by walk_at "sc"
abbrev fR:Stmt:=top 21
theorem iX:bQ ["thing"] 1 (ai fR):=by walk_at "sc"
abbrev mY:Stmt:=top 22
theorem pB:bQ ["place"] 1 (ai mY):=by walk_at "sc"
abbrev mZ:Stmt:=top 23
theorem pC:bQ ["place"] 1 (ai mZ):=by walk_at "sc"
abbrev sS:Stmt:=top 28
theorem vo:bQ ["place","many","told","here","end","cell","count"] 2 (ai sS):=by walk_at "sc"
abbrev fS:Stmt:=inClass (top 30) 0
theorem iY:bQ ["self","many"] 2 (ai fS):=by walk_at "sc"
abbrev iw:Stmt:=inClass (top 30) 5
theorem m5:bQ ["self","frame","cell","numbers"] 4 (ai iw):=by walk_at "sc"
abbrev eG:Stmt:=inClass (top 30) 9
theorem gp:bQ ["self"] 1 (ai eG):=by walk_at "sc"
abbrev gJ:Stmt:=inClass (top 32) 0
theorem j7:bQ ["self","many"] 2 (ai gJ):=by walk_at "sc"
abbrev fq:Stmt:=inClass (top 32) 6
theorem iy:bQ ["self"] 1 (ai fq):=by walk_at "sc"
abbrev gK:Stmt:=inClass (top 34) 0
theorem j8:bQ ["self","many","places"] 3 (ai gK):=by walk_at "sc"
abbrev m7:Stmt:=top 43
theorem pD:bQ ["store","most"] 1 (ai m7):=by walk_at "sc"
abbrev sU:Stmt:=top 45
theorem Dh:bQ ["store","sheet"] 2 (ai sU):=by walk_at "sc"
abbrev BX:Stmt:=top 46
theorem Ed:bQ ["store","sheet"] 2 (ai BX):=by walk_at "sc"
abbrev vp:Stmt:=top 47
theorem Ao:bQ ["store","sheet","left"] 2 (ai vp):=by walk_at "sc"
abbrev gM:Stmt:=inClass (top 50) 0
theorem j9:bQ ["self"] 1 (ai gM):=by walk_at "sc"
abbrev gq:Stmt:=inClass (top 50) 1
theorem lU:bQ ["self","page","upper"] 2 (ai gq):=by walk_at "sc"
abbrev nP:Stmt:=inClass (top 50) 2
theorem sV:bQ ["self","page","sheet","upper"] 3 (ai nP):=by walk_at "sc"
abbrev fT:Stmt:=inClass (top 50) 4
theorem iZ:bQ ["self","told","upper","entries","lower","sheet"] 1 (ai fT):=by walk_at "sc"
abbrev fu:Stmt:=inClass (top 50) 5
theorem iz:bQ ["self"] 1 (ai fu):=by walk_at "sc"
abbrev m8:Stmt:=top 51
theorem pF:bQ ["table","twin","page"] 1 (ai m8):=by walk_at "sc"
abbrev i0:Stmt:=inClass (top 53) 0
theorem lV:bQ ["self","slots"] 2 (ai i0):=by walk_at "sc"
abbrev cJ:Stmt:=inClass (top 53) 4
theorem eo:bQ ["self","space"] 2 (ai cJ):=by walk_at "sc"
abbrev dX:Stmt:=inClass (top 53) 6
theorem fN:bQ ["self","others","struck"] 2 (ai dX):=by walk_at "sc"
abbrev gO:Stmt:=inClass (top 59) 0
theorem kc:bQ ["self","plan","table"] 3 (ai gO):=by walk_at "sc"
abbrev gP:Stmt:=inClass (top 60) 0
theorem kg:bQ ["self","many","places","hands","slots"] 5 (ai gP):=by walk_at "sc"
abbrev kM:Stmt:=top 61
theorem nQ:bQ ["world","space"] 2 (ai kM):=by walk_at "sc"
abbrev nc:Stmt:=top 62
theorem pG:bQ ["world","hand"] 2 (ai nc):=by walk_at "sc"
abbrev fz:Stmt:=top 63
theorem jI:bQ ["world","space","page","book"] 3 (ai fz):=by walk_at "sc"
abbrev cK:Stmt:=top 64
theorem er:bQ ["world","space","book"] 2 (ai cK):=by walk_at "sc"
abbrev fU:Stmt:=top 66
theorem i6:bQ ["world"] 1 (ai fU):=by walk_at "sc"
abbrev i7:Stmt:=top 67
theorem lW:bQ ["world","space"] 2 (ai i7):=by walk_at "sc"
abbrev i8:Stmt:=top 68
theorem lX:bQ ["world","space","table"] 2 (ai i8):=by walk_at "sc"
abbrev i9:Stmt:=top 69
theorem lY:bQ ["world"] 1 (ai i9):=by walk_at "sc"
abbrev ja:Stmt:=top 71
theorem lZ:bQ ["world","plan","table","space"] 3 (ai ja):=by walk_at "sc"
abbrev jb:Stmt:=top 72
theorem l5:bQ ["table"] 1 (ai jb):=by walk_at "sc"
abbrev gQ:Stmt:=top 73
theorem kh:bQ ["world"] 1 (ai gQ):=by walk_at "sc"
abbrev gR:Stmt:=top 74
theorem ki:bQ ["world","space","old","sheet"] 2 (ai gR):=by walk_at "sc"
abbrev jc:Stmt:=top 75
theorem l6:bQ ["world","space","old","sheet"] 2 (ai jc):=by walk_at "sc"
abbrev pH:Stmt:=top 87
theorem rM:bQ ["stretch"] 1 (ai pH):=by walk_at "sc"
abbrev jd:Stmt:=top 88
theorem n6:bQ ["stretch","page"] 2 (ai jd):=by walk_at "sc"
abbrev l7:Stmt:=top 89
theorem qA:bQ ["one","other"] 2 (ai l7):=by walk_at "sc"
abbrev BY:Stmt:=top 91
theorem BZ:bQ ["plan","low","high","pieces","stretch","first","end"] 3 (ai BY):=by walk_at "sc"
abbrev B0:Stmt:=top 92
theorem Hi:bQ ["plan","first","many"] 3 (ai B0):=by walk_at "sc"
abbrev pI:Stmt:=top 93
theorem rN:bQ ["pieces","plan","piece","last"] 1 (ai pI):=by walk_at "sc"
abbrev kN:Stmt:=top 94
theorem nR:bQ ["plan","first","many","pieces","ahead","behind"] 4 (ai kN):=by walk_at "sc"
abbrev xC:Stmt:=top 96
theorem yQ:bQ ["plan","stretch"] 2 (ai xC):=by walk_at "sc"
abbrev rO:Stmt:=top 97
theorem xD:bQ ["plan","first","many"] 3 (ai rO):=by walk_at "sc"
abbrev kj:Stmt:=top 98
theorem pJ:bQ ["plan","first","many","rights","pieces"] 4 (ai kj):=by walk_at "sc"
abbrev je:Stmt:=top 103
theorem l8:bQ ["first","many"] 2 (ai je):=by walk_at "sc"
abbrev kO:Stmt:=top 104
theorem nS:bQ ["world","kind","name","start","many"] 5 (ai kO):=by walk_at "sc"
abbrev jf:Stmt:=top 105
theorem l9:bQ ["world","space","first","many","kind","rights","name","start","begin","living"] 8 (ai jf):=by walk_at "sc"
abbrev gS:Stmt:=top 106
theorem ko:bQ ["world","space","first","many","rights","living","page"] 5 (ai gS):=by walk_at "sc"
abbrev fV:Stmt:=top 107
theorem jg:bQ ["world","space","first","many","living","page"] 4 (ai fV):=by walk_at "sc"
abbrev kq:Stmt:=top 108
theorem pK:bQ ["world","table","page","sheet"] 3 (ai kq):=by walk_at "sc"
abbrev gT:Stmt:=top 114
theorem kr:bQ ["thing"] 1 (ai gT):=by walk_at "sc"
abbrev jh:Stmt:=top 115
theorem mh:bQ ["world","hand","place","many"] 4 (ai jh):=by walk_at "sc"
abbrev mj:Stmt:=top 116
theorem qB:bQ ["plan","pages","wanted","states"] 3 (ai mj):=by walk_at "sc"
abbrev pL:Stmt:=top 118
theorem vq:bQ ["world","living","pages","needed"] 3 (ai pL):=by walk_at "sc"
abbrev nU:Stmt:=top 123
theorem sW:bQ ["world","hand","space","page","wanted","way"] 5 (ai nU):=by walk_at "sc"
abbrev ku:Stmt:=top 124
theorem pM:bQ ["world","frame"] 2 (ai ku):=by walk_at "sc"
abbrev gU:Stmt:=top 125
theorem kD:bQ ["world","hand","space","place","many","some","told","page","cell","count","row"] 5 (ai gU):=by walk_at "sc"
abbrev fW:Stmt:=top 126
theorem ji:bQ ["world","hand","space","place","numbers","given","some","pages","living","page","cell","count","frame","done"] 5 (ai fW):=by walk_at "sc"
abbrev jj:Stmt:=top 128
theorem sX:bQ ["_law_script","_law_k"] 2 (ai jj):=by walk_at "sc"
abbrev sY:Stmt:=top 129
theorem vt:bQ ["_law_cell","_law_k","_law_turn","_law_prime"] 3 (ai sY):=by walk_at "sc"
abbrev ng:Stmt:=top 130
theorem pN:bQ ["_law_num"] 1 (ai ng):=by walk_at "sc"
abbrev jk:Stmt:=top 131
theorem mq:bQ ["_law_found","_law_due","_law_num"] 2 (ai jk):=by walk_at "sc"
abbrev pO:Stmt:=top 132
theorem rP:bQ ["_law_cell","_law_made_here","_law_living","_law_ended","_law_way"] 3 (ai pO):=by walk_at "sc"
abbrev pP:Stmt:=top 133
theorem rQ:bQ ["_law_world","_law_way","_law_space"] 3 (ai pP):=by walk_at "sc"
abbrev jl:Stmt:=top 134
theorem mw:bQ ["_law_world","_law_way","_law_space","_law_refused_here","e","_law_others"] 3 (ai jl):=by walk_at "sc"
abbrev pQ:Stmt:=top 135
theorem rR:bQ ["_law_found","_law_due","_law_one"] 2 (ai pQ):=by walk_at "sc"
abbrev pR:Stmt:=top 136
theorem rS:bQ ["_law_world","_law_row","_law_mixed","_law_first","_law_due","_law_space"] 3 (ai pR):=by walk_at "sc"
abbrev pS:Stmt:=top 137
theorem rT:bQ ["_law_world","_law_row","_law_cell","_law_k","_law_living","_law_way","_law_space","_law_fresh","_law_dead_here"] 4 (ai pS):=by walk_at "sc"
abbrev jm:Stmt:=top 138
theorem mz:bQ ["_law_world","_law_row","_law_held","_law_k","_law_living","_law_found","_law_space"] 4 (ai jm):=by walk_at "sc"
abbrev vv:Stmt:=top 139
theorem GD:bQ ["_law_script","_law_worlds","_law_rows","_law_t","_law_some","_law_rooms","_law_held","_law_k","_law_at","_law_dead_here","_law_pair"] 1 (ai vv):=by walk_at "sc"
structure Txt (K:PySem.W.Frag) (mg:Str->Option Value) (cN c2 cP cA cG c3 cC c4 cU c6 cT cF cD cS cI cL cB cQ cW:Addr):Prop where
 pT:Exc K mg "NoNumber" cN
 yR:Exc K mg "NoSpace" c2
 Aq:Hg mg "PaneError" cP
 B3:Exc K mg "NoFile" cA
 B4:Exc K mg "NoPage" cG
 Ef:Hg mg "NoRight" c3
 Taken:Exc K mg "Taken" cC
 Ma:Hg mg "Held" c4
 Full:Hg mg "Full" cU
 Jd:Hg mg "NoRow" c6
 B5:PySem.W.DU K c2
 B6:PySem.W.exmOne K (.ref c2) (.ref cP)=some true
 B7:PySem.W.kitOne K (.ref c2) (.ref c2)=some true
 nh:PySem.W.kitOne K (.ref c2) (.type "ValueError")=some true
 Mb:PySem.W.kitAny K (.ref c2) [.ref cN,.ref cA,.ref cG,.ref c3,.ref cC,.ref c4,.ref cU,.ref c6]=some false
 ee:cZ mg "CELLS_OF_PAGE" 4
 qC:cZ mg "PAGES_OF_LEAF" 16
 vz:cZ mg "MOST_FRAMES" 64
 vA:cZ mg "MOST_PLACES" 512
 xE:cZ mg "MOST_HANDS" 8
 xF:cZ mg "MOST_SLOTS" 16
 vB:cZ mg "FIRST" 0
 Eg:cZ mg "MANY" 1
 Je:cZ mg "KIND" 2
 Pk:cZ mg "NAME" 4
 Jf:cZ mg "START" 5
 jn:cZ mg "PAGES_OF_SPACE" 256
 nV:cZ mg "MOST_RIGHTS" 2
 Ar:cZ mg "MOST_ROWS" 64
 iA:cZ mg "PLACES_OF_SPACE" 1024
 xG:cZ mg "MOST_CELLS" 64
 yS:cZ mg "TO_READ" 1
 vC:cZ mg "TO_WRITE" 2
 gr:jG K mg "Store" cT
 pU:aY K cT "frames"
 B8:aY K cT "dial"
 yT:aY K cT "shelf"
 yU:aY K cT "files"
 rV:aY K cT "holders"
 qD:aY K cT "sheets_made"
 Eh:fk K cT "Store.__init__" gK
 Frames:jG K mg "Frames" cF
 B9:aY K cF "held"
 GF:aY K cF "rows"
 Ca:aY K cF "soiled"
 Cb:fk K cF "Frames.__init__" fS
 Ei:jG K mg "Dial" cD
 vD:aY K cD "stands_at"
 Cc:aY K cD "marked"
 GG:fk K cD "Dial.__init__" iW
 vE:jG K mg "Shelf" cS
 vF:aY K cS "placed"
 pV:aY K cS "row_by_sheet"
 Ej:fk K cS "Shelf.__init__" gJ
 Cd:jG K mg "Files" cI
 pW:aY K cI "rows_by_name"
 Ek:fk K cI "Files.__init__" gI
 Table:jG K mg "Table" cL
 eK:aY K cL "leaf_by_upper"
 El:fk K cL "Table.__init__" gM
 vG:jG K mg "Book" cB
 Em:aY K cB "slots"
 sZ:aY K cB "kept"
 GH:fk K cB "Book.__init__" i0
 dS:jG K mg "Space" cQ
 fB:aY K cQ "plan"
 jD:aY K cQ "table"
 En:fk K cQ "Space.__init__" gO
 World:jG K mg "World" cW
 gW:aY K cW "store"
 tu:aY K cW "books"
 Eo:aY K cW "walks"
 Ce:aY K cW "copies"
 gu:aY K cW "spaces"
 fX:aY K cW "spaces_made"
 Ep:fk K cW "World.__init__" gP
 n8:dD K cF "things" "Frames.things" eG
 pX:dD K cS "sheets" "Shelf.sheets" fq
 ni:dD K cL "sheet_at" "Table.sheet_at" gq
 qE:dD K cL "pages" "Table.pages" fT
 pY:dD K cL "leaves" "Table.leaves" fu
 vH:dD K cL "lay" "Table.lay" nP
 oh:dD K cI "size_of" "Files.size_of" iu
 tw:dD K cD "touch" "Dial.touch" lS
 oi:dD K cF "put_in" "Frames.put_in" iw
 jJ:dD K cB "strike_space" "Book.strike_space" cJ
 nj:dD K cB "keep_just" "Book.keep_just" dX
 xH:Def K mg "is_whole" kL
 Cf:Def K mg "number" pA
 qF:Def K mg "cell_number" fR
 As:Def K mg "page_of" mY
 Au:Def K mg "cell_of" mZ
 Er:Def K mg "parts" sS
 Av:Def K mg "room_of" m7
 GI:Def K mg "hold" BX
 Cg:Def K mg "let_go" vp
 Aw:Def K mg "copy_of" m8
 xJ:Def K mg "space_at" kM
 Ax:Def K mg "hand_of" nc
 kP:Def K mg "strike_page_ways" fz
 jK:Def K mg "strike_space_ways" cK
 qG:Def K mg "told_spaces" fU
 vI:Def K mg "told_plan" i7
 vJ:Def K mg "told_ways" i8
 vK:Def K mg "told_room" i9
 vL:Def K mg "add_space" ja
 vM:Def K mg "sheets_of" jb
 tD:Def K mg "make_space" gQ
 tE:Def K mg "fork_space" gR
 vN:Def K mg "end_space" jc
 Ci:Def K mg "end_of" pH
 tF:Def K mg "could_join" l7
 pZ:Def K mg "file_page_at" jd
 Jg:Def K mg "cut" BY
 Cj:Def K mg "joined" pI
 xK:Def K mg "replaced" kN
 GJ:Def K mg "laid" xC
 Ay:Def K mg "without" rO
 qH:Def K mg "with_rights" kj
 vO:Def K mg "ask_pages" je
 xM:Def K mg "ask_file" kO
 tG:Def K mg "set_rights" gS
 qI:Def K mg "unmap_pages" fV
 qJ:Def K mg "leave_sheet" kq
 tH:Def K mg "numbers_of" gT
 vP:Def K mg "ask_cells" jh
 tK:Def K mg "ask_states" mj
 xN:Def K mg "ask_room" pL
 vQ:Def K mg "frame_for" nU
 qK:Def K mg "touched_row" ku
 tL:Def K mg "read_cells" gU
 qL:Def K mg "write_cells" fW
 vR:Def K mg "_law_cell_at" jj
 Es:Def K mg "_law_mix" sY
 Az:Def K mg "_law_whole" ng
 vS:Def K mg "_law_numbers" jk
 Ck:Def K mg "_law_dead" pO
 Cm:Def K mg "_law_call" pP
 vU:Def K mg "_law_refused" jl
 Cn:Def K mg "_law_plan" pQ
 Co:Def K mg "_law_made" pR
 Cp:Def K mg "_law_deed" pS
 vV:Def K mg "_law_as_told" jm
 Jh:Def K mg "law" vv
 vW:BR K mg "map_pages" jf .aN (.int 0)
end My
def PySem.W.Fast.tw5769371012000087081:Unit:=()
def PySem.W.Fast.tw7268613838129419628:Unit:=()
def PySem.W.Fast.tw1813868283271187882:Unit:=()
def PySem.W.Fast.tw10641578332480956823:Unit:=()
def PySem.W.Fast.tw9904994803501668728:Unit:=()
def PySem.W.Fast.tw11355355462400557027:Unit:=()
def PySem.W.Fast.tw2712435280007426560:Unit:=()
def PySem.W.Fast.tw6847350604335328389:Unit:=()
def PySem.W.Fast.tw8964405216743185561:Unit:=()
def PySem.W.Fast.tw11157968941459397898:Unit:=()
def PySem.W.Fast.tw10007830276990025164:Unit:=()
def PySem.W.Fast.tw12878749933404896085:Unit:=()
def PySem.W.Fast.tw3474165047759931779:Unit:=()
def PySem.W.Fast.tw11692367277096533341:Unit:=()
def PySem.W.Fast.tw13277870329544318690:Unit:=()
def PySem.W.Fast.tw10542141324598003529:Unit:=()
def PySem.W.Fast.tw9084553336565786677:Unit:=()
def PySem.W.Fast.tw4724225839601274040:Unit:=()
def PySem.W.Fast.tw14065670146912947622:Unit:=()
def PySem.W.Fast.tw2676532462624834654:Unit:=()
def PySem.W.Fast.tw1048180335451717451:Unit:=()
def PySem.W.Fast.tw13645441796164943544:Unit:=()
def PySem.W.Fast.tw2657545278315276886:Unit:=()
def PySem.W.Fast.tw18096857355339852418:Unit:=()
def PySem.W.Fast.tw4500482972647577858:Unit:=()
def PySem.W.Fast.tw13497660063117600221:Unit:=()
def PySem.W.Fast.tw2530809066588388412:Unit:=()
def PySem.W.Fast.tw4235848788288962376:Unit:=()
def PySem.W.Fast.tw5758385603446781776:Unit:=()
def PySem.W.Fast.tw1813126168340846012:Unit:=()
def PySem.W.Fast.tw17797838825237428224:Unit:=()
def PySem.W.Fast.tw3811326151951530708:Unit:=()
def PySem.W.Fast.tw542095816683000238:Unit:=()
def PySem.W.Fast.tw3368024435430538087:Unit:=()
def PySem.W.Fast.tw7860415333359193081:Unit:=()
def PySem.W.Fast.tw15833773543392696337:Unit:=()
def PySem.W.Fast.tw4837676087587179591:Unit:=()
def PySem.W.Fast.tw13379738260090350157:Unit:=()
def PySem.W.Fast.tw82732119075120286:Unit:=()
def PySem.W.Fast.tw15142478276767662025:Unit:=()
def PySem.W.Fast.tw992456962474265665:Unit:=()
def PySem.W.Fast.tw5309022780448366795:Unit:=()
def PySem.W.Fast.tw18067132591578384524:Unit:=()
def PySem.W.Fast.tw419760461350417167:Unit:=()
def PySem.W.Fast.tw8682788737682803464:Unit:=()
def PySem.W.Fast.tw6648926778733566568:Unit:=()
def PySem.W.Fast.tw13918851961775319987:Unit:=()
def PySem.W.Fast.tw7198698841151625638:Unit:=()
def PySem.W.Fast.tw2657208901292916452:Unit:=()
def PySem.W.Fast.tw12163841395899871560:Unit:=()
def PySem.W.Fast.tw3281287913373333611:Unit:=()
def PySem.W.Fast.tw10383254968182918873:Unit:=()
def PySem.W.Fast.tw2374265585810801092:Unit:=()
def PySem.W.Fast.tw7972152330372578515:Unit:=()
def PySem.W.Fast.tw1553225341389455434:Unit:=()
def PySem.W.Fast.tw16338535907516559433:Unit:=()
def PySem.W.Fast.tw9343547320767968327:Unit:=()
def PySem.W.Fast.tw7533995420875813366:Unit:=()
def PySem.W.Fast.tw11681547338415675433:Unit:=()
def PySem.W.Fast.tw8267483947628158152:Unit:=()
def PySem.W.Fast.tw8202766882603550568:Unit:=()
def PySem.W.Fast.tw16762502799432767320:Unit:=()
def PySem.W.Fast.tw10602557764946869778:Unit:=()
def PySem.W.Fast.tw10135487443915869792:Unit:=()
def PySem.W.Fast.tw12472272119402401140:Unit:=()
def PySem.W.Fast.tw17271462736298175218:Unit:=()
def PySem.W.Fast.tw9595940921011564178:Unit:=()
def PySem.W.Fast.tw2812769208707709171:Unit:=()
def PySem.W.Fast.tw4365066832073938592:Unit:=()
def PySem.W.Fast.tw5980686900711262267:Unit:=()
def PySem.W.Fast.tw9767009652574424268:Unit:=()
def PySem.W.Fast.tw14887174284514201347:Unit:=()
def PySem.W.Fast.tw13471772824157119358:Unit:=()
def PySem.W.Fast.tw6728233511624862625:Unit:=()
def PySem.W.Fast.tw15119426704776836225:Unit:=()
def PySem.W.Fast.tw17483625265265396536:Unit:=()
def PySem.W.Fast.tw2515668058734325323:Unit:=()
def PySem.W.Fast.tw14284580706456101950:Unit:=()
def PySem.W.Fast.tw5605491409975423367:Unit:=()
def PySem.W.Fast.tw15183979065394970074:Unit:=()
def PySem.W.Fast.tw1779678752111382011:Unit:=()
def PySem.W.Fast.tw2279300768126763719:Unit:=()
def PySem.W.Fast.tw12514014635154351084:Unit:=()
def PySem.W.Fast.tw2073507088187382573:Unit:=()
def PySem.W.Fast.tw13512430985659876545:Unit:=()
def PySem.W.Fast.tw8530334010336763439:Unit:=()
def PySem.W.Fast.tw2419939663657518924:Unit:=()
def PySem.W.Fast.tw2472214818215623868:Unit:=()
def PySem.W.Fast.tw620961205968228235:Unit:=()
def PySem.W.Fast.tw5931611112590673825:Unit:=()
def PySem.W.Fast.tw7410095319518845631:Unit:=()
def PySem.W.Fast.tw10860451877477972358:Unit:=()
def PySem.W.Fast.tw1153834956675624594:Unit:=()
def PySem.W.Fast.tw7382520177885973132:Unit:=()
def PySem.W.Fast.tw12201543516855875911:Unit:=()
def PySem.W.Fast.tw16906485559137920271:Unit:=()
def PySem.W.Fast.tw16348446795650219176:Unit:=()
def PySem.W.Fast.tw1295528149196849178:Unit:=()
def PySem.W.Fast.tw12193503544450125058:Unit:=()
def PySem.W.Fast.tw8830498915366552078:Unit:=()
def PySem.W.Fast.tw16307269108186931284:Unit:=()
def PySem.W.Fast.tw5624708741834333058:Unit:=()
def PySem.W.Fast.tw11938830359586770601:Unit:=()
def PySem.W.Fast.tw15141740573705809124:Unit:=()
def PySem.W.Fast.tw10148503979170552091:Unit:=()
def PySem.W.Fast.tw14752287849052352603:Unit:=()
def PySem.W.Fast.tw14614826645390077595:Unit:=()
def PySem.W.Fast.tw8623491267852651820:Unit:=()
def PySem.W.Fast.tw18345558501589903158:Unit:=()
def PySem.W.Fast.tw13656970661600174853:Unit:=()
def PySem.W.Fast.tw13297618277751330960:Unit:=()
def PySem.W.Fast.tw5649605793076362095:Unit:=()
def PySem.W.Fast.tw92211080766358781:Unit:=()
def PySem.W.Fast.tw7787325371014051794:Unit:=()
def PySem.W.Fast.tw7716445355306245967:Unit:=()
def PySem.W.Fast.tw5914803747770622823:Unit:=()
def PySem.W.Fast.tw3385377590260321036:Unit:=()
def PySem.W.Fast.tw5198289878903962469:Unit:=()
def PySem.W.Fast.tw10214745022936045936:Unit:=()
def PySem.W.Fast.tw10742258650291050984:Unit:=()
def PySem.W.Fast.tw10720382855808717393:Unit:=()
def PySem.W.Fast.tw15586441961230551390:Unit:=()
def PySem.W.Fast.tw13211226570730320746:Unit:=()
def PySem.W.Fast.tw64346825954227583:Unit:=()
def PySem.W.Fast.tw5642051383848479410:Unit:=()
def PySem.W.Fast.tw11853360928742527124:Unit:=()
def PySem.W.Fast.tw2919445209829046862:Unit:=()
def PySem.W.Fast.tw1232573139678992601:Unit:=()
def PySem.W.Fast.tw3224834455500054029:Unit:=()
def PySem.W.Fast.tw10483868157250824403:Unit:=()
def PySem.W.Fast.tw5659300741846853515:Unit:=()
def PySem.W.Fast.tw12794818679510447707:Unit:=()
def PySem.W.Fast.tw6003094998055595415:Unit:=()
def PySem.W.Fast.tw13296929156413396331:Unit:=()
def PySem.W.Fast.tw4309336898099432520:Unit:=()
def PySem.W.Fast.tw7926878120552738079:Unit:=()
def PySem.W.Fast.tw10811171603171520127:Unit:=()
def PySem.W.Fast.tw2478317550344436648:Unit:=()
def PySem.W.Fast.tw14679755680983549195:Unit:=()
def PySem.W.Fast.tw17760523843515676426:Unit:=()
def PySem.W.Fast.tw14748904707624104816:Unit:=()
def PySem.W.Fast.tw6657075347802638791:Unit:=()
def PySem.W.Fast.tw1183867016559095933:Unit:=()
def PySem.W.Fast.tw6445137688586608533:Unit:=()
def PySem.W.Fast.tw3550373494046957885:Unit:=()
def PySem.W.Fast.tw1333945664725368777:Unit:=()
def PySem.W.Fast.tw2591644389931883661:Unit:=()
def PySem.W.Fast.tw17838716812726709222:Unit:=()
def PySem.W.Fast.tw612437982925409903:Unit:=()
def PySem.W.Fast.tw16930098687151827233:Unit:=()
def PySem.W.Fast.tw3397822904038283964:Unit:=()
def PySem.W.Fast.tw690722952224540048:Unit:=()
def PySem.W.Fast.tw2893481727273012625:Unit:=()
def PySem.W.Fast.tw2458979926351733758:Unit:=()
def PySem.W.Fast.tw5410973548592826200:Unit:=()
def PySem.W.Fast.tw9702482668209232960:Unit:=()
def PySem.W.Fast.tw12990207853984850027:Unit:=()
def PySem.W.Fast.tw11643488239500692832:Unit:=()
def PySem.W.Fast.tw14851593932748275128:Unit:=()
def PySem.W.Fast.tw14602272650542335647:Unit:=()
def PySem.W.Fast.tw12445380488203649428:Unit:=()
def PySem.W.Fast.tw12725114194543602977:Unit:=()
def PySem.W.Fast.tw8176353962458728992:Unit:=()
def PySem.W.Fast.tw9386283301423493244:Unit:=()
def PySem.W.Fast.tw16682838097027155002:Unit:=()
def PySem.W.Fast.tw3480787341784645996:Unit:=()
def PySem.W.Fast.tw7761107316405954406:Unit:=()
def PySem.W.Fast.tw7121066113303640537:Unit:=()
def PySem.W.Fast.tw17479749277139070698:Unit:=()
def PySem.W.Fast.tw18405553612564997492:Unit:=()
def PySem.W.Fast.tw8174612034612784035:Unit:=()
def PySem.W.Fast.tw1711855993305273910:Unit:=()
def PySem.W.Fast.tw16380480371915172352:Unit:=()
def PySem.W.Fast.tw8835465583717453484:Unit:=()
def PySem.W.Fast.tw4240288773913752740:Unit:=()
def PySem.W.Fast.tw13219300049615327974:Unit:=()
def PySem.W.Fast.tw173727326643905934:Unit:=()
def PySem.W.Fast.tw6225102549978905025:Unit:=()
def PySem.W.Fast.tw13485468734331792855:Unit:=()
def PySem.W.Fast.tw1588807768145735483:Unit:=()
def PySem.W.Fast.tw5896770220855235668:Unit:=()
def PySem.W.Fast.tw10049566275012937854:Unit:=()
def PySem.W.Fast.tw17947167764595705816:Unit:=()
def PySem.W.Fast.tw4549545214326372968:Unit:=()
def PySem.W.Fast.tw10067278375905608143:Unit:=()
def PySem.W.Fast.tw13658454432772434337:Unit:=()
def PySem.W.Fast.tw14355703970731106358:Unit:=()
def PySem.W.Fast.tw15194300904471599244:Unit:=()
def PySem.W.Fast.tw15608394530632620434:Unit:=()
def PySem.W.Fast.tw3375628194300788059:Unit:=()
def PySem.W.Fast.tw17346578728247123861:Unit:=()
def PySem.W.Fast.tw13073739606161139858:Unit:=()
def PySem.W.Fast.tw3296527083320069676:Unit:=()
def PySem.W.Fast.tw8783395843125161018:Unit:=()
def PySem.W.Fast.tw14783076045405167144:Unit:=()
def PySem.W.Fast.tw9359400098372032186:Unit:=()
def PySem.W.Fast.tw4346823137241313087:Unit:=()
def PySem.W.Fast.tw5596663004185550091:Unit:=()
def PySem.W.Fast.tw10388023962458470911:Unit:=()
def PySem.W.Fast.tw6523056895425748355:Unit:=()
def PySem.W.Fast.tw18341486798772951565:Unit:=()
def PySem.W.Fast.tw13022270991511846384:Unit:=()
def PySem.W.Fast.tw5228327726499115730:Unit:=()
def PySem.W.Fast.tw918089885261799693:Unit:=()
def PySem.W.Fast.tw10049159067544236271:Unit:=()
def PySem.W.Fast.tw17328065963524079187:Unit:=()
def PySem.W.Fast.tw2408639328737623932:Unit:=()
def PySem.W.Fast.tw9045518768839929505:Unit:=()
def PySem.W.Fast.tw7478739645758863023:Unit:=()
def PySem.W.Fast.tw2053900188757525960:Unit:=()
def PySem.W.Fast.tw9301493247034523618:Unit:=()
def PySem.W.Fast.tw6750172795630337291:Unit:=()
def PySem.W.Fast.tw15714389346981879932:Unit:=()
def PySem.W.Fast.tw8513192871307903243:Unit:=()
def PySem.W.Fast.tw5553995770313334913:Unit:=()
def PySem.W.Fast.tw9304857855098331041:Unit:=()
def PySem.W.Fast.tw16145109336751997692:Unit:=()
def PySem.W.Fast.tw3963455477727824063:Unit:=()
def PySem.W.Fast.tw521915205600996371:Unit:=()
def PySem.W.Fast.tw18294721469966764586:Unit:=()
def PySem.W.Fast.tw320456034074832734:Unit:=()
def PySem.W.Fast.tw280654036062137181:Unit:=()
def PySem.W.Fast.tw7975928827758174141:Unit:=()
def PySem.W.Fast.tw15992359429087542760:Unit:=()
def PySem.W.Fast.tw14964930586410453427:Unit:=()
def PySem.W.Fast.tw17763965757413100248:Unit:=()
def PySem.W.Fast.tw7552560669019962660:Unit:=()
def PySem.W.Fast.tw5922472517505472227:Unit:=()
def PySem.W.Fast.tw5133351544185230605:Unit:=()
def PySem.W.Fast.tw7021907833318548855:Unit:=()
def PySem.W.Fast.tw4844631527094736526:Unit:=()
def PySem.W.Fast.tw182364392423951658:Unit:=()
def PySem.W.Fast.tw2987359411215140220:Unit:=()
def PySem.W.Fast.tw17094761528649097565:Unit:=()
def PySem.W.Fast.tw9933449625110132067:Unit:=()
def PySem.W.Fast.tw12712518162834269011:Unit:=()
def PySem.W.Fast.tw17386679748037630205:Unit:=()
def PySem.W.Fast.tw13914858593017624596:Unit:=()
def PySem.W.Fast.tw11002807629455435919:Unit:=()
def PySem.W.Fast.tw12319460839521513852:Unit:=()
def PySem.W.Fast.tw7130048304050381080:Unit:=()
def PySem.W.Fast.tw15408919414708099625:Unit:=()
def PySem.W.Fast.tw6261779436982081969:Unit:=()
def PySem.W.Fast.tw4365397553992160199:Unit:=()
def PySem.W.Fast.tw6310859265709441605:Unit:=()
def PySem.W.Fast.tw131127984407844443:Unit:=()
def PySem.W.Fast.tw4845111802015765339:Unit:=()
def PySem.W.Fast.tw10241067524412450767:Unit:=()
def PySem.W.Fast.tw1130639201907380300:Unit:=()
def PySem.W.Fast.tw15462081281329313528:Unit:=()
def PySem.W.Fast.tw14646678242863564525:Unit:=()
def PySem.W.Fast.tw15626762025731782706:Unit:=()
def PySem.W.Fast.tw8065953496607008153:Unit:=()
def PySem.W.Fast.tw11958915412524676956:Unit:=()
def PySem.W.Fast.tw12183168384140972621:Unit:=()
def PySem.W.Fast.tw9847435684732051162:Unit:=()
def PySem.W.Fast.tw6833791521650593995:Unit:=()
def PySem.W.Fast.tw12615650755793751346:Unit:=()
def PySem.W.Fast.tw6809870393644930802:Unit:=()
def PySem.W.Fast.tw11922167656389354070:Unit:=()
def PySem.W.Fast.tw16403584056149621574:Unit:=()
def PySem.W.Fast.tw4857784016262111207:Unit:=()
def PySem.W.Fast.tw8593880071674512037:Unit:=()
def PySem.W.Fast.tw11908144789430640640:Unit:=()
def PySem.W.Fast.tw4623556116874815743:Unit:=()
def PySem.W.Fast.tw13158694695079662859:Unit:=()
def PySem.W.Fast.tw12464140590441575482:Unit:=()
def PySem.W.Fast.tw6362394767669988446:Unit:=()
def PySem.W.Fast.tw6020974595775089419:Unit:=()
def PySem.W.Fast.tw11609279118745861345:Unit:=()
def PySem.W.Fast.tw3934019844732380895:Unit:=()
def PySem.W.Fast.tw16852679976233916732:Unit:=()
def PySem.W.Fast.tw9597652287717457432:Unit:=()
def PySem.W.Fast.tw8847300503528646216:Unit:=()
def PySem.W.Fast.tw461411142960784059:Unit:=()
def PySem.W.Fast.tw2622400338583059570:Unit:=()
def PySem.W.Fast.tw4061491472115221850:Unit:=()
def PySem.W.Fast.tw9179948199161546074:Unit:=()
def PySem.W.Fast.tw5528958051249825:Unit:=()
def PySem.W.Fast.tw14158186209837239634:Unit:=()
def PySem.W.Fast.tw15148788700333388587:Unit:=()
def PySem.W.Fast.tw11418254787759469202:Unit:=()
def PySem.W.Fast.tw1214609833093994098:Unit:=()
def PySem.W.Fast.tw1907511147728083509:Unit:=()
def PySem.W.Fast.tw15152025303672426712:Unit:=()
def PySem.W.Fast.tw377877585739716049:Unit:=()
def PySem.W.Fast.tw12965417598037806166:Unit:=()
def PySem.W.Fast.tw11189458294719695962:Unit:=()
def PySem.W.Fast.tw18411698646840078462:Unit:=()
def PySem.W.Fast.tw10440688224322812028:Unit:=()
def PySem.W.Fast.tw17709787786303818354:Unit:=()
def PySem.W.Fast.tw13045989376624314081:Unit:=()
def PySem.W.Fast.tw17342736089075686474:Unit:=()
def PySem.W.Fast.tw13816748583764271269:Unit:=()
def PySem.W.Fast.tw1439054605002211143:Unit:=()
def PySem.W.Fast.tw8328828664910277267:Unit:=()
def PySem.W.Fast.tw13489374219748149537:Unit:=()
def PySem.W.Fast.tw11256883127156176980:Unit:=()
def PySem.W.Fast.tw17403007282602047276:Unit:=()
def PySem.W.Fast.tw5537890605368102667:Unit:=()
def PySem.W.Fast.tw14813631915680958782:Unit:=()
def PySem.W.Fast.tw16482493506797766246:Unit:=()
def PySem.W.Fast.tw3332769434911556270:Unit:=()
def PySem.W.Fast.tw5883177155350136575:Unit:=()
def PySem.W.Fast.tw14446800256831570626:Unit:=()
def PySem.W.Fast.tw16365034871883119539:Unit:=()
def PySem.W.Fast.tw9517864989980280139:Unit:=()
def PySem.W.Fast.tw52185079187622484:Unit:=()
def PySem.W.Fast.tw4858866689170398680:Unit:=()
def PySem.W.Fast.tw17449932297468981426:Unit:=()
def PySem.W.Fast.tw15381714979834505288:Unit:=()
def PySem.W.Fast.tw3806806173462011767:Unit:=()
def PySem.W.Fast.tw15221205355582117975:Unit:=()
def PySem.W.Fast.tw15349050989309224458:Unit:=()
def PySem.W.Fast.tw10454851664215281884:Unit:=()
def PySem.W.Fast.tw13534114398357453633:Unit:=()
def PySem.W.Fast.tw2543895056415815123:Unit:=()
def PySem.W.Fast.tw15361689577151604391:Unit:=()
def PySem.W.Fast.tw3854174690710411690:Unit:=()
def PySem.W.Fast.tw12539313164705840108:Unit:=()
def PySem.W.Fast.tw16058651312302150199:Unit:=()
def PySem.W.Fast.tw6031669379537722432:Unit:=()
def PySem.W.Fast.tw14402759866531726309:Unit:=()
def PySem.W.Fast.tw4698813812344893146:Unit:=()
def PySem.W.Fast.tw5611380581199873062:Unit:=()
def PySem.W.Fast.tw5064139943468430071:Unit:=()
def PySem.W.Fast.tw1012825925828815020:Unit:=()
def PySem.W.Fast.tw7540959223277738135:Unit:=()
def PySem.W.Fast.tw16669484567649505638:Unit:=()
def PySem.W.Fast.tw954322113774138562:Unit:=()
def PySem.W.Fast.tw15959797952256820517:Unit:=()
def PySem.W.Fast.tw17160268000362554395:Unit:=()
def PySem.W.Fast.tw1363595685522375960:Unit:=()
def PySem.W.Fast.tw15417602246295651413:Unit:=()
def PySem.W.Fast.tw2369283805760332563:Unit:=()
def PySem.W.Fast.tw14220164311234355469:Unit:=()
def PySem.W.Fast.tw11811180690128866209:Unit:=()
def PySem.W.Fast.tw5698872127303946707:Unit:=()
def PySem.W.Fast.tw15680005693342336114:Unit:=()
def PySem.W.Fast.tw5692348267876923108:Unit:=()
def PySem.W.Fast.tw14719936066515332264:Unit:=()
def PySem.W.Fast.tw17558627657380968506:Unit:=()
def PySem.W.Fast.tw2473517253597789681:Unit:=()
def PySem.W.Fast.tw12361983403949790580:Unit:=()
def PySem.W.Fast.tw2518165289905682180:Unit:=()
def PySem.W.Fast.tw3548336117517657666:Unit:=()
def PySem.W.Fast.tw9395407186807358404:Unit:=()
def PySem.W.Fast.tw4607333195124920903:Unit:=()
def PySem.W.Fast.tw11382735422668717335:Unit:=()
def PySem.W.Fast.tw2956866022706834438:Unit:=()
def PySem.W.Fast.tw2853499032123915724:Unit:=()
def PySem.W.Fast.tw6540528896672569354:Unit:=()
def PySem.W.Fast.tw652785380002141581:Unit:=()
def PySem.W.Fast.tw14839875086921098178:Unit:=()
def PySem.W.Fast.tw11468464613191962457:Unit:=()
def PySem.W.Fast.tw15189835905821826175:Unit:=()
def PySem.W.Fast.tw3499353242498587508:Unit:=()
def PySem.W.Fast.tw7657873495494319219:Unit:=()
def PySem.W.Fast.tw14352767992208990125:Unit:=()
def PySem.W.Fast.tw14508807544187431924:Unit:=()
def PySem.W.Fast.tw3896832565000557054:Unit:=()
def PySem.W.Fast.tw5620511028270259499:Unit:=()
def PySem.W.Fast.tw13859334170780989484:Unit:=()
def PySem.W.Fast.tw12453313502462157149:Unit:=()
def PySem.W.Fast.tw17593775877592010525:Unit:=()
def PySem.W.Fast.tw17591102728901168782:Unit:=()
def PySem.W.Fast.tw15827410754775197677:Unit:=()
def PySem.W.Fast.tw15790313801472316246:Unit:=()
def PySem.W.Fast.tw7734889717637042729:Unit:=()
def PySem.W.Fast.tw1440829132091183684:Unit:=()
def PySem.W.Fast.tw1549407630792116332:Unit:=()
def PySem.W.Fast.tw5068323048779710219:Unit:=()
def PySem.W.Fast.tw97149090764681002:Unit:=()
def PySem.W.Fast.tw17695403329942970340:Unit:=()
def PySem.W.Fast.tw6986959684505190673:Unit:=()
def PySem.W.Fast.tw13400558801123877579:Unit:=()
def PySem.W.Fast.tw11327749340969640095:Unit:=()
def PySem.W.Fast.tw16102383019038363013:Unit:=()
def PySem.W.Fast.tw10213970983563759456:Unit:=()
def PySem.W.Fast.tw16334876726589568056:Unit:=()
def PySem.W.Fast.tw15484876713239165373:Unit:=()
def PySem.W.Fast.tw9167126485734565378:Unit:=()
def PySem.W.Fast.tw13457055594384829107:Unit:=()
def PySem.W.Fast.tw3139226266695585440:Unit:=()
def PySem.W.Fast.tw5351893060159449147:Unit:=()
def PySem.W.Fast.tw7755545855988232877:Unit:=()
def PySem.W.Fast.tw16825020284254690347:Unit:=()
def PySem.W.Fast.tw5896719306743004678:Unit:=()
def PySem.W.Fast.tw2965837219500874931:Unit:=()
def PySem.W.Fast.tw7271394768008259681:Unit:=()
def PySem.W.Fast.tw9181713004063688202:Unit:=()
def PySem.W.Fast.tw16935100074303112359:Unit:=()
def PySem.W.Fast.tw12376274366642412784:Unit:=()
def PySem.W.Fast.tw6122679065674305683:Unit:=()
def PySem.W.Fast.tw1941016072215954647:Unit:=()
def PySem.W.Fast.tw13307613222934704923:Unit:=()
def PySem.W.Fast.tw18149487840326721401:Unit:=()
def PySem.W.Fast.tw8600902777439669258:Unit:=()
def PySem.W.Fast.tw6965603613738538913:Unit:=()
def PySem.W.Fast.tw15306635779325261882:Unit:=()
def PySem.W.Fast.tw2233186591400652637:Unit:=()
def PySem.W.Fast.tw3775035444969751806:Unit:=()
def PySem.W.Fast.tw16619944594868945121:Unit:=()
def PySem.W.Fast.tw5872468404890956149:Unit:=()
def PySem.W.Fast.tw10142915133748649020:Unit:=()
def PySem.W.Fast.tw3401065989262468052:Unit:=()
def PySem.W.Fast.tw2060261989994335011:Unit:=()
def PySem.W.Fast.tw7531809978241125709:Unit:=()
def PySem.W.Fast.tw8534097805984573484:Unit:=()
def PySem.W.Fast.tw4437580538027128592:Unit:=()
def PySem.W.Fast.tw9691848096510787406:Unit:=()
def PySem.W.Fast.tw9136367778794103248:Unit:=()
def PySem.W.Fast.tw8780228965395507107:Unit:=()
def PySem.W.Fast.tw2152030184261543246:Unit:=()
def PySem.W.Fast.tw11994115132214266533:Unit:=()
def PySem.W.Fast.tw13487517424867630165:Unit:=()
def PySem.W.Fast.tw9831166349424197561:Unit:=()
def PySem.W.Fast.tw14468017527602396353:Unit:=()
def PySem.W.Fast.tw4452363853339806197:Unit:=()
def PySem.W.Fast.tw2584856489079787083:Unit:=()
def PySem.W.Fast.tw1258177695825533167:Unit:=()
def PySem.W.Fast.tw5879278435913435210:Unit:=()
def PySem.W.Fast.tw956866304516467666:Unit:=()
def PySem.W.Fast.tw3988160399515625393:Unit:=()
def PySem.W.Fast.tw12671428774739593617:Unit:=()
def PySem.W.Fast.tw14494166779702086480:Unit:=()
def PySem.W.Fast.tw467090227068856182:Unit:=()
def PySem.W.Fast.tw8160306443298061168:Unit:=()
def PySem.W.Fast.tw10200715848358075703:Unit:=()
def PySem.W.Fast.tw17908000749966164242:Unit:=()
def PySem.W.Fast.tw2720418291048395083:Unit:=()
def PySem.W.Fast.tw4184912190964071919:Unit:=()
def PySem.W.Fast.tw14464719509146511315:Unit:=()
def PySem.W.Fast.tw15578400056145016658:Unit:=()
def PySem.W.Fast.tw2703811869780844774:Unit:=()
def PySem.W.Fast.tw775984008221190979:Unit:=()
def PySem.W.Fast.tw16013698670167584712:Unit:=()
def PySem.W.Fast.tw11911139831581477305:Unit:=()
def PySem.W.Fast.tw15332093127876809048:Unit:=()
def PySem.W.Fast.tw5709510710436623660:Unit:=()
def PySem.W.Fast.tw15844335714848347518:Unit:=()
def PySem.W.Fast.tw16537282839932491356:Unit:=()
def PySem.W.Fast.tw18043053516369976619:Unit:=()
def PySem.W.Fast.tw7702398027330402671:Unit:=()
def PySem.W.Fast.tw10522629112685181832:Unit:=()
def PySem.W.Fast.tw13817095418113266251:Unit:=()
def PySem.W.Fast.tw11652713555235420009:Unit:=()
def PySem.W.Fast.tw11250061605363682527:Unit:=()
def PySem.W.Fast.tw15762563410061179456:Unit:=()
def PySem.W.Fast.tw5729559483759696278:Unit:=()
def PySem.W.Fast.tw17268124377909171830:Unit:=()
def PySem.W.Fast.tw2530231715937088201:Unit:=()
def PySem.W.Fast.tw17195978224873632858:Unit:=()
def PySem.W.Fast.tw2759401851297235707:Unit:=()
def PySem.W.Fast.tw8225245445755363780:Unit:=()
def PySem.W.Fast.tw13478231879104381618:Unit:=()
def PySem.W.Fast.tw13817203854034372807:Unit:=()
def PySem.W.Fast.tw2734915414331050284:Unit:=()
def PySem.W.Fast.tw15938215710158040318:Unit:=()
def PySem.W.Fast.tw8717302919911845043:Unit:=()
def PySem.W.Fast.tw16446112492976107204:Unit:=()
def PySem.W.Fast.tw18405540812425595142:Unit:=()
def PySem.W.Fast.tw1391477490109140041:Unit:=()
def PySem.W.Fast.tw18042316759679544553:Unit:=()
def PySem.W.Fast.tw9803810899194926630:Unit:=()
def PySem.W.Fast.tw4584288877370469549:Unit:=()
def PySem.W.Fast.tw10235059210905493157:Unit:=()
def PySem.W.Fast.tw4063220406240800725:Unit:=()
def PySem.W.Fast.tw7185787790573160279:Unit:=()
def PySem.W.Fast.tw3039789906126231232:Unit:=()
def PySem.W.Fast.tw16267851869840276759:Unit:=()
def PySem.W.Fast.tw677958097476514605:Unit:=()
def PySem.W.Fast.tw16108732154087889703:Unit:=()
def PySem.W.Fast.tw10016062346694501120:Unit:=()
def PySem.W.Fast.tw13342416683083692554:Unit:=()
def PySem.W.Fast.tw5103489719410437925:Unit:=()
def PySem.W.Fast.tw14335685432584079881:Unit:=()
def PySem.W.Fast.tw16508335431479498694:Unit:=()
def PySem.W.Fast.tw12258420676026205138:Unit:=()
def PySem.W.Fast.tw18205500811798958192:Unit:=()
def PySem.W.Fast.tw9238490206741544104:Unit:=()
def PySem.W.Fast.tw14765689015669644142:Unit:=()
def PySem.W.Fast.tw17926561974490726097:Unit:=()
def PySem.W.Fast.tw5071968282344369920:Unit:=()
def PySem.W.Fast.tw14449771897822342271:Unit:=()
def PySem.W.Fast.tw1503796598410283508:Unit:=()
def PySem.W.Fast.tw9394084331866638842:Unit:=()
def PySem.W.Fast.tw1329141668431385306:Unit:=()
def PySem.W.Fast.tw6089412354755860575:Unit:=()
def PySem.W.Fast.tw4868105177617317570:Unit:=()
def PySem.W.Fast.tw8601967175276402908:Unit:=()
def PySem.W.Fast.tw13978266024162139939:Unit:=()
def PySem.W.Fast.tw14234495297331005857:Unit:=()
def PySem.W.Fast.tw1606938322475241274:Unit:=()
def PySem.W.Fast.tw15389135067398091277:Unit:=()
def PySem.W.Fast.tw7728303452566093741:Unit:=()
def PySem.W.Fast.tw13354221455983787822:Unit:=()
def PySem.W.Fast.tw9600027809711196001:Unit:=()
def PySem.W.Fast.tw13975938931362068685:Unit:=()
def PySem.W.Fast.tw15459820833952535863:Unit:=()
def PySem.W.Fast.tw3572860126641532982:Unit:=()
def PySem.W.Fast.tw9946801161414172958:Unit:=()
def PySem.W.Fast.tw13574478490359492503:Unit:=()
def PySem.W.Fast.tw15595320885358656510:Unit:=()
def PySem.W.Fast.tw6884464013699408494:Unit:=()
def PySem.W.Fast.tw9500211203745301471:Unit:=()
def PySem.W.Fast.tw3398181970131778957:Unit:=()
def PySem.W.Fast.tw1307521030754851983:Unit:=()
def PySem.W.Fast.tw1541996773916453574:Unit:=()
def PySem.W.Fast.tw11672475410249742615:Unit:=()
def PySem.W.Fast.tw14002593533608390824:Unit:=()
def PySem.W.Fast.tw12699725681248936772:Unit:=()
def PySem.W.Fast.tw15519807296986004879:Unit:=()
def PySem.W.Fast.tw12452770916103506582:Unit:=()
def PySem.W.Fast.tw10343863816897276556:Unit:=()
def PySem.W.Fast.tw1375460682832630984:Unit:=()
def PySem.W.Fast.tw4326113336229373711:Unit:=()
def PySem.W.Fast.tw2900635141956649360:Unit:=()
def PySem.W.Fast.tw12659355879900841229:Unit:=()
def PySem.W.Fast.tw16622964738722925532:Unit:=()
def PySem.W.Fast.tw6525018481702071402:Unit:=()
def PySem.W.Fast.tw15644842633223754707:Unit:=()
def PySem.W.Fast.tw15362880107435519071:Unit:=()
def PySem.W.Fast.tw7092017138757318618:Unit:=()
def PySem.W.Fast.tw1159027924514654616:Unit:=()
def PySem.W.Fast.tw10537562687001782653:Unit:=()
def PySem.W.Fast.tw345466827306989114:Unit:=()
def PySem.W.Fast.tw17423540579028229776:Unit:=()
def PySem.W.Fast.tw15462623727467649659:Unit:=()
def PySem.W.Fast.tw15124039123097344959:Unit:=()
def PySem.W.Fast.tw6803282191135676535:Unit:=()
def PySem.W.Fast.tw4786867439811884915:Unit:=()
def PySem.W.Fast.tw5385707830296030619:Unit:=()
def PySem.W.Fast.tw3391051925845823177:Unit:=()
def PySem.W.Fast.tw6027462070421603502:Unit:=()
def PySem.W.Fast.tw166889138401761901:Unit:=()
def PySem.W.Fast.tw15877444173783465582:Unit:=()
def PySem.W.Fast.tw10436705929881307298:Unit:=()
def PySem.W.Fast.tw7997784445623140346:Unit:=()
def PySem.W.Fast.tw17165863202377724812:Unit:=()
def PySem.W.Fast.tw5715780417391521530:Unit:=()
def PySem.W.Fast.tw9206222011827786985:Unit:=()
def PySem.W.Fast.tw16833597738680629237:Unit:=()
def PySem.W.Fast.tw5736439917341755110:Unit:=()
def PySem.W.Fast.tw16978181782986021101:Unit:=()
def PySem.W.Fast.tw13722949560994660583:Unit:=()
def PySem.W.Fast.tw10855799763145593398:Unit:=()
def PySem.W.Fast.tw8203732292519458420:Unit:=()
def PySem.W.Fast.tw7660079322358994453:Unit:=()
def PySem.W.Fast.tw7197721921651423805:Unit:=()
def PySem.W.Fast.tw885572277360794883:Unit:=()
def PySem.W.Fast.tw14989961849547788607:Unit:=()
def PySem.W.Fast.tw8521475299756111151:Unit:=()
def PySem.W.Fast.tw2383415387922713483:Unit:=()
def PySem.W.Fast.tw2917383056670152547:Unit:=()
def PySem.W.Fast.tw15843696553081958800:Unit:=()
def PySem.W.Fast.tw11566714724578783902:Unit:=()
def PySem.W.Fast.tw2828377007892959575:Unit:=()
def PySem.W.Fast.tw17056502006116915689:Unit:=()
def PySem.W.Fast.tw17868242682244081400:Unit:=()
def PySem.W.Fast.tw14418167221250442682:Unit:=()
def PySem.W.Fast.tw3082761767240699295:Unit:=()
def PySem.W.Fast.tw18424369061144808124:Unit:=()
def PySem.W.Fast.tw7807015506938930037:Unit:=()
def PySem.W.Fast.tw15121927416423713275:Unit:=()
def PySem.W.Fast.tw11052292221135982078:Unit:=()
def PySem.W.Fast.tw9190026739714669686:Unit:=()
def PySem.W.Fast.tw6197854334473095671:Unit:=()
def PySem.W.Fast.tw7121589300998644754:Unit:=()
def PySem.W.Fast.tw7902345919823631378:Unit:=()
def PySem.W.Fast.tw432922034392622352:Unit:=()
def PySem.W.Fast.tw3600180442856287946:Unit:=()
def PySem.W.Fast.tw1686036418644521225:Unit:=()
def PySem.W.Fast.tw14428223883921660306:Unit:=()
def PySem.W.Fast.tw8364165183386082509:Unit:=()
def PySem.W.Fast.tw190456252231292249:Unit:=()
def PySem.W.Fast.tw7132182507300315704:Unit:=()
def PySem.W.Fast.tw3230292966399051051:Unit:=()
def PySem.W.Fast.tw5625672197682168068:Unit:=()
def PySem.W.Fast.tw3435883710526559923:Unit:=()
def PySem.W.Fast.tw16714645587661646505:Unit:=()
def PySem.W.Fast.tw10598287888692856339:Unit:=()
def PySem.W.Fast.tw13491011622380617714:Unit:=()
def PySem.W.Fast.tw14754036133233889251:Unit:=()
def PySem.W.Fast.tw8885218238447775840:Unit:=()
def PySem.W.Fast.tw18280442938952312090:Unit:=()
def PySem.W.Fast.tw16928783219696794363:Unit:=()
def PySem.W.Fast.tw16644611042021904849:Unit:=()
def PySem.W.Fast.tw9297165410009624629:Unit:=()
def PySem.W.Fast.tw9940405311827466888:Unit:=()
def PySem.W.Fast.tw12735350811047567673:Unit:=()
def PySem.W.Fast.tw2854034278889554573:Unit:=()
def PySem.W.Fast.tw345252756501166644:Unit:=()
def PySem.W.Fast.tw14888607744636300005:Unit:=()
def PySem.W.Fast.tw13014600949493437697:Unit:=()
def PySem.W.Fast.tw12727419505854060839:Unit:=()
def PySem.W.Fast.tw10067512205159116689:Unit:=()
def PySem.W.Fast.tw9760373430695345565:Unit:=()
def PySem.W.Fast.tw8493344077581042325:Unit:=()
def PySem.W.Fast.tw3799454934866415780:Unit:=()
def PySem.W.Fast.tw9276565574556262998:Unit:=()
def PySem.W.Fast.tw16577186208729810936:Unit:=()
def PySem.W.Fast.tw8244459139144952144:Unit:=()
def PySem.W.Fast.tw6126216106701803514:Unit:=()
def PySem.W.Fast.tw1816679544550170059:Unit:=()
def PySem.W.Fast.tw3299923187024375690:Unit:=()
def PySem.W.Fast.tw15519694653690004952:Unit:=()
def PySem.W.Fast.tw18390929040222515535:Unit:=()
def PySem.W.Fast.tw14664465514273388515:Unit:=()
def PySem.W.Fast.tw7030749790022770988:Unit:=()
def PySem.W.Fast.tw10623142438682359043:Unit:=()
def PySem.W.Fast.tw6287561487049908160:Unit:=()
def PySem.W.Fast.tw7156038358255862948:Unit:=()
def PySem.W.Fast.tw350094165806650580:Unit:=()
def PySem.W.Fast.tw13620728824509073279:Unit:=()
def PySem.W.Fast.tw11217742093758244615:Unit:=()
def PySem.W.Fast.tw8209527313094118697:Unit:=()
def PySem.W.Fast.tw17513720544333173178:Unit:=()
def PySem.W.Fast.tw5466909368274085690:Unit:=()
def PySem.W.Fast.tw15341980834492333906:Unit:=()
def PySem.W.Fast.tw6479674020978770491:Unit:=()
def PySem.W.Fast.tw6732858430644627813:Unit:=()
def PySem.W.Fast.tw7116566848095535710:Unit:=()
def PySem.W.Fast.tw15274475085108948400:Unit:=()
def PySem.W.Fast.tw15758536200328725506:Unit:=()
def PySem.W.Fast.tw12213415514347032704:Unit:=()
def PySem.W.Fast.tw12470580625737300971:Unit:=()
def PySem.W.Fast.tw7940331867277059373:Unit:=()
def PySem.W.Fast.tw9723623681345768933:Unit:=()
def PySem.W.Fast.tw16431783217018681812:Unit:=()
def PySem.W.Fast.tw4944659286969585897:Unit:=()
def PySem.W.Fast.tw7854741785965476136:Unit:=()
def PySem.W.Fast.tw16907229505845140779:Unit:=()
def PySem.W.Fast.tw13809555879713628177:Unit:=()
def PySem.W.Fast.tw16629673223229272279:Unit:=()
def PySem.W.Fast.tw18167156815631512052:Unit:=()
def PySem.W.Fast.tw2735226019241634450:Unit:=()
def PySem.W.Fast.tw4941190997977626093:Unit:=()
def PySem.W.Fast.tw5112539218243091597:Unit:=()
section
namespace Hf
open PySem PySem.W
def Tg {P:Prop} (_:P) (T:Prop):Prop:=T
theorem Ji {P:Prop} {p:P} {T:Prop} (h:Tg p T):T:=h
theorem tag {P:Prop} {p:P} {T:Prop} (h:T):Tg p T:=h
def live:Obj->Option Obj
 | ⟨_,_,.freed,_⟩=>none
 | o=>some o
def pick:List Nat->Nat->List Obj->List (Option Obj)
 | as,_,[]=>as.map λ _=>none
 | [],_,_::_=>[]
 | a::as,i,o::os=>if a == i then live o::pick as (i+1) os else pick (a::as) (i+1) os
theorem yV : ∀ (os:List Obj) (as:List Nat) (i:Nat) (vs:List Obj),pick as i os=vs.map some->as.map (λ a=>if i<=a then os[a - i]?.bind live else none)=vs.map some
 | [],as,i,vs,h=>by
   cases as with
   | nil=>exact h
   | cons a as =>
     cases vs with
     | nil=>cases h
     | cons v vs=>exact nomatch (List.cons.inj (show none::_=some v::_ from h)).1
 | o::os,[],i,vs,h=>h
 | o::os,a::as,i,vs,h=>by
   rw [pick] at h
   have nx : ∀ {bs:List Nat} {ws:List Obj},pick bs (i+1) os=ws.map some->bs.map (λ a=>if i<=a then (o::os)[a - i]?.bind live else none)=ws.map some:=fun {bs ws} h=>by
    have ih:=yV os bs (i+1) ws h
    rw [<-ih]
    refine List.map_congr_left λ b hb => ?_
    by_cases c:i+1<=b
    ·rw [if_pos c,if_pos (by omega),show b - i=(b - (i+1))+1 by omega];rfl
    ·have:(if i+1<=b then os[b - (i+1)]?.bind live else none)∈ws.map some:=by rw [<-ih];exact List.mem_map.mpr ⟨b,hb,rfl⟩
     rw [if_neg c] at this
     obtain ⟨w,_,e⟩:=List.mem_map.mp this
     cases e
   by_cases c:a=i
   ·rw [if_pos (by rw [c];exact beq_self_eq_true i)] at h
    cases vs with
    | nil=>cases h
    | cons v vs =>
      obtain ⟨h1,h2⟩:=List.cons.inj (show live o::pick as (i+1) os=some v::vs.map some from h)
      rw [List.map_cons,List.map_cons,nx h2]
      subst c
      rw [if_pos (Nat.le_refl _),Nat.sub_self]
      exact congrArg (· :: _) h1
   ·rw [if_neg (by simpa using c)] at h
    exact nx h
theorem Cq (h:Heap) (a:Addr):h.objs.toList[a]?.bind live=h.get? a:=by
 unfold Heap.get?
 rw [Array.getElem?_toList]
 cases h.objs[a]? with
 | none=>rfl
 | some o =>
   obtain ⟨c,d,x,s⟩:=o
   cases x <;> rfl
def hook (K:Params->Frag) (as:List Addr) (e : ∀ P,as=(K P).map (·.1)) (_:Unit):Hook :=
 ⟨List (Option Obj),λ s=>pick as 0 s.heap.objs.toList,λ w=>((K w.params).map (·.2)).map some,InK K,λ w s h=>InK.of e w s (by
  have h2:=yV _ _ _ _ h
  rw [List.map_map] at h2
  have e3:(λ a:Nat=>if 0<=a then s.heap.objs.toList[a - 0]?.bind live else none)=s.heap.get? := by
   funext a
   rw [if_pos (Nat.zero_le _),Nat.sub_zero]
   exact Cq _ _
  rw [e3] at h2
  exact h2),InK.keeps⟩
theorem in_of {K:Params->Frag} {as:List Addr} {e : ∀ P,as=(K P).map (·.1)} {u:Unit} {w:World} {h:Heap} (Y:(hook K as e u).says w h):(K w.params).In h:=Y
end Hf
set_option hygiene false
local macro_rules
 | `(tactic| o_head ($f:ident $k $a $e)) => `(tactic| o_head (Hf.hook $k $a $e ()))
local macro_rules
 | `(tactic| refine $f:ident $as*)=>do
   if as.size < 20 then Lean.Macro.throwUnsupported
   let l:Lean.TSyntax `term:=⟨as.back!.raw⟩
   unless l.raw.getKind == `Lean.Parser.Term.syntheticHole do Lean.Macro.throwUnsupported
   let bs:=as.pop
   `(tactic| refine $f $bs* (Hf.Ji (p := @ok) $l))
open PySem PySem.W PyProof.Rows
set_option maxRecDepth 100000 in
set_option maxHeartbeats 0 in
theorem My.hA (ok : ∀ {P : Program} {w : World} {K : PySem.W.Frag} {mg : Str → Option Value} {base : Heap} {cN c2 cP cA cG c3 cC c4 cU c6 cT cF cD cS cI cL cB cQ cW : Addr} {f : Addr} {fd : FuncData}, L2.yx K "law" "law" My.vv f fd → L2.e9 mg → My.Txt K mg cN c2 cP cA cG c3 cC c4 cU c6 cT cF cD cS cI cL cB cQ cW → L2.dQ P w K mg base (L2.mF P w) 9 f fd ["_law_script"] (L2.sO K)) : PySem.Challenge.rw_paneworks_k61_spaces_numbered.Holds := by
 w_on;o_law;k_head; (case hw=>w_witness2)
 k_fill
 refine Hf.tag (p := @ok) ?_
 refine L2.Ae (l := PySem.Challenge.rw_paneworks_k61_spaces_numbered) (k := 9) (x := "_law_script") rfl rfl ⟨rfl, by decide, by decide⟩ (fun w h Y => Hf.in_of Y) ?F
 case F =>
  intro w mg fa h KX G hmg
  have B:L2.e9 mg:=by
   refine' L2.F7 KX G ?z0 ?z1 ?z2 ?z3 ?z4 ?z5 ?z6 ?z7 ?z8 ?z9 ?M3 ?ES ?ET ?G5 ?G6 ?M4 ?M5
   all_goals k_is
  have T : ∃ cN c2 cP cA cG c3 cC c4 cU c6 cT cF cD cS cI cL cB cQ cW,My.Txt (L2.KOf KX) mg cN c2 cP cA cG c3 cC c4 cU c6 cT cF cD cS cI cL cB cQ cW:=by
   dsimp only [L2.KOf]
   refine' ⟨_,_,_,_,_,_,_,_,_,_,_,_,_,_,_,_,_,_,_,My.Txt.mk ..⟩
   all_goals first | refine' L2.F8 KX G .. | refine' L2.Ec KX G .. | refine' L2.D4 .. | refine' L2.D5 .. | refine' L2.Gq KX G .. | refine' L2.Gb KX G .. | refine' L2.D6 .. | refine' L2.Gr KX G .. | refine' L2.BB KX G .. | refine' L2.BP KX G .. | refine' PySem.W.mg_none_of KX G .. | skip
   all_goals first | (show _=_;first | k_is | kernel_rfl) | skip
  obtain ⟨cN,c2,cP,cA,cG,c3,cC,c4,cU,c6,cT,cF,cD,cS,cI,cL,cB,cQ,cW,T⟩:=T
  exact L2.Ia T.Jh hmg (λ _ _ _ _ _ _ _=>rfl) λ base f fd F=>ok F B T
end
set_option maxHeartbeats 4000000
namespace My
open PySem PySem.Spec PyProof.Rows L2
local macro_rules | `(tactic| walk_at $_:str) => `(tactic| fail)
local macro_rules | `(tactic| walk_at "rd") => `(tactic| simp only [L2.uK,L2.wL,L2.nC,L2.uE,L2.tC,L2.Dq,L2.HE,L2.rU,L2.rI,L2.A9,L2.zH,L2.EH,L2.zI,L2.A2,L2.AZ,L2.HA,L2.uF,L2.HB,L2.uG,L2.qX,L2.tB,L2.HC,L2.nG,L2.FO,L2.qZ,L2.qt,L2.Bf,L2.Be,L2.HU,L2.zV,L2.Bs,L2.DP,L2.lC,L2.uW,L2.uL,L2.qV,L2.qU,L2.start,L2.Dr,L2.zM,L2.FG,L2.HH,L2.Dt,L2.xq,L2.Bm,L2.FU,L2.lD,L2.uZ,L2.HW,L2.FZ,L2.oA,L2.wG,L2.DV,L2.EX,L2.sI,L2.xu,L2.vd,L2.ve,L2.nH,L2.nI,L2.HD,L2.EO,L2.FA,L2.A3,L2.Fz,L2.mO,L2.uS,L2.HR,L2.lz,L2.uR,
 List.map_cons,List.map_nil,List.length_cons,List.length_nil,List.append_nil,List.nil_append,List.cons_append,List.replicate,List.getElem?_cons_zero,List.getElem?_cons_succ,List.set_cons_zero,List.set_cons_succ,Option.some.injEq,L2.V.int.injEq,L2.V.ref.injEq,L2.V.bl.injEq,L2.V.str.injEq,L2.V.ty.injEq,L2.HO.lst.injEq,L2.HO.tup.injEq,L2.HO.dK.injEq,List.cons.injEq,and_assoc,
 exists_eq_left,exists_eq_left',exists_and_left,exists_eq_right,exists_eq_right',and_true,true_and,exists_const,exists_eq,exists_eq',Nat.reduceSub,Nat.reduceAdd,Nat.zero_add,Nat.add_zero,reduceCtorEq,false_and,and_false,or_false,false_or,exists_false,true_or,or_true,Bool.not_true,Bool.not_false,Bool.false_eq_true,if_true,if_false,decide_true,decide_false,decide_eq_true_eq,Bool.not_eq_true',decide_eq_false_iff_not,Int.cast_ofNat_Int,ite_not,not_true_eq_false,not_false_eq_true,L2.BC,
 L2.yD,L2.yE,L2.yF,L2.yG,L2.yH,L2.iK,L2.gD,L2.lE,L2.jR,L2.lF,L2.jS,L2.nK,L2.lG,L2.lH,L2.jT,L2.jU,L2.iL,L2.fQ,L2.eF,L2.iM,L2.iN,L2.jV,L2.iO,L2.lI,L2.lJ,L2.jW,L2.jX,L2.iP,L2.nL,L2.lK,L2.jZ,L2.j0,L2.j3,L2.nO,L2.lM,L2.lN,L2.lO,L2.j4,L2.j5,L2.rE,L2.rF,L2.vf,L2.rG,L2.rH,L2.sP,L2.yM,L2.yN,L2.BJ,L2.BK,Int.reduceToNat,Int.reducePow,Int.reduceSub,Int.reduceMul,Int.reduceAdd,Int.reduceNeg,Int.reduceLT,Int.reduceLE,L2.dG,List.any_nil])
local macro_rules | `(tactic| walk_at "rdh") => `(tactic| simp only [L2.uK,L2.wL,L2.nC,L2.uE,L2.tC,L2.Dq,L2.HE,L2.rU,L2.rI,L2.A9,L2.zH,L2.EH,L2.zI,L2.A2,L2.AZ,L2.HA,L2.uF,L2.HB,L2.uG,L2.qX,L2.tB,L2.HC,L2.nG,L2.FO,L2.qZ,L2.qt,L2.Bf,L2.Be,L2.HU,L2.zV,L2.Bs,L2.DP,L2.lC,L2.uW,L2.uL,L2.qV,L2.qU,L2.start,L2.Dr,L2.zM,L2.FG,L2.HH,L2.Dt,L2.xq,L2.Bm,L2.FU,L2.lD,L2.uZ,L2.HW,L2.FZ,L2.oA,L2.wG,L2.DV,L2.EX,L2.sI,L2.xu,L2.vd,L2.ve,L2.nH,L2.nI,L2.HD,L2.EO,L2.FA,L2.A3,L2.Fz,L2.mO,L2.uS,L2.HR,L2.lz,L2.uR,
 List.map_cons,List.map_nil,List.length_cons,List.length_nil,List.append_nil,List.nil_append,List.cons_append,List.replicate,List.getElem?_cons_zero,List.getElem?_cons_succ,List.set_cons_zero,List.set_cons_succ,Option.some.injEq,L2.V.int.injEq,L2.V.ref.injEq,L2.V.bl.injEq,L2.V.str.injEq,L2.V.ty.injEq,L2.HO.lst.injEq,L2.HO.tup.injEq,L2.HO.dK.injEq,List.cons.injEq,and_assoc,
 exists_eq_left,exists_eq_left',exists_and_left,exists_eq_right,exists_eq_right',and_true,true_and,exists_const,exists_eq,exists_eq',Nat.reduceSub,Nat.reduceAdd,Nat.zero_add,Nat.add_zero,reduceCtorEq,false_and,and_false,or_false,false_or,exists_false,true_or,or_true,Bool.not_true,Bool.not_false,Bool.false_eq_true,if_true,if_false,decide_true,decide_false,decide_eq_true_eq,Bool.not_eq_true',decide_eq_false_iff_not,Int.cast_ofNat_Int,ite_not,not_true_eq_false,not_false_eq_true,L2.BC,
 L2.yD,L2.yE,L2.yF,L2.yG,L2.yH,L2.iK,L2.gD,L2.lE,L2.jR,L2.lF,L2.jS,L2.nK,L2.lG,L2.lH,L2.jT,L2.jU,L2.iL,L2.fQ,L2.eF,L2.iM,L2.iN,L2.jV,L2.iO,L2.lI,L2.lJ,L2.jW,L2.jX,L2.iP,L2.nL,L2.lK,L2.jZ,L2.j0,L2.j3,L2.nO,L2.lM,L2.lN,L2.lO,L2.j4,L2.j5,L2.rE,L2.rF,L2.vf,L2.rG,L2.rH,L2.sP,L2.yM,L2.yN,L2.BJ,L2.BK,Int.reduceToNat,Int.reducePow,Int.reduceSub,Int.reduceMul,Int.reduceAdd,Int.reduceNeg,Int.reduceLT,Int.reduceLE,L2.dG,List.any_nil, *])
theorem mC {α : Type} {b a : α} {l:List α} (h:a∈l):a∈b::l:=List.mem_cons_of_mem b h
theorem mA {α : Type} {a : α} {k l:List α} (h:a∈l):a∈k++l:=List.mem_append_right k h
theorem mB {α : Type} {a : α} {k l:List α} (h:a∈k):a∈k++l:=List.mem_append_left l h
theorem mS {α : Type} {a : α} {l:List α} : a∈a::l:=List.mem_cons_self
local macro_rules | `(tactic| walk_at "mem") => `(tactic| repeat (first | with_reducible exact List.mem_cons_self | with_reducible assumption | with_reducible refine List.mem_cons_of_mem _ ?_))
local macro_rules | `(tactic| walk_at "sub") => `(tactic| repeat (first | with_reducible exact List.Sublist.refl _ | with_reducible apply List.Sublist.cons₂ | with_reducible apply List.Sublist.cons))
local macro_rules | `(tactic| walk_at "led") => `(tactic| first | with_reducible assumption | exact L2.Led.sub (by assumption) (by walk_at "sub"))
local macro_rules | `(tactic| walk_at "cell") => `(tactic| first | with_reducible assumption | with_reducible exact L2.Led.get (by assumption) (by walk_at "mem"))
local macro_rules | `(tactic| walk_at "atc") => `(tactic| first | with_reducible assumption | with_reducible exact L2.yD | with_reducible exact L2.yE | with_reducible exact L2.yF | with_reducible exact L2.yG | with_reducible exact L2.yH | with_reducible exact L2.E2)
local macro_rules | `(tactic| walk_at "szs") => `(tactic| first | decide | (simp only [List.length_cons,List.length_nil,List.length_append,List.length_map];have hsz:=PySem.sizeLine_eq;omega) | (have hsz:=PySem.sizeLine_eq;omega))
local macro_rules | `(tactic| walk_at "tyc") => `(tactic| first | with_reducible exact L2.Dg | exact L2.O1 (by walk_at "cell") | exact L2.O2 (by walk_at "cell") | with_reducible assumption)
local macro_rules | `(tactic| walk_at "cnd") => `(tactic| first | omega | (unfold L2.Dr;omega) | (unfold L2.zM;omega) | (dsimp only;omega) | exact PySem.IntMulOk.of_right (by decide +kernel) | exact PySem.IntMulOk.of_left (by decide +kernel))
local macro_rules | `(tactic| walk_at "seq") => `(tactic| first | assumption | exact L2.bW.of (by walk_at "cell") | exact L2.fP.seq (by assumption) (by assumption) | exact L2.E3.seq (by assumption) (by walk_at "led"))
local macro_rules | `(tactic| walk_at "isi") => `(tactic| first | with_reducible exact L2.iK | with_reducible exact L2.gD | with_reducible exact L2.fQ | with_reducible exact L2.eF | rfl)
local macro_rules | `(tactic| walk_at "cl") => `(tactic| ((repeat (with_reducible rename L2.Is _ _=>zz;clear zz)); (repeat (with_reducible rename L2.fP _ _=>zz;clear zz)); (repeat (with_reducible rename L2.VK=>zz;clear zz))))
local macro_rules | `(tactic| walk_at "g1") => `(tactic| first
 | ((with_reducible show L2.lD _ _ _);with_reducible refine L2.IL (by walk_at "cell") ?_)
 | ((with_reducible show L2.lD _ _ _);with_reducible refine L2.IM (by walk_at "cell") ?_)
 | ((with_reducible show L2.lD _ _ _);with_reducible refine L2.IP (by walk_at "cell") ?_)
 | ((with_reducible show L2.uZ _ _ _);with_reducible refine L2.Lu (by walk_at "tyc") (by walk_at "isi") ?_)
 | ((with_reducible show L2.Bs _ _ _ _);with_reducible refine L2.Lw (by walk_at "cell") (by walk_at "cell") (by walk_at "szs") (L2.Led.alloc (by assumption) λ _ _ _ _ _ => ?_))
 | ((with_reducible show ∃ (p:Addr) (ys:List L2.V),_ = [L2.V.ref p]/\_);with_reducible refine L2.IT (by walk_at "seq") (L2.Led.alloc (by assumption) λ _ _ _ _ _ => ?_))
 | ((with_reducible show L2.zV _ _ _ _ _ _);with_reducible refine L2.IQ (by first | assumption | exact L2.bW.of (by walk_at "cell") | exact L2.fP.seq (by assumption) (by assumption) | exact L2.E3.seq (by assumption) (by walk_at "led")) (L2.Led.alloc (by assumption) λ _ _ _ _ _ => ?_)))
local macro_rules | `(tactic| walk_at "g2") => `(tactic| first
 | walk_at "g1"
 | ((with_reducible show ∃ (b:Addr) (dx:Addr) (fs:List (Str×L2.V)),_/\_);with_reducible refine L2.IX (by walk_at "cell") (by first | decide | with_unfolding_all exact Nat.le_of_ble_eq_true rfl) ?_)
 | ((with_reducible show ∃ (b:Addr) (o:Option L2.V),_/\_);with_reducible refine L2.LC (by walk_at "cell") ?_)
 | ((with_reducible show L2.mO _ _ _);with_reducible refine L2.IY (by assumption) λ _ _ _ _ _ => ?_)
 | with_reducible refine L2.O6 ?_
 | with_reducible refine L2.LD ?_)
local macro_rules | `(tactic| walk_at "pf") => `(tactic| repeat (first | with_reducible exact List.Perm.refl _ | with_reducible apply L2.O7 | with_reducible apply L2.O8 | with_reducible apply L2.O9 | with_reducible apply L2.Pa))
local macro_rules | `(tactic| walk_at "sp") => `(tactic| repeat (first | (with_reducible apply L2.oB; · walk_at "pf") | (with_reducible apply L2.Pc; · walk_at "pf") | with_reducible exact L2.Pb | with_reducible exact L2.Qm | with_reducible apply L2.Pd | with_reducible apply L2.LF))
local macro_rules | `(tactic| walk_at "g3") => `(tactic| first
 | walk_at "g2"
 | ((with_reducible show (∃ (a:Addr),_/\L2.G2 _ _)/\_);with_reducible refine And.intro (L2.Gz (by walk_at "cell")) ?_))
local macro_rules | `(tactic| walk_at "ge") => `(tactic| repeat' first
 | (with_reducible refine L2.cV.h ?_;intro _ _)
 | with_reducible refine L2.uA.h ?_
 | with_reducible refine L2.Ll rfl ?_
 | with_reducible refine L2.Is.use (by assumption) ?_
 | with_reducible refine L2.Lg (by assumption) ?_
 | ((with_reducible show L2.Ends.rt _ _ _);with_reducible refine L2.O3 ?_)
 | ((with_reducible show L2.Ends.nx _ _ _);with_reducible refine L2.O4 ?_)
 | with_reducible refine L2.K0 (λ _ => ?_) (λ _ => ?_)
 | with_reducible refine L2.IS (λ _ => ?_) (λ _ => ?_)
 | ((with_reducible show L2.rI _ _ _ _ _ _);with_reducible refine L2.iH (by walk_at "cnd") ?_)
 | ((with_reducible show (_<=PySem.sizeLine)/\_);with_reducible refine And.intro (by walk_at "szs") (L2.Led.alloc (by assumption) λ _ _ _ _ _ => ?_))
 | ((with_reducible show L2.xq _ _ _ _);with_reducible refine L2.IK (by walk_at "cell") (by walk_at "atc") ?_)
 | ((with_reducible show L2.xq _ _ _ _);with_reducible refine L2.Lv (by walk_at "cell") (by walk_at "atc") ?_)
 | ((with_reducible show ∃ (b:Addr) (dx:Addr) (fs:List (Str×L2.V)) (v:L2.V),_/\_);with_reducible refine L2.LB (by walk_at "cell") (by first | assumption | with_unfolding_all rfl) ?_)
 | ((with_reducible show ∃ (b:Addr) (dx:Addr) (fs:List (Str×L2.V)),_/\_);with_reducible refine L2.IW (by walk_at "cell") (by first | assumption | with_unfolding_all rfl) ?_)
 | walk_at "g3")
section
variable {P:Program} {w:World} {K:PySem.W.Frag} {mg:Str->Option Value} {base:Heap} {cN c2 cP cA cG c3 cC c4 cU c6 cT cF cD cS cI cL cB cQ cW:Addr}
theorem gw {A:Around} {k:Nat} (hr:bK k A):A.units+1 < cLine:=Nat.lt_of_le_of_lt (Nat.add_le_add_left (by decide) _) hr.units
theorem AA (x:V) (n:Nat):(List.replicate n [x]).flatten=List.replicate n x:=by
 induction n with
 | zero=>rfl
 | succ n ih=>rw [List.replicate_succ,List.flatten_cons,ih,List.replicate_succ];rfl
def c9 (n:Int) (l:Addr):List (Str×V):=[("slots",.int n),("kept",.ref l)]
def rW (p:Int) (m:Addr):List (Str×V):=[("stands_at",.int p),("marked",.ref m)]
def E9 (l r q:Addr):List (Str×V):=[("held",.ref l),("rows",.ref r),("soiled",.ref q)]
def Hj (l d:Addr):List (Str×V):=[("placed",.ref l),("row_by_sheet",.ref d)]
def Kl (d:Addr):List (Str×V):=[("rows_by_name",.ref d)]
def yW (cB:Addr):Sp:=λ vs H Q _ => ∃ (b dx:Addr) (n:Int) (L:Cells),vs = [.ref b,.int n]/\Led H ((b,.ins cB dx [])::L) ∧ ∀ l H',Led H' ((b,.ins cB dx (c9 n l))::(l,.lst [])::L)->Q .aN H'
theorem Cr (D:fk K cB "Book.__init__" i0) (T:(Txt K mg cN c2 cP cA cG c3 cC c4 cU c6 cT cF cD cS cI cL cB cQ cW)):(cj P w K mg base) 1 cB ["self","slots"] (yW cB):=by
 have sc:=lV
 refine D.ok lV (λ vs H Q E h => ?_) (by walk_at "us") (λ f cdv A outer s H vs Q E hr h => ?_)
 ·walk_at "ln"
 ·obtain ⟨b,dx,n,L,rfl,hL,k⟩:=h
  refine ⟨_,(@ah _ _ _ _ _ (@aL _ _ _ _ _ _ _ _ _ _ T.vG T.Em (@aq _ 0 _ _ (by walk_at "v")) (@aq _ 1 _ _ (by walk_at "v")) (by rfl)) (@aj _ _ _ (@aL _ _ _ _ _ _ _ _ _ _ T.vG T.sZ (@aq _ 0 _ _ (by walk_at "v")) (@bC _ _ _ _ (@af _)) (by rfl)))),?_⟩
  refine aA λ M1 K1 => ?_
  walk_at "ge"
  refine K1.use ?_
  clear K1
  have Hl:Led (upd H b (.ins cB dx (bu (Str.ofString "slots") (V.int n) []))) ((b,.ins cB dx [("slots",.int n)])::L):=hL.put rfl rfl
  generalize upd H b (.ins cB dx (bu (Str.ofString "slots") (V.int n) []))=H1 at Hl ⊢
  walk_at "ge"
  rename_i l H2 _ hl2 _
  have Pn:=(hl2.swap).put (o' := .ins cB dx (c9 n l)) rfl rfl
  exact k l _ Pn
def yX (cD:Addr):Sp:=λ vs H Q _ => ∃ (d dx:Addr) (n:Int) (L:Cells),vs = [.ref d,.int n]/\Led H ((d,.ins cD dx [])::L)/\0<=n/\n<=64 ∧ ∀ m H',Led H' ((d,.ins cD dx (rW 0 m))::(m,.lst (List.replicate n.toNat (.bl false)))::L)->Q .aN H'
theorem Ct (D:fk K cD "Dial.__init__" iW) (T:(Txt K mg cN c2 cP cA cG c3 cC c4 cU c6 cT cF cD cS cI cL cB cQ cW)):(cj P w K mg base) 1 cD ["self","many"] (yX cD):=by
 have sc:=lR
 refine D.ok lR (λ vs H Q E h => ?_) (by walk_at "us") (λ f cdv A outer s H vs Q E hr h => ?_)
 ·walk_at "ln"
 ·obtain ⟨d,dx,n,L,rfl,hL,h0,h64,k⟩:=h
  refine ⟨_,(@ah _ _ _ _ _ (@aL _ _ _ _ _ _ _ _ _ _ T.Ei T.vD (@aq _ 0 _ _ (by walk_at "v")) (@ao _ _ _ _) (by rfl)) (@aj _ _ _ (@aL _ _ _ _ _ _ _ _ _ _ T.Ei T.Cc (@aq _ 0 _ _ (by walk_at "v")) (@av _ _ _ _ _ _ _ _ mR (@bC _ _ _ _ (@aa _ _ _ _ _ (@cY _ _ _ _) (@af _) (by rfl))) (@aq _ 1 _ _ (by walk_at "v"))) (by rfl)))),?_⟩
  refine aA λ M1 K1 => ?_
  walk_at "ge"
  refine K1.use ?_
  clear K1
  have Hl:Led (upd H d (.ins cD dx (bu (Str.ofString "stands_at") (V.int 0) []))) ((d,.ins cD dx [("stands_at",.int 0)])::L):=hL.put rfl rfl
  generalize upd H d (.ins cD dx (bu (Str.ofString "stands_at") (V.int 0) []))=H1 at Hl ⊢
  walk_at "ge"
  rename Led _ _=>hl2
  have hsz:1 * n.toNat<=sizeLine:=by have:=sizeLine_eq;omega
  refine Ah (hl2.get mS) ⟨by omega,by omega⟩ hsz (Led.alloc hl2 λ m H3 _ hl3 _ => ?_)
  rw [AA] at hl3
  walk_at "ge"
  have bF:Led H3 ((d,.ins cD dx [("stands_at",.int 0)])::(m,.lst (List.replicate n.toNat (.bl false)))::L):=hl3.wk (by walk_at "sp")
  exact k m _ (bF.put (o' := .ins cD dx (rW 0 m)) rfl rfl)
def yY (cS:Addr):Sp:=λ vs H Q _ => ∃ (b dx:Addr) (n:Int) (L:Cells),vs = [.ref b,.int n]/\Led H ((b,.ins cS dx [])::L)/\0<=n/\n<=600 ∧ ∀ l d H',Led H' ((b,.ins cS dx (Hj l d))::(l,.lst (List.replicate n.toNat .aN))::(d,.dK [])::L)->Q .aN H'
theorem Cu (D:fk K cS "Shelf.__init__" gJ) (T:(Txt K mg cN c2 cP cA cG c3 cC c4 cU c6 cT cF cD cS cI cL cB cQ cW)):(cj P w K mg base) 1 cS ["self","many"] (yY cS):=by
 have sc:=j7
 refine D.ok j7 (λ vs H Q E h => ?_) (by walk_at "us") (λ f cdv A outer s H vs Q E hr h => ?_)
 ·walk_at "ln"
 ·obtain ⟨b,dx,n,L,rfl,hL,h0,Mc,k⟩:=h
  refine ⟨_,(@ah _ _ _ _ _ (@aL _ _ _ _ _ _ _ _ _ _ T.vE T.vF (@aq _ 0 _ _ (by walk_at "v")) (@av _ _ _ _ _ _ _ _ mR (@bC _ _ _ _ (@aa _ _ _ _ _ (@kG _ _ _) (@af _) (by rfl))) (@aq _ 1 _ _ (by walk_at "v"))) (by rfl)) (@aj _ _ _ (@aL _ _ _ _ _ _ _ _ _ _ T.vE T.pV (@aq _ 0 _ _ (by walk_at "v")) (@gk _ _) (by rfl)))),?_⟩
  refine aA λ M1 K1 => ?_
  walk_at "ge"
  rename Led _ _=>hl2
  refine Ah (hl2.get mS) ⟨by omega,by omega⟩ (by have:=sizeLine_eq;simp only [List.length_cons,List.length_nil];omega) (Led.alloc hl2 λ l H3 _ hl3 _ => ?_)
  rw [AA] at hl3
  walk_at "ge"
  refine K1.use ?_
  walk_at "cl"
  clear K1
  have bF:Led H3 ((b,.ins cS dx [])::(l,.lst (List.replicate n.toNat .aN))::L):=hl3.wk (by walk_at "sp")
  have dY:Led (upd H3 b (.ins cS dx (bu (Str.ofString "placed") (V.ref l) []))) ((b,.ins cS dx [("placed",.ref l)])::(l,.lst (List.replicate n.toNat .aN))::L):=bF.put rfl rfl
  generalize upd H3 b (.ins cS dx (bu (Str.ofString "placed") (V.ref l) []))=H4 at dY ⊢
  clear bF hl3 hl2 hL
  walk_at "ge"
  rename_i d H5 _ fH _
  have iC:=(fH.swap).put (o' := .ins cS dx (Hj l d)) rfl rfl
  exact k l d _ (iC.wk (by walk_at "sp"))
def yZ (cI:Addr):Sp:=λ vs H Q _ => ∃ (b dx:Addr) (L:Cells),vs = [.ref b]/\Led H ((b,.ins cI dx [])::L) ∧ ∀ d H',Led H' ((b,.ins cI dx (Kl d))::(d,.dK [])::L)->Q .aN H'
theorem Cv (D:fk K cI "Files.__init__" gI) (T:(Txt K mg cN c2 cP cA cG c3 cC c4 cU c6 cT cF cD cS cI cL cB cQ cW)):(cj P w K mg base) 1 cI ["self"] (yZ cI):=by
 have sc:=j6
 refine D.ok j6 (λ vs H Q E h => ?_) (by walk_at "us") (λ f cdv A outer s H vs Q E hr h => ?_)
 ·walk_at "ln"
 ·obtain ⟨b,dx,L,rfl,hL,k⟩:=h
  refine ⟨_,(@aj _ _ _ (@aL _ _ _ _ _ _ _ _ _ _ T.Cd T.pW (@aq _ 0 _ _ (by walk_at "v")) (@gk _ _) (by rfl))),?_⟩
  walk_at "ge"
  rename_i d H5 _ fH _
  have iC:=(fH.swap).put (o' := .ins cI dx (Kl d)) rfl rfl
  exact k d _ iC
def y9 (cF:Addr):Sp:=λ vs H Q _ => ∃ (b dx:Addr) (n:Int) (L:Cells),vs = [.ref b,.int n]/\Led H ((b,.ins cF dx [])::L)/\0<=n/\n<=600 ∧ ∀ l r q H',Led H' ((b,.ins cF dx (E9 l r q))::(l,.lst (List.replicate n.toNat .aN))::(r,.lst (List.replicate n.toNat .aN))::(q,.lst (List.replicate n.toNat (.bl false)))::L)->Q .aN H'
theorem Cw (D:fk K cF "Frames.__init__" fS) (T:(Txt K mg cN c2 cP cA cG c3 cC c4 cU c6 cT cF cD cS cI cL cB cQ cW)):(cj P w K mg base) 1 cF ["self","many"] (y9 cF):=by
 have sc:=iY
 refine D.ok iY (λ vs H Q E h => ?_) (by walk_at "us") (λ f cdv A outer s H vs Q E hr h => ?_)
 ·walk_at "ln"
 ·obtain ⟨b,dx,n,L,rfl,hL,h0,Mc,k⟩:=h
  refine ⟨_,(@ah _ _ _ _ _ (@aL _ _ _ _ _ _ _ _ _ _ T.Frames T.B9 (@aq _ 0 _ _ (by walk_at "v")) (@av _ _ _ _ _ _ _ _ mR (@bC _ _ _ _ (@aa _ _ _ _ _ (@kG _ _ _) (@af _) (by rfl))) (@aq _ 1 _ _ (by walk_at "v"))) (by rfl)) (@ah _ _ _ _ _ (@aL _ _ _ _ _ _ _ _ _ _ T.Frames T.GF (@aq _ 0 _ _ (by walk_at "v")) (@av _ _ _ _ _ _ _ _ mR (@bC _ _ _ _ (@aa _ _ _ _ _ (@kG _ _ _) (@af _) (by rfl))) (@aq _ 1 _ _ (by walk_at "v"))) (by rfl)) (@aj _ _ _ (@aL _ _ _ _ _ _ _ _ _ _ T.Frames T.Ca (@aq _ 0 _ _ (by walk_at "v")) (@av _ _ _ _ _ _ _ _ mR (@bC _ _ _ _ (@aa _ _ _ _ _ (@cY _ _ _ _) (@af _) (by rfl))) (@aq _ 1 _ _ (by walk_at "v"))) (by rfl))))),?_⟩
  refine aA λ M1 K1 => ?_
  walk_at "ge"
  rename Led _ _=>hl2
  refine Ah (hl2.get mS) ⟨by omega,by omega⟩ (by have:=sizeLine_eq;simp only [List.length_cons,List.length_nil];omega) (Led.alloc hl2 λ l H3 _ hl3 _ => ?_)
  rw [AA] at hl3
  walk_at "ge"
  refine K1.use ?_
  walk_at "cl"
  clear K1
  have bF:Led H3 ((b,.ins cF dx [])::(l,.lst (List.replicate n.toNat .aN))::L):=hl3.wk (by walk_at "sp")
  have dY:Led (upd H3 b (.ins cF dx (bu (Str.ofString "held") (V.ref l) []))) ((b,.ins cF dx [("held",.ref l)])::(l,.lst (List.replicate n.toNat .aN))::L):=bF.put rfl rfl
  generalize upd H3 b (.ins cF dx (bu (Str.ofString "held") (V.ref l) []))=H4 at dY ⊢
  clear bF hl3 hl2 hL
  refine aA λ M1 K1 => ?_
  walk_at "ge"
  rename Led _ _=>hl2
  refine Ah (hl2.get mS) ⟨by omega,by omega⟩ (by have:=sizeLine_eq;simp only [List.length_cons,List.length_nil];omega) (Led.alloc hl2 λ r H5 _ fH _ => ?_)
  rw [AA] at fH
  walk_at "ge"
  refine K1.use ?_
  walk_at "cl"
  clear K1
  have iC:Led H5 ((b,.ins cF dx [("held",.ref l)])::(l,.lst (List.replicate n.toNat .aN))::(r,.lst (List.replicate n.toNat .aN))::L):=fH.wk (by walk_at "sp")
  have p9:Led (upd H5 b (.ins cF dx (bu (Str.ofString "rows") (V.ref r) [("held",.ref l)]))) ((b,.ins cF dx [("held",.ref l),("rows",.ref r)])::(l,.lst (List.replicate n.toNat .aN))::(r,.lst (List.replicate n.toNat .aN))::L):=iC.put rfl rfl
  generalize upd H5 b (.ins cF dx (bu (Str.ofString "rows") (V.ref r) [("held",.ref l)]))=H6 at p9 ⊢
  clear iC fH hl2 dY
  walk_at "ge"
  rename Led _ _=>hl2
  refine Ah (hl2.get mS) ⟨by omega,by omega⟩ (by have:=sizeLine_eq;simp only [List.length_cons,List.length_nil];omega) (Led.alloc hl2 λ q H7 _ kX _ => ?_)
  rw [AA] at kX
  walk_at "ge"
  have vX:Led H7 ((b,.ins cF dx [("held",.ref l),("rows",.ref r)])::(l,.lst (List.replicate n.toNat .aN))::(r,.lst (List.replicate n.toNat .aN))::(q,.lst (List.replicate n.toNat (.bl false)))::L):=kX.wk (by walk_at "sp")
  have xO:=vX.put (o' := .ins cF dx (E9 l r q)) rfl rfl
  exact k l r q _ xO
structure SA where
 fr:Addr
 Di:Addr
 hl:Addr
 rw:Addr
 so:Addr
 di:Addr
 Fb:Addr
 NO:Addr
 sh:Addr
 Fc:Addr
 pl:Addr
 rd:Addr
 fi:Addr
 Ho:Addr
 fd:Addr
 ho:Addr
def Hq (a:SA):List (Str×V):=[("frames",.ref a.fr),("dial",.ref a.di),("shelf",.ref a.sh),("files",.ref a.fi),("holders",.ref a.ho),("sheets_made",.int 0)]
def Cy (cT cF cD cS cI b dx:Addr) (a:SA) (m p:Nat) (R:Cells):Cells:=(b,.ins cT dx (Hq a))::(a.fr,.ins cF a.Di (E9 a.hl a.rw a.so))::(a.hl,.lst (List.replicate m .aN))::(a.rw,.lst (List.replicate m .aN))::(a.so,.lst (List.replicate m (.bl false))) ::
 (a.di,.ins cD a.Fb (rW 0 a.NO))::(a.NO,.lst (List.replicate m (.bl false)))::(a.sh,.ins cS a.Fc (Hj a.pl a.rd))::(a.pl,.lst (List.replicate p .aN))::(a.rd,.dK [])::(a.fi,.ins cI a.Ho (Kl a.fd))::(a.fd,.dK [])::(a.ho,.dK [])::R
def za (cT cF cD cS cI:Addr):Sp:=λ vs H Q _ => ∃ (b dx:Addr) (m p:Int) (L:Cells),vs = [.ref b,.int m,.int p]/\Led H ((b,.ins cT dx [])::L)/\0<=m/\m<=64/\0<=p/\p<=600 ∧ ∀ a H',Led H' ((Cy cT cF cD cS cI) b dx a m.toNat p.toNat L)->Q .aN H'
theorem Cz (D:fk K cT "Store.__init__" gK) (T:(Txt K mg cN c2 cP cA cG c3 cC c4 cU c6 cT cF cD cS cI cL cB cQ cW)) (qa:(cj P w K mg base) 1 cF ["self","many"] (y9 cF)) (xP:(cj P w K mg base) 1 cD ["self","many"] (yX cD)) (tM:(cj P w K mg base) 1 cS ["self","many"] (yY cS)) (tN:(cj P w K mg base) 1 cI ["self"] (yZ cI)):(cj P w K mg base) 3 cT ["self","many","places"] (za cT cF cD cS cI):=by
 have sc:=j8
 refine D.ok j8 (λ vs H Q E h => ?_) (by walk_at "us") (λ f cdv A outer s H vs Q E hr h => ?_)
 ·walk_at "ln"
 ·obtain ⟨b,dx,m,p,L,rfl,hL,m0,Jj,p0,Po,k⟩:=h
  refine ⟨_,(@ah _ _ _ _ _ (@aL _ _ _ _ _ _ _ _ _ _ T.gr T.pU (@aq _ 0 _ _ (by walk_at "v")) (@fm _ _ _ _ _ _ _ _ _ _ _ _ T.Frames qa (hr.mono (by omega)) (by rfl) au (@aa _ _ _ _ _ (@aq _ 1 _ _ (by walk_at "v")) (@af _) (by rfl)) (by decide) (by rfl) (by rfl)) (by rfl)) (@ah _ _ _ _ _ (@aL _ _ _ _ _ _ _ _ _ _ T.gr T.B8 (@aq _ 0 _ _ (by walk_at "v")) (@fm _ _ _ _ _ _ _ _ _ _ _ _ T.Ei xP (hr.mono (by omega)) (by rfl) au (@aa _ _ _ _ _ (@aq _ 1 _ _ (by walk_at "v")) (@af _) (by rfl)) (by decide) (by rfl) (by rfl)) (by rfl)) (@ah _ _ _ _ _ (@aL _ _ _ _ _ _ _ _ _ _ T.gr T.yT (@aq _ 0 _ _ (by walk_at "v")) (@fm _ _ _ _ _ _ _ _ _ _ _ _ T.vE tM (hr.mono (by omega)) (by rfl) au (@aa _ _ _ _ _ (@aq _ 2 _ _ (by walk_at "v")) (@af _) (by rfl)) (by decide) (by rfl) (by rfl)) (by rfl)) (@ah _ _ _ _ _ (@aL _ _ _ _ _ _ _ _ _ _ T.gr T.yU (@aq _ 0 _ _ (by walk_at "v")) (@mU _ _ _ _ _ _ _ _ _ T.Cd tN (hr.mono (by omega)) (by rfl) au (by decide)) (by rfl)) (@ah _ _ _ _ _ (@aL _ _ _ _ _ _ _ _ _ _ T.gr T.rV (@aq _ 0 _ _ (by walk_at "v")) (@gk _ _) (by rfl)) (@aj _ _ _ (@aL _ _ _ _ _ _ _ _ _ _ T.gr T.qD (@aq _ 0 _ _ (by walk_at "v")) (@ao _ _ _ _) (by rfl)))))))),?_⟩
  refine aA λ M1 K1 => ?_
  walk_at "ge"
  intro fr Di z1 z2 z3
  refine ⟨fr,Di,m,_,rfl,hL.make z1 z2 z3,m0,by omega,λ l r q H1 hl1=>⟨rfl,?_⟩⟩
  clear z1 z2 z3 hL
  have hl2:Led H1 ((b,.ins cT dx [])::(fr,.ins cF Di (E9 l r q))::(l,.lst (List.replicate m.toNat .aN))::(r,.lst (List.replicate m.toNat .aN))::(q,.lst (List.replicate m.toNat (.bl false)))::L):=hl1.wk (by walk_at "sp")
  have hl3:Led (upd H1 b (.ins cT dx (bu (Str.ofString "frames") (V.ref fr) []))) ((b,.ins cT dx [("frames",.ref fr)])::_):=hl2.put rfl rfl
  clear hl1
  walk_at "ge"
  refine K1.use ?_
  walk_at "cl"
  clear K1 hl2
  generalize upd H1 b (.ins cT dx (bu (Str.ofString "frames") (V.ref fr) []))=H2 at hl3 ⊢
  refine aA λ M1 K1 => ?_
  walk_at "ge"
  intro di Fb z1 z2 z3
  refine ⟨di,Fb,m,_,rfl,hl3.make z1 z2 z3,m0,by omega,λ mk H3 bF=>⟨rfl,?_⟩⟩
  clear z1 z2 z3 hl3
  have dY:Led H3 ((b,.ins cT dx [("frames",.ref fr)])::(di,.ins cD Fb (rW 0 mk))::(mk,.lst (List.replicate m.toNat (.bl false)))::(fr,.ins cF Di (E9 l r q))::(l,.lst (List.replicate m.toNat .aN))::(r,.lst (List.replicate m.toNat .aN))::(q,.lst (List.replicate m.toNat (.bl false)))::L):=bF.wk (by walk_at "sp")
  have fH:Led (upd H3 b (.ins cT dx (bu (Str.ofString "dial") (V.ref di) [("frames",.ref fr)]))) ((b,.ins cT dx [("frames",.ref fr),("dial",.ref di)])::_):=dY.put rfl rfl
  clear bF
  walk_at "ge"
  refine K1.use ?_
  walk_at "cl"
  clear K1 dY
  generalize upd H3 b (.ins cT dx (bu (Str.ofString "dial") (V.ref di) [("frames",.ref fr)]))=H4 at fH ⊢
  refine aA λ M1 K1 => ?_
  walk_at "ge"
  intro sh Fc z1 z2 z3
  refine ⟨sh,Fc,p,_,rfl,fH.make z1 z2 z3,p0,by omega,λ pl rd H5 iC=>⟨rfl,?_⟩⟩
  clear z1 z2 z3 fH
  have p9:Led H5 ((b,.ins cT dx [("frames",.ref fr),("dial",.ref di)])::(sh,.ins cS Fc (Hj pl rd))::(pl,.lst (List.replicate p.toNat .aN))::(rd,.dK [])::(di,.ins cD Fb (rW 0 mk))::(mk,.lst (List.replicate m.toNat (.bl false)))::(fr,.ins cF Di (E9 l r q))::(l,.lst (List.replicate m.toNat .aN))::(r,.lst (List.replicate m.toNat .aN))::(q,.lst (List.replicate m.toNat (.bl false)))::L):=iC.wk (by walk_at "sp")
  have kX:Led (upd H5 b (.ins cT dx (bu (Str.ofString "shelf") (V.ref sh) [("frames",.ref fr),("dial",.ref di)]))) ((b,.ins cT dx [("frames",.ref fr),("dial",.ref di),("shelf",.ref sh)])::_):=p9.put rfl rfl
  clear iC
  walk_at "ge"
  refine K1.use ?_
  walk_at "cl"
  clear K1 p9
  generalize upd H5 b (.ins cT dx (bu (Str.ofString "shelf") (V.ref sh) [("frames",.ref fr),("dial",.ref di)]))=H6 at kX ⊢
  refine aA λ M1 K1 => ?_
  walk_at "ge"
  intro fi Ho z1 z2 z3
  refine ⟨fi,Ho,_,rfl,kX.make z1 z2 z3,λ fd H7 vX=>⟨rfl,?_⟩⟩
  clear z1 z2 z3 kX
  have xO:Led H7 ((b,.ins cT dx [("frames",.ref fr),("dial",.ref di),("shelf",.ref sh)])::(fi,.ins cI Ho (Kl fd))::(fd,.dK [])::(sh,.ins cS Fc (Hj pl rd))::(pl,.lst (List.replicate p.toNat .aN))::(rd,.dK [])::(di,.ins cD Fb (rW 0 mk))::(mk,.lst (List.replicate m.toNat (.bl false)))::(fr,.ins cF Di (E9 l r q))::(l,.lst (List.replicate m.toNat .aN))::(r,.lst (List.replicate m.toNat .aN))::(q,.lst (List.replicate m.toNat (.bl false)))::L):=vX.wk (by walk_at "sp")
  have CA:Led (upd H7 b (.ins cT dx (bu (Str.ofString "files") (V.ref fi) [("frames",.ref fr),("dial",.ref di),("shelf",.ref sh)]))) ((b,.ins cT dx [("frames",.ref fr),("dial",.ref di),("shelf",.ref sh),("files",.ref fi)])::_):=xO.put rfl rfl
  clear vX
  walk_at "ge"
  refine K1.use ?_
  walk_at "cl"
  clear K1 xO
  generalize upd H7 b (.ins cT dx (bu (Str.ofString "files") (V.ref fi) [("frames",.ref fr),("dial",.ref di),("shelf",.ref sh)]))=H8 at CA ⊢
  refine aA λ M1 K1 => ?_
  walk_at "ge"
  rename_i ho H9 _ CB _
  have Et:Led (upd H9 b (.ins cT dx (bu (Str.ofString "holders") (V.ref ho) [("frames",.ref fr),("dial",.ref di),("shelf",.ref sh),("files",.ref fi)]))) ((b,.ins cT dx [("frames",.ref fr),("dial",.ref di),("shelf",.ref sh),("files",.ref fi),("holders",.ref ho)])::_):=(CB.swap).put rfl rfl
  refine K1.use ?_
  walk_at "cl"
  clear K1 CB CA
  generalize upd H9 b (.ins cT dx (bu (Str.ofString "holders") (V.ref ho) [("frames",.ref fr),("dial",.ref di),("shelf",.ref sh),("files",.ref fi)]))=Df at Et ⊢
  walk_at "ge"
  have Me:=Et.put (o' := .ins cT dx (Hq ⟨fr,Di,l,r,q,di,Fb,mk,sh,Fc,pl,rd,fi,Ho,fd,ho⟩)) rfl rfl
  exact k ⟨fr,Di,l,r,q,di,Fb,mk,sh,Fc,pl,rd,fi,Ho,fd,ho⟩ _ (Me.wk (by unfold Cy;walk_at "sp"))
def tO (C:Addr) (fld:Str):Sp:=λ vs H Q _ => ∃ (b dx l:Addr) (fs:List (Str×V)) (xs:List V) (L:Cells),vs = [.ref b]/\Led H L/\(b,HO.ins C dx fs)∈L/\fs.lookup fld=some (.ref l)/\(l,HO.lst xs)∈L ∧ ∀ r H',Led H' ((r,.lst xs)::L)->Q (.ref r) H'
theorem AB (D:dD K cF "things" "Frames.things" eG) (B:e9 mg) (T:(Txt K mg cN c2 cP cA cG c3 cC c4 cU c6 cT cF cD cS cI cL cB cQ cW)):(bH P w K mg base) 1 cF "things" ["self"] (tO cF "held"):=by
 have sc:=gp
 refine D.ok gp (λ vs H Q E h => ?_) (by walk_at "us") (λ f cdv A outer s H vs Q E hr h => ?_)
 ·walk_at "ln"
 ·obtain ⟨b,dx,l,fs,xs,L,rfl,hL,i1,hf,i2,k⟩:=h
  have c1:=hL.get i1
  have c2:=hL.get i2
  refine ⟨_,(@aj _ _ _ (@ay _ _ _ _ (@dU _ _ _ _ _ _ _ _ _ (bJ (K:=K) rfl) (by rfl) B.list d9 (@aa _ _ _ _ _ (@aF _ _ _ _ _ _ _ T.Frames T.B9 (@aq _ 0 _ _ (by walk_at "v")) (by rfl)) (@af _) (by rfl)) (by decide) (by decide) (by rfl) (by rfl)))),?_⟩
  walk_at "ge"
  rename Led _ _=>hl2
  exact k _ _ hl2
theorem AD (D:dD K cS "sheets" "Shelf.sheets" fq) (B:e9 mg) (T:(Txt K mg cN c2 cP cA cG c3 cC c4 cU c6 cT cF cD cS cI cL cB cQ cW)):(bH P w K mg base) 1 cS "sheets" ["self"] (tO cS "placed"):=by
 have sc:=iy
 refine D.ok iy (λ vs H Q E h => ?_) (by walk_at "us") (λ f cdv A outer s H vs Q E hr h => ?_)
 ·walk_at "ln"
 ·obtain ⟨b,dx,l,fs,xs,L,rfl,hL,i1,hf,i2,k⟩:=h
  have c1:=hL.get i1
  have c2:=hL.get i2
  refine ⟨_,(@aj _ _ _ (@ay _ _ _ _ (@dU _ _ _ _ _ _ _ _ _ (bJ (K:=K) rfl) (by rfl) B.list d9 (@aa _ _ _ _ _ (@aF _ _ _ _ _ _ _ T.vE T.vF (@aq _ 0 _ _ (by walk_at "v")) (by rfl)) (@af _) (by rfl)) (by decide) (by decide) (by rfl) (by rfl)))),?_⟩
  walk_at "ge"
  rename Led _ _=>hl2
  exact k _ _ hl2
def zb:Sp:=λ vs H Q _ => ∃ x t,vs = [x]/\wG H x=some t/\Q (.bl (iV x)) H
def eu (cN:Addr):Sp:=λ vs H Q E => ∃ (x:V) (t:String) (lo hi:Int),vs = [x,.int lo,.int hi]/\wG H x=some t/\(∀ n,x = .int n->lo<=n->n<=hi->Q (.int n) H)/\((∀ n,x = .int n->lo<=n->n<=hi->False)->E (.ref cN) none H)
theorem vY (D:Def K mg "is_whole" kL) (B:e9 mg):(aM P w K mg base) 1 "is_whole" ["thing"] zb:=by
 refine D.ok vn (λ vs H Q E h => ?_) (by walk_at "us") (λ f cdv A outer s H vs Q E hr h => ?_)
 ·obtain ⟨x,t,rfl,_⟩:=h;rfl
 ·obtain ⟨x,t,rfl,ht,k⟩:=h
  refine ⟨_,(@aj _ _ _ (@ay _ _ _ _ (@iE _ _ _ _ _ _ _ (@aD _ _ _ _ _ _ _ _ _ c8 (by rfl) B.isinstance aW (@aa _ _ _ _ _ (@aq _ 0 _ _ (by walk_at "v")) (@aa _ _ _ _ _ (@eU _ _ (.ty "int") _ _ (by rfl) B.int By rfl (by decide) (by decide)) (@af _) (by rfl)) (by rfl)) (by decide) (by decide) (by rfl) (by rfl)) (@rZ _ _ _ _ _ (@wK _ _ _ _ (@aD _ _ _ _ _ _ _ _ _ c8 (by rfl) B.isinstance aW (@aa _ _ _ _ _ (@aq _ 0 _ _ (by walk_at "v")) (@aa _ _ _ _ _ (@eU _ _ (.ty "bool") _ _ (by rfl) B.bool yy rfl (by decide) (by decide)) (@af _) (by rfl)) (by rfl)) (by decide) (by decide) (by rfl) (by rfl))))))),?_⟩
  rcases Af ht with rfl | ⟨b,rfl⟩ | ⟨n,rfl⟩ | ⟨s,rfl⟩ | ⟨a,xs,rfl,ha⟩ | ⟨a,xs,rfl,ha⟩ | ⟨a,xs,rfl,ha⟩ <;> walk_at "rdh" <;> exact k
theorem AE (D:Def K mg "number" pA) (T:(Txt K mg cN c2 cP cA cG c3 cC c4 cU c6 cT cF cD cS cI cL cB cQ cW)) (kR:(aM P w K mg base) 1 "is_whole" ["thing"] zb):(aM P w K mg base) 2 "number" ["thing","low","high"] (eu cN):=by
 refine D.o6 An (λ vs H Q E h => ?_) (by walk_at "us") (λ f cdv A outer s H vs Q E hr h => ?_)
 ·obtain ⟨x,t,lo,hi,rfl,_⟩:=h;rfl
 ·obtain ⟨x,t,lo,hi,rfl,ht,k1,k2⟩:=h
  refine ⟨_,(@ah _ _ _ _ _ (@aZ _ _ _ _ _ _ _ _ (@PW.pt _ _ _ (@pw_or _ _ _ _ _ _ _ (@b3 _ _ _ _ (@b9 _ _ _ (@ak _ _ _ _ _ _ _ _ _ _ _ kR (hr.mono (by omega)) (by rfl) au (@aa _ _ _ _ _ (@aq _ 0 _ _ (by walk_at "v")) (@af _) (by rfl)) (by decide) (by rfl) (by rfl)) (by intro _;rfl))) (@pw_or _ _ _ _ _ _ _ (@aG _ _ _ _ _ _ _ _ oM (@aq _ 0 _ _ (by walk_at "v")) (@aq _ 1 _ _ (by walk_at "v")) (aR _)) (@pw_or1 _ _ _ _ (@aG _ _ _ _ _ _ _ _ Bb (@aq _ 0 _ _ (by walk_at "v")) (@aq _ 2 _ _ (by walk_at "v")) (aR _)))))) (@aj _ _ _ (@gm _ _ _ _ _ _ _ _ _ _ _ _ _ _ _ _ _ _ _ _ _ _ T.pT (by rfl) (@aa _ _ _ _ _ (@bz _ _ _ _) (@af _) (by rfl)) (by decide) (by rfl))) (@aO _)) (@aj _ _ _ (@ay _ _ _ _ (@aq _ 0 _ _ (by walk_at "v"))))),?_⟩
  walk_at "rd"
  have h1:1<=sizeLine:=by decide
  refine ⟨x,t,rfl,ht,_,rfl,?_⟩
  cases x with
  | int n =>
    simp only [iV,Bool.true_eq_false,if_false]
    refine ⟨n,rfl,F5 (λ hl=>⟨h1,k2 λ m e a b => ?_⟩) λ hl=>⟨n,rfl,F5 (λ hh=>⟨h1,k2 λ m e a b => ?_⟩) λ hh=>k1 n rfl (by omega) (by omega)⟩⟩
    ·cases e;omega
    ·cases e;omega
  | _ =>
    simp only [iV,if_true]
    exact ⟨h1,k2 λ m e=>nomatch e⟩
def vZ (K:PySem.W.Frag):Sp:=λ vs H Q _ => ∃ (a:Addr) (ns:List Int) (j:Int),vs = [.ref a,.int j]/\0<=j/\bW K H a (ns.map V.int)/\Q (.int (ns.getD j.toNat 0)) H
theorem xQ (D:Def K mg "_law_cell_at" jj) (B:e9 mg):(aM P w K mg base) 1 "_law_cell_at" ["_law_script","_law_k"] (vZ K):=by
 refine D.ok sX (λ vs H Q E h => ?_) (by walk_at "us") (λ f cdv A outer s H vs Q E hr h => ?_)
 ·walk_at "ln"
 ·obtain ⟨a,ns,j,rfl,hj0,hS,k⟩:=h
  obtain ⟨j,rfl⟩:=Int.eq_ofNat_of_zero_le hj0
  refine ⟨_,(@ah _ _ _ _ _ (@aZ _ _ _ _ _ _ _ _ (@aG _ _ _ _ _ _ _ _ oM (@aq _ 1 _ _ (by walk_at "v")) (@aD _ _ _ _ _ _ _ _ _ (qx (K:=K) rfl) (by rfl) B.len cH (@aa _ _ _ _ _ (@aq _ 0 _ _ (by walk_at "v")) (@af _) (by rfl)) (by decide) (by decide) (by rfl) (by rfl)) (aR _)) (@aj _ _ _ (@ay _ _ _ _ (@aJ _ _ _ _ _ _ _ (o7 (K:=K) rfl) (@aq _ 0 _ _ (by walk_at "v")) (@aq _ 1 _ _ (by walk_at "v")) (λ _ _=>rfl)))) (@aO _)) (@aj _ _ _ (@ay _ _ _ _ (@ao _ _ _ _)))),?_⟩
  simp only [uK,zI,qX,Dq,uE,L2.start,List.map_cons,List.map_nil,List.length_cons,List.length_nil,Nat.zero_add,Nat.reduceAdd,Nat.reduceSub,List.replicate,List.append_nil,List.getElem?_cons_succ,List.getElem?_cons_zero,Option.some.injEq,FO,qZ,qt,List.cons.injEq,and_true,A9,V.int.injEq,V.bl.injEq,zH,Bm,exists_and_left,exists_eq_left',V.ref.injEq,qU,tC,decide_eq_true_eq]
  refine ⟨_,.inl hS,?_⟩
  rw [List.length_map]
  rw [Int.toNat_natCast] at k
  refine F5 (λ hlt => ?_) (λ hge => ?_)
  ·refine ⟨_,hS,_,fM (j:=j) (v:=V.int (ns.getD j 0)) ?_,k⟩
   have hj:j < ns.length:=by omega
   simp [hj]
  ·rw [List.getD_eq_getElem?_getD,List.getElem?_eq_none (by omega)] at k
   exact k
def Dj (L:Cells) (x:V):Prop := ∃ t,∀ H,Led H L->wG H x=some t
theorem Dj.int {L:Cells} {n:Int} : Dj L (.int n):=⟨_,λ _ _=>Dg⟩
def Km (x:V) (lo hi:Int):Prop := ∃ n,x = .int n/\lo<=n/\n<=hi
structure Sr where
 f:Int
 m:Int
 r:Int
abbrev Jk:=Addr×Sr
def qp (s:Sr):List V:=[.int s.f,.int s.m,.str (Str.ofString "own"),.int s.r,.aN,.int 0]
def nW (ws:List Jk):List V:=ws.map λ x=>V.ref x.1
structure oE where
 a:Addr
 dx:Addr
 p:Addr
 pl:List Jk
 t:Addr
 td:Addr
 ld:Addr
structure WR where
 b:Addr
 dx:Addr
 st:Addr
 dst:Addr
 s:SA
 bk:Addr
 wk:Addr
 sp:Addr
 bs:List (Addr×Addr×Addr)
 sl:Int
 es:List (Int×oE)
 made:Int
 m:Nat
 q:Nat
def wF (a:WR):List (Str×V):=[("store",.ref a.st),("books",.ref a.bk),("walks",.ref a.wk),("copies",.int 0),("spaces",.ref a.sp),("spaces_made",.int a.made)]
def jH (es:List (Int×oE)):List (Key×V):=es.map λ e=>(Sum.inl e.1,V.ref e.2.a)
def kY (cB:Addr) (sl:Int) (bs:List (Addr×Addr×Addr)):Cells:=bs.map λ x=>(x.1,HO.ins cB x.2.1 (c9 sl x.2.2))
def AS (r:oE):List (Str×V):=[("plan",.ref r.p),("table",.ref r.t)]
def oB (cQ:Addr) (es:List (Int×oE)):Cells:=es.map λ e=>(e.2.a,HO.ins cQ e.2.dx (AS e.2))
def aU (cW cB cQ:Addr) (W:WR):Cells:=(W.b,HO.ins cW W.dx (wF W))::(W.sp,HO.dK (jH W.es))::(kY cB W.sl W.bs++oB cQ W.es)
def Pp (r:oE):List (Str×V):=[("leaf_by_upper",.ref r.ld)]
structure Hr (cL:Addr) (r:oE) (M:Cells):Prop where
 t:(r.t,HO.ins cL r.td (Pp r))∈M
 l:(r.ld,HO.dK [])∈M
 p:(r.p,HO.lst (nW r.pl))∈M
 s : ∀ x∈r.pl,(x.1,HO.tup (qp x.2))∈M
theorem Hr.mono {cL:Addr} {r:oE} {M M':Cells} (h:Hr cL r M) (up : ∀ c∈M,c∈M'):Hr cL r M':=⟨up _ h.t,up _ h.l,up _ h.p,λ x hx=>up _ (h.s x hx)⟩
structure fh (cT cF cD cS cI cL:Addr) (W:WR) (M:Cells):Prop where
 st : ∀ c∈(Cy cT cF cD cS cI) W.st W.dst W.s W.m W.q [],c∈M
 bk:(W.bk,HO.lst (W.bs.map λ x=>V.ref x.1))∈M
 bl : ∀ x∈W.bs,(x.2.2,HO.lst [])∈M
 b1:1<=W.bs.length
 b8:W.bs.length<=8
 m1:1<=W.m
 Jj:W.m<=64
 Mf:W.q<=512
 m0:0<=W.made
 up:(W.es.map (·.1)).Pairwise (· < ·)
 le : ∀ e∈W.es,1<=e.1/\e.1<=W.made
 ok : ∀ e∈W.es,Hr cL e.2 M
theorem fh.mono {cT cF cD cS cI cL:Addr} {W:WR} {M M':Cells} (h:fh cT cF cD cS cI cL W M) (up : ∀ c∈M,c∈M'):fh cT cF cD cS cI cL W M' := { h with st:=λ c hc=>up _ (h.st c hc),bk:=up _ h.bk,bl:=λ x hx=>up _ (h.bl x hx),ok:=λ e he=>(h.ok e he).mono up }
section
variable {M:Cells} {W:WR} (n:fh cT cF cD cS cI cL W M)
include n
theorem fh.GK:(W.st,HO.ins cT W.dst (Hq W.s))∈M:=n.st _ (by simp [Cy])
theorem fh.Jl:(W.s.fr,HO.ins cF W.s.Di (E9 W.s.hl W.s.rw W.s.so))∈M:=n.st _ (by simp [Cy])
theorem fh.Mg:(W.s.hl,HO.lst (List.replicate W.m .aN))∈M:=n.st _ (by simp [Cy])
theorem fh.Jm:(W.s.sh,HO.ins cS W.s.Fc (Hj W.s.pl W.s.rd))∈M:=n.st _ (by simp [Cy])
theorem fh.Mh:(W.s.pl,HO.lst (List.replicate W.q .aN))∈M:=n.st _ (by simp [Cy])
theorem fh.Mi:(W.s.ho,HO.dK [])∈M:=n.st _ (by simp [Cy])
end
theorem Led.down {H:Hp} {N L:Cells} (h:Led H (N++L)):Led H L:=h.sub (List.sublist_append_right N L)
def zc (cW cT cF cD cS cI cB cQ cL cN:Addr):Sp:=λ vs H Q E => ∃ (b dx:Addr) (x1 x2 x3 x4:V) (L:Cells),vs = [.ref b,x1,x2,x3,x4]/\Led H ((b,.ins cW dx [])::L)/\Dj L x1/\Dj L x2/\Dj L x3/\Dj L x4 ∧
 (∀ m p h s:Int,x1 = .int m->1<=m->m<=64->x2 = .int p->0<=p->p<=512->x3 = .int h->1<=h->h<=8->x4 = .int s->0<=s->s<=16->∀ (W:WR) (N:Cells) (H':Hp),W.b=b->W.es = []->W.made=0->W.m=m.toNat->W.q=p.toNat->W.bs.length=h.toNat->fh cT cF cD cS cI cL W N->Led H' (aU cW cB cQ W++(N++L))->Q .aN H') ∧
 (¬ (Km x1 1 64/\Km x2 0 512/\Km x3 1 8/\Km x4 0 16)->∀ N H',Led H' (N++L)->E (.ref cN) none H')
theorem CC {cB:Addr} {s:Int} {n:Nat} {vs:List V} {Cs:List Cells} (h1:vs.length=n) (h2:Cs.length=n) (hG : ∀ (i:Nat) v C,vs[i]? = some v->Cs[i]? = some C->∃ b dx l,v=V.ref b/\C = [(b,HO.ins cB dx (c9 s l)),(l,HO.lst [])]) : ∃ bs:List (Addr×Addr×Addr),bs.length=n/\vs=bs.map (λ x=>V.ref x.1)/\Cs.flatten.Perm (kY cB s bs++bs.map λ x=>(x.2.2,HO.lst [])):=by
 induction n generalizing vs Cs with
 | zero =>
   obtain rfl:=List.length_eq_zero_iff.mp h1
   obtain rfl:=List.length_eq_zero_iff.mp h2
   exact ⟨[],rfl,rfl,List.Perm.refl _⟩
 | succ n ih =>
   match vs,Cs,h1,h2 with
   | v::vs,C::Cs,h1,h2 =>
     obtain ⟨b,dx,l,rfl,rfl⟩:=hG 0 v C rfl rfl
     obtain ⟨bs,e1,e2,e3⟩:=ih (vs:=vs) (Cs:=Cs) (by simpa using h1) (by simpa using h2) λ i v C a b=>hG (i+1) v C (by simpa using a) (by simpa using b)
     refine ⟨(b,dx,l)::bs,by simp [e1],by simp [e2],?_⟩
     rw [List.flatten_cons]
     show ((b,HO.ins cB dx (c9 s l))::(l,HO.lst [])::([]++Cs.flatten)).Perm ((b,HO.ins cB dx (c9 s l))::(kY cB s bs++(l,HO.lst [])::bs.map λ x=>(x.2.2,HO.lst [])))
     exact List.Perm.cons _ ((List.Perm.cons _ e3).trans List.perm_middle.symm)
theorem CD (D:fk K cW "World.__init__" gP) (B:e9 mg) (T:(Txt K mg cN c2 cP cA cG c3 cC c4 cU c6 cT cF cD cS cI cL cB cQ cW)) (tP:(cj P w K mg base) 3 cT ["self","many","places"] (za cT cF cD cS cI)) (xR:(cj P w K mg base) 1 cB ["self","slots"] (yW cB)) (aI:(aM P w K mg base) 2 "number" ["thing","low","high"] (eu cN)):(cj P w K mg base) 5 cW ["self","many","places","hands","slots"] (zc cW cT cF cD cS cI cB cQ cL cN):=by
 have sc:=kg
 refine D.o6 kg (λ vs H Q E h => ?_) (by walk_at "us") (λ f cdv A outer s H vs Q E hr h => ?_)
 ·walk_at "ln"
 ·obtain ⟨b,dx,x1,x2,x3,x4,L,rfl,hL,⟨t1,ht1⟩,⟨t2,Gy⟩,⟨t3,Pq⟩,⟨t4,Pr⟩,kQ,kE⟩:=h
  refine ⟨_,(@ah _ _ _ _ _ (@aL _ _ _ _ _ _ _ _ _ _ T.World T.gW (@aq _ 0 _ _ (by walk_at "v")) (@fm _ _ _ _ _ _ _ _ _ _ _ _ T.gr tP (hr.mono (by omega)) (by rfl) au (@aa _ _ _ _ _ (@ak _ _ _ _ _ _ _ _ _ _ _ aI (hr.mono (by omega)) (by rfl) bA (@aa _ _ _ _ _ (@aq _ 1 _ _ (by walk_at "v")) (@aa _ _ _ _ _ (@ao _ _ _ _) (@aa _ _ _ _ _ (@aH _ _ _ _ T.vz (by rfl) (by decide)) (@af _) (by rfl)) (by rfl)) (by rfl)) (by decide) (by rfl) (by rfl)) (@aa _ _ _ _ _ (@ak _ _ _ _ _ _ _ _ _ _ _ aI (hr.mono (by omega)) (by rfl) bA (@aa _ _ _ _ _ (@aq _ 2 _ _ (by walk_at "v")) (@aa _ _ _ _ _ (@ao _ _ _ _) (@aa _ _ _ _ _ (@aH _ _ _ _ T.vA (by rfl) (by decide)) (@af _) (by rfl)) (by rfl)) (by rfl)) (by decide) (by rfl) (by rfl)) (@af _) (by rfl)) (by rfl)) (by decide) (by rfl) (by rfl)) (by rfl)) (@ah _ _ _ _ _ (@aL _ _ _ _ _ _ _ _ _ _ T.World T.tu (@aq _ 0 _ _ (by walk_at "v")) (@gG _ _ "hand" _ _ _ _ _ _ _ _ _ rfl rfl rfl rfl u0 (cu (by kernel_rfl)) (@gi _ _ _ _ _ _ (by rfl) B.range (@aa _ _ _ _ _ (@ak _ _ _ _ _ _ _ _ _ _ _ aI (hr.mono (by omega)) (by rfl) bA (@aa _ _ _ _ _ (@aq _ 3 _ _ (by walk_at "v")) (@aa _ _ _ _ _ (@ao _ _ _ _) (@aa _ _ _ _ _ (@aH _ _ _ _ T.xE (by rfl) (by decide)) (@af _) (by rfl)) (by rfl)) (by rfl)) (by decide) (by rfl) (by rfl)) (@af _) (by rfl)) (by rfl)) (λ _ _ _ _=>(@gF _)) (λ _ _ _ _=>(@fm _ _ _ _ _ _ _ _ _ _ _ _ T.vG xR (hr.mono (by omega)) (by rfl) au (@aa _ _ _ _ _ (@ak _ _ _ _ _ _ _ _ _ _ _ aI (hr.mono (by omega)) (by rfl) Im (@aa _ _ _ _ _ (@pk _ 5 _ _ (by kernel_rfl) (by kernel_rfl) (by decide) (by decide)) (@aa _ _ _ _ _ (@ao _ _ _ _) (@aa _ _ _ _ _ (@aH _ _ _ _ T.xF (by rfl) (by decide)) (@af _) (by rfl)) (by rfl)) (by rfl)) (by decide) (by rfl) (by rfl)) (@af _) (by rfl)) (by decide) (by rfl) (by rfl))) (by intro _;rfl)) (by rfl)) (@ah _ _ _ _ _ (@aL _ _ _ _ _ _ _ _ _ _ T.World T.Eo (@aq _ 0 _ _ (by walk_at "v")) (@av _ _ _ _ _ _ _ _ mR (@bC _ _ _ _ (@aa _ _ _ _ _ (@ao _ _ _ _) (@af _) (by rfl))) (@aq _ 3 _ _ (by walk_at "v"))) (by rfl)) (@ah _ _ _ _ _ (@aL _ _ _ _ _ _ _ _ _ _ T.World T.Ce (@aq _ 0 _ _ (by walk_at "v")) (@ao _ _ _ _) (by rfl)) (@ah _ _ _ _ _ (@aL _ _ _ _ _ _ _ _ _ _ T.World T.gu (@aq _ 0 _ _ (by walk_at "v")) (@gk _ _) (by rfl)) (@aj _ _ _ (@aL _ _ _ _ _ _ _ _ _ _ T.World T.fX (@aq _ 0 _ _ (by walk_at "v")) (@ao _ _ _ _) (by rfl)))))))),?_⟩
  refine aA λ M1 K1 => ?_
  walk_at "ge"
  refine ⟨x1,t1,1,64,rfl,ht1 _ hL.tail,λ m e1 m1 Jj => ?_,λ hno=>kE (λ z=>by obtain ⟨⟨n,e,a,b⟩,_⟩:=z;exact hno n e a b) [(b,.ins cW dx [])] _ hL⟩
  walk_at "ge"
  refine ⟨x2,t2,0,512,rfl,Gy _ hL.tail,λ p e2 p0 Mj => ?_,λ hno=>kE (λ z=>by obtain ⟨_,⟨n,e,a,b⟩,_⟩:=z;exact hno n e a b) [(b,.ins cW dx [])] _ hL⟩
  walk_at "ge"
  intro st dst z1 z2 z3
  refine ⟨st,dst,m,p,_,rfl,hL.make z1 z2 z3,by omega,Jj,p0,by omega,λ sa H1 hl1=>⟨rfl,?_⟩⟩
  clear z1 z2 z3 hL
  obtain ⟨S,hS⟩ : ∃ S:Cells,(Cy cT cF cD cS cI) st dst sa m.toNat p.toNat []=S:=⟨_,rfl⟩
  have hl2:Led H1 ((b,.ins cW dx [])::(S++L)):=hl1.wk (by rw [<-hS];unfold Cy;simp only [List.cons_append,List.nil_append];walk_at "sp")
  clear hl1
  have hl3:Led (upd H1 b (.ins cW dx (bu (Str.ofString "store") (V.ref st) []))) ((b,.ins cW dx [("store",.ref st)])::_):=hl2.put rfl rfl
  walk_at "ge"
  refine K1.use ?_
  walk_at "cl"
  clear K1 hl2
  generalize upd H1 b (.ins cW dx (bu (Str.ofString "store") (V.ref st) []))=H2 at hl3 ⊢
  refine aA λ M1 K1 => ?_
  walk_at "ge"
  refine Gs λ Lc uB => ?_
  walk_at "ge"
  refine ⟨x3,t3,1,8,rfl,Pq _ (Led.down hl3.tail),λ h e3 h1 h8 => ?_,λ hno=>kE (λ z=>by obtain ⟨_,_,⟨n,e,a,b⟩,_⟩:=z;exact hno n e a b) ((b,.ins cW dx [("store",.ref st)])::S) _ hl3⟩
  walk_at "ge"
  refine ⟨_,rfl,by omega,by omega,uB.use ?_⟩
  clear uB
  refine xA (λ i v C => ∃ s b dx l,(x4 = .int s/\0<=s/\s<=16)/\v=V.ref b/\C = [(b,HO.ins cB dx (c9 s l)),(l,HO.lst [])]) hl3 (by have:=sizeLine_eq;omega) (λ i H2 R M hi bF hR => ?_) (λ bk vs Cs H3 hv hc hG bF => ?_)
  ·walk_at "ge"
   refine ⟨x4,t4,0,16,rfl,Pr _ (Led.down (N:=S) (Led.down bF).tail),λ s e4 s0 Ml => ?_,λ hno=>kE (λ z=>by obtain ⟨_,_,_,n,e,a,b⟩:=z;exact hno n e a b) (M++((b,.ins cW dx [("store",.ref st)])::S)) _ (by rw [List.append_assoc];exact bF)⟩
   walk_at "ge"
   intro q dq z1 z2 z3
   refine ⟨q,dq,s,_,rfl,bF.make z1 z2 z3,λ l H5 dY=>⟨rfl,?_⟩⟩
   exact hR _ _ _ ⟨s,q,dq,l,⟨e4,s0,Ml⟩,rfl,rfl⟩ dY
  ·have hpos:0 < vs.length:=by omega
   have Fd:0 < Cs.length:=by omega
   obtain ⟨s,_,_,_,⟨e4,s0,Ml⟩,-⟩:=hG 0 _ _ (List.getElem?_eq_getElem hpos) (List.getElem?_eq_getElem Fd)
   obtain ⟨bs,Hs,rfl,NP⟩:=CC (cB:=cB) (s:=s) hv hc λ i v C a b=>by
    obtain ⟨s',b,dx,l,⟨NQ,_⟩,q1,q2⟩:=hG i v C a b
    rw [e4] at NQ
    cases NQ
    exact ⟨b,dx,l,q1,q2⟩
   generalize Cs.flatten=C at NP bF
   clear hG hv hc hpos Fd
   have dY:Led H3 ((b,.ins cW dx [("store",.ref st)])::(bk,.lst (bs.map λ x=>V.ref x.1))::(C++(S++L))):=bF.wk (by walk_at "sp")
   have fH:Led (upd H3 b (.ins cW dx (bu (Str.ofString "books") (V.ref bk) [("store",.ref st)]))) ((b,.ins cW dx [("store",.ref st),("books",.ref bk)])::_):=dY.put rfl rfl
   clear bF hl3
   walk_at "ge"
   refine K1.use ?_
   walk_at "cl"
   clear K1 dY
   generalize upd H3 b (.ins cW dx (bu (Str.ofString "books") (V.ref bk) [("store",.ref st)]))=H4 at fH ⊢
   subst e3
   refine aA λ M1 K1 => ?_
   walk_at "ge"
   rename Led _ _=>iC
   refine Ah (iC.get mS) ⟨by omega,by omega⟩ (by have:=sizeLine_eq;simp only [List.length_cons,List.length_nil];omega) (Led.alloc iC λ wk H5 _ p9 _ => ?_)
   rw [AA] at p9
   have kX:Led H5 ((b,.ins cW dx [("store",.ref st),("books",.ref bk)])::(wk,.lst (List.replicate h.toNat (.int 0)))::(bk,.lst (bs.map λ x=>V.ref x.1))::(C++(S++L))):=p9.wk (by walk_at "sp")
   have vX:Led (upd H5 b (.ins cW dx (bu (Str.ofString "walks") (V.ref wk) [("store",.ref st),("books",.ref bk)]))) ((b,.ins cW dx [("store",.ref st),("books",.ref bk),("walks",.ref wk)])::_):=kX.put rfl rfl
   clear fH iC p9
   walk_at "ge"
   refine K1.use ?_
   walk_at "cl"
   clear K1 kX
   generalize upd H5 b (.ins cW dx (bu (Str.ofString "walks") (V.ref wk) [("store",.ref st),("books",.ref bk)]))=H6 at vX ⊢
   refine aA λ M1 K1 => ?_
   walk_at "ge"
   have xO:Led (upd H6 b (.ins cW dx (bu (Str.ofString "copies") (V.int 0) [("store",.ref st),("books",.ref bk),("walks",.ref wk)]))) ((b,.ins cW dx [("store",.ref st),("books",.ref bk),("walks",.ref wk),("copies",.int 0)])::_):=vX.put rfl rfl
   refine K1.use ?_
   walk_at "cl"
   clear K1 vX
   generalize upd H6 b (.ins cW dx (bu (Str.ofString "copies") (V.int 0) [("store",.ref st),("books",.ref bk),("walks",.ref wk)]))=H7 at xO ⊢
   refine aA λ M1 K1 => ?_
   walk_at "ge"
   rename_i sp H8 _ CA _
   have CB:Led (upd H8 b (.ins cW dx (bu (Str.ofString "spaces") (V.ref sp) [("store",.ref st),("books",.ref bk),("walks",.ref wk),("copies",.int 0)]))) ((b,.ins cW dx [("store",.ref st),("books",.ref bk),("walks",.ref wk),("copies",.int 0),("spaces",.ref sp)])::_):=(CA.swap).put rfl rfl
   refine K1.use ?_
   walk_at "cl"
   clear K1 xO CA
   generalize upd H8 b (.ins cW dx (bu (Str.ofString "spaces") (V.ref sp) [("store",.ref st),("books",.ref bk),("walks",.ref wk),("copies",.int 0)]))=H9 at CB ⊢
   walk_at "ge"
   obtain ⟨W,eW⟩ : ∃ W:WR,W = ⟨b,dx,st,dst,sa,bk,wk,sp,bs,s,[],0,m.toNat,p.toNat⟩:=⟨_,rfl⟩
   have Et:=CB.put (o' := .ins cW dx (wF W)) rfl rfl
   rw [show bu (Str.ofString "spaces_made") (V.int 0) [("store",.ref st),("books",.ref bk),("walks",.ref wk),("copies",.int 0),("spaces",.ref sp)]=wF W by rw [eW];rfl]
   refine kQ m p h s e1 m1 Jj e2 p0 Mj rfl h1 h8 e4 s0 Ml W ((wk,.lst (List.replicate h.toNat (.int 0)))::(bk,.lst (bs.map λ x=>V.ref x.1))::((bs.map λ x=>(x.2.2,HO.lst []))++S)) _ (by rw [eW]) (by rw [eW]) (by rw [eW]) (by rw [eW]) (by rw [eW]) (by rw [eW];exact Hs) ?_ ?_
   ·rw [eW]
    exact { st:=λ c hc=>by rw [hS] at hc;exact mC (mC (mA hc)),bk:=mC mS,bl:=λ x hx=>mC (mC (mB (List.mem_map.mpr ⟨x,hx,rfl⟩))),b1:=by show 1<=bs.length;omega,b8:=by show bs.length<=8;omega,m1:=by show 1<=m.toNat;omega,Jj:=by show m.toNat<=64;omega,Mf:=by show p.toNat<=512;omega,m0:=Int.le_refl 0,up:=List.Pairwise.nil,le:=λ e he=>(nomatch he),ok:=λ e he=>(nomatch he) }
   ·have h5:Led (upd H9 b (.ins cW dx (wF W))) ((b,.ins cW dx (wF W))::(sp,.dK [])::(wk,.lst (List.replicate h.toNat (.int 0)))::(bk,.lst (bs.map λ x=>V.ref x.1))::(C++(S++L))):=Et
    have eB:aU cW cB cQ W=(b,.ins cW dx (wF W))::(sp,.dK [])::(kY cB s bs++[]):=by unfold aU;rw [eW];rfl
    rw [eB]
    refine Led.perm h5 (List.Perm.cons _ (List.Perm.cons _ ?_))
    rw [List.append_nil]
    have p1:(C++(S++L)).Perm (kY cB s bs++((bs.map λ x=>(x.2.2,HO.lst []))++(S++L))):=by
     have:=NP.append_right (S++L)
     rw [List.append_assoc] at this
     exact this
    refine (List.Perm.cons _ (List.Perm.cons _ p1)).trans ?_
    have e6:kY cB s bs++((wk,HO.lst (List.replicate h.toNat (.int 0)))::(bk,HO.lst (bs.map λ x=>V.ref x.1))::((bs.map λ x=>(x.2.2,HO.lst []))++S)++L)=kY cB s bs++([(wk,HO.lst (List.replicate h.toNat (.int 0))),(bk,HO.lst (bs.map λ x=>V.ref x.1))]++((bs.map λ x=>(x.2.2,HO.lst []))++(S++L))):=by simp
    have e7:(wk,HO.lst (List.replicate h.toNat (.int 0)))::(bk,HO.lst (bs.map λ x=>V.ref x.1))::(kY cB s bs++((bs.map λ x=>(x.2.2,HO.lst []))++(S++L)))=([(wk,HO.lst (List.replicate h.toNat (.int 0))),(bk,HO.lst (bs.map λ x=>V.ref x.1))]++kY cB s bs)++((bs.map λ x=>(x.2.2,HO.lst []))++(S++L)):=by simp
    have p2:((wk,HO.lst (List.replicate h.toNat (.int 0)))::(bk,HO.lst (bs.map λ x=>V.ref x.1))::(kY cB s bs++((bs.map λ x=>(x.2.2,HO.lst []))++(S++L)))).Perm (kY cB s bs++((wk,HO.lst (List.replicate h.toNat (.int 0)))::(bk,HO.lst (bs.map λ x=>V.ref x.1))::((bs.map λ x=>(x.2.2,HO.lst []))++S)++L)):=by
     rw [e6,e7]
     exact (List.perm_append_comm.append_right _).trans (List.Perm.of_eq (List.append_assoc ..))
    exact p2
def zd (f:Int->Int):Sp:=λ vs H Q _ => ∃ p:Int,vs = [.int p]/\Q (.int (f p)) H
theorem xS (D:Def K mg "page_of" mY) (T:(Txt K mg cN c2 cP cA cG c3 cC c4 cU c6 cT cF cD cS cI cL cB cQ cW)):(aM P w K mg base) 1 "page_of" ["place"] (zd λ p=>p / 4):=by
 have sc:=pB
 refine D.ok pB (λ vs H Q E h => ?_) (by walk_at "us") (λ f cdv A outer s H vs Q E hr h => ?_)
 ·walk_at "ln"
 ·obtain ⟨p,rfl,k⟩:=h
  refine ⟨_,(@aj _ _ _ (@ay _ _ _ _ (@av _ _ _ _ _ _ _ _ fK (@aq _ 0 _ _ (by walk_at "v")) (@aH _ _ _ _ T.ee (by rfl) (by decide))))),?_⟩
  walk_at "ge"
  exact k
theorem xT (D:Def K mg "cell_of" mZ) (T:(Txt K mg cN c2 cP cA cG c3 cC c4 cU c6 cT cF cD cS cI cL cB cQ cW)):(aM P w K mg base) 1 "cell_of" ["place"] (zd λ p=>p % 4):=by
 have sc:=pC
 refine D.ok pC (λ vs H Q E h => ?_) (by walk_at "us") (λ f cdv A outer s H vs Q E hr h => ?_)
 ·walk_at "ln"
 ·obtain ⟨p,rfl,k⟩:=h
  refine ⟨_,(@aj _ _ _ (@ay _ _ _ _ (@av _ _ _ _ _ _ _ _ bM (@aq _ 0 _ _ (by walk_at "v")) (@aH _ _ _ _ T.ee (by rfl) (by decide))))),?_⟩
  walk_at "ge"
  exact k
def ze:Sp:=λ vs H Q _ => ∃ n:Int,vs = [.int n]/\0<=n/\n<=1000/\Q (.int n) H
theorem qb (D:Def K mg "cell_number" fR) (aI:(aM P w K mg base) 2 "number" ["thing","low","high"] (eu cN)):(aM P w K mg base) 3 "cell_number" ["thing"] ze:=by
 have sc:=iX
 refine D.ok iX (λ vs H Q E h => ?_) (by walk_at "us") (λ f cdv A outer s H vs Q E hr h => ?_)
 ·walk_at "ln"
 ·obtain ⟨n,rfl,n0,n9,k⟩:=h
  refine ⟨_,(@aj _ _ _ (@ay _ _ _ _ (@ak _ _ _ _ _ _ _ _ _ _ _ aI (hr.mono (by omega)) (by rfl) au (@aa _ _ _ _ _ (@aq _ 0 _ _ (by walk_at "v")) (@aa _ _ _ _ _ (@av _ _ _ _ _ _ _ _ cg (@ao _ _ _ _) (@av _ _ _ _ _ _ _ _ r9 (@ao _ _ _ _) (@ao _ _ _ _))) (@aa _ _ _ _ _ (@av _ _ _ _ _ _ _ _ cg (@av _ _ _ _ _ _ _ _ r9 (@ao _ _ _ _) (@ao _ _ _ _)) (@ao _ _ _ _)) (@af _) (by rfl)) (by rfl)) (by rfl)) (by decide) (by rfl) (by rfl)))),?_⟩
  walk_at "ge"
  refine ⟨.int n,_,_,_,rfl,Dg,λ m e _ _ => ?_,λ hno=>(hno n rfl (by omega) (by omega)).elim⟩
  cases e
  walk_at "ge"
  exact k
def tQ:Sp:=λ vs H Q _ => ∃ (c:Int) (L:Cells),vs = [.int 5,.int c]/\(c=0\/c=1)/\Led H L ∧ ∀ (r:Addr) (xs:List Addr) (N:Cells) (H':Hp),(∀ x∈xs,(x,HO.tup [.int 1,.int 1,.int 1])∈N)->xs.length<=1->(r,HO.lst (xs.map V.ref))∈N->Led H' (N++L)->Q (.ref r) H'
theorem CF (D:Def K mg "parts" sS) (B:e9 mg) (T:(Txt K mg cN c2 cP cA cG c3 cC c4 cU c6 cT cF cD cS cI cL cB cQ cW)) (nk:(aM P w K mg base) 1 "page_of" ["place"] (zd λ p=>p / 4)) (nq:(aM P w K mg base) 1 "cell_of" ["place"] (zd λ p=>p % 4)):(aM P w K mg base) 2 "parts" ["place","many"] tQ:=by
 have sc:=vo
 refine D.ok vo (λ vs H Q E h => ?_) (by walk_at "us") (λ f cdv A outer s H vs Q E hr h => ?_)
 ·walk_at "ln"
 ·obtain ⟨c,L,rfl,hc,hL,k⟩:=h
  refine ⟨_,(@ah _ _ _ _ _ (@aB _ _ 2 _ _ _ _ sc.nd rfl (by walk_at "o2") (@bC _ _ _ _ (@af _)) (by rfl) (by walk_at "o4")) (@ah _ _ _ _ _ (@aB _ _ 3 _ _ _ _ sc.nd rfl (by walk_at "o2") (@aq _ 0 _ _ (by walk_at "v")) (by rfl) (by walk_at "o4")) (@ah _ _ _ _ _ (@aB _ _ 4 _ _ _ _ sc.nd rfl (by walk_at "o2") (@av _ _ _ _ _ _ _ _ bg (@aq _ 0 _ _ (by walk_at "v")) (@aq _ 1 _ _ (by walk_at "v"))) (by rfl) (by walk_at "o4")) (@ah _ _ _ _ _ (@A5 _ _ _ _ _ _ PassesOwn.never (@aG _ _ _ _ _ _ _ _ oM (@aq _ 3 _ _ (by walk_at "v")) (@aq _ 4 _ _ (by walk_at "v")) (aR _)) (@ah _ _ _ _ _ (@aB _ _ 5 _ _ _ _ sc.nd rfl (by walk_at "o2") (@ak _ _ _ _ _ _ _ _ _ _ _ nq (hr.mono (by omega)) (by rfl) au (@aa _ _ _ _ _ (@aq _ 3 _ _ (by walk_at "v")) (@af _) (by rfl)) (by decide) (by rfl) (by rfl)) (by rfl) (by walk_at "o4")) (@ah _ _ _ _ _ (@aB _ _ 6 _ _ _ _ sc.nd rfl (by walk_at "o2") (@aD _ _ _ _ _ _ _ _ _ (mK rfl) (by rfl) B.min xo (@aa _ _ _ _ _ (@av _ _ _ _ _ _ _ _ cg (@aH _ _ _ _ T.ee (by rfl) (by decide)) (@aq _ 5 _ _ (by walk_at "v"))) (@aa _ _ _ _ _ (@av _ _ _ _ _ _ _ _ cg (@aq _ 4 _ _ (by walk_at "v")) (@aq _ 3 _ _ (by walk_at "v"))) (@af _) (by rfl)) (by rfl)) (by decide) (by decide) (by rfl) (by rfl)) (by rfl) (by walk_at "o4")) (@ah _ _ _ _ _ (@az _ _ _ _ (@jP _ _ _ _ _ _ _ _ _ _ _ _ PySem.F.plainAttrs_list PySem.F.slot_list_append PySem.F.type_list_append bY (@aq _ 2 _ _ (by walk_at "v")) (@aa _ _ _ _ _ (@fj _ _ _ _ _ (@aa _ _ _ _ _ (@ak _ _ _ _ _ _ _ _ _ _ _ nk (hr.mono (by omega)) (by rfl) au (@aa _ _ _ _ _ (@aq _ 3 _ _ (by walk_at "v")) (@af _) (by rfl)) (by decide) (by rfl) (by rfl)) (@aa _ _ _ _ _ (@aq _ 5 _ _ (by walk_at "v")) (@aa _ _ _ _ _ (@aq _ 6 _ _ (by walk_at "v")) (@af _) (by rfl)) (by rfl)) (by rfl))) (@af _) (by rfl)) (by rfl) (by rfl) (by rfl) (by rfl) (by rfl)) (by rfl)) (@aj _ _ _ (@aB _ _ 3 _ _ _ _ sc.nd rfl (by walk_at "o2") (@av _ _ _ _ _ _ _ _ bg (@aq _ 3 _ _ (by walk_at "v")) (@aq _ 6 _ _ (by walk_at "v"))) (by rfl) (by walk_at "o4"))))))) (@aj _ _ _ (@ay _ _ _ _ (@aq _ 2 _ _ (by walk_at "v")))))))),?_⟩
  refine aA λ M1 K1 => ?_
  walk_at "ge"
  rename_i tl H1 _ hl1 _
  refine K1.use ?_
  walk_at "cl"
  clear K1 hL
  refine aA λ M1 K1 => ?_
  walk_at "ge"
  refine K1.use ?_
  walk_at "cl"
  clear K1
  refine aA λ M1 K1 => ?_
  walk_at "ge"
  refine K1.use ?_
  walk_at "cl"
  clear K1
  refine aA λ M1 K1 => ?_
  have w0 : ∃ (xs:List Addr) (N:Cells) (v5 v6:Option V) (h:Int),Led H1 ((tl,HO.lst (xs.map V.ref))::(N++L))/\(∀ x∈xs,(x,HO.tup [.int 1,.int 1,.int 1])∈N)/\((h=5/\xs = []/\c.toNat=c.toNat)\/(h=6/\xs.length=1/\c.toNat=0/\c=1))/\([some (.int 5),some (.int c),some (.ref tl),some (.int 5),some (.int (5+c)),none,none]:L2.St) = [some (.int 5),some (.int c),some (.ref tl),some (.int h),some (.int (5+c)),v5,v6]:=⟨[],[],none,none,5,hl1,λ x hx=>(nomatch hx),.inl ⟨rfl,rfl,rfl⟩,rfl⟩
  refine GB (λ m σ H' => ∃ (xs:List Addr) (N:Cells) (v5 v6:Option V) (h:Int),Led H' ((tl,HO.lst (xs.map V.ref))::(N++L))/\(∀ x∈xs,(x,HO.tup [.int 1,.int 1,.int 1])∈N)/\((h=5/\xs = []/\m=c.toNat)\/(h=6/\xs.length=1/\m=0/\c=1)) ∧ σ = [some (.int 5),some (.int c),some (.ref tl),some (.int h),some (.int (5+c)),v5,v6]) c.toNat w0 ?_
  clear w0 hl1
  rintro m σ H' R ⟨xs,N,v5,v6,h,hl,hx,hh,rfl⟩ hR
  have fin:xs.length<=1->M1 [some (.int 5),some (.int c),some (.ref tl),some (.int h),some (.int (5+c)),v5,v6] H':=λ h1=>by
   refine K1.use ?_
   walk_at "ge"
   exact k tl xs ((tl,HO.lst (xs.map V.ref))::N) H' (λ x hx'=>mC (hx x hx')) h1 mS hl
  rcases hh with ⟨rfl,rfl,rfl⟩ | ⟨rfl,h1,rfl,rfl⟩
  ·rcases hc with rfl | rfl
   ·walk_at "ge"
    all_goals first | (exfalso;omega) | skip
    exact fin (by decide)
   ·clear fin K1
    walk_at "ge"
    all_goals first | (exfalso;omega) | skip
    refine ⟨fun σ' Pu => ∃ m',m' < (1:Int).toNat ∧ ∃ (xs:List Addr) (N:Cells) (v5 v6:Option V) (h:Int),Led Pu ((tl,HO.lst (xs.map V.ref))::(N++L))/\(∀ x∈xs,(x,HO.tup [.int 1,.int 1,.int 1])∈N)/\((h=5/\xs = []/\m' = (1:Int).toNat)\/(h=6/\xs.length=1/\m' = 0/\(1:Int)=1)) ∧ σ' = [some (.int 5),some (.int 1),some (.ref tl),some (.int h),some (.int (5+1)),v5,v6],fun σ' H' z=>z,?_⟩
    refine aA λ M1 K1 => ?_
    walk_at "ge"
    refine ⟨5,rfl,?_⟩
    walk_at "ge"
    refine K1.use ?_
    walk_at "cl"
    clear K1
    refine aA λ M1 K1 => ?_
    walk_at "ge"
    refine ⟨_,_,rfl,?_⟩
    walk_at "ge"
    refine K1.use ?_
    walk_at "cl"
    clear K1
    refine aA λ M1 K1 => ?_
    have Kn:=hl.get mS
    walk_at "ge"
    refine ⟨Aj Kn,?_⟩
    clear Kn
    walk_at "ge"
    refine ⟨5,rfl,?_⟩
    walk_at "ge"
    rename_i u H2 _ hl2 _
    refine Ai (hl2.get (mC mS)) (by decide) ?_
    have hl3:=(hl2.swap).put (o' := .lst (List.map V.ref []++[V.ref u])) rfl rfl
    generalize upd H2 tl (.lst (List.map V.ref []++[V.ref u]))=H3 at hl3 ⊢
    clear hl hl2
    walk_at "ge"
    refine K1.use ?_
    walk_at "cl"
    clear K1
    walk_at "ge"
    exact ⟨0,by decide,[u],(u,HO.tup [.int 1,.int 1,.int 1])::N,_,_,6,hl3,λ x hx'=>by rw [List.mem_singleton.mp hx'];exact mS,.inr ⟨rfl,rfl,rfl,rfl⟩,rfl⟩
  ·walk_at "ge"
   all_goals first | (exfalso;omega) | skip
   exact fin (by omega)
def tR (cL:Addr):Sp:=λ vs H Q _ => ∃ (b dx:Addr) (L:Cells),vs = [.ref b]/\Led H ((b,.ins cL dx [])::L) ∧ ∀ d H',Led H' ((b,.ins cL dx [("leaf_by_upper",.ref d)])::(d,.dK [])::L)->Q .aN H'
theorem CG (D:fk K cL "Table.__init__" gM) (T:(Txt K mg cN c2 cP cA cG c3 cC c4 cU c6 cT cF cD cS cI cL cB cQ cW)):(cj P w K mg base) 1 cL ["self"] (tR cL):=by
 have sc:=j9
 refine D.ok j9 (λ vs H Q E h => ?_) (by walk_at "us") (λ f cdv A outer s H vs Q E hr h => ?_)
 ·walk_at "ln"
 ·obtain ⟨b,dx,L,rfl,hL,k⟩:=h
  refine ⟨_,(@aj _ _ _ (@aL _ _ _ _ _ _ _ _ _ _ T.Table T.eK (@aq _ 0 _ _ (by walk_at "v")) (@gk _ _) (by rfl))),?_⟩
  walk_at "ge"
  rename_i d H5 _ fH _
  have iC:=(fH.swap).put (o' := .ins cL dx [("leaf_by_upper",.ref d)]) rfl rfl
  exact k d _ iC
def Mm (cL t:Addr) (L:Cells):Prop := ∃ td ld,(t,HO.ins cL td [("leaf_by_upper",.ref ld)])∈L/\(ld,HO.dK [])∈L
def tS (cL:Addr):Sp:=λ vs H Q _ => ∃ (t:Addr) (L:Cells),vs = [.ref t]/\Led H L/\Mm cL t L ∧ ∀ (r:Addr) (N:Cells) (H':Hp),(r,HO.lst [])∈N->Led H' (N++L)->Q (.ref r) H'
theorem AF (D:dD K cL "leaves" "Table.leaves" fu) (B:e9 mg) (T:(Txt K mg cN c2 cP cA cG c3 cC c4 cU c6 cT cF cD cS cI cL cB cQ cW)):(bH P w K mg base) 1 cL "leaves" ["self"] (tS cL):=by
 have sc:=iz
 refine D.ok iz (λ vs H Q E h => ?_) (by walk_at "us") (λ f cdv A outer s H vs Q E hr h => ?_)
 ·walk_at "ln"
 ·obtain ⟨t,L,rfl,hL,⟨td,ld,i1,i2⟩,k⟩:=h
  have hu:=gw hr
  have c1:=hL.get i1
  have c2:=hL.get i2
  refine ⟨_,(@aj _ _ _ (@ay _ _ _ _ (@gG _ _ "upper" _ _ _ _ _ _ _ _ _ rfl rfl rfl rfl JZ (cu (by kernel_rfl)) (@bB _ _ _ _ (@aD _ _ _ _ _ _ _ _ _ (xx rfl) (by rfl) B.sorted jB (@aa _ _ _ _ _ (@aF _ _ _ _ _ _ _ T.Table T.eK (@aq _ 0 _ _ (by walk_at "v")) (by rfl)) (@af _) (by rfl)) (by decide) (by decide) (by rfl) (by rfl))) (λ _ _ _ _=>(@gF _)) (λ _ _ _ _=>(@fj _ _ _ _ _ (@aa _ _ _ _ _ (@pk _ 0 _ _ (by kernel_rfl) (by kernel_rfl) (by decide) (by decide)) (@aa _ _ _ _ _ (@dU _ _ _ _ _ _ _ _ _ (bJ (K:=K) rfl) (by rfl) B.list d9 (@aa _ _ _ _ _ (@bU _ _ _ _ _ _ hu (@aF _ _ _ _ _ _ _ T.Table T.eK (@pk _ 1 _ _ (by kernel_rfl) (by kernel_rfl) (by decide) (by decide)) (by rfl)) (@pk _ 0 _ _ (by kernel_rfl) (by kernel_rfl) (by decide) (by decide)) (λ _ _=>rfl)) (@af _) (by rfl)) (by decide) (by decide) (by rfl) (by rfl)) (@af _) (by rfl)) (by rfl)))) (by intro _;rfl)))),?_⟩
  walk_at "ge"
  refine rJ λ Lc uB => ?_
  walk_at "ge"
  refine GA (ns:=[]) c2 rfl (by decide) λ ms hp _ l hl => ?_
  obtain rfl:=hp.eq_nil
  have hl1:=hL.new (o := .lst []) hl
  refine ⟨l,rfl,⟨_,bW.of (hl1.get mS)⟩,uB.use ?_⟩
  refine gn [] (λ _ _ _=>False) hl1 List.mem_cons_self (by decide) (λ i y H4 R N hy bF hR => ?_) (λ r vs Cs H4 hvl hcl hG bF => ?_)
  ·cases hy
  ·obtain rfl:=List.length_eq_zero_iff.mp hvl
   obtain rfl:=List.length_eq_zero_iff.mp hcl
   walk_at "ge"
   exact k r [(r,.lst []),(l,.lst [])] H4 mS bF
theorem CH (D:dD K cL "pages" "Table.pages" fT) (B:e9 mg) (T:(Txt K mg cN c2 cP cA cG c3 cC c4 cU c6 cT cF cD cS cI cL cB cQ cW)) (fC:(bH P w K mg base) 1 cL "leaves" ["self"] (tS cL)):(bH P w K mg base) 2 cL "pages" ["self"] (tS cL):=by
 have sc:=iZ
 refine D.ok iZ (λ vs H Q E h => ?_) (by walk_at "us") (λ f cdv A outer s H vs Q E hr h => ?_)
 ·walk_at "ln"
 ·obtain ⟨t,L,rfl,hL,⟨td,ld,i1,i2⟩,k⟩:=h
  have hu:=gw hr
  refine ⟨_,(@ah _ _ _ _ _ (@aB _ _ 1 _ _ _ _ sc.nd rfl (by walk_at "o2") (@bC _ _ _ _ (@af _)) (by rfl) (by walk_at "o4")) (@ah _ _ _ _ _ (@bT _ _ _ _ _ _ _ _ PassesOwn.never rfl (@bB _ _ _ _ (@ff _ _ _ _ _ _ _ _ _ _ _ _ _ T.Table fC (hr.mono (by omega)) au (@aq _ 0 _ _ (by walk_at "v")) (by rfl))) (@r8 _ _ _ _ _ _ rfl (@cO _ _ _ _ _ (@aX _ _ 2 _ sc.nd rfl (by walk_at "o2") (by walk_at "o4")) (@cO _ _ _ _ _ (@aX _ _ 3 _ sc.nd rfl (by walk_at "o2") (by walk_at "o4")) (@ow _) (by rfl)) (by rfl)) (by rfl) (by rfl)) (@aj _ _ _ (@bT _ _ _ _ _ _ _ _ PassesOwn.never rfl (@D9 _ _ _ _ _ _ _ _ (by rfl) B.enumerate (@aa _ _ _ _ _ (@aq _ 3 _ _ (by walk_at "v")) (@af _) (by rfl)) (by rfl)) (@r8 _ _ _ _ _ _ rfl (@cO _ _ _ _ _ (@aX _ _ 4 _ sc.nd rfl (by walk_at "o2") (by walk_at "o4")) (@cO _ _ _ _ _ (@aX _ _ 5 _ sc.nd rfl (by walk_at "o2") (by walk_at "o4")) (@ow _) (by rfl)) (by rfl)) (by rfl) (by rfl)) (@aj _ _ _ (@aZ _ _ _ _ _ _ _ _ (@aG _ _ _ _ _ _ _ _ ym (@aq _ 5 _ _ (by walk_at "v")) (@kG _ _ _) (aR _)) (@aj _ _ _ (@az _ _ _ _ (@jP _ _ _ _ _ _ _ _ _ _ _ _ PySem.F.plainAttrs_list PySem.F.slot_list_append PySem.F.type_list_append bY (@aq _ 1 _ _ (by walk_at "v")) (@aa _ _ _ _ _ (@av _ _ _ _ _ _ _ _ bg (@av _ _ _ _ _ _ _ _ mJ (@aH _ _ _ _ T.qC (by rfl) (by decide)) (@aq _ 2 _ _ (by walk_at "v"))) (@aq _ 4 _ _ (by walk_at "v"))) (@af _) (by rfl)) (by rfl) (by rfl) (by rfl) (by rfl) (by rfl)) (by rfl))) (@aO _))) (by intro _;rfl))) (by intro _;rfl)) (@aj _ _ _ (@ay _ _ _ _ (@aq _ 1 _ _ (by walk_at "v")))))),?_⟩
  refine aA λ M1 K1 => ?_
  walk_at "ge"
  rename_i tl H1 _ hl1 _
  refine K1.use ?_
  walk_at "cl"
  clear K1 hL
  refine aA λ M1 K1 => ?_
  refine forL λ Lr gx => ?_
  have c1:=hl1.get (mC i1)
  walk_at "ge"
  refine ⟨t,_,rfl,hl1,⟨td,ld,mC i1,mC i2⟩,λ r N H2 oF hl2 => ?_⟩
  refine ⟨r,rfl,⟨_,bW.of (hl2.get (mB oF))⟩,gx.use ?_⟩
  clear gx hl1 c1
  refine jQ [] (λ i σ H'=>H' = H2 ∧ σ = [some (.ref t),some (.ref tl),none,none,none,none]) ⟨rfl,rfl⟩ (λ i σ H' _ h => ?_) ?_ ?_
  ·rw [h.1]
   exact bW.of (hl2.get (mB oF))
  ·rintro i v σ H' hv _
   cases hv
  ·rintro σ H' ⟨rfl,rfl⟩
   refine K1.use ?_
   walk_at "ge"
   exact k tl (N++[(tl,.lst [])]) H' (mA mS) (by rw [List.append_assoc];exact hl2)
def zf (cL:Addr):Sp:=λ vs H Q _ => ∃ (t:Addr) (L:Cells),vs = [.ref t]/\Led H L/\Mm cL t L ∧ ∀ (u:Addr) (N:Cells) (H':Hp),Mm cL u N->Led H' (N++L)->Q (.ref u) H'
theorem xU (D:Def K mg "copy_of" m8) (B:e9 mg) (T:(Txt K mg cN c2 cP cA cG c3 cC c4 cU c6 cT cF cD cS cI cL cB cQ cW)) (jE:(cj P w K mg base) 1 cL ["self"] (tR cL)) (bw:(bH P w K mg base) 2 cL "pages" ["self"] (tS cL)) (jo:(bH P w K mg base) 1 cL "lay" ["self","page","sheet"] eV) (aT:(bH P w K mg base) 1 cL "sheet_at" ["self","page"] eV):(aM P w K mg base) 3 "copy_of" ["table"] (zf cL):=by
 have sc:=pF
 refine D.ok pF (λ vs H Q E h => ?_) (by walk_at "us") (λ f cdv A outer s H vs Q E hr h => ?_)
 ·walk_at "ln"
 ·obtain ⟨t,L,rfl,hL,⟨td,ld,i1,i2⟩,k⟩:=h
  have hu:=gw hr
  refine ⟨_,(@ah _ _ _ _ _ (@aB _ _ 1 _ _ _ _ sc.nd rfl (by walk_at "o2") (@mU _ _ _ _ _ _ _ _ _ T.Table jE (hr.mono (by omega)) (by rfl) au (by decide)) (by rfl) (by walk_at "o4")) (@ah _ _ _ _ _ (@bT _ _ _ _ _ _ _ _ PassesOwn.never rfl (@bB _ _ _ _ (@ff _ _ _ _ _ _ _ _ _ _ _ _ _ T.Table bw (hr.mono (by omega)) au (@aq _ 0 _ _ (by walk_at "v")) (by rfl))) (@aX _ _ 2 _ sc.nd rfl (by walk_at "o2") (by walk_at "o4")) (@aj _ _ _ (@az _ _ _ _ (@dI _ _ _ _ _ _ _ _ _ _ _ _ _ _ _ _ T.Table jo (hr.mono (by omega)) au (@aq _ 1 _ _ (by walk_at "v")) (@aa _ _ _ _ _ (@aq _ 2 _ _ (by walk_at "v")) (@aa _ _ _ _ _ (@dI _ _ _ _ _ _ _ _ _ _ _ _ _ _ _ _ T.Table aT (hr.mono (by omega)) au (@aq _ 0 _ _ (by walk_at "v")) (@aa _ _ _ _ _ (@aq _ 2 _ _ (by walk_at "v")) (@af _) (by rfl)) (by rfl) (by rfl) (by rfl)) (@af _) (by rfl)) (by rfl)) (by rfl) (by rfl) (by rfl)) (by rfl))) (by intro _;rfl)) (@aj _ _ _ (@ay _ _ _ _ (@aq _ 1 _ _ (by walk_at "v")))))),?_⟩
  refine aA λ M1 K1 => ?_
  walk_at "ge"
  intro u du z1 z2 z3
  refine ⟨u,du,_,rfl,hL.make z1 z2 z3,λ d H1 hl1=>⟨rfl,?_⟩⟩
  clear z1 z2 z3 hL
  walk_at "ge"
  refine K1.use ?_
  walk_at "cl"
  clear K1
  refine aA λ M1 K1 => ?_
  refine forL λ Lr gx => ?_
  have c1:=hl1.get (mC (mC i1))
  walk_at "ge"
  refine ⟨t,_,rfl,hl1,⟨td,ld,mC (mC i1),mC (mC i2)⟩,λ r N H2 oF hl2 => ?_⟩
  refine ⟨r,rfl,⟨_,bW.of (hl2.get (mB oF))⟩,gx.use ?_⟩
  clear gx hl1 c1
  refine jQ [] (λ i σ H'=>H' = H2 ∧ σ = [some (.ref t),some (.ref u),none]) ⟨rfl,rfl⟩ (λ i σ H' _ h => ?_) ?_ ?_
  ·rw [h.1]
   exact bW.of (hl2.get (mB oF))
  ·rintro i v σ H' hv _
   cases hv
  ·rintro σ H' ⟨rfl,rfl⟩
   refine K1.use ?_
   walk_at "ge"
   exact k u (N++[(u,.ins cL du [("leaf_by_upper",.ref d)]),(d,.dK [])]) H' ⟨du,d,mA mS,mA (mC mS)⟩ (by rw [List.append_assoc];exact hl2)
theorem tT (D:Def K mg "sheets_of" jb) (B:e9 mg) (T:(Txt K mg cN c2 cP cA cG c3 cC c4 cU c6 cT cF cD cS cI cL cB cQ cW)) (bw:(bH P w K mg base) 2 cL "pages" ["self"] (tS cL)) (aT:(bH P w K mg base) 1 cL "sheet_at" ["self","page"] eV):(aM P w K mg base) 3 "sheets_of" ["table"] (tS cL):=by
 have sc:=l5
 refine D.ok l5 (λ vs H Q E h => ?_) (by walk_at "us") (λ f cdv A outer s H vs Q E hr h => ?_)
 ·walk_at "ln"
 ·obtain ⟨t,L,rfl,hL,⟨td,ld,i1,i2⟩,k⟩:=h
  have hu:=gw hr
  have c1:=hL.get i1
  refine ⟨_,(@aj _ _ _ (@ay _ _ _ _ (@gG _ _ "page" _ _ _ _ _ _ _ _ _ rfl rfl rfl rfl JZ (cu (by kernel_rfl)) (@bB _ _ _ _ (@ff _ _ _ _ _ _ _ _ _ _ _ _ _ T.Table bw (hr.mono (by omega)) au (@aq _ 0 _ _ (by walk_at "v")) (by rfl))) (λ _ _ _ _=>(@gF _)) (λ _ _ _ _=>(@dI _ _ _ _ _ _ _ _ _ _ _ _ _ _ _ _ T.Table aT (hr.mono (by omega)) au (@pk _ 1 _ _ (by kernel_rfl) (by kernel_rfl) (by decide) (by decide)) (@aa _ _ _ _ _ (@pk _ 0 _ _ (by kernel_rfl) (by kernel_rfl) (by decide) (by decide)) (@af _) (by rfl)) (by rfl) (by rfl) (by rfl))) (by intro _;rfl)))),?_⟩
  walk_at "ge"
  refine rJ λ Lc uB => ?_
  walk_at "ge"
  refine ⟨t,_,rfl,hL,⟨td,ld,i1,i2⟩,λ l N H2 oj hl1 => ?_⟩
  refine ⟨l,rfl,⟨_,bW.of (hl1.get (mB oj))⟩,uB.use ?_⟩
  refine gn [] (λ _ _ _=>False) hl1 (mB oj) (by decide) (λ i y H4 R N hy bF hR => ?_) (λ r vs Cs H4 hvl hcl hG bF => ?_)
  ·cases hy
  ·obtain rfl:=List.length_eq_zero_iff.mp hvl
   obtain rfl:=List.length_eq_zero_iff.mp hcl
   walk_at "ge"
   exact k r ((r,.lst [])::N) H4 mS bF
def zg (cB:Addr):Sp:=λ vs H Q _ => ∃ (b dx l o:Addr) (n:Int) (L:Cells),vs = [.ref b,.ref o]/\Led H ((b,.ins cB dx (c9 n l))::L)/\(l,HO.lst [])∈L/\(o,HO.lst [])∈L ∧ ∀ H',Led H' ((b,.ins cB dx (c9 n o))::L)->Q (.int 0) H'
theorem tU (D:dD K cB "keep_just" "Book.keep_just" dX) (B:e9 mg) (T:(Txt K mg cN c2 cP cA cG c3 cC c4 cU c6 cT cF cD cS cI cL cB cQ cW)):(bH P w K mg base) 1 cB "keep_just" ["self","others"] (zg cB):=by
 have sc:=fN
 refine D.ok fN (λ vs H Q E h => ?_) (by walk_at "us") (λ f cdv A outer s H vs Q E hr h => ?_)
 ·walk_at "ln"
 ·obtain ⟨b,dx,l,o,n,L,rfl,hL,i1,i2,k⟩:=h
  have hf:(c9 n l).lookup (Str.ofString "kept")=some (.ref l):=rfl
  have c1:=hL.get mS
  have c2:=hL.get (mC i1)
  have c3:=hL.get (mC i2)
  refine ⟨_,(@ah _ _ _ _ _ (@aB _ _ 2 _ _ _ _ sc.nd rfl (by walk_at "o2") (@av _ _ _ _ _ _ _ _ cg (@aD _ _ _ _ _ _ _ _ _ bh (by rfl) B.len cH (@aa _ _ _ _ _ (@aF _ _ _ _ _ _ _ T.vG T.sZ (@aq _ 0 _ _ (by walk_at "v")) (by rfl)) (@af _) (by rfl)) (by decide) (by decide) (by rfl) (by rfl)) (@aD _ _ _ _ _ _ _ _ _ bh (by rfl) B.len cH (@aa _ _ _ _ _ (@aq _ 1 _ _ (by walk_at "v")) (@af _) (by rfl)) (by decide) (by decide) (by rfl) (by rfl))) (by rfl) (by walk_at "o4")) (@ah _ _ _ _ _ (@aL _ _ _ _ _ _ _ _ _ _ T.vG T.sZ (@aq _ 0 _ _ (by walk_at "v")) (@aq _ 1 _ _ (by walk_at "v")) (by rfl)) (@aj _ _ _ (@ay _ _ _ _ (@aq _ 2 _ _ (by walk_at "v")))))),?_⟩
  refine aA λ M1 K1 => ?_
  walk_at "ge"
  refine K1.use ?_
  walk_at "cl"
  clear K1 c2 c3
  refine aA λ M1 K1 => ?_
  walk_at "ge"
  have hl2:=hL.put (o' := .ins cB dx (c9 n o)) rfl rfl
  refine K1.use ?_
  walk_at "ge"
  exact k _ hl2
def CI (cB:Addr):Sp:=λ vs H Q _ => ∃ (b dx l:Addr) (n s:Int) (L:Cells),vs = [.ref b,.int s]/\Led H ((b,.ins cB dx (c9 n l))::L)/\(l,HO.lst [])∈L ∧ ∀ o H',Led H' ((b,.ins cB dx (c9 n o))::(o,HO.lst [])::L)->Q (.int 0) H'
theorem om (D:dD K cB "strike_space" "Book.strike_space" cJ) (B:e9 mg) (T:(Txt K mg cN c2 cP cA cG c3 cC c4 cU c6 cT cF cD cS cI cL cB cQ cW)) (dZ:(bH P w K mg base) 1 cB "keep_just" ["self","others"] (zg cB)):(bH P w K mg base) 2 cB "strike_space" ["self","space"] (CI cB):=by
 have sc:=eo
 refine D.ok eo (λ vs H Q E h => ?_) (by walk_at "us") (λ f cdv A outer s H vs Q E hr h => ?_)
 ·walk_at "ln"
 ·obtain ⟨b,dx,l,n,s,L,rfl,hL,i1,k⟩:=h
  have hf:(c9 n l).lookup (Str.ofString "kept")=some (.ref l):=rfl
  have hu:=gw hr
  have c1:=hL.get mS
  refine ⟨_,(@aj _ _ _ (@ay _ _ _ _ (@dI _ _ _ _ _ _ _ _ _ _ _ _ _ _ _ _ T.vG dZ (hr.mono (by omega)) au (@aq _ 0 _ _ (by walk_at "v")) (@aa _ _ _ _ _ (@gG _ _ "way" _ _ _ _ _ _ _ _ _ rfl rfl rfl rfl JZ (cu (by kernel_rfl)) (@bB _ _ _ _ (@aF _ _ _ _ _ _ _ T.vG T.sZ (@aq _ 0 _ _ (by walk_at "v")) (by rfl))) (λ _ _ _ _=>(@yK _ _ _ (@aG _ _ _ _ _ _ _ _ qW (@aJ _ _ _ _ _ _ _ aE (@pk _ 0 _ _ (by kernel_rfl) (by kernel_rfl) (by decide) (by decide)) (@ao _ _ _ _) (λ _ _=>rfl)) (@pk _ 2 _ _ (by kernel_rfl) (by kernel_rfl) (by decide) (by decide)) (aR _)))) (λ _ _ _ _=>(@pk _ 0 _ _ (by kernel_rfl) (by kernel_rfl) (by decide) (by decide))) (by intro _;rfl)) (@af _) (by rfl)) (by rfl) (by rfl) (by rfl)))),?_⟩
  walk_at "ge"
  refine rJ λ Lc uB => ?_
  walk_at "ge"
  refine ⟨l,rfl,⟨_,bW.of (hL.get (mC i1))⟩,uB.use ?_⟩
  refine Al ([]:List Int) (λ y=>V.int y) (λ _=>true) hL (mC i1) (by decide) (λ y H2 R q hy hl2 hR=>(nomatch hy)) (λ y H2 R q hy hl2 hR=>(nomatch hy)) (λ r H2 hl2 => ?_)
  walk_at "ge"
  have hl3:Led H2 ((b,.ins cB dx (c9 n l))::(r,HO.lst [])::L):=hl2.swap
  refine ⟨b,dx,l,r,n,_,rfl,hl3,mC i1,mS,λ H3 bF => ?_⟩
  walk_at "ge"
  exact k r H3 bF
def zh (cQ:Addr):Sp:=λ vs H Q _ => ∃ (b dx p t:Addr) (L:Cells),vs = [.ref b,.ref p,.ref t]/\Led H ((b,.ins cQ dx [])::L) ∧ ∀ H',Led H' ((b,.ins cQ dx [("plan",.ref p),("table",.ref t)])::L)->Q .aN H'
theorem CJ (D:fk K cQ "Space.__init__" gO) (T:(Txt K mg cN c2 cP cA cG c3 cC c4 cU c6 cT cF cD cS cI cL cB cQ cW)):(cj P w K mg base) 1 cQ ["self","plan","table"] (zh cQ):=by
 have sc:=kc
 refine D.ok kc (λ vs H Q E h => ?_) (by walk_at "us") (λ f cdv A outer s H vs Q E hr h => ?_)
 ·walk_at "ln"
 ·obtain ⟨b,dx,p,t,L,rfl,hL,k⟩:=h
  refine ⟨_,(@ah _ _ _ _ _ (@aL _ _ _ _ _ _ _ _ _ _ T.dS T.fB (@aq _ 0 _ _ (by walk_at "v")) (@aq _ 1 _ _ (by walk_at "v")) (by rfl)) (@aj _ _ _ (@aL _ _ _ _ _ _ _ _ _ _ T.dS T.jD (@aq _ 0 _ _ (by walk_at "v")) (@aq _ 2 _ _ (by walk_at "v")) (by rfl)))),?_⟩
  refine aA λ M1 K1 => ?_
  walk_at "ge"
  have Hl:Led (upd H b (.ins cQ dx (bu (Str.ofString "plan") (V.ref p) []))) ((b,.ins cQ dx [("plan",.ref p)])::L):=hL.put rfl rfl
  generalize upd H b (.ins cQ dx (bu (Str.ofString "plan") (V.ref p) []))=H1 at Hl ⊢
  clear hL
  refine K1.use ?_
  walk_at "cl"
  clear K1
  walk_at "ge"
  exact k _ (Hl.put (o' := .ins cQ dx [("plan",.ref p),("table",.ref t)]) rfl rfl)
theorem CK {es:List (Int×oE)} {e:Int×oE} (up:(es.map (·.1)).Pairwise (· < ·)) (h:e∈es):bN (jH es) (.inl e.1)=some (.ref e.2.a):=by
 induction es with
 | nil=>cases h
 | cons x es ih =>
   rw [List.map_cons,List.pairwise_cons] at up
   show bN ((Sum.inl x.1,V.ref x.2.a)::jH es) (.inl e.1)=_
   rcases List.mem_cons.mp h with rfl | h
   ·exact cR (p:=((Sum.inl e.1:Key),V.ref e.2.a)) rfl
   ·have hlt:=up.1 e.1 (List.mem_map.mpr ⟨e,h,rfl⟩)
    rw [bO (p:=((Sum.inl x.1:Key),V.ref x.2.a)) (λ w=>by have:=Sum.inl.inj w;omega)]
    exact ih up.2 h
theorem o9 {es:List (Int×oE)} {n:Int} (h:n ∉ es.map (·.1)):bN (jH es) (.inl n)=none:=by
 induction es with
 | nil=>rfl
 | cons x es ih =>
   rw [List.map_cons,List.mem_cons,not_or] at h
   show bN ((Sum.inl x.1,V.ref x.2.a)::jH es) (.inl n)=none
   rw [bO (p:=((Sum.inl x.1:Key),V.ref x.2.a)) (λ w=>h.1 (Sum.inl.inj w).symm)]
   exact ih h.2
theorem Eu {es:List (Int×oE)} {n:Int} (r:oE) (h:n ∉ es.map (·.1)):putK (jH es) (.inl n) (.ref r.a)=jH (es++[(n,r)]):=by
 unfold putK
 rw [if_neg]
 ·unfold jH;rw [List.map_append];rfl
 ·rw [dH,o9 h];exact Bool.false_ne_true
theorem vj (es:List (Int×oE)) (n:Int):bR (jH es) (.inl n)=jH (es.filter λ e=>decide (e.1≠n)):=by
 induction es with
 | nil=>rfl
 | cons x es ih =>
   have hc:jH (x::es)=(Sum.inl x.1,V.ref x.2.a)::jH es:=rfl
   by_cases w:x.1=n
   ·rw [hc,jz (p:=((Sum.inl x.1:Key),V.ref x.2.a)) (by show (Sum.inl x.1:Key)=_;rw [w]),ih,List.filter_cons_of_neg (by simp [w])]
   ·rw [hc,jA (p:=((Sum.inl x.1:Key),V.ref x.2.a)) (λ y=>w (Sum.inl.inj y)),ih,List.filter_cons_of_pos (by simp [w])]
    rfl
theorem mD {W:WR} {M:Cells} (h:fh cT cF cD cS cI cL W M):W.made+1 ∉ W.es.map (·.1):=λ hx=>by
 obtain ⟨e,he,e1⟩:=List.mem_map.mp hx
 have Mn:e.1=W.made+1:=e1
 have:=(h.le e he).2
 omega
theorem Ew {W:WR} {Z:Cells} : (W.b,HO.ins cW W.dx (wF W))∈aU cW cB cQ W++Z:=mS
theorem Ey {W:WR} {Z:Cells} : (W.sp,HO.dK (jH W.es))∈aU cW cB cQ W++Z:=mC mS
theorem wc {W:WR} {Z:Cells} {e:Int×oE} (h:e∈W.es):(e.2.a,HO.ins cQ e.2.dx (AS e.2))∈aU cW cB cQ W++Z:=mB (mC (mC (mA (List.mem_map.mpr ⟨e,h,rfl⟩))))
theorem dJ {W:WR} {Z:Cells} {c:Addr×HO} (h:c∈Z):c∈aU cW cB cQ W++Z:=mA h
def bZ (cW cB cQ c2:Addr):Sp:=λ vs H Q E => ∃ (W:WR) (n:Int) (Z:Cells),vs = [.ref W.b,.int n]/\Led H (aU cW cB cQ W++Z)/\(W.es.map (·.1)).Pairwise (· < ·)/\(∀ e∈W.es,e.1=n->Q (.ref e.2.a) H)/\(n ∉ W.es.map (·.1)->E (.ref c2) none H)
theorem we (D:Def K mg "space_at" kM) (B:e9 mg) (T:(Txt K mg cN c2 cP cA cG c3 cC c4 cU c6 cT cF cD cS cI cL cB cQ cW)):(aM P w K mg base) 1 "space_at" ["world","space"] (bZ cW cB cQ c2):=by
 have sc:=nQ
 refine D.o6 nQ (λ vs H Q E h => ?_) (by walk_at "us") (λ f cdv A outer s H vs Q E hr h => ?_)
 ·walk_at "ln"
 ·obtain ⟨W,n,Z,rfl,hL,up,kQ,kE⟩:=h
  have hu:=gw hr
  have f1:(wF W).lookup (Str.ofString "spaces")=some (.ref W.sp):=rfl
  have zj:=hL.get Ew
  have CL:=hL.get Ey
  refine ⟨_,(@ah _ _ _ _ _ (@aZ _ _ _ _ _ _ _ _ (@Fx _ _ _ _ _ _ (@zU _ _ _ _ _ hu (@aq _ 1 _ _ (by walk_at "v")) (@aF _ _ _ _ _ _ _ T.World T.gu (@aq _ 0 _ _ (by walk_at "v")) (by rfl))) (by first | exact AY _ (by decide) (by decide) | rfl)) (@aj _ _ _ (@gm _ _ _ _ _ _ _ _ _ _ _ _ _ _ _ _ _ _ _ _ _ _ T.yR (by rfl) (@aa _ _ _ _ _ (@bz _ _ _ _) (@af _) (by rfl)) (by decide) (by rfl))) (@aO _)) (@aj _ _ _ (@ay _ _ _ _ (@bU _ _ _ _ _ _ hu (@aF _ _ _ _ _ _ _ T.World T.gu (@aq _ 0 _ _ (by walk_at "v")) (by rfl)) (@aq _ 1 _ _ (by walk_at "v")) (λ _ _=>rfl))))),?_⟩
  refine aA λ M1 K1 => ?_
  by_cases hin:n∈W.es.map (·.1)
  ·obtain ⟨e,he,e1⟩:=List.mem_map.mp hin
   have Mn:e.1=n:=e1
   have hv:=CK up he
   rw [Mn] at hv
   walk_at "ge"
   rw [hv,show (some (V.ref e.2.a)).isSome=true from rfl,if_neg (by decide)]
   walk_at "ge"
   refine K1.use ?_
   walk_at "ge"
   refine ⟨W.sp,_,rfl,hv ▸ fO.k (k := .inl n) CL,?_⟩
   walk_at "ge"
   exact kQ e he Mn
  ·have hv:=o9 hin
   walk_at "ge"
   rw [hv,show (none:Option V).isSome=false from rfl,if_pos (by decide)]
   refine GC λ R hR => ?_
   walk_at "ge"
   exact ⟨by decide,kE hin⟩
theorem nt {α : Type} {c c' : α} : ∀ {X:List α} {j:Nat},X[j]? = some c->X.Perm (c::X.eraseIdx j)/\(c'::X.eraseIdx j).Perm (X.set j c')
 | [],_,h=>nomatch h
 | a::X,0,h=>by cases h;exact ⟨List.Perm.refl _,List.Perm.refl _⟩
 | a::X,j+1,h=>by
   obtain ⟨p1,p2⟩:=nt (c':=c') (X:=X) (j:=j) h
   exact ⟨(List.Perm.cons _ p1).trans (List.Perm.swap _ _ _),(List.Perm.swap _ _ _).trans (List.Perm.cons _ p2)⟩
theorem GL {W:WR} {Z:Cells} {i:Nat} {x:Addr×Addr×Addr} (h:W.bs[i]? = some x):(aU cW cB cQ W++Z)[i+2]? = some (x.1,HO.ins cB x.2.1 (c9 W.sl x.2.2)) ∧ ∀ o,(aU cW cB cQ W++Z).set (i+2) (x.1,HO.ins cB x.2.1 (c9 W.sl o))=aU cW cB cQ { W with bs:=W.bs.set i (x.1,x.2.1,o) } ++ Z:=by
 have hi:i < W.bs.length:=(List.getElem?_eq_some_iff.mp h).1
 have hib:i < (kY cB W.sl W.bs).length:=by unfold kY;rw [List.length_map];exact hi
 refine ⟨?_,λ o => ?_⟩
 ·show ((kY cB W.sl W.bs++oB cQ W.es)++Z)[i]? = _
  rw [List.append_assoc,List.getElem?_append_left hib]
  unfold kY
  rw [List.getElem?_map,h]
  rfl
 ·show (W.b,_)::(W.sp,_)::((kY cB W.sl W.bs++oB cQ W.es)++Z).set i _=(W.b,_)::(W.sp,_)::((kY cB W.sl (W.bs.set i (x.1,x.2.1,o))++oB cQ W.es)++Z)
  rw [List.append_assoc,List.set_append_left _ _ hib,<-List.append_assoc]
  have e:(kY cB W.sl W.bs).set i (x.1,HO.ins cB x.2.1 (c9 W.sl o))=kY cB W.sl (W.bs.set i (x.1,x.2.1,o)):=by
   unfold kY
   rw [List.map_set]
  rw [e]
  rfl
def nu (cW cB cQ cT cF cD cS cI cL:Addr):Sp:=λ vs H Q _ => ∃ (W:WR) (n:Int) (Z M:Cells),vs = [.ref W.b,.int n]/\Led H (aU cW cB cQ W++Z)/\(∀ c∈M,c∈Z)/\fh cT cF cD cS cI cL W M ∧ ∀ (bs:List (Addr×Addr×Addr)) (N:Cells) (H':Hp),fh cT cF cD cS cI cL { W with bs:=bs } (N++M)->Led H' (aU cW cB cQ { W with bs:=bs } ++ (N++Z))->Q .aN H'
theorem qc (D:Def K mg "strike_space_ways" cK) (B:e9 mg) (T:(Txt K mg cN c2 cP cA cG c3 cC c4 cU c6 cT cF cD cS cI cL cB cQ cW)) (cM:(bH P w K mg base) 2 cB "strike_space" ["self","space"] (CI cB)):(aM P w K mg base) 3 "strike_space_ways" ["world","space"] (nu cW cB cQ cT cF cD cS cI cL):=by
 have sc:=er
 refine D.ok er (λ vs H Q E h => ?_) (by walk_at "us") (λ f cdv A outer s H vs Q E hr h => ?_)
 ·walk_at "ln"
 ·obtain ⟨W,n,Z,M,rfl,hL,hM,g,k⟩:=h
  have f1:(wF W).lookup (Str.ofString "books")=some (.ref W.bk):=rfl
  have zj:=hL.get Ew
  have Mp:=hL.get (dJ (hM _ g.bk))
  refine ⟨_,(@aj _ _ _ (@bT _ _ _ _ _ _ _ _ PassesOwn.never rfl (@bB _ _ _ _ (@aF _ _ _ _ _ _ _ T.World T.tu (@aq _ 0 _ _ (by walk_at "v")) (by rfl))) (@aX _ _ 2 _ sc.nd rfl (by walk_at "o2") (by walk_at "o4")) (@aj _ _ _ (@az _ _ _ _ (@dI _ _ _ _ _ _ _ _ _ _ _ _ _ _ _ _ T.vG cM (hr.mono (by omega)) au (@aq _ 2 _ _ (by walk_at "v")) (@aa _ _ _ _ _ (@aq _ 1 _ _ (by walk_at "v")) (@af _) (by rfl)) (by rfl) (by rfl) (by rfl)) (by rfl))) (by intro _;rfl))),?_⟩
  refine forL λ Qn gx => ?_
  walk_at "ge"
  refine ⟨W.bk,rfl,⟨_,bW.of Mp⟩,gx.use ?_⟩
  clear gx zj Mp
  refine jQ (W.bs.map λ x=>V.ref x.1) (λ i σ H' => ∃ (bs:List (Addr×Addr×Addr)) (N:Cells) (v2:Option V),bs.map (·.1)=W.bs.map (·.1)/\(∀ x∈bs,(x.2.2,HO.lst [])∈N++M)/\Led H' (aU cW cB cQ { W with bs:=bs } ++ (N++Z)) ∧ σ = [some (.ref W.b),some (.int n),v2]) ⟨W.bs,[],none,rfl,λ x hx=>g.bl x hx,hL,rfl⟩ (λ i σ H' _ h => ?_) ?_ ?_
  ·obtain ⟨_,_,_,_,_,hl,_⟩:=h
   exact bW.of (hl.get (dJ (mA (hM _ g.bk))))
  ·clear hL k
   rintro i v σ H' hv ⟨bs,N,v2,hb,Hs,hl,rfl⟩
   rw [List.getElem?_map] at hv
   obtain ⟨x,hx,rfl⟩:=Option.map_eq_some_iff.mp hv
   have hi:i < bs.length:=by
    have h1:=congrArg List.length hb
    rw [List.length_map,List.length_map] at h1
    have:=(List.getElem?_eq_some_iff.mp hx).1
    omega
   have hy:bs[i]? = some bs[i]:=List.getElem?_eq_getElem hi
   have NR:x.1=bs[i].1:=by
    have h1:=congrArg (λ l=>l[i]?) hb
    simp only [List.getElem?_map,hx,hy] at h1
    exact (Option.some.inj h1).symm
   obtain ⟨hat,GN⟩:=GL (cW:=cW) (cB:=cB) (cQ:=cQ) (W := { W with bs:=bs }) (Z:=N++Z) hy
   obtain ⟨p1,_⟩:=nt (c':=(bs[i].1,HO.ins cB bs[i].2.1 (c9 W.sl bs[i].2.2))) hat
   have hl2:=Led.perm hl p1
   have oj:(bs[i].2.2,HO.lst [])∈(aU cW cB cQ { W with bs:=bs } ++ (N++Z)).eraseIdx (i+2):=by
    have h1:(bs[i].2.2,HO.lst [])∈aU cW cB cQ { W with bs:=bs } ++ (N++Z):=by
     rcases List.mem_append.mp (Hs _ (List.getElem_mem hi)) with w | w
     ·exact dJ (mB w)
     ·exact dJ (mA (hM _ w))
    rcases List.mem_cons.mp (p1.mem_iff.mp h1) with w | w
    ·exact absurd (Prod.mk.inj w).2 (λ z=>nomatch z)
    ·exact w
   have NS:=hl2.get mS
   rw [<-NR] at NS
   walk_at "ge"
   refine ⟨bs[i].1,bs[i].2.1,bs[i].2.2,W.sl,n,_,by rw [NR];rfl,hl2,oj,λ o H2 hl3 => ?_⟩
   walk_at "ge"
   refine ⟨bs.set i (bs[i].1,bs[i].2.1,o),(o,HO.lst [])::N,_,?_,λ y Mq => ?_,?_,rfl⟩
   ·rw [List.map_set,<-hb]
    refine List.ext_getElem? λ j => ?_
    rw [List.getElem?_set]
    by_cases e:i=j
    ·subst e
     rw [if_pos rfl,if_pos (by rw [List.length_map];exact hi),List.getElem?_map,hy]
     rfl
    ·rw [if_neg e]
   ·rcases List.mem_or_eq_of_mem_set Mq with w | w
    ·exact mC (Hs y w)
    ·rw [w];exact mS
   ·have h5:=GN o
    have h6:Led H2 ((o,HO.lst [])::(aU cW cB cQ { W with bs:=bs.set i (bs[i].1,bs[i].2.1,o) } ++ (N++Z))):=by
     rw [<-h5]
     exact Led.perm hl3 ((List.Perm.swap _ _ _).trans (List.Perm.cons _ (nt (c':=(bs[i].1,HO.ins cB bs[i].2.1 (c9 W.sl o))) hat).2))
    exact Led.perm h6 List.perm_middle.symm
  ·clear hL
   rintro σ H' ⟨bs,N,v2,hb,Hs,hl,rfl⟩
   have lb:bs.length=W.bs.length:=by have:=congrArg List.length hb;rw [List.length_map,List.length_map] at this;exact this
   walk_at "ge"
   refine k bs N H' { g.mono (λ c hc=>mA hc) with bk := ?_,bl:=Hs,b1:=by show 1<=bs.length;rw [lb];exact g.b1,b8:=by show bs.length<=8;rw [lb];exact g.b8 } hl
   have e:(bs.map λ x=>V.ref x.1)=W.bs.map λ x=>V.ref x.1:=by
    have:=congrArg (List.map V.ref) hb
    rw [List.map_map,List.map_map] at this
    exact this
   show (W.bk,HO.lst (bs.map λ x=>V.ref x.1))∈N++M
   rw [e]
   exact mA g.bk
def WR.add (W:WR) (r:oE):WR := { W with made:=W.made+1,es:=W.es++[(W.made+1,r)] }
def WR.drop (W:WR) (n:Int):WR := { W with es:=W.es.filter λ e=>decide (e.1≠n) }
theorem fh.add {W:WR} {r:oE} {M:Cells} (g:fh cT cF cD cS cI cL W M) (h:Hr cL r M):fh cT cF cD cS cI cL (W.add r) M:=by
 have m0:=g.m0
 refine { g with m0:=by show 0<=W.made+1;omega,up := ?_,le:=λ e he => ?_,ok:=λ e he => ?_ }
 ·show ((W.es++[(W.made+1,r)]).map (·.1)).Pairwise (· < ·)
  rw [List.map_append]
  refine List.pairwise_append.mpr ⟨g.up,List.pairwise_singleton _ _,λ x hx y hy => ?_⟩
  obtain ⟨e,he,rfl⟩:=List.mem_map.mp hx
  have hy':y=W.made+1:=by simpa using hy
  have:=(g.le e he).2
  show e.1 < y
  omega
 ·show 1<=e.1/\e.1<=W.made+1
  rcases List.mem_append.mp he with he | he
  ·have:=g.le e he
   omega
  ·rw [List.mem_singleton.mp he]
   show 1<=W.made+1/\W.made+1<=W.made+1
   omega
 ·rcases List.mem_append.mp he with he | he
  ·exact g.ok e he
  ·rw [List.mem_singleton.mp he];exact h
theorem fh.drop {W:WR} {n:Int} {M:Cells} (g:fh cT cF cD cS cI cL W M):fh cT cF cD cS cI cL (W.drop n) M :=
 { g with up:=List.Pairwise.sublist (List.Sublist.map _ List.filter_sublist) g.up,le:=λ e he=>g.le e (List.mem_filter.mp he).1,ok:=λ e he=>g.ok e (List.mem_filter.mp he).1 }
theorem aS {A N Z:Cells} : (N++(A++Z)).Perm (A++(N++Z)):=by
 rw [<-List.append_assoc,<-List.append_assoc]
 exact List.perm_append_comm.append_right Z
def CM (cW cB cQ:Addr):Sp:=λ vs H Q _ => ∃ (W:WR) (p t td ld:Addr) (pl:List Jk) (Z:Cells),vs = [.ref W.b,.ref p,.ref t]/\Led H (aU cW cB cQ W++Z)/\W.made+1 ∉ W.es.map (·.1)/\W.es.length<=1000 ∧ ∀ (a dx:Addr) (H':Hp),Led H' (aU cW cB cQ (W.add ⟨a,dx,p,pl,t,td,ld⟩)++Z)->Q (.int (W.made+1)) H'
theorem tV (D:Def K mg "add_space" ja) (B:e9 mg) (T:(Txt K mg cN c2 cP cA cG c3 cC c4 cU c6 cT cF cD cS cI cL cB cQ cW)) (tW:(cj P w K mg base) 1 cQ ["self","plan","table"] (zh cQ)):(aM P w K mg base) 3 "add_space" ["world","plan","table"] (CM cW cB cQ):=by
 have sc:=lZ
 refine D.ok lZ (λ vs H Q E h => ?_) (by walk_at "us") (λ f cdv A outer s H vs Q E hr h => ?_)
 ·walk_at "ln"
 ·obtain ⟨W,p,t,td,ld,pl,Z,rfl,hL,hno,kF,k⟩:=h
  have hu:=gw hr
  have hsz:=sizeLine_eq
  have f1:(wF W).lookup (Str.ofString "spaces_made")=some (.int W.made):=rfl
  have zj:=hL.get Ew
  refine ⟨_,(@ah _ _ _ _ _ (@aB _ _ 3 _ _ _ _ sc.nd rfl (by walk_at "o2") (@av _ _ _ _ _ _ _ _ bg (@aF _ _ _ _ _ _ _ T.World T.fX (@aq _ 0 _ _ (by walk_at "v")) (by rfl)) (@ao _ _ _ _)) (by rfl) (by walk_at "o4")) (@ah _ _ _ _ _ (@aL _ _ _ _ _ _ _ _ _ _ T.World T.fX (@aq _ 0 _ _ (by walk_at "v")) (@aq _ 3 _ _ (by walk_at "v")) (by rfl)) (@ah _ _ _ _ _ (@lA _ _ _ _ _ _ _ _ _ hu (@aF _ _ _ _ _ _ _ T.World T.gu (@aq _ 0 _ _ (by walk_at "v")) (by rfl)) (@aq _ 3 _ _ (by walk_at "v")) (@fm _ _ _ _ _ _ _ _ _ _ _ _ T.dS tW (hr.mono (by omega)) (by rfl) au (@aa _ _ _ _ _ (@aq _ 1 _ _ (by walk_at "v")) (@aa _ _ _ _ _ (@aq _ 2 _ _ (by walk_at "v")) (@af _) (by rfl)) (by rfl)) (by decide) (by rfl) (by rfl)) rfl) (@aj _ _ _ (@ay _ _ _ _ (@aq _ 3 _ _ (by walk_at "v"))))))),?_⟩
  refine aA λ M1 K1 => ?_
  walk_at "ge"
  refine K1.use ?_
  walk_at "cl"
  clear K1
  refine aA λ M1 K1 => ?_
  walk_at "ge"
  have hl1:=hL.lQ (o' := .ins cW W.dx (wF { W with made:=W.made+1 })) 0 rfl rfl rfl
  have e1:bu (Str.ofString "spaces_made") (V.int (W.made+1)) (wF W)=wF { W with made:=W.made+1 } := rfl
  rw [e1]
  generalize upd H W.b (.ins cW W.dx (wF { W with made:=W.made+1 }))=H1 at hl1 ⊢
  have hl2:Led H1 (aU cW cB cQ { W with made:=W.made+1 } ++ Z):=hl1
  clear hl1 hL zj
  refine K1.use ?_
  walk_at "cl"
  clear K1
  refine aA λ M1 K1 => ?_
  have f2:(wF { W with made:=W.made+1 }).lookup (Str.ofString "spaces")=some (.ref W.sp):=rfl
  have zj:H1 W.b=some (.ins cW W.dx (wF { W with made:=W.made+1 })):=hl2.get Ew
  walk_at "ge"
  intro a dx z1 z2 z3
  refine ⟨a,dx,p,t,_,rfl,hl2.make z1 z2 z3,λ H2 hl3=>⟨rfl,?_⟩⟩
  clear z1 z2 z3 hl2 zj
  have zj:H2 W.b=some (.ins cW W.dx (wF { W with made:=W.made+1 })):=hl3.get (mC Ew)
  have CL:H2 W.sp=some (.dK (jH W.es)):=hl3.get (mC (Ey (W := { W with made:=W.made+1 })))
  walk_at "ge"
  refine ⟨W.sp,_,rfl,lu.k (k := .inl (W.made+1)) CL (by unfold jH;rw [List.length_map];omega),?_⟩
  rw [Eu (n:=W.made+1) ⟨a,dx,p,pl,t,td,ld⟩ hno]
  have bF:=hl3.lQ (o' := .dK (jH (W.es++[(W.made+1,⟨a,dx,p,pl,t,td,ld⟩)]))) 2 rfl rfl rfl
  generalize upd H2 W.sp (.dK (jH (W.es++[(W.made+1,⟨a,dx,p,pl,t,td,ld⟩)])))=H3 at bF ⊢
  clear zj CL hl3
  walk_at "ge"
  refine K1.use ?_
  walk_at "ge"
  refine k a dx H3 (Led.perm bF ?_)
  show ((a,HO.ins cQ dx [("plan",.ref p),("table",.ref t)])::(W.b,_)::(W.sp,_)::((kY cB W.sl W.bs++oB cQ W.es)++Z)).Perm ((W.b,_)::(W.sp,_)::((kY cB W.sl W.bs++oB cQ (W.es++[(W.made+1,⟨a,dx,p,pl,t,td,ld⟩)]))++Z))
  refine (List.Perm.swap _ _ _).trans (List.Perm.cons _ ((List.Perm.swap _ _ _).trans (List.Perm.cons _ ?_)))
  have e5:oB cQ (W.es++[(W.made+1,⟨a,dx,p,pl,t,td,ld⟩)])=oB cQ W.es++[(a,HO.ins cQ dx [("plan",.ref p),("table",.ref t)])]:=by unfold oB;rw [List.map_append];rfl
  rw [e5]
  have e6:kY cB W.sl W.bs++(oB cQ W.es++[(a,HO.ins cQ dx [("plan",.ref p),("table",.ref t)])])++Z=(kY cB W.sl W.bs++oB cQ W.es)++((a,HO.ins cQ dx [("plan",.ref p),("table",.ref t)])::Z):=by simp
  rw [e6]
  exact List.perm_middle.symm
def zk (cW cB cQ cT cF cD cS cI cL:Addr):Sp:=λ vs H Q _ => ∃ (W:WR) (Z M:Cells),vs = [.ref W.b]/\Led H (aU cW cB cQ W++Z)/\(∀ c∈M,c∈Z)/\fh cT cF cD cS cI cL W M/\W.es.length<=1000 ∧ ∀ (r:oE) (N:Cells) (H':Hp),r.pl = []->fh cT cF cD cS cI cL (W.add r) (N++M)->Led H' (aU cW cB cQ (W.add r)++(N++Z))->Q (.int (W.made+1)) H'
theorem qM (D:Def K mg "make_space" gQ) (T:(Txt K mg cN c2 cP cA cG c3 cC c4 cU c6 cT cF cD cS cI cL cB cQ cW)) (jE:(cj P w K mg base) 1 cL ["self"] (tR cL)) (dc:(aM P w K mg base) 3 "add_space" ["world","plan","table"] (CM cW cB cQ)):(aM P w K mg base) 4 "make_space" ["world"] (zk cW cB cQ cT cF cD cS cI cL):=by
 have sc:=kh
 refine D.ok kh (λ vs H Q E h => ?_) (by walk_at "us") (λ f cdv A outer s H vs Q E hr h => ?_)
 ·walk_at "ln"
 ·obtain ⟨W,Z,M,rfl,hL,hM,g,kF,k⟩:=h
  refine ⟨_,(@aj _ _ _ (@ay _ _ _ _ (@ak _ _ _ _ _ _ _ _ _ _ _ dc (hr.mono (by omega)) (by rfl) au (@aa _ _ _ _ _ (@aq _ 0 _ _ (by walk_at "v")) (@aa _ _ _ _ _ (@bC _ _ _ _ (@af _)) (@aa _ _ _ _ _ (@mU _ _ _ _ _ _ _ _ _ T.Table jE (hr.mono (by omega)) (by rfl) au (by decide)) (@af _) (by rfl)) (by rfl)) (by rfl)) (by decide) (by rfl) (by rfl)))),?_⟩
  walk_at "ge"
  rename_i p H1 _ hl1 _ _ _ _ _
  intro t td z1 z2 z3
  refine ⟨t,td,_,rfl,hl1.make z1 z2 z3,λ ld H2 hl2=>⟨rfl,?_⟩⟩
  clear z1 z2 z3 hl1 hL
  obtain ⟨N,eN⟩ : ∃ N:Cells,[(t,HO.ins cL td [("leaf_by_upper",.ref ld)]),(ld,HO.dK []),(p,HO.lst [])]=N:=⟨_,rfl⟩
  have hl3:Led H2 (aU cW cB cQ W++(N++Z)):=by
   rw [<-eN]
   have h5:Led H2 ([(t,HO.ins cL td [("leaf_by_upper",.ref ld)]),(ld,HO.dK []),(p,HO.lst [])]++(aU cW cB cQ W++Z)):=hl2
   exact Led.perm h5 aS
  walk_at "ge"
  refine ⟨W,p,t,td,ld,[],_,rfl,hl3,mD g,kF,λ a dx H3 bF => ?_⟩
  walk_at "ge"
  refine k ⟨a,dx,p,[],t,td,ld⟩ N H3 rfl ((g.mono λ c hc=>mA hc).add ⟨?_,?_,?_,λ x hx=>(nomatch hx)⟩) bF
  ·rw [<-eN];exact mS
  ·rw [<-eN];exact mC mS
  ·rw [<-eN];exact mC (mC mS)
def tX (cW cB cQ cT cF cD cS cI cL c2:Addr):Sp:=λ vs H Q E => ∃ (W:WR) (n:Int) (Z M:Cells),vs = [.ref W.b,.int n]/\Led H (aU cW cB cQ W++Z)/\(∀ c∈M,c∈Z)/\fh cT cF cD cS cI cL W M/\W.es.length<=1000 ∧
 (∀ e∈W.es,e.1=n->∀ (r:oE) (bs:List (Addr×Addr×Addr)) (N:Cells) (H':Hp),r.pl=e.2.pl->fh cT cF cD cS cI cL (WR.add { W with bs:=bs } r) (N++M)->Led H' (aU cW cB cQ (WR.add { W with bs:=bs } r)++(N++Z))->Q (.int (W.made+1)) H') ∧
 (n ∉ W.es.map (·.1)->E (.ref c2) none H)
theorem qN (D:Def K mg "fork_space" gR) (B:e9 mg) (T:(Txt K mg cN c2 cP cA cG c3 cC c4 cU c6 cT cF cD cS cI cL cB cQ cW)) (aC:(aM P w K mg base) 1 "space_at" ["world","space"] (bZ cW cB cQ c2)) (dg:(aM P w K mg base) 3 "sheets_of" ["table"] (tS cL)) (xV:(aM P w K mg base) 1 "hold" ["store","sheet"] eV) (bf:(aM P w K mg base) 3 "strike_space_ways" ["world","space"] (nu cW cB cQ cT cF cD cS cI cL)) (nv:(aM P w K mg base) 3 "copy_of" ["table"] (zf cL)) (dc:(aM P w K mg base) 3 "add_space" ["world","plan","table"] (CM cW cB cQ)):(aM P w K mg base) 4 "fork_space" ["world","space"] (tX cW cB cQ cT cF cD cS cI cL c2):=by
 have sc:=ki
 refine D.o6 ki (λ vs H Q E h => ?_) (by walk_at "us") (λ f cdv A outer s H vs Q E hr h => ?_)
 ·walk_at "ln"
 ·obtain ⟨W,n,Z,M,rfl,hL,hM,g,kF,kQ,kE⟩:=h
  have hu:=gw hr
  refine ⟨_,(@ah _ _ _ _ _ (@aB _ _ 2 _ _ _ _ sc.nd rfl (by walk_at "o2") (@ak _ _ _ _ _ _ _ _ _ _ _ aC (hr.mono (by omega)) (by rfl) bA (@aa _ _ _ _ _ (@aq _ 0 _ _ (by walk_at "v")) (@aa _ _ _ _ _ (@aq _ 1 _ _ (by walk_at "v")) (@af _) (by rfl)) (by rfl)) (by decide) (by rfl) (by rfl)) (by rfl) (by walk_at "o4")) (@ah _ _ _ _ _ (@bT _ _ _ _ _ _ _ _ PassesOwn.leaving rfl (@bB _ _ _ _ (@ak _ _ _ _ _ _ _ _ _ _ _ dg (hr.mono (by omega)) (by rfl) au (@aa _ _ _ _ _ (@aF _ _ _ _ _ _ _ T.dS T.jD (@aq _ 2 _ _ (by walk_at "v")) (by rfl)) (@af _) (by rfl)) (by decide) (by rfl) (by rfl))) (@aX _ _ 3 _ sc.nd rfl (by walk_at "o2") (by walk_at "o4")) (@aj _ _ _ (@az _ _ _ _ (@ak _ _ _ _ _ _ _ _ _ _ _ xV (hr.mono (by omega)) (by rfl) au (@aa _ _ _ _ _ (@aF _ _ _ _ _ _ _ T.World T.gW (@aq _ 0 _ _ (by walk_at "v")) (by rfl)) (@aa _ _ _ _ _ (@aq _ 3 _ _ (by walk_at "v")) (@af _) (by rfl)) (by rfl)) (by decide) (by rfl) (by rfl)) (by rfl))) (by intro _;rfl)) (@ah _ _ _ _ _ (@az _ _ _ _ (@ak _ _ _ _ _ _ _ _ _ _ _ bf (hr.mono (by omega)) (by rfl) au (@aa _ _ _ _ _ (@aq _ 0 _ _ (by walk_at "v")) (@aa _ _ _ _ _ (@aq _ 1 _ _ (by walk_at "v")) (@af _) (by rfl)) (by rfl)) (by decide) (by rfl) (by rfl)) (by rfl)) (@aj _ _ _ (@ay _ _ _ _ (@ak _ _ _ _ _ _ _ _ _ _ _ dc (hr.mono (by omega)) (by rfl) au (@aa _ _ _ _ _ (@aq _ 0 _ _ (by walk_at "v")) (@aa _ _ _ _ _ (@dU _ _ _ _ _ _ _ _ _ (bJ (K:=K) rfl) (by rfl) B.list d9 (@aa _ _ _ _ _ (@aF _ _ _ _ _ _ _ T.dS T.fB (@aq _ 2 _ _ (by walk_at "v")) (by rfl)) (@af _) (by rfl)) (by decide) (by decide) (by rfl) (by rfl)) (@aa _ _ _ _ _ (@ak _ _ _ _ _ _ _ _ _ _ _ nv (hr.mono (by omega)) (by rfl) au (@aa _ _ _ _ _ (@aF _ _ _ _ _ _ _ T.dS T.jD (@aq _ 2 _ _ (by walk_at "v")) (by rfl)) (@af _) (by rfl)) (by decide) (by rfl) (by rfl)) (@af _) (by rfl)) (by rfl)) (by rfl)) (by decide) (by rfl) (by rfl))))))),?_⟩
  refine aA λ M1 K1 => ?_
  walk_at "ge"
  refine ⟨W,n,Z,rfl,hL,g.up,λ e he e1 => ?_,λ hno=>kE hno⟩
  obtain ⟨ht,GO,hp,hs⟩:=g.ok e he
  have ft:(AS e.2).lookup (Str.ofString "table")=some (.ref e.2.t):=rfl
  have fp:(AS e.2).lookup (Str.ofString "plan")=some (.ref e.2.p):=rfl
  walk_at "ge"
  refine K1.use ?_
  walk_at "cl"
  clear K1
  refine aA λ M1 K1 => ?_
  refine forL λ Lr gx => ?_
  have xW:=hL.get (wc he)
  walk_at "ge"
  refine ⟨e.2.t,_,rfl,hL,⟨e.2.td,e.2.ld,dJ (hM _ ht),dJ (hM _ GO)⟩,λ r0 N H1 oF hl1 => ?_⟩
  refine ⟨r0,rfl,⟨_,bW.of (hl1.get (mB oF))⟩,gx.use ?_⟩
  clear gx hL xW
  have hl2:Led H1 (aU cW cB cQ W++(N++Z)):=Led.perm hl1 aS
  refine jQ [] (λ i σ H'=>H' = H1 ∧ σ = [some (.ref W.b),some (.int n),some (.ref e.2.a),none]) ⟨rfl,rfl⟩ (λ i σ H' _ h => ?_) ?_ ?_
  ·rw [h.1]
   exact bW.of (hl1.get (mB oF))
  ·rintro i v σ H' hv _
   cases hv
  ·rintro σ H' ⟨rfl,rfl⟩
   clear hl1
   refine K1.use ?_
   clear K1
   refine aA λ M1 K1 => ?_
   walk_at "ge"
   refine ⟨W,n,N++Z,N++M,rfl,hl2,λ c hc => ?_,g.mono (λ c hc=>mA hc),λ bs N2 H2 g2 hl3 => ?_⟩
   ·rcases List.mem_append.mp hc with w | w
    ·exact mB w
    ·exact mA (hM _ w)
   clear hl2
   walk_at "ge"
   refine K1.use ?_
   walk_at "cl"
   clear K1
   have Mr : ∀ c∈M,c∈aU cW cB cQ { W with bs:=bs } ++ (N2++(N++Z)):=λ c hc=>dJ (mA (mA (hM _ hc)))
   have xW:=hl3.get (wc (W := { W with bs:=bs }) he)
   have Jo:=hl3.get (Mr _ hp)
   walk_at "ge"
   rename_i p H3 _ bF _ _ _ _ _ _ _ _ _
   have Ms:=bF.get (mC (wc (W := { W with bs:=bs }) he))
   clear xW Jo
   walk_at "ge"
   refine ⟨e.2.t,_,rfl,bF,⟨e.2.td,e.2.ld,mC (Mr _ ht),mC (Mr _ GO)⟩,?_⟩
   rintro u N3 H4 ⟨du,dl,i1,i2⟩ dY
   obtain ⟨N4,Jp⟩ : ∃ N4:Cells,N3++(p,HO.lst (nW e.2.pl))::(N2++N)=N4:=⟨_,rfl⟩
   have fH:Led H4 (aU cW cB cQ { W with bs:=bs } ++ (N4++Z)):=by
    have e5:N4++Z=(N3++[(p,HO.lst (nW e.2.pl))])++(N2++(N++Z)):=by rw [<-Jp];simp
    rw [e5]
    refine Led.perm (L:=(N3++[(p,HO.lst (nW e.2.pl))])++(aU cW cB cQ { W with bs:=bs } ++ (N2++(N++Z)))) ?_ aS
    rw [List.append_assoc]
    exact dY
   have Jq : ∀ c∈N2++(N++M),c∈N4++M:=λ c hc=>by
    rw [<-Jp]
    rcases List.mem_append.mp hc with w | w
    ·exact mB (mA (mC (mB w)))
    ·rcases List.mem_append.mp w with w | w
     ·exact mB (mA (mC (mA w)))
     ·exact mA w
   have g4:=g2.mono Jq
   clear hl3 bF dY Ms
   walk_at "ge"
   refine ⟨{ W with bs:=bs },p,u,du,dl,e.2.pl,_,rfl,fH,mD g4,kF,λ a dx H5 iC => ?_⟩
   walk_at "ge"
   refine kQ e he e1 ⟨a,dx,p,e.2.pl,u,du,dl⟩ bs N4 H5 rfl (g4.add ⟨?_,?_,?_,λ x hx=>mA (hs x hx)⟩) iC
   ·rw [<-Jp];exact mB (mB i1)
   ·rw [<-Jp];exact mB (mB i2)
   ·rw [<-Jp];exact mB (mA mS)
def xX (cW cB cQ cT cF cD cS cI cL c2:Addr):Sp:=λ vs H Q E => ∃ (W:WR) (n:Int) (Z M:Cells),vs = [.ref W.b,.int n]/\Led H (aU cW cB cQ W++Z)/\(∀ c∈M,c∈Z)/\fh cT cF cD cS cI cL W M ∧
 (n∈W.es.map (·.1)->∀ (bs:List (Addr×Addr×Addr)) (N:Cells) (H':Hp),fh cT cF cD cS cI cL (WR.drop { W with bs:=bs } n) (N++M)->Led H' (aU cW cB cQ (WR.drop { W with bs:=bs } n)++(N++Z))->Q .aN H') ∧
 (n ∉ W.es.map (·.1)->E (.ref c2) none H)
theorem tY (D:Def K mg "end_space" jc) (B:e9 mg) (T:(Txt K mg cN c2 cP cA cG c3 cC c4 cU c6 cT cF cD cS cI cL cB cQ cW)) (aC:(aM P w K mg base) 1 "space_at" ["world","space"] (bZ cW cB cQ c2)) (dg:(aM P w K mg base) 3 "sheets_of" ["table"] (tS cL)) (qd:(aM P w K mg base) 1 "let_go" ["store","sheet"] eV) (bf:(aM P w K mg base) 3 "strike_space_ways" ["world","space"] (nu cW cB cQ cT cF cD cS cI cL)):(aM P w K mg base) 4 "end_space" ["world","space"] (xX cW cB cQ cT cF cD cS cI cL c2):=by
 have sc:=l6
 refine D.o6 l6 (λ vs H Q E h => ?_) (by walk_at "us") (λ f cdv A outer s H vs Q E hr h => ?_)
 ·walk_at "ln"
 ·obtain ⟨W,n,Z,M,rfl,hL,hM,g,kQ,kE⟩:=h
  have hu:=gw hr
  refine ⟨_,(@ah _ _ _ _ _ (@aB _ _ 2 _ _ _ _ sc.nd rfl (by walk_at "o2") (@ak _ _ _ _ _ _ _ _ _ _ _ aC (hr.mono (by omega)) (by rfl) bA (@aa _ _ _ _ _ (@aq _ 0 _ _ (by walk_at "v")) (@aa _ _ _ _ _ (@aq _ 1 _ _ (by walk_at "v")) (@af _) (by rfl)) (by rfl)) (by decide) (by rfl) (by rfl)) (by rfl) (by walk_at "o4")) (@ah _ _ _ _ _ (@bT _ _ _ _ _ _ _ _ PassesOwn.leaving rfl (@bB _ _ _ _ (@ak _ _ _ _ _ _ _ _ _ _ _ dg (hr.mono (by omega)) (by rfl) au (@aa _ _ _ _ _ (@aF _ _ _ _ _ _ _ T.dS T.jD (@aq _ 2 _ _ (by walk_at "v")) (by rfl)) (@af _) (by rfl)) (by decide) (by rfl) (by rfl))) (@aX _ _ 3 _ sc.nd rfl (by walk_at "o2") (by walk_at "o4")) (@aj _ _ _ (@az _ _ _ _ (@ak _ _ _ _ _ _ _ _ _ _ _ qd (hr.mono (by omega)) (by rfl) au (@aa _ _ _ _ _ (@aF _ _ _ _ _ _ _ T.World T.gW (@aq _ 0 _ _ (by walk_at "v")) (by rfl)) (@aa _ _ _ _ _ (@aq _ 3 _ _ (by walk_at "v")) (@af _) (by rfl)) (by rfl)) (by decide) (by rfl) (by rfl)) (by rfl))) (by intro _;rfl)) (@ah _ _ _ _ _ (@az _ _ _ _ (@ak _ _ _ _ _ _ _ _ _ _ _ bf (hr.mono (by omega)) (by rfl) au (@aa _ _ _ _ _ (@aq _ 0 _ _ (by walk_at "v")) (@aa _ _ _ _ _ (@aq _ 1 _ _ (by walk_at "v")) (@af _) (by rfl)) (by rfl)) (by decide) (by rfl) (by rfl)) (by rfl)) (@aj _ _ _ (@az _ _ _ _ (@uV _ _ _ _ _ _ _ (@aF _ _ _ _ _ _ _ T.World T.gu (@aq _ 0 _ _ (by walk_at "v")) (by rfl)) (@aq _ 1 _ _ (by walk_at "v")) ⟨rfl,rfl,rfl,rfl⟩) (by rfl)))))),?_⟩
  refine aA λ M1 K1 => ?_
  walk_at "ge"
  refine ⟨W,n,Z,rfl,hL,g.up,λ e he e1 => ?_,λ hno=>kE hno⟩
  have Mt:=kQ (List.mem_map.mpr ⟨e,he,e1⟩)
  obtain ⟨ht,GO,hp,hs⟩:=g.ok e he
  have ft:(AS e.2).lookup (Str.ofString "table")=some (.ref e.2.t):=rfl
  walk_at "ge"
  refine K1.use ?_
  walk_at "cl"
  clear K1
  refine aA λ M1 K1 => ?_
  refine forL λ Lr gx => ?_
  have xW:=hL.get (wc he)
  walk_at "ge"
  refine ⟨e.2.t,_,rfl,hL,⟨e.2.td,e.2.ld,dJ (hM _ ht),dJ (hM _ GO)⟩,λ r0 N H1 oF hl1 => ?_⟩
  refine ⟨r0,rfl,⟨_,bW.of (hl1.get (mB oF))⟩,gx.use ?_⟩
  clear gx hL xW
  have hl2:Led H1 (aU cW cB cQ W++(N++Z)):=Led.perm hl1 aS
  refine jQ [] (λ i σ H'=>H' = H1 ∧ σ = [some (.ref W.b),some (.int n),some (.ref e.2.a),none]) ⟨rfl,rfl⟩ (λ i σ H' _ h => ?_) ?_ ?_
  ·rw [h.1]
   exact bW.of (hl1.get (mB oF))
  ·rintro i v σ H' hv _
   cases hv
  ·rintro σ H' ⟨rfl,rfl⟩
   clear hl1
   refine K1.use ?_
   clear K1
   refine aA λ M1 K1 => ?_
   walk_at "ge"
   refine ⟨W,n,N++Z,N++M,rfl,hl2,λ c hc => ?_,g.mono (λ c hc=>mA hc),λ bs N2 H2 g2 hl3 => ?_⟩
   ·rcases List.mem_append.mp hc with w | w
    ·exact mB w
    ·exact mA (hM _ w)
   clear hl2
   walk_at "ge"
   refine K1.use ?_
   walk_at "cl"
   clear K1
   have f1:(wF { W with bs:=bs }).lookup (Str.ofString "spaces")=some (.ref W.sp):=rfl
   have zj:H2 W.b=some (.ins cW W.dx (wF { W with bs:=bs })):=hl3.get (Ew (W := { W with bs:=bs }))
   have CL:H2 W.sp=some (.dK (jH W.es)):=hl3.get (Ey (W := { W with bs:=bs }))
   have hv:=CK g.up he
   rw [e1] at hv
   walk_at "ge"
   refine BN λ R5 Pw => ?_
   walk_at "ge"
   refine E7 CL hv ?_
   rw [vj]
   have bF:=hl3.lQ (o' := .dK (jH (W.es.filter λ e=>decide (e.1≠n)))) 1 rfl rfl rfl
   generalize upd H2 W.sp (.dK (jH (W.es.filter λ e=>decide (e.1≠n))))=H3 at bF ⊢
   clear hl3 zj CL
   walk_at "ge"
   refine Mt bs (N2++N) H3 (by rw [List.append_assoc];exact g2.drop) (bF.sub ?_)
   show List.Sublist ((W.b,_)::(W.sp,_)::((kY cB W.sl bs++oB cQ (W.es.filter λ e=>decide (e.1≠n)))++(N2++N++Z))) ((W.b,_)::(W.sp,_)::((kY cB W.sl bs++oB cQ W.es)++(N2++(N++Z))))
   rw [List.append_assoc N2 N Z]
   exact List.Sublist.cons₂ _ (List.Sublist.cons₂ _ (List.Sublist.append_right (List.Sublist.append_left (List.Sublist.map _ List.filter_sublist) _) _))
theorem CN (es:List (Int×oE)):(jH es).map (·.1)=(es.map (·.1)).map Sum.inl:=by unfold jH;rw [List.map_map,List.map_map];rfl
def zl (cW cB cQ:Addr):Sp:=λ vs H Q _ => ∃ (W:WR) (Z:Cells),vs = [.ref W.b]/\Led H (aU cW cB cQ W++Z)/\(W.es.map (·.1)).Pairwise (· < ·)/\W.es.length<=1000 ∧ ∀ (r:Addr) (H':Hp),Led H' ((r,.lst ((W.es.map (·.1)).map V.int))::(aU cW cB cQ W++Z))->Q (.ref r) H'
theorem qe (D:Def K mg "told_spaces" fU) (B:e9 mg) (T:(Txt K mg cN c2 cP cA cG c3 cC c4 cU c6 cT cF cD cS cI cL cB cQ cW)):(aM P w K mg base) 1 "told_spaces" ["world"] (zl cW cB cQ):=by
 have sc:=i6
 refine D.ok i6 (λ vs H Q E h => ?_) (by walk_at "us") (λ f cdv A outer s H vs Q E hr h => ?_)
 ·walk_at "ln"
 ·obtain ⟨W,Z,rfl,hL,up,kF,k⟩:=h
  have f1:(wF W).lookup (Str.ofString "spaces")=some (.ref W.sp):=rfl
  have zj:=hL.get Ew
  have CL:=hL.get Ey
  refine ⟨_,(@aj _ _ _ (@ay _ _ _ _ (@aD _ _ _ _ _ _ _ _ _ (kK rfl) (by rfl) B.sorted jB (@aa _ _ _ _ _ (@aF _ _ _ _ _ _ _ T.World T.gu (@aq _ 0 _ _ (by walk_at "v")) (by rfl)) (@af _) (by rfl)) (by decide) (by decide) (by rfl) (by rfl)))),?_⟩
  walk_at "ge"
  refine xB hL CL (CN _) (up.imp λ h=>Int.le_of_lt h) (by rw [List.length_map];exact kF) λ l H' hl => ?_
  walk_at "ge"
  exact k l H' hl
def tZ (cW cB cQ c2:Addr):Sp:=λ vs H Q E => ∃ (W:WR) (n:Int) (Z M:Cells),vs = [.ref W.b,.int n]/\Led H (aU cW cB cQ W++Z)/\(∀ c∈M,c∈Z)/\(W.es.map (·.1)).Pairwise (· < ·)/\(∀ e∈W.es,e.1=n->(e.2.p,HO.lst (nW e.2.pl))∈M/\e.2.pl.length<=1000 ∧ ∀ (r:Addr) (H':Hp),Led H' ((r,.lst (nW e.2.pl))::(aU cW cB cQ W++Z))->Q (.ref r) H')/\(n ∉ W.es.map (·.1)->E (.ref c2) none H)
theorem t6 (D:Def K mg "told_plan" i7) (B:e9 mg) (T:(Txt K mg cN c2 cP cA cG c3 cC c4 cU c6 cT cF cD cS cI cL cB cQ cW)) (aC:(aM P w K mg base) 1 "space_at" ["world","space"] (bZ cW cB cQ c2)):(aM P w K mg base) 2 "told_plan" ["world","space"] (tZ cW cB cQ c2):=by
 have sc:=lW
 refine D.o6 lW (λ vs H Q E h => ?_) (by walk_at "us") (λ f cdv A outer s H vs Q E hr h => ?_)
 ·walk_at "ln"
 ·obtain ⟨W,n,Z,M,rfl,hL,hM,up,kQ,kE⟩:=h
  refine ⟨_,(@aj _ _ _ (@ay _ _ _ _ (@dU _ _ _ _ _ _ _ _ _ (bJ (K:=K) rfl) (by rfl) B.list d9 (@aa _ _ _ _ _ (@aF _ _ _ _ _ _ _ T.dS T.fB (@ak _ _ _ _ _ _ _ _ _ _ _ aC (hr.mono (by omega)) (by rfl) bA (@aa _ _ _ _ _ (@aq _ 0 _ _ (by walk_at "v")) (@aa _ _ _ _ _ (@aq _ 1 _ _ (by walk_at "v")) (@af _) (by rfl)) (by rfl)) (by decide) (by rfl) (by rfl)) (by rfl)) (@af _) (by rfl)) (by decide) (by decide) (by rfl) (by rfl)))),?_⟩
  walk_at "ge"
  refine ⟨W,n,Z,rfl,hL,up,λ e he e1 => ?_,kE⟩
  obtain ⟨hp,hpl,k2⟩:=kQ e he e1
  have fp:(AS e.2).lookup (Str.ofString "plan")=some (.ref e.2.p):=rfl
  have xW:=hL.get (wc he)
  have Jo:=hL.get (dJ (hM _ hp))
  walk_at "ge"
  rename Led _ _=>hl2
  exact k2 _ _ hl2
def t8 (cW cB cQ cL c2:Addr):Sp:=λ vs H Q E => ∃ (W:WR) (n:Int) (Z M:Cells),vs = [.ref W.b,.int n]/\Led H (aU cW cB cQ W++Z)/\(∀ c∈M,c∈Z)/\(W.es.map (·.1)).Pairwise (· < ·)/\(∀ e∈W.es,e.1=n->Hr cL e.2 M ∧ ∀ (r:Addr) (N:Cells) (H':Hp),(r,HO.lst [])∈N->Led H' (N++(aU cW cB cQ W++Z))->Q (.ref r) H')/\(n ∉ W.es.map (·.1)->E (.ref c2) none H)
theorem t9 (D:Def K mg "told_ways" i8) (B:e9 mg) (T:(Txt K mg cN c2 cP cA cG c3 cC c4 cU c6 cT cF cD cS cI cL cB cQ cW)) (aC:(aM P w K mg base) 1 "space_at" ["world","space"] (bZ cW cB cQ c2)) (bw:(bH P w K mg base) 2 cL "pages" ["self"] (tS cL)) (aT:(bH P w K mg base) 1 cL "sheet_at" ["self","page"] eV):(aM P w K mg base) 3 "told_ways" ["world","space"] (t8 cW cB cQ cL c2):=by
 have sc:=lX
 refine D.o6 lX (λ vs H Q E h => ?_) (by walk_at "us") (λ f cdv A outer s H vs Q E hr h => ?_)
 ·walk_at "ln"
 ·obtain ⟨W,n,Z,M,rfl,hL,hM,up,kQ,kE⟩:=h
  refine ⟨_,(@ah _ _ _ _ _ (@aB _ _ 2 _ _ _ _ sc.nd rfl (by walk_at "o2") (@aF _ _ _ _ _ _ _ T.dS T.jD (@ak _ _ _ _ _ _ _ _ _ _ _ aC (hr.mono (by omega)) (by rfl) bA (@aa _ _ _ _ _ (@aq _ 0 _ _ (by walk_at "v")) (@aa _ _ _ _ _ (@aq _ 1 _ _ (by walk_at "v")) (@af _) (by rfl)) (by rfl)) (by decide) (by rfl) (by rfl)) (by rfl)) (by rfl) (by walk_at "o4")) (@aj _ _ _ (@ay _ _ _ _ (@gG _ _ "page" _ _ _ _ _ _ _ _ _ rfl rfl rfl rfl u0 (cu (by kernel_rfl)) (@bB _ _ _ _ (@ff _ _ _ _ _ _ _ _ _ _ _ _ _ T.Table bw (hr.mono (by omega)) au (@aq _ 2 _ _ (by walk_at "v")) (by rfl))) (λ _ _ _ _=>(@gF _)) (λ _ _ _ _=>(@fj _ _ _ _ _ (@aa _ _ _ _ _ (@pk _ 0 _ _ (by kernel_rfl) (by kernel_rfl) (by decide) (by decide)) (@aa _ _ _ _ _ (@dI _ _ _ _ _ _ _ _ _ _ _ _ _ _ _ _ T.Table aT (hr.mono (by omega)) au (@pk _ 3 _ _ (by kernel_rfl) (by kernel_rfl) (by decide) (by decide)) (@aa _ _ _ _ _ (@pk _ 0 _ _ (by kernel_rfl) (by kernel_rfl) (by decide) (by decide)) (@af _) (by rfl)) (by rfl) (by rfl) (by rfl)) (@af _) (by rfl)) (by rfl)))) (by intro _;rfl))))),?_⟩
  refine aA λ M1 K1 => ?_
  walk_at "ge"
  refine ⟨W,n,Z,rfl,hL,up,λ e he e1 => ?_,kE⟩
  obtain ⟨⟨ht,GO,_,_⟩,k2⟩:=kQ e he e1
  have ft:(AS e.2).lookup (Str.ofString "table")=some (.ref e.2.t):=rfl
  have xW:=hL.get (wc he)
  walk_at "ge"
  refine K1.use ?_
  walk_at "cl"
  clear K1
  have Kn:=hL.get (dJ (hM _ ht))
  walk_at "ge"
  refine rJ λ Lc uB => ?_
  walk_at "ge"
  refine ⟨e.2.t,_,rfl,hL,⟨e.2.td,e.2.ld,dJ (hM _ ht),dJ (hM _ GO)⟩,λ l N H2 oj hl1 => ?_⟩
  refine ⟨l,rfl,⟨_,bW.of (hl1.get (mB oj))⟩,uB.use ?_⟩
  refine gn [] (λ _ _ _=>False) hl1 (mB oj) (by decide) (λ i y H4 R N hy bF hR => ?_) (λ r vs Cs H4 hvl hcl hG bF => ?_)
  ·cases hy
  ·obtain rfl:=List.length_eq_zero_iff.mp hvl
   obtain rfl:=List.length_eq_zero_iff.mp hcl
   walk_at "ge"
   exact k2 r ((r,.lst [])::N) H4 mS bF
def wg (cT cF cD cS cI cL:Addr):Sp:=λ vs H Q _ => ∃ (W:WR) (L M:Cells),vs = [.ref W.st]/\Led H L/\(∀ c∈M,c∈L)/\fh cT cF cD cS cI cL W M ∧ ∀ H' N,Led H' (N++L)->Q (.int ((W.m:Int) - 1+W.q)) H'
theorem xY (D:Def K mg "room_of" m7) (B:e9 mg) (T:(Txt K mg cN c2 cP cA cG c3 cC c4 cU c6 cT cF cD cS cI cL cB cQ cW)) (eL:(bH P w K mg base) 1 cF "things" ["self"] (tO cF "held")) (fD:(bH P w K mg base) 1 cS "sheets" ["self"] (tO cS "placed")):(aM P w K mg base) 2 "room_of" ["store"] (wg cT cF cD cS cI cL):=by
 have sc:=pD
 refine D.ok pD (λ vs H Q E h => ?_) (by walk_at "us") (λ f cdv A outer s H vs Q E hr h => ?_)
 ·walk_at "ln"
 ·obtain ⟨W,L,M,rfl,hL,hM,n,k⟩:=h
  have f2:(Hq W.s).lookup (Str.ofString "frames")=some (.ref W.s.fr):=rfl
  have f4:(Hq W.s).lookup (Str.ofString "shelf")=some (.ref W.s.sh):=rfl
  have f5:(Hq W.s).lookup (Str.ofString "holders")=some (.ref W.s.ho):=rfl
  have k2:=hL.get (hM _ n.GK)
  have k3:=hL.get (hM _ n.Jl)
  refine ⟨_,(@ah _ _ _ _ _ (@aB _ _ 1 _ _ _ _ sc.nd rfl (by walk_at "o2") (@av _ _ _ _ _ _ _ _ bg (@av _ _ _ _ _ _ _ _ cg (@aD _ _ _ _ _ _ _ _ _ bh (by rfl) B.len cH (@aa _ _ _ _ _ (@ff _ _ _ _ _ _ _ _ _ _ _ _ _ T.Frames eL (hr.mono (by omega)) au (@aF _ _ _ _ _ _ _ T.gr T.pU (@aq _ 0 _ _ (by walk_at "v")) (by rfl)) (by rfl)) (@af _) (by rfl)) (by decide) (by decide) (by rfl) (by rfl)) (@ao _ _ _ _)) (@aD _ _ _ _ _ _ _ _ _ bh (by rfl) B.len cH (@aa _ _ _ _ _ (@ff _ _ _ _ _ _ _ _ _ _ _ _ _ T.vE fD (hr.mono (by omega)) au (@aF _ _ _ _ _ _ _ T.gr T.yT (@aq _ 0 _ _ (by walk_at "v")) (by rfl)) (by rfl)) (@af _) (by rfl)) (by decide) (by decide) (by rfl) (by rfl))) (by rfl) (by walk_at "o4")) (@aj _ _ _ (@ay _ _ _ _ (@av _ _ _ _ _ _ _ _ cg (@aq _ 1 _ _ (by walk_at "v")) (@aD _ _ _ _ _ _ _ _ _ bh (by rfl) B.len cH (@aa _ _ _ _ _ (@aF _ _ _ _ _ _ _ T.gr T.rV (@aq _ 0 _ _ (by walk_at "v")) (by rfl)) (@af _) (by rfl)) (by decide) (by decide) (by rfl) (by rfl)))))),?_⟩
  refine aA λ M1 K1 => ?_
  walk_at "ge"
  refine ⟨_,_,_,_,_,L,rfl,hL,hM _ n.Jl,rfl,hM _ n.Mg,λ r H' hl' => ?_⟩
  replace k2:=hl'.get (mC (hM _ n.GK))
  have k5:=hl'.get (mC (hM _ n.Jm))
  clear k3
  have Px:=hl'.get mS
  walk_at "ge"
  refine ⟨_,_,_,_,_,_,rfl,hl',mC (hM _ n.Jm),rfl,mC (hM _ n.Mh),λ r2 H2 hl2 => ?_⟩
  clear k2 k5 Px
  have Py:=hl2.get mS
  walk_at "ge"
  refine K1.use ?_
  walk_at "cl"
  clear K1 Py
  have k2:=hl2.get (mC (mC (hM _ n.GK)))
  have k6:=hl2.get (mC (mC (hM _ n.Mi)))
  walk_at "ge"
  rw [List.length_replicate,List.length_replicate]
  have:=k _ [_,_] hl2
  simpa using this
def ua (cW cB cQ cT cF cD cS cI cL:Addr):Sp:=λ vs H Q _ => ∃ (W:WR) (Z M:Cells),vs = [.ref W.b]/\Led H (aU cW cB cQ W++Z)/\(∀ c∈M,c∈Z)/\fh cT cF cD cS cI cL W M ∧ ∀ H' N,Led H' (N++(aU cW cB cQ W++Z))->Q (.int ((W.m:Int) - 1+W.q)) H'
theorem uc (D:Def K mg "told_room" i9) (T:(Txt K mg cN c2 cP cA cG c3 cC c4 cU c6 cT cF cD cS cI cL cB cQ cW)) (ny:(aM P w K mg base) 2 "room_of" ["store"] (wg cT cF cD cS cI cL)):(aM P w K mg base) 3 "told_room" ["world"] (ua cW cB cQ cT cF cD cS cI cL):=by
 have sc:=lY
 refine D.ok lY (λ vs H Q E h => ?_) (by walk_at "us") (λ f cdv A outer s H vs Q E hr h => ?_)
 ·walk_at "ln"
 ·obtain ⟨W,Z,M,rfl,hL,hM,g,k⟩:=h
  have f1:(wF W).lookup (Str.ofString "store")=some (.ref W.st):=rfl
  have zj:=hL.get Ew
  refine ⟨_,(@aj _ _ _ (@ay _ _ _ _ (@ak _ _ _ _ _ _ _ _ _ _ _ ny (hr.mono (by omega)) (by rfl) au (@aa _ _ _ _ _ (@aF _ _ _ _ _ _ _ T.World T.gW (@aq _ 0 _ _ (by walk_at "v")) (by rfl)) (@af _) (by rfl)) (by decide) (by rfl) (by rfl)))),?_⟩
  walk_at "ge"
  refine ⟨W,_,M,rfl,hL,λ c hc=>dJ (hM _ hc),g,λ H' N hl => ?_⟩
  walk_at "ge"
  exact k H' N hl
theorem AG {K:PySem.W.Frag} {H:Hp} {l:Addr} {xs:List V} {QB:Bool->Hp->Prop} (h:H l=some (.lst xs)) (q:QB (!xs.isEmpty) H) : ∃ k,FI K (.ref l) H k/\QB k H:=⟨_,.inl ⟨xs,bW.of h,rfl⟩,q⟩
def oG:Sp:=λ vs H Q _ => ∃ (a:Addr) (s:Sr),vs = [.ref a]/\H a=some (.tup (qp s))/\Q (.int (s.f+s.m)) H
theorem AH (D:Def K mg "end_of" pH) (T:(Txt K mg cN c2 cP cA cG c3 cC c4 cU c6 cT cF cD cS cI cL cB cQ cW)):(aM P w K mg base) 1 "end_of" ["stretch"] oG:=by
 have sc:=rM
 refine D.ok rM (λ vs H Q E h => ?_) (by walk_at "us") (λ f cdv A outer s H vs Q E hr h => ?_)
 ·walk_at "ln"
 ·obtain ⟨a,t,rfl,ha,k⟩:=h
  unfold qp at ha
  refine ⟨_,(@aj _ _ _ (@ay _ _ _ _ (@av _ _ _ _ _ _ _ _ bg (@aJ _ _ _ _ _ _ _ aE (@aq _ 0 _ _ (by walk_at "v")) (@aH _ _ _ _ T.vB (by rfl) (by decide)) (λ _ _=>rfl)) (@aJ _ _ _ _ _ _ _ aE (@aq _ 0 _ _ (by walk_at "v")) (@aH _ _ _ _ T.Eg (by rfl) (by decide)) (λ _ _=>rfl))))),?_⟩
  walk_at "ge"
  exact k
def xZ:Sp:=λ vs H Q _ => ∃ (l:Addr) (lo hi:Int) (L:Cells),vs = [.ref l,.int lo,.int hi]/\Led H L/\(l,HO.lst [])∈L ∧ ∀ r H',Led H' ((r,.lst [])::L)->Q (.ref r) H'
theorem Ez (D:Def K mg "cut" BY) (B:e9 mg) (T:(Txt K mg cN c2 cP cA cG c3 cC c4 cU c6 cT cF cD cS cI cL cB cQ cW)) (dM:(aM P w K mg base) 1 "end_of" ["stretch"] oG) (fE:(aM P w K mg base) 1 "file_page_at" ["stretch","page"] eV):(aM P w K mg base) 2 "cut" ["plan","low","high"] xZ:=by
 have sc:=BZ
 refine D.ok BZ (λ vs H Q E h => ?_) (by walk_at "us") (λ f cdv A outer s H vs Q E hr h => ?_)
 ·walk_at "ln"
 ·obtain ⟨l,lo,hi,L,rfl,hL,oj,k⟩:=h
  refine ⟨_,(@ah _ _ _ _ _ (@aB _ _ 3 _ _ _ _ sc.nd rfl (by walk_at "o2") (@bC _ _ _ _ (@af _)) (by rfl) (by walk_at "o4")) (@ah _ _ _ _ _ (@bT _ _ _ _ _ _ _ _ PassesOwn.never rfl (@bB _ _ _ _ (@aq _ 0 _ _ (by walk_at "v"))) (@aX _ _ 4 _ sc.nd rfl (by walk_at "o2") (by walk_at "o4")) (@ah _ _ _ _ _ (@aB _ _ 5 _ _ _ _ sc.nd rfl (by walk_at "o2") (@aD _ _ _ _ _ _ _ _ _ (zN rfl) (by rfl) B.max F6 (@aa _ _ _ _ _ (@aJ _ _ _ _ _ _ _ aE (@aq _ 4 _ _ (by walk_at "v")) (@aH _ _ _ _ T.vB (by rfl) (by decide)) (λ _ _=>rfl)) (@aa _ _ _ _ _ (@aq _ 1 _ _ (by walk_at "v")) (@af _) (by rfl)) (by rfl)) (by decide) (by decide) (by rfl) (by rfl)) (by rfl) (by walk_at "o4")) (@ah _ _ _ _ _ (@aB _ _ 6 _ _ _ _ sc.nd rfl (by walk_at "o2") (@aD _ _ _ _ _ _ _ _ _ (mK rfl) (by rfl) B.min xo (@aa _ _ _ _ _ (@ak _ _ _ _ _ _ _ _ _ _ _ dM (hr.mono (by omega)) (by rfl) au (@aa _ _ _ _ _ (@aq _ 4 _ _ (by walk_at "v")) (@af _) (by rfl)) (by decide) (by rfl) (by rfl)) (@aa _ _ _ _ _ (@aq _ 2 _ _ (by walk_at "v")) (@af _) (by rfl)) (by rfl)) (by decide) (by decide) (by rfl) (by rfl)) (by rfl) (by walk_at "o4")) (@aj _ _ _ (@aZ _ _ _ _ _ _ _ _ (@aG _ _ _ _ _ _ _ _ oM (@aq _ 5 _ _ (by walk_at "v")) (@aq _ 6 _ _ (by walk_at "v")) (aR _)) (@aj _ _ _ (@az _ _ _ _ (@jP _ _ _ _ _ _ _ _ _ _ _ _ PySem.F.plainAttrs_list PySem.F.slot_list_append PySem.F.type_list_append bY (@aq _ 3 _ _ (by walk_at "v")) (@aa _ _ _ _ _ (@av _ _ _ _ _ _ _ _ (pe (K:=K) rfl) (@av _ _ _ _ _ _ _ _ (pe (K:=K) rfl) (@fj _ _ _ _ _ (@aa _ _ _ _ _ (@aq _ 5 _ _ (by walk_at "v")) (@aa _ _ _ _ _ (@av _ _ _ _ _ _ _ _ cg (@aq _ 6 _ _ (by walk_at "v")) (@aq _ 5 _ _ (by walk_at "v"))) (@af _) (by rfl)) (by rfl))) (@iI _ _ _ _ _ _ _ _ _ _ (yP (K:=K) rfl) (@aq _ 4 _ _ (by walk_at "v")) (@fL _ _ _ (@aH _ _ _ _ T.Je (by rfl) (by decide))) (@fL _ _ _ (@aH _ _ _ _ T.Jf (by rfl) (by decide))))) (@fj _ _ _ _ _ (@aa _ _ _ _ _ (@ak _ _ _ _ _ _ _ _ _ _ _ fE (hr.mono (by omega)) (by rfl) au (@aa _ _ _ _ _ (@aq _ 4 _ _ (by walk_at "v")) (@aa _ _ _ _ _ (@aq _ 5 _ _ (by walk_at "v")) (@af _) (by rfl)) (by rfl)) (by decide) (by rfl) (by rfl)) (@af _) (by rfl)))) (@af _) (by rfl)) (by rfl) (by rfl) (by rfl) (by rfl) (by rfl)) (by rfl))) (@aO _))))) (by intro _;rfl)) (@aj _ _ _ (@ay _ _ _ _ (@aq _ 3 _ _ (by walk_at "v")))))),?_⟩
  refine aA λ M1 K1 => ?_
  walk_at "ge"
  rename_i r H1 _ hl1 _
  refine K1.use ?_
  walk_at "cl"
  clear K1 hL
  refine aA λ M1 K1 => ?_
  refine forL λ Lr gx => ?_
  have qf:=hl1.get (mC oj)
  walk_at "ge"
  refine ⟨l,rfl,⟨_,bW.of qf⟩,gx.use ?_⟩
  clear gx
  refine jQ [] (λ i σ H'=>H' = H1 ∧ σ = [some (.ref l),some (.int lo),some (.int hi),some (.ref r),none,none,none]) ⟨rfl,rfl⟩ (λ i σ H' _ h => ?_) ?_ ?_
  ·rw [h.1];exact bW.of qf
  ·rintro i v σ H' hv _
   cases hv
  ·rintro σ H' ⟨rfl,rfl⟩
   refine K1.use ?_
   walk_at "ge"
   exact k r H' hl1
def zm:Sp:=λ vs H Q _ => ∃ (l u:Addr) (L:Cells),vs = [.ref l]/\Led H L/\(l,HO.lst [.ref u])∈L ∧ ∀ r H',Led H' ((r,.lst [.ref u])::L)->Q (.ref r) H'
theorem CO (D:Def K mg "joined" pI) (B:e9 mg) (T:(Txt K mg cN c2 cP cA cG c3 cC c4 cU c6 cT cF cD cS cI cL cB cQ cW)) (gX:(aM P w K mg base) 1 "could_join" ["one","other"] eV):(aM P w K mg base) 2 "joined" ["pieces"] zm:=by
 have sc:=rN
 refine D.ok rN (λ vs H Q E h => ?_) (by walk_at "us") (λ f cdv A outer s H vs Q E hr h => ?_)
 ·walk_at "ln"
 ·obtain ⟨l,u,L,rfl,hL,oj,k⟩:=h
  refine ⟨_,(@ah _ _ _ _ _ (@aB _ _ 1 _ _ _ _ sc.nd rfl (by walk_at "o2") (@bC _ _ _ _ (@af _)) (by rfl) (by walk_at "o4")) (@ah _ _ _ _ _ (@bT _ _ _ _ _ _ _ _ PassesOwn.never rfl (@bB _ _ _ _ (@aq _ 0 _ _ (by walk_at "v"))) (@aX _ _ 2 _ sc.nd rfl (by walk_at "o2") (by walk_at "o4")) (@aj _ _ _ (@aZ _ _ _ _ _ _ _ _ (@PW.pt _ _ _ (@pw_and _ _ _ _ _ _ _ (@gj _ _ _ (@aq _ 1 _ _ (by walk_at "v")) (λ _=>rfl)) (@pw_and1 _ _ _ _ (@b9 _ _ _ (@ak _ _ _ _ _ _ _ _ _ _ _ gX (hr.mono (by omega)) (by rfl) au (@aa _ _ _ _ _ (@aJ _ _ _ _ _ _ _ aE (@aq _ 1 _ _ (by walk_at "v")) (@yi _ _ _ _ _ _ sf (@ao _ _ _ _)) (λ _ _=>rfl)) (@aa _ _ _ _ _ (@aq _ 2 _ _ (by walk_at "v")) (@af _) (by rfl)) (by rfl)) (by decide) (by rfl) (by rfl)) (by intro _;rfl))))) (@ah _ _ _ _ _ (@aB _ _ 3 _ _ _ _ sc.nd rfl (by walk_at "o2") (@F0 _ _ _ _ _ _ _ _ _ PySem.F.plainAttrs_list PySem.F.slot_list_pop PySem.F.type_list_pop F2 (@aq _ 1 _ _ (by walk_at "v")) (by rfl) (by rfl)) (by rfl) (by walk_at "o4")) (@aj _ _ _ (@az _ _ _ _ (@jP _ _ _ _ _ _ _ _ _ _ _ _ PySem.F.plainAttrs_list PySem.F.slot_list_append PySem.F.type_list_append bY (@aq _ 1 _ _ (by walk_at "v")) (@aa _ _ _ _ _ (@av _ _ _ _ _ _ _ _ (pe (K:=K) rfl) (@fj _ _ _ _ _ (@aa _ _ _ _ _ (@aJ _ _ _ _ _ _ _ aE (@aq _ 3 _ _ (by walk_at "v")) (@aH _ _ _ _ T.vB (by rfl) (by decide)) (λ _ _=>rfl)) (@aa _ _ _ _ _ (@av _ _ _ _ _ _ _ _ bg (@aJ _ _ _ _ _ _ _ aE (@aq _ 3 _ _ (by walk_at "v")) (@aH _ _ _ _ T.Eg (by rfl) (by decide)) (λ _ _=>rfl)) (@aJ _ _ _ _ _ _ _ aE (@aq _ 2 _ _ (by walk_at "v")) (@aH _ _ _ _ T.Eg (by rfl) (by decide)) (λ _ _=>rfl))) (@af _) (by rfl)) (by rfl))) (@iI _ _ _ _ _ _ _ _ _ _ (yP (K:=K) rfl) (@aq _ 3 _ _ (by walk_at "v")) (@fL _ _ _ (@aH _ _ _ _ T.Je (by rfl) (by decide))) (@yt _))) (@af _) (by rfl)) (by rfl) (by rfl) (by rfl) (by rfl) (by rfl)) (by rfl)))) (@aj _ _ _ (@az _ _ _ _ (@jP _ _ _ _ _ _ _ _ _ _ _ _ PySem.F.plainAttrs_list PySem.F.slot_list_append PySem.F.type_list_append bY (@aq _ 1 _ _ (by walk_at "v")) (@aa _ _ _ _ _ (@aq _ 2 _ _ (by walk_at "v")) (@af _) (by rfl)) (by rfl) (by rfl) (by rfl) (by rfl) (by rfl)) (by rfl))))) (by intro _;rfl)) (@aj _ _ _ (@ay _ _ _ _ (@aq _ 1 _ _ (by walk_at "v")))))),?_⟩
  refine aA λ M1 K1 => ?_
  walk_at "ge"
  rename_i r H1 _ hl1 _
  refine K1.use ?_
  walk_at "cl"
  clear K1 hL
  refine aA λ M1 K1 => ?_
  refine forL λ Lr gx => ?_
  have qf:=hl1.get (mC oj)
  walk_at "ge"
  refine ⟨l,rfl,⟨_,bW.of qf⟩,gx.use ?_⟩
  clear gx qf
  refine jQ [V.ref u] (λ i σ H' => ∃ v2:Option V,Led H' ((r,.lst ([V.ref u].take i))::L) ∧ σ = [some (.ref l),some (.ref r),v2,none]) ⟨none,hl1,rfl⟩ (λ i σ H' _ h => ?_) ?_ ?_
  ·obtain ⟨_,hl,_⟩:=h
   exact bW.of (hl.get (mC oj))
  ·clear hl1 K1 k
   rintro i v σ H' hv ⟨v2,hl,rfl⟩
   match i,hv with
   | 0,hv =>
     cases hv
     have CP:H' r=some (.lst []):=hl.get mS
     walk_at "ge"
     refine AG CP ?_
     rw [show (!([]:List V).isEmpty)=false from rfl]
     walk_at "ge"
     refine ⟨Aj CP,?_⟩
     walk_at "ge"
     refine Ai CP (by decide) ?_
     have hl2:=hl.put (o' := .lst ([]++[V.ref u])) rfl rfl
     walk_at "ge"
     exact ⟨_,hl2,rfl⟩
   | i+1,hv=>cases hv
  ·rintro σ H' ⟨v2,hl,rfl⟩
   refine K1.use ?_
   walk_at "ge"
   exact k r H' hl
def zo:Sp:=λ vs H Q _ => ∃ (p q u:Addr) (f m:Int) (L:Cells),vs = [.ref p,.int f,.int m,.ref q]/\Led H L/\(p,HO.lst [])∈L/\(q,HO.lst [.ref u])∈L ∧ ∀ (r:Addr) (N:Cells) (H':Hp),(r,HO.lst [.ref u])∈N->Led H' (N++L)->Q (.ref r) H'
theorem CQ (D:Def K mg "replaced" kN) (B:e9 mg) (T:(Txt K mg cN c2 cP cA cG c3 cC c4 cU c6 cT cF cD cS cI cL cB cQ cW)) (dM:(aM P w K mg base) 1 "end_of" ["stretch"] oG) (qg:(aM P w K mg base) 2 "cut" ["plan","low","high"] xZ) (qh:(aM P w K mg base) 2 "joined" ["pieces"] zm):(aM P w K mg base) 3 "replaced" ["plan","first","many","pieces"] zo:=by
 have sc:=nR
 refine D.ok nR (λ vs H Q E h => ?_) (by walk_at "us") (λ f cdv A outer s H vs Q E hr h => ?_)
 ·walk_at "ln"
 ·obtain ⟨p,q,u,f,m,L,rfl,hL,Jr,Pz,k⟩:=h
  have hsz:=sizeLine_eq
  refine ⟨_,(@ah _ _ _ _ _ (@aB _ _ 4 _ _ _ _ sc.nd rfl (by walk_at "o2") (@ak _ _ _ _ _ _ _ _ _ _ _ qg (hr.mono (by omega)) (by rfl) au (@aa _ _ _ _ _ (@aq _ 0 _ _ (by walk_at "v")) (@aa _ _ _ _ _ (@ao _ _ _ _) (@aa _ _ _ _ _ (@aq _ 1 _ _ (by walk_at "v")) (@af _) (by rfl)) (by rfl)) (by rfl)) (by decide) (by rfl) (by rfl)) (by rfl) (by walk_at "o4")) (@ah _ _ _ _ _ (@aB _ _ 5 _ _ _ _ sc.nd rfl (by walk_at "o2") (@uI _ _ _ _ _ _ _ _ (@gj _ _ _ (@aq _ 0 _ _ (by walk_at "v")) (λ _=>rfl)) (@ak _ _ _ _ _ _ _ _ _ _ _ qg (hr.mono (by omega)) (by rfl) au (@aa _ _ _ _ _ (@aq _ 0 _ _ (by walk_at "v")) (@aa _ _ _ _ _ (@av _ _ _ _ _ _ _ _ bg (@aq _ 1 _ _ (by walk_at "v")) (@aq _ 2 _ _ (by walk_at "v"))) (@aa _ _ _ _ _ (@ak _ _ _ _ _ _ _ _ _ _ _ dM (hr.mono (by omega)) (by rfl) au (@aa _ _ _ _ _ (@aJ _ _ _ _ _ _ _ aE (@aq _ 0 _ _ (by walk_at "v")) (@yi _ _ _ _ _ _ sf (@ao _ _ _ _)) (λ _ _=>rfl)) (@af _) (by rfl)) (by decide) (by rfl) (by rfl)) (@af _) (by rfl)) (by rfl)) (by rfl)) (by decide) (by rfl) (by rfl)) (@bC _ _ _ _ (@af _))) (by rfl) (by walk_at "o4")) (@aj _ _ _ (@ay _ _ _ _ (@ak _ _ _ _ _ _ _ _ _ _ _ qh (hr.mono (by omega)) (by rfl) au (@aa _ _ _ _ _ (@av _ _ _ _ _ _ _ _ Bt (@av _ _ _ _ _ _ _ _ Bt (@aq _ 4 _ _ (by walk_at "v")) (@aq _ 3 _ _ (by walk_at "v"))) (@aq _ 5 _ _ (by walk_at "v"))) (@af _) (by rfl)) (by decide) (by rfl) (by rfl)))))),?_⟩
  refine aA λ M1 K1 => ?_
  walk_at "ge"
  refine ⟨p,0,f,L,rfl,hL,Jr,λ a H1 hl1 => ?_⟩
  walk_at "ge"
  refine K1.use ?_
  walk_at "cl"
  clear K1 hL
  refine aA λ M1 K1 => ?_
  have Jo:=hl1.get (mC Jr)
  walk_at "ge"
  refine AG Jo ?_
  rw [show (!([]:List V).isEmpty)=false from rfl]
  walk_at "ge"
  rename_i b H2 _ hl2 _
  refine K1.use ?_
  walk_at "cl"
  clear K1 hl1 Jo
  have Mu:=hl2.get (mC mS)
  have Qo:=hl2.get (mC (mC Pz))
  have zj:=hl2.get mS
  walk_at "ge"
  rename Led _ _=>hl3
  refine ⟨_,u,_,rfl,hl3,mS,λ r H4 bF => ?_⟩
  walk_at "ge"
  exact k r [_,_,_,_,_] H4 mS bF
def zp (cC:Addr):Sp:=λ vs H Q E => ∃ (p u:Addr) (s:Sr) (L:Cells),vs = [.ref p,.ref u]/\Led H L/\(p,HO.lst [])∈L/\(u,HO.tup (qp s))∈L ∧ ∀ (r:Addr) (N:Cells) (H':Hp),(r,HO.lst [.ref u])∈N->Led H' (N++L)->Q (.ref r) H'
theorem CS (D:Def K mg "laid" xC) (B:e9 mg) (T:(Txt K mg cN c2 cP cA cG c3 cC c4 cU c6 cT cF cD cS cI cL cB cQ cW)) (dM:(aM P w K mg base) 1 "end_of" ["stretch"] oG) (qg:(aM P w K mg base) 2 "cut" ["plan","low","high"] xZ) (kT:(aM P w K mg base) 3 "replaced" ["plan","first","many","pieces"] zo):(aM P w K mg base) 4 "laid" ["plan","stretch"] (zp cC):=by
 have sc:=yQ
 refine D.o6 yQ (λ vs H Q E h => ?_) (by walk_at "us") (λ f cdv A outer s H vs Q E hr h => ?_)
 ·walk_at "ln"
 ·obtain ⟨p,u,s,L,rfl,hL,Jr,Js,k⟩:=h
  have GP:=hL.get Js
  have Ko:=GP
  unfold qp at Ko
  refine ⟨_,(@ah _ _ _ _ _ (@aZ _ _ _ _ _ _ _ _ (@gj _ _ _ (@ak _ _ _ _ _ _ _ _ _ _ _ qg (hr.mono (by omega)) (by rfl) au (@aa _ _ _ _ _ (@aq _ 0 _ _ (by walk_at "v")) (@aa _ _ _ _ _ (@aJ _ _ _ _ _ _ _ aE (@aq _ 1 _ _ (by walk_at "v")) (@aH _ _ _ _ T.vB (by rfl) (by decide)) (λ _ _=>rfl)) (@aa _ _ _ _ _ (@ak _ _ _ _ _ _ _ _ _ _ _ dM (hr.mono (by omega)) (by rfl) au (@aa _ _ _ _ _ (@aq _ 1 _ _ (by walk_at "v")) (@af _) (by rfl)) (by decide) (by rfl) (by rfl)) (@af _) (by rfl)) (by rfl)) (by rfl)) (by decide) (by rfl) (by rfl)) (λ _=>rfl)) (@aj _ _ _ (@gm _ _ _ _ _ _ _ _ _ _ _ _ _ _ _ _ _ _ _ _ _ _ T.Taken (by rfl) (@aa _ _ _ _ _ (@bz _ _ _ _) (@af _) (by rfl)) (by decide) (by rfl))) (@aO _)) (@aj _ _ _ (@ay _ _ _ _ (@ak _ _ _ _ _ _ _ _ _ _ _ kT (hr.mono (by omega)) (by rfl) au (@aa _ _ _ _ _ (@aq _ 0 _ _ (by walk_at "v")) (@aa _ _ _ _ _ (@aJ _ _ _ _ _ _ _ aE (@aq _ 1 _ _ (by walk_at "v")) (@aH _ _ _ _ T.vB (by rfl) (by decide)) (λ _ _=>rfl)) (@aa _ _ _ _ _ (@aJ _ _ _ _ _ _ _ aE (@aq _ 1 _ _ (by walk_at "v")) (@aH _ _ _ _ T.Eg (by rfl) (by decide)) (λ _ _=>rfl)) (@aa _ _ _ _ _ (@bC _ _ _ _ (@aa _ _ _ _ _ (@aq _ 1 _ _ (by walk_at "v")) (@af _) (by rfl))) (@af _) (by rfl)) (by rfl)) (by rfl)) (by rfl)) (by decide) (by rfl) (by rfl))))),?_⟩
  refine aA λ M1 K1 => ?_
  walk_at "ge"
  refine ⟨u,s,rfl,GP,?_⟩
  walk_at "ge"
  refine ⟨p,s.f,s.f+s.m,L,rfl,hL,Jr,λ a H1 hl1 => ?_⟩
  have Mu:=hl1.get mS
  walk_at "ge"
  refine AG Mu ?_
  rw [show (!([]:List V).isEmpty)=false from rfl]
  walk_at "ge"
  refine K1.use ?_
  walk_at "cl"
  clear K1 hL Ko GP Mu
  have Ko:H1 u=some (.tup [.int s.f,.int s.m,.str (Str.ofString "own"),.int s.r,.aN,.int 0]):=hl1.get (mC Js)
  walk_at "ge"
  rename Led _ _=>hl3
  refine ⟨p,_,u,s.f,s.m,_,rfl,hl3,mC (mC Jr),mS,λ r N H4 oF bF => ?_⟩
  walk_at "ge"
  exact k r (N++[_,_]) H4 (mB oF) (by rw [List.append_assoc];exact bF)
def ud:Sp:=λ vs H Q _ => ∃ f m:Int,vs = [.int f,.int m]/\0<=f/\f<=255/\1<=m/\m<=256 - f/\Q .aN H
theorem ue (D:Def K mg "ask_pages" je) (T:(Txt K mg cN c2 cP cA cG c3 cC c4 cU c6 cT cF cD cS cI cL cB cQ cW)) (aI:(aM P w K mg base) 2 "number" ["thing","low","high"] (eu cN)):(aM P w K mg base) 3 "ask_pages" ["first","many"] ud:=by
 have sc:=l8
 refine D.ok l8 (λ vs H Q E h => ?_) (by walk_at "us") (λ f cdv A outer s H vs Q E hr h => ?_)
 ·walk_at "ln"
 ·obtain ⟨f,m,rfl,f0,f9,m1,m9,k⟩:=h
  refine ⟨_,(@ah _ _ _ _ _ (@az _ _ _ _ (@ak _ _ _ _ _ _ _ _ _ _ _ aI (hr.mono (by omega)) (by rfl) au (@aa _ _ _ _ _ (@aq _ 0 _ _ (by walk_at "v")) (@aa _ _ _ _ _ (@ao _ _ _ _) (@aa _ _ _ _ _ (@av _ _ _ _ _ _ _ _ cg (@aH _ _ _ _ T.jn (by rfl) (by decide)) (@ao _ _ _ _)) (@af _) (by rfl)) (by rfl)) (by rfl)) (by decide) (by rfl) (by rfl)) (by rfl)) (@aj _ _ _ (@az _ _ _ _ (@ak _ _ _ _ _ _ _ _ _ _ _ aI (hr.mono (by omega)) (by rfl) au (@aa _ _ _ _ _ (@aq _ 1 _ _ (by walk_at "v")) (@aa _ _ _ _ _ (@ao _ _ _ _) (@aa _ _ _ _ _ (@av _ _ _ _ _ _ _ _ cg (@aH _ _ _ _ T.jn (by rfl) (by decide)) (@aq _ 0 _ _ (by walk_at "v"))) (@af _) (by rfl)) (by rfl)) (by rfl)) (by decide) (by rfl) (by rfl)) (by rfl)))),?_⟩
  refine aA λ M1 K1 => ?_
  walk_at "ge"
  refine ⟨.int f,_,_,_,rfl,Dg,λ x e _ _ => ?_,λ hno=>(hno f rfl (by omega) (by omega)).elim⟩
  walk_at "ge"
  refine K1.use ?_
  walk_at "cl"
  clear K1
  walk_at "ge"
  refine ⟨.int m,_,_,_,rfl,Dg,λ x e _ _ => ?_,λ hno=>(hno m rfl (by omega) (by omega)).elim⟩
  walk_at "ge"
  exact k
def CT:Sp:=λ vs H Q _ => ∃ (b:Addr) (m:Int),vs = [.ref b,.str (Str.ofString "own"),.aN,.int 0,.int m]/\Q .aN H
theorem wj (D:Def K mg "ask_file" kO) (B:e9 mg) (T:(Txt K mg cN c2 cP cA cG c3 cC c4 cU c6 cT cF cD cS cI cL cB cQ cW)) (eO:(bH P w K mg base) 1 cI "size_of" ["self","name"] eV):(aM P w K mg base) 2 "ask_file" ["world","kind","name","start","many"] CT:=by
 have sc:=nS
 refine D.o6 nS (λ vs H Q E h => ?_) (by walk_at "us") (λ f cdv A outer s H vs Q E hr h => ?_)
 ·walk_at "ln"
 ·obtain ⟨b,m,rfl,k⟩:=h
  have hne : ¬ Str.ofString "own" = Str.ofString "shared" := by decide +kernel
  refine ⟨_,(@aj _ _ _ (@aZ _ _ _ _ _ _ _ _ (@aG _ _ _ _ _ _ _ _ ym (@aq _ 2 _ _ (by walk_at "v")) (@kG _ _ _) (aR _)) (@aj _ _ _ (@aZ _ _ _ _ _ _ _ _ (@aG _ _ _ _ _ _ _ _ Bb (@av _ _ _ _ _ _ _ _ bg (@aq _ 3 _ _ (by walk_at "v")) (@aq _ 4 _ _ (by walk_at "v"))) (@dI _ _ _ _ _ _ _ _ _ _ _ _ _ _ _ _ T.Cd eO (hr.mono (by omega)) bA (@aF _ _ _ _ _ _ _ T.gr T.yU (@aF _ _ _ _ _ _ _ T.World T.gW (@aq _ 0 _ _ (by walk_at "v")) (by rfl)) (by rfl)) (@aa _ _ _ _ _ (@aq _ 2 _ _ (by walk_at "v")) (@af _) (by rfl)) (by rfl) (by rfl) (by rfl)) (aR _)) (@aj _ _ _ (@gm _ _ _ _ _ _ _ _ _ _ _ _ _ _ _ _ _ _ _ _ _ _ T.B4 (by rfl) (@aa _ _ _ _ _ (@bz _ _ _ _) (@af _) (by rfl)) (by decide) (by rfl))) (@aO _))) (@aj _ _ _ (@aZ _ _ _ _ _ _ _ _ (@aG _ _ _ _ _ _ _ _ ie (@aq _ 1 _ _ (by walk_at "v")) (@bz _ _ _ _) (aR _)) (@aj _ _ _ (@gm _ _ _ _ _ _ _ _ _ _ _ _ _ _ _ _ _ _ _ _ _ _ T.B3 (by rfl) (@aa _ _ _ _ _ (@bz _ _ _ _) (@af _) (by rfl)) (by decide) (by rfl))) (@aO _))))),?_⟩
  walk_at "ge"
  all_goals first | exact absurd rfl (by assumption) | exact absurd (by assumption) hne | exact k | skip
theorem set_same {α β : Type} {f : α->β} {l:List α} {i:Nat} {x y : α} (h:l[i]? = some x) (e:f y=f x):(l.set i y).map f=l.map f:=by
 rw [List.map_set]
 refine List.ext_getElem? λ j => ?_
 rw [List.getElem?_set]
 by_cases w:i=j
 ·subst w
  rw [if_pos rfl,if_pos (by rw [List.length_map];exact (List.getElem?_eq_some_iff.mp h).1),List.getElem?_map,h,e]
  rfl
 ·rw [if_neg w]
def WR.lay (W:WR) (i:Nat) (n:Int) (r:oE):WR := { W with es:=W.es.set i (n,r) }
theorem EA {W:WR} {Z:Cells} {i:Nat} {n:Int} {r:oE} (h:W.es[i]? = some (n,r)):(aU cW cB cQ W++Z)[W.bs.length+i+2]? = some (r.a,HO.ins cQ r.dx (AS r)) ∧ ∀ (p:Addr) (pl:List Jk),(aU cW cB cQ W++Z).set (W.bs.length+i+2) (r.a,HO.ins cQ r.dx (AS { r with p:=p,pl:=pl }))=aU cW cB cQ (W.lay i n { r with p:=p,pl:=pl })++Z:=by
 have hi:i < W.es.length:=(List.getElem?_eq_some_iff.mp h).1
 have hl:(kY cB W.sl W.bs).length=W.bs.length:=List.length_map _
 have his:i < (oB cQ W.es).length:=by unfold oB;rw [List.length_map];exact hi
 refine ⟨?_,λ p pl => ?_⟩
 ·show ((kY cB W.sl W.bs++oB cQ W.es)++Z)[W.bs.length+i]? = _
  rw [List.append_assoc,List.getElem?_append_right (by rw [hl];omega),hl,Nat.add_sub_cancel_left,List.getElem?_append_left his]
  unfold oB
  rw [List.getElem?_map,h]
  rfl
 ·have ek:jH (W.es.set i (n,{ r with p:=p,pl:=pl }))=jH W.es:=set_same h rfl
  show (W.b,_)::(W.sp,HO.dK (jH W.es))::((kY cB W.sl W.bs++oB cQ W.es)++Z).set (W.bs.length+i) _=(W.b,_)::(W.sp,HO.dK (jH (W.es.set i (n,{ r with p:=p,pl:=pl }))))::((kY cB W.sl W.bs++oB cQ (W.es.set i (n,{ r with p:=p,pl:=pl })))++Z)
  rw [ek,List.append_assoc,List.set_append_right _ _ (by rw [hl];omega),hl,Nat.add_sub_cancel_left,List.set_append_left _ _ his,<-List.append_assoc]
  have e:(oB cQ W.es).set i (r.a,HO.ins cQ r.dx (AS { r with p:=p,pl:=pl }))=oB cQ (W.es.set i (n,{ r with p:=p,pl:=pl })):=by
   unfold oB
   rw [List.map_set]
  rw [e]
  rfl
theorem fh.lay {W:WR} {M:Cells} {i:Nat} {n:Int} {r:oE} {p:Addr} {pl:List Jk} (g:fh cT cF cD cS cI cL W M) (h:W.es[i]? = some (n,r)) (hp:(p,HO.lst (nW pl))∈M) (hs : ∀ x∈pl,(x.1,HO.tup (qp x.2))∈M):fh cT cF cD cS cI cL (W.lay i n { r with p:=p,pl:=pl }) M:=by
 have ek:(W.es.set i (n,{ r with p:=p,pl:=pl })).map (·.1)=W.es.map (·.1):=set_same h rfl
 have o:=g.ok _ (List.mem_of_getElem? h)
 refine { g with up := ?_,le:=λ e he => ?_,ok:=λ e he => ?_ }
 ·show ((W.es.set i (n,{ r with p:=p,pl:=pl })).map (·.1)).Pairwise (· < ·)
  rw [ek]
  exact g.up
 ·rcases List.mem_or_eq_of_mem_set he with w | w
  ·exact g.le e w
  ·rw [w];exact g.le (n,r) (List.mem_of_getElem? h)
 ·rcases List.mem_or_eq_of_mem_set he with w | w
  ·exact g.ok e w
  ·rw [w];exact ⟨o.t,o.l,hp,hs⟩
def x8 (cW cB cQ cT cF cD cS cI cL c2:Addr):Sp:=λ vs H Q E => ∃ (W:WR) (n f m r:Int) (Z M:Cells),vs = [.ref W.b,.int n,.int f,.int m,.str (Str.ofString "own"),.int r,.aN,.int 0]/\Led H (aU cW cB cQ W++Z)/\(∀ c∈M,c∈Z)/\fh cT cF cD cS cI cL W M/\0<=f/\f<=255/\1<=m/\m<=256 - f/\0<=r/\r<=2 ∧
 (∀ (i:Nat) (x:oE),W.es[i]? = some (n,x)->x.pl = [] ∧ ∀ (p u:Addr) (N:Cells) (H':Hp),fh cT cF cD cS cI cL (W.lay i n { x with p:=p,pl:=[(u,⟨f,m,r⟩)] }) (N++M)->Led H' (aU cW cB cQ (W.lay i n { x with p:=p,pl:=[(u,⟨f,m,r⟩)] })++(N++Z))->Q .aN H') ∧
 (n ∉ W.es.map (·.1)->E (.ref c2) none H)
theorem uf (D:BR K mg "map_pages" jf .aN (.int 0)) (B:e9 mg) (T:(Txt K mg cN c2 cP cA cG c3 cC c4 cU c6 cT cF cD cS cI cL cB cQ cW)) (bI:(aM P w K mg base) 3 "ask_pages" ["first","many"] ud) (aI:(aM P w K mg base) 2 "number" ["thing","low","high"] (eu cN)) (aC:(aM P w K mg base) 1 "space_at" ["world","space"] (bZ cW cB cQ c2)) (kU:(aM P w K mg base) 2 "ask_file" ["world","kind","name","start","many"] CT) (x9:(aM P w K mg base) 4 "laid" ["plan","stretch"] (zp cC)):Jb P w K mg base 5 "map_pages" ["world","space","first","many","kind","rights","name","start"] [.aN,.int 0] (x8 cW cB cQ cT cF cD cS cI cL c2):=by
 have sc:=l9
 refine D.o6 0 l9 (λ vs H Q E h => ?_) (λ _ _ _ _ _ _ _ d1 d2 us hl=>by
  rw [List.length_append] at hl
  have h6:us.length=6:=Nat.add_right_cancel (m:=2) hl
  match us,h6 with
  | [_,_,_,_,_,_],_=>exact ⟨_,rfl,rfl⟩) (λ f cdv A outer s H vs Q E hr h => ?_)
 ·walk_at "ln"
 ·obtain ⟨W,n,f,m,r,Z,M,rfl,hL,hM,g,f0,f9,m1,m9,r0,r2,kQ,kE⟩:=h
  refine ⟨_,(@ah _ _ _ _ _ (@az _ _ _ _ (@ak _ _ _ _ _ _ _ _ _ _ _ bI (hr.mono (by omega)) (by rfl) au (@aa _ _ _ _ _ (@aq _ 2 _ _ (by walk_at "v")) (@aa _ _ _ _ _ (@aq _ 3 _ _ (by walk_at "v")) (@af _) (by rfl)) (by rfl)) (by decide) (by rfl) (by rfl)) (by rfl)) (@ah _ _ _ _ _ (@az _ _ _ _ (@ak _ _ _ _ _ _ _ _ _ _ _ aI (hr.mono (by omega)) (by rfl) bA (@aa _ _ _ _ _ (@aq _ 5 _ _ (by walk_at "v")) (@aa _ _ _ _ _ (@ao _ _ _ _) (@aa _ _ _ _ _ (@aH _ _ _ _ T.nV (by rfl) (by decide)) (@af _) (by rfl)) (by rfl)) (by rfl)) (by decide) (by rfl) (by rfl)) (by rfl)) (@ah _ _ _ _ _ (@aB _ _ 8 _ _ _ _ sc.nd rfl (by walk_at "o2") (@uI _ _ _ _ _ _ _ _ (@aG _ _ _ _ _ _ _ _ FH (@aq _ 6 _ _ (by walk_at "v")) (@kG _ _ _) (aR _)) (@ao _ _ _ _) (@ak _ _ _ _ _ _ _ _ _ _ _ aI (hr.mono (by omega)) (by rfl) bA (@aa _ _ _ _ _ (@aq _ 7 _ _ (by walk_at "v")) (@aa _ _ _ _ _ (@ao _ _ _ _) (@aa _ _ _ _ _ (@av _ _ _ _ _ _ _ _ cg (@aH _ _ _ _ T.Ar (by rfl) (by decide)) (@ao _ _ _ _)) (@af _) (by rfl)) (by rfl)) (by rfl)) (by decide) (by rfl) (by rfl))) (by rfl) (by walk_at "o4")) (@ah _ _ _ _ _ (@aB _ _ 9 _ _ _ _ sc.nd rfl (by walk_at "o2") (@ak _ _ _ _ _ _ _ _ _ _ _ aC (hr.mono (by omega)) (by rfl) bA (@aa _ _ _ _ _ (@aq _ 0 _ _ (by walk_at "v")) (@aa _ _ _ _ _ (@aq _ 1 _ _ (by walk_at "v")) (@af _) (by rfl)) (by rfl)) (by decide) (by rfl) (by rfl)) (by rfl) (by walk_at "o4")) (@ah _ _ _ _ _ (@az _ _ _ _ (@ak _ _ _ _ _ _ _ _ _ _ _ kU (hr.mono (by omega)) (by rfl) bA (@aa _ _ _ _ _ (@aq _ 0 _ _ (by walk_at "v")) (@aa _ _ _ _ _ (@aq _ 4 _ _ (by walk_at "v")) (@aa _ _ _ _ _ (@aq _ 6 _ _ (by walk_at "v")) (@aa _ _ _ _ _ (@aq _ 8 _ _ (by walk_at "v")) (@aa _ _ _ _ _ (@aq _ 3 _ _ (by walk_at "v")) (@af _) (by rfl)) (by rfl)) (by rfl)) (by rfl)) (by rfl)) (by decide) (by rfl) (by rfl)) (by rfl)) (@aj _ _ _ (@aL _ _ _ _ _ _ _ _ _ _ T.dS T.fB (@aq _ 9 _ _ (by walk_at "v")) (@ak _ _ _ _ _ _ _ _ _ _ _ x9 (hr.mono (by omega)) (by rfl) bA (@aa _ _ _ _ _ (@aF _ _ _ _ _ _ _ T.dS T.fB (@aq _ 9 _ _ (by walk_at "v")) (by rfl)) (@aa _ _ _ _ _ (@fj _ _ _ _ _ (@aa _ _ _ _ _ (@aq _ 2 _ _ (by walk_at "v")) (@aa _ _ _ _ _ (@aq _ 3 _ _ (by walk_at "v")) (@aa _ _ _ _ _ (@aq _ 4 _ _ (by walk_at "v")) (@aa _ _ _ _ _ (@aq _ 5 _ _ (by walk_at "v")) (@aa _ _ _ _ _ (@aq _ 6 _ _ (by walk_at "v")) (@aa _ _ _ _ _ (@aq _ 8 _ _ (by walk_at "v")) (@af _) (by rfl)) (by rfl)) (by rfl)) (by rfl)) (by rfl)) (by rfl))) (@af _) (by rfl)) (by rfl)) (by decide) (by rfl) (by rfl)) (by rfl)))))))),?_⟩
  refine aA λ M1 K1 => ?_
  walk_at "ge"
  refine ⟨f,m,rfl,f0,f9,m1,m9,?_⟩
  walk_at "ge"
  refine K1.use ?_
  walk_at "cl"
  clear K1
  refine aA λ M1 K1 => ?_
  walk_at "ge"
  refine ⟨.int r,_,_,_,rfl,Dg,λ x e _ _ => ?_,λ hno=>(hno r rfl (by omega) (by omega)).elim⟩
  walk_at "ge"
  refine K1.use ?_
  walk_at "cl"
  clear K1
  refine aA λ M1 K1 => ?_
  walk_at "ge"
  all_goals first | exact absurd rfl (by assumption) | skip
  refine K1.use ?_
  walk_at "cl"
  clear K1
  refine aA λ M1 K1 => ?_
  walk_at "ge"
  refine ⟨W,n,Z,rfl,hL,g.up,λ y hy y1 => ?_,λ hno=>kE hno⟩
  obtain ⟨i,hi⟩:=List.getElem?_of_mem hy
  obtain ⟨n',x⟩:=y
  have PB:n' = n:=y1
  subst PB
  obtain ⟨hpl,Mt⟩:=kQ i x hi
  obtain ⟨ht,GO,hp,hs⟩:=g.ok _ hy
  have G8:(x.p,HO.lst [])∈M:=by
   have h5:(x.p,HO.lst (nW x.pl))∈M:=hp
   rw [hpl] at h5
   exact h5
  walk_at "ge"
  refine K1.use ?_
  walk_at "cl"
  clear K1
  refine aA λ M1 K1 => ?_
  walk_at "ge"
  refine ⟨W.b,m,rfl,?_⟩
  walk_at "ge"
  refine K1.use ?_
  walk_at "cl"
  clear K1
  have fp:(AS x).lookup (Str.ofString "plan")=some (.ref x.p):=rfl
  have xW:=hL.get (wc hy)
  walk_at "ge"
  rename_i u H1 _ hl1 _
  have Jt:Led H1 ((u,HO.tup (qp ⟨f,m,r⟩))::(aU cW cB cQ W++Z)):=hl1
  refine ⟨x.p,u,⟨f,m,r⟩,_,rfl,Jt,mC (dJ (hM _ G8)),mS,λ p N H2 oF hl2 => ?_⟩
  clear hl1 Jt hL xW
  obtain ⟨N2,Dk⟩ : ∃ N2:Cells,N++[(u,HO.tup (qp ⟨f,m,r⟩))]=N2:=⟨_,rfl⟩
  have hl3:Led H2 (aU cW cB cQ W++(N2++Z)):=by
   rw [<-Dk]
   refine Led.perm (L:=(N++[(u,HO.tup (qp ⟨f,m,r⟩))])++(aU cW cB cQ W++Z)) ?_ aS
   rw [List.append_assoc]
   exact hl2
  clear hl2
  have xW:=hl3.get (wc hy)
  walk_at "ge"
  obtain ⟨hat,GN⟩:=EA (cW:=cW) (cB:=cB) (cQ:=cQ) (Z:=N2++Z) hi
  have bF:=hl3.lQ (o' := .ins cQ x.dx (AS { x with p:=p,pl:=[(u,⟨f,m,r⟩)] })) _ hat rfl rfl
  rw [GN] at bF
  refine Mt p u N2 _ ((g.mono λ c hc=>mA hc).lay hi ?_ λ y Mq => ?_) bF
  ·rw [<-Dk];exact mB (mB oF)
  ·rw [List.mem_singleton.mp Mq,<-Dk];exact mB (mA mS)
def ug (cW cB cQ c2:Addr) (as bs:List V):Sp:=λ vs H _ E => ∃ (W:WR) (n:Int) (Z:Cells),vs = .ref W.b::as ++ .int n::bs/\Led H (aU cW cB cQ W++Z)/\(W.es.map (·.1)).Pairwise (· < ·)/\n ∉ W.es.map (·.1) ∧ ∀ N H',Led H' (N++(aU cW cB cQ W++Z))->E (.ref c2) none H'
theorem qO (D:Def K mg "set_rights" gS) (B:e9 mg) (T:(Txt K mg cN c2 cP cA cG c3 cC c4 cU c6 cT cF cD cS cI cL cB cQ cW)) (bI:(aM P w K mg base) 3 "ask_pages" ["first","many"] ud) (aI:(aM P w K mg base) 2 "number" ["thing","low","high"] (eu cN)) (aC:(aM P w K mg base) 1 "space_at" ["world","space"] (bZ cW cB cQ c2)) (fY:(aM P w K mg base) 1 "with_rights" ["plan","first","many","rights"] eV) (bq:(aM P w K mg base) 1 "strike_page_ways" ["world","space","page"] eV):(aM P w K mg base) 4 "set_rights" ["world","space","first","many","rights"] (ug cW cB cQ c2 [] [.int 0,.int 1,.int 2]):=by
 have sc:=ko
 refine D.o6 ko (λ vs H Q E h => ?_) (by walk_at "us") (λ f cdv A outer s H vs Q E hr h => ?_)
 ·walk_at "ln"
 ·obtain ⟨W,n,Z,rfl,hL,up,hno,kE⟩:=h
  refine ⟨_,(@ah _ _ _ _ _ (@az _ _ _ _ (@ak _ _ _ _ _ _ _ _ _ _ _ bI (hr.mono (by omega)) (by rfl) au (@aa _ _ _ _ _ (@aq _ 2 _ _ (by walk_at "v")) (@aa _ _ _ _ _ (@aq _ 3 _ _ (by walk_at "v")) (@af _) (by rfl)) (by rfl)) (by decide) (by rfl) (by rfl)) (by rfl)) (@ah _ _ _ _ _ (@az _ _ _ _ (@ak _ _ _ _ _ _ _ _ _ _ _ aI (hr.mono (by omega)) (by rfl) bA (@aa _ _ _ _ _ (@aq _ 4 _ _ (by walk_at "v")) (@aa _ _ _ _ _ (@ao _ _ _ _) (@aa _ _ _ _ _ (@aH _ _ _ _ T.nV (by rfl) (by decide)) (@af _) (by rfl)) (by rfl)) (by rfl)) (by decide) (by rfl) (by rfl)) (by rfl)) (@ah _ _ _ _ _ (@aB _ _ 5 _ _ _ _ sc.nd rfl (by walk_at "o2") (@ak _ _ _ _ _ _ _ _ _ _ _ aC (hr.mono (by omega)) (by rfl) bA (@aa _ _ _ _ _ (@aq _ 0 _ _ (by walk_at "v")) (@aa _ _ _ _ _ (@aq _ 1 _ _ (by walk_at "v")) (@af _) (by rfl)) (by rfl)) (by decide) (by rfl) (by rfl)) (by rfl) (by walk_at "o4")) (@ah _ _ _ _ _ (@aL _ _ _ _ _ _ _ _ _ _ T.dS T.fB (@aq _ 5 _ _ (by walk_at "v")) (@ak _ _ _ _ _ _ _ _ _ _ _ fY (hr.mono (by omega)) (by rfl) bA (@aa _ _ _ _ _ (@aF _ _ _ _ _ _ _ T.dS T.fB (@aq _ 5 _ _ (by walk_at "v")) (by rfl)) (@aa _ _ _ _ _ (@aq _ 2 _ _ (by walk_at "v")) (@aa _ _ _ _ _ (@aq _ 3 _ _ (by walk_at "v")) (@aa _ _ _ _ _ (@aq _ 4 _ _ (by walk_at "v")) (@af _) (by rfl)) (by rfl)) (by rfl)) (by rfl)) (by decide) (by rfl) (by rfl)) (by rfl)) (@aj _ _ _ (@bT _ _ _ _ _ _ _ _ PassesOwn.leaving rfl (@mH _ _ _ _ _ _ _ (by rfl) B.range (@aa _ _ _ _ _ (@aq _ 2 _ _ (by walk_at "v")) (@aa _ _ _ _ _ (@av _ _ _ _ _ _ _ _ bg (@aq _ 2 _ _ (by walk_at "v")) (@aq _ 3 _ _ (by walk_at "v"))) (@af _) (by rfl)) (by rfl)) (by rfl) (by rfl)) (@aX _ _ 6 _ sc.nd rfl (by walk_at "o2") (by walk_at "o4")) (@aj _ _ _ (@az _ _ _ _ (@ak _ _ _ _ _ _ _ _ _ _ _ bq (hr.mono (by omega)) (by rfl) au (@aa _ _ _ _ _ (@aq _ 0 _ _ (by walk_at "v")) (@aa _ _ _ _ _ (@aq _ 1 _ _ (by walk_at "v")) (@aa _ _ _ _ _ (@aq _ 6 _ _ (by walk_at "v")) (@af _) (by rfl)) (by rfl)) (by rfl)) (by decide) (by rfl) (by rfl)) (by rfl))) (by intro _;rfl))))))),?_⟩
  refine aA λ M1 K1 => ?_
  walk_at "ge"
  refine ⟨0,1,rfl,by decide,by decide,by decide,by decide,?_⟩
  walk_at "ge"
  refine K1.use ?_
  walk_at "cl"
  clear K1
  refine aA λ M1 K1 => ?_
  walk_at "ge"
  refine ⟨.int 2,_,_,_,rfl,Dg,λ x e _ _ => ?_,λ hn=>(hn 2 rfl (by omega) (by omega)).elim⟩
  walk_at "ge"
  refine K1.use ?_
  walk_at "cl"
  clear K1
  refine aA λ M1 K1 => ?_
  walk_at "ge"
  exact ⟨W,n,Z,rfl,hL,up,λ e he e1=>absurd (List.mem_map.mpr ⟨e,he,e1⟩) hno,λ _=>kE [] H hL⟩
theorem CU (D:Def K mg "unmap_pages" fV) (B:e9 mg) (T:(Txt K mg cN c2 cP cA cG c3 cC c4 cU c6 cT cF cD cS cI cL cB cQ cW)) (bI:(aM P w K mg base) 3 "ask_pages" ["first","many"] ud) (aC:(aM P w K mg base) 1 "space_at" ["world","space"] (bZ cW cB cQ c2)) (nA:(aM P w K mg base) 1 "without" ["plan","first","many"] eV) (bq:(aM P w K mg base) 1 "strike_page_ways" ["world","space","page"] eV) (fZ:(aM P w K mg base) 1 "leave_sheet" ["world","table","page"] eV):(aM P w K mg base) 4 "unmap_pages" ["world","space","first","many"] (ug cW cB cQ c2 [] [.int 0,.int 1]):=by
 have sc:=jg
 refine D.o6 jg (λ vs H Q E h => ?_) (by walk_at "us") (λ f cdv A outer s H vs Q E hr h => ?_)
 ·walk_at "ln"
 ·obtain ⟨W,n,Z,rfl,hL,up,hno,kE⟩:=h
  refine ⟨_,(@ah _ _ _ _ _ (@az _ _ _ _ (@ak _ _ _ _ _ _ _ _ _ _ _ bI (hr.mono (by omega)) (by rfl) au (@aa _ _ _ _ _ (@aq _ 2 _ _ (by walk_at "v")) (@aa _ _ _ _ _ (@aq _ 3 _ _ (by walk_at "v")) (@af _) (by rfl)) (by rfl)) (by decide) (by rfl) (by rfl)) (by rfl)) (@ah _ _ _ _ _ (@aB _ _ 4 _ _ _ _ sc.nd rfl (by walk_at "o2") (@ak _ _ _ _ _ _ _ _ _ _ _ aC (hr.mono (by omega)) (by rfl) bA (@aa _ _ _ _ _ (@aq _ 0 _ _ (by walk_at "v")) (@aa _ _ _ _ _ (@aq _ 1 _ _ (by walk_at "v")) (@af _) (by rfl)) (by rfl)) (by decide) (by rfl) (by rfl)) (by rfl) (by walk_at "o4")) (@ah _ _ _ _ _ (@aL _ _ _ _ _ _ _ _ _ _ T.dS T.fB (@aq _ 4 _ _ (by walk_at "v")) (@ak _ _ _ _ _ _ _ _ _ _ _ nA (hr.mono (by omega)) (by rfl) bA (@aa _ _ _ _ _ (@aF _ _ _ _ _ _ _ T.dS T.fB (@aq _ 4 _ _ (by walk_at "v")) (by rfl)) (@aa _ _ _ _ _ (@aq _ 2 _ _ (by walk_at "v")) (@aa _ _ _ _ _ (@aq _ 3 _ _ (by walk_at "v")) (@af _) (by rfl)) (by rfl)) (by rfl)) (by decide) (by rfl) (by rfl)) (by rfl)) (@aj _ _ _ (@bT _ _ _ _ _ _ _ _ PassesOwn.leaving rfl (@mH _ _ _ _ _ _ _ (by rfl) B.range (@aa _ _ _ _ _ (@aq _ 2 _ _ (by walk_at "v")) (@aa _ _ _ _ _ (@av _ _ _ _ _ _ _ _ bg (@aq _ 2 _ _ (by walk_at "v")) (@aq _ 3 _ _ (by walk_at "v"))) (@af _) (by rfl)) (by rfl)) (by rfl) (by rfl)) (@aX _ _ 5 _ sc.nd rfl (by walk_at "o2") (by walk_at "o4")) (@ah _ _ _ _ _ (@az _ _ _ _ (@ak _ _ _ _ _ _ _ _ _ _ _ bq (hr.mono (by omega)) (by rfl) au (@aa _ _ _ _ _ (@aq _ 0 _ _ (by walk_at "v")) (@aa _ _ _ _ _ (@aq _ 1 _ _ (by walk_at "v")) (@aa _ _ _ _ _ (@aq _ 5 _ _ (by walk_at "v")) (@af _) (by rfl)) (by rfl)) (by rfl)) (by decide) (by rfl) (by rfl)) (by rfl)) (@aj _ _ _ (@az _ _ _ _ (@ak _ _ _ _ _ _ _ _ _ _ _ fZ (hr.mono (by omega)) (by rfl) au (@aa _ _ _ _ _ (@aq _ 0 _ _ (by walk_at "v")) (@aa _ _ _ _ _ (@aF _ _ _ _ _ _ _ T.dS T.jD (@aq _ 4 _ _ (by walk_at "v")) (by rfl)) (@aa _ _ _ _ _ (@aq _ 5 _ _ (by walk_at "v")) (@af _) (by rfl)) (by rfl)) (by rfl)) (by decide) (by rfl) (by rfl)) (by rfl)))) (by intro _;rfl)))))),?_⟩
  refine aA λ M1 K1 => ?_
  walk_at "ge"
  refine ⟨0,1,rfl,by decide,by decide,by decide,by decide,?_⟩
  walk_at "ge"
  refine K1.use ?_
  walk_at "cl"
  clear K1
  refine aA λ M1 K1 => ?_
  walk_at "ge"
  exact ⟨W,n,Z,rfl,hL,up,λ e he e1=>absurd (List.mem_map.mpr ⟨e,he,e1⟩) hno,λ _=>kE [] H hL⟩
def wm (cW cB cQ cT cF cD cS cI cL:Addr):Sp:=λ vs H Q _ => ∃ (W:WR) (Z M:Cells),vs = [.ref W.b,.int 0]/\Led H (aU cW cB cQ W++Z)/\(∀ c∈M,c∈Z)/\fh cT cF cD cS cI cL W M/\Q (.int 0) H
theorem ya (D:Def K mg "hand_of" nc) (B:e9 mg) (T:(Txt K mg cN c2 cP cA cG c3 cC c4 cU c6 cT cF cD cS cI cL cB cQ cW)) (aI:(aM P w K mg base) 2 "number" ["thing","low","high"] (eu cN)):(aM P w K mg base) 3 "hand_of" ["world","hand"] (wm cW cB cQ cT cF cD cS cI cL):=by
 have sc:=pG
 refine D.ok pG (λ vs H Q E h => ?_) (by walk_at "us") (λ f cdv A outer s H vs Q E hr h => ?_)
 ·walk_at "ln"
 ·obtain ⟨W,Z,M,rfl,hL,hM,g,k⟩:=h
  have f1:(wF W).lookup (Str.ofString "books")=some (.ref W.bk):=rfl
  have zj:=hL.get Ew
  have Mp:=hL.get (dJ (hM _ g.bk))
  have b1:=g.b1
  refine ⟨_,(@aj _ _ _ (@ay _ _ _ _ (@ak _ _ _ _ _ _ _ _ _ _ _ aI (hr.mono (by omega)) (by rfl) au (@aa _ _ _ _ _ (@aq _ 1 _ _ (by walk_at "v")) (@aa _ _ _ _ _ (@ao _ _ _ _) (@aa _ _ _ _ _ (@av _ _ _ _ _ _ _ _ cg (@aD _ _ _ _ _ _ _ _ _ bh (by rfl) B.len cH (@aa _ _ _ _ _ (@aF _ _ _ _ _ _ _ T.World T.tu (@aq _ 0 _ _ (by walk_at "v")) (by rfl)) (@af _) (by rfl)) (by decide) (by decide) (by rfl) (by rfl)) (@ao _ _ _ _)) (@af _) (by rfl)) (by rfl)) (by rfl)) (by decide) (by rfl) (by rfl)))),?_⟩
  walk_at "ge"
  refine ⟨.int 0,_,_,_,rfl,Dg,λ x e _ _ => ?_,λ hno=>(hno 0 rfl (by omega) (by rw [List.length_map];omega)).elim⟩
  cases e
  walk_at "ge"
  exact k
def yb (cW cB cQ cT cF cD cS cI cL:Addr):Sp:=λ vs H Q _ => ∃ (W:WR) (c:Int) (Z M:Cells),vs = [.ref W.b,.int 0,.int 5,.int c]/\Led H (aU cW cB cQ W++Z)/\(∀ c∈M,c∈Z)/\fh cT cF cD cS cI cL W M/\0<=c/\c<=1/\Q .aN H
theorem uh (D:Def K mg "ask_cells" jh) (B:e9 mg) (T:(Txt K mg cN c2 cP cA cG c3 cC c4 cU c6 cT cF cD cS cI cL cB cQ cW)) (nB:(aM P w K mg base) 3 "hand_of" ["world","hand"] (wm cW cB cQ cT cF cD cS cI cL)) (aI:(aM P w K mg base) 2 "number" ["thing","low","high"] (eu cN)):(aM P w K mg base) 4 "ask_cells" ["world","hand","place","many"] (yb cW cB cQ cT cF cD cS cI cL):=by
 have sc:=mh
 refine D.ok mh (λ vs H Q E h => ?_) (by walk_at "us") (λ f cdv A outer s H vs Q E hr h => ?_)
 ·walk_at "ln"
 ·obtain ⟨W,c,Z,M,rfl,hL,hM,g,c0,c1,k⟩:=h
  refine ⟨_,(@ah _ _ _ _ _ (@az _ _ _ _ (@ak _ _ _ _ _ _ _ _ _ _ _ nB (hr.mono (by omega)) (by rfl) au (@aa _ _ _ _ _ (@aq _ 0 _ _ (by walk_at "v")) (@aa _ _ _ _ _ (@aq _ 1 _ _ (by walk_at "v")) (@af _) (by rfl)) (by rfl)) (by decide) (by rfl) (by rfl)) (by rfl)) (@ah _ _ _ _ _ (@az _ _ _ _ (@ak _ _ _ _ _ _ _ _ _ _ _ aI (hr.mono (by omega)) (by rfl) au (@aa _ _ _ _ _ (@aq _ 2 _ _ (by walk_at "v")) (@aa _ _ _ _ _ (@ao _ _ _ _) (@aa _ _ _ _ _ (@av _ _ _ _ _ _ _ _ cg (@aH _ _ _ _ T.iA (by rfl) (by decide)) (@ao _ _ _ _)) (@af _) (by rfl)) (by rfl)) (by rfl)) (by decide) (by rfl) (by rfl)) (by rfl)) (@aj _ _ _ (@az _ _ _ _ (@ak _ _ _ _ _ _ _ _ _ _ _ aI (hr.mono (by omega)) (by rfl) au (@aa _ _ _ _ _ (@aq _ 3 _ _ (by walk_at "v")) (@aa _ _ _ _ _ (@ao _ _ _ _) (@aa _ _ _ _ _ (@aD _ _ _ _ _ _ _ _ _ (mK rfl) (by rfl) B.min xo (@aa _ _ _ _ _ (@aH _ _ _ _ T.xG (by rfl) (by decide)) (@aa _ _ _ _ _ (@av _ _ _ _ _ _ _ _ cg (@aH _ _ _ _ T.iA (by rfl) (by decide)) (@aq _ 2 _ _ (by walk_at "v"))) (@af _) (by rfl)) (by rfl)) (by decide) (by decide) (by rfl) (by rfl)) (@af _) (by rfl)) (by rfl)) (by rfl)) (by decide) (by rfl) (by rfl)) (by rfl))))),?_⟩
  refine aA λ M1 K1 => ?_
  walk_at "ge"
  refine ⟨W,Z,M,rfl,hL,hM,g,?_⟩
  walk_at "ge"
  refine K1.use ?_
  walk_at "cl"
  clear K1
  refine aA λ M1 K1 => ?_
  walk_at "ge"
  refine ⟨.int 5,_,_,_,rfl,Dg,λ x e _ _ => ?_,λ hno=>(hno 5 rfl (by omega) (by omega)).elim⟩
  walk_at "ge"
  refine K1.use ?_
  walk_at "cl"
  clear K1
  walk_at "ge"
  refine ⟨_,_,rfl,?_⟩
  walk_at "ge"
  refine ⟨.int c,_,_,_,rfl,Dg,λ x e _ _ => ?_,λ hno=>(hno c rfl (by omega) (by split <;> omega)).elim⟩
  walk_at "ge"
  exact k
def CV:Sp:=λ vs H Q _ => ∃ (l:Addr) (L:Cells),vs = [.ref l]/\Led H L/\(l,HO.lst [.int 7])∈L ∧ ∀ r H',Led H' ((r,.lst [.int 7])::L)->Q (.ref r) H'
theorem qP (D:Def K mg "numbers_of" gT) (B:e9 mg) (T:(Txt K mg cN c2 cP cA cG c3 cC c4 cU c6 cT cF cD cS cI cL cB cQ cW)) (f6:(aM P w K mg base) 3 "cell_number" ["thing"] ze):(aM P w K mg base) 4 "numbers_of" ["thing"] CV:=by
 have sc:=kr
 refine D.o6 kr (λ vs H Q E h => ?_) (by walk_at "us") (λ f cdv A outer s H vs Q E hr h => ?_)
 ·walk_at "ln"
 ·obtain ⟨l,L,rfl,hL,oj,k⟩:=h
  have qf:=hL.get oj
  refine ⟨_,(@ah _ _ _ _ _ (@aZ _ _ _ _ _ _ _ _ (@b3 _ _ _ _ (@b9 _ _ _ (@aD _ _ _ _ _ _ _ _ _ c8 (by rfl) B.isinstance aW (@aa _ _ _ _ _ (@aq _ 0 _ _ (by walk_at "v")) (@aa _ _ _ _ _ (@eU _ _ (.ty "list") _ _ (by rfl) B.list d9 rfl (by decide) (by decide)) (@af _) (by rfl)) (by rfl)) (by decide) (by decide) (by rfl) (by rfl)) (by intro _;rfl))) (@aj _ _ _ (@gm _ _ _ _ _ _ _ _ _ _ _ _ _ _ _ _ _ _ _ _ _ _ T.pT (by rfl) (@aa _ _ _ _ _ (@bz _ _ _ _) (@af _) (by rfl)) (by decide) (by rfl))) (@aO _)) (@aj _ _ _ (@ay _ _ _ _ (@gG _ _ "one" _ _ _ _ _ _ _ _ _ rfl rfl rfl rfl u0 (cu (by kernel_rfl)) (@bB _ _ _ _ (@aq _ 0 _ _ (by walk_at "v"))) (λ _ _ _ _=>(@gF _)) (λ _ _ _ _=>(@ak _ _ _ _ _ _ _ _ _ _ _ f6 (hr.mono (by omega)) (by rfl) au (@aa _ _ _ _ _ (@pk _ 0 _ _ (by kernel_rfl) (by kernel_rfl) (by decide) (by decide)) (@af _) (by rfl)) (by decide) (by rfl) (by rfl))) (by intro _;rfl))))),?_⟩
  refine aA λ M1 K1 => ?_
  walk_at "ge"
  refine K1.use ?_
  walk_at "cl"
  clear K1
  walk_at "ge"
  refine rJ λ Lc uB => ?_
  walk_at "ge"
  refine ⟨l,rfl,⟨_,bW.of qf⟩,uB.use ?_⟩
  refine gn [V.int 7] (λ _ v C=>v=V.int 7/\C = []) hL oj (by decide) (λ i y H4 R N hy bF hR => ?_) (λ r vs Cs H4 hvl hcl hG bF => ?_)
  ·match i,hy with
   | 0,hy =>
     cases hy
     walk_at "ge"
     refine ⟨7,rfl,by decide,by decide,?_⟩
     walk_at "ge"
     exact hR _ _ [] ⟨rfl,rfl⟩ bF
   | i+1,hy=>cases hy
  ·match vs,Cs,hvl,hcl,hG,bF with
   | [v],[C],_,_,hG,bF =>
     obtain ⟨rfl,rfl⟩:=hG 0 v C rfl rfl
     walk_at "ge"
     exact k r H4 bF
def zq (cW cB cQ cT cF cD cS cI cL c2:Addr):Sp:=λ vs H _ E => ∃ (W:WR) (n:Int) (Z M:Cells),vs = [.ref W.b,.int 0,.int n,.int 5,.int 0]/\Led H (aU cW cB cQ W++Z)/\(∀ c∈M,c∈Z)/\fh cT cF cD cS cI cL W M/\n ∉ W.es.map (·.1) ∧ ∀ N H',Led H' (N++(aU cW cB cQ W++Z))->E (.ref c2) none H'
theorem qQ (D:Def K mg "read_cells" gU) (B:e9 mg) (T:(Txt K mg cN c2 cP cA cG c3 cC c4 cU c6 cT cF cD cS cI cL cB cQ cW)) (dh:(aM P w K mg base) 4 "ask_cells" ["world","hand","place","many"] (yb cW cB cQ cT cF cD cS cI cL)) (jF:(aM P w K mg base) 2 "parts" ["place","many"] tQ) (aC:(aM P w K mg base) 1 "space_at" ["world","space"] (bZ cW cB cQ c2)) (cy:(aM P w K mg base) 1 "ask_states" ["plan","pages","wanted"] eV) (dj:(aM P w K mg base) 1 "frame_for" ["world","hand","space","page","wanted"] eV) (f7:(aM P w K mg base) 1 "touched_row" ["world","frame"] eV):(aM P w K mg base) 5 "read_cells" ["world","hand","space","place","many"] (zq cW cB cQ cT cF cD cS cI cL c2):=by
 have sc:=kD
 refine D.o6 kD (λ vs H Q E h => ?_) (by walk_at "us") (λ f cdv A outer s H vs Q E hr h => ?_)
 ·walk_at "ln"
 ·obtain ⟨W,n,Z,M,rfl,hL,hM,g,hno,kE⟩:=h
  refine ⟨_,(@ah _ _ _ _ _ (@az _ _ _ _ (@ak _ _ _ _ _ _ _ _ _ _ _ dh (hr.mono (by omega)) (by rfl) au (@aa _ _ _ _ _ (@aq _ 0 _ _ (by walk_at "v")) (@aa _ _ _ _ _ (@aq _ 1 _ _ (by walk_at "v")) (@aa _ _ _ _ _ (@aq _ 3 _ _ (by walk_at "v")) (@aa _ _ _ _ _ (@aq _ 4 _ _ (by walk_at "v")) (@af _) (by rfl)) (by rfl)) (by rfl)) (by rfl)) (by decide) (by rfl) (by rfl)) (by rfl)) (@ah _ _ _ _ _ (@aB _ _ 5 _ _ _ _ sc.nd rfl (by walk_at "o2") (@ak _ _ _ _ _ _ _ _ _ _ _ jF (hr.mono (by omega)) (by rfl) au (@aa _ _ _ _ _ (@aq _ 3 _ _ (by walk_at "v")) (@aa _ _ _ _ _ (@aq _ 4 _ _ (by walk_at "v")) (@af _) (by rfl)) (by rfl)) (by decide) (by rfl) (by rfl)) (by rfl) (by walk_at "o4")) (@ah _ _ _ _ _ (@az _ _ _ _ (@ak _ _ _ _ _ _ _ _ _ _ _ cy (hr.mono (by omega)) (by rfl) bA (@aa _ _ _ _ _ (@aF _ _ _ _ _ _ _ T.dS T.fB (@ak _ _ _ _ _ _ _ _ _ _ _ aC (hr.mono (by omega)) (by rfl) bA (@aa _ _ _ _ _ (@aq _ 0 _ _ (by walk_at "v")) (@aa _ _ _ _ _ (@aq _ 2 _ _ (by walk_at "v")) (@af _) (by rfl)) (by rfl)) (by decide) (by rfl) (by rfl)) (by rfl)) (@aa _ _ _ _ _ (@gG _ _ "part" _ _ _ _ _ _ _ _ _ rfl rfl rfl rfl u0 (cu (by kernel_rfl)) (@bB _ _ _ _ (@aq _ 5 _ _ (by walk_at "v"))) (λ _ _ _ _=>(@gF _)) (λ _ _ _ _=>(@aJ _ _ _ _ _ _ _ aE (@pk _ 0 _ _ (by kernel_rfl) (by kernel_rfl) (by decide) (by decide)) (@ao _ _ _ _) (λ _ _=>rfl))) (by intro _;rfl)) (@aa _ _ _ _ _ (@aH _ _ _ _ T.yS (by rfl) (by decide)) (@af _) (by rfl)) (by rfl)) (by rfl)) (by decide) (by rfl) (by rfl)) (by rfl)) (@ah _ _ _ _ _ (@aB _ _ 6 _ _ _ _ sc.nd rfl (by walk_at "o2") (@bC _ _ _ _ (@af _)) (by rfl) (by walk_at "o4")) (@ah _ _ _ _ _ (@bT _ _ _ _ _ _ _ _ PassesOwn.leaving rfl (@bB _ _ _ _ (@aq _ 5 _ _ (by walk_at "v"))) (@r8 _ _ _ _ _ _ rfl (@cO _ _ _ _ _ (@aX _ _ 7 _ sc.nd rfl (by walk_at "o2") (by walk_at "o4")) (@cO _ _ _ _ _ (@aX _ _ 8 _ sc.nd rfl (by walk_at "o2") (by walk_at "o4")) (@cO _ _ _ _ _ (@aX _ _ 9 _ sc.nd rfl (by walk_at "o2") (by walk_at "o4")) (@ow _) (by rfl)) (by rfl)) (by rfl)) (by rfl) (by rfl)) (@ah _ _ _ _ _ (@aB _ _ 10 _ _ _ _ sc.nd rfl (by walk_at "o2") (@ak _ _ _ _ _ _ _ _ _ _ _ f7 (hr.mono (by omega)) (by rfl) au (@aa _ _ _ _ _ (@aq _ 0 _ _ (by walk_at "v")) (@aa _ _ _ _ _ (@ak _ _ _ _ _ _ _ _ _ _ _ dj (hr.mono (by omega)) (by rfl) au (@aa _ _ _ _ _ (@aq _ 0 _ _ (by walk_at "v")) (@aa _ _ _ _ _ (@aq _ 1 _ _ (by walk_at "v")) (@aa _ _ _ _ _ (@aq _ 2 _ _ (by walk_at "v")) (@aa _ _ _ _ _ (@aq _ 7 _ _ (by walk_at "v")) (@aa _ _ _ _ _ (@aH _ _ _ _ T.yS (by rfl) (by decide)) (@af _) (by rfl)) (by rfl)) (by rfl)) (by rfl)) (by rfl)) (by decide) (by rfl) (by rfl)) (@af _) (by rfl)) (by rfl)) (by decide) (by rfl) (by rfl)) (by rfl) (by walk_at "o4")) (@aj _ _ _ (@az _ _ _ _ (@jP _ _ _ _ _ _ _ _ _ _ _ _ PySem.F.plainAttrs_list PySem.F.slot_list_extend PySem.F.type_list_extend zW (@aq _ 6 _ _ (by walk_at "v")) (@aa _ _ _ _ _ (@iI _ _ _ _ _ _ _ _ _ _ (o8 (K:=K) rfl) (@aq _ 10 _ _ (by walk_at "v")) (@fL _ _ _ (@aq _ 8 _ _ (by walk_at "v"))) (@fL _ _ _ (@av _ _ _ _ _ _ _ _ bg (@aq _ 8 _ _ (by walk_at "v")) (@aq _ 9 _ _ (by walk_at "v"))))) (@af _) (by rfl)) (by rfl) (by rfl) (by rfl) (by rfl) (by rfl)) (by rfl)))) (by intro _;rfl)) (@aj _ _ _ (@ay _ _ _ _ (@aq _ 6 _ _ (by walk_at "v"))))))))),?_⟩
  refine aA λ M1 K1 => ?_
  walk_at "ge"
  refine ⟨W,0,Z,M,rfl,hL,hM,g,by decide,by decide,?_⟩
  walk_at "ge"
  refine K1.use ?_
  walk_at "cl"
  clear K1
  refine aA λ M1 K1 => ?_
  walk_at "ge"
  refine ⟨0,_,rfl,.inl rfl,hL,λ r xs N H1 hx Kp oF hl1 => ?_⟩
  walk_at "ge"
  refine K1.use ?_
  walk_at "cl"
  clear K1
  refine aA λ M1 K1 => ?_
  walk_at "ge"
  exact ⟨W,n,N++Z,rfl,Led.perm hl1 aS,g.up,λ e he e1=>absurd (List.mem_map.mpr ⟨e,he,e1⟩) hno,λ _=>kE N H1 hl1⟩
def wo (cW cB cQ cT cF cD cS cI cL c2:Addr):Sp:=λ vs H _ E => ∃ (W:WR) (n:Int) (l:Addr) (Z M:Cells),vs = [.ref W.b,.int 0,.int n,.int 5,.ref l]/\Led H (aU cW cB cQ W++Z)/\(l,HO.lst [.int 7])∈Z/\(∀ c∈M,c∈Z)/\fh cT cF cD cS cI cL W M/\n ∉ W.es.map (·.1) ∧ ∀ N H',Led H' (N++(aU cW cB cQ W++Z))->E (.ref c2) none H'
theorem qi (D:Def K mg "write_cells" fW) (B:e9 mg) (T:(Txt K mg cN c2 cP cA cG c3 cC c4 cU c6 cT cF cD cS cI cL cB cQ cW)) (gY:(aM P w K mg base) 4 "numbers_of" ["thing"] CV) (dh:(aM P w K mg base) 4 "ask_cells" ["world","hand","place","many"] (yb cW cB cQ cT cF cD cS cI cL)) (jF:(aM P w K mg base) 2 "parts" ["place","many"] tQ) (aC:(aM P w K mg base) 1 "space_at" ["world","space"] (bZ cW cB cQ c2)) (cy:(aM P w K mg base) 1 "ask_states" ["plan","pages","wanted"] eV) (kW:(aM P w K mg base) 1 "ask_room" ["world","living","pages"] eV) (dj:(aM P w K mg base) 1 "frame_for" ["world","hand","space","page","wanted"] eV) (gZ:(bH P w K mg base) 1 cD "touch" ["self","frame"] eV) (eS:(bH P w K mg base) 1 cF "put_in" ["self","frame","cell","numbers"] eV):(aM P w K mg base) 5 "write_cells" ["world","hand","space","place","numbers"] (wo cW cB cQ cT cF cD cS cI cL c2):=by
 have sc:=ji
 refine D.o6 ji (λ vs H Q E h => ?_) (by walk_at "us") (λ f cdv A outer s H vs Q E hr h => ?_)
 ·walk_at "ln"
 ·obtain ⟨W,n,l,Z,M,rfl,hL,oj,hM,g,hno,kE⟩:=h
  refine ⟨_,(@ah _ _ _ _ _ (@aB _ _ 5 _ _ _ _ sc.nd rfl (by walk_at "o2") (@ak _ _ _ _ _ _ _ _ _ _ _ gY (hr.mono (by omega)) (by rfl) bA (@aa _ _ _ _ _ (@aq _ 4 _ _ (by walk_at "v")) (@af _) (by rfl)) (by decide) (by rfl) (by rfl)) (by rfl) (by walk_at "o4")) (@ah _ _ _ _ _ (@az _ _ _ _ (@ak _ _ _ _ _ _ _ _ _ _ _ dh (hr.mono (by omega)) (by rfl) au (@aa _ _ _ _ _ (@aq _ 0 _ _ (by walk_at "v")) (@aa _ _ _ _ _ (@aq _ 1 _ _ (by walk_at "v")) (@aa _ _ _ _ _ (@aq _ 3 _ _ (by walk_at "v")) (@aa _ _ _ _ _ (@aD _ _ _ _ _ _ _ _ _ bh (by rfl) B.len cH (@aa _ _ _ _ _ (@aq _ 5 _ _ (by walk_at "v")) (@af _) (by rfl)) (by decide) (by decide) (by rfl) (by rfl)) (@af _) (by rfl)) (by rfl)) (by rfl)) (by rfl)) (by decide) (by rfl) (by rfl)) (by rfl)) (@ah _ _ _ _ _ (@aB _ _ 6 _ _ _ _ sc.nd rfl (by walk_at "o2") (@ak _ _ _ _ _ _ _ _ _ _ _ jF (hr.mono (by omega)) (by rfl) au (@aa _ _ _ _ _ (@aq _ 3 _ _ (by walk_at "v")) (@aa _ _ _ _ _ (@aD _ _ _ _ _ _ _ _ _ bh (by rfl) B.len cH (@aa _ _ _ _ _ (@aq _ 5 _ _ (by walk_at "v")) (@af _) (by rfl)) (by decide) (by decide) (by rfl) (by rfl)) (@af _) (by rfl)) (by rfl)) (by decide) (by rfl) (by rfl)) (by rfl) (by walk_at "o4")) (@ah _ _ _ _ _ (@o5 _ _ "part" _ _ _ _ _ _ _ _ _ _ 7 _ _ rfl rfl rfl rfl u0 (cu (by kernel_rfl)) (@bB _ _ _ _ (@aq _ 6 _ _ (by walk_at "v"))) (λ _ _ _ _=>(@gF _)) (λ _ _ _ _=>(@aJ _ _ _ _ _ _ _ aE (@pk _ 0 _ _ (by kernel_rfl) (by kernel_rfl) (by decide) (by decide)) (@ao _ _ _ _) (λ _ _=>rfl))) sc.nd rfl (by walk_at "o2") (by intro _;rfl) (by rfl) (by walk_at "o4")) (@ah _ _ _ _ _ (@aB _ _ 8 _ _ _ _ sc.nd rfl (by walk_at "o2") (@ak _ _ _ _ _ _ _ _ _ _ _ aC (hr.mono (by omega)) (by rfl) bA (@aa _ _ _ _ _ (@aq _ 0 _ _ (by walk_at "v")) (@aa _ _ _ _ _ (@aq _ 2 _ _ (by walk_at "v")) (@af _) (by rfl)) (by rfl)) (by decide) (by rfl) (by rfl)) (by rfl) (by walk_at "o4")) (@ah _ _ _ _ _ (@az _ _ _ _ (@ak _ _ _ _ _ _ _ _ _ _ _ cy (hr.mono (by omega)) (by rfl) bA (@aa _ _ _ _ _ (@aF _ _ _ _ _ _ _ T.dS T.fB (@aq _ 8 _ _ (by walk_at "v")) (by rfl)) (@aa _ _ _ _ _ (@aq _ 7 _ _ (by walk_at "v")) (@aa _ _ _ _ _ (@aH _ _ _ _ T.vC (by rfl) (by decide)) (@af _) (by rfl)) (by rfl)) (by rfl)) (by decide) (by rfl) (by rfl)) (by rfl)) (@ah _ _ _ _ _ (@az _ _ _ _ (@ak _ _ _ _ _ _ _ _ _ _ _ kW (hr.mono (by omega)) (by rfl) bA (@aa _ _ _ _ _ (@aq _ 0 _ _ (by walk_at "v")) (@aa _ _ _ _ _ (@aq _ 8 _ _ (by walk_at "v")) (@aa _ _ _ _ _ (@aq _ 7 _ _ (by walk_at "v")) (@af _) (by rfl)) (by rfl)) (by rfl)) (by decide) (by rfl) (by rfl)) (by rfl)) (@aj _ _ _ (@bT _ _ _ _ _ _ _ _ PassesOwn.leaving rfl (@bB _ _ _ _ (@aq _ 6 _ _ (by walk_at "v"))) (@r8 _ _ _ _ _ _ rfl (@cO _ _ _ _ _ (@aX _ _ 9 _ sc.nd rfl (by walk_at "o2") (by walk_at "o4")) (@cO _ _ _ _ _ (@aX _ _ 10 _ sc.nd rfl (by walk_at "o2") (by walk_at "o4")) (@cO _ _ _ _ _ (@aX _ _ 11 _ sc.nd rfl (by walk_at "o2") (by walk_at "o4")) (@ow _) (by rfl)) (by rfl)) (by rfl)) (by rfl) (by rfl)) (@ah _ _ _ _ _ (@aB _ _ 12 _ _ _ _ sc.nd rfl (by walk_at "o2") (@ak _ _ _ _ _ _ _ _ _ _ _ dj (hr.mono (by omega)) (by rfl) au (@aa _ _ _ _ _ (@aq _ 0 _ _ (by walk_at "v")) (@aa _ _ _ _ _ (@aq _ 1 _ _ (by walk_at "v")) (@aa _ _ _ _ _ (@aq _ 2 _ _ (by walk_at "v")) (@aa _ _ _ _ _ (@aq _ 9 _ _ (by walk_at "v")) (@aa _ _ _ _ _ (@aH _ _ _ _ T.vC (by rfl) (by decide)) (@af _) (by rfl)) (by rfl)) (by rfl)) (by rfl)) (by rfl)) (by decide) (by rfl) (by rfl)) (by rfl) (by walk_at "o4")) (@ah _ _ _ _ _ (@az _ _ _ _ (@dI _ _ _ _ _ _ _ _ _ _ _ _ _ _ _ _ T.Ei gZ (hr.mono (by omega)) au (@aF _ _ _ _ _ _ _ T.gr T.B8 (@aF _ _ _ _ _ _ _ T.World T.gW (@aq _ 0 _ _ (by walk_at "v")) (by rfl)) (by rfl)) (@aa _ _ _ _ _ (@aq _ 12 _ _ (by walk_at "v")) (@af _) (by rfl)) (by rfl) (by rfl) (by rfl)) (by rfl)) (@ah _ _ _ _ _ (@aB _ _ 13 _ _ _ _ sc.nd rfl (by walk_at "o2") (@av _ _ _ _ _ _ _ _ cg (@av _ _ _ _ _ _ _ _ bg (@av _ _ _ _ _ _ _ _ mJ (@aH _ _ _ _ T.ee (by rfl) (by decide)) (@aq _ 9 _ _ (by walk_at "v"))) (@aq _ 10 _ _ (by walk_at "v"))) (@aq _ 3 _ _ (by walk_at "v"))) (by rfl) (by walk_at "o4")) (@aj _ _ _ (@az _ _ _ _ (@dI _ _ _ _ _ _ _ _ _ _ _ _ _ _ _ _ T.Frames eS (hr.mono (by omega)) au (@aF _ _ _ _ _ _ _ T.gr T.pU (@aF _ _ _ _ _ _ _ T.World T.gW (@aq _ 0 _ _ (by walk_at "v")) (by rfl)) (by rfl)) (@aa _ _ _ _ _ (@aq _ 12 _ _ (by walk_at "v")) (@aa _ _ _ _ _ (@aq _ 10 _ _ (by walk_at "v")) (@aa _ _ _ _ _ (@iI _ _ _ _ _ _ _ _ _ _ (o8 (K:=K) rfl) (@aq _ 5 _ _ (by walk_at "v")) (@fL _ _ _ (@aq _ 13 _ _ (by walk_at "v"))) (@fL _ _ _ (@av _ _ _ _ _ _ _ _ bg (@aq _ 13 _ _ (by walk_at "v")) (@aq _ 11 _ _ (by walk_at "v"))))) (@af _) (by rfl)) (by rfl)) (by rfl)) (by rfl) (by rfl) (by rfl)) (by rfl)))))) (by intro _;rfl)))))))))),?_⟩
  refine aA λ M1 K1 => ?_
  walk_at "ge"
  refine ⟨l,_,rfl,hL,dJ oj,λ gv H1 hl1 => ?_⟩
  walk_at "ge"
  refine K1.use ?_
  walk_at "cl"
  clear K1
  have hl2:Led H1 (aU cW cB cQ W++([(gv,HO.lst [.int 7])]++Z)):=Led.perm (L:=[(gv,HO.lst [.int 7])]++(aU cW cB cQ W++Z)) hl1 aS
  have Fe : ∀ c∈M,c∈[(gv,HO.lst [.int 7])]++Z:=λ c hc=>mA (hM c hc)
  clear hL
  have PD:=hl1.get mS
  refine aA λ M1 K1 => ?_
  walk_at "ge"
  refine ⟨W,1,_,M,rfl,hl2,Fe,g,by decide,by decide,?_⟩
  walk_at "ge"
  refine K1.use ?_
  walk_at "cl"
  clear K1
  refine aA λ M1 K1 => ?_
  walk_at "ge"
  refine ⟨1,_,rfl,.inr rfl,hl2,λ r xs N H2 hx Kp oF hl3 => ?_⟩
  walk_at "ge"
  refine K1.use ?_
  walk_at "cl"
  clear K1 hl1 hl2 PD
  refine aA λ M1 K1 => ?_
  refine rJ λ Lc uB => ?_
  walk_at "ge"
  refine ⟨r,rfl,⟨_,bW.of (hl3.get (mB oF))⟩,uB.use ?_⟩
  clear uB
  refine gn (xs.map V.ref) (λ _ v C=>v=V.int 1/\C = []) hl3 (mB oF) (by rw [List.length_map,sizeLine_eq];omega) (λ i y H4 R N4 hy bF hR => ?_) (λ r2 vs Cs H4 hvl hcl hG bF => ?_)
  ·rw [List.getElem?_map] at hy
   obtain ⟨x,hxi,rfl⟩:=Option.map_eq_some_iff.mp hy
   have NS:=bF.get (mA (mB (hx x (List.mem_of_getElem? hxi))))
   walk_at "ge"
   exact hR _ _ [] ⟨rfl,rfl⟩ bF
  ·walk_at "ge"
   refine K1.use ?_
   walk_at "cl"
   clear K1
   have dY:Led H4 (((r2,HO.lst vs)::Cs.flatten++N++[(gv,HO.lst [.int 7])])++(aU cW cB cQ W++Z)):=by
    have h5:Led H4 (((r2,HO.lst vs)::Cs.flatten++N)++(aU cW cB cQ W++([(gv,HO.lst [.int 7])]++Z))):=by
     rw [List.append_assoc]
     exact bF
    rw [List.append_assoc ((r2,HO.lst vs)::Cs.flatten++N)]
    exact Led.perm h5 (List.Perm.append_left _ aS.symm)
   refine aA λ M1 K1 => ?_
   walk_at "ge"
   exact ⟨W,n,_,rfl,Led.perm dY aS,g.up,λ e he e1=>absurd (List.mem_map.mpr ⟨e,he,e1⟩) hno,λ _=>kE _ H4 dY⟩
def wu:Sp:=λ vs H Q _ => ∃ (c k t:Int) (L:Cells),vs = [.int c,.int k,.int t]/\0<=k/\k<=1000/\0<=t/\t<=5/\Led H L ∧ ∀ (d:Int) (H':Hp),0<=d->d<=100000->Led H' L->Q (.int d) H'
theorem AQ {a0 a1 a2 a3 a4 a5 t:Int} (h0:0<=t) (h5:t<=5) (p0:0 < a0/\a0<=100000) (p1:0 < a1/\a1<=100000) (p2:0 < a2/\a2<=100000) (p3:0 < a3/\a3<=100000) (p4:0 < a4/\a4<=100000) (p5:0 < a5/\a5<=100000) : ∃ z:Int,(0 < z/\z<=100000)/\iB [V.int a0,.int a1,.int a2,.int a3,.int a4,.int a5] t=some (.int z):=by
 have h:t=0\/t=1\/t=2\/t=3\/t=4\/t=5:=by omega
 rcases h with rfl | rfl | rfl | rfl | rfl | rfl
 ·exact ⟨_,p0,yD⟩
 ·exact ⟨_,p1,yE⟩
 ·exact ⟨_,p2,yF⟩
 ·exact ⟨_,p3,yG⟩
 ·exact ⟨_,p4,yH⟩
 ·exact ⟨_,p5,E2⟩
theorem GQ (D:Def K mg "_law_mix" sY) (T:(Txt K mg cN c2 cP cA cG c3 cC c4 cU c6 cT cF cD cS cI cL cB cQ cW)):(aM P w K mg base) 1 "_law_mix" ["_law_cell","_law_k","_law_turn"] wu:=by
 have sc:=vt
 refine D.ok vt (λ vs H Q E h => ?_) (by walk_at "us") (λ f cdv A outer s H vs Q E hr h => ?_)
 ·walk_at "ln"
 ·obtain ⟨c,k,t,L,rfl,k0,k1,t0,t7,hL,kk⟩:=h
  refine ⟨_,(@ah _ _ _ _ _ (@aB _ _ 3 _ _ _ _ sc.nd rfl (by walk_at "o2") (@aJ _ _ _ _ _ _ _ aE (@bC _ _ _ _ (@aa _ _ _ _ _ (@ao _ _ _ _) (@aa _ _ _ _ _ (@ao _ _ _ _) (@aa _ _ _ _ _ (@ao _ _ _ _) (@aa _ _ _ _ _ (@ao _ _ _ _) (@aa _ _ _ _ _ (@ao _ _ _ _) (@aa _ _ _ _ _ (@ao _ _ _ _) (@af _) (by rfl)) (by rfl)) (by rfl)) (by rfl)) (by rfl)) (by rfl))) (@aq _ 2 _ _ (by walk_at "v")) (λ _ _=>rfl)) (by rfl) (by walk_at "o4")) (@aj _ _ _ (@ay _ _ _ _ (@av _ _ _ _ _ _ _ _ bM (@av _ _ _ _ _ _ _ _ mJ (@av _ _ _ _ _ _ _ _ bg (@av _ _ _ _ _ _ _ _ bM (@aq _ 0 _ _ (by walk_at "v")) (@ao _ _ _ _)) (@ao _ _ _ _)) (@av _ _ _ _ _ _ _ _ bg (@av _ _ _ _ _ _ _ _ bg (@av _ _ _ _ _ _ _ _ mJ (@aq _ 1 _ _ (by walk_at "v")) (@aq _ 1 _ _ (by walk_at "v"))) (@ao _ _ _ _)) (@av _ _ _ _ _ _ _ _ mJ (@ao _ _ _ _) (@aq _ 2 _ _ (by walk_at "v"))))) (@aq _ 3 _ _ (by walk_at "v")))))),?_⟩
  refine aA λ M1 K1 => ?_
  walk_at "ge"
  obtain ⟨p,⟨hp,PF⟩,hat⟩:=AQ (a0:=65537) (a1:=64007) (a2:=63997) (a3:=65521) (a4:=63977) (a5:=65519) t0 t7 (by decide) (by decide) (by decide) (by decide) (by decide) (by decide)
  refine IK (by walk_at "cell") hat ?_
  walk_at "ge"
  refine K1.use ?_
  walk_at "cl"
  clear K1
  walk_at "ge"
  exact kk _ _ (Int.emod_nonneg _ (Int.ne_of_gt hp)) (Int.le_trans (Int.le_of_lt (Int.emod_lt_of_pos _ hp)) PF) (Led.tail (by assumption))
def jq:Sp:=λ vs H Q _ => ∃ n:Int,vs = [.int n]/\Q (.bl true) H
theorem CW (D:Def K mg "_law_whole" ng) (B:e9 mg):(aM P w K mg base) 1 "_law_whole" ["_law_num"] jq:=by
 have sc:=pN
 refine D.ok pN (λ vs H Q E h => ?_) (by walk_at "us") (λ f cdv A outer s H vs Q E hr h => ?_)
 ·walk_at "ln"
 ·obtain ⟨n,rfl,k⟩:=h
  refine ⟨_,(@aj _ _ _ (@ay _ _ _ _ (@iE _ _ _ _ _ _ _ (@aD _ _ _ _ _ _ _ _ _ c8 (by rfl) B.isinstance aW (@aa _ _ _ _ _ (@aq _ 0 _ _ (by walk_at "v")) (@aa _ _ _ _ _ (@eU _ _ (.ty "int") _ _ (by rfl) B.int By rfl (by decide) (by decide)) (@af _) (by rfl)) (by rfl)) (by decide) (by decide) (by rfl) (by rfl)) (@rZ _ _ _ _ _ (@wK _ _ _ _ (@aD _ _ _ _ _ _ _ _ _ c8 (by rfl) B.isinstance aW (@aa _ _ _ _ _ (@aq _ 0 _ _ (by walk_at "v")) (@aa _ _ _ _ _ (@eU _ _ (.ty "bool") _ _ (by rfl) B.bool yy rfl (by decide) (by decide)) (@af _) (by rfl)) (by rfl)) (by decide) (by decide) (by rfl) (by rfl))))))),?_⟩
  walk_at "ge"
  exact k
def zu:Sp:=λ vs H Q _ => ∃ (l d:Addr) (ns:List Int) (L:Cells),vs = [.ref l,.ref d]/\Led H L/\(l,HO.lst (ns.map V.int))∈L/\(d,HO.lst (ns.map V.int))∈L/\Q (.bl true) H
theorem CY (D:Def K mg "_law_numbers" jk) (B:e9 mg) (T:(Txt K mg cN c2 cP cA cG c3 cC c4 cU c6 cT cF cD cS cI cL cB cQ cW)) (aK:(aM P w K mg base) 1 "_law_whole" ["_law_num"] jq):(aM P w K mg base) 2 "_law_numbers" ["_law_found","_law_due"] zu:=by
 have sc:=mq
 refine D.ok mq (λ vs H Q E h => ?_) (by walk_at "us") (λ f cdv A outer s H vs Q E hr h => ?_)
 ·walk_at "ln"
 ·obtain ⟨l,d,ns,L,rfl,hL,oj,Ht,k⟩:=h
  have qf:=hL.get oj
  have Mv:=hL.get Ht
  refine ⟨_,(@ah _ _ _ _ _ (@aZ _ _ _ _ _ _ _ _ (@b3 _ _ _ _ (@b9 _ _ _ (@aD _ _ _ _ _ _ _ _ _ c8 (by rfl) B.isinstance aW (@aa _ _ _ _ _ (@aq _ 0 _ _ (by walk_at "v")) (@aa _ _ _ _ _ (@eU _ _ (.ty "list") _ _ (by rfl) B.list d9 rfl (by decide) (by decide)) (@af _) (by rfl)) (by rfl)) (by decide) (by decide) (by rfl) (by rfl)) (by intro _;rfl))) (@aj _ _ _ (@ay _ _ _ _ (@cY _ _ _ _))) (@aO _)) (@ah _ _ _ _ _ (@bT _ _ _ _ _ _ _ _ PassesOwn.never rfl (@bB _ _ _ _ (@aq _ 0 _ _ (by walk_at "v"))) (@aX _ _ 2 _ sc.nd rfl (by walk_at "o2") (by walk_at "o4")) (@aj _ _ _ (@aZ _ _ _ _ _ _ _ _ (@b3 _ _ _ _ (@b9 _ _ _ (@ak _ _ _ _ _ _ _ _ _ _ _ aK (hr.mono (by omega)) (by rfl) au (@aa _ _ _ _ _ (@aq _ 2 _ _ (by walk_at "v")) (@af _) (by rfl)) (by decide) (by rfl) (by rfl)) (by intro _;rfl))) (@aj _ _ _ (@ay _ _ _ _ (@cY _ _ _ _))) (@aO _))) (by intro _;rfl)) (@aj _ _ _ (@ay _ _ _ _ (@sj _ _ _ _ _ _ _ _ (xw hr.units) (@aq _ 0 _ _ (by walk_at "v")) (@aq _ 1 _ _ (by walk_at "v")) (aR _)))))),?_⟩
  refine aA λ M1 K1 => ?_
  walk_at "ge"
  refine K1.use ?_
  walk_at "cl"
  clear K1
  refine aA λ M1 K1 => ?_
  refine forL λ Lr gx => ?_
  walk_at "ge"
  refine ⟨l,rfl,⟨_,bW.of qf⟩,gx.use ?_⟩
  clear gx
  refine jQ (ns.map V.int) (λ i σ H'=>H' = H ∧ ∃ v2,σ = [some (.ref l),some (.ref d),v2]) ⟨rfl,none,rfl⟩ (λ i σ H' _ h => ?_) ?_ ?_
  ·rw [h.1];exact bW.of qf
  ·rintro i v σ H' hv ⟨rfl,v2,rfl⟩
   rw [List.getElem?_map] at hv
   obtain ⟨x,_,rfl⟩:=Option.map_eq_some_iff.mp hv
   walk_at "ge"
   refine ⟨x,rfl,?_⟩
   walk_at "ge"
   exact ⟨rfl,_,rfl⟩
  ·rintro σ H' ⟨rfl,v2,rfl⟩
   refine K1.use ?_
   walk_at "ge"
   refine Lz qf Mv ?_
   rw [decide_eq_true rfl]
   walk_at "ge"
   exact k
theorem qR {X:Cx} {K:PySem.W.Frag} (h:X.K=K):nD X (compareOp .NotIn) (KO K true):=h ▸ sE
theorem AI {lo:Int} {n:Nat} {tt:TT} {te:TE} {σ : L2.St} {Q:VK} {H1:Hp} {L:Cells} (p:Nat->Bool) (hL:Led H1 L) (hn:n<=sizeLine)
  (ht : ∀ (j:Nat) (H:Hp) (R:Bool->Hp->Prop) (q:Addr×HO),j < n->Led H (q::L)->(∀ H',Led H' (q::L)->R (p j) H')->tt (some (.int (lo+j)) :: σ) H R)
  (he : ∀ (j:Nat) (H:Hp) (R:VK) (q:Addr×HO),j < n->Led H (q::L)->(∀ H',Led H' (q::L)->R (.int (lo+j)) H')->te (some (.int (lo+j)) :: σ) H R)
  (hd : ∀ (r:Addr) (H':Hp),Led H' ((r,.lst (((List.range n).filter p).map λ j:Nat=>V.int (lo+j)))::L)->Q (.ref r) H'):lP (wM lo n) tt te σ Q H1:=by
 refine rK (λ r i acc H=>i<=n/\acc=(((List.range i).filter p).map λ j:Nat=>V.int (lo+j))/\Led H ((r,.lst acc)::L)) (λ r hr=>⟨Nat.zero_le _,rfl,hL.new hr⟩) (λ r i acc H hr h=>h.2.2.get mS) ?_ ?_
 ·rintro r i acc H hr hi ⟨_,rfl,hl⟩
  have few:(((List.range i).filter p).map λ j:Nat=>V.int (lo+j)).length < sizeLine:=by
   have h1:=List.length_filter_le p (List.range i)
   rw [List.length_range] at h1
   rw [List.length_map]
   omega
  refine ht i H _ _ hi hl λ H2 hl2 => ?_
  have step : ∀ b,p i=b->((List.range (i+1)).filter p).map (λ j:Nat=>V.int (lo+j))=((List.range i).filter p).map (λ j:Nat=>V.int (lo+j))++(if b=true then [V.int (lo+i)] else []):=λ b hb=>by
   rw [List.range_succ,List.filter_append,List.map_append,List.filter_cons,hb]
   cases b <;> rfl
  cases hp:p i with
  | true =>
    rw [if_pos rfl]
    exact he i H2 _ _ hi hl2 λ H3 hl3=>⟨hl3.get mS,few,hi,(step true hp).symm,hl3.put rfl rfl⟩
  | false =>
    rw [if_neg Bool.false_ne_true]
    refine ⟨hi,?_,hl2⟩
    rw [step false hp,if_neg Bool.false_ne_true,List.append_nil]
 ·rintro r acc H hr ⟨_,rfl,hl⟩
  exact hd r H hl
theorem GR {x:Int} {ks:List Int} (h:ER (.int x) (ks.map V.int)=false):x ∉ ks:=λ hx=>by
 have:ER (.int x) (ks.map V.int)=true:=by
  unfold ER
  rw [List.any_eq_true]
  exact ⟨.int x,List.mem_map.mpr ⟨x,hx,rfl⟩,by simp [DM]⟩
 rw [h] at this
 cases this
theorem AJ (ks:List Int):(ks.map V.int).all iJ=true:=by
 rw [List.all_eq_true]
 intro v hv
 obtain ⟨x,_,rfl⟩:=List.mem_map.mp hv
 rfl
def zv:Sp:=λ vs H Q _ => ∃ (c m:Int) (l:Addr) (ks:List Int) (L:Cells),vs = [.int c,.int m,.ref l]/\Led H L/\(l,HO.lst (ks.map V.int))∈L/\(∀ k∈ks,1<=k/\k<=m)/\0<=m/\m<=1000 ∧ ∀ (d:Int) (N:Cells) (H':Hp),d ∉ ks->Led H' (N++L)->Q (.int d) H'
theorem EB (D:Def K mg "_law_dead" pO) (B:e9 mg) (T:(Txt K mg cN c2 cP cA cG c3 cC c4 cU c6 cT cF cD cS cI cL cB cQ cW)):(aM P w K mg base) 1 "_law_dead" ["_law_cell","_law_made_here","_law_living"] zv:=by
 have sc:=rP
 refine D.ok rP (λ vs H Q E h => ?_) (by walk_at "us") (λ f cdv A outer s H vs Q E hr h => ?_)
 ·walk_at "ln"
 ·obtain ⟨c,m,l,ks,L,rfl,hL,oj,hk,m0,m9,k⟩:=h
  have hsz:=sizeLine_eq
  have out : ∀ d:Int,d < 1\/m < d->d ∉ ks:=λ d h hd=>by have:=hk d hd;omega
  refine ⟨_,(@ah _ _ _ _ _ (@o5 _ _ "_law_num" _ _ _ _ _ _ _ _ _ _ 3 _ _ rfl rfl rfl rfl JZ (cu (by kernel_rfl)) (@mH _ _ _ _ _ _ _ (by rfl) B.range (@aa _ _ _ _ _ (@ao _ _ _ _) (@aa _ _ _ _ _ (@av _ _ _ _ _ _ _ _ bg (@aq _ 1 _ _ (by walk_at "v")) (@ao _ _ _ _)) (@af _) (by rfl)) (by rfl)) (by rfl) (by rfl)) (λ _ _ _ _=>(@yK _ _ _ (@aG _ _ _ _ _ _ _ _ (qR (K:=K) rfl) (@pk _ 0 _ _ (by kernel_rfl) (by kernel_rfl) (by decide) (by decide)) (@pk _ 3 _ _ (by kernel_rfl) (by kernel_rfl) (by decide) (by decide)) (by with_unfolding_all rfl)))) (λ _ _ _ _=>(@pk _ 0 _ _ (by kernel_rfl) (by kernel_rfl) (by decide) (by decide))) sc.nd rfl (by walk_at "o2") (by intro _;rfl) (by rfl) (by walk_at "o4")) (@ah _ _ _ _ _ (@aB _ _ 4 _ _ _ _ sc.nd rfl (by walk_at "o2") (@av _ _ _ _ _ _ _ _ bM (@aq _ 0 _ _ (by walk_at "v")) (@ao _ _ _ _)) (by rfl) (by walk_at "o4")) (@ah _ _ _ _ _ (@aZ _ _ _ _ _ _ _ _ (@aG _ _ _ _ _ _ _ _ ie (@aq _ 4 _ _ (by walk_at "v")) (@ao _ _ _ _) (aR _)) (@aj _ _ _ (@ay _ _ _ _ (@av _ _ _ _ _ _ _ _ bg (@aq _ 1 _ _ (by walk_at "v")) (@ao _ _ _ _)))) (@aO _)) (@ah _ _ _ _ _ (@aZ _ _ _ _ _ _ _ _ (@aG _ _ _ _ _ _ _ _ ie (@aq _ 4 _ _ (by walk_at "v")) (@ao _ _ _ _) (aR _)) (@aj _ _ _ (@ay _ _ _ _ (@av _ _ _ _ _ _ _ _ cg (@yi _ _ _ _ _ _ sf (@ao _ _ _ _)) (@av _ _ _ _ _ _ _ _ bM (@av _ _ _ _ _ _ _ _ fK (@aq _ 0 _ _ (by walk_at "v")) (@ao _ _ _ _)) (@av _ _ _ _ _ _ _ _ r9 (@ao _ _ _ _) (@ao _ _ _ _)))))) (@aO _)) (@ah _ _ _ _ _ (@aZ _ _ _ _ _ _ _ _ (@aG _ _ _ _ _ _ _ _ ie (@aq _ 4 _ _ (by walk_at "v")) (@ao _ _ _ _) (aR _)) (@aj _ _ _ (@ay _ _ _ _ (@av _ _ _ _ _ _ _ _ bg (@av _ _ _ _ _ _ _ _ bg (@aq _ 1 _ _ (by walk_at "v")) (@ao _ _ _ _)) (@av _ _ _ _ _ _ _ _ bM (@av _ _ _ _ _ _ _ _ fK (@aq _ 0 _ _ (by walk_at "v")) (@ao _ _ _ _)) (@av _ _ _ _ _ _ _ _ r9 (@ao _ _ _ _) (@ao _ _ _ _)))))) (@aO _)) (@ah _ _ _ _ _ (@aZ _ _ _ _ _ _ _ _ (@PW.pt _ _ _ (@pw_and _ _ _ _ _ _ _ (@aG _ _ _ _ _ _ _ _ Bb (@aq _ 4 _ _ (by walk_at "v")) (@ao _ _ _ _) (aR _)) (@pw_and1 _ _ _ _ (@gj _ _ _ (@aq _ 3 _ _ (by walk_at "v")) (λ _=>rfl))))) (@aj _ _ _ (@ay _ _ _ _ (@aJ _ _ _ _ _ _ _ aE (@aq _ 3 _ _ (by walk_at "v")) (@av _ _ _ _ _ _ _ _ bM (@av _ _ _ _ _ _ _ _ fK (@aq _ 0 _ _ (by walk_at "v")) (@ao _ _ _ _)) (@aD _ _ _ _ _ _ _ _ _ bh (by rfl) B.len cH (@aa _ _ _ _ _ (@aq _ 3 _ _ (by walk_at "v")) (@af _) (by rfl)) (by decide) (by decide) (by rfl) (by rfl))) (λ _ _=>rfl)))) (@aO _)) (@aj _ _ _ (@ay _ _ _ _ (@ao _ _ _ _))))))))),?_⟩
  refine aA λ M1 K1 => ?_
  walk_at "ge"
  refine Gu λ Lc uB => ?_
  walk_at "ge"
  refine ⟨1,m+1,rfl,by omega,?_⟩
  rw [uB.eq]
  clear uB
  refine AI (λ j => !ER (V.int (1+(j:Int))) (ks.map V.int)) hL (by omega) (λ j H2 R q hj hl2 hR => ?_) (λ j H2 R q hj hl2 hR => ?_) (λ r H2 hl2 => ?_)
  ·have qf:=hl2.get (mC oj)
   walk_at "ge"
   refine xy qf rfl (AJ ks) ?_
   walk_at "ge"
   exact hR _ hl2
  ·walk_at "ge"
   exact hR _ hl2
  ·walk_at "ge"
   refine K1.use ?_
   walk_at "cl"
   clear K1
   obtain ⟨es,Mw⟩ : ∃ es,(List.range (m+1 - 1).toNat).filter (λ j:Nat => !ER (V.int (1+(j:Int))) (ks.map V.int))=es:=⟨_,rfl⟩
   have hes : ∀ j∈es,(1+(j:Int)) ∉ ks:=λ j hj=>by
    rw [<-Mw] at hj
    exact GR (by simpa using (List.mem_filter.mp hj).2)
   rw [Mw] at hl2
   clear Mw hL
   have fin : ∀ d:Int,d ∉ ks->Q (.int d) H2:=λ d hd=>k d [_] H2 hd hl2
   have CP:=hl2.get mS
   refine aA λ M1 K1 => ?_
   walk_at "ge"
   refine K1.use ?_
   walk_at "cl"
   clear K1
   refine aA λ M1 K1 => ?_
   walk_at "ge"
   ·exact fin _ (out _ (by omega))
   refine K1.use ?_
   walk_at "cl"
   clear K1
   refine aA λ M1 K1 => ?_
   walk_at "ge"
   ·exact fin _ (out _ (by have:=Int.emod_nonneg (c / 6) (show (1000000000000000000000000000000000000000000000000000000000000:Int)≠0 by decide);omega))
   refine K1.use ?_
   walk_at "cl"
   clear K1
   refine aA λ M1 K1 => ?_
   walk_at "ge"
   ·exact fin _ (out _ (by have:=Int.emod_nonneg (c / 6) (show (1000000000000000000000000000000000000000000000000000000000000:Int)≠0 by decide);omega))
   refine K1.use ?_
   walk_at "cl"
   clear K1
   refine aA λ M1 K1 => ?_
   have zero:M1 [some (.int c),some (.int m),some (.ref l),some (.ref r),some (.int (c % 6))] H2:=by
    refine K1.use ?_
    walk_at "ge"
    exact fin _ (out _ (by omega))
   clear K1
   walk_at "ge"
   ·refine AG CP ?_
    by_cases h0:es.length=0
    ·obtain rfl:=List.length_eq_zero_iff.mp h0
     rw [show (!(([]:List Nat).map λ j:Nat=>V.int (1+(j:Int))).isEmpty)=false from rfl]
     walk_at "ge"
     exact zero
    ·have hpos:(0:Int) < ((es.map λ j:Nat=>V.int (1+(j:Int))).length:Int):=by rw [List.length_map];omega
     have e0:=Int.emod_nonneg (c / 6) (Int.ne_of_gt hpos)
     have e1:=Int.emod_lt_of_pos (c / 6) hpos
     rw [List.length_map] at e0 e1
     have hj:(c / 6 % (es.length:Int)).toNat < es.length:=by omega
     have hat:iB (es.map λ j:Nat=>V.int (1+(j:Int))) (c / 6 % ((es.map λ j:Nat=>V.int (1+(j:Int))).length:Int))=some (.int (1+(es[(c / 6 % (es.length:Int)).toNat]:Int))):=by
      rw [List.length_map]
      exact sR e0 (by rw [List.getElem?_map,List.getElem?_eq_getElem hj];rfl)
     rw [show (!(es.map λ j:Nat=>V.int (1+(j:Int))).isEmpty)=true by cases es with | nil=>exact absurd rfl h0 | cons x xs=>rfl]
     walk_at "ge"
     exact fin _ (hes _ (List.getElem_mem hj))
   ·exact zero
def zw (cW cB cQ cT cF cD cS cI cL c2:Addr):Sp:=λ vs H _ E => ∃ (W:WR) (y n:Int) (Z M:Cells),vs = [.ref W.b,.int y,.int n]/\Led H (aU cW cB cQ W++Z)/\(∀ c∈M,c∈Z)/\fh cT cF cD cS cI cL W M/\W.es.length<=1000/\n ∉ W.es.map (·.1)/\0<=y/\y<=8 ∧ ∀ N H',Led H' (N++(aU cW cB cQ W++Z))->E (.ref c2) none H'
theorem EC (D:Def K mg "_law_call" pP) (B:e9 mg) (T:(Txt K mg cN c2 cP cA cG c3 cC c4 cU c6 cT cF cD cS cI cL cB cQ cW)) (cz:(aM P w K mg base) 4 "fork_space" ["world","space"] (tX cW cB cQ cT cF cD cS cI cL c2)) (dm:(aM P w K mg base) 4 "end_space" ["world","space"] (xX cW cB cQ cT cF cD cS cI cL c2)) (dw:(aM P w K mg base) 2 "told_plan" ["world","space"] (tZ cW cB cQ c2)) (dz:(aM P w K mg base) 3 "told_ways" ["world","space"] (t8 cW cB cQ cL c2)) (cE:Jb P w K mg base 5 "map_pages" ["world","space","first","many","kind","rights","name","start"] [.aN,.int 0] (x8 cW cB cQ cT cF cD cS cI cL c2)) (g8:(aM P w K mg base) 4 "set_rights" ["world","space","first","many","rights"] (ug cW cB cQ c2 [] [.int 0,.int 1,.int 2])) (gb:(aM P w K mg base) 4 "unmap_pages" ["world","space","first","many"] (ug cW cB cQ c2 [] [.int 0,.int 1])) (g9:(aM P w K mg base) 5 "read_cells" ["world","hand","space","place","many"] (zq cW cB cQ cT cF cD cS cI cL c2)) (gc:(aM P w K mg base) 5 "write_cells" ["world","hand","space","place","numbers"] (wo cW cB cQ cT cF cD cS cI cL c2)):(aM P w K mg base) 6 "_law_call" ["_law_world","_law_way","_law_space"] (zw cW cB cQ cT cF cD cS cI cL c2):=by
 have sc:=rQ
 refine D.o6 rQ (λ vs H Q E h => ?_) (by walk_at "us") (λ f cdv A outer s H vs Q E hr h => ?_)
 ·walk_at "ln"
 ·obtain ⟨W,y,n,Z,M,rfl,hL,hM,g,kF,hno,y0,y8,kE⟩:=h
  have no : ∀ e∈W.es,e.1=n->False:=λ e he e1=>hno (List.mem_map.mpr ⟨e,he,e1⟩)
  refine ⟨_,(@aj _ _ _ (@aZ _ _ _ _ _ _ _ _ (@aG _ _ _ _ _ _ _ _ ie (@aq _ 1 _ _ (by walk_at "v")) (@ao _ _ _ _) (aR _)) (@aj _ _ _ (@az _ _ _ _ (@ak _ _ _ _ _ _ _ _ _ _ _ cz (hr.mono (by omega)) (by rfl) bA (@aa _ _ _ _ _ (@aq _ 0 _ _ (by walk_at "v")) (@aa _ _ _ _ _ (@aq _ 2 _ _ (by walk_at "v")) (@af _) (by rfl)) (by rfl)) (by decide) (by rfl) (by rfl)) (by rfl))) (@aj _ _ _ (@aZ _ _ _ _ _ _ _ _ (@aG _ _ _ _ _ _ _ _ ie (@aq _ 1 _ _ (by walk_at "v")) (@ao _ _ _ _) (aR _)) (@aj _ _ _ (@az _ _ _ _ (@ak _ _ _ _ _ _ _ _ _ _ _ dm (hr.mono (by omega)) (by rfl) bA (@aa _ _ _ _ _ (@aq _ 0 _ _ (by walk_at "v")) (@aa _ _ _ _ _ (@aq _ 2 _ _ (by walk_at "v")) (@af _) (by rfl)) (by rfl)) (by decide) (by rfl) (by rfl)) (by rfl))) (@aj _ _ _ (@aZ _ _ _ _ _ _ _ _ (@aG _ _ _ _ _ _ _ _ ie (@aq _ 1 _ _ (by walk_at "v")) (@ao _ _ _ _) (aR _)) (@aj _ _ _ (@az _ _ _ _ (@ak _ _ _ _ _ _ _ _ _ _ _ dw (hr.mono (by omega)) (by rfl) bA (@aa _ _ _ _ _ (@aq _ 0 _ _ (by walk_at "v")) (@aa _ _ _ _ _ (@aq _ 2 _ _ (by walk_at "v")) (@af _) (by rfl)) (by rfl)) (by decide) (by rfl) (by rfl)) (by rfl))) (@aj _ _ _ (@aZ _ _ _ _ _ _ _ _ (@aG _ _ _ _ _ _ _ _ ie (@aq _ 1 _ _ (by walk_at "v")) (@ao _ _ _ _) (aR _)) (@aj _ _ _ (@az _ _ _ _ (@ak _ _ _ _ _ _ _ _ _ _ _ dz (hr.mono (by omega)) (by rfl) bA (@aa _ _ _ _ _ (@aq _ 0 _ _ (by walk_at "v")) (@aa _ _ _ _ _ (@aq _ 2 _ _ (by walk_at "v")) (@af _) (by rfl)) (by rfl)) (by decide) (by rfl) (by rfl)) (by rfl))) (@aj _ _ _ (@aZ _ _ _ _ _ _ _ _ (@aG _ _ _ _ _ _ _ _ ie (@aq _ 1 _ _ (by walk_at "v")) (@ao _ _ _ _) (aR _)) (@aj _ _ _ (@az _ _ _ _ (@vm _ _ _ _ _ _ _ _ _ _ _ _ cE (hr.mono (by omega)) (by rfl) bA (@aa _ _ _ _ _ (@aq _ 0 _ _ (by walk_at "v")) (@aa _ _ _ _ _ (@aq _ 2 _ _ (by walk_at "v")) (@aa _ _ _ _ _ (@ao _ _ _ _) (@aa _ _ _ _ _ (@ao _ _ _ _) (@aa _ _ _ _ _ (@bz _ _ _ _) (@aa _ _ _ _ _ (@ao _ _ _ _) (@af _) (by rfl)) (by rfl)) (by rfl)) (by rfl)) (by rfl)) (by rfl)) (by decide) (by rfl) (by rfl)) (by rfl))) (@aj _ _ _ (@aZ _ _ _ _ _ _ _ _ (@aG _ _ _ _ _ _ _ _ ie (@aq _ 1 _ _ (by walk_at "v")) (@ao _ _ _ _) (aR _)) (@aj _ _ _ (@az _ _ _ _ (@ak _ _ _ _ _ _ _ _ _ _ _ g8 (hr.mono (by omega)) (by rfl) bA (@aa _ _ _ _ _ (@aq _ 0 _ _ (by walk_at "v")) (@aa _ _ _ _ _ (@aq _ 2 _ _ (by walk_at "v")) (@aa _ _ _ _ _ (@ao _ _ _ _) (@aa _ _ _ _ _ (@ao _ _ _ _) (@aa _ _ _ _ _ (@ao _ _ _ _) (@af _) (by rfl)) (by rfl)) (by rfl)) (by rfl)) (by rfl)) (by decide) (by rfl) (by rfl)) (by rfl))) (@aj _ _ _ (@aZ _ _ _ _ _ _ _ _ (@aG _ _ _ _ _ _ _ _ ie (@aq _ 1 _ _ (by walk_at "v")) (@ao _ _ _ _) (aR _)) (@aj _ _ _ (@az _ _ _ _ (@ak _ _ _ _ _ _ _ _ _ _ _ gb (hr.mono (by omega)) (by rfl) bA (@aa _ _ _ _ _ (@aq _ 0 _ _ (by walk_at "v")) (@aa _ _ _ _ _ (@aq _ 2 _ _ (by walk_at "v")) (@aa _ _ _ _ _ (@ao _ _ _ _) (@aa _ _ _ _ _ (@ao _ _ _ _) (@af _) (by rfl)) (by rfl)) (by rfl)) (by rfl)) (by decide) (by rfl) (by rfl)) (by rfl))) (@aj _ _ _ (@aZ _ _ _ _ _ _ _ _ (@aG _ _ _ _ _ _ _ _ ie (@aq _ 1 _ _ (by walk_at "v")) (@ao _ _ _ _) (aR _)) (@aj _ _ _ (@az _ _ _ _ (@ak _ _ _ _ _ _ _ _ _ _ _ g9 (hr.mono (by omega)) (by rfl) bA (@aa _ _ _ _ _ (@aq _ 0 _ _ (by walk_at "v")) (@aa _ _ _ _ _ (@ao _ _ _ _) (@aa _ _ _ _ _ (@aq _ 2 _ _ (by walk_at "v")) (@aa _ _ _ _ _ (@ao _ _ _ _) (@aa _ _ _ _ _ (@av _ _ _ _ _ _ _ _ cg (@aq _ 1 _ _ (by walk_at "v")) (@ao _ _ _ _)) (@af _) (by rfl)) (by rfl)) (by rfl)) (by rfl)) (by rfl)) (by decide) (by rfl) (by rfl)) (by rfl))) (@aj _ _ _ (@az _ _ _ _ (@ak _ _ _ _ _ _ _ _ _ _ _ gc (hr.mono (by omega)) (by rfl) bA (@aa _ _ _ _ _ (@aq _ 0 _ _ (by walk_at "v")) (@aa _ _ _ _ _ (@ao _ _ _ _) (@aa _ _ _ _ _ (@aq _ 2 _ _ (by walk_at "v")) (@aa _ _ _ _ _ (@ao _ _ _ _) (@aa _ _ _ _ _ (@bC _ _ _ _ (@aa _ _ _ _ _ (@ao _ _ _ _) (@af _) (by rfl))) (@af _) (by rfl)) (by rfl)) (by rfl)) (by rfl)) (by rfl)) (by decide) (by rfl) (by rfl)) (by rfl))))))))))))))))))),?_⟩
  walk_at "ge"
  ·exact ⟨W,n,Z,M,rfl,hL,hM,g,kF,λ e he e1=>(no e he e1).elim,λ _=>kE [] H hL⟩
  ·exact ⟨W,n,Z,M,rfl,hL,hM,g,λ h=>(hno h).elim,λ _=>kE [] H hL⟩
  ·exact ⟨W,n,Z,M,rfl,hL,hM,g.up,λ e he e1=>(no e he e1).elim,λ _=>kE [] H hL⟩
  ·exact ⟨W,n,Z,M,rfl,hL,hM,g.up,λ e he e1=>(no e he e1).elim,λ _=>kE [] H hL⟩
  ·exact ⟨W,n,0,1,2,Z,M,rfl,hL,hM,g,by decide,by decide,by decide,by decide,by decide,by decide,λ i x hi=>(no _ (List.mem_of_getElem? hi) rfl).elim,λ _=>kE [] H hL⟩
  ·exact ⟨W,n,Z,rfl,hL,g.up,hno,kE⟩
  ·exact ⟨W,n,Z,rfl,hL,g.up,hno,kE⟩
  ·exact ⟨W,n,Z,M,by rw [show y - 7=0 by omega];rfl,hL,hM,g,hno,kE⟩
  ·rename_i l H1 _ hl1 _
   have hl2:Led H1 (aU cW cB cQ W++([(l,HO.lst [.int 7])]++Z)):=Led.perm (L:=[(l,HO.lst [.int 7])]++(aU cW cB cQ W++Z)) hl1 aS
   refine ⟨W,n,l,[(l,HO.lst [.int 7])]++Z,M,rfl,hl2,mS,λ c hc=>mA (hM c hc),g,hno,λ N H' hl=>kE (N++[(l,HO.lst [.int 7])]) H' ?_⟩
   rw [List.append_assoc]
   exact Led.perm hl (List.Perm.append_left _ aS.symm)
def uo (cW cB cQ cT cF cD cS cI cL:Addr):Sp:=λ vs H Q _ => ∃ (W:WR) (y n:Int) (Z M:Cells),vs = [.ref W.b,.int y,.int n]/\Led H (aU cW cB cQ W++Z)/\(∀ c∈M,c∈Z)/\fh cT cF cD cS cI cL W M/\W.es.length<=1000/\n ∉ W.es.map (·.1)/\0<=y/\y<=8 ∧ ∀ N H',Led H' (aU cW cB cQ W++(N++Z))->Q (.bl true) H'
theorem yc (D:Def K mg "_law_refused" jl) (B:e9 mg) (T:(Txt K mg cN c2 cP cA cG c3 cC c4 cU c6 cT cF cD cS cI cL cB cQ cW)) (jr:(aM P w K mg base) 6 "_law_call" ["_law_world","_law_way","_law_space"] (zw cW cB cQ cT cF cD cS cI cL c2)):(aM P w K mg base) 7 "_law_refused" ["_law_world","_law_way","_law_space"] (uo cW cB cQ cT cF cD cS cI cL):=by
 have sc:=mw
 refine D.ok mw (λ vs H Q E h => ?_) (by walk_at "us") (λ f cdv A outer s H vs Q E hr h => ?_)
 ·walk_at "ln"
 ·obtain ⟨W,y,n,Z,M,rfl,hL,hM,g,kF,hno,y0,y8,k⟩:=h
  refine ⟨_,(@ah _ _ _ _ _ (@aB _ _ 3 _ _ _ _ sc.nd rfl (by walk_at "o2") (@cY _ _ _ _) (by rfl) (by walk_at "o4")) (@ah _ _ _ _ _ (@Gf _ _ _ _ _ _ _ 4 _ _ _ _ _ rfl rfl rfl (@BD _ _ _ (@BE _ _ _ _ (@Aa _ _ _ _ _ _ _ _ _ _ jr (hr.mono (by omega)) (by rfl) (@aa _ _ _ _ _ (@aq _ 0 _ _ (by walk_at "v")) (@aa _ _ _ _ _ (@aq _ 1 _ _ (by walk_at "v")) (@aa _ _ _ _ _ (@aq _ 2 _ _ (by walk_at "v")) (@af _) (by rfl)) (by rfl)) (by rfl)) (by decide) (by rfl) (by rfl)) (by rfl))) (by rfl) T.Aq.wH sc.nd rfl rfl (λ _=>(@ah _ _ _ _ _ (@aB _ _ 5 _ _ _ _ sc.nd rfl (by walk_at "o2") (@aD _ _ _ _ _ _ _ _ _ (kJ (K:=K) rfl) (by rfl) B.isinstance aW (@aa _ _ _ _ _ (@aq _ 4 _ _ (by walk_at "v")) (@aa _ _ _ _ _ (@fj _ _ _ _ _ (@aa _ _ _ _ _ (@d8 _ _ (.ref _) _ _ (by rfl) T.pT.wH rfl (by decide)) (@aa _ _ _ _ _ (@d8 _ _ (.ref _) _ _ (by rfl) T.B3.wH rfl (by decide)) (@aa _ _ _ _ _ (@d8 _ _ (.ref _) _ _ (by rfl) T.B4.wH rfl (by decide)) (@aa _ _ _ _ _ (@d8 _ _ (.ref _) _ _ (by rfl) T.Ef.wH rfl (by decide)) (@aa _ _ _ _ _ (@d8 _ _ (.ref _) _ _ (by rfl) T.Taken.wH rfl (by decide)) (@aa _ _ _ _ _ (@d8 _ _ (.ref _) _ _ (by rfl) T.Ma.wH rfl (by decide)) (@aa _ _ _ _ _ (@d8 _ _ (.ref _) _ _ (by rfl) T.Full.wH rfl (by decide)) (@aa _ _ _ _ _ (@d8 _ _ (.ref _) _ _ (by rfl) T.Jd.wH rfl (by decide)) (@af _) (by rfl)) (by rfl)) (by rfl)) (by rfl)) (by rfl)) (by rfl)) (by rfl)) (by rfl))) (@af _) (by rfl)) (by rfl)) (by decide) (by decide) (by rfl) (by rfl)) (by rfl) (by walk_at "o4")) (@aj _ _ _ (@aB _ _ 3 _ _ _ _ sc.nd rfl (by walk_at "o2") (@iE _ _ _ _ _ _ _ (@aD _ _ _ _ _ _ _ _ _ (kJ (K:=K) rfl) (by rfl) B.isinstance aW (@aa _ _ _ _ _ (@aq _ 4 _ _ (by walk_at "v")) (@aa _ _ _ _ _ (@d8 _ _ (.ref _) _ _ (by rfl) T.yR.wH rfl (by decide)) (@af _) (by rfl)) (by rfl)) (by decide) (by decide) (by rfl) (by rfl)) (@iE _ _ _ _ _ _ _ (@aD _ _ _ _ _ _ _ _ _ (kJ (K:=K) rfl) (by rfl) B.isinstance aW (@aa _ _ _ _ _ (@aq _ 4 _ _ (by walk_at "v")) (@aa _ _ _ _ _ (@eU _ _ (.ty "ValueError") _ _ (by rfl) B.ValueError qw rfl (by decide) (by decide)) (@af _) (by rfl)) (by rfl)) (by decide) (by decide) (by rfl) (by rfl)) (@rZ _ _ _ _ _ (@wK _ _ _ _ (@aq _ 5 _ _ (by walk_at "v")))))) (by rfl) (by walk_at "o4"))))) (by decide)) (@aj _ _ _ (@ay _ _ _ _ (@aq _ 3 _ _ (by walk_at "v")))))),?_⟩
  refine aA λ M1 K1 => ?_
  walk_at "ge"
  refine K1.use ?_
  walk_at "cl"
  clear K1
  refine aA λ M1 K1 => ?_
  refine LI λ E1 NT => ?_
  walk_at "ge"
  refine ⟨W,y,n,Z,M,rfl,hL,hM,g,kF,hno,y0,y8,λ N H' hl' => ?_⟩
  rw [NT.eq]
  refine ⟨T.B6,λ ea JU => ?_⟩
  clear NT hL
  have hl3:=hl'.new (o := .ext (nM ea (.ref c2))) JU
  generalize upd H' ea (.ext (nM ea (.ref c2)))=H3 at hl3 ⊢
  have xW:=hl3.get mS
  refine aA λ M2 K2 => ?_
  walk_at "ge"
  rename_i tp H4 _ bF _
  refine ⟨ea,c2,_,false,rfl,bF.get (mC mS),T.B5,.inr (.inr ⟨tp,[cN,cA,cG,c3,cC,c4,cU,c6],rfl,bF.get mS,T.Mb⟩),?_⟩
  walk_at "ge"
  refine K2.use ?_
  walk_at "cl"
  have dY:=bF.tail
  clear K2 xW hl3 bF hl'
  have xW:=dY.get mS
  walk_at "ge"
  refine ⟨ea,c2,_,true,rfl,xW,T.B5,.inr (.inl ⟨c2,rfl,T.B7⟩),?_⟩
  walk_at "ge"
  refine ⟨ea,c2,_,true,rfl,xW,T.B5,.inl ⟨_,rfl,T.nh⟩,?_⟩
  walk_at "ge"
  refine K1.use ?_
  walk_at "ge"
  exact k N _ (Led.perm dY.tail aS)
def wz (s:Sr):PySem.W.Dat := .tuple [.int s.f,.int s.m,.str (Str.ofString "own"),.int s.r,.none,.int 0]
theorem yd {H:Hp} {a:Addr} {s:Sr} (h:H a=some (.tup (qp s))):b7 H (.ref a) (PySem.W.kqdP (wz s)):=by
 unfold wz
 rw [PySem.W.kqdP,PySem.W.kqdPs,PySem.W.kqdPs,PySem.W.kqdPs,PySem.W.kqdPs,PySem.W.kqdPs,PySem.W.kqdPs,PySem.W.kqdPs,PySem.W.kqdP,PySem.W.kqdP,PySem.W.kqdP,PySem.W.kqdP,PySem.W.kqdP,PySem.W.kqdP]
 exact .tup h (.cons (.int _) (.cons (.int _) (.cons (.str _) (.cons (.int _) (.cons .aN (.cons (.int _) .nil))))))
theorem zx:PyData.strOk (Str.ofString "own")=true:=by decide +kernel
theorem uq (s:Sr) (k:Nat):PySem.W.kqdOk (k+1) (wz s)=true:=by
 unfold wz
 rw [PySem.W.kqdOk]
 simp only [List.all_cons,List.all_nil,Bool.and_true,Bool.and_eq_true]
 cases k with
 | zero=>exact ⟨rfl,rfl,zx,rfl,rfl,rfl⟩
 | succ k=>exact ⟨rfl,rfl,zx,rfl,rfl,rfl⟩
def zy:Sp:=λ vs H Q _ => ∃ (r d u:Addr) (s:Sr) (L:Cells),vs = [.ref r,.ref d]/\Led H L/\(r,HO.lst [.ref u])∈L/\(u,HO.tup (qp s))∈L/\(d,HO.tup (qp s))∈L/\Q (.bl true) H
theorem CZ (D:Def K mg "_law_plan" pQ) (B:e9 mg) (T:(Txt K mg cN c2 cP cA cG c3 cC c4 cU c6 cT cF cD cS cI cL cB cQ cW)) (aK:(aM P w K mg base) 1 "_law_whole" ["_law_num"] jq):(aM P w K mg base) 2 "_law_plan" ["_law_found","_law_due"] zy:=by
 have sc:=rR
 refine D.ok rR (λ vs H Q E h => ?_) (by walk_at "us") (λ f cdv A outer s H vs Q E hr h => ?_)
 ·walk_at "ln"
 ·obtain ⟨r,d,u,s,L,rfl,hL,oF,Js,Ht,k⟩:=h
  have CP:=hL.get oF
  have Ko:H u=some (.tup [.int s.f,.int s.m,.str (Str.ofString "own"),.int s.r,.aN,.int 0]):=hL.get Js
  have d1:b7 H (.ref u) (PySem.W.kqdP (wz s)):=yd (hL.get Js)
  have d2:b7 H (.ref d) (PySem.W.kqdP (wz s)):=yd (hL.get Ht)
  refine ⟨_,(@ah _ _ _ _ _ (@aZ _ _ _ _ _ _ _ _ (@PW.pt _ _ _ (@pw_or _ _ _ _ _ _ _ (@b3 _ _ _ _ (@b9 _ _ _ (@aD _ _ _ _ _ _ _ _ _ c8 (by rfl) B.isinstance aW (@aa _ _ _ _ _ (@aq _ 0 _ _ (by walk_at "v")) (@aa _ _ _ _ _ (@eU _ _ (.ty "list") _ _ (by rfl) B.list d9 rfl (by decide) (by decide)) (@af _) (by rfl)) (by rfl)) (by decide) (by decide) (by rfl) (by rfl)) (by intro _;rfl))) (@pw_or _ _ _ _ _ _ _ (@aG _ _ _ _ _ _ _ _ qW (@aD _ _ _ _ _ _ _ _ _ bh (by rfl) B.len cH (@aa _ _ _ _ _ (@aq _ 0 _ _ (by walk_at "v")) (@af _) (by rfl)) (by decide) (by decide) (by rfl) (by rfl)) (@ao _ _ _ _) (aR _)) (@pw_or _ _ _ _ _ _ _ (@b3 _ _ _ _ (@b9 _ _ _ (@aD _ _ _ _ _ _ _ _ _ c8 (by rfl) B.isinstance aW (@aa _ _ _ _ _ (@aJ _ _ _ _ _ _ _ aE (@aq _ 0 _ _ (by walk_at "v")) (@ao _ _ _ _) (λ _ _=>rfl)) (@aa _ _ _ _ _ (@eU _ _ (.ty "tuple") _ _ (by rfl) B.tuple BA rfl (by decide) (by decide)) (@af _) (by rfl)) (by rfl)) (by decide) (by decide) (by rfl) (by rfl)) (by intro _;rfl))) (@pw_or1 _ _ _ _ (@aG _ _ _ _ _ _ _ _ qW (@aD _ _ _ _ _ _ _ _ _ bh (by rfl) B.len cH (@aa _ _ _ _ _ (@aJ _ _ _ _ _ _ _ aE (@aq _ 0 _ _ (by walk_at "v")) (@ao _ _ _ _) (λ _ _=>rfl)) (@af _) (by rfl)) (by decide) (by decide) (by rfl) (by rfl)) (@ao _ _ _ _) (aR _))))))) (@aj _ _ _ (@ay _ _ _ _ (@cY _ _ _ _))) (@aO _)) (@ah _ _ _ _ _ (@aB _ _ 2 _ _ _ _ sc.nd rfl (by walk_at "o2") (@aJ _ _ _ _ _ _ _ aE (@aq _ 0 _ _ (by walk_at "v")) (@ao _ _ _ _) (λ _ _=>rfl)) (by rfl) (by walk_at "o4")) (@aj _ _ _ (@ay _ _ _ _ (@iE _ _ _ _ _ _ _ (@ak _ _ _ _ _ _ _ _ _ _ _ aK (hr.mono (by omega)) (by rfl) au (@aa _ _ _ _ _ (@aJ _ _ _ _ _ _ _ aE (@aq _ 2 _ _ (by walk_at "v")) (@ao _ _ _ _) (λ _ _=>rfl)) (@af _) (by rfl)) (by decide) (by rfl) (by rfl)) (@iE _ _ _ _ _ _ _ (@ak _ _ _ _ _ _ _ _ _ _ _ aK (hr.mono (by omega)) (by rfl) au (@aa _ _ _ _ _ (@aJ _ _ _ _ _ _ _ aE (@aq _ 2 _ _ (by walk_at "v")) (@ao _ _ _ _) (λ _ _=>rfl)) (@af _) (by rfl)) (by decide) (by rfl) (by rfl)) (@iE _ _ _ _ _ _ _ (@ak _ _ _ _ _ _ _ _ _ _ _ aK (hr.mono (by omega)) (by rfl) au (@aa _ _ _ _ _ (@aJ _ _ _ _ _ _ _ aE (@aq _ 2 _ _ (by walk_at "v")) (@ao _ _ _ _) (λ _ _=>rfl)) (@af _) (by rfl)) (by decide) (by rfl) (by rfl)) (@iE _ _ _ _ _ _ _ (@ak _ _ _ _ _ _ _ _ _ _ _ aK (hr.mono (by omega)) (by rfl) au (@aa _ _ _ _ _ (@aJ _ _ _ _ _ _ _ aE (@aq _ 2 _ _ (by walk_at "v")) (@ao _ _ _ _) (λ _ _=>rfl)) (@af _) (by rfl)) (by decide) (by rfl) (by rfl)) (@rZ _ _ _ _ _ (@sj _ _ _ _ _ _ _ _ (xw hr.units) (@aq _ 2 _ _ (by walk_at "v")) (@aq _ 1 _ _ (by walk_at "v")) (aR _))))))))))),?_⟩
  refine aA λ M1 K1 => ?_
  walk_at "ge"
  all_goals first | (exfalso;exact absurd rfl (by assumption)) | (exfalso;omega) | skip
  refine K1.use ?_
  walk_at "cl"
  clear K1
  refine aA λ M1 K1 => ?_
  walk_at "ge"
  refine K1.use ?_
  walk_at "cl"
  clear K1
  walk_at "ge"
  refine ⟨_,rfl,?_⟩
  walk_at "ge"
  refine ⟨_,rfl,?_⟩
  walk_at "ge"
  refine ⟨_,rfl,?_⟩
  walk_at "ge"
  refine ⟨_,rfl,?_⟩
  walk_at "ge"
  refine IZ d1 d2 (uq s 7) (uq s 7) (b:=true) (iff_of_true rfl rfl) ?_
  walk_at "ge"
  exact k
abbrev Ds:=List (Int×Addr)
def qj (ds:Ds):List (Key×V):=ds.map λ d=>(Sum.inl d.1,V.ref d.2)
theorem wA (ds:Ds):(qj ds).map (·.1)=(ds.map (·.1)).map Sum.inl:=by unfold qj;rw [List.map_map,List.map_map];rfl
theorem ye {ds:Ds} {d:Int×Addr} (up:(ds.map (·.1)).Pairwise (· < ·)) (h:d∈ds):bN (qj ds) (.inl d.1)=some (.ref d.2):=by
 induction ds with
 | nil=>cases h
 | cons x ds ih =>
   rw [List.map_cons,List.pairwise_cons] at up
   show bN ((Sum.inl x.1,V.ref x.2)::qj ds) (.inl d.1)=_
   rcases List.mem_cons.mp h with rfl | h
   ·exact cR (p:=((Sum.inl d.1:Key),V.ref d.2)) rfl
   ·have hlt:=up.1 d.1 (List.mem_map.mpr ⟨d,h,rfl⟩)
    rw [bO (p:=((Sum.inl x.1:Key),V.ref x.2)) (λ w=>by have:=Sum.inl.inj w;omega)]
    exact ih up.2 h
theorem C0 {ds:Ds} {n:Int} (h:n ∉ ds.map (·.1)):bN (qj ds) (.inl n)=none:=by
 induction ds with
 | nil=>rfl
 | cons x ds ih =>
   rw [List.map_cons,List.mem_cons,not_or] at h
   show bN ((Sum.inl x.1,V.ref x.2)::qj ds) (.inl n)=none
   rw [bO (p:=((Sum.inl x.1:Key),V.ref x.2)) (λ w=>h.1 (Sum.inl.inj w).symm)]
   exact ih h.2
theorem zA {ds:Ds} {n:Int} (a:Addr) (h:n ∉ ds.map (·.1)):putK (qj ds) (.inl n) (.ref a)=qj (ds++[(n,a)]):=by
 unfold putK
 rw [if_neg]
 ·unfold qj;rw [List.map_append];rfl
 ·rw [dH,C0 h];exact Bool.false_ne_true
theorem C1 (ds:Ds) (n:Int):bR (qj ds) (.inl n)=qj (ds.filter λ e=>decide (e.1≠n)):=by
 induction ds with
 | nil=>rfl
 | cons x ds ih =>
   have hc:qj (x::ds)=(Sum.inl x.1,V.ref x.2)::qj ds:=rfl
   by_cases w:x.1=n
   ·rw [hc,jz (p:=((Sum.inl x.1:Key),V.ref x.2)) (by show (Sum.inl x.1:Key)=_;rw [w]),ih,List.filter_cons_of_neg (by simp [w])]
   ·rw [hc,jA (p:=((Sum.inl x.1:Key),V.ref x.2)) (λ y=>w (Sum.inl.inj y)),ih,List.filter_cons_of_pos (by simp [w])]
    rfl
def zB (m:Int) (pd:Addr):List (Key×V):=[(Sum.inr (Str.ofString "made"),.int m),(Sum.inr (Str.ofString "plans"),.ref pd)]
theorem C2 : ¬ ((Sum.inr (Str.ofString "made"):Key)=Sum.inr (Str.ofString "plans")):=λ h=>absurd (Sum.inr.inj h) (by decide +kernel)
theorem rw_made (m:Int) (pd:Addr):bN (zB m pd) (.inr (Str.ofString "made"))=some (.int m):=cR (p:=((Sum.inr (Str.ofString "made"):Key),V.int m)) rfl
theorem rw_plans (m:Int) (pd:Addr):bN (zB m pd) (.inr (Str.ofString "plans"))=some (.ref pd):=by
 unfold zB
 rw [bO (p:=((Sum.inr (Str.ofString "made"):Key),V.int m)) C2]
 exact cR (p:=((Sum.inr (Str.ofString "plans"):Key),V.ref pd)) rfl
theorem rw_put (m x:Int) (pd:Addr):putK (zB m pd) (.inr (Str.ofString "made")) (.int x)=zB x pd:=by
 unfold putK
 rw [if_pos (by rw [dH,rw_made];rfl)]
 show [(if (Sum.inr (Str.ofString "made"):Key)=Sum.inr (Str.ofString "made") then _ else _),(if (Sum.inr (Str.ofString "plans"):Key)=Sum.inr (Str.ofString "made") then _ else _)]=_
 rw [if_pos rfl,if_neg (λ h=>C2 h.symm)]
 rfl
def dF (rw pd:Addr) (m:Int) (ds:Ds):Cells:=[(rw,HO.dK (zB m pd)),(pd,HO.dK (qj ds))]
structure LR (W:WR) (ds:Ds) (M:Cells):Prop where
 ks:ds.map (·.1)=W.es.map (·.1)
 pl : ∀ e∈W.es,∃ u s d,e.2.pl = [(u,s)]/\(e.1,d)∈ds/\(d,HO.tup (qp s))∈M
theorem LR.mono {W:WR} {ds:Ds} {M M':Cells} (h:LR W ds M) (up : ∀ c∈M,c∈M'):LR W ds M':=⟨h.ks,λ e he=>by obtain ⟨u,s,d,h1,h2,h3⟩:=h.pl e he;exact ⟨u,s,d,h1,h2,up _ h3⟩⟩
theorem LR.add {W:WR} {ds:Ds} {M:Cells} {r:oE} {u d:Addr} {s:Sr} (h:LR W ds M) (hp:r.pl = [(u,s)]) (hd:(d,HO.tup (qp s))∈M):LR (W.add r) (ds++[(W.made+1,d)]) M:=by
 refine ⟨?_,λ e he => ?_⟩
 ·show _=(W.es++[(W.made+1,r)]).map (·.1)
  rw [List.map_append,List.map_append,h.ks]
  rfl
 ·rcases List.mem_append.mp he with he | he
  ·obtain ⟨u,s,d,h1,h2,h3⟩:=h.pl e he
   exact ⟨u,s,d,h1,mB h2,h3⟩
  ·rw [List.mem_singleton.mp he]
   exact ⟨u,s,d,hp,mA mS,hd⟩
theorem LR.drop {W:WR} {ds:Ds} {M:Cells} {n:Int} (h:LR W ds M):LR (W.drop n) (ds.filter λ e=>decide (e.1≠n)) M:=by
 have ek : ∀ {α : Type} (l:List (Int × α)),(l.filter λ e=>decide (e.1≠n)).map (·.1)=(l.map (·.1)).filter λ k=>decide (k≠n):=λ l=>by
  rw [List.filter_map]
  rfl
 refine ⟨?_,λ e he => ?_⟩
 ·show _=(W.es.filter λ e=>decide (e.1≠n)).map (·.1)
  rw [ek,ek,h.ks]
 ·obtain ⟨he,hne⟩:=List.mem_filter.mp he
  obtain ⟨u,s,d,h1,h2,h3⟩:=h.pl e he
  exact ⟨u,s,d,h1,List.mem_filter.mpr ⟨h2,hne⟩,h3⟩
theorem wB {A R N Z:Cells} : (A++(N++(R++Z))).Perm (A++(R++(N++Z))):=List.Perm.append_left _ aS
def mE (cW cB cQ cT cF cD cS cI cL:Addr):Sp:=λ vs H Q _ => ∃ (W:WR) (rw pd:Addr) (ds:Ds) (c:Int) (Z M:Cells),vs = [.ref W.b,.ref rw,.int c]/\Led H (aU cW cB cQ W++(dF rw pd W.made ds++Z))/\(∀ c∈M,c∈Z)/\fh cT cF cD cS cI cL W M/\LR W ds M/\W.es.length<=900/\0<=c ∧ ∀ (W':WR) (ds':Ds) (N:Cells) (H':Hp),W'.b=W.b->W'.m=W.m->W'.q=W.q->W'.made<=W.made+1->W'.es.length<=W.es.length+1->fh cT cF cD cS cI cL W' (N++M)->LR W' ds' (N++M)->Led H' (aU cW cB cQ W'++(dF rw pd W'.made ds'++(N++Z)))->Q (.bl true) H'
theorem C3 (D:Def K mg "_law_made" pR) (B:e9 mg) (T:(Txt K mg cN c2 cP cA cG c3 cC c4 cU c6 cT cF cD cS cI cL cB cQ cW)) (ia:(aM P w K mg base) 4 "make_space" ["world"] (zk cW cB cQ cT cF cD cS cI cL)) (cE:Jb P w K mg base 5 "map_pages" ["world","space","first","many","kind","rights","name","start"] [.aN,.int 0] (x8 cW cB cQ cT cF cD cS cI cL c2)) (aK:(aM P w K mg base) 1 "_law_whole" ["_law_num"] jq):(aM P w K mg base) 6 "_law_made" ["_law_world","_law_row","_law_mixed"] (mE cW cB cQ cT cF cD cS cI cL):=by
 have sc:=rS
 refine D.ok rS (λ vs H Q E h => ?_) (by walk_at "us") (λ f cdv A outer s H vs Q E hr h => ?_)
 ·walk_at "ln"
 ·obtain ⟨W,rw,pd,ds,c,Z,M,rfl,hL,hM,g,lr,GS,c0,k⟩:=h
  have hu:=gw hr
  have hsz:=sizeLine_eq
  refine ⟨_,(@ah _ _ _ _ _ (@aB _ _ 3 _ _ _ _ sc.nd rfl (by walk_at "o2") (@av _ _ _ _ _ _ _ _ bM (@aq _ 2 _ _ (by walk_at "v")) (@ao _ _ _ _)) (by rfl) (by walk_at "o4")) (@ah _ _ _ _ _ (@aB _ _ 4 _ _ _ _ sc.nd rfl (by walk_at "o2") (@fj _ _ _ _ _ (@aa _ _ _ _ _ (@aq _ 3 _ _ (by walk_at "v")) (@aa _ _ _ _ _ (@av _ _ _ _ _ _ _ _ bg (@ao _ _ _ _) (@av _ _ _ _ _ _ _ _ bM (@av _ _ _ _ _ _ _ _ fK (@aq _ 2 _ _ (by walk_at "v")) (@ao _ _ _ _)) (@ao _ _ _ _))) (@aa _ _ _ _ _ (@bz _ _ _ _) (@aa _ _ _ _ _ (@av _ _ _ _ _ _ _ _ bM (@av _ _ _ _ _ _ _ _ fK (@aq _ 2 _ _ (by walk_at "v")) (@ao _ _ _ _)) (@ao _ _ _ _)) (@aa _ _ _ _ _ (@kG _ _ _) (@aa _ _ _ _ _ (@ao _ _ _ _) (@af _) (by rfl)) (by rfl)) (by rfl)) (by rfl)) (by rfl)) (by rfl))) (by rfl) (by walk_at "o4")) (@ah _ _ _ _ _ (@aB _ _ 5 _ _ _ _ sc.nd rfl (by walk_at "o2") (@ak _ _ _ _ _ _ _ _ _ _ _ ia (hr.mono (by omega)) (by rfl) au (@aa _ _ _ _ _ (@aq _ 0 _ _ (by walk_at "v")) (@af _) (by rfl)) (by decide) (by rfl) (by rfl)) (by rfl) (by walk_at "o4")) (@ah _ _ _ _ _ (@aZ _ _ _ _ _ _ _ _ (@PW.pt _ _ _ (@pw_or _ _ _ _ _ _ _ (@b3 _ _ _ _ (@b9 _ _ _ (@ak _ _ _ _ _ _ _ _ _ _ _ aK (hr.mono (by omega)) (by rfl) au (@aa _ _ _ _ _ (@aq _ 5 _ _ (by walk_at "v")) (@af _) (by rfl)) (by decide) (by rfl) (by rfl)) (by intro _;rfl))) (@pw_or1 _ _ _ _ (@aG _ _ _ _ _ _ _ _ qW (@aq _ 5 _ _ (by walk_at "v")) (@av _ _ _ _ _ _ _ _ bg (@bU _ _ _ _ _ _ hu (@aq _ 1 _ _ (by walk_at "v")) (@bz _ _ _ _) (λ _ _=>rfl)) (@ao _ _ _ _)) (aR _))))) (@aj _ _ _ (@ay _ _ _ _ (@cY _ _ _ _))) (@aO _)) (@ah _ _ _ _ _ (@lA _ _ _ _ _ _ _ _ _ hu (@aq _ 1 _ _ (by walk_at "v")) (@bz _ _ _ _) (@aq _ 5 _ _ (by walk_at "v")) rfl) (@ah _ _ _ _ _ (@az _ _ _ _ (@vm _ _ _ _ _ _ _ _ _ _ _ _ cE (hr.mono (by omega)) (by rfl) au (@aa _ _ _ _ _ (@aq _ 0 _ _ (by walk_at "v")) (@aa _ _ _ _ _ (@aq _ 5 _ _ (by walk_at "v")) (@aa _ _ _ _ _ (@aJ _ _ _ _ _ _ _ aE (@aq _ 4 _ _ (by walk_at "v")) (@ao _ _ _ _) (λ _ _=>rfl)) (@aa _ _ _ _ _ (@aJ _ _ _ _ _ _ _ aE (@aq _ 4 _ _ (by walk_at "v")) (@ao _ _ _ _) (λ _ _=>rfl)) (@aa _ _ _ _ _ (@bz _ _ _ _) (@aa _ _ _ _ _ (@aJ _ _ _ _ _ _ _ aE (@aq _ 4 _ _ (by walk_at "v")) (@ao _ _ _ _) (λ _ _=>rfl)) (@af _) (by rfl)) (by rfl)) (by rfl)) (by rfl)) (by rfl)) (by rfl)) (by decide) (by rfl) (by rfl)) (by rfl)) (@ah _ _ _ _ _ (@lA _ _ _ _ _ _ _ _ _ hu (@bU _ _ _ _ _ _ hu (@aq _ 1 _ _ (by walk_at "v")) (@bz _ _ _ _) (λ _ _=>rfl)) (@aq _ 5 _ _ (by walk_at "v")) (@aq _ 4 _ _ (by walk_at "v")) rfl) (@aj _ _ _ (@ay _ _ _ _ (@cY _ _ _ _)))))))))),?_⟩
  refine aA λ M1 K1 => ?_
  walk_at "ge"
  refine K1.use ?_
  walk_at "cl"
  clear K1
  refine aA λ M1 K1 => ?_
  walk_at "ge"
  rename_i d H1 _ hl1 _
  refine K1.use ?_
  walk_at "cl"
  clear K1 hL
  obtain ⟨s,es⟩ : ∃ s:Sr,s = ⟨c % 236,1+c / 236 % 20,c / 4720 % 3⟩:=⟨_,rfl⟩
  have f0:0<=s.f/\s.f<=255/\1<=s.m/\s.m<=256 - s.f/\0<=s.r/\s.r<=2:=by rw [es];dsimp only;omega
  obtain ⟨M2,Kq⟩ : ∃ M2:Cells,(d,HO.tup (qp s))::M=M2:=⟨_,rfl⟩
  obtain ⟨Z2,Ff⟩ : ∃ Z2:Cells,(d,HO.tup (qp s))::Z=Z2:=⟨_,rfl⟩
  have hl2:Led H1 (aU cW cB cQ W++(dF rw pd W.made ds++Z2)):=by
   rw [<-Ff]
   have h5:Led H1 ([(d,HO.tup (qp s))]++(aU cW cB cQ W++(dF rw pd W.made ds++Z))):=by rw [es];exact hl1
   exact Led.perm (Led.perm h5 aS) wB
  clear hl1
  have Fe : ∀ c∈M2,c∈Z2:=λ x hx=>by
   rw [<-Kq] at hx
   rw [<-Ff]
   rcases List.mem_cons.mp hx with w | w
   ·rw [w];exact mS
   ·exact mC (hM _ w)
  have NU : ∀ c∈M,c∈M2:=λ x hx=>by rw [<-Kq];exact mC hx
  have Ht:(d,HO.tup (qp s))∈M2:=by rw [<-Kq];exact mS
  refine aA λ M1 K1 => ?_
  walk_at "ge"
  refine ⟨W,_,M2,rfl,hl2,λ x hx=>mA (Fe x hx),g.mono NU,by omega,λ r N H2 hpl g2 hl3 => ?_⟩
  have bF:Led H2 (aU cW cB cQ (W.add r)++(dF rw pd W.made ds++(N++Z2))):=Led.perm hl3 wB
  clear hl2 hl3
  walk_at "ge"
  refine K1.use ?_
  walk_at "cl"
  clear K1
  have ck:=bF.get (mA mS)
  refine aA λ M1 K1 => ?_
  walk_at "ge"
  refine ⟨_,rfl,?_⟩
  walk_at "ge"
  refine ig ck (rw_made _ _) ?_
  walk_at "ge"
  all_goals first | (exfalso;exact absurd rfl (by assumption)) | skip
  refine K1.use ?_
  walk_at "cl"
  clear K1
  refine aA λ M1 K1 => ?_
  walk_at "ge"
  refine E8 ck (by show 2 < sizeLine;omega) ?_
  rw [rw_put]
  have dY:Led (upd H2 rw (.dK (zB (W.made+1) pd))) (dF rw pd (W.made+1) ds++(aU cW cB cQ (W.add r)++(N++Z2))):=(Led.perm bF aS.symm).lQ 0 rfl rfl rfl
  generalize upd H2 rw (.dK (zB (W.made+1) pd))=H3 at dY ⊢
  clear bF ck
  have fH:=Led.perm dY aS
  clear dY
  walk_at "ge"
  refine K1.use ?_
  walk_at "cl"
  clear K1
  obtain ⟨N2,Dk⟩ : ∃ N2:Cells,N++M2=N2:=⟨_,rfl⟩
  have Ju : ∀ c∈N++M2,c∈dF rw pd (W.made+1) ds++(N++Z2):=λ x hx=>by
   rcases List.mem_append.mp hx with w | w
   ·exact mA (mB w)
   ·exact mA (mA (Fe _ w))
  have C4:(W.add r).es[W.es.length]? = some (W.made+1,r):=by
   show (W.es++[(W.made+1,r)])[W.es.length]? = _
   rw [List.getElem?_append_right (Nat.le_refl _),Nat.sub_self]
   rfl
  have Mv:H3 d=some (.tup [.int s.f,.int s.m,.str (Str.ofString "own"),.int s.r,.aN,.int 0]):=fH.get (dJ (Ju _ (mA Ht)))
  refine aA λ M1 K1 => ?_
  walk_at "ge"
  refine ⟨W.add r,W.made+1,s.f,s.m,s.r,_,N++M2,rfl,fH,Ju,g2,f0.1,f0.2.1,f0.2.2.1,f0.2.2.2.1,f0.2.2.2.2.1,f0.2.2.2.2.2,λ i x hi => ?_,λ hno=>absurd (List.mem_map.mpr ⟨_,List.mem_of_getElem? C4,rfl⟩) hno⟩
  have hxi:i=W.es.length/\x=r:=by
   have h1:((W.add r).es.map (·.1))[i]? = some (W.made+1):=by rw [List.getElem?_map,hi];rfl
   have h2:((W.add r).es.map (·.1))[W.es.length]? = some (W.made+1):=by rw [List.getElem?_map,C4];rfl
   have nd:((W.add r).es.map (·.1)).Nodup:=g2.up.imp λ h=>Int.ne_of_lt h
   have hli:=(List.getElem?_eq_some_iff.mp h1).1
   have e:=(List.getElem?_inj hli nd).mp (h1.trans h2.symm)
   subst e
   rw [C4] at hi
   cases hi
   exact ⟨rfl,rfl⟩
  obtain ⟨rfl,rfl⟩:=hxi
  refine ⟨hpl,λ p u N3 H4 g3 iC => ?_⟩
  clear fH Mv
  have eW:(W.add x).lay W.es.length (W.made+1) { x with p:=p,pl:=[(u,⟨s.f,s.m,s.r⟩)] } = W.add { x with p:=p,pl:=[(u,s)] } := by
   unfold WR.lay WR.add
   dsimp only
   rw [List.set_append_right _ _ (Nat.le_refl _),Nat.sub_self]
   rfl
  rw [eW] at g3 iC
  have p9:Led H4 (aU cW cB cQ (W.add { x with p:=p,pl:=[(u,s)] })++(dF rw pd (W.made+1) ds++(N3++(N++Z2)))):=Led.perm iC wB
  clear iC
  walk_at "ge"
  refine K1.use ?_
  walk_at "cl"
  clear K1
  have ck:=p9.get (mA mS)
  have iD:=p9.get (mA (mC mS))
  have hnew:W.made+1 ∉ ds.map (·.1):=by rw [lr.ks];exact mD g
  have hdl:ds.length=W.es.length:=by have:=congrArg List.length lr.ks;rw [List.length_map,List.length_map] at this;exact this
  refine aA λ M1 K1 => ?_
  walk_at "ge"
  refine ig ck (rw_plans _ _) ?_
  walk_at "ge"
  refine ⟨pd,_,rfl,lu.k (k := .inl (W.made+1)) iD (by unfold qj;rw [List.length_map];omega),?_⟩
  rw [zA d hnew]
  have kX:Led (upd H4 pd (.dK (qj (ds++[(W.made+1,d)])))) (dF rw pd (W.made+1) (ds++[(W.made+1,d)])++(aU cW cB cQ (W.add { x with p:=p,pl:=[(u,s)] })++(N3++(N++Z2)))):=(Led.perm p9 aS.symm).lQ 1 rfl rfl rfl
  generalize upd H4 pd (.dK (qj (ds++[(W.made+1,d)])))=H5 at kX ⊢
  clear p9 ck iD
  walk_at "ge"
  refine K1.use ?_
  walk_at "ge"
  have e5:N3++(N++M2)=(N3++(N++[(d,HO.tup (qp s))]))++M:=by rw [<-Kq];simp
  have e6:N3++(N++Z2)=(N3++(N++[(d,HO.tup (qp s))]))++Z:=by rw [<-Ff];simp
  have NV:LR (W.add { x with p:=p,pl:=[(u,s)] }) (ds++[(W.made+1,d)]) (N3++(N++M2)):=(lr.mono λ y hy=>mA (mA (NU _ hy))).add rfl (mA (mA Ht))
  rw [e5] at g3 NV
  rw [e6] at kX
  exact k (W.add { x with p:=p,pl:=[(u,s)] }) _ _ H5 rfl rfl rfl (Int.le_refl _) (by show (W.es++[_]).length<=_;rw [List.length_append];exact Nat.le_refl _) g3 NV (Led.perm kX aS)
theorem LR.bs {W:WR} {ds:Ds} {M:Cells} (h:LR W ds M) (bs:List (Addr×Addr×Addr)):LR { W with bs:=bs } ds M:=⟨h.ks,h.pl⟩
def ur (cW cB cQ cT cF cD cS cI cL:Addr):Sp:=λ vs H Q _ => ∃ (W:WR) (rw pd:Addr) (ds:Ds) (c k:Int) (Z M:Cells),vs = [.ref W.b,.ref rw,.int c,.int k]/\Led H (aU cW cB cQ W++(dF rw pd W.made ds++Z))/\(∀ c∈M,c∈Z)/\fh cT cF cD cS cI cL W M/\LR W ds M/\W.es.length<=900/\W.made<=900/\0<=k/\k<=1000 ∧ ∀ (W':WR) (ds':Ds) (N:Cells) (H':Hp),W'.b=W.b->W'.m=W.m->W'.q=W.q->W'.made<=W.made+1->W'.es.length<=W.es.length+1->fh cT cF cD cS cI cL W' (N++M)->LR W' ds' (N++M)->Led H' (aU cW cB cQ W'++(dF rw pd W'.made ds'++(N++Z)))->Q (.bl true) H'
theorem C5 (D:Def K mg "_law_deed" pS) (B:e9 mg) (T:(Txt K mg cN c2 cP cA cG c3 cC c4 cU c6 cT cF cD cS cI cL cB cQ cW)) (bV:(aM P w K mg base) 1 "_law_mix" ["_law_cell","_law_k","_law_turn"] wu) (dB:(aM P w K mg base) 6 "_law_made" ["_law_world","_law_row","_law_mixed"] (mE cW cB cQ cT cF cD cS cI cL)) (cz:(aM P w K mg base) 4 "fork_space" ["world","space"] (tX cW cB cQ cT cF cD cS cI cL c2)) (dm:(aM P w K mg base) 4 "end_space" ["world","space"] (xX cW cB cQ cT cF cD cS cI cL c2)) (aK:(aM P w K mg base) 1 "_law_whole" ["_law_num"] jq) (jt:(aM P w K mg base) 1 "_law_dead" ["_law_cell","_law_made_here","_law_living"] zv) (bE:(aM P w K mg base) 7 "_law_refused" ["_law_world","_law_way","_law_space"] (uo cW cB cQ cT cF cD cS cI cL)):(aM P w K mg base) 8 "_law_deed" ["_law_world","_law_row","_law_cell","_law_k"] (ur cW cB cQ cT cF cD cS cI cL):=by
 have sc:=rT
 refine D.ok rT (λ vs H Q E h => ?_) (by walk_at "us") (λ f cdv A outer s H vs Q E hr h => ?_)
 ·walk_at "ln"
 ·obtain ⟨W,rw,pd,ds,c,k,Z,M,rfl,hL,hM,g,lr,GS,hmd,k0,k9,Jv⟩:=h
  have hu:=gw hr
  have hsz:=sizeLine_eq
  have ck:=hL.get (mA mS)
  have iD:=hL.get (mA (mC mS))
  have AK:(ds.map (·.1)).Pairwise (· < ·):=by rw [lr.ks];exact g.up
  have hdl:ds.length=W.es.length:=by have:=congrArg List.length lr.ks;rw [List.length_map,List.length_map] at this;exact this
  refine ⟨_,(@ah _ _ _ _ _ (@aB _ _ 4 _ _ _ _ sc.nd rfl (by walk_at "o2") (@aD _ _ _ _ _ _ _ _ _ (kK rfl) (by rfl) B.sorted jB (@aa _ _ _ _ _ (@bU _ _ _ _ _ _ hu (@aq _ 1 _ _ (by walk_at "v")) (@bz _ _ _ _) (λ _ _=>rfl)) (@af _) (by rfl)) (by decide) (by decide) (by rfl) (by rfl)) (by rfl) (by walk_at "o4")) (@ah _ _ _ _ _ (@aB _ _ 5 _ _ _ _ sc.nd rfl (by walk_at "o2") (@av _ _ _ _ _ _ _ _ bM (@ak _ _ _ _ _ _ _ _ _ _ _ bV (hr.mono (by omega)) (by rfl) au (@aa _ _ _ _ _ (@aq _ 2 _ _ (by walk_at "v")) (@aa _ _ _ _ _ (@aq _ 3 _ _ (by walk_at "v")) (@aa _ _ _ _ _ (@ao _ _ _ _) (@af _) (by rfl)) (by rfl)) (by rfl)) (by decide) (by rfl) (by rfl)) (@ao _ _ _ _)) (by rfl) (by walk_at "o4")) (@ah _ _ _ _ _ (@aZ _ _ _ _ _ _ _ _ (@PW.pt _ _ _ (@pw_or _ _ _ _ _ _ _ (@aG _ _ _ _ _ _ _ _ oM (@aq _ 5 _ _ (by walk_at "v")) (@ao _ _ _ _) (aR _)) (@pw_or1 _ _ _ _ (@b3 _ _ _ _ (@gj _ _ _ (@aq _ 4 _ _ (by walk_at "v")) (λ _=>rfl)))))) (@aj _ _ _ (@ay _ _ _ _ (@ak _ _ _ _ _ _ _ _ _ _ _ dB (hr.mono (by omega)) (by rfl) au (@aa _ _ _ _ _ (@aq _ 0 _ _ (by walk_at "v")) (@aa _ _ _ _ _ (@aq _ 1 _ _ (by walk_at "v")) (@aa _ _ _ _ _ (@ak _ _ _ _ _ _ _ _ _ _ _ bV (hr.mono (by omega)) (by rfl) au (@aa _ _ _ _ _ (@aq _ 2 _ _ (by walk_at "v")) (@aa _ _ _ _ _ (@aq _ 3 _ _ (by walk_at "v")) (@aa _ _ _ _ _ (@ao _ _ _ _) (@af _) (by rfl)) (by rfl)) (by rfl)) (by decide) (by rfl) (by rfl)) (@af _) (by rfl)) (by rfl)) (by rfl)) (by decide) (by rfl) (by rfl)))) (@aO _)) (@ah _ _ _ _ _ (@aB _ _ 6 _ _ _ _ sc.nd rfl (by walk_at "o2") (@aJ _ _ _ _ _ _ _ aE (@aq _ 4 _ _ (by walk_at "v")) (@av _ _ _ _ _ _ _ _ bM (@ak _ _ _ _ _ _ _ _ _ _ _ bV (hr.mono (by omega)) (by rfl) au (@aa _ _ _ _ _ (@aq _ 2 _ _ (by walk_at "v")) (@aa _ _ _ _ _ (@aq _ 3 _ _ (by walk_at "v")) (@aa _ _ _ _ _ (@ao _ _ _ _) (@af _) (by rfl)) (by rfl)) (by rfl)) (by decide) (by rfl) (by rfl)) (@aD _ _ _ _ _ _ _ _ _ bh (by rfl) B.len cH (@aa _ _ _ _ _ (@aq _ 4 _ _ (by walk_at "v")) (@af _) (by rfl)) (by decide) (by decide) (by rfl) (by rfl))) (λ _ _=>rfl)) (by rfl) (by walk_at "o4")) (@ah _ _ _ _ _ (@aZ _ _ _ _ _ _ _ _ (@aG _ _ _ _ _ _ _ _ oM (@aq _ 5 _ _ (by walk_at "v")) (@ao _ _ _ _) (aR _)) (@ah _ _ _ _ _ (@aB _ _ 7 _ _ _ _ sc.nd rfl (by walk_at "o2") (@ak _ _ _ _ _ _ _ _ _ _ _ cz (hr.mono (by omega)) (by rfl) au (@aa _ _ _ _ _ (@aq _ 0 _ _ (by walk_at "v")) (@aa _ _ _ _ _ (@aq _ 6 _ _ (by walk_at "v")) (@af _) (by rfl)) (by rfl)) (by decide) (by rfl) (by rfl)) (by rfl) (by walk_at "o4")) (@ah _ _ _ _ _ (@aZ _ _ _ _ _ _ _ _ (@PW.pt _ _ _ (@pw_or _ _ _ _ _ _ _ (@b3 _ _ _ _ (@b9 _ _ _ (@ak _ _ _ _ _ _ _ _ _ _ _ aK (hr.mono (by omega)) (by rfl) au (@aa _ _ _ _ _ (@aq _ 7 _ _ (by walk_at "v")) (@af _) (by rfl)) (by decide) (by rfl) (by rfl)) (by intro _;rfl))) (@pw_or1 _ _ _ _ (@aG _ _ _ _ _ _ _ _ qW (@aq _ 7 _ _ (by walk_at "v")) (@av _ _ _ _ _ _ _ _ bg (@bU _ _ _ _ _ _ hu (@aq _ 1 _ _ (by walk_at "v")) (@bz _ _ _ _) (λ _ _=>rfl)) (@ao _ _ _ _)) (aR _))))) (@aj _ _ _ (@ay _ _ _ _ (@cY _ _ _ _))) (@aO _)) (@ah _ _ _ _ _ (@lA _ _ _ _ _ _ _ _ _ hu (@aq _ 1 _ _ (by walk_at "v")) (@bz _ _ _ _) (@aq _ 7 _ _ (by walk_at "v")) rfl) (@aj _ _ _ (@lA _ _ _ _ _ _ _ _ _ hu (@bU _ _ _ _ _ _ hu (@aq _ 1 _ _ (by walk_at "v")) (@bz _ _ _ _) (λ _ _=>rfl)) (@aq _ 7 _ _ (by walk_at "v")) (@bU _ _ _ _ _ _ hu (@bU _ _ _ _ _ _ hu (@aq _ 1 _ _ (by walk_at "v")) (@bz _ _ _ _) (λ _ _=>rfl)) (@aq _ 6 _ _ (by walk_at "v")) (λ _ _=>rfl)) rfl))))) (@aj _ _ _ (@aZ _ _ _ _ _ _ _ _ (@aG _ _ _ _ _ _ _ _ oM (@aq _ 5 _ _ (by walk_at "v")) (@ao _ _ _ _) (aR _)) (@ah _ _ _ _ _ (@az _ _ _ _ (@ak _ _ _ _ _ _ _ _ _ _ _ dm (hr.mono (by omega)) (by rfl) au (@aa _ _ _ _ _ (@aq _ 0 _ _ (by walk_at "v")) (@aa _ _ _ _ _ (@aq _ 6 _ _ (by walk_at "v")) (@af _) (by rfl)) (by rfl)) (by decide) (by rfl) (by rfl)) (by rfl)) (@aj _ _ _ (@az _ _ _ _ (@uV _ _ _ _ _ _ _ (@bU _ _ _ _ _ _ hu (@aq _ 1 _ _ (by walk_at "v")) (@bz _ _ _ _) (λ _ _=>rfl)) (@aq _ 6 _ _ (by walk_at "v")) ⟨rfl,rfl,rfl,rfl⟩) (by rfl)))) (@ah _ _ _ _ _ (@aB _ _ 8 _ _ _ _ sc.nd rfl (by walk_at "o2") (@ak _ _ _ _ _ _ _ _ _ _ _ jt (hr.mono (by omega)) (by rfl) au (@aa _ _ _ _ _ (@aq _ 2 _ _ (by walk_at "v")) (@aa _ _ _ _ _ (@bU _ _ _ _ _ _ hu (@aq _ 1 _ _ (by walk_at "v")) (@bz _ _ _ _) (λ _ _=>rfl)) (@aa _ _ _ _ _ (@aq _ 4 _ _ (by walk_at "v")) (@af _) (by rfl)) (by rfl)) (by rfl)) (by decide) (by rfl) (by rfl)) (by rfl) (by walk_at "o4")) (@aj _ _ _ (@ay _ _ _ _ (@ak _ _ _ _ _ _ _ _ _ _ _ bE (hr.mono (by omega)) (by rfl) au (@aa _ _ _ _ _ (@aq _ 0 _ _ (by walk_at "v")) (@aa _ _ _ _ _ (@av _ _ _ _ _ _ _ _ bM (@ak _ _ _ _ _ _ _ _ _ _ _ bV (hr.mono (by omega)) (by rfl) au (@aa _ _ _ _ _ (@aq _ 2 _ _ (by walk_at "v")) (@aa _ _ _ _ _ (@aq _ 3 _ _ (by walk_at "v")) (@aa _ _ _ _ _ (@ao _ _ _ _) (@af _) (by rfl)) (by rfl)) (by rfl)) (by decide) (by rfl) (by rfl)) (@ao _ _ _ _)) (@aa _ _ _ _ _ (@aq _ 8 _ _ (by walk_at "v")) (@af _) (by rfl)) (by rfl)) (by rfl)) (by decide) (by rfl) (by rfl)))))))) (@aj _ _ _ (@ay _ _ _ _ (@cY _ _ _ _)))))))),?_⟩
  refine aA λ M1 K1 => ?_
  walk_at "ge"
  refine ig ck (rw_plans _ _) ?_
  walk_at "ge"
  refine xB hL iD (wA _) (AK.imp λ h=>Int.le_of_lt h) (by rw [List.length_map];omega) λ l H1 Dd => ?_
  clear ck iD
  rw [lr.ks] at Dd
  obtain ⟨ks,C6⟩ : ∃ ks,W.es.map (·.1)=ks:=⟨_,rfl⟩
  have PJ:ks.length=W.es.length:=by rw [<-C6,List.length_map]
  obtain ⟨Z2,Ff⟩ : ∃ Z2:Cells,[(l,HO.lst (ks.map V.int))]++Z=Z2:=⟨_,rfl⟩
  have hl1:Led H1 (aU cW cB cQ W++(dF rw pd W.made ds++Z2)):=by
   rw [<-Ff,<-C6]
   exact Led.perm (Led.perm (L:=[_]++(aU cW cB cQ W++(dF rw pd W.made ds++Z))) Dd aS) wB
  clear Dd hL
  have Fe : ∀ c∈M,c∈Z2:=λ x hx=>by rw [<-Ff];exact mA (hM x hx)
  have Mx:(l,HO.lst (ks.map V.int))∈Z2:=by rw [<-Ff];exact mB mS
  have fin : ∀ (W':WR) (ds':Ds) (N:Cells) (H':Hp),W'.b=W.b->W'.m=W.m->W'.q=W.q->W'.made<=W.made+1->W'.es.length<=W.es.length+1->fh cT cF cD cS cI cL W' (N++M)->LR W' ds' (N++M)->Led H' (aU cW cB cQ W'++(dF rw pd W'.made ds'++(N++Z2)))->Q (.bl true) H':=λ W' ds' N H' e1 e2 e3 e4 e5 g' PK hl=>by
   have e6:N++Z2=(N++[(l,HO.lst (ks.map V.int))])++Z:=by rw [<-Ff,List.append_assoc]
   rw [e6] at hl
   have um : ∀ c∈N++M,c∈(N++[(l,HO.lst (ks.map V.int))])++M:=λ x hx=>by
    rcases List.mem_append.mp hx with h | h
    ·exact mB (mB h)
    ·exact mA h
   exact Jv W' ds' _ H' e1 e2 e3 e4 e5 (g'.mono um) (PK.mono um) hl
  clear Jv
  walk_at "ge"
  refine K1.use ?_
  walk_at "cl"
  clear K1
  have Kr : ∀ {t:Int} {Hx:Hp} {R:VK} {Ex:XK},0<=t->t<=5->Led Hx (aU cW cB cQ W++(dF rw pd W.made ds++Z2))->(∀ (d:Int) (H':Hp),0<=d->Led H' (aU cW cB cQ W++(dF rw pd W.made ds++Z2))->R (.int d) H')->wu [.int c,.int k,.int t] Hx R Ex:=λ t0 t5 hx hk=>⟨_,_,_,_,rfl,k0,k9,t0,t5,hx,λ d H' d0 _ hl=>hk d H' d0 hl⟩
  refine aA λ M1 K1 => ?_
  walk_at "ge"
  refine Kr (by decide) (by decide) hl1 λ d1 H2 Qp hl2 => ?_
  walk_at "ge"
  refine K1.use ?_
  walk_at "cl"
  clear K1 hl1
  obtain ⟨wy,NW⟩ : ∃ wy,d1 % 8=wy:=⟨_,rfl⟩
  rw [NW]
  have Qq:0<=wy/\wy<=7:=by omega
  clear NW
  have Made : ∀ {Hx:Hp} {R:VK} {Ex:XK} {d:Int},0<=d->(∀ H',Q (.bl true) H'->R (.bl true) H')->Led Hx (aU cW cB cQ W++(dF rw pd W.made ds++Z2))->mE cW cB cQ cT cF cD cS cI cL [.ref W.b,.ref rw,.int d] Hx R Ex:=λ d0 hR hx=>⟨W,rw,pd,ds,_,Z2,M,rfl,hx,Fe,g,lr,GS,d0,λ W' ds' N H' e1 e2 e3 e4 e5 e6 e7 e8=>hR _ (fin W' ds' N H' e1 e2 e3 e4 e5 e6 e7 e8)⟩
  have qf:=hl2.get (dJ (mA Mx))
  refine aA λ M1 K1 => ?_
  walk_at "ge"
  ·refine Kr (by decide) (by decide) hl2 λ d2 H3 Ks hl3 => ?_
   walk_at "ge"
   refine Made Ks (λ H4 hq => ?_) hl3
   walk_at "ge"
   exact hq
  refine AG qf ?_
  by_cases h0:ks = []
  ·rw [h0]
   rw [show (!(([]:List Int).map V.int).isEmpty)=false from rfl]
   walk_at "ge"
   refine Kr (by decide) (by decide) hl2 λ d2 H3 Ks hl3 => ?_
   walk_at "ge"
   refine Made Ks (λ H4 hq => ?_) hl3
   walk_at "ge"
   exact hq
  have hkp:0 < ks.length:=List.length_pos_iff.mpr h0
  rw [show (!(ks.map V.int).isEmpty)=true by cases ks with | nil=>exact absurd rfl h0 | cons x xs=>rfl]
  walk_at "ge"
  refine K1.use ?_
  walk_at "cl"
  clear K1 qf Made
  refine aA λ M1 K1 => ?_
  walk_at "ge"
  refine Kr (by decide) (by decide) hl2 λ d2 H3 Ks hl3 => ?_
  clear hl2
  have qf:=hl3.get (dJ (mA Mx))
  have hpos:(0:Int) < ((ks.map V.int).length:Int):=by rw [List.length_map];omega
  have q0:=Int.emod_nonneg d2 (Int.ne_of_gt hpos)
  have q1:=Int.emod_lt_of_pos d2 hpos
  obtain ⟨n,Mz,hn⟩ : ∃ n:Int,iB (ks.map V.int) (d2 % ((ks.map V.int).length:Int))=some (.int n)/\n∈W.es.map (·.1):=by
   have hj:(d2 % ((ks.map V.int).length:Int)).toNat < ks.length:=by rw [List.length_map] at q0 q1 ⊢;omega
   exact ⟨ks[(d2 % ((ks.map V.int).length:Int)).toNat],sR q0 (by rw [List.getElem?_map,List.getElem?_eq_getElem hj];rfl),by rw [C6];exact List.getElem_mem hj⟩
  walk_at "ge"
  refine K1.use ?_
  walk_at "cl"
  clear K1 qf Mz q0 q1 hpos
  have NX : ∀ c∈M,c∈dF rw pd W.made ds++Z2:=λ x hx=>mA (Fe x hx)
  refine aA λ M1 K1 => ?_
  have tail : ∀ {H':Hp} {σ : L2.St},Q (.bl true) H'->M1 σ H':=λ hq=>by
   refine K1.use ?_
   walk_at "ge"
   exact hq
  clear K1
  walk_at "ge"
  ·refine ⟨W,n,_,M,rfl,hl3,NX,g,by omega,λ e he e1 r bs N H4 PL g2 bF => ?_,λ hno=>absurd hn hno⟩
   subst e1
   obtain ⟨u,s,d,hp,hd,Ku⟩:=lr.pl e he
   have dY:Led H4 (aU cW cB cQ (WR.add { W with bs:=bs } r)++(dF rw pd W.made ds++(N++Z2))):=Led.perm bF wB
   clear hl3 bF
   walk_at "ge"
   refine ⟨_,rfl,?_⟩
   have ck:=dY.get (mA mS)
   walk_at "ge"
   refine ig ck (rw_made _ _) ?_
   walk_at "ge"
   all_goals first | (exfalso;exact absurd rfl (by assumption)) | skip
   refine E8 ck (by show 2 < sizeLine;omega) ?_
   rw [rw_put]
   have fH:Led (upd H4 rw (.dK (zB (W.made+1) pd))) (dF rw pd (W.made+1) ds++(aU cW cB cQ (WR.add { W with bs:=bs } r)++(N++Z2))):=(Led.perm dY aS.symm).lQ 0 rfl rfl rfl
   generalize upd H4 rw (.dK (zB (W.made+1) pd))=H5 at fH ⊢
   clear dY ck
   have ck:=fH.get mS
   have iD:=fH.get (mC mS)
   walk_at "ge"
   refine ig ck (rw_plans _ _) ?_
   walk_at "ge"
   refine E6 iD (ye AK hd) ?_
   walk_at "ge"
   refine ig ck (rw_plans _ _) ?_
   walk_at "ge"
   have hnew:W.made+1 ∉ ds.map (·.1):=by rw [lr.ks];exact mD g
   refine ⟨pd,_,rfl,lu.k (k := .inl (W.made+1)) iD (by unfold qj;rw [List.length_map];omega),?_⟩
   dsimp only
   rw [zA d hnew]
   have kX:Led (upd H5 pd (.dK (qj (ds++[(W.made+1,d)])))) (dF rw pd (W.made+1) (ds++[(W.made+1,d)])++(aU cW cB cQ (WR.add { W with bs:=bs } r)++(N++Z2))):=fH.lQ 1 rfl rfl rfl
   generalize upd H5 pd (.dK (qj (ds++[(W.made+1,d)])))=H6 at kX ⊢
   clear fH ck iD
   walk_at "ge"
   refine tail (fin (WR.add { W with bs:=bs } r) _ N H6 rfl rfl rfl (Int.le_refl _) (by show (W.es++[_]).length<=_;rw [List.length_append];exact Nat.le_refl _) g2 ?_ (Led.perm kX aS))
   exact ((lr.bs bs).mono λ y hy=>mA hy).add (PL.trans hp) (mA Ku)
  ·refine ⟨W,n,_,M,rfl,hl3,NX,g,λ _ bs N H4 g2 bF => ?_,λ hno=>absurd hn hno⟩
   have dY:Led H4 (aU cW cB cQ (WR.drop { W with bs:=bs } n)++(dF rw pd W.made ds++(N++Z2))):=Led.perm bF wB
   clear hl3 bF
   walk_at "ge"
   have ck:=dY.get (mA mS)
   have iD:=dY.get (mA (mC mS))
   refine BN λ R5 Pw => ?_
   walk_at "ge"
   refine ig ck (rw_plans _ _) ?_
   walk_at "ge"
   obtain ⟨e,he,rfl⟩:=List.mem_map.mp hn
   obtain ⟨u,s,d,hp,hd,Ku⟩:=lr.pl e he
   refine E7 iD (ye AK hd) ?_
   dsimp only
   rw [C1]
   have kX:Led (upd H4 pd (.dK (qj (ds.filter λ x=>decide (x.1≠e.1))))) (dF rw pd W.made (ds.filter λ x=>decide (x.1≠e.1))++(aU cW cB cQ (WR.drop { W with bs:=bs } e.1)++(N++Z2))):=(Led.perm dY aS.symm).lQ 1 rfl rfl rfl
   generalize upd H4 pd (.dK (qj (ds.filter λ x=>decide (x.1≠e.1))))=H6 at kX ⊢
   clear dY ck iD
   walk_at "ge"
   refine tail (fin (WR.drop { W with bs:=bs } e.1) _ N H6 rfl rfl rfl (by show W.made<=W.made+1;omega) (Nat.le_succ_of_le (List.length_filter_le _ _)) g2 ?_ (Led.perm kX aS))
   exact ((lr.bs bs).mono λ y hy=>mA hy).drop
  ·have ck:=hl3.get (mA mS)
   walk_at "ge"
   refine ig ck (rw_made _ _) ?_
   clear ck
   walk_at "ge"
   refine ⟨c,W.made,l,ks,_,rfl,hl3,dJ (mA Mx),λ x hx => ?_,g.m0,by omega,λ dd N H4 PM bF => ?_⟩
   ·rw [<-C6] at hx
    obtain ⟨e,he,rfl⟩:=List.mem_map.mp hx
    exact g.le e he
   have dY:Led H4 (aU cW cB cQ W++(dF rw pd W.made ds++(N++Z2))):=Led.perm (Led.perm bF aS) wB
   clear hl3 bF
   walk_at "ge"
   refine ⟨_,_,_,_,rfl,k0,k9,by decide,by decide,dY,λ d3 H5 Qs _ fH => ?_⟩
   clear dY
   walk_at "ge"
   refine ⟨W,d3 % 9,dd,_,M,rfl,fH,λ x hx=>mA (mA (Fe x hx)),g,by omega,by rw [C6];exact PM,by omega,by omega,λ N2 H6 iC => ?_⟩
   walk_at "ge"
   refine fin W ds (N2++N) H6 rfl rfl rfl (by omega) (Nat.le_succ _) (g.mono λ y hy=>mA hy) (lr.mono λ y hy=>mA hy) ?_
   rw [List.append_assoc]
   exact Led.perm iC wB
def d7 (M:Cells) (ps:List V):Prop := ∀ v∈ps,∃ (t l1 l2:Addr) (d:PySem.W.Dat),v = .ref t/\(t,HO.tup [.ref l1,.ref l2])∈M/\PySem.W.kqdOk 8 d=true ∧ ∀ H L,Led H L->(∀ c∈M,c∈L)->b7 H (.ref l1) (PySem.W.kqdP d)/\b7 H (.ref l2) (PySem.W.kqdP d)
theorem d7.mono {M M':Cells} {ps:List V} (h:d7 M ps) (up : ∀ c∈M,c∈M'):d7 M' ps:=λ v hv=>by
 obtain ⟨t,l1,l2,d,h1,h2,h3,h4⟩:=h v hv
 exact ⟨t,l1,l2,d,h1,up _ h2,h3,λ H L hL hc=>h4 H L hL λ c hc2=>hc c (up c hc2)⟩
theorem uu {H:Hp} {a:Addr} {ks:List Int} (h:H a=some (.lst (ks.map V.int))):b7 H (.ref a) (PySem.W.kqdP (.list (ks.map PySem.W.Dat.int))):=by
 rw [PySem.W.kqdP]
 refine .lst h ?_
 clear h
 induction ks with
 | nil=>exact .nil
 | cons x ks ih =>
   rw [List.map_cons,List.map_cons,PySem.W.kqdPs,PySem.W.kqdP]
   exact .cons (.int _) ih
theorem uv (ks:List Int) (k:Nat):PySem.W.kqdOk (k+1) (.list (ks.map PySem.W.Dat.int))=true:=by
 rw [PySem.W.kqdOk,List.all_eq_true]
 intro x hx
 obtain ⟨n,_,rfl⟩:=List.mem_map.mp hx
 cases k <;> rfl
theorem C7 {H:Hp} {a u:Addr} {s:Sr} (h:H a=some (.lst [.ref u])) (hu:H u=some (.tup (qp s))):b7 H (.ref a) (PySem.W.kqdP (.list [wz s])):=by
 rw [PySem.W.kqdP,PySem.W.kqdPs,PySem.W.kqdPs]
 exact .lst h (.cons (yd hu) .nil)
theorem ED (s:Sr):PySem.W.kqdOk 8 (.list [wz s])=true:=by
 rw [PySem.W.kqdOk,List.all_cons,uq s 6]
 rfl
theorem d7.add {M:Cells} {ps:List V} {t l1 l2:Addr} {d:PySem.W.Dat} (h:d7 M ps) (ht:(t,HO.tup [.ref l1,.ref l2])∈M) (hd:PySem.W.kqdOk 8 d=true) (hV : ∀ H L,Led H L->(∀ c∈M,c∈L)->b7 H (.ref l1) (PySem.W.kqdP d)/\b7 H (.ref l2) (PySem.W.kqdP d)):d7 M (ps++[.ref t]):=λ v hv=>by
 rcases List.mem_append.mp hv with w | w
 ·exact h v w
 ·rw [List.mem_singleton.mp w]
  exact ⟨t,l1,l2,d,rfl,ht,hd,hV⟩
theorem inN {A R S N Z:Cells} : (N++(A++(R++(S++Z)))).Perm (A++(R++(S++(N++Z)))):=aS.trans (List.Perm.append_left _ (aS.trans (List.Perm.append_left _ aS)))
theorem toS {A R S Z:Cells} : (A++(R++(S++Z))).Perm (S++(A++(R++Z))):=((List.Perm.append_left A aS).trans aS).symm.symm
def qk (cW cB cQ cT cF cD cS cI cL:Addr):Sp:=λ vs H Q _ => ∃ (W:WR) (rw pd hd:Addr) (ps:List V) (ds:Ds) (k:Int) (Z M:Cells),vs = [.ref W.b,.ref rw,.ref hd,.int k]/\Led H (aU cW cB cQ W++(dF rw pd W.made ds++([(hd,HO.lst ps)]++Z)))/\(∀ c∈M,c∈Z)/\fh cT cF cD cS cI cL W M/\LR W ds M/\d7 M ps/\W.es.length<=900/\ps.length<=900/\0<=k/\k<=1000 ∧ ∀ (ps':List V) (N:Cells) (H':Hp),ps'.length<=ps.length+3->d7 (N++M) ps'->Led H' (aU cW cB cQ W++(dF rw pd W.made ds++([(hd,HO.lst ps')]++(N++Z))))->Q (.bl true) H'
theorem AL (D:Def K mg "_law_as_told" jm) (B:e9 mg) (T:(Txt K mg cN c2 cP cA cG c3 cC c4 cU c6 cT cF cD cS cI cL cB cQ cW)) (gf:(aM P w K mg base) 1 "told_spaces" ["world"] (zl cW cB cQ)) (fF:(aM P w K mg base) 2 "_law_numbers" ["_law_found","_law_due"] zu) (dw:(aM P w K mg base) 2 "told_plan" ["world","space"] (tZ cW cB cQ c2)) (ju:(aM P w K mg base) 2 "_law_plan" ["_law_found","_law_due"] zy) (dz:(aM P w K mg base) 3 "told_ways" ["world","space"] (t8 cW cB cQ cL c2)):(aM P w K mg base) 4 "_law_as_told" ["_law_world","_law_row","_law_held","_law_k"] (qk cW cB cQ cT cF cD cS cI cL):=by
 have sc:=mz
 refine D.ok mz (λ vs H Q E h => ?_) (by walk_at "us") (λ f cdv A outer s H vs Q E hr h => ?_)
 ·walk_at "ln"
 ·obtain ⟨W,rw,pd,hd,ps,ds,k,Z,M,rfl,hL,hM,g,lr,ho,GS,PN,k0,k9,fin⟩:=h
  have hu:=gw hr
  have hsz:=sizeLine_eq
  have ck:=hL.get (mA mS)
  have iD:=hL.get (mA (mC mS))
  have AK:(ds.map (·.1)).Pairwise (· < ·):=by rw [lr.ks];exact g.up
  have hdl:ds.length=W.es.length:=by have:=congrArg List.length lr.ks;rw [List.length_map,List.length_map] at this;exact this
  refine ⟨_,(@ah _ _ _ _ _ (@aB _ _ 4 _ _ _ _ sc.nd rfl (by walk_at "o2") (@aD _ _ _ _ _ _ _ _ _ (kK rfl) (by rfl) B.sorted jB (@aa _ _ _ _ _ (@bU _ _ _ _ _ _ hu (@aq _ 1 _ _ (by walk_at "v")) (@bz _ _ _ _) (λ _ _=>rfl)) (@af _) (by rfl)) (by decide) (by decide) (by rfl) (by rfl)) (by rfl) (by walk_at "o4")) (@ah _ _ _ _ _ (@aB _ _ 5 _ _ _ _ sc.nd rfl (by walk_at "o2") (@ak _ _ _ _ _ _ _ _ _ _ _ gf (hr.mono (by omega)) (by rfl) au (@aa _ _ _ _ _ (@aq _ 0 _ _ (by walk_at "v")) (@af _) (by rfl)) (by decide) (by rfl) (by rfl)) (by rfl) (by walk_at "o4")) (@ah _ _ _ _ _ (@aZ _ _ _ _ _ _ _ _ (@b3 _ _ _ _ (@b9 _ _ _ (@ak _ _ _ _ _ _ _ _ _ _ _ fF (hr.mono (by omega)) (by rfl) au (@aa _ _ _ _ _ (@aq _ 5 _ _ (by walk_at "v")) (@aa _ _ _ _ _ (@aq _ 4 _ _ (by walk_at "v")) (@af _) (by rfl)) (by rfl)) (by decide) (by rfl) (by rfl)) (by intro _;rfl))) (@aj _ _ _ (@ay _ _ _ _ (@cY _ _ _ _))) (@aO _)) (@ah _ _ _ _ _ (@az _ _ _ _ (@jP _ _ _ _ _ _ _ _ _ _ _ _ PySem.F.plainAttrs_list PySem.F.slot_list_append PySem.F.type_list_append bY (@aq _ 2 _ _ (by walk_at "v")) (@aa _ _ _ _ _ (@fj _ _ _ _ _ (@aa _ _ _ _ _ (@aq _ 5 _ _ (by walk_at "v")) (@aa _ _ _ _ _ (@dU _ _ _ _ _ _ _ _ _ (bJ (K:=K) rfl) (by rfl) B.list d9 (@aa _ _ _ _ _ (@aq _ 5 _ _ (by walk_at "v")) (@af _) (by rfl)) (by decide) (by decide) (by rfl) (by rfl)) (@af _) (by rfl)) (by rfl))) (@af _) (by rfl)) (by rfl) (by rfl) (by rfl) (by rfl) (by rfl)) (by rfl)) (@ah _ _ _ _ _ (@aZ _ _ _ _ _ _ _ _ (@b3 _ _ _ _ (@gj _ _ _ (@aq _ 4 _ _ (by walk_at "v")) (λ _=>rfl))) (@aj _ _ _ (@ay _ _ _ _ (@cY _ _ _ _))) (@aO _)) (@ah _ _ _ _ _ (@bT _ _ _ _ _ _ _ _ PassesOwn.never rfl (@bB _ _ _ _ (@bC _ _ _ _ (@aa _ _ _ _ _ (@aJ _ _ _ _ _ _ _ aE (@aq _ 4 _ _ (by walk_at "v")) (@av _ _ _ _ _ _ _ _ bM (@aq _ 3 _ _ (by walk_at "v")) (@aD _ _ _ _ _ _ _ _ _ bh (by rfl) B.len cH (@aa _ _ _ _ _ (@aq _ 4 _ _ (by walk_at "v")) (@af _) (by rfl)) (by decide) (by decide) (by rfl) (by rfl))) (λ _ _=>rfl)) (@aa _ _ _ _ _ (@aJ _ _ _ _ _ _ _ aE (@aq _ 4 _ _ (by walk_at "v")) (@yi _ _ _ _ _ _ sf (@ao _ _ _ _)) (λ _ _=>rfl)) (@af _) (by rfl)) (by rfl)))) (@aX _ _ 6 _ sc.nd rfl (by walk_at "o2") (by walk_at "o4")) (@ah _ _ _ _ _ (@aB _ _ 5 _ _ _ _ sc.nd rfl (by walk_at "o2") (@ak _ _ _ _ _ _ _ _ _ _ _ dw (hr.mono (by omega)) (by rfl) au (@aa _ _ _ _ _ (@aq _ 0 _ _ (by walk_at "v")) (@aa _ _ _ _ _ (@aq _ 6 _ _ (by walk_at "v")) (@af _) (by rfl)) (by rfl)) (by decide) (by rfl) (by rfl)) (by rfl) (by walk_at "o4")) (@ah _ _ _ _ _ (@aZ _ _ _ _ _ _ _ _ (@b3 _ _ _ _ (@b9 _ _ _ (@ak _ _ _ _ _ _ _ _ _ _ _ ju (hr.mono (by omega)) (by rfl) au (@aa _ _ _ _ _ (@aq _ 5 _ _ (by walk_at "v")) (@aa _ _ _ _ _ (@bU _ _ _ _ _ _ hu (@bU _ _ _ _ _ _ hu (@aq _ 1 _ _ (by walk_at "v")) (@bz _ _ _ _) (λ _ _=>rfl)) (@aq _ 6 _ _ (by walk_at "v")) (λ _ _=>rfl)) (@af _) (by rfl)) (by rfl)) (by decide) (by rfl) (by rfl)) (by intro _;rfl))) (@aj _ _ _ (@ay _ _ _ _ (@cY _ _ _ _))) (@aO _)) (@aj _ _ _ (@az _ _ _ _ (@jP _ _ _ _ _ _ _ _ _ _ _ _ PySem.F.plainAttrs_list PySem.F.slot_list_append PySem.F.type_list_append bY (@aq _ 2 _ _ (by walk_at "v")) (@aa _ _ _ _ _ (@fj _ _ _ _ _ (@aa _ _ _ _ _ (@aq _ 5 _ _ (by walk_at "v")) (@aa _ _ _ _ _ (@dU _ _ _ _ _ _ _ _ _ (bJ (K:=K) rfl) (by rfl) B.list d9 (@aa _ _ _ _ _ (@aq _ 5 _ _ (by walk_at "v")) (@af _) (by rfl)) (by decide) (by decide) (by rfl) (by rfl)) (@af _) (by rfl)) (by rfl))) (@af _) (by rfl)) (by rfl) (by rfl) (by rfl) (by rfl) (by rfl)) (by rfl))))) (by intro _;rfl)) (@aj _ _ _ (@ay _ _ _ _ (@sj _ _ _ _ _ _ _ _ (xw hr.units) (@ak _ _ _ _ _ _ _ _ _ _ _ dz (hr.mono (by omega)) (by rfl) au (@aa _ _ _ _ _ (@aq _ 0 _ _ (by walk_at "v")) (@aa _ _ _ _ _ (@aJ _ _ _ _ _ _ _ aE (@aq _ 4 _ _ (by walk_at "v")) (@av _ _ _ _ _ _ _ _ bM (@av _ _ _ _ _ _ _ _ mJ (@aq _ 3 _ _ (by walk_at "v")) (@ao _ _ _ _)) (@aD _ _ _ _ _ _ _ _ _ bh (by rfl) B.len cH (@aa _ _ _ _ _ (@aq _ 4 _ _ (by walk_at "v")) (@af _) (by rfl)) (by decide) (by decide) (by rfl) (by rfl))) (λ _ _=>rfl)) (@af _) (by rfl)) (by rfl)) (by decide) (by rfl) (by rfl)) (@bC _ _ _ _ (@af _)) (aR _)))))))))),?_⟩
  refine aA λ M1 K1 => ?_
  walk_at "ge"
  refine ig ck (rw_plans _ _) ?_
  walk_at "ge"
  refine xB hL iD (wA _) (AK.imp λ h=>Int.le_of_lt h) (by rw [List.length_map];omega) λ l H1 Dd => ?_
  clear ck iD
  rw [lr.ks] at Dd
  walk_at "ge"
  refine K1.use ?_
  walk_at "cl"
  clear K1 hL
  obtain ⟨ks,C6⟩ : ∃ ks,W.es.map (·.1)=ks:=⟨_,rfl⟩
  have PJ:ks.length=W.es.length:=by rw [<-C6,List.length_map]
  rw [C6] at Dd
  have hl1:Led H1 (aU cW cB cQ W++(dF rw pd W.made ds++([(hd,HO.lst ps)]++([(l,HO.lst (ks.map V.int))]++Z)))):=Led.perm (L:=[_]++(aU cW cB cQ W++_)) Dd inN
  clear Dd
  refine aA λ M1 K1 => ?_
  walk_at "ge"
  refine ⟨W,_,rfl,hl1,g.up,by omega,λ r H2 hl2 => ?_⟩
  clear hl1
  walk_at "ge"
  refine K1.use ?_
  walk_at "cl"
  clear K1
  rw [C6] at hl2
  have hl3:Led H2 (aU cW cB cQ W++(dF rw pd W.made ds++([(hd,HO.lst ps)]++([(r,HO.lst (ks.map V.int))]++([(l,HO.lst (ks.map V.int))]++Z))))):=Led.perm (L:=[_]++(aU cW cB cQ W++_)) hl2 inN
  clear hl2
  have oF : ∀ {X:Cells},(r,HO.lst (ks.map V.int))∈aU cW cB cQ W++(dF rw pd W.made ds++([(hd,HO.lst ps)]++([(r,HO.lst (ks.map V.int))]++X))):=dJ (mA (mC mS))
  refine aA λ M1 K1 => ?_
  walk_at "ge"
  refine ⟨r,l,ks,_,rfl,hl3,oF,dJ (mA (mC (mC mS))),?_⟩
  walk_at "ge"
  refine K1.use ?_
  walk_at "cl"
  clear K1
  have bF:=Led.perm hl3 toS
  clear hl3
  refine aA λ M1 K1 => ?_
  have CP:=bF.get (mC (dJ (mA mS)))
  have wC:H2 hd=some (.lst ps):=bF.get mS
  walk_at "ge"
  refine ⟨Aj wC,?_⟩
  walk_at "ge"
  rename_i lc H5 _ _ _ t H3 _ dY _
  refine Ai (dY.get (mC (mC mS))) (by omega) ?_
  have fH:Led (upd H3 hd (.lst (ps++[.ref t]))) ([(t,HO.tup [.ref r,.ref lc]),(lc,HO.lst (ks.map V.int))]++([(hd,HO.lst (ps++[.ref t]))]++(aU cW cB cQ W++(dF rw pd W.made ds++([(r,HO.lst (ks.map V.int))]++([(l,HO.lst (ks.map V.int))]++Z)))))):=dY.lQ 2 rfl rfl rfl
  generalize upd H3 hd (.lst (ps++[.ref t]))=H4 at fH ⊢
  obtain ⟨N1,Kv⟩ : ∃ N1:Cells,[(t,HO.tup [.ref r,.ref lc]),(lc,HO.lst (ks.map V.int)),(r,HO.lst (ks.map V.int)),(l,HO.lst (ks.map V.int))]=N1:=⟨_,rfl⟩
  have iC:Led H4 (aU cW cB cQ W++(dF rw pd W.made ds++([(hd,HO.lst (ps++[.ref t]))]++(N1++Z)))):=by
   rw [<-Kv]
   exact Led.perm (Led.perm fH (List.Perm.append_left _ toS.symm)) inN
  have MA:d7 (N1++M) (ps++[.ref t]):=by
   rw [<-Kv]
   exact (ho.mono λ y hy=>mA hy).add List.mem_cons_self (uv ks 7) λ Hx Lx Hu hc=>⟨uu (Hu.get (hc _ (mC (mC mS)))),uu (Hu.get (hc _ (mC mS)))⟩
  have GU:(l,HO.lst (ks.map V.int))∈N1:=by rw [<-Kv];exact mC (mC (mC mS))
  clear bF dY fH CP wC Kv
  walk_at "ge"
  refine K1.use ?_
  walk_at "cl"
  clear K1 oF
  have qf:=iC.get (dJ (mA (mA (mB GU))))
  refine aA λ M1 K1 => ?_
  walk_at "ge"
  refine AG qf ?_
  by_cases h0:ks = []
  ·rw [h0]
   rw [show (!(([]:List Int).map V.int).isEmpty)=false from rfl]
   walk_at "ge"
   exact fin _ N1 H4 (by rw [List.length_append];exact Nat.add_le_add_left (show 1<=3 by decide) _) MA iC
  have hkp:0 < ks.length:=List.length_pos_iff.mpr h0
  rw [show (!(ks.map V.int).isEmpty)=true by cases ks with | nil=>exact absurd rfl h0 | cons x xs=>rfl]
  walk_at "ge"
  refine K1.use ?_
  walk_at "cl"
  clear K1
  have hpos:(0:Int) < ((ks.map V.int).length:Int):=by rw [List.length_map];omega
  have pick : ∀ j:Int,∃ n:Int,iB (ks.map V.int) (j % ((ks.map V.int).length:Int))=some (.int n)/\n∈W.es.map (·.1):=λ j=>by
   have q0:=Int.emod_nonneg j (Int.ne_of_gt hpos)
   have q1:=Int.emod_lt_of_pos j hpos
   have hj:(j % ((ks.map V.int).length:Int)).toNat < ks.length:=by rw [List.length_map] at q0 q1 ⊢;omega
   exact ⟨ks[(j % ((ks.map V.int).length:Int)).toNat],sR q0 (by rw [List.getElem?_map,List.getElem?_eq_getElem hj];rfl),by rw [C6];exact List.getElem_mem hj⟩
  obtain ⟨n1,PR,hn1⟩:=pick k
  obtain ⟨n2,PU,hn2⟩ : ∃ n:Int,iB (ks.map V.int) (-1)=some (.int n)/\n∈W.es.map (·.1):=by
   refine ⟨ks.getLast h0,?_,by rw [C6];exact List.getLast_mem h0⟩
   have e:ks.map V.int=ks.dropLast.map V.int++[V.int (ks.getLast h0)]:=by
    have:=congrArg (List.map V.int) (List.dropLast_concat_getLast h0)
    rw [List.map_append] at this
    exact this.symm
   rw [e]
   exact Bl _ _
  refine aA λ M1 K1 => ?_
  refine forL λ Lr gx => ?_
  walk_at "ge"
  refine ⟨by show 2<=sizeLine;omega,λ ll NY => ?_⟩
  have p9:=Led.perm (L:=[_]++(aU cW cB cQ W++_)) (iC.new (o := .lst [.int n1,.int n2]) NY) inN
  generalize upd H4 ll (.lst [.int n1,.int n2])=H6 at p9 ⊢
  clear iC qf NY
  obtain ⟨N2,Dk⟩ : ∃ N2:Cells,[(ll,HO.lst [.int n1,.int n2])]++N1=N2:=⟨_,rfl⟩
  have kX:Led H6 (aU cW cB cQ W++(dF rw pd W.made ds++([(hd,HO.lst (ps++[.ref t]))]++(N2++Z)))):=by rw [<-Dk];exact p9
  have Jw:(l,HO.lst (ks.map V.int))∈N2:=by rw [<-Dk];exact mA GU
  have AM:(ll,HO.lst [.int n1,.int n2])∈N2:=by rw [<-Dk];exact mS
  have ho2:d7 (N2++M) (ps++[.ref t]):=by rw [<-Dk];exact MA.mono λ y hy=>mC hy
  clear p9 Dk MA GU
  have MB : ∀ {N:Cells} {x:Addr×HO} {ps:List V},x∈N->x∈aU cW cB cQ W++(dF rw pd W.made ds++([(hd,HO.lst ps)]++(N++Z))):=λ h=>dJ (mA (mA (mB h)))
  have Jx:=kX.get (MB AM)
  refine ⟨ll,rfl,⟨_,bW.of Jx⟩,gx.use ?_⟩
  clear gx Jx
  refine jQ [.int n1,.int n2] (λ i σ H' => ∃ (ps':List V) (N:Cells) (v5 v6:Option V),σ = [some (.ref W.b),some (.ref rw),some (.ref hd),some (.int k),some (.ref l),v5,v6]/\ps'.length=ps.length+1+i/\d7 (N++M) ps'/\(l,HO.lst (ks.map V.int))∈N/\(ll,HO.lst [.int n1,.int n2])∈N/\Led H' (aU cW cB cQ W++(dF rw pd W.made ds++([(hd,HO.lst ps')]++(N++Z))))) ⟨_,N2,_,_,rfl,by rw [List.length_append];rfl,ho2,Jw,AM,kX⟩ (λ i σ H' _ h => ?_) ?_ ?_
  ·obtain ⟨ps',N,_,_,_,_,_,_,h6,h7⟩:=h
   exact bW.of (h7.get (MB h6))
  ·clear kX ho2 Jw AM
   rintro i v σ H7 hv ⟨ps',N,v5,v6,rfl,hlen,ho',oj,AM,hl⟩
   have hi2:i < 2:=(List.getElem?_eq_some_iff.mp hv).1
   obtain ⟨n,rfl,hn⟩ : ∃ n:Int,v = .int n/\n∈W.es.map (·.1):=by
    have:i=0\/i=1:=by omega
    rcases this with rfl | rfl
    ·cases hv;exact ⟨_,rfl,hn1⟩
    ·cases hv;exact ⟨_,rfl,hn2⟩
   have Ju : ∀ c∈N++M,c∈dF rw pd W.made ds++([(hd,HO.lst ps')]++(N++Z)):=λ x hx=>mA (mA (by
    rcases List.mem_append.mp hx with w | w
    ·exact mB w
    ·exact mA (hM _ w)))
   walk_at "ge"
   refine ⟨W,n,_,N++M,rfl,hl,Ju,g.up,λ e he e1 => ?_,λ hno=>absurd hn hno⟩
   obtain ⟨u,s,d,hp,hd1,Ku⟩:=lr.pl e he
   subst e1
   have NZ:=(g.ok e he).p
   have hes:=(g.ok e he).s (u,s) (by rw [hp];exact mS)
   rw [hp] at NZ
   rw [hp]
   refine ⟨mA NZ,show 1<=1000 by decide,λ r1 H8 hl1 => ?_⟩
   have ck:H8 rw=some (.dK (zB W.made pd)):=hl1.get (mC (dJ mS))
   have iD:H8 pd=some (.dK (qj ds)):=hl1.get (mC (dJ (mC mS)))
   walk_at "ge"
   refine ig ck (rw_plans _ _) ?_
   walk_at "ge"
   refine E6 iD (ye AK hd1) ?_
   walk_at "ge"
   have up1 : ∀ c∈M,c∈(r1,HO.lst [.ref u])::(aU cW cB cQ W++(dF rw pd W.made ds++([(hd,HO.lst ps')]++(N++Z)))):=λ x hx=>mC (dJ (Ju x (mA hx)))
   refine ⟨r1,d,u,s,_,rfl,hl1,mS,up1 _ hes,up1 _ Ku,?_⟩
   walk_at "ge"
   have hl2:Led H8 ([(r1,HO.lst [.ref u])]++([(hd,HO.lst ps')]++(aU cW cB cQ W++(dF rw pd W.made ds++(N++Z))))):=Led.perm (L:=[_]++(aU cW cB cQ W++(dF rw pd W.made ds++([_]++(N++Z))))) hl1 (List.Perm.append_left [_] toS)
   clear hl hl1 ck iD up1
   have CP:H8 r1=some (.lst [.ref u]):=hl2.get mS
   have wC:H8 hd=some (.lst ps'):=hl2.get (mC mS)
   refine ⟨Aj wC,?_⟩
   walk_at "ge"
   rename_i lc H9 _ _ _ t1 Df _ dY _
   refine Ai (dY.get (mC (mC (mC mS)))) (by omega) ?_
   have fH:Led (upd Df hd (.lst (ps'++[.ref t1]))) ([(t1,HO.tup [.ref r1,.ref lc]),(lc,HO.lst [.ref u]),(r1,HO.lst [.ref u])]++([(hd,HO.lst (ps'++[.ref t1]))]++(aU cW cB cQ W++(dF rw pd W.made ds++(N++Z))))):=dY.lQ 3 rfl rfl rfl
   generalize upd Df hd (.lst (ps'++[.ref t1]))=D3 at fH ⊢
   clear hl2 dY CP wC
   have iC:=Led.perm (Led.perm fH (List.Perm.append_left _ toS.symm)) inN
   clear fH
   walk_at "ge"
   refine ⟨ps'++[.ref t1],[(t1,HO.tup [.ref r1,.ref lc]),(lc,HO.lst [.ref u]),(r1,HO.lst [.ref u])]++N,_,_,rfl,by rw [List.length_append,hlen];rfl,?_,mA oj,mA AM,by rw [List.append_assoc];exact iC⟩
   exact (ho'.mono λ y hy=>by rw [List.append_assoc];exact mA hy).add List.mem_cons_self (ED s) λ Hx Lx Hu hc=>by
    have hux:=Hu.get (hc (u,HO.tup (qp s)) (mA hes))
    exact ⟨C7 (Hu.get (hc _ (mC (mC mS)))) hux,C7 (Hu.get (hc _ (mC mS))) hux⟩
  ·rintro σ H7 ⟨ps',N,v5,v6,rfl,hlen,ho',oj,AM,hl⟩
   refine K1.use ?_
   obtain ⟨n3,PV,PX⟩:=pick (k * 5)
   have qf:=hl.get (MB oj)
   walk_at "ge"
   clear qf
   have PY : ∀ c∈N++M,c∈dF rw pd W.made ds++([(hd,HO.lst ps')]++(N++Z)):=λ x hx=>mA (mA (by
    rcases List.mem_append.mp hx with w | w
    ·exact mB w
    ·exact mA (hM _ w)))
   refine ⟨W,n3,_,N++M,rfl,hl,PY,g.up,λ e he e1=>⟨(g.ok e he).mono λ y hy=>mA hy,λ r3 N3 H8 N6 hl3 => ?_⟩,λ hno=>absurd PX hno⟩
   have CP:=hl3.get (mB N6)
   walk_at "ge"
   rename_i l0 H9 _ bF _
   have d1:b7 H9 (.ref r3) (PySem.W.kqdP (.list (([]:List Int).map PySem.W.Dat.int))):=uu (bF.get (mC (mB N6)))
   have d2:b7 H9 (.ref l0) (PySem.W.kqdP (.list (([]:List Int).map PySem.W.Dat.int))):=uu (bF.get mS)
   refine IZ d1 d2 (uv [] 7) (uv [] 7) (b:=true) (iff_of_true rfl rfl) ?_
   walk_at "ge"
   refine fin ps' (([(l0,HO.lst [])]++N3)++N) H9 (by rw [hlen];exact Nat.le_refl _) (ho'.mono λ y hy=>by rw [List.append_assoc];exact mA hy) ?_
   rw [List.append_assoc]
   exact Led.perm (L:=([(l0,HO.lst [])]++N3)++_) bF inN
structure S2 (cW cB cQ cT cF cD cS cI cL:Addr) (b0 b1 ef eX hd:Addr) (m0 q0 m1 q1:Nat) (d0 d1:Int) (i j:Nat) (Z:Cells) (H:Hp):Prop where
 ex : ∃ (W0 W1:WR) (jv jL:Addr) (oq nX:Ds) (ps:List V) (N:Cells),(W0.b=b0/\W0.m=m0/\W0.q=q0/\W0.made=d0/\W0.made<=i/\W0.es.length<=i/\fh cT cF cD cS cI cL W0 (N++Z)/\LR W0 oq (N++Z))/\(W1.b=b1/\W1.m=m1/\W1.q=q1/\W1.made=d1/\W1.made<=i/\W1.es.length<=i/\fh cT cF cD cS cI cL W1 (N++Z)/\LR W1 nX (N++Z))/\ps.length<=3 * j/\d7 (N++Z) ps/\Led H (aU cW cB cQ W0++(dF ef jv W0.made oq++(aU cW cB cQ W1++(dF eX jL W1.made nX++([(hd,HO.lst ps)]++(N++Z))))))
section
variable {b0 b1 ef eX hd:Addr} {m0 q0 m1 q1:Nat} {d0 d1:Int} {i j:Nat} {Z:Cells} {H:Hp} {Q:VK} {E:XK} {c k y:Int}
theorem S2.swap (h:S2 cW cB cQ cT cF cD cS cI cL b0 b1 ef eX hd m0 q0 m1 q1 d0 d1 i j Z H):S2 cW cB cQ cT cF cD cS cI cL b1 b0 eX ef hd m1 q1 m0 q0 d1 d0 i j Z H:=by
 obtain ⟨W0,W1,jv,jL,oq,nX,ps,N,a0,a1,hp,ho,hl⟩:=h.ex
 refine ⟨W1,W0,jL,jv,nX,oq,ps,N,a1,a0,hp,ho,Led.perm hl ?_⟩
 rw [<-List.append_assoc (aU cW cB cQ W0),<-List.append_assoc (aU cW cB cQ W1),<-List.append_assoc (aU cW cB cQ W1),<-List.append_assoc (aU cW cB cQ W0)]
 exact aS
theorem S2.low {i':Nat} (h:S2 cW cB cQ cT cF cD cS cI cL b0 b1 ef eX hd m0 q0 m1 q1 d0 d1 i j Z H) (hi:i<=i'):S2 cW cB cQ cT cF cD cS cI cL b0 b1 ef eX hd m0 q0 m1 q1 d0 d1 i' j Z H:=by
 obtain ⟨W0,W1,jv,jL,oq,nX,ps,N,⟨a1,a2,a3,a4,a5,a6,a7,a8⟩,⟨e1,e2,e3,e4,e5,e6,e7,e8⟩,hp,ho,hl⟩:=h.ex
 exact ⟨W0,W1,jv,jL,oq,nX,ps,N,⟨a1,a2,a3,a4,by omega,by omega,a7,a8⟩,⟨e1,e2,e3,e4,by omega,by omega,e7,e8⟩,hp,ho,hl⟩
theorem S2.rest (h:S2 cW cB cQ cT cF cD cS cI cL b0 b1 ef eX hd m0 q0 m1 q1 d0 d1 i j Z H):Led H Z:=by
 obtain ⟨W0,W1,jv,jL,oq,nX,ps,N,_,_,_,_,hl⟩:=h.ex
 exact Led.right (Led.right (Led.right (Led.right (Led.right (Led.right hl)))))
theorem S2.row (h:S2 cW cB cQ cT cF cD cS cI cL b0 b1 ef eX hd m0 q0 m1 q1 d0 d1 i j Z H) : ∃ pd,H ef=some (.dK (zB d0 pd)):=by
 obtain ⟨W0,W1,jv,jL,oq,nX,ps,N,⟨_,_,_,rfl,_⟩,_,_,_,hl⟩:=h.ex
 exact ⟨jv,hl.get (mA mS)⟩
theorem ou {N M:Cells} : ∀ c∈M,c∈N++M:=λ _ h=>mA h
theorem S2.Jy (h:S2 cW cB cQ cT cF cD cS cI cL b0 b1 ef eX hd m0 q0 m1 q1 d0 d1 i j Z H) (hi:i<=800) (k0:0<=k) (k9:k<=1000) (kk : ∀ d H',S2 cW cB cQ cT cF cD cS cI cL b0 b1 ef eX hd m0 q0 m1 q1 d d1 (i+1) j Z H'->Q (.bl true) H'):ur cW cB cQ cT cF cD cS cI cL [.ref b0,.ref ef,.int c,.int k] H Q E:=by
 obtain ⟨W0,W1,jv,jL,oq,nX,ps,N,⟨a1,a2,a3,a4,a5,a6,a7,a8⟩,⟨e1,e2,e3,e4,e5,e6,e7,e8⟩,hp,ho,hl⟩:=h.ex
 refine ⟨W0,ef,jv,oq,c,k,_,N++Z,by rw [a1],hl,λ x hx=>mA (mA (mA hx)),a7,a8,by omega,by omega,k0,k9,λ W' ds' N' H' p1 p2 p3 p4 p5 p6 p7 p8=>kk W'.made H' ⟨W',W1,jv,jL,ds',nX,ps,N'++N,⟨p1.trans a1,p2.trans a2,p3.trans a3,rfl,by omega,by omega,by rw [List.append_assoc];exact p6,by rw [List.append_assoc];exact p7⟩,⟨e1,e2,e3,e4,by omega,by omega,by rw [List.append_assoc];exact e7.mono ou,by rw [List.append_assoc];exact e8.mono ou⟩,hp,by rw [List.append_assoc];exact ho.mono ou,by rw [List.append_assoc];exact Led.perm p8 (List.Perm.append_left _ (List.Perm.append_left _ inN))⟩⟩
theorem S2.made (h:S2 cW cB cQ cT cF cD cS cI cL b0 b1 ef eX hd m0 q0 m1 q1 d0 d1 i j Z H) (hi:i<=800) (c0:0<=c) (kk : ∀ d H',S2 cW cB cQ cT cF cD cS cI cL b0 b1 ef eX hd m0 q0 m1 q1 d d1 (i+1) j Z H'->Q (.bl true) H'):mE cW cB cQ cT cF cD cS cI cL [.ref b0,.ref ef,.int c] H Q E:=by
 obtain ⟨W0,W1,jv,jL,oq,nX,ps,N,⟨a1,a2,a3,a4,a5,a6,a7,a8⟩,⟨e1,e2,e3,e4,e5,e6,e7,e8⟩,hp,ho,hl⟩:=h.ex
 refine ⟨W0,ef,jv,oq,c,_,N++Z,by rw [a1],hl,λ x hx=>mA (mA (mA hx)),a7,a8,by omega,c0,λ W' ds' N' H' p1 p2 p3 p4 p5 p6 p7 p8=>kk W'.made H' ⟨W',W1,jv,jL,ds',nX,ps,N'++N,⟨p1.trans a1,p2.trans a2,p3.trans a3,rfl,by omega,by omega,by rw [List.append_assoc];exact p6,by rw [List.append_assoc];exact p7⟩,⟨e1,e2,e3,e4,by omega,by omega,by rw [List.append_assoc];exact e7.mono ou,by rw [List.append_assoc];exact e8.mono ou⟩,hp,by rw [List.append_assoc];exact ho.mono ou,by rw [List.append_assoc];exact Led.perm p8 (List.Perm.append_left _ (List.Perm.append_left _ inN))⟩⟩
theorem S2.told (h:S2 cW cB cQ cT cF cD cS cI cL b0 b1 ef eX hd m0 q0 m1 q1 d0 d1 i j Z H) (hi:i<=800) (hj:j<=290) (k0:0<=k) (k9:k<=1000) (kk : ∀ H',S2 cW cB cQ cT cF cD cS cI cL b0 b1 ef eX hd m0 q0 m1 q1 d0 d1 i (j+1) Z H'->Q (.bl true) H'):qk cW cB cQ cT cF cD cS cI cL [.ref b0,.ref ef,.ref hd,.int k] H Q E:=by
 obtain ⟨W0,W1,jv,jL,oq,nX,ps,N,⟨a1,a2,a3,a4,a5,a6,a7,a8⟩,⟨e1,e2,e3,e4,e5,e6,e7,e8⟩,hp,ho,hl⟩:=h.ex
 have sh : ∀ {ps:List V} {Y:Cells},(aU cW cB cQ W1++(dF eX jL W1.made nX++([(hd,HO.lst ps)]++Y))).Perm ([(hd,HO.lst ps)]++(aU cW cB cQ W1++(dF eX jL W1.made nX++Y))):=toS
 have hl2:=Led.perm hl (List.Perm.append_left _ (List.Perm.append_left _ sh))
 refine ⟨W0,ef,jv,hd,ps,oq,k,_,N++Z,by rw [a1],hl2,λ x hx=>mA (mA hx),a7,a8,ho,by omega,by omega,k0,k9,λ ps' N' H' p1 p2 p3=>kk H' ⟨W0,W1,jv,jL,oq,nX,ps',N'++N,⟨a1,a2,a3,a4,a5,a6,by rw [List.append_assoc];exact a7.mono ou,by rw [List.append_assoc];exact a8.mono ou⟩,⟨e1,e2,e3,e4,e5,e6,by rw [List.append_assoc];exact e7.mono ou,by rw [List.append_assoc];exact e8.mono ou⟩,by omega,by rw [List.append_assoc];exact p2,?_⟩⟩
 rw [List.append_assoc]
 refine Led.perm p3 (List.Perm.append_left _ (List.Perm.append_left _ ?_))
 refine List.Perm.trans ?_ sh.symm
 exact List.Perm.append_left _ (aS.trans (List.Perm.append_left _ aS))
theorem S2.EE (h:S2 cW cB cQ cT cF cD cS cI cL b0 b1 ef eX hd m0 q0 m1 q1 d0 d1 i j Z H) (hi:i<=800) (y0:0<=y) (y8:y<=8) (kk : ∀ H',S2 cW cB cQ cT cF cD cS cI cL b0 b1 ef eX hd m0 q0 m1 q1 d0 d1 i j Z H'->Q (.bl true) H'):uo cW cB cQ cT cF cD cS cI cL [.ref b0,.int y,.int (d0+1)] H Q E:=by
 obtain ⟨W0,W1,jv,jL,oq,nX,ps,N,⟨a1,a2,a3,a4,a5,a6,a7,a8⟩,⟨e1,e2,e3,e4,e5,e6,e7,e8⟩,hp,ho,hl⟩:=h.ex
 refine ⟨W0,y,d0+1,_,N++Z,by rw [a1],hl,λ x hx=>mA (mA (mA (mA hx))),a7,by omega,by rw [<-a4];exact mD a7,y0,y8,λ N' H' p3=>kk H' ⟨W0,W1,jv,jL,oq,nX,ps,N'++N,⟨a1,a2,a3,a4,a5,a6,by rw [List.append_assoc];exact a7.mono ou,by rw [List.append_assoc];exact a8.mono ou⟩,⟨e1,e2,e3,e4,e5,e6,by rw [List.append_assoc];exact e7.mono ou,by rw [List.append_assoc];exact e8.mono ou⟩,hp,by rw [List.append_assoc];exact ho.mono ou,?_⟩⟩
 rw [List.append_assoc]
 exact Led.perm p3 (List.Perm.append_left _ (aS.trans (List.Perm.append_left _ inN)))
theorem S2.room (h:S2 cW cB cQ cT cF cD cS cI cL b0 b1 ef eX hd m0 q0 m1 q1 d0 d1 i j Z H) (kk : ∀ H',S2 cW cB cQ cT cF cD cS cI cL b0 b1 ef eX hd m0 q0 m1 q1 d0 d1 i j Z H'->Q (.int ((m0:Int) - 1+q0)) H'):ua cW cB cQ cT cF cD cS cI cL [.ref b0] H Q E:=by
 obtain ⟨W0,W1,jv,jL,oq,nX,ps,N,⟨a1,a2,a3,a4,a5,a6,a7,a8⟩,⟨e1,e2,e3,e4,e5,e6,e7,e8⟩,hp,ho,hl⟩:=h.ex
 refine ⟨W0,_,N++Z,by rw [a1],hl,λ x hx=>mA (mA (mA (mA hx))),a7,λ H' N' p3 => ?_⟩
 rw [a2,a3]
 refine kk H' ⟨W0,W1,jv,jL,oq,nX,ps,N'++N,⟨a1,a2,a3,a4,a5,a6,by rw [List.append_assoc];exact a7.mono ou,by rw [List.append_assoc];exact a8.mono ou⟩,⟨e1,e2,e3,e4,e5,e6,by rw [List.append_assoc];exact e7.mono ou,by rw [List.append_assoc];exact e8.mono ou⟩,hp,by rw [List.append_assoc];exact ho.mono ou,?_⟩
 rw [List.append_assoc]
 exact Led.perm p3 (aS.trans (List.Perm.append_left _ (aS.trans (List.Perm.append_left _ inN))))
theorem S2.held (h:S2 cW cB cQ cT cF cD cS cI cL b0 b1 ef eX hd m0 q0 m1 q1 d0 d1 i j Z H) : ∃ (ps:List V) (L:Cells),H hd=some (.lst ps)/\Led H L/\d7 L ps:=by
 obtain ⟨W0,W1,jv,jL,oq,nX,ps,N,_,_,hp,ho,hl⟩:=h.ex
 exact ⟨ps,_,hl.get (mA (mA (mA (mA mS)))),hl,ho.mono λ x hx=>mA (mA (mA (mA (mA hx))))⟩
end
abbrev Wl:=List (WR×Addr×Addr)
def AU (cW cB cQ:Addr) (wl:Wl):Cells:=wl.flatMap λ x=>aU cW cB cQ x.1++dF x.2.1 x.2.2 0 []
theorem toF {A B C D Y:Cells} : (A++(B++(C++(D++Y)))).Perm (D++(A++(B++(C++Y)))):=(List.Perm.append_left A ((List.Perm.append_left B aS).trans aS)).trans aS
theorem GV (pd:Addr):mP [] [((Sum.inr (Str.ofString "made"):Key),V.int 0),(Sum.inr (Str.ofString "plans"),V.ref pd)]=zB 0 pd:=by
 show putK (putK ([]:List (Key×V)) (Sum.inr (Str.ofString "made")) (.int 0)) (Sum.inr (Str.ofString "plans")) (.ref pd)=_
 have e1:putK ([]:List (Key×V)) (Sum.inr (Str.ofString "made"):Key) (.int 0) = [(Sum.inr (Str.ofString "made"),V.int 0)]:=by
  unfold putK
  rw [if_neg (by rw [dH];exact Bool.false_ne_true)]
  rfl
 rw [e1]
 unfold putK
 rw [if_neg (by rw [dH,bO (p:=((Sum.inr (Str.ofString "made"):Key),V.int 0)) C2];exact Bool.false_ne_true)]
 rfl
theorem GW {σ : L2.St} {H:Hp} {Q:VK} {L:Cells} (hL:Led H L) (h : ∀ rw pd H',Led H' (dF rw pd 0 []++L)->Q (.ref rw) H'):EM [(tC (V.str (Str.ofString "made")),tC (V.int 0)),(tC (V.str (Str.ofString "plans")),mO)] σ H Q:=by
 intro p hp p2 hp2
 have h1:=hL.new (o := .dK []) hp
 have h2:=h1.new (o := .dK []) hp2
 refine ⟨h2.get (mC mS),[((Sum.inr (Str.ofString "made"):Key),V.int 0),(Sum.inr (Str.ofString "plans"),V.ref p2)],rfl,by show 2<=15;decide,?_⟩
 rw [GV]
 have h3:=h2.lQ (o' := .dK (zB 0 p2)) 1 rfl rfl rfl
 exact h p p2 _ (Led.perm h3 (List.Perm.swap _ _ _))
theorem Jz {α : Type} {h r N5 A1 N4 A0 R0 R1 Z:List α} : (h++(r++(N5++(A1++(N4++(A0++(R0++(R1++Z)))))))).Perm (A0++(R0++(A1++(R1++(h++((N4++N5)++(r++Z))))))):=by
 classical
 rw [List.perm_iff_count]
 intro a
 simp only [List.count_append]
 omega
section
variable {b0 b1 ef eX hd:Addr} {m0 q0 m1 q1:Nat} {d0 d1:Int} {i j:Nat} {Z:Cells} {H:Hp} {Q:VK} {E:XK} {c k y:Int}
theorem S2.new {p:Addr} {o:HO} (h:S2 cW cB cQ cT cF cD cS cI cL b0 b1 ef eX hd m0 q0 m1 q1 d0 d1 i j Z H) (hp:H p=none):S2 cW cB cQ cT cF cD cS cI cL b0 b1 ef eX hd m0 q0 m1 q1 d0 d1 i j Z (upd H p o):=by
 obtain ⟨W0,W1,jv,jL,oq,nX,ps,N,⟨a1,a2,a3,a4,a5,a6,a7,a8⟩,⟨e1,e2,e3,e4,e5,e6,e7,e8⟩,Kw,ho,hl⟩:=h.ex
 refine ⟨W0,W1,jv,jL,oq,nX,ps,[(p,o)]++N,⟨a1,a2,a3,a4,a5,a6,by rw [List.append_assoc];exact a7.mono ou,by rw [List.append_assoc];exact a8.mono ou⟩,⟨e1,e2,e3,e4,e5,e6,by rw [List.append_assoc];exact e7.mono ou,by rw [List.append_assoc];exact e8.mono ou⟩,Kw,by rw [List.append_assoc];exact ho.mono ou,?_⟩
 rw [List.append_assoc]
 exact Led.perm (L:=[(p,o)]++(aU cW cB cQ W0++_)) (hl.new hp) (aS.trans (List.Perm.append_left _ (aS.trans (List.Perm.append_left _ inN))))
theorem S2.pos (h:S2 cW cB cQ cT cF cD cS cI cL b0 b1 ef eX hd m0 q0 m1 q1 d0 d1 i j Z H):0<=d0:=by
 obtain ⟨W0,W1,jv,jL,oq,nX,ps,N,⟨a1,a2,a3,a4,a5,a6,a7,a8⟩,e,Kw,ho,hl⟩:=h.ex
 rw [<-a4]
 exact a7.m0
theorem S2.mix (h:S2 cW cB cQ cT cF cD cS cI cL b0 b1 ef eX hd m0 q0 m1 q1 d0 d1 i j Z H) (k0:0<=k) (k9:k<=1000) (y0:0<=y) (y5:y<=5) (kk : ∀ d H',0<=d->S2 cW cB cQ cT cF cD cS cI cL b0 b1 ef eX hd m0 q0 m1 q1 d0 d1 i j Z H'->Q (.int d) H'):wu [.int c,.int k,.int y] H Q E:=by
 obtain ⟨W0,W1,jv,jL,oq,nX,ps,N,a,e,Kw,ho,hl⟩:=h.ex
 exact ⟨c,k,y,_,rfl,k0,k9,y0,y5,hl,λ d H' d0 _ hl2=>kk d H' d0 ⟨W0,W1,jv,jL,oq,nX,ps,N,a,e,Kw,ho,hl2⟩⟩
end
theorem GX {f:Addr} {fd:FuncData} (F:yx K "law" "law" vv f fd) (B:e9 mg) (T:(Txt K mg cN c2 cP cA cG c3 cC c4 cU c6 cT cF cD cS cI cL cB cQ cW)) (uw:(cj P w K mg base) 5 cW ["self","many","places","hands","slots"] (zc cW cT cF cD cS cI cB cQ cL cN)) (dN:(aM P w K mg base) 1 "_law_cell_at" ["_law_script","_law_k"] (vZ K)) (eE:(aM P w K mg base) 3 "told_room" ["world"] (ua cW cB cQ cT cF cD cS cI cL)) (bV:(aM P w K mg base) 1 "_law_mix" ["_law_cell","_law_k","_law_turn"] wu) (jw:(aM P w K mg base) 8 "_law_deed" ["_law_world","_law_row","_law_cell","_law_k"] (ur cW cB cQ cT cF cD cS cI cL)) (dO:(aM P w K mg base) 4 "_law_as_told" ["_law_world","_law_row","_law_held","_law_k"] (qk cW cB cQ cT cF cD cS cI cL)) (bE:(aM P w K mg base) 7 "_law_refused" ["_law_world","_law_way","_law_space"] (uo cW cB cQ cT cF cD cS cI cL)) (dB:(aM P w K mg base) 6 "_law_made" ["_law_world","_law_row","_law_mixed"] (mE cW cB cQ cT cF cD cS cI cL)):(dQ P w K mg base) (mF P w) 9 f fd ["_law_script"] (sO K):=by
 have sc:=GD
 refine F.okN sc (λ vs H Q E h => ?_) (λ cdv A outer s H vs Q E hr h => ?_)
 ·obtain ⟨a,ns,rfl,_⟩:=h;rfl
 ·obtain ⟨a,ns,rfl,hS,hlen,EZ,hO,k⟩:=h
  have hu:=gw hr
  have hsz:=sizeLine_eq
  refine ⟨_,(@ah _ _ _ _ _ (@aB _ _ 1 _ _ _ _ sc.nd rfl (by walk_at "o2") (@bC _ _ _ _ (@af _)) (by rfl) (by walk_at "o4")) (@ah _ _ _ _ _ (@aB _ _ 2 _ _ _ _ sc.nd rfl (by walk_at "o2") (@bC _ _ _ _ (@af _)) (by rfl) (by walk_at "o4")) (@ah _ _ _ _ _ (@bT _ _ _ _ _ _ _ _ PassesOwn.never rfl (@gi _ _ _ _ _ _ (by rfl) B.range (@aa _ _ _ _ _ (@ao _ _ _ _) (@af _) (by rfl)) (by rfl)) (@aX _ _ 3 _ sc.nd rfl (by walk_at "o2") (by walk_at "o4")) (@ah _ _ _ _ _ (@aB _ _ 4 _ _ _ _ sc.nd rfl (by walk_at "o2") (@bC _ _ _ _ (@aa _ _ _ _ _ (@ak _ _ _ _ _ _ _ _ _ _ _ dN (hr.mono (by omega)) (by rfl) au (@aa _ _ _ _ _ (@aq _ 0 _ _ (by walk_at "v")) (@aa _ _ _ _ _ (@aq _ 3 _ _ (by walk_at "v")) (@af _) (by rfl)) (by rfl)) (by decide) (by rfl) (by rfl)) (@aa _ _ _ _ _ (@ak _ _ _ _ _ _ _ _ _ _ _ dN (hr.mono (by omega)) (by rfl) au (@aa _ _ _ _ _ (@aq _ 0 _ _ (by walk_at "v")) (@aa _ _ _ _ _ (@av _ _ _ _ _ _ _ _ bg (@aq _ 3 _ _ (by walk_at "v")) (@ao _ _ _ _)) (@af _) (by rfl)) (by rfl)) (by decide) (by rfl) (by rfl)) (@af _) (by rfl)) (by rfl))) (by rfl) (by walk_at "o4")) (@ah _ _ _ _ _ (@az _ _ _ _ (@jP _ _ _ _ _ _ _ _ _ _ _ _ PySem.F.plainAttrs_list PySem.F.slot_list_append PySem.F.type_list_append bY (@aq _ 1 _ _ (by walk_at "v")) (@aa _ _ _ _ _ (@fm _ _ _ _ _ _ _ _ _ _ _ _ T.World uw (hr.mono (by omega)) (by rfl) au (@aa _ _ _ _ _ (@av _ _ _ _ _ _ _ _ bg (@ao _ _ _ _) (@av _ _ _ _ _ _ _ _ bM (@aJ _ _ _ _ _ _ _ aE (@aq _ 4 _ _ (by walk_at "v")) (@ao _ _ _ _) (λ _ _=>rfl)) (@ao _ _ _ _))) (@aa _ _ _ _ _ (@av _ _ _ _ _ _ _ _ bM (@aJ _ _ _ _ _ _ _ aE (@aq _ 4 _ _ (by walk_at "v")) (@ao _ _ _ _) (λ _ _=>rfl)) (@ao _ _ _ _)) (@aa _ _ _ _ _ (@av _ _ _ _ _ _ _ _ bg (@ao _ _ _ _) (@av _ _ _ _ _ _ _ _ bM (@av _ _ _ _ _ _ _ _ fK (@aJ _ _ _ _ _ _ _ aE (@aq _ 4 _ _ (by walk_at "v")) (@ao _ _ _ _) (λ _ _=>rfl)) (@ao _ _ _ _)) (@ao _ _ _ _))) (@aa _ _ _ _ _ (@av _ _ _ _ _ _ _ _ bM (@av _ _ _ _ _ _ _ _ fK (@aJ _ _ _ _ _ _ _ aE (@aq _ 4 _ _ (by walk_at "v")) (@ao _ _ _ _) (λ _ _=>rfl)) (@ao _ _ _ _)) (@ao _ _ _ _)) (@af _) (by rfl)) (by rfl)) (by rfl)) (by rfl)) (by decide) (by rfl) (by rfl)) (@af _) (by rfl)) (by rfl) (by rfl) (by rfl) (by rfl) (by rfl)) (by rfl)) (@aj _ _ _ (@az _ _ _ _ (@jP _ _ _ _ _ _ _ _ _ _ _ _ PySem.F.plainAttrs_list PySem.F.slot_list_append PySem.F.type_list_append bY (@aq _ 2 _ _ (by walk_at "v")) (@aa _ _ _ _ _ (@DF _ _ _ _ _ (@uU _ _ _ _ _ _ _ _ _ (@bz _ _ _ _) (@ao _ _ _ _) (@uU _ _ _ _ _ _ _ _ _ (@bz _ _ _ _) (@gk _ _) (@DE _ _))) rfl rfl (List.cons_ne_nil _ _) (by decide)) (@af _) (by rfl)) (by rfl) (by rfl) (by rfl) (by rfl) (by rfl)) (by rfl))))) (by intro _;rfl)) (@ah _ _ _ _ _ (@aB _ _ 5 _ _ _ _ sc.nd rfl (by walk_at "o2") (@bC _ _ _ _ (@aa _ _ _ _ _ (@ak _ _ _ _ _ _ _ _ _ _ _ eE (hr.mono (by omega)) (by rfl) au (@aa _ _ _ _ _ (@aJ _ _ _ _ _ _ _ aE (@aq _ 1 _ _ (by walk_at "v")) (@ao _ _ _ _) (λ _ _=>rfl)) (@af _) (by rfl)) (by decide) (by rfl) (by rfl)) (@aa _ _ _ _ _ (@ak _ _ _ _ _ _ _ _ _ _ _ eE (hr.mono (by omega)) (by rfl) au (@aa _ _ _ _ _ (@aJ _ _ _ _ _ _ _ aE (@aq _ 1 _ _ (by walk_at "v")) (@ao _ _ _ _) (λ _ _=>rfl)) (@af _) (by rfl)) (by decide) (by rfl) (by rfl)) (@af _) (by rfl)) (by rfl))) (by rfl) (by walk_at "o4")) (@ah _ _ _ _ _ (@aB _ _ 6 _ _ _ _ sc.nd rfl (by walk_at "o2") (@bC _ _ _ _ (@af _)) (by rfl) (by walk_at "o4")) (@ah _ _ _ _ _ (@bT _ _ _ _ _ _ _ _ PassesOwn.never rfl (@gi _ _ _ _ _ _ (by rfl) B.range (@aa _ _ _ _ _ (@aD _ _ _ _ _ _ _ _ _ bh (by rfl) B.len cH (@aa _ _ _ _ _ (@iI _ _ _ _ _ _ _ _ _ _ (o8 (K:=K) rfl) (@aq _ 0 _ _ (by walk_at "v")) (@yt _) (@fL _ _ _ (@ao _ _ _ _))) (@af _) (by rfl)) (by decide) (by decide) (by rfl) (by rfl)) (@af _) (by rfl)) (by rfl)) (@aX _ _ 7 _ sc.nd rfl (by walk_at "o2") (by walk_at "o4")) (@ah _ _ _ _ _ (@aB _ _ 8 _ _ _ _ sc.nd rfl (by walk_at "o2") (@av _ _ _ _ _ _ _ _ bM (@ak _ _ _ _ _ _ _ _ _ _ _ bV (hr.mono (by omega)) (by rfl) au (@aa _ _ _ _ _ (@aJ _ _ _ _ _ _ _ (o7 (K:=K) rfl) (@aq _ 0 _ _ (by walk_at "v")) (@aq _ 7 _ _ (by walk_at "v")) (λ _ _=>rfl)) (@aa _ _ _ _ _ (@aq _ 7 _ _ (by walk_at "v")) (@aa _ _ _ _ _ (@ao _ _ _ _) (@af _) (by rfl)) (by rfl)) (by rfl)) (by decide) (by rfl) (by rfl)) (@ao _ _ _ _)) (by rfl) (by walk_at "o4")) (@ah _ _ _ _ _ (@aZ _ _ _ _ _ _ _ _ (@b3 _ _ _ _ (@b9 _ _ _ (@ak _ _ _ _ _ _ _ _ _ _ _ jw (hr.mono (by omega)) (by rfl) au (@aa _ _ _ _ _ (@aJ _ _ _ _ _ _ _ aE (@aq _ 1 _ _ (by walk_at "v")) (@aq _ 8 _ _ (by walk_at "v")) (λ _ _=>rfl)) (@aa _ _ _ _ _ (@aJ _ _ _ _ _ _ _ aE (@aq _ 2 _ _ (by walk_at "v")) (@aq _ 8 _ _ (by walk_at "v")) (λ _ _=>rfl)) (@aa _ _ _ _ _ (@aJ _ _ _ _ _ _ _ (o7 (K:=K) rfl) (@aq _ 0 _ _ (by walk_at "v")) (@aq _ 7 _ _ (by walk_at "v")) (λ _ _=>rfl)) (@aa _ _ _ _ _ (@aq _ 7 _ _ (by walk_at "v")) (@af _) (by rfl)) (by rfl)) (by rfl)) (by rfl)) (by decide) (by rfl) (by rfl)) (by intro _;rfl))) (@aj _ _ _ (@ay _ _ _ _ (@cY _ _ _ _))) (@aO _)) (@aj _ _ _ (@bT _ _ _ _ _ _ _ _ PassesOwn.never rfl (@gi _ _ _ _ _ _ (by rfl) B.range (@aa _ _ _ _ _ (@ao _ _ _ _) (@af _) (by rfl)) (by rfl)) (@aX _ _ 3 _ sc.nd rfl (by walk_at "o2") (by walk_at "o4")) (@aj _ _ _ (@aZ _ _ _ _ _ _ _ _ (@b3 _ _ _ _ (@b9 _ _ _ (@ak _ _ _ _ _ _ _ _ _ _ _ dO (hr.mono (by omega)) (by rfl) au (@aa _ _ _ _ _ (@aJ _ _ _ _ _ _ _ aE (@aq _ 1 _ _ (by walk_at "v")) (@aq _ 3 _ _ (by walk_at "v")) (λ _ _=>rfl)) (@aa _ _ _ _ _ (@aJ _ _ _ _ _ _ _ aE (@aq _ 2 _ _ (by walk_at "v")) (@aq _ 3 _ _ (by walk_at "v")) (λ _ _=>rfl)) (@aa _ _ _ _ _ (@aq _ 6 _ _ (by walk_at "v")) (@aa _ _ _ _ _ (@aq _ 7 _ _ (by walk_at "v")) (@af _) (by rfl)) (by rfl)) (by rfl)) (by rfl)) (by decide) (by rfl) (by rfl)) (by intro _;rfl))) (@aj _ _ _ (@ay _ _ _ _ (@cY _ _ _ _))) (@aO _))) (by intro _;rfl))))) (by intro _;rfl)) (@ah _ _ _ _ _ (@bT _ _ _ _ _ _ _ _ PassesOwn.never rfl (@gi _ _ _ _ _ _ (by rfl) B.range (@aa _ _ _ _ _ (@ao _ _ _ _) (@af _) (by rfl)) (by rfl)) (@aX _ _ 3 _ sc.nd rfl (by walk_at "o2") (by walk_at "o4")) (@ah _ _ _ _ _ (@aB _ _ 9 _ _ _ _ sc.nd rfl (by walk_at "o2") (@av _ _ _ _ _ _ _ _ bg (@bU _ _ _ _ _ _ hu (@aJ _ _ _ _ _ _ _ aE (@aq _ 2 _ _ (by walk_at "v")) (@aq _ 3 _ _ (by walk_at "v")) (λ _ _=>rfl)) (@bz _ _ _ _) (λ _ _=>rfl)) (@ao _ _ _ _)) (by rfl) (by walk_at "o4")) (@ah _ _ _ _ _ (@aZ _ _ _ _ _ _ _ _ (@PW.pt _ _ _ (@pw_or _ _ _ _ _ _ _ (@b3 _ _ _ _ (@b9 _ _ _ (@ak _ _ _ _ _ _ _ _ _ _ _ bE (hr.mono (by omega)) (by rfl) au (@aa _ _ _ _ _ (@aJ _ _ _ _ _ _ _ aE (@aq _ 1 _ _ (by walk_at "v")) (@aq _ 3 _ _ (by walk_at "v")) (λ _ _=>rfl)) (@aa _ _ _ _ _ (@ao _ _ _ _) (@aa _ _ _ _ _ (@aq _ 9 _ _ (by walk_at "v")) (@af _) (by rfl)) (by rfl)) (by rfl)) (by decide) (by rfl) (by rfl)) (by intro _;rfl))) (@pw_or1 _ _ _ _ (@b3 _ _ _ _ (@b9 _ _ _ (@ak _ _ _ _ _ _ _ _ _ _ _ bE (hr.mono (by omega)) (by rfl) au (@aa _ _ _ _ _ (@aJ _ _ _ _ _ _ _ aE (@aq _ 1 _ _ (by walk_at "v")) (@aq _ 3 _ _ (by walk_at "v")) (λ _ _=>rfl)) (@aa _ _ _ _ _ (@ao _ _ _ _) (@aa _ _ _ _ _ (@aq _ 9 _ _ (by walk_at "v")) (@af _) (by rfl)) (by rfl)) (by rfl)) (by decide) (by rfl) (by rfl)) (by intro _;rfl)))))) (@aj _ _ _ (@ay _ _ _ _ (@cY _ _ _ _))) (@aO _)) (@ah _ _ _ _ _ (@aZ _ _ _ _ _ _ _ _ (@PW.pt _ _ _ (@pw_or _ _ _ _ _ _ _ (@b3 _ _ _ _ (@b9 _ _ _ (@ak _ _ _ _ _ _ _ _ _ _ _ dB (hr.mono (by omega)) (by rfl) au (@aa _ _ _ _ _ (@aJ _ _ _ _ _ _ _ aE (@aq _ 1 _ _ (by walk_at "v")) (@aq _ 3 _ _ (by walk_at "v")) (λ _ _=>rfl)) (@aa _ _ _ _ _ (@aJ _ _ _ _ _ _ _ aE (@aq _ 2 _ _ (by walk_at "v")) (@aq _ 3 _ _ (by walk_at "v")) (λ _ _=>rfl)) (@aa _ _ _ _ _ (@aq _ 9 _ _ (by walk_at "v")) (@af _) (by rfl)) (by rfl)) (by rfl)) (by decide) (by rfl) (by rfl)) (by intro _;rfl))) (@pw_or1 _ _ _ _ (@b3 _ _ _ _ (@b9 _ _ _ (@ak _ _ _ _ _ _ _ _ _ _ _ dO (hr.mono (by omega)) (by rfl) au (@aa _ _ _ _ _ (@aJ _ _ _ _ _ _ _ aE (@aq _ 1 _ _ (by walk_at "v")) (@aq _ 3 _ _ (by walk_at "v")) (λ _ _=>rfl)) (@aa _ _ _ _ _ (@aJ _ _ _ _ _ _ _ aE (@aq _ 2 _ _ (by walk_at "v")) (@aq _ 3 _ _ (by walk_at "v")) (λ _ _=>rfl)) (@aa _ _ _ _ _ (@aq _ 6 _ _ (by walk_at "v")) (@aa _ _ _ _ _ (@aq _ 3 _ _ (by walk_at "v")) (@af _) (by rfl)) (by rfl)) (by rfl)) (by rfl)) (by decide) (by rfl) (by rfl)) (by intro _;rfl)))))) (@aj _ _ _ (@ay _ _ _ _ (@cY _ _ _ _))) (@aO _)) (@aj _ _ _ (@aZ _ _ _ _ _ _ _ _ (@aG _ _ _ _ _ _ _ _ qW (@ak _ _ _ _ _ _ _ _ _ _ _ eE (hr.mono (by omega)) (by rfl) au (@aa _ _ _ _ _ (@aJ _ _ _ _ _ _ _ aE (@aq _ 1 _ _ (by walk_at "v")) (@aq _ 3 _ _ (by walk_at "v")) (λ _ _=>rfl)) (@af _) (by rfl)) (by decide) (by rfl) (by rfl)) (@aJ _ _ _ _ _ _ _ aE (@aq _ 5 _ _ (by walk_at "v")) (@aq _ 3 _ _ (by walk_at "v")) (λ _ _=>rfl)) (aR _)) (@aj _ _ _ (@ay _ _ _ _ (@cY _ _ _ _))) (@aO _)))))) (by intro _;rfl)) (@ah _ _ _ _ _ (@bT _ _ _ _ _ _ _ _ PassesOwn.never rfl (@bB _ _ _ _ (@aq _ 6 _ _ (by walk_at "v"))) (@aX _ _ 10 _ sc.nd rfl (by walk_at "o2") (by walk_at "o4")) (@aj _ _ _ (@aZ _ _ _ _ _ _ _ _ (@aG _ _ _ _ _ _ _ _ (Gm hr.units) (@aJ _ _ _ _ _ _ _ aE (@aq _ 10 _ _ (by walk_at "v")) (@ao _ _ _ _) (λ _ _=>rfl)) (@aJ _ _ _ _ _ _ _ aE (@aq _ 10 _ _ (by walk_at "v")) (@ao _ _ _ _) (λ _ _=>rfl)) (aR _)) (@aj _ _ _ (@ay _ _ _ _ (@cY _ _ _ _))) (@aO _))) (by intro _;rfl)) (@aj _ _ _ (@ay _ _ _ _ (@cY _ _ _ _))))))))))),?_⟩
  obtain ⟨L,hL,hs⟩:=Ag hS hO
  clear hO
  refine aA λ M1 K1 => ?_
  walk_at "ge"
  rename_i ws H1 _ hl1 _
  refine K1.use ?_
  walk_at "cl"
  clear K1 hL
  refine aA λ M1 K1 => ?_
  walk_at "ge"
  rename_i rs H2 _ hl2 _
  refine K1.use ?_
  walk_at "cl"
  clear K1 hl1
  refine aA λ M1 K1 => ?_
  refine yz λ Lr gx => ?_
  walk_at "ge"
  refine ⟨2,rfl,by decide,by decide,gx.use ?_⟩
  clear gx
  rw [show (2:Int).toNat=2 from rfl]
  refine yC (λ i σ H' => ∃ (wl:Wl) (N:Cells) (v3 v4:Option V),wl.length=i/\(∀ x∈wl,x.1.es = []/\x.1.made=0/\fh cT cF cD cS cI cL x.1 N) ∧ σ = [some (.ref a),some (.ref ws),some (.ref rs),v3,v4,none,none,none,none,none,none]/\Led H' ((rs,.lst (wl.map λ x=>V.ref x.2.1))::(ws,.lst (wl.map λ x=>V.ref x.1.b))::(AU cW cB cQ wl++(N++L)))) ⟨[],[],_,_,rfl,λ x hx=>(nomatch hx),rfl,hl2⟩ ?_ ?_
  ·clear hl2 K1 k
   rintro i σ H3 hi ⟨wl,N,v3,v4,hwl,hok,rfl,hl⟩
   have sq:bW K H3 a (ns.map V.int):=hs.seq (Led.right (Led.right (hl.tail.tail)))
   refine vh ?_
   obtain ⟨x0,N7⟩ : ∃ x,ns.getD (Int.toNat (0+(i:Int))) 0=x:=⟨_,rfl⟩
   obtain ⟨x1,Kp⟩ : ∃ x,ns.getD (Int.toNat (0+(i:Int)+1)) 0=x:=⟨_,rfl⟩
   refine aA λ M1 K1 => ?_
   walk_at "ge"
   refine ⟨a,ns,_,rfl,by omega,sq,?_⟩
   rw [N7]
   walk_at "ge"
   refine ⟨a,ns,_,rfl,by omega,sq,?_⟩
   rw [Kp]
   walk_at "ge"
   rename_i sm H4 _ bF _
   refine K1.use ?_
   walk_at "cl"
   clear K1 hl sq N7 Kp
   have CL:=bF.get mS
   have dR:=bF.get (mC (mC mS))
   refine aA λ M1 K1 => ?_
   walk_at "ge"
   refine ⟨Aj dR,?_⟩
   walk_at "ge"
   intro b dx y1 y2 y3
   refine ⟨b,dx,_,_,_,_,_,rfl,bF.make y1 y2 y3,Dj.int,Dj.int,Dj.int,Dj.int,λ m p h s' e1 _ _ e2 _ _ e3 _ _ e4 _ _ W N2 H5 g1 g2 g3 g4 g5 g6 g7 dY => ?_,λ hno=>absurd ⟨⟨_,rfl,by omega,by omega⟩,⟨_,rfl,by omega,by omega⟩,⟨_,rfl,by omega,by omega⟩,⟨_,rfl,by omega,by omega⟩⟩ hno⟩
   clear bF y1 y2 y3 CL dR
   walk_at "ge"
   refine ⟨rfl,?_⟩
   have fH:Led H5 ([(rs,.lst (wl.map λ x=>V.ref x.2.1)),(ws,.lst (wl.map λ x=>V.ref x.1.b))]++(aU cW cB cQ W++(N2++([(sm,HO.lst [V.int x0,V.int x1])]++(AU cW cB cQ wl++(N++L)))))):=Led.perm (L:=aU cW cB cQ W++(N2++([_]++([_,_]++(AU cW cB cQ wl++(N++L)))))) dY toF
   clear dY
   subst g1
   walk_at "ge"
   refine Ai (fH.get (mC mS)) (by rw [List.length_map];omega) ?_
   have iC:Led (upd H5 ws (.lst ((wl.map λ x=>V.ref x.1.b)++[.ref W.b]))) ([(rs,.lst (wl.map λ x=>V.ref x.2.1)),(ws,.lst ((wl.map λ x=>V.ref x.1.b)++[.ref W.b]))]++(aU cW cB cQ W++(N2++([(sm,HO.lst [V.int x0,V.int x1])]++(AU cW cB cQ wl++(N++L)))))):=fH.lQ 1 rfl rfl rfl
   generalize upd H5 ws (.lst ((wl.map λ x=>V.ref x.1.b)++[.ref W.b]))=H6 at iC ⊢
   clear fH
   walk_at "ge"
   refine K1.use ?_
   walk_at "cl"
   clear K1
   have jM:=iC.get mS
   walk_at "ge"
   refine ⟨Aj jM,?_⟩
   walk_at "ge"
   refine GW iC λ rw pd H7 p9 => ?_
   clear iC jM
   walk_at "ge"
   refine Ai (p9.get (mC (mC mS))) (by rw [List.length_map];omega) ?_
   have kX:Led (upd H7 rs (.lst ((wl.map λ x=>V.ref x.2.1)++[.ref rw]))) (dF rw pd 0 []++([(rs,.lst ((wl.map λ x=>V.ref x.2.1)++[.ref rw])),(ws,.lst ((wl.map λ x=>V.ref x.1.b)++[.ref W.b]))]++(aU cW cB cQ W++(N2++([(sm,HO.lst [V.int x0,V.int x1])]++(AU cW cB cQ wl++(N++L))))))):=p9.lQ 2 rfl rfl rfl
   generalize upd H7 rs (.lst ((wl.map λ x=>V.ref x.2.1)++[.ref rw]))=H8 at kX ⊢
   clear p9
   walk_at "ge"
   refine ⟨wl++[(W,rw,pd)],N2++([(sm,HO.lst [V.int x0,V.int x1])]++N),_,_,by rw [List.length_append,hwl];rfl,λ x hx => ?_,rfl,?_⟩
   ·rcases List.mem_append.mp hx with hx | hx
    ·obtain ⟨q1,q2,q3⟩:=hok x hx
     exact ⟨q1,q2,q3.mono λ y hy=>mA (mA hy)⟩
    ·rw [List.mem_singleton.mp hx]
     exact ⟨g2,g3,g7.mono λ y hy=>mB hy⟩
   ·rw [List.map_append,List.map_append]
    have eC:AU cW cB cQ (wl++[(W,rw,pd)])=AU cW cB cQ wl++(aU cW cB cQ W++dF rw pd 0 []):=by
     unfold AU
     rw [List.flatMap_append,List.flatMap_cons,List.flatMap_nil,List.append_nil]
    rw [eC]
    refine Led.perm kX ?_
    refine aS.trans ?_
    refine List.Perm.cons _ (List.Perm.cons _ ?_)
    simp only [List.append_assoc]
    exact (aS (N:=dF rw pd 0 []) (A:=aU cW cB cQ W)).trans ((List.Perm.append_left (aU cW cB cQ W) (toF (A:=dF rw pd 0 []) (B:=N2) (C:=[(sm,HO.lst [V.int x0,V.int x1])]) (D:=AU cW cB cQ wl) (Y:=N++L))).trans (aS (N:=aU cW cB cQ W) (A:=AU cW cB cQ wl)))
  ·rintro σ H3 ⟨wl,N,v3,v4,hwl,hok,rfl,hl⟩
   clear hl2
   obtain ⟨⟨W0,ef,jv⟩,⟨W1,eX,jL⟩,rfl⟩ : ∃ x y,wl = [x,y]:=by
    match wl,hwl with
    | [x,y],_=>exact ⟨x,y,rfl⟩
   obtain ⟨JA,JB,MC⟩:=hok _ mS
   obtain ⟨ES,ET,G5⟩:=hok _ (mC mS)
   dsimp only at JA JB MC ES ET G5
   clear hok hwl
   refine K1.use ?_
   clear K1
   have hl3:Led H3 ([(rs,HO.lst [.ref ef,.ref eX]),(ws,HO.lst [.ref W0.b,.ref W1.b])]++((aU cW cB cQ W0++dF ef jv 0 [])++((aU cW cB cQ W1++dF eX jL 0 [])++(N++L)))):=by
    have e:AU cW cB cQ [(W0,ef,jv),(W1,eX,jL)]=(aU cW cB cQ W0++dF ef jv 0 [])++(aU cW cB cQ W1++dF eX jL 0 []):=by
     unfold AU
     rw [List.flatMap_cons,List.flatMap_cons,List.flatMap_nil,List.append_nil]
    rw [e,List.append_assoc] at hl
    exact hl
   clear hl
   rw [List.append_assoc,List.append_assoc] at hl3
   obtain ⟨Z,eZ⟩ : ∃ Z:Cells,[(rs,HO.lst [.ref ef,.ref eX]),(ws,HO.lst [.ref W0.b,.ref W1.b])]++(N++L)=Z:=⟨_,rfl⟩
   have bF:Led H3 (aU cW cB cQ W0++(dF ef jv 0 []++(aU cW cB cQ W1++(dF eX jL 0 []++Z)))):=by
    rw [<-eZ]
    exact Led.perm hl3 (aS.trans (List.Perm.append_left _ inN))
   clear hl3
   have JC:(rs,HO.lst [.ref ef,.ref eX])∈Z:=by rw [<-eZ];exact mS
   have EF:(ws,HO.lst [.ref W0.b,.ref W1.b])∈Z:=by rw [<-eZ];exact mC mS
   have MD : ∀ c∈N,c∈Z:=λ x hx=>by rw [<-eZ];exact mA (mB hx)
   have ME:=MC.mono MD
   have G6:=G5.mono MD
   have N8 : ∀ {X:Cells} {H':Hp},Led H' (X++Z)->bW K H' a (ns.map V.int):=λ h=>hs.seq (by rw [<-eZ] at h;exact Led.right (Led.right (Led.right h)))
   clear MC G5 MD eZ
   have l0:LR W0 [] Z:=⟨by rw [JA];rfl,λ e he=>by rw [JA] at he;cases he⟩
   have l1:LR W1 [] Z:=⟨by rw [ES];rfl,λ e he=>by rw [ES] at he;cases he⟩
   have Jq : ∀ {A R C S:Cells} {c:Addr×HO},c∈Z->c∈A++(R++(C++(S++Z))):=λ h=>mA (mA (mA (mA h)))
   have dR:=bF.get (Jq EF)
   refine aA λ M1 K1 => ?_
   walk_at "ge"
   refine ⟨W0,_,Z,rfl,bF,λ x hx=>mA (mA (mA hx)),ME,λ H4 N4 dY => ?_⟩
   clear bF dR
   have dR:H4 ws=some (.lst [.ref W0.b,.ref W1.b]):=dY.get (mA (Jq EF))
   walk_at "ge"
   have fH:Led H4 (aU cW cB cQ W1++(N4++(aU cW cB cQ W0++(dF ef jv 0 []++(dF eX jL 0 []++Z))))):=Led.perm dY ((List.Perm.append_left _ ((List.Perm.append_left _ aS).trans aS)).trans aS)
   refine ⟨W1,_,Z,rfl,fH,λ x hx=>mA (mA (mA (mA hx))),G6,λ H5 N5 iC => ?_⟩
   clear dY fH dR
   walk_at "ge"
   rename_i rm H6 _ p9 _
   clear iC
   refine K1.use ?_
   walk_at "cl"
   clear K1
   refine aA λ M1 K1 => ?_
   walk_at "ge"
   rename_i hd H7 _ kX _
   clear p9
   refine K1.use ?_
   walk_at "cl"
   clear K1
   obtain ⟨b0,MF⟩ : ∃ b,W0.b=b:=⟨_,rfl⟩
   obtain ⟨b1,MG⟩ : ∃ b,W1.b=b:=⟨_,rfl⟩
   obtain ⟨m0,MH⟩ : ∃ b,W0.m=b:=⟨_,rfl⟩
   obtain ⟨m1,MI⟩ : ∃ b,W1.m=b:=⟨_,rfl⟩
   obtain ⟨q0,MJ⟩ : ∃ b,W0.q=b:=⟨_,rfl⟩
   obtain ⟨q1,eq1⟩ : ∃ b,W1.q=b:=⟨_,rfl⟩
   obtain ⟨Y,eY⟩ : ∃ Y:Cells,[(rm,HO.lst [.int ((m0:Int) - 1+q0),.int ((m1:Int) - 1+q1)])]++Z=Y:=⟨_,rfl⟩
   have uY : ∀ {M:Cells},∀ c∈Z,c∈M++Y:=λ c hc=>by rw [<-eY];exact mA (mA hc)
   have MK:S2 cW cB cQ cT cF cD cS cI cL b0 b1 ef eX hd m0 q0 m1 q1 0 0 0 0 Y H7:=by
    refine ⟨W0,W1,jv,jL,[],[],[],N4++N5,⟨MF,MH,MJ,JB,by rw [JB];decide,by rw [JA];decide,ME.mono uY,l0.mono uY⟩,⟨MG,MI,eq1,ET,by rw [ET];decide,by rw [ES];decide,G6.mono uY,l1.mono uY⟩,by decide,λ v hv=>(nomatch hv),?_⟩
    rw [JB,ET,<-eY]
    rw [MH,MJ,MI,eq1] at kX
    exact Led.perm (L:=[_]++([_]++(N5++(aU cW cB cQ W1++(N4++(aU cW cB cQ W0++(dF ef jv 0 []++(dF eX jL 0 []++Z)))))))) kX Jz
   have JD:(rm,HO.lst [.int ((m0:Int) - 1+q0),.int ((m1:Int) - 1+q1)])∈Y:=by rw [<-eY];exact mS
   have ql:(ws,HO.lst [.ref b0,.ref b1])∈Y:=by rw [<-eY,<-MF,<-MG];exact mC EF
   have yf:(rs,HO.lst [.ref ef,.ref eX])∈Y:=by rw [<-eY];exact mC JC
   have ML : ∀ {H':Hp},Led H' Y->bW K H' a (ns.map V.int):=λ h=>N8 (X:=[_]) (by rw [<-eY] at h;exact h)
   clear kX eY uY EF JC N8 JA JB ME ES ET G6 l0 l1 MF MG MH MI MJ eq1 Jq
   refine aA λ M1 K1 => ?_
   refine yz λ Lr gx => ?_
   have sq:=ML MK.rest
   walk_at "ge"
   obtain ⟨cs,hcs,hcl⟩:=BO ns none (some 70)
   refine IQ sq λ sl hsl => ?_
   rw [hcs]
   have st1:=MK.new (o := .lst (cs.map V.int)) hsl
   have JE:upd H7 sl (.lst (cs.map V.int)) sl=some (.lst (cs.map V.int)):=dG
   generalize upd H7 sl (.lst (cs.map V.int))=H8 at st1 JE ⊢
   clear MK sq hsl
   walk_at "ge"
   rw [List.length_map]
   refine ⟨_,rfl,by omega,by omega,gx.use ?_⟩
   rw [Int.toNat_natCast]
   clear gx JE hcs
   refine yC (λ i σ H' => ∃ (d0 d1:Int) (v3 v7 v8:Option V),S2 cW cB cQ cT cF cD cS cI cL b0 b1 ef eX hd m0 q0 m1 q1 d0 d1 i (2 * i) Y H' ∧ σ = [some (.ref a),some (.ref ws),some (.ref rs),v3,v4,some (.ref rm),some (.ref hd),v7,v8,none,none]) ⟨_,_,_,_,_,st1,rfl⟩ ?_ ?_
   ·clear st1 K1 k
    rintro i σ H9 hi ⟨d0,d1,v3,v7,v8,st,rfl⟩
    have sq:=ML st.rest
    obtain ⟨c,hat⟩ : ∃ c:Int,iB (ns.map V.int) (0+(i:Int))=some (.int c):=by
     have hj:(0+(i:Int)).toNat < ns.length:=by omega
     exact ⟨ns[(0+(i:Int)).toNat],sR (by omega) (by rw [List.getElem?_map,List.getElem?_eq_getElem hj];rfl)⟩
    refine vh ?_
    refine aA λ M1 K1 => ?_
    walk_at "ge"
    refine ⟨a,_,_,_,rfl,rfl,sq,hat,?_⟩
    walk_at "ge"
    refine st.mix (by omega) (by omega) (by decide) (by decide) λ d Df Qt st2 => ?_
    clear st sq
    walk_at "ge"
    refine K1.use ?_
    walk_at "cl"
    clear K1
    obtain ⟨z,ez⟩ : ∃ z,d % 2=z:=⟨_,rfl⟩
    rw [ez]
    have hz:z=0\/z=1:=by omega
    clear ez
    have sq:=ML st2.rest
    have dR:=st2.rest.get ql
    have jM:=st2.rest.get yf
    refine aA λ M1 K1 => ?_
    have go : ∀ e0 e1 D3,S2 cW cB cQ cT cF cD cS cI cL b0 b1 ef eX hd m0 q0 m1 q1 e0 e1 (i+1) (2 * i) Y D3->M1 [some (.ref a),some (.ref ws),some (.ref rs),v3,v4,some (.ref rm),some (.ref hd),some (.int (0+(i:Int))),some (.int z),none,none] D3:=by
     clear st2 sq dR jM
     intro e0 e1 D3 st3
     refine K1.use ?_
     clear K1
     refine yz λ Lr gx => ?_
     walk_at "ge"
     refine ⟨2,rfl,by decide,by decide,gx.use ?_⟩
     clear gx
     rw [show (2:Int).toNat=2 from rfl]
     refine yC (λ t σ H' => ∃ v3:Option V,S2 cW cB cQ cT cF cD cS cI cL b0 b1 ef eX hd m0 q0 m1 q1 e0 e1 (i+1) (2 * i+t) Y H' ∧ σ = [some (.ref a),some (.ref ws),some (.ref rs),v3,v4,some (.ref rm),some (.ref hd),some (.int (0+(i:Int))),some (.int z),none,none]) ⟨_,st3,rfl⟩ ?_ ?_
     ·clear st3
      rintro t σ MM ht ⟨v3,st,rfl⟩
      have dR:=st.rest.get ql
      have jM:=st.rest.get yf
      have Gy:t=0\/t=1:=by omega
      rcases Gy with rfl | rfl
      ·have aw:iB [V.ref b0,V.ref b1] (0+((0:Nat):Int))=some (V.ref b0):=rfl
       have ar:iB [V.ref ef,V.ref eX] (0+((0:Nat):Int))=some (V.ref ef):=rfl
       walk_at "ge"
       refine st.told (k:=0+(i:Int)) (by omega) (by omega) (by omega) (by omega) λ MN wD => ?_
       walk_at "ge"
       exact ⟨_,wD,rfl⟩
      ·have aw:iB [V.ref b0,V.ref b1] (0+((1:Nat):Int))=some (V.ref b1):=rfl
       have ar:iB [V.ref ef,V.ref eX] (0+((1:Nat):Int))=some (V.ref eX):=rfl
       walk_at "ge"
       refine st.swap.told (k:=0+(i:Int)) (by omega) (by omega) (by omega) (by omega) λ MN wD => ?_
       walk_at "ge"
       exact ⟨_,wD.swap,rfl⟩
     ·rintro σ MM ⟨v3,st,rfl⟩
      exact ⟨_,_,_,_,_,st,rfl⟩
    clear K1
    rcases hz with rfl | rfl
    ·walk_at "ge"
     refine ⟨a,_,_,_,rfl,rfl,sq,hat,?_⟩
     walk_at "ge"
     refine st2.Jy (by omega) (by omega) (by omega) λ e D3 st3 => ?_
     walk_at "ge"
     exact go _ _ _ st3
    ·walk_at "ge"
     refine ⟨a,_,_,_,rfl,rfl,sq,hat,?_⟩
     walk_at "ge"
     refine st2.swap.Jy (by omega) (by omega) (by omega) λ e D3 st3 => ?_
     walk_at "ge"
     exact go _ _ _ st3.swap
   ·rintro σ H9 ⟨d0,d1,v3,v7,v8,st,rfl⟩
    clear st1
    refine K1.use ?_
    clear K1
    refine aA λ M1 K1 => ?_
    refine yz λ Lr gx => ?_
    walk_at "ge"
    refine ⟨2,rfl,by decide,by decide,gx.use ?_⟩
    clear gx
    rw [show (2:Int).toNat=2 from rfl]
    refine yC (λ i σ H' => ∃ (d0 d1:Int) (v3 v9:Option V),S2 cW cB cQ cT cF cD cS cI cL b0 b1 ef eX hd m0 q0 m1 q1 d0 d1 (cs.length+i) (2 * cs.length+i) Y H' ∧ σ = [some (.ref a),some (.ref ws),some (.ref rs),v3,v4,some (.ref rm),some (.ref hd),v7,v8,v9,none]) ⟨_,_,_,_,st,rfl⟩ ?_ ?_
    ·clear st K1 k
     rintro i σ Df hi ⟨d0,d1,v3,v9,st,rfl⟩
     have dR:=st.rest.get ql
     have jM:=st.rest.get yf
     have Gy:i=0\/i=1:=by omega
     rcases Gy with rfl | rfl
     ·have aw:iB [V.ref b0,V.ref b1] (0+((0:Nat):Int))=some (V.ref b0):=rfl
      have ar:iB [V.ref ef,V.ref eX] (0+((0:Nat):Int))=some (V.ref ef):=rfl
      have am:iB [V.int ((m0:Int) - 1+q0),V.int ((m1:Int) - 1+q1)] (0+((0:Nat):Int))=some (V.int ((m0:Int) - 1+q0)):=rfl
      obtain ⟨pd,ck⟩:=st.row
      refine vh ?_
      refine aA λ M1 K1 => ?_
      walk_at "ge"
      refine ig ck (rw_made _ _) ?_
      walk_at "ge"
      refine K1.use ?_
      walk_at "cl"
      clear K1 ck jM
      have dp:=st.pos
      refine aA λ M1 K1 => ?_
      walk_at "ge"
      refine st.EE (by omega) (by decide) (by decide) λ D3 st2 => ?_
      clear dR
      have dR:=st2.rest.get ql
      walk_at "ge"
      refine st2.EE (by omega) (by decide) (by decide) λ MM st3 => ?_
      walk_at "ge"
      refine K1.use ?_
      walk_at "cl"
      clear K1 dR
      have dR:=st3.rest.get ql
      have jM:=st3.rest.get yf
      refine aA λ M1 K1 => ?_
      walk_at "ge"
      refine st3.made (by omega) (by omega) λ e MN De => ?_
      clear dR jM
      have dR:=De.rest.get ql
      have jM:=De.rest.get yf
      walk_at "ge"
      refine De.told (k:=0+((0:Nat):Int)) (by omega) (by omega) (by omega) (by omega) λ PZ wD => ?_
      walk_at "ge"
      refine K1.use ?_
      walk_at "cl"
      clear K1 dR jM
      have dR:=wD.rest.get ql
      walk_at "ge"
      refine wD.room λ P0 JF => ?_
      clear dR
      have MO:=JF.rest.get JD
      walk_at "ge"
      all_goals first | (exfalso;exact absurd rfl (by assumption)) | skip
      exact ⟨_,_,_,_,JF,rfl⟩
     ·have aw:iB [V.ref b0,V.ref b1] (0+((1:Nat):Int))=some (V.ref b1):=rfl
      have ar:iB [V.ref ef,V.ref eX] (0+((1:Nat):Int))=some (V.ref eX):=rfl
      have am:iB [V.int ((m0:Int) - 1+q0),V.int ((m1:Int) - 1+q1)] (0+((1:Nat):Int))=some (V.int ((m1:Int) - 1+q1)):=rfl
      obtain ⟨pd,ck⟩:=st.swap.row
      refine vh ?_
      refine aA λ M1 K1 => ?_
      walk_at "ge"
      refine ig ck (rw_made _ _) ?_
      walk_at "ge"
      refine K1.use ?_
      walk_at "cl"
      clear K1 ck jM
      have dp:=st.swap.pos
      refine aA λ M1 K1 => ?_
      walk_at "ge"
      refine st.swap.EE (by omega) (by decide) (by decide) λ D3 st2 => ?_
      clear dR
      have dR:=st2.rest.get ql
      walk_at "ge"
      refine st2.EE (by omega) (by decide) (by decide) λ MM st3 => ?_
      walk_at "ge"
      refine K1.use ?_
      walk_at "cl"
      clear K1 dR
      have dR:=st3.rest.get ql
      have jM:=st3.rest.get yf
      refine aA λ M1 K1 => ?_
      walk_at "ge"
      refine st3.made (by omega) (by omega) λ e MN De => ?_
      clear dR jM
      have dR:=De.rest.get ql
      have jM:=De.rest.get yf
      walk_at "ge"
      refine De.told (k:=0+((1:Nat):Int)) (by omega) (by omega) (by omega) (by omega) λ PZ wD => ?_
      walk_at "ge"
      refine K1.use ?_
      walk_at "cl"
      clear K1 dR jM
      have dR:=wD.rest.get ql
      walk_at "ge"
      refine wD.room λ P0 JF => ?_
      clear dR
      have MO:=JF.rest.get JD
      walk_at "ge"
      all_goals first | (exfalso;exact absurd rfl (by assumption)) | skip
      exact ⟨_,_,_,_,JF.swap,rfl⟩
    ·rintro σ Df ⟨d0,d1,v3,v9,st,rfl⟩
     refine K1.use ?_
     clear K1
     obtain ⟨ps,L5,wC,dY,MP⟩:=st.held
     refine aA λ M1 K1 => ?_
     refine forL λ Lr gx => ?_
     walk_at "ge"
     refine ⟨hd,rfl,⟨_,bW.of wC⟩,gx.use ?_⟩
     clear gx
     refine jQ ps (λ i σ H'=>H' = Df ∧ ∃ v10,σ = [some (.ref a),some (.ref ws),some (.ref rs),v3,v4,some (.ref rm),some (.ref hd),v7,v8,v9,v10]) ⟨rfl,none,rfl⟩ (λ i σ H' _ h => ?_) ?_ ?_
     ·rw [h.1];exact bW.of wC
     ·clear K1 k
      rintro i v σ H' hv ⟨rfl,v10,rfl⟩
      obtain ⟨t,l1,l2,d,rfl,ht,N9,hV⟩:=MP v (List.mem_of_getElem? hv)
      obtain ⟨V1,V2⟩:=hV _ _ dY λ c hc=>hc
      have Kn:=dY.get ht
      walk_at "ge"
      refine LG V1 V2 N9 N9 (b:=true) (iff_of_true rfl rfl) ?_
      walk_at "ge"
      exact ⟨rfl,_,rfl⟩
     ·rintro σ H' ⟨rfl,v10,rfl⟩
      refine K1.use ?_
      walk_at "ge"
      exact k _
theorem dD.no {C:Addr} {m qual:Str} {st:Stmt} {N ps:List Str} (D:dD K C m qual st) (S:b6 N ps (ai st))
  (hb : ∀ (kV doc pm:Value) (an:Option Addr) (cdv ct:Value) (us:List Value),us.length=ps.length->bindArgs (PySem.W.fnOf m qual (bD st) (aP st) (ai st) .none kV doc pm an cdv ct) ⟨us,[]⟩ = pure (ps.zip us)):(bH P w K mg base) 1 C m ps eV :=
 L2.dD.o6 D S (λ _ _ _ _ h=>h.elim) hb (λ _ _ _ _ _ _ _ _ _ _ h=>h.elim)
theorem GY {f:Addr} {fd:FuncData} (F:yx K "law" "law" vv f fd) (B:e9 mg) (T:(Txt K mg cN c2 cP cA cG c3 cC c4 cU c6 cT cF cD cS cI cL cB cQ cW)):(dQ P w K mg base) (mF P w) 9 f fd ["_law_script"] (sO K):=by
 have kW:=Def.no (P:=P) (w:=w) (mg:=mg) (base:=base) T.xN vq (by walk_at "us")
 have cy:=Def.no (P:=P) (w:=w) (mg:=mg) (base:=base) T.tK qB (by walk_at "us")
 have gX:=Def.no (P:=P) (w:=w) (mg:=mg) (base:=base) T.tF qA (by walk_at "us")
 have fE:=Def.no (P:=P) (w:=w) (mg:=mg) (base:=base) T.pZ n6 (by walk_at "us")
 have dj:=Def.no (P:=P) (w:=w) (mg:=mg) (base:=base) T.vQ sW (by walk_at "us")
 have xV:=Def.no (P:=P) (w:=w) (mg:=mg) (base:=base) T.GI Ed (by walk_at "us")
 have fZ:=Def.no (P:=P) (w:=w) (mg:=mg) (base:=base) T.qJ pK (by walk_at "us")
 have qd:=Def.no (P:=P) (w:=w) (mg:=mg) (base:=base) T.Cg Ao (by walk_at "us")
 have bq:=Def.no (P:=P) (w:=w) (mg:=mg) (base:=base) T.kP jI (by walk_at "us")
 have f7:=Def.no (P:=P) (w:=w) (mg:=mg) (base:=base) T.qK pM (by walk_at "us")
 have fY:=Def.no (P:=P) (w:=w) (mg:=mg) (base:=base) T.qH pJ (by walk_at "us")
 have nA:=Def.no (P:=P) (w:=w) (mg:=mg) (base:=base) T.Ay xD (by walk_at "us")
 have gZ:=dD.no (P:=P) (w:=w) (mg:=mg) (base:=base) T.tw qz (by walk_at "us")
 have eO:=dD.no (P:=P) (w:=w) (mg:=mg) (base:=base) T.oh mX (by walk_at "us")
 have eS:=dD.no (P:=P) (w:=w) (mg:=mg) (base:=base) T.oi m5 (by walk_at "us")
 have jo:=dD.no (P:=P) (w:=w) (mg:=mg) (base:=base) T.vH sV (by walk_at "us")
 have aT:=dD.no (P:=P) (w:=w) (mg:=mg) (base:=base) T.ni lU (by walk_at "us")
 have dN:=xQ (P:=P) (w:=w) (mg:=mg) (base:=base) T.vR B
 have xR:=Cr (P:=P) (w:=w) (mg:=mg) (base:=base) T.GH T
 have xP:=Ct (P:=P) (w:=w) (mg:=mg) (base:=base) T.GG T
 have tM:=Cu (P:=P) (w:=w) (mg:=mg) (base:=base) T.Ej T
 have tN:=Cv (P:=P) (w:=w) (mg:=mg) (base:=base) T.Ek T
 have qa:=Cw (P:=P) (w:=w) (mg:=mg) (base:=base) T.Cb T
 have tP:=Cz (P:=P) (w:=w) (mg:=mg) (base:=base) T.Eh T qa xP tM tN
 have eL:=AB (P:=P) (w:=w) (mg:=mg) (base:=base) T.n8 B T
 have fD:=AD (P:=P) (w:=w) (mg:=mg) (base:=base) T.pX B T
 have kR:=vY (P:=P) (w:=w) (mg:=mg) (base:=base) T.xH B
 have aI:=AE (P:=P) (w:=w) (mg:=mg) (base:=base) T.Cf T kR
 have uw:=CD (P:=P) (w:=w) (mg:=mg) (base:=base) T.Ep B T tP xR aI
 have nk:=xS (P:=P) (w:=w) (mg:=mg) (base:=base) T.As T
 have nq:=xT (P:=P) (w:=w) (mg:=mg) (base:=base) T.Au T
 have f6:=qb (P:=P) (w:=w) (mg:=mg) (base:=base) T.qF aI
 have jF:=CF (P:=P) (w:=w) (mg:=mg) (base:=base) T.Er B T nk nq
 have jE:=CG (P:=P) (w:=w) (mg:=mg) (base:=base) T.El T
 have fC:=AF (P:=P) (w:=w) (mg:=mg) (base:=base) T.pY B T
 have bw:=CH (P:=P) (w:=w) (mg:=mg) (base:=base) T.qE B T fC
 have nv:=xU (P:=P) (w:=w) (mg:=mg) (base:=base) T.Aw B T jE bw jo aT
 have dg:=tT (P:=P) (w:=w) (mg:=mg) (base:=base) T.vM B T bw aT
 have dZ:=tU (P:=P) (w:=w) (mg:=mg) (base:=base) T.nj B T
 have cM:=om (P:=P) (w:=w) (mg:=mg) (base:=base) T.jJ B T dZ
 have tW:=CJ (P:=P) (w:=w) (mg:=mg) (base:=base) T.En T
 have aC:=we (P:=P) (w:=w) (mg:=mg) (base:=base) T.xJ B T
 have bf:=qc (P:=P) (w:=w) (mg:=mg) (base:=base) T.jK B T cM
 have dc:=tV (P:=P) (w:=w) (mg:=mg) (base:=base) T.vL B T tW
 have ia:=qM (P:=P) (w:=w) (mg:=mg) (base:=base) T.tD T jE dc
 have cz:=qN (P:=P) (w:=w) (mg:=mg) (base:=base) T.tE B T aC dg xV bf nv dc
 have dm:=tY (P:=P) (w:=w) (mg:=mg) (base:=base) T.vN B T aC dg qd bf
 have gf:=qe (P:=P) (w:=w) (mg:=mg) (base:=base) T.qG B T
 have dw:=t6 (P:=P) (w:=w) (mg:=mg) (base:=base) T.vI B T aC
 have dz:=t9 (P:=P) (w:=w) (mg:=mg) (base:=base) T.vJ B T aC bw aT
 have ny:=xY (P:=P) (w:=w) (mg:=mg) (base:=base) T.Av B T eL fD
 have eE:=uc (P:=P) (w:=w) (mg:=mg) (base:=base) T.vK T ny
 have dM:=AH (P:=P) (w:=w) (mg:=mg) (base:=base) T.Ci T
 have qg:=Ez (P:=P) (w:=w) (mg:=mg) (base:=base) T.Jg B T dM fE
 have qh:=CO (P:=P) (w:=w) (mg:=mg) (base:=base) T.Cj B T gX
 have kT:=CQ (P:=P) (w:=w) (mg:=mg) (base:=base) T.xK B T dM qg qh
 have x9:=CS (P:=P) (w:=w) (mg:=mg) (base:=base) T.GJ B T dM qg kT
 have bI:=ue (P:=P) (w:=w) (mg:=mg) (base:=base) T.vO T aI
 have kU:=wj (P:=P) (w:=w) (mg:=mg) (base:=base) T.xM B T eO
 have cE:=uf (P:=P) (w:=w) (mg:=mg) (base:=base) T.vW B T bI aI aC kU x9
 have g8:=qO (P:=P) (w:=w) (mg:=mg) (base:=base) T.tG B T bI aI aC fY bq
 have gb:=CU (P:=P) (w:=w) (mg:=mg) (base:=base) T.qI B T bI aC nA bq fZ
 have nB:=ya (P:=P) (w:=w) (mg:=mg) (base:=base) T.Ax B T aI
 have dh:=uh (P:=P) (w:=w) (mg:=mg) (base:=base) T.vP B T nB aI
 have gY:=qP (P:=P) (w:=w) (mg:=mg) (base:=base) T.tH B T f6
 have g9:=qQ (P:=P) (w:=w) (mg:=mg) (base:=base) T.tL B T dh jF aC cy dj f7
 have gc:=qi (P:=P) (w:=w) (mg:=mg) (base:=base) T.qL B T gY dh jF aC cy kW dj gZ eS
 have bV:=GQ (P:=P) (w:=w) (mg:=mg) (base:=base) T.Es T
 have aK:=CW (P:=P) (w:=w) (mg:=mg) (base:=base) T.Az B
 have fF:=CY (P:=P) (w:=w) (mg:=mg) (base:=base) T.vS B T aK
 have jt:=EB (P:=P) (w:=w) (mg:=mg) (base:=base) T.Ck B T
 have jr:=EC (P:=P) (w:=w) (mg:=mg) (base:=base) T.Cm B T cz dm dw dz cE g8 gb g9 gc
 have bE:=yc (P:=P) (w:=w) (mg:=mg) (base:=base) T.vU B T jr
 have ju:=CZ (P:=P) (w:=w) (mg:=mg) (base:=base) T.Cn B T aK
 have dB:=C3 (P:=P) (w:=w) (mg:=mg) (base:=base) T.Co B T ia cE aK
 have jw:=C5 (P:=P) (w:=w) (mg:=mg) (base:=base) T.Cp B T bV dB cz dm aK jt bE
 have dO:=AL (P:=P) (w:=w) (mg:=mg) (base:=base) T.vV B T gf fF dw ju dz
 exact GX (P:=P) (w:=w) (mg:=mg) (base:=base) F B T uw dN eE bV jw dO bE dB
end
end My
theorem PySem.Challenge.cw_paneworks_k61_spaces_numbered_holds : PySem.Challenge.rw_paneworks_k61_spaces_numbered.Holds :=
 My.hA My.GY
#print axioms PySem.Challenge.cw_paneworks_k61_spaces_numbered_holds

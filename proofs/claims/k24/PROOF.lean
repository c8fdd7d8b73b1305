import PyProof.Rows.All
import Wide.All
import OpenK.AllK
import Wide.FinOn
import Lean
import PyProof.EqAt
import PyProof.EqKinds
import PyProof.TupleCall
import PySem.Challenge.RW_recut_k24_crossed
set_option compiler.extract_closed false
local macro_rules | `(tactic| omega)=>`(tactic| lia)
local macro_rules | `(tactic| walk_at "vis")=>`(tactic| first | exact Or.inl rfl | exact Or.inr (Or.inl rfl) | exact Or.inr (Or.inr rfl) | exact Or.inr rfl)
local macro_rules | `(tactic| walk_at "loc")=>`(tactic| first | exact .inl rfl | exact .inr rfl | assumption)
set_option Elab.async false
set_option linter.all false
set_option maxRecDepth 100000
namespace L2
open PySem PySem.Spec PyProof.Rows
noncomputable abbrev Key:=Sum Int Str
noncomputable def oN:Key->Value->Bool
 | .inl k,v=>Value.isInt k v
 | .inr x,v=>Value.isStrOf x v
noncomputable def NO (w:World):Key->Int
 | .inl k=>hashInt k
 | .inr x=>hashStr w x
theorem bL:∀{k:Key} {v:Value},oN k v=true->(∃i t,k=Sum.inl i/\v=Value.int i t)\/(∃x t,k=Sum.inr x/\v=Value.str x t)
 | .inl i,v,h=>by
  obtain⟨t,e⟩:=Value.isInt_shape (k:=i) (v:=v) h
  exact .inl ⟨i,t,rfl,e⟩
 | .inr x,v,h=>by
  obtain⟨t,e⟩:=Value.isStrOf_shape (x:=x) (v:=v) h
  exact .inr ⟨x,t,rfl,e⟩
theorem zV (i:Int) (t:Tok):oN (.inl i) (.int i t)=true:=by simp[oN,Value.isInt]
theorem zW (x:Str) (t:Tok):oN (.inr x) (.str x t)=true:=by simp[oN,Value.isStrOf]
theorem JY (a b:Int):decide ((Sum.inl a:Key)=Sum.inl b)=(a == b):=by
 by_cases e:a=b
 ·subst e;simp
 ·have h:¬(Sum.inl a:Key)=Sum.inl b:=λq=>e (Sum.inl.inj q)
  rw[decide_eq_false h]
  exact (beq_eq_false_iff_ne.mpr e).symm
theorem KC (a b:Str):decide ((Sum.inr a:Key)=Sum.inr b)=decide (a=b):=by
 by_cases e:a=b
 ·subst e;simp
 ·have h:¬(Sum.inr a:Key)=Sum.inr b:=λq=>e (Sum.inr.inj q)
  rw[decide_eq_false h,decide_eq_false e]
theorem JZ (a:Int) (b:Str):decide ((Sum.inl a:Key)=Sum.inr b)=false:=decide_eq_false (λq=>nomatch q)
theorem KB (a:Str) (b:Int):decide ((Sum.inr a:Key)=Sum.inl b)=false:=decide_eq_false (λq=>nomatch q)
noncomputable def bZ (prog:Program) (w:World):PySem.KeyKind prog w Key where
 is:=oN
 hash:=NO w
 inj:=λv a b ha hb=>by
  rcases bL ha with ⟨i,t,rfl,rfl⟩ | ⟨x,t,rfl,rfl⟩
  ·rcases bL hb with ⟨j,u,rfl,e⟩ | ⟨y,u,rfl,e⟩
   ·injection e with e1 _;rw[e1]
   ·exact nomatch e
  ·rcases bL hb with ⟨j,u,rfl,e⟩ | ⟨y,u,rfl,e⟩
   ·exact nomatch e
   ·injection e with e1 _;rw[e1]
 byValue:=λk v h=>by
  rcases bL h with ⟨i,t,rfl,rfl⟩ | ⟨x,t,rfl,rfl⟩ <;> rfl
 pyHash:=λhv h=>by
  rcases bL hv with ⟨i,t,rfl,rfl⟩ | ⟨x,t,rfl,rfl⟩
  ·exact wpAny_pyHash_int h
  ·exact wpAny_pyHash_str h
 eqBool:=λhu hv h=>by
  rcases bL hu with ⟨i,t,rfl,rfl⟩ | ⟨x,t,rfl,rfl⟩
  ·rcases bL hv with ⟨j,u,rfl,rfl⟩ | ⟨y,u,rfl,rfl⟩
   ·rw[JY] at h;exact wpAny_eqBool_int h
   ·rw[JZ] at h;exact SeqAt.EqAt.int_str i t y u _ _ _ _ h
  ·rcases bL hv with ⟨j,u,rfl,rfl⟩ | ⟨y,u,rfl,rfl⟩
   ·rw[KB] at h;exact SeqAt.EqAt.str_int x t j u _ _ _ _ h
   ·rw[KC] at h;exact wpAny_eqBool_str h
 «strs»:=λk x t v h=>by
  rcases bL h with ⟨i,u,rfl,e⟩ | ⟨y,u,rfl,e⟩
  ·exact nomatch e
  ·injection e with e1 _
   subst e1
   cases v <;> rfl
theorem uF (prog:Program) (w:World) (i:Int) (t:Tok):(bZ prog w).is (.inl i) (.int i t)=true:=zV i t
theorem uG (prog:Program) (w:World) (x:Str) (t:Tok):(bZ prog w).is (.inr x) (.str x t)=true:=zW x t
end L2
namespace L2
open PySem PySem.Spec PyProof.Rows
inductive V where
 | non | bl (b:Bool) | int (i:Int) | str (x:Str) | byt (b:Array UInt8) | flt (b:UInt64) | ref (a:Addr) | ty (n:String)
 deriving DecidableEq
noncomputable def RelV:V->Value->Prop
 | .non,u=>u=Value.none
 | .bl b,u=>u=Value.bool b
 | .int i,u=>∃t,u=Value.int i t
 | .str x,u=>∃t,u=Value.str x t
 | .byt b,u=>∃t,u=Value.bytes b t
 | .flt b,u=>∃t,u=Value.float b t
 | .ref a,u=>u=Value.ref a
 | .ty n,u=>u=Value.type n
noncomputable abbrev Vals:List V->List Value->Prop:=Paired RelV
theorem Vals.length {xs:List V} {us:List Value} (r:Vals xs us):xs.length=us.length:=Paired.length r
theorem Vals.get:∀{xs:List V} {us:List Value} {i:Nat} {x:V},Vals xs us->xs[i]? = some x->∃u,us[i]? = some u/\RelV x u
 | _,_,_,_,.nil,e=>by simp at e
 | _,_,0,_,.cons r _,e=>by simp at e;subst e;exact⟨_,rfl,r⟩
 | _,_,i+1,x,.cons _ t,e=>by
  obtain⟨u,h1,h2⟩:=Vals.get (i:=i) (x:=x) t (by simpa using e)
  exact⟨u,by simpa using h1,h2⟩
theorem Vals.append:∀{xs ys:List V} {us ws:List Value},Vals xs us->Vals ys ws->Vals (xs++ys) (us++ws)
 | _,_,_,_,.nil,s=>s
 | _,_,_,_,.cons r t,s=>.cons r (Vals.append t s)
theorem Vals.take:∀{xs:List V} {us:List Value} (n:Nat),Vals xs us->Vals (xs.take n) (us.take n)
 | _,_,0,_=>.nil
 | _,_,_+1,.nil=>.nil
 | _,_,n+1,.cons r t=>.cons r (Vals.take n t)
theorem Vals.drop:∀{xs:List V} {us:List Value} (n:Nat),Vals xs us->Vals (xs.drop n) (us.drop n)
 | _,_,0,r=>r
 | _,_,_+1,.nil=>.nil
 | _,_,n+1,.cons _ t=>Vals.drop n t
noncomputable def RelO:Option V->Option Value->Prop
 | some v,some u=>RelV v u
 | none,none=>True
 | _,_=>False
noncomputable def KV {κ:Type}:List (κ × V)->List (κ × Value)->Prop:=Paired λ(p:κ × V) (q:κ × Value)=>p.1=q.1/\RelV p.2 q.2
noncomputable def kV:Key->V
 | .inl i=>.int i
 | .inr x=>.str x
inductive HO where
  | lst (xs:List V)
  | tup (xs:List V)
  | dK (kvs:List (Key × V)) | dT (kvs:List (List Key × V))
  | set (S:Int->Bool) (n:Nat)
  | ins (C dx:Addr) (fs:List (Str × V))
  | own (x:Addr)
  | xd (fs:List (Str × V))
  | met (f x:Addr)
  | rng (lo hi:Int)
  | frz (o:Obj) (u:HO)
  | tbl (ps:Array Value)
  | ext (φ:Heap->Prop)
noncomputable abbrev Hp:=Addr->Option HO
noncomputable def upd (H:Hp) (a:Addr) (o:HO):Hp:=λb=>if b=a then some o else H b
theorem aQ {H:Hp} {a:Addr} {o:HO}:upd H a o a=some o:=by unfold upd;rw[if_pos rfl]
theorem aE {H:Hp} {a b:Addr} {o:HO} (h:b≠a):upd H a o b=H b:=by unfold upd;rw[if_neg h]
theorem cG {H:Hp} {a b:Addr} {o u:HO} (h:H a=some o) (h':H b=some u) (d:o≠u):a≠b:=by
 intro e;subst e;rw[h] at h';exact d (Option.some.inj h')
theorem aH {H:Hp} {a b:Addr} {o:HO} (h:H a=some o) (h':H b=none):a≠b:=by
 intro e;subst e;rw[h] at h';cases h'
section
variable (P:Program) (w:World)
noncomputable def ObjOk (H:Hp) (h:Heap) (a:Addr):HO->Prop
 | .lst xs=>xs.length<=sizeLine/\∃(its:List Value) (n:Nat),Vals xs its/\h.get? a=some { cls:=.type "list",data:=.seq its.toArray n }
 | .tup xs=>xs.length<=sizeLine/\∃its:List Value,Vals xs its/\IsTup h a its.toArray
 | .dK kvs=>kvs.length<=sizeLine/\(a == sysModules)=false/\∃vs,KV kvs vs/\h.DictOf (bZ P w) a vs
 | .dT kvs=>kvs.length<=sizeLine/\(a == sysModules)=false/\∃xs:List (List Key × Addr × Value),
   Paired (λ(p:List Key × V) (q:List Key × Addr × Value)=>p.1=q.1/\H q.2.1=some (.tup (p.1.map kV))/\RelV p.2 q.2.2) kvs xs /\
   ∃o es ep,h.get? a=some o/\o.ExactDict/\o.data = .dict es ep/\es.toList=xs.map (entryOfKey (tupleKind (bZ P w)))/\(xs.map (·.1)).Nodup
 | .set S n=>h.SetOf (intKind P w) a S n
 | .ins C dx fs=>H dx=some (.own a)/\fs.length<=1000/\dx≠a/\h.get? a=some (PySem.W.instObj C dx) /\
   ∃mA,h.Ns1 dx mA/\(∀f,RelO (fs.lookup f) (mA f))/\PySem.Within mA (fs.map (·.1))
 | .own _=>∃o,h.get? a=some o
 | .xd fs=>∃mA,h.Ns1 a mA/\∀f,RelO (fs.lookup f) (mA f)
 | .rng lo hi=>∃t u v,h.get? a=some { cls:=.type "range",data:=.fields #[.int lo t,.int hi u,.int 1 v] }
 | .frz o u=>h.get? a=some o/\ObjOk H h a u
 | .tbl ps=>h.get? a=some { cls:=.none,data:=.fields ps }
 | .met f x=>h.get? a=some (PySem.W.methodObj (.ref f) (.ref x))
 | .ext φ=>φ h/\(∃o,h.get? a=some o)/\∀h1 h2:Heap,φ h1->(∀o,h1.get? a=some o->h2.get? a=some o)->φ h2
noncomputable def HOk (H:Hp) (h:Heap):Prop:=∀a o,H a=some o->ObjOk P w H h a o
end
section
variable {P:Program} {w:World} {H H':Hp} {h h':Heap} {a:Addr} {o:HO}
theorem ObjOk.lt (x:ObjOk P w H h a o):a<h.objs.size:=by
 cases o with
 | lst xs=>obtain⟨_,_,_,_,e⟩:=x;exact Heap.lt_size e
 | tup xs=>obtain⟨_,_,_,p⟩:=x;exact p.lt
 | dK kvs=>obtain⟨_,_,_,_,o,_,_,e,_⟩:=x;exact Heap.lt_size e
 | dT kvs=>obtain⟨_,_,_,_,o,_,_,e,_⟩:=x;exact Heap.lt_size e
 | set S n=>obtain⟨o,_,_,_,e,_⟩:=x;exact Heap.lt_size e
 | ins C dx fs=>obtain⟨_,_,_,e,_⟩:=x;exact Heap.lt_size e
 | own y=>obtain⟨_,e⟩:=x;exact Heap.lt_size e
 | xd fs=>obtain⟨_,⟨_,_,_,e,_⟩,_⟩:=x;exact Heap.lt_size e
 | rng lo hi=>obtain⟨_,_,_,e⟩:=x;exact Heap.lt_size e
 | frz ob u=>obtain⟨e,_⟩:=x;exact Heap.lt_size e
 | tbl ps=>exact Heap.lt_size (show h.get? a=some _ from x)
 | met f y=>exact Heap.lt_size (show h.get? a=some _ from x)
 | ext φ=>obtain⟨_,⟨_,e⟩,_⟩:=x;exact Heap.lt_size e
theorem Paired.mapP {α β:Type} {F G:α->β->Prop}:∀{l₁:List α} {l₂:List β},Paired F l₁ l₂->(∀a b,F a b->G a b)->Paired G l₁ l₂
 | _,_,.nil,_=>.nil
 | _,_,.cons r t,f=>.cons (f _ _ r) (Paired.mapP t f)
theorem ObjOk.stay (x:ObjOk P w H h a o) (k:∀b u,(b=a\/H b=some (.own a))->h.get? b=some u->h'.get? b=some u)
  (ho:∀b,H b=some (.own a)->H' b=some (.own a)) (ht:∀b xs,H b=some (.tup xs)->H' b=some (.tup xs)):ObjOk P w H' h' a o:=by
 induction o with
 | lst xs=>obtain⟨z,its,n,r,e⟩:=x;exact⟨z,its,n,r,k _ _ (.inl rfl) e⟩
 | tup xs=>obtain⟨z,its,r,ob,e,c⟩:=x;exact⟨z,its,r,ob,k _ _ (.inl rfl) e,c⟩
 | dK kvs=>obtain⟨z,y,vs,r,ob,es,ep,e,c⟩:=x;exact⟨z,y,vs,r,ob,es,ep,k _ _ (.inl rfl) e,c⟩
 | dT kvs =>
  obtain⟨z,y,xs,r,ob,es,ep,e,c⟩:=x
  exact⟨z,y,xs,Paired.mapP r λp q z=>⟨z.1,ht _ _ z.2.1,z.2.2⟩,ob,es,ep,k _ _ (.inl rfl) e,c⟩
 | set S n=>obtain⟨ob,es,ep,t,e,c⟩:=x;exact⟨ob,es,ep,t,k _ _ (.inl rfl) e,c⟩
 | ins C dx fs =>
  obtain⟨d,z,ne,e,mA,⟨od,es,ep,e2,c⟩,r⟩:=x
  exact⟨ho _ d,z,ne,k _ _ (.inl rfl) e,mA,⟨od,es,ep,k _ _ (.inr d) e2,c⟩,r⟩
 | own y=>obtain⟨ob,e⟩:=x;exact⟨ob,k _ _ (.inl rfl) e⟩
 | xd fs=>obtain⟨mA,⟨od,es,ep,e,c⟩,r⟩:=x;exact⟨mA,⟨od,es,ep,k _ _ (.inl rfl) e,c⟩,r⟩
 | rng lo hi=>obtain⟨t,u,v,e⟩:=x;exact⟨t,u,v,k _ _ (.inl rfl) e⟩
 | frz ob u ih=>obtain⟨e,q⟩:=x;exact⟨k _ _ (.inl rfl) e,ih q⟩
 | tbl ps =>
  have e:h.get? a=some { cls:=.none,data:=.fields ps }:=x
  show h'.get? a=some { cls:=.none,data:=.fields ps }
  exact k a _ (.inl rfl) e
 | met f y =>
  have e:h.get? a=some (PySem.W.methodObj (.ref f) (.ref y)):=x
  show h'.get? a=some (PySem.W.methodObj (.ref f) (.ref y))
  exact k a _ (.inl rfl) e
 | ext φ=>obtain⟨p,⟨o,e⟩,st⟩:=x;exact⟨st _ _ p λo q=>k _ _ (.inl rfl) q,⟨o,k _ _ (.inl rfl) e⟩,st⟩
theorem HOk.lt (x:HOk P w H h) (e:H a=some o):a<h.objs.size:=(x a o e).lt
theorem HOk.fresh (x:HOk P w H h) (e:h.objs.size<=a):H a=none:=by
 cases q:H a with
 | none=>rfl
 | some u=>exact absurd (Nat.lt_of_lt_of_le (x.lt q) e) (Nat.lt_irrefl _)
theorem HOk.kept (x:HOk P w H h) (k:∀b u,h.get? b=some u->h'.get? b=some u):HOk P w H h':=λa o e =>
 (x a o e).stay (λb u _ q=>k b u q) (λ_ q=>q) λ_ _ q=>q
theorem HOk.laid (x:HOk P w H h) (k:∀b u,h.get? b=some u->h'.get? b=some u) (hp:h.objs.size<=a) (new:ObjOk P w (upd H a o) h' a o):HOk P w (upd H a o) h':=λb u e=>by
 have hn:=x.fresh hp
 by_cases hb:b=a
 ·subst hb;rw[aQ] at e;cases e;exact new
 ·rw[aE hb] at e
  exact (x b u e).stay (λc v _ q=>k c v q) (λc q=>by rw[aE (aH q hn)];exact q) λc xs q=>by rw[aE (aH q hn)];exact q
end
noncomputable def Rd (H:Hp) (a:Addr) (u:HO):Prop:=H a=some u\/∃o,H a=some (.frz o u)
theorem Rd.ok {P:Program} {w:World} {H:Hp} {h:Heap} {a:Addr} {u:HO} (r:Rd H a u) (x:HOk P w H h):ObjOk P w H h a u:=by
 rcases r with r | ⟨o,r⟩
 ·exact x a u r
 ·obtain⟨_,q⟩:=x a _ r
  exact q
noncomputable def Mut:Option HO->Prop
 | some (.lst _)=>True
 | some (.dK _)=>True
 | some (.dT _)=>True
 | some (.set _ _)=>True
 | some (.ins _ _ _)=>True
 | some (.ext _)=>True
 | _=>False
section
variable {P:Program} {w:World} {H:Hp} {h h':Heap} {x e:Addr} {o':HO}
theorem HOk.write (ok:HOk P w H h) (mu:Mut (H x)) (he:e=x\/H e=some (.own x)) (k:∀b u,b≠e->h.get? b=some u->h'.get? b=some u) (heo:∃u,h'.get? e=some u)
  (new:ObjOk P w (upd H x o') h' x o'):HOk P w (upd H x o') h':=λb u q=>by
 have nown:∀c y,H c=some (.own y)->c≠x:=λc y r z=>by subst z;rw[r] at mu;exact mu
 have ntup:∀c xs,H c=some (.tup xs)->c≠x:=λc xs r z=>by subst z;rw[r] at mu;exact mu
 by_cases hb:b=x
 ·subst hb;rw[aQ] at q;cases q;exact new
 ·rw[aE hb] at q
  by_cases hbe:b=e
  ·have q':H b=some (.own x):=by
    rcases he with z | z
    ·exact absurd (hbe.trans z) hb
    ·rw[hbe];exact z
   rw[q] at q';cases q'
   obtain⟨v,hv⟩:=heo
   exact⟨v,by rw[hbe];exact hv⟩
  ·refine (ok b u q).stay (λc v hc r=>k c v ?_ r) (λc r=>by rw[aE (nown c b r)];exact r) λc xs r=>by rw[aE (ntup c xs r)];exact r
   rcases hc with rfl | hc
   ·exact hbe
   ·rintro rfl
    rcases he with z | z
    ·exact nown c b hc z
    ·rw[hc] at z;cases z;exact hb rfl
end
structure Un (fs ex:List Addr) (H H':Hp) (h h':Heap):Prop where
 keep:∀b o,h.get? b=some o->H b=none->b ∉ fs->b ∉ ex->h'.get? b=some o
 slot:∀b o,h.get? b=some o->H b=none->b∈fs->b ∉ ex->∃sl,h'.get? b=some { o with slots:=sl }
 free:∀b o,h.get? b=some o->H b=none->b ∉ ex->H' b=none
 there:∀b o,h.get? b=some o->b ∉ ex->∃o',h'.get? b=some o'
 tups:∀b xs,H b=some (.tup xs)->H' b=some (.tup xs)
 frzs:∀b o u,H b=some (.frz o u)->H' b=some (.frz o u)
 tbls:∀b ps,H b=some (.tbl ps)->∃more,H' b=some (.tbl (ps++more))
section
variable {fs fs' ex ex':List Addr} {H H1 H2:Hp} {h h1 h2 h':Heap} {a x e:Addr} {o:HO}
theorem Un.any (u:Un fs ex H H1 h h1) {b:Addr} {ob:Obj} (q:h.get? b=some ob) (n:H b=none) (hx:b ∉ ex):∃sl,h1.get? b=some { ob with slots:=sl }:=by
 by_cases hb:b∈fs
 ·exact u.slot b ob q n hb hx
 ·exact⟨ob.slots,u.keep b ob q n hb hx⟩
theorem Un.kept (k:∀b u,h.get? b=some u->h'.get? b=some u):Un fs ex H H h h' :=
 ⟨λb ob q _ _ _=>k b ob q,λb ob q _ _ _=>⟨ob.slots,k b ob q⟩,λ_ _ _ n _=>n,λb ob q _=>⟨ob,k b ob q⟩,λ_ _ q=>q,λ_ _ _ q=>q,λ_ ps q=>⟨#[],by rw[q];simp⟩⟩
theorem Un.refl:Un fs ex H H h h:=Un.kept λ_ _ q=>q
theorem Un.laid (k:∀b u,h.get? b=some u->h'.get? b=some u) (hp:h.objs.size<=a) (hn:H a=none):Un fs ex H (upd H a o) h h' where
 keep:=λb u q _ _ _=>k b u q
 slot:=λb u q _ _ _=>⟨u.slots,k b u q⟩
 free:=λb u q n _=>by rw[aE (Nat.ne_of_lt (Nat.lt_of_lt_of_le (Heap.lt_size q) hp))];exact n
 there:=λb u q _=>⟨u,k b u q⟩
 tups:=λb xs q=>by rw[aE (aH q hn)];exact q
 frzs:=λb u xs q=>by rw[aE (aH q hn)];exact q
 tbls:=λb ps q=>⟨#[],by rw[aE (aH q hn),q];simp⟩
theorem Un.write (mu:Mut (H x)) (he:e=x\/H e=some (.own x)) (k:∀b u,b≠e->h.get? b=some u->h'.get? b=some u) (heo:∃u,h'.get? e=some u):Un fs ex H (upd H x o) h h':=by
 have hx:∀b,H b=none->b≠x:=λb n z=>by subst z;rw[n] at mu;exact mu
 have hb:∀b,H b=none->b≠e:=λb n z=>by
  subst z
  rcases he with r | r
  ·exact hx b n r
  ·rw[n] at r;cases r
 have hm:∀b u,H b=some u->¬Mut (some u)->b≠x:=λb u q nm z=>by subst z;rw[q] at mu;exact nm mu
 refine⟨λb u q n _ _=>k b u (hb b n) q,λb u q n _ _=>⟨u.slots,k b u (hb b n) q⟩,λb u q n _=>by rw[aE (hx b n)];exact n,λb u q _=>?_,
  λb xs q=>by rw[aE (hm b _ q λz=>z)];exact q,λb u xs q=>by rw[aE (hm b _ q λz=>z)];exact q,λb ps q=>⟨#[],by rw[aE (hm b _ q λz=>z),q];simp⟩⟩
 by_cases hbe:b=e
 ·subst hbe;exact heo
 ·exact⟨u,k b u hbe q⟩
theorem Un.mono (u:Un fs ex H H1 h h1) (hs:∀b∈fs,b∈fs') (hx:∀b∈ex,b∈ex'):Un fs' ex' H H1 h h1 :=
 ⟨λb ob q n hb he=>u.keep b ob q n (λz=>hb (hs b z)) λz=>he (hx b z),λ_ _ q n _ he=>u.any q n λz=>he (hx _ z),λb ob q n he=>u.free b ob q n λz=>he (hx b z),λb ob q he=>u.there b ob q λz=>he (hx b z),u.tups,u.frzs,u.tbls⟩
end
noncomputable def trk (h:Heap) (H:Hp):List Addr:=(List.range h.objs.size).filter λa=>(H a).isSome
noncomputable def pR (h:Heap) (H:Hp):Heap:=PySem.W.hideAll h (trk h H)
theorem zS (h:Heap) (H:Hp):(pR h H).objs.size=h.objs.size:=PySem.W.hideAll_size _ _
theorem tV {h:Heap} {H:Hp} {b:Addr} {o:Obj} (e:h.get? b=some o) (n:H b=none):(pR h H).get? b=some o :=
 PySem.W.hideAll_get _ e λhm=>by
  have q:(H b).isSome=true:=(List.mem_filter.mp hm).2
  rw[n] at q;simp at q
theorem yI {h:Heap} {H:Hp} {b:Addr} {o:Obj} (e:(pR h H).get? b=some o):h.get? b=some o/\H b=none:=by
 have e':h.get? b=some o:=PySem.W.of_hideAll (trk h H) e
 refine⟨e',?_⟩
 cases q:H b with
 | none=>rfl
 | some x =>
  have hm:b∈trk h H:=List.mem_filter.mpr ⟨List.mem_range.mpr (Heap.lt_size e'),by simp[q]⟩
  have z:(pR h H).get? b=none:=PySem.W.hideAll_none (trk h H) hm
  rw[z] at e;cases e
noncomputable def FI (g h:Heap) (L:Addr):List (Addr × Obj):=(List.range h.objs.size).filterMap λa=>if a=L\/(g.get? a).isSome=true then none else (h.get? a).map λo=>(a,o)
noncomputable def rest (g h:Heap) (L d:Addr):List (Addr × Obj):=(FI g h L).filter λp=>decide (p.1≠d)
end L2
namespace L2
open PySem PySem.Spec PyProof.Rows
structure Mod (K:PySem.W.Frag) (mg:Str->Option Value) (base:Heap):Prop where
 kin:K.In base
 glob:base.Ns mainGlobals mg
 blt:∃mb,base.Ns builtinsNs mb/\∀x:Str,x≠"__name__"->mb x=bootBuiltins x
 nolimit:base.NoLimit
structure Cx where
 prog:Program
 w:World
 K:PySem.W.Frag
 mg:Str->Option Value
 base:Heap
 A:Around
 N:List Str
 s₀:Shared
 H₀:Hp
 env:Env
 outer:List Env
 stack:List Env
 ex:List Addr
 fn:Str->Bool
 calm:Bool
 pn:List (Addr × Obj)
 xe:Value->Shared->Prop
noncomputable def frs (l:List Env):List Addr:=l.filterMap (·.frame)
noncomputable abbrev Cx.fs (X:Cx):List Addr:=frs X.outer
noncomputable def Vis (sc:Scope) (x:Str):Prop:=sc.names.lookup x=some .local\/sc.names.lookup x=some .cell\/sc.names.lookup x=some .free
noncomputable def Loc (sc:Scope) (x:Str):Prop:=sc.names.lookup x=some .local\/sc.names.lookup x=some .cell
noncomputable def LS (env:Env) (h:Heap) (m:Str->Option Value) (x:Str) (u:Value):Prop :=
 (env.kindOf x=some .local/\m x=some u)\/((env.kindOf x=some .cell\/env.kindOf x=some .free)/\∃c,env.cells.lookup x=some c/\h.IsCell c (some u))
structure Cx.Ok (X:Cx):Prop where
 mod:Mod X.K X.mg X.base
 kind:X.env.scope.kind = .function
 glob:X.env.globals=mainGlobals
 blt:X.env.builtins=builtinsNs
 above:X.s₀.heap.objs.size<=X.env.locals
 inj:∀x y c,X.env.cells.lookup x=some c->X.env.cells.lookup y=some c->x=y
 has:∀x,(X.env.kindOf x=some .cell\/X.env.kindOf x=some .free)->∃c,X.env.cells.lookup x=some c
 cab:∀x c,X.fn x=true->X.env.cells.lookup x=some c->X.s₀.heap.objs.size<=c
 hd:X.calm=true->X.A.handled=none
 frames:X.A.frames=some X.stack
 stk:X.stack=X.outer\/(X.stack=X.env::X.outer/\X.env.frame=some X.env.locals)
 exf:∀b∈X.ex,b≠X.env.locals/\∀x c,X.env.cells.lookup x=some c->c≠b
 bs:∀b o,X.base.get? b=some o->X.s₀.heap.get? b=some o/\X.H₀ b=none
 bsz:X.base.objs.size<=X.s₀.heap.objs.size
 noex:∀b o,X.base.get? b=some o->b ∉ X.ex
 exfs:∀b∈X.ex,b ∉ X.fs
 funs:X.s₀.heap.FunFrames X.base X.outer
 frf:∀b∈X.fs,X.H₀ b=none
structure Inv (X:Cx) (pins:List (Addr × Obj)) (σ:List (Option V)) (H:Hp) (s:Shared):Prop where
 ok:X.Ok
 os:s.os=X.s₀.os
 bare:AllBare s.gens
 base:Un X.fs X.ex X.H₀ H X.s₀.heap s.heap
 loc:∃m,s.heap.Ns X.env.locals m/\∀(i:Nat) (x:Str) (v:V),X.N[i]? = some x->σ[i]? = some (some v)->Vis X.env.scope x->∃u,RelV v u/\LS X.env s.heap m x u
 cell:∀x c,X.env.cells.lookup x=some c->∃v,s.heap.IsCell c v
 free:H X.env.locals=none
 freeC:∀x c,X.env.cells.lookup x=some c->H c=none
 pin:∀p∈X.pn++pins,s.heap.get? p.1=some p.2/\H p.1=none/\p.1≠X.env.locals/\p.1 ∉ X.fs/\∀v,p.2.data≠.cell v
 hok:HOk X.prog X.w H s.heap
 len:σ.length=X.N.length
section
variable {X:Cx} {pins:List (Addr × Obj)} {σ:List (Option V)} {H H':Hp} {s:Shared} {h':Heap}
theorem Cx.Ok.nofr (ok:X.Ok) {b:Addr} {o:Obj} (e:X.base.get? b=some o):b ∉ X.fs:=λhb=>by
 have:=(ok.funs.mem hb).1
 rw[e] at this;cases this
theorem Inv.bs (I:Inv X pins σ H s):∀b o,X.base.get? b=some o->s.heap.get? b=some o/\H b=none:=λb o e =>
 ⟨I.base.keep b o (I.ok.bs b o e).1 (I.ok.bs b o e).2 (I.ok.nofr e) (I.ok.noex b o e),I.base.free b o (I.ok.bs b o e).1 (I.ok.bs b o e).2 (I.ok.noex b o e)⟩
theorem Inv.bk (I:Inv X pins σ H s):∀b o,X.base.get? b=some o->s.heap.get? b=some o:=λb o e=>(I.bs b o e).1
theorem Inv.mod (I:Inv X pins σ H s):Mod X.K X.mg X.base:=I.ok.mod
theorem Inv.kIn (I:Inv X pins σ H s):X.K.In s.heap:=I.ok.mod.kin.keeps I.bk
theorem Inv.lt (I:Inv X pins σ H s):X.env.locals<s.heap.objs.size:=let ⟨_,hn,_⟩:=I.loc;hn.lt
theorem Inv.sz (I:Inv X pins σ H s):X.s₀.heap.objs.size<=s.heap.objs.size:=Nat.le_trans I.ok.above (Nat.le_of_lt I.lt)
theorem Inv.nofs (I:Inv X pins σ H s) {a:Addr} (h:s.heap.objs.size<=a):a ∉ X.fs:=λhb=>by
 obtain⟨_,o,ho,_⟩:=I.ok.funs.mem hb
 exact absurd (Nat.lt_of_lt_of_le (Heap.lt_size ho) (Nat.le_trans I.sz h)) (Nat.lt_irrefl _)
theorem Inv.cne (I:Inv X pins σ H s):∀x c,X.env.cells.lookup x=some c->c≠X.env.locals:=λx c e z=>by
 obtain⟨v,o,ho,hd⟩:=I.cell x c e
 obtain⟨m,⟨o',es,ep,ho',hd',_⟩,_⟩:=I.loc
 rw[z,ho'] at ho;cases ho;rw[hd'] at hd;cases hd
theorem Inv.funs (I:Inv X pins σ H s):s.heap.FunFrames X.base X.outer:=by
 have all:∀(l:List Env),(∀b∈frs l,b∈X.fs)->X.s₀.heap.FunFrames X.base l->s.heap.FunFrames X.base l:=by
  intro l
  induction l with
  | nil=>intro _ _;trivial
  | cons env r ih =>
   intro hs hl
   obtain⟨hk,⟨L,o,hf,hn,ho,hd⟩,hr⟩:=hl
   have hL:L∈X.fs:=hs L (by unfold frs;rw[List.filterMap_cons,hf];exact List.mem_cons_self)
   obtain⟨sl,e⟩:=I.base.slot L o ho (I.ok.frf L hL) hL λz=>I.ok.exfs L z hL
   exact⟨hk,⟨L,_,hf,hn,e,hd⟩,ih (λb hb=>hs b (by unfold frs;rw[List.filterMap_cons,hf];exact List.mem_cons_of_mem _ hb)) hr⟩
 exact all X.outer (λ_ hb=>hb) I.ok.funs
theorem Inv.stack (I:Inv X pins σ H s):s.heap.FunFrames X.base X.stack:=by
 rcases I.ok.stk with e | ⟨e,hf⟩
 ·rw[e];exact I.funs
 ·rw[e]
  obtain⟨m,hn,_⟩:=I.loc
  refine .cons (by rw[I.ok.kind];decide) hf hn ?_ I.funs
  exact Heap.get?_none_of_le (Nat.le_trans I.ok.bsz I.ok.above)
theorem Inv.stkSub (I:Inv X pins σ H s):∀b∈frs X.stack,b∈X.env.locals::X.fs:=λb hb=>by
 rcases I.ok.stk with e | ⟨e,hf⟩
 ·rw[e] at hb;exact List.mem_cons_of_mem _ hb
 ·rw[e] at hb
  unfold frs at hb
  rw[List.filterMap_cons,hf] at hb
  exact hb
theorem Inv.stkFree (I:Inv X pins σ H s):∀b∈frs X.stack,H b=none:=λb hb=>by
 rcases List.mem_cons.mp (I.stkSub b hb) with e | hb
 ·rw[e];exact I.free
 ·obtain⟨_,o,ho,_⟩:=I.ok.funs.mem hb
  exact I.base.free b o ho (I.ok.frf b hb) λz=>I.ok.exfs b z hb
theorem Inv.step {g':Array GenState} {t':Nat} {d':Drawn} {ch:List Addr} (I:Inv X pins σ H s)
  (hch:∀b∈ch,(b∈X.ex\/X.s₀.heap.objs.size<=b)/\b≠X.env.locals/\(∀x c,X.env.cells.lookup x=some c->c≠b)/\∀p∈X.pn++pins,p.1≠b)
  (keep:∀b o,b≠X.env.locals->b ∉ X.fs->b ∉ ch->s.heap.get? b=some o->H b=none->h'.get? b=some o)
  (slot:∀b o,b≠X.env.locals->b∈X.fs->b ∉ ch->s.heap.get? b=some o->H b=none->∃sl,h'.get? b=some { o with slots:=sl }) (free:∀b o,b ∉ ch->s.heap.get? b=some o->H b=none->H' b=none)
  (there:∀b o,b ∉ ch->s.heap.get? b=some o->∃o',h'.get? b=some o')
  (tups:∀b xs,H b=some (.tup xs)->H' b=some (.tup xs)) (frzs:∀b o u,H b=some (.frz o u)->H' b=some (.frz o u)) (tbls:∀b ps,H b=some (.tbl ps)->∃more,H' b=some (.tbl (ps++more)))
  (ns:∀m,s.heap.Ns X.env.locals m->h'.Ns X.env.locals m) (hok:HOk X.prog X.w H' h') (hg:AllBare g') :
  Inv X pins σ H' { s with heap:=h',gens:=g',drawn:=d',toks:=t' }:=by
 have neL:∀b o,X.s₀.heap.get? b=some o->b≠X.env.locals:=λb o e=>Nat.ne_of_lt (Nat.lt_of_lt_of_le (Heap.lt_size e) I.ok.above)
 have neC:∀b o,X.s₀.heap.get? b=some o->b ∉ X.ex->b ∉ ch:=λb o e hx hb=>by
  rcases (hch b hb).1 with z | z
  ·exact hx z
  ·exact absurd (Nat.lt_of_lt_of_le (Heap.lt_size e) z) (Nat.lt_irrefl _)
 have cellK:∀x c,X.env.cells.lookup x=some c->∀v,s.heap.IsCell c v->h'.IsCell c v:=λx c e v ⟨o,ho,hd⟩=>by
  have nch:c ∉ ch:=λz=>(hch c z).2.2.1 x c e rfl
  by_cases hc:c∈X.fs
  ·obtain⟨sl,q⟩:=slot c o (I.cne x c e) hc nch ho (I.freeC x c e)
   exact⟨_,q,hd⟩
  ·exact⟨o,keep c o (I.cne x c e) hc nch ho (I.freeC x c e),hd⟩
 refine⟨I.ok,I.os,hg,⟨λb o e n hb hx=>?_,λb o e n hb hx=>?_,λb o e n hx=>?_,λb o e hx=>?_,λb xs e=>tups b xs (I.base.tups b xs e),λb o xs e=>frzs b o xs (I.base.frzs b o xs e),λb ps e=>?_⟩,?_,λx c e=>?_,?_,λx c e=>?_,λp hp=>?_,hok,I.len⟩
 ·exact keep b o (neL b o e) hb (neC b o e hx) (I.base.keep b o e n hb hx) (I.base.free b o e n hx)
 ·obtain⟨sl,e1⟩:=I.base.slot b o e n hb hx
  obtain⟨sl',e2⟩:=slot b _ (neL b o e) hb (neC b o e hx) e1 (I.base.free b o e n hx)
  exact⟨sl',e2⟩
 ·obtain⟨o',e1⟩:=I.base.there b o e hx
  exact free b o' (neC b o e hx) e1 (I.base.free b o e n hx)
 ·obtain⟨o',e1⟩:=I.base.there b o e hx
  exact there b o' (neC b o e hx) e1
 ·obtain⟨m1,e1⟩:=I.base.tbls b ps e
  obtain⟨m2,e2⟩:=tbls b _ e1
  exact⟨m1++m2,by rw[e2,Array.append_assoc]⟩
 ·obtain⟨m,hn,hl⟩:=I.loc
  refine⟨m,ns m hn,λi x v e1 e2 e3=>?_⟩
  obtain⟨u,r,l⟩:=hl i x v e1 e2 e3
  refine⟨u,r,?_⟩
  rcases l with l | ⟨k,c,e,z⟩
  ·exact .inl l
  ·exact .inr ⟨k,c,e,cellK x c e _ z⟩
 ·obtain⟨v,z⟩:=I.cell x c e
  exact⟨v,cellK x c e v z⟩
 ·obtain⟨m,⟨o,_,_,ho,_⟩,_⟩:=I.loc
  exact free _ o (λz=>(hch _ z).2.1 rfl) ho I.free
 ·obtain⟨v,o,ho,hd⟩:=I.cell x c e
  exact free c o (λz=>(hch c z).2.2.1 x c e rfl) ho (I.freeC x c e)
 ·obtain⟨e,n,ne,nf,d⟩:=I.pin p hp
  have nch:p.1 ∉ ch:=λz=>(hch p.1 z).2.2.2 p hp rfl
  exact⟨keep p.1 p.2 ne nf nch e n,free p.1 p.2 nch e n,ne,nf,d⟩
theorem Inv.un {t':Nat} (I:Inv X pins σ H s) (u:Un X.fs [] H H' s.heap h') (hok:HOk X.prog X.w H' h'):Inv X pins σ H' { s with heap:=h',toks:=t' }:=by
 obtain⟨m,⟨o,es,ep,ho,r⟩,_⟩:=id I.loc
 obtain⟨sl,hL⟩:=u.any ho I.free (by simp)
 exact I.step (g':=s.gens) (d':=s.drawn) (ch:=[]) (λ_ z=>nomatch z) (λb o _ hb _ e n=>u.keep b o e n hb (by simp)) (λb o _ hb _ e n=>u.slot b o e n hb (by simp)) (λb o _ e n=>u.free b o e n (by simp)) (λb o _ e=>u.there b o e (by simp)) u.tups u.frzs u.tbls (λm' hm=>by
  obtain⟨o',es',ep',ho',r'⟩:=hm
  rw[ho] at ho';cases ho'
  exact⟨_,es',ep',hL,r'⟩) hok I.bare
theorem Inv.call {g':Array GenState} {t':Nat} {d':Drawn} {ch:List Addr} (I:Inv X pins σ H s) (u:Un (frs X.stack) ch H H' s.heap h') (hok:HOk X.prog X.w H' h') (hg:AllBare g')
  (hch:∀b∈ch,(b∈X.ex\/X.s₀.heap.objs.size<=b)/\b≠X.env.locals/\(∀x c,X.env.cells.lookup x=some c->c≠b)/\∀p∈X.pn++pins,p.1≠b) :
  Inv X pins σ H' { s with heap:=h',gens:=g',drawn:=d',toks:=t' }:=by
 obtain⟨m,⟨o,es,ep,ho,r⟩,_⟩:=id I.loc
 obtain⟨sl,hL⟩:=u.any ho I.free λz=>(hch _ z).2.1 rfl
 exact I.step (ch:=ch) hch (λb o hL hb hc e n=>u.keep b o e n (λz=>(List.mem_cons.mp (I.stkSub b z)).elim hL hb) hc) (λb o _ _ hc e n=>u.any e n hc) (λb o hc e n=>u.free b o e n hc) (λb o hc e=>u.there b o e hc) u.tups u.frzs u.tbls (λm' hm=>by
  obtain⟨o',es',ep',ho',r'⟩:=hm
  rw[ho] at ho';cases ho'
  exact⟨_,es',ep',hL,r'⟩) hok hg
theorem Inv.turned {t':Nat} {it:Addr} (I:Inv X pins σ H s) (k:∀b o,b≠it->s.heap.get? b=some o->h'.get? b=some o) (hn:H it=none) (hL:it≠X.env.locals)
  (h1:it∈X.ex\/X.s₀.heap.objs.size<=it) (h2:∀x c,X.env.cells.lookup x=some c->c≠it) (h3:∀p∈X.pn++pins,p.1≠it):Inv X pins σ H { s with heap:=h',toks:=t' }:=by
 have nit:∀b u,H b=some u->b≠it:=λb u e z=>by rw[z,hn] at e;cases e
 refine I.step (g':=s.gens) (d':=s.drawn) (ch:=[it]) (λb hb=>?_) (λb o _ _ hc e _=>k b o (λz=>hc (by simp[z])) e) (λb o _ _ hc e _=>⟨o.slots,k b o (λz=>hc (by simp[z])) e⟩) (λ_ _ _ _ n=>n)
  (λb o hc e=>⟨o,k b o (λz=>hc (by simp[z])) e⟩) (λ_ _ e=>e) (λ_ _ _ e=>e) (λb ps e=>⟨#[],by rw[e];simp⟩) (λm hm=>?_) (λb u e=>?_) I.bare
 ·have e:b=it:=by simpa using hb
  subst e
  exact⟨h1,hL,h2,h3⟩
 ·obtain⟨o,es,ep,ho,r⟩:=hm
  exact⟨o,es,ep,k _ o (Ne.symm hL) ho,r⟩
 ·refine (I.hok b u e).stay (λc v hc q=>k c v ?_ q) (λ_ q=>q) λ_ _ q=>q
  rcases hc with z | z
  ·rw[z];exact nit b u e
  ·exact nit c _ z
theorem Inv.tok (I:Inv X pins σ H s) (t:Nat):Inv X pins σ H { s with toks:=t }:=I.un (h':=s.heap) (t':=t) Un.refl I.hok
theorem Inv.kept {t':Nat} (I:Inv X pins σ H s) (k:∀b u,s.heap.get? b=some u->h'.get? b=some u):Inv X pins σ H { s with heap:=h',toks:=t' }:=I.un (Un.kept k) (I.hok.kept k)
theorem Inv.laid {a:Addr} {o:HO} {t':Nat} (I:Inv X pins σ H s) (k:∀b u,s.heap.get? b=some u->h'.get? b=some u) (hp:s.heap.objs.size<=a) (new:ObjOk X.prog X.w (upd H a o) h' a o) :
  Inv X pins σ (upd H a o) { s with heap:=h',toks:=t' }:=I.un (Un.laid k hp (I.hok.fresh hp)) (I.hok.laid k hp new)
theorem Inv.write {x e:Addr} {o:HO} {t':Nat} (I:Inv X pins σ H s) (mu:Mut (H x)) (he:e=x\/H e=some (.own x)) (k:∀b u,b≠e->s.heap.get? b=some u->h'.get? b=some u) (heo:∃u,h'.get? e=some u)
  (new:ObjOk X.prog X.w (upd H x o) h' x o):Inv X pins σ (upd H x o) { s with heap:=h',toks:=t' }:=I.un (Un.write mu he k heo) (I.hok.write mu he k heo new)
theorem Inv.pins_of {pins':List (Addr × Obj)} (I:Inv X pins σ H s) (h:∀p∈pins',s.heap.get? p.1=some p.2/\H p.1=none/\p.1≠X.env.locals/\p.1 ∉ X.fs/\∀v,p.2.data≠.cell v):Inv X pins' σ H s :=
 ⟨I.ok,I.os,I.bare,I.base,I.loc,I.cell,I.free,I.freeC,λp hp=>(List.mem_append.mp hp).elim (λz=>I.pin p (List.mem_append_left _ z)) (h p),I.hok,I.len⟩
theorem oT {N:List Str} (hN:N.Nodup) {i j:Nat} {x:Str} (a:N[i]? = some x) (b:N[j]? = some x):i=j:=by
 obtain⟨h1,e1⟩:=List.getElem?_eq_some_iff.mp a
 obtain⟨h2,e2⟩:=List.getElem?_eq_some_iff.mp b
 exact (List.getElem_inj hN).mp (e1.trans e2.symm)
theorem qY {M:Model} {A:Around} {E:Value->Shared->Prop} {i:Nat} {x:Str} {v:V} {u:Value} {Q:Unit->Shared->Prop} (I:Inv X pins σ H s) (hN:X.N.Nodup) (hi:X.N[i]? = some x) (hx:Loc X.env.scope x) (r:RelV v u)
  (h:∀s',Inv X pins (σ.set i (some v)) H s'->(∃a,Heap.SameBut a s.heap s'.heap/\(a=X.env.locals\/X.env.cells.lookup x=some a))->Q () s') (hf:X.fn x=true\/X.env.scope.names.lookup x=some .local:=by walk_at "loc"):wpAny M A (storeName X.env x u) Q E s:=by
 obtain⟨m,hn,hl⟩:=id I.loc
 have hcls:(X.env.scope.kind == .class || (X.env.scope.kind == .module && X.env.locals != X.env.globals))=false:=by rw[I.ok.kind];rfl
 have hiσ:i<σ.length:=by rw[I.len];exact (List.getElem?_eq_some_iff.mp hi).1
 have cne:=I.cne
 have tracked:∀{a:Addr} {h':Heap},(∃o,s.heap.get? a=some o/\H a=none)->Heap.SameBut a s.heap h'->HOk X.prog X.w H h':=λ{a h'} ha hs b ob e=>by
  obtain⟨_,_,hfree⟩:=ha
  refine (I.hok b ob e).stay (λc w' hc q=>(hs.2 c ?_).trans q) (λ_ q=>q) λ_ _ q=>q
  rintro rfl
  rcases hc with rfl | hc
  ·rw[hfree] at e;cases e
  ·rw[hfree] at hc;cases hc
 rcases hx with hk | hk
 ·refine wpAny_storeName_local hk hn (λh' hn' hs=>?_) hcls
  obtain⟨oL,_,_,hoL,_⟩:=id hn
  refine h _ ⟨I.ok,I.os,I.bare,⟨λb o e n hb hx=>?_,λb o e n hb hx=>?_,I.base.free,λb o e hx=>?_,I.base.tups,I.base.frzs,I.base.tbls⟩,⟨_,hn',λj y v' e1 e2 e3=>?_⟩,λy c e=>?_,I.free,I.freeC,λp hp=>?_,tracked ⟨oL,hoL,I.free⟩ hs,by simpa using I.len⟩ ⟨_,hs,.inl rfl⟩
  ·exact (hs.2 b (Nat.ne_of_lt (Nat.lt_of_lt_of_le (Heap.lt_size e) I.ok.above))).trans (I.base.keep b o e n hb hx)
  ·obtain⟨sl,e1⟩:=I.base.slot b o e n hb hx
   exact⟨sl,(hs.2 b (Nat.ne_of_lt (Nat.lt_of_lt_of_le (Heap.lt_size e) I.ok.above))).trans e1⟩
  ·obtain⟨o',e1⟩:=I.base.there b o e hx
   exact⟨o',(hs.2 b (Nat.ne_of_lt (Nat.lt_of_lt_of_le (Heap.lt_size e) I.ok.above))).trans e1⟩
  ·by_cases hj:j=i
   ·subst hj
    rw[hi] at e1;cases e1
    rw[List.getElem?_set_self hiσ] at e2
    cases e2
    exact⟨u,r,.inl ⟨hk,by simp⟩⟩
   ·rw[List.getElem?_set_ne (Ne.symm hj)] at e2
    obtain⟨u',r',q⟩:=hl j y v' e1 e2 e3
    refine⟨u',r',?_⟩
    rcases q with ⟨k,e⟩ | ⟨k,c,e,z⟩
    ·refine .inl ⟨k,?_⟩
     have:y≠x:=λe=>hj (oT hN e1 (e ▸ hi))
     simp[this,e]
    ·exact .inr ⟨k,c,e,z.sameBut hs (cne y c e)⟩
  ·obtain⟨w',z⟩:=I.cell y c e
   exact⟨w',z.sameBut hs (cne y c e)⟩
  ·obtain⟨e,n,ne,nf,d⟩:=I.pin p hp
   exact⟨(hs.2 p.1 ne).trans e,n,ne,nf,d⟩
 ·have hfn:X.fn x=true:=by
   rcases hf with z | z
   ·exact z
   ·rw[z] at hk;cases hk
  obtain⟨c,hc⟩:=I.ok.has x (.inl hk)
  obtain⟨w',z⟩:=I.cell x c hc
  refine wpAny_storeName_cell I.ok.kind hk hc z (λh' hc' hs=>?_)
  obtain⟨oc,hoc,hocd⟩:=id z
  refine h { s with heap:=h' } ⟨I.ok,I.os,I.bare,⟨λb o e n hb hx=>?_,λb o e n hb hx=>?_,I.base.free,λb o e hx=>?_,I.base.tups,I.base.frzs,I.base.tbls⟩,⟨m,hn.sameBut hs (Ne.symm (cne x c hc)),λj y v' e1 e2 e3=>?_⟩,λy c' e=>?_,I.free,I.freeC,λp hp=>?_,tracked ⟨oc,hoc,I.freeC x c hc⟩ hs,by simpa using I.len⟩ ⟨c,hs,.inr hc⟩
  ·exact (hs.2 b (Nat.ne_of_lt (Nat.lt_of_lt_of_le (Heap.lt_size e) (I.ok.cab x c hfn hc)))).trans (I.base.keep b o e n hb hx)
  ·obtain⟨sl,e1⟩:=I.base.slot b o e n hb hx
   exact⟨sl,(hs.2 b (Nat.ne_of_lt (Nat.lt_of_lt_of_le (Heap.lt_size e) (I.ok.cab x c hfn hc)))).trans e1⟩
  ·obtain⟨o',e1⟩:=I.base.there b o e hx
   exact⟨o',(hs.2 b (Nat.ne_of_lt (Nat.lt_of_lt_of_le (Heap.lt_size e) (I.ok.cab x c hfn hc)))).trans e1⟩
  ·by_cases hj:j=i
   ·subst hj
    rw[hi] at e1;cases e1
    rw[List.getElem?_set_self hiσ] at e2
    cases e2
    exact⟨u,r,.inr ⟨.inl hk,c,hc,hc'⟩⟩
   ·rw[List.getElem?_set_ne (Ne.symm hj)] at e2
    obtain⟨u',r',q⟩:=hl j y v' e1 e2 e3
    refine⟨u',r',?_⟩
    rcases q with q | ⟨k,c',e,z'⟩
    ·exact .inl q
    ·refine .inr ⟨k,c',e,z'.sameBut hs ?_⟩
     rintro rfl
     exact hj (oT hN e1 (I.ok.inj _ _ _ e hc ▸ hi))
  ·by_cases hcc:c'=c
   ·subst hcc;exact⟨_,hc'⟩
   ·obtain⟨w2,z2⟩:=I.cell y c' e
    exact⟨w2,z2.sameBut hs hcc⟩
  ·obtain⟨e,n,ne,nf,d⟩:=I.pin p hp
   refine⟨(hs.2 p.1 ?_).trans e,n,ne,nf,d⟩
   intro q
   rw[q,hoc] at e
   have q':oc=p.2:=Option.some.inj e
   exact d w' (by rw[<-q'];exact hocd)
theorem pH {M:Model} {A:Around} {E:Value->Shared->Prop} {i:Nat} {x:Str} {v:V} {u:Value} {Q:Unit->Shared->Prop} (I:Inv X pins σ H s) (hN:X.N.Nodup) (hi:X.N[i]? = some x) (hx:Loc X.env.scope x) (r:RelV v u)
  (h:∀s',Inv X pins (σ.set i (some v)) H s'->Q () s') (hf:X.fn x=true\/X.env.scope.names.lookup x=some .local:=by walk_at "loc"):wpAny M A (storeName X.env x u) Q E s :=
 qY I hN hi hx r (λs' I' _=>h s' I') hf
theorem Inv.call' {s':Shared} {ch:List Addr} (I:Inv X pins σ H s) (ho:s'.os=s.os) (u:Un (frs X.stack) ch H H' s.heap s'.heap) (hok:HOk X.prog X.w H' s'.heap) (hg:AllBare s'.gens)
  (hch:∀b∈ch,(b∈X.ex\/X.s₀.heap.objs.size<=b)/\b≠X.env.locals/\(∀x c,X.env.cells.lookup x=some c->c≠b)/\∀p∈X.pn++pins,p.1≠b):Inv X pins σ H' s':=by
 obtain⟨h',g',d',t',o'⟩:=s'
 have e:o'=s.os:=ho
 subst e
 exact I.call (g':=g') (t':=t') (d':=d') u hok hg hch
end
noncomputable abbrev XK:=Value->Option Addr->Hp->Prop
noncomputable abbrev St:=List (Option V)
noncomputable abbrev VK:=V->Hp->Prop
noncomputable abbrev TE:=St->Hp->VK->Prop
noncomputable abbrev TT:=St->Hp->(Bool->Hp->Prop)->Prop
noncomputable abbrev TA:=St->Hp->(List V->Hp->Prop)->Prop
structure Ends where
 nx:St->Hp->Prop
 rt:VK
 bk:St->Hp->Prop:=λ_ _=>False
 ct:St->Hp->Prop:=λ_ _=>False
noncomputable abbrev TS:=Ends->St->Hp->Prop
noncomputable def EP (X:Cx) (pins:List (Addr × Obj)) (σ:St) (Q:VK) (u:Value) (s':Shared):Prop:=∃v H',Inv X pins σ H' s'/\RelV v u/\Q v H'
noncomputable def TP (X:Cx) (pins:List (Addr × Obj)) (σ:St) (Q:Bool->Hp->Prop) (b:Bool) (s':Shared):Prop:=∃H',Inv X pins σ H' s'/\Q b H'
noncomputable def AP (X:Cx) (pins:List (Addr × Obj)) (σ:St) (Q:List V->Hp->Prop) (us:List Value) (s':Shared):Prop:=∃vs H',Inv X pins σ H' s'/\Vals vs us/\Q vs H'
noncomputable def SP (X:Cx) (pins:List (Addr × Obj)) (D:Ends) (f:Flow) (s':Shared):Prop :=
 match f with
 | .next=>∃σ' H',Inv X pins σ' H' s'/\D.nx σ' H'
 | .brk=>∃σ' H',Inv X pins σ' H' s'/\D.bk σ' H'
 | .cont=>∃σ' H',Inv X pins σ' H' s'/\D.ct σ' H'
 | .ret u=>∃v σ' H',Inv X pins σ' H' s'/\RelV v u/\D.rt v H'
noncomputable def PE (X:Cx) (e:Expr) (t:TE):Prop :=
 ∀(pins:List (Addr × Obj)) (s:Shared) (σ:St) (H:Hp) (Q:VK),Inv X pins σ H s->t σ H Q->wpAny (model X.prog X.w) X.A (eval e X.env) (EP X pins σ Q) X.xe s
noncomputable def PT (X:Cx) (e:Expr) (t:TT):Prop :=
 ∀(pins:List (Addr × Obj)) (s:Shared) (σ:St) (H:Hp) (Q:Bool->Hp->Prop),Inv X pins σ H s->t σ H Q->wpAny (model X.prog X.w) X.A (isTrue e X.env (eval e X.env)) (TP X pins σ Q) X.xe s
noncomputable def PW (X:Cx) (e:Expr) (t:TT):Prop :=
 ∀(whole:Sem Value) (pins:List (Addr × Obj)) (s:Shared) (σ:St) (H:Hp) (Q:Bool->Hp->Prop),Inv X pins σ H s->t σ H Q->wpAny (model X.prog X.w) X.A (isTrue e X.env whole) (TP X pins σ Q) X.xe s
theorem PW.pt {X:Cx} {e:Expr} {t:TT} (h:PW X e t):PT X e t:=h _
noncomputable def PA (X:Cx) (es:List Expr) (t:TA):Prop :=
 ∀(pos:Pos) (pins:List (Addr × Obj)) (s:Shared) (σ:St) (H:Hp) (Q:List V->Hp->Prop),Inv X pins σ H s->t σ H Q->wpAny (model X.prog X.w) X.A (spliced (backTo pos (starEach es X.env))) (AP X pins σ Q) X.xe s
noncomputable def PS (X:Cx) (st:Stmt) (t:TS):Prop :=
 ∀(pins:List (Addr × Obj)) (s:Shared) (σ:St) (H:Hp) (D:Ends),Inv X pins σ H s->t D σ H->wpAny (model X.prog X.w) X.A (exec st X.env) (SP X pins D) X.xe s
noncomputable def PSs (X:Cx) (st:List Stmt) (t:TS):Prop :=
 ∀(pins:List (Addr × Obj)) (s:Shared) (σ:St) (H:Hp) (D:Ends),Inv X pins σ H s->t D σ H->wpAny (model X.prog X.w) X.A (execs st X.env) (SP X pins D) X.xe s
theorem thn {α:Type} {t:Sem α} {Q Q':α->Shared->Prop} {M:Model} {A:Around} {E:Value->Shared->Prop} {s:Shared} (h:wpAny M A t Q E s) (hQ:∀a s,Q a s->Q' a s):wpAny M A t Q' E s:=wpAny_mono h hQ λ_ _ x=>x
end L2
namespace L2
open PySem PySem.Spec PyProof.Rows
section
variable {X:Cx}
noncomputable def NJ (i:Nat):TE:=λσ H Q=>∃v,σ[i]? = some (some v)/\Q v H
noncomputable def tC (v:V):TE:=λ_ H Q=>Q v H
theorem wH {i:Nat} {x:Str} {pos:Pos} (hN:X.N[i]? = some x) (hv:Vis X.env.scope x) (hd:(x == ("__debug__":Str))=false:=by decide) (hcd:(x == ("__classdict__":Str))=false:=by decide):PE X (.Name x pos) (NJ i):=by
 intro pins s σ H Q I h
 obtain⟨v,e,h⟩:=h
 obtain⟨m,hn,hl⟩:=I.loc
 obtain⟨u,r,l⟩:=hl i x v hN e hv
 have fin:EP X pins σ Q u s:=⟨v,H,I,r,h⟩
 rcases l with ⟨hk,hm⟩ | ⟨hk,c,hc,hcell⟩
 ·exact wpAny_Name (wpAny_loadName_local I.ok.kind hk hn hm fin) hd
 ·rcases hk with hk | hk
  ·exact wpAny_Name (wpAny_loadName_cell I.ok.kind hk hc hcell fin) hd
  ·exact wpAny_Name (wpAny_loadName_free I.ok.kind hk hc hcell fin hcd) hd
theorem wG {i j pos}:PE X (.Constant (.int i) j pos) (tC (.int i)):=λ_ _ _ H _ I h=>wpAny_Constant_int ⟨.int i,H,I.tok _,⟨_,rfl⟩,h⟩
theorem MQ {b j pos}:PE X (.Constant (.bool b) j pos) (tC (.bl b)):=λ_ _ _ H _ I h=>Constant_bool ⟨.bl b,H,I,rfl,h⟩
theorem DV {j pos}:PE X (.Constant .none j pos) (tC .non):=λ_ _ _ H _ I h=>Constant_none ⟨.non,H,I,rfl,h⟩
theorem KS {x j pos}:PE X (.Constant (.str x) j pos) (tC (.str x)):=λ_ _ _ H _ I h=>Calls.Constant_str ⟨.str x,H,I.tok _,⟨_,rfl⟩,h⟩
noncomputable def Gl (X:Cx) (x:Str):Prop:=X.env.kindOf x=some .globalImplicit
theorem fR {E:Value->Shared->Prop} {pins:List (Addr × Obj)} {s:Shared} {σ:St} {H:Hp} {x:Str} {u:Value} {pos:Pos} {Q:Value->Shared->Prop} (I:Inv X pins σ H s) (hg:Gl X x) (hm:X.mg x=some u) (h:Q u s)
  (hd:(x == ("__debug__":Str))=false:=by decide):wpAny (model X.prog X.w) X.A (eval (.Name x pos) X.env) Q E s :=
 Calls.Name_function_global I.ok.kind hg (Calls.loadGlobal_global (by rw[I.ok.glob];exact I.mod.glob.keeps I.bk) hm h) hd
theorem gM {E:Value->Shared->Prop} {pins:List (Addr × Obj)} {s:Shared} {σ:St} {H:Hp} {x:Str} {u:Value} {pos:Pos} {Q:Value->Shared->Prop} (I:Inv X pins σ H s) (hg:Gl X x) (hm:X.mg x=none) (hv:bootBuiltins x=some u) (h:Q u s)
  (hn:x≠"__name__":=by decide) (hd:(x == ("__debug__":Str))=false:=by decide):wpAny (model X.prog X.w) X.A (eval (.Name x pos) X.env) Q E s:=by
 obtain⟨mb,h1,h2⟩:=I.mod.blt
 exact Calls.Name_function_global I.ok.kind hg (Calls.loadGlobal_builtin (by rw[I.ok.glob];exact I.mod.glob.keeps I.bk) hm (by rw[I.ok.blt];exact h1.keeps I.bk) ((h2 x hn).trans hv) h) hd
theorem sM {x:Str} {v:V} {u:Value} {pos:Pos} (hg:Gl X x) (hm:X.mg x=some u) (r:RelV v u) (hd:(x == ("__debug__":Str))=false:=by decide):PE X (.Name x pos) (tC v) :=
 λ_ _ _ H _ I h=>fR I hg hm ⟨v,H,I,r,h⟩ hd
theorem yK {x:Str} {v:V} {u:Value} {pos:Pos} (hg:Gl X x) (hm:X.mg x=none) (hv:bootBuiltins x=some u) (r:RelV v u) (hn:x≠"__name__":=by decide) (hd:(x == ("__debug__":Str))=false:=by decide):PE X (.Name x pos) (tC v) :=
 λ_ _ _ H _ I h=>gM I hg hm hv ⟨v,H,I,r,h⟩ hn hd
variable {a b:Expr} {ta tb:TE} {pos:Pos}
noncomputable def tB (t:TE):TT:=λσ H Q=>t σ H λx H1=>∃c,x = .bl c/\Q c H1
theorem LB {e:Expr} {t:TE} (h:PE X e t) (he:∀whole,isTrue e X.env whole=(do let v <-whole;standAt e.pos;holding [v] (truthy v)):=by intro _;rfl):PT X e (tB t):=by
 intro pins s σ H Q I hw
 refine isTrue_plain (thn (h pins s σ H _ I hw) λv s1 ⟨x,H1,I1,r1,q1⟩=>?_) (he _)
 obtain⟨d,rfl,q⟩:=q1
 cases r1
 exact wpAny_truthy_bool ⟨H1,I1,q⟩
variable {tA tB':TT} {rest:List Expr}
noncomputable def NV (t u:TT):TT:=λσ H Q=>t σ H λc H1=>if c=true then u σ H1 Q else Q false H1
noncomputable def tOr (t u:TT):TT:=λσ H Q=>t σ H λc H1=>if c=true then Q true H1 else u σ H1 Q
noncomputable def OB (t:TT):TT:=λσ H Q=>t σ H λc H1=>Q (!c) H1
theorem HM (ha:PT X a tA):PW X (.BoolOp .And [a] pos) tA:=by
 intro wh pins s σ H Q I h
 refine isTrue_and (thn (ha pins s σ H Q I h) λc s1 e=>?_)
 cases c with
 | true=>exact isTrue_and_nil e
 | false=>exact e
theorem LD (ha:PT X a tA):PW X (.BoolOp .Or [a] pos) tA:=by
 intro wh pins s σ H Q I h
 refine isTrue_or (thn (ha pins s σ H Q I h) λc s1 e=>?_)
 cases c with
 | false=>exact isTrue_or_nil e
 | true=>exact e
theorem LC (ha:PT X a tA) (hb:PW X (.BoolOp .And (b::rest) pos) tB'):PW X (.BoolOp .And (a::b::rest) pos) (NV tA tB'):=by
 intro wh pins s σ H Q I h
 refine isTrue_and (thn (ha pins s σ H _ I h) λc s1 ⟨H1,I1,q1⟩=>?_)
 cases c with
 | true=>exact hb wh pins s1 σ H1 Q I1 q1
 | false=>exact⟨H1,I1,q1⟩
theorem MV (ha:PT X a tA) (hb:PW X (.BoolOp .Or (b::rest) pos) tB'):PW X (.BoolOp .Or (a::b::rest) pos) (tOr tA tB'):=by
 intro wh pins s σ H Q I h
 refine isTrue_or (thn (ha pins s σ H _ I h) λc s1 ⟨H1,I1,q1⟩=>?_)
 cases c with
 | true=>exact⟨H1,I1,q1⟩
 | false=>exact hb wh pins s1 σ H1 Q I1 q1
theorem LA (ha:PT X a tA):PT X (.UnaryOp .Not a pos) (OB tA):=by
 intro pins s σ H Q I h
 exact isTrue_not (ha pins s σ H (λc H1=>Q (!c) H1) I h)
noncomputable def NA (ta tb:TE):TE:=λσ H Q=>ta σ H λx H1=>∃c,x = .bl c/\if c=true then tb σ H1 Q else Q (.bl false) H1
noncomputable def NG (ta:TE):TE:=λσ H Q=>ta σ H λx H1=>∃c,x = .bl c/\Q (.bl (!c)) H1
theorem KR {op} {t:TE} (h:PE X a t):PE X (.BoolOp op [a] pos) t:=λpins s σ H Q I hw=>BoolOp_one (h pins s σ H Q I hw)
theorem KP (ha:PE X a ta) (hb:PE X (.BoolOp .And (b::rest) pos) tb):PE X (.BoolOp .And (a::b::rest) pos) (NA ta tb):=by
 intro pins s σ H Q I h
 refine BoolOp_and (thn (ha pins s σ H _ I h) λv s1 ⟨x,H1,I1,r1,q1⟩=>?_)
 obtain⟨c,rfl,q1⟩:=q1
 cases r1
 refine wpAny_truthy_bool ?_
 cases c with
 | true=>exact hb pins s1 σ H1 Q I1 q1
 | false=>exact⟨.bl false,H1,I1,rfl,q1⟩
theorem KQ (ha:PE X a ta):PE X (.UnaryOp .Not a pos) (NG ta):=by
 intro pins s σ H Q I h
 refine UnaryOp_ (thn (ha pins s σ H _ I h) λv s1 ⟨x,H1,I1,r1,q1⟩=>?_)
 obtain⟨c,rfl,q1⟩:=q1
 cases r1
 exact not_of (wpAny_truthy_bool ⟨.bl (!c),H1,I1,rfl,q1⟩)
end
end L2
namespace L2
open PySem PySem.Spec PyProof.Rows
noncomputable def SqL (K:PySem.W.Frag) (H:Hp) (a:Addr) (xs:List V):Prop :=
 Rd H a (.lst xs) \/
  ∃(o:Obj) (its:Array Value) (n:Nat),K.lookup a=some o/\o.cls = .type "list"/\o.dict=none/\o.data = .seq its n/\its.size<=sizeLine/\Vals xs its.toList
noncomputable def SqT (K:PySem.W.Frag) (H:Hp) (a:Addr) (xs:List V):Prop :=
 Rd H a (.tup xs) \/
  ∃(o:Obj) (its:Array Value) (n:Nat),K.lookup a=some o/\o.cls = .type "tuple"/\o.data = .seq its n/\its.size<=sizeLine/\Vals xs its.toList
noncomputable def NK:Value->Option V
 | .none=>some .non
 | .bool b=>some (.bl b)
 | .int i _=>some (.int i)
 | .str x _=>some (.str x)
 | .bytes b _=>some (.byt b)
 | .float b _=>some (.flt b)
 | .ref a=>some (.ref a)
 | .type n=>some (.ty n)
 | _=>none
theorem RelV.abs {x:V} {u:Value} (r:RelV x u):NK u=some x:=by
 cases x with
 | non=>cases r;rfl
 | bl _=>cases r;rfl
 | int _=>obtain⟨t,rfl⟩:=r;rfl
 | str _=>obtain⟨t,rfl⟩:=r;rfl
 | byt _=>obtain⟨t,rfl⟩:=r;rfl
 | flt _=>obtain⟨t,rfl⟩:=r;rfl
 | ref _=>cases r;rfl
 | ty _=>cases r;rfl
theorem RelV.inj {x y:V} {u:Value} (r:RelV x u) (q:RelV y u):x=y:=Option.some.inj (r.abs.symm.trans q.abs)
theorem Vals.inj:∀{xs ys:List V} {us:List Value},Vals xs us->Vals ys us->xs=ys
 | _,_,_,.nil,.nil=>rfl
 | _,_,_,.cons r t,.cons r' t'=>by rw[r.inj r',Vals.inj t t']
section
variable {X:Cx} {pins:List (Addr × Obj)} {σ:St} {H:Hp} {s:Shared} {a:Addr} {xs ys:List V}
theorem SqL.of {K:PySem.W.Frag} (h:H a=some (.lst xs)):SqL K H a xs:=.inl (.inl h)
theorem SqT.of {K:PySem.W.Frag} (h:H a=some (.tup xs)):SqT K H a xs:=.inl (.inl h)
theorem Inv.list (I:Inv X pins σ H s) (h:SqL X.K H a xs):∃its:List Value,Vals xs its/\PlainL s.heap a its.toArray/\xs.length<=sizeLine:=by
 rcases h with h | ⟨o,its,n,hk,hc,hd,hs,hz,r⟩
 ·obtain⟨z,its,n,r,e⟩:=h.ok I.hok
  exact⟨its,r,⟨_,n,e,rfl,rfl,rfl⟩,z⟩
 ·refine⟨its.toList,r,⟨o,n,I.kIn a o hk,hc,hd,by simpa using hs⟩,?_⟩
  have e:=r.length
  simp only[Array.length_toList] at e
  omega
theorem Inv.tuple (I:Inv X pins σ H s) (h:SqT X.K H a xs):∃its:List Value,Vals xs its/\IsTup s.heap a its.toArray/\xs.length<=sizeLine:=by
 rcases h with h | ⟨o,its,n,hk,hc,hs,hz,r⟩
 ·obtain⟨z,its,r,p⟩:=h.ok I.hok
  exact⟨its,r,p,z⟩
 ·refine⟨its.toList,r,⟨o,I.kIn a o hk,hc,n,by simpa using hs⟩,?_⟩
  have e:=r.length
  simp only[Array.length_toList] at e
  omega
theorem Inv.list_inj (I:Inv X pins σ H s) (h:SqL X.K H a xs) (h':SqL X.K H a ys):xs=ys:=by
 obtain⟨its,r,⟨o,n,e,_,_,d⟩,_⟩:=I.list h
 obtain⟨its',r',⟨o',n',e',_,_,d'⟩,_⟩:=I.list h'
 rw[e] at e';cases e'
 rw[d] at d'
 injection d' with d1 _
 have:its=its':=by simpa using congrArg Array.toList d1
 subst this
 exact r.inj r'
theorem Inv.tuple_inj (I:Inv X pins σ H s) (h:SqT X.K H a xs) (h':SqT X.K H a ys):xs=ys:=by
 obtain⟨its,r,⟨o,e,_,n,d⟩,_⟩:=I.tuple h
 obtain⟨its',r',⟨o',e',_,n',d'⟩,_⟩:=I.tuple h'
 rw[e] at e';cases e'
 rw[d] at d'
 injection d' with d1 _
 have:its=its':=by simpa using congrArg Array.toList d1
 subst this
 exact r.inj r'
end
noncomputable abbrev Cx.wish (X:Cx) (E:Value->Shared->Prop):Cx:={ X with xe:=E }
noncomputable abbrev Cx.nox (X:Cx):Cx:=X.wish λ_ _=>False
theorem Cx.Ok.wish {X:Cx} (ok:X.Ok) (E:Value->Shared->Prop):(X.wish E).Ok :=
 ⟨ok.mod,ok.kind,ok.glob,ok.blt,ok.above,ok.inj,ok.has,ok.cab,ok.hd,ok.frames,ok.stk,ok.exf,ok.bs,ok.bsz,ok.noex,ok.exfs,ok.funs,ok.frf⟩
theorem Cx.Ok.unwish {X:Cx} {E:Value->Shared->Prop} (ok:(X.wish E).Ok):X.Ok :=
 ⟨ok.mod,ok.kind,ok.glob,ok.blt,ok.above,ok.inj,ok.has,ok.cab,ok.hd,ok.frames,ok.stk,ok.exf,ok.bs,ok.bsz,ok.noex,ok.exfs,ok.funs,ok.frf⟩
section
variable {X:Cx} {pins:List (Addr × Obj)} {σ:St} {H:Hp} {s:Shared} {E:Value->Shared->Prop}
theorem Inv.wish (I:Inv X pins σ H s) (E:Value->Shared->Prop):Inv (X.wish E) pins σ H s:=⟨I.ok.wish E,I.os,I.bare,I.base,I.loc,I.cell,I.free,I.freeC,I.pin,I.hok,I.len⟩
theorem Inv.unwish (I:Inv (X.wish E) pins σ H s):Inv X pins σ H s:=⟨I.ok.unwish,I.os,I.bare,I.base,I.loc,I.cell,I.free,I.freeC,I.pin,I.hok,I.len⟩
theorem SP.unwish {D:Ends} {f:Flow} {s':Shared} (h:SP (X.wish E) pins D f s'):SP X pins D f s':=by
 cases f with
 | next=>obtain⟨σ',H',I,q⟩:=h;exact⟨σ',H',I.unwish,q⟩
 | brk=>obtain⟨σ',H',I,q⟩:=h;exact⟨σ',H',I.unwish,q⟩
 | cont=>obtain⟨σ',H',I,q⟩:=h;exact⟨σ',H',I.unwish,q⟩
 | ret u=>obtain⟨v,σ',H',I,r,q⟩:=h;exact⟨v,σ',H',I.unwish,r,q⟩
theorem PE.nox {e:Expr} {t:TE} (h:PE X.nox e t):PE X e t:=λpins s σ H Q I hw =>
 wpAny_mono (h pins s σ H Q (I.wish _) hw) (λ_ _ ⟨v,H',I',r,q⟩=>⟨v,H',I'.unwish,r,q⟩) λ_ _ z=>False.elim z
theorem PT.nox {e:Expr} {t:TT} (h:PT X.nox e t):PT X e t:=λpins s σ H Q I hw =>
 wpAny_mono (h pins s σ H Q (I.wish _) hw) (λ_ _ ⟨H',I',q⟩=>⟨H',I'.unwish,q⟩) λ_ _ z=>False.elim z
theorem PSs.nox {st:List Stmt} {t:TS} (h:PSs X.nox st t):PSs X st t:=λpins s σ H D I hw =>
 wpAny_mono (h pins s σ H D (I.wish _) hw) (λ_ _ q=>q.unwish) λ_ _ z=>False.elim z
end
section
variable {X:Cx} {st:Stmt} {rest:List Stmt} {t u:TS} {e:Expr} {te:TE} {pos:Pos}
noncomputable def NF:TS:=λD σ H=>D.nx σ H
noncomputable def OD (t u:TS):TS:=λD σ H=>t { D with nx:=u D } σ H
theorem HK:PSs X [] NF:=λ_ _ σ H _ I h=>wpAny_execs_nil ⟨σ,H,I,h⟩
theorem uL (h1:PS X st t) (h2:PSs X rest u):PSs X (st::rest) (OD t u):=by
 intro pins s σ H D I h
 refine wpAny_execs_cons (thn (h1 pins s σ H { D with nx:=u D } I h) λf s1 q=>?_)
 cases f with
 | next =>
  obtain⟨σ',H',I',q⟩:=q
  exact h2 pins s1 σ' H' D I' q
 | ret v=>exact q
 | brk=>exact q
 | cont=>exact q
theorem nQ (h1:PS X st t):PSs X [st] t:=by
 intro pins s σ H D I h
 refine wpAny_execs_cons (thn (h1 pins s σ H D I h) λf s1 q=>?_)
 cases f with
 | next=>exact wpAny_execs_nil q
 | ret v=>exact q
 | brk=>exact q
 | cont=>exact q
theorem Inv.quiet {pins:List (Addr × Obj)} {σ:St} {H:Hp} {s:Shared} (I:Inv X pins σ H s):interactive X.env=false:=by simp[interactive,I.ok.kind]
noncomputable def NE (te:TE):TS:=λD σ H=>te σ H λ_ H1=>D.nx σ H1
theorem nP (he:PE X e te) (hs:swapsWith e none pos.line X.env=pure false:=by rfl):PS X (.Expr e pos) (NE te):=by
 intro pins s σ H D I h
 exact wpAny_Expr_any (thn (he pins s σ H _ I h) λv s1 ⟨x,H1,I1,r1,q1⟩=>⟨σ,H1,I1,q1⟩) I.quiet hs
noncomputable def OC (te:TE):TS:=λD σ H=>te σ H D.rt
theorem EF (he:PE X e te):PS X (.Return (some e) pos) (OC te):=by
 intro pins s σ H D I h
 exact wpAny_Return_some (thn (he pins s σ H _ I h) λv s1 ⟨x,H1,I1,r1,q1⟩=>⟨x,σ,H1,I1,r1,q1⟩)
noncomputable def NY (c:TT) (t u:TS):TS:=λD σ H=>c σ H λb H1=>if b=true then t D σ H1 else u D σ H1
theorem MU {c:Expr} {a b:List Stmt} {tc:TT} (hc:PT X c tc) (ha:PSs X a t) (hb:PSs X b u):PS X (.If c a b pos) (NY tc t u):=by
 intro pins s σ H D I h
 refine wpAny_If (thn (hc pins s σ H _ I h) λd s1 ⟨H1,I1,q1⟩=>?_)
 cases d with
 | true=>exact ha pins s1 σ H1 D I1 q1
 | false=>exact hb pins s1 σ H1 D I1 q1
noncomputable def LL:TS:=λ_ _ _=>False
theorem ED:PS X st LL:=λ_ _ _ _ _ _ h=>h.elim
end
noncomputable abbrev TG:=V->St->Hp->(St->Hp->Prop)->Prop
noncomputable abbrev TGs:=List V->St->Hp->(St->Hp->Prop)->Prop
noncomputable def PG (X:Cx) (target:Expr) (t:TG):Prop :=
 ∀(pins:List (Addr × Obj)) (s:Shared) (σ:St) (H:Hp) (v:V) (u:Value) (Q:St->Hp->Prop),Inv X pins σ H s->RelV v u->t v σ H Q ->
  wpAny (model X.prog X.w) X.A (assign target X.env u) (λ_ s'=>∃σ' H',Inv X pins σ' H' s'/\Q σ' H') X.xe s
noncomputable def PGs (X:Cx) (ts:List Expr) (t:TGs):Prop :=
 ∀(pins:List (Addr × Obj)) (s:Shared) (σ:St) (H:Hp) (vs:List V) (us:List Value) (Q:St->Hp->Prop),Inv X pins σ H s->Vals vs us->t vs σ H Q ->
  wpAny (model X.prog X.w) X.A (assignInOrder ((assignEach ts X.env).map (·.2)) us) (λ_ s'=>∃σ' H',Inv X pins σ' H' s'/\Q σ' H') X.xe s
section
variable {X:Cx} {pos:Pos}
noncomputable def IV (i:Nat):TG:=λv σ H Q=>Q (σ.set i (some v)) H
theorem HH {i:Nat} {x:Str} (hN:X.N.Nodup) (hi:X.N[i]? = some x) (hx:Loc X.env.scope x) (hf:X.fn x=true\/X.env.scope.names.lookup x=some .local:=by walk_at "loc"):PG X (.Name x pos) (IV i):=by
 intro pins s σ H v u Q I r h
 exact wpAny_assign_Name (pH I hN hi hx r (λs' I'=>⟨_,H,I',h⟩) hf)
noncomputable def NL:TGs:=λvs σ H Q=>vs=[]/\Q σ H
noncomputable def MB (t:TG) (u:TGs):TGs:=λvs σ H Q=>∃v r,vs=v::r/\t v σ H λσ' H'=>u r σ' H' Q
theorem HI:PGs X [] NL:=by
 intro pins s σ H vs us Q I r h
 obtain⟨e,h⟩:=h
 subst e
 cases r
 exact assignInOrder_nil ⟨σ,H,I,h⟩
theorem EA {e:Expr} {es:List Expr} {t:TG} {u:TGs} (h1:PG X e t) (h2:PGs X es u)
  (hs:(assignEach (e::es) X.env).map (·.2)=assign e X.env::(assignEach es X.env).map (·.2):=by rfl):PGs X (e::es) (MB t u):=by
 intro pins s σ H vs us Q I r h
 obtain⟨v,vr,e1,h⟩:=h
 subst e1
 cases r with
 | cons r rr =>
  rw[hs]
  refine assignInOrder_cons (thn (h1 pins s σ H _ _ _ I r h) λ_ s1 ⟨σ1,H1,I1,q1⟩=>?_)
  exact h2 pins s1 σ1 H1 _ _ Q I1 rr q1
noncomputable def NM (K:PySem.W.Frag) (n:Nat) (t:TGs):TG:=λv σ H Q=>∃a xs,v = .ref a/\SqT K H a xs/\xs.length=n/\t xs σ H Q
theorem KU {es:List Expr} {k:Nat} {t:TGs} {n:Nat} (hc:X.calm=true) (h:PGs X es t)
  (hn:(assignEach es X.env).length=n:=by rfl) (hst:(assignEach es X.env).findIdx? (·.1)=none:=by rfl):PG X (.Tuple es k pos) (NM X.K n t):=by
 intro pins s σ H v u Q I r hw
 obtain⟨a,xs,e1,hq,hl,hw⟩:=hw
 subst e1
 cases r
 obtain⟨its,rv,ht,hz⟩:=I.tuple hq
 refine assign_Tuple_tuple (I.ok.hd hc) ht (by simp[hn,<-hl,rv.length]) hst λh' hx=>?_
 have I1:Inv X pins σ H { s with heap:=h' }:=I.kept (t':=s.toks) λb o e=>hx b o (Nat.ne_of_lt (Heap.lt_size e)) e
 exact h pins _ σ H xs _ Q I1 (by simpa using rv) hw
noncomputable def NW (te:TE) (g:TG):TS:=λD σ H=>te σ H λx H1=>g x σ H1 D.nx
theorem mD {i:Nat} {x:Str} {e:Expr} {te:TE} {pos':Pos} (hN:X.N.Nodup) (hi:X.N[i]? = some x) (hx:Loc X.env.scope x) (he:PE X e te) (hs:swapsWith e (some (.Name x pos')) pos.line X.env=pure false:=by rfl) (hf:X.fn x=true\/X.env.scope.names.lookup x=some .local:=by walk_at "loc") :
  PS X (.Assign [.Name x pos'] e pos) (NW te (IV i)):=by
 intro pins s σ H D I h
 refine wpAny_Assign_Name (thn (he pins s σ H _ I h) λv s1 ⟨y,H1,I1,r1,q1⟩=>?_) hs
 exact pH I1 hN hi hx r1 (λs2 I2=>⟨_,H1,I2,q1⟩) hf
end
section
variable {X:Cx} {pos:Pos}
noncomputable def LM (c:TT) (tb:TS):TS:=λD σ H=>∃W:Nat->St->Hp->Prop,(∃m,W m σ H)/\∀m σ H,W m σ H ->
 c σ H λb H1=>if b=true then ∃N:St->Hp->Prop,(∀σ' H',N σ' H'->∃m',m'<m/\W m' σ' H')/\tb { D with nx:=N,ct:=N,bk:=D.nx } σ H1 else D.nx σ H1
theorem EG {c:Expr} {body:List Stmt} {tc:TT} {tb:TS} (hp:PassesOwn (model X.prog X.w) X.A X.env X.xe) (hc:PT X c tc) (hb:PSs X body tb):PS X (.While c body [] pos) (LM tc tb):=by
 intro pins s σ H D I h
 obtain⟨W,⟨m0,w0⟩,turn⟩:=h
 refine wpAny_While (codeAny_whileLoop (λn s'=>∃σ' H',Inv X pins σ' H' s'/\W n σ' H') ?_ m0 ⟨σ,H,I,w0⟩)
 rintro n s1 ⟨σ1,H1,I1,w1⟩
 refine wpAny_passesOwn hp (thn (hc pins s1 σ1 H1 _ I1 (turn n σ1 H1 w1)) λb s2 ⟨H2,I2,q2⟩=>?_)
 cases b with
 | true =>
  obtain⟨N,hN,q2⟩:=q2
  rw[if_pos rfl]
  refine wpAny_passesOwn hp (thn (hb pins s2 σ1 H2 _ I2 q2) λf s3 q3=>?_)
  cases f with
  | next =>
   obtain⟨σ3,H3,I3,n3⟩:=q3
   obtain⟨m',hm,w3⟩:=hN σ3 H3 n3
   exact⟨m',hm,σ3,H3,I3,w3⟩
  | cont =>
   obtain⟨σ3,H3,I3,n3⟩:=q3
   obtain⟨m',hm,w3⟩:=hN σ3 H3 n3
   exact⟨m',hm,σ3,H3,I3,w3⟩
  | brk=>exact q3
  | ret v=>exact q3
 | false =>
  rw[if_neg Bool.false_ne_true]
  exact wpAny_execs_nil ⟨σ1,H2,I2,q2⟩
end
structure It where
 go:Nat->Hp->Prop
 yld:Nat->Hp->V->Hp->Prop
 stop:Nat->Hp->Prop
noncomputable def lT (X:Cx) (pins:List (Addr × Obj)) (H:Hp) (b:Addr):Prop :=
 H b=none/\b≠X.env.locals/\b ∉ X.fs/\(b∈X.ex\/X.s₀.heap.objs.size<=b)/\(∀x c,X.env.cells.lookup x=some c->c≠b)/\∀p∈X.pn++pins,p.1≠b
theorem Inv.fpOk {X:Cx} {pins:List (Addr × Obj)} {σ:St} {H H':Hp} {s:Shared} {b:Addr} (I:Inv X pins σ H s) (hb:s.heap.objs.size<=b) (hn:H' b=none):lT X pins H' b:=by
 refine⟨hn,Nat.ne_of_gt (Nat.lt_of_lt_of_le I.lt hb),I.nofs hb,.inr (Nat.le_trans I.sz hb),λx c e z=>?_,λp hp z=>?_⟩
 ·obtain⟨v,q⟩:=I.cell x c e
  exact absurd (Nat.lt_of_lt_of_le q.lt (by rw[z];exact hb)) (Nat.lt_irrefl _)
 ·exact absurd (Nat.lt_of_lt_of_le (Heap.lt_size (I.pin p hp).1) (by rw[z];exact hb)) (Nat.lt_irrefl _)
structure Turn (P:Program) (w:World) (K:PySem.W.Frag) (tg:Expr) (J:It) (fp:List Addr) (it:Addr) (tn:Nat->Heap->Prop):Prop where
 mem:it∈fp
 obj:∀i h,tn i h->∀b∈fp,∃o,h.get? b=some o/\∀v,o.data≠.cell v
 keep:∀i h h',tn i h->(∀b∈fp,∀o,h.get? b=some o->h'.get? b=some o)->tn i h'
 item:∀(X:Cx),X.prog=P->X.w=w->X.K=K->X.calm=true->∀(i:Nat) (pins:List (Addr × Obj)) (s:Shared) (σ:St) (H:Hp) (E:Value->Shared->Prop),Inv X pins σ H s->(∀b∈fp,lT X pins H b)->tn i s.heap->J.go i H ->
  wpAny (model P w) X.A (pyNext (.ref it)) (λr s1=>∃u,r=some u /\
   wpAny (model P w) X.A (letOwnedTupleGo tg (.ref it) u) (λ_ s2=>∃x H',Inv X pins σ H' s2/\RelV x u/\J.yld i H x H'/\tn (i+1) s2.heap/\∀b∈fp,H' b=none) E s1) E s
 done:∀(X:Cx),X.prog=P->X.w=w->X.K=K->X.calm=true->∀(i:Nat) (pins:List (Addr × Obj)) (s:Shared) (σ:St) (H:Hp) (E:Value->Shared->Prop),Inv X pins σ H s->(∀b∈fp,lT X pins H b)->tn i s.heap->J.stop i H ->
  wpAny (model P w) X.A (pyNext (.ref it)) (λr s1=>r=none/\Inv X pins σ H s1) E s
 self:∀(A:Around) (i:Nat) (s:Shared) (Q:Value->Shared->Prop) (E:Value->Shared->Prop),tn i s.heap->Q (.ref it) s->wpAny (model P w) A (pyIter (.ref it)) Q E s
noncomputable abbrev TI:=St->Hp->(It->Hp->Prop)->Prop
noncomputable def PIE (X:Cx) (pins:List (Addr × Obj)) (σ:St) (tg:Expr) (R:It->Hp->Prop) (itv:Value) (s2:Shared):Prop :=
 ∃(it:Addr) (fp:List Addr) (tn:Nat->Heap->Prop) (J:It) (H':Hp),itv = .ref it/\Inv X pins σ H' s2/\Turn X.prog X.w X.K tg J fp it tn/\tn 0 s2.heap/\(∀b∈fp,lT X pins H' b)/\R J H'
noncomputable def PI (X:Cx) (tg iter:Expr) (wi:TI):Prop :=
 ∀(pins:List (Addr × Obj)) (s:Shared) (σ:St) (H:Hp) (R:It->Hp->Prop),Inv X pins σ H s->wi σ H R ->
  wpAny (model X.prog X.w) X.A (eval iter X.env) (λv s1=>wpAny (model X.prog X.w) X.A (pyIter v) (PIE X pins σ tg R) X.xe s1) X.xe s
theorem yD {M:Model} {A:Around} {E:Value->Shared->Prop} {s:Shared} {tg:Expr} {it:Addr} {u:Value} {o:Obj} {n:String} {vs:Array Value} {Q:Unit->Shared->Prop} (ho:s.heap.get? it=some o) (hc:o.cls = .type n) (hd:o.data = .fields vs)
  (hn:["enumerate","zip","dict_itemiterator","dict_reverseitemiterator","odict_iterator","itertools.zip_longest","itertools.pairwise"].contains n=false) (hQ:Q () s):wpAny M A (letOwnedTupleGo tg (.ref it) u) Q E s:=by
 unfold letOwnedTupleGo
 cases tg <;> first
  | exact wpAny_pure hQ
  | (cases u <;> first
    | exact wpAny_pure hQ
    | (refine wpAny_bind (wpAny_load ho ?_);rw[hc,hd];show wpAny M A (if (["enumerate","zip","dict_itemiterator","dict_reverseitemiterator","odict_iterator","itertools.zip_longest","itertools.pairwise"].contains n && vs[0]? == some (rawInt _))=true then _ else _) Q E s;rw[if_neg (by intro h;rw[hn,Bool.false_and] at h;cases h)];exact wpAny_pure hQ))
noncomputable def Itl (K:PySem.W.Frag) (a:Addr):It :=
 ⟨λi H=>∃xs x,SqL K H a xs/\xs[i]? = some x,λi H x H'=>H'=H/\∀xs,SqL K H a xs->xs[i]? = some x,λi H=>∃xs,SqL K H a xs/\xs.length<=i⟩
noncomputable def Itt (K:PySem.W.Frag) (a:Addr):It :=
 ⟨λi H=>∃xs x,SqT K H a xs/\xs[i]? = some x,λi H x H'=>H'=H/\∀xs,SqT K H a xs->xs[i]? = some x,λi H=>∃xs,SqT K H a xs/\xs.length<=i⟩
noncomputable def Itr (lo:Int) (n:Nat):It:=⟨λi _=>i<n,λi H x H'=>H'=H/\x = .int (lo+i),λi _=>n<=i⟩
theorem AS {P:Program} {w:World} {K:PySem.W.Frag} {tg:Expr} (a it:Addr):Turn P w K tg (Itl K a) [it] it (λi h=>h.IsListIter it a i) where
 mem:=by simp
 obj:=λi h st b hb=>by
  have e:b=it:=by simpa using hb
  subst e
  obtain⟨o,e,c,d⟩:=st
  exact⟨o,e,λv z=>by rw[d] at z;cases z⟩
 keep:=λi h h' st k=>st.at λo e=>k it (by simp) o e
 item:=by
  intro X hP hw hK hc i pins s σ H E I hf st hg
  subst hP hw hK
  obtain⟨xs,x,hq,hx⟩:=hg
  obtain⟨its,rv,p,hz⟩:=I.list hq
  obtain⟨u,hu,ru⟩:=rv.get hx
  obtain⟨f0,f1,f2,f3,f4,f5⟩:=hf it (by simp)
  refine wpAny_pyNext_list_item st p.isList (x:=u) (by simpa using hu) λh' st' sb=>?_
  have I1:Inv X pins σ H { s with heap:=h' }:=I.turned (t':=s.toks) (λb o hb e=>(sb.2 b hb).trans e) f0 f1 f3 f4 f5
  obtain⟨o,e,c,d⟩:=id st'
  exact⟨u,rfl,yD (s:={ s with heap:=h' }) e c d (by decide) ⟨x,H,I1,ru,⟨rfl,λys hy=>by rw[I.list_inj hy hq];exact hx⟩,st',λb hb=>(hf b hb).1⟩⟩
 done:=by
  intro X hP hw hK hc i pins s σ H E I hf st hg
  subst hP hw hK
  obtain⟨xs,hq,hx⟩:=hg
  obtain⟨its,rv,p,hz⟩:=I.list hq
  obtain⟨f0,f1,f2,f3,f4,f5⟩:=hf it (by simp)
  have hl:=rv.length
  exact wpAny_pyNext_list_end (I.ok.hd hc) st p.isList (by simp;omega) λh' eb=>⟨rfl,I.turned (t':=s.toks) (λb o hb e=>eb b o hb e) f0 f1 f3 f4 f5⟩
 self:=λ_ _ _ _ _ st h=>wpAny_pyIter_listiter st h
theorem xD {P:Program} {w:World} {K:PySem.W.Frag} {tg:Expr} (a it:Addr):Turn P w K tg (Itt K a) [it] it (λi h=>h.IsTupleIter it a i) where
 mem:=by simp
 obj:=λi h st b hb=>by
  have e:b=it:=by simpa using hb
  subst e
  obtain⟨o,e,c,d⟩:=st
  exact⟨o,e,λv z=>by rw[d] at z;cases z⟩
 keep:=λi h h' st k=>st.at λo e=>k it (by simp) o e
 item:=by
  intro X hP hw hK hc i pins s σ H E I hf st hg
  subst hP hw hK
  obtain⟨xs,x,hq,hx⟩:=hg
  obtain⟨its,rv,p,hz⟩:=I.tuple hq
  obtain⟨u,hu,ru⟩:=rv.get hx
  obtain⟨f0,f1,f2,f3,f4,f5⟩:=hf it (by simp)
  refine wpAny_pyNext_tuple_item st (show s.heap.IsTuple a its.toArray from p) (x:=u) (by simpa using hu) λh' st' sb=>?_
  have I1:Inv X pins σ H { s with heap:=h' }:=I.turned (t':=s.toks) (λb o hb e=>(sb.2 b hb).trans e) f0 f1 f3 f4 f5
  obtain⟨o,e,c,d⟩:=id st'
  exact⟨u,rfl,yD (s:={ s with heap:=h' }) e c d (by decide) ⟨x,H,I1,ru,⟨rfl,λys hy=>by rw[I.tuple_inj hy hq];exact hx⟩,st',λb hb=>(hf b hb).1⟩⟩
 done:=by
  intro X hP hw hK hc i pins s σ H E I hf st hg
  subst hP hw hK
  obtain⟨xs,hq,hx⟩:=hg
  obtain⟨its,rv,p,hz⟩:=I.tuple hq
  obtain⟨f0,f1,f2,f3,f4,f5⟩:=hf it (by simp)
  have hl:=rv.length
  exact wpAny_pyNext_tuple_end (I.ok.hd hc) st (show s.heap.IsTuple a its.toArray from p) (by simp;omega) λh' eb=>⟨rfl,I.turned (t':=s.toks) (λb o hb e=>eb b o hb e) f0 f1 f3 f4 f5⟩
 self:=λ_ _ _ _ _ st h=>wpAny_pyIter_tupleiter st h
theorem pI {P:Program} {w:World} {K:PySem.W.Frag} {tg:Expr} (it:Addr) (lo:Int) (n:Nat):Turn P w K tg (Itr lo n) [it] it (λi h=>IsRangeIter h it (lo+(i:Nat)*1) ((n:Int)-(i:Nat)) 1) where
 mem:=by simp
 obj:=λi h st b hb=>by
  have e:b=it:=by simpa using hb
  subst e
  exact⟨_,st,λv z=>by
   have z':Data.fields _=Data.cell v:=z
   cases z'⟩
 keep:=λi h h' st k=>k it (by simp) _ st
 item:=by
  intro X hP hw hK hc i pins s σ H E I hf st hg
  subst hP hw hK
  obtain⟨f0,f1,f2,f3,f4,f5⟩:=hf it (by simp)
  have W:=Walks.range (prog:=X.prog) (w:=X.w) (I.ok.hd hc) it lo 1 n
  refine W.item i s _ _ hg st λv h' tk hv st' kk=>?_
  obtain⟨t,rfl⟩:=hv
  have I1:Inv X pins σ H { s with heap:=h',toks:=tk }:=I.turned (λb o hb e=>kk b o (by simpa using hb) e) f0 f1 f3 f4 f5
  refine⟨_,rfl,yD (s:={ s with heap:=h',toks:=tk }) (n:="range_iterator") st' rfl rfl (by decide) ⟨.int (lo+i),H,I1,⟨t,?_⟩,⟨rfl,rfl⟩,st',λb hb=>(hf b hb).1⟩⟩
  rw[Int.mul_one]
 done:=by
  intro X hP hw hK hc i pins s σ H E I hf st hg
  subst hP hw hK
  obtain⟨f0,f1,f2,f3,f4,f5⟩:=hf it (by simp)
  exact wpAny_pyNext_range_end (I.ok.hd hc) st (by have:n<=i:=hg;omega) λh' eb=>⟨rfl,I.turned (t':=s.toks) (λb o hb e=>eb b o hb e) f0 f1 f3 f4 f5⟩
 self:=λ_ _ _ _ _ st h=>wpAny_pyIter_rangeiter st h
end L2
namespace L2
open PySem PySem.Spec PyProof.Rows
section
variable {X:Cx} {tg:Expr}
noncomputable def MC (K:PySem.W.Frag) (tl:TE):TI:=λσ H R=>tl σ H λx H1=>∃a,x = .ref a/\(∃xs,SqL K H1 a xs)/\R (Itl K a) H1
noncomputable def NN (K:PySem.W.Frag) (tl:TE):TI:=λσ H R=>tl σ H λx H1=>∃a,x = .ref a/\(∃xs,SqT K H1 a xs)/\R (Itt K a) H1
theorem HJ {l:Expr} {tl:TE} (hl:PE X l tl):PI X tg l (MC X.K tl):=by
 intro pins s σ H R I h
 refine thn (hl pins s σ H _ I h) λv s1 ⟨x,H1,I1,r1,q1⟩=>?_
 obtain⟨a,e,⟨xs,hq⟩,q⟩:=q1
 subst e
 cases r1
 obtain⟨its,rv,p,hz⟩:=I1.list hq
 refine wpAny_pyIter_list p.isList ?_
 refine⟨s1.heap.objs.size,[s1.heap.objs.size],_,_,H1,rfl,I1.kept (t':=s1.toks) λb o e=>Heap.get?_push_of_some _ e,AS a _,⟨_,Heap.get?_push_size _ rfl,rfl,rfl⟩,λb hb=>?_,q⟩
 have e:b=s1.heap.objs.size:=by simpa using hb
 subst e
 exact I1.fpOk (Nat.le_refl _) (I1.hok.fresh (Nat.le_refl _))
theorem KW {l:Expr} {tl:TE} (hl:PE X l tl):PI X tg l (NN X.K tl):=by
 intro pins s σ H R I h
 refine thn (hl pins s σ H _ I h) λv s1 ⟨x,H1,I1,r1,q1⟩=>?_
 obtain⟨a,e,⟨xs,hq⟩,q⟩:=q1
 subst e
 cases r1
 obtain⟨its,rv,p,hz⟩:=I1.tuple hq
 refine wpAny_pyIter_tuple (show s1.heap.IsTuple a its.toArray from p) ?_
 refine⟨s1.heap.objs.size,[s1.heap.objs.size],_,_,H1,rfl,I1.kept (t':=s1.toks) λb o e=>Heap.get?_push_of_some _ e,xD a _,⟨_,Heap.get?_push_size _ rfl,rfl,rfl⟩,λb hb=>?_,q⟩
 have e:b=s1.heap.objs.size:=by simpa using hb
 subst e
 exact I1.fpOk (Nat.le_refl _) (I1.hok.fresh (Nat.le_refl _))
theorem EM {pins:List (Addr × Obj)} {σ:St} {H:Hp} {s:Shared} {R:It->Hp->Prop} {E:Value->Shared->Prop} {lo hi:Int} {t u v:Tok} {tk:Nat} (I:Inv X pins σ H s) (h1:-(2 ^ 62)<=lo) (h2:lo<2 ^ 62) (h3:-(2 ^ 62)<=hi) (h4:hi<2 ^ 62)
  (q:R (Itr lo (hi-lo).toNat) H):wpAny (model X.prog X.w) X.A (pyIter (.ref s.heap.objs.size)) (PIE X pins σ tg R) E { s with heap:=s.heap.push { cls:=.type "range",data:=.fields #[.int lo t,.int hi u,.int 1 v] },toks:=tk }:=by
 refine wpAny_pyIter_range (IsRange.new ..) (small_one h1 h2 h3 h4) ?_
 have I1:Inv X pins σ H { s with heap:=s.heap.push { cls:=.type "range",data:=.fields #[.int lo t,.int hi u,.int 1 v] },toks:=tk }:=I.kept λb o e=>Heap.get?_push_of_some _ e
 refine⟨(s.heap.push { cls:=.type "range",data:=.fields #[.int lo t,.int hi u,.int 1 v] }).objs.size,[(s.heap.push { cls:=.type "range",data:=.fields #[.int lo t,.int hi u,.int 1 v] }).objs.size],_,_,H,rfl,
  I1.kept (t':=tk) λb o e=>Heap.get?_push_of_some _ e,pI _ lo (hi-lo).toNat,?_,λb hb=>?_,q⟩
 ·have e1:lo+((0:Nat):Int)*1=lo:=by simp
  have e2:(((hi-lo).toNat:Nat):Int)-((0:Nat):Int)=Builtin.Range.rangeSize lo hi 1:=by rw[rangeSize_one];split <;> omega
  show IsRangeIter _ _ (lo+((0:Nat):Int)*1) ((((hi-lo).toNat:Nat):Int)-((0:Nat):Int)) 1
  rw[e1,e2]
  exact Heap.get?_push_size _ rfl
 ·have e:b=(s.heap.push { cls:=.type "range",data:=.fields #[.int lo t,.int hi u,.int 1 v] }).objs.size:=by simpa using hb
  subst e
  exact I1.fpOk (Nat.le_refl _) (I1.hok.fresh (Nat.le_refl _))
noncomputable def MD (ta:TA):TI:=λσ H R=>ta σ H λvs H1=>∃j:Int,vs=[.int j]/\-(2 ^ 62)<=j/\j<2 ^ 62/\R (Itr 0 j.toNat) H1
theorem AM {a:Expr} {ta:TA} {p pos:Pos} (hg:Gl X "range") (hm:X.mg "range" = none) (ha:PA X [a] ta) (hs:starEach [a] X.env=[(false,eval a X.env)]:=by rfl):PI X tg (.Call (.Name "range" p) [a] [] pos) (MD ta):=by
 intro pins s σ H R I h
 refine Call_ (gM I hg hm boot_range (PyProof.Rows.callWith_type1 (thn (ha pos pins s σ H _ I h) λus s1 ⟨vs,H1,I1,r1,q1⟩=>?_) hs rfl))
 obtain⟨j,e,q1,q2,q⟩:=q1
 subst e
 cases r1 with
 | cons r rr =>
  cases rr
  obtain⟨t,rfl⟩:=r
  exact call_range_1 (EM I1 (by omega) (by omega) q1 q2 (by simpa using q))
noncomputable def NX (wi:TI) (g:TG) (tb:TS):TS:=λD σ H=>wi σ H λJ H1=>∃W:Nat->Nat->St->Hp->Prop,(∃m,W 0 m σ H1)/\∀i m σ H,W i m σ H ->
 (J.stop i H/\D.nx σ H)\/(J.go i H/\∃N:St->Hp->Prop,(∀σ' H',N σ' H'->∃m',m'<m/\W (i+1) m' σ' H')/\∀x H',J.yld i H x H'->g x σ H' λσ2 H2=>tb { D with nx:=N,ct:=N,bk:=D.nx } σ2 H2)
noncomputable def sN (fp:List Addr) (h:Heap):List (Addr × Obj):=fp.filterMap λb=>(h.get? b).map λo=>(b,o)
theorem gO {fp:List Addr} {h:Heap} {b:Addr} {o:Obj} (hb:b∈fp) (e:h.get? b=some o):(b,o)∈sN fp h:=List.mem_filterMap.mpr ⟨b,hb,by rw[e];rfl⟩
theorem AJ {fp:List Addr} {h:Heap} {p:Addr × Obj} (hp:p∈sN fp h):p.1∈fp/\h.get? p.1=some p.2:=by
 obtain⟨b,hb,e⟩:=List.mem_filterMap.mp hp
 cases q:h.get? b with
 | none=>rw[q] at e;cases e
 | some o =>
  rw[q] at e
  have e':(b,o)=p:=Option.some.inj e
  subst e'
  exact⟨hb,q⟩
theorem Inv.pinned {pins:List (Addr × Obj)} {σ:St} {H:Hp} {s:Shared} {fp:List Addr} (I:Inv X pins σ H s) (hf:∀b∈fp,lT X pins H b) (ho:∀b∈fp,∃o,s.heap.get? b=some o/\∀v,o.data≠.cell v):Inv X (pins++sN fp s.heap) σ H s :=
 I.pins_of λp hp=>(List.mem_append.mp hp).elim (λz=>I.pin p (List.mem_append_right _ z)) λz=>by
  obtain⟨hb,e⟩:=AJ z
  obtain⟨f0,f1,f2,_⟩:=hf p.1 hb
  obtain⟨o,e',d⟩:=ho p.1 hb
  rw[e] at e';cases e'
  exact⟨e,f0,f1,f2,d⟩
theorem Inv.unpinned {pins pl:List (Addr × Obj)} {σ:St} {H:Hp} {s:Shared} (I:Inv X (pins++pl) σ H s):Inv X pins σ H s:=I.pins_of λp hp=>I.pin p (List.mem_append_right _ (List.mem_append_left _ hp))
theorem KZ {iter:Expr} {body:List Stmt} {wi:TI} {g:TG} {tb:TS} {pos:Pos} (hp:PassesOwn (model X.prog X.w) X.A X.env X.xe) (hc:X.calm=true) (hi:PI X tg iter wi) (hg:PG X tg g) (hb:PSs X body tb)
  (hs:∀x,foldedSetIterable iter X.env x=pure x:=by intro _;rfl):PS X (.For tg iter body [] pos) (NX wi g tb):=by
 intro pins s σ H D I h
 refine wpAny_For (thn (hi pins s σ H _ I h) λv s1 h1=>thn h1 λitv s2 h2=>?_) hs
 obtain⟨it,fp,tn,J,H2,e,I2,T,st2,f2,W,⟨m0,w0⟩,turn⟩:=h2
 subst e
 have stat:∀{H':Hp},(∀b∈fp,H' b=none)->∀b∈fp,lT X pins H' b:=λhn b hb=>⟨hn b hb,(f2 b hb).2⟩
 refine codeAny_forLoop_any (λn s'=>∃i σ' H',Inv X pins σ' H' s'/\tn i s'.heap/\(∀b∈fp,H' b=none)/\W i n σ' H') ?_ m0 ⟨0,σ,H2,I2,st2,λb hb=>(f2 b hb).1,w0⟩
 rintro n s3 ⟨i,σ3,H3,I3,st3,fr3,w3⟩
 rcases turn i n σ3 H3 w3 with ⟨stop,qn⟩ | ⟨go,N,hN,step⟩
 ·refine wpAny_passesOwn hp (thn (T.done X rfl rfl rfl hc i pins s3 σ3 H3 X.xe I3 (stat fr3) st3 stop) λr s4 ⟨hr,I4⟩=>?_)
  subst hr
  exact wpAny_execs_nil ⟨σ3,H3,I4,qn⟩
 ·refine wpAny_passesOwn hp (thn (T.item X rfl rfl rfl hc i pins s3 σ3 H3 X.xe I3 (stat fr3) st3 go) λr s4 ⟨u,hr,h4⟩=>?_)
  subst hr
  refine wpAny_passesOwn hp (thn h4 λ_ s5 ⟨x,H5,I5,r5,y5,st5,fr5⟩=>?_)
  have I5':=I5.pinned (stat fr5) (T.obj _ _ st5)
  refine wpAny_passesOwn hp (thn (hg _ s5 σ3 H5 x u _ I5' r5 (step x H5 y5)) λ_ s6 ⟨σ6,H6,I6,q6⟩=>?_)
  refine wpAny_passesOwn hp (thn (hb _ s6 σ6 H6 _ I6 q6) λf s7 q7=>?_)
  have again:∀{σ7:St} {H7:Hp},Inv X (pins++sN fp s5.heap) σ7 H7 s7->N σ7 H7->∃m,m<n/\∃i σ' H',Inv X pins σ' H' s7/\tn i s7.heap/\(∀b∈fp,H' b=none)/\W i m σ' H':=λ{σ7 H7} I7 n7=>by
   obtain⟨m',hm,w7⟩:=hN σ7 H7 n7
   refine⟨m',hm,i+1,σ7,H7,I7.unpinned,T.keep _ _ _ st5 λb hb o e=>(I7.pin (b,o) (List.mem_append_right _ (List.mem_append_right _ (gO hb e)))).1,λb hb=>?_,w7⟩
   obtain⟨o,e,d⟩:=T.obj _ _ st5 b hb
   exact (I7.pin (b,o) (List.mem_append_right _ (List.mem_append_right _ (gO hb e)))).2.1
  cases f with
  | next=>obtain⟨σ7,H7,I7,n7⟩:=q7;exact again I7 n7
  | cont=>obtain⟨σ7,H7,I7,n7⟩:=q7;exact again I7 n7
  | brk=>obtain⟨σ7,H7,I7,q7⟩:=q7;exact⟨σ7,H7,I7.unpinned,q7⟩
  | ret v=>obtain⟨x7,σ7,H7,I7,r7,q7⟩:=q7;exact⟨x7,σ7,H7,I7.unpinned,r7,q7⟩
end
theorem tT {K:PySem.W.Frag} {a:Addr} {xs:List V} {g:TG} {tb:TS} {D:Ends} {σ:St} {H:Hp} (Pv:Nat->St->Hp->Prop) (h0:Pv 0 σ H) (hl:∀i σ H,i<=xs.length->Pv i σ H->SqL K H a xs)
  (hs:∀i x σ H,xs[i]? = some x->Pv i σ H->g x σ H λσ2 H2=>tb { D with nx:=Pv (i+1),ct:=Pv (i+1),bk:=D.nx } σ2 H2) (hd:∀σ H,Pv xs.length σ H->D.nx σ H) :
  ∃W:Nat->Nat->St->Hp->Prop,(∃m,W 0 m σ H)/\∀i m σ H,W i m σ H ->
   ((Itl K a).stop i H/\D.nx σ H)\/((Itl K a).go i H/\∃N:St->Hp->Prop,(∀σ' H',N σ' H'->∃m',m'<m/\W (i+1) m' σ' H')/\∀x H',(Itl K a).yld i H x H'->g x σ H' λσ2 H2=>tb { D with nx:=N,ct:=N,bk:=D.nx } σ2 H2):=by
 refine⟨λi m σ H=>m=xs.length-i/\i<=xs.length/\Pv i σ H,⟨xs.length,by simp,Nat.zero_le _,h0⟩,?_⟩
 rintro i m σ H ⟨rfl,hi,p⟩
 have q:=hl i σ H hi p
 by_cases hlt:i<xs.length
 ·refine .inr ⟨⟨xs,xs[i],q,by simp[hlt]⟩,Pv (i+1),λσ' H' p'=>⟨xs.length-(i+1),by omega,rfl,hlt,p'⟩,λx H' y=>?_⟩
  obtain⟨e,y⟩:=y
  subst e
  exact hs i x σ _ (y xs q) p
 ·have e:i=xs.length:=by omega
  subst e
  exact .inl ⟨⟨xs,q,Nat.le_refl _⟩,hd σ H p⟩
end L2
namespace L2
open PySem PySem.Spec PyProof.Rows
noncomputable abbrev R2:=V->V->Hp->VK->Prop
noncomputable def OpR (X:Cx) (f:Value->Value->Sem Value) (r:R2):Prop :=
 ∀(pins:List (Addr × Obj)) (s:Shared) (σ:St) (H:Hp) (x y:V) (v u:Value) (Q:VK),Inv X pins σ H s->RelV x v->RelV y u->r x y H Q ->
  wpAny (model X.prog X.w) X.A (f v u) (EP X pins σ Q) X.xe s
noncomputable def UnR (X:Cx) (f:Value->Sem Value) (r:V->Hp->VK->Prop):Prop :=
 ∀(pins:List (Addr × Obj)) (s:Shared) (σ:St) (H:Hp) (x:V) (v:Value) (Q:VK),Inv X pins σ H s->RelV x v->r x H Q ->
  wpAny (model X.prog X.w) X.A (f v) (EP X pins σ Q) X.xe s
noncomputable def gT (X:Cx) (f:Value) (r:List V->Hp->VK->Prop):Prop :=
 ∀(pins:List (Addr × Obj)) (s:Shared) (σ:St) (H:Hp) (xs:List V) (us:List Value) (Q:VK),Inv X pins σ H s->Vals xs us->r xs H Q ->
  wpAny (model X.prog X.w) X.A (call f us) (EP X pins σ Q) X.xe s
noncomputable def tOp (r:R2) (ta tb:TE):TE:=λσ H Q=>ta σ H λx H1=>tb σ H1 λy H2=>r x y H2 Q
noncomputable def tUn (r:V->Hp->VK->Prop) (ta:TE):TE:=λσ H Q=>ta σ H λx H1=>r x H1 Q
noncomputable def rI (C:Int->Int->Prop) (g:Int->Int->V):R2:=λx y H Q=>∃i j,x = .int i/\y = .int j/\C i j/\Q (g i j) H
noncomputable def rI0 (g:Int->Int->V):R2:=λx y H Q=>∃i j,x = .int i/\y = .int j/\Q (g i j) H
noncomputable def rU (g:Int->V):V->Hp->VK->Prop:=λx H Q=>∃i,x = .int i/\Q (g i) H
section
variable {X:Cx} {a b c:Expr} {ta tb tc:TE} {pos:Pos}
theorem JK (ha:PE X a ta) (hb:PE X b tb) {pins:List (Addr × Obj)} {s:Shared} {σ:St} {H:Hp} {R:V->V->Hp->Prop} (I:Inv X pins σ H s)
  (h:ta σ H λx H1=>tb σ H1 λy H2=>R x y H2) {Q:Value->Shared->Prop} {f:Value->Value->Sem Value}
  (hf:∀v u s2 x y H2,Inv X pins σ H2 s2->RelV x v->RelV y u->R x y H2->wpAny (model X.prog X.w) X.A (f v u) Q X.xe s2) :
  wpAny (model X.prog X.w) X.A (eval a X.env) (λv s₁=>wpAny (model X.prog X.w) X.A (eval b X.env) (λu s₂=>wpAny (model X.prog X.w) X.A (f v u) Q X.xe s₂) X.xe s₁) X.xe s:=by
 refine thn (ha pins s σ H _ I h) λv s1 ⟨x,H1,I1,r1,q1⟩=>?_
 refine thn (hb pins s1 σ H1 _ I1 q1) λu s2 ⟨y,H2,I2,r2,q2⟩=>?_
 exact hf v u s2 x y H2 I2 r1 r2 q2
theorem MS {op:Operator} {r:R2} (ho:OpR X (binaryOp op) r) (ha:PE X a ta) (hb:PE X b tb):PE X (.BinOp a op b pos) (tOp r ta tb):=by
 intro pins s σ H Q I h
 exact wpAny_BinOp (JK ha hb I h λv u s2 x y H2 I2 rx ry q=>ho pins s2 σ H2 x y v u Q I2 rx ry q)
theorem MT {op:UnaryOp} {r:V->Hp->VK->Prop} (ho:UnR X (unaryOp op) r) (ha:PE X a ta):PE X (.UnaryOp op a pos) (tUn r ta):=by
 intro pins s σ H Q I h
 exact UnaryOp_ (thn (ha pins s σ H _ I h) λv s1 ⟨x,H1,I1,r1,q1⟩=>ho pins s1 σ H1 x v Q I1 r1 q1)
theorem opI {f:Value->Value->Sem Value} {C:Int->Int->Prop} {g:Int->Int->Int}
  (rule:∀(i j:Int) (t u:Tok) (s:Shared) (Q:Value->Shared->Prop) (E:Value->Shared->Prop),C i j->Q (.int (g i j) s.toks) { s with toks:=s.toks+1 }->wpAny (model X.prog X.w) X.A (f (.int i t) (.int j u)) Q E s) :
  OpR X f (rI C λi j=>.int (g i j)):=by
 intro pins s σ H x y v u Q I rx ry h
 obtain⟨i,j,rfl,rfl,hc,q⟩:=h
 obtain⟨t,rfl⟩:=rx
 obtain⟨t',rfl⟩:=ry
 exact rule i j t t' s _ _ hc ⟨.int (g i j),H,I.tok _,⟨_,rfl⟩,q⟩
theorem KL {f:Value->Value->Sem Value} {g:Int->Int->Bool}
  (rule:∀(i j:Int) (t u:Tok) (s:Shared) (Q:Value->Shared->Prop) (E:Value->Shared->Prop),Q (.bool (g i j)) s->wpAny (model X.prog X.w) X.A (f (.int i t) (.int j u)) Q E s) :
  OpR X f (rI0 λi j=>.bl (g i j)):=by
 intro pins s σ H x y v u Q I rx ry h
 obtain⟨i,j,rfl,rfl,q⟩:=h
 obtain⟨t,rfl⟩:=rx
 obtain⟨t',rfl⟩:=ry
 exact rule i j t t' s _ _ ⟨.bl (g i j),H,I,rfl,q⟩
noncomputable def CMul (i j:Int):Prop:=(-(2 ^ 64)<i/\i<2 ^ 64)\/(-(2 ^ 64)<j/\j<2 ^ 64)
theorem CMul.ok {i j:Int} (h:CMul i j):IntMulOk i j:=by
 rcases h with ⟨h1,h2⟩ | ⟨h1,h2⟩
 ·exact .of_left (intBits_le_64 h1 h2)
 ·exact .of_right (intBits_le_64 h1 h2)
theorem unI {f:Value->Sem Value} {g:Int->Int}
  (rule:∀(i:Int) (t:Tok) (s:Shared) (Q:Value->Shared->Prop) (E:Value->Shared->Prop),Q (.int (g i) s.toks) { s with toks:=s.toks+1 }->wpAny (model X.prog X.w) X.A (f (.int i t)) Q E s) :
  UnR X f (rU λi=>.int (g i)):=by
 intro pins s σ H x v Q I rx h
 obtain⟨i,rfl,q⟩:=h
 obtain⟨t,rfl⟩:=rx
 exact rule i t s _ _ ⟨.int (g i),H,I.tok _,⟨_,rfl⟩,q⟩
theorem LP:UnR X (unaryOp .USub) (rU λi=>.int (-i)):=unI λ_ _ _ _ _ q=>neg_int q
end
noncomputable def MY:V->V->Bool
 | .non,.non=>true | .non,.int _=>true | .int _,.non=>true | .non,.bl _=>true | .bl _,.non=>true | .non,.str _=>true | .str _,.non=>true
 | .int _,.int _=>true | .bl _,.bl _=>true | .str _,.str _=>true | .byt _,.byt _=>true
 | .int _,.str _=>true | .str _,.int _=>true | .bl _,.str _=>true | .str _,.bl _=>true
 | _,_=>false
noncomputable def rEq:R2:=λx y H Q=>MY x y=true/\Q (.bl (decide (x=y))) H
noncomputable def rNe:R2:=λx y H Q=>MY x y=true/\Q (.bl (!decide (x=y))) H
theorem xY {i j:Int}:decide (V.int i=V.int j)=(i == j):=by
 rw[Bool.eq_iff_iff]
 simp
theorem BM {i j:Bool}:decide (V.bl i=V.bl j)=(i == j):=by
 rw[Bool.eq_iff_iff]
 simp
theorem xZ {i j:Str}:decide (V.str i=V.str j)=(i == j):=by
 rw[Bool.eq_iff_iff]
 simp
theorem xX {i j:Array UInt8}:decide (V.byt i=V.byt j)=(i.toList == j.toList):=by
 rw[Bool.eq_iff_iff]
 cases i
 cases j
 simp
section
variable {X:Cx} {a b c:Expr} {ta tb tc:TE} {pos:Pos}
theorem bA {pins:List (Addr × Obj)} {σ:St} {H:Hp} {s:Shared} {Q:VK} {k k':Bool} (I:Inv X pins σ H s) (q:Q (.bl k) H) (e:k=k'):EP X pins σ Q (.bool k') s:=by
 subst e
 exact⟨.bl k,H,I,rfl,q⟩
theorem JB:OpR X (compareOp .Eq) rEq:=by
 intro pins s σ H x y v u Q I rx ry h
 obtain⟨hs,q⟩:=h
 cases x with
 | non =>
  cases rx
  cases y with
  | non=>cases ry;exact PySem.EqNone.eq_none_none (bA I q (by simp))
  | bl j=>cases ry;exact PySem.EqNone.eq_none_bool (bA I q (by simp))
  | int j=>obtain⟨t',rfl⟩:=ry;exact PySem.EqNone.eq_none_int (bA I q (by simp))
  | str j=>obtain⟨t',rfl⟩:=ry;exact PySem.EqNone.eq_none_str (bA I q (by simp))
  | _=>exact absurd (show false=true from hs) Bool.false_ne_true
 | bl i =>
  cases rx
  cases y with
  | non=>cases ry;exact PySem.EqNone.eq_bool_none (bA I q (by simp))
  | bl j=>cases ry;exact eq_bool (bA I q BM)
  | str j=>obtain⟨t',rfl⟩:=ry;exact PySem.EqMixed.eq_bool_str (bA I q (by simp))
  | _=>exact absurd (show false=true from hs) Bool.false_ne_true
 | int i =>
  obtain⟨t,rfl⟩:=rx
  cases y with
  | non=>cases ry;exact PySem.EqNone.eq_int_none (bA I q (by simp))
  | int j=>obtain⟨t',rfl⟩:=ry;exact eq_int (bA I q xY)
  | str j=>obtain⟨t',rfl⟩:=ry;exact PySem.EqMixed.eq_int_str (bA I q (by simp))
  | _=>exact absurd (show false=true from hs) Bool.false_ne_true
 | str i =>
  obtain⟨t,rfl⟩:=rx
  cases y with
  | non=>cases ry;exact PySem.EqNone.eq_str_none (bA I q (by simp))
  | bl j=>cases ry;exact PySem.EqMixed.eq_str_bool (bA I q (by simp))
  | int j=>obtain⟨t',rfl⟩:=ry;exact PySem.EqMixed.eq_str_int (bA I q (by simp))
  | str j=>obtain⟨t',rfl⟩:=ry;exact eq_str (bA I q xZ)
  | _=>exact absurd (show false=true from hs) Bool.false_ne_true
 | byt i =>
  obtain⟨t,rfl⟩:=rx
  cases y with
  | byt j=>obtain⟨t',rfl⟩:=ry;exact PySem.W.eq_bytes (bA I q xX)
  | _=>exact absurd (show false=true from hs) Bool.false_ne_true
 | _=>cases y <;> exact absurd (show false=true from hs) Bool.false_ne_true
theorem JC:OpR X (compareOp .NotEq) rNe:=by
 intro pins s σ H x y v u Q I rx ry h
 obtain⟨hs,q⟩:=h
 cases x with
 | non =>
  cases rx
  cases y with
  | non=>cases ry;exact PySem.EqNone.ne_none_none (bA I q (by simp))
  | bl j=>cases ry;exact PySem.EqNone.ne_none_bool (bA I q (by simp))
  | int j=>obtain⟨t',rfl⟩:=ry;exact PySem.EqNone.ne_none_int (bA I q (by simp))
  | str j=>obtain⟨t',rfl⟩:=ry;exact PySem.EqNone.ne_none_str (bA I q (by simp))
  | _=>exact absurd (show false=true from hs) Bool.false_ne_true
 | bl i =>
  cases rx
  cases y with
  | non=>cases ry;exact PySem.EqNone.ne_bool_none (bA I q (by simp))
  | bl j=>cases ry;exact ne_bool (bA I q (congrArg not BM))
  | str j=>obtain⟨t',rfl⟩:=ry;exact PySem.EqMixed.ne_bool_str (bA I q (by simp))
  | _=>exact absurd (show false=true from hs) Bool.false_ne_true
 | int i =>
  obtain⟨t,rfl⟩:=rx
  cases y with
  | non=>cases ry;exact PySem.EqNone.ne_int_none (bA I q (by simp))
  | int j=>obtain⟨t',rfl⟩:=ry;exact ne_int (bA I q (congrArg not xY))
  | str j=>obtain⟨t',rfl⟩:=ry;exact PySem.EqMixed.ne_int_str (bA I q (by simp))
  | _=>exact absurd (show false=true from hs) Bool.false_ne_true
 | str i =>
  obtain⟨t,rfl⟩:=rx
  cases y with
  | non=>cases ry;exact PySem.EqNone.ne_str_none (bA I q (by simp))
  | bl j=>cases ry;exact PySem.EqMixed.ne_str_bool (bA I q (by simp))
  | int j=>obtain⟨t',rfl⟩:=ry;exact PySem.EqMixed.ne_str_int (bA I q (by simp))
  | str j=>obtain⟨t',rfl⟩:=ry;exact ne_str (bA I q (congrArg not xZ))
  | _=>exact absurd (show false=true from hs) Bool.false_ne_true
 | byt i =>
  obtain⟨t,rfl⟩:=rx
  cases y with
  | byt j=>obtain⟨t',rfl⟩:=ry;exact PySem.W.ne_bytes (bA I q (congrArg not xX))
  | _=>exact absurd (show false=true from hs) Bool.false_ne_true
 | _=>cases y <;> exact absurd (show false=true from hs) Bool.false_ne_true
theorem MP:OpR X (compareOp .Lt) (rI0 λi j=>.bl (decide (i<j))):=KL λ_ _ _ _ _ _ _ q=>lt_int q
theorem MO:OpR X (compareOp .LtE) (rI0 λi j=>.bl (decide (i<=j))):=KL λ_ _ _ _ _ _ _ q=>le_int q
theorem MN:OpR X (compareOp .Gt) (rI0 λi j=>.bl (decide (j<i))):=KL λ_ _ _ _ _ _ _ q=>gt_int q
theorem KN:OpR X (compareOp .Is) (λx y H Q=>y = .non/\Q (.bl (decide (x = .non))) H):=by
 intro pins s σ H x y v u Q I rx ry h
 obtain⟨rfl,q⟩:=h
 cases ry
 refine is_none_gen (bA I q ?_)
 cases x <;> first
  | (cases rx;rfl)
  | (obtain⟨t,rfl⟩:=rx;rfl)
noncomputable def MF:HO->Bool
 | .lst _=>true
 | .ins _ _ _=>true
 | _=>false
theorem mB {pins:List (Addr × Obj)} {s:Shared} {σ:St} {H:Hp} {a:Addr} {o:HO} (I:Inv X pins σ H s) (h:H a=some o) (p:MF o=true):∃ob,s.heap.get? a=some ob/\ob.cls≠.type "tuple":=by
 cases o with
 | lst xs =>
  obtain⟨_,its,n,_,e⟩:xs.length<=sizeLine/\∃(its:List Value) (n:Nat),Vals xs its/\s.heap.get? a=some { cls:=.type "list",data:=.seq its.toArray n }:=I.hok a _ h
  exact⟨_,e,(by show Value.type "list"≠.type "tuple";decide +kernel)⟩
 | ins C dx fs =>
  have x:=I.hok a _ h
  obtain⟨_,_,_,e,_⟩:=x
  exact⟨_,e,(by show Value.ref C≠.type "tuple";exact λz=>by cases z)⟩
 | _=>exact absurd (show false=true from p) Bool.false_ne_true
theorem DH (b:Expr) {op:CmpOp} (h:op≠.In:=by decide) (h2:op≠.NotIn:=by decide):behindInMarks op b=false:=by
 have e1:(op == CmpOp.In)=false:=by cases op <;> first | rfl | exact absurd rfl h
 have e2:(op == CmpOp.NotIn)=false:=by cases op <;> first | rfl | exact absurd rfl h2
 cases b <;> simp[behindInMarks,e1,e2]
theorem HF {op:CmpOp} {r:R2} (ho:OpR X (compareOp op) r) (ha:PE X a ta) (hb:PE X b tb) (hm:behindInMarks op b=false):PE X (.Compare a [op] [b] pos) (tOp r ta tb):=by
 intro pins s σ H Q I h
 exact wpAny_Compare1 (JK ha hb I h λv u s2 x y H2 I2 rx ry q=>ho pins s2 σ H2 x y v u Q I2 rx ry q) hm
noncomputable def NI (t:TE):TT:=λσ H Q=>t σ H λx H'=>∃k,x = .bl k/\Q k H'
theorem HL {op:CmpOp} {r:R2} (ho:OpR X (compareOp op) r) (ha:PE X a ta) (hb:PE X b tb) (hm:behindInMarks op b=false):PT X (.Compare a [op] [b] pos) (NI (tOp r ta tb)):=by
 intro pins s σ H Q I h
 refine wpAny_isTrue_Compare1 (thn (ha pins s σ H _ I h) λv s1 ⟨x,H1,I1,r1,q1⟩=>thn (hb pins s1 σ H1 _ I1 q1) λu s2 ⟨y,H2,I2,r2,q2⟩ =>
  thn (ho pins s2 σ H2 x y v u _ I2 r1 r2 q2) λc s3 ⟨z,H3,I3,r3,k,e,q3⟩=>?_) hm
 subst e
 cases r3
 exact wpAny_truthy_bool ⟨H3,I3,q3⟩
theorem vY:(sizeLine:Nat)<2 ^ 63:=by rw[sizeLine_eq];decide
theorem kB {x:V} {us:List Value} (r:Vals [x] us):∃u,us=[u]/\RelV x u:=by
 cases r with
 | cons r1 r2=>cases r2;exact⟨_,rfl,r1⟩
theorem uY {x y:V} {us:List Value} (r:Vals [x,y] us):∃u w',us=[u,w']/\RelV x u/\RelV y w':=by
 cases r with
 | cons r1 r2 =>
  cases r2 with
  | cons r3 r4=>cases r4;exact⟨_,_,rfl,r1,r3⟩
theorem BD:gT X (.builtin "abs") (λxs H Q=>∃i,xs=[.int i]/\Q (.int (if i<0 then -i else i)) H):=by
 intro pins s σ H xs us Q I r h
 obtain⟨i,rfl,q⟩:=h
 obtain⟨u,rfl,t,rfl⟩:=kB r
 exact call_abs_int λu tk=>⟨.int (if i<0 then -i else i),H,I.tok _,⟨_,rfl⟩,q⟩
theorem zH (hc:X.calm=true):gT X (.builtin "min") (λxs H Q=>∃i j,xs=[.int i,.int j]/\Q (.int (if j<i then j else i)) H):=by
 intro pins s σ H xs us Q I r h
 obtain⟨i,j,rfl,q⟩:=h
 obtain⟨u,w',rfl,⟨t,rfl⟩,⟨t',rfl⟩⟩:=uY r
 refine min_two_ints (I.ok.hd hc) λh' tk k=>⟨_,H,I.kept k,?_,q⟩
 by_cases hj:j<i
 ·rw[if_pos hj,if_pos hj];exact⟨_,rfl⟩
 ·rw[if_neg hj,if_neg hj];exact⟨_,rfl⟩
end
end L2
namespace L2
open PySem PySem.Spec PyProof.Rows
structure ObjM (h:Heap) (x dx C:Addr) (mA:Str->Option Value):Prop where
 obj:h.get? x=some (PySem.W.instObj C dx)
 ns:h.Ns1 dx mA
 ne:dx≠x
theorem qR {h:Heap} {dx:Addr} {mA:Str->Option Value} (n:h.Ns1 dx mA):∃od,h.get? dx=some od/\∀name,PySem.W.lookIn name od=some (mA name):=by
 obtain⟨o,es,ep,ho,hd,hk,_,hm⟩:=n
 refine⟨o,ho,λname=>?_⟩
 have e:=hm name
 unfold nsFind findBy at e
 rw[<-Array.find?_toList] at e
 unfold PySem.W.lookIn
 rw[hd]
 dsimp only
 split
 ·rename_i y q
  rw[q] at e
  exact congrArg some e
 ·rename_i q
  rw[q] at e
  have a:es.toList.any (·.refKey)=false:=by
   rw[List.any_eq_false]
   intro y hy
   obtain⟨z,t,hkey⟩:=hk y (Array.mem_toList_iff.mp hy)
   simp[DictEntry.refKey,hkey]
  have a':¬es.toList.any (·.refKey)=true:=by rw[a];exact Bool.false_ne_true
  rw[if_neg a']
  exact congrArg some e
theorem ObjM.look {h:Heap} {x dx C:Addr} {mA:Str->Option Value} (I:ObjM h x dx C mA):∃od,PySem.W.InstAt h x (PySem.W.instObj C dx) C (some od)/\∀name,PySem.W.lookIn name od=some (mA name) :=
 let ⟨od,ho,hl⟩:=qR I.ns
 ⟨od,⟨I.obj,rfl,rfl,ho⟩,hl⟩
section
variable {prog:Program} {w:World} {A:Around} {E:Value->Shared->Prop} {s:Shared} {K:PySem.W.Frag} {x dx C f:Addr} {mA:Str->Option Value} {name:Str} {v:Value}
end
theorem RelO.some_of {v:V} {o:Option Value} (r:RelO (some v) o):∃u,o=some u/\RelV v u:=by
 cases o with
 | none=>exact (show False from r).elim
 | some u=>exact⟨u,rfl,r⟩
section
variable {P:Program} {w:World} {H H':Hp} {h h':Heap} {a C dx:Addr} {fs fs':List (Str × V)}
theorem GM (hok:HOk P w H h) (e:H a=some (.ins C dx fs)):∃mA,ObjM h a dx C mA/\(∀f,RelO (fs.lookup f) (mA f))/\PySem.Within mA (fs.map (·.1))/\fs.length<=1000/\H dx=some (.own a):=by
 obtain⟨d,z,ne,ob,mA,n,r,q⟩:=(show ObjOk P w H h a (.ins C dx fs) from hok a _ e)
 exact⟨mA,⟨ob,n,ne⟩,r,q,z,d⟩
end
structure Cls (K:PySem.W.Frag) (C:Addr):Prop where
 pg:PySem.W.plainGet K C Str.empty=true
 hd:PySem.W.hasDictIn K C=true
 po:PySem.W.plainOver K C=true
 sa:PySem.W.findIn K (.ref C) "__setattr__" = some (some (.builtin "object.__setattr__"))
theorem Cls.get {K:PySem.W.Frag} {C:Addr} (c:Cls K C) (f:Str):PySem.W.plainGet K C f=true:=c.pg
section
variable {X:Cx} {pins:List (Addr × Obj)} {σ:St} {H:Hp} {s:Shared} {a C dx:Addr} {fs:List (Str × V)} {f:Str} {v:V} {A:Around} {E:Value->Shared->Prop}
theorem xL {prog:Program} {w:World} {env:Env} {e:Expr} {f:Str} {pos:Pos} {s:Shared} {Q:Value->Shared->Prop} (hb:attributeBase e f env (eval e env)=eval e env)
  (h:wpAny (model prog w) A (eval e env) (λo s₁=>wpAny (model prog w) A (getAttr o f true) Q E s₁) E s):wpAny (model prog w) A (eval (.Attribute e f pos) env) Q E s :=
 Attribute_any_ h (by rw[arm_eval_Attribute,hb])
end
section
variable {X:Cx} {o e value:Expr} {f:Str} {pos pos' tpos:Pos} {ta tv:TE}
end
section
variable {X:Cx} {pins:List (Addr × Obj)} {σ:St} {H:Hp} {s:Shared} {A:Around} {E:Value->Shared->Prop} {Q:Value->Shared->Prop} {c:Value} {b:Bool}
inductive TyOf (K:PySem.W.Frag) (H:Hp):V->Value->Prop where
 | non:TyOf K H .non (.type "NoneType")
 | bl (x:Bool):TyOf K H (.bl x) (.type "bool")
 | int (i:Int):TyOf K H (.int i) (.type "int")
 | str (x:Str):TyOf K H (.str x) (.type "str")
 | flt (x:UInt64):TyOf K H (.flt x) (.type "float")
 | lst {a:Addr} {xs:List V} (e:H a=some (.lst xs)):TyOf K H (.ref a) (.type "list")
 | frz {a:Addr} {o:Obj} {xs:List V} (e:H a=some (.frz o (.lst xs))):TyOf K H (.ref a) (.type "list")
 | tup {a:Addr} {xs:List V} (e:H a=some (.tup xs)):TyOf K H (.ref a) (.type "tuple")
 | dK {a:Addr} {kvs:List (Key × V)} (e:H a=some (.dK kvs)):TyOf K H (.ref a) (.type "dict")
 | dT {a:Addr} {kvs:List (List Key × V)} (e:H a=some (.dT kvs)):TyOf K H (.ref a) (.type "dict")
 | ins {a C dx:Addr} {fs:List (Str × V)} (e:H a=some (.ins C dx fs)) (cl:Cls K C) (ha:PySem.W.findIn K (.ref C) "__class__" = some (some (.builtin "object.__class__")))
   (hn:PySem.W.specialIn K (.builtin "object.__class__") "__get__" = some (some (.builtin "getset_descriptor.__get__"))) (htk:PySem.W.takesIn K (.builtin "object.__class__")=some true)
   (hm:PySem.W.mroIn K C (.type "object")=some true):TyOf K H (.ref a) (.ref C)
theorem zU {x:V} {u t:Value} (I:Inv X pins σ H s) (rx:RelV x u) (ty:TyOf X.K H x t) (e:PySem.W.kitOne X.K t c=some b) (h:∀tk,Q (.bool b) { s with toks:=tk }) :
  wpAny (model X.prog X.w) A (call (.builtin "isinstance") [u,c]) Q E s:=by
 cases ty with
 | non=>cases (show u=Value.none from rx);exact PySem.W.kia_one PySem.W.kitx_none I.kIn True.intro e (λz=>nomatch z) h
 | bl y=>cases (show u=Value.bool y from rx);exact PySem.W.kia_one PySem.W.kitx_bool I.kIn True.intro e (λz=>nomatch z) h
 | int i=>obtain⟨t,q⟩:=(show ∃t,u=Value.int i t from rx);cases q;exact PySem.W.kia_one PySem.W.kitx_int I.kIn True.intro e (λz=>nomatch z) h
 | str y=>obtain⟨t,q⟩:=(show ∃t,u=Value.str y t from rx);cases q;exact PySem.W.kia_one PySem.W.kitx_str I.kIn True.intro e (λz=>nomatch z) h
 | flt y=>obtain⟨t,q⟩:=(show ∃t,u=Value.float y t from rx);cases q;exact PySem.W.kia_one PySem.W.kitx_float I.kIn True.intro e (λz=>nomatch z) h
 | @lst a xs ea =>
  cases (show u=Value.ref a from rx)
  obtain⟨_,_,n,_,h1⟩:=(show ObjOk X.prog X.w H s.heap a (.lst xs) from I.hok a _ ea)
  exact PySem.W.kia_one PySem.W.kitx_list I.kIn ⟨_,h1,rfl⟩ e (λz=>nomatch z) h
 | @frz a ob xs ea =>
  cases (show u=Value.ref a from rx)
  obtain⟨_,_,_,n,_,h1⟩:=(show ObjOk X.prog X.w H s.heap a (.frz ob (.lst xs)) from I.hok a _ ea)
  exact PySem.W.kia_one PySem.W.kitx_list I.kIn ⟨_,h1,rfl⟩ e (λz=>nomatch z) h
 | @tup a xs ea =>
  cases (show u=Value.ref a from rx)
  obtain⟨_,_,_,p⟩:=(show ObjOk X.prog X.w H s.heap a (.tup xs) from I.hok a _ ea)
  obtain⟨o,h1,h2,_⟩:=p
  exact PySem.W.kia_one PySem.W.kitx_tuple I.kIn ⟨o,h1,h2⟩ e (λz=>nomatch z) h
 | @dK a kvs ea =>
  cases (show u=Value.ref a from rx)
  obtain⟨_,_,vs,_,p⟩:=(show ObjOk X.prog X.w H s.heap a (.dK kvs) from I.hok a _ ea)
  obtain⟨o,es,ep,h1,h2,_⟩:=p
  exact PySem.W.kia_one PySem.W.kitx_dict I.kIn ⟨o,h1,h2.1⟩ e (λz=>nomatch z) h
 | @dT a kvs ea =>
  cases (show u=Value.ref a from rx)
  obtain⟨_,_,xs,_,o,es,ep,h1,h2,_⟩:=(show ObjOk X.prog X.w H s.heap a (.dT kvs) from I.hok a _ ea)
  exact PySem.W.kia_one PySem.W.kitx_dict I.kIn ⟨o,h1,h2.1⟩ e (λz=>nomatch z) h
 | @ins a C dx fs ea cl ha hn htk hm =>
  cases (show u=Value.ref a from rx)
  obtain⟨mA,O,_⟩:=GM I.hok ea
  obtain⟨od,J,_⟩:=O.look
  exact PySem.W.kia_one (PySem.W.kitx_own (cl.get _) cl.hd ha hn htk hm) I.kIn J e (λz=>nomatch z) h
end
end L2
namespace L2
open PySem PySem.Spec PyProof.Rows
structure Room (k:Nat) (A:Around):Prop where
 hd:A.handled=none
 dp:A.depth+3*k+5<recursionLimit
 un:A.units+16*k+200<cLine
theorem Room.mono {j k:Nat} {A:Around} (r:Room k A) (h:j<=k):Room j A:=⟨r.hd,by have:=r.dp;omega,by have:=r.un;omega⟩
theorem Room.deeper {k:Nat} {A:Around} (r:Room (k+1) A) (env:Env):Room k (A.deeper env) :=
 ⟨r.hd,by have:=r.dp;show A.depth+1+3*k+5<_;omega,by have:=r.un;show A.units+3+16*k+200<_;omega⟩
theorem vZ {A:Around} {C:Addr} {us:List Value} {kw:List (Str × Value)}:(A.under (.builtin "type.__call__" ⟨.ref C::us,kw⟩)).depth=A.depth+1:=by
 first | rfl | simp[Around.under,Code.weight,Code.isCreation,Code.isGuard,Code.isCaller,Code.frames,Code.isFrame,guardIds]
theorem wA {A:Around} {C:Addr} {us:List Value} {kw:List (Str × Value)}:(A.under (.builtin "type.__call__" ⟨.ref C::us,kw⟩)).units=A.units+1:=by
 first | rfl | simp[Around.under,Code.cUnits,Code.frames,Code.isFrame]
theorem Room.make {k:Nat} {A:Around} (r:Room (k+1) A) (C:Addr) (us:List Value) (kw:List (Str × Value)):Room k (A.under (.builtin "type.__call__" ⟨.ref C::us,kw⟩)) :=
 ⟨r.hd,by have:=r.dp;rw[vZ];omega,by have:=r.un;rw[wA];omega⟩
theorem Room.depth {k:Nat} {A:Around} (r:Room k A):A.depth<recursionLimit:=by have:=r.dp;omega
theorem Room.units {k:Nat} {A:Around} (r:Room k A):A.units+64<cLine:=by have:=r.un;omega
noncomputable def OA:TA:=λ_ H Q=>Q [] H
noncomputable def NC (ta:TE) (tr:TA):TA:=λσ H Q=>ta σ H λx H1=>tr σ H1 λxs H2=>Q (x::xs) H2
section
variable {X:Cx} {e:Expr} {es:List Expr} {te:TE} {t:TA} {pos:Pos}
theorem gA:PA X [] OA:=λ_ _ _ _ H Q I h=>Calls.spliced_nil ⟨[],H,I,.nil,h⟩
theorem bW (ha:PE X e te) (hr:PA X es t) (hs:starEach (e::es) X.env=(false,eval e X.env)::starEach es X.env:=by rfl):PA X (e::es) (NC te t):=by
 intro pos pins s σ H Q I h
 rw[hs]
 show wpAny _ _ (spliced ((false,eval e X.env)::backTo pos (starEach es X.env))) _ _ s
 refine Calls.spliced_cons (thn (ha pins s σ H _ I h) λu s1 ⟨x,H1,I1,r1,q1⟩=>?_)
 exact thn (hr pos pins s1 σ H1 _ I1 q1) λus s2 ⟨xs,H2,I2,r2,q2⟩=>⟨x::xs,H2,I2,.cons r1 r2,q2⟩
noncomputable def OE (t:TA):TE:=λσ H Q=>t σ H λxs H1=>xs.length<=sizeLine/\∀p,H1 p=none->Q (.ref p) (upd H1 p (.tup xs))
noncomputable def NZ (t:TA):TE:=λσ H Q=>t σ H λxs H1=>xs.length<=sizeLine/\∀p,H1 p=none->Q (.ref p) (upd H1 p (.lst xs))
theorem DZ {x1} (h:PA X es t):PE X (.Tuple es x1 pos) (OE t):=by
 intro pins s σ H Q I hq
 refine wpAny_Tuple_spliced (thn (h pos pins s σ H _ I hq) λus s1 ⟨xs,H1,I1,r,z,q⟩=>⟨by rw[<-r.length];exact z,?_⟩)
 have hf:H1 s1.heap.objs.size=none:=I1.hok.fresh (Nat.le_refl _)
 refine⟨.ref s1.heap.objs.size,upd H1 s1.heap.objs.size (.tup xs),I1.laid (t':=s1.toks) (λb u e=>Heap.get?_push_of_some _ e) (Nat.le_refl _) ?_,rfl,q _ hf⟩
 exact⟨z,us,r,⟨_,Heap.get?_push_size _ rfl,rfl,_,rfl⟩⟩
theorem DU (h:PA X es t):PE X (.List es pos) (NZ t):=by
 intro pins s σ H Q I hq
 refine wpAny_List_spliced (thn (h pos pins s σ H _ I hq) λus s1 ⟨xs,H1,I1,r,z,q⟩=>⟨by rw[<-r.length];exact z,?_⟩)
 have hf:H1 s1.heap.objs.size=none:=I1.hok.fresh (Nat.le_refl _)
 refine⟨.ref s1.heap.objs.size,upd H1 s1.heap.objs.size (.lst xs),I1.laid (t':=s1.toks) (λb u e=>Heap.get?_push_of_some _ e) (Nat.le_refl _) ?_,rfl,q _ hf⟩
 exact⟨z,us,0,r,Heap.get?_push_size _ rfl⟩
end
noncomputable abbrev Sp:=List V->Hp->VK->XK->Prop
noncomputable abbrev CXT:=List Env->Hp->Shared->XK->Value->Shared->Prop
structure Env0 (P:Program) (w:World) (K:PySem.W.Frag) (mg:Str->Option Value) (base:Heap) (A:Around) (outer:List Env) (s:Shared) (H:Hp):Prop where
 frames:A.frames=some outer
 mod:Mod K mg base
 bs:∀b o,base.get? b=some o->s.heap.get? b=some o/\H b=none
 bsz:base.objs.size<=s.heap.objs.size
 funs:s.heap.FunFrames base outer
 frf:∀b∈frs outer,H b=none
 hok:HOk P w H s.heap
 bare:AllBare s.gens
noncomputable def CE (outer:List Env) (P:Program) (w:World) (H:Hp) (s:Shared) (Q:VK) (u:Value) (s':Shared):Prop :=
 ∃v H',s'.os=s.os/\AllBare s'.gens/\Un (frs outer) [] H H' s.heap s'.heap/\HOk P w H' s'.heap/\RelV v u/\Q v H'
noncomputable def CR (CX:CXT) (outer:List Env) (P:Program) (w:World) (H:Hp) (s:Shared) (Q:VK) (E:XK) (r:Result) (s':Shared):Prop :=
 match r with
 | .ok (.ret u)=>CE outer P w H s Q u s'
 | .ok _=>False
 | .error e=>CX outer H s E e s'
structure FnOk (P:Program) (w:World) (K:PySem.W.Frag) (mg:Str->Option Value) (base:Heap) (CX:CXT) (k:Nat) (f:Addr) (fd:FuncData) (ps:List Str) (sp:Sp):Prop where
 len:∀vs H Q E,sp vs H Q E->vs.length=ps.length
 run:∀(A:Around) (outer:List Env) (s:Shared) (H:Hp) (args:Args) (us:List Value) (vs:List V) (Q:VK) (E:XK),Room k A->Env0 P w K mg base A outer s H->BindsTo s fd args (ps.zip us)->Vals vs us->sp vs H Q E ->
  codeAny (model P w) A (.call (.ref f) args) (CR CX outer P w H s Q E) s
theorem FnOk.mono {P:Program} {w:World} {K:PySem.W.Frag} {mg:Str->Option Value} {base:Heap} {CX:CXT} {j k:Nat} {f:Addr} {fd:FuncData} {ps:List Str} {sp:Sp} (F:FnOk P w K mg base CX j f fd ps sp) (h:j<=k) :
  FnOk P w K mg base CX k f fd ps sp:=⟨F.len,λA outer s H args us vs Q E hr=>F.run A outer s H args us vs Q E (hr.mono h)⟩
theorem Env0.make {P:Program} {w:World} {K:PySem.W.Frag} {mg:Str->Option Value} {base:Heap} {A:Around} {outer:List Env} {s:Shared} {H:Hp} (e:Env0 P w K mg base A outer s H) (C:Addr) (us:List Value) (kw:List (Str × Value)) :
  Env0 P w K mg base (A.under (.builtin "type.__call__" ⟨.ref C::us,kw⟩)) outer s H:=⟨by first | exact e.frames | (simpa [Around.under,Code.envs,Code.isFrame,pushEnvs] using e.frames),e.mod,e.bs,e.bsz,e.funs,e.frf,e.hok,e.bare⟩
section
variable {X:Cx} {pins:List (Addr × Obj)} {σ:St} {H:Hp} {s s':Shared}
theorem Inv.env0 (I:Inv X pins σ H s):Env0 X.prog X.w X.K X.mg X.base X.A X.stack s H :=
 ⟨I.ok.frames,I.ok.mod,I.bs,Nat.le_trans I.ok.bsz I.sz,I.stack,I.stkFree,I.hok,I.bare⟩
theorem Inv.after {Q:VK} {u:Value} (I:Inv X pins σ H s) (h:CE X.stack X.prog X.w H s Q u s'):EP X pins σ Q u s':=by
 obtain⟨v,H',os,bare,un,hok,r,q⟩:=h
 obtain⟨hh,g,d,t,os'⟩:=s'
 obtain rfl:os'=s.os:=os
 exact⟨v,H',I.call (h':=hh) (g':=g) (d':=d) (t':=t) (ch:=[]) un hok bare (λb z=>absurd z (by simp)),r,q⟩
end
noncomputable def NB (sp:Sp) (dvs:List V) (E:XK) (t:TA):TE:=λσ H Q=>t σ H λvs H1=>sp (vs++dvs) H1 Q E
noncomputable def Binds (K:PySem.W.Frag) (fd:FuncData) (ps:List Str) (ds:List Value):Prop :=
 ∀(s:Shared) (us:List Value),K.In s.heap->(us++ds).length=ps.length->BindsTo s fd ⟨us,[]⟩ (ps.zip (us++ds))
theorem Binds.all {K:PySem.W.Frag} {fd:FuncData} {ps:List Str} (h:∀us:List Value,us.length=ps.length->bindArgs fd ⟨us,[]⟩=pure (ps.zip us)):Binds K fd ps []:=λs us _ hl=>by
 rw[List.append_nil] at hl ⊢
 exact .of_eq (h us hl)
noncomputable def vD (CX:CXT) (X:Cx) (E:XK):Prop:=∀(pins:List (Addr × Obj)) (σ:St) (H:Hp) (s:Shared) (e:Value) (s':Shared),Inv X pins σ H s->CX X.stack H s E e s'->X.xe e s'
section
variable {X:Cx} {CX:CXT} {k:Nat} {f C:Addr} {fd:FuncData} {ps:List Str} {sp:Sp} {dvs:List V} {ds:List Value} {E:XK} {x m:Str} {p pos apos:Pos} {e o:Expr} {es:List Expr} {ta:TE} {t:TA}
theorem LE {pins:List (Addr × Obj)} {σ:St} {H:Hp} {s:Shared} {Q:VK} {us:List Value} {vs:List V} (F:FnOk X.prog X.w X.K X.mg X.base CX k f fd ps sp) (hr:Room k X.A) (hb:Binds X.K fd ps ds) (hd:Vals dvs ds) (hx:vD CX X E)
  (I:Inv X pins σ H s) (r:Vals vs us) (h:sp (vs++dvs) H Q E):wpAny (model X.prog X.w) X.A (call (.ref f) us) (EP X pins σ Q) X.xe s:=by
 have r2:Vals (vs++dvs) (us++ds):=r.append hd
 have hl:(us++ds).length=ps.length:=by rw[<-r2.length];exact F.len _ _ _ _ h
 refine wpAny_call (codeAny_mono (F.run X.A X.stack s H ⟨us,[]⟩ (us++ds) (vs++dvs) Q E hr I.env0 (hb s us I.kIn hl) r2 h) λr s' hq=>?_)
 cases r with
 | error e=>exact hx pins σ H s e s' I hq
 | ok fl =>
  cases fl with
  | ret u=>exact I.after hq
  | next=>exact False.elim hq
  | brk=>exact False.elim hq
  | cont=>exact False.elim hq
theorem yM (F:FnOk X.prog X.w X.K X.mg X.base CX k f fd ps sp) (hr:Room k X.A) (hg:Gl X x) (hm:X.mg x=some (.ref f)) (hk:PySem.W.keepIn X.K (.ref f)=true) (hb:Binds X.K fd ps ds) (hd:Vals dvs ds) (hx:vD CX X E)
  (ha:PA X (e::es) t) (hdb:(x == ("__debug__":Str))=false:=by decide) (he:starEach (e::es) X.env=(false,eval e X.env)::starEach es X.env:=by rfl) (hpl:(backTo pos (starEach es X.env)).any (·.1)=false:=by rfl) :
  PE X (.Call (.Name x p) (e::es) [] pos) (NB sp dvs E t):=by
 intro pins s σ H Q I h
 refine wpAny_Call_Name_kw (fR I hg hm ?_ hdb)
 refine PySem.W.callWith_K (h₀:=X.base) I.ok.mod.kin hk (thn (ha pos pins s σ H _ I h) λus s1 ⟨vs,H1,I1,r,q⟩=>⟨I1.kIn,?_⟩) he hpl
 exact LE F hr hb hd hx I1 r q
end
section
variable {X:Cx} {CX:CXT} {k:Nat} {f C:Addr} {fd:FuncData} {ps ks:List Str} {sp:Sp} {E:XK} {x m:Str} {p pos apos kpos:Pos} {e o:Expr} {es:List Expr} {kws:List Keyword} {te ta:TE} {t tk:TA} {nm:Option Str}
variable {g:List Value->List Value->List Value} {gV:List V->List V->List V}
end
structure FnScope (N P:List Str) (sc:Scope):Prop where
 kind:sc.kind = .function
 co:sc.isCoroutine=false
 gen:sc.isGenerator=false
 nd:N.Nodup
 pre:N.take P.length=P
 par:∀x∈P,sc.names.lookup x=some .local\/sc.names.lookup x=some .cell
 nofree:∀y∈sc.names,y.2≠.free
theorem qI {kindOf:Str->Option NameKind} {x:Str}:∀{binds:List (Str × Value)} {m:Str->Option Value},(∀v,(x,v) ∉ binds)->bindL kindOf binds m x=m x
 | [],_,_=>rfl
 | (n,v)::r,m,h=>by
  unfold bindL
  rw[qI λw hw=>h w (List.mem_cons_of_mem _ hw)]
  split
  ·have:x≠n:=by rintro rfl;exact h v List.mem_cons_self
   simp[this]
  ·rfl
theorem qG {kindOf:Str->Option NameKind} {x:Str}:∀{binds:List (Str × Value)} {m:Str->Option Value},(∀v,(x,v) ∉ binds)->bindC kindOf binds m x=m x
 | [],_,_=>rfl
 | (n,v)::r,m,h=>by
  unfold bindC
  rw[qG λw hw=>h w (List.mem_cons_of_mem _ hw)]
  split
  ·rfl
  ·have:x≠n:=by rintro rfl;exact h v List.mem_cons_self
   simp[this]
theorem qH {kindOf:Str->Option NameKind} {x:Str} {v:Value}:∀{P:List Str} {vs:List Value} {i:Nat} {m:Str->Option Value},P.Nodup->P[i]? = some x->vs[i]? = some v->kindOf x=some .local ->
  bindL kindOf (P.zip vs) m x=some v
 | [],_,_,_,_,h,_,_=>by simp at h
 | _::_,[],_,_,_,_,h,_=>by simp at h
 | p::P,w::vs,0,m,nd,h1,h2,hk=>by
  simp at h1 h2;subst h1;subst h2
  show bindL kindOf ((p,w)::P.zip vs) m p=_
  unfold bindL
  rw[qI λv hv=>(List.nodup_cons.mp nd).1 (List.of_mem_zip hv).1,if_pos hk]
  simp
 | p::P,w::vs,i+1,m,nd,h1,h2,hk=>by
  show bindL kindOf ((p,w)::P.zip vs) m x=_
  unfold bindL
  exact qH (i:=i) (List.nodup_cons.mp nd).2 (by simpa using h1) (by simpa using h2) hk
theorem qF {kindOf:Str->Option NameKind} {x:Str} {v:Value}:∀{P:List Str} {vs:List Value} {i:Nat} {m:Str->Option Value},P.Nodup->P[i]? = some x->vs[i]? = some v->kindOf x≠some .local ->
  bindC kindOf (P.zip vs) m x=some v
 | [],_,_,_,_,h,_,_=>by simp at h
 | _::_,[],_,_,_,_,h,_=>by simp at h
 | p::P,w::vs,0,m,nd,h1,h2,hk=>by
  simp at h1 h2;subst h1;subst h2
  show bindC kindOf ((p,w)::P.zip vs) m p=_
  unfold bindC
  rw[qG λv hv=>(List.nodup_cons.mp nd).1 (List.of_mem_zip hv).1,if_neg hk]
  simp
 | p::P,w::vs,i+1,m,nd,h1,h2,hk=>by
  show bindC kindOf ((p,w)::P.zip vs) m x=_
  unfold bindC
  exact qF (i:=i) (List.nodup_cons.mp nd).2 (by simpa using h1) (by simpa using h2) hk
noncomputable def iZ (N:List Str) (vs:List V):St:=vs.map some++List.replicate (N.length-vs.length) none
noncomputable def bX (CX:CXT) (P:Program) (w:World) (K:PySem.W.Frag) (mg:Str->Option Value) (base:Heap) (N:List Str) (qual:Str) (scope:Scope) (f:Addr) (cd:Value) (A:Around) (outer:List Env) (s:Shared) (H:Hp) (E:XK):Cx where
 prog:=P
 w:=w
 K:=K
 mg:=mg
 base:=base
 A:=A.deeper (envOfC qual scope s.heap.objs.size f cd)
 N:=N
 s₀:=s
 H₀:=H
 env:=envOfC qual scope s.heap.objs.size f cd
 outer:=outer
 stack:=envOfC qual scope s.heap.objs.size f cd::outer
 ex:=[]
 calm:=true
 fn:=λ_=>true
 pn:=[]
 xe:=λe s'=>wpAny (model P w) (A.deeper (envOfC qual scope s.heap.objs.size f cd)) (leaving (envOfC qual scope s.heap.objs.size f cd) e) (λ_ s''=>CX outer H s E e s'') (λe' s''=>CX outer H s E e' s'') s'
theorem tE {sc:Scope} {n:Nat} {x:Str} (h:sc.names.lookup x=some .cell):∃c,(cellsFrom n sc.names []).lookup x=some c:=by
 have q:=PySem.W.cellsFrom_some sc.names n [] (.inl h)
 exact Option.isSome_iff_exists.mp q
theorem zT {CX:CXT} {P:Program} {w:World} {K:PySem.W.Frag} {mg:Str->Option Value} {base:Heap} {N ps:List Str} {qual:Str} {scope:Scope} {f:Addr} {cd:Value} {A:Around} {outer:List Env} {s s1:Shared} {H:Hp} {E:XK} {us:List Value} {vs:List V}
  (S:FnScope N ps scope) (hd:A.handled=none) (e0:Env0 P w K mg base A outer s H) (hl:vs.length=ps.length) (r:Vals vs us)
  (x:InCallC s s.heap.objs.size (bindL (envOfC qual scope s.heap.objs.size f cd).kindOf (ps.zip us) λ_=>none) (cellsFrom (s.heap.objs.size+1) scope.names []) (bindC (envOfC qual scope s.heap.objs.size f cd).kindOf (ps.zip us) λ_=>none) s1) :
  Inv (bX CX P w K mg base N qual scope f cd A outer s H E) [] (iZ N vs) H s1:=by
 have hpl:ps.length<=N.length:=by have:=congrArg List.length S.pre;rw[List.length_take] at this;omega
 obtain⟨h1,tk,rfl,hk⟩:=x.done
 have noA:∀b:Addr,b ∉ (bX CX P w K mg base N qual scope f cd A outer s H E).ex:=λb z=>absurd (show b∈([]:List Addr) from z) (by simp)
 refine⟨⟨e0.mod,S.kind,rfl,rfl,Nat.le_refl _,λy z c h1 h2=>?_,λy hy=>?_,λy c _ h=>?_,λ_=>hd,Around.frames_deeper e0.frames,.inr ⟨rfl,rfl⟩,λb z=>absurd z (noA b),e0.bs,e0.bsz,λb _ _=>noA b,λb z=>absurd z (noA b),e0.funs,e0.frf⟩,
  rfl,e0.bare,Un.kept hk,⟨_,x.toInCall.ns,λi y v h1 h2 h3=>?_⟩,λy c h=>⟨_,x.cell y c h⟩,e0.hok.fresh (Nat.le_refl _),λy c h=>?_,λp hp=>absurd (show p∈([]:List (Addr × Obj)) from hp) (by simp),e0.hok.kept hk,?_⟩
 ·exact name_of_addr x.apart (PySem.mem_of_lookup h1) (PySem.mem_of_lookup h2)
 ·have hy:scope.names.lookup y=some .cell\/scope.names.lookup y=some .free:=hy
  rcases hy with hy | hy
  ·exact tE hy
  ·exact absurd rfl (S.nofree _ (PySem.mem_of_lookup hy))
 ·exact Nat.le_of_lt (x.above y c (PySem.mem_of_lookup h))
 ·have hi:i<vs.length:=by
   unfold iZ at h2
   by_cases hi:i<vs.length
   ·exact hi
   ·rw[List.getElem?_append_right (by simpa using hi)] at h2
    rw[List.getElem?_replicate] at h2
    split at h2 <;> cases h2
  have ha:vs[i]? = some v:=by
   unfold iZ at h2
   rw[List.getElem?_append_left (by simpa using hi),List.getElem?_map] at h2
   cases e:vs[i]? with
   | none=>rw[e] at h2;cases h2
   | some a=>rw[e] at h2;cases h2;rfl
  obtain⟨u,hu,rv⟩:=r.get ha
  have hp:ps[i]? = some y:=by
   rw[<-S.pre,List.getElem?_take_of_lt (by omega)];exact h1
  have ndP:ps.Nodup:=by rw[<-S.pre];exact S.nd.sublist (List.take_sublist _ _)
  refine⟨u,rv,?_⟩
  rcases S.par y (List.mem_of_getElem? hp) with k | k
  ·exact .inl ⟨k,qH ndP hp hu k⟩
  ·obtain⟨c,e⟩:=tE (n:=s.heap.objs.size+1) k
   refine .inr ⟨.inl k,c,e,?_⟩
   have q:=x.cell y c e
   rw[qF ndP hp hu (by show scope.names.lookup y≠_;rw[k];decide)] at q
   exact q
 ·exact e0.hok.fresh (Nat.le_of_lt (x.above y c (PySem.mem_of_lookup h)))
 ·unfold iZ
  show _=N.length
  rw[List.length_append,List.length_map,List.length_replicate]
  omega
theorem IT {CX:CXT} {P:Program} {w:World} {K:PySem.W.Frag} {mg:Str->Option Value} {base:Heap} {k:Nat} {f:Addr} {name qual:Str} {params:Arguments} {body:List Stmt} {scope:Scope} {dV kV doc pm cdv ct oc:Value} {an od:Option Addr}
  {osl:Array (Option Value)} {N ps:List Str} {sp:Sp} (lk:K.lookup f=some ⟨oc,od,.func (PySem.W.fnOf name qual params body scope dV kV doc pm an cdv ct),osl⟩) (hcd:PySem.W.codeIn K cdv qual=true) (S:FnScope N ps scope)
  (len:∀vs H Q E,sp vs H Q E->vs.length=ps.length)
  (hbody:∀(A:Around) (outer:List Env) (s:Shared) (H:Hp) (vs:List V) (Q:VK) (E:XK),Room k (A.deeper (envOfC qual scope s.heap.objs.size f cdv))->sp vs H Q E ->
   ∃t,PSs (bX CX P w K mg base N qual scope f cdv A outer s H E) body t/\t { nx:=λ_ H'=>Q .non H',rt:=Q } (iZ N vs) H) :
  FnOk P w K mg base CX (k+1) f (PySem.W.fnOf name qual params body scope dV kV doc pm an cdv ct) ps sp:=by
 refine⟨len,λA outer s H args us vs Q E hr e0 hb r hsp=>?_⟩
 have hl:=len _ _ _ _ hsp
 have KX:K.In s.heap:=e0.mod.kin.keeps λb o e=>(e0.bs b o e).1
 have lim:s.heap.NoLimit:=e0.mod.nolimit.keeps λb o e=>(e0.bs b o e).1
 have hkind:∀y∈ps.zip us,scope.names.lookup y.1=some .local\/(scope.names.lookup y.1=some .cell/\((cellsFrom (s.heap.objs.size+1) scope.names []).lookup y.1).isSome=true):=λ⟨n,v⟩ hy=>by
  rcases S.par n (List.of_mem_zip hy).1 with q | q
  ·exact .inl q
  ·exact .inr ⟨q,PySem.W.cellsFrom_some _ _ _ (.inl q)⟩
 refine codeAny_call_function hr.depth (KX _ _ lk) rfl S.co S.gen rfl (PySem.W.codeRec_of KX hcd) (hb _ _ _ _ ?_)
 refine wpAny_newFunctionEnv_cells S.kind hkind λenv he s1 x=>?_
 subst he
 refine⟨lim.keeps x.toInCall.keep,codeAny_func ?_⟩
 obtain⟨t,ht,hq⟩:=hbody A outer s H vs Q E (hr.deeper _) hsp
 have I:Inv (bX CX P w K mg base N qual scope f cdv A outer s H E) [] (iZ N vs) H s1:=zT S hr.hd e0 hl r x
 refine wpAny_mono (ht [] s1 (iZ N vs) H _ I hq) (λfl s' hs=>?_) λe s' hs=>hs
 have fin:∀{σ':St} {H':Hp} {v:V} {u:Value},Inv (bX CX P w K mg base N qual scope f cdv A outer s H E) [] σ' H' s'->RelV v u->Q v H'->CE outer P w H s Q u s' :=
  λ{σ' H' v u} J rv q=>⟨v,H',J.os,J.bare,J.base,J.hok,rv,q⟩
 cases fl with
 | ret u =>
  obtain⟨v,σ',H',J,rv,q⟩:=hs
  exact fin J rv q
 | next =>
  obtain⟨σ',H',J,q⟩:=hs
  exact fin (v:=V.non) (u:=Value.none) J rfl q
 | brk =>
  obtain⟨_,_,_,q⟩:=hs
  exact False.elim q
 | cont =>
  obtain⟨_,_,_,q⟩:=hs
  exact False.elim q
end L2
namespace L2
open PySem PySem.Spec PyProof.Rows
section
variable {X:Cx} {x:Str} {p pos:Pos} {e:Expr} {es:List Expr} {t:TA} {id T:String} {r:List V->Hp->VK->Prop}
noncomputable def tCB (r:List V->Hp->VK->Prop) (t:TA):TE:=λσ H Q=>t σ H λvs H1=>r vs H1 Q
theorem fD (hc:gT X (.builtin id) r) (hg:Gl X x) (hm:X.mg x=none) (hv:bootBuiltins x=some (.builtin id)) (ha:PA X (e::es) t) (hn:x≠"__name__":=by decide) (hdb:(x == ("__debug__":Str))=false:=by decide)
  (he:starEach (e::es) X.env=(false,eval e X.env)::starEach es X.env:=by rfl) (hpl:(backTo pos (starEach es X.env)).any (·.1)=false:=by rfl):PE X (.Call (.Name x p) (e::es) [] pos) (tCB r t):=by
 intro pins s σ H Q I h
 refine wpAny_Call_Name_kw (gM I hg hm hv ?_ hn hdb)
 exact PyProof.Rows.callWith_builtin1 (thn (ha pos pins s σ H _ I h) λus s1 ⟨vs,H1,I1,r1,q1⟩=>hc pins s1 σ H1 vs us Q I1 r1 q1) he hpl
theorem AL (hc:gT X (.type T) r) (hg:Gl X x) (hm:X.mg x=none) (hv:bootBuiltins x=some (.type T)) (ha:PA X (e::es) t) (hn:x≠"__name__":=by decide) (hdb:(x == ("__debug__":Str))=false:=by decide)
  (he:starEach (e::es) X.env=(false,eval e X.env)::starEach es X.env:=by rfl) (hpl:(backTo pos (starEach es X.env)).any (·.1)=false:=by rfl):PE X (.Call (.Name x p) (e::es) [] pos) (tCB r t):=by
 intro pins s σ H Q I h
 refine wpAny_Call_Name_kw (gM I hg hm hv ?_ hn hdb)
 exact PyProof.Rows.callWith_type1 (thn (ha pos pins s σ H _ I h) λus s1 ⟨vs,H1,I1,r1,q1⟩=>hc pins s1 σ H1 vs us Q I1 r1 q1) he hpl
end
end L2
namespace HT
open PySem PyProof.Rows
noncomputable def lexLt:List Int->List Int->Bool
 | [],[]=>false
 | [],_::_=>true
 | _::_,[]=>false
 | x::xs,y::ys=>if x=y then lexLt xs ys else decide (x<y)
theorem lexLt_cons (x y:Int) (xs ys:List Int):lexLt (x::xs) (y::ys)=if x=y then lexLt xs ys else decide (x<y):=rfl
theorem jR:lexLt [] []=false:=rfl
theorem iP (y:Int) (ys:List Int):lexLt [] (y::ys)=true:=rfl
theorem iO (x:Int) (xs:List Int):lexLt (x::xs) []=false:=rfl
theorem tP (A:Around) (s:Shared) (a:Int) (t:Tok) (c:Int) (u:Tok):∃e,SeqAt.EqAt A s (.int a t) (.int c u) e/\(e=true↔a=c) :=
 ⟨(a == c),SeqAt.EqAt.int_int a t c u,by simp⟩
theorem EO (A:Around) (s:Shared) (a:Int) (t:Tok) (c:Int) (u:Tok) (prog:Program) (w:World) (E:Value->Shared->Prop) (Q:Value->Shared->Prop) (h:Q (.bool (decide (a<c))) s) :
  wpAny (model prog w) A (richCompare .Lt (.int a t) (.int c u)) Q E s :=
 (PyProof.Rows.lt_int h:wpAny (model prog w) A (compareOp .Lt (.int a t) (.int c u)) Q E s)
section
open PySem.SeqAt
open PySem.AutoSeq1 (wpAny_loadPart')
open PySem.MeetsSeq PySem.MeetsSeq2 PySem.MeetsSeq3
theorem qD (l b:Addr) (items items2:Array Value) (n n2:Nat) (dd dd2:Option Addr) (sl sl2:Array (Option Value)) (ns ms:List Int) (hi:IntsAre items.toList ns) (hj:IntsAre items2.toList ms) :
  Meets (Builtin.«tuple.__lt__» ⟨[.ref l,.ref b],[]⟩)
   (λ_ R s=>s.heap.get? l=some { cls:=.type "tuple",dict:=dd,data:=.seq items n,slots:=sl }/\s.heap.get? b=some { cls:=.type "tuple",dict:=dd2,data:=.seq items2 n2,slots:=sl2 } /\
    R (.ok (.ret (.bool (lexLt ns ms)))) s) :=
 .of_wp λprog w A R s h=>by
  obtain⟨hp,g,d,tk,os⟩:=s;obtain⟨hl,hb,h⟩:=h
  have f2:=AutoSeq1.sub_tuple_tuple
  have z1:items.size=ns.length:=by rw[<-hi.length];simp
  have z2:items2.size=ms.length:=by rw[<-hj.length];simp
  wp_walk using wpAny_loadPart' hl,wpAny_loadPart' hb,wpAny_forIn_list _ (λrest b s'=>b.1=none/\s'=⟨hp,g,d,tk,os⟩/\∃(vs ws:List Value) (ns' ms':List Int),rest=vs.zip ws /\
   IntsAre vs ns'/\IntsAre ws ms'/\ns'.length+items2.size=ms'.length+items.size/\R (.ok (.ret (.bool (lexLt ns' ms')))) ⟨hp,g,d,tk,os⟩) _
  case turn =>
   rintro⟨y,x⟩ rest b s' ⟨hb',rfl,vs,ws,ns',ms',hz,hvi,hwi,hlen,hR⟩
   cases hvi with
   | nil=>rw[List.zip_nil_left] at hz;cases hz
   | cons a t hvi' =>
    cases hwi with
    | nil=>rw[List.zip_nil_right] at hz;cases hz
    | cons c u hwi' =>
     rw[List.zip_cons_cons] at hz
     injection hz with hyx hrest
     injection hyx with hy hx
     subst hy hx
     rw[lexLt_cons] at hR
     simp only[List.length_cons] at hlen
     obtain⟨e,he,hiff⟩:=tP A.in1 ⟨hp,g,d,tk,os⟩ a t c u
     refine wpAny_bind (he prog w _ _ ?_)
     cases e with
     | true =>
      rw[if_pos (hiff.mp rfl)] at hR
      wp_walk
      exact⟨rfl,rfl,_,_,_,_,hrest,hvi',hwi',by omega,hR⟩
     | false =>
      rw[if_neg (λq=>absurd (hiff.mpr q) Bool.false_ne_true)] at hR
      have hri:=EO A.in1 ⟨hp,g,d,tk,os⟩ a t c u prog w
      wp_walk using hri
      exact⟨_,rfl,by simpa using hR⟩
  case fin =>
   rintro⟨b1,b2⟩ s' ⟨hb',rfl,vs,ws,ns',ms',hz,hvi,hwi,hlen,hR⟩
   simp only at hb'
   subst hb'
   have hv:lexLt ns' ms'=decide (items.size<items2.size):=by
    cases hvi with
    | nil =>
     cases hwi with
     | nil =>
      simp only[List.length_nil] at hlen
      rw[jR]
      exact (decide_eq_false (by omega)).symm
     | cons c u hw =>
      simp only[List.length_nil,List.length_cons] at hlen
      rw[iP]
      exact (decide_eq_true (by omega)).symm
    | cons a t hv =>
     cases hwi with
     | nil =>
      simp only[List.length_nil,List.length_cons] at hlen
      rw[iO]
      exact (decide_eq_false (by omega)).symm
     | cons c u hw =>
      rw[List.zip_cons_cons] at hz
      cases hz
   rw[hv] at hR
   wp_walk
   exact⟨_,rfl,by simpa [Builtin.Tuple.tupleCompareSizes] using hR⟩
  case h =>
   exact⟨rfl,rfl,items.toList,items2.toList,ns,ms,rfl,hi,hj,by omega,h⟩
end
section
variable {prog:Program} {w:World} {A:Around} {E:Value->Shared->Prop} {s:Shared}
theorem lt_tupInts {l b:Addr} {items items2:Array Value} {ns ms:List Int} {Q:Value->Shared->Prop} (hl:IsTup s.heap l items) (hb:IsTup s.heap b items2) (hi:IntsAre items.toList ns) (hj:IntsAre items2.toList ms)
  (hu:A.units<cLine) (h:Q (.bool (lexLt ns ms)) s):wpAny (model prog w) A (compareOp .Lt (.ref l) (.ref b)) Q E s:=by
 obtain⟨⟨cls,dd,data,sl⟩,ho,hc,n,hd⟩:=id hl
 obtain⟨⟨cls2,dd2,data2,sl2⟩,ho2,hc2,n2,hd2⟩:=id hb
 simp only at hc hd hc2 hd2
 subst hc hd hc2 hd2
 exact richCompare_meets_room (op:=.Lt) ⟨_,ho,rfl⟩ ⟨_,ho2,rfl⟩ PySem.F.slot_tuple_lt PySem.F.entry_tuple_lt (PySem.F.args_tuple_lt_2 _ _) (qD l b items items2 n n2 dd dd2 sl sl2 ns ms hi hj)
  ⟨ho,ho2,show Value.bool (lexLt ns ms)≠Value.notImplemented/\Q (.bool (lexLt ns ms)) s from ⟨(λx=>nomatch x),h⟩⟩ hu
theorem cat_tup {t b:Addr} {vs ws:List Value} {Q:Value->Shared->Prop} (ht:IsTup s.heap t vs.toArray) (hb:IsTup s.heap b ws.toArray) (hv:vs≠[])
  (h1:ws=[]->Q (.ref t) s) (h2:ws≠[]->Q (.ref s.heap.objs.size) { s with heap:=s.heap.push { cls:=.type "tuple",data:=.seq (vs++ws).toArray } })
  (hsz:vs.length+ws.length<=sizeLine):wpAny (model prog w) A (binaryOp .Add (.ref t) (.ref b)) Q E s:=by
 obtain⟨⟨cls,dd,data,sl⟩,ho,hc,n,hd⟩:=id ht
 obtain⟨⟨cls2,dd2,data2,sl2⟩,ho2,hc2,n2,hd2⟩:=id hb
 simp only at hc hd hc2 hd2
 subst hc hd hc2 hd2
 have e:vs.toArray++ws.toArray=(vs++ws).toArray:=by simp
 by_cases hw:ws=[]
 ·exact concat_meets ⟨_,ho,rfl⟩ ⟨_,ho2,rfl⟩ noFill_tuple_add seq_tuple_add PySem.F.slot_tuple_add PySem.F.entry_tuple_add (PySem.F.args_tuple_add_2 _ _)
   (tuple_addW1 t b vs.toArray ws.toArray n n2 dd dd2 sl sl2 (by simpa using hv) (by simp[hw])) ⟨ho,ho2,h1 hw⟩
 ·refine concat_meets ⟨_,ho,rfl⟩ ⟨_,ho2,rfl⟩ noFill_tuple_add seq_tuple_add PySem.F.slot_tuple_add PySem.F.entry_tuple_add (PySem.F.args_tuple_add_2 _ _)
   (tuple_addW2 t b vs.toArray ws.toArray n n2 dd dd2 sl sl2 (by simpa using hv) (by simpa using hw) (by rw[List.size_toArray,List.size_toArray];exact hsz)) ⟨ho,ho2,?_⟩
  rw[e]
  exact h2 hw
noncomputable def sIx (n d:Nat):Option Int->Nat
 | none=>d
 | some v=>if v<0 then (v+(n:Int)).toNat else min v.toNat n
theorem sIx_none (n d:Nat):sIx n d none=d:=rfl
theorem sIx_nat (n d k:Nat):sIx n d (some (k:Int))=min k n:=by
 show (if (k:Int)<0 then ((k:Int)+(n:Int)).toNat else min (k:Int).toNat n)=min k n
 rw[if_neg (by omega),Int.toNat_natCast]
theorem LF (n d:Nat) (hd:d<=n) (o:Option Int):sIx n d o<=n:=by
 cases o with
 | none=>exact hd
 | some v =>
  show (if v<0 then (v+(n:Int)).toNat else min v.toNat n)<=n
  by_cases hv:v<0
  ·rw[if_pos hv];omega
  ·rw[if_neg hv];exact Nat.min_le_right _ _
theorem xN (v:Int) (n d:Nat):(if v<0 then max (v+(n:Int)) 0 else min v (n:Int))=((sIx n d (some v):Nat):Int):=by
 show (if v<0 then max (v+(n:Int)) 0 else min v (n:Int))=(((if v<0 then (v+(n:Int)).toNat else min v.toNat n):Nat):Int)
 by_cases hv:v<0
 ·simp only[if_pos hv];omega
 ·simp only[if_neg hv];omega
theorem vE (lo hi:Option Int) (n:Nat):Builtin.Slice.sliceAdjust lo hi 1 (n:Int)=(((sIx n 0 lo:Nat):Int),((sIx n n hi:Nat):Int)):=by
 have h1:¬((1:Int)<0):=by omega
 unfold Builtin.Slice.sliceAdjust
 simp only[h1,if_false]
 refine Prod.ext ?_ ?_
 ·cases lo with
  | none=>rfl
  | some v=>exact xN v n 0
 ·cases hi with
  | none=>rfl
  | some v=>exact xN v n n
theorem wI (i j:Nat):Builtin.Slice.slicePlaces (i:Int) (j:Int) 1=j-i:=by
 unfold Builtin.Slice.slicePlaces
 have h1:(1:Int) > 0:=by omega
 simp only[h1,if_true,Int.ediv_one]
 split <;> omega
theorem pF {v:Value} {o:Option Int} {Q:Option Int->Shared->Prop} (p:IsPart v o) (h:Q o s):wpAny (model prog w) A (Builtin.Slice.slicePartIndex v) Q E s:=by
 cases p with
 | none=>exact slicePart_none h
 | int i t=>exact slicePart_int h
theorem mG {sl:Addr} {vl vu:Value} {lo hi:Option Int} {n:Nat} {Q:Int × Int × Nat->Shared->Prop} (hs:s.heap.IsSliceOf sl vl vu .none) (pl:IsPart vl lo) (pu:IsPart vu hi)
  (h:Q (((sIx n 0 lo:Nat):Int),1,sIx n n hi-sIx n 0 lo) s):wpAny (model prog w) A (Builtin.Slice.sliceApplied (.ref sl) (pure (n:Int))) Q E s:=by
 obtain⟨os,hos,hcs,hds⟩:=id hs
 unfold Builtin.Slice.sliceApplied Builtin.Slice.sliceFields
 refine wpAny_bind (wpAny_bind (wpAny_field hos hds (x:=vl) rfl (wpAny_bind (wpAny_field hos hds (x:=vu) rfl (wpAny_bind (wpAny_field hos hds (x:=.none) rfl (wpAny_pure ?_)))))))
 refine wpAny_bind (slicePart_none ?_)
 show wpAny _ _ (if ((1:Int) == 0)=true then _ else _) _ _ s
 rw[if_neg (by decide)]
 refine wpAny_bind (pF pl (wpAny_bind (pF pu (wpAny_bind (wpAny_pure ?_)))))
 show wpAny _ _ (match Builtin.Slice.sliceAdjust lo hi 1 (n:Int) with | (lo,hi)=>pure (lo,(1:Int),Builtin.Slice.slicePlaces lo hi 1)) _ _ s
 rw[vE lo hi n]
 show wpAny _ _ (pure (((sIx n 0 lo:Nat):Int),(1:Int),Builtin.Slice.slicePlaces ((sIx n 0 lo:Nat):Int) ((sIx n n hi:Nat):Int) 1)) _ _ s
 rw[wI]
 exact wpAny_pure h
theorem EC (xs:Array Value) (i k:Nat):((List.range k).filterMap λ(m:Nat)=>xs[((i:Int)+(m:Int)*1).toNat]?).toArray=((xs.toList.drop i).take k).toArray:=by
 have e:(λ(m:Nat)=>xs[((i:Int)+(m:Int)*1).toNat]?)=λm=>xs[i+m]?:=by
  funext m
  have:((i:Int)+(m:Int)*1).toNat=i+m:=by omega
  rw[this]
 rw[e]
 have:=pick_run xs i k
 rw[List.filterMap_map] at this
 have e2:((λx=>xs[x]?) ∘ λx=>i+x)=λm=>xs[i+m]?:=rfl
 rw[e2] at this
 rw[this]
theorem getItem_tuple_cut {t sl:Addr} {items:Array Value} {vl vu:Value} {lo hi:Option Int} {Q:Value->Shared->Prop} (ht:IsTup s.heap t items) (hs:s.heap.IsSliceOf sl vl vu .none) (pl:IsPart vl lo) (pu:IsPart vu hi)
  (hw:¬(sIx items.size 0 lo=0/\sIx items.size items.size hi=items.size))
  (h:Q (.ref s.heap.objs.size) { s with heap:=s.heap.push { cls:=.type "tuple",data:=.seq ((items.toList.drop (sIx items.size 0 lo)).take (sIx items.size items.size hi-sIx items.size 0 lo)).toArray } })
  (hsz:items.size<=sizeLine):wpAny (model prog w) A (getItem (.ref t) (.ref sl)) Q E s:=by
 have htake:sizeOk (.seq ((items.toList.drop (sIx items.size 0 lo)).take (sIx items.size items.size hi-sIx items.size 0 lo)).toArray):=by
  show ((items.toList.drop (sIx items.size 0 lo)).take (sIx items.size items.size hi-sIx items.size 0 lo)).toArray.size<=sizeLine
  rw[List.size_toArray,List.length_take,List.length_drop,Array.length_toList]
  omega
 have hj:sIx items.size items.size hi<=items.size:=LF _ _ (Nat.le_refl _) hi
 obtain⟨os,hos,hcs,hds⟩:=id hs
 have hTs:s.TypeIs (.ref sl) "slice":=⟨os,hos,hcs⟩
 unfold getItem
 try with_reducible refine wpAny_holding ?_
 first | refine wpAny_bind (wpAny_pure ?_) | skip
 refine wpAny_bind (wpAny_sequenceKey ht.typeIs (by decide) ?_)
 refine wpAny_bind (wpAny_callSpecial?_slot (name:=Str.ofString "__getitem__") ht.typeIs PyProof.Rows.slot_tuple_getitem
  (wpAny_call_entry PyProof.Rows.slot_tuple_getitem ht.typeIs entry_tuple_getitem ?_ (args_tuple_getitem _ _)))
 show wpAny _ _ (Builtin.Tuple.tupleItemsOf (.ref t) >>= _) _ _ s
 refine wpAny_bind (tupleItemsOf_ ht ?_)
 refine wpAny_bind (wpAny_typeOf hTs ?_)
 rw[if_pos (by decide)]
 refine wpAny_bind (mG hs pl pu ?_)
 have hno:¬((((sIx items.size 0 lo:Nat):Int) == 0 && (1:Int) == 1 && (sIx items.size items.size hi-sIx items.size 0 lo) == items.size)=true):=by
  intro q
  rw[Bool.and_eq_true,Bool.and_eq_true] at q
  have q1:((sIx items.size 0 lo:Nat):Int)=0:=eq_of_beq q.1.1
  have q2:sIx items.size items.size hi-sIx items.size 0 lo=items.size:=eq_of_beq q.2
  exact hw ⟨by omega,by omega⟩
 show wpAny _ _ (if (((sIx items.size 0 lo:Nat):Int) == 0 && (1:Int) == 1 && (sIx items.size items.size hi-sIx items.size 0 lo) == items.size)=true then _ else _) _ _ s
 rw[if_neg hno,EC]
 first
  | exact wpAny_bind (m:=Builtin.Tuple.tupleExact _) (wpAny_newObj_type (wpAny_pure ⟨_,rfl,wpAny_pure h⟩) htake)
  | exact wpAny_bind (m:=Builtin.Tuple.tupleExact _) (wpAny_newObj_type (wpAny_bind (wpAny_pure (wpAny_pure ⟨_,rfl,wpAny_pure h⟩))) htake)
  | exact wpAny_bind (wpAny_bind (m:=Builtin.Tuple.tupleExact _) (wpAny_newObj_type (wpAny_pure (wpAny_pure ⟨_,rfl,wpAny_pure h⟩)) htake))
  | exact wpAny_bind (wpAny_bind (m:=Builtin.Tuple.tupleExact _) (wpAny_newObj_type (wpAny_pure ⟨_,rfl,wpAny_pure h⟩) htake))
end
end HT
namespace L2
open PySem PySem.Spec PyProof.Rows
noncomputable abbrev TO:=St->Hp->(Option Int->Hp->Prop)->Prop
noncomputable def PO (X:Cx) (e:Option Expr) (t:TO):Prop :=
 ∀(pins:List (Addr × Obj)) (s:Shared) (σ:St) (H:Hp) (Q:Option Int->Hp->Prop),Inv X pins σ H s->t σ H Q ->
  wpAny (model X.prog X.w) X.A (evalPart e X.env) (λu s'=>∃o H',Inv X pins σ H' s'/\IsPart u o/\Q o H') X.xe s
noncomputable def IF:TO:=λ_ H Q=>Q none H
noncomputable def NH (t:TE):TO:=λσ H Q=>t σ H λx H1=>∃i,x = .int i/\Q (some i) H1
theorem fC {ns:List Int}:∀{us:List Value},Vals (ns.map V.int) us->IntsAre us ns:=by
 induction ns with
 | nil=>intro us r;rw[List.map_nil] at r;cases r;exact .nil
 | cons n ns ih =>
  intro us r
  rw[List.map_cons] at r
  cases r with
  | cons r1 r2 =>
   obtain⟨t,e⟩:=r1
   subst e
   exact .cons n t (ih r2)
section
variable {X:Cx} {e:Expr} {te:TE} {lo hi:Option Expr} {tl th:TO} {pos p2:Pos}
theorem yN:PO X none IF:=by
 intro pins s σ H Q I h
 rw[evalPart_none]
 exact wpAny_pure ⟨none,H,I,.none,h⟩
theorem sO (h:PE X e te):PO X (some e) (NH te):=by
 intro pins s σ H Q I hw
 rw[evalPart_some]
 refine thn (h pins s σ H _ I hw) λu s1 ⟨x,H1,I1,r1,q1⟩=>?_
 obtain⟨i,rfl,q⟩:=q1
 obtain⟨t,rfl⟩:=r1
 exact⟨some i,H1,I1,.int i t,q⟩
noncomputable def SlR (X:Cx) (r:V->Option Int->Option Int->Hp->VK->Prop):Prop :=
 ∀(pins:List (Addr × Obj)) (s:Shared) (σ:St) (H:Hp) (x:V) (v vl vu:Value) (lo hi:Option Int) (sl:Addr) (Q:VK),Inv X pins σ H s->RelV x v->s.heap.IsSliceOf sl vl vu .none->IsPart vl lo->IsPart vu hi->r x lo hi H Q ->
  ∃T id,typeLookup (.type T) "__getitem__" = pure (some (.builtin id))/\s.TypeIs v T/\wpAny (model X.prog X.w) X.A (getItem v (.ref sl)) (EP X pins σ Q) X.xe s
theorem SlR.or {r r':V->Option Int->Option Int->Hp->VK->Prop} (h:SlR X r) (h':SlR X r'):SlR X (λx lo hi H Q=>r x lo hi H Q\/r' x lo hi H Q):=by
 intro pins s σ H x v vl vu lo hi sl Q I rx hs pl pu q
 rcases q with q | q
 ·exact h pins s σ H x v vl vu lo hi sl Q I rx hs pl pu q
 ·exact h' pins s σ H x v vl vu lo hi sl Q I rx hs pl pu q
noncomputable def tSl (r:V->Option Int->Option Int->Hp->VK->Prop) (te:TE) (tl th:TO):TE:=λσ H Q=>te σ H λx H1=>tl σ H1 λl H2=>th σ H2 λu H3=>r x l u H3 Q
theorem DX {r:V->Option Int->Option Int->Hp->VK->Prop} (hr:SlR X r) (he:PE X e te) (hl:PO X lo tl) (hu:PO X hi th):PE X (.Subscript e (.Slice lo hi none p2) pos) (tSl r te tl th):=by
 intro pins s σ H Q I h
 refine Subscript_ (thn (he pins s σ H _ I h) λv s1 ⟨x,H1,I1,r1,q1⟩=>?_)
 refine wpAny_Slice (thn (hl pins s1 σ H1 _ I1 q1) λvl s2 ⟨l,H2,I2,pl,q2⟩=>thn (hu pins s2 σ H2 _ I2 q2) λvu s3 ⟨u,H3,I3,pu,q3⟩=>?_)
 rw[evalPart_none]
 refine wpAny_pure ?_
 have I4:Inv X pins σ H3 { s3 with heap:=s3.heap.push { cls:=.type "slice",data:=.fields #[vl,vu,.none] } }:=I3.kept (t':=s3.toks) λb ob q=>Heap.get?_push_of_some _ q
 obtain⟨T,id,hT,ht,hg⟩:=hr pins { s3 with heap:=s3.heap.push { cls:=.type "slice",data:=.fields #[vl,vu,.none] } } σ H3 x v vl vu l u s3.heap.objs.size Q I4 r1 (Heap.IsSliceOf.new ..) pl pu q3
 show wpAny (model X.prog X.w) X.A (subscriptTail e (.Slice lo hi none p2) v (.ref s3.heap.objs.size)) (EP X pins σ Q) X.xe { s3 with heap:=s3.heap.push { cls:=.type "slice",data:=.fields #[vl,vu,.none] } }
 exact tail_any (ops:=[.ref s3.heap.objs.size,v]) ht hT hg (by with_unfolding_all rfl)
noncomputable def tH (xs:List V) (lo hi:Option Int):List V:=(xs.drop (HT.sIx xs.length 0 lo)).take (HT.sIx xs.length xs.length hi-HT.sIx xs.length 0 lo)
theorem mK (xs:List V) (lo hi:Option Int):(tH xs lo hi).length<=xs.length:=by
 unfold tH
 rw[List.length_take,List.length_drop]
 omega
noncomputable def NT (K:PySem.W.Frag):V->Option Int->Option Int->Hp->VK->Prop:=λx lo hi H Q=>∃a xs,x = .ref a/\SqT K H a xs /\
 ¬(HT.sIx xs.length 0 lo=0/\HT.sIx xs.length xs.length hi=xs.length)/\∀p,H p=none->Q (.ref p) (upd H p (.tup (tH xs lo hi)))
theorem LI:SlR X (NT X.K):=by
 intro pins s σ H x v vl vu lo hi sl Q I rx hs pl pu h
 obtain⟨a,xs,rfl,hx,hw,q⟩:=h
 cases rx
 obtain⟨its,r,ht,hz⟩:=I.tuple hx
 have hlen:its.toArray.size=xs.length:=by rw[List.size_toArray];exact r.length.symm
 refine⟨"tuple",_,PyProof.Rows.slot_tuple_getitem.lookup,ht.typeIs,?_⟩
 refine HT.getItem_tuple_cut ht hs pl pu (by rw[hlen];exact hw) ?_ (by rw[hlen];exact hz)
 rw[hlen]
 refine⟨.ref s.heap.objs.size,_,I.laid (t':=s.toks) (o:=.tup (tH xs lo hi)) (λb ob q=>Heap.get?_push_of_some _ q) (Nat.le_refl _) ?_,rfl,q _ (I.hok.fresh (Nat.le_refl _))⟩
 exact⟨Nat.le_trans (mK xs lo hi) hz,_,(r.drop (HT.sIx xs.length 0 lo)).take (HT.sIx xs.length xs.length hi-HT.sIx xs.length 0 lo),IsTup.new _ _⟩
noncomputable def MW (K:PySem.W.Frag):R2:=λx y H Q=>∃a b xs ys,x = .ref a/\y = .ref b/\SqT K H a xs/\SqT K H b ys/\xs≠[]/\xs.length+ys.length<=sizeLine /\
 (ys=[]->Q (.ref a) H)/\(ys≠[]->∀p,H p=none->Q (.ref p) (upd H p (.tup (xs++ys))))
theorem Vals.nil_iff {xs:List V} {us:List Value} (r:Vals xs us):us=[]↔xs=[]:=by
 cases r with
 | nil=>simp
 | cons _ _=>simp
theorem HD:OpR X (binaryOp .Add) (MW X.K):=by
 intro pins s σ H x y v u Q I rx ry h
 obtain⟨a,b,xs,ys,rfl,rfl,ha,hb,hx,hz,q1,q2⟩:=h
 cases rx
 cases ry
 obtain⟨its,r1,p1,_⟩:=I.tuple ha
 obtain⟨its2,r2,p2,_⟩:=I.tuple hb
 refine HT.cat_tup p1 p2 (λz=>hx (r1.nil_iff.mp z)) (λz=>⟨.ref a,H,I,rfl,q1 (r2.nil_iff.mp z)⟩) (λz=>?_) (by rw[<-r1.length,<-r2.length];exact hz)
 refine⟨.ref s.heap.objs.size,_,I.laid (t':=s.toks) (o:=.tup (xs++ys)) (λb ob q=>Heap.get?_push_of_some _ q) (Nat.le_refl _) ?_,rfl,q2 (λw=>z (r2.nil_iff.mpr w)) _ (I.hok.fresh (Nat.le_refl _))⟩
 exact⟨by rw[List.length_append];exact hz,_,r1.append r2,IsTup.new _ _⟩
end
end L2
namespace L2
open PySem PySem.Spec PyProof.Rows
noncomputable def ixN (n:Nat) (i:Int):Option Nat:=if 0<=i then (if i<n then some i.toNat else none) else if -(n:Int)<=i then some (i+n).toNat else none
noncomputable def atI {α:Type} (xs:List α) (i:Int):Option α:=(ixN xs.length i).bind λj=>xs[j]?
theorem GN {n:Nat} {i:Int} {j:Nat} (h:ixN n i=some j):seqIndex? i n=some j/\j<n/\-(n:Int)<=i/\i<n:=by
 unfold ixN at h
 by_cases h0:0<=i
 ·rw[if_pos h0] at h
  by_cases h1:i<n
  ·rw[if_pos h1] at h
   have e:i.toNat=j:=Option.some.inj h
   exact⟨by rw[seqIndex_of h0 h1,e],by omega,by omega,h1⟩
  ·rw[if_neg h1] at h;cases h
 ·rw[if_neg h0] at h
  by_cases h1:-(n:Int)<=i
  ·rw[if_pos h1] at h
   have e:(i+n).toNat=j:=Option.some.inj h
   exact⟨by rw[seqIndex_neg (by omega) h1,e],by omega,h1,by omega⟩
  ·rw[if_neg h1] at h;cases h
theorem xJ {α:Type} {xs:List α} {i:Int} {v:α} (h:atI xs i=some v):∃j,seqIndex? i xs.length=some j/\xs[j]? = some v/\j<xs.length/\-(xs.length:Int)<=i/\i<xs.length:=by
 unfold atI at h
 cases e:ixN xs.length i with
 | none=>rw[e] at h;cases h
 | some j =>
  rw[e] at h
  obtain⟨h1,h2,h3,h4⟩:=GN e
  exact⟨j,h1,h,h2,h3,h4⟩
theorem xK {α:Type} {xs:List α} {j:Nat} {v:α} (h:xs[j]? = some v):atI xs (j:Int)=some v:=by
 have hj:j<xs.length:=(List.getElem?_eq_some_iff.mp h).1
 have e:ixN xs.length (j:Int)=some j:=by
  unfold ixN
  rw[if_pos (by omega),if_pos (by omega)];simp
 unfold atI;rw[e];exact h
noncomputable def xG (b:Expr):Prop:=∀o i,subscripted b false o i=operate [o,i] (getItem o i)
noncomputable def IxR (X:Cx) (r:R2):Prop :=
 ∀(value slice:Expr) (pins:List (Addr × Obj)) (s:Shared) (σ:St) (H:Hp) (x y:V) (v u:Value) (Q:VK),Inv X pins σ H s->RelV x v->RelV y u->r x y H Q ->
  subscripted slice false v u=operate [v,u] (getItem v u)->wpAny (model X.prog X.w) X.A (subscriptTail value slice v u) (EP X pins σ Q) X.xe s
noncomputable def MtR (X:Cx) (id:String) (r:V->List V->Hp->VK->Prop):Prop :=
 ∀(pins:List (Addr × Obj)) (s:Shared) (σ:St) (H:Hp) (x:V) (xs:List V) (v:Value) (us:List Value) (Q:VK),Inv X pins σ H s->RelV x v->Vals xs us->r x xs H Q ->
  wpAny (model X.prog X.w) X.A (call (.builtin id) (v::us)) (EP X pins σ Q) X.xe s
section
variable {X:Cx} {a b:Expr} {ta tb:TE} {pos:Pos}
theorem IxR.or {r r':R2} (h:IxR X r) (h':IxR X r'):IxR X (λx y H Q=>r x y H Q\/r' x y H Q):=by
 intro value slice pins s σ H x y v u Q I rx ry q hs
 rcases q with q | q
 ·exact h value slice pins s σ H x y v u Q I rx ry q hs
 ·exact h' value slice pins s σ H x y v u Q I rx ry q hs
theorem MR {r:R2} (hr:IxR X r) (ha:PE X a ta) (hb:PE X b tb) (hs:xG b):PE X (.Subscript a b pos) (tOp r ta tb):=by
 intro pins s σ H Q I h
 exact Subscript_ (JK ha hb I h λv u s2 x y H2 I2 rx ry q=>hr a b pins s2 σ H2 x y v u Q I2 rx ry q (hs _ _))
noncomputable def NQ (K:PySem.W.Frag):R2:=λx y H Q=>∃p xs i v,x = .ref p/\y = .int i/\SqL K H p xs/\atI xs i=some v/\Q v H
noncomputable def NR (K:PySem.W.Frag):R2:=λx y H Q=>∃p xs i v,x = .ref p/\y = .int i/\SqT K H p xs/\atI xs i=some v/\Q v H
theorem GO:IxR X (NQ X.K):=by
 intro value slice pins s σ H x y v u Q I rx ry h hs
 obtain⟨p,xs,i,z,rfl,rfl,hq,he,q⟩:=h
 cases rx
 obtain⟨t,rfl⟩:=ry
 obtain⟨its,r,pl,hz⟩:=I.list hq
 obtain⟨j,h1,h2,h3,h4,h5⟩:=xJ he
 obtain⟨w,ew,rw'⟩:=r.get h2
 have hl:=r.length
 have hn:=vY
 have fin:EP X pins σ Q w s:=⟨z,H,I,rw',q⟩
 by_cases h0:0<=i
 ·have hj:i.toNat=j:=by
   rw[seqIndex_of h0 h5] at h1
   exact Option.some.inj h1
  exact item_listR pl.isList h0 (by omega) (by rw[hj];simpa using ew) fin hs
 ·have hj:(i+(its.toArray.size:Int)).toNat=j:=by
   rw[seqIndex_neg (by omega) h4] at h1
   rw[List.size_toArray,<-hl]
   exact Option.some.inj h1
  exact subscriptTail_builtinR (x:=w) pl.isList.typeIs slot_list_getitem.lookup
   (wpAny_getItem_list_neg (Q:=λr s'=>r=w/\EP X pins σ Q r s') pl.isList (by omega) (by rw[List.size_toArray] <;> omega) (by omega) (by rw[hj];simpa using ew) ⟨rfl,fin⟩) hs
theorem JX:IxR X (NR X.K):=by
 intro value slice pins s σ H x y v u Q I rx ry h hs
 obtain⟨p,xs,i,z,rfl,rfl,hq,he,q⟩:=h
 cases rx
 obtain⟨t,rfl⟩:=ry
 obtain⟨its,r,pl,hz⟩:=I.tuple hq
 obtain⟨j,h1,h2,h3,h4,h5⟩:=xJ he
 obtain⟨w,ew,rw'⟩:=r.get h2
 have hl:=r.length
 have hn:=vY
 have fin:EP X pins σ Q w s:=⟨z,H,I,rw',q⟩
 exact subscriptTail_builtinR (x:=w) pl.typeIs slot_tuple_getitem.lookup
  (getItem_tuple (j:=j) (Q:=λr s'=>r=w/\EP X pins σ Q r s') pl (by omega) (by omega) (by rw[List.size_toArray,<-hl];exact h1) (by simpa using ew) ⟨rfl,fin⟩) hs
theorem sT (lo hi:Option Int) (n:Nat):(sliceBounds lo hi none n).1=((HT.sIx n 0 lo:Nat):Int)/\(sliceBounds lo hi none n).2.1=((HT.sIx n n hi:Nat):Int)/\(sliceBounds lo hi none n).2.2=1:=by
 refine⟨?_,?_,rfl⟩
 ·cases lo with
  | none=>simp[sliceBounds,HT.sIx]
  | some i =>
   simp only[sliceBounds,HT.sIx,Option.getD_none,show (1:Int) > 0 by decide,if_true]
   by_cases h:i<0
   ·simp only[h,if_true] <;> omega
   ·simp only[h,if_false] <;> omega
 ·cases hi with
  | none=>simp[sliceBounds,HT.sIx]
  | some i =>
   simp only[sliceBounds,HT.sIx,Option.getD_none,show (1:Int) > 0 by decide,if_true]
   by_cases h:i<0
   ·simp only[h,if_true] <;> omega
   ·simp only[h,if_false] <;> omega
theorem qB (its:List Value) (lo hi:Option Int):slicePick its.toArray lo hi none=((its.drop (HT.sIx its.length 0 lo)).take (HT.sIx its.length its.length hi-HT.sIx its.length 0 lo)).toArray:=by
 obtain⟨h1,h2,h3⟩:=sT lo hi its.toArray.size
 unfold slicePick
 rw[h1,h2,h3]
 simp only[sliceRange_one,pick_run,List.size_toArray] <;> rfl
noncomputable def NS (K:PySem.W.Frag):V->Option Int->Option Int->Hp->VK->Prop:=λx lo hi H Q=>∃a xs,x = .ref a/\SqL K H a xs/\∀p,H p=none->Q (.ref p) (upd H p (.lst (tH xs lo hi)))
theorem IC:SlR X (NS X.K):=by
 intro pins s σ H x v vl vu lo hi sl Q I rx hs pl pu h
 obtain⟨a,xs,rfl,hx,q⟩:=h
 cases rx
 obtain⟨its,r,ht,hz⟩:=I.list hx
 have hlen:=r.length
 refine⟨"list",_,slot_list_getitem.lookup,ht.isList.typeIs,?_⟩
 refine wpAny_getItem_list_slice ht.isList hs pl pu .none (by simp) ?_ (by rw[List.size_toArray] <;> omega)
 rw[qB,<-hlen]
 refine⟨.ref s.heap.objs.size,_,I.laid (t':=s.toks) (o:=.lst (tH xs lo hi)) (λb ob q=>Heap.get?_push_of_some _ q) (Nat.le_refl _) ?_,rfl,q _ (I.hok.fresh (Nat.le_refl _))⟩
 exact⟨Nat.le_trans (mK xs lo hi) hz,_,0,(r.drop (HT.sIx xs.length 0 lo)).take (HT.sIx xs.length xs.length hi-HT.sIx xs.length 0 lo),Heap.get?_push_size _ rfl⟩
theorem rG:gT X (.builtin "len") (λxs H Q=>∃p ys,xs=[.ref p]/\(SqL X.K H p ys\/SqT X.K H p ys)/\Q (.int ys.length) H):=by
 intro pins s σ H xs us Q I r h
 obtain⟨p,ys,rfl,hq,q⟩:=h
 obtain⟨u,rfl,rx⟩:=kB r
 cases rx
 have hn:=vY
 rcases hq with hq | hq
 ·obtain⟨its,r',pl,hz⟩:=I.list hq
  have hlen:=r'.length
  exact Calls.call_len_list pl.isList (by simp only[List.size_toArray] <;> omega) ⟨.int ys.length,H,I.tok _,⟨s.toks+1,by rw[List.size_toArray,hlen]⟩,q⟩
 ·obtain⟨its,r',pl,hz⟩:=I.tuple hq
  have hlen:=r'.length
  exact len_tuple pl (by simp only[List.size_toArray] <;> omega) ⟨.int ys.length,H,I.tok _,⟨s.toks+1,by rw[List.size_toArray,hlen]⟩,q⟩
theorem rH:gT X (.type "list") (λxs H Q=>∃p ys,xs=[.ref p]/\(SqL X.K H p ys\/SqT X.K H p ys)/\∀l,H l=none->Q (.ref l) (upd H l (.lst ys))):=by
 intro pins s σ H xs us Q I r h
 obtain⟨p,ys,rfl,hq,q⟩:=h
 obtain⟨u,rfl,rx⟩:=kB r
 cases rx
 have fin:∀(its:List Value),Vals ys its->ys.length<=sizeLine->∀(h':Heap) (c':Nat),(∀b o',s.heap.get? b=some o'->h'.get? b=some o') ->
   h'.get? s.heap.objs.size=some { cls:=.type "list",dict:=none,data:=.seq its.toArray c',slots:=#[] }->EP X pins σ Q (.ref s.heap.objs.size) { s with heap:=h' }:=λits r' hz h' c' kp e =>
  ⟨.ref s.heap.objs.size,_,I.laid (t':=s.toks) kp (Nat.le_refl _) (show ObjOk X.prog X.w _ h' _ (.lst ys) from ⟨hz,its,c',r',e⟩),rfl,q _ (I.hok.fresh (Nat.le_refl _))⟩
 rcases hq with hq | hq
 ·obtain⟨its,r',pl,hz⟩:=I.list hq
  have hlen:=r'.length
  obtain⟨o,ho,hc,n,hd⟩:=pl.isList
  exact call_list_seq p (.inl rfl) ho hc hd (λh' c' kp e=>fin its r' hz h' c' kp e) (by simp only[List.size_toArray] <;> omega)
 ·obtain⟨its,r',pl,hz⟩:=I.tuple hq
  have hlen:=r'.length
  obtain⟨o,ho,hc,n,hd⟩:=pl
  exact call_list_seq p (.inr rfl) ho hc hd (λh' c' kp e=>fin its r' hz h' c' kp e) (by simp only[List.size_toArray] <;> omega)
noncomputable def tyV (K:PySem.W.Frag) (T:String) (x:V) (H:Hp):Prop:=match x with
 | .str _=>T = "str"
 | .int _=>T = "int"
 | .ref p=>(T = "list"/\∃xs,SqL K H p xs)\/(T = "tuple"/\∃o,K.lookup p=some o/\o.cls = .type "tuple"/\o.dict=none) \/
   (T = "dict"/\((∃kvs,H p=some (.dK kvs))\/∃kvs,H p=some (.dT kvs)))\/(T = "set"/\∃S n,H p=some (.set S n))
 | _=>False
theorem LN {pins:List (Addr × Obj)} {σ:St} {H:Hp} {s:Shared} {T:String} {x:V} {v:Value} (I:Inv X pins σ H s) (r:RelV x v) (ty:tyV X.K T x H) :
  s.TypeIs v T/\∀a,v = .ref a->∃ob,s.heap.get? a=some ob/\ob.dict=none:=by
 cases x with
 | str z =>
  obtain⟨t,rfl⟩:=r
  cases (show T = "str" from ty)
  exact⟨typeIs_str s z t,λ_ e=>nomatch e⟩
 | int i =>
  obtain⟨t,rfl⟩:=r
  cases (show T = "int" from ty)
  exact⟨typeIs_int s i t,λ_ e=>nomatch e⟩
 | ref p =>
  cases r
  rcases ty with ⟨rfl,xs,hq⟩ | ⟨rfl,o,hk,hc,hd⟩ | ⟨rfl,hk⟩ | ⟨rfl,S,n,hk⟩
  ·obtain⟨its,_,pl,_⟩:=I.list hq
   refine⟨pl.isList.typeIs,λa e=>?_⟩
   cases e
   obtain⟨o,n,e,c,hd,_⟩:=pl
   exact⟨o,e,hd⟩
  ·refine⟨⟨o,I.kIn p o hk,hc⟩,λa e=>?_⟩
   cases e
   exact⟨o,I.kIn _ o hk,hd⟩
  ·have z:∃o,s.heap.get? p=some o/\o.ExactDict:=by
    rcases hk with ⟨kvs,hk⟩ | ⟨kvs,hk⟩
    ·obtain⟨_,_,_,_,o,_,_,e,ex,_⟩:=I.hok p _ hk
     exact⟨o,e,ex⟩
    ·obtain⟨_,_,_,_,o,_,_,e,ex,_⟩:=I.hok p _ hk
     exact⟨o,e,ex⟩
   obtain⟨o,e,ex⟩:=z
   refine⟨⟨o,e,ex.1⟩,λa e2=>?_⟩
   cases e2
   exact⟨o,e,ex.2.1⟩
  ·obtain⟨o,_,_,_,e,ex,_⟩:=I.hok p _ hk
   refine⟨⟨o,e,ex.1⟩,λa e2=>?_⟩
   cases e2
   exact⟨o,e,ex.2.1⟩
 | _=>exact False.elim ty
noncomputable def tBM (K:PySem.W.Frag) (T:String) (r:V->List V->Hp->VK->Prop) (to:TE) (t:TA):TE:=λσ H Q=>to σ H λx H1=>tyV K T x H1/\t σ H1 λxs H2=>r x xs H2 Q
variable {o e:Expr} {es:List Expr} {to:TE} {t:TA} {name:Str} {apos cpos:Pos} {T id:String} {r:V->List V->Hp->VK->Prop}
theorem yL (pa:PlainAttrs T) (slot:Slot T name id) (hty:typeOf (.builtin id)=pure (.type "method_descriptor")) (hm:MtR X id r) (ho:PE X o to) (ha:PA X (e::es) t)
  (hbase:attributeBase o name X.env (eval o X.env)=eval o X.env:=by rfl)
  (hfew:((backTo cpos (starEach (e::es) X.env)).all (λx=>!x.1) && (backToKw cpos (keywordEach [] X.env)).all (λx=>x.1.isSome)
   && decide ((e::es).length+([]:List Keyword).length+(if ([]:List Keyword).isEmpty then 0 else 1)<30))=true:=by rfl)
  (hline:(apos.endLine == cpos.line)=true:=by rfl) (hs:starEach (e::es) X.env=(false,eval e X.env)::starEach es X.env:=by rfl) (hplain:(backTo cpos (starEach es X.env)).any (·.1)=false:=by rfl) :
  PE X (.Call (.Attribute o name apos) (e::es) [] cpos) (tBM X.K T r to t):=by
 intro pins s σ H Q I h
 refine wpAny_Call_method_late hbase hfew hline rfl (thn (ho pins s σ H _ I h) λv s1 ⟨x,H1,I1,r1,ty,q1⟩=>?_)
 obtain⟨h1,h2⟩:=LN I1 r1 ty
 refine⟨T,id,pa,slot,hty,h1,h2,?_⟩
 have hA:=ha cpos pins s1 σ H1 _ I1 q1
 rw[hs] at hA ⊢
 refine Calls.callWith_builtin (by show (false || (backTo cpos (starEach es X.env)).any (·.1))=false;rw[hplain] <;> rfl) (Calls.evalArgs_plain ?_)
 exact thn hA λus s2 ⟨vs,H2,I2,r2,q2⟩=>hm pins s2 σ H2 x vs v us Q I2 r1 r2 q2
end
end L2
namespace L2
open PySem PySem.Spec PyProof.Rows
noncomputable def MtM (X:Cx) (id:String) (r:V->List V->Hp->VK->Prop):Prop :=
 ∀(pins:List (Addr × Obj)) (s:Shared) (σ:St) (H:Hp) (x:V) (xs:List V) (v:Value) (us:List Value) (Q:VK),Inv X pins σ H s->RelV x v->Vals xs us->r x xs H Q ->
  wpAny (model X.prog X.w) X.A (call (.builtin id) (v::us)) (EP X pins σ Q) X.xe s
theorem Vals.one:∀{x:V} {us:List Value},Vals [x] us->∃u,us=[u]/\RelV x u
 | _,_,.cons r .nil=>⟨_,rfl,r⟩
theorem Vals.two:∀{x y:V} {us:List Value},Vals [x,y] us->∃u v,us=[u,v]/\RelV x u/\RelV y v
 | _,_,_,.cons r (.cons q .nil)=>⟨_,_,rfl,r,q⟩
section
variable {X:Cx} {pins:List (Addr × Obj)} {σ:St} {H:Hp} {s:Shared} {l b:Addr} {xs ys zs:List V}
theorem Inv.lset {its its':List Value} {n:Nat} {f:Array Value->Array Value} {t':Nat} (I:Inv X pins σ H s) (hH:H l=some (.lst xs))
  (e:s.heap.get? l=some { cls:=.type "list",data:=.seq its.toArray n }) (hf:f its.toArray=its'.toArray) (hv:Vals ys its') (hz:ys.length<=sizeLine) :
  Inv X pins σ (upd H l (.lst ys)) { s with heap:=s.heap.update l (Obj.mapSeq f),toks:=t' }:=by
 have q:=PySem.IsL.update e f
 rw[hf] at q
 refine I.write (x:=l) (e:=l) (by rw[hH];exact trivial) (.inl rfl) (λb' u hb hu=>(Heap.get?_update_other s.heap (Obj.mapSeq f) (Ne.symm hb)).trans hu) ⟨_,q⟩ ?_
 exact⟨hz,its',_,hv,q⟩
theorem Inv.lnew {its:List Value} {t':Nat} (I:Inv X pins σ H s) (hv:Vals ys its) (hz:ys.length<=sizeLine) :
  Inv X pins σ (upd H s.heap.objs.size (.lst ys)) { s with heap:=s.heap.push { cls:=.type "list",data:=.seq its.toArray },toks:=t' } :=
 I.laid (λ_ _ q=>Heap.get?_push_of_some _ q) (Nat.le_refl _) ⟨hz,its,0,hv,Heap.get?_push_size _ rfl⟩
theorem Inv.fresh (I:Inv X pins σ H s):H s.heap.objs.size=none:=I.hok.fresh (Nat.le_refl _)
theorem Inv.lstM (I:Inv X pins σ H s) (hH:H l=some (.lst xs)):xs.length<=sizeLine/\∃(its:List Value) (n:Nat),Vals xs its/\xs.length=its.length/\s.heap.get? l=some { cls:=.type "list",data:=.seq its.toArray n }:=by
 obtain⟨z,its,n,r,e⟩:=I.hok l _ hH
 exact⟨z,its,n,r,r.length,e⟩
theorem DJ {n:Nat} (h:n<=sizeLine):Builtin.List.listTooLong n=false:=by
 unfold Builtin.List.listTooLong
 exact decide_eq_false (by omega)
end
section
variable {X:Cx}
noncomputable def yP:V->List V->Hp->VK->Prop:=λx vs H Q=>∃l xs y,x = .ref l/\vs=[y]/\H l=some (.lst xs)/\xs.length<sizeLine/\Q .non (upd H l (.lst (xs++[y])))
theorem qS:MtM X "list.append" yP:=by
 intro pins s σ H x vs v us Q I rx rv h
 obtain⟨l,xs,y,rfl,rfl,hH,hz,q⟩:=h
 cases rx
 obtain⟨u,rfl,ru⟩:=rv.one
 obtain⟨z,its,n,r,hl,e⟩:=I.lstM hH
 refine call_meets F.slot_list_append ⟨_,e,rfl⟩ F.entry_list_append (F.args_list_append_2 _ _) (PySem.list_append l its.toArray n u (by rw[List.size_toArray];omega)) ⟨e,?_⟩
 refine⟨.non,_,I.lset (its':=its++[u]) hH e (by simp) (r.append (.cons ru .nil)) ?_,rfl,q⟩
 rw[List.length_append,List.length_singleton]
 omega
end
section
variable {prog:Program} {w:World} {A:Around} {E:Value->Shared->Prop} {s:Shared}
end
section
variable {X:Cx}
end
end L2
namespace Att
open PySem PySem.W PySem.Calls PyProof.Rows
theorem mW {P:Params} {h:Heap}:∀(ns:List Int) (vs:List Value),WellAll P h vs (ns.map WData.int)->IntsAre vs ns:=by
 intro ns
 induction ns with
 | nil =>
  intro vs w
  rw[List.map_nil] at w
  cases w
  exact .nil
 | cons n ns ih =>
  intro vs w
  rw[List.map_cons] at w
  cases w with
  | cons a b =>
   cases a
   exact .cons _ _ (ih _ b)
theorem AQ {l:OpenLaw} {n:Nat} (hn:l.most=some n) {P:Params} {h:Heap} {args:List WData} {vals:List Value}
  (hpre:l.row.toRowW.claim.pre args=true) (hwl:WellAll P h vals args) :
  ∃a vs ns,vals=[Value.ref a]/\args=[WData.list (ns.map WData.int)]/\h.get? a=some { cls:=.type "list",data:=.seq vs.toArray }/\IntsAre vs ns/\ns.length<=n:=by
 have hsh:WShape.hasAll [] args [.list .int]=true:=(pre_splitW hpre).1
 have hc:l.pre.holds [] { args:=args } = true:=(pre_splitW hpre).2
 obtain⟨d,r,rfl,h1,h2⟩:=hasAllW_cons hsh
 obtain rfl:=hasAllW_nil h2
 obtain⟨xs,rfl,h3⟩:=hasW_list h1
 obtain⟨ns,rfl⟩:=items_int h3
 have hlen:ns.length<=n:=by
  unfold OpenLaw.pre at hc
  have h4:(WTm.not (.lt (.lit (.int (n:Int))) (.len (.arg 0)))).holds [] { args:=[.list (ns.map .int)] } = true:=by
   have h4:=(holds_andW hc).1
   rw[hn] at h4
   exact h4
  have h5:=condW_of h4 (w_not (w_lt w_lit (w_len_list (w_arg rfl))))
  rw[List.length_map] at h5
  refine Nat.le_of_not_lt λq=>?_
  have q':(n:Int)<((ns.length:Nat):Int):=by omega
  first
   | (rw[decide_eq_true q'] at h5;exact absurd h5 (by decide))
   | (simp at h5;omega)
 cases hwl with
 | cons w1 w2 =>
  cases w2
  cases w1 with
  | list ho hall=>exact⟨_,_,ns,rfl,rfl,ho,mW ns _ hall,hlen⟩
theorem AN (l:OpenLaw) (args:List WData):l.row.toRowW.claim.post args (.bool true) args=true :=
 postW_of (r:=l.row.toRowW) (X:=(true == true))
  (show WShape.has [] (.bool true) .bool=true by first | rfl | decide | simp[WShape.has,WShape.arms,WShape.armsAll])
  (show (WTm.eq .res (.lit (.bool true))).value [] { args:=args,res:=some (.bool true),after:=args } = some (.bool (true == true)) from w_eq_bool (w_res rfl) w_lit) rfl
theorem attach_call {l:OpenLaw} {n:Nat} {q:Program} {loose:List Str} {XP:(Str->Option Value)->Heap->Prop} {YP:World->Heap->Prop} {d:DefRec}
  (hn:l.most=some n) (hdf:d.params.defaults=[])
  (call:∀(w:World) (s₀ s₁:Shared) (mg mb:Str->Option Value) (fa:Addr) (o:Obj) (pm cd doc:Value) (a:Addr) (vs:List Value) (ns:List Int),
   Ground q loose [] XP w s₀ mg mb s₁.heap->YP w s₁.heap ->
   s₁.heap.get? fa=some o->o.data = .func (docDef d.name d.params d.body d.scope pm cd doc)->s₁.heap.CodeRec cd d.name->mg d.name=some (.ref fa) ->
   s₁.heap.get? a=some { cls:=.type "list",data:=.seq vs.toArray }->IntsAre vs ns->ns.length<=n->s₁.gens = #[] ->
   codeAny (model l.prog w) callerA (.call (.ref fa) ⟨[.ref a],[]⟩) (λr s'=>r = .ok (.ret (.bool true))/\OldK s₁.heap s'.heap/\s'.os=s₁.os/\AllBare s'.gens) s₁) :
  WalkO q loose XP YP l.row.toRowW d [] (λf vs=>PySem.call f vs):=by
 intro w s₀ s₁ mg mb G Y fa o pm cd doc dV kV ho hd hcd hD hmg hg args vals as hpre hlay hrd hwl hlo
 obtain rfl:dV = .none:=Dflts.none hD hdf
 obtain rfl:kV = .none:=Dflts.noKw hD
 obtain⟨a,vs,ns,rfl,rfl,hobj,hints,hlen⟩:=AQ hn hpre hwl
 refine enter_call (codeAny_mono (call w s₀ s₁ mg mb fa o pm cd doc a vs ns G Y ho (fd_plain hd) hcd hmg hobj hints hlen hg) λr s' hq=>?_)
 obtain⟨rfl,h2,h3,h4⟩:=hq
 exact⟨.inl ⟨.bool true,.bool true,[],rfl,λ_=>rfl,.bool true,AN l _,λ_=>⟨List.Pairwise.nil,λ_ hm=>(nomatch hm)⟩⟩,h2,h3,h4⟩
section
variable {prog:Program} {w:World} {A:Around} {E:Value->Shared->Prop} {s:Shared} {K:Frag}
end
end Att
namespace L2
open PySem PySem.Spec PyProof.Rows
theorem gJ:∀{vs:List Value} {ns:List Int},IntsAre vs ns->Vals (ns.map V.int) vs
 | _,_,.nil=>.nil
 | _,_,.cons n t h=>.cons ⟨t,rfl⟩ (gJ h)
noncomputable def FH (H:Hp):Prop:=∀b,H b=none\/∃o xs,H b=some (.frz o (.lst xs))
theorem CS {P:Program} {w:World} {K:PySem.W.Frag} {mg mb:Str->Option Value} {CX:CXT} {k:Nat} {fa a:Addr} {fd:FuncData} {x:Str} {sp:Sp} {s₁:Shared} {vs:List Value} {ns:List Int}
  (KX:K.In s₁.heap) (hns:s₁.heap.Ns mainGlobals mg) (hb:s₁.heap.Ns builtinsNs mb) (hbb:∀x:Str,x≠"__name__"->mb x=bootBuiltins x) (hlim:s₁.heap.NoLimit) (hg:s₁.gens = #[])
  (ha:s₁.heap.get? a=some { cls:=.type "list",data:=.seq vs.toArray }) (hi:IntsAre vs ns) (hl:ns.length<=sizeLine) (hr:Room k callerA)
  (F:∀base:Heap,K.In base->base.Ns mainGlobals mg->FnOk P w K mg base CX k fa fd [x] sp) (hbind:∀(s:Shared) (u:Value),BindsTo s fd ⟨[u],[]⟩ [(x,u)])
  (hsp:∀H:Hp,FH H->SqL K H a (ns.map V.int)->sp [.ref a] H (λv _=>v = .bl true) λ_ _ _=>False)
  (hCX:∀H e s',CX [] H s₁ (λ_ _ _=>False) e s'->False) :
  codeAny (model P w) callerA (.call (.ref fa) ⟨[.ref a],[]⟩) (λr s'=>r = .ok (.ret (.bool true))/\OldK s₁.heap s'.heap/\s'.os=s₁.os/\AllBare s'.gens) s₁:=by
 have rv:=gJ hi
 have lenV:=hi.length
 have core:∀H:Hp,FH H->SqL K H a (ns.map V.int)->HOk P w H s₁.heap->(∀b,H b≠none->b=a)->(H a≠none->K.lookup a=none) ->
   codeAny (model P w) callerA (.call (.ref fa) ⟨[.ref a],[]⟩) (λr s'=>r = .ok (.ret (.bool true))/\OldK s₁.heap s'.heap/\s'.os=s₁.os/\AllBare s'.gens) s₁:=by
  intro H hO hS hok hA hK
  have base_of:∀{b:Addr} {o:Obj},s₁.heap.get? b=some o->H b=none->(pR s₁.heap H).get? b=some o:=λe n=>tV e n
  have noA:∀{b:Addr} {o:Obj} {es:Array DictEntry} {ep:Nat},s₁.heap.get? b=some o->o.data = .dict es ep->H b=none:=λ{b o es ep} e d=>by
   cases q:H b with
   | none=>rfl
   | some u =>
    have e':b=a:=hA b (by rw[q];simp)
    subst e'
    rw[ha] at e;cases e
    have d':Data.seq vs.toArray _=Data.dict es ep:=d
    cases d'
  have nsK:∀{b:Addr} {m:Str->Option Value},s₁.heap.Ns b m->(pR s₁.heap H).Ns b m:=λ{b m} ⟨o,es,ep,e,d,r⟩=>⟨o,es,ep,base_of e (noA e d),d,r⟩
  have hKb:K.In (pR s₁.heap H):=λb o e=>base_of (KX b o e) (by
   cases q:H b with
   | none=>rfl
   | some u =>
    have e':b=a:=hA b (by rw[q];simp)
    subst e'
    rw[hK (by rw[q];simp)] at e;cases e)
  have hM:Mod K mg (pR s₁.heap H):=⟨hKb,nsK hns,⟨mb,nsK hb,hbb⟩,let ⟨mc,h1,h2⟩:=hlim;⟨mc,nsK h1,h2⟩⟩
  have e0:Env0 P w K mg (pR s₁.heap H) callerA [] s₁ H:=⟨rfl,hM,λb o e=>yI e,Nat.le_of_eq (zS _ _),trivial,λb hb=>absurd (show b∈([]:List Addr) from hb) (by simp),hok,.of_eq hg⟩
  refine codeAny_mono ((F _ hKb (nsK hns)).run callerA [] s₁ H ⟨[.ref a],[]⟩ [.ref a] [.ref a] _ _ hr e0 (hbind s₁ (.ref a)) (.cons rfl .nil) (hsp H hO hS)) λr s' h=>?_
  cases r with
  | error e=>exact (hCX H e s' h).elim
  | ok fl =>
   cases fl with
   | next=>exact False.elim h
   | brk=>exact False.elim h
   | cont=>exact False.elim h
   | ret u =>
    obtain⟨v,H',os,bare,un,hok',r',q⟩:=h
    have q':v = .bl true:=q
    subst q'
    obtain rfl:u=Value.bool true:=r'
    refine⟨rfl,OldK.of_keep λb o e=>?_,os,bare⟩
    cases q:H b with
    | none=>exact un.keep b o e q (by intro z;exact absurd (show b∈([]:List Addr) from z) (by simp)) (by simp)
    | some u =>
     rcases hO b with z | ⟨ob,xs,z⟩
     ·rw[q] at z;cases z
     ·have z2:=un.frzs b ob _ z
      obtain⟨e1,_⟩:=hok b _ z
      obtain⟨e2,_⟩:=hok' b _ z2
      rw[e] at e1;cases e1
      exact e2
 cases hk:K.lookup a with
 | some o =>
  have e:=KX a o hk
  rw[ha] at e
  cases e
  refine core (λ_=>none) (λ_=>.inl rfl) (.inr ⟨_,vs.toArray,_,hk,rfl,rfl,rfl,by rw[List.size_toArray,lenV];exact hl,by simpa using rv⟩) (λb u z=>by have z':(none:Option HO)=some u:=z;cases z') (λb z=>absurd rfl z) λz=>absurd rfl z
 | none =>
  refine core (λb=>if b=a then some (.frz { cls:=.type "list",data:=.seq vs.toArray } (.lst (ns.map V.int))) else none) (λb=>?_) (.inl (.inr ⟨{ cls:=.type "list",data:=.seq vs.toArray },if_pos rfl⟩)) (λb u z=>?_) (λb z=>?_) λ_=>hk
  ·by_cases hb:b=a
   ·exact .inr ⟨_,_,if_pos hb⟩
   ·exact .inl (if_neg hb)
  ·by_cases hb:b=a
   ·have z':=(if_pos hb).symm.trans z
    cases z'
    subst hb
    exact⟨ha,by rw[List.length_map];exact hl,vs,_,rv,ha⟩
   ·have z':=(if_neg hb).symm.trans z
    cases z'
  ·by_cases hb:b=a
   ·exact hb
   ·exact absurd (if_neg hb) z
end L2
namespace L2
open PySem PySem.Spec PyProof.Rows
noncomputable abbrev KOf {K:PySem.W.Frag} {h:Heap} (_:K.In h):PySem.W.Frag:=K
theorem walk_of {l:PySem.W.OpenLaw} {n k:Nat} {q:Program} {loose:List Str} {XP:(Str->Option Value)->Heap->Prop} {YP:World->Heap->Prop} {d:DefRec} {K:Params->PySem.W.Frag} {CX:World->CXT} {sp:World->Sp} {x:Str}
  (hn:l.most=some n) (hn2:n<=sizeLine) (hdf:d.params.defaults=[]) (hr:Room k callerA)
  (hY:∀(w:World) (h:Heap),YP w h->(K w.params).In h)
  (F:∀(w:World) (mg:Str->Option Value) (fa:Addr) (h:Heap),(K w.params).In h->h.Ns mainGlobals mg->mg d.name=some (.ref fa) ->
   ∃fd:FuncData,(∀(s:Shared) (u:Value),BindsTo s fd ⟨[u],[]⟩ [(x,u)]) /\
    ∀base:Heap,(K w.params).In base->base.Ns mainGlobals mg->FnOk l.prog w (K w.params) mg base (CX w) k fa fd [x] (sp w))
  (hsp:∀(w:World) (H:Hp) (a:Addr) (ns:List Int),ns.length<=n->FH H->SqL (K w.params) H a (ns.map V.int)->sp w [.ref a] H (λv _=>v = .bl true) λ_ _ _=>False)
  (hCX:∀(w:World) (H:Hp) (s:Shared) (e:Value) (s':Shared),CX w [] H s (λ_ _ _=>False) e s'->False) :
  PySem.W.WalkO q loose XP YP l.row.toRowW d [] (λf vs=>PySem.call f vs):=by
 refine Att.attach_call hn hdf λw s₀ s₁ mg mb fa o pm cd doc a vs ns G Y ho hd hcd hmg hobj hints hlen hg=>?_
 have KX:=hY w _ Y
 obtain⟨fd,hb,hF⟩:=F w mg fa _ KX G.T.g hmg
 exact CS KX G.T.g G.T.b G.T.builtins G.T.nolimit hg hobj hints (Nat.le_trans hlen hn2) hr hF hb (λH hO hS=>hsp w H a ns hlen hO hS) λH e s'=>hCX w H s₁ e s'
end L2
namespace L2
open PySem PySem.Spec PyProof.Rows
noncomputable def GK (s:Stmt) (j:Nat):Stmt:=match s with
 | .ClassDef _ _ _ body _ _ _ _ _ _ _=>body.getD j (.Pass ⟨0,0,0,0⟩)
 | _=>.Pass ⟨0,0,0,0⟩
noncomputable def aY (s:Stmt):Arguments:=match s with
 | .FunctionDef _ a _ _ _ _ _ _ _ _=>a
 | _=>{ posonlyargs:=[],args:=[],vararg:=none,kwonlyargs:=[],kw_defaults:=[],kwarg:=none,defaults:=[] }
noncomputable def aL (s:Stmt):List Stmt:=match s with
 | .FunctionDef _ _ b _ _ _ _ _ _ _=>b
 | _=>[]
noncomputable def aA (s:Stmt):Scope:=match s with
 | .FunctionDef _ _ _ _ _ _ sc _ _ _=>sc
 | _=>{ kind:=.function,names:=[],isGenerator:=false,isCoroutine:=false }
noncomputable abbrev CX0:CXT:=λ_ _ _ _ _ _=>False
noncomputable abbrev E0:XK:=λ_ _ _=>False
theorem JD {X:Cx}:vD CX0 X E0:=λ_ _ _ _ _ _ _ h=>h.elim
structure Fun (K:PySem.W.Frag) (x qual:Str) (st:Stmt) (f:Addr) (fd:FuncData):Prop where
 ex:∃(oc:Value) (od:Option Addr) (kV doc pm:Value) (an:Option Addr) (cdv ct:Value) (osl:Array (Option Value)),
  fd=PySem.W.fnOf x qual (aY st) (aL st) (aA st) .none kV doc pm an cdv ct/\K.lookup f=some ⟨oc,od,.func fd,osl⟩/\PySem.W.codeIn K cdv qual=true
 kp:PySem.W.keepIn K (.ref f)=true
section
variable {P:Program} {w:World} {K:PySem.W.Frag} {mg:Str->Option Value} {base:Heap}
theorem Fun.ok {x qual:Str} {st:Stmt} {f:Addr} {fd:FuncData} {N ps:List Str} {k:Nat} {sp:Sp} (F:Fun K x qual st f fd) (S:FnScope N ps (aA st)) (len:∀vs H Q E,sp vs H Q E->vs.length=ps.length)
  (hbody:∀(cdv:Value) (A:Around) (outer:List Env) (s:Shared) (H:Hp) (vs:List V) (Q:VK) (E:XK),Room k (A.deeper (envOfC qual (aA st) s.heap.objs.size f cdv))->sp vs H Q E ->
   ∃t,PSs (bX CX0 P w K mg base N qual (aA st) f cdv A outer s H E).nox (aL st) t/\t { nx:=λ_ H'=>Q .non H',rt:=Q } (iZ N vs) H):FnOk P w K mg base CX0 (k+1) f fd ps sp:=by
 obtain⟨oc,od,kV,doc,pm,an,cdv,ct,osl,rfl,lk,hcd⟩:=F.ex
 refine IT lk hcd S len λA outer s H vs Q E hr hsp=>?_
 obtain⟨t,h,q⟩:=hbody cdv A outer s H vs Q E hr hsp
 exact⟨t,h.nox,q⟩
theorem bN {x qual:Str} {st:Stmt} {f:Addr} {oc:Value} {od an:Option Addr} {osl:Array (Option Value)} {kV doc pm cdv ct:Value} (l:K.lookup f=some ⟨oc,od,.func (PySem.W.fnOf x qual (aY st) (aL st) (aA st) .none kV doc pm an cdv ct),osl⟩)
  (c:PySem.W.codeIn K cdv qual=true) (k:PySem.W.keepIn K (.ref f)=true):Fun K x qual st f (PySem.W.fnOf x qual (aY st) (aL st) (aA st) .none kV doc pm an cdv ct):=⟨⟨oc,od,kV,doc,pm,an,cdv,ct,osl,rfl,l,c⟩,k⟩
end
section
variable {X:Cx}
theorem pv (i:Nat) {x:Str} {pos:Pos} (hN:X.N[i]? = some x:=by rfl) (hv:Vis X.env.scope x:=by walk_at "vis") (hd:(x == ("__debug__":Str))=false:=by decide)
  (hcd:(x == ("__classdict__":Str))=false:=by decide):PE X (.Name x pos) (NJ i):=wH hN hv hd hcd
end
noncomputable def Same (H H':Hp):Prop:=∀b o,H b=some o->H' b=some o
theorem Same.refl (H:Hp):Same H H:=λ_ _ h=>h
theorem Same.trans {H H1 H2:Hp} (a:Same H H1) (b:Same H1 H2):Same H H2:=λc o h=>b c o (a c o h)
theorem Same.free {H H':Hp} (e:Same H H') {l:Addr} (h:H' l=Option.none):H l=Option.none:=by
 cases q:H l with
 | none=>rfl
 | some o =>
  rw[e l o q] at h
  cases h
end L2
set_option linter.all false
namespace L2.R2
noncomputable abbrev Pt:=Int × Int
noncomputable def ltP (a b:Pt):Prop:=a.1<b.1\/(a.1=b.1/\a.2<b.2)
instance (a b:Pt):Decidable (ltP a b):=by unfold ltP;infer_instance
end L2.R2
set_option Elab.async false
set_option linter.all false
namespace L2.R2
noncomputable abbrev bE:=Pt × Pt
noncomputable def sd (a b:Pt):List bE:=if a.1<b.1 then [(a,b)] else if b.1<a.1 then [(b,a)] else []
noncomputable def mS:Pt->List Pt->List bE
 | _,[]=>[]
 | a,b::r=>sd a b++mS b r
noncomputable def cM:List Pt->List bE
 | []=>[]
 | a::r=>mS a (r++[a])
noncomputable def cov (c:Int) (s:bE):Bool:=decide (s.1.1<=c) && decide (c<s.2.1)
noncomputable def nD {α:Type}:List α->List (α × α)
 | x::y::r=>(x,y)::nD r
 | _=>[]
end L2.R2
set_option Elab.async false
set_option linter.all false
namespace L2.R2
noncomputable def wid (s:bE):Int:=s.2.1-s.1.1
noncomputable def hB (B:Int) (s:bE) (t:Int):Int:=(s.1.2*wid s+(s.2.2-s.1.2)*(t-s.1.1))*B.fdiv (wid s)
noncomputable def EZ (s:bE):Int:=(s.2.2-s.1.2)*(60:Int).fdiv (wid s)
theorem rZ {B w:Int} (hw:0<w) (h:w∣B):∃q,B=w*q/\B.fdiv w=q:=by
 obtain⟨q,rfl⟩:=h
 exact⟨q,rfl,by rw[Int.mul_comm];exact Int.mul_fdiv_cancel _ (Int.ne_of_gt hw)⟩
theorem sB {s:bE} (hw:0<wid s) (h:wid s∣60) (t:Int):hB 60 s t=60*s.1.2+EZ s*(t-s.1.1):=by
 obtain⟨q,e1,e2⟩:=rZ hw h
 unfold hB EZ
 rw[e2,e1];grind
theorem tU {B:Int} {s:bE} (hw:0<wid s) (h:wid s∣60) (hb:wid s∣B) (t:Int):60*hB B s t=B*hB 60 s t:=by
 obtain⟨q,e1,e2⟩:=rZ hw h
 obtain⟨r,f1,f2⟩:=rZ hw hb
 unfold hB
 rw[e2,f2]
 rw[e1]
 conv=>rhs;rw[f1]
 grind
theorem yE {B:Int} (hB0:0<B) {s s':bE} (hw:0<wid s) (h:wid s∣60) (hb:wid s∣B) (hw':0<wid s') (h':wid s'∣60) (hb':wid s'∣B) (t:Int):hB B s t<hB B s' t↔hB 60 s t<hB 60 s' t:=by
 have e1:=tU hw h hb t
 have e2:=tU hw' h' hb' t
 constructor
 ·intro k
  refine Int.lt_of_mul_lt_mul_left (a:=B) ?_ (Int.le_of_lt hB0)
  rw[<-e1,<-e2];omega
 ·intro k
  have:=Int.mul_lt_mul_of_pos_left k hB0
  rw[<-e1,<-e2] at this;omega
structure SdOk (s:bE):Prop where
 pos:0<wid s
 dvd:wid s∣60
noncomputable def aO (S:List bE) (c:Int):Prop:=∀s∈S,∀s'∈S,cov c s=true->cov c s'=true->hB 60 s c<hB 60 s' c->hB 60 s (c+1)<=hB 60 s' (c+1)
theorem gK {c:Int} {s:bE}:cov c s=true↔s.1.1<=c/\c<s.2.1:=by unfold cov;simp
theorem LG {a b:Pt} {s:bE} (h:s∈sd a b):(s=(a,b)\/s=(b,a))/\0<wid s:=by
 unfold sd at h
 split at h
 ·rw[List.mem_singleton] at h;subst h;exact⟨.inl rfl,by unfold wid;dsimp only;omega⟩
 ·split at h
  ·rw[List.mem_singleton] at h;subst h;exact⟨.inr rfl,by unfold wid;dsimp only;omega⟩
  ·cases h
theorem vB:∀{r:List Pt} {a:Pt} {s:bE},s∈mS a r->∃p q,p∈a::r/\q∈a::r/\s∈sd p q
 | [],_,_,h=>by cases h
 | b::r,a,s,h=>by
  rw[mS] at h
  rcases List.mem_append.mp h with h | h
  ·exact⟨a,b,.head _,.tail _ (.head _),h⟩
  ·obtain⟨p,q,h1,h2,h3⟩:=vB h
   exact⟨p,q,.tail _ h1,.tail _ h2,h3⟩
theorem qX {g:List Pt} {s:bE} (h:s∈cM g):(s.1∈g/\s.2∈g)/\0<wid s:=by
 cases g with
 | nil=>cases h
 | cons a r =>
  obtain⟨p,q,h1,h2,h3⟩:=vB h
  have m:∀x∈a::(r++[a]),x∈a::r:=λx hx=>by
   rcases List.mem_cons.mp hx with rfl | hx
   ·exact .head _
   ·rcases List.mem_append.mp hx with hx | hx
    ·exact .tail _ hx
    ·rw[List.mem_singleton.mp hx];exact .head _
  obtain⟨e,k⟩:=LG h3
  refine⟨?_,k⟩
  rcases e with rfl | rfl
  ·exact⟨m _ h1,m _ h2⟩
  ·exact⟨m _ h2,m _ h1⟩
end L2.R2
set_option Elab.async false
set_option linter.all false
namespace L2.R2
noncomputable abbrev IP:=Int × Int
noncomputable def prB (B c:Int) (s:bE):IP:=(hB B s c,hB B s (c+1))
noncomputable def mI (M:List IP):Prop:=M.Pairwise λx y=>x.1<=y.1/\x.2<=y.2
theorem FM {S:List bE} {c B:Int} (hB0:0<B) (ok:∀s∈S,SdOk s) (hd:∀s∈S,wid s∣B) (hc:∀s∈S,cov c s=true) (u:aO S c):∀x∈S.map (prB B c),∀y∈S.map (prB B c),x.1<y.1->x.2<=y.2:=by
 intro x hx y hy l
 obtain⟨s,hs,rfl⟩:=List.mem_map.mp hx
 obtain⟨t,ht,rfl⟩:=List.mem_map.mp hy
 have os:=ok s hs
 have ot:=ok t ht
 have k1:=(yE hB0 os.pos os.dvd (hd s hs) ot.pos ot.dvd (hd t ht) c).mp l
 have k2:=u s hs t ht (hc s hs) (hc t ht) k1
 refine Int.not_lt.mp λk3=>?_
 have:=(yE hB0 ot.pos ot.dvd (hd t ht) os.pos os.dvd (hd s hs) (c+1)).mp k3
 omega
end L2.R2
set_option linter.all false
namespace L2.R2
end L2.R2
set_option linter.all false
namespace L2.R2
end L2.R2
set_option linter.all false
namespace L2.R2
end L2.R2
set_option Elab.async false
set_option linter.all false
set_option maxRecDepth 100000
namespace L2.R2
open PySem PySem.Spec PyProof.Rows L2
inductive D where
 | non | bl (b:Bool) | int (i:Int) | str (x:Str) | tup (xs:List D) | lst (xs:List D) | dct (ks:List Int) (xs:List D)
noncomputable def FzL (K:PySem.W.Frag) (H:Hp) (a:Addr) (vs:List V):Prop :=
 (∃o,H a=some (.frz o (.lst vs))) \/
  ∃(o:Obj) (its:Array Value) (n:Nat),K.lookup a=some o/\o.cls = .type "list"/\o.dict=none/\o.data = .seq its n/\its.size<=sizeLine/\Vals vs its.toList
theorem FzL.sq {K:PySem.W.Frag} {H:Hp} {a:Addr} {vs:List V}:FzL K H a vs->SqL K H a vs
 | .inl ⟨o,h⟩=>.inl (.inr ⟨o,h⟩)
 | .inr h=>.inr h
structure Keep (H H':Hp):Prop where
 tups:∀b xs,H b=some (.tup xs)->H' b=some (.tup xs)
 frzs:∀b o u,H b=some (.frz o u)->H' b=some (.frz o u)
 exts:∀b φ,H b=some (.ext φ)->H' b=some (.ext φ)
 xds:∀b fs,H b=some (.xd fs)->H' b=some (.xd fs)
theorem Keep.refl (H:Hp):Keep H H:=⟨λ_ _ h=>h,λ_ _ _ h=>h,λ_ _ h=>h,λ_ _ h=>h⟩
theorem Keep.trans {H H1 H2:Hp} (a:Keep H H1) (b:Keep H1 H2):Keep H H2 :=
 ⟨λc xs h=>b.tups c xs (a.tups c xs h),λc o u h=>b.frzs c o u (a.frzs c o u h),λc φ h=>b.exts c φ (a.exts c φ h),λc fs h=>b.xds c fs (a.xds c fs h)⟩
theorem Keep.of {H H':Hp} (s:Same H H'):Keep H H':=⟨λb xs h=>s b _ h,λb o u h=>s b _ h,λb φ h=>s b _ h,λb fs h=>s b _ h⟩
noncomputable def mP (ks:List Int) (vs:List V):List (Key × V):=List.zipWith (λk v=>(Sum.inl k,v)) ks vs
mutual
inductive Rep (K:PySem.W.Frag) (H:Hp):D->V->Prop
 | non:Rep K H .non .non
 | bl (b:Bool):Rep K H (.bl b) (.bl b)
 | int (i:Int):Rep K H (.int i) (.int i)
 | str (x:Str):Rep K H (.str x) (.str x)
 | tup {a:Addr} {vs:List V} {ds:List D} (h:H a=some (.tup vs)) (r:Reps K H ds vs):Rep K H (.tup ds) (.ref a)
 | lst {a:Addr} {vs:List V} {ds:List D} (h:FzL K H a vs) (r:Reps K H ds vs):Rep K H (.lst ds) (.ref a)
 | dct {a:Addr} {vs:List V} {ds:List D} {ks:List Int} {o:Obj} (h:H a=some (.frz o (.dK (mP ks vs)))) (hl:ks.length=vs.length) (r:Reps K H ds vs):Rep K H (.dct ks ds) (.ref a)
inductive Reps (K:PySem.W.Frag) (H:Hp):List D->List V->Prop
 | nil:Reps K H [] []
 | cons {d:D} {v:V} {ds:List D} {vs:List V} (h:Rep K H d v) (t:Reps K H ds vs):Reps K H (d::ds) (v::vs)
end
section
variable {K:PySem.W.Frag} {H H':Hp}
theorem FzL.keep {a:Addr} {vs:List V} (k:Keep H H') (h:FzL K H a vs):FzL K H' a vs:=by
 rcases h with ⟨o,h⟩ | h
 ·exact .inl ⟨o,k.frzs _ _ _ h⟩
 ·exact .inr h
mutual
theorem Rep.keep (k:Keep H H'):∀{d:D} {v:V},Rep K H d v->Rep K H' d v
 | _,_,.non=>.non
 | _,_,.bl b=>.bl b
 | _,_,.int i=>.int i
 | _,_,.str x=>.str x
 | _,_,.tup h r=>.tup (k.tups _ _ h) (Reps.keep k r)
 | _,_,.lst h r=>.lst (FzL.keep k h) (Reps.keep k r)
 | _,_,.dct h hl r=>.dct (k.frzs _ _ _ h) hl (Reps.keep k r)
theorem Reps.keep (k:Keep H H'):∀{ds:List D} {vs:List V},Reps K H ds vs->Reps K H' ds vs
 | _,_,.nil=>.nil
 | _,_,.cons h t=>.cons (Rep.keep k h) (Reps.keep k t)
end
theorem Reps.length:∀{ds:List D} {vs:List V},Reps K H ds vs->ds.length=vs.length
 | _,_,.nil=>rfl
 | _,_,.cons _ t=>by simp[Reps.length t]
theorem Reps.get:∀{ds:List D} {vs:List V} {i:Nat} {d:D},Reps K H ds vs->ds[i]? = some d->∃v,vs[i]? = some v/\Rep K H d v
 | _,_,_,_,.nil,e=>by simp at e
 | _,_,0,_,.cons h _,e=>by simp at e;subst e;exact⟨_,rfl,h⟩
 | _,_,i+1,d,.cons _ t,e=>by
  obtain⟨v,h1,h2⟩:=Reps.get (i:=i) (d:=d) t (by simpa using e)
  exact⟨v,by simpa using h1,h2⟩
theorem Reps.append:∀{ds es:List D} {vs us:List V},Reps K H ds vs->Reps K H es us->Reps K H (ds++es) (vs++us)
 | _,_,_,_,.nil,s=>s
 | _,_,_,_,.cons h t,s=>.cons h (Reps.append t s)
theorem Reps.take:∀{ds:List D} {vs:List V} (n:Nat),Reps K H ds vs->Reps K H (ds.take n) (vs.take n)
 | _,_,0,_=>.nil
 | _,_,_+1,.nil=>.nil
 | _,_,n+1,.cons r t=>.cons r (Reps.take n t)
theorem Reps.drop:∀{ds:List D} {vs:List V} (n:Nat),Reps K H ds vs->Reps K H (ds.drop n) (vs.drop n)
 | _,_,0,r=>r
 | _,_,_+1,.nil=>.nil
 | _,_,n+1,.cons _ t=>Reps.drop n t
theorem Rep.int_inv {i:Int} {v:V} (h:Rep K H (.int i) v):v = .int i:=by cases h;rfl
theorem Rep.bl_inv {b:Bool} {v:V} (h:Rep K H (.bl b) v):v = .bl b:=by cases h;rfl
theorem Reps.ints:∀{ns:List Int},Reps K H (ns.map D.int) (ns.map V.int)
 | []=>.nil
 | _::_=>.cons (.int _) Reps.ints
theorem Reps.ints_inv:∀{ns:List Int} {vs:List V},Reps K H (ns.map D.int) vs->vs=ns.map V.int
 | [],_,h=>by cases h;rfl
 | n::ns,_,h=>by
  cases h with
  | cons h t=>rw[h.int_inv,Reps.ints_inv t];rfl
end
noncomputable def RepB (K:PySem.W.Frag) (H:Hp) (d:D) (v:V):Prop :=
 Rep K H d v\/∃ds a vs,d = .lst ds/\v = .ref a/\H a=some (.lst vs)/\Reps K H ds vs
theorem RepB.same {K:PySem.W.Frag} {H H':Hp} {d:D} {v:V} (s:Same H H') (h:RepB K H d v):RepB K H' d v:=by
 rcases h with h | ⟨ds,a,vs,e1,e2,e3,r⟩
 ·exact .inl (h.keep (.of s))
 ·exact .inr ⟨ds,a,vs,e1,e2,s _ _ e3,r.keep (.of s)⟩
theorem RepB.lst {K:PySem.W.Frag} {H:Hp} {ds:List D} {v:V} (h:RepB K H (.lst ds) v):∃a vs,v = .ref a/\SqL K H a vs/\Reps K H ds vs:=by
 rcases h with h | ⟨ds',a,vs,e1,e2,e3,r⟩
 ·cases h with
  | lst h r=>exact⟨_,_,rfl,h.sq,r⟩
 ·cases e1;exact⟨a,vs,e2,SqL.of e3,r⟩
theorem RepB.tup {K:PySem.W.Frag} {H:Hp} {ds:List D} {v:V} (h:RepB K H (.tup ds) v):∃a vs,v = .ref a/\H a=some (.tup vs)/\Reps K H ds vs:=by
 rcases h with h | ⟨ds',a,vs,e1,e2,e3,r⟩
 ·cases h with
  | tup h r=>exact⟨_,_,rfl,h,r⟩
 ·cases e1
inductive S where
 | d (x:D) | own (xs:List D) | dcl (kvs:List (Int × List D)) | box (t:Bool) (xss:List (List D)) | exc (C:Addr) (y:Str) (c:Int)
noncomputable def S.val:S->D
 | .d x=>x
 | .own xs=>.lst xs
 | .dcl _=>.non
 | .box _ _=>.non
 | .exc _ _ _=>.non
noncomputable abbrev En:=List (Option S)
inductive Dcl (K:PySem.W.Frag) (H₀ H:Hp):List (Int × List D)->List (Key × V)->List Addr->Prop
 | nil:Dcl K H₀ H [] [] []
 | cons {k:Int} {b:Addr} {vs:List V} {ds:List D} {kvs:List (Int × List D)} {kws:List (Key × V)} {as:List Addr} (h:H b=some (.lst vs)) (h0:H₀ b=none) (r:Reps K H ds vs) (n:b ∉ as) (t:Dcl K H₀ H kvs kws as) :
   Dcl K H₀ H ((k,ds)::kvs) ((Sum.inl k,.ref b)::kws) (b::as)
noncomputable abbrev dW (C e dx:Addr):HO:=.ext λh=>∃oe vs,h.get? e=some oe/\oe.cls = .ref C/\oe.data = .fields vs/\oe.dict=some dx
noncomputable def RelS (K:PySem.W.Frag) (H₀ H:Hp):S->V->Prop
 | .exc C y c,v=>∃e dx,v = .ref e/\H e=some (dW C e dx)/\H dx=some (.xd [(y,.int c)])
 | .d x,v=>Rep K H x v
 | .own xs,v=>∃a vs,v = .ref a/\H a=some (.lst vs)/\H₀ a=none/\Reps K H xs vs
 | .dcl kvs,v=>∃a kws as,v = .ref a/\H a=some (.dK kws)/\H₀ a=none/\Dcl K H₀ H kvs kws as
 | .box false xss,v=>∃a kws as,v = .ref a/\H a=some (.lst (as.map V.ref))/\H₀ a=none/\a ∉ as/\Dcl K H₀ H (xss.map λx=>(0,x)) kws as
 | .box true xss,v=>∃a kws as,v = .ref a/\H a=some (.tup (as.map V.ref))/\Dcl K H₀ H (xss.map λx=>(0,x)) kws as
noncomputable def Ow (H:Hp):S->V->Addr->Prop
 | .exc _ _ _,_,_=>False
 | .d _,_,_=>False
 | .own _,v,a=>v = .ref a
 | .dcl _,v,a=>∃p kws,v = .ref p/\H p=some (.dK kws)/\(a=p\/∃k,(k,V.ref a)∈kws)
 | .box false _,v,a=>∃p vs,v = .ref p/\H p=some (.lst vs)/\(a=p\/V.ref a∈vs)
 | .box true _,v,a=>∃p vs,v = .ref p/\H p=some (.tup vs)/\V.ref a∈vs
structure StOk (X:Cx) (ρ:En) (σ:St) (H:Hp):Prop where
 len:ρ.length=σ.length
 same:Same X.H₀ H
 rel:∀(i:Nat) (x:S),ρ[i]? = some (some x)->∃v,σ[i]? = some (some v)/\RelS X.K X.H₀ H x v
 sep:∀(i j:Nat) (x y:S) (v u:V) (a:Addr),ρ[i]? = some (some x)->ρ[j]? = some (some y)->σ[i]? = some (some v)->σ[j]? = some (some u)->Ow H x v a->Ow H y u a->i=j
section
variable {K:PySem.W.Frag} {H₀ H H':Hp}
theorem Dcl.keep {kvs:List (Int × List D)} {kws:List (Key × V)} {as:List Addr} (k:Keep H H') (t:Dcl K H₀ H kvs kws as) (w:∀a∈as,∀o,H a=some o->H' a=some o):Dcl K H₀ H' kvs kws as:=by
 induction t with
 | nil=>exact .nil
 | cons h h0 r n t ih=>exact .cons (w _ (.head _) _ h) h0 (r.keep k) n (ih λa m=>w a (.tail _ m))
theorem Dcl.mem {kvs:List (Int × List D)} {kws:List (Key × V)} {as:List Addr} {a:Addr} (t:Dcl K H₀ H kvs kws as):a∈as↔∃k,(k,V.ref a)∈kws:=by
 induction t with
 | nil=>simp
 | cons h h0 r n t ih =>
  rw[List.mem_cons,ih]
  constructor
  ·rintro (rfl | ⟨k,e⟩)
   ·exact⟨_,.head _⟩
   ·exact⟨k,.tail _ e⟩
  ·rintro⟨k,e⟩
   rcases List.mem_cons.mp e with e | e
   ·cases e;exact .inl rfl
   ·exact .inr ⟨k,e⟩
theorem Dcl.at {kvs:List (Int × List D)} {kws:List (Key × V)} {as:List Addr} {a:Addr} (t:Dcl K H₀ H kvs kws as) (m:a∈as):H₀ a=none/\∃vs,H a=some (.lst vs):=by
 induction t with
 | nil=>cases m
 | cons h h0 r n t ih =>
  rcases List.mem_cons.mp m with rfl | m
  ·exact⟨h0,_,h⟩
  ·exact ih m
theorem kG:∀{ks:List Int} {vs:List V},ks.length=vs.length->(mP ks vs).map (·.2)=vs
 | [],[],_=>rfl
 | [],_::_,h=>by cases h
 | _::_,[],h=>by cases h
 | k::ks,v::vs,h=>by
  show v::(mP ks vs).map (·.2)=v::vs
  rw[kG (by simpa using h)]
theorem Dcl.refs {kvs:List (Int × List D)} {kws:List (Key × V)} {as:List Addr} (t:Dcl K H₀ H kvs kws as):kws.map (·.2)=as.map V.ref:=by
 induction t with
 | nil=>rfl
 | cons h h0 r n t ih=>rw[List.map_cons,List.map_cons,ih]
theorem Ow.at {x:S} {v:V} {a:Addr} (r:RelS K H₀ H x v) (w:Ow H x v a):H₀ a=none/\((∃vs,H a=some (.lst vs))\/∃kws,H a=some (.dK kws)):=by
 cases x with
 | d x=>exact w.elim
 | exc C y c=>exact w.elim
 | own xs =>
  obtain⟨b,vs,rfl,h,h0,_⟩:=r
  cases w;exact⟨h0,.inl ⟨vs,h⟩⟩
 | dcl kvs =>
  obtain⟨b,kws,as,rfl,h,h0,t⟩:=r
  obtain⟨p,kws',e,h',m⟩:=w
  cases e
  rw[h] at h';cases h'
  rcases m with rfl | m
  ·exact⟨h0,.inr ⟨kws,h⟩⟩
  ·obtain⟨g0,g1⟩:=t.at (t.mem.mpr m)
   exact⟨g0,.inl g1⟩
 | box t xss =>
  cases t with
  | false =>
   obtain⟨b,kws,as,rfl,h,h0,_,t⟩:=r
   obtain⟨p,vs,e,h',m⟩:=w
   cases e
   rw[h] at h';cases h'
   rcases m with rfl | m
   ·exact⟨h0,.inl ⟨_,h⟩⟩
   ·obtain⟨c,hc,e⟩:=List.mem_map.mp m
    cases e
    obtain⟨g0,g1⟩:=t.at hc
    exact⟨g0,.inl g1⟩
  | true =>
   obtain⟨b,kws,as,rfl,h,t⟩:=r
   obtain⟨p,vs,e,h',m⟩:=w
   cases e
   rw[h] at h';cases h'
   obtain⟨c,hc,e⟩:=List.mem_map.mp m
   cases e
   obtain⟨g0,g1⟩:=t.at hc
   exact⟨g0,.inl g1⟩
theorem RelS.move {x:S} {v:V} (k:Keep H H') (r:RelS K H₀ H x v) (w:∀a,Ow H x v a->∀o,H a=some o->H' a=some o):RelS K H₀ H' x v/\∀a,Ow H' x v a->Ow H x v a:=by
 cases x with
 | d x=>exact⟨Rep.keep k r,λa e=>e⟩
 | exc C y c =>
  obtain⟨e,dx,rfl,h1,h2⟩:=r
  exact⟨⟨e,dx,rfl,k.exts _ _ h1,k.xds _ _ h2⟩,λa e=>e⟩
 | own xs =>
  obtain⟨b,vs,rfl,h,h0,rr⟩:=r
  exact⟨⟨b,vs,rfl,w b rfl _ h,h0,rr.keep k⟩,λa e=>e⟩
 | dcl kvs =>
  obtain⟨b,kws,as,rfl,h,h0,t⟩:=r
  have hb:=w b ⟨b,kws,rfl,h,.inl rfl⟩ _ h
  refine⟨⟨b,kws,as,rfl,hb,h0,t.keep k λa m=>w a ⟨b,kws,rfl,h,.inr (t.mem.mp m)⟩⟩,λa e=>?_⟩
  obtain⟨p,kws',e,h',m⟩:=e
  cases e
  rw[hb] at h';cases h'
  exact⟨b,kws,rfl,h,m⟩
 | box t xss =>
  cases t with
  | false =>
   obtain⟨b,kws,as,rfl,h,h0,nb,t⟩:=r
   have hb:=w b ⟨b,_,rfl,h,.inl rfl⟩ _ h
   refine⟨⟨b,kws,as,rfl,hb,h0,nb,t.keep k λa m=>w a ⟨b,_,rfl,h,.inr (List.mem_map_of_mem m)⟩⟩,λa e=>?_⟩
   obtain⟨p,vs,e,h',m⟩:=e
   cases e
   rw[hb] at h';cases h'
   exact⟨b,_,rfl,h,m⟩
  | true =>
   obtain⟨b,kws,as,rfl,h,t⟩:=r
   have hb:=k.tups b _ h
   refine⟨⟨b,kws,as,rfl,hb,t.keep k λa m=>w a ⟨b,_,rfl,h,List.mem_map_of_mem m⟩⟩,λa e=>?_⟩
   obtain⟨p,vs,e,h',m⟩:=e
   cases e
   rw[hb] at h';cases h'
   exact⟨b,_,rfl,h,m⟩
theorem RelS.same {x:S} {v:V} (s:Same H H') (h:RelS K H₀ H x v):RelS K H₀ H' x v:=(h.move (.of s) λa _ o e=>s a o e).1
end
section
variable {X:Cx} {ρ:En} {σ:St} {H H':Hp}
theorem StOk.ext (st:StOk X ρ σ H) (s:Same H H'):StOk X ρ σ H':=by
 refine⟨st.len,st.same.trans s,λi x e=>let ⟨v,h1,h2⟩:=st.rel i x e;⟨v,h1,h2.same s⟩,λi j x y v u a e1 e2 e3 e4 o1 o2=>?_⟩
 obtain⟨v',h1,h2⟩:=st.rel i x e1
 obtain⟨u',g1,g2⟩:=st.rel j y e2
 rw[h1] at e3;cases e3
 rw[g1] at e4;cases e4
 exact st.sep i j x y _ _ a e1 e2 h1 g1 ((h2.move (.of s) λa _ o e=>s a o e).2 a o1) ((g2.move (.of s) λa _ o e=>s a o e).2 a o2)
theorem nR {α:Type} {xs:List (Option α)} {i j:Nat} {x y:α} (e:(xs.set i (some x))[j]? = some (some y)):(j=i/\y=x/\i<xs.length)\/(i≠j/\xs[j]? = some (some y)):=by
 by_cases hj:i=j
 ·subst hj
  by_cases h:i<xs.length
  ·rw[List.getElem?_set_self h] at e;cases e;exact .inl ⟨rfl,rfl,h⟩
  ·rw[List.set_eq_of_length_le (by omega),List.getElem?_eq_none (by omega)] at e;cases e
 ·rw[List.getElem?_set_ne hj] at e;exact .inr ⟨hj,e⟩
theorem StOk.chg (st:StOk X ρ σ H) {i:Nat} {x':S} {v':V} {W:Addr->Prop} (kp:Keep H H') (h0:∀b o,X.H₀ b=some o->H' b=some o) (h1:∀b o,H b=some o->¬W b->H' b=some o) (h2:RelS X.K X.H₀ H' x' v')
  (h3:∀a,Ow H' x' v' a->W a\/H a=none) (h4:∀(j:Nat) (y:S) (u:V) (a:Addr),j≠i->ρ[j]? = some (some y)->σ[j]? = some (some u)->Ow H y u a->¬W a):StOk X (ρ.set i (some x')) (σ.set i (some v')) H':=by
 have old:∀(j:Nat) (y:S),j≠i->ρ[j]? = some (some y)->∃u,σ[j]? = some (some u)/\RelS X.K X.H₀ H y u/\RelS X.K X.H₀ H' y u/\∀a,Ow H' y u a->Ow H y u a:=λj y hj e=>by
  obtain⟨u,g1,g2⟩:=st.rel j y e
  obtain⟨g3,g4⟩:=g2.move kp λa w o e'=>h1 a o e' (h4 j y u a hj e g1 w)
  exact⟨u,g1,g2,g3,g4⟩
 refine⟨by simp[st.len],λb o h=>h0 b o h,λj y e=>?_,λj k y z v u a e1 e2 e3 e4 o1 o2=>?_⟩
 ·rcases nR e with ⟨rfl,rfl,hl⟩ | ⟨hj,e⟩
  ·exact⟨v',by rw[List.getElem?_set_self (by rw[<-st.len];exact hl)],h2⟩
  ·obtain⟨u,g1,_,g3,_⟩:=old j y (Ne.symm hj) e
   exact⟨u,by rw[List.getElem?_set_ne hj];exact g1,g3⟩
 ·have cross:∀(j:Nat) (y:S) (u:V),i≠j->ρ[j]? = some (some y)->σ[j]? = some (some u)->Ow H' y u a->Ow H' x' v' a->False:=λj y u hj e es o1 o2=>by
   obtain⟨u',g1,g2,g3,g4⟩:=old j y (Ne.symm hj) e
   rw[g1] at es;cases es
   rcases h3 a o2 with w | n
   ·exact h4 j y _ a (Ne.symm hj) e g1 (g4 a o1) w
   ·obtain⟨_,⟨_,q⟩ | ⟨_,q⟩⟩:=Ow.at g2 (g4 a o1) <;> rw[n] at q <;> cases q
  rcases nR e1 with ⟨rfl,rfl,hl⟩ | ⟨hj,e1'⟩
  ·rcases nR e2 with ⟨rfl,rfl,_⟩ | ⟨hk,e2'⟩
   ·rfl
   ·rw[List.getElem?_set_self (by rw[<-st.len];exact hl)] at e3;cases e3
    rw[List.getElem?_set_ne hk] at e4
    exact (cross k z u hk e2' e4 o2 o1).elim
  ·rw[List.getElem?_set_ne hj] at e3
   rcases nR e2 with ⟨rfl,rfl,hl⟩ | ⟨hk,e2'⟩
   ·rw[List.getElem?_set_self (by rw[<-st.len];exact hl)] at e4;cases e4
    exact (cross j y v hj e1' e3 o1 o2).elim
   ·rw[List.getElem?_set_ne hk] at e4
    obtain⟨v',g1,g2,g3,g4⟩:=old j y (Ne.symm hj) e1'
    obtain⟨u',f1,f2,f3,f4⟩:=old k z (Ne.symm hk) e2'
    rw[g1] at e3;cases e3
    rw[f1] at e4;cases e4
    exact st.sep j k y z _ _ a e1' e2' g1 f1 (g4 a o1) (f4 a o2)
theorem StOk.put (st:StOk X ρ σ H) {i:Nat} {x':S} {v':V} (s:Same H H') (h2:RelS X.K X.H₀ H' x' v') (h3:∀a,Ow H' x' v' a->H a=none):StOk X (ρ.set i (some x')) (σ.set i (some v')) H' :=
 st.chg (W:=λ_=>False) (.of s) (λb o h=>s b o (st.same b o h)) (λb o h _=>s b o h) h2 (λa o=>.inr (h3 a o)) λ_ _ _ _ _ _ _ _ z=>z
theorem StOk.updW (st:StOk X ρ σ H) {i:Nat} {x x':S} {v v':V} (e:ρ[i]? = some (some x)) (es:σ[i]? = some (some v)) (h1:∀b o,H b=some o->¬Ow H x v b->H' b=some o) (h2:RelS X.K X.H₀ H' x' v')
  (h3:∀a,Ow H' x' v' a->Ow H x v a\/H a=none):StOk X (ρ.set i (some x')) (σ.set i (some v')) H'/\Keep H H':=by
 obtain⟨v0,g1,g2⟩:=st.rel i x e
 rw[g1] at es;cases es
 have no:∀b o,H b=some o->(∀vs,o≠.lst vs)->(∀kws,o≠.dK kws)->¬Ow H x v b:=λb o h n1 n2 w=>by
  obtain⟨_,⟨_,q⟩ | ⟨_,q⟩⟩:=Ow.at g2 w <;> rw[h] at q <;> cases q
  ·exact n1 _ rfl
  ·exact n2 _ rfl
 have kp:Keep H H':=⟨λb xs h=>h1 b _ h (no b _ h (λ_ z=>by cases z) λ_ z=>by cases z),λb o u h=>h1 b _ h (no b _ h (λ_ z=>by cases z) λ_ z=>by cases z),λb φ h=>h1 b _ h (no b _ h (λ_ z=>by cases z) λ_ z=>by cases z),λb fs h=>h1 b _ h (no b _ h (λ_ z=>by cases z) λ_ z=>by cases z)⟩
 refine⟨st.chg (W:=Ow H x v) kp (λb o h=>h1 b o (st.same b o h) λw=>?_) h1 h2 h3 λj y u a hj ej eu o1 o2=>hj (st.sep j i y x u v a ej e eu g1 o1 o2),kp⟩
 rw[(Ow.at g2 w).1] at h;cases h
theorem StOk.set_d (st:StOk X ρ σ H) {i:Nat} {d:D} {v:V} (r:Rep X.K H d v):StOk X (ρ.set i (some (.d d))) (σ.set i (some v)) H:=st.put (x':=.d d) (Same.refl H) r λ_ o=>o.elim
theorem cT {α:Type} {xs:List α} {i:Nat} {x:α} (e:xs[i]? = some x):xs.set i x=xs:=by
 apply List.ext_getElem? ;intro j
 by_cases hj:i=j
 ·subst hj;rw[List.getElem?_set_self (List.getElem?_eq_some_iff.mp e).1,e]
 ·rw[List.getElem?_set_ne hj]
theorem StOk.set_own (st:StOk X ρ σ H) {i:Nat} {ds:List D} {p:Addr} {vs:List V} (hp:H p=none) (r:Reps X.K H ds vs) :
  StOk X (ρ.set i (some (.own ds))) (σ.set i (some (.ref p))) (upd H p (.lst vs)):=by
 have sm:Same H (upd H p (.lst vs)):=λb o h=>by rw[aE (aH h hp)];exact h
 exact st.put sm ⟨p,vs,rfl,aQ,st.same.free hp,r.keep (.of sm)⟩ λa o=>by cases o;exact hp
theorem StOk.upd_own (st:StOk X ρ σ H) {i:Nat} {xs ds:List D} {p:Addr} {us vs:List V} (e:ρ[i]? = some (some (.own xs))) (es:σ[i]? = some (some (.ref p))) (hp:H p=some (.lst us)) (h0:X.H₀ p=none)
  (r:Reps X.K H ds vs):StOk X (ρ.set i (some (.own ds))) σ (upd H p (.lst vs))/\Keep H (upd H p (.lst vs)):=by
 have kp:Keep H (upd H p (.lst vs)):=⟨λb ys h=>by
   rw[aE (cG h hp (by intro z;cases z))];exact h,λb o u h=>by rw[aE (cG h hp (by intro z;cases z))];exact h,λb φ h=>by rw[aE (cG h hp (by intro z;cases z))];exact h,λb fs h=>by rw[aE (cG h hp (by intro z;cases z))];exact h⟩
 have:=st.updW (x':=.own ds) (v':=.ref p) e es (H':=upd H p (.lst vs)) (λb o h w=>by rw[aE (by rintro rfl;exact w rfl)];exact h) ⟨p,vs,rfl,aQ,h0,r.keep kp⟩ λa o=>.inl o
 rw[cT es] at this
 exact this
end
section
variable {X:Cx} {pins:List (Addr × Obj)} {σ:St} {H:Hp} {s:Shared}
theorem Inv.freezeG {a:Addr} {x:HO} {o:Obj} (I:Inv X pins σ H s) (h:H a=some x) (ho:s.heap.get? a=some o) (n1:∀ys,HO.tup ys≠x) (n2:∀o w,HO.frz o w≠x) (n3:∀ps,HO.tbl ps≠x) (n4:∀c,HO.own c≠x):Inv X pins σ (upd H a (.frz o x)) s:=by
 have ok:=I.hok a _ h
 have ntup:∀b u,H b=some u->u≠x->b≠a:=λb u q d z=>by subst z;rw[h] at q;cases q;exact d rfl
 have st:∀{b:Addr} {u:HO},ObjOk X.prog X.w H s.heap b u->ObjOk X.prog X.w (upd H a (.frz o x)) s.heap b u:=λ{b u} q =>
  q.stay (λc v _ w=>w) (λc w=>by rw[aE (ntup c _ w (n4 _))];exact w) λc ys w=>by rw[aE (ntup c _ w (n1 _))];exact w
 refine I.un (t':=s.toks) (h':=s.heap) ⟨λb o q _ _ _=>q,λb o q _ _ _=>⟨o.slots,q⟩,λb o q n _=>?_,λb o q _=>⟨o,q⟩,λb ys q=>?_,λb o u q=>?_,λb ps q=>⟨#[],?_⟩⟩ λb u q=>?_
 ·rw[aE (λz=>by subst z;rw[h] at n;cases n)];exact n
 ·rw[aE (ntup b _ q (n1 _))];exact q
 ·rw[aE (ntup b _ q (n2 _ _))];exact q
 ·rw[aE (ntup b _ q (n3 _)),q];simp
 ·by_cases hb:b=a
  ·subst hb
   rw[aQ] at q;cases q
   exact⟨ho,st ok⟩
  ·rw[aE hb] at q
   exact st (I.hok b u q)
theorem Inv.freeze {a:Addr} {xs:List V} (I:Inv X pins σ H s) (h:H a=some (.lst xs)):∃o,Inv X pins σ (upd H a (.frz o (.lst xs))) s:=by
 obtain⟨z,its,n,r,e⟩:=I.hok a _ h
 exact⟨_,Inv.freezeG I h e (λ_ z=>by cases z) (λ_ _ z=>by cases z) (λ_ z=>by cases z) λ_ z=>by cases z⟩
theorem Inv.freezeD {a:Addr} {kvs:List (Key × V)} (I:Inv X pins σ H s) (h:H a=some (.dK kvs)):∃o,Inv X pins σ (upd H a (.frz o (.dK kvs))) s:=by
 obtain⟨_,_,vs,r,ob,es,ep,e,_⟩:=I.hok a _ h
 exact⟨ob,Inv.freezeG I h e (λ_ z=>by cases z) (λ_ _ z=>by cases z) (λ_ z=>by cases z) λ_ z=>by cases z⟩
theorem Same.upd_new {a:Addr} {o:HO} {H H1:Hp} (s:Same H H1) (n:H a=none):Same H (upd H1 a o):=λb u h=>by
 rw[aE (aH h n)];exact s b u h
theorem eU:∀(kvs:List (Int × List D)) {kws:List (Key × V)} {as:List Addr} {H:Hp},Inv X pins σ H s->Dcl X.K X.H₀ H kvs kws as ->
  ∃H' vs,Inv X pins σ H' s/\kws=mP (kvs.map (·.1)) vs/\kvs.length=vs.length/\Reps X.K H' (kvs.map λp=>.lst p.2) vs/\Keep H H'/\∀b o,H b=some o->b ∉ as->H' b=some o
 | [],_,_,H,I,t=>by cases t;exact⟨H,[],I,rfl,rfl,.nil,Keep.refl H,λb o h _=>h⟩
 | (k,ds)::kvs,_,_,H,I,t=>by
  cases t with
  | @cons _ b vs _ _ kws as h h0 r n t =>
   obtain⟨o,I1⟩:=Inv.freeze I h
   have kp:Keep H (upd H b (.frz o (.lst vs))):=⟨λc ys q=>by rw[aE (cG q h (by intro z;cases z))];exact q,λc o u q=>by rw[aE (cG q h (by intro z;cases z))];exact q,λc φ q=>by rw[aE (cG q h (by intro z;cases z))];exact q,λc φ q=>by rw[aE (cG q h (by intro z;cases z))];exact q⟩
   obtain⟨H',us,I2,e1,e2,e3,k2,e4⟩:=eU kvs I1 (t.keep kp λa m o e=>by rw[aE (by rintro rfl;exact n m)];exact e)
   subst e1
   refine⟨H',.ref b::us,I2,rfl,by simp[e2],.cons (.lst (.inl ⟨o,k2.frzs _ _ _ aQ⟩) (r.keep (kp.trans k2))) e3,kp.trans k2,λc u q m=>?_⟩
   rw[List.mem_cons,not_or] at m
   exact e4 c u (by rw[aE m.1];exact q) m.2
noncomputable def S.fz:S->S
 | .own ds=>.d (.lst ds)
 | .dcl kvs=>.d (.dct (kvs.map (·.1)) (kvs.map λp=>.lst p.2))
 | .box false xss=>.d (.lst (xss.map .lst))
 | .box true xss=>.d (.tup (xss.map .lst))
 | .d x=>.d x
 | .exc C y c=>.exc C y c
theorem StOk.fz {ρ:En} {i:Nat} {x:S} (so:StOk X ρ σ H) (I:Inv X pins σ H s) (e:ρ[i]? = some (some x)):∃H',Inv X pins σ H' s/\StOk X (ρ.set i (some x.fz)) σ H'/\Keep H H':=by
 obtain⟨v,h1,h2⟩:=so.rel i _ e
 cases x with
 | d x=>exact⟨H,I,by rw[show S.fz (.d x) = .d x from rfl,cT e];exact so,Keep.refl H⟩
 | exc C y c=>exact⟨H,I,by rw[show S.fz (.exc C y c) = .exc C y c from rfl,cT e];exact so,Keep.refl H⟩
 | own ds =>
  obtain⟨p,vs,ev,hp,h0,rr⟩:=id h2
  subst ev
  obtain⟨o,I2⟩:=Inv.freeze I hp
  have kp:Keep H (upd H p (.frz o (.lst vs))):=⟨λc ys q=>by rw[aE (cG q hp (by intro z;cases z))];exact q,λc o u q=>by rw[aE (cG q hp (by intro z;cases z))];exact q,λc φ q=>by rw[aE (cG q hp (by intro z;cases z))];exact q,λc φ q=>by rw[aE (cG q hp (by intro z;cases z))];exact q⟩
  obtain⟨so2,k2⟩:=so.updW (x':=.d (.lst ds)) (v':=.ref p) e h1 (H':=upd H p (.frz o (.lst vs))) (λb o h w=>by rw[aE (by rintro rfl;exact w rfl)];exact h) (.lst (.inl ⟨o,aQ⟩) (rr.keep kp)) λa o=>o.elim
  rw[cT h1] at so2
  exact⟨_,I2,so2,k2⟩
 | dcl kvs =>
  obtain⟨p,kws,as,ev,hp,h0,t⟩:=id h2
  subst ev
  obtain⟨H1,vs,I1,e1,e2,e3,k1,e4⟩:=eU kvs I t
  have np:p ∉ as:=λm=>by obtain⟨_,us,q⟩:=t.at m;rw[hp] at q;cases q
  have hp1:=e4 p _ hp np
  obtain⟨o,I2⟩:=Inv.freezeD I1 hp1
  have kp:Keep H1 (upd H1 p (.frz o (.dK kws))):=⟨λc ys q=>by rw[aE (cG q hp1 (by intro z;cases z))];exact q,λc o u q=>by rw[aE (cG q hp1 (by intro z;cases z))];exact q,λc φ q=>by rw[aE (cG q hp1 (by intro z;cases z))];exact q,λc φ q=>by rw[aE (cG q hp1 (by intro z;cases z))];exact q⟩
  obtain⟨so2,k2⟩:=so.updW (x':=.d (.dct (kvs.map (·.1)) (kvs.map λp=>.lst p.2))) (v':=.ref p) e h1 (H':=upd H1 p (.frz o (.dK kws)))
   (λb o h w=>by
    rw[aE (by rintro rfl;exact w ⟨_,kws,rfl,hp,.inl rfl⟩)]
    exact e4 b o h λm=>w ⟨p,kws,rfl,hp,.inr (t.mem.mp m)⟩)
   (.dct (by rw[aQ,e1]) (by simp[e2]) (e3.keep kp)) λa o=>o.elim
  rw[cT h1] at so2
  exact⟨_,I2,so2,k2⟩
 | box t xss =>
  have emap:(xss.map λx=>((0:Int),x)).map (λp=>D.lst p.2)=xss.map D.lst:=by rw[List.map_map];rfl
  cases t with
  | false =>
   obtain⟨p,kws,as,ev,hp,h0,np,t⟩:=id h2
   subst ev
   obtain⟨H1,vs,I1,e1,e2,e3,k1,e4⟩:=eU _ I t
   rw[emap] at e3
   have ea:as.map V.ref=vs:=by rw[<-t.refs,e1];exact kG (by rw[List.length_map];simpa using e2)
   have hp1:=e4 p _ hp np
   obtain⟨o,I2⟩:=Inv.freeze I1 hp1
   have kp:Keep H1 (upd H1 p (.frz o (.lst (as.map V.ref)))):=⟨λc ys q=>by rw[aE (cG q hp1 (by intro z;cases z))];exact q,λc o u q=>by rw[aE (cG q hp1 (by intro z;cases z))];exact q,λc φ q=>by rw[aE (cG q hp1 (by intro z;cases z))];exact q,λc φ q=>by rw[aE (cG q hp1 (by intro z;cases z))];exact q⟩
   obtain⟨so2,k2⟩:=so.updW (x':=.d (.lst (xss.map .lst))) (v':=.ref p) e h1 (H':=upd H1 p (.frz o (.lst (as.map V.ref))))
    (λb o h w=>by
     rw[aE (by rintro rfl;exact w ⟨_,_,rfl,hp,.inl rfl⟩)]
     exact e4 b o h λm=>w ⟨p,_,rfl,hp,.inr (List.mem_map_of_mem m)⟩)
    (.lst (vs:=as.map V.ref) (.inl ⟨o,aQ⟩) (by have z:=e3.keep kp;rw[<-ea] at z;exact z)) λa o=>o.elim
   rw[cT h1] at so2
   exact⟨_,I2,so2,k2⟩
  | true =>
   obtain⟨p,kws,as,ev,hp,t⟩:=id h2
   subst ev
   obtain⟨H1,vs,I1,e1,e2,e3,k1,e4⟩:=eU _ I t
   rw[emap] at e3
   have ea:as.map V.ref=vs:=by rw[<-t.refs,e1];exact kG (by rw[List.length_map];simpa using e2)
   obtain⟨so2,k2⟩:=so.updW (x':=.d (.tup (xss.map .lst))) (v':=.ref p) e h1 (H':=H1)
    (λb o h w=>e4 b o h λm=>w ⟨p,_,rfl,hp,List.mem_map_of_mem m⟩)
    (.tup (vs:=as.map V.ref) (k1.tups _ _ hp) (by have z:=e3;rw[<-ea] at z;exact z)) λa o=>o.elim
   rw[cT h1] at so2
   exact⟨_,I1,so2,k2⟩
end
structure Sz (n:Nat):Prop where
 ok:n<=sizeLine
noncomputable abbrev RE:=En->(D->Prop)->Prop
noncomputable abbrev RT:=En->(Bool->Prop)->Prop
noncomputable abbrev RA:=En->(List D->Prop)->Prop
structure DEnds where
 nx:En->Prop
 rt:D->Prop
 bk:En->Prop:=λ_=>False
 ct:En->Prop:=λ_=>False
noncomputable abbrev RS:=DEnds->En->Prop
noncomputable abbrev RG:=D->En->(En->Prop)->Prop
noncomputable def DD (X:Cx) (t:RE):TE:=λσ H Q=>∃ρ P,StOk X ρ σ H/\t ρ P/\∀d v H',P d->Same H H'->Rep X.K H' d v->Q v H'
noncomputable def DC (X:Cx) (t:RE):TE:=λσ H Q=>∃ρ P,StOk X ρ σ H/\t ρ P/\∀d v H',P d->Same H H'->RepB X.K H' d v->Q v H'
noncomputable def MJ (X:Cx) (t:RA):TE:=λσ H Q=>∃ρ P,StOk X ρ σ H/\t ρ P/\∀ds p vs H1,P ds->Same H H1->H1 p=none->Reps X.K H1 ds vs->Q (.ref p) (upd H1 p (.lst vs))
noncomputable def IY (X:Cx) (t:RT):TT:=λσ H Q=>∃ρ P,StOk X ρ σ H/\t ρ P/\∀b H',P b->Same H H'->Q b H'
noncomputable def MG (X:Cx) (t:RA):TA:=λσ H Q=>∃ρ P,StOk X ρ σ H/\t ρ P/\∀ds vs H',P ds->Same H H'->Reps X.K H' ds vs->Q vs H'
noncomputable def IX (X:Cx) (t:RS):TS:=λDe σ H=>∃ρ E,StOk X ρ σ H/\t E ρ/\(∀ρ' σ' H',E.nx ρ'->Keep H H'->StOk X ρ' σ' H'->De.nx σ' H')/\(∀d v H',E.rt d->Keep H H'->Same X.H₀ H'->Rep X.K H' d v->De.rt v H') /\
 (∀ρ' σ' H',E.bk ρ'->Keep H H'->StOk X ρ' σ' H'->De.bk σ' H')/\∀ρ' σ' H',E.ct ρ'->Keep H H'->StOk X ρ' σ' H'->De.ct σ' H'
noncomputable def MH (X:Cx) (g:RG):TG:=λv σ H Q=>∃d ρ P,Rep X.K H d v/\StOk X ρ σ H/\g d ρ P/\∀ρ' σ' H',P ρ'->Keep H H'->StOk X ρ' σ' H'->Q σ' H'
theorem bI {α β:Type} {A B C:α->β->Prop} {R:Prop} (h:∃ρ P,A ρ P/\B ρ P/\C ρ P) (k:∀ρ P,A ρ P->B ρ P->C ρ P->R):R:=let ⟨ρ,P,a,b,c⟩:=h;k ρ P a b c
theorem rX {α β γ:Type} {A B C E:γ->α->β->Prop} {R:Prop} (h:∃d ρ P,A d ρ P/\B d ρ P/\C d ρ P/\E d ρ P) (k:∀d ρ P,A d ρ P->B d ρ P->C d ρ P->E d ρ P->R):R:=let ⟨d,ρ,P,a,b,c,e⟩:=h;k d ρ P a b c e
theorem dF {α β:Type} {A B C E F G:α->β->Prop} {R:Prop} (h:∃ρ P,A ρ P/\B ρ P/\C ρ P/\E ρ P/\F ρ P/\G ρ P) (k:∀ρ P,A ρ P->B ρ P->C ρ P->E ρ P->F ρ P->G ρ P->R):R:=let ⟨ρ,P,a,b,c,e,f,g⟩:=h;k ρ P a b c e f g
noncomputable def DE (X:Cx) (e:Expr) (t:RE):Prop:=PE X e (DD X t)
noncomputable def DB (X:Cx) (e:Expr) (t:RE):Prop:=PE X e (DC X t)
noncomputable def DO (X:Cx) (e:Expr) (t:RA):Prop:=PE X e (MJ X t)
noncomputable def DT (X:Cx) (e:Expr) (t:RT):Prop:=PT X e (IY X t)
noncomputable def DW (X:Cx) (e:Expr) (t:RT):Prop:=PW X e (IY X t)
noncomputable def DA (X:Cx) (es:List Expr) (t:RA):Prop:=PA X es (MG X t)
noncomputable def DS (X:Cx) (st:Stmt) (t:RS):Prop:=PS X st (IX X t)
noncomputable def DSs (X:Cx) (sts:List Stmt) (t:RS):Prop:=PSs X sts (IX X t)
noncomputable def DG (X:Cx) (tg:Expr) (g:RG):Prop:=PG X tg (MH X g)
theorem PE.mono {X:Cx} {e:Expr} {t t':TE} (h:PE X e t) (m:∀σ H Q,t' σ H Q->t σ H Q):PE X e t':=λpins s σ H Q I q=>h pins s σ H Q I (m σ H Q q)
theorem PT.mono {X:Cx} {e:Expr} {t t':TT} (h:PT X e t) (m:∀σ H Q,t' σ H Q->t σ H Q):PT X e t':=λpins s σ H Q I q=>h pins s σ H Q I (m σ H Q q)
theorem PW.mono {X:Cx} {e:Expr} {t t':TT} (h:PW X e t) (m:∀σ H Q,t' σ H Q->t σ H Q):PW X e t':=λwh pins s σ H Q I q=>h wh pins s σ H Q I (m σ H Q q)
theorem PA.mono {X:Cx} {e:List Expr} {t t':TA} (h:PA X e t) (m:∀σ H Q,t' σ H Q->t σ H Q):PA X e t':=λpos pins s σ H Q I q=>h pos pins s σ H Q I (m σ H Q q)
theorem PS.mono {X:Cx} {e:Stmt} {t t':TS} (h:PS X e t) (m:∀D σ H,t' D σ H->t D σ H):PS X e t':=λpins s σ H D I q=>h pins s σ H D I (m D σ H q)
theorem PSs.mono {X:Cx} {e:List Stmt} {t t':TS} (h:PSs X e t) (m:∀D σ H,t' D σ H->t D σ H):PSs X e t':=λpins s σ H D I q=>h pins s σ H D I (m D σ H q)
theorem PG.mono {X:Cx} {e:Expr} {t t':TG} (h:PG X e t) (m:∀v σ H Q,t' v σ H Q->t v σ H Q):PG X e t':=λpins s σ H v u Q I r q=>h pins s σ H v u Q I r (m v σ H Q q)
section
variable {X:Cx} {e a b c:Expr} {pos:Pos}
theorem DE.bor {t:RE} (h:DE X e t):DB X e t:=PE.mono h λσ H Q hh=>bI hh λρ P st q k=>⟨ρ,P,st,q,λd v H' p s r=>k d v H' p s (.inl r)⟩
theorem DO.val {t:RA} (h:DO X e t):DE X e (λρ Q=>t ρ λds=>Q (.lst ds)):=by
 intro pins s σ H Q I hh_0
 obtain⟨ρ,P,st,q,k⟩:=hh_0
 refine thn (h pins s σ H (λv H'=>∃ds p vs H1,v = .ref p/\H'=upd H1 p (.lst vs)/\P (.lst ds)/\Same H H1/\H1 p=none/\Reps X.K H1 ds vs) I ⟨ρ,_,st,q,λds p vs H1 hp s1 hn r=>⟨ds,p,vs,H1,rfl,rfl,hp,s1,hn,r⟩⟩) λu s1 ⟨v,H',I',rv,ds,p,vs,H1,ev,eH,hp,sm,hn,r⟩=>?_
 subst ev eH
 obtain⟨o,I2⟩:=Inv.freeze I' (a:=p) (xs:=vs) aQ
 have sm2:Same H1 (upd (upd H1 p (.lst vs)) p (.frz o (.lst vs))):=λb u e=>by rw[aE (aH e hn),aE (aH e hn)];exact e
 exact⟨.ref p,_,I2,rv,k (.lst ds) (.ref p) _ hp (sm.trans sm2) (.lst (.inl ⟨o,aQ⟩) (r.keep (.of sm2)))⟩
theorem DO.bor {t:RA} (h:DO X e t):DB X e (λρ Q=>t ρ λds=>Q (.lst ds)):=h.val.bor
noncomputable def aK (i:Nat):RE:=λρ Q=>match ρ[i]? with
 | some (some (.d d))=>Q d
 | _=>False
noncomputable def aD (i:Nat):RE:=λρ Q=>match ρ[i]? with
 | some (some (.d d))=>Q d
 | some (some (.own xs))=>Q (.lst xs)
 | _=>False
theorem dv (i:Nat) {x:Str} (hN:X.N[i]? = some x:=by rfl) (hv:Vis X.env.scope x:=by walk_at "vis") (hd:(x == ("__debug__":Str))=false:=by decide)
  (hcd:(x == ("__classdict__":Str))=false:=by decide):DE X (.Name x pos) (aK i):=by
 refine PE.mono (pv i hN hv hd hcd) λσ H Q hh=>bI hh λρ P st q k=>?_
 unfold aK at q
 split at q
 ·rename_i d e
  obtain⟨v,h1,h2⟩:=st.rel i _ e
  exact⟨v,h1,k d v H q (Same.refl H) h2⟩
 ·exact q.elim
theorem dvb (i:Nat) {x:Str} (hN:X.N[i]? = some x:=by rfl) (hv:Vis X.env.scope x:=by walk_at "vis") (hd:(x == ("__debug__":Str))=false:=by decide)
  (hcd:(x == ("__classdict__":Str))=false:=by decide):DB X (.Name x pos) (aD i):=by
 refine PE.mono (pv i hN hv hd hcd) λσ H Q hh=>bI hh λρ P st q k=>?_
 unfold aD at q
 split at q
 ·rename_i d e
  obtain⟨v,h1,h2⟩:=st.rel i _ e
  exact⟨v,h1,k _ v H q (Same.refl H) (.inl h2)⟩
 ·rename_i xs e
  obtain⟨v,h1,h2⟩:=st.rel i _ e
  obtain⟨a,vs,e1,e2,_,r⟩:=h2
  exact⟨v,h1,k _ v H q (Same.refl H) (.inr ⟨xs,a,vs,rfl,e1,e2,r⟩)⟩
 ·exact q.elim
noncomputable def rC (d:D):RE:=λ_ Q=>Q d
theorem aF {i:Int} {j:Nat}:DE X (.Constant (.int i) j pos) (rC (.int i)):=PE.mono wG λσ H Q hh=>bI hh λρ P st q k=>k _ _ H q (Same.refl H) (.int i)
theorem xU {i:Bool} {j:Nat}:DE X (.Constant (.bool i) j pos) (rC (.bl i)):=PE.mono MQ λσ H Q hh=>bI hh λρ P st q k=>k _ _ H q (Same.refl H) (.bl i)
theorem vQ {j:Nat}:DE X (.Constant .none j pos) (rC .non):=PE.mono DV λσ H Q hh=>bI hh λρ P st q k=>k _ _ H q (Same.refl H) .non
noncomputable abbrev R22:=D->D->(D->Prop)->Prop
noncomputable def IW (X:Cx) (r:R22):R2:=λx y H Q=>∃d e P,RepB X.K H d x/\RepB X.K H e y/\r d e P/\∀z v H',P z->Same H H'->Rep X.K H' z v->Q v H'
noncomputable def OpD (X:Cx) (f:Value->Value->Sem Value) (r:R22):Prop:=OpR X f (IW X r)
noncomputable def r2 (r:R22) (ta tb:RE):RE:=λρ Q=>ta ρ λx=>tb ρ λy=>r x y Q
variable {ta tb tc:RE}
theorem CZ {r:R22} {σ:St} {H:Hp} {Q:VK} (h:DD X (r2 r ta tb) σ H Q):tOp (IW X r) (DC X ta) (DC X tb) σ H Q:=by
 obtain⟨ρ,P,st,ht,hP⟩:=h
 exact⟨ρ,_,st,ht,λx v H1 h1 s1 r1=>⟨ρ,_,st.ext s1,h1,λy u H2 h2 s2 r2=>⟨x,y,P,r1.same s2,r2,h2,λz w H' hz s3 r3=>hP z w H' hz ((s1.trans s2).trans s3) r3⟩⟩⟩
theorem aS {op:Operator} {r:R22} (ho:OpD X (binaryOp op) r) (ha:DB X a ta) (hb:DB X b tb):DE X (.BinOp a op b pos) (r2 r ta tb):=PE.mono (MS ho ha hb) λσ H Q h=>CZ h
theorem vO {op:CmpOp} {r:R22} (ho:OpD X (compareOp op) r) (ha:DB X a ta) (hb:DB X b tb) (hm:behindInMarks op b=false:=by exact DH _):DE X (.Compare a [op] [b] pos) (r2 r ta tb):=PE.mono (HF ho ha hb hm) λσ H Q h=>CZ h
noncomputable def bH (t:RE):RT:=λρ Q=>t ρ λd=>match d with
 | .bl k=>Q k
 | _=>False
theorem cE {op:CmpOp} {r:R22} (ho:OpD X (compareOp op) r) (ha:DB X a ta) (hb:DB X b tb) (hm:behindInMarks op b=false:=by exact DH _):DT X (.Compare a [op] [b] pos) (bH (r2 r ta tb)):=by
 refine PT.mono (HL ho ha hb hm) λσ H Q hh=>bI hh λρ P st q k=>?_
 refine CZ (Q:=λx H'=>∃k,x = .bl k/\Q k H') ⟨ρ,_,st,q,λd v H' hd s r=>?_⟩
 cases d with
 | bl b=>exact⟨b,r.bl_inv,k b H' hd s⟩
 | _=>exact hd.elim
theorem rV (h:DE X e ta) (he:∀whole,isTrue e X.env whole=(do let v <-whole;standAt e.pos;holding [v] (truthy v)):=by intro _;rfl):DT X e (bH ta):=by
 refine PT.mono (LB h he) λσ H Q hh=>bI hh λρ P st q k=>?_
 refine⟨ρ,_,st,q,λd v H' hd s r=>?_⟩
 cases d with
 | bl b=>exact⟨b,r.bl_inv,k b H' hd s⟩
 | _=>exact hd.elim
noncomputable def sP (t u:RT):RT:=λρ Q=>t ρ λc=>if c=true then u ρ Q else Q false
noncomputable def rOr (t u:RT):RT:=λρ Q=>t ρ λc=>if c=true then Q true else u ρ Q
noncomputable def uP (t:RT):RT:=λρ Q=>t ρ λc=>Q (!c)
variable {tA tB:RT} {rest:List Expr}
theorem yC (ha:DT X a tA):DW X (.BoolOp .And [a] pos) tA:=HM ha
theorem CC (ha:DT X a tA):DW X (.BoolOp .Or [a] pos) tA:=LD ha
theorem CB (ha:DT X a tA) (hb:DW X (.BoolOp .And (b::rest) pos) tB):DW X (.BoolOp .And (a::b::rest) pos) (sP tA tB) :=
 PW.mono (LC ha hb) λσ H Q hh=>bI hh λρ P st q k=>⟨ρ,_,st,q,λc H1 hc s1=>by
  cases c with
  | true=>rw[if_pos rfl] at hc ⊢;exact⟨ρ,P,st.ext s1,hc,λd H2 hd s2=>k d H2 hd (s1.trans s2)⟩
  | false=>rw[if_neg Bool.false_ne_true] at hc ⊢;exact k false H1 hc s1⟩
theorem IR (ha:DT X a tA) (hb:DW X (.BoolOp .Or (b::rest) pos) tB):DW X (.BoolOp .Or (a::b::rest) pos) (rOr tA tB) :=
 PW.mono (MV ha hb) λσ H Q hh=>bI hh λρ P st q k=>⟨ρ,_,st,q,λc H1 hc s1=>by
  cases c with
  | false=>rw[if_neg Bool.false_ne_true] at hc ⊢;exact⟨ρ,P,st.ext s1,hc,λd H2 hd s2=>k d H2 hd (s1.trans s2)⟩
  | true=>rw[if_pos rfl] at hc ⊢;exact k true H1 hc s1⟩
theorem DW.tst (h:DW X e tA):DT X e tA:=PW.pt h
theorem CA (ha:DT X a tA):DT X (.UnaryOp .Not a pos) (uP tA):=PT.mono (LA ha) λσ H Q hh=>bI hh λρ P st q k=>⟨ρ,_,st,q,λc H1 hc s1=>k _ H1 hc s1⟩
noncomputable def jU (ta tb:RE):RE:=λρ Q=>ta ρ λd=>match d with
 | .bl k=>if k=true then tb ρ Q else Q (.bl false)
 | _=>False
noncomputable def HP (ta tb:RE):RE:=λρ Q=>ta ρ λd=>match d with
 | .bl k=>if k=true then Q (.bl true) else tb ρ Q
 | _=>False
noncomputable def qV (ta:RE):RE:=λρ Q=>ta ρ λd=>match d with
 | .bl k=>Q (.bl (!k))
 | _=>False
theorem vR {op} (h:DE X a ta):DE X (.BoolOp op [a] pos) ta:=KR h
theorem rM (ha:DE X a ta) (hb:DE X (.BoolOp .And (b::rest) pos) tb):DE X (.BoolOp .And (a::b::rest) pos) (jU ta tb) :=
 PE.mono (KP ha hb) λσ H Q hh=>bI hh λρ P st q k=>⟨ρ,_,st,q,λd v H1 hd s1 r=>by
  cases d with
  | bl c =>
   refine⟨c,r.bl_inv,?_⟩
   cases c with
   | true=>exact⟨ρ,P,st.ext s1,hd,λd v H2 hd s2=>k d v H2 hd (s1.trans s2)⟩
   | false=>exact k (.bl false) (.bl false) H1 hd s1 (.bl false)
  | _=>exact hd.elim⟩
theorem JO (ha:DE X a ta):DE X (.UnaryOp .Not a pos) (qV ta) :=
 PE.mono (KQ ha) λσ H Q hh=>bI hh λρ P st q k=>⟨ρ,_,st,q,λd v H1 hd s1 r=>by
  cases d with
  | bl c=>exact⟨c,r.bl_inv,k (.bl !c) (.bl !c) H1 hd s1 (.bl _)⟩
  | _=>exact hd.elim⟩
noncomputable def rIf (t:RT) (ta tb:RE):RE:=λρ Q=>t ρ λc=>if c=true then ta ρ Q else tb ρ Q
noncomputable def ML (X:Cx) (r:D->(D->Prop)->Prop):V->Hp->VK->Prop:=λx H Q=>∃d P,RepB X.K H d x/\r d P/\∀z v H',P z->Same H H'->Rep X.K H' z v->Q v H'
noncomputable def UnD (X:Cx) (f:Value->Sem Value) (r:D->(D->Prop)->Prop):Prop:=UnR X f (ML X r)
noncomputable def r1 (r:D->(D->Prop)->Prop) (ta:RE):RE:=λρ Q=>ta ρ λx=>r x Q
theorem LY {op:UnaryOp} {r:D->(D->Prop)->Prop} (ho:UnD X (unaryOp op) r) (ha:DB X a ta):DE X (.UnaryOp op a pos) (r1 r ta) :=
 PE.mono (MT ho ha) λσ H Q hh=>bI hh λρ P st q k=>⟨ρ,_,st,q,λd v H1 hd s1 rr=>⟨d,P,rr,hd,λz v H2 hz s2 r2=>k z v H2 hz (s1.trans s2) r2⟩⟩
noncomputable def aJ:RA:=λ_ Q=>Q []
noncomputable def aB (t:RE) (u:RA):RA:=λρ Q=>t ρ λx=>u ρ λxs=>Q (x::xs)
variable {es:List Expr} {t:RA}
theorem aM:DA X [] aJ:=PA.mono gA λσ H Q hh=>bI hh λρ P st q k=>k [] [] H q (Same.refl H) .nil
theorem aC (ha:DE X e ta) (hr:DA X es t) (hs:starEach (e::es) X.env=(false,eval e X.env)::starEach es X.env:=by rfl):DA X (e::es) (aB ta t) :=
 PA.mono (bW ha hr hs) λσ H Q hh=>bI hh λρ P st q k=>⟨ρ,_,st,q,λd v H1 hd s1 r1=>⟨ρ,_,st.ext s1,hd,λds vs H2 hds s2 r2=>k (d::ds) (v::vs) H2 hds (s1.trans s2) (.cons (r1.keep (.of s2)) r2)⟩⟩
noncomputable def jO (t:RA):RE:=λρ Q=>t ρ λds=>Sz ds.length/\Q (.tup ds)
theorem iJ {x1} (h:DA X es t):DE X (.Tuple es x1 pos) (jO t) :=
 PE.mono (DZ h) λσ H Q hh=>bI hh λρ P st q k=>⟨ρ,_,st,q,λds vs H1 hd s1 r=>⟨by rw[<-r.length];exact hd.1.ok,λp hp=>k (.tup ds) (.ref p) _ hd.2 (Same.upd_new s1 (s1.free hp)) (by
  have sm:Same H1 (upd H1 p (.tup vs)):=λb u e=>by rw[aE (aH e hp)];exact e
  exact .tup aQ (r.keep (.of sm)))⟩⟩
noncomputable def gQ (t:RA):RA:=λρ Q=>t ρ λds=>Sz ds.length/\Q ds
theorem fB (h:DA X es t):DO X (.List es pos) (gQ t) :=
 PE.mono (DU h) λσ H Q hh=>bI hh λρ P st q k=>⟨ρ,_,st,q,λds vs H1 hd s1 r=>⟨by rw[<-r.length];exact hd.1.ok,λp hp=>k ds p vs H1 hd.2 s1 hp r⟩⟩
end
section
variable {X:Cx} {e a b c:Expr} {pos:Pos} {st:Stmt} {rest:List Stmt} {t u:RS} {te:RE} {tA:RT}
noncomputable def aX (t u:RS):RS:=λE ρ=>t { E with nx:=u E } ρ
noncomputable def bM:RS:=λE ρ=>E.nx ρ
theorem bQ:DSs X [] bM:=PSs.mono HK λDe σ H hh=>dF hh λρ E st q n r b c=>n ρ σ H q (Keep.refl H) st
theorem aI (h:DS X st t):DSs X [st] t:=nQ h
theorem aG (h1:DS X st t) (h2:DSs X rest u):DSs X (st::rest) (aX t u) :=
 PSs.mono (uL h1 h2) λDe σ H hh=>dF hh λρ E st q n r b c=>⟨ρ,_,st,q,λρ' σ' H' h k s=>⟨ρ',E,s,h,λρ2 σ2 H2 x k2=>n ρ2 σ2 H2 x (k.trans k2),λd v H2 x k2=>r d v H2 x (k.trans k2),λρ2 σ2 H2 x k2=>b ρ2 σ2 H2 x (k.trans k2),λρ2 σ2 H2 x k2=>c ρ2 σ2 H2 x (k.trans k2)⟩,r,b,c⟩
theorem BX:DS X st (λ_ _=>False):=PS.mono ED λDe σ H ⟨ρ,E,st,q,_⟩=>q
noncomputable def bP (te:RE):RS:=λE ρ=>te ρ E.rt
theorem bD (h:DE X e te):DS X (.Return (some e) pos) (bP te) :=
 PS.mono (EF h) λDe σ H hh=>dF hh λρ E st q n r b c=>⟨ρ,_,st,q,λd v H1 hd s1 rr=>r d v H1 hd (.of s1) (st.same.trans s1) rr⟩
noncomputable def yS (te:RE):RS:=λE ρ=>te ρ λ_=>E.nx ρ
noncomputable def dB (c:RT) (t u:RS):RS:=λE ρ=>c ρ λk=>if k=true then t E ρ else u E ρ
theorem eF {sa sb:List Stmt} (hc:DT X c tA) (ha:DSs X sa t) (hb:DSs X sb u):DS X (.If c sa sb pos) (dB tA t u) :=
 PS.mono (MU hc ha hb) λDe σ H hh=>dF hh λρ E st q n r b c=>⟨ρ,_,st,q,λk H1 hk s1=>by
  cases k with
  | true=>rw[if_pos rfl] at hk ⊢;exact⟨ρ,E,st.ext s1,hk,λρ2 σ2 H2 x k2=>n ρ2 σ2 H2 x ((Keep.of s1).trans k2),λd v H2 x k2=>r d v H2 x ((Keep.of s1).trans k2),λρ2 σ2 H2 x k2=>b ρ2 σ2 H2 x ((Keep.of s1).trans k2),λρ2 σ2 H2 x k2=>c ρ2 σ2 H2 x ((Keep.of s1).trans k2)⟩
  | false=>rw[if_neg Bool.false_ne_true] at hk ⊢;exact⟨ρ,E,st.ext s1,hk,λρ2 σ2 H2 x k2=>n ρ2 σ2 H2 x ((Keep.of s1).trans k2),λd v H2 x k2=>r d v H2 x ((Keep.of s1).trans k2),λρ2 σ2 H2 x k2=>b ρ2 σ2 H2 x ((Keep.of s1).trans k2),λρ2 σ2 H2 x k2=>c ρ2 σ2 H2 x ((Keep.of s1).trans k2)⟩⟩
noncomputable def aP (i:Nat):RG:=λd ρ Q=>Q (ρ.set i (some (.d d)))
theorem aZ {i:Nat} {x:Str} (hN:X.N.Nodup) (hi:X.N[i]? = some x:=by rfl) (hx:Loc X.env.scope x:=by walk_at "vis") (hf:X.fn x=true\/X.env.scope.names.lookup x=some .local:=by walk_at "loc"):DG X (.Name x pos) (aP i) :=
 PG.mono (HH hN hi hx hf) λv σ H Q hh=>rX hh λd ρ P r st q k=>k _ _ H q (Keep.refl H) (st.set_d r)
noncomputable abbrev RGs:=List D->En->(En->Prop)->Prop
noncomputable def KE (X:Cx) (g:RGs):TGs:=λvs σ H Q=>∃ds ρ P,Reps X.K H ds vs/\StOk X ρ σ H/\g ds ρ P/\∀ρ' σ' H',P ρ'->Keep H H'->StOk X ρ' σ' H'->Q σ' H'
noncomputable def DGs (X:Cx) (ts:List Expr) (g:RGs):Prop:=PGs X ts (KE X g)
theorem PGs.mono {X:Cx} {e:List Expr} {t t':TGs} (h:PGs X e t) (m:∀v σ H Q,t' v σ H Q->t v σ H Q):PGs X e t':=λpins s σ H v u Q I r q=>h pins s σ H v u Q I r (m v σ H Q q)
noncomputable def gY:RGs:=λds ρ Q=>match ds with
 | []=>Q ρ
 | _=>False
noncomputable def cL (g:RG) (u:RGs):RGs:=λds ρ Q=>match ds with
 | []=>False
 | d::r=>g d ρ λρ'=>u r ρ' Q
theorem nO:DGs X [] gY:=PGs.mono HI λvs σ H Q hh=>rX hh λds ρ P r st q k=>by
 cases r with
 | nil=>exact⟨rfl,k ρ σ H q (Keep.refl H) st⟩
 | cons _ _=>exact q.elim
theorem eE {es:List Expr} {g:RG} {u:RGs} (h1:DG X e g) (h2:DGs X es u) (hs:(assignEach (e::es) X.env).map (·.2)=assign e X.env::(assignEach es X.env).map (·.2):=by rfl):DGs X (e::es) (cL g u) :=
 PGs.mono (EA h1 h2 hs) λvs σ H Q hh=>rX hh λds ρ P r st q k=>by
  cases r with
  | nil=>exact q.elim
  | cons r rs =>
   refine⟨_,_,rfl,_,ρ,_,r,st,q,λρ' σ' H' hq k1 st1=>⟨_,ρ',P,rs.keep k1,st1,hq,λρ2 σ2 H2 p k2 s2=>k ρ2 σ2 H2 p (k1.trans k2) s2⟩⟩
noncomputable def gZ (n:Nat) (g:RGs):RG:=λd ρ Q=>match d with
 | .tup ds=>ds.length=n/\g ds ρ Q
 | _=>False
theorem rN {es:List Expr} {k:Nat} {g:RGs} {n:Nat} (hc:X.calm=true) (h:DGs X es g) (hn:(assignEach es X.env).length=n:=by rfl) (hst:(assignEach es X.env).findIdx? (·.1)=none:=by rfl):DG X (.Tuple es k pos) (gZ n g) :=
 PG.mono (KU hc h hn hst) λv σ H Q hh=>rX hh λd ρ P r st q kk=>by
  cases d with
  | tup ds =>
   cases r with
   | tup h r=>exact⟨_,_,rfl,SqT.of h,by rw[<-r.length];exact q.1,ds,ρ,P,r,st,q.2,kk⟩
  | _=>exact q.elim
noncomputable def HN (te:RE) (g:RG):RS:=λE ρ=>te ρ λd=>g d ρ E.nx
noncomputable def bR (i:Nat) (te:RE):RS:=λE ρ=>te ρ λd=>E.nx (ρ.set i (some (.d d)))
theorem bG {i:Nat} {x:Str} {pos':Pos} (hN:X.N.Nodup) (he:DE X e te) (hi:X.N[i]? = some x:=by rfl) (hx:Loc X.env.scope x:=by walk_at "vis") (hs:swapsWith e (some (.Name x pos')) pos.line X.env=pure false:=by rfl)
  (hf:X.fn x=true\/X.env.scope.names.lookup x=some .local:=by walk_at "loc"):DS X (.Assign [.Name x pos'] e pos) (bR i te) :=
 PS.mono (mD hN hi hx he hs hf) λDe σ H hh=>dF hh λρ E st q n r b c=>⟨ρ,_,st,q,λd v H1 hd s1 rr=>n _ _ H1 hd (.of s1) ((st.ext s1).set_d rr)⟩
noncomputable def cY (i:Nat) (t:RA):RS:=λE ρ=>t ρ λds=>E.nx (ρ.set i (some (.own ds)))
theorem fQ {i:Nat} {x:Str} {pos':Pos} {t:RA} (hN:X.N.Nodup) (he:DO X e t) (hi:X.N[i]? = some x:=by rfl) (hx:Loc X.env.scope x:=by walk_at "vis") (hs:swapsWith e (some (.Name x pos')) pos.line X.env=pure false:=by rfl)
  (hf:X.fn x=true\/X.env.scope.names.lookup x=some .local:=by walk_at "loc"):DS X (.Assign [.Name x pos'] e pos) (cY i t) :=
 PS.mono (mD hN hi hx he hs hf) λDe σ H hh=>dF hh λρ E st q n r b c=>⟨ρ,_,st,q,λds p vs H1 hd s1 hp rr=>n _ _ _ hd ((Keep.of s1).trans (.of λb o h=>by rw[aE (aH h hp)];exact h)) ((st.ext s1).set_own hp rr)⟩
noncomputable def HQ (i j:Nat) (t:RA):RS:=λE ρ=>t ρ λds=>match ds with
 | [x,y]=>E.nx ((ρ.set i (some (.d x))).set j (some (.d y)))
 | _=>False
noncomputable def dA (i:Nat) (ρ:En):En:=match ρ[i]? with
 | some (some x)=>ρ.set i (some x.fz)
 | _=>ρ
theorem gU (i:Nat) (h:DS X st t):DS X st (λE ρ=>t E (dA i ρ)):=by
 intro pins s σ H De I ⟨ρ,E,so,q,n,r,b,c⟩
 have q:t E (dA i ρ):=q
 unfold dA at q
 split at q
 ·rename_i x e
  obtain⟨H2,I2,so2,kp⟩:=so.fz I e
  exact h pins s σ _ De I2 ⟨_,E,so2,q,λρ2 σ2 H2 x k2=>n ρ2 σ2 H2 x (kp.trans k2),λd v H2 x k2=>r d v H2 x (kp.trans k2),λρ2 σ2 H2 x k2=>b ρ2 σ2 H2 x (kp.trans k2),λρ2 σ2 H2 x k2=>c ρ2 σ2 H2 x (kp.trans k2)⟩
 ·exact h pins s σ H De I ⟨ρ,E,so,q,n,r,b,c⟩
noncomputable def kR (c:RT) (t:RS):Nat->RS
 | 0,_,_=>False
 | n+1,E,ρ=>c ρ λk=>if k=true then t { E with nx:=kR c t n E,ct:=kR c t n E,bk:=E.nx } ρ else E.nx ρ
noncomputable def wU (c:RT) (t:RS):RS:=λE ρ=>∃n,kR c t n E ρ
theorem BZ {body:List Stmt} (hp:PassesOwn (model X.prog X.w) X.A X.env X.xe) (hc:DT X c tA) (hb:DSs X body t):DS X (.While c body [] pos) (wU tA t) :=
 PS.mono (EG hp hc hb) λDe σ H hh=>dF hh λρ E st mq n r b c=>by
  obtain⟨m,q⟩:=mq
  refine⟨λm σ' H'=>∃ρ',StOk X ρ' σ' H'/\Keep H H'/\kR tA t m E ρ',⟨m,ρ,st,Keep.refl H,q⟩,?_⟩
  rintro m σ' H' ⟨ρ',st',kp,hw⟩
  cases m with
  | zero=>exact hw.elim
  | succ m =>
   refine⟨ρ',_,st',hw,λk H1 hk s1=>?_⟩
   have kp1:=kp.trans (.of s1)
   cases k with
   | true =>
    dsimp only at hk ⊢
    rw[if_pos rfl] at hk ⊢
    refine⟨λσ2 H2=>∃ρ2,StOk X ρ2 σ2 H2/\Keep H H2/\kR tA t m E ρ2,λσ2 H2 ⟨ρ2,a1,a2,a3⟩=>⟨m,Nat.lt_succ_self m,ρ2,a1,a2,a3⟩,?_⟩
    exact⟨ρ',_,st'.ext s1,hk,λρ2 σ2 H2 x k2 s2=>⟨ρ2,s2,kp1.trans k2,x⟩,λd v H2 x k2=>r d v H2 x (kp1.trans k2),λρ2 σ2 H2 x k2=>n ρ2 σ2 H2 x (kp1.trans k2),λρ2 σ2 H2 x k2 s2=>⟨ρ2,s2,kp1.trans k2,x⟩⟩
   | false =>
    dsimp only at hk ⊢
    rw[if_neg Bool.false_ne_true] at hk ⊢
    exact n ρ' σ' H1 hk kp1 (st'.ext s1)
noncomputable def AV (X:Cx) (J:It) (xs:List D) (H0:Hp):Prop:=∀i H,Keep H0 H ->
 (∀d,xs[i]? = some d->J.go i H/\∀x H',J.yld i H x H'->Same H H'/\Rep X.K H' d x)/\(xs.length<=i->J.stop i H)
noncomputable def MI (X:Cx) (t:RA):TI:=λσ H R=>∃ρ P,StOk X ρ σ H/\t ρ P/\∀xs J H',P xs->Same H H'->AV X J xs H'->R J H'
noncomputable def DI (X:Cx) (tg iter:Expr) (t:RA):Prop:=PI X tg iter (MI X t)
theorem PI.mono {X:Cx} {tg e:Expr} {t t':TI} (h:PI X tg e t) (m:∀σ H Q,t' σ H Q->t σ H Q):PI X tg e t':=λpins s σ H Q I q=>h pins s σ H Q I (m σ H Q q)
noncomputable def tS (g:RG) (t:RS):List D->RS
 | [],E,ρ=>E.nx ρ
 | x::xs,E,ρ=>g x ρ λρ1=>t { E with nx:=tS g t xs E,ct:=tS g t xs E,bk:=E.nx } ρ1
noncomputable def cD (ti:RA) (g:RG) (t:RS):RS:=λE ρ=>ti ρ λxs=>tS g t xs E ρ
theorem cP {tg iter:Expr} {body:List Stmt} {ti:RA} {g:RG} (hp:PassesOwn (model X.prog X.w) X.A X.env X.xe) (hc:X.calm=true) (hi:DI X tg iter ti) (hg:DG X tg g) (hb:DSs X body t)
  (hs:∀x,foldedSetIterable iter X.env x=pure x:=by intro _;rfl):DS X (.For tg iter body [] pos) (cD ti g t) :=
 PS.mono (KZ hp hc hi hg hb hs) λDe σ H hh=>dF hh λρ E st q n r b c=>by
  refine⟨ρ,_,st,q,λxs J H1 hx s1 ok=>?_⟩
  refine⟨λi m σ' H'=>m=xs.length-i/\i<=xs.length/\∃ρ',StOk X ρ' σ' H'/\Keep H1 H'/\tS g t (xs.drop i) E ρ',⟨xs.length,by simp,Nat.zero_le _,ρ,st.ext s1,Keep.refl H1,by simpa using hx⟩,?_⟩
  rintro i m σ' H' ⟨rfl,hi,ρ',st',kp,hf⟩
  obtain⟨o1,o2⟩:=ok i H' kp
  have kp1:Keep H H':=(Keep.of s1).trans kp
  by_cases hlt:i<xs.length
  ·have e:xs.drop i=xs[i]::xs.drop (i+1):=List.drop_eq_getElem_cons hlt
   rw[e] at hf
   obtain⟨go,yl⟩:=o1 xs[i] (List.getElem?_eq_getElem hlt)
   refine .inr ⟨go,λσ2 H2=>∃ρ2,StOk X ρ2 σ2 H2/\Keep H1 H2/\tS g t (xs.drop (i+1)) E ρ2,λσ2 H2 hh=>⟨xs.length-(i+1),by omega,rfl,hlt,hh⟩,λx H2 y=>?_⟩
   obtain⟨s2,rx⟩:=yl x H2 y
   refine⟨xs[i],ρ',_,rx,st'.ext s2,hf,λρ3 σ3 H3 h3 k3 s3=>?_⟩
   have k13:Keep H1 H3:=(kp.trans (.of s2)).trans k3
   have k03:Keep H H3:=(kp1.trans (.of s2)).trans k3
   exact⟨ρ3,_,s3,h3,λρ4 σ4 H4 x4 k4 s4=>⟨ρ4,s4,k13.trans k4,x4⟩,λd v H4 x4 k4=>r d v H4 x4 (k03.trans k4),λρ4 σ4 H4 x4 k4=>n ρ4 σ4 H4 x4 (k03.trans k4),λρ4 σ4 H4 x4 k4 s4=>⟨ρ4,s4,k13.trans k4,x4⟩⟩
  ·have e:i=xs.length:=by omega
   subst e
   rw[List.drop_length] at hf
   exact .inl ⟨o2 (Nat.le_refl _),n ρ' σ' H' hf kp1 st'⟩
end
section
variable {X:Cx} {tg e:Expr} {te:RE} {pos p:Pos}
noncomputable def riL (te:RE):RA:=λρ Q=>te ρ λd=>match d with
 | .lst ds=>Q ds
 | _=>False
theorem cN (h:DE X e te):DI X tg e (riL te):=by
 refine PI.mono (HJ h) λσ H R hh=>bI hh λρ P st q k=>⟨ρ,_,st,q,λd v H1 hd s1 r=>?_⟩
 cases d with
 | lst ds =>
  cases r with
  | @lst a vs _ hz r =>
   refine⟨a,rfl,⟨vs,hz.sq⟩,k ds _ H1 hd s1 λi H2 kp=>⟨λd e=>?_,λhl=>⟨vs,(hz.keep kp).sq,by rw[<-r.length];exact hl⟩⟩⟩
   obtain⟨v,h1,h2⟩:=(r.keep kp).get e
   refine⟨⟨vs,v,(hz.keep kp).sq,h1⟩,λx H' y=>?_⟩
   obtain⟨e1,e2⟩:=y
   subst e1
   have e3:=e2 vs (hz.keep kp).sq
   rw[h1] at e3;cases e3
   exact⟨Same.refl _,h2⟩
 | _=>exact hd.elim
noncomputable def riT (te:RE):RA:=λρ Q=>te ρ λd=>match d with
 | .tup ds=>Q ds
 | _=>False
theorem JP (h:DE X e te):DI X tg e (riT te):=by
 refine PI.mono (KW h) λσ H R hh=>bI hh λρ P st q k=>⟨ρ,_,st,q,λd v H1 hd s1 r=>?_⟩
 cases d with
 | tup ds =>
  cases r with
  | @tup a vs _ hz r =>
   refine⟨a,rfl,⟨vs,SqT.of hz⟩,k ds _ H1 hd s1 λi H2 kp=>⟨λd e=>?_,λhl=>⟨vs,SqT.of (kp.tups _ _ hz),by rw[<-r.length];exact hl⟩⟩⟩
   obtain⟨v,h1,h2⟩:=(r.keep kp).get e
   refine⟨⟨vs,v,SqT.of (kp.tups _ _ hz),h1⟩,λx H' y=>?_⟩
   obtain⟨e1,e2⟩:=y
   subst e1
   have e3:=e2 vs (SqT.of (kp.tups _ _ hz))
   rw[h1] at e3;cases e3
   exact⟨Same.refl _,h2⟩
 | _=>exact hd.elim
noncomputable def dU (lo:Int) (n:Nat):List D:=(List.range n).map λk:Nat=>D.int (lo+(k:Int))
theorem CN {H0:Hp} (lo:Int) (n:Nat):AV X (Itr lo n) (dU lo n) H0:=λi H kp=>by
 refine⟨λd e=>?_,λhl=>by show n<=i;simpa [dU] using hl⟩
 unfold dU at e
 rw[List.getElem?_map] at e
 by_cases hi:i<n
 ·rw[List.getElem?_range hi] at e
  cases e
  exact⟨hi,λx H' y=>by obtain⟨rfl,rfl⟩:=y;exact⟨Same.refl _,.int _⟩⟩
 ·rw[List.getElem?_eq_none (by simpa using hi)] at e;cases e
structure RngOk (j:Int):Prop where
 lo:-(2 ^ 62)<=j
 hi:j<2 ^ 62
noncomputable def pE (t:RA):RA:=λρ Q=>t ρ λds=>match ds with
 | [.int j]=>RngOk j/\Q (dU 0 j.toNat)
 | _=>False
noncomputable def IA (t:RA):RA:=λρ Q=>t ρ λds=>match ds with
 | [.int i,.int j]=>(RngOk i/\RngOk j)/\Q (dU i (j-i).toNat)
 | _=>False
theorem lV {a:Expr} {t:RA} (hm:X.mg "range" = none) (ha:DA X [a] t) (hg:Gl X "range":=by rfl) (hs:starEach [a] X.env=[(false,eval a X.env)]:=by rfl):DI X tg (.Call (.Name "range" p) [a] [] pos) (pE t):=by
 refine PI.mono (AM hg hm ha hs) λσ H R hh=>bI hh λρ P st q k=>⟨ρ,_,st,q,λds vs H1 hd s1 r=>?_⟩
 split at hd
 ·rename_i j
  rw[Reps.ints_inv (ns:=[j]) r]
  exact⟨j,rfl,hd.1.lo,hd.1.hi,k _ _ H1 hd.2 s1 (CN 0 _)⟩
 ·exact hd.elim
end
noncomputable abbrev FD:=List D->(D->Prop)->Prop
noncomputable def spD (K:PySem.W.Frag) (F:FD):Sp:=λvs H Q _=>∃ds P,Reps K H ds vs/\F ds P/\∀d v H',P d->Same H H'->Rep K H' d v->Q v H'
noncomputable def aW (F:FD) (t:RA):RE:=λρ Q=>t ρ λds=>F ds Q
section
variable {X:Cx} {k:Nat} {f:Addr} {fd:FuncData} {ps:List Str} {F:FD} {x:Str} {p pos:Pos} {e:Expr} {es:List Expr} {t:RA}
theorem FU (G:FnOk X.prog X.w X.K X.mg X.base CX0 k f fd ps (spD X.K F)) (hr:Room k X.A) (hm:X.mg x=some (.ref f)) (hk:PySem.W.keepIn X.K (.ref f)=true) (hb:Binds X.K fd ps []) (ha:DA X (e::es) t) (hg:Gl X x:=by rfl)
  (hdb:(x == ("__debug__":Str))=false:=by decide) (he:starEach (e::es) X.env=(false,eval e X.env)::starEach es X.env:=by rfl) (hpl:(backTo pos (starEach es X.env)).any (·.1)=false:=by rfl) :
  DE X (.Call (.Name x p) (e::es) [] pos) (aW F t) :=
 PE.mono (yM (E:=E0) G hr hg hm hk hb .nil JD ha hdb he hpl) λσ H Q hh=>bI hh λρ P st q kk=>⟨ρ,_,st,q,λds vs H1 hd s1 r=>by
  show spD X.K F (vs++[]) H1 Q E0
  rw[List.append_nil]
  exact⟨ds,P,r,hd,λd v H2 hp s2 r2=>kk d v H2 hp (s1.trans s2) r2⟩⟩
end
noncomputable def aN (N:List Str) (ds:List D):En:=ds.map (λd=>some (.d d))++List.replicate (N.length-ds.length) none
section
variable {P:Program} {w:World} {K:PySem.W.Frag} {mg:Str->Option Value} {base:Heap}
theorem pG {X:Cx} {N:List Str} {ds:List D} {vs:List V} (r:Reps X.K X.H₀ ds vs):StOk X (aN N ds) (iZ N vs) X.H₀:=by
 have hl:=r.length
 have own:∀(i:Nat) (x:S),(aN N ds)[i]? = some (some x)->∃d,x = .d d:=λi x e=>by
  unfold aN at e
  by_cases hi:i<ds.length
  ·rw[List.getElem?_append_left (by simpa using hi),List.getElem?_map,List.getElem?_eq_getElem hi] at e
   cases e;exact⟨_,rfl⟩
  ·rw[List.getElem?_append_right (by simpa using hi),List.getElem?_replicate] at e
   split at e <;> cases e
 refine⟨by simp[aN,iZ,hl],Same.refl _,λi x e=>?_,λi j x y v u a e1 _ _ _ o _=>by
  obtain⟨d,rfl⟩:=own i x e1
  exact o.elim⟩
 unfold aN at e
 by_cases hi:i<ds.length
 ·rw[List.getElem?_append_left (by simpa using hi),List.getElem?_map,List.getElem?_eq_getElem hi] at e
  cases e
  obtain⟨v,h1,h2⟩:=r.get (List.getElem?_eq_getElem hi)
  refine⟨v,?_,h2⟩
  unfold iZ
  rw[List.getElem?_append_left (by simpa [<-hl] using hi),List.getElem?_map,h1];rfl
 ·rw[List.getElem?_append_right (by simpa using hi),List.getElem?_replicate] at e
  split at e <;> cases e
theorem IU {x qual:Str} {st:Stmt} {f:Addr} {fd:FuncData} {N ps:List Str} {k:Nat} {F:FD} {t:RS} (Fu:Fun K x qual st f fd) (Sc:FnScope N ps (aA st))
  (hbody:∀(cdv:Value) (A:Around) (outer:List Env) (s:Shared) (H:Hp) (E:XK),Room k (A.deeper (envOfC qual (aA st) s.heap.objs.size f cdv)) ->
   DSs (bX CX0 P w K mg base N qual (aA st) f cdv A outer s H E).nox (aL st) t)
  (len:∀ds Q,F ds Q->ds.length=ps.length) (pure:∀ds Q,F ds Q->t { nx:=λ_=>Q .non,rt:=Q } (aN N ds)):FnOk P w K mg base CX0 (k+1) f fd ps (spD K F):=by
 refine Fu.ok Sc (λvs H Q E ⟨ds,P,r,h,_⟩=>by rw[<-r.length];exact len ds P h) λcdv A outer s H vs Q E hr ⟨ds,P',r,h,kk⟩=>⟨_,hbody cdv A outer s H E hr,?_⟩
 exact⟨aN N ds,_,pG (X:=(bX CX0 P w K mg base N qual (aA st) f cdv A outer s H E).nox) r,pure ds P' h,λρ' σ' H' hq k s'=>kk .non .non H' hq s'.same .non,λd v H' hq k sm rv=>kk d v H' hq sm rv,λ_ _ _ z=>z.elim,λ_ _ _ z=>z.elim⟩
end
noncomputable def BL (n:Nat) (i:Int):Prop:=i.natAbs<2 ^ n
theorem BL.bits {n:Nat} {i:Int} (h:BL n i):Builtin.Int.intBits i<=n:=intBits_le_iff.mpr h
theorem BL.of {n:Nat} {i:Int} (h:Builtin.Int.intBits i<=n):BL n i:=intBits_le_iff.mp h
theorem BL.mono {m n:Nat} {i:Int} (h:BL m i) (l:m<=n):BL n i:=BL.of (Nat.le_trans h.bits l)
theorem BL.add {m n:Nat} {i j:Int} (a:BL m i) (b:BL n j):BL (max m n+1) (i+j):=BL.of (intBits_add_le a.bits b.bits)
theorem BL.sub {m n:Nat} {i j:Int} (a:BL m i) (b:BL n j):BL (max m n+1) (i-j):=BL.of (intBits_sub_le a.bits b.bits)
theorem BL.mul {m n:Nat} {i j:Int} (a:BL m i) (b:BL n j):BL (m+n) (i*j):=BL.of (intBits_mul_le a.bits b.bits)
theorem BL.neg {m:Nat} {i:Int} (a:BL m i):BL m (-i):=BL.of (intBits_neg_le a.bits)
theorem BL.fdiv {m:Nat} {i j:Int} (a:BL m i):BL m (i.fdiv j):=BL.of (intBits_fdiv_le a.bits)
theorem BL.le {m:Nat} {i j:Int} (a:BL m j) (h:i.natAbs<=j.natAbs):BL m i:=Nat.lt_of_le_of_lt h a
theorem BL.of_lt {m:Nat} {i:Int} (h1:-(2 ^ m:Nat)<i) (h2:i<(2 ^ m:Nat)):BL m i:=by unfold BL;omega
theorem BL.intMulOk {m n:Nat} {i j:Int} (a:BL m i) (b:BL n j) (h:m+n<=134217728):IntMulOk i j:=IntMulOk.of_le a.bits b.bits h
theorem BL.noPy {i j:Int} (h:BL 9000 j):Builtin.divisionGoesByPylong i j=false:=by
 refine PyProof.noPylong_of_log2 ?_
 by_cases h0:j.natAbs=0
 ·rw[h0];decide +kernel
 ·exact (Nat.log2_lt h0).mpr h
section
variable {X:Cx} {e a b c:Expr} {pos:Pos}
theorem RepB.int_inv {K:PySem.W.Frag} {H:Hp} {i:Int} {v:V} (h:RepB K H (.int i) v):v = .int i:=by
 rcases h with h | ⟨ds,a,vs,e1,_⟩
 ·exact h.int_inv
 ·cases e1
theorem RepB.bl_inv {K:PySem.W.Frag} {H:Hp} {i:Bool} {v:V} (h:RepB K H (.bl i) v):v = .bl i:=by
 rcases h with h | ⟨ds,a,vs,e1,_⟩
 ·exact h.bl_inv
 ·cases e1
theorem RepB.non_inv {K:PySem.W.Frag} {H:Hp} {v:V} (h:RepB K H .non v):v = .non:=by
 rcases h with h | ⟨ds,a,vs,e1,_⟩
 ·cases h;rfl
 ·cases e1
theorem RepB.is_non {K:PySem.W.Frag} {H:Hp} {d:D} {v:V} (h:RepB K H d v):decide (v = .non)=(match d with | .non=>true | _=>false):=by
 rcases h with h | ⟨ds,a,vs,e1,e2,_⟩
 ·cases h <;> simp
 ·subst e1 e2;simp
structure MulOk (i j:Int):Prop where
 ok:IntMulOk i j
structure DivOk (i j:Int):Prop where
 nz:j≠0
 np:Builtin.divisionGoesByPylong i j=false
structure ModOk (j:Int):Prop where
 nz:j≠0
structure PowOk (i j:Int):Prop where
 ok:0<=j/\j<=1000000/\i.natAbs<2 ^ 64
theorem BL.mulOk {m n:Nat} {i j:Int} (a:BL m i) (b:BL n j) (h:m+n<=134217728:=by decide):MulOk i j:=⟨a.intMulOk b h⟩
theorem BL.divOk {i j:Int} (h:BL 9000 j) (nz:j≠0):DivOk i j:=⟨nz,h.noPy⟩
noncomputable def eD:R22:=λx y Q=>match x,y with
 | .int i,.int j=>Q (.int (i+j))
 | _,_=>False
noncomputable def jK:R22:=λx y Q=>match x,y with
 | .int i,.int j=>Q (.int (i-j))
 | _,_=>False
noncomputable def gF:R22:=λx y Q=>match x,y with
 | .int i,.int j=>MulOk i j/\Q (.int (i*j))
 | _,_=>False
noncomputable def gE:R22:=λx y Q=>match x,y with
 | .int i,.int j=>DivOk i j/\Q (.int (i.fdiv j))
 | _,_=>False
noncomputable def eQ:R22:=λx y Q=>match x,y with
 | .int i,.int j=>ModOk j/\Q (.int (i.fmod j))
 | _,_=>False
noncomputable def pQ:R22:=λx y Q=>match x,y with
 | .int i,.int j=>PowOk i j/\Q (.int (i ^ j.toNat))
 | _,_=>False
theorem AK {f:Value->Value->Sem Value} {C:Int->Int->Prop} {g:Int->Int->Int} {r:R22} (h:OpR X f (rI C λi j=>.int (g i j)))
  (hr:∀x y Q,r x y Q->∃i j,x = .int i/\y = .int j/\C i j/\Q (.int (g i j))):OpD X f r:=by
 intro pins s σ H x y v u Q I rx ry hh_0
 obtain⟨d,e,P,r1,r2,q,k⟩:=hh_0
 obtain⟨i,j,rfl,rfl,hc,q⟩:=hr _ _ _ q
 exact h pins s σ H x y v u Q I rx ry ⟨i,j,r1.int_inv,r2.int_inv,hc,k _ _ H q (Same.refl H) (.int _)⟩
theorem cW:OpD X (binaryOp .Add) eD:=AK (C:=λ_ _=>True) (g:=λi j=>i+j) (opI λ_ _ _ _ _ _ _ _ q=>add_int q) λx y Q q=>by
 unfold eD at q;split at q
 ·exact⟨_,_,rfl,rfl,trivial,q⟩
 ·exact q.elim
theorem gP:OpD X (binaryOp .Sub) jK:=AK (C:=λ_ _=>True) (g:=λi j=>i-j) (opI λ_ _ _ _ _ _ _ _ q=>sub_int q) λx y Q q=>by
 unfold jK at q;split at q
 ·exact⟨_,_,rfl,rfl,trivial,q⟩
 ·exact q.elim
theorem eK:OpD X (binaryOp .Mult) gF:=AK (C:=λi j=>IntMulOk i j) (g:=λi j=>i*j) (opI λ_ _ _ _ _ _ _ hc q=>mul_int q hc) λx y Q q=>by
 unfold gF at q;split at q
 ·exact⟨_,_,rfl,rfl,q.1.ok,q.2⟩
 ·exact q.elim
theorem jG:OpD X (binaryOp .FloorDiv) gE:=AK (C:=λi j=>j≠0/\Builtin.divisionGoesByPylong i j=false) (g:=λi j=>i.fdiv j) (opI λ_ _ _ _ _ _ _ hc q=>floordiv_int hc.1 q (.inl hc.2)) λx y Q q=>by
 unfold gE at q;split at q
 ·exact⟨_,_,rfl,rfl,⟨q.1.nz,q.1.np⟩,q.2⟩
 ·exact q.elim
theorem dH:OpD X (binaryOp .Mod) eQ:=AK (C:=λ_ j=>j≠0) (g:=λi j=>i.fmod j) (opI λ_ _ _ _ _ _ _ hc q=>mod_int' hc q) λx y Q q=>by
 unfold eQ at q;split at q
 ·exact⟨_,_,rfl,rfl,q.1.nz,q.2⟩
 ·exact q.elim
theorem sI:OpD X (binaryOp .Pow) pQ:=AK (C:=λi j=>0<=j/\j<=1000000/\i.natAbs<2 ^ 64) (g:=λi j=>i ^ j.toNat) (opI λ_ _ _ _ _ _ _ hc q=>pow_int_small hc.1 hc.2.1 hc.2.2 q) λx y Q q=>by
 unfold pQ at q;split at q
 ·exact⟨_,_,rfl,rfl,q.1.ok,q.2⟩
 ·exact q.elim
noncomputable def vN:D->(D->Prop)->Prop:=λx Q=>match x with
 | .int i=>Q (.int (-i))
 | _=>False
theorem LO:UnD X (unaryOp .USub) vN:=by
 intro pins s σ H x v Q I rx hh_0
 obtain⟨d,P,r,q,k⟩:=hh_0
 unfold vN at q;split at q
 ·rename_i i
  exact LP pins s σ H x v Q I rx ⟨i,r.int_inv,k _ _ H q (Same.refl H) (.int _)⟩
 ·exact q.elim
noncomputable def fX (p:Int->Int->Bool):R22:=λx y Q=>match x,y with
 | .int i,.int j=>Q (.bl (p i j))
 | _,_=>False
theorem KM {f:Value->Value->Sem Value} {p:Int->Int->Bool} (h:OpR X f (rI0 λi j=>.bl (p i j))):OpD X f (fX p):=by
 intro pins s σ H x y v u Q I rx ry hh_0
 obtain⟨d,e,P,r1,r2,q,k⟩:=hh_0
 unfold fX at q;split at q
 ·rename_i i j
  exact h pins s σ H x y v u Q I rx ry ⟨i,j,r1.int_inv,r2.int_inv,k _ _ H q (Same.refl H) (.bl _)⟩
 ·exact q.elim
theorem oU:OpD X (compareOp .Lt) (fX λi j=>decide (i<j)):=KM MP
theorem MM:OpD X (compareOp .LtE) (fX λi j=>decide (i<=j)):=KM MO
theorem IZ:OpD X (compareOp .Gt) (fX λi j=>decide (j<i)):=KM MN
noncomputable def kY (neg:Bool):R22:=λx y Q=>match x,y with
 | .int i,.int j=>Q (.bl (if neg then !decide (i=j) else decide (i=j)))
 | .bl i,.bl j=>Q (.bl (if neg then !decide (i=j) else decide (i=j)))
 | _,_=>False
theorem wF:OpD X (compareOp .Eq) (kY false):=by
 intro pins s σ H x y v u Q I rx ry hh_0
 obtain⟨d,e,P,r1,r2,q,k⟩:=hh_0
 unfold kY at q;split at q
 ·rename_i i j
  rw[r1.int_inv] at rx;rw[r2.int_inv] at ry
  exact JB pins s σ H _ _ v u Q I rx ry ⟨rfl,by
   have e:decide (V.int i=V.int j)=decide (i=j):=by simp
   rw[e];exact k _ _ H q (Same.refl H) (.bl _)⟩
 ·rename_i i j
  rw[r1.bl_inv] at rx;rw[r2.bl_inv] at ry
  exact JB pins s σ H _ _ v u Q I rx ry ⟨rfl,by
   have e:decide (V.bl i=V.bl j)=decide (i=j):=by simp
   rw[e];exact k _ _ H q (Same.refl H) (.bl _)⟩
 ·exact q.elim
theorem KK:OpD X (compareOp .NotEq) (kY true):=by
 intro pins s σ H x y v u Q I rx ry hh_0
 obtain⟨d,e,P,r1,r2,q,k⟩:=hh_0
 unfold kY at q;split at q
 ·rename_i i j
  rw[r1.int_inv] at rx;rw[r2.int_inv] at ry
  exact JC pins s σ H _ _ v u Q I rx ry ⟨rfl,by
   have e:decide (V.int i=V.int j)=decide (i=j):=by simp
   rw[e];exact k _ _ H q (Same.refl H) (.bl _)⟩
 ·rename_i i j
  rw[r1.bl_inv] at rx;rw[r2.bl_inv] at ry
  exact JC pins s σ H _ _ v u Q I rx ry ⟨rfl,by
   have e:decide (V.bl i=V.bl j)=decide (i=j):=by simp
   rw[e];exact k _ _ H q (Same.refl H) (.bl _)⟩
 ·exact q.elim
noncomputable def oJ:D->Bool
 | .non=>true
 | _=>false
noncomputable def vK (neg:Bool):R22:=λx y Q=>match y with
 | .non=>Q (.bl (if neg then !oJ x else oJ x))
 | _=>False
theorem CK {K:PySem.W.Frag} {H:Hp} {d:D} {v:V} (h:RepB K H d v):decide (v = .non)=oJ d:=by
 rw[h.is_non];cases d <;> rfl
theorem KI:OpD X (compareOp .Is) (vK false):=by
 intro pins s σ H x y v u Q I rx ry hh_0
 obtain⟨d,e,P,r1,r2,q,k⟩:=hh_0
 unfold vK at q;split at q
 ·exact KN pins s σ H x y v u Q I rx ry ⟨r2.non_inv,by rw[CK r1];exact k _ _ H q (Same.refl H) (.bl _)⟩
 ·exact q.elim
noncomputable def dIx:R22:=λx y Q=>match x,y with
 | .lst ds,.int i=>match atI ds i with
  | some d=>Q d
  | none=>False
 | .tup ds,.int i=>match atI ds i with
  | some d=>Q d
  | none=>False
 | _,_=>False
theorem sY {K:PySem.W.Frag} {H:Hp} {ds:List D} {vs:List V} {i:Int} {d:D} (r:Reps K H ds vs) (h:atI ds i=some d):∃v,atI vs i=some v/\Rep K H d v:=by
 unfold atI at h ⊢
 rw[<-r.length]
 cases e:ixN ds.length i with
 | none=>rw[e] at h;cases h
 | some j =>
  rw[e] at h
  exact r.get h
theorem aV {ta tb:RE} (ha:DB X a ta) (hb:DB X b tb) (hs:xG b:=by intro _ _;rfl):DE X (.Subscript a b pos) (r2 dIx ta tb):=by
 refine PE.mono (MR (GO.or JX) ha hb hs) λσ H Q h=>?_
 obtain⟨ρ,P,st,ht,hP⟩:=h
 refine⟨ρ,_,st,ht,λx v H1 h1 s1 r1=>⟨ρ,_,st.ext s1,h1,λy u H2 h2 s2 r2=>?_⟩⟩
 have r1':=r1.same s2
 unfold dIx at h2;split at h2
 ·rename_i ds i
  split at h2
  ·rename_i d e
   obtain⟨p,vs,rfl,hq,rr⟩:=r1'.lst
   obtain⟨w',e',rw'⟩:=sY rr e
   exact .inl ⟨p,vs,i,w',rfl,r2.int_inv,hq,e',hP d w' H2 h2 (s1.trans s2) rw'⟩
  ·exact h2.elim
 ·rename_i ds i
  split at h2
  ·rename_i d e
   obtain⟨p,vs,rfl,hq,rr⟩:=r1'.tup
   obtain⟨w',e',rw'⟩:=sY rr e
   exact .inr ⟨p,vs,i,w',rfl,r2.int_inv,SqT.of hq,e',hP d w' H2 h2 (s1.trans s2) rw'⟩
  ·exact h2.elim
 ·exact h2.elim
noncomputable abbrev RO:=En->(Option Int->Prop)->Prop
noncomputable def MK (X:Cx) (t:RO):TO:=λσ H Q=>∃ρ P,StOk X ρ σ H/\t ρ P/\∀o H',P o->Same H H'->Q o H'
noncomputable def DP (X:Cx) (e:Option Expr) (t:RO):Prop:=PO X e (MK X t)
noncomputable def dX:RO:=λ_ Q=>Q none
noncomputable def jV (t:RE):RO:=λρ Q=>t ρ λd=>match d with
 | .int i=>Q (some i)
 | _=>False
theorem rR:DP X none dX:=λpins s σ H Q I hh=>bI hh λρ P st q k=>yN pins s σ H Q I (k none H q (Same.refl H))
theorem rS {t:RE} (h:DE X e t):DP X (some e) (jV t):=λpins s σ H Q I hh=>bI hh λρ P st q k=>sO h pins s σ H Q I ⟨ρ,_,st,q,λd v H1 hd s1 r=>by
 cases d with
 | int i=>exact⟨i,r.int_inv,k (some i) H1 hd s1⟩
 | _=>exact hd.elim⟩
noncomputable def jJ (xs:List D) (lo hi:Option Int):List D:=(xs.drop (HT.sIx xs.length 0 lo)).take (HT.sIx xs.length xs.length hi-HT.sIx xs.length 0 lo)
noncomputable def yU (te:RE) (tl th:RO):RA:=λρ Q=>te ρ λx=>tl ρ λl=>th ρ λu=>match x with
 | .lst ds=>Q (jJ ds l u)
 | _=>False
noncomputable def KD (X:Cx) (r:List D->(D->Prop)->Prop):List V->Hp->VK->Prop:=λxs H Q=>∃ds P,Reps X.K H ds xs/\r ds P/\∀z v H',P z->Same H H'->Rep X.K H' z v->Q v H'
noncomputable def sU (X:Cx) (f:Value) (r:List D->(D->Prop)->Prop):Prop:=gT X f (KD X r)
noncomputable def rCB (r:List D->(D->Prop)->Prop) (t:RA):RE:=λρ Q=>t ρ λds=>r ds Q
variable {x:Str} {p:Pos} {es:List Expr} {t:RA} {id T:String} {r:List D->(D->Prop)->Prop}
theorem iH (hc:sU X (.builtin id) r) (hm:X.mg x=none) (hv:bootBuiltins x=some (.builtin id)) (ha:DA X (e::es) t) (hg:Gl X x:=by rfl) (hn:x≠"__name__":=by decide) (hdb:(x == ("__debug__":Str))=false:=by decide)
  (he:starEach (e::es) X.env=(false,eval e X.env)::starEach es X.env:=by rfl) (hpl:(backTo pos (starEach es X.env)).any (·.1)=false:=by rfl):DE X (.Call (.Name x p) (e::es) [] pos) (rCB r t) :=
 PE.mono (fD hc hg hm hv ha hn hdb he hpl) λσ H Q hh=>bI hh λρ P st q k=>⟨ρ,_,st,q,λds vs H1 hd s1 rr=>⟨ds,P,rr,hd,λz v H2 hz s2 r2=>k z v H2 hz (s1.trans s2) r2⟩⟩
noncomputable def tJ:List D->(D->Prop)->Prop:=λds Q=>match ds with
 | [.int i]=>Q (.int (if i<0 then -i else i))
 | _=>False
theorem BE:sU X (.builtin "abs") tJ:=by
 intro pins s σ H xs us Q I rv hh_0
 obtain⟨ds,P,r,q,k⟩:=hh_0
 unfold tJ at q;split at q
 ·rename_i i
  cases r with
  | cons r1 r2 =>
   cases r2
   rw[r1.int_inv] at rv
   exact BD pins s σ H _ us Q I rv ⟨i,rfl,k _ _ H q (Same.refl H) (.int _)⟩
 ·exact q.elim
noncomputable def FP:List D->(D->Prop)->Prop:=λds Q=>match ds with
 | [.bl b]=>Q (.int (if b then 1 else 0))
 | [.int i]=>Q (.int i)
 | _=>False
noncomputable def xR:List D->(D->Prop)->Prop:=λds Q=>match ds with
 | [.int i,.int j]=>Q (.int (if j > i then j else i))
 | _=>False
noncomputable def nZ:List D->(D->Prop)->Prop:=λds Q=>match ds with
 | [.int i,.int j]=>Q (.int (if j<i then j else i))
 | _=>False
theorem FK (hc:X.calm=true:=by rfl):sU X (.builtin "min") nZ:=by
 intro pins s σ H xs us Q I rv hh_0
 obtain⟨ds,P,r,q,k⟩:=hh_0
 unfold nZ at q;split at q
 ·rename_i i j
  ·rw[Reps.ints_inv (ns:=[i,j]) r] at rv
   exact zH hc pins s σ H _ us Q I rv ⟨i,j,rfl,k _ _ H q (Same.refl H) (.int _)⟩
 ·exact q.elim
noncomputable def lU:D->(D->Prop)->Prop:=λd Q=>match d with
 | .lst ds=>Q (.int ds.length)
 | .tup ds=>Q (.int ds.length)
 | _=>False
theorem eL {t:TE} (h:PE X e t) (hs:starEach [e] X.env=[(false,eval e X.env)]:=by rfl) (hn:starEach [] X.env=[]:=by rfl):PA X [e] (λσ H Q=>t σ H λv H'=>Q [v] H') :=
 PA.mono (bW h gA (by rw[hs,hn])) λσ H Q q=>q
theorem oA {te:RE} (hm:X.mg "len" = none) (h:DB X e te) (hg:Gl X "len":=by rfl) (hs:starEach [e] X.env=[(false,eval e X.env)]:=by rfl) (hn:starEach [] X.env=[]:=by rfl):DE X (.Call (.Name "len" p) [e] [] pos) (r1 lU te):=by
 refine PE.mono (fD rG hg hm PySem.boot_len (eL h hs hn) (by decide) (by decide) (by rw[hs,hn]) (by rw[hn];rfl)) λσ H Q hh=>bI hh λρ P st q k=>⟨ρ,_,st,q,λd v H1 hd s1 r=>?_⟩
 unfold lU at hd;split at hd
 ·obtain⟨p,vs,rfl,hq,rr⟩:=r.lst
  exact⟨p,vs,rfl,.inl hq,by rw[<-rr.length];exact k _ _ H1 hd s1 (.int _)⟩
 ·obtain⟨p,vs,rfl,hq,rr⟩:=r.tup
  exact⟨p,vs,rfl,.inr (SqT.of hq),by rw[<-rr.length];exact k _ _ H1 hd s1 (.int _)⟩
 ·exact hd.elim
end
section
variable {X:Cx} {pins:List (Addr × Obj)} {σ:St} {H:Hp} {s:Shared} {h':Heap}
theorem _root_.L2.Inv.turnedL {t':Nat} {ch:List Addr} (I:Inv X pins σ H s) (k:∀b o,b ∉ ch->s.heap.get? b=some o->h'.get? b=some o) (f:∀b∈ch,lT X pins H b):Inv X pins σ H { s with heap:=h',toks:=t' }:=by
 have nit:∀b u,H b=some u->b ∉ ch:=λb u e z=>by rw[(f b z).1] at e;cases e
 refine I.step (g':=s.gens) (d':=s.drawn) (ch:=ch) (λb hb=>⟨(f b hb).2.2.2.1,(f b hb).2.1,(f b hb).2.2.2.2.1,(f b hb).2.2.2.2.2⟩) (λb o _ _ hc e _=>k b o hc e) (λb o _ _ hc e _=>⟨o.slots,k b o hc e⟩) (λ_ _ _ _ n=>n)
  (λb o hc e=>⟨o,k b o hc e⟩) (λ_ _ e=>e) (λ_ _ _ e=>e) (λb ps e=>⟨#[],by rw[e];simp⟩) (λm hm=>?_) (λb u e=>?_) I.bare
 ·obtain⟨o,es,ep,ho,r⟩:=hm
  exact⟨o,es,ep,k _ o (λz=>(f _ z).2.1 rfl) ho,r⟩
 ·refine (I.hok b u e).stay (λc v hc q=>k c v ?_ q) (λ_ q=>q) λ_ _ q=>q
  rcases hc with z | z
  ·rw[z];exact nit b u e
  ·exact nit c _ z
theorem _root_.L2.Inv.turnedT {t':Nat} {ch:List Addr} {T:Addr} {xs:List V} {its:List Value} (I:Inv X pins σ H s) (k:∀b o,b ∉ ch->s.heap.get? b=some o->h'.get? b=some o) (f:∀b∈ch,lT X pins H b)
  (hT:s.heap.objs.size<=T) (ht:h'.IsTuple T its.toArray) (rv:Vals xs its) (hz:xs.length<=sizeLine):Inv X pins σ (upd H T (.tup xs)) { s with heap:=h',toks:=t' }:=by
 have nit:∀b u,H b=some u->b ∉ ch:=λb u e z=>by rw[(f b z).1] at e;cases e
 have hn:H T=none:=I.hok.fresh hT
 have ne:∀{b:Addr} {o:Obj},s.heap.get? b=some o->b≠T:=λe=>Nat.ne_of_lt (Nat.lt_of_lt_of_le (Heap.lt_size e) hT)
 refine I.step (g':=s.gens) (d':=s.drawn) (ch:=ch) (λb hb=>⟨(f b hb).2.2.2.1,(f b hb).2.1,(f b hb).2.2.2.2.1,(f b hb).2.2.2.2.2⟩) (λb o _ _ hc e _=>k b o hc e) (λb o _ _ hc e _=>⟨o.slots,k b o hc e⟩) (λb o _ e n=>by rw[aE (ne e)];exact n)
  (λb o hc e=>⟨o,k b o hc e⟩) (λb ys e=>by rw[aE (aH e hn)];exact e) (λb o u e=>by rw[aE (aH e hn)];exact e) (λb ps e=>⟨#[],by rw[aE (aH e hn),e];simp⟩) (λm hm=>?_) (λb u e=>?_) I.bare
 ·obtain⟨o,es,ep,ho,r⟩:=hm
  exact⟨o,es,ep,k _ o (λz=>(f _ z).2.1 rfl) ho,r⟩
 ·by_cases hb:b=T
  ·subst hb
   rw[aQ] at e;cases e
   exact⟨hz,its,rv,ht⟩
  ·rw[aE hb] at e
   refine (I.hok b u e).stay (λc v hc q=>k c v ?_ q) (λc q=>by rw[aE (aH q hn)];exact q) λc ys q=>by rw[aE (aH q hn)];exact q
   rcases hc with z | z
   ·rw[z];exact nit b u e
   ·exact nit c _ z
end
noncomputable def MA (ds:List D):List D:=ds.zipIdx.map λp=>D.tup [.int (p.2:Int),p.1]
section
variable {X:Cx} {e:Expr} {te:RE} {pos p:Pos} {elts:List Expr} {k:Nat} {tp:Pos}
noncomputable def HZ (te:RE):RA:=λρ Q=>te ρ λd=>match d with
 | .lst ds=>Q (MA ds)
 | _=>False
end
noncomputable def vV (T:String):D->Option Bool
 | .non=>some (T == "NoneType")
 | .bl _=>some (T == "bool" || T == "int")
 | .int _=>some (T == "int")
 | .str _=>some (T == "str")
 | .tup _=>some (T == "tuple")
 | .lst _=>some (T == "list")
 | .dct _ _=>none
noncomputable def pP (T:String):D->(D->Prop)->Prop:=λd Q=>match vV T d with
 | some b=>Q (.bl b)
 | none=>False
structure TyTab (K:PySem.W.Frag) (T:String):Prop where
 non:PySem.W.kitOne K (.type "NoneType") (.type T)=some (T == "NoneType")
 bl:PySem.W.kitOne K (.type "bool") (.type T)=some (T == "bool" || T == "int")
 int:PySem.W.kitOne K (.type "int") (.type T)=some (T == "int")
 str:PySem.W.kitOne K (.type "str") (.type T)=some (T == "str")
 tup:PySem.W.kitOne K (.type "tuple") (.type T)=some (T == "tuple")
 lst:PySem.W.kitOne K (.type "list") (.type T)=some (T == "list")
section
variable {X:Cx} {e:Expr} {te:RE} {pos p p2:Pos} {T:String} {x:Str}
theorem vP (tab:TyTab X.K T) (hm:X.mg "isinstance" = none) (hT:X.mg x=none) (hb:bootBuiltins x=some (.type T)) (h:DE X e te) (hg:Gl X "isinstance":=by rfl) (hgT:Gl X x:=by rfl) (hn:x≠"__name__":=by decide) (hd:(x == ("__debug__":Str))=false:=by decide)
  (hs:starEach [e,.Name x p2] X.env=(false,eval e X.env)::starEach [.Name x p2] X.env:=by rfl) (hs2:starEach [.Name x p2] X.env=(false,eval (.Name x p2) X.env)::starEach [] X.env:=by rfl) (hpl:(backTo pos (starEach [.Name x p2] X.env)).any (·.1)=false:=by rfl) :
  DE X (.Call (.Name "isinstance" p) [e,.Name x p2] [] pos) (r1 (pP T) te):=by
 have hc:gT X (.builtin "isinstance") (λxs H Q=>∃d v P,xs=[v,.ty T]/\Rep X.K H d v/\pP T d P/\∀b,P (.bl b)->Q (.bl b) H):=by
  intro pins s σ H xs us Q I r hh_0
  obtain⟨d,v,P,ex,rd,q,k⟩:=hh_0
  subst ex
  obtain⟨u,w',rfl,r1,r2⟩:=uY r
  cases r2
  unfold pP at q
  split at q
  ·rename_i b eb
   have fin:∀{t:Value},TyOf X.K H v t->PySem.W.kitOne X.K t (.type T)=some b->wpAny (model X.prog X.w) X.A (call (.builtin "isinstance") [u,.type T]) (EP X pins σ Q) X.xe s:=λty e=>zU I r1 ty e λtk=>⟨.bl b,H,I.tok tk,rfl,k b q⟩
   cases rd with
   | non=>cases eb;exact fin .non tab.non
   | bl _=>cases eb;exact fin (.bl _) tab.bl
   | int _=>cases eb;exact fin (.int _) tab.int
   | str _=>cases eb;exact fin (.str _) tab.str
   | tup h _=>cases eb;exact fin (.tup h) tab.tup
   | @lst a vs _ h _ =>
    cases eb
    rcases h with ⟨o,h⟩ | ⟨o,its,n,hk,hc,_⟩
    ·exact fin (.frz h) tab.lst
    ·cases (show u=Value.ref a from r1)
     exact PySem.W.kia_one PySem.W.kitx_list I.kIn ⟨o,I.kIn a o hk,hc⟩ tab.lst (λz=>nomatch z) λtk=>⟨.bl _,H,I.tok tk,rfl,k _ q⟩
   | dct _ _ _=>cases eb
  ·exact q.elim
 refine PE.mono (fD hc hg hm PyProof.Rows.boot_isinstance (bW h (bW (yK (v:=.ty T) hgT hT hb rfl hn hd) gA hs2) hs) (by decide) (by decide) hs hpl) λσ H Q hh=>bI hh λρ P st q k=>?_
 refine⟨ρ,_,st,q,λd v H1 hd s1 r=>⟨d,v,P,rfl,r,hd,λb hb=>k _ _ H1 hb s1 (.bl b)⟩⟩
end
theorem qJ:bootBuiltins "abs" = some (.builtin "abs"):=by decide +kernel
theorem zE:bootBuiltins "max" = some (.builtin "max"):=by decide +kernel
theorem qL:bootBuiltins "min" = some (.builtin "min"):=by decide +kernel
theorem zD:bootBuiltins "int" = some (.type "int"):=by decide +kernel
theorem vG:bootBuiltins "bool" = some (.type "bool"):=by decide +kernel
theorem vH:bootBuiltins "list" = some (.type "list"):=by decide +kernel
theorem IG (K:PySem.W.Frag):TyTab K "int":=⟨by rfl,by rfl,by rfl,by rfl,by rfl,by rfl⟩
theorem FB (K:PySem.W.Frag):TyTab K "bool":=⟨by rfl,by rfl,by rfl,by rfl,by rfl,by rfl⟩
theorem FC (K:PySem.W.Frag):TyTab K "list":=⟨by rfl,by rfl,by rfl,by rfl,by rfl,by rfl⟩
theorem fP {P:List Value->Prop} (h:∀a,P [a]):∀us:List Value,us.length=1->P us
 | [a],_=>h a
theorem kX {P:List Value->Prop} (h:∀a b,P [a,b]) (us:List Value) (hl:us.length=2):P us:=by
 cases us with
 | nil=>cases hl
 | cons a us=>exact fP (P:=λus=>P (a::us)) (h a) us (Nat.succ.inj hl)
theorem IL {P:List Value->Prop} (h:∀a b c,P [a,b,c]) (us:List Value) (hl:us.length=3):P us:=by
 cases us with
 | nil=>cases hl
 | cons a us=>exact kX (P:=λus=>P (a::us)) (h a) us (Nat.succ.inj hl)
structure FnAt (P:Program) (w:World) (K:PySem.W.Frag) (mg:Str->Option Value) (base:Heap) (x:Str) (ps:List Str) (k:Nat) (F:FD):Prop where
 ex:∃f fd,FnOk P w K mg base CX0 k f fd ps (spD K F)/\Binds K fd ps []/\PySem.W.keepIn K (.ref f)=true/\mg x=some (.ref f)
structure DefAt (K:PySem.W.Frag) (mg:Str->Option Value) (x:Str) (st:Stmt) (ps:List Str):Prop where
 ex:∃f fd,Fun K x x st f fd/\mg x=some (.ref f)/\∀us:List Value,us.length=ps.length->bindArgs fd ⟨us,[]⟩=pure (ps.zip us)
section
variable {P:Program} {w:World} {K:PySem.W.Frag} {mg:Str->Option Value} {base:Heap}
theorem DefAt.ok {x:Str} {st:Stmt} {N ps:List Str} {k:Nat} {F:FD} {t:RS} (Z:DefAt K mg x st ps) (Sc:FnScope N ps (aA st))
  (hbody:∀{f:Addr} (cdv:Value) (A:Around) (outer:List Env) (s:Shared) (H:Hp) (E:XK),Room k (A.deeper (envOfC x (aA st) s.heap.objs.size f cdv)) ->
   DSs (bX CX0 P w K mg base N x (aA st) f cdv A outer s H E).nox (aL st) t)
  (len:∀ds Q,F ds Q->ds.length=ps.length) (pure:∀ds Q,F ds Q->t { nx:=λ_=>Q .non,rt:=Q } (aN N ds)):FnAt P w K mg base x ps (k+1) F:=by
 obtain⟨f,fd,a,b,c⟩:=Z.ex
 exact⟨f,fd,IU a Sc (λcdv A outer s H E hr=>hbody cdv A outer s H E hr) len pure,.all c,a.kp,b⟩
theorem DefAt.okL {x:Str} {st:Stmt} {ps:List Str} {k:Nat} {F:FD} (Z:DefAt K mg x st ps) (h:∀(base:Heap) (f:Addr) (fd:FuncData),Fun K x x st f fd->FnOk P w K mg base CX0 k f fd ps (spD K F)) :
  ∃f fd,mg x=some (.ref f)/\(∀us:List Value,us.length=ps.length->bindArgs fd ⟨us,[]⟩=pure (ps.zip us))/\∀base,FnOk P w K mg base CX0 k f fd ps (spD K F):=by
 obtain⟨f,fd,a,b,c⟩:=Z.ex
 exact⟨f,fd,b,c,λbase=>h base f fd a⟩
end
section
variable {X:Cx} {k:Nat} {ps:List Str} {F:FD} {x:Str} {p pos:Pos} {e:Expr} {es:List Expr} {t:RA}
theorem aT (C:FnAt X.prog X.w X.K X.mg X.base x ps k F) (hr:Room k X.A) (ha:DA X (e::es) t) (hg:Gl X x:=by rfl)
  (hdb:(x == ("__debug__":Str))=false:=by decide) (he:starEach (e::es) X.env=(false,eval e X.env)::starEach es X.env:=by rfl) (hpl:(backTo pos (starEach es X.env)).any (·.1)=false:=by rfl) :
  DE X (.Call (.Name x p) (e::es) [] pos) (aW F t):=by
 obtain⟨f,fd,G,hb,hk,hm⟩:=C.ex
 exact FU G hr hm hk hb ha hg hdb he hpl
end
noncomputable def zC (n:Nat):FD:=λds Q=>∃ns:List Int,ds=[.lst (ns.map .int)]/\ns.length<=n/\Q (.bl true)
theorem LJ {K:PySem.W.Frag} {H:Hp} {a:Addr} {vs:List V} (hO:FH H) (h:SqL K H a vs):FzL K H a vs:=by
 rcases h with (h | ⟨o,h⟩) | h
 ·rcases hO a with z | ⟨o,xs,z⟩
  ·rw[z] at h;cases h
  ·rw[z] at h;cases h
 ·exact .inl ⟨o,h⟩
 ·exact .inr h
theorem walk_law {l:PySem.W.OpenLaw} {q:Program} {loose:List Str} {XP:(Str->Option Value)->Heap->Prop} {YP:World->Heap->Prop} {d:DefRec} {K:Params->PySem.W.Frag} {x:Str} {k:Nat}
  (hn:l.most=some 63) (hdf:d.params.defaults=[]) (hr:Room k callerA)
  (hY:∀(w:World) (h:Heap),YP w h->(K w.params).In h) (hd:d.name = "law")
  (F:∀(w:World) (mg:Str->Option Value) (h:Heap),(K w.params).In h->h.Ns mainGlobals mg ->
   ∃f fd,mg "law" = some (.ref f)/\(∀us:List Value,us.length=[x].length->bindArgs fd ⟨us,[]⟩=pure ([x].zip us))/\∀base,FnOk l.prog w (K w.params) mg base CX0 k f fd [x] (spD (K w.params) (zC 63))) :
  PySem.W.WalkO q loose XP YP l.row.toRowW d [] (λf vs=>PySem.call f vs):=by
 refine L2.walk_of (n:=63) (k:=k) (x:=x) (CX:=λ_=>CX0) (sp:=λw=>spD (K w.params) (zC 63)) hn (by decide) hdf hr hY ?_ ?_ λ_ _ _ _ _ z=>z
 ·intro w mg fa h KX G hmg
  rw[hd] at hmg
  obtain⟨f,fd,hm,hb,hF⟩:=F w mg h KX G
  rw[hmg] at hm;cases hm
  exact⟨fd,λs u=>.of_eq (hb [u] rfl),λbase _ _=>hF base⟩
 ·intro w H a ns hl hO hS
  exact⟨[.lst (ns.map .int)],λd=>d = .bl true,.cons (.lst (LJ hO hS) .ints) .nil,⟨ns,rfl,hl,rfl⟩,λd v H' e _ r=>by subst e;exact r.bl_inv⟩
noncomputable def eqL (f:D->D->Option Bool):List D->List D->Option Bool
 | [],[]=>some true
 | [],_::_=>some false
 | _::_,[]=>some false
 | x::xs,y::ys=>match f x y,eqL f xs ys with
  | some a,some b=>some (a && b)
  | _,_=>none
noncomputable def eqF:Nat->D->D->Option Bool
 | 0,_,_=>none
 | n+1,d,e=>match d,e with
  | .int a,.int b=>some (decide (a=b))
  | .bl a,.bl b=>some (decide (a=b))
  | .non,.non=>some true
  | .non,.tup _=>some false
  | .tup _,.non=>some false
  | .tup xs,.tup ys=>eqL (eqF n) xs ys
  | .lst xs,.lst ys=>eqL (eqF n) xs ys
  | _,_=>none
theorem lM {f:D->D->Option Bool}:∀{xs ys:List D} {b:Bool},eqL f xs ys=some b->∀(j:Nat) (x y:D),xs[j]? = some x->ys[j]? = some y->∃c,f x y=some c
 | [],_,_,_,j,x,y,e,_=>by simp at e
 | _::_,[],_,_,j,x,y,_,e=>by simp at e
 | a::xs,c::ys,b,h,j,x,y,e1,e2=>by
  unfold eqL at h
  split at h
  ·rename_i p q hp hq
   cases j with
   | zero=>simp at e1 e2;subst e1 e2;exact⟨p,hp⟩
   | succ j=>exact lM hq j x y (by simpa using e1) (by simpa using e2)
  ·cases h
theorem jE {f:D->D->Option Bool}:∀{xs ys:List D} {b:Bool},eqL f xs ys=some b ->
  ((List.range (min xs.length ys.length)).all (λj=>match xs[j]?,ys[j]? with | some x,some y=>(f x y).getD false | _,_=>false) && xs.length == ys.length)=b
 | [],[],b,h=>by cases h;rfl
 | [],_::_,b,h=>by cases h;rfl
 | _::_,[],b,h=>by cases h;rfl
 | x::xs,y::ys,b,h=>by
  unfold eqL at h
  split at h
  ·rename_i p q hp hq
   cases h
   have ih:=jE hq
   rw[<-ih]
   simp only[List.length_cons,Nat.succ_min_succ,List.range_succ_eq_map,List.all_cons,List.getElem?_cons_zero,hp,Option.getD_some,List.all_map]
   rw[Bool.and_assoc]
   congr 1
   congr 1
   rw[Bool.eq_iff_iff];simp
  ·cases h
section
variable {X:Cx} {pins:List (Addr × Obj)} {σ:St} {H:Hp} {s:Shared}
theorem oH {f:D->D->Option Bool} (hf:∀{d e:D} {v:V} {b:Bool},f d e=some b->Rep X.K H d v->Rep X.K H e v->b=true):∀{xs ys:List D} {vs:List V} {b:Bool},eqL f xs ys=some b->Reps X.K H xs vs->Reps X.K H ys vs->b=true:=by
 intro xs
 induction xs with
 | nil=>intro ys vs b h q1 q2;cases q1;cases q2;cases h;rfl
 | cons x xs ih =>
  intro ys vs b h q1 q2
  cases q1 with
  | cons r t =>
   cases q2 with
   | cons r' t' =>
    unfold eqL at h
    split at h
    ·rename_i p q hp hq
     cases h
     rw[hf hp r r',ih hq t t'];rfl
    ·cases h
theorem lL (I:Inv X pins σ H s):∀(n:Nat) {d e:D} {v:V} {b:Bool},eqF n d e=some b->Rep X.K H d v->Rep X.K H e v->b=true
 | 0,_,_,_,_,h,_,_=>by cases h
 | n+1,d,e,v,b,h,r1,r2=>by
  unfold eqF at h
  split at h
  ·rw[r1.int_inv] at r2;cases r2;cases h;simp
  ·rw[r1.bl_inv] at r2;cases r2;cases h;simp
  ·cases h;rfl
  ·cases r1;cases r2
  ·cases r2;cases r1
  ·rename_i xs ys
   cases r1 with
   | @tup a vs _ h1 q1 =>
    cases r2 with
    | @tup _ ws _ h2 q2 =>
     rw[h1] at h2;cases h2
     exact oH (λ{d e v b}=>lL I n) h q1 q2
  ·rename_i xs ys
   cases r1 with
   | @lst a vs _ h1 q1 =>
    cases r2 with
    | @lst _ ws _ h2 q2 =>
     rw[I.list_inj h2.sq h1.sq] at q2
     exact oH (λ{d e v b}=>lL I n) h q1 q2
  ·cases h
theorem tQ (I:Inv X pins σ H s) {n:Nat} {xs ys:List D} {a c:Addr} {vs ws:List V} {b:Bool} {A:Around} (h:eqL (eqF n) xs ys=some b) (h1:SqL X.K H a vs) (q1:Reps X.K H xs vs) (h2:SqL X.K H c ws) (q2:Reps X.K H ys ws) (hu:A.units<cLine)
  (at':∀{d e:D} {v u:V} {x y:Value} {b:Bool},eqF n d e=some b->Rep X.K H d v->Rep X.K H e u->RelV v x->RelV u y->SeqAt.EqAt A.in1 s x y b):SeqAt.RcAt A s (.ref a) (.ref c) b/\SeqAt.EqAt A s (.ref a) (.ref c) b:=by
 obtain⟨its,rv,ht,_⟩:=I.list h1
 obtain⟨its2,rv2,ht2,_⟩:=I.list h2
 have l1:xs.length=its.length:=q1.length.trans rv.length
 have l2:ys.length=its2.length:=q2.length.trans rv2.length
 have rc:SeqAt.RcAt A s (.ref a) (.ref c) b:=by
  by_cases hl:xs.length=ys.length
  ·have:=SeqAt.RcAt.lists (A:=A) (s:=s) (e:=λj=>match xs[j]?,ys[j]? with | some x,some y=>(eqF n x y).getD false | _,_=>false) ht.isList ht2.isList (by simp;omega) hu (λj g1 g2=>?_)
   ·have al:=jE h
    simp only[List.size_toArray,<-l1] at this
    rw[<-hl,Nat.min_self,beq_self_eq_true,Bool.and_true] at al
    rw[al] at this
    exact this
   ·simp only[List.size_toArray] at g1 g2
    have e1:xs[j]? = some (xs[j]'(by omega)):=List.getElem?_eq_getElem _
    have e2:ys[j]? = some (ys[j]'(by omega)):=List.getElem?_eq_getElem _
    obtain⟨k,hk⟩:=lM h j _ _ e1 e2
    rw[e1,e2]
    simp only[hk,Option.getD_some]
    obtain⟨v1,f1,f2⟩:=q1.get e1
    obtain⟨v2,f3,f4⟩:=q2.get e2
    obtain⟨u1,g3,g4⟩:=rv.get f1
    obtain⟨u2,g5,g6⟩:=rv2.get f3
    have a1:its.toArray[j]=u1:=by
     have:=List.getElem?_eq_getElem g1
     rw[this] at g3
     simpa using Option.some.inj g3
    have a2:its2.toArray[j]=u2:=by
     have:=List.getElem?_eq_getElem g2
     rw[this] at g5
     simpa using Option.some.inj g5
    rw[a1,a2]
    exact at' hk f2 f4 g4 g6
  ·have al:=jE h
   have:(xs.length == ys.length)=false:=by simpa using hl
   rw[this,Bool.and_false] at al
   rw[<-al]
   exact SeqAt.RcAt.lists_lengths ht.isList ht2.isList (by simp;omega) hu
 refine⟨rc,?_⟩
 by_cases hac:a=c
 ·subst hac
  rw[I.list_inj h2 h1] at q2
  rw[oH (λ{d e v b}=>lL I n) h q1 q2]
  exact SeqAt.EqAt.same _
 ·exact SeqAt.EqAt.of_refs hac rc
theorem lX (I:Inv X pins σ H s):∀(n:Nat) {d e:D} {v u:V} {x y:Value} {b:Bool} {A:Around},eqF n d e=some b->Rep X.K H d v->Rep X.K H e u->RelV v x->RelV u y->A.units+n<cLine ->
  SeqAt.RcAt A s x y b/\SeqAt.EqAt A s x y b
 | 0,_,_,_,_,_,_,_,_,h,_,_,_,_,_=>by cases h
 | n+1,d,e,v,u,x,y,b,A,h,r1,r2,rx,ry,hu=>by
  have same:=λ(hvu:v=u)=>lL I (n+1) h r1 (hvu ▸ r2)
  unfold eqF at h
  split at h
  ·rename_i i j
   rw[r1.int_inv] at rx;rw[r2.int_inv] at ry
   obtain⟨t,rfl⟩:=rx
   obtain⟨t',rfl⟩:=ry
   cases h
   have e:decide (i=j)=(i == j):=by rw[Bool.beq_eq_decide_eq]
   rw[e]
   exact⟨SeqAt.RcAt.int_int _ _ _ _,SeqAt.EqAt.int_int _ _ _ _⟩
  ·rename_i i j
   rw[r1.bl_inv] at rx;rw[r2.bl_inv] at ry
   cases rx;cases ry
   cases h
   have e:decide (i=j)=(i == j):=by rw[Bool.beq_eq_decide_eq]
   rw[e]
   exact⟨SeqAt.RcAt.bool_bool _ _,SeqAt.EqAt.bool_bool _ _⟩
  ·cases r1;cases r2;cases rx;cases ry;cases h
   exact⟨SeqAt.RcAt.none_none,SeqAt.EqAt.same _⟩
  ·cases r1
   cases r2 with
   | tup h2 q2 =>
    cases rx;cases ry;cases h
    obtain⟨its,rv,ht,_⟩:=I.tuple (SqT.of h2)
    exact⟨SeqAt.RcAt.none_tuple ht (by omega),SeqAt.EqAt.none_tuple ht (by omega)⟩
  ·cases r2
   cases r1 with
   | tup h2 q2 =>
    cases rx;cases ry;cases h
    obtain⟨its,rv,ht,_⟩:=I.tuple (SqT.of h2)
    exact⟨SeqAt.RcAt.tuple_none ht (by omega),SeqAt.EqAt.tuple_none ht (by omega)⟩
  ·rename_i xs ys
   cases r1 with
   | @tup a vs _ h1 q1 =>
    cases r2 with
    | @tup c ws _ h2 q2 =>
     cases rx;cases ry
     obtain⟨its,rv,ht,_⟩:=I.tuple (SqT.of h1)
     obtain⟨its2,rv2,ht2,_⟩:=I.tuple (SqT.of h2)
     have l1:xs.length=its.length:=q1.length.trans rv.length
     have l2:ys.length=its2.length:=q2.length.trans rv2.length
     have rc:SeqAt.RcAt A s (.ref a) (.ref c) b:=by
      have:=SeqAt.RcAt.tuples (A:=A) (s:=s) (e:=λj=>match xs[j]?,ys[j]? with | some x,some y=>(eqF n x y).getD false | _,_=>false) ht ht2 (by omega) (λj g1 g2=>?_)
      ·simp only[List.size_toArray,<-l1,<-l2] at this
       rw[jE h] at this
       exact this
      ·simp only[List.size_toArray] at g1 g2
       have e1:xs[j]? = some (xs[j]'(by omega)):=List.getElem?_eq_getElem _
       have e2:ys[j]? = some (ys[j]'(by omega)):=List.getElem?_eq_getElem _
       obtain⟨k,hk⟩:=lM h j _ _ e1 e2
       rw[e1,e2]
       simp only[hk,Option.getD_some]
       obtain⟨v1,f1,f2⟩:=q1.get e1
       obtain⟨v2,f3,f4⟩:=q2.get e2
       obtain⟨u1,g3,g4⟩:=rv.get f1
       obtain⟨u2,g5,g6⟩:=rv2.get f3
       have a1:its.toArray[j]=u1:=by
        have:=List.getElem?_eq_getElem g1
        rw[this] at g3
        simpa using Option.some.inj g3
       have a2:its2.toArray[j]=u2:=by
        have:=List.getElem?_eq_getElem g2
        rw[this] at g5
        simpa using Option.some.inj g5
       rw[a1,a2]
       exact (lX I n hk f2 f4 g4 g6 (by show A.units+1+n<cLine;omega)).2
     refine⟨rc,?_⟩
     by_cases hac:a=c
     ·subst hac
      rw[same rfl]
      exact SeqAt.EqAt.same _
     ·exact SeqAt.EqAt.of_refs hac rc
  ·rename_i xs ys
   cases r1 with
   | @lst a vs _ h1 q1 =>
    cases r2 with
    | @lst c ws _ h2 q2 =>
     cases rx;cases ry
     exact tQ I h h1.sq q1 h2.sq q2 (by omega) λ{d e v u x y b} hk f2 f4 g4 g6=>(lX I n hk f2 f4 g4 g6 (by show A.units+1+n<cLine;omega)).2
  ·cases h
end
noncomputable def dEq:R22:=λx y Q=>match eqF 6 x y with
 | some b=>Q (.bl b)
 | none=>False
section
variable {X:Cx}
theorem JS {X:Cx} {pins:List (Addr × Obj)} {σ:St} {H:Hp} {s:Shared} (I:Inv X pins σ H s) {d e:D} {v u:V} {x y:Value} {b:Bool} {A:Around} (h:eqF 6 d e=some b) (r1:RepB X.K H d v) (r2:RepB X.K H e u) (rx:RelV v x) (ry:RelV u y) (hu:A.units+6<cLine):SeqAt.RcAt A s x y b:=by
 by_cases hl:∃xs ys,d = .lst xs/\e = .lst ys
 ·obtain⟨xs,ys,rfl,rfl⟩:=hl
  obtain⟨a,vs,rfl,h1,q1⟩:=r1.lst
  obtain⟨c,ws,rfl,h2,q2⟩:=r2.lst
  cases rx;cases ry
  exact (tQ I (n:=5) h h1 q1 h2 q2 (by omega) λ{d e v u x y b} hk f2 f4 g4 g6=>(lX I 5 hk f2 f4 g4 g6 (by show A.units+1+5<cLine;omega)).2).1
 ·have p1:Rep X.K H d v:=by
   rcases r1 with r | ⟨ds,a,vs,e1,_⟩
   ·exact r
   ·subst e1;cases e <;> first | (cases h;done) | exact absurd ⟨_,_,rfl,rfl⟩ hl
  have p2:Rep X.K H e u:=by
   rcases r2 with r | ⟨ds,a,vs,e1,_⟩
   ·exact r
   ·subst e1;cases d <;> first | (cases h;done) | exact absurd ⟨_,_,rfl,rfl⟩ hl
  exact (lX I 6 h p1 p2 rx ry hu).1
theorem DM {k:Nat} (hr:Room k X.A):OpD X (compareOp .Eq) dEq:=by
 intro pins s σ H x y v u Q I rx ry hh_0
 obtain⟨d,e,P,r1,r2,q,kk⟩:=hh_0
 unfold dEq at q
 split at q
 ·rename_i b hb
  have hu:=hr.units
  exact JS I (A:=X.A) hb r1 r2 rx ry (by omega) _ _ _ _ ⟨.bl b,H,I,rfl,kk _ _ H q (Same.refl H) (.bl b)⟩
 ·exact q.elim
end
theorem iF (env:Env):∀(names:List (Str × NameKind)) (acc:List (Str × Addr)),(∀y∈names,y.2 = .free->∃c,env.cells.lookup y.1=some c) ->
  ∃cl:List (Str × Addr),(do
   let mut cs:=acc
   for (name,kind) in names do
    if kind == .free then cs:=(name,<-cellOf env name)::cs
   return cs:Sem (List (Str × Addr)))=pure cl/\(∀p∈cl,p∈acc\/env.cells.lookup p.1=some p.2)/\(∀p∈acc,p∈cl)/\∀y∈names,y.2 = .free->∃c,(y.1,c)∈cl
 | [],acc,_=>⟨acc,by simp,λp h=>.inl h,λp h=>h,λy h=>by simp at h⟩
 | (n,k)::r,acc,h=>by
  by_cases hk:k = .free
  ·subst hk
   obtain⟨c,hc⟩:=h _ List.mem_cons_self rfl
   obtain⟨cl,e,h1,h2,h3⟩:=iF env r ((n,c)::acc) λy hy=>h y (List.mem_cons_of_mem _ hy)
   refine⟨cl,?_,λp hp=>?_,λp hp=>h2 p (List.mem_cons_of_mem _ hp),λy hy hf=>?_⟩
   ·rw[<-e]
    have hcell:cellOf env n=pure c:=by unfold cellOf;rw[hc]
    simp only[List.forIn_cons,hcell,beq_self_eq_true,if_true,pure_bind]
   ·rcases h1 p hp with q | q
    ·rcases List.mem_cons.mp q with rfl | q
     ·exact .inr hc
     ·exact .inl q
    ·exact .inr q
   ·rcases List.mem_cons.mp hy with rfl | hy
    ·exact⟨c,h2 _ List.mem_cons_self⟩
    ·exact h3 y hy hf
  ·obtain⟨cl,e,h1,h2,h3⟩:=iF env r acc λy hy=>h y (List.mem_cons_of_mem _ hy)
   refine⟨cl,?_,h1,h2,λy hy hf=>?_⟩
   ·rw[<-e]
    have hb:(k == NameKind.free)=false:=by simpa using hk
    simp only[List.forIn_cons,hb,Bool.false_eq_true,if_false,pure_bind]
   ·rcases List.mem_cons.mp hy with rfl | hy
    ·exact absurd hf hk
    ·exact h3 y hy hf
theorem jS {α:Type}:∀{l:List (Str × α)} {x:Str} {c:α},(x,c)∈l->∃c',l.lookup x=some c'
 | [],_,_,h=>by simp at h
 | (y,d)::r,x,c,h=>by
  rw[List.lookup_cons]
  cases e:x == y with
  | true=>exact⟨d,rfl⟩
  | false =>
   rcases List.mem_cons.mp h with q | q
   ·cases q;rw[beq_self_eq_true] at e;cases e
   ·exact jS q
theorem nW {scope:Scope} {env:Env} (h:∀y∈scope.names,y.2 = .free->∃c,env.cells.lookup y.1=some c) :
  ∃cl,closureFor scope env=pure cl/\(∀x c,cl.lookup x=some c->env.cells.lookup x=some c)/\∀y∈scope.names,y.2 = .free->∃c,cl.lookup y.1=some c:=by
 obtain⟨cl,e,h1,_,h3⟩:=iF env scope.names [] h
 refine⟨cl,e,λx c hx=>?_,λy hy hf=>?_⟩
 ·rcases h1 _ (PySem.mem_of_lookup hx) with q | q
  ·simp at q
  ·exact q
 ·obtain⟨c,hc⟩:=h3 y hy hf
  exact jS hc
noncomputable def fW (X:Cx) (scope:Scope) (N:List Str) (cl:List (Str × Addr)) (C:Addr) (s:Shared) (H:Hp) (fp:List Addr):Cx where
 prog:=X.prog
 w:=X.w
 K:=X.K
 mg:=X.mg
 base:=X.base
 A:=X.A
 N:=N
 s₀:=s
 H₀:=H
 env:=compEnvC scope cl C X.env
 outer:=X.stack
 stack:=X.stack
 ex:=fp
 fn:=λ_=>false
 calm:=X.calm
 pn:=[]
 xe:=λ_ _=>False
structure CScope (X:Cx) (scope:Scope):Prop where
 kind:scope.kind = .function
 nocell:∀y∈scope.names,y.2≠.cell
 locs:∀y∈scope.names,y.2 = .local->scope.names.lookup y.1=some .local
 frees:∀y∈scope.names,y.2 = .free->X.env.kindOf y.1=some .cell\/X.env.kindOf y.1=some .free
theorem dG {env:Env}:∀{names:List (Str × NameKind)} {x:Str} {k:NameKind},(names.map λ(n,k)=>if (k == NameKind.free && env.scope.kind == .function && env.kindOf n == some .cell) then (n,NameKind.cell) else (n,k)).lookup x=some k ->
  (k = .cell\/k = .free)->(∀y∈names,y.2≠.cell)->(x,.free)∈names
 | [],_,_,h,_,_=>by simp at h
 | (n,j)::r,x,k,h,hk,hn=>by
  have h:List.lookup x ((if (j == NameKind.free && env.scope.kind == .function && env.kindOf n == some .cell)=true then (n,NameKind.cell) else (n,j))::r.map λ(n,k)=>if (k == NameKind.free && env.scope.kind == .function && env.kindOf n == some .cell) then (n,NameKind.cell) else (n,k))=some k:=h
  have hn':∀y∈r,y.2≠.cell:=λy hy=>hn y (List.mem_cons_of_mem _ hy)
  cases hx:x == n with
  | true =>
   have e:x=n:=eq_of_beq hx
   subst e
   by_cases hc:(j == NameKind.free && env.scope.kind == .function && env.kindOf x == some .cell)=true
   ·have hj:j = .free:=by
     rw[Bool.and_eq_true,Bool.and_eq_true] at hc
     exact eq_of_beq hc.1.1
    subst hj
    exact List.mem_cons_self
   ·rw[if_neg hc,List.lookup_cons,beq_self_eq_true] at h
    cases h
    rcases hk with rfl | rfl
    ·exact absurd rfl (hn _ List.mem_cons_self)
    ·exact List.mem_cons_self
  | false =>
   by_cases hc:(j == NameKind.free && env.scope.kind == .function && env.kindOf n == some .cell)=true
   ·rw[if_pos hc,List.lookup_cons,hx] at h
    exact List.mem_cons_of_mem _ (dG h hk hn')
   ·rw[if_neg hc,List.lookup_cons,hx] at h
    exact List.mem_cons_of_mem _ (dG h hk hn')
section
variable {X:Cx} {pins:List (Addr × Obj)} {σ:St} {H:Hp} {s:Shared} {scope:Scope} {N:List Str} {cl:List (Str × Addr)} {C:Addr} {fp:List Addr}
theorem FN (I:Inv X pins σ H s) (Sc:CScope X scope) (hcl:∀x c,cl.lookup x=some c->X.env.cells.lookup x=some c) (hall:∀y∈scope.names,y.2 = .free->∃c,cl.lookup y.1=some c)
  (hC:s.heap.objs.size<=C) (hf:∀b∈fp,lT X pins H b) (hlt:∀b∈fp,b<s.heap.objs.size):(fW X scope N cl C s H fp).Ok:=by
 refine⟨I.ok.mod,Sc.kind,I.ok.glob,I.ok.blt,hC,λx y c h1 h2=>I.ok.inj x y c (hcl x c h1) (hcl y c h2),λx hx=>?_,λx c hx=>absurd (show false=true from hx) Bool.false_ne_true,I.ok.hd,I.ok.frames,.inl rfl,λb hb=>?_,I.bs,Nat.le_trans I.ok.bsz I.sz,λb o e hb=>?_,λb hb hfs=>?_,I.stack,I.stkFree⟩
 ·have hx:(scope.names.map λ(n,k)=>if (k == NameKind.free && X.env.scope.kind == .function && X.env.kindOf n == some .cell) then (n,NameKind.cell) else (n,k)).lookup x=some .cell\/(scope.names.map λ(n,k)=>if (k == NameKind.free && X.env.scope.kind == .function && X.env.kindOf n == some .cell) then (n,NameKind.cell) else (n,k)).lookup x=some .free:=hx
  have:(x,NameKind.free)∈scope.names:=by
   rcases hx with hx | hx
   ·exact dG hx (.inl rfl) Sc.nocell
   ·exact dG hx (.inr rfl) Sc.nocell
  exact hall _ this rfl
 ·obtain⟨f0,f1,f2,f3,f4,f5⟩:=hf b hb
  exact⟨Nat.ne_of_lt (Nat.lt_of_lt_of_le (hlt b hb) hC),λx c e=>f4 x c (hcl x c e)⟩
 ·obtain⟨f0,f1,f2,f3,f4,f5⟩:=hf b hb
  rcases f3 with z | z
  ·exact I.ok.noex b o e z
  ·have h1:=(Heap.lt_size e)
   have h2:=I.ok.bsz
   exact absurd (Nat.lt_of_lt_of_le h1 (Nat.le_trans h2 z)) (Nat.lt_irrefl _)
 ·obtain⟨f0,f1,f2,f3,f4,f5⟩:=hf b hb
  rcases List.mem_cons.mp (I.stkSub b hfs) with e | e
  ·exact f1 e
  ·exact f2 e
noncomputable def rK (σ:St) (k:Nat) (ix:List Nat):St:=List.replicate k none++ix.map λi=>(σ[i]?).join
theorem BH (I:Inv X pins σ H s) (Sc:CScope X scope) (hcl:∀x c,cl.lookup x=some c->X.env.cells.lookup x=some c) (hall:∀y∈scope.names,y.2 = .free->∃c,cl.lookup y.1=some c)
  {s4:Shared} {m:Str->Option Value} {k:Nat} {ix:List Nat} {ys:List Str} (hC:s.heap.objs.size<=C) (hf:∀b∈fp,lT X pins H b) (hlt:∀b∈fp,b<s.heap.objs.size)
  (hk4:∀b o,s.heap.get? b=some o->s4.heap.get? b=some o) (hos:s4.os=s.os) (hb:AllBare s4.gens) (hns:s4.heap.Ns C m)
  (hN:N.length=k+ys.length) (hdrop:N.drop k=ys) (hix:ix.length=ys.length) (hiy:∀(j:Nat) (y:Str) (i:Nat),ys[j]? = some y->ix[j]? = some i->X.N[i]? = some y/\(y,NameKind.free)∈scope.names)
  (hkind:∀y∈ys,(relabel scope X.env).names.lookup y=some .cell\/(relabel scope X.env).names.lookup y=some .free) :
  Inv (fW X scope N cl C s H fp) [] (rK σ k ix) H s4:=by
 have hfr:H C=none:=I.hok.fresh hC
 refine⟨FN I Sc hcl hall hC hf hlt,hos,hb,Un.kept hk4,⟨m,hns,λi x v e1 e2 e3=>?_⟩,λx c e=>?_,hfr,λx c e=>I.freeC x c (hcl x c e),λp hp=>absurd (show p∈([]:List (Addr × Obj)) from hp) (by simp),I.hok.kept hk4,?_⟩
 ·unfold rK at e2
  by_cases hik:i<k
  ·rw[List.getElem?_append_left (by simpa using hik),List.getElem?_replicate,if_pos hik] at e2
   cases e2
  ·rw[List.getElem?_append_right (by simpa using hik),List.length_replicate,List.getElem?_map] at e2
   cases eo:ix[i-k]? with
   | none=>rw[eo] at e2;cases e2
   | some o =>
    rw[eo] at e2
    have e2:some ((σ[o]?).join)=some (some v):=e2
    have e2':σ[o]? = some (some v):=by
     cases q:σ[o]? with
     | none=>rw[q] at e2;cases e2
     | some z=>rw[q] at e2;cases e2;rfl
    have ey:ys[i-k]? = some x:=by
     rw[<-hdrop,List.getElem?_drop]
     rw[show k+(i-k)=i by omega]
     exact e1
    obtain⟨h1,h2⟩:=hiy _ _ _ ey eo
    have hv:Vis X.env.scope x:=by
     rcases Sc.frees _ h2 rfl with q | q
     ·exact .inr (.inl q)
     ·exact .inr (.inr q)
    obtain⟨m0,hn0,hl0⟩:=I.loc
    obtain⟨u,ru,lu⟩:=hl0 o x v h1 e2' hv
    refine⟨u,ru,.inr ⟨hkind x (List.mem_of_getElem? ey),?_⟩⟩
    obtain⟨c,hc⟩:=hall _ h2 rfl
    refine⟨c,hc,?_⟩
    rcases lu with ⟨q,_⟩ | ⟨_,c',hc',hcell⟩
    ·rcases Sc.frees _ h2 rfl with z | z
     ·rw[z] at q;cases q
     ·rw[z] at q;cases q
    ·have:=hcl x c hc
     rw[this] at hc';cases hc'
     obtain⟨oc,ho,hd⟩:=hcell
     exact⟨oc,hk4 _ _ ho,hd⟩
 ·obtain⟨v,oc,ho,hd⟩:=I.cell x c (hcl x c e)
  exact⟨v,oc,hk4 _ _ ho,hd⟩
 ·unfold rK
  show _=N.length
  rw[List.length_append,List.length_replicate,List.length_map,hix,hN]
end
theorem zK {prog:Program} {w:World} {A:Around} {R:Result->Shared->Prop} {s:Shared} {elt target iter:Expr} {scope:Scope} {pos:Pos} {it acc:Value} {env:Env} (I:Nat->Shared->Prop)
  (turn:∀n s,I n s->∀E:Value->Shared->Prop,wpAny (model prog w) A (pyNext it) (λr s₁=>match r with
   | none=>R (.ok .next) s₁
   | some v=>wpAny (model prog w) A (letOwnedTupleGo target it v) (λ_ s₁=>wpAny (model prog w) A (assign target env v) (λ_ s₂=>wpAny (model prog w) A (eval elt env) (λx s₃ =>
     wpAny (model prog w) A (call (.builtin "list.append") [acc,x]) (λ_ s₄=>∃m,m<n/\I m s₄) E s₃) E s₂) E s₁) E s₁) E s)
  (n:Nat) (h:I n s):codeAny (model prog w) A (.compLoop (.ListComp elt [⟨target,iter,[],0⟩] scope pos) 0 it acc env) R s:=by
 refine codeAny_loop rfl I (λn s hI=>?_) n h
 show wpAny _ _ ((compTurn (.ListComp elt [⟨target,iter,[],0⟩] scope pos) 0 it acc env).onRaise (λx=>do noteFrame x env;theTreesLotGoes x)) _ _ s
 refine wpAny_noted ?_
 rw[compTurn_list1]
 refine wpAny_bind (wpAny_standAt (wpAny_bind (wpAny_mono (turn n s hI _) (λr s₁ h₁=>?_) λ_ _ h'=>h')))
 cases r with
 | none=>exact wpAny_pure h₁
 | some v =>
  refine wpAny_bind (wpAny_mono h₁ (λ_ s₁' h₁'=>?_) λ_ _ h'=>h')
  exact wpAny_bind (wpAny_mono h₁' (λ_ s₂ h₂=>wpAny_bind (wpAny_bind (wpAny_mono h₂ (λx s₃ h₃=>wpAny_bind (wpAny_mono h₃
   (λ_ s₄ h₄=>wpAny_pure (wpAny_pure ⟨rfl,h₄⟩)) λ_ _ h'=>h')) λ_ _ h'=>h'))) λ_ _ h'=>h')
noncomputable def eN (g:RG) (te:RE):List D->En->List D->(List D->Prop)->Prop
 | [],_,acc,Q=>Q acc
 | x::xs,ρ,acc,Q=>g x ρ λρ'=>te ρ' λd=>eN g te xs ρ' (acc++[d]) Q
noncomputable def rJ (ρ:En) (i:Nat):Option S:=match ρ[i]? with
 | some (some (.d d))=>some (.d d)
 | _=>none
noncomputable def jH (ρ:En) (k:Nat) (ix:List Nat):En:=List.replicate k none++ix.map (rJ ρ)
theorem JL {X X':Cx} {ρ:En} {σ:St} {H:Hp} {k:Nat} {ix:List Nat} (so:StOk X ρ σ H) (hK:X'.K=X.K) (hH:X'.H₀=H):StOk X' (jH ρ k ix) (rK σ k ix) H:=by
 have own:∀(i:Nat) (x:S),(jH ρ k ix)[i]? = some (some x)->∃d,x = .d d:=λi x e=>by
  unfold jH at e
  by_cases hik:i<k
  ·rw[List.getElem?_append_left (by simpa using hik),List.getElem?_replicate,if_pos hik] at e;cases e
  ·rw[List.getElem?_append_right (by simpa using hik),List.getElem?_map] at e
   cases eo:ix[i-(List.replicate k (none:Option S)).length]? with
   | none=>rw[eo] at e;cases e
   | some o =>
    rw[eo] at e
    have e:some (rJ ρ o)=some (some x):=e
    have e:=Option.some.inj e
    unfold rJ at e
    split at e <;> cases e
    exact⟨_,rfl⟩
 refine⟨by simp[jH,rK],by rw[hH];exact Same.refl H,λi x e=>?_,λi j x y v u a e1 _ _ _ o _=>by
  obtain⟨d,rfl⟩:=own i x e1
  exact o.elim⟩
 unfold jH at e
 by_cases hik:i<k
 ·rw[List.getElem?_append_left (by simpa using hik),List.getElem?_replicate,if_pos hik] at e;cases e
 ·rw[List.getElem?_append_right (by simpa using hik),List.getElem?_map,List.length_replicate] at e
  cases eo:ix[i-k]? with
  | none=>rw[eo] at e;cases e
  | some o =>
   rw[eo] at e
   have e:some (rJ ρ o)=some (some x):=e
   have e:=Option.some.inj e
   unfold rJ at e
   split at e
   ·rename_i d ed
    cases e
    obtain⟨v,h1,h2⟩:=so.rel o _ ed
    refine⟨v,?_,by rw[hK];exact h2⟩
    unfold rK
    rw[List.getElem?_append_right (by simpa using hik),List.getElem?_map,List.length_replicate,eo,Option.map_some,h1];rfl
   ·cases e
section
variable {X:Cx} {pins:List (Addr × Obj)} {σ:St} {H:Hp} {s2:Shared} {scope:Scope} {N:List Str} {cl:List (Str × Addr)} {fp:List Addr} {it:Addr} {tn:Nat->Heap->Prop} {J:It} {xs:List D} {ρ:En}
 {elt target iter:Expr} {pos:Pos} {g:RG} {te:RE} {k:Nat} {ix:List Nat} {ys:List Str} {P:List D->Prop}
theorem _root_.L2.Inv.track {s s':Shared} {H H':Hp} {a:Addr} {vs:List V} {its:List Value} {n:Nat} (I:Inv X pins σ H s) (I':Inv X pins σ H' s') (ha:s.heap.objs.size<=a) (hn:H' a=none)
  (e:s'.heap.get? a=some { cls:=.type "list",data:=.seq its.toArray n }) (rv:Vals vs its) (hz:vs.length<=sizeLine):Inv X pins σ (upd H' a (.lst vs)) s':=by
 have hL:X.env.locals≠a:=Nat.ne_of_lt (Nat.lt_of_lt_of_le I.lt ha)
 have hcell:∀x c,X.env.cells.lookup x=some c->c≠a:=λx c q z=>by
  obtain⟨v,hv⟩:=I.cell x c q
  exact absurd (Nat.lt_of_lt_of_le hv.lt (by rw[z];exact ha)) (Nat.lt_irrefl _)
 have hs0:∀{b:Addr} {o:Obj},X.s₀.heap.get? b=some o->b≠a:=λ{b o} q=>Nat.ne_of_lt (Nat.lt_of_lt_of_le (Heap.lt_size q) (Nat.le_trans I.sz ha))
 refine⟨I'.ok,I'.os,I'.bare,⟨I'.base.keep,I'.base.slot,λb o q n hx=>?_,I'.base.there,λb ys q=>?_,λb o u q=>?_,λb ps q=>?_⟩,I'.loc,I'.cell,?_,λx c q=>?_,λp hp=>?_,λb u q=>?_,I'.len⟩
 ·rw[aE (hs0 q)];exact I'.base.free b o q n hx
 ·rw[aE (aH (I'.base.tups b ys q) hn)];exact I'.base.tups b ys q
 ·rw[aE (aH (I'.base.frzs b o u q) hn)];exact I'.base.frzs b o u q
 ·obtain⟨m,q2⟩:=I'.base.tbls b ps q
  exact⟨m,by rw[aE (aH q2 hn)];exact q2⟩
 ·rw[aE hL];exact I'.free
 ·rw[aE (hcell x c q)];exact I'.freeC x c q
 ·obtain⟨q1,q2,q3,q4,q5⟩:=I'.pin p hp
  have hp1:p.1≠a:=Nat.ne_of_lt (Nat.lt_of_lt_of_le (Heap.lt_size (I.pin p hp).1) ha)
  exact⟨q1,by rw[aE hp1];exact q2,q3,q4,q5⟩
 ·by_cases hb:b=a
  ·subst hb
   rw[aQ] at q;cases q
   exact⟨hz,its,n,rv,e⟩
  ·rw[aE hb] at q
   exact (I'.hok b u q).stay (λc v _ w=>w) (λc w=>by rw[aE (aH w hn)];exact w) λc ys w=>by rw[aE (aH w hn)];exact w
theorem qM (hc:X.calm=true) (Sc:CScope X scope) (hcl:∀x c,cl.lookup x=some c->X.env.cells.lookup x=some c) (hall:∀y∈scope.names,y.2 = .free->∃c,cl.lookup y.1=some c)
  (hN:N.length=k+ys.length) (hdrop:N.drop k=ys) (hix:ix.length=ys.length) (hiy:∀(j:Nat) (y:Str) (i:Nat),ys[j]? = some y->ix[j]? = some i->X.N[i]? = some y/\(y,NameKind.free)∈scope.names)
  (hkind:∀y∈ys,(relabel scope X.env).names.lookup y=some .cell\/(relabel scope X.env).names.lookup y=some .free)
  (hg:∀C s H fp,DG (fW X scope N cl C s H fp) target g) (he:∀C s H fp,DE (fW X scope N cl C s H fp) elt te)
  (I2:Inv X pins σ H s2) (so:StOk X ρ σ H) (T:Turn X.prog X.w X.K target J fp it tn) (st:tn 0 s2.heap) (hf:∀b∈fp,lT X pins H b) (ok:AV X J xs H) (hz:xs.length<=sizeLine)
  (hP:eN g te xs (jH ρ k ix) [] P) {RR:Value->Addr->Result->Shared->Prop} {E:Value->Shared->Prop}
  (post:∀(ds:List D) (vs:List V) (its:List Value) (n:Nat) (C:Addr) (s':Shared) (H':Hp),P ds->Same H H'->H' s2.heap.objs.size=none->Reps X.K H' ds vs->Vals vs its->vs.length<=sizeLine ->
   s'.heap.get? s2.heap.objs.size=some { cls:=.type "list",data:=.seq its.toArray n }->Inv X pins σ H' s'->(∃m,s'.heap.Ns C m)->s2.heap.objs.size<C->H' C=none->RR (.ref s2.heap.objs.size) C (.ok .next) s') :
  wpAny (model X.prog X.w) X.A (newList []) (λacc s₃=>wpAny (model X.prog X.w) X.A (newFunctionEnv scope X.env.globals cl [] X.env.qual none .none (some X.env)) (λcenv s₄ =>
   codeAny (model X.prog X.w) X.A (.compStart (.ListComp elt [⟨target,iter,[],0⟩] scope pos) 0 (.ref it) acc { cenv with scope:=relabel scope X.env }) (RR acc cenv.locals) s₄) E s₃) E s2:=by
 refine wpAny_newObj_type (wpAny_newFunctionEnv Sc.nocell (by intro y hy;simp at hy) (λh₁ hns₁ hsb₁=>?_) Sc.kind)
 dsimp only at hns₁ hsb₁ ⊢
 generalize hH2:s2.heap.push { cls:=.type "list",dict:=none,data:=.seq ([]:List Value).toArray } = HP2 at hns₁ hsb₁ ⊢
 have hCs:HP2.objs.size=s2.heap.objs.size+1:=by rw[<-hH2,Heap.size_push]
 have hltC:s2.heap.objs.size<HP2.objs.size:=by rw[hCs];exact Nat.lt_succ_self _
 have hlt:∀b∈fp,b<s2.heap.objs.size:=λb hb=>by
  obtain⟨o,ho,_⟩:=T.obj 0 _ st b hb
  exact Heap.lt_size ho
 have old:∀b o,s2.heap.get? b=some o->h₁.get? b=some o:=λb o e =>
  hsb₁.extBut b o (Nat.ne_of_lt (Nat.lt_trans (Heap.lt_size e) hltC)) (Heap.get?_push_of_some _ (hH2 ▸ Heap.get?_push_of_some _ e))
 have hacc:h₁.get? s2.heap.objs.size=some { cls:=.type "list",data:=.seq ([]:List Value).toArray 0 } :=
  hsb₁.extBut _ _ (Nat.ne_of_lt hltC) (Heap.get?_push_of_some _ (hH2 ▸ Heap.get?_push_size _ rfl))
 have hfr:H s2.heap.objs.size=none:=I2.hok.fresh (Nat.le_refl _)
 let X':=fW X scope N cl HP2.objs.size s2 H fp
 have J0:Inv X' [] (rK σ k ix) H { s2 with heap:=h₁,toks:=s2.toks+([]:List (Str × Value)).length } :=
  BH I2 Sc hcl hall (Nat.le_of_lt hltC) hf hlt old rfl I2.bare hns₁ hN hdrop hix hiy hkind
 have S0:StOk X' (jH ρ k ix) (rK σ k ix) H:=JL so rfl rfl
 have hD0fs:s2.heap.objs.size ∉ X'.fs:=λhb=>by
  have hb:s2.heap.objs.size∈frs X.stack:=hb
  rcases List.mem_cons.mp (I2.stkSub _ hb) with e | e
  ·exact absurd (show X.env.locals<X.env.locals from Nat.lt_of_lt_of_eq I2.lt e) (Nat.lt_irrefl _)
  ·exact I2.nofs (Nat.le_refl _) e
 have fpok:∀{H':Hp} {o:Obj},(∀b∈fp,H' b=none)->∀b∈fp,lT X' [(s2.heap.objs.size,o)] H' b:=λ{H' o} hn b hb=>by
  obtain⟨f0,f1,f2,f3,f4,f5⟩:=hf b hb
  refine⟨hn b hb,Nat.ne_of_lt (Nat.lt_trans (hlt b hb) hltC),λhfs=>?_,.inl hb,λx c e=>f4 x c (hcl x c e),λp hp=>?_⟩
  ·rcases List.mem_cons.mp (I2.stkSub b hfs) with e | e
   ·exact f1 e
   ·exact f2 e
  ·have:p=(s2.heap.objs.size,o):=by simpa [X',fW] using hp
   subst this
   exact Nat.ne_of_gt (hlt b hb)
 have pinD:∀{σ':St} {H':Hp} {s':Shared} {its:List Value} {n:Nat},Inv X' [] σ' H' s'->H' s2.heap.objs.size=none->s'.heap.get? s2.heap.objs.size=some { cls:=.type "list",data:=.seq its.toArray n }->Inv X' [(s2.heap.objs.size,{ cls:=.type "list",data:=.seq its.toArray n })] σ' H' s':=λI' hn e =>
  I'.pins_of λp hp=>by
   have:=List.mem_singleton.mp hp
   subst this
   exact⟨e,hn,Nat.ne_of_lt hltC,hD0fs,λv z=>by cases z⟩
 have loop:∀s₃:Shared,s₃ = { s2 with heap:=h₁,toks:=s2.toks+([]:List (Str × Value)).length } ->
   codeAny (model X.prog X.w) X.A (.compLoop (.ListComp elt [⟨target,iter,[],0⟩] scope pos) 0 (.ref it) (.ref s2.heap.objs.size) (compEnvC scope cl HP2.objs.size X.env)) (RR (.ref s2.heap.objs.size) HP2.objs.size) s₃:=by
  rintro s₃ rfl
  refine zK (λm s'=>∃(i:Nat) (ρ':En) (σ':St) (H':Hp) (ds:List D) (vs:List V) (its:List Value) (n:Nat),m=xs.length-i/\i<=xs.length/\Inv X' [] σ' H' s'/\StOk X' ρ' σ' H'/\tn i s'.heap/\(∀b∈fp,H' b=none) /\
   H' s2.heap.objs.size=none/\s'.heap.get? s2.heap.objs.size=some { cls:=.type "list",data:=.seq its.toArray n }/\Reps X.K H' ds vs/\Vals vs its/\vs.length=i/\eN g te (xs.drop i) ρ' ds P) ?_ xs.length
   ⟨0,jH ρ k ix,rK σ k ix,H,[],[],[],0,rfl,Nat.zero_le _,J0,S0,T.keep _ _ _ st (λb hb o e=>old b o e),λb hb=>(hf b hb).1,hfr,hacc,.nil,.nil,rfl,by simpa using hP⟩
  rintro m s' ⟨i,ρ',σ',H',ds,vs,its,n,rfl,hi,I',S',st',fr',hn',e',rr,rv,hl,hD⟩ E'
  obtain⟨o1,o2⟩:=ok i H' (.of S'.same)
  have I1:=pinD I' hn' e'
  by_cases hlt':i<xs.length
  ·have e:xs.drop i=xs[i]::xs.drop (i+1):=List.drop_eq_getElem_cons hlt'
   rw[e] at hD
   obtain⟨go,yl⟩:=o1 xs[i] (List.getElem?_eq_getElem hlt')
   refine thn (T.item X' rfl rfl rfl hc i _ s' σ' H' E' I1 (fpok fr') st' go) λr s4 ⟨u,hr,h4⟩=>?_
   subst hr
   refine thn h4 λ_ s5 ⟨x,H5,I5,r5,y5,st5,fr5⟩=>?_
   obtain⟨s45,rx5⟩:=yl x H5 y5
   have I5':=I5.pinned (fpok fr5) (T.obj _ _ st5)
   refine wpAny_mono (hg _ _ _ _ _ s5 σ' H5 x u (λσ6 H6=>∃ρ6,te ρ6 (λd=>eN g te (xs.drop (i+1)) ρ6 (ds++[d]) P)/\Keep H5 H6/\StOk X' ρ6 σ6 H6) I5' r5 ⟨xs[i],ρ',_,rx5,S'.ext s45,hD,λρ6 σ6 H6 q6 k6 s6=>⟨ρ6,q6,k6,s6⟩⟩) (λ_ s6 ⟨σ6,H6,I6,ρ6,q6,k6,S6⟩=>?_) λ_ _ z=>z.elim
   refine wpAny_mono (he _ _ _ _ _ s6 σ6 H6 (λv H7=>∃d,eN g te (xs.drop (i+1)) ρ6 (ds++[d]) P/\Same H6 H7/\Rep X.K H7 d v) I6 ⟨ρ6,_,S6,q6,λd v H7 q7 s7 r7=>⟨d,q7,s7,r7⟩⟩) (λu7 s7 ⟨v7,H7,I7,rv7,d,q7,s67,r7⟩=>?_) λ_ _ z=>z.elim
   obtain⟨e7,n7,_,_,_⟩:=I7.pin (s2.heap.objs.size,_) (List.mem_append_right _ (List.mem_append_left _ List.mem_cons_self))
   have hsz:its.toArray.size+1<=sizeLine:=by
    rw[List.size_toArray,<-rv.length,hl]
    omega
   refine call_meets F.slot_list_append ⟨_,e7,rfl⟩ F.entry_list_append (F.args_list_append_2 _ _) (PySem.list_append s2.heap.objs.size its.toArray n u7 (by omega)) ⟨e7,?_⟩
   have e8:=PySem.IsL.update e7 (λa=>a.push u7)
   have I8:Inv X' [] σ6 H7 s7:=I7.pins_of λp hp=>absurd hp (by simp)
   have upd8:∀b o,b≠s2.heap.objs.size->s7.heap.get? b=some o->(s7.heap.update s2.heap.objs.size (Obj.mapSeq λa=>a.push u7)).get? b=some o:=λb o hb q=>(Heap.get?_update_other s7.heap _ (Ne.symm hb)).trans q
   have I9:Inv X' [] σ6 H7 { s7 with heap:=s7.heap.update s2.heap.objs.size (Obj.mapSeq λa=>a.push u7) } :=
    I8.turned (t':=s7.toks) upd8 n7 (Nat.ne_of_lt hltC) (.inr (Nat.le_refl _)) (λx c q z=>by
     obtain⟨v,hv⟩:=I2.cell x c (hcl x c q)
     exact absurd hv.lt (by rw[z];exact Nat.lt_irrefl _)) (λp hp=>absurd (show p∈([]:List (Addr × Obj)) from hp) (by simp))
   have k57:Keep H5 H7:=k6.trans (.of s67)
   have k':Keep H' H7:=(Keep.of s45).trans k57
   refine⟨xs.length-(i+1),by omega,i+1,ρ6,σ6,H7,ds++[d],vs++[v7],its++[u7],_,rfl,hlt',I9,S6.ext s67,?_,λb hb=>?_,n7,by simpa using e8,(rr.keep k').append (.cons r7 .nil),rv.append (.cons rv7 .nil),by rw[List.length_append,hl];rfl,q7⟩
   ·refine T.keep _ _ _ st5 λb hb o q=>?_
    have q7':=(I7.pin (b,o) (List.mem_append_right _ (List.mem_append_right _ (gO hb q)))).1
    exact upd8 b o (Nat.ne_of_lt (hlt b hb)) q7'
   ·obtain⟨o,q,_⟩:=T.obj _ _ st5 b hb
    exact (I7.pin (b,o) (List.mem_append_right _ (List.mem_append_right _ (gO hb q)))).2.1
  ·have hie:i=xs.length:=by omega
   subst hie
   rw[List.drop_length] at hD
   refine thn (T.done X' rfl rfl rfl hc _ _ s' σ' H' E' I1 (fpok fr') st' (o2 (Nat.le_refl _))) λr s4 ⟨hr,I4⟩=>?_
   subst hr
   obtain⟨e4,n4,_,_,_⟩:=I4.pin (s2.heap.objs.size,_) (List.mem_append_right _ List.mem_cons_self)
   obtain⟨m4,hn4,_⟩:=I4.loc
   have I5:Inv X pins σ H' s4:=I2.call' (ch:=fp) I4.os I4.base I4.hok I4.bare λb hb=>by
    obtain⟨f0,f1,f2,f3,f4,f5⟩:=hf b hb
    exact⟨f3,f1,f4,f5⟩
   exact post ds vs its n HP2.objs.size s4 H' hD S'.same n4 rr rv (by rw[hl];exact hz) e4 I5 ⟨m4,hn4⟩ hltC I4.free
 exact codeAny_compStart_list (loop _ rfl) (T.self X.A 0 _ _ _ (T.keep _ _ _ st λb hb o e=>old b o e) (loop _ rfl))
end
noncomputable def xO (X:Cx) (scope:Scope) (N:List Str) (k:Nat) (ix:List Nat):Bool :=
 scope.kind == .function && scope.names.all (λy=>y.2 != .cell) && scope.names.all (λy=>y.2 != .local || scope.names.lookup y.1 == some .local) &&
 scope.names.all (λy=>y.2 != .free || X.env.kindOf y.1 == some .cell || X.env.kindOf y.1 == some .free) &&
 N.length == k+ix.length && ((N.drop k).zip ix).all (λp=>X.N[p.2]? == some p.1 && scope.names.contains (p.1,.free)) &&
 (N.drop k).all (λy=>(relabel scope X.env).names.lookup y == some .cell || (relabel scope X.env).names.lookup y == some .free)
structure CompF (X:Cx) (scope:Scope) (N:List Str) (k:Nat) (ix:List Nat):Prop where
 sc:CScope X scope
 hN:N.length=k+(N.drop k).length
 hix:ix.length=(N.drop k).length
 hiy:∀(j:Nat) (y:Str) (i:Nat),(N.drop k)[j]? = some y->ix[j]? = some i->X.N[i]? = some y/\(y,NameKind.free)∈scope.names
 hkind:∀y∈N.drop k,(relabel scope X.env).names.lookup y=some .cell\/(relabel scope X.env).names.lookup y=some .free
theorem tF {X:Cx} {scope:Scope} {N:List Str} {k:Nat} {ix:List Nat} (h:xO X scope N k ix=true):CompF X scope N k ix:=by
 unfold xO at h
 simp only[Bool.and_eq_true,List.all_eq_true,bne_iff_ne,ne_eq,Bool.or_eq_true,beq_iff_eq] at h
 obtain⟨⟨⟨⟨⟨⟨h1,h2⟩,h3⟩,h4⟩,h5⟩,h6⟩,h7⟩:=h
 have hl:(N.drop k).length=ix.length:=by rw[List.length_drop];omega
 refine⟨⟨h1,h2,λy hy e=>?_,λy hy e=>?_⟩,by omega,hl.symm,λj y i e1 e2=>?_,h7⟩
 ·rcases h3 y hy with q | q
  ·exact absurd e q
  ·exact q
 ·rcases h4 y hy with (q | q) | q
  ·exact absurd e q
  ·exact .inl q
  ·exact .inr q
 ·have hm:(y,i)∈(N.drop k).zip ix:=by
   refine List.mem_of_getElem? (i:=j) ?_
   rw[List.getElem?_zip_eq_some]
   exact⟨e1,e2⟩
  obtain⟨q1,q2⟩:=h6 _ hm
  exact⟨q1,List.contains_iff_mem.mp q2⟩
noncomputable def eO (ti:RA) (k:Nat) (ix:List Nat) (g:RG) (te:RE):RA:=λρ Q=>ti ρ λxs=>Sz xs.length/\eN g te xs (jH ρ k ix) [] Q
section
variable {X:Cx} {scope:Scope} {elt target iter:Expr} {pos:Pos} {g:RG} {te:RE} {ti:RA}
theorem mM {pins:List (Addr × Obj)} {σ:St} {H H':Hp} {s s':Shared} {C:Addr} {h':Heap} {t':Nat} (I2:Inv X pins σ H s) {σ':St} (I':Inv X pins σ' H' s') (hC:s.heap.objs.size<=C) (hn:H' C=none) (hs:Heap.SameBut C s'.heap h') :
  Inv X pins σ' H' { s' with heap:=h',toks:=t' } :=
 I'.turned (λb o hb e=>(hs.2 b hb).trans e) hn (Nat.ne_of_gt (Nat.lt_of_lt_of_le I2.lt hC)) (.inr (Nat.le_trans I2.sz hC)) (λx c e z=>by
  obtain⟨v,hv⟩:=I2.cell x c e
  exact absurd (Nat.lt_of_lt_of_le hv.lt (by rw[z];exact hC)) (Nat.lt_irrefl _)) λp hp z=>absurd (Nat.lt_of_lt_of_le (Heap.lt_size (I2.pin p hp).1) (by rw[z];exact hC)) (Nat.lt_irrefl _)
theorem rQ (N:List Str) (k:Nat) (ix:List Nat) (hi:DI X target iter ti) (hg:∀cl C s H fp,DG (fW X scope N cl C s H fp) target g) (he:∀cl C s H fp,DE (fW X scope N cl C s H fp) elt te)
  (hc:X.calm=true:=by rfl) (hB:xO X scope N k ix=true:=by rfl) (hs:∀x,foldedSetIterable iter X.env x=pure x:=by intro _;rfl):DO X (.ListComp elt [⟨target,iter,[],0⟩] scope pos) (eO ti k ix g te):=by
 intro pins s σ H Q I hh_0
 obtain⟨ρ,P,so,q,kk⟩:=hh_0
 have F:=tF hB
 obtain⟨cl,hclos,hcl,hall⟩:=nW (scope:=scope) (env:=X.env) λy hy hf=>I.ok.has _ (F.sc.frees y hy hf)
 rw[eval_ListComp]
 refine wpAny_comprehension_free (use:=none) rfl hs hclos F.sc.kind F.sc.locs (thn (hi pins s σ H (λJ H'=>∃xs,Same H H'/\AV X J xs H'/\xs.length<=sizeLine/\eN g te xs (jH ρ k ix) [] P) I ⟨ρ,_,so,q,λxs J H' hx s1 ok=>⟨xs,s1,ok,hx.1.ok,hx.2⟩⟩) λv s1 h1=>thn h1 λitv s2 h2=>?_)
 obtain⟨it,fp,tn,J,H',rfl,I2,T,st,hf,xs,s01,ok,hz,hD⟩:=h2
 refine qM (RR:=λacc C=>compPost (model X.prog X.w) X.A X.xe none (EP X pins σ Q) acc C) hc F.sc hcl hall F.hN rfl F.hix F.hiy F.hkind (hg cl) (he cl) I2 (so.ext s01) T st hf ok hz hD ?_
 intro ds vs its n C s' H2 hP s12 hn rr rv hl e I' ⟨m,hns⟩ hltC hnC
 refine⟨m,hns,λh' hs'=>?_⟩
 have I3:Inv X pins σ H2 { s' with heap:=h' }:=mM (t':=s'.toks) I2 I' (Nat.le_of_lt hltC) hnC hs'
 have e3:h'.get? s2.heap.objs.size=some { cls:=.type "list",data:=.seq its.toArray n }:=(hs'.2 _ (Nat.ne_of_lt hltC)).trans e
 exact⟨.ref s2.heap.objs.size,_,I2.track I3 (Nat.le_refl _) hn e3 rv hl,rfl,kk ds _ vs H2 hP (s01.trans s12) hn rr⟩
theorem rT {i:Nat} {y:Str} {pos' spos:Pos} (N:List Str) (k:Nat) (ix:List Nat) (hN:X.N.Nodup) (hi:DI X target iter ti) (hg:∀cl C s H fp,DG (fW X scope N cl C s H fp) target g) (he:∀cl C s H fp,DE (fW X scope N cl C s H fp) elt te)
  (hy:X.N[i]? = some y:=by rfl) (hx:X.env.scope.names.lookup y=some .local:=by rfl) (hc:X.calm=true:=by rfl) (hB:xO X scope N k ix=true:=by rfl) (hs:∀x,foldedSetIterable iter X.env x=pure x:=by intro _;rfl)
  (hsw:swapsWith (.ListComp elt [⟨target,iter,[],0⟩] scope pos) (some (.Name y pos')) spos.line X.env=pure true:=by rfl) :
  DS X (.Assign [.Name y pos'] (.ListComp elt [⟨target,iter,[],0⟩] scope pos) spos) (cY i (eO ti k ix g te)):=by
 intro pins s σ H De I hh_0
 obtain⟨ρ,E,so,q,nn,rt,bk,ct⟩:=hh_0
 have F:=tF hB
 obtain⟨cl,hclos,hcl,hall⟩:=nW (scope:=scope) (env:=X.env) λy hy hf=>I.ok.has _ (F.sc.frees y hy hf)
 rw[exec_Assign_Name_used _ _ _ _ hsw]
 refine wpAny_bind (wpAny_standAt (wpAny_bind ?_))
 show wpAny _ X.A (do let _ <-comprehension (.ListComp elt [⟨target,iter,[],0⟩] scope pos) scope X.env _ (newList []) false (eval iter X.env) (some (assign (.Name y pos') X.env))) _ _ s
 refine wpAny_bind (wpAny_mono (wpAny_comprehension_free (use:=some (assign (.Name y pos') X.env)) (Q:=λ_ s'=>SP X pins De .next s') rfl hs hclos F.sc.kind F.sc.locs
  (thn (hi pins s σ H (λJ H'=>∃xs,Same H H'/\AV X J xs H'/\xs.length<=sizeLine/\eN g te xs (jH ρ k ix) [] (λds=>E.nx (ρ.set i (some (.own ds))))) I ⟨ρ,_,so,q,λxs J H' hx s1 ok=>⟨xs,s1,ok,hx.1.ok,hx.2⟩⟩) λv s1 h1=>thn h1 λitv s2 h2=>?_)) (λ_ s' hq=>wpAny_pure (wpAny_pure hq)) λ_ _ e=>e)
 obtain⟨it,fp,tn,J,H',rfl,I2,T,st,hf,xs,s01,ok,hz,hD⟩:=h2
 refine qM (RR:=λacc C=>compPost (model X.prog X.w) X.A X.xe (some (assign (.Name y pos') X.env)) (λ_ s'=>SP X pins De .next s') acc C) hc F.sc hcl hall F.hN rfl F.hix F.hiy F.hkind (hg cl) (he cl) I2 (so.ext s01) T st hf ok hz hD ?_
 intro ds vs its n C s' H2 hP s12 hn rr rv hl e I' ⟨m,hns⟩ hltC hnC
 have I3:=I2.track I' (Nat.le_refl _) hn e rv hl
 have hneC:s2.heap.objs.size≠C:=Nat.ne_of_lt hltC
 have so3:StOk X (ρ.set i (some (.own ds))) (σ.set i (some (.ref s2.heap.objs.size))) (upd H2 s2.heap.objs.size (.lst vs)):=(so.ext (s01.trans s12)).set_own hn rr
 have k3:Keep H (upd H2 s2.heap.objs.size (.lst vs)):=(Keep.of (s01.trans s12)).trans (.of λb o h=>by rw[aE (aH h hn)];exact h)
 show wpAny (model X.prog X.w) X.A (assign (.Name y pos') X.env (.ref s2.heap.objs.size)) _ _ s'
 refine wpAny_assign_Name (qY I3 hN hy (.inl hx) (v:=.ref s2.heap.objs.size) rfl (λs4 I4 ⟨a,sb,ha⟩=>?_) (.inr hx))
 have hCa:C≠a:=by
  rcases ha with rfl | ha
  ·exact Nat.ne_of_gt (Nat.lt_trans I2.lt hltC)
  ·obtain⟨v,hv⟩:=I2.cell _ a ha
   exact Nat.ne_of_gt (Nat.lt_trans hv.lt hltC)
 refine⟨m,hns.sameBut sb hCa,λh' hs'=>⟨_,_,mM (t':=s4.toks) I2 I4 (Nat.le_of_lt hltC) (by rw[aE (Ne.symm hneC)];exact hnC) hs',nn _ _ _ hP k3 so3⟩⟩
end
section
variable {X:Cx} {e a b:Expr} {pos apos cpos npos:Pos} {te:RE} {x:Str}
noncomputable def eI (i:Nat) (te:RE):RS:=λE ρ=>match ρ[i]? with
 | some (some (.own xs))=>te ρ λd=>Sz (xs.length+1)/\E.nx (ρ.set i (some (.own (xs++[d]))))
 | _=>False
theorem dR (i:Nat) (he:DE X e te) (hN:X.N[i]? = some x:=by rfl) (hv:Vis X.env.scope x:=by walk_at "vis") (hd:(x == ("__debug__":Str))=false:=by decide) (hcd:(x == ("__classdict__":Str))=false:=by decide)
  (hbase:attributeBase (.Name x npos) "append" X.env (eval (.Name x npos) X.env)=eval (.Name x npos) X.env:=by rfl)
  (hfew:((backTo cpos (starEach [e] X.env)).all (λx=>!x.1) && (backToKw cpos (keywordEach [] X.env)).all (λx=>x.1.isSome) && decide (([e]:List Expr).length+([]:List Keyword).length+(if ([]:List Keyword).isEmpty then 0 else 1)<30))=true:=by rfl)
  (hline:(apos.endLine == cpos.line)=true:=by rfl) (hs:starEach [e] X.env=[(false,eval e X.env)]:=by rfl) (hn:starEach [] X.env=[]:=by rfl) (hsw:swapsWith (.Call (.Attribute (.Name x npos) "append" apos) [e] [] cpos) none pos.line X.env=pure false:=by rfl) :
  DS X (.Expr (.Call (.Attribute (.Name x npos) "append" apos) [e] [] cpos) pos) (eI i te):=by
 refine PS.mono (nP (yL PySem.F.plainAttrs_list PySem.F.slot_list_append PySem.F.type_list_append qS (pv i hN hv hd hcd) (eL he hs hn) hbase hfew hline (by rw[hs,hn]) (by rw[hn];rfl)) hsw) λDe σ H hh=>dF hh λρ E so q n r bk ct=>?_
 unfold eI at q
 split at q
 ·rename_i xs ex
  obtain⟨v,h1,p,vs,ev,hp,h0,rr⟩:=so.rel i _ ex
  subst ev
  refine⟨.ref p,h1,.inl ⟨rfl,vs,SqL.of hp⟩,ρ,_,so,q,λd v H1 hd s1 rd=>?_⟩
  have hp1:=s1 _ _ hp
  obtain⟨so2,k2⟩:=(so.ext s1).upd_own ex h1 hp1 h0 ((rr.keep (.of s1)).append (.cons rd .nil))
  have hsz:xs.length+1<=sizeLine:=hd.1.ok
  exact⟨p,vs,v,rfl,rfl,hp1,by rw[<-rr.length];omega,n _ _ _ hd.2 ((Keep.of s1).trans k2) so2⟩
 ·exact q.elim
noncomputable def yT (i:Nat):RS:=λE ρ=>match ρ[i]? with
 | some (some (.own xs))=>xs≠[]/\E.nx (ρ.set i (some (.own xs.dropLast)))
 | _=>False
noncomputable def sR (i:Nat) (te tk:RE):RS:=λE ρ=>match ρ[i]? with
 | some (some (.own xs))=>te ρ λd=>tk ρ λkd=>match kd with
  | .int k=>match ixN xs.length k with
   | some j=>E.nx (ρ.set i (some (.own (xs.set j d))))
   | none=>False
  | _=>False
 | _=>False
end
section
variable {X:Cx} {e a b:Expr} {pos p:Pos}
theorem HC:OpR X (binaryOp .Add) (λx y H Q=>∃l b xs zs,x = .ref l/\y = .ref b/\SqL X.K H l xs/\SqL X.K H b zs/\xs.length+zs.length<=sizeLine/\∀p,H p=none->Q (.ref p) (upd H p (.lst (xs++zs)))):=by
 intro pins s σ H x y v u Q I rx ry h
 obtain⟨l,b,xs,zs,rfl,rfl,hH,hB,hz,q⟩:=h
 cases rx
 cases ry
 obtain⟨its,r,⟨o,n,e,hc,hd,hs⟩,hl⟩:=I.list hH
 obtain⟨its2,r2,⟨o2,n2,e2,hc2,hd2,hs2⟩,hl2⟩:=I.list hB
 obtain⟨c,d,dt,sl⟩:=o
 obtain⟨c2,d2,dt2,sl2⟩:=o2
 dsimp only at hc hs hd hc2 hs2 hd2
 subst hc hs hd hc2 hs2 hd2
 have hl1:=r.length
 have hl2:=r2.length
 refine concat_meets (T:="list") (id:="list.__add__") ⟨_,e,rfl⟩ ⟨_,e2,rfl⟩ (by kernel_rfl) (by kernel_rfl) PySem.F.slot_list_add PySem.F.entry_list_add (PySem.F.args_list_add_2 _ _)
  (list_addW l b its.toArray its2.toArray n n2 none none sl sl2 (by rw[List.size_toArray,List.size_toArray];omega)) ⟨e,e2,?_⟩
 have ea:its.toArray++its2.toArray=(its++its2).toArray:=by simp
 rw[ea]
 exact⟨.ref _,_,I.lnew (t':=s.toks) (r.append r2) (by rw[List.length_append];omega),rfl,q _ I.fresh⟩
noncomputable def FzQ (X:Cx) (Q:VK):VK:=λv H'=>Q v H'\/∃p vs H1,v = .ref p/\H'=upd H1 p (.lst vs)/\H1 p=none/\∀H2,Same H1 H2->FzL X.K H2 p vs->Q v H2
theorem IS {pins:List (Addr × Obj)} {σ:St} {Q:VK} {u:Value} {s:Shared} (h:EP X pins σ (FzQ X Q) u s):EP X pins σ Q u s:=by
 obtain⟨v,H',I,rv,q | ⟨p,vs,H1,rfl,rfl,hn,q⟩⟩:=h
 ·exact⟨v,H',I,rv,q⟩
 ·obtain⟨o,I2⟩:=Inv.freeze I (a:=p) (xs:=vs) aQ
  exact⟨.ref p,_,I2,rv,q _ (λb u e=>by rw[aE (aH e hn),aE (aH e hn)];exact e) (.inl ⟨o,aQ⟩)⟩
theorem PE.frz {t:TE} (h:PE X e t):PE X e (λσ H Q=>t σ H (FzQ X Q)):=λpins s σ H Q I q=>thn (h pins s σ H _ I q) λ_ _=>IS
theorem OpR.frz {f:Value->Value->Sem Value} {r:R2} (h:OpR X f r):OpR X f (λx y H Q=>r x y H (FzQ X Q)):=λpins s σ H x y v u Q I rx ry q=>thn (h pins s σ H x y v u _ I rx ry q) λ_ _=>IS
noncomputable def jP:R22:=λx y Q=>match x,y with
 | .int i,.int j=>Q (.int (i+j))
 | .lst xs,.lst ys=>Sz (xs.length+ys.length)/\Q (.lst (xs++ys))
 | .tup xs,.tup ys=>xs≠[]/\Sz (xs.length+ys.length)/\Q (.tup (xs++ys))
 | _,_=>False
theorem upd_new {H:Hp} {p:Addr} {o:HO} (hp:H p=none):Same H (upd H p o):=λb u e=>by rw[aE (aH e hp)];exact e
theorem yH:OpD X (binaryOp .Add) jP:=by
 intro pins s σ H x y v u Q I rx ry hh_0
 obtain⟨d,e,P,r1,r2,q,k⟩:=hh_0
 unfold jP at q;split at q
 ·exact cW pins s σ H x y v u Q I rx ry ⟨_,_,P,r1,r2,q,k⟩
 ·rename_i xs ys
  obtain⟨a,vs,rfl,ha,ra⟩:=r1.lst
  obtain⟨b,ws,rfl,hb,rb⟩:=r2.lst
  have hsz:xs.length+ys.length<=sizeLine:=q.1.ok
  refine OpR.frz HC pins s σ H _ _ v u Q I rx ry ⟨a,b,vs,ws,rfl,rfl,ha,hb,by rw[<-ra.length,<-rb.length];exact hsz,λp hp=>.inr ⟨p,_,H,rfl,rfl,hp,λH2 s2 fz=>k _ _ H2 q.2 s2 (.lst fz ((ra.append rb).keep (.of s2)))⟩⟩
 ·rename_i xs ys
  obtain⟨a,vs,rfl,ha,ra⟩:=r1.tup
  obtain⟨b,ws,rfl,hb,rb⟩:=r2.tup
  have hsz:xs.length+ys.length<=sizeLine:=q.2.1.ok
  have hl:=ra.length
  refine HD pins s σ H _ _ v u Q I rx ry ⟨a,b,vs,ws,rfl,rfl,SqT.of ha,SqT.of hb,λz=>q.1 (List.length_eq_zero_iff.mp (by rw[hl,z];rfl)),by rw[<-ra.length,<-rb.length];exact hsz,λz=>?_,λz p hp=>?_⟩
  ·subst z
   cases rb
   have:=k _ (.ref a) H q.2.2 (Same.refl H)
   rw[List.append_nil] at this
   exact this (.tup ha ra)
  ·exact k _ _ _ q.2.2 (upd_new hp) (.tup aQ ((ra.append rb).keep (.of (upd_new hp))))
 ·exact q.elim
noncomputable def qA (te:RE) (tl th:RO):RE:=λρ Q=>te ρ λx=>tl ρ λl=>th ρ λu=>match x with
 | .lst ds=>Q (.lst (jJ ds l u))
 | .tup ds=>¬(HT.sIx ds.length 0 l=0/\HT.sIx ds.length ds.length u=ds.length)/\Q (.tup (jJ ds l u))
 | _=>False
theorem tI {K:PySem.W.Frag} {H:Hp} {ds:List D} {vs:List V} (l u:Option Int) (rr:Reps K H ds vs):Reps K H (jJ ds l u) (tH vs l u):=by
 unfold jJ tH
 rw[<-rr.length]
 exact (rr.drop _).take _
theorem oB {lo hi:Option Expr} {te:RE} {tl th:RO} {p2:Pos} (he:DB X e te) (hl:DP X lo tl) (hu:DP X hi th):DE X (.Subscript e (.Slice lo hi none p2) pos) (qA te tl th):=by
 refine PE.mono (PE.frz (DX (IC.or LI) he hl hu)) λσ H Q hh=>bI hh λρ P st q k=>?_
 refine⟨ρ,_,st,q,λd v H1 hd s1 r1=>⟨ρ,_,st.ext s1,hd,λl H2 h2 s2=>⟨ρ,_,(st.ext s1).ext s2,h2,λu H3 h3 s3=>?_⟩⟩⟩
 have s03:=(s1.trans s2).trans s3
 cases d with
 | lst ds =>
  obtain⟨p,vs,rfl,hq,rr⟩:=(r1.same (s2.trans s3)).lst
  exact .inl ⟨p,vs,rfl,hq,λp' hp'=>.inr ⟨p',_,H3,rfl,rfl,hp',λH4 s4 fz=>k _ _ H4 h3 (s03.trans s4) (.lst fz ((tI l u rr).keep (.of s4)))⟩⟩
 | tup ds =>
  obtain⟨p,vs,rfl,hq,rr⟩:=(r1.same (s2.trans s3)).tup
  refine .inr ⟨p,vs,rfl,SqT.of hq,by rw[<-rr.length];exact h3.1,λp' hp'=>.inl ?_⟩
  exact k _ _ _ h3.2 (s03.trans (upd_new hp')) (.tup aQ ((tI l u rr).keep (.of (upd_new hp'))))
 | _=>exact h3.elim
variable {te:RE}
noncomputable def gL:D->(D->Prop)->Prop:=λd Q=>match d with
 | .lst ds=>Q (.lst ds)
 | .tup ds=>Q (.lst ds)
 | _=>False
theorem qK:bootBuiltins "list" = some (.type "list"):=by decide +kernel
theorem zM (hm:X.mg "list" = none) (h:DB X e te) (hg:Gl X "list":=by rfl) (hs:starEach [e] X.env=[(false,eval e X.env)]:=by rfl) (hn:starEach [] X.env=[]:=by rfl):DE X (.Call (.Name "list" p) [e] [] pos) (r1 gL te):=by
 refine PE.mono (PE.frz (AL rH hg hm qK (eL h hs hn) (by decide) (by decide) (by rw[hs,hn]) (by rw[hn];rfl))) λσ H Q hh=>bI hh λρ P st q k=>⟨ρ,_,st,q,λd v H1 hd s1 r=>?_⟩
 unfold gL at hd;split at hd
 ·obtain⟨p,vs,rfl,hq,rr⟩:=r.lst
  exact⟨p,vs,rfl,.inl hq,λp' hp'=>.inr ⟨p',_,H1,rfl,rfl,hp',λH4 s4 fz=>k _ _ H4 hd (s1.trans s4) (.lst fz (rr.keep (.of s4)))⟩⟩
 ·obtain⟨p,vs,rfl,hq,rr⟩:=r.tup
  exact⟨p,vs,rfl,.inr (SqT.of hq),λp' hp'=>.inr ⟨p',_,H1,rfl,rfl,hp',λH4 s4 fz=>k _ _ H4 hd (s1.trans s4) (.lst fz (rr.keep (.of s4)))⟩⟩
 ·exact hd.elim
noncomputable def rL:D->(D->Prop)->Prop:=λd Q=>match d with
 | .lst ds=>Q (.tup ds)
 | .tup ds=>Q (.tup ds)
 | _=>False
theorem iM:∀{ns:List Int} {its:List Value},Vals (ns.map V.int) its->∃xs:List (Int × Tok),its.toArray=intItems xs.toArray/\xs.map Prod.fst=ns
 | [],_,.nil=>⟨[],by simp[intItems],rfl⟩
 | n::ns,_,.cons ⟨t,rfl⟩ r=>by
  obtain⟨xs,h1,h2⟩:=iM r
  refine⟨(n,t)::xs,?_,by simp[h2]⟩
  have h3:=congrArg Array.toList h1
  simp[intItems] at h3 ⊢
  exact h3
theorem jF {ys:List (Int × Tok)} {ns:List Int} (h:ys.map Prod.fst=ns) {i:Nat} (hi:i<ns.length):numAt ys.toArray i=ns[i]:=by
 subst h
 have hi':i<ys.length:=by simpa using hi
 simp[numAt,hi']
theorem zG (hc:X.calm=true):gT X (.builtin "max") (λxs H Q=>∃(p:Addr) (ns:List Int),xs=[.ref p]/\SqL X.K H p (ns.map V.int)/\ns≠[]/\∀M,M∈ns->(∀a∈ns,a<=M)->Q (.int M) H):=by
 intro pins s σ H xs us Q I r h
 obtain⟨p,ns,rfl,hq,hne,q⟩:=h
 obtain⟨u,rfl,rx⟩:=kB r
 cases rx
 obtain⟨its,r',pl,hz⟩:=I.list hq
 obtain⟨ys,h1,h2⟩:=iM r'
 rw[h1] at pl
 have hl:ys.length=ns.length:=by rw[<-h2];simp
 have hp:0<ns.length:=List.length_pos_iff.mpr hne
 refine max_intList (I.ok.hd hc) pl.isList (by simpa [hl] using hp) λv h' tk hv hk=>?_
 obtain⟨t,rfl⟩:=intItems_at hv
 obtain⟨g1,g2⟩:=argBest_gt (numAt ys.toArray) (ys.toArray.size-1)
 have g3:argBest (λi j=>decide (numAt ys.toArray i > numAt ys.toArray j)) (ys.toArray.size-1)<ns.length:=by rw[<-hl];simp at g1 ⊢;omega
 refine⟨.int _,H,I.kept hk,⟨t,rfl⟩,q _ ?_ λa ha=>?_⟩
 ·rw[jF h2 g3];exact List.getElem_mem g3
 ·obtain⟨j,hj,rfl⟩:=List.getElem_of_mem ha
  rw[<-jF h2 hj]
  exact g2 j (by simp[hl];omega)
theorem zI (hc:X.calm=true):gT X (.builtin "min") (λxs H Q=>∃(p:Addr) (ns:List Int),xs=[.ref p]/\SqL X.K H p (ns.map V.int)/\ns≠[]/\∀M,M∈ns->(∀a∈ns,M<=a)->Q (.int M) H):=by
 intro pins s σ H xs us Q I r h
 obtain⟨p,ns,rfl,hq,hne,q⟩:=h
 obtain⟨u,rfl,rx⟩:=kB r
 cases rx
 obtain⟨its,r',pl,hz⟩:=I.list hq
 obtain⟨ys,h1,h2⟩:=iM r'
 rw[h1] at pl
 have hl:ys.length=ns.length:=by rw[<-h2];simp
 have hp:0<ns.length:=List.length_pos_iff.mpr hne
 refine min_intList (I.ok.hd hc) pl.isList (by simpa [hl] using hp) λv h' tk hv hk=>?_
 obtain⟨t,rfl⟩:=intItems_at hv
 obtain⟨g1,g2⟩:=argBest_lt (numAt ys.toArray) (ys.toArray.size-1)
 have g3:argBest (λi j=>decide (numAt ys.toArray i<numAt ys.toArray j)) (ys.toArray.size-1)<ns.length:=by rw[<-hl];simp at g1 ⊢;omega
 refine⟨.int _,H,I.kept hk,⟨t,rfl⟩,q _ ?_ λa ha=>?_⟩
 ·rw[jF h2 g3];exact List.getElem_mem g3
 ·obtain⟨j,hj,rfl⟩:=List.getElem_of_mem ha
  rw[<-jF h2 hj]
  exact g2 j (by simp[hl];omega)
noncomputable def FS:D->(D->Prop)->Prop:=λd Q=>match d with
 | .lst ds=>∃ns:List Int,ds=ns.map D.int/\Q (.int ns.sum)
 | _=>False
noncomputable def xS:D->(D->Prop)->Prop:=λd Q=>match d with
 | .lst ds=>∃ns:List Int,ds=ns.map D.int/\ns≠[]/\∀M,M∈ns->(∀a∈ns,a<=M)->Q (.int M)
 | _=>False
noncomputable def xT:D->(D->Prop)->Prop:=λd Q=>match d with
 | .lst ds=>∃ns:List Int,ds=ns.map D.int/\ns≠[]/\∀M,M∈ns->(∀a∈ns,M<=a)->Q (.int M)
 | _=>False
theorem BA:bootBuiltins "max" = some (.builtin "max"):=by decide +kernel
theorem BB:bootBuiltins "min" = some (.builtin "min"):=by decide +kernel
theorem FW (hm:X.mg "max" = none) (hc:X.calm=true) (h:DB X e te) (hg:Gl X "max":=by rfl) (hs:starEach [e] X.env=[(false,eval e X.env)]:=by rfl) (hn:starEach [] X.env=[]:=by rfl):DE X (.Call (.Name "max" p) [e] [] pos) (r1 xS te):=by
 refine PE.mono (fD (zG hc) hg hm BA (eL h hs hn) (by decide) (by decide) (by rw[hs,hn]) (by rw[hn];rfl)) λσ H Q hh=>bI hh λρ P st q k=>⟨ρ,_,st,q,λd v H1 hd s1 r=>?_⟩
 unfold xS at hd;split at hd
 ·obtain⟨ns,rfl,hne,hd⟩:=hd
  obtain⟨p,vs,rfl,hq,rr⟩:=r.lst
  rw[rr.ints_inv] at hq
  exact⟨p,ns,rfl,hq,hne,λM m1 m2=>k _ _ H1 (hd M m1 m2) s1 (.int _)⟩
 ·exact hd.elim
theorem FY (hm:X.mg "min" = none) (hc:X.calm=true) (h:DB X e te) (hg:Gl X "min":=by rfl) (hs:starEach [e] X.env=[(false,eval e X.env)]:=by rfl) (hn:starEach [] X.env=[]:=by rfl):DE X (.Call (.Name "min" p) [e] [] pos) (r1 xT te):=by
 refine PE.mono (fD (zI hc) hg hm BB (eL h hs hn) (by decide) (by decide) (by rw[hs,hn]) (by rw[hn];rfl)) λσ H Q hh=>bI hh λρ P st q k=>⟨ρ,_,st,q,λd v H1 hd s1 r=>?_⟩
 unfold xT at hd;split at hd
 ·obtain⟨ns,rfl,hne,hd⟩:=hd
  obtain⟨p,vs,rfl,hq,rr⟩:=r.lst
  rw[rr.ints_inv] at hq
  exact⟨p,ns,rfl,hq,hne,λM m1 m2=>k _ _ H1 (hd M m1 m2) s1 (.int _)⟩
 ·exact hd.elim
end
section
variable {X:Cx} {tg e:Expr} {te:RE} {pos p:Pos}
noncomputable def yZ (te:RE):RA:=λρ Q=>te ρ λd=>match d with
 | .lst ds=>Q ds.reverse
 | _=>False
end
section
variable {prog:Program} {w:World} {A:Around} {E:Value->Shared->Prop} {s:Shared}
end
section
variable {prog:Program} {w:World} {A:Around} {E:Value->Shared->Prop} {s:Shared} {z TI TO i1 i2 a1 a2:Addr} {vs us:List Value} {T1 T2:Nat->Heap->Prop}
end
noncomputable abbrev yF (c:String) (l:Addr):Obj:={ cls:=.type c,data:=.fields #[.ref l,.int 0 0] }
section
variable {prog:Program} {w:World} {A:Around} {E:Value->Shared->Prop} {s:Shared}
end
section
variable {prog:Program} {w:World} {A:Around} {E:Value->Shared->Prop} {s:Shared} {z TI TO i1 i2 a1 a2:Addr} {vs us:List Value} {T1 T2:Nat->Heap->Prop}
end
section
variable {X:Cx} {pins:List (Addr × Obj)} {σ:St}
end
noncomputable def uV:D->Option (List D)
 | .lst xs=>some xs
 | .tup xs=>some xs
 | _=>none
noncomputable def HS (ta tb:RE):RA:=λρ Q=>ta ρ λx=>tb ρ λy=>∃xs ys,uV x=some xs/\uV y=some ys/\xs.length=ys.length/\Q (xs.zipWith (λa b=>D.tup [a,b]) ys)
theorem BC:bootBuiltins "zip" = some (.type "zip"):=by decide +kernel
section
variable {X:Cx} {a b:Expr} {ta tb:RE} {p pz pos posz:Pos}
end
noncomputable def Itz (K:PySem.W.Frag) (l m:Addr):It :=
 ⟨λi H=>∃xs ys x y,SqL K H l xs/\SqL K H m ys/\xs[i]? = some x/\ys[i]? = some y,λi H x H'=>∃p a b,H p=none/\x = .ref p/\H'=upd H p (.tup [a,b])/\(∀xs,SqL K H l xs->xs[i]? = some a)/\∀ys,SqL K H m ys->ys[i]? = some b,
  λi H=>∃xs ys,SqL K H l xs/\SqL K H m ys/\(xs.length<=i\/ys.length<=i)⟩
noncomputable def ZSt (z TI TO i1 i2 l m:Addr) (i:Nat) (h:Heap):Prop:=IsZip h z TI TO .none/\IsPair h TI (.ref i1) (.ref i2)/\(∃a b,IsPair h TO a b)/\h.IsListIter i1 l i/\h.IsListIter i2 m i
theorem FE {P:Program} {w:World} {K:PySem.W.Frag} {elts:List Expr} {k:Nat} {pos:Pos} (z TI TO i1 i2 l m:Addr) (D:ZipApart z TI TO i1 i2 l m) :
  Turn P w K (.Tuple elts k pos) (Itz K l m) [z,TI,TO,i1,i2] z (ZSt z TI TO i1 i2 l m) where
 mem:=by simp
 obj:=λi h st b hb=>by
  obtain⟨hz,hI,⟨a,c,hO⟩,⟨o1,e1,c1,d1⟩,o2,e2,c2,d2⟩:=st
  simp only[List.mem_cons,List.not_mem_nil,or_false] at hb
  rcases hb with rfl | rfl | rfl | rfl | rfl
  ·exact⟨_,hz,λv z=>by cases z⟩
  ·exact⟨_,hI,λv z=>by cases z⟩
  ·exact⟨_,hO,λv z=>by cases z⟩
  ·exact⟨o1,e1,λv z=>by rw[d1] at z;cases z⟩
  ·exact⟨o2,e2,λv z=>by rw[d2] at z;cases z⟩
 keep:=λi h h' st kk=>by
  obtain⟨hz,hI,⟨a,c,hO⟩,h1,h2⟩:=st
  exact⟨kk z (by simp) _ hz,kk TI (by simp) _ hI,⟨a,c,kk TO (by simp) _ hO⟩,h1.at λo x=>kk i1 (by simp) o x,h2.at λo x=>kk i2 (by simp) o x⟩
 item:=by
  intro X hP hw hK hc i pins s σ H E I hf st hg
  subst hP hw hK
  obtain⟨xs,ys,x,y,hq,hr,hx,hy⟩:=hg
  obtain⟨its,rv,p,hzl⟩:=I.list hq
  obtain⟨jts,rw',p',hzm⟩:=I.list hr
  obtain⟨u,hu,ru⟩:=rv.get hx
  obtain⟨u',hu',ru'⟩:=rw'.get hy
  have W:=WalksT.zip2 (prog:=X.prog) (w:=X.w) (A:=X.A) (I.ok.hd hc) z TI TO i1 i2 l m D its.toArray jts.toArray
  have hlt:i<min its.toArray.size jts.toArray.size:=by
   have a1:=(List.getElem?_eq_some_iff.mp hu).1
   have a2:=(List.getElem?_eq_some_iff.mp hu').1
   simp;omega
  obtain⟨g1,g2,g3,g4,g5⟩:=id st
  refine W.item i s _ _ hlt ⟨g1,g2,g3,g4,g5,p.isList,p'.isList⟩ λT vals h1 tk hv hT ht hm kk=>?_
  obtain⟨v1,v2,e1,e2,rfl⟩:=hv
  have q1:v1=u:=by
   have:its.toArray[i]? = some u:=by simpa using hu
   rw[e1] at this;exact Option.some.inj this
  have q2:v2=u':=by
   have:jts.toArray[i]? = some u':=by simpa using hu'
   rw[e2] at this;exact Option.some.inj this
  subst q1 q2
  refine⟨_,rfl,?_⟩
  have sub:∀{b:Addr},b ∉ [z,TI,TO,i1,i2]->b ∉ [z,TO,i1,i2]:=λh h'=>h (by simp at h' ⊢;rcases h' with a | a | a | a <;> simp[a])
  have I1:Inv X pins σ (upd H T (.tup [x,y])) { s with heap:=h1,toks:=tk } :=
   I.turnedT (its:=[v1,v2]) (ch:=[z,TI,TO,i1,i2]) (λb o hb e=>kk b o (sub hb) e) hf hT (by simpa using ht) (.cons ru (.cons ru' .nil)) (by show 2<=sizeLine;decide)
  have hn:H T=none:=I.hok.fresh hT
  refine W.go elts k pos i T _ _ _ hm λh2 st2 kk2=>?_
  have hf1:∀b∈[z,TI,TO,i1,i2],lT X pins (upd H T (.tup [x,y])) b:=λb hb=>by
   obtain⟨f0,f1⟩:=hf b hb
   have:∃o,s.heap.get? b=some o:=by
    obtain⟨hz,hI,⟨a,c,hO⟩,⟨o1,w1,c1,d1⟩,o2,w2,c2,d2⟩:=st
    simp only[List.mem_cons,List.not_mem_nil,or_false] at hb
    rcases hb with rfl | rfl | rfl | rfl | rfl
    ·exact⟨_,hz⟩
    ·exact⟨_,hI⟩
    ·exact⟨_,hO⟩
    ·exact⟨_,w1⟩
    ·exact⟨_,w2⟩
   obtain⟨o,ho⟩:=this
   exact⟨by rw[aE (Nat.ne_of_lt (Nat.lt_of_lt_of_le (Heap.lt_size ho) hT))];exact f0,f1⟩
  refine⟨.ref T,_,I1.turnedL (ch:=[z,TI,TO,i1,i2]) (t':=tk) (λb o hb e=>kk2 b o (sub hb) e) hf1,rfl,⟨T,x,y,hn,rfl,rfl,λys' h'=>by rw[I.list_inj h' hq];exact hx,λys' h'=>by rw[I.list_inj h' hr];exact hy⟩,⟨st2.1,st2.2.1,st2.2.2.1,st2.2.2.2.1,st2.2.2.2.2.1⟩,λb hb=>(hf1 b hb).1⟩
 done:=by
  intro X hP hw hK hc i pins s σ H E I hf st hg
  subst hP hw hK
  obtain⟨xs,ys,hq,hr,hx⟩:=hg
  obtain⟨its,rv,p,hzl⟩:=I.list hq
  obtain⟨jts,rw',p',hzm⟩:=I.list hr
  obtain⟨g1,g2,⟨a,b,g3⟩,g4,g5⟩:=st
  have l1:=rv.length
  have l2:=rw'.length
  refine wpAny_pyNext_zip_end (I.ok.hd hc) D g1 g2 g3 g4 g5 p.isList p'.isList ?_ λh1 kk=>⟨rfl,I.turnedL (ch:=[z,TI,TO,i1,i2]) (t':=s.toks) (λb o hb q=>kk b o (λe=>hb (by simp[e])) (λe=>hb (by simp[e])) (λe=>hb (by simp[e])) (λe=>hb (by simp[e])) q) hf⟩
  rcases hx with hx | hx
  ·exact .inl (by rw[List.getElem?_toArray];exact List.getElem?_eq_none (by omega))
  ·exact .inr (by rw[List.getElem?_toArray];exact List.getElem?_eq_none (by omega))
 self:=λ_ _ _ _ _ st h=>wpAny_pyIter_zip st.1 h
section
variable {X:Cx} {a b:Expr} {ta tb:RE} {pos p:Pos} {elts:List Expr} {k:Nat} {tp:Pos}
noncomputable def hU (ta tb:RE):RA:=λρ Q=>ta ρ λx=>tb ρ λy=>match x,y with
 | .lst xs,.lst ys=>Q (xs.zipWith (λa b=>D.tup [a,b]) ys)
 | _,_=>False
theorem vS (hm:X.mg "zip" = none) (ha:DE X a ta) (hb:DE X b tb) (hg:Gl X "zip":=by rfl) (h2:starEach [a,b] X.env=(false,eval a X.env)::starEach [b] X.env:=by rfl) (h1:starEach [b] X.env=[(false,eval b X.env)]:=by rfl) (hn:starEach [] X.env=[]:=by rfl) :
  DI X (.Tuple elts k tp) (.Call (.Name "zip" p) [a,b] [] pos) (hU ta tb):=by
 intro pins s σ H R I hh_0
 obtain⟨ρ,P,st,q,kk⟩:=hh_0
 refine Call_ (gM I hg hm BC (PyProof.Rows.callWith_type1 (thn (bW ha (bW hb gA (by rw[h1,hn])) h2 pos pins s σ H (λvs H1=>∃l m xs ys us ws,vs=[V.ref l,V.ref m]/\Same H H1/\P (xs.zipWith (λa b=>D.tup [a,b]) ys)/\FzL X.K H1 l us/\Reps X.K H1 xs us/\FzL X.K H1 m ws/\Reps X.K H1 ys ws) I
  ⟨ρ,_,st,q,λx v H1 hx s1 r1=>⟨ρ,_,st.ext s1,hx,λy u H2 hy s2 r2=>?_⟩⟩) λus s1 ⟨vs,H1,I1,r1,q1⟩=>?_) h2 (by rw[h1];rfl)))
 ·cases x with
  | lst xs =>
   cases y with
   | lst ys =>
    cases r1 with
    | @lst l us _ z1 t1 =>
     cases r2 with
     | @lst m ws _ z2 t2=>exact⟨l,m,xs,ys,us,ws,rfl,s1.trans s2,hy,z1.keep (.of s2),t1.keep (.of s2),z2,t2⟩
   | _=>exact hy.elim
  | _=>exact hy.elim
 obtain⟨l,m,xs,ys,us,ws,rfl,s01,hp,z1,t1,z2,t2⟩:=q1
 obtain⟨w1,w2,rfl,rv,ru⟩:=uY r1
 cases rv;cases ru
 obtain⟨its,rv,pl,hzz⟩:=I1.list z1.sq
 obtain⟨jts,rv',pl',hzz'⟩:=I1.list z2.sq
 have lt1:l<s1.heap.objs.size:=by obtain⟨o,n,e,_⟩:=pl;exact Heap.lt_size e
 have lt2:m<s1.heap.objs.size:=by obtain⟨o,n,e,_⟩:=pl';exact Heap.lt_size e
 refine call_zip_2 pl.isList pl'.isList λh' hz hTI hTO hi1 hi2 hsz kk'=>?_
 have I2:Inv X pins σ H1 { s1 with heap:=h' }:=I1.kept (t':=s1.toks) kk'
 refine wpAny_pyIter_zip hz ⟨s1.heap.objs.size+4,[s1.heap.objs.size+4,s1.heap.objs.size+2,s1.heap.objs.size+3,s1.heap.objs.size,s1.heap.objs.size+1],_,_,H1,rfl,I2,FE (s1.heap.objs.size+4) (s1.heap.objs.size+2) (s1.heap.objs.size+3) s1.heap.objs.size (s1.heap.objs.size+1) l m (zipApart_new lt1 lt2),⟨hz,hTI,⟨_,_,hTO⟩,hi1,hi2⟩,λb hb=>?_,?_⟩
 ·have:s1.heap.objs.size<=b:=by
   simp only[List.mem_cons,List.not_mem_nil,or_false] at hb
   rcases hb with rfl | rfl | rfl | rfl | rfl <;> simp
  exact I1.fpOk this (I1.hok.fresh this)
 ·refine kk _ _ H1 hp s01 λi H2 kp=>⟨λd ed=>?_,λhl=>⟨us,ws,(z1.keep kp).sq,(z2.keep kp).sq,by rw[<-t1.length,<-t2.length];simp at hl;omega⟩⟩
  rw[List.getElem?_zipWith] at ed
  cases e1:xs[i]? with
  | none=>rw[e1] at ed;cases ed
  | some d1 =>
   cases e2:ys[i]? with
   | none=>rw[e1,e2] at ed;cases ed
   | some d2 =>
    rw[e1,e2] at ed
    cases ed
    obtain⟨v,f1,f2⟩:=(t1.keep kp).get e1
    obtain⟨u,f3,f4⟩:=(t2.keep kp).get e2
    refine⟨⟨us,ws,v,u,(z1.keep kp).sq,(z2.keep kp).sq,f1,f3⟩,λx H' y=>?_⟩
    obtain⟨pp,y1,y2,hn,rfl,rfl,ha',hb'⟩:=y
    have e3:=ha' us (z1.keep kp).sq
    have e4:=hb' ws (z2.keep kp).sq
    rw[f1] at e3;rw[f3] at e4;cases e3;cases e4
    have sm:Same H2 (upd H2 pp (.tup [v,u])):=λb o e=>by rw[aE (aH e hn)];exact e
    exact⟨sm,.tup aQ (.cons (f2.keep (.of sm)) (.cons (f4.keep (.of sm)) .nil))⟩
end
section
variable {prog:Program} {w:World} {A:Around} {E:Value->Shared->Prop} {s:Shared}
theorem wC {I l S:Addr} {items:Array Value} {bt:Nat->Nat->Bool} {G:Heap->Prop} {R:Result->Shared->Prop} {os0:Shared} (hh:A.handled=none) (hl:l≠I) (hSI:S≠I) (hSl:S≠l)
  (cmp:∀(i j:Nat) (u v:Value) (s:Shared) (Q:Value->Shared->Prop) (E:Value->Shared->Prop),items[i]? = some u->items[j]? = some v->G s.heap->Q (.bool (bt i j)) s->wpAny (model prog w) A.in1 (richCompare .Lt u v) Q E s)
  (gs:∀h h',G h->(∀b o,b≠I->b≠S->h.get? b=some o->h'.get? b=some o)->G h') :
  ∀(k j:Nat) (s:Shared) (vb:Value) (c:Nat),items.size-(j+1)=k->j+1<=items.size->s.heap.IsTupleIter I l (j+1)->s.heap.IsTuple l items->items[argBest bt j]? = some vb->G s.heap ->
   s.heap.get? S=some { cls:=.type "list",dict:=none,data:=.seq #[vb,vb] c,slots:=#[] } ->
   (∀v h' tk,items[argBest bt (items.size-1)]? = some v->(∀b o,b≠I->b≠S->s.heap.get? b=some o->h'.get? b=some o)->R (.ok (.ret v)) { s with heap:=h',toks:=tk }) ->
   codeAny (model prog w) A (.builtin "min.loop" ⟨[.ref I,.none,.ref S],[]⟩) R s:=by
 have nm:(toString "min" ++ toString ".loop":String) = "min.loop":=by decide
 have W:=Walks.tuple (prog:=prog) (w:=w) (A:=A.in1) hh I l hl items
 have wr:∀{b:Addr},b≠I->b ∉ [I]:=λh=>by simpa using h
 intro k
 induction k with
 | zero =>
  intro j s vb c hk hj hi hL hb hG hS q
  refine codeAny_builtin F.entry_min_loop ?_;rw[Around.under_plainId F.plain_min_loop _]
  show wpAny _ A.in1 (seqItems? (.ref S) >>= _) _ _ s
  apply wpAny_bind;apply wpAny_seqItems hS rfl
  show wpAny _ A.in1 (tryCatch (pyNext (.ref I)) _ >>= _) _ _ s
  apply wpAny_bind;apply wpAny_tryCatch;refine W.done s _ _ (by rw[show items.size=j+1 by omega];exact⟨hi,hL⟩) λh' tk kp=>?_
  have hS':=kp S _ (wr hSI) hS
  show wpAny _ A.in1 (updateSeq S (λ_=>#[]) >>= _) _ _ _
  apply wpAny_bind;refine wpAny_updateSeq hS' rfl ?_;apply wpAny_bind;apply wpAny_letGo;apply wpAny_pure
  exact q vb _ tk (by rw[show items.size-1=j by omega];exact hb) λb o b1 b2 e=>(Heap.get?_update_other _ _ (Ne.symm b2)).trans (kp b o (wr b1) e)
 | succ k ih =>
  intro j s vb c hk hj hi hL hb hG hS q
  refine codeAny_builtin F.entry_min_loop ?_;rw[Around.under_plainId F.plain_min_loop _]
  show wpAny _ A.in1 (seqItems? (.ref S) >>= _) _ _ s
  apply wpAny_bind;apply wpAny_seqItems hS rfl
  show wpAny _ A.in1 (tryCatch (pyNext (.ref I)) _ >>= _) _ _ s
  apply wpAny_bind;apply wpAny_tryCatch;refine W.item (j+1) s _ _ (by omega) ⟨hi,hL⟩ λv h' tk hv st' kp=>?_
  have hS':=kp S _ (wr hSI) hS
  have hG':G h':=gs _ _ hG λb o b1 _ e=>kp b o (wr b1) e
  show wpAny _ A.in1 (tryCatch (holding [v,v] (richCompare .Lt v vb >>= _)) _ >>= _) _ _ _
  apply wpAny_bind;apply wpAny_tryCatch;apply wpAny_holding;apply wpAny_bind;refine cmp (j+1) (argBest bt j) v vb _ _ _ hv hb hG' ?_
  apply wpAny_bind;apply wpAny_holding;apply wpAny_truthy_bool;apply wpAny_bind;apply wpAny_letGo;apply wpAny_pure
  cases hbt:bt (j+1) (argBest bt j) with
  | true =>
   simp only[if_true]
   apply wpAny_bind;refine wpAny_updateSeq hS' rfl ?_;apply wpAny_bind;apply wpAny_letGo;rw[nm];apply wpAny_pure
   have up:∀b o,b≠S->h'.get? b=some o->(h'.update S (Obj.mapSeq λ_=>#[v,v])).get? b=some o:=λb o b2 e=>(Heap.get?_update_other _ _ (Ne.symm b2)).trans e
   refine⟨plainId_quiet F.plain_min_loop _,ih (j+1) _ v _ (by omega) (by omega) (st'.1.at λo e=>up _ o hSI.symm e) (st'.2.at λo e=>up _ o hSl.symm e) (by simp only[argBest,hbt,if_true];exact hv) (gs _ _ hG' λb o _ b2 e=>up b o b2 e) (Heap.get?_update_self _ hS' rfl) λv' h'' tk'' e kk=>?_⟩
   exact q v' h'' tk'' e λb o b1 b2 e=>kk b o b1 b2 (up b o b2 (kp b o (wr b1) e))
  | false =>
   simp only[Bool.false_eq_true,if_false]
   apply wpAny_bind;apply wpAny_letGo;rw[nm];apply wpAny_pure
   refine⟨plainId_quiet F.plain_min_loop _,ih (j+1) _ vb c (by omega) (by omega) st'.1 st'.2 (by simp only[argBest,hbt,Bool.false_eq_true,if_false];exact hb) hG' hS' λv' h'' tk'' e kk=>?_⟩
   exact q v' h'' tk'' e λb o b1 b2 e=>kk b o b1 b2 (kp b o (wr b1) e)
end
noncomputable abbrev gD (ns:List Int):D:=.tup (ns.map .int)
theorem Reps.tupI_inv {K:PySem.W.Frag} {H:Hp} {ns:List Int} {v:V} (r:Rep K H (gD ns) v):∃a,v = .ref a/\H a=some (.tup (ns.map V.int)):=by
 cases r with
 | tup h rr=>rw[rr.ints_inv] at h;exact⟨_,rfl,h⟩
section
variable {X:Cx} {e a b:Expr} {te ta tb:RE} {p pos:Pos}
noncomputable def dLtT:R22:=λx y Q=>∃ns ms:List Int,x=gD ns/\y=gD ms/\Q (.bl (HT.lexLt ns ms))
noncomputable def dMinT:D->(D->Prop)->Prop:=λd Q=>match d with
 | .lst ds=>∃nss:List (List Int),ds=nss.map gD/\nss≠[]/\∀M,M∈nss->(∀x∈nss,HT.lexLt x M=false)->Q (gD M)
 | .tup ds=>∃nss:List (List Int),ds=nss.map gD/\nss≠[]/\∀M,M∈nss->(∀x∈nss,HT.lexLt x M=false)->Q (gD M)
 | _=>False
noncomputable def dNe:R22:=λx y Q=>match x,y with
 | .int i,.int j=>Q (.bl !(decide (i=j)))
 | .bl i,.bl j=>Q (.bl !(decide (i=j)))
 | .tup xs,.tup ys=>match eqL (eqF 5) xs ys with
  | some b=>Q (.bl !b)
  | none=>False
 | .non,.non=>Q (.bl false)
 | _,_=>False
theorem JA {k:Nat} (hr:Room k X.A):OpD X (compareOp .NotEq) dNe:=by
 intro pins s σ H x y v u Q I rx ry hh_0
 obtain⟨d,e,P,r1,r2,q,kk⟩:=hh_0
 have hu:=hr.un
 unfold dNe at q
 split at q
 ·rename_i i j
  rw[r1.int_inv] at rx;rw[r2.int_inv] at ry
  obtain⟨t,rfl⟩:=rx
  obtain⟨t',rfl⟩:=ry
  have e:(!(decide (i=j))) = !(i == j):=by rw[Bool.beq_eq_decide_eq]
  rw[e] at q
  exact SeqAt.RcNeAt.int_int i t j t' _ _ _ _ ⟨.bl _,H,I,rfl,kk _ _ H q (Same.refl H) (.bl _)⟩
 ·rename_i i j
  rw[r1.bl_inv] at rx;rw[r2.bl_inv] at ry
  cases rx;cases ry
  have e:(!(decide (i=j))) = !(i == j):=by rw[Bool.beq_eq_decide_eq]
  rw[e] at q
  exact SeqAt.RcNeAt.bool_bool i j _ _ _ _ ⟨.bl _,H,I,rfl,kk _ _ H q (Same.refl H) (.bl _)⟩
 ·rename_i xs ys
  split at q
  ·rename_i b h
   obtain⟨a,vs,rfl,h1,q1⟩:=r1.tup
   obtain⟨c,ws,rfl,h2,q2⟩:=r2.tup
   cases rx;cases ry
   obtain⟨its,rv,ht,_⟩:=I.tuple (SqT.of h1)
   obtain⟨its2,rv2,ht2,_⟩:=I.tuple (SqT.of h2)
   have l1:xs.length=its.length:=q1.length.trans rv.length
   have l2:ys.length=its2.length:=q2.length.trans rv2.length
   have rc:SeqAt.RcNeAt X.A s (.ref a) (.ref c) (!b):=by
    have:=SeqAt.RcNeAt.tuples (A:=X.A) (s:=s) (e:=λj=>match xs[j]?,ys[j]? with | some x,some y=>(eqF 5 x y).getD false | _,_=>false) ht ht2 (by omega) (λj g1 g2=>?_)
    ·simp only[List.size_toArray,<-l1,<-l2] at this
     have al:=jE h
     rw[<-al]
     exact this
    ·simp only[List.size_toArray] at g1 g2
     have e1:xs[j]? = some (xs[j]'(by omega)):=List.getElem?_eq_getElem _
     have e2:ys[j]? = some (ys[j]'(by omega)):=List.getElem?_eq_getElem _
     obtain⟨k,hk⟩:=lM h j _ _ e1 e2
     rw[e1,e2]
     simp only[hk,Option.getD_some]
     obtain⟨v1,f1,f2⟩:=q1.get e1
     obtain⟨v2,f3,f4⟩:=q2.get e2
     obtain⟨u1,g3,g4⟩:=rv.get f1
     obtain⟨u2,g5,g6⟩:=rv2.get f3
     have a1:its.toArray[j]=u1:=by
      have:=List.getElem?_eq_getElem g1
      rw[this] at g3
      simpa using Option.some.inj g3
     have a2:its2.toArray[j]=u2:=by
      have:=List.getElem?_eq_getElem g2
      rw[this] at g5
      simpa using Option.some.inj g5
     rw[a1,a2]
     exact (lX I 5 hk f2 f4 g4 g6 (by show X.A.units+1+5<cLine;omega)).2
   exact rc _ _ _ _ ⟨.bl _,H,I,rfl,kk _ _ H q (Same.refl H) (.bl _)⟩
  ·exact q.elim
 ·have non:∀{v:V},RepB X.K H .non v->v = .non:=λr=>by
   rcases r with r | ⟨_,_,_,e,_⟩
   ·cases r;rfl
   ·cases e
  rw[non r1] at rx;rw[non r2] at ry
  cases rx;cases ry
  exact SeqAt.RcNeAt.none_none _ _ _ _ ⟨.bl _,H,I,rfl,kk _ _ H q (Same.refl H) (.bl _)⟩
 ·exact q.elim
noncomputable def JM:R22:=λx y Q=>match x with
 | .lst xs=>∃j:Nat,(∃d,xs[j]? = some d/\eqF 6 d y=some true)/\(∀(i:Nat) d,i<j->xs[i]? = some d->eqF 6 d y=some false)/\(∀d∈xs,∃b,eqF 6 d y=some b)/\Q (.int (j:Int))
 | _=>False
end
section
variable {X:Cx} {pins:List (Addr × Obj)} {σ:St} {H:Hp} {s:Shared}
end
section
variable {X:Cx} {e a b:Expr} {te ta tb:RE} {p pos:Pos}
noncomputable def sQ (ta tb:RE):RE:=λρ Q=>ta ρ λx=>(∃xs,x = .lst xs)/\tb ρ λy=>JM x y Q
end
end L2.R2
set_option Elab.async false
set_option linter.all false
set_option maxRecDepth 100000
set_option maxHeartbeats 1000000
namespace L2.R2
open PySem PySem.SetTable
section
variable {prog:Program} {w:World} {A:Around} {E:Value->Shared->Prop} {s:Shared}
end
end L2.R2
set_option Elab.async false
set_option linter.all false
set_option maxRecDepth 100000
set_option maxHeartbeats 3200000
namespace L2.R2
open PySem PySem.SetTable PyProof.Rows
section
variable {prog:Program} {w:World} {A:Around} {E:Value->Shared->Prop} {s:Shared}
end
section
variable {prog:Program} {w:World} {A:Around} {E:Value->Shared->Prop} {s:Shared}
end
section
variable {prog:Program} {w:World} {A:Around} {E:Value->Shared->Prop} {s:Shared}
end
end L2.R2
set_option Elab.async false
set_option linter.all false
set_option maxRecDepth 100000
set_option maxHeartbeats 1000000
namespace L2.R2
open PySem PySem.W PyProof.Rows
noncomputable def bC {α:Type} (lt:Nat->Nat->Bool):KasT α->α
 | .ret a=>a
 | .ask i j k=>bC lt (k (lt i j))
theorem eZ {α β:Type} {lt:Nat->Nat->Bool} {f:α->KasT β}:∀t:KasT α,bC lt (t.bind f)=bC lt (f (bC lt t))
 | .ret _=>rfl
 | .ask i j k=>eZ (k (lt i j))
noncomputable def kIn {α:Type} (lt:Nat->Nat->Bool) (n:Nat):KasT α->Prop
 | .ret _=>True
 | .ask i j k=>i<n/\j<n/\kIn lt n (k (lt i j))
theorem cJ {α β:Type} {lt:Nat->Nat->Bool} {n:Nat} {f:α->KasT β}:∀t:KasT α,kIn lt n t->kIn lt n (f (bC lt t))->kIn lt n (t.bind f)
 | .ret _,_,h=>h
 | .ask i j k,⟨h1,h2,h3⟩,h=>⟨h1,h2,cJ (k (lt i j)) h3 h⟩
theorem oK {α:Type} {cmp:Nat->Nat->(Bool->Shared->Prop)->Shared->Prop} {lt:Nat->Nat->Bool} {n:Nat} {s:Shared} {Q:α->Shared->Prop} (hc:∀i j (C:Bool->Shared->Prop),i<n->j<n->C (lt i j) s->cmp i j C s) :
  ∀t:KasT α,kIn lt n t->Q (bC lt t) s->t.kasWp cmp Q s
 | .ret _,_,h=>h
 | .ask i j k,⟨h1,h2,h3⟩,h=>hc i j _ h1 h2 (oK hc (k (lt i j)) h3 h)
section
variable {O:KeyOrd} {key:Nat->O.α} {N:Nat}
noncomputable def ltK (O:KeyOrd) (key:Nat->O.α) (i j:Nat):Bool:=O.blt (key i) (key j)
noncomputable def kk (O:KeyOrd) (key:Nat->O.α) (p:Array Nat) (i:Nat):O.α:=key (p.getD i 0)
noncomputable def Up (O:KeyOrd) (key:Nat->O.α) (p:Array Nat) (n:Nat):Prop:=∀i j,i<=j->j<n->O.kle (kk O key p i) (kk O key p j)
noncomputable def Dn (O:KeyOrd) (key:Nat->O.α) (p:Array Nat) (n:Nat):Prop:=∀i j,i<=j->j<n->O.kle (kk O key p j) (kk O key p i)
noncomputable def Lo (p:Array Nat) (N:Nat):Prop:=∀i,p.getD i 0<N
theorem gN {p q:Array Nat} (h:p.Perm q) (hq:Lo q N):Lo p N:=by
 intro i
 by_cases hi:i<p.size
 ·have m:p[i]∈p:=Array.getElem_mem hi
  have m2:p[i]∈q:=h.mem_iff.mp m
  obtain⟨j,hj,e⟩:=Array.getElem_of_mem m2
  have:=hq j
  simp[Array.getD,hj] at this
  simp[Array.getD,hi]
  rw[<-e];exact this
 ·have h0:=hq q.size
  simp[Array.getD] at h0
  simp[Array.getD,hi];exact h0
theorem iN {p q:Array Nat} {i j:Nat} (h:p[i]? = q[j]?):kk O key p i=kk O key q j:=by
 unfold kk;rw[Array.getD_eq_getD_getElem?,Array.getD_eq_getD_getElem?,h]
theorem vW {p:Array Nat} {i j:Nat} (hj:j<=p.size) (k:Nat):kk O key (kas_rev p i j) k=if i<=k/\k<j then kk O key p (i+j-1-k) else kk O key p k:=by
 have e:=getElem?_mirror_all (i:=i) hj k
 unfold kas_rev
 by_cases h1:i<=k/\k<j
 ·rw[if_pos h1] at e ⊢;exact iN e
 ·rw[if_neg h1] at e ⊢;exact iN e
theorem lY {p:Array Nat} {i j:Nat} (hj:j<=p.size) (h:∀k,i<=k->k<j->kk O key p k=kk O key p (j-1)) (k:Nat):kk O key (kas_rev p i j) k=kk O key p k:=by
 rw[vW hj]
 split
 ·rw[h _ (by omega) (by omega),h k (by omega) (by omega)]
 ·rfl
theorem zY {p:Array Nat} {src d:Nat} (hs:src<p.size) (hd:d<=src) (k:Nat) :
  kk O key (bubble p src d) k=if k=src-d then kk O key p src else if src-d<k/\k<=src then kk O key p (k-1) else kk O key p k:=by
 have e:=getElem?_bubble hs d hd k
 by_cases h1:k=src-d
 ·rw[if_pos h1] at e ⊢;exact iN e
 ·rw[if_neg h1] at e ⊢
  by_cases h2:src-d<k/\k<=src
  ·rw[if_pos h2] at e ⊢;exact iN e
  ·rw[if_neg h2] at e ⊢;exact iN e
theorem iW (p:Array Nat) (i j:Nat):(kas_rev p i j).Perm p:=mirror_perm _ _ _ _
theorem II {p:Array Nat} {n:Nat} (h1:1<=n) (h:Up O key p n) (hl:O.kle (kk O key p (n-1)) (kk O key p n)):Up O key p (n+1):=by
 intro i j hij hj
 by_cases hjx:j<n
 ·exact h i j hij hjx
 ·have hj':j=n:=by omega
  subst hj'
  by_cases hi':i=j
  ·subst hi';exact KeyOrd.kle_refl _
  ·exact KeyOrd.kle_trans (h i (j-1) (by omega) (by omega)) hl
theorem rP {p:Array Nat} {n:Nat} (h1:1<=n) (h:Dn O key p n) (hl:O.kle (kk O key p n) (kk O key p (n-1))):Dn O key p (n+1):=by
 intro i j hij hj
 by_cases hjx:j<n
 ·exact h i j hij hjx
 ·have hj':j=n:=by omega
  subst hj'
  by_cases hi':i=j
  ·subst hi';exact KeyOrd.kle_refl _
  ·exact KeyOrd.kle_trans hl (h i (j-1) (by omega) (by omega))
theorem vF {p:Array Nat} (lo:Lo p N):∀(f n:Nat),1<=n->Up O key p n->kIn (ltK O key) N (kas_asc p f n)/\n<=bC (ltK O key) (kas_asc p f n)/\bC (ltK O key) (kas_asc p f n)<=n+f/\Up O key p (bC (ltK O key) (kas_asc p f n)) /\
  (bC (ltK O key) (kas_asc p f n)=n+f\/O.klt (kk O key p (bC (ltK O key) (kas_asc p f n))) (kk O key p (bC (ltK O key) (kas_asc p f n)-1)))
 | 0,n,_,h=>⟨trivial,Nat.le_refl _,Nat.le_refl _,h,Or.inl rfl⟩
 | f+1,n,h1,h=>by
  simp only[kas_asc,bC,kIn]
  cases hb:ltK O key (p.getD n 0) (p.getD (n-1) 0) with
  | true =>
   simp only[if_true]
   exact⟨⟨lo _,lo _,trivial⟩,Nat.le_refl _,by simp only[bC];omega,h,Or.inr hb⟩
  | false =>
   simp only[Bool.false_eq_true,if_false]
   obtain⟨i1,i2,i3,i4,i5⟩:=vF lo f (n+1) (by omega) (II h1 h hb)
   refine⟨⟨lo _,lo _,i1⟩,by omega,by omega,i4,?_⟩
   rcases i5 with e | e
   ·exact Or.inl (by omega)
   ·exact Or.inr e
theorem uW {p:Array Nat} (lo:Lo p N) {n nrem:Nat} (h1:1<=n) (hn:n<=nrem) (hz:nrem<=p.size) (h:Dn O key p n) :
  kIn (ltK O key) N (kas_tail3 n nrem p)/\1<=(bC (ltK O key) (kas_tail3 n nrem p)).1/\(bC (ltK O key) (kas_tail3 n nrem p)).1<=nrem/\(bC (ltK O key) (kas_tail3 n nrem p)).2.Perm p/\Up O key (bC (ltK O key) (kas_tail3 n nrem p)).2 (bC (ltK O key) (kas_tail3 n nrem p)).1:=by
 unfold kas_tail3
 have up:Up O key (kas_rev p 0 n) n:=by
  intro i j hij hj
  rw[vW (by omega),vW (by omega),if_pos (by omega),if_pos (by omega)]
  exact h _ _ (by omega) (by omega)
 obtain⟨i1,i2,i3,i4,_⟩:=vF (gN (iW p 0 n) lo) (nrem-n) n h1 up
 rw[eZ]
 refine⟨cJ _ i1 trivial,?_,?_,iW p 0 n,i4⟩
 ·show 1<=_;simp only[bC];omega
 ·simp only[bC];omega
theorem nN:∀(f:Nat) (p:Array Nat) (n q:Nat),Lo p N->1<=n->n+f<=p.size->Dn O key p n->q+1<=n->(∀i,n-(q+1)<=i->i<n->kk O key p i=kk O key p (n-1)) ->
  kIn (ltK O key) N (kas_desc f p n q)/\(bC (ltK O key) (kas_desc f p n q)).1.Perm p/\n<=(bC (ltK O key) (kas_desc f p n q)).2.1/\(bC (ltK O key) (kas_desc f p n q)).2.1<=n+f /\
  Dn O key (bC (ltK O key) (kas_desc f p n q)).1 (bC (ltK O key) (kas_desc f p n q)).2.1/\(bC (ltK O key) (kas_desc f p n q)).2.2+1<=(bC (ltK O key) (kas_desc f p n q)).2.1 /\
  (∀i,(bC (ltK O key) (kas_desc f p n q)).2.1-((bC (ltK O key) (kas_desc f p n q)).2.2+1)<=i->i<(bC (ltK O key) (kas_desc f p n q)).2.1->kk O key (bC (ltK O key) (kas_desc f p n q)).1 i=kk O key (bC (ltK O key) (kas_desc f p n q)).1 ((bC (ltK O key) (kas_desc f p n q)).2.1-1))
 | 0,p,n,q,lo,h1,hz,h,hq,he=>⟨trivial,Array.Perm.refl _,Nat.le_refl _,Nat.le_refl _,h,hq,he⟩
 | f+1,p,n,q,lo,h1,hz,h,hq,he=>by
  simp only[kas_desc,bC,kIn]
  cases hb:ltK O key (p.getD n 0) (p.getD (n-1) 0) with
  | true =>
   simp only[if_true]
   by_cases h0:q > 0
   ·simp only[if_pos h0]
    have hk:=lY (O:=O) (key:=key) (p:=p) (i:=n-(q+1)) (j:=n) (by omega) he
    have pm:=iW p (n-(q+1)) n
    have dn:Dn O key (kas_rev p (n-(q+1)) n) (n+1):=by
     have d0:=rP h1 h (KeyOrd.kle_of_klt hb)
     intro i j hij hj
     rw[hk,hk];exact d0 i j hij hj
    obtain⟨i1,i2,i3,i4,i5,i6,i7⟩:=nN f (kas_rev p (n-(q+1)) n) (n+1) 0 (gN pm lo) (by omega) (by rw[pm.size_eq];omega) dn (by omega) (λi a b=>by congr 1;omega)
    exact⟨⟨lo _,lo _,i1⟩,i2.trans pm,by omega,by omega,i5,i6,i7⟩
   ·simp only[if_neg h0]
    obtain⟨i1,i2,i3,i4,i5,i6,i7⟩:=nN f p (n+1) 0 lo (by omega) (by omega) (rP h1 h (KeyOrd.kle_of_klt hb)) (by omega) (λi a b=>by congr 1;omega)
    exact⟨⟨lo _,lo _,i1⟩,i2,by omega,by omega,i5,i6,i7⟩
  | false =>
   simp only[Bool.false_eq_true,if_false,bC,kIn]
   cases hc:ltK O key (p.getD (n-1) 0) (p.getD n 0) with
   | true =>
    simp only[if_true]
    exact⟨⟨lo _,lo _,lo _,lo _,trivial⟩,Array.Perm.refl _,Nat.le_refl _,by simp only[bC];omega,h,hq,he⟩
   | false =>
    simp only[Bool.false_eq_true,if_false]
    have e:kk O key p n=kk O key p (n-1):=KeyOrd.kle_antisymm hc hb
    obtain⟨i1,i2,i3,i4,i5,i6,i7⟩:=nN f p (n+1) (q+1) lo (by omega) (by omega) (rP h1 h (by rw[e];exact KeyOrd.kle_refl _)) (by omega) (λi a b=>by
     rw[show n+1-1=n by omega]
     by_cases hi:i=n
     ·subst hi;rfl
     ·rw[e];exact he i (by omega) (by omega))
    exact⟨⟨lo _,lo _,lo _,lo _,i1⟩,i2,by omega,by omega,i5,i6,i7⟩
theorem mL {p:Array Nat} (lo:Lo p N) {n nrem:Nat} (hn:n+1<=nrem) (hz:nrem<=p.size) (h:Dn O key p (n+1)) :
  kIn (ltK O key) N (kas_descPart n nrem p)/\1<=(bC (ltK O key) (kas_descPart n nrem p)).1/\(bC (ltK O key) (kas_descPart n nrem p)).1<=nrem/\(bC (ltK O key) (kas_descPart n nrem p)).2.Perm p/\Up O key (bC (ltK O key) (kas_descPart n nrem p)).2 (bC (ltK O key) (kas_descPart n nrem p)).1:=by
 unfold kas_descPart
 obtain⟨i1,i2,i3,i4,i5,i6,i7⟩:=nN (N:=N) (nrem-(n+1)) p (n+1) 0 lo (by omega) (by omega) h (by omega) (λi a b=>by congr 1;omega)
 rw[eZ]
 generalize hr:bC (ltK O key) (kas_desc (nrem-(n+1)) p (n+1) 0)=r at *
 by_cases h0:r.2.2 > 0
 ·have sz:r.1.size=p.size:=i2.size_eq
  have hk:=lY (O:=O) (key:=key) (p:=r.1) (i:=r.2.1-(r.2.2+1)) (j:=r.2.1) (by omega) i7
  have pm:=(iW r.1 (r.2.1-(r.2.2+1)) r.2.1).trans i2
  have t:=uW (O:=O) (key:=key) (N:=N) (gN pm lo) (n:=r.2.1) (nrem:=nrem) (by omega) (by omega) (by rw[pm.size_eq];omega) (λi j hij hj=>by rw[hk,hk];exact i5 i j hij hj)
  rw[if_pos h0]
  refine⟨cJ _ i1 ?_,t.2.1,t.2.2.1,t.2.2.2.1.trans pm,t.2.2.2.2⟩
  rw[hr,if_pos h0];exact t.1
 ·have t:=uW (O:=O) (key:=key) (N:=N) (gN i2 lo) (n:=r.2.1) (nrem:=nrem) (by omega) (by omega) (by rw[i2.size_eq];omega) i5
  rw[if_neg h0]
  refine⟨cJ _ i1 ?_,t.2.1,t.2.2.1,t.2.2.2.1.trans i2,t.2.2.2.2⟩
  rw[hr,if_neg h0];exact t.1
theorem BI {p:Array Nat} (lo:Lo p N) {nrem:Nat} (h1:1<=nrem) (hz:nrem<=p.size) :
  kIn (ltK O key) N (kas_count nrem p)/\1<=(bC (ltK O key) (kas_count nrem p)).1/\(bC (ltK O key) (kas_count nrem p)).1<=nrem/\(bC (ltK O key) (kas_count nrem p)).2.Perm p/\Up O key (bC (ltK O key) (kas_count nrem p)).2 (bC (ltK O key) (kas_count nrem p)).1:=by
 unfold kas_count
 obtain⟨i1,i2,i3,i4,i5⟩:=vF (O:=O) (key:=key) lo (nrem-1) 1 (Nat.le_refl _) (λi j hij hj=>by have:i=j:=(by omega);subst this;exact KeyOrd.kle_refl _)
 rw[eZ]
 generalize hr:bC (ltK O key) (kas_asc p (nrem-1) 1)=n at *
 by_cases hn:n=nrem
 ·rw[if_pos (by simpa using hn)]
  exact⟨cJ _ i1 (by rw[hr,if_pos (by simpa using hn)];trivial),i2,by show n<=nrem;omega,Array.Perm.refl _,i4⟩
 ·rw[if_neg (by simpa using hn)]
  have hlt:O.klt (kk O key p n) (kk O key p (n-1)):=i5.resolve_left (by omega)
  by_cases hg:n > 1
  ·rw[if_pos hg]
   simp only[bC]
   cases hb:ltK O key (p.getD 0 0) (p.getD (n-1) 0) with
   | true =>
    simp only[if_true]
    exact⟨cJ _ i1 (by rw[hr,if_neg (by simpa using hn),if_pos hg];exact⟨lo _,lo _,by rw[hb];trivial⟩),by show 1<=n;omega,by show n<=nrem;omega,Array.Perm.refl _,i4⟩
   | false =>
    simp only[Bool.false_eq_true,if_false]
    have hall:∀k,0<=k->k<n->kk O key p k=kk O key p (n-1):=by
     intro k _ hk
     have a1:=i4 0 k (by omega) hk
     have a2:=i4 k (n-1) (by omega) (by omega)
     exact KeyOrd.kle_antisymm a2 (KeyOrd.kle_trans hb a1)
    have hk:=lY (O:=O) (key:=key) (p:=p) (i:=0) (j:=n) (by omega) hall
    have pm:=iW p 0 n
    have t:=mL (O:=O) (key:=key) (N:=N) (gN pm lo) (n:=n) (nrem:=nrem) (by omega) (by rw[pm.size_eq];omega) (λi j hij hj=>by
     rw[hk,hk]
     by_cases hjn:j<n
     ·rw[hall i (by omega) (by omega),hall j (by omega) hjn];exact KeyOrd.kle_refl _
     ·have hj':j=n:=by omega
      subst hj'
      by_cases hi':i=j
      ·subst hi';exact KeyOrd.kle_refl _
      ·rw[hall i (by omega) (by omega)];exact KeyOrd.kle_of_klt hlt)
    exact⟨cJ _ i1 (by rw[hr,if_neg (by simpa using hn),if_pos hg];exact⟨lo _,lo _,by rw[hb];exact t.1⟩),t.2.1,t.2.2.1,t.2.2.2.1.trans pm,t.2.2.2.2⟩
  ·rw[if_neg hg]
   have n1:n=1:=by omega
   have t:=mL (O:=O) (key:=key) (N:=N) lo (n:=n) (nrem:=nrem) (by omega) hz (λi j hij hj=>by
    by_cases hi':i=j
    ·subst hi';exact KeyOrd.kle_refl _
    ·have e1:i=n-1:=by omega
     have e2:j=n:=by omega
     rw[e1,e2];exact KeyOrd.kle_of_klt hlt)
   exact⟨cJ _ i1 (by rw[hr,if_neg (by simpa using hn),if_neg hg];exact t.1),t.2⟩
theorem oX {p:Array Nat} (lo:Lo p N) {k:Nat} (hs:Up O key p k):∀(f l r:Nat),l<=r->r<=k->r-l<=f->(∀i,i<l->O.kle (kk O key p i) (kk O key p k))->(∀i,r<=i->i<k->O.klt (kk O key p k) (kk O key p i)) ->
  kIn (ltK O key) N (kas_place p k f l r)/\bC (ltK O key) (kas_place p k f l r)<=k/\(∀i,i<bC (ltK O key) (kas_place p k f l r)->O.kle (kk O key p i) (kk O key p k))/\(∀i,bC (ltK O key) (kas_place p k f l r)<=i->i<k->O.klt (kk O key p k) (kk O key p i))
 | 0,l,r,hlr,hrk,hf,a,b=>by
  have:l=r:=by omega
  subst this
  exact⟨trivial,hrk,a,b⟩
 | f+1,l,r,hlr,hrk,hf,a,b=>by
  simp only[kas_place]
  by_cases hge:l ≥ r
  ·have:l=r:=by omega
   subst this
   rw[if_pos hge]
   exact⟨trivial,hrk,a,b⟩
  ·rw[if_neg hge]
   simp only[bC,kIn]
   cases hb:ltK O key (p.getD k 0) (p.getD ((l+r) / 2) 0) with
   | true =>
    simp only[if_true]
    have t:=oX lo hs f l ((l+r) / 2) (by omega) (by omega) (by omega) a (λi h1 h2=>KeyOrd.klt_of_klt_of_kle hb (hs _ _ h1 h2))
    exact⟨⟨lo _,lo _,t.1⟩,t.2⟩
   | false =>
    simp only[Bool.false_eq_true,if_false]
    have t:=oX lo hs f ((l+r) / 2+1) r (by omega) hrk (by omega) (λi h1=>KeyOrd.kle_trans (hs i ((l+r) / 2) (by omega) (by omega)) hb) b
    exact⟨⟨lo _,lo _,t.1⟩,t.2⟩
theorem AZ:∀(f:Nat) (p:Array Nat) (k:Nat),Lo p N->k+f<=p.size->Up O key p k->kIn (ltK O key) N (kas_bin f p k)/\(bC (ltK O key) (kas_bin f p k)).Perm p/\Up O key (bC (ltK O key) (kas_bin f p k)) (k+f)
 | 0,p,k,lo,hz,h=>⟨trivial,Array.Perm.refl _,h⟩
 | f+1,p,k,lo,hz,h=>by
  simp only[kas_bin]
  obtain⟨i1,i2,i3,i4⟩:=oX lo h k 0 k (by omega) (by omega) (by omega) (λi hi=>absurd hi (by omega)) (λi h1 h2=>absurd h2 (by omega))
  rw[eZ]
  generalize hr:bC (ltK O key) (kas_place p k k 0 k)=l at *
  have pm:=bubble_perm p k (k-l)
  have hb:=λi=>zY (O:=O) (key:=key) (p:=p) (src:=k) (d:=k-l) (by omega) (by omega) i
  have up:Up O key (bubble p k (k-l)) (k+1):=by
   intro i j hij hj
   rw[hb,hb,show k-(k-l)=l by omega]
   by_cases e1:i=l
   ·rw[if_pos e1]
    by_cases e2:j=l
    ·rw[if_pos e2];exact KeyOrd.kle_refl _
    ·rw[if_neg e2,if_pos (by omega)];exact KeyOrd.kle_of_klt (i4 _ (by omega) (by omega))
   ·rw[if_neg e1]
    by_cases e2:j=l
    ·rw[if_pos e2,if_neg (by omega)];exact i3 _ (by omega)
    ·rw[if_neg e2]
     by_cases e3:l<i/\i<=k
     ·rw[if_pos e3,if_pos (by omega)];exact h _ _ (by omega) (by omega)
     ·rw[if_neg e3]
      by_cases e4:l<j/\j<=k
      ·rw[if_pos e4];exact h _ _ (by omega) (by omega)
      ·rw[if_neg e4];exact h _ _ (by omega) (by omega)
  obtain⟨t1,t2,t3⟩:=AZ f (bubble p k (k-l)) (k+1) (gN pm lo) (by rw[pm.size_eq];omega) up
  refine⟨cJ _ i1 (by rw[hr];exact t1),t2.trans pm,?_⟩
  rw[show k+(f+1)=k+1+f by omega];exact t3
theorem ID {n:Nat} (h1:1<=n):kIn (ltK O key) n (kas_sort n)/\(bC (ltK O key) (kas_sort n)).Perm (List.toArray (List.range n))/\Up O key (bC (ltK O key) (kas_sort n)) n:=by
 have lo:Lo (List.toArray (List.range n)) n:=by
  intro i
  by_cases hi:i<n
  ·simp[Array.getD,hi]
  ·simp[Array.getD,hi];omega
 unfold kas_sort
 obtain⟨i1,i2,i3,i4,i5⟩:=BI (O:=O) (key:=key) lo (nrem:=n) h1 (by simp)
 rw[eZ]
 generalize hr:bC (ltK O key) (kas_count n (List.toArray (List.range n)))=r at *
 have sz:r.2.size=n:=by rw[i4.size_eq];simp
 by_cases h:r.1<n
 ·have t:=AZ (O:=O) (key:=key) (N:=n) (n-max r.1 1) r.2 (max r.1 1) (gN i4 lo) (by omega) (by rw[show max r.1 1=r.1 by omega];exact i5)
  rw[if_pos h]
  refine⟨cJ _ i1 (by rw[hr,if_pos h];exact t.1),t.2.1.trans i4,?_⟩
  have:=t.2.2
  rwa [show max r.1 1+(n-max r.1 1)=n by omega] at this
 ·rw[if_neg h]
  refine⟨cJ _ i1 (by rw[hr,if_neg h];trivial),i4,?_⟩
  rw[show n=r.1 by omega];exact i5
end
end L2.R2
set_option Elab.async false
set_option linter.all false
set_option maxRecDepth 100000
set_option maxHeartbeats 3200000
namespace L2.R2
open PySem PySem.W PySem.SetTable PyProof.Rows
noncomputable def cR:List Int->List Int->Bool
 | [],[]=>false
 | [],_::_=>true
 | _::_,[]=>false
 | a::as,b::bs=>if a=b then cR as bs else decide (a<b)
theorem uD:∀a,cR a a=false
 | []=>rfl
 | a::as=>by simp only[cR,if_true];exact uD as
theorem kI:∀a b c,cR a b=true->cR b c=true->cR a c=true
 | [],[],c,h,_=>by simp[cR] at h
 | [],_::_,[],_,h=>by simp[cR] at h
 | [],_::_,_::_,_,_=>rfl
 | _::_,[],_,h,_=>by simp[cR] at h
 | _::_,_::_,[],_,h=>by simp[cR] at h
 | a::as,b::bs,c::cs,h,k=>by
  simp only[cR] at h k ⊢
  by_cases e1:a=b
  ·subst e1
   rw[if_pos rfl] at h
   by_cases e2:a=c
   ·subst e2;rw[if_pos rfl] at k ⊢;exact kI as bs cs h k
   ·rw[if_neg e2] at k ⊢;exact k
  ·rw[if_neg e1] at h
   by_cases e2:b=c
   ·subst e2;rw[if_neg e1];exact h
   ·rw[if_neg e2] at k
    simp only[decide_eq_true_eq] at h k
    rw[if_neg (by omega)]
    simp only[decide_eq_true_eq];omega
theorem kH:∀a b,cR a b=false->cR b a=false->a=b
 | [],[],_,_=>rfl
 | [],_::_,h,_=>by simp[cR] at h
 | _::_,[],_,h=>by simp[cR] at h
 | a::as,b::bs,h,k=>by
  simp only[cR] at h k
  by_cases e:a=b
  ·subst e;rw[if_pos rfl] at h k;rw[kH as bs h k]
  ·rw[if_neg e] at h;rw[if_neg (Ne.symm e)] at k
   simp only[decide_eq_false_iff_not] at h k;omega
theorem CY (a b c:List Int) (h:cR a c=true):cR a b=true\/cR b c=true:=by
 cases h1:cR a b with
 | true=>exact Or.inl rfl
 | false =>
  right
  cases h2:cR b a with
  | true=>exact kI b a c h2 h
  | false=>rw[<-kH a b h1 h2];exact h
noncomputable def GV:KeyOrd:=⟨List Int,cR,uD,kI,CY,kH⟩
section
variable {prog:Program} {w:World} {A:Around} {E:Value->Shared->Prop} {s:Shared}
theorem int_inv {k:Int} {v:Value} (h:(intKind prog w).is k v=true):∃t,v = .int k t:=by
 cases v <;> simp[intKind,Value.isInt] at h
 exact⟨_,by rw[h]⟩
theorem GW {fin:Bool} {Q:Bool->Shared->Prop}:∀(ns ms:List Int) (vs us:List Value) (i:Nat),ItemsAre (intKind prog w) ns vs->ItemsAre (intKind prog w) ms us->fin=decide (vs.length<us.length)->Q (cR ns ms) s->KatLex prog w A true fin Q (vs.zip us) i s:=by
 intro ns
 induction ns with
 | nil =>
  intro ms vs us i h1 h2 hf q
  cases h1
  cases h2 with
  | nil=>simp at hf;subst hf;exact kat_nil q
  | cons _ _=>simp at hf;subst hf;exact kat_nil q
 | cons n ns ih =>
  intro ms vs us i h1 h2 hf q
  cases h1 with
  | cons h1 t1 =>
   cases h2 with
   | nil=>simp at hf;subst hf;exact kat_nil q
   | @cons m u ms us h2 t2 =>
    rw[List.zip_cons_cons]
    refine kat_cons ((intKind prog w).eqBool h1 h2 ?_)
    by_cases e:n=m
    ·subst e
     rw[decide_eq_true rfl]
     exact kat_yes (ih ms _ us (i+1) t1 t2 (by simpa using hf) (by simpa [cR] using q))
    ·rw[decide_eq_false e]
     obtain⟨tn,rfl⟩:=int_inv h1
     obtain⟨tm,rfl⟩:=int_inv h2
     have q':Q (decide (n<m)) s:=by simpa [cR,e] using q
     refine kat_no ?_
     cases hi:(i == 0) with
     | true=>exact oneLt_int q'
     | false=>exact kat_one _ _ (PySem.wpAny_lt_int (by exact q'))
noncomputable def KeysAt (prog:Program) (w:World) (h:Heap) (vs:List Value) (nss:List (List Int)):Prop:=vs.length=nss.length/\∀i v,vs[i]? = some v->∃a,v = .ref a/\IsTupleKey (intKind prog w) h (nss.getD i []) a
theorem oM {h:Heap}:∀(vs:List Value) (nss:List (List Int)),KeysAt prog w h vs nss->(∀ns∈nss,ns≠[])->∃fs:List Value,KatTups h vs fs/\fs.length=vs.length/\∀f∈fs,∃k t,f = .int k t
 | [],nss,_,_=>⟨[],trivial,rfl,λf hf=>by cases hf⟩
 | v::vs,nss,H,hn=>by
  match nss,H with
  | [],H=>exact absurd H.1 (by simp)
  | ns::nss,H =>
   obtain⟨a,rfl,o,items,n,ho,hc,hd,hi⟩:=H.2 0 v rfl
   obtain⟨fs,f1,f2,f3⟩:=oM vs nss ⟨by have:=H.1;simpa using this,λi v e=>H.2 (i+1) v e⟩ λms hm=>hn ms (List.mem_cons_of_mem _ hm)
   simp only[List.getD_cons_zero] at hi
   match ns,hi,hn ns (List.mem_cons_self ..) with
   | [],_,h=>exact absurd rfl h
   | k::ks,hi,_ =>
    generalize e:items.toList=its at hi
    cases hi with
    | cons h1 h2 =>
     obtain⟨t,rfl⟩:=int_inv h1
     refine⟨.int k t::fs,⟨⟨a,o,items,n,rfl,ho,hc,hd,?_⟩,f1⟩,by simp[f2],λf hf=>?_⟩
     ·rw[<-Array.getElem?_toList,e];rfl
     ·rcases List.mem_cons.mp hf with rfl | hf
      ·exact⟨k,t,rfl⟩
      ·exact f3 f hf
theorem KeysAt.other {h h':Heap} {vs:List Value} {nss:List (List Int)} {a:Addr} {xs:Array Value} {n:Nat} (K:KeysAt prog w h vs nss) (ho:h.get? a=some (seqObj "list" xs n)) (up:∀b o,b≠a->h.get? b=some o->h'.get? b=some o):KeysAt prog w h' vs nss:=by
 refine⟨K.1,λi v e=>?_⟩
 obtain⟨b,rfl,o,its,m,h1,h2,h3,h4⟩:=K.2 i v e
 refine⟨b,rfl,o,its,m,up b o ?_ h1,h2,h3,h4⟩
 rintro rfl
 rw[ho] at h1;cases h1
 exact absurd h2 (by simp[seqObj])
theorem wY {α:Type} (d:α) (xs:List α):(List.range xs.length).map (λi=>xs.getD i d)=xs:=by
 apply List.ext_getElem (by simp)
 intro i h1 h2
 simp[h2]
theorem AR {a:Addr} {vs:List Value} {nss:List (List Int)} {n:Nat} {P:PySem.Fin->Shared->Prop} (ho:s.heap.get? a=some (seqObj "list" vs.toArray n)) (K:KeysAt prog w s.heap vs nss) (hn:∀ns∈nss,ns≠[]) (h64:vs.length<64)
  (q:∀h' out mss c,h'.get? a=some (seqObj "list" (List.toArray out) c)->KeysAt prog w h' out mss->(∀v∈out,v∈vs)->mss.Perm nss->mss.Pairwise (λx y=>cR y x=false)->(∀b o,b≠a->s.heap.get? b=some o->h'.get? b=some o)->P (.done (.ret .none)) { s with heap:=h' }) :
  wpAny (model prog w) A (Builtin.«list.sort» ⟨[.ref a],[]⟩) P E s:=by
 have lt:a<s.heap.objs.size:=Heap.lt_size ho
 rw[list_sort_plain]
 apply wpAny_bind;refine listItems_at ho rfl ?_
 apply wpAny_bind;refine listUpdate_at ho rfl ?_ (by rw[List.size_toArray,sizeLine_eq];omega) (Nat.zero_le _)
 obtain⟨e1,ho1⟩:∃e1,(s.heap.update a (Obj.mapSeq λ_=>(#[]:Array Value))).get? a=some (seqObj "list" #[] e1):=⟨_,get?_update_seq ho λ_=>#[]⟩
 have up1:∀b o,b≠a->s.heap.get? b=some o->(s.heap.update a (Obj.mapSeq λ_=>(#[]:Array Value))).get? b=some o:=λb o hb e=>(Heap.get?_update_other _ _ (Ne.symm hb)).trans e
 generalize s.heap.update a (Obj.mapSeq λ_=>(#[]:Array Value))=h1 at ho1 up1
 apply wpAny_bind;refine seqEpoch_at ho1 rfl ?_
 apply wpAny_bind;refine wpAny_newTuple ?_ (by show vs.length<=_;rw[sizeLine_eq];omega)
 apply wpAny_bind;refine wpAny_newList ?_ (Nat.zero_le _)
 apply wpAny_holding
 show wpAny (model prog w) A _ P E { s with heap:=(h1.push (seqObj "tuple" vs.toArray 0)).push (seqObj "list" #[] 0) }
 have up2:∀b o,b≠a->s.heap.get? b=some o->((h1.push (seqObj "tuple" vs.toArray 0)).push (seqObj "list" #[] 0)).get? b=some o:=λb o hb e=>Heap.get?_push_of_some _ (Heap.get?_push_of_some _ (up1 b o hb e))
 have ho2:((h1.push (seqObj "tuple" vs.toArray 0)).push (seqObj "list" #[] 0)).get? a=some (seqObj "list" #[] e1):=Heap.get?_push_of_some _ (Heap.get?_push_of_some _ ho1)
 generalize (h1.push (seqObj "tuple" vs.toArray 0)).push (seqObj "list" #[] 0)=h2 at up2 ho2
 have K2:=K.other ho up2
 have fin:∀(out:List Value) (mss:List (List Int)) (st':SortSt),(arrOf st').map (·.2)=out.toArray->failedOf st'=none->KeysAt prog w h2 out mss->(∀v∈out,v∈vs)->mss.Perm nss->mss.Pairwise (λx y=>cR y x=false)->out.length<=64 ->
   wpAny (model prog w) A (do
    let sorted:=(arrOf st').map (·.2)
    let touched:=(<-seqEpoch a) != e1
    Builtin.List.listUpdate (.ref a) λ_=>sorted
    if let some e:=failedOf st' then rule "list.sort.comparison-raised";throw e
    if touched then rule "list.sort.modified";raiseError "ValueError" "list modified during sort"
    ret .none) P E { s with heap:=h2 }:=by
  intro out mss st' h1 hf KO hv hp hs hlen
  dsimp only
  apply wpAny_bind;refine seqEpoch_at (s:={ s with heap:=h2 }) ho2 rfl ?_
  rw[h1]
  apply wpAny_bind;refine listUpdate_at (s:={ s with heap:=h2 }) ho2 rfl ?_ (Nat.zero_le _) (by show out.toArray.size<=_;rw[List.size_toArray,sizeLine_eq];omega)
  obtain⟨c,hc⟩:∃c,(h2.update a (Obj.mapSeq λ_=>out.toArray)).get? a=some (seqObj "list" out.toArray c):=⟨_,get?_update_seq ho2 λ_=>out.toArray⟩
  have up3:∀b o,b≠a->h2.get? b=some o->(h2.update a (Obj.mapSeq λ_=>out.toArray)).get? b=some o:=λb o hb e=>(Heap.get?_update_other _ _ (Ne.symm hb)).trans e
  generalize h2.update a (Obj.mapSeq λ_=>out.toArray)=h3 at hc up3
  rw[hf]
  simp only[bne_self_eq_false,Bool.false_eq_true,if_false]
  exact wpAny_pure (q h3 out mss c hc (KO.other ho2 up3) hv hp hs λb o hb e=>up3 b o hb (up2 b o hb e))
 have ln:=K.1
 dsimp only
 by_cases h2':vs.length<2
 ·have c2:vs.toArray.size<2:=by rw[List.size_toArray];exact h2'
  rw[if_pos c2,if_pos c2]
  apply wpAny_bind;apply wpAny_pure
  apply wpAny_bind
  show wpAny _ _ (pure ((),SortSt.mk' general' (vs.toArray.zip vs.toArray) #[] 7 none)) _ _ _
  apply wpAny_pure
  refine fin vs nss _ ?_ rfl K2 (λ_ h=>h) (List.Perm.refl _) ?_ (by omega)
  ·show (vs.toArray.zip vs.toArray).map (·.2)=vs.toArray
   apply Array.toList_inj.mp
   simp[List.map_snd_zip]
  ·match nss,ln with
   | [],_=>exact List.Pairwise.nil
   | [x],_=>exact List.pairwise_singleton _ _
   | _::_::_,ln=>simp at ln;omega
 ·have c2:¬vs.toArray.size<2:=by rw[List.size_toArray];exact h2'
  rw[if_neg c2,if_neg c2]
  obtain⟨fs,f1,f2,f3⟩:=oM vs nss K2 hn
  apply wpAny_bind
  refine kat_kind (s:={ s with heap:=h2 }) (T:=.type "int") f1 (by omega) (λv hv=>?_) (by decide) ?_
  ·obtain⟨k,t,rfl⟩:=f3 v hv
   exact Looks.now
  have hT:(Value.type "int" != Value.type "tuple")=true:=by decide
  rw[hT]
  obtain⟨i1,i2,i3⟩:=ID (O:=GV) (key:=λi=>nss.getD i []) (n:=vs.length) (by omega)
  have psz:(bC (ltK GV λi=>nss.getD i []) (kas_sort vs.length)).size=vs.length:=by rw[i2.size_eq];simp
  generalize hp:bC (ltK GV λi=>nss.getD i []) (kas_sort vs.length)=p at i2 i3 psz
  apply wpAny_bind
  refine wpAny_mono (kat_run (ks:=vs) (vs:=vs) (Q:=λst' s'=>s' = { s with heap:=h2 }/\arrOf st'=p.map (kas_item (vs.toArray.zip vs.toArray))/\failedOf st'=none) (G:=λp' s'=>p'=p/\s' = { s with heap:=h2 }) rfl (by omega) h64 (λp' st' s' a1 a2 a3 a4=>⟨a4.2,by rw[a2,a4.1],a3⟩) ?_) ?_ λ_ _ e=>e
  ·refine oK (lt:=ltK GV λi=>nss.getD i []) (n:=vs.length) (s:={ s with heap:=h2 }) (λi j C hi hj c=>?_) _ i1 ⟨hp,rfl⟩
   unfold kas_ask
   obtain⟨x,ex,ox,xs,nx,hx1,hx2,hx3,hx4⟩:=K2.2 i (vs.getD i Value.none) (by simp[hi])
   obtain⟨y,ey,oy,ys,ny,hy1,hy2,hy3,hy4⟩:=K2.2 j (vs.getD j Value.none) (by simp[hj])
   rw[ex,ey]
   refine kat_lt (s:={ s with heap:=h2 }) hx1 hx3 hy1 hy3 (GW _ _ _ _ 0 hx4 hy4 (by simp) ?_)
   exact c
  ·rintro⟨⟨⟩,st'⟩ s' ⟨rfl,har,hf⟩
   have hout:=kat_snds (ks:=vs) (vs:=vs) rfl har
   refine fin (p.toList.map λi=>vs.getD i Value.none) (p.toList.map λi=>nss.getD i []) st' hout hf ⟨by simp,λi v e=>?_⟩ (λv hv=>?_) ?_ ?_ (by simp[psz];omega)
   ·rw[List.getElem?_map] at e
    cases e2:p.toList[i]? with
    | none=>rw[e2] at e;simp at e
    | some j =>
     rw[e2] at e
     simp only[Option.map_some,Option.some.injEq] at e
     have hj:j<vs.length:=by
      have m:j∈p.toList:=List.mem_of_getElem? e2
      have:=(Array.Perm.mem_iff i2).mp (Array.mem_toList_iff.mp m)
      simpa using this
     obtain⟨b,hb1,hb2⟩:=K2.2 j v (by rw[<-e];simp[hj])
     refine⟨b,hb1,?_⟩
     have g:(p.toList.map λi=>nss.getD i []).getD i []=nss.getD j []:=by
      rw[List.getD_eq_getElem?_getD,List.getElem?_map,e2];rfl
     rw[g];exact hb2
   ·obtain⟨j,m,rfl⟩:=List.mem_map.mp hv
    have hj:j<vs.length:=by
     have:=(Array.Perm.mem_iff i2).mp (Array.mem_toList_iff.mp m)
     simpa using this
    simp[hj]
   ·have pl:p.toList.Perm (List.range vs.length):=by simpa using i2.toList
    refine (pl.map _).trans ?_
    rw[ln,wY]
   ·refine List.pairwise_map.mpr (List.pairwise_iff_getElem.mpr λi j hi hj hij=>?_)
    have:=i3 i j (by omega) (by simp at hj;omega)
    unfold kk at this
    simp only[Array.length_toList] at hi hj
    have e1:p.getD i 0=p[i]:=by simp[Array.getD,hi]
    have e2:p.getD j 0=p[j]:=by simp[Array.getD,hj]
    rw[e1,e2] at this
    exact this
end
end L2.R2
set_option Elab.async false
set_option linter.all false
set_option maxRecDepth 100000
set_option maxHeartbeats 3200000
namespace L2.R2
open PySem PySem.W PyProof.Rows
section
variable {prog:Program} {w:World} {A:Around} {E:Value->Shared->Prop} {s:Shared}
end
end L2.R2
set_option Elab.async false
set_option linter.all false
set_option maxRecDepth 100000
set_option maxHeartbeats 1000000
namespace L2.R2
open PySem PySem.Spec PyProof.Rows L2
theorem mJ:bootBuiltins "sorted" = some (.builtin "sorted"):=by decide +kernel
theorem tX {prog:Program} {w:World}:∀{ns:List Int} {us:List Value},Vals (ns.map V.int) us->ItemsAre (intKind prog w) ns us
 | [],_,h=>by cases h;exact .nil
 | n::ns,_,h=>by
  cases h with
  | cons h1 t =>
   obtain⟨t',rfl⟩:=h1
   exact .cons (intKind_is _ _ _ _) (tX t)
noncomputable def MX (te:RE):RA:=λρ Q=>te ρ λx=>∃ds:List D,x = .lst ds/\Q ds.reverse
theorem uQ {K:PySem.W.Frag} {H:Hp}:∀(out:List Value) (mss:List (List Int)),out.length=mss.length->(∀(i:Nat) (v:Value),out[i]? = some v->∃a,v = .ref a/\H a=some (.tup ((mss.getD i []).map V.int)))->∃ws:List V,Vals ws out/\Reps K H (mss.map gD) ws
 | [],[],_,_=>⟨[],.nil,.nil⟩
 | [],_::_,h,_=>by simp at h
 | _::_,[],h,_=>by simp at h
 | v::out,ms::mss,h,k=>by
  obtain⟨ws,h1,h2⟩:=uQ (K:=K) (H:=H) out mss (by simpa using h) λi v e=>k (i+1) v (by simpa using e)
  obtain⟨a,rfl,ha⟩:=k 0 v rfl
  exact⟨.ref a::ws,.cons rfl h1,.cons (.tup ha Reps.ints) h2⟩
section
variable {X:Cx} {e:Expr} {te:RE} {p pz pos posz:Pos}
end
section
variable {X:Cx} {tg:Expr}
noncomputable def MZ (lo:Int) (n:Nat):List D:=(List.range n).map λk:Nat=>D.int (lo+(k:Int)*2)
structure StpOk (j:Int):Prop where
 lo:-(2 ^ 60)<=j
 hi:j<2 ^ 60
noncomputable def sS (t:RA):RA:=λρ Q=>t ρ λds=>match ds with
 | [.int i,.int j,.int c]=>(StpOk i/\StpOk j/\c=2)/\Q (MZ i ((j-i+1) / 2).toNat)
 | _=>False
end
end L2.R2
set_option Elab.async false
set_option linter.all false
set_option maxRecDepth 100000
namespace L2
open PySem PySem.Spec PyProof.Rows
section
variable {κ:Type} [DecidableEq κ]
noncomputable def eY (kvs:List (κ × V)) (k:κ):Option V:=(kvs.find? λkv=>decide (kv.1=k)).map (·.2)
noncomputable def wP (kvs:List (κ × V)) (k:κ) (v:V):List (κ × V) :=
 if (kvs.any λkv=>decide (kv.1=k))=true then kvs.map (λkv=>if kv.1=k then (kv.1,v) else kv) else kvs++[(k,v)]
theorem eJ {p:κ × V} {r:List (κ × V)} {k:κ} (e:p.1=k):eY (p::r) k=some p.2:=by simp[eY,List.find?_cons,e]
theorem dL {p:κ × V} {r:List (κ × V)} {k:κ} (e:¬p.1=k):eY (p::r) k=eY r k:=by simp[eY,List.find?_cons,e]
theorem uX (k:κ):∀kvs:List (κ × V),(kvs.any λkv=>decide (kv.1=k))=(eY kvs k).isSome
 | []=>rfl
 | p::r=>by
  rw[List.any_cons]
  by_cases e:p.1=k
  ·simp only[eJ e,decide_eq_true e,Bool.true_or,Option.isSome_some]
  ·rw[dL e,decide_eq_false e,Bool.false_or];exact uX k r
theorem EH {kvs:List (κ × V)} {k:κ} (v:V) (h:eY kvs k=none):wP kvs k v=kvs++[(k,v)]:=by
 unfold wP
 rw[uX,h]
 exact if_neg (by decide)
theorem RelO.getD {o:Option V} {u:Option Value} {d:V} {d':Value} (r:RelO o u) (rd:RelV d d'):RelV (o.getD d) (u.getD d'):=by
 cases o with
 | none=>cases u with
  | none=>exact rd
  | some _=>exact (show False from r).elim
 | some _=>cases u with
  | none=>exact (show False from r).elim
  | some _=>exact r
theorem KV.val {kvs:List (κ × V)} {vs:List (κ × Value)} (r:KV kvs vs) (k:κ):RelO (eY kvs k) (valueAt vs k):=by
 unfold KV at r
 induction r with
 | nil=>exact True.intro
 | @cons p q ps qs h t ih =>
  obtain⟨h1,h2⟩:=h
  by_cases e:p.1=k
  ·have e':q.1=k:=h1.symm.trans e
   have b:valueAt (q::qs) k=some q.2:=by simp[valueAt,List.find?_cons,e']
   rw[eJ e,b];exact h2
  ·have e':¬q.1=k:=λz=>e (h1.trans z)
   have b:valueAt (q::qs) k=valueAt qs k:=by simp[valueAt,List.find?_cons,e']
   rw[dL e,b];exact ih
theorem KV.any {kvs:List (κ × V)} {vs:List (κ × Value)} (r:KV kvs vs) (k:κ):(kvs.any λkv=>decide (kv.1=k))=vs.any λkv=>decide (kv.1=k):=by
 unfold KV at r
 induction r with
 | nil=>rfl
 | cons h t ih=>rw[List.any_cons,List.any_cons,ih,h.1]
theorem KV.repl {kvs:List (κ × V)} {vs:List (κ × Value)} (r:KV kvs vs) (k:κ) {y:V} {u:Value} (ry:RelV y u) :
  KV (kvs.map λkv=>if kv.1=k then (kv.1,y) else kv) (vs.map λkv=>if kv.1=k then (kv.1,u) else kv):=by
 unfold KV at r ⊢
 induction r with
 | nil=>exact .nil
 | @cons p q ps qs h t ih =>
  rw[List.map_cons,List.map_cons]
  refine .cons ?_ ih
  obtain⟨h1,h2⟩:=h
  by_cases e:p.1=k
  ·rw[if_pos e,if_pos (h1.symm.trans e)];exact⟨h1,ry⟩
  ·rw[if_neg e,if_neg (λz=>e (h1.trans z))];exact⟨h1,h2⟩
theorem KV.put {kvs:List (κ × V)} {vs:List (κ × Value)} (r:KV kvs vs) (k:κ) {y:V} {u:Value} (ry:RelV y u):KV (wP kvs k y) (stored vs k u):=by
 unfold wP stored
 rw[r.any k]
 by_cases e:(vs.any λkv=>decide (kv.1=k))=true
 ·rw[if_pos e,if_pos e];exact r.repl k ry
 ·rw[if_neg e,if_neg e];exact Paired.snoc r ⟨rfl,ry⟩
theorem KV.length {kvs:List (κ × V)} {vs:List (κ × Value)} (r:KV kvs vs):kvs.length=vs.length:=Paired.length r
end
theorem CO {P:Program} {w:World} {k:Key} {u:Value} (r:RelV (kV k) u):(bZ P w).is k u=true:=by
 cases k with
 | inl i=>obtain⟨t,e⟩:=(show ∃t,u=Value.int i t from r);subst e;exact uF P w i t
 | inr x=>obtain⟨t,e⟩:=(show ∃t,u=Value.str x t from r);subst e;exact uG P w x t
theorem qP {P:Program} {w:World}:∀{ks:List Key} {us:List Value},Vals (ks.map kV) us->ItemsAre (bZ P w) ks us
 | [],_,r=>by rw[List.map_nil] at r;cases r;exact .nil
 | k::ks,_,r=>by
  rw[List.map_cons] at r
  cases r with
  | cons h t=>exact .cons (CO h) (qP t)
noncomputable abbrev KT (H:Hp):List (List Key × V)->List (List Key × Addr × Value)->Prop:=Paired λp q=>p.1=q.1/\H q.2.1=some (.tup (p.1.map kV))/\RelV p.2 q.2.2
theorem KT.val {H:Hp} {kvs:List (List Key × V)} {xs:List (List Key × Addr × Value)} (r:KT H kvs xs) (k:List Key):RelO (eY kvs k) ((atKey xs k).map (·.2)):=by
 induction r with
 | nil=>exact True.intro
 | @cons p q ps qs h t ih =>
  obtain⟨h1,_,h2⟩:=h
  by_cases e:p.1=k
  ·have e':q.1=k:=h1.symm.trans e
   have b:atKey (q::qs) k=some q.2:=by simp[atKey,List.find?_cons,e']
   rw[eJ e,b];exact h2
  ·have e':¬q.1=k:=λz=>e (h1.trans z)
   have b:atKey (q::qs) k=atKey qs k:=by simp[atKey,List.find?_cons,e']
   rw[dL e,b];exact ih
section
variable {P:Program} {w:World} {H:Hp} {h:Heap} {a:Addr}
theorem JE {u:HO} (ok:HOk P w H h) (e:Rd H a u):ObjOk P w H h a u:=e.ok ok
theorem yB {kvs:List (Key × V)} (ok:HOk P w H h) (e:Rd H a (.dK kvs)):kvs.length<=sizeLine/\(a == sysModules)=false/\∃vs,KV kvs vs/\h.DictOf (bZ P w) a vs :=
 show ObjOk P w H h a (.dK kvs) from JE ok e
theorem LZ {kvs:List (Key × V)} (ok:HOk P w H h) (e:H a=some (.dK kvs)):kvs.length<=sizeLine/\(a == sysModules)=false/\∃vs,KV kvs vs/\h.DictOf (bZ P w) a vs:=yB ok (.inl e)
theorem CP {ks:List Key} (ok:HOk P w H h) (e:H a=some (.tup (ks.map kV))):(tupleKind (bZ P w)).is h ks a:=by
 obtain⟨_,its,r,o,h1,h2,n,h3⟩:=(show ObjOk P w H h a (.tup (ks.map kV)) from ok a _ e)
 exact⟨o,its.toArray,n,h1,h2,h3,by simpa using qP r⟩
theorem IN {kvs:List (List Key × V)} (ok:HOk P w H h) (e:Rd H a (.dT kvs)):kvs.length<=sizeLine/\(a == sysModules)=false /\
  ∃xs,KT H kvs xs/\h.DictOfH (tupleKind (bZ P w)) a xs:=by
 obtain⟨z,y,xs,r,o,es,ep,h1,h2,h3,h4,h5⟩:=(show ObjOk P w H h a (.dT kvs) from JE ok e)
 refine⟨z,y,xs,r,o,es,ep,h1,h2,h3,h4,λx hx=>?_,h5⟩
 have all:∀{l:List (List Key × V)} {m:List (List Key × Addr × Value)},KT H l m->∀x∈m,(tupleKind (bZ P w)).is h x.1 x.2.1:=by
  intro l m q
  induction q with
  | nil=>intro x hx;exact nomatch hx
  | @cons p q ps qs hq t ih =>
   intro x hx
   rcases List.mem_cons.mp hx with e | hx
   ·subst e
    exact CP ok (by rw[<-hq.1];exact hq.2.1)
   ·exact ih x hx
 exact all r x hx
end
noncomputable def DGet (H:Hp) (a:Addr) (y:V) (r:Option V):Prop :=
 (∃kvs k,Rd H a (.dK kvs)/\y=kV k/\r=eY kvs k)\/∃kvs k b,Rd H a (.dT kvs)/\y = .ref b/\H b=some (.tup (k.map kV))/\r=eY kvs k
noncomputable def DPut (H:Hp) (a:Addr) (y v:V) (H':Hp):Prop :=
 (∃kvs k,H a=some (.dK kvs)/\y=kV k/\kvs.length<sizeLine/\H'=upd H a (.dK (wP kvs k v))) \/
 ∃kvs k b,H a=some (.dT kvs)/\y = .ref b/\H b=some (.tup (k.map kV))/\kvs.length<sizeLine/\H'=upd H a (.dT (wP kvs k v))
theorem DGet.k {H:Hp} {a:Addr} {kvs:List (Key × V)} {k:Key} (e:H a=some (.dK kvs)):DGet H a (kV k) (eY kvs k):=.inl ⟨kvs,k,.inl e,rfl,rfl⟩
theorem DPut.k {H:Hp} {a:Addr} {kvs:List (Key × V)} {k:Key} {v:V} (e:H a=some (.dK kvs)) (hl:kvs.length<sizeLine):DPut H a (kV k) v (upd H a (.dK (wP kvs k v))):=.inl ⟨kvs,k,e,rfl,hl,rfl⟩
section
variable {X:Cx} {pins:List (Addr × Obj)} {σ:St} {H:Hp} {s:Shared} {a:Addr} {y v:V} {u r:Value} {o:Option V} {A:Around} {E:Value->Shared->Prop}
theorem Inv.big (I:Inv X pins σ H s):sysModules<s.heap.objs.size:=by
 have h:mainGlobals<s.heap.objs.size:=(I.mod.glob.keeps I.bk).lt
 exact Nat.lt_trans (by decide) h
theorem zL {Q:Value->Shared->Prop} (hu:A.units+1<cLine) (I:Inv X pins σ H s) (g:DGet H a y (some v)) (ry:RelV y u) (h:∀w' s',Inv X pins σ H s'->RelV v w'->Q w' s') :
  wpAny (model X.prog X.w) A (getItem (.ref a) u) Q E s:=by
 rcases g with ⟨kvs,k,e,ey,l⟩ | ⟨kvs,k,b,e,ey,eb,l⟩
 ·subst ey
  obtain⟨z,hd,vs,rel,dd⟩:=yB I.hok e
  obtain⟨w',hw,rw'⟩:=RelO.some_of (v:=v) (o:=valueAt vs k) (by rw[l];exact rel.val k)
  exact wpAny_getItem_of (CO ry) dd.mapOf hw (h w' _ (I.tok _) rw')
 ·subst ey
  cases (show u=Value.ref b from ry)
  obtain⟨z,hd,xs,rel,dd⟩:=IN I.hok e
  obtain⟨w',hw,rw'⟩:=RelO.some_of (v:=v) (o:=(atKey xs k).map (·.2)) (by rw[l];exact rel.val k)
  obtain⟨p,hp,hp2⟩:=Option.map_eq_some_iff.mp hw
  refine wpAny_getItem_heap (tupleKind_room_in1 hu) (CP I.hok eb) dd hp ?_
  rw[hp2]
  exact h w' _ (I.tok _) rw'
theorem FT {h':Heap} {t':Nat} {ob:HO} (I:Inv X pins σ H s) (mu:Mut (H a)) (hs:Heap.SameBut a s.heap h') (he:∃q,h'.get? a=some q) (new:ObjOk X.prog X.w (upd H a ob) h' a ob) :
  Inv X pins σ (upd H a ob) { s with heap:=h',toks:=t' } :=
 I.write (x:=a) (e:=a) mu (.inl rfl) (λb q hb z=>(hs.2 b hb).trans z) he new
theorem JQ {P:Program} {w:World} {H':Hp} {h':Heap} {kvs:List (Key × V)} {vs:List (Key × Value)} (z:kvs.length<=sizeLine) (hd:(a == sysModules)=false) (rel:KV kvs vs) (dd:h'.DictOf (bZ P w) a vs) :
  ObjOk P w H' h' a (.dK kvs):=⟨z,hd,vs,rel,dd⟩
end
section
variable {X:Cx} {pins:List (Addr × Obj)} {σ:St} {H:Hp} {s:Shared} {a:Addr} {kvs:List (Key × V)} {k:Key} {u:Value} {A:Around} {E:Value->Shared->Prop}
end
noncomputable def JH (i:Expr):Prop:=∀ov iv,subscripted i false ov iv=operate [ov,iv] (getItem ov iv)
theorem IE {prog:Program} {w:World} {A:Around} {E:Value->Shared->Prop} {s:Shared} {env:Env} {value slice:Expr} {pos:Pos} {T id:String} {Q:Value->Shared->Prop}
  (hl:typeLookup (.type T) "__getitem__" = pure (some (.builtin id))) (hs:JH slice)
  (h:wpAny (model prog w) A (eval value env) (λo s₁=>wpAny (model prog w) A (eval slice env) (λi s₂=>s₂.TypeIs o T/\wpAny (model prog w) A (getItem o i) Q E s₂) E s₁) E s) :
  wpAny (model prog w) A (eval (.Subscript value slice pos) env) Q E s:=by
 refine Subscript_ (wpAny_mono h (λo s₁ h₁=>wpAny_mono h₁ (λi s₂ h₂=>?_) λ_ _ x=>x) λ_ _ x=>x)
 obtain⟨hT,h₂⟩:=h₂
 unfold subscriptTail
 refine wpAny_bind ?_
 rw[getitemInPython_of_ne hT.not_modules]
 refine wpAny_bind (wpAny_specialOf hT hl ?_)
 have fin:wpAny (model prog w) A (subscripted slice false o i) (λr s₃=>wpAny (model prog w) A (letTemporaryGo value o r >>= λ_=>pure r) Q E s₃) E s₂:=by
  rw[hs o i]
  exact wpAny_operating (wpAny_mono h₂ (λr s₃ h₃=>wpAny_bind (wpAny_letTemporaryGo (wpAny_pure h₃))) λ_ _ x=>x)
 first
  | exact wpAny_pure (wpAny_bind fin)
  | exact wpAny_bind (wpAny_pure (wpAny_bind fin))
  | exact wpAny_bind fin
theorem tM {X:Cx} {pins:List (Addr × Obj)} {σ:St} {H:Hp} {s:Shared} {a:Addr} {y:V} {o:Option V} (I:Inv X pins σ H s) (g:DGet H a y o):s.TypeIs (.ref a) "dict":=by
 rcases g with ⟨kvs,k,e,_,_⟩ | ⟨kvs,k,b,e,_,_,_⟩
 ·obtain⟨_,_,vs,_,dd⟩:=yB I.hok e
  exact dd.typeIs
 ·obtain⟨_,_,xs,_,dd⟩:=IN I.hok e
  exact dd.typeIs
noncomputable def ND (td ty:TE):TE:=λσ H Q=>td σ H λx H1=>ty σ H1 λy H2=>∃a v,x = .ref a/\DGet H2 a y (some v)/\Q v H2
section
variable {X:Cx} {o i e value:Expr} {pos pos' tpos:Pos} {td ty tv:TE}
theorem HG (hu:X.A.units+1<cLine) (ho:PE X o td) (hi:PE X i ty) (hs:JH i):PE X (.Subscript o i pos) (ND td ty):=by
 intro pins s σ H Q I h
 refine IE PySem.F.slot_dict_getitem.lookup hs (thn (ho pins s σ H _ I h) λu s1 ⟨x,H1,I1,rx,q1⟩=>thn (hi pins s1 σ H1 _ I1 q1) λiv s2 ⟨y,H2,I2,ry,a,v,ex,g,q2⟩=>?_)
 subst ex
 obtain rfl:u=Value.ref a:=rx
 exact⟨tM I2 g,zL hu I2 g ry λw' s3 I3 rw'=>⟨v,H2,I3,rw',q2⟩⟩
end
theorem BP {P:Program} {w:World} {H:Hp} (h:Heap) (hb:sysModules<h.objs.size):ObjOk P w H (h.push { cls:=.type "dict",data:=.dict #[] }) h.objs.size (.dK []) :=
 ⟨Nat.zero_le _,beq_eq_false_iff_ne.mpr (Ne.symm (Nat.ne_of_lt hb)),[],.nil,Heap.DictOf.new h⟩
noncomputable def LK:TE:=λ_ H Q=>∀p,H p=none->Q (.ref p) (upd H p (.dK []))
section
variable {X:Cx} {pos:Pos}
theorem DR:PE X (.Dict [] [] pos) LK:=λpins s σ H Q I h =>
 wpAny_Dict_empty ⟨.ref s.heap.objs.size,_,I.laid (a:=s.heap.objs.size) (o:=.dK []) (t':=s.toks) (λ_ _ q=>Heap.get?_push_of_some _ q) (Nat.le_refl _) (BP s.heap I.big),rfl,h _ (I.hok.fresh (Nat.le_refl _))⟩
end
noncomputable abbrev VV:List (V × V)->List (Value × Value)->Prop:=Paired λp q=>RelV p.1 q.1/\RelV p.2 q.2
section
variable {X:Cx} {pins:List (Addr × Obj)} {σ:St} {H:Hp} {s:Shared} {a:Addr} {y d:V} {u r:Value} {o:Option V} {A:Around} {E:Value->Shared->Prop}
end
section
variable {X:Cx} {o e f:Expr} {apos cpos:Pos} {td ty tx:TE}
end
section
variable {X:Cx} {pins:List (Addr × Obj)} {σ:St} {H:Hp} {s:Shared} {a:Addr} {kvs:List (Key × V)} {A:Around} {E:Value->Shared->Prop}
end
section
variable {X:Cx} {pins:List (Addr × Obj)} {σ:St} {H:Hp} {s:Shared} {a:Addr} {y:V} {u:Value} {A:Around} {E:Value->Shared->Prop}
end
end L2
set_option Elab.async false
set_option linter.all false
set_option maxRecDepth 100000
namespace L2.R2
open PySem PySem.Spec PyProof.Rows L2
noncomputable def HR:V->List V->Hp->VK->Prop:=λx vs H Q=>∃a kvs k y,x = .ref a/\vs=[kV k,y]/\H a=some (.dK kvs)/\kvs.length<sizeLine /\
 (∀v,eY kvs k=some v->Q v H)/\(eY kvs k=none->Q y (upd H a (.dK (kvs++[(k,y)]))))
section
variable {X:Cx}
theorem AH:MtR X "dict.setdefault" HR:=by
 intro pins s σ H x vs v us Q I rx rv h
 obtain⟨a,kvs,k,y,rfl,rfl,hH,hz,h1,h2⟩:=h
 cases rx
 obtain⟨u,w,rfl,ru,rw'⟩:=rv.two
 obtain⟨z,hd,ws,rel,dd⟩:=LZ I.hok hH
 have val:=rel.val k
 refine call_meetsIn PySem.F.slot_dict_setdefault dd.typeIs PySem.F.entry_dict_setdefault (PySem.F.args_dict_setdefault_3 _ _ _) (kt_meets_setdefault (bZ X.prog X.w) a (CO ru) hd w)
  ⟨ws,dd,by rw[<-rel.length];exact z,λv hv=>?_,λhn h' dd' hs=>?_⟩
 ·rw[hv] at val
  cases e:eY kvs k with
  | none=>rw[e] at val;exact (show False from val).elim
  | some v'=>rw[e] at val;exact⟨v',H,I.tok _,val,h1 v' e⟩
 ·rw[hn] at val
  cases e:eY kvs k with
  | some _=>rw[e] at val;exact (show False from val).elim
  | none =>
   have he:∃q,h'.get? a=some q:=let ⟨q,_,_,hq,_⟩:=dd';⟨q,hq⟩
   have r2:=rel.put k rw'
   rw[EH y e] at r2
   exact⟨y,_,FT I (by rw[hH];exact True.intro) hs he (JQ (by rw[List.length_append];exact hz) hd r2 dd'),rw',h2 e⟩
end
noncomputable def iD:List (Int × List D)->Int->List (Int × List D)
 | [],k=>[(k,[])]
 | (k',ds)::r,k=>if k'=k then (k',ds)::r else (k',ds)::iD r k
noncomputable def eG:List (Int × List D)->Int->D->List (Int × List D)
 | [],k,d=>[(k,[d])]
 | (k',ds)::r,k,d=>if k'=k then (k',ds++[d])::r else (k',ds)::eG r k d
section
variable {K:PySem.W.Frag} {H₀ H H':Hp} {kvs:List (Int × List D)} {kws:List (Key × V)} {as:List Addr} {k:Int}
theorem wO {v:V} (t:Dcl K H₀ H kvs kws as) (e:eY kws (Sum.inl k)=some v):iD kvs k=kvs:=by
 induction t with
 | nil=>cases e
 | @cons k' b vs ds kvs kws as h h0 r n t ih =>
  unfold iD
  by_cases hk:k'=k
  ·rw[if_pos hk]
  ·rw[if_neg hk,ih (by rw[dL (λz=>hk (by cases z;rfl))] at e;exact e)]
theorem Dcl.there {v:V} (t:Dcl K H₀ H kvs kws as) (e:eY kws (Sum.inl k)=some v):∃b vs ds,v = .ref b/\b∈as/\H b=some (.lst vs)/\Reps K H ds vs/\(∃p∈kvs,p.2=ds) /\
  ∀(H':Hp) (d:D) (w:V),Keep H H'->H' b=some (.lst (vs++[w]))->(∀a o,a∈as->a≠b->H a=some o->H' a=some o)->Rep K H' d w->Dcl K H₀ H' (eG kvs k d) kws as:=by
 induction t with
 | nil=>cases e
 | @cons k' b vs ds kvs kws as h h0 r n t ih =>
  by_cases hk:k'=k
  ·subst hk
   rw[eJ rfl] at e
   cases e
   refine⟨b,vs,ds,rfl,.head _,h,r,⟨_,.head _,rfl⟩,λH' d w kp hb ho rd=>?_⟩
   unfold eG
   rw[if_pos rfl]
   exact .cons hb h0 ((r.keep kp).append (.cons rd .nil)) n (t.keep kp λa m o e=>ho a o (.tail _ m) (by rintro rfl;exact n m) e)
  ·rw[dL (λz=>hk (by cases z;rfl))] at e
   obtain⟨c,us,es,e1,m,g1,g2,⟨p,pm,pe⟩,g3⟩:=ih e
   refine⟨c,us,es,e1,.tail _ m,g1,g2,⟨p,.tail _ pm,pe⟩,λH' d w kp hb ho rd=>?_⟩
   unfold eG
   rw[if_neg hk]
   exact .cons (ho b _ (.head _) (by rintro rfl;exact n m) h) h0 (r.keep kp) n (g3 H' d w kp hb (λa o q=>ho a o (.tail _ q)) rd)
theorem Dcl.fresh {p:Addr} (t:Dcl K H₀ H kvs kws as) (e:eY kws (Sum.inl k)=none) (kp:Keep H H') (ho:∀a o,a∈as->H a=some o->H' a=some o) (hp:H' p=some (.lst [])) (h0:H₀ p=none) (np:p ∉ as) :
  Dcl K H₀ H' (iD kvs k) (kws++[(Sum.inl k,.ref p)]) (as++[p]):=by
 induction t with
 | nil=>exact .cons hp h0 .nil (by simp) .nil
 | @cons k' b vs ds kvs kws as h h1 r n t ih =>
  have hk:¬k'=k:=λz=>by rw[eJ (by rw[z])] at e;cases e
  rw[dL (λz=>hk (by cases z;rfl))] at e
  unfold iD
  rw[if_neg hk]
  rw[List.mem_cons,not_or] at np
  exact .cons (ho b _ (.head _) h) h1 (r.keep kp) (λz=>(List.mem_append.mp (show b∈as++[p] from z)).elim n λz=>np.1 (List.mem_singleton.mp z).symm) (ih e (λa o q=>ho a o (.tail _ q)) np.2)
theorem AU {p:V} (t:Dcl K H₀ H kvs kws as) (e:eY kws (Sum.inl k)=none):eY (kws++[(Sum.inl k,p)]) (Sum.inl k)=some p:=by
 induction t with
 | nil=>exact eJ rfl
 | @cons k' b vs ds kvs kws as h h1 r n t ih =>
  have hk:¬(Sum.inl k':Key)=Sum.inl k:=λz=>by rw[eJ z] at e;cases e
  rw[dL hk] at e
  rw[List.cons_append,dL hk]
  exact ih e
theorem EI:∀(kvs:List (Int × List D)) (k:Int) (d:D),eG (iD kvs k) k d=eG kvs k d
 | [],k,d=>by simp[iD,eG]
 | (k',ds)::r,k,d=>by
  unfold iD
  by_cases hk:k'=k
  ·rw[if_pos hk]
  ·rw[if_neg hk];simp only[eG,if_neg hk];rw[EI r k d]
theorem uN:∀(kvs:List (Int × List D)) (k:Int) {p:Int × List D},p∈iD kvs k->p∈kvs\/p.2=[]
 | [],k,p,h=>by rw[iD,List.mem_singleton] at h;subst h;exact .inr rfl
 | (k',ds)::r,k,p,h=>by
  unfold iD at h
  by_cases hk:k'=k
  ·rw[if_pos hk] at h;exact .inl h
  ·rw[if_neg hk] at h
   rcases List.mem_cons.mp h with h | h
   ·exact .inl (h ▸ .head _)
   ·exact (uN r k h).imp (.tail _) id
theorem Dcl.len (t:Dcl K H₀ H kvs kws as):kvs.length=kws.length:=by
 induction t with
 | nil=>rfl
 | cons _ _ _ _ _ ih=>simp[ih]
end
section
variable {X:Cx} {e k:Expr} {pos pos' p apos cpos npos spos dpos lpos:Pos} {te tk:RE} {x:Str}
noncomputable def yR (i:Nat):RS:=λE ρ=>E.nx (ρ.set i (some (.dcl [])))
theorem GD {i:Nat} (hN:X.N.Nodup) (hi:X.N[i]? = some x:=by rfl) (hx:Loc X.env.scope x:=by walk_at "vis") (hs:swapsWith (.Dict [] [] p) (some (.Name x pos')) pos.line X.env=pure false:=by rfl)
  (hf:X.fn x=true\/X.env.scope.names.lookup x=some .local:=by walk_at "loc"):DS X (.Assign [.Name x pos'] (.Dict [] [] p) pos) (yR i) :=
 PS.mono (mD hN hi hx DR hs hf) λDe σ H hh=>dF hh λρ E st q n r b c=>λa ha=>by
  have sm:Same H (upd H a (.dK [])):=λb o h=>by rw[aE (aH h ha)];exact h
  refine n _ _ _ q (.of sm) (st.put sm ⟨a,[],[],rfl,aQ,st.same.free ha,.nil⟩ λc o=>?_)
  obtain⟨p,kws,e1,e2,e3⟩:=o
  cases e1
  rw[aQ] at e2;cases e2
  rcases e3 with rfl | ⟨_,z⟩
  ·exact ha
  ·cases z
noncomputable def yQ (i:Nat) (tk te:RE):RS:=λE ρ=>match ρ[i]? with
 | some (some (.dcl kvs))=>tk ρ λkd=>match kd with
  | .int k=>Sz (kvs.length+1)/\te (ρ.set i (some (.dcl (iD kvs k)))) λd=>(∀p∈kvs,Sz (p.2.length+1))/\E.nx (ρ.set i (some (.dcl (eG kvs k d))))
  | _=>False
 | _=>False
theorem GC (i:Nat) (hk:DE X k tk) (he:DE X e te) (hN:X.N[i]? = some x:=by rfl) (hv:Vis X.env.scope x:=by walk_at "vis") (hd:(x == ("__debug__":Str))=false:=by decide) (hcd:(x == ("__classdict__":Str))=false:=by decide)
  (hbase:attributeBase (.Name x npos) "setdefault" X.env (eval (.Name x npos) X.env)=eval (.Name x npos) X.env:=by rfl)
  (hfew:((backTo dpos (starEach [k,.List [] lpos] X.env)).all (λx=>!x.1) && (backToKw dpos (keywordEach [] X.env)).all (λx=>x.1.isSome) && decide (([k,.List [] lpos]:List Expr).length+([]:List Keyword).length+(if ([]:List Keyword).isEmpty then 0 else 1)<30))=true:=by rfl)
  (hline:(spos.endLine == dpos.line)=true:=by rfl) (hs1:starEach [k,.List [] lpos] X.env=(false,eval k X.env)::starEach [.List [] lpos] X.env:=by rfl) (hs2:starEach [.List [] lpos] X.env=(false,eval (.List [] lpos) X.env)::starEach [] X.env:=by rfl)
  (hpl:(backTo dpos (starEach [.List [] lpos] X.env)).any (·.1)=false:=by rfl)
  (hbase':attributeBase (.Call (.Attribute (.Name x npos) "setdefault" spos) [k,.List [] lpos] [] dpos) "append" X.env (eval (.Call (.Attribute (.Name x npos) "setdefault" spos) [k,.List [] lpos] [] dpos) X.env)=eval (.Call (.Attribute (.Name x npos) "setdefault" spos) [k,.List [] lpos] [] dpos) X.env:=by rfl)
  (hfew':((backTo cpos (starEach [e] X.env)).all (λx=>!x.1) && (backToKw cpos (keywordEach [] X.env)).all (λx=>x.1.isSome) && decide (([e]:List Expr).length+([]:List Keyword).length+(if ([]:List Keyword).isEmpty then 0 else 1)<30))=true:=by rfl)
  (hline':(apos.endLine == cpos.line)=true:=by rfl) (hs:starEach [e] X.env=[(false,eval e X.env)]:=by rfl) (hn:starEach [] X.env=[]:=by rfl)
  (hsw:swapsWith (.Call (.Attribute (.Call (.Attribute (.Name x npos) "setdefault" spos) [k,.List [] lpos] [] dpos) "append" apos) [e] [] cpos) none pos.line X.env=pure false:=by rfl) :
  DS X (.Expr (.Call (.Attribute (.Call (.Attribute (.Name x npos) "setdefault" spos) [k,.List [] lpos] [] dpos) "append" apos) [e] [] cpos) pos) (yQ i tk te):=by
 have inner:=yL (apos:=spos) (cpos:=dpos) PySem.F.plainAttrs_dict PySem.F.slot_dict_setdefault PySem.F.type_dict_setdefault AH (pv (pos:=npos) i hN hv hd hcd) (bW hk (bW (DU (pos:=lpos) gA) gA hs2) hs1) hbase hfew hline hs1 hpl
 refine PS.mono (nP (yL PySem.F.plainAttrs_list PySem.F.slot_list_append PySem.F.type_list_append qS inner (eL he hs hn) hbase' hfew' hline' (by rw[hs,hn]) (by rw[hn];rfl)) hsw) λDe σ H hh=>dF hh λρ E so q n r bk ct=>?_
 unfold yQ at q
 split at q
 ·rename_i kvs ex
  obtain⟨v,h1,a,kws,as,ev,ha,h0,t⟩:=so.rel i _ ex
  subst ev
  refine⟨.ref a,h1,.inr (.inr (.inl ⟨rfl,.inl ⟨kws,ha⟩⟩)),ρ,_,so,q,λkd kv H1 hkd s1 rk=>?_⟩
  cases kd with
  | int k =>
   obtain⟨z1,q1⟩:=hkd
   have z1:kvs.length+1<=sizeLine:=z1.ok
   rw[rk.int_inv]
   have so1:=so.ext s1
   have ha1:=s1 _ _ ha
   have t1:Dcl X.K X.H₀ H1 kvs kws as:=t.keep (.of s1) λc _ o=>s1 c o
   refine⟨Nat.zero_le _,λp hp=>?_⟩
   have sm2:Same H1 (upd H1 p (.lst [])):=λb o h=>by rw[aE (aH h hp)];exact h
   have kl:=t1.len
   have go:∀(b:Addr) (H2:Hp) (kws2:List (Key × V)),StOk X (ρ.set i (some (.dcl (iD kvs k)))) σ H2->H2 a=some (.dK kws2)->eY kws2 (Sum.inl k)=some (.ref b)->Keep H H2 ->
     tyV X.K "list" (.ref b) H2/\DD X te σ H2 λw H3=>yP (.ref b) [w] H3 λ_ H4=>De.nx σ H4:=λb H2 kws2 so2 ha2 hv2 kp2=>by
    have e2:(ρ.set i (some (.dcl (iD kvs k))))[i]? = some (some (.dcl (iD kvs k))):=List.getElem?_set_self (List.getElem?_eq_some_iff.mp ex).1
    obtain⟨v2,g1,a',kws',as2,ev2,ha',g0,t2⟩:=so2.rel i _ e2
    rw[h1] at g1;cases g1;cases ev2
    rw[ha2] at ha';cases ha'
    obtain⟨b',us,ds',eb,_,hb,_,_,_⟩:=t2.there hv2
    cases eb
    refine⟨.inl ⟨rfl,us,SqL.of hb⟩,_,_,so2,q1,λd w H3 ⟨z2,hd⟩ s3 rd=>?_⟩
    have t3:Dcl X.K X.H₀ H3 (iD kvs k) kws2 as2:=t2.keep (.of s3) λc _ o=>s3 c o
    obtain⟨b',us3,ds3,eb,mb,hb3,rb3,⟨pp,pm,pe⟩,fin⟩:=t3.there hv2
    cases eb
    have ha3:=s3 _ _ ha2
    have ne:a≠b:=by rintro rfl;rw[ha3] at hb3;cases hb3
    have sz:us3.length<sizeLine:=by
     rw[<-rb3.length,<-pe]
     rcases uN kvs k pm with h | h
     ·exact (z2 pp h).ok
     ·rw[h];exact Nat.lt_of_lt_of_le (Nat.succ_pos _) z1
    refine⟨b,us3,w,rfl,rfl,hb3,sz,?_⟩
    have kpU:Keep H3 (upd H3 b (.lst (us3++[w]))):=⟨λc ys h=>by rw[aE (cG h hb3 (by intro z;cases z))];exact h,λc o u h=>by rw[aE (cG h hb3 (by intro z;cases z))];exact h,λc φ h=>by rw[aE (cG h hb3 (by intro z;cases z))];exact h,λc φ h=>by rw[aE (cG h hb3 (by intro z;cases z))];exact h⟩
    have ow:∀c,Ow H3 (.dcl (iD kvs k)) (.ref a) c↔(c=a\/∃k,(k,V.ref c)∈kws2):=λc=>⟨λ⟨p',kw',e1,e2,e3⟩=>by cases e1;rw[ha3] at e2;cases e2;exact e3,λh=>⟨a,kws2,rfl,ha3,h⟩⟩
    have haU:upd H3 b (.lst (us3++[w])) a=some (.dK kws2):=by rw[aE ne];exact ha3
    obtain⟨so4,k4⟩:=(so2.ext s3).updW (x':=.dcl (eG kvs k d)) (v':=.ref a) e2 h1 (H':=upd H3 b (.lst (us3++[w])))
     (λc o h w'=>by rw[aE (by rintro rfl;exact w' ((ow _).mpr (.inr (t3.mem.mp mb))))];exact h)
     ⟨a,kws2,as2,rfl,haU,h0,by
      rw[<-EI]
      exact fin _ d w kpU aQ (λc o _ nc h=>by rw[aE nc];exact h) (rd.keep kpU)⟩
     (λc o=>.inl ((ow c).mpr (by
      obtain⟨p',kw',e1,e2,e3⟩:=o
      cases e1;rw[haU] at e2;cases e2;exact e3)))
    rw[cT h1,List.set_set] at so4
    exact n _ _ _ hd ((kp2.trans (.of s3)).trans k4) so4
   refine⟨a,kws,Sum.inl k,.ref p,rfl,rfl,sm2 _ _ ha1,by omega,λv hv=>?_,λhv=>?_⟩
   ·obtain⟨b,_,_,eb,_⟩:=t1.there hv
    subst eb
    refine go b _ kws ?_ (sm2 _ _ ha1) hv (.of (s1.trans sm2))
    rw[wO t1 hv,cT ex]
    exact so1.ext sm2
   ·have pa:p≠a:=by rintro rfl;rw[hp] at ha1;cases ha1
    have np:p ∉ as:=λm=>by obtain⟨_,us,q'⟩:=t1.at m;rw[hp] at q';cases q'
    have ow:∀c,Ow H1 (.dcl kvs) (.ref a) c↔(c=a\/∃k,(k,V.ref c)∈kws):=λc=>⟨λ⟨p',kw',e1,e2,e3⟩=>by cases e1;rw[ha1] at e2;cases e2;exact e3,λh=>⟨a,kws,rfl,ha1,h⟩⟩
    have st1:∀c o,c≠a->H1 c=some o->upd (upd H1 p (.lst [])) a (.dK (kws++[(Sum.inl k,.ref p)])) c=some o:=λc o nc h=>by rw[aE nc];exact sm2 c o h
    have kpU:Keep H1 (upd (upd H1 p (.lst [])) a (.dK (kws++[(Sum.inl k,.ref p)]))):=⟨λc ys h=>st1 c _ (by rintro rfl;rw[ha1] at h;cases h) h,λc o u h=>st1 c _ (by rintro rfl;rw[ha1] at h;cases h) h,λc φ h=>st1 c _ (by rintro rfl;rw[ha1] at h;cases h) h,λc fs h=>st1 c _ (by rintro rfl;rw[ha1] at h;cases h) h⟩
    obtain⟨so2,k2⟩:=so1.updW (x':=.dcl (iD kvs k)) (v':=.ref a) ex h1 (H':=upd (upd H1 p (.lst [])) a (.dK (kws++[(Sum.inl k,.ref p)])))
     (λc o h w'=>st1 c o (by rintro rfl;exact w' ((ow _).mpr (.inl rfl))) h)
     ⟨a,_,_,rfl,aQ,h0,t1.fresh hv kpU (λc o m h=>st1 c o (by rintro rfl;obtain⟨_,us,q'⟩:=t1.at m;rw[ha1] at q';cases q') h) (by rw[aE pa];exact aQ) (so1.same.free hp) np⟩
     (λc o=>by
      obtain⟨p',kw',e1,e2,e3⟩:=o
      cases e1;rw[aQ] at e2;cases e2
      rcases e3 with rfl | ⟨k',m⟩
      ·exact .inl ((ow _).mpr (.inl rfl))
      ·rcases List.mem_append.mp m with m | m
       ·exact .inl ((ow _).mpr (.inr ⟨k',m⟩))
       ·rw[List.mem_singleton] at m;cases m;exact .inr hp)
    rw[cT h1] at so2
    exact go p _ _ so2 aQ (AU t1 hv) ((Keep.of s1).trans k2)
  | _=>exact hkd.elim
 ·exact q.elim
noncomputable def jQ:List Int->List D->Int->Option D
 | k'::ks,d::ds,k=>if k'=k then some d else jQ ks ds k
 | _,_,_=>none
noncomputable def FQ:R22:=λx y Q=>match x,y with
 | .dct ks ds,.int k=>∃d,jQ ks ds k=some d/\Q d
 | _,_=>False
theorem BJ {K:PySem.W.Frag} {H:Hp} {k:Int}:∀{ks:List Int} {ds:List D} {vs:List V} {d:D},Reps K H ds vs->jQ ks ds k=some d->∃v,eY (mP ks vs) (Sum.inl k)=some v/\Rep K H d v
 | [],_,_,_,_,e=>by simp[jQ] at e
 | k'::ks,_,_,_,.nil,e=>by simp[jQ] at e
 | k'::ks,_,_,d,.cons (v:=v) (vs:=vs) h t,e=>by
  unfold jQ at e
  by_cases hk:k'=k
  ·rw[if_pos hk] at e;cases e
   exact⟨v,eJ (by rw[hk]),h⟩
  ·rw[if_neg hk] at e
   obtain⟨u,g1,g2⟩:=BJ t e
   exact⟨u,by show eY ((Sum.inl k',v)::mP ks vs) _=_;rw[dL (λz=>hk (by cases z;rfl))];exact g1,g2⟩
theorem JN {kk:Nat} {a b:Expr} {ta tb:RE} (hr:Room kk X.A) (ha:DE X a ta) (hb:DE X b tb) (hs:JH b:=by intro _ _;rfl):DE X (.Subscript a b pos) (r2 FQ ta tb):=by
 refine PE.mono (HG (by have:=hr.un;omega) ha hb hs) λσ H Q h=>?_
 obtain⟨ρ,P,st,ht,hP⟩:=h
 refine⟨ρ,_,st,ht,λx v H1 h1 s1 r1=>⟨ρ,_,st.ext s1,h1,λy u H2 h2 s2 r2=>?_⟩⟩
 unfold FQ at h2
 split at h2
 ·rename_i ks ds k
  obtain⟨d,e,h2⟩:=h2
  rw[r2.int_inv]
  have r1':=Rep.keep (.of s2) r1
  cases r1' with
  | @dct a vs _ _ o hh hl rr =>
   obtain⟨w,g1,g2⟩:=BJ rr e
   exact⟨a,w,rfl,.inl ⟨_,Sum.inl k,.inr ⟨o,hh⟩,rfl,g1.symm⟩,hP d w H2 h2 (s1.trans s2) g2⟩
 ·exact h2.elim
end
end L2.R2
set_option Elab.async false
set_option linter.all false
set_option maxRecDepth 100000
set_option maxHeartbeats 1000000
namespace L2.R2
open PySem PySem.Spec PyProof.Rows L2 PySem.W
theorem gJ:∀{ns:List Int} {us:List Value},IntsAre us ns->Vals (ns.map V.int) us
 | [],[],_=>.nil
 | n::ns,u::us,h=>by
  cases h with
  | cons _ t h=>exact .cons ⟨_,rfl⟩ (gJ h)
theorem zX (ks:List Int) (vs:List V):(mP ks vs).length=min ks.length vs.length:=List.length_zipWith
theorem qZ {P:Program} {w:World}:∀(ks:List Int) (vs:List V) (ws:List (Key × Value)),ks.length=vs.length->KV (mP ks vs) ws->∀us:List Value,us.length=ks.length ->
  (∀(j:Nat) (v:Value),us[j]? = some v->∃k x,ws[j]? = some (k,x)/\(bZ P w).is k v=true)->Vals (ks.map V.int) us
 | [],_,_,_,_,us,h,_=>by rw[List.length_eq_zero_iff.mp h];exact .nil
 | k::ks,[],_,h,_,_,_,_=>by cases h
 | k::ks,v::vs,ws,hl,r,us,h,q=>by
  cases us with
  | nil=>cases h
  | cons u us =>
   cases r with
   | @cons _ b _ bs h1 t =>
    refine .cons ?_ (qZ ks vs bs (by simpa using hl) t us (by simpa using h) λj v e=>q (j+1) v (by simpa using e))
    obtain⟨k',x,e,i⟩:=q 0 u rfl
    cases e
    rw[<-show (Sum.inl k:Key)=k' from h1.1] at i
    rcases bL (show oN (Sum.inl k) u=true from i) with ⟨i',t',e1,e2⟩ | ⟨y,t',e1,e2⟩
    ·cases e1;exact⟨t',e2⟩
    ·cases e1
noncomputable def wS (te:RE):RA:=λρ Q=>te ρ λx=>∃ns:List Int,x = .lst (ns.map .int)/\ns.length<64/\∀ms:List Int,ms.Perm ns->ms.Pairwise (·<=·)->Q (ms.map .int)
noncomputable def wT (te:RE):RA:=λρ Q=>te ρ λx=>∃nss:List (List Int),x = .lst (nss.map gD)/\nss.length<64/\(∀ns∈nss,ns≠[])/\∀mss:List (List Int),mss.Perm nss->mss.Pairwise (λx y=>cR y x=false)->Q (mss.map gD)
noncomputable def wQ (te:RE):RA:=λρ Q=>te ρ λx=>∃(ks:List Int) (ds:List D),x = .dct ks ds/\ks.length=ds.length/\Q (ks.map .int)
section
variable {X:Cx} {e:Expr} {te:RE} {p pos:Pos}
theorem BV (hms:X.mg "sorted" = none) (h:DB X e te) (hgs:Gl X "sorted":=by rfl) (hs:starEach [e] X.env=[(false,eval e X.env)]:=by rfl) (hn:starEach [] X.env=[]:=by rfl) :
  DO X (.Call (.Name "sorted" p) [e] [] pos) (wS te):=by
 intro pins s σ H Q I hh_0
 obtain⟨ρ,P,st,q,kq⟩:=hh_0
 refine wpAny_Call_Name_kw (gM I hgs hms mJ ?_)
 refine PyProof.Rows.callWith_builtin1 (thn (eL h hs hn pos pins s σ H (λvs H1=>∃(ns:List Int) (v:V),vs=[v]/\Same H H1/\RepB X.K H1 (.lst (ns.map .int)) v/\ns.length<64/\∀ms:List Int,ms.Perm ns->ms.Pairwise (·<=·)->P (ms.map .int)) I
  ⟨ρ,_,st,q,λx v H1 hx s1 r1=>?_⟩) λus s1 ⟨vs,H1,I1,r1,q1⟩=>?_) (by rw[hs,hn]) (by rw[hn];rfl)
 ·obtain⟨ns,rfl,a1,a2⟩:=hx
  exact⟨ns,v,rfl,s1,r1,a1,a2⟩
 obtain⟨ns,v,rfl,s01,rb,h64,hP⟩:=q1
 obtain⟨l,vs,rfl,hq,rr⟩:=rb.lst
 obtain⟨u,rfl,rx⟩:=kB r1
 cases rx
 obtain⟨its,rv,pl,hz⟩:=I1.list hq
 have l2:=rv.length
 rw[rr.ints_inv] at rv l2
 rw[List.length_map] at l2
 refine sorted_ints pl.isList (fC rv) (by omega) λout ms a1 a2 a3=>?_
 obtain⟨c,he⟩:=sortedAll_at s1.heap its out
 have VV:=gJ a1
 have lw:ms.length=ns.length:=a2.length_eq
 have I4:=I1.laid (a:=s1.heap.objs.size+1) (o:=.lst (ms.map V.int)) (h':=sortedAll s1.heap its out) (t':=s1.toks) (λb o=>sortedAll_old) (Nat.le_succ _) ⟨by rw[List.length_map,sizeLine_eq];omega,out.toList,c,VV,by simpa using he⟩
 exact⟨.ref (s1.heap.objs.size+1),_,I4,rfl,kq _ _ _ H1 (hP ms a2 a3) s01 (I1.hok.fresh (Nat.le_succ _)) Reps.ints⟩
theorem BW (hms:X.mg "sorted" = none) (h:DB X e te) (hgs:Gl X "sorted":=by rfl) (hs:starEach [e] X.env=[(false,eval e X.env)]:=by rfl) (hn:starEach [] X.env=[]:=by rfl) :
  DO X (.Call (.Name "sorted" p) [e] [] pos) (wT te):=by
 intro pins s σ H Q I hh_0
 obtain⟨ρ,P,st,q,kq⟩:=hh_0
 refine wpAny_Call_Name_kw (gM I hgs hms mJ ?_)
 refine PyProof.Rows.callWith_builtin1 (thn (eL h hs hn pos pins s σ H (λvs H1=>∃(nss:List (List Int)) (v:V),vs=[v]/\Same H H1/\RepB X.K H1 (.lst (nss.map gD)) v/\nss.length<64/\(∀ns∈nss,ns≠[])/\∀mss:List (List Int),mss.Perm nss->mss.Pairwise (λx y=>cR y x=false)->P (mss.map gD)) I
  ⟨ρ,_,st,q,λx v H1 hx s1 r1=>?_⟩) λus s1 ⟨vs,H1,I1,r1,q1⟩=>?_) (by rw[hs,hn]) (by rw[hn];rfl)
 ·obtain⟨nss,rfl,a1,a2,a3⟩:=hx
  exact⟨nss,v,rfl,s1,r1,a1,a2,a3⟩
 obtain⟨nss,v,rfl,s01,rb,h64,hne,hP⟩:=q1
 obtain⟨l,vs,rfl,hq,rr⟩:=rb.lst
 obtain⟨u,rfl,rx⟩:=kB r1
 cases rx
 obtain⟨its,rv,pl,hz⟩:=I1.list hq
 have l1:=rr.length
 have l2:=rv.length
 rw[List.length_map] at l1
 have each:∀(i:Nat) (u:Value),its[i]? = some u->∃ns a,nss[i]? = some ns/\vs[i]? = some (.ref a)/\u = .ref a/\H1 a=some (.tup (ns.map V.int))/\IsTupleKey (intKind X.prog X.w) s1.heap ns a:=λi u e=>by
  have hi:i<nss.length:=by have:=(List.getElem?_eq_some_iff.mp e).1;omega
  obtain⟨v,e1,e2⟩:=rr.get (i:=i) (d:=gD nss[i]) (by rw[List.getElem?_map,List.getElem?_eq_getElem hi];rfl)
  obtain⟨a,rfl,ha⟩:=Reps.tupI_inv e2
  obtain⟨u',f1,f2⟩:=rv.get e1
  rw[e] at f1;cases f1
  cases f2
  obtain⟨ts,g1,g2,_⟩:=I1.tuple (SqT.of (K:=X.K) ha)
  obtain⟨o,go,gc,n,gd⟩:=g2
  exact⟨_,a,List.getElem?_eq_getElem hi,e1,rfl,ha,o,ts.toArray,n,go,gc,gd,by simpa using tX g1⟩
 refine Calls.call_function_entry kind_sorted plain_sorted entry_sorted (args_sorted1 _) ?_
 unfold Builtin.«sorted»
 refine wpAny_bind (m:=checkCount "sorted" 1 1 _) (wpAny_pure ?_)
 apply wpAny_bind;refine collect_list pl.isList ?_ (by rw[sizeLine_eq];omega)
 apply wpAny_bind;refine wpAny_newList ?_ (by rw[sizeLine_eq];omega)
 generalize hh1:(s1.heap.push (seqObj "list" #[] 0)).update s1.heap.objs.size (Obj.mapSeq (· ++ its.toArray))=h1
 have k1:∀b o,s1.heap.get? b=some o->h1.get? b=some o:=λb o e=>by rw[<-hh1,Heap.get?_update_ne _ _ _ _ (Nat.ne_of_lt (Heap.lt_size e))];exact Heap.get?_push_of_some _ e
 have big:s1.heap.objs.size<=h1.objs.size:=by rw[<-hh1,Heap.size_update,size_push'];exact Nat.le_succ _
 show wpAny _ _ _ _ _ { s1 with heap:=h1.push (seqObj "list" its.toArray 0) }
 have hL:(h1.push (seqObj "list" its.toArray 0)).get? h1.objs.size=some (seqObj "list" its.toArray 0):=Heap.get?_push_size _ rfl
 have k2:∀b o,s1.heap.get? b=some o->(h1.push (seqObj "list" its.toArray 0)).get? b=some o:=λb o e=>Heap.get?_push_of_some _ (k1 b o e)
 generalize h1.push (seqObj "list" its.toArray 0)=h2 at hL k2
 have KA:KeysAt X.prog X.w h2 its nss:=by
  refine⟨by omega,λi v e=>?_⟩
  obtain⟨ns,a,n1,n2,n3,_,o,jts,m,g1,g2⟩:=each i v e
  have:nss.getD i []=ns:=by rw[List.getD_eq_getElem?_getD,n1];rfl
  rw[this]
  exact⟨a,n3,o,jts,m,k2 _ _ g1,g2⟩
 refine wpAny_bind (wpAny_holding (wpAny_call_entry slot_list_sort ⟨_,hL,rfl⟩ entry_list_sort ?body (args_list_sort _)))
 case body =>
  refine AR (s:={ s1 with heap:=h2 }) hL KA hne (by omega) λh3 out mss c g1 g2 g3 g4 g5 g6=>?_
  have kp:∀b o,s1.heap.get? b=some o->h3.get? b=some o:=λb o e=>g6 b o (Nat.ne_of_lt (Nat.lt_of_lt_of_le (Heap.lt_size e) big)) (k2 b o e)
  obtain⟨ws,VV,RR⟩:=uQ (K:=X.K) (H:=H1) out mss g2.1 λi v e=>by
   obtain⟨j,hj,ej⟩:=List.getElem_of_mem (g3 v (List.mem_of_getElem? e))
   obtain⟨ns,a,n1,n2,n3,ha,hk⟩:=each j v (by rw[List.getElem?_eq_getElem hj,ej])
   obtain⟨b,eb,hb⟩:=g2.2 i v e
   rw[n3] at eb;cases eb
   refine⟨a,n3,?_⟩
   have hk3:IsTupleKey (intKind X.prog X.w) h3 ns a:=by obtain⟨o,jts,n,q1,q2⟩:=hk;exact⟨o,jts,n,kp _ _ q1,q2⟩
   rw[hb.inj hk3]
   exact ha
  have lw:=VV.length
  have lo:out.length<64:=by rw[g2.1,g4.length_eq];exact h64
  have I4:=I1.laid (a:=h1.objs.size) (o:=.lst ws) (h':=h3) (t':=s1.toks) kp big ⟨by rw[sizeLine_eq];omega,out,c,VV,g1⟩
  exact⟨_,rfl,wpAny_pure ⟨_,rfl,.ref h1.objs.size,_,I4,rfl,kq _ _ _ H1 (hP mss g4 g5) s01 (I1.hok.fresh big) RR⟩⟩
theorem BU (hml:X.mg "list" = none) (hc:X.calm=true) (h:DE X e te) (hgl:Gl X "list":=by rfl) (hs:starEach [e] X.env=[(false,eval e X.env)]:=by rfl) (hn:starEach [] X.env=[]:=by rfl) :
  DO X (.Call (.Name "list" p) [e] [] pos) (wQ te):=by
 intro pins s σ H Q I hh_0
 obtain⟨ρ,P,st,q,kq⟩:=hh_0
 refine wpAny_Call_Name_kw (gM I hgl hml qK ?_)
 refine PyProof.Rows.callWith_type1 (thn (eL h hs hn pos pins s σ H (λvs H1=>∃(ks:List Int) (ds:List D) (v:V),vs=[v]/\Same H H1/\Rep X.K H1 (.dct ks ds) v/\P (ks.map .int)) I
  ⟨ρ,_,st,q,λx v H1 hx s1 r1=>?_⟩) λus s1 ⟨vs,H1,I1,r1,q1⟩=>?_) (by rw[hs,hn]) (by rw[hn];rfl)
 ·obtain⟨ks,ds,rfl,a1,a2⟩:=hx
  exact⟨ks,ds,v,rfl,s1,r1,a2⟩
 obtain⟨ks,ds,v,rfl,s01,rd,hP⟩:=q1
 obtain⟨u,rfl,rx⟩:=kB r1
 cases rd with
 | @dct a vs _ _ o ha hl rr =>
  cases rx
  obtain⟨z,hd,ws,rel,dd⟩:=yB I1.hok (.inr ⟨o,ha⟩)
  have le:=rel.length
  obtain⟨ep,da⟩:=dd.dictAt
  refine kdl_call (kdl_dict (knd:=bZ X.prog X.w) (kvs:=ws) (ep:=ep) hd) (I1.ok.hd hc) da (by rw[<-le];exact z) λh' tk acc c kp g1 it=>?_
  have lk:ks.length=ws.length:=by rw[<-le,zX,<-hl,Nat.min_self]
  have VV:Vals (ks.map V.int) acc.toList:=qZ ks vs ws hl rel acc.toList (by rw[Array.length_toList,it.1];exact lk.symm) λj v e=>it.2 j v (by simpa using e)
  have I4:=I1.laid (a:=s1.heap.objs.size) (o:=.lst (ks.map V.int)) (h':=h') (t':=tk) kp (Nat.le_refl _) ⟨by rw[List.length_map,lk,<-le];exact z,acc.toList,c,VV,by simpa using g1⟩
  exact⟨.ref s1.heap.objs.size,_,I4,rfl,kq _ _ _ H1 hP s01 (I1.hok.fresh (Nat.le_refl _)) Reps.ints⟩
end
end L2.R2
set_option Elab.async false
set_option linter.all false
set_option maxRecDepth 100000
set_option maxHeartbeats 1000000
namespace L2.R2
open PySem PySem.Spec PyProof.Rows L2
theorem mY (l:Addr) (items:Array Value) (n:Nat) (b:Addr) (items2:Array Value) (n2:Nat) (sl:Array (Option Value)) (hc0:¬(!items.isEmpty && Builtin.List.listTooLong (items.size+items2.size))=true) (hc1:items.size<=sizeLine) (hs2:items.size+items2.size<=sizeLine+1) :
  Meets (Builtin.«list.extend» ⟨[.ref l,.ref b],[]⟩) (λ_ R s=>s.heap.get? l=some { cls:=.type "list",dict:=none,data:=.seq items n,slots:=#[] }/\s.heap.get? b=some { cls:=.type "list",dict:=none,data:=.seq items2 n2,slots:=sl }/\R (.ok (.ret Value.none)) { s with heap:=s.heap.update l (Obj.mapSeq λx=>x++items2),toks:=s.toks }) :=
 .of_wp λprog w A R s h=>by
  obtain⟨hp,g,d,tk,os⟩:=s;obtain⟨hl,hb,h⟩:=h
  have hz':(items++items2).size<=sizeLine+1:=by rw[Array.size_append];exact hs2
  wp_walk using (wpAny_updateSeq hl rfl (hz:=hc1) (_hz':=hz')),wpAny_loadPart' hl,wpAny_loadPart' hb;exact⟨_,rfl,h⟩
noncomputable def EK (K:PySem.W.Frag):V->List V->Hp->VK->Prop:=λx vs H Q=>∃l b xs zs,x = .ref l/\vs=[.ref b]/\H l=some (.lst xs)/\SqL K H b zs/\xs.length+zs.length<=sizeLine/\Q .non (upd H l (.lst (xs++zs)))
section
variable {X:Cx} {e:Expr} {pos apos cpos npos p2 p3 p4:Pos} {te:RE} {x:Str}
theorem wD:MtM X "list.extend" (EK X.K):=by
 intro pins s σ H x vs v us Q I rx rv h
 obtain⟨l,b,xs,zs,rfl,rfl,hH,hB,hz,q⟩:=h
 cases rx
 obtain⟨u,rfl,ru⟩:=rv.one
 cases ru
 obtain⟨z,its,n,r,hl,e⟩:=I.lstM hH
 obtain⟨its2,r2,pl,z2⟩:=I.list hB
 have hl2:=r2.length
 obtain⟨o,n2,e2,c1,c2,c3⟩:=pl
 obtain⟨oc,od,oda,osl⟩:=o
 dsimp only at c1 c2 c3
 subst c1 c2 c3
 have hsz:its.toArray.size+its2.toArray.size<=sizeLine:=by rw[List.size_toArray,List.size_toArray];omega
 have hlong:¬(!its.toArray.isEmpty && Builtin.List.listTooLong (its.toArray.size+its2.toArray.size))=true:=by
  rw[DJ hsz,Bool.and_false]
  exact Bool.false_ne_true
 refine call_meets F.slot_list_extend ⟨_,e,rfl⟩ F.entry_list_extend (F.args_list_extend_2 _ _)
  (mY l its.toArray n b its2.toArray n2 osl hlong (by rw[List.size_toArray];omega) (by omega)) ⟨e,e2,?_⟩
 refine⟨.non,_,I.lset (its':=its++its2) hH e (by simp) (r.append r2) ?_,rfl,q⟩
 rw[List.length_append]
 omega
noncomputable def qU (i:Nat) (te:RE):RS:=λE ρ=>match ρ[i]? with
 | some (some (.own xs))=>te ρ λd=>match d with
  | .lst ys=>Sz (xs.length+ys.length)/\E.nx (ρ.set i (some (.own (xs++ys))))
  | _=>False
 | _=>False
theorem zO (i:Nat) (he:DE X e te) (hN:X.N[i]? = some x:=by rfl) (hv:Vis X.env.scope x:=by walk_at "vis") (hd:(x == ("__debug__":Str))=false:=by decide) (hcd:(x == ("__classdict__":Str))=false:=by decide)
  (hbase:attributeBase (.Name x npos) "extend" X.env (eval (.Name x npos) X.env)=eval (.Name x npos) X.env:=by rfl)
  (hfew:((backTo cpos (starEach [e] X.env)).all (λx=>!x.1) && (backToKw cpos (keywordEach [] X.env)).all (λx=>x.1.isSome) && decide (([e]:List Expr).length+([]:List Keyword).length+(if ([]:List Keyword).isEmpty then 0 else 1)<30))=true:=by rfl)
  (hline:(apos.endLine == cpos.line)=true:=by rfl) (hs:starEach [e] X.env=[(false,eval e X.env)]:=by rfl) (hn:starEach [] X.env=[]:=by rfl) (hsw:swapsWith (.Call (.Attribute (.Name x npos) "extend" apos) [e] [] cpos) none pos.line X.env=pure false:=by rfl) :
  DS X (.Expr (.Call (.Attribute (.Name x npos) "extend" apos) [e] [] cpos) pos) (qU i te):=by
 refine PS.mono (nP (yL PySem.F.plainAttrs_list PySem.F.slot_list_extend PySem.F.type_list_extend wD (pv i hN hv hd hcd) (eL he hs hn) hbase hfew hline (by rw[hs,hn]) (by rw[hn];rfl)) hsw) λDe σ H hh=>dF hh λρ E so q n r bk ct=>?_
 unfold qU at q
 split at q
 ·rename_i xs ex
  obtain⟨v,h1,p,vs,ev,hp,h0,rr⟩:=so.rel i _ ex
  subst ev
  refine⟨.ref p,h1,.inl ⟨rfl,vs,SqL.of hp⟩,ρ,_,so,q,λd v H1 hd s1 rd=>?_⟩
  have hp1:=s1 _ _ hp
  cases d with
  | lst ys =>
   cases rd with
   | @lst b us _ hz rd =>
    obtain⟨so2,k2⟩:=(so.ext s1).upd_own ex h1 hp1 h0 ((rr.keep (.of s1)).append rd)
    have hsz:xs.length+ys.length<=sizeLine:=hd.1.ok
    exact⟨p,b,vs,us,rfl,rfl,hp1,hz.sq,by rw[<-rr.length,<-rd.length];exact hsz,n _ _ _ hd.2 ((Keep.of s1).trans k2) so2⟩
  | _=>exact hd.elim
 ·exact q.elim
noncomputable def alt {α:Type}:List α->List α
 | []=>[]
 | [x]=>[x]
 | x::_::r=>x::alt r
theorem xI {α:Type}:∀(l:List α) (i:Nat),(alt l)[i]? = l[2*i]?
 | [],i=>by simp[alt]
 | [x],0=>rfl
 | [x],i+1=>by simp[alt]
 | x::y::r,0=>rfl
 | x::y::r,i+1=>by
  rw[alt,List.getElem?_cons_succ,xI r i,show 2*(i+1)=2*i+1+1 by omega,List.getElem?_cons_succ,List.getElem?_cons_succ]
theorem nK {α:Type}:∀(l:List α),(alt l).length=(l.length+1) / 2
 | []=>by simp[alt]
 | [x]=>by simp[alt]
 | x::y::r=>by rw[alt,List.length_cons,nK r];simp only[List.length_cons];omega
theorem JI {α:Type} (l:List α):(alt l).length<=l.length:=by rw[nK];omega
theorem Reps.alt {K:PySem.W.Frag} {H:Hp}:∀{ds:List D} {vs:List V},Reps K H ds vs->Reps K H (alt ds) (L2.R2.alt vs)
 | _,_,.nil=>.nil
 | _,_,.cons h .nil=>.cons h .nil
 | _,_,.cons h (.cons _ t)=>.cons h (Reps.alt t)
theorem Vals.alt:∀{vs:List V} {us:List Value},Vals vs us->Vals (alt vs) (L2.R2.alt us)
 | _,_,.nil=>.nil
 | _,_,.cons h .nil=>.cons h .nil
 | _,_,.cons h (.cons _ t)=>.cons h (Vals.alt t)
theorem EB (its:List Value) (k:Nat) (lo:Option Int) (hk:(lo=none/\k=0)\/(lo=some 1/\k=1)):slicePick its.toArray lo none (some 2)=(alt (its.drop k)).toArray:=by
 have e:(sliceBounds lo none (some 2) its.toArray.size)=(((min k its.length:Nat):Int),(its.length:Int),2):=by
  rcases hk with ⟨rfl,rfl⟩ | ⟨rfl,rfl⟩
  ·simp[sliceBounds]
  ·simp[sliceBounds];omega
 unfold slicePick
 rw[e]
 congr 1
 dsimp only
 have c:(if (2:Int) > 0 then (if ((min k its.length:Nat):Int)<(its.length:Int) then ((its.length:Int)-(min k its.length:Nat)+2-1) / 2 else 0) else (if ((min k its.length:Nat):Int) > (its.length:Int) then (((min k its.length:Nat):Int)-(its.length:Int)-2-1) / (-2) else 0)).toNat=(alt (its.drop k)).length:=by
  rw[nK,List.length_drop,if_pos (by decide)]
  split <;> omega
 unfold sliceRange
 dsimp only
 rw[c]
 refine List.ext_getElem? λi=>?_
 have key:∀(n:Nat),n<=(alt (its.drop k)).length->((List.range n).map λ(j:Nat)=>(((min k its.length:Nat):Int)+2*(j:Int)).toNat).filterMap (its.toArray[·]?)=(alt (its.drop k)).take n:=by
  intro n
  induction n with
  | zero=>intro _;rfl
  | succ n ih =>
   intro h
   have hn:n<(alt (its.drop k)).length:=h
   rw[List.range_succ,List.map_append,List.filterMap_append,ih (Nat.le_of_lt hn),List.take_succ]
   congr 1
   have hl:2*n<(its.drop k).length:=by rw[nK] at hn;omega
   rw[List.length_drop] at hl
   have:(((min k its.length:Nat):Int)+2*(n:Int)).toNat=k+2*n:=by omega
   simp only[List.map_cons,List.map_nil,this]
   rw[xI,List.getElem?_drop]
   have hh:k+2*n<its.length:=by omega
   simp[hh]
 rw[key _ (Nat.le_refl _),List.take_length]
noncomputable def uO (k:Nat) (te:RE):RA:=λρ Q=>te ρ λx=>match x with
 | .lst ds=>Q (alt (ds.drop k))
 | _=>False
theorem BT {k:Nat} {lo:Option Expr} {l:Option Int} {j:Nat} (h:DB X e te) (hl:∀(H:Hp),PO X lo (λσ H Q=>Q l H)) (hk:(l=none/\k=0)\/(l=some 1/\k=1)) :
  DO X (.Subscript e (.Slice lo none (some (.Constant (.int 2) j p3)) p2) pos) (uO k te):=by
 intro pins s σ H Q I hh
 obtain⟨ρ,P,st,q,kq⟩:=hh
 refine Subscript_ (thn (h pins s σ H (λv H1=>∃ds,Same H H1/\RepB X.K H1 (.lst ds) v/\P (alt (ds.drop k))) I ⟨ρ,_,st,q,λx v H1 hx s1 r1=>?_⟩) λv s1 ⟨x,H1,I1,r1,q1⟩=>?_)
 ·cases x with
  | lst ds=>exact⟨ds,s1,r1,hx⟩
  | _=>exact hx.elim
 obtain⟨ds,sm,rb,hP⟩:=q1
 obtain⟨a,vs,rfl,hq,rr⟩:=rb.lst
 cases r1
 refine wpAny_Slice (thn (hl H1 pins s1 σ H1 (λo H2=>o=l/\H2=H1) I1 ⟨rfl,rfl⟩) λvl s2 ⟨l',H2,I2,pl,e1,e2⟩=>?_)
 subst e1 e2
 rw[evalPart_none]
 refine wpAny_pure ?_
 refine thn (sO (wG (X:=X) (i:=2) (j:=j) (pos:=p3)) pins s2 σ H2 (λo H3=>o=some 2/\H3=H2) I2 ⟨2,rfl,rfl,rfl⟩) λvst s3 ⟨o3,H3,I3,pst,e3,e4⟩=>?_
 subst e3 e4
 have I4:Inv X pins σ H3 { s3 with heap:=s3.heap.push { cls:=.type "slice",data:=.fields #[vl,.none,vst] } }:=I3.kept (t':=s3.toks) λb ob q=>Heap.get?_push_of_some _ q
 obtain⟨its,rv,pll,hz⟩:=I4.list hq
 have hlen:=rv.length
 show wpAny (model X.prog X.w) X.A (subscriptTail e (.Slice lo none (some (.Constant (.int 2) j p3)) p2) (.ref a) (.ref s3.heap.objs.size)) (EP X pins σ Q) X.xe { s3 with heap:=s3.heap.push { cls:=.type "slice",data:=.fields #[vl,.none,vst] } }
 refine tail_any (ops:=[.ref a,.ref s3.heap.objs.size]) pll.isList.typeIs PySem.slot_list_getitem.lookup ?_ (by with_unfolding_all rfl)
 refine wpAny_getItem_list_slice pll.isList (Heap.IsSliceOf.new ..) pl .none pst (by decide) ?_ (by rw[List.size_toArray,<-hlen];exact hz)
 rw[EB its k l' hk]
 have VV:Vals (alt (vs.drop k)) (alt (its.drop k)):=Vals.alt (Vals.drop k rv)
 have I5:=I4.lnew (t':=s3.toks) VV (Nat.le_trans (JI _) (by rw[List.length_drop];omega))
 exact⟨.ref _,_,I5,rfl,kq _ _ _ H3 hP sm I4.fresh (Reps.alt (rr.drop k))⟩
theorem GA {j:Nat} (h:DB X e te):DO X (.Subscript e (.Slice none none (some (.Constant (.int 2) j p3)) p2) pos) (uO 0 te) :=
 BT h (λH pins s σ H' Q I q=>yN pins s σ H' Q I q) (.inl ⟨rfl,rfl⟩)
theorem GB {j j':Nat} (h:DB X e te):DO X (.Subscript e (.Slice (some (.Constant (.int 1) j' p4)) none (some (.Constant (.int 2) j p3)) p2) pos) (uO 1 te) :=
 BT h (λH pins s σ H' Q I q=>sO (wG (X:=X) (i:=1) (j:=j') (pos:=p4)) pins s σ H' Q I ⟨1,rfl,q⟩) (.inr ⟨rfl,rfl⟩)
end
theorem AT {P:Program} {w:World} {K:PySem.W.Frag} {tg:Expr} (it:Addr) (lo:Int) (n:Nat):Turn P w K tg (Itr lo n) [it] it (λi h=>IsLongIter h it (lo+(i:Nat)*1) ((n:Int)-(i:Nat)) 1) where
 mem:=by simp
 obj:=λi h st b hb=>by
  have e:b=it:=by simpa using hb
  subst e
  exact⟨_,st,λv z=>by have z':Data.fields _=Data.cell v:=z;cases z'⟩
 keep:=λi h h' st k=>k it (by simp) _ st
 item:=by
  intro X hP hw hK hc i pins s σ H E I hf st hg
  subst hP hw hK
  obtain⟨f0,f1,f2,f3,f4,f5⟩:=hf it (by simp)
  have W:=Walks.longrange (prog:=X.prog) (w:=X.w) (I.ok.hd hc) it lo 1 n
  refine W.item i s _ _ hg st λv h' tk hv st' kk=>?_
  obtain⟨t,rfl⟩:=hv
  have I1:Inv X pins σ H { s with heap:=h',toks:=tk }:=I.turned (λb o hb e=>kk b o (by simpa using hb) e) f0 f1 f3 f4 f5
  exact⟨_,rfl,yD (s:={ s with heap:=h',toks:=tk }) (n:="longrange_iterator") st' rfl rfl (by decide) ⟨.int (lo+i),H,I1,⟨t,by rw[Int.mul_one]⟩,⟨rfl,rfl⟩,st',λb hb=>(hf b hb).1⟩⟩
 done:=by
  intro X hP hw hK hc i pins s σ H E I hf st hg
  subst hP hw hK
  obtain⟨f0,f1,f2,f3,f4,f5⟩:=hf it (by simp)
  exact wpAny_pyNext_long_end (I.ok.hd hc) st (by have:n<=i:=hg;omega) λh' eb=>⟨rfl,I.turned (t':=s.toks) (λb o hb e=>eb b o hb e) f0 f1 f3 f4 f5⟩
 self:=λ_ _ _ _ _ st h=>wpAny_pyIter_longiter st h
theorem EW (a b:Int):Builtin.Range.rangeSize a b 1=((b-a).toNat:Int):=by
 unfold Builtin.Range.rangeSize
 simp only[show (1:Int) > 0 by decide,if_true]
 split <;> omega
section
variable {X:Cx} {tg:Expr}
theorem GX {pins:List (Addr × Obj)} {σ:St} {H:Hp} {s:Shared} {R:It->Hp->Prop} {E:Value->Shared->Prop} {lo hi:Int} {t u v:Tok} {tk:Nat} (I:Inv X pins σ H s) (hs:Builtin.Range.small lo hi 1=false)
  (q:R (Itr lo (hi-lo).toNat) H):wpAny (model X.prog X.w) X.A (pyIter (.ref s.heap.objs.size)) (PIE X pins σ tg R) E { s with heap:=s.heap.push { cls:=.type "range",data:=.fields #[.int lo t,.int hi u,.int 1 v] },toks:=tk }:=by
 refine wpAny_pyIter_longrange (IsRange.new ..) hs ?_
 have I1:Inv X pins σ H { s with heap:=s.heap.push { cls:=.type "range",data:=.fields #[.int lo t,.int hi u,.int 1 v] },toks:=tk }:=I.kept λb o e=>Heap.get?_push_of_some _ e
 have e1:lo+((0:Nat):Int)*1=lo:=by simp
 have e2:(((hi-lo).toNat:Nat):Int)-((0:Nat):Int)=Builtin.Range.rangeSize lo hi 1:=by rw[EW];simp
 generalize hh:s.heap.push { cls:=.type "range",data:=.fields #[.int lo t,.int hi u,.int 1 v] } = h1 at I1
 refine⟨h1.objs.size,[h1.objs.size],_,_,H,rfl,I1.kept (t':=tk) λb o e=>Heap.get?_push_of_some _ e,AT _ lo (hi-lo).toNat,?_,λb hb=>?_,q⟩
 ·show IsLongIter _ _ (lo+((0:Nat):Int)*1) ((((hi-lo).toNat:Nat):Int)-((0:Nat):Int)) 1
  rw[e1,e2]
  exact Heap.get?_push_size _ rfl
 ·have e:b=h1.objs.size:=by simpa using hb
  subst e
  exact I1.fpOk (Nat.le_refl _) (I1.hok.fresh (Nat.le_refl _))
theorem JV {pins:List (Addr × Obj)} {σ:St} {H:Hp} {s:Shared} {R:It->Hp->Prop} {E:Value->Shared->Prop} {lo hi:Int} {t u v:Tok} {tk:Nat} (I:Inv X pins σ H s)
  (q:R (Itr lo (hi-lo).toNat) H):wpAny (model X.prog X.w) X.A (pyIter (.ref s.heap.objs.size)) (PIE X pins σ tg R) E { s with heap:=s.heap.push { cls:=.type "range",data:=.fields #[.int lo t,.int hi u,.int 1 v] },toks:=tk }:=by
 cases hs:Builtin.Range.small lo hi 1 with
 | false=>exact GX I hs q
 | true =>
  refine wpAny_pyIter_range (IsRange.new ..) hs ?_
  have I1:Inv X pins σ H { s with heap:=s.heap.push { cls:=.type "range",data:=.fields #[.int lo t,.int hi u,.int 1 v] },toks:=tk }:=I.kept λb o e=>Heap.get?_push_of_some _ e
  have e1:lo+((0:Nat):Int)*1=lo:=by simp
  have e2:(((hi-lo).toNat:Nat):Int)-((0:Nat):Int)=Builtin.Range.rangeSize lo hi 1:=by rw[EW];simp
  generalize hh:s.heap.push { cls:=.type "range",data:=.fields #[.int lo t,.int hi u,.int 1 v] } = h1 at I1
  refine⟨h1.objs.size,[h1.objs.size],_,_,H,rfl,I1.kept (t':=tk) λb o e=>Heap.get?_push_of_some _ e,pI _ lo (hi-lo).toNat,?_,λb hb=>?_,q⟩
  ·show IsRangeIter _ _ (lo+((0:Nat):Int)*1) ((((hi-lo).toNat:Nat):Int)-((0:Nat):Int)) 1
   rw[e1,e2]
   exact Heap.get?_push_size _ rfl
  ·have e:b=h1.objs.size:=by simpa using hb
   subst e
   exact I1.fpOk (Nat.le_refl _) (I1.hok.fresh (Nat.le_refl _))
noncomputable def uR (t:RA):RA:=λρ Q=>t ρ λds=>match ds with
 | [.int i,.int j]=>Q (dU i (j-i).toNat)
 | _=>False
theorem BN {a b:Expr} {t:RA} {p pos:Pos} (hm:X.mg "range" = none) (ha:DA X [a,b] t) (hg:Gl X "range":=by rfl) (hs:starEach [a,b] X.env=[(false,eval a X.env),(false,eval b X.env)]:=by rfl) (hs2:starEach [b] X.env=[(false,eval b X.env)]:=by rfl) :
  DI X tg (.Call (.Name "range" p) [a,b] [] pos) (uR t):=by
 intro pins s σ H R I hh
 obtain⟨ρ,P,st,q,k⟩:=hh
 refine Call_ (gM I hg hm boot_range (PyProof.Rows.callWith_type1 (thn (ha pos pins s σ H (λvs H1=>∃i j:Int,vs=[.int i,.int j]/\Same H H1/\P (dU i (j-i).toNat)) I ⟨ρ,_,st,q,λds vs H1 hd s1 r=>?_⟩) λus s1 ⟨vs,H1,I1,r1,q1⟩=>?_) (by rw[hs,hs2]) (by rw[hs2];rfl)))
 ·split at hd
  ·rename_i i j
   rw[Reps.ints_inv (ns:=[i,j]) r]
   exact⟨i,j,rfl,s1,hd⟩
  ·exact hd.elim
 obtain⟨i,j,e,sm,q⟩:=q1
 subst e
 cases r1 with
 | cons r rr =>
  cases rr with
  | cons r' rr =>
   cases rr
   obtain⟨t,rfl⟩:=r
   obtain⟨t',rfl⟩:=r'
   exact call_range_2 (JV I1 (k _ _ H1 q sm (CN i _)))
noncomputable def IM:R22:=λx y Q=>match x,y with
 | .bl a,.bl b=>Q (.int ((if a then 1 else 0)-(if b then 1 else 0)))
 | _,_=>False
end
end L2.R2
set_option Elab.async false
set_option linter.all false
set_option maxRecDepth 100000
set_option maxHeartbeats 1000000
namespace HT
open PySem PyProof.Rows
theorem EN (A:Around) (s:Shared) (a:Int) (t:Tok) (c:Int) (u:Tok) (prog:Program) (w:World) (E:Value->Shared->Prop) (Q:Value->Shared->Prop) (h:Q (.bool (decide (c<a))) s) :
  wpAny (model prog w) A (richCompare .Gt (.int a t) (.int c u)) Q E s :=
 (PyProof.Rows.gt_int h:wpAny (model prog w) A (compareOp .Gt (.int a t) (.int c u)) Q E s)
section
open PySem.SeqAt
open PySem.AutoSeq1 (wpAny_loadPart')
open PySem.MeetsSeq PySem.MeetsSeq2 PySem.MeetsSeq3
theorem qC (l b:Addr) (items items2:Array Value) (n n2:Nat) (dd dd2:Option Addr) (sl sl2:Array (Option Value)) (ns ms:List Int) (hi:IntsAre items.toList ns) (hj:IntsAre items2.toList ms) :
  Meets (Builtin.«tuple.__gt__» ⟨[.ref l,.ref b],[]⟩)
   (λ_ R s=>s.heap.get? l=some { cls:=.type "tuple",dict:=dd,data:=.seq items n,slots:=sl }/\s.heap.get? b=some { cls:=.type "tuple",dict:=dd2,data:=.seq items2 n2,slots:=sl2 } /\
    R (.ok (.ret (.bool (lexLt ms ns)))) s) :=
 .of_wp λprog w A R s h=>by
  obtain⟨hp,g,d,tk,os⟩:=s;obtain⟨hl,hb,h⟩:=h
  have f2:=AutoSeq1.sub_tuple_tuple
  have z1:items.size=ns.length:=by rw[<-hi.length];simp
  have z2:items2.size=ms.length:=by rw[<-hj.length];simp
  wp_walk using wpAny_loadPart' hl,wpAny_loadPart' hb,wpAny_forIn_list _ (λrest b s'=>b.1=none/\s'=⟨hp,g,d,tk,os⟩/\∃(vs ws:List Value) (ns' ms':List Int),rest=vs.zip ws /\
   IntsAre vs ns'/\IntsAre ws ms'/\ns'.length+items2.size=ms'.length+items.size/\R (.ok (.ret (.bool (lexLt ms' ns')))) ⟨hp,g,d,tk,os⟩) _
  case turn =>
   rintro⟨y,x⟩ rest b s' ⟨hb',rfl,vs,ws,ns',ms',hz,hvi,hwi,hlen,hR⟩
   cases hvi with
   | nil=>rw[List.zip_nil_left] at hz;cases hz
   | cons a t hvi' =>
    cases hwi with
    | nil=>rw[List.zip_nil_right] at hz;cases hz
    | cons c u hwi' =>
     rw[List.zip_cons_cons] at hz
     injection hz with hyx hrest
     injection hyx with hy hx
     subst hy hx
     rw[lexLt_cons] at hR
     simp only[List.length_cons] at hlen
     obtain⟨e,he,hiff⟩:=tP A.in1 ⟨hp,g,d,tk,os⟩ a t c u
     refine wpAny_bind (he prog w _ _ ?_)
     cases e with
     | true =>
      rw[if_pos (hiff.mp rfl).symm] at hR
      wp_walk
      exact⟨rfl,rfl,_,_,_,_,hrest,hvi',hwi',by omega,hR⟩
     | false =>
      rw[if_neg (λq=>absurd (hiff.mpr q.symm) Bool.false_ne_true)] at hR
      have hri:=EN A.in1 ⟨hp,g,d,tk,os⟩ a t c u prog w
      wp_walk using hri
      exact⟨_,rfl,by simpa using hR⟩
  case fin =>
   rintro⟨b1,b2⟩ s' ⟨hb',rfl,vs,ws,ns',ms',hz,hvi,hwi,hlen,hR⟩
   simp only at hb'
   subst hb'
   have hv:lexLt ms' ns'=decide (items2.size<items.size):=by
    cases hvi with
    | nil =>
     cases hwi with
     | nil =>
      simp only[List.length_nil] at hlen
      rw[jR]
      exact (decide_eq_false (by omega)).symm
     | cons c u hw =>
      simp only[List.length_nil,List.length_cons] at hlen
      rw[iO]
      exact (decide_eq_false (by omega)).symm
    | cons a t hv =>
     cases hwi with
     | nil =>
      simp only[List.length_nil,List.length_cons] at hlen
      rw[iP]
      exact (decide_eq_true (by omega)).symm
     | cons c u hw =>
      rw[List.zip_cons_cons] at hz
      cases hz
   rw[hv] at hR
   wp_walk
   exact⟨_,rfl,by simpa [Builtin.Tuple.tupleCompareSizes] using hR⟩
  case h =>
   exact⟨rfl,rfl,items.toList,items2.toList,ns,ms,rfl,hi,hj,by omega,h⟩
end
section
variable {prog:Program} {w:World} {A:Around} {E:Value->Shared->Prop} {s:Shared}
theorem gt_tupInts {l b:Addr} {items items2:Array Value} {ns ms:List Int} {Q:Value->Shared->Prop} (hl:IsTup s.heap l items) (hb:IsTup s.heap b items2) (hi:IntsAre items.toList ns) (hj:IntsAre items2.toList ms)
  (hu:A.units<cLine) (h:Q (.bool (lexLt ms ns)) s):wpAny (model prog w) A (compareOp .Gt (.ref l) (.ref b)) Q E s:=by
 obtain⟨⟨cls,dd,data,sl⟩,ho,hc,n,hd⟩:=id hl
 obtain⟨⟨cls2,dd2,data2,sl2⟩,ho2,hc2,n2,hd2⟩:=id hb
 simp only at hc hd hc2 hd2
 subst hc hd hc2 hd2
 exact richCompare_meets_room (op:=.Gt) ⟨_,ho,rfl⟩ ⟨_,ho2,rfl⟩ PySem.F.slot_tuple_gt PySem.F.entry_tuple_gt (PySem.F.args_tuple_gt_2 _ _) (qC l b items items2 n n2 dd dd2 sl sl2 ns ms hi hj)
  ⟨ho,ho2,show Value.bool (lexLt ms ns)≠Value.notImplemented/\Q (.bool (lexLt ms ns)) s from ⟨(λx=>nomatch x),h⟩⟩ hu
end
end HT
namespace L2.R2
open PySem PySem.Spec PyProof.Rows L2
section
variable {prog:Program} {w:World} {A:Around} {E:Value->Shared->Prop} {s:Shared}
theorem wB {I l S:Addr} {items:Array Value} {bt:Nat->Nat->Bool} {G:Heap->Prop} {R:Result->Shared->Prop} {os0:Shared} (hh:A.handled=none) (hl:l≠I) (hSI:S≠I) (hSl:S≠l)
  (cmp:∀(i j:Nat) (u v:Value) (s:Shared) (Q:Value->Shared->Prop) (E:Value->Shared->Prop),items[i]? = some u->items[j]? = some v->G s.heap->Q (.bool (bt i j)) s->wpAny (model prog w) A.in1 (richCompare .Gt u v) Q E s)
  (gs:∀h h',G h->(∀b o,b≠I->b≠S->h.get? b=some o->h'.get? b=some o)->G h') :
  ∀(k j:Nat) (s:Shared) (vb:Value) (c:Nat),items.size-(j+1)=k->j+1<=items.size->s.heap.IsTupleIter I l (j+1)->s.heap.IsTuple l items->items[argBest bt j]? = some vb->G s.heap ->
   s.heap.get? S=some { cls:=.type "list",dict:=none,data:=.seq #[vb,vb] c,slots:=#[] } ->
   (∀v h' tk,items[argBest bt (items.size-1)]? = some v->(∀b o,b≠I->b≠S->s.heap.get? b=some o->h'.get? b=some o)->R (.ok (.ret v)) { s with heap:=h',toks:=tk }) ->
   codeAny (model prog w) A (.builtin "max.loop" ⟨[.ref I,.none,.ref S],[]⟩) R s:=by
 have nm:(toString "max" ++ toString ".loop":String) = "max.loop":=by decide
 have W:=Walks.tuple (prog:=prog) (w:=w) (A:=A.in1) hh I l hl items
 have wr:∀{b:Addr},b≠I->b ∉ [I]:=λh=>by simpa using h
 intro k
 induction k with
 | zero =>
  intro j s vb c hk hj hi hL hb hG hS q
  refine codeAny_builtin F.entry_max_loop ?_;rw[Around.under_plainId F.plain_max_loop _]
  show wpAny _ A.in1 (seqItems? (.ref S) >>= _) _ _ s
  apply wpAny_bind;apply wpAny_seqItems hS rfl
  show wpAny _ A.in1 (tryCatch (pyNext (.ref I)) _ >>= _) _ _ s
  apply wpAny_bind;apply wpAny_tryCatch;refine W.done s _ _ (by rw[show items.size=j+1 by omega];exact⟨hi,hL⟩) λh' tk kp=>?_
  have hS':=kp S _ (wr hSI) hS
  show wpAny _ A.in1 (updateSeq S (λ_=>#[]) >>= _) _ _ _
  apply wpAny_bind;refine wpAny_updateSeq hS' rfl ?_;apply wpAny_bind;apply wpAny_letGo;apply wpAny_pure
  exact q vb _ tk (by rw[show items.size-1=j by omega];exact hb) λb o b1 b2 e=>(Heap.get?_update_other _ _ (Ne.symm b2)).trans (kp b o (wr b1) e)
 | succ k ih =>
  intro j s vb c hk hj hi hL hb hG hS q
  refine codeAny_builtin F.entry_max_loop ?_;rw[Around.under_plainId F.plain_max_loop _]
  show wpAny _ A.in1 (seqItems? (.ref S) >>= _) _ _ s
  apply wpAny_bind;apply wpAny_seqItems hS rfl
  show wpAny _ A.in1 (tryCatch (pyNext (.ref I)) _ >>= _) _ _ s
  apply wpAny_bind;apply wpAny_tryCatch;refine W.item (j+1) s _ _ (by omega) ⟨hi,hL⟩ λv h' tk hv st' kp=>?_
  have hS':=kp S _ (wr hSI) hS
  have hG':G h':=gs _ _ hG λb o b1 _ e=>kp b o (wr b1) e
  show wpAny _ A.in1 (tryCatch (holding [v,v] (richCompare .Gt v vb >>= _)) _ >>= _) _ _ _
  apply wpAny_bind;apply wpAny_tryCatch;apply wpAny_holding;apply wpAny_bind;refine cmp (j+1) (argBest bt j) v vb _ _ _ hv hb hG' ?_
  apply wpAny_bind;apply wpAny_holding;apply wpAny_truthy_bool;apply wpAny_bind;apply wpAny_letGo;apply wpAny_pure
  cases hbt:bt (j+1) (argBest bt j) with
  | true =>
   simp only[if_true]
   apply wpAny_bind;refine wpAny_updateSeq hS' rfl ?_;apply wpAny_bind;apply wpAny_letGo;rw[nm];apply wpAny_pure
   have up:∀b o,b≠S->h'.get? b=some o->(h'.update S (Obj.mapSeq λ_=>#[v,v])).get? b=some o:=λb o b2 e=>(Heap.get?_update_other _ _ (Ne.symm b2)).trans e
   refine⟨plainId_quiet F.plain_max_loop _,ih (j+1) _ v _ (by omega) (by omega) (st'.1.at λo e=>up _ o hSI.symm e) (st'.2.at λo e=>up _ o hSl.symm e) (by simp only[argBest,hbt,if_true];exact hv) (gs _ _ hG' λb o _ b2 e=>up b o b2 e) (Heap.get?_update_self _ hS' rfl) λv' h'' tk'' e kk=>?_⟩
   exact q v' h'' tk'' e λb o b1 b2 e=>kk b o b1 b2 (up b o b2 (kp b o (wr b1) e))
  | false =>
   simp only[Bool.false_eq_true,if_false]
   apply wpAny_bind;apply wpAny_letGo;rw[nm];apply wpAny_pure
   refine⟨plainId_quiet F.plain_max_loop _,ih (j+1) _ vb c (by omega) (by omega) st'.1 st'.2 (by simp only[argBest,hbt,Bool.false_eq_true,if_false];exact hb) hG' hS' λv' h'' tk'' e kk=>?_⟩
   exact q v' h'' tk'' e λb o b1 b2 e=>kk b o b1 b2 (kp b o (wr b1) e)
theorem vJ {a b:Value} {bt:Nat->Nat->Bool} {G:Heap->Prop} {Q:Value->Shared->Prop} (hh:A.handled=none)
  (cmp:∀(i j:Nat) (u v:Value) (s:Shared) (Q:Value->Shared->Prop) (E:Value->Shared->Prop),(#[a,b]:Array Value)[i]? = some u->(#[a,b]:Array Value)[j]? = some v->G s.heap->Q (.bool (bt i j)) s->wpAny (model prog w) A.in1 (richCompare .Lt u v) Q E s)
  (gs:∀h',(∀b o,s.heap.get? b=some o->h'.get? b=some o)->G h') (q:∀v h' tk,(#[a,b]:Array Value)[argBest bt 1]? = some v->(∀b o,s.heap.get? b=some o->h'.get? b=some o)->Q v { s with heap:=h',toks:=tk }) :
  wpAny (model prog w) A (call (.builtin "min") [a,b]) Q E s:=by
 have nm:(toString "min" ++ toString ".loop":String) = "min.loop":=by decide
 refine call_function_tree F.kind_min F.plain_min F.entry_min (F.args_min2 _ _) ?_
 show wpAny _ A.in1 (Builtin.Builtins.bindParams "min" ["key","default"] 0 ⟨[],[]⟩ >>= _) _ _ s
 apply wpAny_bind;refine wpAny_of_eq (show Builtin.Builtins.bindParams "min" ["key","default"] 0 ⟨[],[]⟩=pure [none,none] from rfl) ?_
 show wpAny _ A.in1 (newTuple [a,b] >>= _) _ _ s
 refine wpAny_bind (wpAny_newObj_type ?_)
 obtain⟨items,hit⟩:∃items:Array Value,items = #[a,b]:=⟨_,rfl⟩
 obtain⟨l,hl0⟩:∃l:Addr,l=s.heap.objs.size:=⟨_,rfl⟩
 obtain⟨h0,hh0⟩:∃h0:Heap,h0=s.heap.push { cls:=.type "tuple",data:=.seq #[a,b] }:=⟨_,rfl⟩
 have hL:h0.IsTuple l items:=by rw[hh0,hl0,hit];exact⟨_,Heap.get?_push_size _ rfl,rfl,_,rfl⟩
 have lt:l<h0.objs.size:=by obtain⟨_,e,_⟩:=hL;exact Heap.lt_size e
 have k0:∀b o,s.heap.get? b=some o->h0.get? b=some o:=λb o e=>by rw[hh0];exact Heap.get?_push_of_some _ e
 have hne:0<items.size:=by rw[hit];exact Nat.succ_pos _
 have is1:items.size-1=1:=by rw[hit];rfl
 rw[<-hit] at cmp q
 rw[<-hl0,<-hh0]
 show wpAny _ A.in1 (pyIter (.ref l) >>= _) _ _ { s with heap:=h0 }
 apply wpAny_bind;refine wpAny_pyIter_tuple (s:={ s with heap:=h0 }) hL ?_
 apply wpAny_bind;refine wpAny_newObj_type ?_;rw[nm];apply wpAny_pure
 have sz1:(h0.push (yF "tuple_iterator" l)).objs.size=h0.objs.size+1:=Heap.size_push ..
 generalize hp:h0.push (yF "tuple_iterator" l)=h1 at sz1
 have hI:h1.IsTupleIter h0.objs.size l 0:=by rw[<-hp];exact⟨_,Heap.get?_push_size _ rfl,rfl,rfl⟩
 have k1:∀b o,h0.get? b=some o->h1.get? b=some o:=λb o e=>by rw[<-hp];exact Heap.get?_push_of_some _ e
 refine⟨plainId_quiet F.plain_min_loop _,?_⟩
 show codeAny _ A (.builtin "min.loop" ⟨[.ref h0.objs.size,.none,.ref h1.objs.size],[]⟩) _ { s with heap:=h1.push { cls:=.type "list",dict:=none,data:=.seq ([]:List Value).toArray } }
 rw[sz1]
 have hS:(h1.push { cls:=.type "list",dict:=none,data:=.seq ([]:List Value).toArray }).get? (h0.objs.size+1)=some { cls:=.type "list",dict:=none,data:=.seq #[] 0,slots:=#[] }:=by rw[<-sz1];exact Heap.get?_push_size _ rfl
 have k2:∀b o,h1.get? b=some o->(h1.push { cls:=.type "list",dict:=none,data:=.seq ([]:List Value).toArray }).get? b=some o:=λb o e=>Heap.get?_push_of_some _ e
 generalize h1.push { cls:=.type "list",dict:=none,data:=.seq ([]:List Value).toArray } = h2 at hS k2
 have neI:∀{b:Addr} {o:Obj},h0.get? b=some o->b≠h0.objs.size/\b≠h0.objs.size+1:=λe=>⟨Nat.ne_of_lt (Heap.lt_size e),Nat.ne_of_lt (Nat.lt_succ_of_lt (Heap.lt_size e))⟩
 have W:=Walks.tuple (prog:=prog) (w:=w) (A:=A.in1) hh h0.objs.size l (Nat.ne_of_lt lt) items
 refine codeAny_builtin F.entry_min_loop ?_;rw[Around.under_plainId F.plain_min_loop _]
 show wpAny _ A.in1 (seqItems? (.ref (h0.objs.size+1)) >>= _) _ _ _
 apply wpAny_bind;apply wpAny_seqItems hS rfl
 show wpAny _ A.in1 (tryCatch (pyNext (.ref h0.objs.size)) _ >>= _) _ _ _
 have hL2:h2.IsTuple l items:=hL.at λo e=>k2 _ o (k1 _ o e)
 apply wpAny_bind;apply wpAny_tryCatch;refine W.item 0 _ _ _ hne ⟨hI.at λo e=>k2 _ o e,hL2⟩ λv h' tk hv st' kp=>?_
 have wr:∀{b:Addr},b≠h0.objs.size->b ∉ [h0.objs.size]:=λh=>by simpa using h
 have hS':=kp (h0.objs.size+1) _ (wr (Nat.succ_ne_self _)) hS
 show wpAny _ A.in1 (updateSeq (h0.objs.size+1) (λ_=>#[v,v]) >>= _) _ _ _
 apply wpAny_bind;refine wpAny_updateSeq hS' rfl ?_;rw[nm];apply wpAny_pure
 have up:∀b o,b≠h0.objs.size+1->h'.get? b=some o->(h'.update (h0.objs.size+1) (Obj.mapSeq λ_=>#[v,v])).get? b=some o:=λb o b2 e=>(Heap.get?_update_other _ _ (Ne.symm b2)).trans e
 have old:∀b o,h0.get? b=some o->(h'.update (h0.objs.size+1) (Obj.mapSeq λ_=>#[v,v])).get? b=some o:=λb o e=>up b o (neI e).2 (kp b o (wr (neI e).1) (k2 b o (k1 b o e)))
 have hS'':=Heap.get?_update_self (Obj.mapSeq λ_=>#[v,v]) hS' rfl
 refine⟨plainId_quiet F.plain_min_loop _,?_⟩
 refine wC (A:=A) (G:=λh=>∀b o,h0.get? b=some o->h.get? b=some o) (bt:=bt) (items:=items) (I:=h0.objs.size) (l:=l) (S:=h0.objs.size+1) (os0:=s) hh (Nat.ne_of_lt lt) (Nat.succ_ne_self _) (Nat.ne_of_gt (Nat.lt_succ_of_lt lt)) (λi j u v s' Q' E' e1 e2 g c=>cmp i j u v s' Q' E' e1 e2 (gs _ λb o e=>g b o (k0 b o e)) c)
  (λh3 h4 g kk b o e=>kk b o (neI e).1 (neI e).2 (g b o e)) (items.size-1) 0 _ v _ (by omega) (by omega) (st'.1.at λo e=>up _ o (Nat.ne_of_lt (Nat.lt_succ_self _)) e) (st'.2.at λo e=>up _ o (Nat.ne_of_lt (Nat.lt_succ_of_lt lt)) e) (by simpa [argBest] using hv) old hS'' λv' h'' tk'' e kk=>?_
 exact q v' h'' tk'' (by rw[is1] at e;exact e) λb o e=>kk b o (neI (k0 b o e)).1 (neI (k0 b o e)).2 (old b o (k0 b o e))
theorem vI {a b:Value} {bt:Nat->Nat->Bool} {G:Heap->Prop} {Q:Value->Shared->Prop} (hh:A.handled=none)
  (cmp:∀(i j:Nat) (u v:Value) (s:Shared) (Q:Value->Shared->Prop) (E:Value->Shared->Prop),(#[a,b]:Array Value)[i]? = some u->(#[a,b]:Array Value)[j]? = some v->G s.heap->Q (.bool (bt i j)) s->wpAny (model prog w) A.in1 (richCompare .Gt u v) Q E s)
  (gs:∀h',(∀b o,s.heap.get? b=some o->h'.get? b=some o)->G h') (q:∀v h' tk,(#[a,b]:Array Value)[argBest bt 1]? = some v->(∀b o,s.heap.get? b=some o->h'.get? b=some o)->Q v { s with heap:=h',toks:=tk }) :
  wpAny (model prog w) A (call (.builtin "max") [a,b]) Q E s:=by
 have nm:(toString "max" ++ toString ".loop":String) = "max.loop":=by decide
 refine call_function_tree F.kind_max F.plain_max F.entry_max (F.args_max2 _ _) ?_
 show wpAny _ A.in1 (Builtin.Builtins.bindParams "max" ["key","default"] 0 ⟨[],[]⟩ >>= _) _ _ s
 apply wpAny_bind;refine wpAny_of_eq (show Builtin.Builtins.bindParams "max" ["key","default"] 0 ⟨[],[]⟩=pure [none,none] from rfl) ?_
 show wpAny _ A.in1 (newTuple [a,b] >>= _) _ _ s
 refine wpAny_bind (wpAny_newObj_type ?_)
 obtain⟨items,hit⟩:∃items:Array Value,items = #[a,b]:=⟨_,rfl⟩
 obtain⟨l,hl0⟩:∃l:Addr,l=s.heap.objs.size:=⟨_,rfl⟩
 obtain⟨h0,hh0⟩:∃h0:Heap,h0=s.heap.push { cls:=.type "tuple",data:=.seq #[a,b] }:=⟨_,rfl⟩
 have hL:h0.IsTuple l items:=by rw[hh0,hl0,hit];exact⟨_,Heap.get?_push_size _ rfl,rfl,_,rfl⟩
 have lt:l<h0.objs.size:=by obtain⟨_,e,_⟩:=hL;exact Heap.lt_size e
 have k0:∀b o,s.heap.get? b=some o->h0.get? b=some o:=λb o e=>by rw[hh0];exact Heap.get?_push_of_some _ e
 have hne:0<items.size:=by rw[hit];exact Nat.succ_pos _
 have is1:items.size-1=1:=by rw[hit];rfl
 rw[<-hit] at cmp q
 rw[<-hl0,<-hh0]
 show wpAny _ A.in1 (pyIter (.ref l) >>= _) _ _ { s with heap:=h0 }
 apply wpAny_bind;refine wpAny_pyIter_tuple (s:={ s with heap:=h0 }) hL ?_
 apply wpAny_bind;refine wpAny_newObj_type ?_;rw[nm];apply wpAny_pure
 have sz1:(h0.push (yF "tuple_iterator" l)).objs.size=h0.objs.size+1:=Heap.size_push ..
 generalize hp:h0.push (yF "tuple_iterator" l)=h1 at sz1
 have hI:h1.IsTupleIter h0.objs.size l 0:=by rw[<-hp];exact⟨_,Heap.get?_push_size _ rfl,rfl,rfl⟩
 have k1:∀b o,h0.get? b=some o->h1.get? b=some o:=λb o e=>by rw[<-hp];exact Heap.get?_push_of_some _ e
 refine⟨plainId_quiet F.plain_max_loop _,?_⟩
 show codeAny _ A (.builtin "max.loop" ⟨[.ref h0.objs.size,.none,.ref h1.objs.size],[]⟩) _ { s with heap:=h1.push { cls:=.type "list",dict:=none,data:=.seq ([]:List Value).toArray } }
 rw[sz1]
 have hS:(h1.push { cls:=.type "list",dict:=none,data:=.seq ([]:List Value).toArray }).get? (h0.objs.size+1)=some { cls:=.type "list",dict:=none,data:=.seq #[] 0,slots:=#[] }:=by rw[<-sz1];exact Heap.get?_push_size _ rfl
 have k2:∀b o,h1.get? b=some o->(h1.push { cls:=.type "list",dict:=none,data:=.seq ([]:List Value).toArray }).get? b=some o:=λb o e=>Heap.get?_push_of_some _ e
 generalize h1.push { cls:=.type "list",dict:=none,data:=.seq ([]:List Value).toArray } = h2 at hS k2
 have neI:∀{b:Addr} {o:Obj},h0.get? b=some o->b≠h0.objs.size/\b≠h0.objs.size+1:=λe=>⟨Nat.ne_of_lt (Heap.lt_size e),Nat.ne_of_lt (Nat.lt_succ_of_lt (Heap.lt_size e))⟩
 have W:=Walks.tuple (prog:=prog) (w:=w) (A:=A.in1) hh h0.objs.size l (Nat.ne_of_lt lt) items
 refine codeAny_builtin F.entry_max_loop ?_;rw[Around.under_plainId F.plain_max_loop _]
 show wpAny _ A.in1 (seqItems? (.ref (h0.objs.size+1)) >>= _) _ _ _
 apply wpAny_bind;apply wpAny_seqItems hS rfl
 show wpAny _ A.in1 (tryCatch (pyNext (.ref h0.objs.size)) _ >>= _) _ _ _
 have hL2:h2.IsTuple l items:=hL.at λo e=>k2 _ o (k1 _ o e)
 apply wpAny_bind;apply wpAny_tryCatch;refine W.item 0 _ _ _ hne ⟨hI.at λo e=>k2 _ o e,hL2⟩ λv h' tk hv st' kp=>?_
 have wr:∀{b:Addr},b≠h0.objs.size->b ∉ [h0.objs.size]:=λh=>by simpa using h
 have hS':=kp (h0.objs.size+1) _ (wr (Nat.succ_ne_self _)) hS
 show wpAny _ A.in1 (updateSeq (h0.objs.size+1) (λ_=>#[v,v]) >>= _) _ _ _
 apply wpAny_bind;refine wpAny_updateSeq hS' rfl ?_;rw[nm];apply wpAny_pure
 have up:∀b o,b≠h0.objs.size+1->h'.get? b=some o->(h'.update (h0.objs.size+1) (Obj.mapSeq λ_=>#[v,v])).get? b=some o:=λb o b2 e=>(Heap.get?_update_other _ _ (Ne.symm b2)).trans e
 have old:∀b o,h0.get? b=some o->(h'.update (h0.objs.size+1) (Obj.mapSeq λ_=>#[v,v])).get? b=some o:=λb o e=>up b o (neI e).2 (kp b o (wr (neI e).1) (k2 b o (k1 b o e)))
 have hS'':=Heap.get?_update_self (Obj.mapSeq λ_=>#[v,v]) hS' rfl
 refine⟨plainId_quiet F.plain_max_loop _,?_⟩
 refine wB (A:=A) (G:=λh=>∀b o,h0.get? b=some o->h.get? b=some o) (bt:=bt) (items:=items) (I:=h0.objs.size) (l:=l) (S:=h0.objs.size+1) (os0:=s) hh (Nat.ne_of_lt lt) (Nat.succ_ne_self _) (Nat.ne_of_gt (Nat.lt_succ_of_lt lt)) (λi j u v s' Q' E' e1 e2 g c=>cmp i j u v s' Q' E' e1 e2 (gs _ λb o e=>g b o (k0 b o e)) c)
  (λh3 h4 g kk b o e=>kk b o (neI e).1 (neI e).2 (g b o e)) (items.size-1) 0 _ v _ (by omega) (by omega) (st'.1.at λo e=>up _ o (Nat.ne_of_lt (Nat.lt_succ_self _)) e) (st'.2.at λo e=>up _ o (Nat.ne_of_lt (Nat.lt_succ_of_lt lt)) e) (by simpa [argBest] using hv) old hS'' λv' h'' tk'' e kk=>?_
 exact q v' h'' tk'' (by rw[is1] at e;exact e) λb o e=>kk b o (neI (k0 b o e)).1 (neI (k0 b o e)).2 (old b o (k0 b o e))
end
section
variable {X:Cx}
noncomputable def vM:List D->(D->Prop)->Prop:=λds Q=>∃ns ms,ds=[gD ns,gD ms]/\Q (gD (if HT.lexLt ms ns=true then ms else ns))
theorem BG {k:Nat} (hr:Room k X.A) (hc:X.calm=true:=by rfl):sU X (.builtin "min") vM:=by
 intro pins s σ H xs us Q I rv hh_0
 obtain⟨ds,P,r,q,kk⟩:=hh_0
 obtain⟨ns,ms,rfl,q⟩:=q
 cases r with
 | cons r1 rr =>
  cases rr with
  | cons r2 rr =>
   cases rr
   obtain⟨a,rfl,ha⟩:=Reps.tupI_inv r1
   obtain⟨b,rfl,hb⟩:=Reps.tupI_inv r2
   obtain⟨u,v,rfl,ru,rv2⟩:=uY rv
   cases ru;cases rv2
   obtain⟨ts,g1,g2,_⟩:=I.tuple (SqT.of (K:=X.K) ha)
   obtain⟨ws,g3,g4,_⟩:=I.tuple (SqT.of (K:=X.K) hb)
   have hu:=hr.un
   have each:∀(i:Nat) (u:Value),(#[Value.ref a,Value.ref b]:Array Value)[i]? = some u->∃c ts,u = .ref c/\Vals (([ns,ms].getD i []).map V.int) ts/\IsTup s.heap c ts.toArray:=λi u e=>by
    match i,e with
    | 0,e=>cases e;exact⟨a,ts,rfl,g1,g2⟩
    | 1,e=>cases e;exact⟨b,ws,rfl,g3,g4⟩
    | i+2,e=>simp at e
   refine vJ (bt:=λi j=>HT.lexLt ([ns,ms].getD i []) ([ns,ms].getD j [])) (G:=λh=>∀b o,s.heap.get? b=some o->h.get? b=some o) (I.ok.hd hc) (λi j u v s' Q' E' e1 e2 g c=>?_) (λh' g=>g) λv h' tk ev kp=>?_
   ·obtain⟨c1,t1,rfl,f1,f2⟩:=each i u e1
    obtain⟨c2,t2,rfl,f3,f4⟩:=each j v e2
    have tupAt:∀{a:Addr} {xs:Array Value},IsTup s.heap a xs->IsTup s'.heap a xs:=λ⟨o,e,r⟩=>⟨o,g _ o e,r⟩
    exact HT.lt_tupInts (A:=X.A.in1) (tupAt f2) (tupAt f4) (fC f1) (fC f3) (by show X.A.units+1<cLine;omega) c
   ·have ab:argBest (λi j=>HT.lexLt ([ns,ms].getD i []) ([ns,ms].getD j [])) 1=if (if HT.lexLt ms ns=true then ms else ns)=ms/\HT.lexLt ms ns=true then 1 else 0:=by
     simp only[argBest]
     show (if HT.lexLt ms ns=true then 1 else 0)=_
     by_cases h:HT.lexLt ms ns=true
     ·rw[if_pos h,if_pos h,if_pos ⟨rfl,h⟩]
     ·rw[if_neg h,if_neg (λz=>h z.2)]
    rw[ab] at ev
    by_cases h:HT.lexLt ms ns=true
    ·rw[if_pos h] at q
     rw[if_pos ⟨if_pos h,h⟩] at ev
     cases ev
     exact⟨.ref b,H,I.kept kp,rfl,kk _ _ H q (Same.refl H) r2⟩
    ·rw[if_neg h] at q
     rw[if_neg (λz=>h z.2)] at ev
     cases ev
     exact⟨.ref a,H,I.kept kp,rfl,kk _ _ H q (Same.refl H) r1⟩
noncomputable def vL:List D->(D->Prop)->Prop:=λds Q=>∃ns ms,ds=[gD ns,gD ms]/\Q (gD (if HT.lexLt ns ms=true then ms else ns))
theorem BF {k:Nat} (hr:Room k X.A) (hc:X.calm=true:=by rfl):sU X (.builtin "max") vL:=by
 intro pins s σ H xs us Q I rv hh_0
 obtain⟨ds,P,r,q,kk⟩:=hh_0
 obtain⟨ns,ms,rfl,q⟩:=q
 cases r with
 | cons r1 rr =>
  cases rr with
  | cons r2 rr =>
   cases rr
   obtain⟨a,rfl,ha⟩:=Reps.tupI_inv r1
   obtain⟨b,rfl,hb⟩:=Reps.tupI_inv r2
   obtain⟨u,v,rfl,ru,rv2⟩:=uY rv
   cases ru;cases rv2
   obtain⟨ts,g1,g2,_⟩:=I.tuple (SqT.of (K:=X.K) ha)
   obtain⟨ws,g3,g4,_⟩:=I.tuple (SqT.of (K:=X.K) hb)
   have hu:=hr.un
   have each:∀(i:Nat) (u:Value),(#[Value.ref a,Value.ref b]:Array Value)[i]? = some u->∃c ts,u = .ref c/\Vals (([ns,ms].getD i []).map V.int) ts/\IsTup s.heap c ts.toArray:=λi u e=>by
    match i,e with
    | 0,e=>cases e;exact⟨a,ts,rfl,g1,g2⟩
    | 1,e=>cases e;exact⟨b,ws,rfl,g3,g4⟩
    | i+2,e=>simp at e
   refine vI (bt:=λi j=>HT.lexLt ([ns,ms].getD j []) ([ns,ms].getD i [])) (G:=λh=>∀b o,s.heap.get? b=some o->h.get? b=some o) (I.ok.hd hc) (λi j u v s' Q' E' e1 e2 g c=>?_) (λh' g=>g) λv h' tk ev kp=>?_
   ·obtain⟨c1,t1,rfl,f1,f2⟩:=each i u e1
    obtain⟨c2,t2,rfl,f3,f4⟩:=each j v e2
    have tupAt:∀{a:Addr} {xs:Array Value},IsTup s.heap a xs->IsTup s'.heap a xs:=λ⟨o,e,r⟩=>⟨o,g _ o e,r⟩
    exact HT.gt_tupInts (A:=X.A.in1) (tupAt f2) (tupAt f4) (fC f1) (fC f3) (by show X.A.units+1<cLine;omega) c
   ·have ab:argBest (λi j=>HT.lexLt ([ns,ms].getD j []) ([ns,ms].getD i [])) 1=if (if HT.lexLt ns ms=true then ms else ns)=ms/\HT.lexLt ns ms=true then 1 else 0:=by
     simp only[argBest]
     show (if HT.lexLt ns ms=true then 1 else 0)=_
     by_cases h:HT.lexLt ns ms=true
     ·rw[if_pos h,if_pos h,if_pos ⟨rfl,h⟩]
     ·rw[if_neg h,if_neg (λz=>h z.2)]
    rw[ab] at ev
    by_cases h:HT.lexLt ns ms=true
    ·rw[if_pos h] at q
     rw[if_pos ⟨if_pos h,h⟩] at ev
     cases ev
     exact⟨.ref b,H,I.kept kp,rfl,kk _ _ H q (Same.refl H) r2⟩
    ·rw[if_neg h] at q
     rw[if_neg (λz=>h z.2)] at ev
     cases ev
     exact⟨.ref a,H,I.kept kp,rfl,kk _ _ H q (Same.refl H) r1⟩
end
section
variable {X:Cx} {pins:List (Addr × Obj)} {σ:St} {H:Hp} {s:Shared}
end
section
variable {X:Cx} {e:Expr} {t:RT}
noncomputable def lend (i:Nat) (ρ:En):En:=match ρ[i]? with
 | some (some (.own ds))=>ρ.set i (some (.d (.lst ds)))
 | _=>ρ
end
noncomputable def rSeqN (t u:RS):RS:=λE ρ=>t { nx:=u E,rt:=λ_=>False } ρ
noncomputable def rRetO (i:Nat):RS:=λE ρ=>match ρ[i]? with
 | some (some (.own xs))=>E.rt (.lst xs)
 | _=>False
section
variable {X:Cx} {st:Stmt} {rest:List Stmt} {t u:RS} {x:Str} {p pos:Pos}
end
section
variable {P:Program} {w:World} {K:PySem.W.Frag} {mg:Str->Option Value} {base:Heap}
end
noncomputable def NP (F:FD) (t:RA):RA:=λρ Q=>t ρ λds=>F ds λd=>match d with
 | .lst xs=>Q xs
 | _=>False
section
variable {X:Cx} {k:Nat} {ps:List Str} {F:FD} {x:Str} {p pos:Pos} {e:Expr} {es:List Expr} {t:RA}
end
section
variable {prog:Program} {w:World} {A:Around} {E:Value->Shared->Prop} {s:Shared}
end
section
variable {X:Cx} {tg a:Expr} {t:RA} {pos p pos2 p2:Pos}
structure RvOk (j:Int):Prop where
 lo:0<=j
 hi:j<2 ^ 62
noncomputable def NU (t:RA):RA:=λρ Q=>t ρ λds=>match ds with
 | [.int j]=>RvOk j/\Q (dU 0 j.toNat).reverse
 | _=>False
end
noncomputable def FR:R22:=λx y Q=>match x,y with
 | .lst xs,.lst ys=>xs.length=ys.length/\match eqL (eqF 5) xs ys with
  | some b=>Q (.bl !b)
  | none=>False
 | _,_=>False
section
variable {X:Cx}
theorem KJ {k:Nat} (hr:Room k X.A):OpD X (compareOp .NotEq) FR:=by
 intro pins s σ H x y v u Q I rx ry hh_0
 obtain⟨d,e,P,r1,r2,q,kk⟩:=hh_0
 have hu:=hr.un
 unfold FR at q
 split at q
 ·rename_i xs ys
  obtain⟨hl,q⟩:=q
  split at q
  ·rename_i b h
   obtain⟨a,vs,rfl,h1,q1⟩:=r1.lst
   obtain⟨c,ws,rfl,h2,q2⟩:=r2.lst
   cases rx;cases ry
   obtain⟨its,rv,ht,_⟩:=I.list h1
   obtain⟨its2,rv2,ht2,_⟩:=I.list h2
   have l1:xs.length=its.length:=q1.length.trans rv.length
   have l2:ys.length=its2.length:=q2.length.trans rv2.length
   have rc:SeqAt.RcNeAt X.A s (.ref a) (.ref c) (!b):=by
    have:=SeqAt.RcNeAt.lists (A:=X.A) (s:=s) (e:=λj=>match xs[j]?,ys[j]? with | some x,some y=>(eqF 5 x y).getD false | _,_=>false) ht.isList ht2.isList (by simp;omega) (by omega) (λj g1 g2=>?_)
    ·have al:=jE h
     simp only[List.size_toArray,<-l1] at this
     rw[<-hl,Nat.min_self,beq_self_eq_true,Bool.and_true] at al
     rw[<-al]
     exact this
    ·simp only[List.size_toArray] at g1 g2
     have e1:xs[j]? = some (xs[j]'(by omega)):=List.getElem?_eq_getElem _
     have e2:ys[j]? = some (ys[j]'(by omega)):=List.getElem?_eq_getElem _
     obtain⟨k,hk⟩:=lM h j _ _ e1 e2
     rw[e1,e2]
     simp only[hk,Option.getD_some]
     obtain⟨v1,f1,f2⟩:=q1.get e1
     obtain⟨v2,f3,f4⟩:=q2.get e2
     obtain⟨u1,g3,g4⟩:=rv.get f1
     obtain⟨u2,g5,g6⟩:=rv2.get f3
     have a1:its.toArray[j]=u1:=by
      have:=List.getElem?_eq_getElem g1
      rw[this] at g3
      simpa using Option.some.inj g3
     have a2:its2.toArray[j]=u2:=by
      have:=List.getElem?_eq_getElem g2
      rw[this] at g5
      simpa using Option.some.inj g5
     rw[a1,a2]
     exact (lX I 5 hk f2 f4 g4 g6 (by show X.A.units+1+5<cLine;omega)).2
   exact rc _ _ _ _ ⟨.bl _,H,I,rfl,kk _ _ H q (Same.refl H) (.bl _)⟩
  ·exact q.elim
 ·exact q.elim
end
section
variable {K:PySem.W.Frag} {H₀ H:Hp}
end
section
variable {X:Cx} {e k:Expr} {pos pos' p p1 p2 apos cpos npos spos:Pos} {te tk:RE} {x:Str}
noncomputable def rBNew (i:Nat):RS:=λE ρ=>E.nx (ρ.set i (some (.box false [[],[]])))
noncomputable def rBApp (i:Nat) (tk te:RE):RS:=λE ρ=>match ρ[i]? with
 | some (some (.box false xss))=>tk ρ λkd=>match kd with
  | .int k=>∃(j:Nat) (ds:List D),(k=(j:Int)/\xss[j]? = some ds/\Sz (ds.length+1))/\te ρ λd=>E.nx (ρ.set i (some (.box false (xss.set j (ds++[d])))))
  | _=>False
 | _=>False
end
noncomputable def rRetB (i:Nat) (ta tb:RA):RS:=λE ρ=>match ρ[i]? with
 | some (some (.own xs))=>ta ρ λys=>tb ρ λzs=>E.rt (.tup [.lst xs,.lst ys,.lst zs])
 | _=>False
section
variable {X:Cx} {st:Stmt} {rest:List Stmt} {t u:RS} {x:Str} {p pos tp:Pos} {j:Nat} {e1 e2:Expr} {ta tb:RA}
end
section
variable {P:Program} {w:World} {K:PySem.W.Frag} {mg:Str->Option Value} {base:Heap}
end
noncomputable def rSetB (j:Nat) (F:FD) (t:RA):RS:=λE ρ=>t ρ λds=>F ds λd=>∃xss:List (List D),d = .tup (xss.map .lst)/\E.nx (ρ.set j (some (.box true xss)))
section
variable {X:Cx} {k j:Nat} {ps:List Str} {F:FD} {x y:Str} {p pos pos' cpos:Pos} {e:Expr} {es:List Expr} {t:RA}
end
section
variable {X:Cx} {pins:List (Addr × Obj)} {σ:St} {s:Shared}
end
section
variable {K:PySem.W.Frag} {H₀ H H':Hp}
end
noncomputable def lendB (i:Nat) (ρ:En):En:=match ρ[i]? with
 | some (some (.box true xss))=>ρ.set i (some (.d (.tup (xss.map .lst))))
 | _=>ρ
section
variable {X:Cx} {e:Expr} {t:RT}
end
section
variable {X:Cx} {ρ:En} {σ:St} {H:Hp}
end
noncomputable def rBFor (i j:Nat):RS:=λE ρ=>match ρ[i]? with
 | some (some (.box true xss))=>(j<ρ.length/\∀ds∈xss,Sz (ds.length+1))/\E.nx ((ρ.set j none).set i (some (.box true (xss.map (· ++ [.non])))))
 | _=>False
section
variable {X:Cx} {x y:Str} {pos cpos apos npos pos' xpos epos:Pos} {jn:Nat}
end
noncomputable def rGet2 (ta tk tf:RE):RE:=λρ Q=>ta ρ λx=>match x with
 | .dct ks ds=>tk ρ λy=>match y with
  | .int k=>tf ρ λz=>Q ((jQ ks ds k).getD z)
  | _=>False
 | _=>False
section
variable {X:Cx} {a k f:Expr} {ta tk tf:RE} {apos cpos:Pos}
end
noncomputable def dInI:R22:=λx y Q=>match x,y with
 | .int i,.lst ds=>∃ns:List Int,ds=ns.map .int/\Q (.bl (decide (i∈ns)))
 | _,_=>False
section
variable {X:Cx}
end
section
variable {prog:Program} {w:World} {A:Around} {E:Value->Shared->Prop} {s:Shared}
end
noncomputable def rgLst (n:Nat) (g:RGs):RG:=λd ρ Q=>match d with
 | .lst ds=>ds.length=n/\g ds ρ Q
 | _=>False
section
variable {X:Cx} {pos:Pos}
end
noncomputable def dEqD:R22:=λx y Q=>match eqF 9 x y with
 | some b=>Q (.bl b)
 | none=>False
section
variable {X:Cx}
end
structure ExcK (K:PySem.W.Frag) (C:Addr):Prop where
 ga:PySem.W.findIn K (.ref C) "__getattribute__" = some (some (.builtin "BaseException.__getattribute__"))
 hk:PySem.W.findIn K (.ref C) "__getattr__" = some none
 ca:PySem.W.findIn K (.ref C) "__class__" = some (some (.builtin "object.__class__"))
 mo:PySem.W.mroIn K C (.type "object")=some true
 mb:PySem.W.mroIn K C (.type "BaseException")=some true
 cl:(PySem.W.clsIn K C).isSome=true
theorem KG (K:PySem.W.Frag):PySem.W.specialIn K (.builtin "object.__class__") "__get__" = some (some (.builtin "getset_descriptor.__get__")):=by rfl
theorem KH (K:PySem.W.Frag):PySem.W.takesIn K (.builtin "object.__class__")=some true:=by rfl
open PySem.W in
theorem HB {K:PySem.W.Frag} {M:Model} {h:Heap} {x C:Addr} (X:K.In h) (Z:ExcK K C) :
  Looks M h (Builtin.ObjectAttr.find (.ref x) (.ref C) "__class__") (.bind (.builtin "getset_descriptor.__get__") (.builtin "object.__class__")):=by
 have L1:=looks_findIn (M:=M) X Z.ca
 have L2:Looks M h (Builtin.ObjectAttr.getOf (some (.builtin "object.__class__"))) (some (.builtin "getset_descriptor.__get__")):=looks_specialIn X (KG K)
 have L3:=looks_takesIn (M:=M) X (KH K)
 refine L1.andThen (L2.andThen ?_)
 refine Looks.andThen (a:=some (Value.builtin "getset_descriptor.__get__",Value.builtin "object.__class__")) ?_ (Looks.tag .now)
 refine L3.andThen ?_
 exact .now
section
variable {K:PySem.W.Frag} {prog:Program} {w:World} {A:Around} {E:Value->Shared->Prop} {s:Shared} {x C:Addr} {o:Obj}
open PySem.W Builtin Builtin.ObjectAttr Builtin.Getset_descriptor
theorem HA {R:Result->Shared->Prop} {tp:Value} (Z:ExcK K C) (X:K.In s.heap) (hx:s.heap.get? x=some o) (hc:o.cls = .ref C) (h:R (.ok (.ret (.ref C))) s) :
  codeAny (model prog w) A (.call (.builtin "getset_descriptor.__get__") ⟨[.builtin "object.__class__",.ref x,tp],[]⟩) R s:=by
 obtain⟨hh,g,dr,t,os⟩:=s
 have a0:Looks (model prog w) hh (typeOf (.ref x)) (.ref C):=hc ▸ (Looks.ld hx).andThen .now
 have a1:=looks_mroIn (M:=model prog w) X Z.mo
 refine codeAny_call_builtin KF.slot_gs.plain KF.entry_gs ?_
 refine KF.slot_gs.check _ _ _ _ _ _ _ _ KF.type_class (KF.args_gs _ _ _) ?_
 unfold Builtin.«getset_descriptor.__get__» descrGet
 rw[dga_obj]
 refine wpAny_bind (wpAny_pure ?_)
 unfold descrGetter descrCheckInstance descrNameAndClass isInstance
 simp only[KF.owner_class]
 repeat lk
 refine⟨Code.quiet_builtin _ (by decide +kernel),codeAny_builtin KF.entry_class ?_⟩
 unfold Builtin.«object.__class__» shownTypeOf
 repeat lk
 exact h
theorem uI {nameV:Value} {Q:Unit->Shared->Prop} (Z:ExcK K C) (X:K.In s.heap) (hx:s.heap.get? x=some o) (hc:o.cls = .ref C) (h:Q () s) :
  wpAny (model prog w) A (checkBuiltinCall "BaseException.__getattribute__" ⟨[.ref x,nameV],[]⟩) Q E s:=by
 obtain⟨hh,g,dr,t,os⟩:=s
 have b0:Looks (model prog w) hh (typeOf (.ref x)) (.ref C):=hc ▸ (Looks.ld hx).andThen .now
 have b1:=looks_mroIn (M:=model prog w) X Z.mb
 have kd:builtinKind "BaseException.__getattribute__" = some .slot:=by decide +kernel
 have sp:splitId "BaseException.__getattribute__" = some ("BaseException","__getattribute__"):=by decide +kernel
 have ha:=F.args_bexc_ga (.ref x) nameV
 simp only[checkBuiltinCall,kd,sp]
 refine wpAny_bind ?_
 unfold isInstance
 repeat (first | lk | wp_step)
 exact h
theorem DL {tk:Tok} {Q:Fin->Shared->Prop} (Z:ExcK K C) (X:K.In s.heap) (hx:s.heap.get? x=some o) (hc:o.cls = .ref C) (h:Q (.done (.ret (.ref C))) s) :
  wpAny (model prog w) A (Builtin.«object.__getattribute__» ⟨[.ref x,.str "__class__" tk],[]⟩) Q E s:=by
 obtain⟨hh,g,dr,t,os⟩:=s
 have b0:Looks (model prog w) hh (typeOf (.ref x)) (.ref C):=hc ▸ (Looks.ld hx).andThen .now
 have b1:=HB (M:=model prog w) (x:=x) X Z
 repeat (any_goals (first | assumption | with_reducible refine Looks.at (by assumption) ?_ | wp_step))
 refine HA Z X hx hc ?_
 repeat (any_goals (first | assumption | wp_step))
theorem zP {Q:Option Value->Shared->Prop} (Z:ExcK K C) (X:K.In s.heap) (hx:s.heap.get? x=some o) (hc:o.cls = .ref C) (h:Q (some (.ref C)) { s with toks:=s.toks+1 }) :
  wpAny (model prog w) A (getAttr? (.ref x) "__class__") Q E s:=by
 obtain⟨hh,g,dr,t,os⟩:=s
 have b0:Looks (model prog w) hh (typeOf (.ref x)) (.ref C):=hc ▸ (Looks.ld hx).andThen .now
 have b1:=looks_findIn (M:=model prog w) X Z.ga
 have b2:=looks_findIn (M:=model prog w) X Z.hk
 have f3:=F.attr_ValueError.ga.bind (.ref x)
 have ne:(Value.builtin "BaseException.__getattribute__" == Value.builtin "object.__getattribute__")=false:=by decide +kernel
 unfold getAttr? getAttrBy? getAttrBy
 refine wpAny_bind (wpAny_mkText (wpAny_bind (wpAny_attempt (wpAny_holding (wpAny_bind (b0.at (wpAny_bind (b1.at ?_))))))))
 show wpAny _ _ (getAttrByItsOwn _ _ _ _ _ _) _ _ _
 refine wpAny_bind (b2.at ?_)
 have hx0:(false && onTheHeap (Value.builtin "BaseException.__getattribute__"))=false:=rfl
 repeat (any_goals (first | assumption | with_reducible refine Looks.at (by assumption) ?_ | wp_step))
 refine codeAny_call_builtin F.attr_ValueError.ga.plain F.entry_bexc_ga (uI Z X hx hc (DL Z X hx hc ?_))
 repeat (any_goals (first | assumption | wp_step))
end
noncomputable def frH (fs:List Addr):Hp:=λb=>if b∈fs then some (.tup []) else none
noncomputable def oR (h:Heap) (fs:List Addr):Heap:=pR h (frH fs)
theorem oS {h:Heap} {fs:List Addr} {b:Addr} {o:Obj} (e:h.get? b=some o) (n:b ∉ fs):(oR h fs).get? b=some o:=tV e (if_neg n)
theorem yJ {h:Heap} {fs:List Addr} {b:Addr} {o:Obj} (e:(oR h fs).get? b=some o):h.get? b=some o/\b ∉ fs:=by
 obtain⟨h1,h2⟩:=yI e
 refine⟨h1,λz=>?_⟩
 have h3:frH fs b=some (.tup []):=if_pos z
 rw[h3] at h2;cases h2
theorem lZ {h:Heap} {fs:List Addr} {b:Addr} (z:h.get? b=none\/b∈fs):(oR h fs).get? b=none:=by
 cases e:(oR h fs).get? b with
 | none=>rfl
 | some o =>
  obtain⟨h1,h2⟩:=yJ e
  rcases z with z | z
  ·rw[z] at h1;cases h1
  ·exact (h2 z).elim
theorem yV {h base g:Heap} {fs:List Addr}:∀{l:List Env},h.FunFrames base l->(∀b∈frs l,b∈fs)->h.FunFrames (oR g fs) l
 | [],_,_=>trivial
 | env::r,⟨hk,⟨L,o,hf,hn,ho,hd⟩,hr⟩,hs=>by
  have hL:L∈frs (env::r):=by unfold frs;rw[List.filterMap_cons,hf];exact List.mem_cons_self
  exact⟨hk,⟨L,o,hf,lZ (.inr (hs L hL)),ho,hd⟩,yV hr λb hb=>hs b (by unfold frs;rw[List.filterMap_cons,hf];exact List.mem_cons_of_mem _ hb)⟩
section
variable {P:Program} {w:World} {H H':Hp} {h h':Heap} {a:Addr} {u:HO}
theorem mB (x:ObjOk P w H h a u):∃o,h.get? a=some o:=by
 cases u with
 | lst xs=>obtain⟨_,_,_,_,e⟩:=x;exact⟨_,e⟩
 | tup xs=>obtain⟨_,_,_,_,e,_⟩:=x;exact⟨_,e⟩
 | dK kvs=>obtain⟨_,_,_,_,o,_,_,e,_⟩:=x;exact⟨_,e⟩
 | dT kvs=>obtain⟨_,_,_,_,o,_,_,e,_⟩:=x;exact⟨_,e⟩
 | set S n=>obtain⟨o,_,_,_,e,_⟩:=x;exact⟨_,e⟩
 | ins C dx fs=>obtain⟨_,_,_,e,_⟩:=x;exact⟨_,e⟩
 | own y=>exact x
 | xd fs=>obtain⟨_,⟨_,_,_,e,_⟩,_⟩:=x;exact⟨_,e⟩
 | rng lo hi=>obtain⟨_,_,_,e⟩:=x;exact⟨_,e⟩
 | frz ob u=>obtain⟨e,_⟩:=x;exact⟨_,e⟩
 | tbl ps=>exact⟨_,show h.get? a=some _ from x⟩
 | met f y=>exact⟨_,show h.get? a=some _ from x⟩
 | ext φ=>obtain⟨_,e,_⟩:=x;exact e
end
structure FlyAt (P:Program) (w:World) (C:Addr) (outer:List Env) (H:Hp) (s:Shared) (a:Addr) (B:Heap) (a0:Value) (H':Hp) (s':Shared):Prop where
 os:s'.os=s.os
 bare:AllBare s'.gens
 same:Same H H'
 free:∀b o,s.heap.get? b=some o->H b=none->H' b=none
 bT:∀b u,H' b=some u->∀o,s'.heap.get? b=some o->B.get? b=some o
 bU:∀b o,s.heap.get? b=some o->H b=none->b ∉ frs outer->B.get? b=some o
 thr:∀b o,s.heap.get? b=some o->∃o',s'.heap.get? b=some o'
 fr:∀b∈frs outer,∀o,s.heap.get? b=some o->∃sl,s'.heap.get? b=some { o with slots:=sl }
 frn:∀b∈frs outer,H b=none/\∀o,s.heap.get? b=some o->∀vs,o.data≠.fields vs
 hok:HOk P w H' s'.heap
 fly:Heap.FlyingW B outer a (.ref C) a0 s'.heap
section
variable {P:Program} {w:World} {C:Addr} {outer:List Env} {H H':Hp} {s s':Shared} {a:Addr} {B:Heap} {a0:Value} {h6:Heap}
theorem CI (ok:HOk P w H' s'.heap) (bT:∀b u,H' b=some u->∀o,s'.heap.get? b=some o->B.get? b=some o) (k:B.StaysIn h6):HOk P w H' h6:=λb u e =>
 (ok b u e).stay (λc v hc q=>by
  rcases hc with rfl | hc
  ·exact k _ _ (bT _ _ e v q)
  ·exact k _ _ (bT _ _ hc v q)) (λ_ q=>q) λ_ _ q=>q
theorem FlyAt.step (F:FlyAt P w C outer H s a B a0 H' s') (k:B.StaysIn h6) (up:s'.heap.UpToSlots h6):Un (frs outer) [] H H' s.heap h6/\HOk P w H' h6:=by
 have sl:∀b o,s.heap.get? b=some o->b∈frs outer->∃sl,h6.get? b=some { o with slots:=sl }:=λb o e hb=>by
  obtain⟨l1,q⟩:=F.fr b hb o e
  exact up b { o with slots:=l1 } q λvs z=>(F.frn b hb).2 o e vs z
 refine⟨⟨λb o e n hb _=>k _ _ (F.bU b o e n hb),λb o e n hb _=>sl b o e hb,λb o e n _=>F.free b o e n,λb o e _=>?_,λb xs e=>F.same b _ e,λb o u e=>F.same b _ e,λb ps e=>⟨#[],by rw[F.same b _ e];simp⟩⟩,CI F.hok F.bT k⟩
 cases q:H b with
 | some u =>
  obtain⟨o',e'⟩:=F.thr b o e
  exact⟨o',k _ _ (F.bT b u (F.same b u q) o' e')⟩
 | none =>
  by_cases hb:b∈frs outer
  ·obtain⟨l,z⟩:=sl b o e hb;exact⟨_,z⟩
  ·exact⟨o,k _ _ (F.bU b o e q hb)⟩
theorem FlyAt.at (F:FlyAt P w C outer H s a B a0 H' s'):∃oe vs,s'.heap.get? a=some oe/\oe.cls = .ref C/\oe.data = .fields vs:=by
 obtain⟨_,_,_,oe,vs,_,_,_,h1,h2,h3,_⟩:=F.fly
 exact⟨oe,vs,h1,h2.1,h3⟩
theorem FlyAt.new (F:FlyAt P w C outer H s a B a0 H' s'):H' a=none:=by
 cases q:H' a with
 | none=>rfl
 | some u =>
  obtain⟨oe,vs,h1,_⟩:=F.at
  have:=F.bT a u q oe h1
  rw[F.fly.2.1] at this;cases this
theorem FlyAt.nofr (F:FlyAt P w C outer H s a B a0 H' s'):a ∉ frs outer:=λz=>by
 obtain⟨_,o,h1,h2⟩:=F.fly.2.2.1.mem z
 obtain⟨oe,vs,h3,_,h4⟩:=F.at
 rw[h1] at h3;cases h3
 exact h2 vs h4
end
structure Top1 (X:Cx):Prop where
 stk:X.stack=X.env::X.outer
 fr:X.env.frame=some X.env.locals
 ex:X.ex=[]
section
variable {X:Cx} {pins:List (Addr × Obj)} {σ:St} {H H1:Hp} {s s1:Shared} {C e:Addr} {E:XK} {EE:Value->Shared->Prop}
theorem Top1.sub (T:Top1 X) {b:Addr}:b∈frs X.stack↔b=X.env.locals\/b∈frs X.outer:=by
 rw[T.stk]
 unfold frs
 rw[List.filterMap_cons,T.fr]
 exact List.mem_cons
end
open PySem.W in
section
variable {X:Cx} {C:Addr} {x:Str} {np cpos pos:Pos} {msg:Str} {j:Nat} {p:Pos}
end
section
variable {X:Cx} {C:Addr} {k:Nat} {ps:List Str} {F:List D->Prop} {x:Str} {p pos:Pos} {e:Expr} {es:List Expr} {t:RA}
end
section
variable {X:Cx} {pins:List (Addr × Obj)} {σ:St} {H:Hp} {s:Shared}
theorem CJ {i:Nat} {x:Str} {h':Heap} {v:Option Value} {m:Str->Option Value} {t:Nat} (I:Inv X pins σ H s) (hN:X.N.Nodup) (hi:X.N[i]? = some x)
  (hl:∀(i:Nat) (x:Str) (v:V),X.N[i]? = some x->σ[i]? = some (some v)->Vis X.env.scope x->∃u,RelV v u/\LS X.env s.heap m x u)
  (hn:h'.Ns X.env.locals (λy=>if y=x then v else m y)) (hs:Heap.SameBut X.env.locals s.heap h'):Inv X pins (σ.set i none) H { s with heap:=h',toks:=t }:=by
 have keep:∀b,b≠X.env.locals->h'.get? b=s.heap.get? b:=λb hb=>hs.2 b hb
 have nb:∀b o,X.s₀.heap.get? b=some o->b≠X.env.locals:=λb o e=>Nat.ne_of_lt (Nat.lt_of_lt_of_le (Heap.lt_size e) I.ok.above)
 refine⟨I.ok,I.os,I.bare,⟨λb o e n hb hx=>?_,λb o e n hb hx=>?_,I.base.free,λb o e hx=>?_,I.base.tups,I.base.frzs,I.base.tbls⟩,⟨_,hn,λj y w e1 e2 e3=>?_⟩,λy c e=>?_,I.free,I.freeC,λp hp=>?_,λb u e=>?_,by simpa using I.len⟩
 ·exact (keep b (nb b o e)).trans (I.base.keep b o e n hb hx)
 ·obtain⟨sl,e1⟩:=I.base.slot b o e n hb hx
  exact⟨sl,(keep b (nb b o e)).trans e1⟩
 ·obtain⟨o',e1⟩:=I.base.there b o e hx
  exact⟨o',(keep b (nb b o e)).trans e1⟩
 ·by_cases hj:j=i
  ·subst hj
   by_cases hlt:j<σ.length
   ·rw[List.getElem?_set_self hlt] at e2;cases e2
   ·rw[List.set_eq_of_length_le (by omega),List.getElem?_eq_none (by omega)] at e2;cases e2
  ·rw[List.getElem?_set_ne (Ne.symm hj)] at e2
   obtain⟨u,r,q⟩:=hl j y w e1 e2 e3
   refine⟨u,r,?_⟩
   rcases q with ⟨k,q⟩ | ⟨k,c,q,z⟩
   ·refine .inl ⟨k,?_⟩
    have:y≠x:=λe=>hj (oT hN e1 (e ▸ hi))
    simp[this,q]
   ·exact .inr ⟨k,c,q,z.sameBut hs (I.cne y c q)⟩
 ·obtain⟨w,z⟩:=I.cell y c e
  exact⟨w,z.sameBut hs (I.cne y c e)⟩
 ·obtain⟨e,n,ne,nf,d⟩:=I.pin p hp
  exact⟨(keep p.1 ne).trans e,n,ne,nf,d⟩
 ·have nL:∀c z,H c=some z->c≠X.env.locals:=λc z q r=>by rw[r,I.free] at q;cases q
  refine (I.hok b u e).stay (λc v hc q=>(keep c ?_).trans q) (λ_ q=>q) λ_ _ q=>q
  rcases hc with rfl | hc
  ·exact nL _ _ e
  ·exact nL _ _ hc
noncomputable abbrev nX (X:Cx) (v:Value):Cx:={ X with A:=X.A.mark (some v),calm:=false }
theorem tW (I:Inv X pins σ H s) (v:Value):Inv (nX X v) pins σ H s :=
 ⟨⟨I.ok.mod,I.ok.kind,I.ok.glob,I.ok.blt,I.ok.above,I.ok.inj,I.ok.has,I.ok.cab,λz=>Bool.noConfusion z,I.ok.frames,I.ok.stk,I.ok.exf,I.ok.bs,I.ok.bsz,I.ok.noex,I.ok.exfs,I.ok.funs,I.ok.frf⟩,I.os,I.bare,I.base,I.loc,I.cell,I.free,I.freeC,I.pin,I.hok,I.len⟩
theorem vU {v:Value} (ok:X.Ok) (I:Inv (nX X v) pins σ H s):Inv X pins σ H s:=⟨ok,I.os,I.bare,I.base,I.loc,I.cell,I.free,I.freeC,I.pin,I.hok,I.len⟩
end
section
variable {K:PySem.W.Frag}
open PySem.W in
theorem tY {x C:Addr} (Z:ExcK K C):KitX K (.ref x) (.ref C) (λh=>∃o,h.get? x=some o/\o.cls = .ref C) where
 ty:=λ_ _ _ ⟨_,h1,h2⟩=>h2 ▸ (Looks.ld h1).andThen .now
 it:=λ_ _ X _=>by
  have z:=Z.cl
  unfold clsIn at z
  split at z
  ·rename_i c d cd sl lk
   intro A Q E s k q
   unfold isType loadHead
   exact wpAny_bind (wpAny_loadPart (k _ _ (X _ _ lk)) (wpAny_pure q))
  ·cases z
 ne:=λh tp dd its n sl X htp=>by
  have z:=Z.cl
  refine Bool.eq_false_iff.mpr λq=>?_
  have e:C=tp:=Value.ref.inj (beq_iff_eq.mp q)
  subst e
  unfold clsIn at z
  split at z
  ·rename_i c d cd sl' lk
   have y:=(X _ _ lk).symm.trans htp
   cases y
  ·cases z
 ca:=λX ⟨_,h1,h2⟩ k=>zP Z X h1 h2 k
end
section
variable {X:Cx} {C e:Addr} {oe:Obj} {b:Bool}
end
theorem FJ:bootBuiltins "ValueError" = some (.type "ValueError"):=by decide +kernel
section
variable {X:Cx} {C:Addr} {k:Nat} {ps:List Str} {F:List D->Prop} {g:Str} {ea:Expr} {es:List Expr} {t:RA} {q1 q2 q3 q4 q5 q6 q7 q8 q9 q10 q11 q12 q13 q14 q15 q16 q17 q18 q19 q20 q21 q22 q23 q24 q25 q26 q27 q28 q29 q30 q31:Pos} {j1 j2 j3:Nat}
end
section
variable {P:Program} {w:World} {K:PySem.W.Frag} {mg:Str->Option Value} {base:Heap}
end
section
variable {X:Cx} {C:Addr} {c:Expr} {tc:RT} {x:Str} {np cpos pos pos2 p:Pos} {msg:Str} {j:Nat} {rest:List Stmt}
end
section
variable {prog:Program} {w:World} {A:Around} {E:Value->Shared->Prop} {h:Heap} {g:Array GenState} {d:Drawn} {t:Nat} {os:OsState}
variable {nm qn:Str} {C N:Addr} {bs bm bB:List Value} {hd:Bool} {sn:List Str} {sub:List Value} {ab:Bool} {col:Option Bool} {dd:Option Addr} {k0 k1 k2 k3 k5:Option Value} {B nI iI:String}
noncomputable abbrev dD (C z:Addr):Obj:={ cls:=.ref C,data:=.fields #[.ref z,.none,.none,.none,.bool false,.none] }
noncomputable abbrev nS (h:Heap) (C:Addr) (us:List Value):Heap:=(h.push { cls:=.type "tuple",data:=.seq us.toArray }).push (dD C h.objs.size)
theorem sH (F:ExcBaseFacts B nI iI bB) (T:OwnTail h bB bm) {mN:Str->Option Value} {us:List Value} {f:Addr} {oF:Obj} {Q:Fin->Shared->Prop}
  (hC:h.get? C=some (excClassObj nm qn C N bs bm hd sn sub ab col dd k0 k1 k2 k3 k5 nI)) (hN:h.Ns N mN) (hi:mN "__init__" = some (.ref f)) (hf:h.get? f=some oF) (hfc:oF.cls = .type "function") (hl:us.length<=sizeLine)
  (k:∀h' e,h.objs.size<=e->Heap.MadeExcOf h h' e (.ref C) us->wpAny (model prog w) A (call (.ref f) (.ref e::us)) (λr s'=>r = .none/\Q (.done (.ret (.ref e))) s') E ⟨h',g,d,t,os⟩) :
  wpAny (model prog w) A (Builtin.«type.__call__» ⟨.ref C::us,[]⟩) Q E ⟨h,g,d,t,os⟩:=by
 have up:∀b o,h.get? b=some o->(nS h C us).get? b=some o:=λb o z=>Heap.get?_push_of_some _ (Heap.get?_push_of_some _ z)
 repeat (first | with_reducible refine wpAny_loadPart_at hC ?_ | with_reducible refine wpAny_madeBy_exc hC ?_ | wp_step)
 refine codeAny_call_builtin_code (Code.quiet_builtin _ F.quiet) (wpAny_check_new_subT F T hC ?_)
 refine codeAny_exc_new_subT F T hC ?_ hl
 show wpAny _ _ _ _ _ (⟨nS h C us,g,d,t,os⟩:Shared)
 have he:(nS h C us).get? (h.objs.size+1)=some (dD C h.objs.size):=by heap_get
 have isC:(Value.ref C::bm).contains (.ref C)=true:=List.contains_iff_mem.mpr (.head _)
 unfold isInstance
 repeat (first | with_reducible refine wpAny_loadPart_at he ?_ | (with_reducible refine wpAny_isSubtype_exc (up _ _ hC) ?_;rw[isC]) | wp_step)
 show wpAny _ _ (typeLookup (.ref C) _) _ _ _
 refine wpAny_typeLookup_tail (up _ _ hC) (hN.keeps up) (T.keeps up) F.mroIs F.init.lookup ?_
 rw[hi]
 refine wpAny_holding (wpAny_bind ?_)
 unfold bindSpecial
 refine wpAny_bind (wpAny_typeOf (T:="function") ⟨_,up _ _ hf,hfc⟩ ?_)
 rw[if_pos (by decide)]
 have made:Heap.MadeExcOf h (nS h C us) (h.objs.size+1) (.ref C) us:=⟨up,Heap.get?_none_of_le (Nat.le_succ _),h.objs.size,he,Heap.get?_none_of_le (Nat.le_refl _),Heap.get?_push_of_some _ (Heap.get?_push_at rfl rfl)⟩
 refine wpAny_pure (wpAny_bind (wpAny_mono (k _ _ (Nat.le_succ _) made) (λr s' z=>?_) λ_ _ z=>z))
 obtain⟨rfl,z⟩:=z
 wp_walk
 exact z
theorem rF (F:ExcBaseFacts B nI iI bB) (T:OwnTail h bB bm) {mN:Str->Option Value} {us:List Value} {f:Addr} {oF:Obj} {Q:Value->Shared->Prop}
  (hC:h.get? C=some (excClassObj nm qn C N bs bm hd sn sub ab col dd k0 k1 k2 k3 k5 nI)) (hN:h.Ns N mN) (hi:mN "__init__" = some (.ref f)) (hf:h.get? f=some oF) (hfc:oF.cls = .type "function") (hl:us.length<=sizeLine)
  (k:∀h' e,h.objs.size<=e->Heap.MadeExcOf h h' e (.ref C) us->wpAny (model prog w) (A.under (.builtin "type.__call__" ⟨.ref C::us,[]⟩)) (call (.ref f) (.ref e::us)) (λr s'=>r = .none/\Q (.ref e) s') E ⟨h',g,d,t,os⟩) :
  wpAny (model prog w) A (call (.ref C) us) Q E ⟨h,g,d,t,os⟩:=by
 have z1:=tc_lookup
 have z2:=tc_bind (.ref C)
 have z3:(⟨h,g,d,t,os⟩:Shared).TypeIs (.ref C) "type":=⟨_,hC,rfl⟩
 refine wpAny_call (codeAny_of_tree ?_)
 show wpAny _ _ (callAny (.ref C) _) _ _ _
 repeat (any_goals (first | assumption | with_reducible refine wpAny_loadPart_at hC ?_ | wp_step))
 refine⟨rfl,codeAny_call_builtin_at (Code.quiet_builtin _ (by decide +kernel)) entry_typeCall (wpAny_check_type_call_sub hC (sH F T hC hN hi hf hfc hl λh' e z0 z=>?_))⟩
 exact k h' e z0 z
end
noncomputable abbrev uZ:List Value:=[.type "ValueError",.type "Exception",.type "BaseException",.type "object"]
structure ExcA (K:PySem.W.Frag) (C:Addr) (x:Str):Prop where
 sa:PySem.W.findIn K (.ref C) "__setattr__" = some (some (.builtin "object.__setattr__"))
 cl:∃cd B,PySem.W.clsIn K C=some cd/\cd.mro = .ref C :: .ref B::uZ/\cd.hasDict=true
 mo:PySem.W.mroIn K C (.type "object")=some true
 no:PySem.W.findIn K (.ref C) x=some none
section
variable {K:PySem.W.Frag} {prog:Program} {w:World} {A:Around} {E:Value->Shared->Prop} {s:Shared} {e C:Addr} {oe:Obj} {x:Str} {v:Value}
open PySem.W Builtin Builtin.ObjectAttr
theorem zR {Q:Unit->Shared->Prop} (Z:ExcA K C x) (X:K.In s.heap) (he:s.heap.get? e=some oe) (hc:oe.cls = .ref C) (hnd:oe.dict=none) (hnc:∀c,oe.data≠.cls c)
  (k:∀h' dx tk,dx=s.heap.objs.size->dx≠e->h'.get? e=some { oe with dict:=some dx }->h'.Ns1 dx (λy=>if y=x then some v else none)->(∀b o,b≠e->s.heap.get? b=some o->h'.get? b=some o)->Q () { s with heap:=h',toks:=tk }) :
  wpAny (model prog w) A (setAttr (.ref e) x v) Q E s:=by
 obtain⟨hh,g,dr,tk0,os⟩:=s
 obtain⟨cd,B1,hcd,hmro,hhd⟩:=Z.cl
 have SF:=PySem.F.store_ValueError
 have J:PySem.W.InstAt hh e oe C none:=⟨he,hc,by unfold notCls;split <;> first | rfl | (rename_i c q;exact absurd q (hnc c)),by rw[hnd];exact True.intro⟩
 refine PySem.W.set_plain X J Z.sa ?_
 have sub:Looks (model prog w) hh (isInstance (.ref e) (.type "object")) true:=J.type.andThen (looks_mroIn X Z.mo)
 refine codeAny_call_builtin SF.slot.plain SF.entry (@check_slot (model prog w) _ _ ⟨hh,g,dr,tk0+1,os⟩ "object.__setattr__" "object" "__setattr__" (.ref e) [.str x tk0,v] [] _ SF.kind SF.split sub (SF.args (.ref e) (.str x tk0) v) ?_)
 have hm:Looks (model prog w) hh (mroOf (.ref C)) cd.mro:=(looks_clsIn X hcd).andThen .now
 rw[osa_eq,refuse_eq]
 refine wpAny_bind (wpAny_bind (J.type.at (wpAny_bind (hm.at ?_))))
 rw[hmro,refuseLoop_ref,refuseLoop_ref,SF.passes]
 refine wpAny_pure (wpAny_bind (J.type.at (wpAny_bind ((looks_findIn X Z.no).at (wpAny_bind (wpAny_pure ?_))))))
 show wpAny _ _ (storeInOwnDict (.ref e) (.ref C) (.str x tk0) x v false) _ _ _
 unfold storeInOwnDict
 refine wpAny_bind (wpAny_pure ?_)
 have hcl:Looks (model prog w) hh (classData C) cd:=looks_clsIn X hcd
 repeat (first | (with_reducible refine wpAny_loadPart_at he ?_;rw[hc]) | with_reducible refine hcl.at ?_ | wp_step)
 rw[hnd]
 dsimp only
 rw[if_neg (by simp[typeHasDict])]
 split
 ·rename_i c q
  exact absurd q (hnc c)
 have ne:e≠hh.objs.size:=Nat.ne_of_lt (Heap.lt_size he)
 have he1:(hh.push { cls:=.type "dict",data:=.dict #[] }).get? e=some oe:=Heap.get?_push_of_some _ he
 refine wpAny_bind (wpAny_alloc' (wpAny_bind (wpAny_update' he1 (wpAny_pure ?_))))
 generalize hg:(hh.push { cls:=.type "dict",data:=.dict #[] }).update e (λo=>{ cls:=o.cls,dict:=some hh.objs.size,data:=o.data,slots:=o.slots })=h2
 have hd2:h2.get? hh.objs.size=some { cls:=.type "dict",data:=.dict #[] }:=by rw[<-hg];exact (Heap.get?_update_ne _ _ _ _ ne.symm).trans (Heap.get?_push_at rfl rfl)
 have he2:h2.get? e=some { oe with dict:=some hh.objs.size }:=by
  rw[<-hg]
  refine Heap.get?_update_self _ he1 ?_
  have fr:=(Heap.get?_some_iff.mp he).2
  obtain⟨oc,od,odt,osl⟩:=oe
  cases odt <;> first | rfl | exact fr
 have kp:∀b o,b≠e->hh.get? b=some o->h2.get? b=some o:=λb o nb q=>by rw[<-hg];exact (Heap.get?_update_ne _ _ _ _ nb).trans (Heap.get?_push_of_some _ q)
 have n2:h2.Ns hh.objs.size (λ_=>none):=⟨_,#[],_,hd2,rfl,λ_ z=>absurd z (by simp),λ_=>rfl⟩
 show wpAny _ _ (storeInDict hh.objs.size (.str x tk0) x v) _ _ _
 unfold storeInDict newKeyGuard
 refine wpAny_bind (wpAny_pure (wpAny_bind (wpAny_nsSet1 (Heap.Ns1.of_empty n2) λh3 n3 sb=>?_)))
 obtain⟨oD,esD,epD,hoD,hdD,hcD⟩:=n3.count (Within.cons x v Within.nil)
 refine wpAny_bind (wpAny_lookBehind hoD (by rw[hdD];exact pastItsLine_dict (Nat.le_trans hcD (by rw[List.length_cons,List.length_nil,sizeLine_eq];omega))) ?_)
 refine wpAny_pure ?_
 exact k h3 hh.objs.size _ rfl ne.symm ((sb.2 e ne).trans he2) n3 λb o nb q=>(sb.2 b (Nat.ne_of_lt (Heap.lt_size q))).trans (kp b o nb q)
theorem CF {M:Model} {h:Heap} {dx:Addr} {mA:Str->Option Value} (Z:ExcA K C x) (X:K.In h) (he:h.get? e=some oe) (hc:oe.cls = .ref C) (hnc:∀c,oe.data≠.cls c) (hd:oe.dict=some dx) (hn:h.Ns1 dx mA) (hv:mA x=some v) :
  Looks M h (find (.ref e) (.ref C) x) (.value v):=by
 obtain⟨cd,B1,hcd,hmro,hhd⟩:=Z.cl
 obtain⟨od,ho,hl⟩:=qR hn
 have J:PySem.W.InstAt h e oe C (some od):=⟨he,hc,by unfold notCls;split <;> first | rfl | (rename_i c q;exact absurd q (hnc c)),by rw[hd];exact ho⟩
 have L1:=looks_findIn (M:=M) X Z.no
 have L2:Looks M h (inOwnDict x (.ref e)) (some v):=looks_own X J hcd (by unfold PySem.W.ownOf;rw[hhd,if_pos rfl,<-hv];exact hl x)
 refine L1.andThen (Looks.andThen (a:=none) .now (Looks.andThen (a:=none) .now ?_))
 show Looks M h (ownThenClass (.ref e) x none none) _
 unfold ownThenClass
 exact L2.andThen (Looks.tag .now)
theorem zQ {tk:Tok} {Q:Fin->Shared->Prop} {dx:Addr} {mA:Str->Option Value} (Z:ExcA K C x) (X:K.In s.heap) (he:s.heap.get? e=some oe) (hc:oe.cls = .ref C) (hnc:∀c,oe.data≠.cls c) (hd:oe.dict=some dx) (hn:s.heap.Ns1 dx mA) (hv:mA x=some v) (h:Q (.done (.ret v)) s) :
  wpAny (model prog w) A (Builtin.«object.__getattribute__» ⟨[.ref e,.str x tk],[]⟩) Q E s:=by
 obtain⟨hh,g,dr,t,os⟩:=s
 have b0:Looks (model prog w) hh (typeOf (.ref e)) (.ref C):=hc ▸ (Looks.ld he).andThen .now
 have b1:=CF (M:=model prog w) Z X he hc hnc hd hn hv
 repeat (any_goals (first | assumption | with_reducible refine Looks.at (by assumption) ?_ | wp_step))
theorem tR {b:Bool} {Q:Value->Shared->Prop} {dx:Addr} {mA:Str->Option Value} (Y:ExcK K C) (Z:ExcA K C x) (X:K.In s.heap) (he:s.heap.get? e=some oe) (hc:oe.cls = .ref C) (hnc:∀c,oe.data≠.cls c) (hd:oe.dict=some dx) (hn:s.heap.Ns1 dx mA) (hv:mA x=some v)
  (hi:∃n z,v = .int n z) (h:Q v { s with toks:=s.toks+1 }):wpAny (model prog w) A (getAttr (.ref e) x b) Q E s:=by
 obtain⟨hp,g,dr,t,os⟩:=s
 have b0:Looks (model prog w) hp (typeOf (.ref e)) (.ref C):=hc ▸ (Looks.ld he).andThen .now
 have b1:=looks_findIn (M:=model prog w) X Y.ga
 have b2:=looks_findIn (M:=model prog w) X Y.hk
 have f3:=F.attr_ValueError.ga.bind (.ref e)
 unfold getAttr getAttrBy
 refine wpAny_bind (wpAny_mkText (wpAny_holding (wpAny_bind (b0.at (wpAny_bind (b1.at ?_))))))
 show wpAny _ _ (getAttrByItsOwn _ _ _ _ _ _) _ _ _
 refine wpAny_bind (b2.at ?_)
 have hx0:(b && onTheHeap (Value.builtin "BaseException.__getattribute__"))=false:=by cases b <;> rfl
 repeat (any_goals (first | assumption | with_reducible refine Looks.at (by assumption) ?_ | wp_step))
 refine codeAny_call_builtin F.attr_ValueError.ga.plain F.entry_bexc_ga (uI Y X he hc (zQ Z X he hc hnc hd hn hv ?_))
 repeat (any_goals (first | assumption | wp_step))
 obtain⟨n,z,rfl⟩:=hi
 exact wpAny_pure h
end
section
variable {prog:Program} {w:World} {A:Around} {E:Value->Shared->Prop} {h:Heap} {g:Array GenState} {d:Drawn} {t:Nat} {os:OsState}
variable {nm qn:Str} {C N:Addr} {bs bm:List Value} {hd:Bool} {sn:List Str} {sub:List Value} {ab:Bool} {col:Option Bool} {dd:Option Addr} {k0 k1 k2 k3 k5:Option Value} {nI:String}
theorem CG {e y:Addr} {us:List Value} {Q:Value->Shared->Prop} (T:OwnTail h uZ bm) (hC:h.get? C=some (excClassObj nm qn C N bs bm hd sn sub ab col dd k0 k1 k2 k3 k5 "ValueError.__new__"))
  (he:h.get? e=some (dD C y)) (hl:us.length<=sizeLine)
  (k:∀h' z,h.get? z=none->h'.get? e=some (dD C z)->(∀b o,b≠e->h.get? b=some o->h'.get? b=some o)->Q .none ⟨h',g,d,t,os⟩) :
  wpAny (model prog w) A (call (.builtin "ValueError.__init__") (.ref e::us)) Q E ⟨h,g,d,t,os⟩:=by
 have F:=PySem.F.excBase_ValueError
 refine wpAny_call (codeAny_call_builtin F.init.plain F.initEntry (wpAny_check_init_subT F T hC he rfl ?_))
 wp_walk
 have he1:(h.push { cls:=.type "tuple",data:=.seq us.toArray }).get? e=some (dD C y):=Heap.get?_push_of_some _ he
 refine k _ h.objs.size (Heap.get?_none_of_le (Nat.le_refl _)) ?_ λb o nb q=>?_
 ·rw[Heap.get?_update_self _ he1 rfl]
  rfl
 ·rw[Heap.get?_update_other _ _ (Ne.symm nb)]
  exact Heap.get?_push_of_some _ q
end
noncomputable def DK {α:Type}:Sem α->Prop
 | .pure _=>True
 | .raise _=>True
 | .unsupported _=>True
 | .finish _=>True
 | .rule _ k=>DK (k ())
 | .at _ k=>DK (k ())
 | .load _ _ k=>∀o,DK (k o)
 | .update _ _ f k=>(∀o,(f o).dict=o.dict)/\DK (k ())
 | .alloc _ k=>∀n,DK (k n)
 | .loadIfAlive _ k=>∀o,DK (k o)
 | .point _ k=>DK (k ())
 | .fresh k=>∀t,DK (k t)
 | .ask k=>∀x,DK (k x)
 | .handled _ k=>∀x,DK (k x)
 | .stack k=>∀x,DK (k x)
 | .thread k=>∀x,DK (k x)
 | _=>False
noncomputable def Kd (e:Addr) (d:Option Addr) (h:Heap):Prop:=e<h.objs.size/\∀o,h.get? e=some o->o.dict=d
theorem Kd.push {e:Addr} {d:Option Addr} {h:Heap} {o:Obj} (k:Kd e d h):Kd e d (h.push o) :=
 ⟨by rw[Heap.size_push];exact Nat.lt_succ_of_lt k.1,λo' z=>k.2 o' (by rw[Heap.get?_push_ne _ _ _ (Nat.ne_of_lt k.1)] at z;exact z)⟩
theorem Kd.update {e a:Addr} {d:Option Addr} {h:Heap} {f:Obj->Obj} (k:Kd e d h) (ha:(h.get? a).isSome) (hf:∀o,(f o).dict=o.dict):Kd e d (h.update a f):=by
 refine⟨by rw[Heap.size_update];exact k.1,λo' z=>?_⟩
 by_cases ea:a=e
 ·subst ea
  obtain⟨o,ho⟩:=Option.isSome_iff_exists.mp ha
  have z1:=(Heap.get?_some_iff.mp z).1
  have z2:=(Heap.get?_some_iff.mp ho).1
  have:(h.update a f).objs[a]? = some (f o):=by
   show (h.objs.modify a f)[a]? = some (f o)
   rw[Array.getElem?_modify,if_pos rfl,z2];rfl
  rw[this] at z1
  cases z1
  rw[hf o]
  exact k.2 o ho
 ·rw[Heap.get?_update_other _ _ ea] at z
  exact k.2 o' z
theorem DK.bind {α β:Type} {f:α->Sem β} (hf:∀a,DK (f a)):∀{t:Sem α},DK t->DK (t.bind f):=by
 intro t
 induction t with
 | pure a=>intro _;exact hf a
 | raise=>intro _;trivial
 | unsupported=>intro _;trivial
 | finish=>intro _;trivial
 | rule _ k ih=>intro h;exact ih () h
 | «at» _ k ih=>intro h;exact ih () h
 | load _ _ k ih=>intro h o;exact ih o (h o)
 | update _ _ g k ih=>intro h;exact⟨h.1,ih () h.2⟩
 | alloc _ k ih=>intro h o;exact ih o (h o)
 | loadIfAlive _ k ih=>intro h o;exact ih o (h o)
 | point _ k ih=>intro h;exact ih () h
 | fresh k ih=>intro h o;exact ih o (h o)
 | ask k ih=>intro h o;exact ih o (h o)
 | handled _ k ih=>intro h o;exact ih o (h o)
 | stack k ih=>intro h o;exact ih o (h o)
 | thread k ih=>intro h o;exact ih o (h o)
 | _=>intro h;exact False.elim h
theorem DK.wp {α:Type} {M:Model} {Γ:PySem.Ctx} {e:Addr} {d:Option Addr} {Q:α->Pos->Shared->Prop} {E:Value->Pos->Shared->Prop}:∀{t:Sem α} {p:Pos} {s:Shared},DK t->Kd e d s.heap->Sem.wp M Γ t Q E p s ->
  Sem.wp M Γ t (λa p s'=>Q a p s'/\Kd e d s'.heap) (λa p s'=>E a p s'/\Kd e d s'.heap) p s:=by
 intro t
 induction t with
 | pure a=>intro p s _ k h;exact⟨h,k⟩
 | raise=>intro p s _ k h;exact⟨h,k⟩
 | unsupported=>intro p s _ _ h;exact h
 | finish=>intro p s _ _ h;exact h
 | rule _ k ih=>intro p s h;exact ih () h
 | «at» _ k ih=>intro p s h;exact ih () h
 | load _ _ k ih=>intro p s h kd w;obtain⟨o,h1,h2⟩:=w;exact⟨o,h1,ih o (h o) kd h2⟩
 | update a _ g k ih=>intro p s h kd w;exact⟨w.1,ih () h.2 (Kd.update kd w.1 h.1) w.2⟩
 | alloc o k ih=>intro p s h kd w;exact ih _ (h _) (Kd.push kd) w
 | loadIfAlive _ k ih=>intro p s h kd w;exact ih _ (h _) kd w
 | point _ k ih=>intro p s h kd w;exact ih () h kd w
 | fresh k ih=>intro p s h kd w;exact ih _ (h _) kd w
 | ask k ih=>intro p s h kd w;exact ih _ (h _) kd w
 | handled _ k ih=>intro p s h kd w;exact ih _ (h _) kd w
 | stack k ih=>intro p s h kd w;exact ih _ (h _) kd w
 | thread k ih=>intro p s h kd w;exact ih _ (h _) kd w
 | _=>intro p s h;exact False.elim h
theorem oC {α:Type} {M:Model} {A:Around} {s:Shared} {t:Sem α} {e:Addr} {d:Option Addr} {Q:α->Shared->Prop} {E:Value->Shared->Prop} (h:DK t) (k:Kd e d s.heap) (w:wpAny M A t Q E s) :
  wpAny M A t (λa s'=>Q a s'/\Kd e d s'.heap) (λa s'=>E a s'/\Kd e d s'.heap) s:=λ Γ p hΓ=>h.wp k (w Γ p hΓ)
theorem DK.bind' {α β:Type} {t:Sem α} {f:α->Sem β} (h:DK t) (hf:∀a,DK (f a)):DK (t >>= f):=DK.bind hf h
theorem JR {α:Type} (w:String):DK (unsupported w:Sem α):=trivial
theorem rO (a:Addr):DK (load a):=λ_=>trivial
theorem BS (a:Addr) (f:Obj->Obj) (h:∀o,(f o).dict=o.dict):DK (update a f):=⟨h,trivial⟩
theorem oG:DK stack:=λ_=>trivial
theorem tN (v:Value):DK (fieldsOf v):=by
 unfold fieldsOf
 split
 ·refine (rO _).bind' λo=>?_
  split <;> trivial
 ·trivial
theorem lK (v:Value) (i:Nat):DK (field v i):=by
 unfold field
 refine (tN v).bind' λvs=>?_
 split <;> trivial
theorem BO (g:Array Value->Array Value) (o:Obj):(Obj.mapFields g o).dict=o.dict:=by
 obtain⟨c,d,dt,sl⟩:=o
 cases dt <;> rfl
theorem iK (v:Value) (i:Nat) (x:Value):DK (setField v i x):=by
 unfold setField updateField
 split
 ·refine (rO _).bind' λo=>?_
  split
  ·split
   ·exact BS _ _ λo=>BO _ o
   ·trivial
  ·trivial
 ·trivial
theorem lW (v:Value):DK (setFlight v none):=by
 unfold setFlight
 refine (lK v 1).bind' λtb=>?_
 split
 ·exact iK _ _ _
 ·trivial
theorem BR (f:Addr) (b:Bool):DK (entryPlaceOf f b):=by
 unfold entryPlaceOf
 refine oG.bind' λacts=>?_
 split <;> trivial
theorem zN (env:Env) (outer:List Env):DK (behindIsImport env outer):=by
 unfold behindIsImport
 split
 ·trivial
 ·split
  ·trivial
  ·exact (lK _ _).bind' λ_=>trivial
theorem FZ (env:Env) (b:Bool) (outer:List Env):DK (keptBack env b outer):=by
 unfold keptBack
 split
 ·split
  ·trivial
  ·exact DK.bind' (oG.bind' λ_=>trivial) λ_=>trivial
 ·trivial
theorem tO:∀l:List Env,DK (readyFrames l)
 | []=>trivial
 | env::outer=>by
  unfold readyFrames
  split
  ·refine (rO _).bind' λo=>?_
   split
   ·trivial
   ·refine (zN _ _).bind' λb=>(FZ _ _ _).bind' λv=>?_
    refine DK.bind' (BS _ _ λo=>rfl) λ_=>tO outer
  ·trivial
theorem vT (env:Env):DK (PySem.frameOf env):=by
 unfold PySem.frameOf frameEnvs
 refine DK.bind' (oG.bind' λ_=>trivial) λl=>?_
 refine DK.bind' ?_ λo=>?_
 ·unfold frameObject
  split
  ·trivial
  ·exact (tO _).bind' λ_=>trivial
 ·split <;> trivial
theorem BQ (a b c d e:Value) (l:List Value):DK (EntryCells.newEntry a b c d e l):=by
 unfold EntryCells.newEntry newFields newObj
 generalize [a,b,c,d,e]++(if l.isEmpty=true then List.replicate 6 Value.none else l)=vs
 dsimp only
 have z:DK (newObjAsIs (.type "traceback") (.fields vs.toArray)):=by
  intro n
  trivial
 split
 ·exact DK.bind' (JR _) λ_=>z
 ·exact z
theorem yA (v:Value) (env:Env):DK (noteFrame v env):=by
 unfold noteFrame
 split
 ·refine (lK _ _).bind' λhd=>?_
  have z:∀f,DK (do setField v 1 (<-EntryCells.newEntry hd (<-PySem.frameOf env) .none (rawInt f) .none (<-entryPlaceOf f (hd != .none)))):=λf =>
   (vT env).bind' λ_=>(BR _ _).bind' λ_=>(BQ _ _ _ _ _ _).bind' λ_=>iK _ _ _
  dsimp only
  split
  ·refine (lK _ _).bind' λy=>?_
   split
   ·trivial
   ·exact (iK _ _ _).bind' λ_=>z _
  ·exact z _
 ·trivial
theorem oE (v:Value) (env:Env):DK (leaving env v):=by
 unfold leaving
 exact (yA _ _).bind' λ_=>lW _
open PySem.W in
noncomputable def rY (K:Frag) (C f:Addr):Bool:=match K.lookup C with
 | some ⟨.type "type",_,.cls cd,sl⟩=>(match cd.mro,sl.toList with
  | .ref C'::bm,[_,_,_,_,some (.builtin n),_]=>(C' == C && n == "ValueError.__new__") && ((!cd.hasDel && tailIn K uZ bm) && (nsOkIn K cd.ns && nsIn K cd.ns "__init__" == some (some (.ref f))))
  | _,_=>false)
 | _=>false
structure ExcI (K:PySem.W.Frag) (C Cb f:Addr) (x:Str):Prop where
 k:ExcK K C
 a:ExcA K C x
 own:rY K C f=true
 fn:PySem.W.typeIn K (.ref f)=some (.type "function")
 sp:PySem.W.specialIn K (.ref Cb) "__getattribute__" = some (some (.builtin "type.__getattribute__"))
 rd:PySem.W.readsIn K Cb (.type "type")=true
 fc:PySem.W.findCls K (.ref Cb) (.type "type") "__init__" = some (.val (.builtin "ValueError.__init__"))
open PySem.W in
theorem GZ {K:PySem.W.Frag} {h:Heap} {N:Addr} {m:Str->Option Value} {n:Str} {v:Value} (X:K.In h) (G:h.Ns N m) (z:nsIn K N n=some (some v)):m n=some v:=by
 obtain⟨o,es,ep,go,gd,_,gf⟩:=G
 unfold nsIn at z
 split at z
 ·rename_i q
  have y:=X _ _ q
  rw[go] at y;cases y;cases gd
  split at z
  ·rename_i en y
   cases z
   rw[<-gf];unfold nsFind findBy
   rw[<-Array.find?_toList,y];rfl
  ·split at z <;> cases z
 ·cases z
open PySem.W in
theorem sL {K:PySem.W.Frag} {h:Heap} {C f:Addr} (X:K.In h) (z:rY K C f=true):∃bm N nm q bs hd sn sub ab col dd k0 k1 k2 k3 k5 mN,
  h.get? C=some (excClassObj nm q C N bs bm hd sn sub ab col dd k0 k1 k2 k3 k5 "ValueError.__new__")/\h.Ns N mN/\mN "__init__" = some (.ref f)/\OwnTail h uZ bm:=by
 unfold rY at z
 split at z
 ·rename_i dd cd sl lk
  split at z
  ·rename_i C' bm k0 k1 k2 k3 n k5 e1 e2
   simp only[Bool.and_eq_true,beq_iff_eq,Bool.not_eq_true'] at z
   obtain⟨⟨y1,y2⟩,⟨y3,z4⟩,z5,z6⟩:=z
   obtain⟨nm,bs,mro,ns,qn,hd,sn,sub,ab,col,del⟩:=cd
   obtain⟨l⟩:=sl
   dsimp only at e1 e2 z5 z6 y3
   subst e1 e2 y1 y2 y3
   refine⟨bm,ns,nm,qn,bs,hd,sn,sub,ab,col,dd,k0,k1,k2,k3,k5,_,X _ _ lk,.of_isNs (isNs_of_in X z5),?_,tail_of_in X z4⟩
   exact GZ X (.of_isNs (isNs_of_in X z5)) z6
  ·cases z
 ·cases z
noncomputable abbrev kS (C e:Addr):HO:=.ext λh=>∃z,h.get? e=some (dD C z)
noncomputable abbrev dC (C e dx:Addr):HO:=.ext λh=>∃z,h.get? e=some { dD C z with dict:=some dx }
section
variable {P:Program} {w:World} {H:Hp} {h:Heap} {C e dx:Addr}
theorem xM {z:Addr} (he:h.get? e=some (dD C z)):ObjOk P w H h e (kS C e):=⟨⟨z,he⟩,⟨_,he⟩,λh1 h2 ⟨z,q⟩ k=>⟨z,k _ q⟩⟩
theorem GJ {z:Addr} (he:h.get? e=some { dD C z with dict:=some dx }):ObjOk P w H h e (dC C e dx):=⟨⟨z,he⟩,⟨_,he⟩,λh1 h2 ⟨z,q⟩ k=>⟨z,k _ q⟩⟩
end
section
variable {X:Cx} {C Cb f:Addr} {x y self:Str} {p p0 p1 p2 apos pos pos':Pos} {msg:Str} {j i:Nat}
theorem DY {pl:Sem Bool} (Z:ExcI X.K C Cb f y) (hg:Gl X x) (hm:X.mg x=some (.ref Cb)) (hs:PE X (.Name self p1) (λσ H Q=>∃v,σ[i]? = some (some v)/\Q v H))
  (hdb:(x == ("__debug__":Str))=false:=by decide)
  (s2:starEach [.Name self p1,.Constant (.str msg) j p2] X.env=(false,eval (.Name self p1) X.env)::starEach [.Constant (.str msg) j p2] X.env:=by rfl)
  (s1:starEach [.Constant (.str msg) j p2] X.env=[(false,eval (.Constant (.str msg) j p2) X.env)]:=by rfl)
  (ht:eval (.Call (.Attribute (.Name x p0) "__init__" apos) [.Name self p1,.Constant (.str msg) j p2] [] pos) X.env=(do
   let ov <-eval (.Name x p0) X.env
   standAt apos.atName
   let (f,first) <-holding [ov] (getMethod ov "__init__" pl)
   callWith pos f first (backTo pos (starEach [.Name self p1,.Constant (.str msg) j p2] X.env)) (backToKw pos (keywordEach [] X.env))):=by rfl) :
  PE X (.Call (.Attribute (.Name x p0) "__init__" apos) [.Name self p1,.Constant (.str msg) j p2] [] pos) (λσ H Q=>∃e,σ[i]? = some (some (.ref e))/\H e=some (kS C e)/\Q .non H):=by
 intro pins s σ H Q I hh
 obtain⟨e,he,hH,q⟩:=hh
 refine PySem.W.methodCall_KW (pl:=pl) (fR I hg hm ?_ hdb) ht
 refine PySem.W.method_cls I.kIn Z.sp (PySem.W.cls_value I.kIn Z.rd Z.fc rfl ?_)
 have I1:Inv X pins σ H { s with toks:=s.toks+1 }:=I.tok _
 have pa:=bW hs (bW (X:=X) (KS (X:=X) (x:=msg) (j:=j) (pos:=p2)) gA (by rw[s1];rfl)) s2
 have qa:=pa pos pins _ σ H (λvs H1=>H1=H/\∃v,vs=[.ref e,v]) I1 ⟨.ref e,he,rfl,_,rfl⟩
 refine Calls.callWith_builtin (first:=[]) (by rw[s2,s1];rfl) ?_
 rw[s2] at qa ⊢
 refine Calls.evalArgs_plain (thn qa λus s2' ⟨vs,H1,I2,r,e1,v,e2⟩=>?_)
 subst e1 e2
 obtain⟨u,rest,rfl,r1,r2⟩:∃u rest,us=u::rest/\RelV (.ref e) u/\rest.length<=sizeLine:=by
  cases r with
  | cons a b=>exact⟨_,_,rfl,a,by rw[<-b.length];exact (by decide:1<=sizeLine)⟩
 obtain rfl:u=Value.ref e:=r1
 obtain⟨bm,N,nm,q0,bs,hd',sn,sub,ab,col,dd,k0,k1,k2,k3,k5,mN,hC,hN,hni,T⟩:=sL I2.kIn Z.own
 obtain⟨⟨z,hz⟩,_⟩:=I2.hok e _ hH
 obtain⟨hh,g,dr,tk,os⟩:=s2'
 refine CG (us:=rest) T hC hz r2 λh' z' n1 n2 n3=>?_
 have I3:=I2.write (x:=e) (e:=e) (o:=kS C e) (h':=h') (t':=tk) (by rw[hH];exact True.intro) (.inl rfl) (λb u nb q=>n3 b u nb q) ⟨_,n2⟩ (xM n2)
 have same:upd H1 e (kS C e)=H1:=by
  funext b
  unfold upd
  split
  ·rename_i eb;rw[eb,hH]
  ·rfl
 rw[same] at I3
 exact⟨.non,H1,I3,rfl,q⟩
theorem KY {k:Nat} {c:Str} (Z:ExcI X.K C Cb f y) (hs:PE X (.Name self p1) (λσ H Q=>∃v,σ[i]? = some (some v)/\Q v H)) (hv:PE X (.Name c p2) (λσ H Q=>∃v,σ[k]? = some (some v)/\Q v H))
  (hsw:swapsWith (.Name c p2) (some (.Attribute (.Name self p1) y pos')) pos.line X.env=pure false:=by rfl) :
  PS X (.Assign [.Attribute (.Name self p1) y pos'] (.Name c p2) pos) (λD σ H=>∃e v,σ[i]? = some (some (.ref e))/\σ[k]? = some (some v)/\H e=some (kS C e)/\∀dx,H dx=none->dx≠e->D.nx σ (upd (upd H dx (.xd [(y,v)])) e (dC C e dx))):=by
 intro pins s σ H D I hh
 obtain⟨e,v,he,hk,hH,q⟩:=hh
 refine plainObj_wpAny_Assign_Attribute (thn (hv pins s σ H (λw H1=>w=v/\H1=H) I ⟨v,hk,rfl,rfl⟩) λu s1 ⟨w,H1,I1,ru,e1,e2⟩=>?_) hsw
 subst e1 e2
 refine thn (hs pins s1 σ H1 (λz H2=>z = .ref e/\H2=H1) I1 ⟨.ref e,he,rfl,rfl⟩) λov s2 ⟨z,H2,I2,rz,e3,e4⟩=>?_
 subst e3 e4
 obtain rfl:ov=Value.ref e:=rz
 obtain⟨⟨z,hz⟩,_⟩:=I2.hok e _ hH
 refine zR Z.a I2.kIn hz rfl rfl (λc z=>by cases z) λh' dx tk n0 n1 n2 n3 n4=>?_
 obtain⟨oD,es,ep,g1,g2,g3,g4,g5⟩:=id n3
 have g1':(s2.heap.push oD).get? dx=some oD:=by
  rw[n0]
  exact Heap.get?_push_at rfl (Heap.get?_some_iff.mp g1).2
 have I3:=I2.laid (a:=dx) (o:=.xd [(y,w)]) (h':=s2.heap.push oD) (t':=tk) (λb u z=>Heap.get?_push_of_some _ z) (by rw[n0];exact Nat.le_refl _) ⟨_,⟨oD,es,ep,g1',g2,g3,g4,g5⟩,λf=>by
  by_cases ef:f=y
  ·subst ef
   simp only[List.lookup,beq_self_eq_true,if_true]
   exact ru
  ·have:(f == y)=false:=by simpa using ef
   simp only[List.lookup,this,if_neg ef]
   exact True.intro⟩
 have hne:(upd H2 dx (.xd [(y,w)])) e=some (kS C e):=by rw[aE (Ne.symm n1)];exact hH
 have I4:=I3.write (x:=e) (e:=e) (o:=dC C e dx) (h':=h') (t':=tk) (by rw[hne];exact True.intro) (.inl rfl) (λb u nb z=>?_) ⟨_,n2⟩ (GJ n2)
 ·have fr:H2 dx=none:=I2.hok.fresh (by rw[n0];exact Nat.le_refl _)
  exact⟨σ,_,I4,q dx fr n1⟩
 ·by_cases eb:b=dx
  ·rw[eb] at z ⊢
   rw[g1'] at z;cases z;exact g1
  ·refine n4 b u nb ?_
   rw[Heap.get?_push_ne _ _ _ (by rw[<-n0];exact eb)] at z
   exact z
end
noncomputable def spI (C:Addr) (y:Str):Sp:=λvs H Q _=>∃e v,vs=[.ref e,v]/\H e=some (kS C e)/\∀dx,H dx=none->dx≠e->Q .non (upd (upd H dx (.xd [(y,v)])) e (dC C e dx))
structure FnI (P:Program) (w:World) (K:PySem.W.Frag) (mg:Str->Option Value) (base:Heap) (C f:Addr) (y:Str) (k:Nat):Prop where
 ex:∃fd,FnOk P w K mg base CX0 k f fd ["self",y] (spI C y)/\Binds K fd ["self",y] []
section
variable {X:Cx} {C Cb f:Addr} {y x:Str} {k:Nat} {p pos:Pos} {a:Expr} {ta:TE}
theorem qW {pins:List (Addr × Obj)} {σ:St} {H:Hp} {s:Shared} {Q:VK} {E':Value->Shared->Prop} {u:Value} {v:V} (Z:ExcI X.K C Cb f y) (G:FnI X.prog X.w X.K X.mg X.base C f y k) (hr:Room (k+1) X.A) (I:Inv X pins σ H s) (r:RelV v u)
  (h:∀e dx,s.heap.objs.size<=e->H e=none->H dx=none->dx≠e->Q (.ref e) (upd (upd H dx (.xd [(y,v)])) e (dC C e dx))):wpAny (model X.prog X.w) X.A (call (.ref C) [u]) (EP X pins σ Q) E' s:=by
 obtain⟨fd,F,hb⟩:=G.ex
 obtain⟨bm,N,nm,q0,bs,hd',sn,sub,ab,col,dd,k0,k1,k2,k3,k5,mN,hC,hN,hni,T⟩:=sL I.kIn Z.own
 obtain⟨oF,lf,tf⟩:=Option.map_eq_some_iff.mp (show Option.map (λo:Obj=>o.cls) (X.K.lookup f)=some (.type "function") from Z.fn)
 have fresh:∀b,s.heap.objs.size<=b->H b=none:=λb z=>I.hok.fresh z
 obtain⟨hp,g,dr,tk,os⟩:=s
 refine rF PySem.F.excBase_ValueError T hC hN hni (I.kIn _ _ lf) tf (by decide:1<=sizeLine) λh' e ge made=>?_
 obtain⟨t,he,_,_⟩:=made.there
 have I1:=I.laid (a:=e) (o:=kS C e) (h':=h') (t':=tk) made.keeps ge (xM he)
 have r2:Vals [.ref e,v] [.ref e,u]:=.cons rfl (.cons r .nil)
 refine wpAny_call (codeAny_mono (F.run (X.A.under (.builtin "type.__call__" ⟨.ref C::[u],[]⟩)) X.stack _ _ ⟨[.ref e,u],[]⟩ [.ref e,u] [.ref e,v] (λw H'=>w = .non/\∃dx,H dx=none/\dx≠e/\H'=upd (upd H dx (.xd [(y,v)])) e (dC C e dx)) E0 (hr.make C [u] []) (I1.env0.make C [u] []) (by
  have:=hb ⟨h',g,dr,tk,os⟩ [.ref e,u] I1.kIn rfl
  rwa [List.append_nil] at this) r2 ⟨e,v,rfl,aQ,λdx n ne=>⟨rfl,dx,?_,ne,?_⟩⟩) λr s' hq=>?_)
 ·rwa [aE ne] at n
 ·funext b
  unfold upd
  by_cases eb:b=e
  ·rw[if_pos eb,if_pos eb]
  ·rw[if_neg eb,if_neg eb,if_neg eb]
 ·cases r with
  | error v=>exact False.elim hq
  | ok fl =>
   cases fl with
   | ret w =>
    obtain⟨v',H',I2,rv,e1,dx,n,ne,e2⟩:=I1.after hq
    subst e1 e2
    exact⟨rv,.ref e,_,I2,rfl,h e dx ge (fresh e ge) n ne⟩
   | next=>exact False.elim hq
   | brk=>exact False.elim hq
   | cont=>exact False.elim hq
end
noncomputable def CXD (P:Program) (w:World) (C:Addr):CXT:=λouter H s E e s'=>∃a B a0 H' dx,e = .ref a/\FlyAt P w C outer H s a B a0 H' s'/\(Kd a (some dx) s'.heap/\H dx=none)/\E (.ref C) (some dx) H'
noncomputable def EX (C:Addr) (y:Str) (PP:Int->Prop):XK:=λv od H'=>v = .ref C/\∃c dx,PP c/\od=some dx/\H' dx=some (.xd [(y,.int c)])
section
variable {X:Cx} {pins:List (Addr × Obj)} {σ:St} {H H1:Hp} {s s1:Shared} {C e dx:Addr} {E:XK} {EE:Value->Shared->Prop}
noncomputable def mO (e:Addr) (H:Hp):Hp:=λb=>if b=e then none else H b
theorem oI {b:Addr} {u:HO} (h:mO e H b=some u):b≠e/\H b=some u:=by
 unfold mO at h
 split at h
 ·cases h
 ·rename_i n;exact⟨n,h⟩
theorem iL {b:Addr} (h:b≠e):mO e H b=H b:=if_neg h
theorem CH {P:Program} {w:World} {h:Heap} {φ:Heap->Prop} (ok:HOk P w H h) (he:H e=some (.ext φ)):HOk P w (mO e H) h:=λb u q=>by
 obtain⟨_,q'⟩:=oI q
 exact (ok b u q').stay (λ_ _ _ z=>z) (λc z=>by rw[iL];exact z;rintro rfl;rw[he] at z;cases z) λc xs z=>by rw[iL];exact z;rintro rfl;rw[he] at z;cases z
theorem uA (T:Top1 X) (I:Inv X pins σ H s) (sm:Same X.H₀ H) (hH:H e=some (dC C e dx)) (n0:X.H₀ e=none) (nd:X.H₀ dx=none) (n1:X.s₀.heap.get? e=none) (hE:E (.ref C) (some dx) (mO e H)) :
  wpAny (model X.prog X.w) X.A (leaving X.env (.ref e)) (λ_ s''=>CXD X.prog X.w C X.outer X.H₀ X.s₀ E (.ref e) s'') (λv s'=>EE v s') s:=by
 obtain⟨⟨t,he⟩,_⟩:=I.hok e _ hH
 have hfr:X.A.frames=some (X.env::X.outer):=by rw[<-T.stk];exact I.ok.frames
 have efr:e ∉ frs X.stack:=λz=>by rw[I.stkFree e z] at hH;cases hH
 have hl:s.heap.FunFrames (oR s.heap (e::frs X.stack)) (X.env::X.outer):=by rw[<-T.stk];exact yV I.stack λ_ z=>.tail _ z
 have kb:∀b o,(oR s.heap (e::frs X.stack)).get? b=some o->s.heap.get? b=some o:=λb o q=>(yJ q).1
 have ne:∀b o,X.s₀.heap.get? b=some o->b≠X.env.locals:=λb o q=>Nat.ne_of_lt (Nat.lt_of_lt_of_le (Heap.lt_size q) I.ok.above)
 have nx:∀b,b ∉ X.ex:=λb z=>by rw[T.ex] at z;cases z
 have kd:Kd e (some dx) s.heap:=⟨Heap.lt_size he,λo q=>by rw[he] at q;cases q;rfl⟩
 refine wpAny_mono (oC (E:=EE) (oE (.ref e) X.env) kd (wpAny_leaving_firstW (base:=oR s.heap (e::frs X.stack)) (a0:=.ref t) (Q:=λ_ s''=>Heap.LeftW (oR s.heap (e::frs X.stack)) (X.env::X.outer) e (.ref C) (.ref t) s.heap s''.heap/\s'' = { s with heap:=s''.heap }) hfr hl T.fr he kb (lZ (.inr (.head _))) rfl rfl rfl λh2 hL=>⟨hL,rfl⟩)) (λ_ s2 z=>?_) λ_ _ z=>z.1
 obtain⟨⟨⟨k1,⟨_,_,k2⟩,k3,k4⟩,e2⟩,kd2⟩:=z
 generalize s2.heap=h2 at *
 subst e2
 have nf:∀b∈frs X.outer,∀o,X.s₀.heap.get? b=some o->∀vs,o.data≠.fields vs:=λb hb o q vs z=>by
  obtain⟨_,o',q',d⟩:=I.ok.funs.mem hb
  rw[q] at q';cases q'
  exact d vs z
 have sl:∀b∈frs X.outer,∀o,X.s₀.heap.get? b=some o->∃sl,h2.get? b=some { o with slots:=sl }:=λb hb o q=>by
  obtain⟨l1,q1⟩:=I.base.slot b o q (I.ok.frf b hb) hb (nx b)
  exact k4 b { o with slots:=l1 } q1 λvs z=>nf b hb o q vs z
 have tr:∀b u,mO e H b=some u->∀o,s.heap.get? b=some o->(oR s.heap (e::frs X.stack)).get? b=some o:=λb u q o z=>oS z λhb=>by
  obtain⟨n,q⟩:=oI q
  rcases List.mem_cons.mp hb with hb | hb
  ·exact n hb
  ·rw[I.stkFree b hb] at q;cases q
 have hk:=CH I.hok hH
 refine⟨e,oR s.heap (e::frs X.stack),.ref t,mO e H,dx,rfl,⟨I.os,I.bare,λb o q=>?_,λb o q n=>?_,λb u q o z=>?_,λb o q n hb=>?_,λb o q=>?_,sl,λb hb=>⟨I.ok.frf b hb,nf b hb⟩,?_,k1,lZ (.inr (.head _)),k2,k3⟩,⟨kd2,nd⟩,hE⟩
 ·rw[iL]
  ·exact sm b o q
  ·rintro rfl;rw[n0] at q;cases q
 ·by_cases eb:b=e
  ·rw[eb];unfold mO;rw[if_pos rfl]
  ·rw[iL eb];exact I.base.free b o q n (nx b)
 ·obtain⟨o1,z1⟩:=mB (hk b u q)
  have z2:=tr b u q o1 z1
  have z3:h2.get? b=some o1:=k1 b o1 z2
  have z4:h2.get? b=some o:=z
  rw[z3] at z4;cases z4
  exact z2
 ·refine oS (I.base.keep b o q n hb (nx b)) λz=>?_
  rcases List.mem_cons.mp z with z | z
  ·rw[z,n1] at q;cases q
  rcases T.sub.mp z with z | z
  ·exact ne b o q z
  ·exact hb z
 ·obtain⟨o1,q1⟩:=I.base.there b o q (nx b)
  by_cases hb:b∈e::frs X.stack
  ·rcases List.mem_cons.mp hb with z | z
   ·rw[z,n1] at q;cases q
   rcases T.sub.mp z with z | z
   ·exact (ne b o q z).elim
   ·obtain⟨l,z2⟩:=sl b z o q;exact⟨_,z2⟩
  ·exact⟨o1,k1 b o1 (oS q1 hb)⟩
 ·exact CI hk tr k1
theorem zZ (T:Top1 X) (I:Inv X pins σ H s) (sm:Same X.H₀ H) {v:Value} {s':Shared} (h:CXD X.prog X.w C X.stack H s E v s') :
  wpAny (model X.prog X.w) X.A (leaving X.env v) (λ_ s''=>CXD X.prog X.w C X.outer X.H₀ X.s₀ E v s'') EE s':=by
 obtain⟨a,B,a0,H',dx,rfl,F,⟨kd,nd⟩,hE⟩:=h
 have hfr:X.A.frames=some (X.env::X.outer):=by rw[<-T.stk];exact I.ok.frames
 have nx:∀b,b ∉ X.ex:=λb z=>by rw[T.ex] at z;cases z
 have ne:∀b o,X.s₀.heap.get? b=some o->b≠X.env.locals:=λb o q=>Nat.ne_of_lt (Nat.lt_of_lt_of_le (Heap.lt_size q) I.ok.above)
 refine wpAny_mono (oC (E:=EE) (oE (.ref a) X.env) kd (wpAny_leaves_onW (base:=B) (a0:=a0) (Q:=λ_ s''=>(Heap.FlyingW B X.outer a (.ref C) a0 s''.heap/\s'.heap.UpToSlots s''.heap)/\s'' = { s' with heap:=s''.heap }) hfr T.fr (by rw[<-T.stk];exact F.fly) λh2 fl up=>⟨⟨fl,up⟩,rfl⟩)) (λ_ s2 z=>?_) λ_ _ z=>z.1
 obtain⟨⟨⟨fl,up⟩,e2⟩,kd2⟩:=z
 generalize s2.heap=h2 at *
 subst e2
 obtain⟨un,ok⟩:=F.step fl.1 up
 have nf:∀b∈frs X.outer,∀o,X.s₀.heap.get? b=some o->∀vs,o.data≠.fields vs:=λb hb o q vs z=>by
  obtain⟨_,o',q',d⟩:=I.ok.funs.mem hb
  rw[q] at q';cases q'
  exact d vs z
 refine⟨a,B,a0,H',dx,rfl,⟨F.os.trans I.os,F.bare,sm.trans F.same,λb o q n=>?_,λb u q o z=>?_,λb o q n hb=>?_,λb o q=>?_,λb hb o q=>?_,λb hb=>⟨I.ok.frf b hb,nf b hb⟩,ok,fl⟩,⟨kd2,sm.free nd⟩,hE⟩
 ·obtain⟨o1,q1⟩:=I.base.there b o q (nx b)
  exact F.free b o1 q1 (I.base.free b o q n (nx b))
 ·obtain⟨o1,z1⟩:=mB (F.hok b u q)
  have z2:=F.bT b u q o1 z1
  have z3:h2.get? b=some o1:=fl.1 b o1 z2
  have z4:h2.get? b=some o:=z
  rw[z3] at z4;cases z4
  exact z2
 ·refine F.bU b o (I.base.keep b o q n hb (nx b)) (I.base.free b o q n (nx b)) λz=>?_
  rcases T.sub.mp z with z | z
  ·exact ne b o q z
  ·exact hb z
 ·obtain⟨o1,q1⟩:=I.base.there b o q (nx b)
  exact un.there b o1 q1 (by simp)
 ·obtain⟨l1,q1⟩:=I.base.slot b o q (I.ok.frf b hb) hb (nx b)
  obtain⟨l2,q2⟩:=un.slot b _ q1 (I.base.free b o q (I.ok.frf b hb) (nx b)) (T.sub.mpr (.inr hb)) (by simp)
  exact⟨l2,q2⟩
end
section
variable {M:Model} {A:Around} {E:Value->Shared->Prop} {env:Env} {nm q:Str} {C N:Addr} {bs bm:List Value} {hd:Bool} {sn:List Str} {sub:List Value} {ab:Bool} {col:Option Bool} {dd:Option Addr} {k0 k1 k2 k3 k5:Option Value} {nI:String}
theorem wV {s:Shared} {x:Sem Value} {Q:Flow->Shared->Prop} (hb:bm.contains (.type "BaseException")=true) (hh:A.handled=none)
  (h:wpAny M A x (λv s1=>∃e z dx,v = .ref e/\s1.heap.get? C=some (excClassObj nm q C N bs bm hd sn sub ab col dd k0 k1 k2 k3 k5 nI)/\s1.heap.get? e=some { dD C z with dict:=some dx }/\E (.ref e) s1) E s) :
  wpAny M A (raiseStmt env (some x) none) Q E s:=by
 have isB:(Value.ref C::bm).contains (.type "BaseException")=true:=by rw[List.contains_cons,hb,Bool.or_true]
 unfold raiseStmt
 refine wpAny_bind (wpAny_mono h (λv s1 h1=>?_) λ_ _ z=>z)
 obtain⟨e,z,dx,rfl,hC,he,hE⟩:=h1
 obtain⟨hp,g,d,tk,os⟩:=s1
 repeat (first | with_reducible refine wpAny_loadPart_at he ?_ | with_reducible refine wpAny_loadPart_at hC ?_ | (with_reducible refine wpAny_isSubtype_exc hC ?_;rw[isB]) | wp_step)
 exact wpAny_raiseNew_none hh hE
end
structure XAcc (X:Cx) (C:Addr) (y:Str) (PP:Int->Prop):Prop where
 here:∀(pins:List (Addr × Obj)) (σ:St) (H:Hp) (s:Shared) (e dx:Addr) (c:Int),Inv X pins σ H s->Same X.H₀ H->H e=some (dC C e dx)->H dx=some (.xd [(y,.int c)])->dx≠e->X.H₀ e=none->X.H₀ dx=none->X.s₀.heap.get? e=none->PP c->X.xe (.ref e) s
 on:∀(pins:List (Addr × Obj)) (σ:St) (H:Hp) (s:Shared) (v:Value) (s':Shared),Inv X pins σ H s->Same X.H₀ H->CXD X.prog X.w C X.stack H s (EX C y PP) v s'->X.xe v s'
theorem CXD.mono {P:Program} {w:World} {C:Addr} {outer:List Env} {H:Hp} {s s':Shared} {E E':XK} {v:Value} (h:CXD P w C outer H s E v s') (k:∀u d H',E u d H'->E' u d H'):CXD P w C outer H s E' v s':=by
 obtain⟨a,B,a0,H',dx,e1,F,kd,hE⟩:=h
 exact⟨a,B,a0,H',dx,e1,F,kd,k _ _ _ hE⟩
theorem IJ {P:Program} {w:World} {K:PySem.W.Frag} {mg:Str->Option Value} {base:Heap} {N:List Str} {qual:Str} {scope:Scope} {f C:Addr} {cd:Value} {A:Around} {outer:List Env} {s:Shared} {H:Hp} {E:XK} {y:Str} {PP:Int->Prop}
  (k:∀c dx H',PP c->H' dx=some (.xd [(y,.int c)])->E (.ref C) (some dx) H'):XAcc (bX (CXD P w C) P w K mg base N qual scope f cd A outer s H E) C y PP:=by
 refine⟨λpins σ H1 s1 e dx c I sm h1 h2 ne n0 nd n1 hp=>?_,λpins σ H1 s1 v s' I sm h=>?_⟩
 ·exact uA ⟨rfl,rfl,rfl⟩ I sm h1 n0 nd n1 (k c dx _ hp (by rw[iL ne];exact h2))
 ·exact zZ ⟨rfl,rfl,rfl⟩ I sm (h.mono λu d H' ⟨e1,c,dx,hp,e2,h3⟩=>by subst e1 e2;exact k c dx H' hp h3)
noncomputable def wR (PP:Int->Prop) (te:RE):RS:=λ_ ρ=>te ρ λd=>match d with
 | .int c=>PP c
 | _=>False
section
variable {X:Cx} {C Cb f:Addr} {y x:Str} {k:Nat} {p np cpos pos:Pos} {a:Expr} {te:RE} {PP:Int->Prop}
theorem BY (acc:XAcc X C y PP) (Z:ExcI X.K C Cb f y) (G:FnI X.prog X.w X.K X.mg X.base C f y k) (hr:Room (k+1) X.A) (hk:PySem.W.keepIn X.K (.ref C)=true) (hc:X.calm=true) (hex:X.ex=[]) (hg:Gl X x) (hm:X.mg x=some (.ref C)) (ha:DE X a te)
  (hd:(x == ("__debug__":Str))=false:=by decide) (he:starEach [a] X.env=[(false,eval a X.env)]:=by rfl) (hn:starEach [] X.env=[]:=by rfl):DS X (.Raise (some (.Call (.Name x np) [a] [] cpos)) none pos) (wR PP te):=by
 intro pins s σ H De I hh
 refine dF hh λρ E so q _ _ _ _=>?_
 obtain⟨bm,N,nm,q0,bs,hd',sn,sub,ab,col,dd,k0,k1,k2,k3,k5,mN,hC,hN,hni,T⟩:=sL I.mod.kin Z.own
 have hB:bm.contains (.type "BaseException")=true:=T.hasType (X:="BaseException") rfl
 rw[arm_exec_Raise]
 refine wpAny_bind (wpAny_standAt (wV (C:=C) (nm:=nm) (q:=q0) (N:=N) (bs:=bs) (bm:=bm) (hd:=hd') (sn:=sn) (sub:=sub) (ab:=ab) (col:=col) (dd:=dd) (k0:=k0) (k1:=k1) (k2:=k2) (k3:=k3) (k5:=k5) (nI:="ValueError.__new__") hB (I.ok.hd hc) ?_))
 refine wpAny_bind (wpAny_mono (Q:=λv s1=>∃e z dx,v = .ref e/\s1.heap.get? C=some (excClassObj nm q0 C N bs bm hd' sn sub ab col dd k0 k1 k2 k3 k5 "ValueError.__new__")/\s1.heap.get? e=some { dD C z with dict:=some dx }/\X.xe (.ref e) s1) ?_ (λv s3 h3=>wpAny_bind (wpAny_standAt (wpAny_pure h3))) λ_ _ z=>z)
 refine wpAny_Call_Name_kw (fR I hg hm ?_ hd)
 refine PySem.W.callWith_K (h₀:=X.base) I.ok.mod.kin hk (thn (eL ha he hn cpos pins s σ H (λvs H1=>Same H H1/\∃c,vs=[.int c]/\PP c) I ⟨ρ,_,so,q,λd v H' hd' sm rr=>?_⟩) λus s1 ⟨vs,H1,I1,r,sm,c,e1,hp⟩=>⟨I1.kIn,?_⟩) (by rw[he,hn]) (by rw[hn];rfl)
 ·cases d with
  | int c=>rw[rr.int_inv];exact⟨sm,c,rfl,hd'⟩
  | _=>exact hd'.elim
 subst e1
 obtain⟨u,rfl,ru⟩:=kB r
 refine thn (qW Z G hr I1 ru (Q:=λv H'=>∃e dx,v = .ref e/\(s1.heap.objs.size<=e/\H1 e=none/\H1 dx=none/\dx≠e)/\H'=upd (upd H1 dx (.xd [(y,.int c)])) e (dC C e dx)) λe dx ge n1 n2 n3=>⟨e,dx,rfl,⟨ge,n1,n2,n3⟩,rfl⟩) λv s2 ⟨w,H2,I2,rw',e,dx,e1,⟨ge,n1,n2,n3⟩,e2⟩=>?_
 subst e1 e2
 obtain rfl:v=Value.ref e:=rw'
 have h1:upd (upd H1 dx (.xd [(y,.int c)])) e (dC C e dx) e=some (dC C e dx):=aQ
 have h2:upd (upd H1 dx (.xd [(y,.int c)])) e (dC C e dx) dx=some (.xd [(y,.int c)]):=by rw[aE n3,aQ]
 have sm0:Same X.H₀ H1:=so.same.trans sm
 have sm2:Same X.H₀ (upd (upd H1 dx (.xd [(y,.int c)])) e (dC C e dx)):=λb o z=>by
  have zb:=sm0 b o z
  rw[aE (aH zb n1),aE (aH zb n2)]
  exact zb
 obtain⟨⟨z,hz⟩,_⟩:=I2.hok e _ h1
 refine⟨e,z,dx,rfl,I2.bk _ _ hC,hz,acc.here pins σ _ s2 e dx c I2 sm2 h1 h2 n3 (sm0.free n1) (sm0.free n2) ?_ hp⟩
 cases q1:X.s₀.heap.get? e with
 | none=>rfl
 | some o =>
  obtain⟨o',q2⟩:=I1.base.there e o q1 (by rw[hex];simp)
  exact absurd (Heap.lt_size q2) (Nat.not_lt.mpr ge)
end
noncomputable abbrev FDX:=List D->(D->Prop)->(Int->Prop)->Prop
noncomputable def spX (K:PySem.W.Frag) (C:Addr) (y:Str) (F:FDX):Sp:=λvs H Q E=>∃ds P PP,Reps K H ds vs/\F ds P PP/\(∀d v H',P d->Same H H'->Rep K H' d v->Q v H')/\∀c dx H',PP c->H' dx=some (.xd [(y,.int c)])->E (.ref C) (some dx) H'
structure FnAtX (P:Program) (w:World) (K:PySem.W.Frag) (mg:Str->Option Value) (base:Heap) (C:Addr) (y:Str) (x:Str) (ps:List Str) (k:Nat) (F:FDX):Prop where
 ex:∃f fd,FnOk P w K mg base (CXD P w C) k f fd ps (spX K C y F)/\Binds K fd ps []/\PySem.W.keepIn K (.ref f)=true/\mg x=some (.ref f)
section
variable {P:Program} {w:World} {K:PySem.W.Frag} {mg:Str->Option Value} {base:Heap} {C:Addr} {y x:Str} {ps:List Str} {k:Nat}
theorem DefAt.okX {st:Stmt} {N:List Str} {F:FDX} {t:(Int->Prop)->RS} (Z:DefAt K mg x st ps) (Sc:FnScope N ps (aA st))
  (hbody:∀{f:Addr} (cdv:Value) (A:Around) (outer:List Env) (s:Shared) (H:Hp) (E:XK) (PP:Int->Prop),Room k (A.deeper (envOfC x (aA st) s.heap.objs.size f cdv))->XAcc (bX (CXD P w C) P w K mg base N x (aA st) f cdv A outer s H E) C y PP ->
   DSs (bX (CXD P w C) P w K mg base N x (aA st) f cdv A outer s H E) (aL st) (t PP))
  (len:∀ds Q PP,F ds Q PP->ds.length=ps.length) (pure:∀ds Q PP,F ds Q PP->t PP { nx:=λ_=>Q .non,rt:=Q } (aN N ds)):FnAtX P w K mg base C y x ps (k+1) F:=by
 obtain⟨f,fd,a,b,c⟩:=Z.ex
 obtain⟨oc,od,kV,doc,pm,an,cdv,ct,osl,rfl,lk,hcd⟩:=a.ex
 refine⟨f,_,IT lk hcd Sc (λvs H Q E ⟨ds,P',PP,r,h,_⟩=>by rw[<-r.length];exact len ds P' PP h) (λA outer s H vs Q E hr ⟨ds,P',PP,r,h,h1,h2⟩=>?_),.all c,a.kp,b⟩
 refine⟨_,hbody cdv A outer s H E PP hr (IJ h2),?_⟩
 refine⟨aN N ds,_,pG (X:=bX (CXD P w C) P w K mg base N x (aA st) f cdv A outer s H E) r,pure ds P' PP h,λρ' σ' H' q kp so=>?_,λd v H' q kp sm rr=>h1 d v H' q sm rr,λ_ _ _ z=>z.elim,λ_ _ _ z=>z.elim⟩
 exact h1 .non .non H' q so.same .non
theorem FnAtX.norm {F:FDX} (G:FnAtX P w K mg base C y x ps k F):FnAt P w K mg base x ps k (λds Q=>F ds Q λ_=>False):=by
 obtain⟨f,fd,G,hb,hk,hm⟩:=G.ex
 refine⟨f,fd,⟨λvs H Q E ⟨ds,P',r,h,_⟩=>G.len vs H (λ_ _=>True) (λ_ _ _=>True) ⟨ds,P',_,r,h,λ_ _ _ _ _ _=>trivial,λ_ _ _ _ _=>trivial⟩,λA outer s H args us vs Q E hr e0 hb' r hs=>?_⟩,hb,hk,hm⟩
 obtain⟨ds,P',r',h,h1⟩:=hs
 refine codeAny_mono (G.run A outer s H args us vs Q (λ_ _ _=>False) hr e0 hb' r ⟨ds,P',_,r',h,h1,λ_ _ _ z=>z.elim⟩) λres s' hq=>?_
 cases res with
 | error v=>obtain⟨_,_,_,_,_,_,_,_,z⟩:=hq;exact z.elim
 | ok fl=>cases fl <;> exact hq
end
noncomputable def pD (F:FDX) (PP:Int->Prop) (t:RA):RE:=λρ Q=>t ρ λds=>F ds Q PP
section
variable {X:Cx} {C:Addr} {y x:Str} {k:Nat} {ps:List Str} {F:FDX} {PP:Int->Prop} {p pos:Pos} {e:Expr} {es:List Expr} {t:RA}
theorem tL (acc:XAcc X C y PP) (G:FnAtX X.prog X.w X.K X.mg X.base C y x ps k F) (hr:Room k X.A) (ha:DA X (e::es) t) (hg:Gl X x:=by rfl)
  (hdb:(x == ("__debug__":Str))=false:=by decide) (he:starEach (e::es) X.env=(false,eval e X.env)::starEach es X.env:=by rfl) (hpl:(backTo pos (starEach es X.env)).any (·.1)=false:=by rfl) :
  DE X (.Call (.Name x p) (e::es) [] pos) (pD F PP t):=by
 obtain⟨f,fd,G,hb,hk,hm⟩:=G.ex
 intro pins s σ H Q I hh
 obtain⟨ρ,P,so,q,kq⟩:=hh
 refine wpAny_Call_Name_kw (fR I hg hm ?_ hdb)
 refine PySem.W.callWith_K (h₀:=X.base) I.ok.mod.kin hk (thn (ha pos pins s σ H (λvs H1=>Same H H1/\∃ds,Reps X.K H1 ds vs/\F ds P PP) I ⟨ρ,_,so,q,λds vs H1 q1 s1 r=>⟨s1,ds,r,q1⟩⟩) λus s1 ⟨vs,H1,I1,r,sm,ds,rr,q1⟩=>⟨I1.kIn,?_⟩) he hpl
 have sp:spX X.K C y F vs H1 Q (EX C y PP):=⟨ds,P,PP,rr,q1,λd v H' hd s' r'=>kq d v H' hd (sm.trans s') r',λc dx H' hp h3=>⟨rfl,c,dx,hp,rfl,h3⟩⟩
 have hl:us.length=ps.length:=by rw[<-r.length];exact G.len vs H1 _ _ sp
 have bb:=hb s1 us I1.kIn (by rw[List.append_nil];exact hl)
 rw[List.append_nil] at bb
 refine wpAny_call (codeAny_mono (G.run X.A X.stack s1 H1 ⟨us,[]⟩ us vs Q (EX C y PP) hr I1.env0 bb r sp) λr' s' hq=>?_)
 cases r' with
 | error v=>exact acc.on pins σ H1 s1 v s' I1 (so.same.trans sm) hq
 | ok fl =>
  cases fl with
  | ret u=>exact I1.after hq
  | next=>exact False.elim hq
  | brk=>exact False.elim hq
  | cont=>exact False.elim hq
end
theorem zJ {P:Program} {w:World} {H:Hp} {h:Heap} {C e dx:Addr} {oe:Obj} {vs:Array Value} (he:h.get? e=some oe) (hc:oe.cls = .ref C) (hv:oe.data = .fields vs) (hd:oe.dict=some dx):ObjOk P w H h e (dW C e dx) :=
 ⟨⟨oe,vs,he,hc,hv,hd⟩,⟨_,he⟩,λh1 h2 ⟨oe,vs,q,z⟩ k=>⟨oe,vs,k _ q,z⟩⟩
section
variable {X:Cx} {pins:List (Addr × Obj)} {σ:St} {H:Hp} {s:Shared} {a:Addr} {φ:Heap->Prop}
theorem Inv.track (I:Inv X pins σ H s) (ha:H a=none) (n0:X.s₀.heap.get? a=none) (nl:a≠X.env.locals) (nc:∀x c,X.env.cells.lookup x=some c->c≠a) (np:∀p∈X.pn++pins,p.1≠a) (ok:ObjOk X.prog X.w (upd H a (.ext φ)) s.heap a (.ext φ)):Inv X pins σ (upd H a (.ext φ)) s:=by
 have ne:∀b u,H b=some u->upd H a (.ext φ) b=some u:=λb u q=>by rw[aE (aH q ha)];exact q
 refine⟨I.ok,I.os,I.bare,⟨I.base.keep,I.base.slot,λb o q n hx=>?_,I.base.there,λb xs q=>ne _ _ (I.base.tups b xs q),λb o u q=>ne _ _ (I.base.frzs b o u q),λb ps q=>?_⟩,I.loc,I.cell,?_,λx c q=>?_,λp hp=>?_,λb u q=>?_,I.len⟩
 ·rw[aE (by rintro rfl;rw[n0] at q;cases q)];exact I.base.free b o q n hx
 ·obtain⟨m,z⟩:=I.base.tbls b ps q;exact⟨m,ne _ _ z⟩
 ·rw[aE (Ne.symm nl)];exact I.free
 ·rw[aE (nc x c q)];exact I.freeC x c q
 ·obtain⟨z1,z2,z3⟩:=I.pin p hp
  exact⟨z1,by rw[aE (np p hp)];exact z2,z3⟩
 ·by_cases eb:b=a
  ·subst eb
   rw[aQ] at q;cases q;exact ok
  ·rw[aE eb] at q
   exact (I.hok b u q).stay (λ_ _ _ z=>z) (λc z=>ne _ _ z) λc xs z=>ne _ _ z
end
section
variable {X:Cx} {C:Addr} {y:Str} {k:Nat} {ps:List Str} {F:FDX} {PP:Int->Prop} {x:Str} {p pos:Pos} {e:Expr} {es:List Expr} {t:RA}
theorem zF (G:FnAtX X.prog X.w X.K X.mg X.base C y x ps k F) (hr:Room k X.A) (ha:DA X.nox (e::es) t) (hg:Gl X x) {pins:List (Addr × Obj)} {s:Shared} {σ:St} {H:Hp} {ρ:En} {XE:Value->Shared->Prop} {Q:Value->Shared->Prop}
  (I:Inv X pins σ H s) (st:StOk X ρ σ H) (h:t ρ λds=>F ds (λ_=>False) PP) (hx:∀H1 s1 v s',Inv X pins σ H1 s1->StOk X ρ σ H1->Same H H1->CXD X.prog X.w C X.stack H1 s1 (EX C y PP) v s'->XE v s')
  (hdb:(x == ("__debug__":Str))=false:=by decide) (he:starEach (e::es) X.env=(false,eval e X.env)::starEach es X.env:=by rfl) (hpl:(backTo pos (starEach es X.env)).any (·.1)=false:=by rfl) :
  wpAny (model X.prog X.w) X.A (eval (.Call (.Name x p) (e::es) [] pos) X.env) Q XE s:=by
 obtain⟨f,fd,G,hb,hk,hm⟩:=G.ex
 have st':StOk X.nox ρ σ H:=⟨st.len,st.same,st.rel,st.sep⟩
 refine wpAny_Call_Name_kw (fR I hg hm ?_ hdb)
 refine PySem.W.callWith_K (h₀:=X.base) I.ok.mod.kin hk (wpAny_mono (ha pos pins s σ H (λvs H1=>Same H H1/\∃ds,Reps X.K H1 ds vs/\F ds (λ_=>False) PP) (I.wish _) ⟨ρ,_,st',h,λds vs H1 q s1 r=>⟨s1,ds,r,q⟩⟩) (λus s1 ⟨vs,H1,I1,r,sm,ds,rr,q⟩=>⟨I1.unwish.kIn,?_⟩) λ_ _ z=>z.elim) he hpl
 have I1:=I1.unwish
 have sp:spX X.K C y F vs H1 (λ_ _=>False) (EX C y PP):=⟨ds,_,PP,rr,q,λ_ _ _ z _ _=>z,λc dx H' hp h3=>⟨rfl,c,dx,hp,rfl,h3⟩⟩
 have hl:us.length=ps.length:=by rw[<-r.length];exact G.len vs H1 _ _ sp
 have bb:=hb s1 us I1.kIn (by rw[List.append_nil];exact hl)
 rw[List.append_nil] at bb
 refine wpAny_call (codeAny_mono (G.run X.A X.stack s1 H1 ⟨us,[]⟩ us vs (λ_ _=>False) (EX C y PP) hr I1.env0 bb r sp) λr' s' hq=>?_)
 cases r' with
 | error v=>exact hx H1 s1 v s' I1 (st.ext sm) sm hq
 | ok fl =>
  cases fl with
  | ret u=>obtain⟨_,_,_,_,_,_,_,z⟩:=hq;exact z.elim
  | next=>exact False.elim hq
  | brk=>exact False.elim hq
  | cont=>exact False.elim hq
end
structure ExcU (K:PySem.W.Frag) (mg:Str->Option Value) (C:Addr):Prop where
 cut:∃c,mg "CutError" = some (.ref c)/\PySem.W.exmOne K (.ref C) (.ref c)=some true
noncomputable def DF (X:Cx) (C:Addr) (y:Str) (t:RA) (F:FDX):TS:=λDe σ H=>∃ρ PP,StOk X ρ σ H/\t (ρ.set 1 (some (.d .non))) (λds=>F ds (λ_=>False) PP) /\
 ∀c a dx H',PP c->Same H H'->H a=none->H dx=none->a≠dx->H' a=some (dW C a dx)->H' dx=some (.xd [(y,.int c)])->De.rt (.ref a) H'
section
variable {X:Cx} {C:Addr} {k:Nat} {ps:List Str} {F:FDX} {g y vn:Str} {ea:Expr} {es:List Expr} {t:RA} {q1 q2 q3 q4 q5 q6 q7 q8 q9 q10 q11 q12 q13 q14:Pos} {j1:Nat}
theorem wK (T:ExcU X.K X.mg C) (T1:Top1 X) (nd:X.N.Nodup) (n1:X.N[1]? = some vn) (n2:X.N[2]? = some ("e":Str)) (l1:X.env.scope.names.lookup vn=some .local) (l2:X.env.scope.names.lookup ("e":Str)=some .local) (cl:∀x c,X.env.cells.lookup x=some c->False)
  (G:FnAtX X.prog X.w X.K X.mg X.base C y g ps k F) (hr:Room k X.A) (ha:DA X.nox (ea::es) t) (hg:Gl X g) (gC:Gl X "CutError")
  (hdb:(g == ("__debug__":Str))=false) (he:starEach (ea::es) X.env=(false,eval ea X.env)::starEach es X.env) (hpl:(backTo q5 (starEach es X.env)).any (·.1)=false)
  (hs1:swapsWith (.Constant .none j1 q2) (some (.Name vn q1)) q3.line X.env=pure false) (hs2:swapsWith (.Call (.Name g q4) (ea::es) [] q5) none q6.line X.env=pure false)
  (hs3:swapsWith (.Name "e" q9) (some (.Name vn q8)) q10.line X.env=pure false) (hpn:X.pn=[]) (hd1:(vn == ("__debug__":Str))=false) (hd2:(vn == ("__classdict__":Str))=false) :
  PSs X.nox [.Assign [.Name vn q1] (.Constant .none j1 q2) q3,
   .Try [.Expr (.Call (.Name g q4) (ea::es) [] q5) q6] [.ExceptHandler (some (.Name "CutError" q7)) (some "e") [.Assign [.Name vn q8] (.Name "e" q9) q10] q11] [] [] q12,
   .Return (some (.Name vn q13)) q14] (DF X.nox C y t F):=by
 intro pins s σ H De I ⟨ρ,PP,st,hF,krt⟩
 have lt2:2<σ.length:=by rw[I.len];exact (List.getElem?_eq_some_iff.mp n2).1
 refine wpAny_execs_cons (thn (mD (X:=X.nox) (i:=1) nd n1 (Or.inl l1) DV hs1 (Or.inr l1) pins s σ H { nx:=λσ' H'=>σ'=σ.set 1 (some .non)/\H'=H,rt:=λ_ _=>False } I ⟨rfl,rfl⟩) λf s1 q=>?_)
 cases f with
 | ret u=>obtain⟨_,_,_,_,_,z⟩:=q;exact z.elim
 | brk=>obtain⟨_,_,_,z⟩:=q;exact z.elim
 | cont=>obtain⟨_,_,_,z⟩:=q;exact z.elim
 | next =>
  obtain⟨_,_,I1,e1,e2⟩:=q
  rw[e1,e2] at I1
  have sa:StOk X.nox (ρ.set 1 (some (.d .non))) (σ.set 1 (some .non)) H:=st.set_d .non
  refine wpAny_execs_cons (wpAny_Try_except (wpAny_execs_cons (wpAny_Expr_any (zF (X:=X.nox) G hr ha hg I1 sa hF (λH1 s2 v s3 I2 sb sm fl=>?_) hdb he hpl) I1.quiet hs2)))
  obtain⟨a,B,a0,H3,dx,rfl,Fl,⟨kd,ndx⟩,⟨_,c,dx',hp,edx,hdx⟩⟩:=fl
  cases edx
  have hfr:X.A.frames=some (X.env::X.outer):=by rw[<-T1.stk];exact I.ok.frames
  refine wpAny_mono (oC (E:=λ_ _=>False) (yA (.ref a) X.env) kd (wpAny_looks_onW (base:=B) (a0:=a0) (Q:=λ_ s'=>(Heap.HeldW B (X.env::X.outer) a (.ref C) a0 X.env.locals s'.heap/\s3.heap.UpToSlots s'.heap)/\s' = { s3 with heap:=s'.heap }) hfr T1.fr (by rw[<-T1.stk];exact Fl.fly) λh4 hd4 up4=>⟨⟨hd4,up4⟩,rfl⟩)) (λ_ s4 z=>?_) λ_ _ z=>z.1.elim
  obtain⟨⟨⟨hd4,up4⟩,e4⟩,kd4⟩:=z
  refine wpAny_mono (oC (E:=λ_ _=>False) (lW (.ref a)) kd4 (wpAny_landsW (Q:=λ_ s'=>(Heap.FlyingW B (X.env::X.outer) a (.ref C) a0 s'.heap/\s4.heap.UpToSlots s'.heap)/\s' = { s4 with heap:=s'.heap }) hd4 λh5 fl5 up5=>⟨⟨fl5,up5⟩,rfl⟩)) (λ_ s5 z=>?_) λ_ _ z=>z.1.elim
  obtain⟨⟨⟨fl5,up5⟩,e5⟩,kd5⟩:=z
  generalize s4.heap=h4 at *
  subst e4
  generalize s5.heap=h5 at *
  subst e5
  obtain⟨un5,ok5⟩:=Fl.step (by exact fl5.1) (up4.trans up5)
  have I5:Inv X.nox pins (σ.set 1 (some .non)) H3 { s3 with heap:=h5 }:=Inv.call' (ch:=[]) I2 Fl.os (by rw[<-T1.stk] at *;exact un5) ok5 Fl.bare (λb z=>absurd z (by simp))
  obtain⟨cc,mc,xm⟩:=T.cut
  refine wpAny_handleBy_cons (codeAny_handlers_test ?_) (by intro q;cases q)
  refine fR (X:=nX X.nox (.ref a)) (tW I5 _) gC mc ?_
  obtain⟨o5,g5,c5⟩:=fl5.there
  have LT:PySem.W.Looks (model X.prog X.w) h5 (typeOf (.ref a)) (.ref C):=c5 ▸ (PySem.W.Looks.ld g5).andThen .now
  refine (PySem.W.exm_one (e:=a) I5.kIn LT xm).here ?_
  refine codeAny_handlers_suite_as ?_
  refine wpAny_mono (oC (E:=λ_ _=>False) (lW (.ref a)) kd5 (lands_againW (Q:=λ_ s'=>(Heap.FlyingW B (X.env::X.outer) a (.ref C) a0 s'.heap/\h5.UpToSlots s'.heap)/\s' = { s3 with heap:=s'.heap }) fl5 λh6 fl6 up6=>⟨⟨fl6,up6⟩,rfl⟩)) (λ_ s6 z=>?_) λ_ _ z=>z.1.elim
  obtain⟨⟨⟨fl6,up6⟩,e6⟩,kd6⟩:=z
  generalize s6.heap=h6 at *
  subst e6
  obtain⟨un6,ok6⟩:=Fl.step (by exact fl6.1) ((up4.trans up5).trans up6)
  have I6:Inv X.nox pins (σ.set 1 (some .non)) H3 { s3 with heap:=h6 }:=Inv.call' (ch:=[]) I2 Fl.os (by rw[<-T1.stk] at *;exact un6) ok6 Fl.bare (λb z=>absurd z (by simp))
  obtain⟨oe,vs6,ge,ce,de⟩:∃oe vs,h6.get? a=some oe/\oe.cls = .ref C/\oe.data = .fields vs:=by
   obtain⟨_,_,_,oe,vs,_,_,_,e1,e2,e3,_⟩:=fl6
   exact⟨oe,vs,e1,e2.1,e3⟩
  have dd6:oe.dict=some dx:=kd6.2 oe ge
  have nfr:a ∉ frs X.stack:=Fl.nofr
  have a3:H3 a=none:=Fl.new
  have a1:H1 a=none:=Fl.same.free a3
  have a2:s2.heap.get? a=none:=by
   cases z:s2.heap.get? a with
   | none=>rfl
   | some o =>
    have:=Fl.bU a o z a1 nfr
    rw[Fl.fly.2.1] at this;cases this
  have a0':X.s₀.heap.get? a=none:=by
   cases z:X.s₀.heap.get? a with
   | none=>rfl
   | some o =>
    obtain⟨o',z'⟩:=I2.base.there a o z (by rw[show X.nox.ex=X.ex from rfl,T1.ex];simp)
    rw[a2] at z';cases z'
  have I7:Inv X.nox pins (σ.set 1 (some .non)) (upd H3 a (dW C a dx)) { s3 with heap:=h6 }:=Inv.track I6 a3 a0' (λz=>nfr (T1.sub.mpr (.inl z))) (λx c z=>(cl x c z).elim) (λp hp z=>by
   have:=(I2.pin p hp).1
   rw[z,a2] at this;cases this) (zJ ge ce de dd6)
  refine pH (X:=nX X.nox (.ref a)) (v:=.ref a) (u:=.ref a) (tW I7 _) nd n2 (Or.inl l2) rfl (λs7 I7'=>?_) (Or.inr l2)
  refine wpAny_mono (nQ (mD (X:=nX X.nox (.ref a)) (i:=1) nd n1 (Or.inl l1) (wH (i:=2) n2 (Or.inl l2)) hs3 (Or.inr l1)) pins s7 _ (upd H3 a (dW C a dx)) { nx:=λσ' H'=>σ'=((σ.set 1 (some .non)).set 2 (some (.ref a))).set 1 (some (.ref a))/\H'=upd H3 a (dW C a dx),rt:=λ_ _=>False } I7' ⟨.ref a,by rw[List.getElem?_set_self (by simpa using lt2)],rfl,rfl⟩) (λf s8 q=>?_) λ_ _ z=>z.elim
  cases f with
  | ret u=>obtain⟨_,_,_,_,_,z⟩:=q;exact z.elim
  | brk=>obtain⟨_,_,_,z⟩:=q;exact z.elim
  | cont=>obtain⟨_,_,_,z⟩:=q;exact z.elim
  | next =>
   obtain⟨_,_,I8,e1,e2⟩:=q
   rw[e1,e2] at I8
   obtain⟨m,hn,hl⟩:=I8.loc
   refine wpAny_nameGoes_keeps l2 hn (by rw[I.ok.kind];rfl) λh9 v hn9 hs9=>?_
   have I9:=CJ (t:=s8.toks+1) I8 nd n2 hl hn9 hs9
   have I10:Inv X.nox pins _ _ _:=vU (X:=X.nox) (v:=.ref a) I7.ok I9
   have s91:((((σ.set 1 (some V.non)).set 2 (some (V.ref a))).set 1 (some (V.ref a))).set 2 none)[1]? = some (some (V.ref a)):=by
    rw[List.getElem?_set_ne (by decide),List.getElem?_set_self (by simp;omega)]
   have hax:a≠dx:=λz=>by rw[z,hdx] at a3;cases a3
   have fin:De.rt (.ref a) (upd H3 a (dW C a dx)):=by
    refine krt c a dx _ hp (λb o z=>?_) (sm.free a1) (sm.free ndx) hax aQ (by rw[aE (Ne.symm hax)];exact hdx)
    have zb:=Fl.same b o (sm b o z)
    rw[aE (aH zb a3)]
    exact zb
   exact nQ (EF (X:=X.nox) (pos:=q14) (wH (pos:=q13) (i:=1) n1 (Or.inl l1) hd1 hd2)) pins _ _ _ De I10 ⟨.ref a,s91,fin⟩
end
noncomputable abbrev FDE:=List D->(Int->Prop)->Prop
noncomputable def spE (K:PySem.W.Frag) (C:Addr) (y:Str) (F:FDE):Sp:=λvs H Q _=>∃ds PP,Reps K H ds vs/\F ds PP/\∀c a dx H',PP c->Same H H'->H a=none->H dx=none->a≠dx->H' a=some (dW C a dx)->H' dx=some (.xd [(y,.int c)])->Q (.ref a) H'
structure FnAtE (P:Program) (w:World) (K:PySem.W.Frag) (mg:Str->Option Value) (base:Heap) (C:Addr) (y:Str) (x:Str) (ps:List Str) (k:Nat) (F:FDE):Prop where
 ex:∃f fd,FnOk P w K mg base CX0 k f fd ps (spE K C y F)/\Binds K fd ps []/\PySem.W.keepIn K (.ref f)=true/\mg x=some (.ref f)
theorem DefAt.okE {P:Program} {w:World} {K:PySem.W.Frag} {mg:Str->Option Value} {base:Heap} {C:Addr} {y x:Str} {ps:List Str} {k:Nat} {st:Stmt} {N:List Str} {F:FDX} {t:RA} (Z:DefAt K mg x st ps) (Sc:FnScope N ps (aA st))
  (hbody:∀{f:Addr} (cdv:Value) (A:Around) (outer:List Env) (s:Shared) (H:Hp) (E:XK),Room k (A.deeper (envOfC x (aA st) s.heap.objs.size f cdv)) ->
   PSs (bX CX0 P w K mg base N x (aA st) f cdv A outer s H E).nox (aL st) (DF (bX CX0 P w K mg base N x (aA st) f cdv A outer s H E).nox C y t F))
  (len:∀ds Q PP,F ds Q PP->ds.length=ps.length) (pure:∀ds PP,F ds (λ_=>False) PP->t ((aN N ds).set 1 (some (.d .non))) λds'=>F ds' (λ_=>False) PP):FnAtE P w K mg base C y x ps (k+1) (λds PP=>F ds (λ_=>False) PP):=by
 obtain⟨f,fd,a,b,c⟩:=Z.ex
 refine⟨f,fd,?_,.all c,a.kp,b⟩
 refine a.ok Sc (λvs H Q E ⟨ds,PP,r,h,_⟩=>by rw[<-r.length];exact len ds _ PP h) λcdv A outer s H vs Q E hr ⟨ds,PP,r,h,kk⟩=>⟨_,hbody cdv A outer s H E hr,?_⟩
 exact⟨aN N ds,PP,pG (X:=(bX CX0 P w K mg base N x (aA st) f cdv A outer s H E).nox) r,pure ds PP h,kk⟩
noncomputable def EL (j:Nat) (F:FDE) (C:Addr) (y:Str) (t:RA):RS:=λE ρ=>t ρ λds=>∃PP,F ds PP/\∀c,PP c->E.nx (ρ.set j (some (.exc C y c)))
noncomputable def lP (i:Nat) (C:Addr) (b:Bool):RE:=λρ Q=>match ρ[i]? with
 | some (some (.exc C' _ _))=>C'=C/\Q (.bl b)
 | _=>False
noncomputable def qT (i:Nat) (C:Addr) (y:Str):RE:=λρ Q=>match ρ[i]? with
 | some (some (.exc C' y' c))=>(C'=C/\y'=y)/\Q (.int c)
 | _=>False
noncomputable def EJ (te:RE):RE:=λρ Q=>te ρ λd=>match d with
 | .int c=>Q (.int c)
 | _=>False
section
variable {X:Cx} {k j i:Nat} {ps:List Str} {F:FDE} {x y z:Str} {p p1 p2 p3 p4 pos pos' cpos:Pos} {e:Expr} {es:List Expr} {t:RA} {C:Addr} {b:Bool}
theorem GE (hN:X.N.Nodup) (G:FnAtE X.prog X.w X.K X.mg X.base C z x ps k F) (hr:Room k X.A) (ha:DA X (e::es) t) (hg:Gl X x:=by rfl) (hi:X.N[j]? = some y:=by rfl) (hx:Loc X.env.scope y:=by walk_at "vis")
  (hs:swapsWith (.Call (.Name x p) (e::es) [] cpos) (some (.Name y pos')) pos.line X.env=pure false:=by rfl) (hf:X.fn y=true\/X.env.scope.names.lookup y=some .local:=by walk_at "loc")
  (hdb:(x == ("__debug__":Str))=false:=by decide) (he:starEach (e::es) X.env=(false,eval e X.env)::starEach es X.env:=by rfl) (hpl:(backTo cpos (starEach es X.env)).any (·.1)=false:=by rfl) :
  DS X (.Assign [.Name y pos'] (.Call (.Name x p) (e::es) [] cpos) pos) (EL j F C z t):=by
 obtain⟨f,fd,G,hb,hk,hm⟩:=G.ex
 refine PS.mono (mD hN hi hx (yM (E:=E0) G hr hg hm hk hb .nil JD ha hdb he hpl) hs hf) λDe σ H hh=>dF hh λρ E so q n r bk ct=>?_
 refine⟨ρ,_,so,q,λds vs H1 hd s1 rr=>?_⟩
 show spE X.K C z F (vs++[]) H1 _ E0
 rw[List.append_nil]
 obtain⟨PP,h1,h2⟩:=hd
 refine⟨ds,PP,rr,h1,λc a dx H2 hp s2 _ _ _ g1 g2=>?_⟩
 have sm:=s1.trans s2
 exact n _ _ _ (h2 c hp) (.of sm) (so.put sm (x':=.exc C z c) ⟨a,dx,rfl,g1,g2⟩ λa o=>o.elim)
theorem CL {c:V} {cv:Value} (Z:ExcK X.K C) (rc1:∀u,RelV c u->u=cv) (h:PySem.W.kitOne X.K (.ref C) cv=some b) :
  gT X (.builtin "isinstance") (λvs H Q=>∃e dx,vs=[.ref e,c]/\H e=some (dW C e dx)/\Q (.bl b) H):=by
 intro pins s σ H xs us Q I r ⟨e,dx,ex,he,q⟩
 subst ex
 cases r with
 | cons r1 r2 =>
  cases r2 with
  | cons r3 r4 =>
   cases r4
   rename_i u1 u2
   cases (show u1=Value.ref e from r1)
   cases rc1 _ r3
   obtain⟨⟨oe,vs,h1,h2,_⟩,_⟩:=I.hok e _ he
   exact PySem.W.kia_one (tY Z) I.kIn ⟨oe,h1,h2⟩ h (λz=>nomatch z) λtk=>⟨.bl b,H,I.tok tk,rfl,q⟩
theorem CM {c1 c2:Addr} (Z:ExcK X.K C) (h:PySem.W.kitAny X.K (.ref C) [.ref c1,.ref c2]=some b) :
  gT X (.builtin "isinstance") (λvs H Q=>∃e dx tp,vs=[.ref e,.ref tp]/\H e=some (dW C e dx)/\H tp=some (.tup [.ref c1,.ref c2])/\Q (.bl b) H):=by
 intro pins s σ H xs us Q I r ⟨e,dx,tp,ex,he,ht,q⟩
 subst ex
 cases r with
 | cons r1 r2 =>
  cases r2 with
  | cons r3 r4 =>
   cases r4
   rename_i u1 u2
   cases (show u1=Value.ref e from r1)
   cases (show u2=Value.ref tp from r3)
   obtain⟨⟨oe,vs,h1,hc,_⟩,_⟩:=I.hok e _ he
   obtain⟨_,its,rv,o,h2,h3,n,h4⟩:=(show ObjOk X.prog X.w H s.heap tp (.tup [.ref c1,.ref c2]) from I.hok tp _ ht)
   obtain⟨oc,od,oda,osl⟩:=o
   cases rv with
   | cons v1 w1 =>
    cases w1 with
    | cons v2 w2 =>
     cases w2
     rename_i i1 i2
     cases (show i1=Value.ref c1 from v1)
     cases (show i2=Value.ref c2 from v2)
     dsimp only at h3 h4
     subst h3 h4
     exact PySem.W.kia_tup (tY Z) I.kIn ⟨oe,h1,hc⟩ h2 h (λz=>nomatch z) λtk=>⟨.bl b,H,I.tok tk,rfl,q⟩
theorem xW {c:V} {cv:Value} (Z:ExcK X.K C) (rc1:∀u,RelV c u->u=cv) (h:PySem.W.kitOne X.K (.ref C) cv=some b) (hm:X.mg "isinstance" = none) (hc:PE X (.Name y p2) (tC c)) (i:Nat) (hN:X.N[i]? = some x:=by rfl) (hg:Gl X "isinstance":=by rfl)
  (hv:Vis X.env.scope x:=by walk_at "vis") (hd:(x == ("__debug__":Str))=false:=by decide) (hcd:(x == ("__classdict__":Str))=false:=by decide)
  (s2:starEach [.Name x p1,.Name y p2] X.env=(false,eval (.Name x p1) X.env)::starEach [.Name y p2] X.env:=by rfl) (s1:starEach [.Name y p2] X.env=(false,eval (.Name y p2) X.env)::starEach [] X.env:=by rfl) (hpl:(backTo pos (starEach [.Name y p2] X.env)).any (·.1)=false:=by rfl) :
  DE X (.Call (.Name "isinstance" p) [.Name x p1,.Name y p2] [] pos) (lP i C b):=by
 refine PE.mono (fD (CL Z rc1 h) hg hm PyProof.Rows.boot_isinstance (bW (pv i hN hv hd hcd) (bW hc gA s1) s2) (by decide) (by decide) s2 hpl) λσ H Q hh=>bI hh λρ P so q k=>?_
 unfold lP at q
 split at q
 ·rename_i C' y' c' ex
  obtain⟨rfl,q⟩:=q
  obtain⟨v,h1,e,dx,rfl,h2,h3⟩:=so.rel i _ ex
  exact⟨.ref e,h1,e,dx,rfl,h2,k _ _ H q (Same.refl H) (.bl b)⟩
 ·exact q.elim
theorem BK {c1 c2:Addr} {y1 y2:Str} {jn:Nat} (Z:ExcK X.K C) (h:PySem.W.kitAny X.K (.ref C) [.ref c1,.ref c2]=some b) (hm:X.mg "isinstance" = none) (g1:Gl X y1) (m1:X.mg y1=some (.ref c1)) (g2:Gl X y2) (m2:X.mg y2=some (.ref c2)) (i:Nat) (hN:X.N[i]? = some x:=by rfl) (hg:Gl X "isinstance":=by rfl)
  (hv:Vis X.env.scope x:=by walk_at "vis") (hd:(x == ("__debug__":Str))=false:=by decide) (hcd:(x == ("__classdict__":Str))=false:=by decide) (hd1:(y1 == ("__debug__":Str))=false:=by decide) (hd2:(y2 == ("__debug__":Str))=false:=by decide)
  (s2:starEach [.Name x p1,.Tuple [.Name y1 p2,.Name y2 p3] jn p4] X.env=(false,eval (.Name x p1) X.env)::starEach [.Tuple [.Name y1 p2,.Name y2 p3] jn p4] X.env:=by rfl) (s1:starEach [.Tuple [.Name y1 p2,.Name y2 p3] jn p4] X.env=(false,eval (.Tuple [.Name y1 p2,.Name y2 p3] jn p4) X.env)::starEach [] X.env:=by rfl) (hpl:(backTo pos (starEach [.Tuple [.Name y1 p2,.Name y2 p3] jn p4] X.env)).any (·.1)=false:=by rfl)
  (t2:starEach [.Name y1 p2,.Name y2 p3] X.env=(false,eval (.Name y1 p2) X.env)::starEach [.Name y2 p3] X.env:=by rfl) (t1:starEach [.Name y2 p3] X.env=(false,eval (.Name y2 p3) X.env)::starEach [] X.env:=by rfl) :
  DE X (.Call (.Name "isinstance" p) [.Name x p1,.Tuple [.Name y1 p2,.Name y2 p3] jn p4] [] pos) (lP i C b):=by
 refine PE.mono (fD (CM Z h) hg hm PyProof.Rows.boot_isinstance (bW (pv i hN hv hd hcd) (bW (DZ (bW (sM (v:=.ref c1) g1 m1 rfl hd1) (bW (sM (v:=.ref c2) g2 m2 rfl hd2) gA t1) t2)) gA s1) s2) (by decide) (by decide) s2 hpl) λσ H Q hh=>bI hh λρ P so q k=>?_
 unfold lP at q
 split at q
 ·rename_i C' y' c' ex
  obtain⟨rfl,q⟩:=q
  obtain⟨v,h1,e,dx,rfl,h2,h3⟩:=so.rel i _ ex
  refine⟨.ref e,h1,(by decide:2<=sizeLine),λtp hp=>?_⟩
  have sm:Same H (upd H tp (.tup [.ref c1,.ref c2])):=λa o z=>by rw[aE (aH z hp)];exact z
  exact⟨e,dx,tp,rfl,sm _ _ h2,aQ,k _ _ _ q sm (.bl b)⟩
 ·exact q.elim
end
section
variable {X:Cx} {k i:Nat} {x y:Str} {p p1 pos cpos:Pos} {a:Expr} {te:RE} {C Cb f:Addr}
theorem FF {P:Program} {w:World} {H:Hp} {h:Heap} {dx:Addr} {c:Int} (ok:ObjOk P w H h dx (.xd [(y,.int c)])):∃mA t,h.Ns1 dx mA/\mA y=some (.int c t):=by
 obtain⟨mA,hn,r⟩:=ok
 have:=r y
 simp only[List.lookup,beq_self_eq_true] at this
 obtain⟨u,hu,ru⟩:=RelO.some_of (v:=.int c) (o:=mA y) this
 obtain⟨t,rfl⟩:=ru
 exact⟨mA,t,hn,hu⟩
theorem xV (Y:ExcK X.K C) (Z:ExcA X.K C y) (i:Nat) (hN:X.N[i]? = some x:=by rfl) (hv:Vis X.env.scope x:=by walk_at "vis") (hd:(x == ("__debug__":Str))=false:=by decide)
  (hcd:(x == ("__classdict__":Str))=false:=by decide) (hb:attributeBase (.Name x p1) y X.env (eval (.Name x p1) X.env)=eval (.Name x p1) X.env:=by rfl):DE X (.Attribute (.Name x p1) y pos) (qT i C y):=by
 intro pins s σ H Q I hh
 refine bI hh λρ P so q kk=>?_
 unfold qT at q
 split at q
 ·rename_i C' y' c ex
  obtain⟨⟨rfl,rfl⟩,q⟩:=q
  obtain⟨v,h1,e,dx,rfl,h2,h3⟩:=so.rel i _ ex
  refine xL hb (thn (pv i hN hv hd hcd pins s σ H (λv H1=>v = .ref e/\H1=H) I ⟨.ref e,h1,rfl,rfl⟩) λu s1 ⟨w,H1,I1,r1,e1,e2⟩=>?_)
  subst e1 e2
  obtain rfl:u=Value.ref e:=r1
  obtain⟨⟨oe,vs,g1,g2,g3,g4⟩,_⟩:=I1.hok e _ h2
  obtain⟨mA,t,g5,g6⟩:=FF (I1.hok dx _ h3)
  exact tR Y Z I1.kIn g1 g2 (λc z=>by rw[g3] at z;cases z) g4 g5 g6 ⟨c,t,rfl⟩ ⟨.int c,H1,I1.tok _,⟨t,rfl⟩,kk _ _ H1 q (Same.refl H1) (.int c)⟩
 ·exact q.elim
theorem FV (Z:ExcI X.K C Cb f y) (G:FnI X.prog X.w X.K X.mg X.base C f y k) (hr:Room (k+1) X.A) (hk:PySem.W.keepIn X.K (.ref C)=true) (hg:Gl X x) (hm:X.mg x=some (.ref C)) (ha:DE X a te)
  (hd:(x == ("__debug__":Str))=false:=by decide) (he:starEach [a] X.env=[(false,eval a X.env)]:=by rfl) (hn:starEach [] X.env=[]:=by rfl)
  (hb:attributeBase (.Call (.Name x p) [a] [] cpos) y X.env (eval (.Call (.Name x p) [a] [] cpos) X.env)=eval (.Call (.Name x p) [a] [] cpos) X.env:=by rfl):DE X (.Attribute (.Call (.Name x p) [a] [] cpos) y pos) (EJ te):=by
 intro pins s σ H Q I hh
 refine bI hh λρ P so q kk=>?_
 refine xL hb (wpAny_Call_Name_kw (fR I hg hm ?_ hd))
 refine PySem.W.callWith_K (h₀:=X.base) I.ok.mod.kin hk (thn (eL ha he hn cpos pins s σ H (λvs H1=>Same H H1/\∃c,vs=[.int c]/\P (.int c)) I ⟨ρ,_,so,q,λd v H' hd' sm rr=>?_⟩) λus s1 ⟨vs,H1,I1,r,sm,c,e1,hp⟩=>⟨I1.kIn,?_⟩) (by rw[he,hn]) (by rw[hn];rfl)
 ·cases d with
  | int c=>rw[rr.int_inv];exact⟨sm,c,rfl,hd'⟩
  | _=>exact hd'.elim
 subst e1
 obtain⟨u,rfl,ru⟩:=kB r
 refine thn (qW Z G hr I1 ru (Q:=λv H'=>∃e dx,v = .ref e/\(H1 e=none/\H1 dx=none/\dx≠e)/\H'=upd (upd H1 dx (.xd [(y,.int c)])) e (dC C e dx)) λe dx ge n1 n2 n3=>⟨e,dx,rfl,⟨n1,n2,n3⟩,rfl⟩) λv s2 ⟨w,H2,I2,rw',e,dx,e1,⟨n1,n2,n3⟩,e2⟩=>?_
 subst e1 e2
 obtain rfl:v=Value.ref e:=rw'
 have h1:upd (upd H1 dx (.xd [(y,.int c)])) e (dC C e dx) e=some (dC C e dx):=aQ
 have h2:upd (upd H1 dx (.xd [(y,.int c)])) e (dC C e dx) dx=some (.xd [(y,.int c)]):=by rw[aE n3,aQ]
 have sm2:Same H1 (upd (upd H1 dx (.xd [(y,.int c)])) e (dC C e dx)):=λb o z=>by
  rw[aE (aH z n1),aE (aH z n2)]
  exact z
 obtain⟨⟨z,hz⟩,_⟩:=I2.hok e _ h1
 obtain⟨mA,t,g5,g6⟩:=FF (I2.hok dx _ h2)
 exact tR Z.k Z.a I2.kIn hz rfl (λc z=>by cases z) rfl g5 g6 ⟨c,t,rfl⟩ ⟨.int c,_,I2.tok _,⟨t,rfl⟩,kk _ _ _ hp (sm.trans sm2) (.int c)⟩
end
structure ExcW (K:PySem.W.Frag) (mg:Str->Option Value) (C Cb f c1 c2:Addr):Prop where
 z:ExcI K C Cb f "column"
 kp:PySem.W.keepIn K (.ref C)=true
 mX:mg "Crossed" = some (.ref C)
 mC:mg "CutError" = some (.ref Cb)
 m1:mg "NoNumber" = some (.ref c1)
 m2:mg "Odd" = some (.ref c2)
 xm:PySem.W.exmOne K (.ref C) (.ref Cb)=some true
 no:PySem.W.kitAny K (.ref C) [.ref c1,.ref c2]=some false
 one:PySem.W.kitOne K (.ref C) (.ref C)=some true
 ve:PySem.W.kitOne K (.ref C) (.type "ValueError")=some true
 vn:mg "ValueError" = none
theorem ExcW.u {K:PySem.W.Frag} {mg:Str->Option Value} {C Cb f c1 c2:Addr} (W:ExcW K mg C Cb f c1 c2):ExcU K mg C:=⟨⟨Cb,W.mC,W.xm⟩⟩
theorem wL {F:FDX} {a b c:Str} (len:∀ds Q PP,F ds Q PP->ds.length=1):∀ds PP,F ds (λ_=>False) PP->aB (aK 0) aJ ((aN [a,b,c] ds).set 1 (some (.d .non))) λds'=>F ds' (λ_=>False) PP:=by
 intro ds PP h
 have hl:=len _ _ _ h
 match ds,hl with
 | [d],_=>exact h
theorem GL {P:Program} {w:World} {K:PySem.W.Frag} {mg:Str->Option Value} {base:Heap} {C f:Addr} {y q:Str} {st:Stmt} {fd:FuncData} (Fu:Fun K "__init__" q st f fd) (Sc:FnScope ["self",y] ["self",y] (aA st))
  (hb:∀us:List Value,us.length=2->bindArgs fd ⟨us,[]⟩=pure ((["self",y]:List Str).zip us))
  (h:∀(cdv:Value) (A:Around) (outer:List Env) (s:Shared) (H:Hp) (E:XK),PSs (bX CX0 P w K mg base ["self",y] q (aA st) f cdv A outer s H E).nox (aL st)
   (λD σ H=>∃e,σ[0]? = some (some (.ref e))/\H e=some (kS C e)/\∃v,σ[1]? = some (some v)/\∀dx,H dx=none->dx≠e->D.nx σ (upd (upd H dx (.xd [(y,v)])) e (dC C e dx)))):FnI P w K mg base C f y 1:=by
 refine⟨fd,Fu.ok Sc (λvs H Q E ⟨e,v,ev,_⟩=>by rw[ev];rfl) (λcdv A outer s H vs Q E hr ⟨e,v,ev,h1,h2⟩=>⟨_,h cdv A outer s H E,?_⟩),.all hb⟩
 subst ev
 exact⟨e,rfl,h1,v,rfl,h2⟩
noncomputable def cK:RS :=
 aX (bR 4 (r2 eQ (aD 2) (aD 3)))
 (aX (bR 2 (aK 3))
 (bR 3 (aK 4)))
noncomputable def cH:RS :=
 aX (bR 2 (rCB tJ (aB (aK 0) (aJ))))
 (aX (bR 3 (rCB tJ (aB (aK 1) (aJ))))
 (aX (wU (bH (r2 (kY true) (aD 3) (rC (.int 0)))) (cK))
 (bP (aK 2))))
noncomputable def lQ (F_shared_divisor:FD):RS :=
 aX (dB (bH (r2 (kY false) (aD 1) (rC (.int 0)))) ((λ_ _=>False)) (bM))
 (aX (bR 2 (aW F_shared_divisor (aB (aK 0) (aB (aK 1) (aJ)))))
 (aX (dB (bH (r2 (fX λi j=>decide (i<j)) (aD 1) (rC (.int 0)))) (bR 2 (r1 vN (aD 2))) (bM))
 (bP (jO (aB (r2 gE (aD 0) (aD 2)) (aB (r2 gE (aD 1) (aD 2)) (aJ)))))))
noncomputable def cU:RS :=
 aX (dB (bH (r2 (fX λi j=>decide (i<j)) (aD 1) (r1 lU (aD 0)))) (bP (r2 dIx (aD 0) (aD 1))) (bM))
 (bP (rC (.int 0)))
noncomputable def eC:RS :=
 bP (jU (r1 (pP "int") (aK 0)) (qV (r1 (pP "bool") (aK 0))))
noncomputable def cB (F_shared_divisor:FD):RS :=
 bP (r2 gF (aD 0) (r2 gE (aD 1) (aW F_shared_divisor (aB (aK 0) (aB (aK 1) (aJ))))))
noncomputable def dY:RS :=
 aX (bR 2 (rC (.int 0)))
 (aX (dB (bH (r2 (fX λi j=>decide (j<i)) (r1 lU (aD 0)) (rC (.int 0)))) (bR 2 (r2 dIx (aD 0) (r2 eQ (aD 1) (rCB nZ (aB (rC (.int 63)) (aB (r1 lU (aD 0)) (aJ))))))) (bM))
 (aX (bR 3 (r2 eD (r2 eQ (aD 2) (r2 pQ (rC (.int 10)) (rC (.int 18)))) (r2 gF (rC (.int 48271)) (r2 eD (aD 1) (rC (.int 1))))))
 (bP (r2 eQ (r2 gF (aD 3) (aD 3)) (rC (.int 2147483647))))))
noncomputable def dM (F_shared_multiple:FD):RS :=
 bR 1 (aW F_shared_multiple (aB (aK 1) (aB (aK 2) (aJ))))
noncomputable def cA (F_shared_multiple:FD):RS :=
 aX (bR 1 (rC (.int 1)))
 (aX (cD (riL (aK 0)) (aP 2) (dM F_shared_multiple))
 (bP (aK 1)))
noncomputable def iV:RS :=
 aX (dB (bH (r2 (fX λi j=>decide (i<j)) (r2 dIx (aD 2) (rC (.int 0))) (r2 dIx (aD 3) (rC (.int 0))))) (eI 1 (jO (aB (aK 2) (aB (aK 3) (aJ))))) (bM))
 (dB (bH (r2 (fX λi j=>decide (i<j)) (r2 dIx (aD 3) (rC (.int 0))) (r2 dIx (aD 2) (rC (.int 0))))) (eI 1 (jO (aB (aK 3) (aB (aK 2) (aJ))))) (bM))
noncomputable def fT:RS :=
 aX (cY 1 (gQ (aJ)))
 (aX (cD (hU (aK 0) (r2 jP (qA (aD 0) (jV (rC (.int 1))) (dX)) (qA (aD 0) (dX) (jV (rC (.int 1)))))) (gZ 2 (cL (aP 2) (cL (aP 3) (gY)))) (iV))
 ((λE ρ=>(bP (aK 1)) E (dA 1 ρ))))
noncomputable def dN:RS :=
 yQ 1 (aK 4) (aK 3)
noncomputable def dO:RS :=
 cD (uR (aB (r2 dIx (r2 dIx (aD 3) (rC (.int 0))) (rC (.int 0))) (aB (r2 dIx (r2 dIx (aD 3) (rC (.int 1))) (rC (.int 0))) (aJ)))) (aP 4) (dN)
noncomputable def dP (F_sides_of:FD):RS :=
 cD (riL (aW F_sides_of (aB (aK 2) (aJ)))) (aP 3) (dO)
noncomputable def cC (F_sides_of:FD):RS :=
 aX (yR 1)
 (aX (cD (riL (aK 0)) (aP 2) (dP F_sides_of))
 ((λE ρ=>(bP (aK 1)) E (dA 1 ρ))))
noncomputable def fU:RS :=
 bP (r2 jK (r2 dIx (r2 dIx (aD 0) (rC (.int 1))) (rC (.int 0))) (r2 dIx (r2 dIx (aD 0) (rC (.int 0))) (rC (.int 0))))
noncomputable def eX (F_width_of:FD):RS :=
 aX (bR 3 (r2 dIx (aD 0) (rC (.int 0))))
 (aX (bR 4 (aW F_width_of (aB (aK 0) (aJ))))
 (aX (bR 5 (r2 gF (r2 jK (r2 dIx (r2 dIx (aD 0) (rC (.int 1))) (rC (.int 1))) (r2 dIx (aD 3) (rC (.int 1)))) (r2 jK (aD 1) (r2 dIx (aD 3) (rC (.int 0))))))
 (bP (r2 gF (r2 eD (r2 gF (r2 dIx (aD 3) (rC (.int 1))) (aD 4)) (aD 5)) (r2 gE (aD 2) (aD 4))))))
noncomputable def fG (bK:FD):RS :=
 dB (bH (r2 (dNe) (aD 5) (aD 6))) (aX (cY 7 (eO (riT (r2 jP (aD 5) (aD 6))) 1 [2] (aP 0) (aW bK (aB (aK 0) (aB (aK 1) (aJ))))))
 (eI 4 (jO (aB (aK 1) (aB (r2 dIx (aD 7) (rC (.int 0))) (aB (r2 dIx (aD 7) (rC (.int 1))) (aB (r2 dIx (aD 7) (rC (.int 2))) (aB (r2 dIx (aD 7) (rC (.int 3))) (aJ))))))))) (bM)
noncomputable def eM (F_lowest_multiple:FD) (F_ordered_heights:FD) (bK:FD) (F_width_of:FD):RS :=
 aX (bR 2 (aW F_lowest_multiple (aB ((λρ Q=>(eO (riL (aK 0)) 1 [] (aP 0) (aW F_width_of (aB (aK 0) (aJ)))) ρ λds=>Q (.lst ds))) (aJ))))
 (aX (bR 3 (aW F_ordered_heights (aB (aK 0) (aB (aK 1) (aB (aK 2) (aJ))))))
 (aX (cY 4 (gQ (aJ)))
 (aX (cD (hU ((λρ Q=>(uO 0 (aD 3)) ρ λds=>Q (.lst ds))) ((λρ Q=>(uO 1 (aD 3)) ρ λds=>Q (.lst ds)))) (gZ 2 (cL (aP 5) (cL (aP 6) (gY)))) (fG bK))
 ((λE ρ=>(bP (aK 4)) E (dA 4 ρ))))))
noncomputable def eB (OF:FD):RS :=
 aX (dB (bH (r2 (kY false) (r2 eQ (aW OF (aB (aK 0) (aB (rC (.int 3)) (aJ)))) (rC (.int 4))) (rC (.int 1)))) (bP (r2 jK (r2 eQ (aW OF (aB (aK 0) (aB (rC (.int 1)) (aJ)))) (r2 gF (rC (.int 2)) (r2 pQ (rC (.int 10)) (rC (.int 50))))) (r2 pQ (rC (.int 10)) (rC (.int 50))))) (bM))
 (bP (r2 jK (r2 eQ (aW OF (aB (aK 0) (aB (rC (.int 1)) (aJ)))) (rC (.int 2001))) (rC (.int 1000))))
noncomputable def gW (OJ:FD):RS :=
 aX (bR 7 (aW OJ (aB (aK 0) (aB (r2 eD (r2 gF (rC (.int 6)) (aD 4)) (aD 6)) (aJ)))))
 (eI 5 (jO (aB (r2 eD (aD 1) (r2 eQ (aD 7) (r2 dIx ((λρ Q=>(gQ (aB (rC (.int 4)) (aB (rC (.int 6)) (aJ)))) ρ λds=>Q (.lst ds))) (r2 eQ (aD 4) (rC (.int 2)))))) (aB (r2 gF (aD 2) (r2 jK (r2 eQ (r2 gE (aD 7) (rC (.int 8))) (rC (.int 9))) (rC (.int 4)))) (aJ)))))
noncomputable def gX (OJ:FD):RS :=
 aX (cY 5 (gQ (aJ)))
 (aX (cD (pE (aB (r2 dIx ((λρ Q=>(gQ (aB (rC (.int 3)) (aB (rC (.int 4)) (aB (rC (.int 3)) (aB (rC (.int 5)) (aB (rC (.int 3)) (aB (rC (.int 2)) (aB (rC (.int 4)) (aB (rC (.int 1)) (aJ)))))))))) ρ λds=>Q (.lst ds))) (r2 eQ (aW OJ (aB (aK 0) (aB (r2 eD (rC (.int 300)) (aD 4)) (aJ)))) (rC (.int 8)))) (aJ))) (aP 6) (gW OJ))
 ((λE ρ=>(eI 3 (aK 5)) E (dA 5 ρ))))
noncomputable def eV (OF:FD) (OJ:FD) (OV:FD):RS :=
 aX (bR 1 (aW OV (aB (aK 0) (aJ))))
 (aX (bR 2 (r2 dIx ((λρ Q=>(gQ (aB (rC (.int 1)) (aB (rC (.int 1)) (aB (rC (.int 1)) (aB (r2 eD (r2 pQ (rC (.int 10)) (rC (.int 40))) (rC (.int 9))) (aJ)))))) ρ λds=>Q (.lst ds))) (r2 eQ (aW OF (aB (aK 0) (aB (rC (.int 2)) (aJ)))) (rC (.int 4)))))
 (aX (cY 3 (gQ (aJ)))
 (aX (cD (pE (aB (r2 eD (rC (.int 1)) (r2 eQ (aW OF (aB (aK 0) (aB (rC (.int 0)) (aJ)))) (rC (.int 3)))) (aJ))) (aP 4) (gX OJ))
 ((λE ρ=>(bP (aK 3)) E (dA 3 ρ))))))
noncomputable def gH:RS :=
 aX (bR 4 (r2 dIx (aD 2) (aD 3)))
 (aX (bR 5 (r2 dIx (aD 2) (r2 eQ (r2 eD (aD 3) (rC (.int 1))) (r1 lU (aD 2)))))
 (dB (bH (r2 (dNe) (r2 dIx (aD 4) (rC (.int 0))) (r2 dIx (aD 5) (rC (.int 0))))) (eI 1 (jO (aB (rCB vM (aB (aK 4) (aB (aK 5) (aJ)))) (aB (rCB vL (aB (aK 4) (aB (aK 5) (aJ)))) (aJ))))) (bM)))
noncomputable def gI:RS :=
 cD (pE (aB (r1 lU (aD 2)) (aJ))) (aP 3) (gH)
noncomputable def dZ:RS :=
 aX (cY 1 (gQ (aJ)))
 (aX (cD (riL (aK 0)) (aP 2) (gI))
 ((λE ρ=>(bP (aK 1)) E (dA 1 ρ))))
noncomputable def fS:RS :=
 dB (sP (bH (r2 (fX λi j=>decide (i<=j)) (r2 dIx (aD 3) (rC (.int 0))) (aD 1))) (bH (r2 (fX λi j=>decide (i<j)) (aD 1) (r2 dIx (aD 4) (rC (.int 0)))))) (aX (bR 5 (r2 jK (r2 dIx (aD 4) (rC (.int 0))) (r2 dIx (aD 3) (rC (.int 0)))))
 (aX (bR 6 (r2 gF (r2 jK (r2 dIx (aD 4) (rC (.int 1))) (r2 dIx (aD 3) (rC (.int 1)))) (r2 gE (rC (.int 60)) (aD 5))))
 (aX (bR 7 (r2 eD (r2 gF (rC (.int 60)) (r2 dIx (aD 3) (rC (.int 1)))) (r2 gF (aD 6) (r2 jK (aD 1) (r2 dIx (aD 3) (rC (.int 0)))))))
 (eI 2 (jO (aB (aK 7) (aB (r2 eD (aD 7) (aD 6)) (aJ)))))))) (bM)
noncomputable def dI:RS :=
 aX (cY 2 (gQ (aJ)))
 (aX (cD (riL (aK 0)) (gZ 2 (cL (aP 3) (cL (aP 4) (gY)))) (fS))
 ((λE ρ=>(bP (aK 2)) E (dA 2 ρ))))
noncomputable def fE:RS :=
 dB (sP (bH (r2 (fX λi j=>decide (i<j)) (r2 dIx (aD 1) (rC (.int 0))) (r2 dIx (aD 2) (rC (.int 0))))) (bH (r2 (fX λi j=>decide (j<i)) (r2 dIx (aD 1) (rC (.int 1))) (r2 dIx (aD 2) (rC (.int 1)))))) (bP (rC (.bl true))) (bM)
noncomputable def fF:RS :=
 cD (riL (aK 0)) (aP 2) (fE)
noncomputable def cV:RS :=
 aX (cD (riL (aK 0)) (aP 1) (fF))
 (bP (rC (.bl false)))
noncomputable def cS (ON:FD) (OL:FD):RS :=
 dB (bH (aW OL (aB (aW ON (aB (aK 0) (aB (aK 1) (aJ)))) (aJ)))) (bP (aK 1)) (bM)
noncomputable def bO (ON:FD) (OL:FD):RS :=
 aX (dB (bH (r2 (dEq) (aD 0) ((λρ Q=>(gQ (aJ)) ρ λds=>Q (.lst ds))))) (bP (rC .non)) (bM))
 (aX (cD (uR (aB (r1 xT ((λρ Q=>(eO (riL (aK 0)) 1 [] (aP 0) (r2 dIx (r2 dIx (aD 0) (rC (.int 0))) (rC (.int 0)))) ρ λds=>Q (.lst ds)))) (aB (r1 xS ((λρ Q=>(eO (riL (aK 0)) 1 [] (aP 0) (r2 dIx (r2 dIx (aD 0) (rC (.int 1))) (rC (.int 0)))) ρ λds=>Q (.lst ds)))) (aJ)))) (aP 1) (cS ON OL))
 (bP (rC .non)))
noncomputable def cZ (PP:Int->Prop):RS :=
 dB (bH (r2 (fX λi j=>decide (i<j)) (r2 dIx (aD 5) (rC (.int 1))) (r2 dIx (aD 4) (rC (.int 1))))) (wR PP (aK 1)) (bM)
noncomputable def bV (PP:Int->Prop) (F_height_at:FD):RS :=
 aX (cY 3 (eO (riL (aK 0)) 1 [1,2] (aP 0) (jO (aB (aW F_height_at (aB (aK 0) (aB (aK 1) (aB (aK 2) (aJ))))) (aB (aW F_height_at (aB (aK 0) (aB (r2 eD (aD 1) (rC (.int 1))) (aB (aK 2) (aJ))))) (aJ))))))
 (aX (cY 3 (wT (aD 3)))
 (aX ((λE ρ=>(cD (hU (aK 3) (qA (aD 3) (jV (rC (.int 1))) (dX))) (gZ 2 (cL (aP 4) (cL (aP 5) (gY)))) (cZ PP)) E (dA 3 ρ)))
 ((λE ρ=>(bP (aK 3)) E (dA 3 ρ)))))
noncomputable def iU (PP:Int->Prop) (bK:FD):RS :=
 dB (bH (r2 (dNe) (aD 5) (aD 6))) (aX (cY 7 (eO (riT (r2 jP (aD 5) (aD 6))) 1 [2] (aP 0) (aW bK (aB (aK 0) (aB (aK 1) (aJ))))))
 (eI 4 (jO (aB (aK 1) (aB (r2 dIx (aD 7) (rC (.int 0))) (aB (r2 dIx (aD 7) (rC (.int 1))) (aB (r2 dIx (aD 7) (rC (.int 2))) (aB (r2 dIx (aD 7) (rC (.int 3))) (aJ))))))))) (bM)
noncomputable def bS (PP:Int->Prop) (F_lowest_multiple:FD) (F_ordered_heights:FDX) (bK:FD) (F_width_of:FD):RS :=
 aX (bR 2 (aW F_lowest_multiple (aB ((λρ Q=>(eO (riL (aK 0)) 1 [] (aP 0) (aW F_width_of (aB (aK 0) (aJ)))) ρ λds=>Q (.lst ds))) (aJ))))
 (aX (bR 3 (pD F_ordered_heights PP (aB (aK 0) (aB (aK 1) (aB (aK 2) (aJ))))))
 (aX (cY 4 (gQ (aJ)))
 (aX (cD (hU ((λρ Q=>(uO 0 (aD 3)) ρ λds=>Q (.lst ds))) ((λρ Q=>(uO 1 (aD 3)) ρ λds=>Q (.lst ds)))) (gZ 2 (cL (aP 5) (cL (aP 6) (gY)))) (iU PP bK))
 ((λE ρ=>(bP (aK 4)) E (dA 4 ρ))))))
noncomputable def jW (PP:Int->Prop) (F_column_bands:FDX):RS :=
 qU 2 (pD F_column_bands PP (aB (r2 FQ (aK 1) (aK 3)) (aB (aK 3) (aJ))))
noncomputable def gR (PP:Int->Prop) (F_column_bands:FDX) (F_sides_by_column:FD):RS :=
 aX (bR 1 (aW F_sides_by_column (aB (aK 0) (aJ))))
 (aX (cY 2 (gQ (aJ)))
 (aX (cD (riL ((λρ Q=>(wS ((λρ Q=>(wQ (aK 1)) ρ λds=>Q (.lst ds)))) ρ λds=>Q (.lst ds)))) (aP 3) (jW PP F_column_bands))
 ((λE ρ=>(bP (aK 2)) E (dA 2 ρ)))))
noncomputable def gS (C:Addr) (OS:FDE) (OI:FD) (OU:FD) (OW:FD) (OZ:FD) (fN:FDX):RS :=
 aX (bR 1 (aW OZ (aB (aK 0) (aJ))))
 (aX (bR 2 (aW OI (aB (aW OU (aB (aK 1) (aJ))) (aJ))))
 (aX (cY 3 (eO (riL (aK 1)) 1 [] (aP 0) (r1 gL (aD 0))))
 (aX (dB (bH (r2 (vK false) (aD 2) (rC .non))) ((λE ρ=>(bP (jU (r1 (pP "list") (aW (λds Q=>fN ds Q λ_=>False) (aB (aK 3) (aJ)))) (r2 (dEq) (aD 3) (aD 1)))) E (dA 3 ρ))) (bM))
 (aX ((λE ρ=>(EL 4 OS C "column" (aB (aK 3) (aJ))) E (dA 3 ρ)))
 (aX (dB (rOr (bH (lP 4 C false)) (bH (r2 (FR) (aD 3) (aD 1)))) (bP (rC (.bl false))) (bM))
 (aX (dB (rOr (uP (bH (lP 4 C true))) (uP (bH (lP 4 C true)))) (bP (rC (.bl false))) (bM))
 (bP (jU (aW OW (aB (qT 4 C "column") (aJ))) (jU (r2 (dEq) (qT 4 C "column") (aD 2)) (r2 (kY false) (EJ (r2 eD (aD 2) (rC (.int 1)))) (r2 eD (aD 2) (rC (.int 1)))))))))))))
theorem LU {α:Type} (x:α) (xs:List α):atI (x::xs) 0=some x:=by
 unfold atI ixN;simp
theorem LV {α:Type} (x y:α) (xs:List α):atI (x::y::xs) 1=some y:=by
 unfold atI ixN
 rw[if_pos (by decide),if_pos (by simp only[List.length_cons];omega)];rfl
theorem LW {α:Type} (x y z:α) (xs:List α):atI (x::y::z::xs) 2=some z:=by
 unfold atI ixN
 rw[if_pos (by decide),if_pos (by simp only[List.length_cons];omega)];rfl
theorem AW {α:Type} {xs:List α} {i:Int} {j:Nat} {x:α} (h:i=(j:Int)) (e:xs[j]? = some x):atI xs i=some x:=by
 subst h;exact xK e
theorem nY {x y:D} {Q:D->Prop}:dEq x y Q=(match eqF 6 x y with | some b=>Q (.bl b) | none=>False):=rfl
theorem BL.const {n:Nat} {i:Int} (h:i.natAbs<2 ^ n:=by decide):BL n i:=h
theorem wJ {i j:Int} (h:0<=j/\j<=1000000/\i.natAbs<2 ^ 64:=by decide):PowOk i j:=⟨h⟩
theorem dS {j:Int} (h:j≠0:=by decide):ModOk j:=⟨h⟩
theorem cQ {x:D} {xs:List D} {Q:D->Prop}:dIx (.tup (x::xs)) (.int 0) Q=Q x:=by simp only[dIx,LU]
theorem fA {x y:D} {xs:List D} {Q:D->Prop}:dIx (.tup (x::y::xs)) (.int 1) Q=Q y:=by simp only[dIx,LV]
theorem lJ {x y z:D} {xs:List D} {Q:D->Prop}:dIx (.tup (x::y::z::xs)) (.int 2) Q=Q z:=by simp only[dIx,LW]
theorem xQ {xs:List D} {i:Int} {Q:D->Prop} {x:D} (e:atI xs i=some x) (h:Q x):dIx (.lst xs) (.int i) Q:=by simp only[dIx,e];exact h
theorem nM {xs:List D} {i:Int} {Q:D->Prop} (h0:0<=i) (h1:i<xs.length) (h:∀x,x∈xs->Q x):dIx (.lst xs) (.int i) Q:=by
 have hj:i.toNat<xs.length:=by omega
 exact xQ (AW (j:=i.toNat) (by omega) (List.getElem?_eq_getElem hj)) (h _ (List.getElem_mem hj))
theorem dE {xs:List D} {k:Nat} {x:D} {Q:D->Prop} (e:xs[k]? = some x):dIx (.lst xs) (.int (k:Int)) Q=Q x:=by simp only[dIx,xK e]
theorem kZ {a0:D} {r:List D} {Q:D->Prop}:dIx (.lst (a0::r)) (.int 0) Q=Q a0:=dE (k:=0) rfl
theorem lA {a0 a1:D} {r:List D} {Q:D->Prop}:dIx (.lst (a0::a1::r)) (.int 1) Q=Q a1:=dE (k:=1) rfl
theorem lB {a0 a1 a2:D} {r:List D} {Q:D->Prop}:dIx (.lst (a0::a1::a2::r)) (.int 2) Q=Q a2:=dE (k:=2) rfl
theorem lC {a0 a1 a2 a3:D} {r:List D} {Q:D->Prop}:dIx (.lst (a0::a1::a2::a3::r)) (.int 3) Q=Q a3:=dE (k:=3) rfl
theorem lD {a0 a1 a2 a3 a4:D} {r:List D} {Q:D->Prop}:dIx (.lst (a0::a1::a2::a3::a4::r)) (.int 4) Q=Q a4:=dE (k:=4) rfl
theorem lE {a0 a1 a2 a3 a4 a5:D} {r:List D} {Q:D->Prop}:dIx (.lst (a0::a1::a2::a3::a4::a5::r)) (.int 5) Q=Q a5:=dE (k:=5) rfl
theorem lF {a0 a1 a2 a3 a4 a5 a6:D} {r:List D} {Q:D->Prop}:dIx (.lst (a0::a1::a2::a3::a4::a5::a6::r)) (.int 6) Q=Q a6:=dE (k:=6) rfl
theorem lG {a0 a1 a2 a3 a4 a5 a6 a7:D} {r:List D} {Q:D->Prop}:dIx (.lst (a0::a1::a2::a3::a4::a5::a6::a7::r)) (.int 7) Q=Q a7:=dE (k:=7) rfl
theorem lH {a0 a1 a2 a3 a4 a5 a6 a7 a8:D} {r:List D} {Q:D->Prop}:dIx (.lst (a0::a1::a2::a3::a4::a5::a6::a7::a8::r)) (.int 8) Q=Q a8:=dE (k:=8) rfl
theorem lI {a0 a1 a2 a3 a4 a5 a6 a7 a8 a9:D} {r:List D} {Q:D->Prop}:dIx (.lst (a0::a1::a2::a3::a4::a5::a6::a7::a8::a9::r)) (.int 9) Q=Q a9:=dE (k:=9) rfl
theorem jC {a0 a1 a2 a3 a4 a5 a6 a7 a8 a9 a10:D} {r:List D} {Q:D->Prop}:dIx (.lst (a0::a1::a2::a3::a4::a5::a6::a7::a8::a9::a10::r)) (.int 10) Q=Q a10:=dE (k:=10) rfl
theorem jD {a0 a1 a2 a3 a4 a5 a6 a7 a8 a9 a10 a11:D} {r:List D} {Q:D->Prop}:dIx (.lst (a0::a1::a2::a3::a4::a5::a6::a7::a8::a9::a10::a11::r)) (.int 11) Q=Q a11:=dE (k:=11) rfl
noncomputable def fM (n:Nat) (ds:List D):En:=ds.map (λd=>some (.d d))++List.replicate n none
theorem aU {N:List Str} {ds:List D} (n:Nat) (h:N.length=ds.length+n):aN N ds=fM n ds:=by
 unfold aN fM;rw[h,Nat.add_sub_cancel_left]
theorem sF {i:Int}:vV "int" (.int i)=some true:=rfl
theorem sD {i:Int}:vV "bool" (.int i)=some false:=rfl
theorem sE {i:Bool}:vV "int" (.bl i)=some true:=rfl
theorem sC {i:Bool}:vV "bool" (.bl i)=some true:=rfl
theorem sG {xs:List D}:vV "tuple" (.tup xs)=some true:=rfl
theorem HU {α:Type} {x:α}:List.replicate 0 x=[]:=rfl
theorem EQ {α:Type} {x:α}:List.replicate 1 x=[x]:=rfl
theorem AO {α:Type} {x:α}:List.replicate 2 x=[x,x]:=rfl
theorem ER {α:Type} {x:α}:List.replicate 3 x=[x,x,x]:=rfl
theorem ES {α:Type} {x:α}:List.replicate 4 x=[x,x,x,x]:=rfl
theorem HV {α:Type} {x:α}:List.replicate 5 x=[x,x,x,x,x]:=rfl
theorem HW {α:Type} {x:α}:List.replicate 6 x=[x,x,x,x,x,x]:=rfl
theorem ET {α:Type} {x:α}:List.replicate 7 x=[x,x,x,x,x,x,x]:=rfl
theorem HX {α:Type} {x:α}:List.replicate 8 x=[x,x,x,x,x,x,x,x]:=rfl
theorem HY {α:Type} {x:α}:List.replicate 9 x=[x,x,x,x,x,x,x,x,x]:=rfl
theorem yW {α:Type} {x:α}:List.replicate 10 x=[x,x,x,x,x,x,x,x,x,x]:=rfl
theorem yX {α:Type} {x:α}:List.replicate 11 x=[x,x,x,x,x,x,x,x,x,x,x]:=rfl
theorem yY {α:Type} {x:α}:List.replicate 12 x=[x,x,x,x,x,x,x,x,x,x,x,x]:=rfl
theorem sz2:Sz (0+1+1):=⟨by decide⟩
theorem sz3:Sz (0+1+1+1):=⟨by decide⟩
theorem sz4:Sz (0+1+1+1+1):=⟨by decide⟩
theorem sz1:Sz (0+1):=⟨by decide⟩
theorem sz0:Sz 0:=⟨by decide⟩
local macro_rules | `(tactic| walk_at "rd")=>do
 let a <- ("aX bM bP yS dB bR cY HQ HN aP gZ cL gY aK aD rC r2 r1 bH sP rOr uP jU HP qV rIf aJ aB jO gQ aW rCB dX jV yU cD HZ riL riT pE IA sS eO eN jH rJ dA eI yT sR HS uV qA jP gL rL FS dNe sQ yZ hU eD jK gF gE eQ pQ vN fX kY vK nY oJ cQ fA lJ kZ lA lB lC lD lE lF lG lH lI jC jD tJ FP xR nZ lU pP sF sD sE sC sG S.val fM HU EQ AO ER ES HV HW ET HX HY yW yX yY List.map_cons List.map_nil List.cons_append List.nil_append List.length_cons List.length_nil List.getElem?_cons_zero List.getElem?_cons_succ List.set_cons_zero List.set_cons_succ List.append_nil Bool.or_false Bool.or_true Bool.false_or Bool.true_or Bool.not_true Bool.not_false if_true if_false Bool.false_eq_true sz0 sz1 sz2 sz3 sz4 true_and decide_eq_true_eq Int.reduceToNat Int.reducePow Int.reduceMul Int.reduceSub Int.reduceAdd Int.reduceNeg".splitOn " ").toArray.mapM λx=>`(Lean.Parser.Tactic.simpLemma| $(Lean.mkIdent x.toName):term)
 `(tactic| simp only[$a,*])
local macro_rules | `(tactic| walk_at "side")=>`(tactic| first | exact wJ | exact dS | exact (BL.const (n:=9000) (by decide)).divOk (by decide) | exact (BL.const (n:=300) (by decide)).mulOk (BL.const (n:=300) (by decide)))
local macro_rules | `(tactic| walk_at "sides")=>`(tactic| repeat (refine And.intro (by walk_at "side") ?_))
theorem sW (i:Int):(if i<0 then -i else i)=((i.natAbs:Nat):Int):=by split <;> omega
theorem qO (x y:Nat):((x:Nat):Int).fmod (y:Nat)=((x % y:Nat):Int):=by
 rw[Int.fmod_eq_emod_of_nonneg _ (Int.natCast_nonneg y)];exact (Int.natCast_emod x y).symm
noncomputable def sV:FD:=λds Q=>∃a b:Int,ds=[.int a,.int b]/\Q (.int (Int.gcd a b:Nat))
theorem GP:∀ds Q,sV ds Q->ds.length=2:=by rintro ds Q ⟨a,b,rfl,_⟩;rfl
theorem jL (E:DEnds) (u v:Option S):∀(y x:Nat) (r:Option S),(∀r,E.nx [u,v,some (.d (.int (Nat.gcd x y:Nat))),some (.d (.int (0:Nat))),r]) ->
  wU (bH (r2 (kY true) (aD 3) (rC (.int 0)))) cK E [u,v,some (.d (.int (x:Nat))),some (.d (.int (y:Nat))),r]:=by
 intro y
 induction y using Nat.strongRecOn with
 | ind y ih =>
  intro x r h
  cases Nat.eq_zero_or_pos y with
  | inl hy =>
   subst hy
   refine⟨1,?_⟩
   unfold kR
   walk_at "rd"
   rw[if_neg (by simp)]
   rw[Nat.gcd_zero_right] at h
   exact h r
  | inr hy =>
   obtain⟨n,hn⟩:=ih (x % y) (Nat.mod_lt x hy) y (some (.d (.int ((x % y:Nat))))) (by
    rw[Nat.gcd_comm y,<-Nat.gcd_rec,Nat.gcd_comm];exact h)
   refine⟨n+1,?_⟩
   unfold kR cK
   walk_at "rd"
   rw[if_pos (by simp;omega)]
   refine⟨⟨by omega⟩,?_⟩
   rw[qO]
   exact hn
theorem jN:∀ds Q,sV ds Q->cH { nx:=λ_=>Q .non,rt:=Q } (aN ["one","other","larger","smaller","rest"] ds):=by
 rintro ds Q ⟨a,b,rfl,q⟩
 rw[aU 3 rfl]
 unfold cH
 walk_at "rd"
 rw[sW,sW]
 refine jL _ _ _ _ _ _ λr=>?_
 walk_at "rd"
 exact q
noncomputable abbrev fr (a b:Int):D:=.tup [.int a,.int b]
theorem sA {a b:Int} (h:b≠0):0<(Int.gcd a b:Int):=by
 have:0<Int.gcd a b:=Int.gcd_pos_of_ne_zero_right a h
 omega
theorem BL.gcd {n:Nat} {a b:Int} (hb:b≠0) (h:BL n b):BL n (Int.gcd a b:Int):=by
 refine h.le ?_
 rw[Int.natAbs_natCast]
 exact Nat.le_of_dvd (by omega) (Int.gcd_dvd_natAbs_right a b)
structure Low (a b p q:Int):Prop where
 pos:0<q
 cop:Int.gcd p q=1
 worth:p*b=a*q
 lea:p.natAbs<=a.natAbs
 leb:q.natAbs<=b.natAbs
theorem yG {a b:Int} (hb:0<b):Low a b (a.fdiv (Int.gcd a b:Nat)) (b.fdiv (Int.gcd a b:Nat)):=by
 have hg:0<(Int.gcd a b:Int):=sA (by omega)
 have ea:((Int.gcd a b:Nat):Int)∣a:=Int.gcd_dvd_left ..
 have eb:((Int.gcd a b:Nat):Int)∣b:=Int.gcd_dvd_right ..
 rw[Int.fdiv_eq_ediv_of_nonneg _ (by omega),Int.fdiv_eq_ediv_of_nonneg _ (by omega)]
 have e1:a / (Int.gcd a b:Int)*(Int.gcd a b:Int)=a:=Int.ediv_mul_cancel ea
 have e2:b / (Int.gcd a b:Int)*(Int.gcd a b:Int)=b:=Int.ediv_mul_cancel eb
 have hc:Int.gcd (a / (Int.gcd a b:Int)) (b / (Int.gcd a b:Int))=1:=Int.gcd_ediv_gcd_ediv_gcd (by omega)
 generalize (Int.gcd a b:Int)=g at *
 generalize a / g=p at *
 generalize b / g=q at *
 subst e1 e2
 refine⟨?_,hc,by rw[Int.mul_assoc,Int.mul_comm q g],?_,?_⟩
 ·exact Int.pos_of_mul_pos_left hb (by omega)
 ·rw[Int.natAbs_mul];exact Nat.le_mul_of_pos_right _ (by omega)
 ·rw[Int.natAbs_mul];exact Nat.le_mul_of_pos_right _ (by omega)
theorem GY {a b:Int} (hb:b<0):Low a b (a.fdiv (-(Int.gcd a b:Nat))) (b.fdiv (-(Int.gcd a b:Nat))):=by
 have h:=yG (a:=-a) (b:=-b) (by omega)
 have e:Int.gcd (-a) (-b)=Int.gcd a b:=by rw[Int.neg_gcd,Int.gcd_neg]
 rw[e] at h
 have f:∀x g:Int,(-x).fdiv g=x.fdiv (-g):=λx g=>by
  have:=Int.neg_fdiv_neg (-x) g
  rw[Int.neg_neg] at this
  exact this.symm
 rw[f,f] at h
 refine⟨h.pos,h.cop,?_,by have:=h.lea;omega,by have:=h.leb;omega⟩
 have w:=h.worth
 rw[Int.mul_neg,Int.neg_mul] at w
 exact Int.neg_inj.mp w
noncomputable def bK:FD:=λds Q=>∃a b:Int,ds=[.int a,.int b]/\(b≠0/\BL 9000 b)/\∀p q,Low a b p q->Q (fr p q)
theorem AE:∀ds Q,bK ds Q->ds.length=2:=by rintro ds Q ⟨a,b,rfl,_⟩;rfl
theorem wN:∀ds Q,bK ds Q->lQ sV { nx:=λ_=>Q .non,rt:=Q } (aN ["top","bottom","divisor"] ds):=by
 rintro ds Q ⟨a,b,rfl,⟨h0,hb⟩,q⟩
 rw[aU 1 rfl]
 unfold lQ
 walk_at "rd"
 rw[if_neg h0]
 refine⟨a,b,rfl,?_⟩
 have hg:=sA (a:=a) h0
 have bg:=BL.gcd (a:=a) h0 hb
 walk_at "rd"
 split
 ·rename_i hlt
  refine⟨bg.neg.divOk (by omega),bg.neg.divOk (by omega),q _ _ (GY hlt)⟩
 ·rename_i hlt
  refine⟨bg.divOk (by omega),bg.divOk (by omega),q _ _ (yG (by omega))⟩
noncomputable def nJ:FD:=λds Q=>∃a:Int,ds=[.int a]/\Q (.bl true)
theorem AG:∀ds Q,nJ ds Q->ds.length=1:=by rintro ds Q ⟨a,rfl,_⟩;rfl
theorem pC:∀ds Q,nJ ds Q->eC { nx:=λ_=>Q .non,rt:=Q } (aN ["_law_found"] ds):=by
 rintro ds Q ⟨a,rfl,q⟩
 rw[aU 0 rfl]
 unfold eC
 walk_at "rd"
 exact q
noncomputable def nT:FD:=λds Q=>∃(ns:List Int) (k:Int),ds=[.lst (ns.map .int),.int k]/\0<=k/\∀c,Q (.int c)
theorem CT:∀ds Q,nT ds Q->ds.length=2:=by rintro ds Q ⟨a,b,rfl,_⟩;rfl
theorem mE:∀ds Q,nT ds Q->cU { nx:=λ_=>Q .non,rt:=Q } (aN ["_law_script","_law_k"] ds):=by
 rintro ds Q ⟨ns,k,rfl,hk,q⟩
 rw[aU 0 rfl]
 unfold cU
 walk_at "rd"
 split
 ·rename_i hlt
  refine nM hk hlt ?_
  intro x hx
  obtain⟨c,_,rfl⟩:=List.mem_map.mp hx
  exact q c
 ·exact q 0
theorem bJ {a b:Int} (h:0<b):0<=a.fmod b/\a.fmod b<b:=⟨Int.fmod_nonneg_of_pos a h,Int.fmod_lt_of_pos a h⟩
theorem GR:∀ds Q,zC 63 ds Q->ds.length=1:=by rintro ds Q ⟨a,rfl,_⟩;rfl
theorem cF {g:RG} {t:RS} {E:DEnds} (J:List D->En->Prop)
  (step:∀x xs ρ,J (x::xs) ρ->∀F:DEnds,F.rt=E.rt->F.bk=E.nx->(∀ρ',J xs ρ'->F.nx ρ')->(∀ρ',J xs ρ'->F.ct ρ')->g x ρ λρ1=>t F ρ1) (last:∀ρ,J [] ρ->E.nx ρ):∀xs ρ,J xs ρ->tS g t xs E ρ
 | [],ρ,h=>last ρ h
 | x::xs,ρ,h=>step x xs ρ h _ rfl rfl (λρ' h'=>cF J step last xs ρ' h') λρ' h'=>cF J step last xs ρ' h'
theorem tG {α:Type} {g:RG} {te:RE} (R:En->Prop) (enc f:α->D):∀(src:List α) {Q:List D->Prop},(∀a∈src,∀ρ,R ρ->∀K:En->D->Prop,(∀ρ1,R ρ1->K ρ1 (f a))->g (enc a) ρ λρ1=>te ρ1 λd=>K ρ1 d) ->
  ∀(ρ:En) (acc:List D),R ρ->Q (acc++src.map f)->eN g te (src.map enc) ρ acc Q
 | [],Q,_,ρ,acc,_,q=>by
  show Q acc
  simpa using q
 | a::src,Q,step,ρ,acc,h,q=>by
  show g (enc a) ρ λρ'=>te ρ' λd=>eN g te (src.map enc) ρ' (acc++[d]) Q
  refine step a List.mem_cons_self ρ h (λρ1 d=>eN g te (src.map enc) ρ1 (acc++[d]) Q) λρ1 h1=>?_
  exact tG R enc f src (λb hb=>step b (List.mem_cons_of_mem _ hb)) ρ1 _ h1 (by simpa using q)
theorem iG {α:Type} {g:RG} {te:RE} (R:En->Prop) (enc f:α->D) (src:List α) {Q:List D->Prop} {ρ:En} (step:∀a∈src,∀ρ,R ρ->∀K:En->D->Prop,(∀ρ1,R ρ1->K ρ1 (f a))->g (enc a) ρ λρ1=>te ρ1 λd=>K ρ1 d)
  (h:R ρ) (q:Q (src.map f)):eN g te (src.map enc) ρ [] Q:=tG R enc f src step ρ [] h (by simpa using q)
noncomputable abbrev il (ns:List Int):D:=.lst (ns.map .int)
noncomputable abbrev pt (p:Int × Int):D:=.tup [.int p.1,.int p.2]
noncomputable abbrev pts (ps:List (Int × Int)):D:=.lst (ps.map pt)
theorem cO {n:Nat} (h:n<=100000):Sz n:=⟨Nat.le_trans h (by decide)⟩
noncomputable abbrev big:Int:=1000000000000000000000000000000000000000000000000000000000007
structure Drawn (m:Nat) (xs:List Int):Prop where
 len:xs.length=m
 lo:∀x∈xs,0<=x
 hi:∀x∈xs,x<big
theorem wX {lo:Int} {n:Nat}:(dU lo n).length=n:=by simp[dU]
theorem aR {t u:RS} {E:DEnds} {ρ:En} (I:En->Prop) (h1:∀K:En->Prop,(∀ρ',I ρ'->K ρ')->t { E with nx:=K } ρ) (h2:∀ρ',I ρ'->u E ρ'):aX t u E ρ:=h1 (u E) h2
theorem qN {xs:List D} {j:Nat} (h:j<=xs.length):jJ xs (some (j:Int)) none=xs.drop j:=by
 unfold jJ
 rw[HT.sIx_nat,HT.sIx_none,Nat.min_eq_left h,List.take_of_length_le (by simp)]
theorem FO {xs:List D} {j:Nat} (h:j<=xs.length):jJ xs none (some (j:Int))=xs.take j:=by
 unfold jJ
 rw[HT.sIx_nat,HT.sIx_none,Nat.min_eq_left h];simp
noncomputable def xF:FD:=λds Q=>∃a b:Int,ds=[.int a,.int b]/\(0<a/\0<b)/\(BL 8000 a/\BL 8000 b)/\∀l,0<l->a∣l->b∣l->l<=a*b->Q (.int l)
theorem GS:∀ds Q,xF ds Q->ds.length=2:=by rintro ds Q ⟨_,_,rfl,_⟩;rfl
theorem iS:∀ds Q,xF ds Q->cB sV { nx:=λ_=>Q .non,rt:=Q } (aN ["one","other"] ds):=by
 rintro ds Q ⟨a,b,rfl,⟨ha,hb⟩,⟨ba,bb⟩,q⟩
 rw[aU 0 rfl]
 unfold cB
 walk_at "rd"
 refine⟨a,b,rfl,?_⟩
 have hg:=sA (a:=a) (b:=b) (by omega)
 have bg:=BL.gcd (a:=a) (b:=b) (by omega) bb
 walk_at "rd"
 have b2:BL 8000 (b.fdiv (Int.gcd a b:Nat)):=bb.fdiv
 refine⟨(bg.mono (by decide)).divOk (by omega),ba.mulOk b2,?_⟩
 obtain⟨c,ec⟩:((Int.gcd a b:Nat):Int)∣b:=Int.gcd_dvd_right ..
 obtain⟨d,ed⟩:((Int.gcd a b:Nat):Int)∣a:=Int.gcd_dvd_left ..
 have e1:b.fdiv (Int.gcd a b:Nat)=c:=by
  rw[Int.fdiv_eq_ediv_of_nonneg _ (by omega)]
  have:b / ((Int.gcd a b:Nat):Int)=(((Int.gcd a b:Nat):Int)*c) / ((Int.gcd a b:Nat):Int):=congrArg (· / ((Int.gcd a b:Nat):Int)) ec
  rw[this,Int.mul_ediv_cancel_left _ (by omega)]
 rw[e1]
 generalize hG:((Int.gcd a b:Nat):Int)=g at *
 have pc:0<c:=by
  apply Int.not_le.mp
  intro hn
  have:g*c<=0:=Int.mul_nonpos_of_nonneg_of_nonpos (by omega) hn
  omega
 refine q _ (Int.mul_pos ha pc) (Int.dvd_mul_right ..) ⟨d,by rw[ed,ec];grind⟩ ?_
 rw[ec]
 have:0<=a*((g-1)*c):=Int.mul_nonneg (by omega) (Int.mul_nonneg (by omega) (by omega))
 have e:a*(g*c)=a*c+a*((g-1)*c):=by grind
 omega
local macro_rules | `(tactic| walk_at "rd")=>do
 let a <- ("S.fz yR qU IM aX bM bP yS dB bR cY HQ HN aP gZ cL gY aK aD rC r2 r1 bH sP rOr uP jU HP qV rIf aJ aB jO gQ aW rCB dX jV yU cD HZ riL riT pE IA sS eO eN jH rJ dA eI yT sR HS uV qA jP gL rL FS dNe sQ yZ hU eD jK gF gE eQ pQ vN fX kY vK nY oJ cQ fA lJ kZ lA lB lC lD lE lF lG lH lI jC jD tJ FP xR nZ lU pP sF sD sE sC sG S.val fM HU EQ AO ER ES HV HW ET HX HY yW yX yY List.map_cons List.map_nil List.cons_append List.nil_append List.length_cons List.length_nil List.getElem?_cons_zero List.getElem?_cons_succ List.set_cons_zero List.set_cons_succ List.append_nil Bool.or_false Bool.or_true Bool.false_or Bool.true_or Bool.not_true Bool.not_false if_true if_false Bool.false_eq_true sz0 sz1 sz2 sz3 sz4 true_and decide_eq_true_eq Int.reduceToNat Int.reducePow Int.reduceMul Int.reduceSub Int.reduceAdd Int.reduceNeg".splitOn " ").toArray.mapM λx=>`(Lean.Parser.Tactic.simpLemma| $(Lean.mkIdent x.toName):term)
 `(tactic| simp only[$a,*])
noncomputable abbrev sdD (s:bE):D:=.tup [pt s.1,pt s.2]
noncomputable abbrev dJ (S:List bE):D:=.lst (S.map sdD)
noncomputable abbrev cI (R:List (List Pt)):D:=.lst (R.map pts)
noncomputable def jT:Pt->List Pt->List (Pt × Pt)
 | _,[]=>[]
 | a,b::r=>(a,b)::jT b r
theorem mH:∀(a:Pt) (l:List Pt),mS a l=((jT a l).map λp=>sd p.1 p.2).flatten
 | _,[]=>rfl
 | a,b::r=>by rw[mS,jT,List.map_cons,List.flatten_cons,mH b r]
theorem vC:∀(a z:Pt) (r:List Pt),List.zipWith (λu v=>D.tup [u,v]) ((a::r).map pt) ((r++[z]).map pt)=(jT a (r++[z])).map λp=>D.tup [pt p.1,pt p.2]
 | a,z,[]=>rfl
 | a,z,b::r=>by
  have ih:=vC b z r
  show D.tup [pt a,pt b]::List.zipWith (λu v=>D.tup [u,v]) ((b::r).map pt) ((r++[z]).map pt)=_
  rw[ih];rfl
theorem oQ:∀(a:Pt) (l:List Pt),(jT a l).length=l.length
 | _,[]=>rfl
 | a,b::r=>by rw[jT,List.length_cons,oQ b r,List.length_cons]
theorem xA (a b:Pt):(sd a b).length<=1:=by unfold sd;split <;> (try split) <;> simp
theorem vA:∀(l:List Pt) (a:Pt),(mS a l).length<=l.length
 | [],_=>Nat.le_refl _
 | b::r,a=>by
  have h1:=xA a b
  have h2:=vA r b
  rw[mS,List.length_append,List.length_cons];omega
theorem mF:∀g:List Pt,(cM g).length<=g.length
 | []=>Nat.le_refl _
 | a::r=>by have:=vA (r++[a]) a;rw[cM];simpa using this
noncomputable def jB:FD:=λds Q=>∃g:List Pt,ds=[pts g]/\g.length<=100/\Q (dJ (cM g))
theorem uC:∀ds Q,jB ds Q->ds.length=1:=by rintro ds Q ⟨_,rfl,_⟩;rfl
theorem pY:∀ds Q,jB ds Q->fT { nx:=λ_=>Q .non,rt:=Q } (aN ["ring","sides","one","other"] ds):=by
 rintro ds Q ⟨g,rfl,hl,q⟩
 rw[aU 3 rfl]
 unfold fT
 refine aR (λρ=>ρ=[some (.d (pts g)),some (.own []),none,none]) (λK hK=>?_) ?_
 ·walk_at "rd"
  exact hK _ rfl
 rintro ρ rfl
 refine aR (λρ=>∃u v,ρ=[some (.d (pts g)),some (.own ((cM g).map sdD)),u,v]) (λK hK=>?_) ?_
 ·have zz:∃ps:List (Pt × Pt),List.zipWith (λu v=>D.tup [u,v]) (g.map pt) (jJ (g.map pt) (some 1) none++jJ (g.map pt) none (some 1))=ps.map (λp=>D.tup [pt p.1,pt p.2])/\(ps.map λp=>sd p.1 p.2).flatten=cM g/\ps.length<=100:=by
   cases g with
   | nil=>exact⟨[],rfl,rfl,Nat.zero_le _⟩
   | cons a r =>
    refine⟨jT a (r++[a]),?_,(mH a (r++[a])).symm,by rw[oQ];simpa using hl⟩
    have c1:jJ ((a::r).map pt) (some 1) none=r.map pt:=qN (j:=1) (by simp)
    have c2:jJ ((a::r).map pt) none (some 1)=[pt a]:=FO (j:=1) (by simp)
    rw[c1,c2,<-vC a a r]
    simp
  obtain⟨ps,e1,e2,e3⟩:=zz
  simp only[cD,hU,aK,aD,r2,qA,jV,dX,rC,jP,List.getElem?_cons_zero]
  have cl:∀l u:Option Int,(jJ (g.map pt) l u).length<=100:=λl u=>by unfold jJ;rw[List.length_take,List.length_drop,List.length_map];omega
  refine⟨cO (by have:=cl (some 1) none;have:=cl none (some 1);omega),?_⟩
  rw[e1]
  refine cF (λxs ρ=>∃done todo:List (Pt × Pt),ps=done++todo/\xs=todo.map (λp=>D.tup [pt p.1,pt p.2])/\∃u v,ρ=[some (.d (pts g)),some (.own (((done.map λp=>sd p.1 p.2).flatten).map sdD)),u,v]) ?_ ?_ _ _ ⟨[],ps,rfl,rfl,_,_,rfl⟩
  ·rintro x xs ρ ⟨done,todo,eps,exs,u,v,rfl⟩ F hr hb hn hc
   cases todo with
   | nil=>cases exs
   | cons p todo =>
    rw[List.map_cons] at exs
    injection exs with ex exs
    subst ex exs
    have dl:((done.map λp=>sd p.1 p.2).flatten).length+1<=101:=by
     have h1:done.length<=100:=by rw[eps] at e3;simp at e3;omega
     have:((done.map λp=>sd p.1 p.2).flatten).length<=done.length:=by
      clear eps h1
      induction done with
      | nil=>exact Nat.le_refl _
      | cons z done ih=>have:=xA z.1 z.2;rw[List.map_cons,List.flatten_cons,List.length_append,List.length_cons];omega
     omega
    have go:∀w,w=sd p.1 p.2->F.nx [some (.d (pts g)),some (.own (((done.map λp=>sd p.1 p.2).flatten).map sdD++w.map sdD)),some (.d (pt p.1)),some (.d (pt p.2))]:=λw hw=>by
     refine hn _ ⟨done++[p],todo,by rw[eps];simp,rfl,some (.d (pt p.1)),some (.d (pt p.2)),?_⟩
     rw[hw,<-List.map_append]
     congr 4
     simp
    unfold iV
    walk_at "rd"
    by_cases h1:p.1.1<p.2.1
    ·have h2:¬p.2.1<p.1.1:=by omega
     simp only[h1,h2,decide_true,decide_false,if_true,if_false,Bool.false_eq_true]
     refine⟨cO (by rw[List.length_map];omega),?_⟩
     exact go [p] (by unfold sd;rw[if_pos h1])
    ·by_cases h2:p.2.1<p.1.1
     ·simp only[h1,h2,decide_true,decide_false,if_true,if_false,Bool.false_eq_true]
      refine⟨cO (by rw[List.length_map];omega),?_⟩
      exact go [(p.2,p.1)] (by unfold sd;rw[if_neg h1,if_pos h2])
     ·simp only[h1,h2,decide_false,if_false,Bool.false_eq_true]
      have:=go [] (by unfold sd;rw[if_neg h1,if_neg h2])
      simpa using this
  ·rintro ρ ⟨done,todo,eps,exs,u,v,rfl⟩
   have:todo=[]:=by cases todo with | nil=>rfl | cons _ _=>cases exs
   subst this
   rw[List.append_nil] at eps
   refine hK _ ⟨u,v,?_⟩
   rw[<-eps,e2]
 rintro ρ ⟨u,v,rfl⟩
 walk_at "rd"
 exact q
noncomputable def iQ:List (Int × List D)->Int->List D
 | [],_=>[]
 | (k',ds)::r,k=>if k'=k then ds else iQ r k
theorem uE:∀(kvs:List (Int × List D)) (k:Int) (d:D) (c:Int),iQ (eG kvs k d) c=if k=c then iQ kvs c++[d] else iQ kvs c
 | [],k,d,c=>by simp only[eG,iQ];split <;> rfl
 | (k',ds)::r,k,d,c=>by
  have ih:=uE r k d c
  unfold eG
  by_cases h:k'=k
  ·rw[if_pos h];subst h
   simp only[iQ]
   by_cases hc:k'=c
   ·rw[if_pos hc,if_pos hc,if_pos hc]
   ·rw[if_neg hc,if_neg hc,if_neg hc]
  ·rw[if_neg h]
   simp only[iQ]
   by_cases hc:k=c
   ·have:¬k'=c:=λe=>h (e.trans hc.symm)
    rw[if_neg this,if_pos hc,ih,if_pos hc,if_neg this]
   ·rw[if_neg hc,ih,if_neg hc]
theorem oO:∀(kvs:List (Int × List D)) (k:Int) (d:D),(eG kvs k d).map (·.1)=if k∈kvs.map (·.1) then kvs.map (·.1) else kvs.map (·.1)++[k]
 | [],k,d=>by simp[eG]
 | (k',ds)::r,k,d=>by
  have ih:=oO r k d
  unfold eG
  by_cases h:k'=k
  ·rw[if_pos h];subst h;simp
  ·rw[if_neg h,List.map_cons,ih]
   have h':¬k=k':=λe=>h e.symm
   by_cases hm:k∈r.map (·.1)
   ·rw[if_pos hm,if_pos (by rw[List.map_cons];exact .tail _ hm)];rfl
   ·rw[if_neg hm,if_neg (by rw[List.map_cons,List.mem_cons];exact λz=>z.elim h' hm)];rfl
theorem tK:∀(kvs:List (Int × List D)) (c:Int),c∈kvs.map (·.1)->jQ (kvs.map (·.1)) (kvs.map λp=>.lst p.2) c=some (.lst (iQ kvs c))
 | [],_,h=>by cases h
 | (k',ds)::r,c,h=>by
  simp only[List.map_cons,jQ,iQ]
  by_cases hc:k'=c
  ·rw[if_pos hc,if_pos hc]
  ·rw[if_neg hc,if_neg hc]
   rw[List.map_cons,List.mem_cons] at h
   exact tK r c (h.resolve_left λe=>hc e.symm)
theorem yO:∀(kvs:List (Int × List D)) (k:Int) (d:D) (n:Nat),kvs.length<=n->(∀p∈kvs,p.2.length<=n)->(eG kvs k d).length<=n+1/\∀p∈eG kvs k d,p.2.length<=n+1
 | [],k,d,n,_,_=>⟨by simp[eG],λp hp=>by simp[eG] at hp;subst hp;simp⟩
 | (k',ds)::r,k,d,n,hl,hp=>by
  unfold eG
  have hds:=hp (k',ds) (.head _)
  by_cases h:k'=k
  ·rw[if_pos h]
   refine⟨by simpa using Nat.le_succ_of_le hl,λp h'=>?_⟩
   rcases List.mem_cons.mp h' with rfl | h'
   ·simp;exact hds
   ·exact Nat.le_succ_of_le (hp p (.tail _ h'))
  ·rw[if_neg h]
   rw[List.length_cons] at hl
   have n1:n=(n-1)+1:=by omega
   obtain⟨i1,i2⟩:=yO r k d n (by omega) λp h'=>hp p (.tail _ h')
   have i3:(eG r k d).length<=r.length+1:=by
    clear i1 i2 hp hds hl
    induction r with
    | nil=>simp[eG]
    | cons z r ih=>unfold eG;split <;> simp <;> omega
   refine⟨by rw[List.length_cons];omega,λp h'=>?_⟩
   rcases List.mem_cons.mp h' with rfl | h'
   ·exact Nat.le_succ_of_le hds
   ·exact i2 p h'
noncomputable abbrev Ev:=Int × bE
noncomputable def evs (s:bE):List Ev:=(List.range (wid s).toNat).map λk:Nat=>(s.1.1+(k:Int),s)
noncomputable def cX (E:List Ev):List (Int × List D):=E.foldl (λm e=>eG m e.1 (sdD e.2)) []
theorem tZ (E:List Ev) (e:Ev):cX (E++[e])=eG (cX E) e.1 (sdD e.2):=by unfold cX;rw[List.foldl_append];rfl
theorem CQ (E:List Ev):((cX E).length<=E.length/\∀p∈cX E,p.2.length<=E.length)/\((cX E).map (·.1)).Nodup/\(∀c,c∈(cX E).map (·.1)↔∃e∈E,e.1=c)/\∀c,iQ (cX E) c=(E.filter λe=>decide (e.1=c)).map λe=>sdD e.2:=by
 refine snoc_ind (P:=λE=>((cX E).length<=E.length/\∀p∈cX E,p.2.length<=E.length)/\((cX E).map (·.1)).Nodup/\(∀c,c∈(cX E).map (·.1)↔∃e∈E,e.1=c)/\∀c,iQ (cX E) c=(E.filter λe=>decide (e.1=c)).map λe=>sdD e.2) ?_ ?_ E
 ·exact⟨⟨Nat.le_refl _,λp h=>by cases h⟩,List.nodup_nil,λc=>⟨λh=>(by cases h),λ⟨e,h,_⟩=>(by cases h)⟩,λc=>rfl⟩
 ·rintro E e ⟨⟨h1,h2⟩,h3,h4,h5⟩
  rw[tZ]
  refine⟨by rw[List.length_append];exact yO _ _ _ _ h1 h2,?_,λc=>?_,λc=>?_⟩
  ·rw[oO]
   split
   ·exact h3
   ·rename_i n
    exact List.nodup_append.mpr ⟨h3,List.pairwise_singleton _ _,λa ha b hb e'=>n (by rw[List.mem_singleton.mp hb] at e';exact e' ▸ ha)⟩
  ·rw[oO]
   split
   ·rename_i m
    rw[h4 c]
    constructor
    ·rintro⟨x,hx,rfl⟩;exact⟨x,List.mem_append_left _ hx,rfl⟩
    ·rintro⟨x,hx,rfl⟩
     rcases List.mem_append.mp hx with hx | hx
     ·exact⟨x,hx,rfl⟩
     ·rw[List.mem_singleton.mp hx];exact (h4 _).mp m
   ·rw[List.mem_append,h4 c,List.mem_singleton]
    constructor
    ·rintro (⟨x,hx,rfl⟩ | rfl)
     ·exact⟨x,List.mem_append_left _ hx,rfl⟩
     ·exact⟨e,List.mem_append_right _ (.head _),rfl⟩
    ·rintro⟨x,hx,rfl⟩
     rcases List.mem_append.mp hx with hx | hx
     ·exact .inl ⟨x,hx,rfl⟩
     ·rw[List.mem_singleton.mp hx];exact .inr rfl
  ·rw[uE,h5 c,List.filter_append,List.map_append]
   by_cases hc:e.1=c
   ·rw[if_pos hc];simp[hc]
   ·rw[if_neg hc];simp[hc]
where
 snoc_ind {α:Type} {P:List α->Prop} (h0:P []) (hs:∀E e,P E->P (E++[e])) (E:List α):P E:=by
  have:∀(n:Nat) (E:List α),E.length=n->P E:=by
   intro n
   induction n with
   | zero=>intro E h;rw[List.length_eq_zero_iff.mp h];exact h0
   | succ n ih =>
    intro E h
    rcases List.eq_nil_or_concat E with rfl | ⟨E',e,rfl⟩
    ·cases h
    ·rw[List.concat_eq_append] at h ⊢
     exact hs E' e (ih E' (by simpa using h))
  exact this _ E rfl
theorem GF (c:Int) (s:bE) (hw:0<wid s):((evs s).filter λe=>decide (e.1=c)).map (·.2)=if cov c s=true then [s] else []:=by
 have key:∀n:Nat,(((List.range n).map λk:Nat=>((s.1.1+(k:Int),s):Ev)).filter λe=>decide (e.1=c)).map (·.2)=if s.1.1<=c/\c<s.1.1+n then [s] else []:=by
  intro n
  induction n with
  | zero=>rw[if_neg (by omega)];rfl
  | succ n ih =>
   rw[List.range_succ,List.map_append,List.filter_append,List.map_append,ih]
   by_cases h1:s.1.1<=c/\c<s.1.1+n
   ·rw[if_pos h1,if_pos (by omega)]
    have:¬s.1.1+(n:Int)=c:=by omega
    simp[this]
   ·by_cases h2:s.1.1+(n:Int)=c
    ·rw[if_neg h1,if_pos (by omega)];simp[h2]
    ·rw[if_neg h1,if_neg (by omega)];simp[h2]
 unfold evs
 rw[key]
 by_cases h:cov c s=true
 ·have:=gK.mp h
  rw[if_pos h,if_pos (by unfold wid at *;omega)]
 ·rw[if_neg h,if_neg λk=>h (gK.mpr (by unfold wid at *;omega))]
theorem rW (c:Int):∀(S:List bE),(∀s∈S,0<wid s)->(((S.map evs).flatten).filter λe=>decide (e.1=c)).map (·.2)=S.filter (cov c)
 | [],_=>rfl
 | s::S,h=>by
  rw[List.map_cons,List.flatten_cons,List.filter_append,List.map_append,rW c S λx hx=>h x (.tail _ hx),GF c s (h s (.head _)),List.filter_cons]
  split <;> rfl
structure ColOf (S:List bE) (ks:List Int) (xs:List D):Prop where
 len:ks.length=xs.length
 nodup:ks.Nodup
 mem:∀c,c∈ks↔∃s∈S,cov c s=true
 here:∀c∈ks,jQ ks xs c=some (dJ (S.filter (cov c)))
theorem LX (S:List bE) (h:∀s∈S,0<wid s):ColOf S ((cX (S.map evs).flatten).map (·.1)) ((cX (S.map evs).flatten).map λp=>.lst p.2):=by
 obtain⟨_,h3,h4,h5⟩:=CQ (S.map evs).flatten
 refine⟨by simp,h3,λc=>?_,λc hc=>?_⟩
 ·rw[h4 c]
  have e:=rW c S h
  constructor
  ·rintro⟨x,hx,rfl⟩
   have:x.2∈(((S.map evs).flatten).filter λe=>decide (e.1=x.1)).map (·.2):=List.mem_map_of_mem (f:=(·.2)) (List.mem_filter.mpr ⟨hx,decide_eq_true rfl⟩)
   rw[e] at this
   exact⟨x.2,(List.mem_filter.mp this).1,(List.mem_filter.mp this).2⟩
  ·rintro⟨s,hs,k⟩
   have:s∈S.filter (cov c):=List.mem_filter.mpr ⟨hs,k⟩
   rw[<-e] at this
   obtain⟨x,hx,_⟩:=List.mem_map.mp this
   exact⟨x,(List.mem_filter.mp hx).1,by simpa using (List.mem_filter.mp hx).2⟩
 ·rw[tK _ c hc,h5 c]
  congr 2
  rw[<-rW c S h,List.map_map];rfl
local macro_rules | `(tactic| walk_at "rd")=>do
 let a <- ("aX bM bP yS dB bR cY HQ HN aP gZ cL gY aK aD rC r2 r1 bH sP rOr uP jU HP qV rIf aJ aB jO gQ aW rCB dX jV yU cD HZ riL riT pE IA sS eO eN jH rJ dA eI yT sR HS uV qA jP gL rL FS dNe sQ yZ hU eD jK gF gE eQ pQ vN fX kY vK nY oJ cQ fA lJ kZ lA lB lC lD lE lF lG lH lI jC jD tJ FP xR nZ lU pP sF sD sE sC sG S.val fM HU EQ AO ER ES HV HW ET HX HY yW yX yY List.map_cons List.map_nil List.cons_append List.nil_append List.length_cons List.length_nil List.getElem?_cons_zero List.getElem?_cons_succ List.set_cons_zero List.set_cons_succ List.append_nil Bool.or_false Bool.or_true Bool.false_or Bool.true_or Bool.not_true Bool.not_false if_true if_false Bool.false_eq_true sz0 sz1 sz2 sz3 sz4 true_and decide_eq_true_eq Int.reduceToNat Int.reducePow Int.reduceMul Int.reduceSub Int.reduceAdd Int.reduceNeg".splitOn " ").toArray.mapM λx=>`(Lean.Parser.Tactic.simpLemma| $(Lean.mkIdent x.toName):term)
 `(tactic| simp only[$a,*])
noncomputable abbrev cr (a b:Int × Int):Int:=a.1*b.2-a.2*b.1
namespace K12
end K12
theorem tT {g:RG} {t:RS} {E:DEnds} (xs:List D) (J:Nat->En->Prop) (step:∀i x ρ,xs[i]? = some x->J i ρ->∀F:DEnds,F.rt=E.rt->F.bk=E.nx->(∀ρ',J (i+1) ρ'->F.nx ρ')->(∀ρ',J (i+1) ρ'->F.ct ρ')->g x ρ λρ1=>t F ρ1)
  (last:∀ρ,J xs.length ρ->E.nx ρ) (ρ:En) (h:J 0 ρ):tS g t xs E ρ:=by
 refine cF (λys ρ=>∃i,i<=xs.length/\ys=xs.drop i/\J i ρ) ?_ ?_ xs ρ ⟨0,Nat.zero_le _,rfl,h⟩
 ·rintro x ys ρ ⟨i,hi,e,hJ⟩ F f1 f2 f3 f4
  have hlt:i<xs.length:=by
   apply Nat.not_le.mp
   intro hn
   rw[List.drop_of_length_le hn] at e;cases e
  rw[List.drop_eq_getElem_cons hlt] at e
  cases e
  exact step i _ ρ (List.getElem?_eq_getElem hlt) hJ F f1 f2 (λρ' h=>f3 ρ' ⟨i+1,by omega,rfl,h⟩) λρ' h=>f4 ρ' ⟨i+1,by omega,rfl,h⟩
 ·rintro ρ ⟨i,hi,e,hJ⟩
  have:i=xs.length:=by
   have:=congrArg List.length e
   simp at this;omega
  subst this
  exact last ρ hJ
theorem wW {lo:Int} {n i:Nat} {x:D} (h:(dU lo n)[i]? = some x):x = .int (lo+i)/\i<n:=by
 unfold dU at h
 rw[List.getElem?_map] at h
 by_cases hi:i<n
 ·rw[List.getElem?_range hi] at h;cases h;exact⟨rfl,hi⟩
 ·rw[List.getElem?_eq_none (by simpa using hi)] at h;cases h
theorem lN {g:RG} {t:RS} {E:DEnds} (lo:Int) (n:Nat) (J:Nat->En->Prop) (step:∀i ρ,i<n->J i ρ->∀F:DEnds,F.rt=E.rt->F.bk=E.nx->(∀ρ',J (i+1) ρ'->F.nx ρ')->(∀ρ',J (i+1) ρ'->F.ct ρ')->g (.int (lo+i)) ρ λρ1=>t F ρ1)
  (last:∀ρ,J n ρ->E.nx ρ) (ρ:En) (h:J 0 ρ):tS g t (dU lo n) E ρ:=by
 refine tT _ J (λi x ρ e hJ=>?_) (λρ h=>last ρ (by rwa [wX] at h)) ρ h
 obtain⟨rfl,hi⟩:=wW e
 exact step i ρ hi hJ
theorem ME {ns:List Int} {i:Int} {Q:D->Prop} (h0:0<=i) (h1:i<ns.length) (q:∀v,ns[i.toNat]? = some v->Q (.int v)):dIx (il ns) (.int i) Q:=by
 have hj:i.toNat<ns.length:=by omega
 exact xQ (AW (j:=i.toNat) (by omega) (by rw[List.getElem?_map,List.getElem?_eq_getElem hj];rfl)) (q _ (List.getElem?_eq_getElem hj))
noncomputable def nG:FD:=λds Q=>∃(ns:List Int) (k:Int),ds=[il ns,.int k]/\(0<=k/\k<=100000)/\∀v,0<=v->v<2147483647->Q (.int v)
theorem AD:∀ds Q,nG ds Q->ds.length=2:=by rintro ds Q ⟨_,_,rfl,_⟩;rfl
theorem oZ:∀ds Q,nG ds Q->dY { nx:=λ_=>Q .non,rt:=Q } (aN ["_law_script","_law_k","_law_cell","_law_number"] ds):=by
 rintro ds Q ⟨ns,k,rfl,⟨k0,k1⟩,q⟩
 rw[aU 2 rfl]
 unfold dY
 simp only[fM,AO,List.map_cons,List.map_nil,List.cons_append,List.nil_append]
 refine aR (λρ=>ρ=[some (.d (il ns)),some (.d (.int k)),some (.d (.int 0)),none]) (λK hK=>?_) ?_
 ·walk_at "rd"
  exact hK _ rfl
 rintro ρ rfl
 refine aR (λρ=>∃c:Int,ρ=[some (.d (il ns)),some (.d (.int k)),some (.d (.int c)),none]) (λK hK=>?_) ?_
 ·walk_at "rd"
  split
  ·rename_i h
   have hl:0<ns.length:=by simp at h;exact h
   have hm:∃m:Int,(if (((ns.map D.int).length:Nat):Int)<63 then (((ns.map D.int).length:Nat):Int) else 63)=m/\0<m/\m<=ns.length:=by
    refine⟨_,rfl,?_,?_⟩ <;> (simp;split <;> omega)
   obtain⟨m,em,m0,m1⟩:=hm
   rw[em]
   obtain⟨a0,a1⟩:=bJ (a:=k) (b:=m) m0
   exact⟨⟨by omega⟩,ME a0 (by omega) λv _=>hK _ ⟨v,rfl⟩⟩
  ·exact hK _ ⟨_,rfl⟩
 rintro ρ ⟨c,rfl⟩
 walk_at "rd"
 obtain⟨a0,a1⟩:=bJ (a:=c) (b:=1000000000000000000) (by decide)
 have b1:BL 100 (c.fmod 1000000000000000000+48271*(k+1)):=BL.of_lt (by omega) (by
  have:((2 ^ 100:Nat):Int)=1267650600228229401496703205376:=by decide
  omega)
 obtain⟨c0,c1⟩:=bJ (a:=(c.fmod 1000000000000000000+48271*(k+1))*(c.fmod 1000000000000000000+48271*(k+1))) (b:=2147483647) (by decide)
 exact⟨wJ,dS,(BL.const (n:=20) (by decide)).mulOk (n:=20) (BL.of_lt (by omega) (by omega)),b1.mulOk b1,dS,q _ c0 c1⟩
local macro_rules | `(tactic| walk_at "rd")=>do
 let a <- ("S.fz yR qU IM aX bM bP yS dB bR cY HQ HN aP gZ cL gY aK aD rC r2 r1 bH sP rOr uP jU HP qV rIf aJ aB jO gQ aW rCB dX jV yU cD HZ riL riT pE IA sS eO eN jH rJ dA eI yT sR HS uV qA jP gL rL FS dNe sQ yZ hU eD jK gF gE eQ pQ vN fX kY vK nY oJ cQ fA lJ kZ lA lB lC lD lE lF lG lH lI jC jD tJ FP xR nZ lU pP sF sD sE sC sG S.val fM HU EQ AO ER ES HV HW ET HX HY yW yX yY List.map_cons List.map_nil List.cons_append List.nil_append List.length_cons List.length_nil List.getElem?_cons_zero List.getElem?_cons_succ List.set_cons_zero List.set_cons_succ List.append_nil Bool.or_false Bool.or_true Bool.false_or Bool.true_or Bool.not_true Bool.not_false if_true if_false Bool.false_eq_true sz0 sz1 sz2 sz3 sz4 true_and decide_eq_true_eq Int.reduceToNat Int.reducePow Int.reduceMul Int.reduceSub Int.reduceAdd Int.reduceNeg".splitOn " ").toArray.mapM λx=>`(Lean.Parser.Tactic.simpLemma| $(Lean.mkIdent x.toName):term)
 `(tactic| simp only[$a,*])
noncomputable abbrev bF (R:List (List Pt)):List bE:=(R.map cM).flatten
structure RgsOk (R:List (List Pt)):Prop where
 len:R.length<=3
 each:∀g∈R,g.length<=5
 wide:∀s∈bF R,wid s<=5
theorem RgsOk.pos {R:List (List Pt)}:∀s∈bF R,0<wid s:=λs hs=>by
 obtain⟨l,hl,hs⟩:=List.mem_flatten.mp hs
 obtain⟨g,hg,rfl⟩:=List.mem_map.mp hl
 exact (qX hs).2
theorem gG {α β:Type} (f:α->List β) (n:Nat):∀(l:List α),(∀x∈l,(f x).length<=n)->((l.map f).flatten).length<=n*l.length
 | [],_=>Nat.zero_le _
 | x::l,h=>by
  have h1:=h x (.head _)
  have h2:=gG f n l λy hy=>h y (.tail _ hy)
  rw[List.map_cons,List.flatten_cons,List.length_append,List.length_cons,Nat.mul_succ];omega
theorem RgsOk.slen {R:List (List Pt)} (o:RgsOk R):(bF R).length<=15:=by
 have:=gG cM 5 R λg hg=>Nat.le_trans (mF g) (o.each g hg)
 have:=o.len
 show ((R.map cM).flatten).length<=15
 omega
theorem GG {s:bE} (h:wid s<=5):(evs s).length<=5:=by unfold evs;rw[List.length_map,List.length_range];omega
noncomputable def nF:FD:=λds Q=>∃R:List (List Pt),ds=[cI R]/\RgsOk R/\∀ks xs,ColOf (bF R) ks xs->Q (.dct ks xs)
theorem AC:∀ds Q,nF ds Q->ds.length=1:=by rintro ds Q ⟨_,rfl,_⟩;rfl
theorem iT:∀ds Q,nF ds Q->cC jB { nx:=λ_=>Q .non,rt:=Q } (aN ["rings","columns","ring","side","column"] ds):=by
 rintro ds Q ⟨R,rfl,ok,q⟩
 rw[aU 4 rfl]
 unfold cC
 have fits:∀E:List Ev,(∃E',(((bF R).map evs).flatten)=E++E')->E.length<=75:=λE ⟨E',e⟩=>by
  have h1:=gG evs 5 (bF R) λs hs=>GG (ok.wide s hs)
  have h2:=ok.slen
  have h3:=Nat.mul_le_mul_left 5 h2
  rw[e,List.length_append] at h1;omega
 refine aR (λρ=>ρ=[some (.d (cI R)),some (.dcl (cX [])),none,none,none]) (λK hK=>?_) ?_
 ·walk_at "rd"
  exact hK _ rfl
 rintro ρ rfl
 refine aR (λρ=>∃u v w,ρ=[some (.d (cI R)),some (.dcl (cX (((bF R).map evs).flatten))),u,v,w]) (λK hK=>?_) ?_
 ·simp only[cD,riL,aK,List.getElem?_cons_zero]
  refine cF (λxs ρ=>∃done todo:List (List Pt),R=done++todo/\xs=todo.map pts/\∃u v w,ρ=[some (.d (cI R)),some (.dcl (cX (((bF done).map evs).flatten))),u,v,w]) ?_ ?_ _ _ ⟨[],R,rfl,rfl,_,_,_,rfl⟩
  ·rintro x xs ρ ⟨done,todo,eR,exs,u,v,w,rfl⟩ F hr hb hn hc
   cases todo with
   | nil=>cases exs
   | cons g todo =>
    rw[List.map_cons] at exs
    injection exs with ex exs
    subst ex exs
    have hg:g∈R:=by rw[eR];exact List.mem_append_right _ (.head _)
    unfold dP
    simp only[aP,cD,riL,aW,aB,aJ,aK,List.getElem?_cons_zero,List.getElem?_cons_succ,List.set_cons_zero,List.set_cons_succ]
    refine⟨g,rfl,Nat.le_trans (ok.each g hg) (by decide),?_⟩
    dsimp only
    have eA:bF R=(bF done++cM g)++bF todo:=by rw[eR];simp[bF]
    refine cF (λxs ρ=>∃d2 t2:List bE,cM g=d2++t2/\xs=t2.map sdD/\∃v w,ρ=[some (.d (cI R)),some (.dcl (cX (((bF done++d2).map evs).flatten))),some (.d (pts g)),v,w]) ?_ ?_ _ _ ⟨[],cM g,rfl,rfl,v,w,by rw[List.append_nil]⟩
    ·rintro x xs ρ ⟨d2,t2,eS,exs,v,w,rfl⟩ F2 hr2 hb2 hn2 hc2
     cases t2 with
     | nil=>cases exs
     | cons s t2 =>
      rw[List.map_cons] at exs
      injection exs with ex exs
      subst ex exs
      unfold dO
      simp only[aP,cD,uR,aB,aJ,r2,aD,rC,cQ,fA,List.getElem?_cons_zero,List.getElem?_cons_succ,List.set_cons_zero,List.set_cons_succ]
      have eW:(s.2.1-s.1.1).toNat=(wid s).toNat:=rfl
      rw[eW]
      refine lN s.1.1 (wid s).toNat (λi ρ=>∃w,ρ=[some (.d (cI R)),some (.dcl (cX (((bF done++d2).map evs).flatten++(evs s).take i))),some (.d (pts g)),some (.d (sdD s)),w]) ?_ ?_ _ ⟨w,by rw[List.take_zero,List.append_nil]⟩
      ·rintro i ρ hi ⟨w,rfl⟩ F3 hr3 hb3 hn3 hc3
       have ei:(evs s)[i]? = some (s.1.1+(i:Int),s):=by unfold evs;rw[List.getElem?_map,List.getElem?_range hi];rfl
       have et:(evs s).take (i+1)=(evs s).take i++[(s.1.1+(i:Int),s)]:=by rw[List.take_succ,ei];rfl
       obtain⟨⟨k1,k2⟩,_⟩:=CQ (((bF done++d2).map evs).flatten++(evs s).take i)
       have fit:=fits (((bF done++d2).map evs).flatten++(evs s).take i) ⟨(evs s).drop i++(t2.map evs).flatten++((bF todo).map evs).flatten,by
        rw[eA,eS];simp only[List.map_append,List.map_cons,List.flatten_append,List.flatten_cons,List.append_assoc]
        rw[<-List.append_assoc ((evs s).take i),List.take_append_drop]⟩
       unfold dN
       simp only[aP,yQ,aK,List.getElem?_cons_zero,List.getElem?_cons_succ,List.set_cons_zero,List.set_cons_succ]
       refine⟨cO (by omega),λp hp=>cO (by have:=k2 p hp;omega),?_⟩
       refine hn3 _ ⟨some (.d (.int (s.1.1+(i:Int)))),?_⟩
       rw[et,<-List.append_assoc,tZ]
      ·rintro ρ ⟨w,rfl⟩
       refine hn2 _ ⟨d2++[s],t2,by rw[eS];simp,rfl,some (.d (sdD s)),w,?_⟩
       have:(evs s).take (wid s).toNat=evs s:=List.take_of_length_le (by unfold evs;simp)
       rw[this,<-List.append_assoc,List.map_append,List.flatten_append]
       simp
    ·rintro ρ ⟨d2,t2,eS,exs,v,w,rfl⟩
     have:t2=[]:=by cases t2 with | nil=>rfl | cons _ _=>cases exs
     subst this
     rw[List.append_nil] at eS
     refine hn _ ⟨done++[g],todo,by rw[eR];simp,rfl,some (.d (pts g)),v,w,?_⟩
     rw[<-eS];simp[bF]
  ·rintro ρ ⟨done,todo,eR,exs,u,v,w,rfl⟩
   have:todo=[]:=by cases todo with | nil=>rfl | cons _ _=>cases exs
   subst this
   rw[List.append_nil] at eR
   rw[<-eR]
   exact hK _ ⟨u,v,w,rfl⟩
 rintro ρ ⟨u,v,w,rfl⟩
 simp only[dA,S.fz,bP,aK,List.getElem?_cons_zero,List.getElem?_cons_succ,List.set_cons_zero,List.set_cons_succ]
 exact q _ _ (LX (bF R) RgsOk.pos)
noncomputable def nU:FD:=λds Q=>∃ws:List Int,ds=[il ws]/\ws.length<=15/\(∀w∈ws,0<w/\w<=5)/\∀B,0<B->(∀w∈ws,w∣B)->BL 50 B->Q (.int B)
theorem CV:∀ds Q,nU ds Q->ds.length=1:=by rintro ds Q ⟨_,rfl,_⟩;rfl
theorem iR:∀ds Q,nU ds Q->cA xF { nx:=λ_=>Q .non,rt:=Q } (aN ["numbers","multiple","number"] ds):=by
 rintro ds Q ⟨ws,rfl,hl,hw,q⟩
 rw[aU 2 rfl]
 unfold cA
 refine aR (λρ=>ρ=[some (.d (il ws)),some (.d (.int 1)),none]) (λK hK=>?_) ?_
 ·walk_at "rd"
  exact hK _ rfl
 rintro ρ rfl
 refine aR (λρ=>∃(B:Int) (u:Option S),(0<B/\(∀w∈ws,w∣B)/\B<=((5 ^ 15:Nat):Int))/\ρ=[some (.d (il ws)),some (.d (.int B)),u]) (λK hK=>?_) ?_
 ·simp only[cD,riL,aK,List.getElem?_cons_zero]
  refine cF (λxs ρ=>∃done todo:List Int,ws=done++todo/\xs=todo.map .int/\∃(B:Int) (u:Option S),(0<B/\(∀w∈done,w∣B)/\B<=((5 ^ done.length:Nat):Int))/\ρ=[some (.d (il ws)),some (.d (.int B)),u]) ?_ ?_ _ _ ⟨[],ws,rfl,rfl,1,none,⟨by decide,(λw h=>by cases h),by decide⟩,rfl⟩
  ·rintro x xs ρ ⟨done,todo,e,exs,B,u,⟨h1,h2,h3⟩,rfl⟩ F hr hb hn hc
   cases todo with
   | nil=>cases exs
   | cons w todo =>
    rw[List.map_cons] at exs
    injection exs with ex exs
    subst ex exs
    obtain⟨w0,w5⟩:=hw w (by rw[e];exact List.mem_append_right _ (.head _))
    have dl:done.length<=14:=by rw[e] at hl;simp at hl;omega
    have pw:((5 ^ done.length:Nat):Int)<=((5 ^ 14:Nat):Int):=Int.ofNat_le.mpr (Nat.pow_le_pow_right (by decide) dl)
    have bB:BL 50 B:=BL.of_lt (by omega) (Int.lt_of_le_of_lt (Int.le_trans h3 pw) (by decide))
    have bw:BL 50 w:=BL.of_lt (by omega) (Int.lt_of_le_of_lt w5 (by decide))
    unfold dM
    simp only[aP,bR,aW,aB,aJ,aK,List.getElem?_cons_zero,List.getElem?_cons_succ,List.set_cons_zero,List.set_cons_succ]
    refine⟨B,w,rfl,⟨h1,w0⟩,⟨bB.mono (by decide),bw.mono (by decide)⟩,λl l0 d1 d2 le=>?_⟩
    refine hn _ ⟨done++[w],todo,by rw[e];simp,rfl,l,some (.d (.int w)),⟨l0,λv hv=>?_,?_⟩,rfl⟩
    ·rcases List.mem_append.mp hv with hv | hv
     ·exact Int.dvd_trans (h2 v hv) d1
     ·rw[List.mem_singleton.mp hv];exact d2
    ·rw[List.length_append,List.length_singleton,Nat.pow_succ,Int.natCast_mul]
     have k1:=Int.mul_le_mul_of_nonneg_right h3 (Int.le_of_lt w0)
     have k2:=Int.mul_le_mul_of_nonneg_left w5 (Int.natCast_nonneg (5 ^ done.length))
     exact Int.le_trans le (Int.le_trans k1 k2)
  ·rintro ρ ⟨done,todo,e,exs,B,u,⟨h1,h2,h3⟩,rfl⟩
   have:todo=[]:=by cases todo with | nil=>rfl | cons _ _=>cases exs
   subst this
   rw[List.append_nil] at e
   subst e
   exact hK _ ⟨B,u,⟨h1,h2,Int.le_trans h3 (Int.ofNat_le.mpr (Nat.pow_le_pow_right (by decide) hl))⟩,rfl⟩
 rintro ρ ⟨B,u,⟨h1,h2,h3⟩,rfl⟩
 walk_at "rd"
 exact q B h1 h2 (BL.of_lt (by omega) (Int.lt_of_le_of_lt h3 (by decide)))
noncomputable def qE:FD:=λds Q=>∃s:bE,ds=[sdD s]/\Q (.int (wid s))
theorem GT:∀ds Q,qE ds Q->ds.length=1:=by rintro ds Q ⟨_,rfl,_⟩;rfl
theorem pZ:∀ds Q,qE ds Q->fU { nx:=λ_=>Q .non,rt:=Q } (aN ["side"] ds):=by
 rintro ds Q ⟨s,rfl,q⟩
 rw[aU 0 rfl]
 unfold fU
 walk_at "rd"
 exact q
structure SdB (s:bE):Prop where
 x1:BL 200 s.1.1
 y1:BL 200 s.1.2
 x2:BL 200 s.2.1
 y2:BL 200 s.2.2
noncomputable def xE:FD:=λds Q=>∃(s:bE) (t B:Int),ds=[sdD s,.int t,.int B]/\(SdB s/\wid s≠0/\BL 202 t/\BL 50 B)/\Q (.int (hB B s t))
theorem GQ:∀ds Q,xE ds Q->ds.length=3:=by rintro ds Q ⟨_,_,_,rfl,_⟩;rfl
theorem oY:∀ds Q,xE ds Q->eX qE { nx:=λ_=>Q .non,rt:=Q } (aN ["side","thread","bottom","left","width","climb"] ds):=by
 rintro ds Q ⟨s,t,B,rfl,⟨b,w0,bt,bB⟩,q⟩
 rw[aU 3 rfl]
 unfold eX
 have bw:BL 201 (wid s):=b.x2.sub b.x1
 refine aR (λρ=>ρ=[some (.d (sdD s)),some (.d (.int t)),some (.d (.int B)),some (.d (pt s.1)),none,none]) (λK hK=>?_) ?_
 ·walk_at "rd"
  exact hK _ rfl
 rintro ρ rfl
 refine aR (λρ=>ρ=[some (.d (sdD s)),some (.d (.int t)),some (.d (.int B)),some (.d (pt s.1)),some (.d (.int (wid s))),none]) (λK hK=>?_) ?_
 ·simp only[bR,aW,aB,aJ,aK,List.getElem?_cons_zero,List.getElem?_cons_succ,List.set_cons_zero,List.set_cons_succ]
  exact⟨s,rfl,hK _ rfl⟩
 rintro ρ rfl
 walk_at "rd"
 refine⟨(b.y2.sub b.y1).mulOk (bt.sub b.x1),b.y1.mulOk bw,(bw.mono (by decide)).divOk w0,?_,q⟩
 exact ((b.y1.mul bw).add ((b.y2.sub b.y1).mul (bt.sub b.x1))).mulOk (bB.fdiv)
theorem GU (z w:Pt):cR [z.1,z.2] [w.1,w.2]=decide (ltP z w):=by
 unfold ltP
 simp only[cR]
 by_cases h:z.1=w.1
 ·rw[if_pos h]
  by_cases h2:z.2=w.2
  ·rw[if_pos h2];simp[h,h2]
  ·rw[if_neg h2];simp[h]
 ·rw[if_neg h];simp[h]
structure SdsOk (S:List bE) (c B:Int):Prop where
 len:S.length<=15
 bd:∀s∈S,SdB s
 ok:∀s∈S,SdOk s
 cb:BL 200 c
 pos:0<B
 dv:∀s∈S,wid s∣B
 bB:BL 50 B
noncomputable def JG:FD:=λds Q=>∃(S:List bE) (c B:Int),ds=[dJ S,.int c,.int B]/\SdsOk S c B/\(∀x∈S.map (prB B c),∀y∈S.map (prB B c),x.1<y.1->x.2<=y.2)/\∀M:List IP,M.Perm (S.map (prB B c))->mI M->Q (pts M)
theorem FA {L:List IP} {mss:List (List Int)} (p:mss.Perm (L.map λz=>[z.1,z.2])) (h:mss.Pairwise λx y=>cR y x=false):∃M:List IP,M.Perm L/\mss.map gD=M.map pt/\M.Pairwise λx y=>¬ltP y x:=by
 have e1:∀ms∈mss,[ms.getD 0 0,ms.getD 1 0]=ms:=λms hm=>by
  obtain⟨z,_,rfl⟩:=List.mem_map.mp (p.mem_iff.mp hm);rfl
 refine⟨mss.map λl=>(l.getD 0 0,l.getD 1 0),?_,?_,?_⟩
 ·have:=p.map λl:List Int=>(l.getD 0 0,l.getD 1 0)
  rw[List.map_map] at this
  have e:((λl:List Int=>((l.getD 0 0,l.getD 1 0):IP)) ∘ λz:IP=>[z.1,z.2])=id:=by funext z;rfl
  rw[e,List.map_id] at this
  exact this
 ·rw[List.map_map]
  refine List.map_congr_left λms hm=>?_
  show D.tup (ms.map .int)=D.tup [.int (ms.getD 0 0),.int (ms.getD 1 0)]
  conv=>lhs;rw[<-e1 ms hm]
  rfl
 ·rw[List.pairwise_map]
  refine h.imp_of_mem λ{x y} hx hy k=>?_
  rw[<-e1 x hx,<-e1 y hy] at k
  have:=GU (y.getD 0 0,y.getD 1 0) (x.getD 0 0,x.getD 1 0)
  rw[k] at this
  exact of_decide_eq_false this.symm
theorem zB:∀(M:List IP),List.zipWith (λa b=>D.tup [a,b]) (alt ((M.map pt).drop 0)) (alt ((M.map pt).drop 1))=(nD M).map λz=>D.tup [pt z.1,pt z.2]
 | []=>by simp[alt,nD]
 | [x]=>by simp[alt,nD]
 | x::y::r=>by
  have ih:=zB r
  simp only[List.drop_zero] at ih ⊢
  have e:alt (((x::y::r).map pt).drop 1)=pt y::alt ((r.map pt).drop 1):=by
   cases r with
   | nil=>simp[alt]
   | cons w r=>simp[alt]
  have e0:alt ((x::y::r).map pt)=pt x::alt (r.map pt):=by simp[alt]
  rw[e,e0,List.zipWith_cons_cons,ih];rfl
theorem JT (n:Nat) (z w:IP):eqL (eqF (n+1)) [.int z.1,.int z.2] [.int w.1,.int w.2]=some (decide (z=w)):=by
 obtain⟨a,b⟩:=z
 obtain⟨c,d⟩:=w
 simp only[eqF,eqL]
 congr 1
 by_cases h1:a=c <;> by_cases h2:b=d <;> simp[h1,h2]
noncomputable def IK (B c:Int) (z:IP × IP) (d:D):Prop:=∃p1 q1 p2 q2 p3 q3 p4 q4,(Low z.1.1 B p1 q1/\Low z.1.2 B p2 q2/\Low z.2.1 B p3 q3/\Low z.2.2 B p4 q4)/\d = .tup [.int c,fr p1 q1,fr p2 q2,fr p3 q3,fr p4 q4]
inductive RowsOf (B c:Int):List (IP × IP)->List D->Prop
 | nil:RowsOf B c [] []
 | cons {z:IP × IP} {d:D} {zs:List (IP × IP)} {ds:List D} (h:IK B c z d) (t:RowsOf B c zs ds):RowsOf B c (z::zs) (d::ds)
theorem RowsOf.snoc {B c:Int} {zs:List (IP × IP)} {ds:List D} (t:RowsOf B c zs ds) {z:IP × IP} {d:D} (h:IK B c z d):RowsOf B c (zs++[z]) (ds++[d]):=by
 induction t with
 | nil=>exact .cons h .nil
 | cons h' _ ih=>exact .cons h' ih
theorem RowsOf.length {B c:Int} {zs:List (IP × IP)} {ds:List D} (t:RowsOf B c zs ds):zs.length=ds.length:=by
 induction t with
 | nil=>rfl
 | cons _ _ ih=>rw[List.length_cons,List.length_cons,ih]
noncomputable abbrev kept (M:List IP):List (IP × IP):=(nD M).filter λz=>decide (z.1≠z.2)
theorem pJ {α:Type}:∀L:List α,(nD L).length<=L.length
 | []=>Nat.le_refl _
 | [x]=>Nat.zero_le _
 | x::y::r=>by have:=pJ r;rw[nD,List.length_cons,List.length_cons,List.length_cons];omega
structure ColIn (S:List bE) (c:Int):Prop where
 len:S.length<=15
 bd:∀s∈S,SdB s
 ok:∀s∈S,SdOk s
 five:∀s∈S,wid s<=5
 cb:BL 200 c
 cv:∀s∈S,cov c s=true
 unc:aO S c
structure ColB (S:List bE) (c:Int) (B:Int) (M:List IP) (rows:List D):Prop where
 pos:0<B
 dv:∀s∈S,wid s∣B
 bB:BL 50 B
 perm:M.Perm (S.map (prB B c))
 up:mI M
 rows:RowsOf B c (kept M) rows
noncomputable def JF:FD:=λds Q=>∃(S:List bE) (c:Int),ds=[dJ S,.int c]/\ColIn S c/\∀B M rows,ColB S c B M rows->Q (.lst rows)
theorem jM {G:FD} (hG:∀ds Q,JG ds Q->G ds Q):∀ds Q,JF ds Q->eM nU G bK qE { nx:=λ_=>Q .non,rt:=Q } (aN ["sides","column","bottom","heights","rows","low","up","edges"] ds):=by
 rintro ds Q ⟨Sd,c,rfl,ok,q⟩
 rw[aU 6 rfl]
 unfold eM
 refine aR (λρ=>∃B,(0<B/\(∀s∈Sd,wid s∣B)/\BL 50 B)/\ρ=[some (.d (dJ Sd)),some (.d (.int c)),some (.d (.int B)),none,none,none,none,none]) (λK hK=>?_) ?_
 ·walk_at "rd"
  refine⟨cO (by rw[List.length_map];have:=ok.len;omega),?_⟩
  refine iG (λρ=>∃a,ρ=[a]) sdD (λs=>.int (wid s)) Sd ?_ ⟨_,rfl⟩ ?_
  ·rintro s hs ρ ⟨a,rfl⟩ K' hK'
   simp only[aP,aW,aB,aJ,aK,List.getElem?_cons_zero,List.set_cons_zero]
   exact⟨s,rfl,hK' _ ⟨_,rfl⟩⟩
  ·refine⟨Sd.map wid,by show _=[D.lst ((Sd.map wid).map .int)];rw[List.map_map];rfl,by rw[List.length_map];exact ok.len,λw hw=>?_,λB h1 h2 h3=>?_⟩
   ·obtain⟨s,hs,rfl⟩:=List.mem_map.mp hw
    exact⟨(ok.ok s hs).pos,ok.five s hs⟩
   ·exact hK _ ⟨B,⟨h1,λs hs=>h2 _ (List.mem_map_of_mem hs),h3⟩,rfl⟩
 rintro ρ ⟨B,⟨hB0,hdv,bB⟩,rfl⟩
 refine aR (λρ=>∃M:List IP,(M.Perm (Sd.map (prB B c))/\mI M)/\ρ=[some (.d (dJ Sd)),some (.d (.int c)),some (.d (.int B)),some (.d (pts M)),none,none,none,none]) (λK hK=>?_) ?_
 ·simp only[bR,aW,aB,aJ,aK,List.getElem?_cons_zero,List.getElem?_cons_succ,List.set_cons_zero,List.set_cons_succ]
  exact hG _ _ ⟨Sd,c,B,rfl,⟨ok.len,ok.bd,ok.ok,ok.cb,hB0,hdv,bB⟩,FM hB0 ok.ok hdv ok.cv ok.unc,λM pm up=>hK _ ⟨M,⟨pm,up⟩,rfl⟩⟩
 rintro ρ ⟨M,⟨pm,up⟩,rfl⟩
 have ml:M.length<=15:=by rw[pm.length_eq,List.length_map];exact ok.len
 refine aR (λρ=>ρ=[some (.d (dJ Sd)),some (.d (.int c)),some (.d (.int B)),some (.d (pts M)),some (.own []),none,none,none]) (λK hK=>?_) ?_
 ·walk_at "rd"
  exact hK _ rfl
 rintro ρ rfl
 refine aR (λρ=>∃rows u v w,RowsOf B c (kept M) rows/\ρ=[some (.d (dJ Sd)),some (.d (.int c)),some (.d (.int B)),some (.d (pts M)),some (.own rows),u,v,w]) (λK hK=>?_) ?_
 ·simp only[cD,hU,uO,aD,List.getElem?_cons_zero,List.getElem?_cons_succ]
  rw[zB M]
  have tl:(nD M).length<=15:=Nat.le_trans (pJ M) ml
  generalize hT:nD M=T at tl
  refine cF (λxs ρ=>∃done todo:List (IP × IP),T=done++todo/\xs=todo.map (λz=>D.tup [pt z.1,pt z.2])/\∃rows u v w,RowsOf B c (done.filter λz=>decide (z.1≠z.2)) rows/\ρ=[some (.d (dJ Sd)),some (.d (.int c)),some (.d (.int B)),some (.d (pts M)),some (.own rows),u,v,w]) ?_ ?_ _ _ ⟨[],T,rfl,rfl,[],none,none,none,.nil,rfl⟩
  ·rintro x xs ρ ⟨done,todo,eT,exs,rows,u,v,w,hR,rfl⟩ F hr hb hn hc
   cases todo with
   | nil=>cases exs
   | cons z todo =>
    rw[List.map_cons] at exs
    injection exs with ex exs
    subst ex exs
    have rl:rows.length<=15:=by
     rw[<-hR.length]
     have h1:=List.length_filter_le (λz:IP × IP=>decide (z.1≠z.2)) done
     rw[eT] at tl;simp at tl;omega
    unfold fG
    simp only[gZ,cL,aP,gY,uV,List.set_cons_zero,List.set_cons_succ,List.length_cons,List.length_nil,true_and]
    simp only[dB,bH,r2,aD,dNe,List.getElem?_cons_zero,List.getElem?_cons_succ,JT,true_and]
    by_cases hz:z.1=z.2
    ·simp only[hz,decide_true,Bool.not_true,Bool.false_eq_true,if_false,bM]
     refine hn _ ⟨done++[z],todo,by rw[eT];simp,rfl,rows,some (.d (pt z.2)),some (.d (pt z.2)),w,?_,rfl⟩
     rw[List.filter_append]
     simpa [hz] using hR
    ·simp only[hz,decide_false,Bool.not_false,if_true]
     refine aR (λρ=>∃p1 q1 p2 q2 p3 q3 p4 q4,(Low z.1.1 B p1 q1/\Low z.1.2 B p2 q2/\Low z.2.1 B p3 q3/\Low z.2.2 B p4 q4)/\ρ=[some (.d (dJ Sd)),some (.d (.int c)),some (.d (.int B)),some (.d (pts M)),some (.own rows),some (.d (pt z.1)),some (.d (pt z.2)),some (.own [fr p1 q1,fr p2 q2,fr p3 q3,fr p4 q4])]) (λK' hK'=>?_) ?_
     ·have bb:B≠0/\BL 9000 B:=⟨by omega,bB.mono (by decide)⟩
      walk_at "rd"
      refine⟨by simp,?_⟩
      refine⟨_,_,rfl,bb,λp1 q1 l1=>⟨_,_,rfl,bb,λp2 q2 l2=>⟨_,_,rfl,bb,λp3 q3 l3=>⟨_,_,rfl,bb,λp4 q4 l4=>?_⟩⟩⟩⟩
      exact hK' _ ⟨p1,q1,p2,q2,p3,q3,p4,q4,⟨l1,l2,l3,l4⟩,rfl⟩
     rintro ρ ⟨p1,q1,p2,q2,p3,q3,p4,q4,⟨l1,l2,l3,l4⟩,rfl⟩
     walk_at "rd"
     refine⟨cO (by decide),cO (by omega),?_⟩
     refine hn _ ⟨done++[z],todo,by rw[eT];simp,rfl,rows++[.tup [.int c,fr p1 q1,fr p2 q2,fr p3 q3,fr p4 q4]],some (.d (pt z.1)),some (.d (pt z.2)),some (.own [fr p1 q1,fr p2 q2,fr p3 q3,fr p4 q4]),?_,rfl⟩
     rw[List.filter_append]
     have e:[z].filter (λz:IP × IP=>decide (z.1≠z.2))=[z]:=by simp[hz]
     rw[e]
     exact hR.snoc ⟨p1,q1,p2,q2,p3,q3,p4,q4,⟨l1,l2,l3,l4⟩,rfl⟩
  ·rintro ρ ⟨done,todo,eT,exs,rows,u,v,w,hR,rfl⟩
   have:todo=[]:=by cases todo with | nil=>rfl | cons _ _=>cases exs
   subst this
   rw[List.append_nil] at eT
   refine hK _ ⟨rows,u,v,w,?_,rfl⟩
   show RowsOf B c ((nD M).filter λz=>decide (z.1≠z.2)) rows
   rw[hT,eT];exact hR
 rintro ρ ⟨rows,u,v,w,hR,rfl⟩
 simp only[dA,L2.R2.S.fz,bP,aK,List.getElem?_cons_zero,List.getElem?_cons_succ,List.set_cons_zero,List.set_cons_succ]
 exact q B M rows ⟨hB0,hdv,bB,pm,up,hR⟩
structure BandsIn (R:List (List Pt)) (o:Int):Prop where
 len:R.length<=3
 each:∀g∈R,g.length<=5
 near:∀s∈bF R,o<=s.1.1/\s.2.1<=o+5
 bd:∀s∈bF R,SdB s
 unc:∀c,aO (bF R) c
theorem BandsIn.five {R:List (List Pt)} {o:Int} (h:BandsIn R o):∀s∈bF R,wid s<=5:=λs hs=>by
 have:=h.near s hs;unfold wid;omega
theorem IQ {w:Int} (h0:0<w) (h5:w<=5):w∣60:=by
 have:w=1\/w=2\/w=3\/w=4\/w=5:=by omega
 rcases this with rfl | rfl | rfl | rfl | rfl <;> decide
theorem BandsIn.ok {R:List (List Pt)} {o:Int} (h:BandsIn R o):∀s∈bF R,SdOk s:=λs hs=>⟨RgsOk.pos s hs,IQ (RgsOk.pos s hs) (h.five s hs)⟩
inductive AllB (Sd:List bE):List Int->List D->Prop
 | nil:AllB Sd [] []
 | cons {c B:Int} {M:List IP} {r rows:List D} {cs:List Int} (h:ColB (Sd.filter (cov c)) c B M r) (t:AllB Sd cs rows):AllB Sd (c::cs) (r++rows)
theorem AllB.snoc {Sd:List bE} {cs:List Int} {rows:List D} (t:AllB Sd cs rows) {c B:Int} {M:List IP} {r:List D} (h:ColB (Sd.filter (cov c)) c B M r):AllB Sd (cs++[c]) (rows++r):=by
 induction t with
 | nil=>have:=AllB.cons h .nil;simpa using this
 | cons h' _ ih=>rw[List.append_assoc];exact .cons h' ih
theorem ColB.rlen {Sd:List bE} {c B:Int} {M:List IP} {r:List D} (h:ColB Sd c B M r):r.length<=Sd.length:=by
 rw[<-h.rows.length]
 have h1:=List.length_filter_le (λz:IP × IP=>decide (z.1≠z.2)) (nD M)
 have h2:=pJ M
 have h3:=h.perm.length_eq
 rw[List.length_map] at h3
 show ((nD M).filter λz=>decide (z.1≠z.2)).length<=_
 omega
theorem AllB.rlen {Sd:List bE} {cs:List Int} {rows:List D} (t:AllB Sd cs rows):rows.length<=cs.length*Sd.length:=by
 induction t with
 | nil=>exact Nat.zero_le _
 | @cons c B M r rows cs h t ih =>
  have h1:=h.rlen
  have h2:=List.length_filter_le (cov c) Sd
  rw[List.length_append,List.length_cons,Nat.succ_mul];omega
noncomputable def fN:FD:=λds Q=>∃(R:List (List Pt)) (o:Int),ds=[cI R]/\BandsIn R o/\∀cs rows,cs.Pairwise (· < ·)->(∀c,c∈cs↔∃s∈bF R,cov c s=true)->AllB (bF R) cs rows->cs.length<=5->Q (.lst rows)
theorem wE {ks:List Int} {o:Int} (hn:ks.Nodup) (h:∀c∈ks,o<=c/\c<o+5):ks.length<=5:=by
 have:∀(l m:List Int),l.Nodup->(∀x∈l,x∈m)->l.length<=m.length:=by
  intro l
  induction l with
  | nil=>intro m _ _;exact Nat.zero_le _
  | cons x l ih =>
   intro m hn hs
   have hx:=hs x (.head _)
   have hn':=List.nodup_cons.mp hn
   have:=ih (m.erase x) hn'.2 λy hy=>(List.mem_erase_of_ne λ(e:y=x)=>hn'.1 (e ▸ hy)).mpr (hs y (.tail _ hy))
   rw[List.length_erase_of_mem hx] at this
   exact Nat.le_trans (Nat.succ_le_succ this) (Nat.le_of_eq (Nat.succ_pred_eq_of_pos (List.length_pos_of_mem hx)))
 have:=this ks [o,o+1,o+2,o+3,o+4] hn λx hx=>by
  have:=h x hx
  simp;omega
 simpa using this
noncomputable def nH:FD:=λds Q=>∃ns:List Int,ds=[il ns]/\∀o,BL 170 o->Q (.int o)
theorem AF:∀ds Q,nH ds Q->ds.length=1:=by rintro ds Q ⟨_,rfl,_⟩;rfl
theorem pB:∀ds Q,nH ds Q->eB nT { nx:=λ_=>Q .non,rt:=Q } (aN ["_law_script"] ds):=by
 rintro ds Q ⟨ns,rfl,q⟩
 rw[aU 0 rfl]
 unfold eB
 walk_at "rd"
 refine⟨ns,3,rfl,by decide,λc=>⟨dS,?_⟩⟩
 split
 ·refine⟨ns,1,rfl,by decide,λc=>?_⟩
  walk_at "rd"
  walk_at "sides"
  obtain⟨a0,a1⟩:=bJ (a:=c) (b:=200000000000000000000000000000000000000000000000000) (by decide)
  refine q _ (BL.of_lt ?_ ?_)
  ·have e:(100000000000000000000000000000000000000000000000000:Int)<((2 ^ 170:Nat):Int):=by decide
   omega
  ·have e:(100000000000000000000000000000000000000000000000000:Int)<((2 ^ 170:Nat):Int):=by decide
   omega
 ·refine⟨ns,1,rfl,by decide,λc=>?_⟩
  walk_at "rd"
  walk_at "sides"
  obtain⟨a0,a1⟩:=bJ (a:=c) (b:=2001) (by decide)
  have e:(2000:Int)<((2 ^ 170:Nat):Int):=by decide
  exact q _ (BL.of_lt (by omega) (by omega))
structure PtOk (o:Int) (z:Pt):Prop where
 lo:o<=z.1
 hi:z.1<=o+5
 bx:BL 200 z.1
 bY:BL 200 z.2
structure WildOk (R:List (List Pt)) (o:Int):Prop where
 ne:R≠[]
 len:R.length<=3
 each:∀g∈R,g.length<=5
 pts:∀g∈R,∀z∈g,PtOk o z
noncomputable def rB:FD:=λds Q=>∃ns:List Int,ds=[il ns]/\∀R o,WildOk R o->Q (cI R)
theorem CW:∀ds Q,rB ds Q->ds.length=1:=by rintro ds Q ⟨_,rfl,_⟩;rfl
theorem pX:∀ds Q,rB ds Q->eV nT nG nH { nx:=λ_=>Q .non,rt:=Q } (aN ["_law_script","_law_off","_law_far","_law_rings","_law_k","_law_ring","_law_j","_law_number"] ds):=by
 rintro ds Q ⟨ns,rfl,q⟩
 rw[aU 7 rfl]
 unfold eV
 refine aR (λρ=>∃o:Int,BL 170 o/\ρ=[some (.d (il ns)),some (.d (.int o)),none,none,none,none,none,none]) (λK hK=>?_) ?_
 ·simp only[bR,aW,aB,aJ,aK,fM,ET,List.map_cons,List.map_nil,List.cons_append,List.nil_append,List.getElem?_cons_zero,List.set_cons_zero,List.set_cons_succ]
  exact⟨ns,rfl,λo h=>hK _ ⟨o,h,rfl⟩⟩
 rintro ρ ⟨o,bo,rfl⟩
 refine aR (λρ=>∃f:Int,BL 140 f/\ρ=[some (.d (il ns)),some (.d (.int o)),some (.d (.int f)),none,none,none,none,none]) (λK hK=>?_) ?_
 ·walk_at "rd"
  refine⟨wJ,ns,2,rfl,by decide,λc=>?_⟩
  walk_at "rd"
  refine⟨dS,?_⟩
  obtain⟨a0,a1⟩:=bJ (a:=c) (b:=4) (by decide)
  refine nM a0 (by simpa using a1) λx hx=>?_
  simp only[List.mem_cons,List.not_mem_nil,or_false] at hx
  have b1:BL 140 1:=BL.const (by decide)
  rcases hx with rfl | rfl | rfl | rfl
  ·exact hK _ ⟨1,b1,rfl⟩
  ·exact hK _ ⟨1,b1,rfl⟩
  ·exact hK _ ⟨1,b1,rfl⟩
  ·exact hK _ ⟨_,BL.const (by decide),rfl⟩
 rintro ρ ⟨f,bf,rfl⟩
 refine aR (λρ=>ρ=[some (.d (il ns)),some (.d (.int o)),some (.d (.int f)),some (.own []),none,none,none,none]) (λK hK=>?_) ?_
 ·walk_at "rd"
  exact hK _ rfl
 rintro ρ rfl
 refine aR (λρ=>∃R u v w x,WildOk R o/\ρ=[some (.d (il ns)),some (.d (.int o)),some (.d (.int f)),some (.own (R.map pts)),u,v,w,x]) (λK hK=>?_) ?_
 ·simp only[cD,pE,aW,aB,aJ,r2,rC,aK,eD,eQ,List.getElem?_cons_zero]
  refine⟨ns,0,rfl,by decide,λc=>?_⟩
  dsimp only
  obtain⟨a0,a1⟩:=bJ (a:=c) (b:=3) (by decide)
  refine⟨dS,⟨by omega,by omega⟩,?_⟩
  have en:(1+c.fmod 3).toNat<=3/\1<=(1+c.fmod 3).toNat:=by omega
  generalize (1+c.fmod 3).toNat=n at en
  refine lN 0 n (λi ρ=>∃(R:List (List Pt)) (u v w x:Option S),(R.length=i/\(∀g∈R,g.length<=5)/\∀g∈R,∀z∈g,PtOk o z)/\ρ=[some (.d (il ns)),some (.d (.int o)),some (.d (.int f)),some (.own (R.map pts)),u,v,w,x]) ?_ ?_ _ ⟨[],none,none,none,none,⟨rfl,(λg h=>by cases h),(λg h=>by cases h)⟩,rfl⟩
  ·rintro i ρ hi ⟨R,u,v,w,x,⟨h1,h2,h3⟩,rfl⟩ F hr hb hn hc
   unfold gX
   simp only[aP,List.set_cons_zero,List.set_cons_succ]
   refine aR (λρ=>ρ=[some (.d (il ns)),some (.d (.int o)),some (.d (.int f)),some (.own (R.map pts)),some (.d (.int (0+(i:Int)))),some (.own []),w,x]) (λK' hK'=>?_) ?_
   ·walk_at "rd"
    exact hK' _ rfl
   rintro ρ rfl
   refine aR (λρ=>∃(g:List Pt) (w x:Option S),(g.length<=5/\∀z∈g,PtOk o z)/\ρ=[some (.d (il ns)),some (.d (.int o)),some (.d (.int f)),some (.own (R.map pts)),some (.d (.int (0+(i:Int)))),some (.own (g.map pt)),w,x]) (λK' hK'=>?_) ?_
   ·simp only[cD,pE,aW,gQ,aB,aJ,r2,rC,aK,aD,eD,eQ,List.getElem?_cons_zero,List.getElem?_cons_succ,List.length_cons,List.length_nil]
    refine⟨cO (by decide),ns,300+(0+(i:Int)),rfl,⟨by omega,by omega⟩,λm m0 m1=>?_⟩
    dsimp only
    refine⟨dS,?_⟩
    obtain⟨a0,a1⟩:=bJ (a:=m) (b:=8) (by decide)
    refine nM a0 (by simpa using a1) λx hx=>?_
    have hj:∃j:Nat,x = .int (j:Int)/\j<=5:=by
     simp only[List.mem_cons,List.not_mem_nil,or_false] at hx
     rcases hx with rfl | rfl | rfl | rfl | rfl | rfl | rfl | rfl
     ·exact⟨3,rfl,by decide⟩
     ·exact⟨4,rfl,by decide⟩
     ·exact⟨3,rfl,by decide⟩
     ·exact⟨5,rfl,by decide⟩
     ·exact⟨3,rfl,by decide⟩
     ·exact⟨2,rfl,by decide⟩
     ·exact⟨4,rfl,by decide⟩
     ·exact⟨1,rfl,by decide⟩
    obtain⟨j,rfl,j5⟩:=hj
    dsimp only
    refine⟨⟨by omega,by omega⟩,?_⟩
    rw[show ((j:Int)).toNat=j from Int.toNat_natCast j]
    refine lN 0 j (λt ρ=>∃(g:List Pt) (w x:Option S),(g.length=t/\∀z∈g,PtOk o z)/\ρ=[some (.d (il ns)),some (.d (.int o)),some (.d (.int f)),some (.own (R.map pts)),some (.d (.int (0+(i:Int)))),some (.own (g.map pt)),w,x]) ?_ ?_ _ ⟨[],_,_,⟨rfl,λz h=>(by cases h)⟩,rfl⟩
    ·rintro t ρ ht ⟨g,w,x,⟨g1,g2⟩,rfl⟩ F2 hr2 hb2 hn2 hc2
     unfold gW
     simp only[aP,List.set_cons_zero,List.set_cons_succ]
     refine aR (λρ=>∃m:Int,(0<=m/\m<2147483647)/\ρ=[some (.d (il ns)),some (.d (.int o)),some (.d (.int f)),some (.own (R.map pts)),some (.d (.int (0+(i:Int)))),some (.own (g.map pt)),some (.d (.int (0+(t:Int)))),some (.d (.int m))]) (λK2 hK2=>?_) ?_
     ·simp only[bR,aW,aB,aJ,r2,rC,aK,aD,eD,gF,List.getElem?_cons_zero,List.getElem?_cons_succ,List.set_cons_zero,List.set_cons_succ]
      refine⟨(BL.const (n:=4) (i:=6)).mulOk (BL.of_lt (m:=4) (by omega) (Int.lt_of_lt_of_le (show (0:Int)+i<5 by omega) (by decide))),ns,_,rfl,⟨by omega,by omega⟩,λm m0 m1=>hK2 _ ⟨m,⟨m0,m1⟩,rfl⟩⟩
     rintro ρ ⟨m,⟨m0,m1⟩,rfl⟩
     have bm:BL 31 m:=BL.of_lt (by omega) (Int.lt_trans m1 (by decide))
     obtain⟨y0,y1⟩:=bJ (a:=m.fdiv 8) (b:=9) (by decide)
     have e8:(8:Int)<((2 ^ 4:Nat):Int):=by decide
     have by4:BL 4 ((m.fdiv 8).fmod 9-4):=BL.of_lt (by omega) (by omega)
     have fin:∀d:Int,0<=d->d<=5->F2.nx [some (.d (il ns)),some (.d (.int o)),some (.d (.int f)),some (.own (R.map pts)),some (.d (.int (0+(i:Int)))),some (.own (g.map pt++[pt (o+d,f*((m.fdiv 8).fmod 9-4))])),some (.d (.int (0+(t:Int)))),some (.d (.int m))]:=λd d0 d5=>by
      refine hn2 _ ⟨g++[(o+d,f*((m.fdiv 8).fmod 9-4))],some (.d (.int (0+(t:Int)))),some (.d (.int m)),⟨by rw[List.length_append,g1];rfl,λz hz=>?_⟩,by rw[List.map_append];rfl⟩
      rcases List.mem_append.mp hz with hz | hz
      ·exact g2 z hz
      ·rw[List.mem_singleton.mp hz]
       have bd:BL 4 d:=BL.of_lt (by omega) (Int.lt_of_le_of_lt d5 (by decide))
       exact⟨by dsimp only;omega,by dsimp only;omega,(bo.add bd).mono (by decide),(bf.mul by4).mono (by decide)⟩
     obtain⟨p0,p1⟩:=bJ (a:=(0+(i:Int))) (b:=2) (by decide)
     simp only[eI,jO,gQ,aB,aJ,r2,rC,aD,eD,eQ,gF,jK,gE,List.getElem?_cons_zero,List.getElem?_cons_succ,List.set_cons_zero,List.set_cons_succ,List.length_cons,List.length_nil]
     refine⟨cO (by decide),dS,nM p0 (by simpa using p1) λx hx=>?_⟩
     simp only[List.mem_cons,List.not_mem_nil,or_false] at hx
     rcases hx with rfl | rfl
     ·obtain⟨d0,d1⟩:=bJ (a:=m) (b:=4) (by decide)
      exact⟨dS,(BL.const (n:=9000) (by decide)).divOk (by decide),dS,bf.mulOk by4,cO (by decide),cO (by rw[List.length_map];omega),fin _ d0 (by omega)⟩
     ·obtain⟨d0,d1⟩:=bJ (a:=m) (b:=6) (by decide)
      exact⟨dS,(BL.const (n:=9000) (by decide)).divOk (by decide),dS,bf.mulOk by4,cO (by decide),cO (by rw[List.length_map];omega),fin _ d0 (by omega)⟩
    ·rintro ρ ⟨g,w,x,⟨g1,g2⟩,rfl⟩
     exact hK' _ ⟨g,w,x,⟨by omega,g2⟩,rfl⟩
   rintro ρ ⟨g,w,x,⟨g1,g2⟩,rfl⟩
   simp only[dA,L2.R2.S.fz,eI,aK,List.getElem?_cons_zero,List.getElem?_cons_succ,List.set_cons_zero,List.set_cons_succ]
   refine⟨cO (by rw[List.length_map];omega),?_⟩
   refine hn _ ⟨R++[g],some (.d (.int (0+(i:Int)))),some (.d (pts g)),w,x,⟨by rw[List.length_append,h1];rfl,λz hz=>?_,λz hz=>?_⟩,by rw[List.map_append];rfl⟩
   ·rcases List.mem_append.mp hz with hz | hz
    ·exact h2 z hz
    ·rw[List.mem_singleton.mp hz];exact g1
   ·rcases List.mem_append.mp hz with hz | hz
    ·exact h3 z hz
    ·rw[List.mem_singleton.mp hz];exact g2
  ·rintro ρ ⟨R,u,v,w,x,⟨h1,h2,h3⟩,rfl⟩
   exact hK _ ⟨R,u,v,w,x,⟨by intro e;rw[e] at h1;simp at h1;omega,by omega,h2,h3⟩,rfl⟩
 rintro ρ ⟨R,u,v,w,x,ok,rfl⟩
 simp only[dA,L2.R2.S.fz,bP,aK,List.getElem?_cons_zero,List.getElem?_cons_succ,List.set_cons_zero,List.set_cons_succ]
 exact q R o ok
theorem uH:∀(a:Pt) (l:List Pt) (i:Nat) (h:i<l.length),(jT a l)[i]? = some ((a::l)[i]'(by simp;omega),l[i])
 | a,[],i,h=>by cases h
 | a,b::l,0,_=>rfl
 | a,b::l,i+1,h=>by
  have:=uH b l i (by simpa using h)
  rw[jT,List.getElem?_cons_succ,this];rfl
noncomputable def fH:List Pt->List (Pt × Pt)
 | []=>[]
 | a::r=>jT a (r++[a])
theorem wZ (g:List Pt):((fH g).map λp=>sd p.1 p.2).flatten=cM g:=by
 cases g with
 | nil=>rfl
 | cons a r=>exact (mH a (r++[a])).symm
theorem uS (g:List Pt):(fH g).length=g.length:=by
 cases g with
 | nil=>rfl
 | cons a r=>rw[fH,oQ];simp
theorem EU (g:List Pt) (i:Nat) (h:i<g.length):∃u v,(fH g)[i]? = some (u,v)/\g[i]? = some u/\g[(i+1) % g.length]? = some v:=by
 cases g with
 | nil=>cases h
 | cons a r =>
  rw[List.length_cons] at h
  refine⟨_,_,uH a (r++[a]) i (by simp;omega),?_,?_⟩
  ·rw[List.getElem?_eq_getElem (by simp;omega)]
   congr 1
   cases i with
   | zero=>rfl
   | succ i=>simp only[List.getElem_cons_succ];rw[List.getElem_append_left (by omega)]
  ·rw[List.length_cons]
   by_cases hi:i<r.length
   ·rw[Nat.mod_eq_of_lt (by omega),List.getElem?_cons_succ,List.getElem?_eq_getElem hi,List.getElem_append_left hi]
   ·have:i=r.length:=by omega
    subst this
    rw[Nat.mod_self,List.getElem?_cons_zero]
    congr 1
    simp
theorem qQ {a b:Pt} (h:a.1≠b.1):HT.lexLt [a.1,a.2] [b.1,b.2]=decide (a.1<b.1):=by
 rw[HT.lexLt_cons,if_neg h]
theorem LH {a b:Pt} (h:a.1≠b.1) {Q:D->Prop} (q:∀s,sd a b=[s]->Q (sdD s)):vM [pt a,pt b] λx=>vL [pt a,pt b] λy=>Q (.tup [x,y]):=by
 refine⟨[a.1,a.2],[b.1,b.2],rfl,[a.1,a.2],[b.1,b.2],rfl,?_⟩
 rw[qQ h,qQ (Ne.symm h)]
 by_cases k:a.1<b.1
 ·have k':¬b.1<a.1:=by omega
  simp only[k,k',decide_true,decide_false,if_true,if_false,Bool.false_eq_true]
  exact q (a,b) (by unfold sd;rw[if_pos k])
 ·have k':b.1<a.1:=by omega
  simp only[k,k',decide_true,decide_false,if_true,if_false,Bool.false_eq_true]
  exact q (b,a) (by unfold sd;rw[if_neg k,if_pos k'])
noncomputable def kU:FD:=λds Q=>∃R:List (List Pt),ds=[cI R]/\R.length<=3/\(∀g∈R,g.length<=5)/\Q (dJ (bF R))
theorem vX:∀ds Q,kU ds Q->ds.length=1:=by rintro ds Q ⟨_,rfl,_⟩;rfl
theorem pA:∀ds Q,kU ds Q->dZ { nx:=λ_=>Q .non,rt:=Q } (aN ["_law_rings","_law_found","_law_ring","_law_k","_law_one","_law_other"] ds):=by
 rintro ds Q ⟨R,rfl,hl,h5,q⟩
 rw[aU 5 rfl]
 unfold dZ
 have fits:∀(done:List (List Pt)) (g:List Pt) (todo:List (List Pt)),R=done++g::todo->(bF done).length<=15:=λdone g todo e=>by
  have h1:=gG cM 5 done λg hg=>Nat.le_trans (mF g) (h5 g (by rw[e];exact List.mem_append_left _ hg))
  have:done.length<=3:=by rw[e] at hl;simp at hl;omega
  show ((done.map cM).flatten).length<=15
  omega
 refine aR (λρ=>ρ=[some (.d (cI R)),some (.own ((bF []).map sdD)),none,none,none,none]) (λK hK=>?_) ?_
 ·walk_at "rd"
  exact hK _ rfl
 rintro ρ rfl
 refine aR (λρ=>∃u v w x,ρ=[some (.d (cI R)),some (.own ((bF R).map sdD)),u,v,w,x]) (λK hK=>?_) ?_
 ·simp only[cD,riL,aK,List.getElem?_cons_zero]
  refine cF (λxs ρ=>∃done todo:List (List Pt),R=done++todo/\xs=todo.map pts/\∃u v w x,ρ=[some (.d (cI R)),some (.own ((bF done).map sdD)),u,v,w,x]) ?_ ?_ _ _ ⟨[],R,rfl,rfl,_,_,_,_,rfl⟩
  ·rintro y xs ρ ⟨done,todo,eR,exs,u,v,w,x,rfl⟩ F hr hb hn hc
   cases todo with
   | nil=>cases exs
   | cons g todo =>
    rw[List.map_cons] at exs
    injection exs with ex exs
    subst ex exs
    have fit:=fits done g todo eR
    have g5:=h5 g (by rw[eR];exact List.mem_append_right _ (.head _))
    unfold gI
    simp only[aP,cD,pE,aB,aJ,r1,lU,aD,List.getElem?_cons_zero,List.getElem?_cons_succ,List.set_cons_zero,List.set_cons_succ,List.length_map]
    refine⟨⟨by omega,by omega⟩,?_⟩
    rw[show ((g.length:Nat):Int).toNat=g.length from Int.toNat_natCast _]
    refine lN 0 g.length (λi ρ=>∃v w x,ρ=[some (.d (cI R)),some (.own ((bF done++(((fH g).take i).map λp=>sd p.1 p.2).flatten).map sdD)),some (.d (pts g)),v,w,x]) ?_ ?_ _ ⟨v,w,x,by rw[List.take_zero];simp⟩
    ·rintro i ρ hi ⟨v,w,x,rfl⟩ F2 hr2 hb2 hn2 hc2
     obtain⟨a,b,e1,e2,e3⟩:=EU g i hi
     have m1:(g.map pt)[i]? = some (pt a):=by rw[List.getElem?_map,e2];rfl
     have m2:(g.map pt)[(i+1) % g.length]? = some (pt b):=by rw[List.getElem?_map,e3];rfl
     have cst:((0:Int)+(i:Int)+1).fmod (g.length:Int)=(((i+1) % g.length:Nat):Int):=by
      rw[show (0:Int)+(i:Int)+1=((i+1:Nat):Int) by omega];exact qO _ _
     have tk:(fH g).take (i+1)=(fH g).take i++[(a,b)]:=by rw[List.take_succ,e1];rfl
     have tl:((((fH g).take i).map λp=>sd p.1 p.2).flatten).length<=5:=by
      have:=gG (λp:Pt × Pt=>sd p.1 p.2) 1 ((fH g).take i) λp _=>xA p.1 p.2
      rw[List.length_take,uS] at this;omega
     unfold gH
     simp only[aP,List.set_cons_zero,List.set_cons_succ]
     refine aR (λρ=>ρ=[some (.d (cI R)),some (.own ((bF done++(((fH g).take i).map λp=>sd p.1 p.2).flatten).map sdD)),some (.d (pts g)),some (.d (.int (0+(i:Int)))),some (.d (pt a)),x]) (λK' hK'=>?_) ?_
     ·simp only[bR,r2,aD,List.getElem?_cons_zero,List.getElem?_cons_succ,List.set_cons_zero,List.set_cons_succ]
      rw[show (0:Int)+(i:Int)=((i:Nat):Int) by omega] at hK' ⊢
      rw[dE m1]
      exact hK' _ rfl
     rintro ρ rfl
     refine aR (λρ=>ρ=[some (.d (cI R)),some (.own ((bF done++(((fH g).take i).map λp=>sd p.1 p.2).flatten).map sdD)),some (.d (pts g)),some (.d (.int (0+(i:Int)))),some (.d (pt a)),some (.d (pt b))]) (λK' hK'=>?_) ?_
     ·simp only[bR,r2,r1,rC,aD,eD,eQ,lU,List.getElem?_cons_zero,List.getElem?_cons_succ,List.set_cons_zero,List.set_cons_succ,List.length_map]
      refine⟨dS (by omega),?_⟩
      rw[cst,dE m2]
      exact hK' _ rfl
     rintro ρ rfl
     have fin:∀l,l=sd a b->F2.nx [some (.d (cI R)),some (.own ((bF done++(((fH g).take i).map λp=>sd p.1 p.2).flatten).map sdD++l.map sdD)),some (.d (pts g)),some (.d (.int (0+(i:Int)))),some (.d (pt a)),some (.d (pt b))]:=λl hl'=>by
      refine hn2 _ ⟨some (.d (.int (0+(i:Int)))),some (.d (pt a)),some (.d (pt b)),?_⟩
      have e:(((fH g).take i++[(a,b)]).map λp=>sd p.1 p.2).flatten=(((fH g).take i).map λp=>sd p.1 p.2).flatten++sd a b:=by simp
      rw[tk,hl',e,<-List.map_append,List.append_assoc]
     simp only[dB,bH,r2,aD,rC,dNe,cQ,List.getElem?_cons_zero,List.getElem?_cons_succ]
     by_cases h:a.1=b.1
     ·simp only[h,decide_true,Bool.not_true,Bool.false_eq_true,if_false,bM]
      have:=fin [] (by unfold sd;rw[if_neg (by omega),if_neg (by omega)])
      simpa using this
     ·simp only[h,decide_false,Bool.not_false,if_true]
      simp only[eI,jO,rCB,aB,aJ,aK,List.getElem?_cons_zero,List.getElem?_cons_succ,List.set_cons_zero,List.set_cons_succ,List.length_cons,List.length_nil]
      refine LH (Q:=λd=>Sz (0+1+1)/\Sz (_+1)/\F2.nx [some (.d (cI R)),some (.own ((bF done++(((fH g).take i).map λp=>sd p.1 p.2).flatten).map sdD++[d])),some (.d (pts g)),some (.d (.int (0+(i:Int)))),some (.d (pt a)),some (.d (pt b))]) h λs es=>?_
      exact⟨sz2,cO (by rw[List.length_map,List.length_append];omega),fin [s] es.symm⟩
    ·rintro ρ ⟨v,w,x,rfl⟩
     refine hn _ ⟨done++[g],todo,by rw[eR];simp,rfl,some (.d (pts g)),v,w,x,?_⟩
     rw[List.take_of_length_le (by rw[uS];omega),wZ]
     simp[bF]
  ·rintro ρ ⟨done,todo,eR,exs,u,v,w,x,rfl⟩
   have:todo=[]:=by cases todo with | nil=>rfl | cons _ _=>cases exs
   subst this
   rw[List.append_nil] at eR
   subst eR
   exact hK _ ⟨u,v,w,x,rfl⟩
 rintro ρ ⟨u,v,w,x,rfl⟩
 simp only[dA,L2.R2.S.fz,bP,aK,List.getElem?_cons_zero,List.getElem?_cons_succ,List.set_cons_zero,List.set_cons_succ]
 exact q
structure SdIn (Sd:List bE):Prop where
 len:Sd.length<=15
 bd:∀s∈Sd,SdB s
 ok:∀s∈Sd,SdOk s
noncomputable abbrev jI (Sd:List bE) (x:Int):List IP:=(Sd.filter (cov x)).map (prB 60 x)
noncomputable def rA:FD:=λds Q=>∃(Sd:List bE) (x:Int),ds=[dJ Sd,.int x]/\(SdIn Sd/\BL 202 x)/\Q (pts (jI Sd x))
theorem CU:∀ds Q,rA ds Q->ds.length=2:=by rintro ds Q ⟨_,_,rfl,_⟩;rfl
theorem nC:∀ds Q,rA ds Q->dI { nx:=λ_=>Q .non,rt:=Q } (aN ["_law_sides_here","_law_x","_law_found","_law_one","_law_other","_law_wide","_law_rise","_law_left"] ds):=by
 rintro ds Q ⟨Sd,x,rfl,⟨ok,bx⟩,q⟩
 rw[aU 6 rfl]
 unfold dI
 refine aR (λρ=>ρ=[some (.d (dJ Sd)),some (.d (.int x)),some (.own ((jI [] x).map pt)),none,none,none,none,none]) (λK hK=>?_) ?_
 ·walk_at "rd"
  exact hK _ rfl
 rintro ρ rfl
 refine aR (λρ=>∃a b c d e,ρ=[some (.d (dJ Sd)),some (.d (.int x)),some (.own ((jI Sd x).map pt)),a,b,c,d,e]) (λK hK=>?_) ?_
 ·simp only[cD,riL,aK,List.getElem?_cons_zero]
  refine cF (λxs ρ=>∃done todo:List bE,Sd=done++todo/\xs=todo.map sdD/\∃a b c d e,ρ=[some (.d (dJ Sd)),some (.d (.int x)),some (.own ((jI done x).map pt)),a,b,c,d,e]) ?_ ?_ _ _ ⟨[],Sd,rfl,rfl,_,_,_,_,_,rfl⟩
  ·rintro y xs ρ ⟨done,todo,eS,exs,a,b,c,d,e,rfl⟩ F hr hb hn hc
   cases todo with
   | nil=>cases exs
   | cons s todo =>
    rw[List.map_cons] at exs
    injection exs with ex exs
    subst ex exs
    have hs:s∈Sd:=by rw[eS];exact List.mem_append_right _ (.head _)
    have o:=ok.ok s hs
    have bs:=ok.bd s hs
    have bw:BL 201 (wid s):=bs.x2.sub bs.x1
    have dl:(jI done x).length<=15:=by
     rw[List.length_map]
     have h1:=List.length_filter_le (cov x) done
     have h2:=ok.len
     rw[eS] at h2;simp at h2;omega
    have cl:∀a b c d e,F.nx [some (.d (dJ Sd)),some (.d (.int x)),some (.own ((jI (done++[s]) x).map pt)),a,b,c,d,e]:=λa b c d e=>hn _ ⟨done++[s],todo,by rw[eS];simp,rfl,a,b,c,d,e,rfl⟩
    unfold fS
    simp only[gZ,cL,aP,gY,uV,List.set_cons_zero,List.set_cons_succ,List.length_cons,List.length_nil,true_and]
    simp only[dB,sP,bH,r2,aD,rC,fX,cQ,List.getElem?_cons_zero,List.getElem?_cons_succ]
    by_cases k:cov x s=true
    ·obtain⟨k1,k2⟩:=gK.mp k
     have ec:jI (done++[s]) x=jI done x++[prB 60 x s]:=by unfold jI;rw[List.filter_append,List.map_append];simp[k]
     simp only[k1,k2,decide_true,if_true]
     walk_at "rd"
     have bq:BL 9000 (60:Int):=BL.const (by decide)
     have br:BL 6 ((60:Int).fdiv (s.2.1-s.1.1)):=(BL.const (n:=6) (i:=60) (by decide)).fdiv
     have bsl:BL 208 ((s.2.2-s.1.2)*(60:Int).fdiv (s.2.1-s.1.1)):=((bs.y2.sub bs.y1).mul br).mono (by decide)
     have w0:=o.pos
     refine⟨(bw.mono (by decide)).divOk (by omega),(bs.y2.sub bs.y1).mulOk br,(BL.const (n:=6) (i:=60) (by decide)).mulOk bs.y1,bsl.mulOk (bx.sub bs.x1),cO (by rw[List.length_map];omega),?_⟩
     have e1:60*s.1.2+(s.2.2-s.1.2)*(60:Int).fdiv (s.2.1-s.1.1)*(x-s.1.1)=hB 60 s x:=(sB o.pos o.dvd x).symm
     have e2:hB 60 s x+(s.2.2-s.1.2)*(60:Int).fdiv (s.2.1-s.1.1)=hB 60 s (x+1):=by
      rw[sB o.pos o.dvd,sB o.pos o.dvd];unfold EZ wid;grind
     rw[e1,e2]
     have:=cl (some (.d (pt s.1))) (some (.d (pt s.2))) (some (.d (.int (s.2.1-s.1.1)))) (some (.d (.int ((s.2.2-s.1.2)*(60:Int).fdiv (s.2.1-s.1.1))))) (some (.d (.int (hB 60 s x))))
     rw[ec,List.map_append] at this
     exact this
    ·have ec:jI (done++[s]) x=jI done x:=by unfold jI;rw[List.filter_append,List.map_append];simp[k]
     have:=cl (some (.d (pt s.1))) (some (.d (pt s.2))) c d e
     rw[ec] at this
     by_cases k1:s.1.1<=x
     ·have k2:¬x<s.2.1:=λh=>k (gK.mpr ⟨k1,h⟩)
      simp only[k1,k2,decide_true,decide_false,if_true,if_false,Bool.false_eq_true,bM]
      exact this
     ·simp only[k1,decide_false,if_false,Bool.false_eq_true,bM]
      exact this
  ·rintro ρ ⟨done,todo,eS,exs,a,b,c,d,e,rfl⟩
   have:todo=[]:=by cases todo with | nil=>rfl | cons _ _=>cases exs
   subst this
   rw[List.append_nil] at eS
   subst eS
   exact hK _ ⟨a,b,c,d,e,rfl⟩
 rintro ρ ⟨a,b,c,d,e,rfl⟩
 simp only[dA,L2.R2.S.fz,bP,aK,List.getElem?_cons_zero,List.getElem?_cons_succ,List.set_cons_zero,List.set_cons_succ]
 exact q
theorem LR {Sd:List bE} {c:Int} (h:∀p∈jI Sd c,∀q∈jI Sd c,p.1<q.1->p.2<=q.2):aO Sd c:=λs hs t ht k k' l =>
 h (prB 60 c s) (List.mem_map_of_mem (List.mem_filter.mpr ⟨hs,k⟩)) (prB 60 c t) (List.mem_map_of_mem (List.mem_filter.mpr ⟨ht,k'⟩)) l
theorem WildOk.sds {R:List (List Pt)} {o:Int} (h:WildOk R o):∀s∈bF R,(PtOk o s.1/\PtOk o s.2)/\0<wid s:=λs hs=>by
 obtain⟨l,hl,hs⟩:=List.mem_flatten.mp hs
 obtain⟨g,hg,rfl⟩:=List.mem_map.mp hl
 obtain⟨⟨m1,m2⟩,w⟩:=qX hs
 exact⟨⟨h.pts g hg _ m1,h.pts g hg _ m2⟩,w⟩
theorem WildOk.ok {R:List (List Pt)} {o:Int} (h:WildOk R o):∀s∈bF R,SdOk s:=λs hs=>by
 obtain⟨⟨p1,p2⟩,w⟩:=h.sds s hs
 exact⟨w,IQ w (by have:=p1.lo;have:=p2.hi;unfold wid;omega)⟩
theorem WildOk.sdin {R:List (List Pt)} {o:Int} (h:WildOk R o):SdIn (bF R):=by
 refine⟨?_,λs hs=>⟨(h.sds s hs).1.1.bx,(h.sds s hs).1.1.bY,(h.sds s hs).1.2.bx,(h.sds s hs).1.2.bY⟩,h.ok⟩
 have:=gG cM 5 R λg hg=>Nat.le_trans (mF g) (h.each g hg)
 have:=h.len
 show ((R.map cM).flatten).length<=15
 omega
namespace K24
noncomputable abbrev Crs (P:List IP):Prop:=∃p∈P,∃q∈P,p.1<q.1/\q.2<p.2
noncomputable def fO:FD:=λds Q=>∃P:List IP,ds=[pts P]/\(Crs P->Q (.bl true))/\((∀p∈P,∀q∈P,p.1<q.1->p.2<=q.2)->Q (.bl false))
theorem pS:∀ds Q,fO ds Q->ds.length=1:=by rintro ds Q ⟨_,rfl,_⟩;rfl
theorem kQ:∀ds Q,fO ds Q->cV { nx:=λ_=>Q .non,rt:=Q } (aN ["_law_pairs","_law_one","_law_other"] ds):=by
 rintro ds Q ⟨P,rfl,q1,q2⟩
 rw[aU 2 rfl]
 unfold cV
 refine aR (λρ=>∀p∈P,∀q∈P,p.1<q.1->p.2<=q.2) (λK hK=>?_) ?_
 ·simp only[cD,riL,aK,fM,AO,List.map_cons,List.map_nil,List.cons_append,List.nil_append,List.getElem?_cons_zero]
  refine cF (λxs ρ=>∃done todo:List IP,P=done++todo/\xs=todo.map pt/\(∀p∈done,∀q∈P,p.1<q.1->p.2<=q.2)/\∃u v,ρ=[some (.d (pts P)),u,v]) ?_ ?_ _ _ ⟨[],P,rfl,rfl,(λp h=>by cases h),_,_,rfl⟩
  ·rintro y xs ρ ⟨done,todo,eP,exs,hd,u,v,rfl⟩ F hr hb hn hc
   cases todo with
   | nil=>cases exs
   | cons p todo =>
    rw[List.map_cons] at exs
    injection exs with ex exs
    subst ex exs
    have hp:p∈P:=by rw[eP];exact List.mem_append_right _ (.head _)
    unfold fF
    simp only[aP,cD,riL,aK,List.getElem?_cons_zero,List.set_cons_zero,List.set_cons_succ]
    refine cF (λxs ρ=>∃d2 t2:List IP,P=d2++t2/\xs=t2.map pt/\(∀q∈d2,p.1<q.1->p.2<=q.2)/\∃v,ρ=[some (.d (pts P)),some (.d (pt p)),v]) ?_ ?_ _ _ ⟨[],P,rfl,rfl,(λp h=>by cases h),_,rfl⟩
    ·rintro y xs ρ ⟨d2,t2,e2,exs,h2,v,rfl⟩ F2 hr2 hb2 hn2 hc2
     cases t2 with
     | nil=>cases exs
     | cons w t2 =>
      rw[List.map_cons] at exs
      injection exs with ex exs
      subst ex exs
      have hw:w∈P:=by rw[e2];exact List.mem_append_right _ (.head _)
      have nx:(p.1<w.1->p.2<=w.2)->F2.nx [some (.d (pts P)),some (.d (pt p)),some (.d (pt w))]:=λh=>hn2 _ ⟨d2++[w],t2,by rw[e2];simp,rfl,λz hz=>by
       rcases List.mem_append.mp hz with hz | hz
       ·exact h2 z hz
       ·rw[List.mem_singleton.mp hz];exact h,_,rfl⟩
      unfold fE
      simp only[aP,dB,sP,bH,r2,aD,rC,fX,cQ,fA,List.getElem?_cons_zero,List.getElem?_cons_succ,List.set_cons_zero,List.set_cons_succ]
      by_cases k1:p.1<w.1
      ·by_cases k2:w.2<p.2
       ·simp only[k1,k2,decide_true,if_true,bP,rC]
        rw[hr2,hr];exact q1 ⟨p,hp,w,hw,k1,k2⟩
       ·simp only[k1,k2,decide_true,decide_false,if_true,if_false,Bool.false_eq_true,bM]
        exact nx λ_=>by omega
      ·simp only[k1,decide_false,if_false,Bool.false_eq_true,bM]
       exact nx λh=>absurd h k1
    ·rintro ρ ⟨d2,t2,e2,exs,h2,v,rfl⟩
     have:t2=[]:=by cases t2 with | nil=>rfl | cons _ _=>cases exs
     subst this
     rw[List.append_nil] at e2
     refine hn _ ⟨done++[p],todo,by rw[eP];simp,rfl,λz hz=>?_,_,_,rfl⟩
     rcases List.mem_append.mp hz with hz | hz
     ·exact hd z hz
     ·rw[List.mem_singleton.mp hz,e2];exact h2
  ·rintro ρ ⟨done,todo,eP,exs,hd,u,v,rfl⟩
   have:todo=[]:=by cases todo with | nil=>rfl | cons _ _=>cases exs
   subst this
   rw[List.append_nil] at eP
   refine hK _ ?_
   rw[eP] at hd ⊢
   exact hd
 intro ρ h
 walk_at "rd"
 exact q2 h
theorem xP {Sd:List bE} {c:Int} (h:Crs (jI Sd c)):(∃s∈Sd,cov c s=true)/\¬aO Sd c:=by
 obtain⟨p,hp,q,hq,l,k⟩:=h
 obtain⟨s,hs,rfl⟩:=List.mem_map.mp hp
 obtain⟨t,ht,rfl⟩:=List.mem_map.mp hq
 have hs:=List.mem_filter.mp hs
 have ht:=List.mem_filter.mp ht
 refine⟨⟨s,hs.1,hs.2⟩,λu=>?_⟩
 have:=u s hs.1 t ht.1 hs.2 ht.2 l
 exact absurd this (Int.not_le.mpr k)
theorem LQ {Sd:List bE} {c:Int} (h:¬ ∃s∈Sd,cov c s=true):aO Sd c:=λs hs _ _ k=>absurd ⟨s,hs,k⟩ h
structure First (Sd:List bE) (x:Int):Prop where
 cv:∃s∈Sd,cov x s=true
 cr:¬aO Sd x
 un:∀c,c<x->aO Sd c
theorem First.uniq {Sd:List bE} {x y:Int} (h:First Sd x) (k:First Sd y):x=y:=by
 rcases Int.lt_trichotomy x y with l | l | l
 ·exact absurd (k.un x l) h.cr
 ·exact l
 ·exact absurd (h.un y l) k.cr
noncomputable def jA:FD:=λds Q=>∃Sd:List bE,ds=[dJ Sd]/\SdIn Sd/\(∀x,First Sd x->Q (.int x))/\((∀c,aO Sd c)->Q .non)
theorem uB:∀ds Q,jA ds Q->ds.length=1:=by rintro ds Q ⟨_,rfl,_⟩;rfl
theorem gB:∀ds Q,jA ds Q->bO rA fO { nx:=λ_=>Q .non,rt:=Q } (aN ["_law_sides_here","_law_x"] ds):=by
 rintro ds Q ⟨Sd,rfl,ok,q1,q2⟩
 rw[aU 1 rfl]
 unfold bO
 by_cases h0:Sd=[]
 ·subst h0
  walk_at "rd"
  have e:eqF 6 (dJ []) (.lst [])=some true:=by simp[eqF,eqL]
  simp only[e,if_true]
  exact q2 λc s hs=>by cases hs
 refine aR (λρ=>ρ=[some (.d (dJ Sd)),none]) (λK hK=>?_) ?_
 ·walk_at "rd"
  have e:eqF 6 (dJ Sd) (.lst [])=some false:=by
   cases Sd with
   | nil=>exact absurd rfl h0
   | cons s r=>simp[eqF,eqL]
  simp only[e,Bool.false_eq_true,if_false]
  exact hK _ rfl
 rintro ρ rfl
 refine aR (λρ=>∀c,aO Sd c) (λK hK=>?_) ?_
 ·have ml:∀{f:bE->Int},Sd.map f≠[]:=λ{f} e=>h0 (List.map_eq_nil_iff.mp e)
  simp only[cD,uR,aB,aJ,r1]
  have comp:∀(f:bE->Int) (te:RE),(∀s∈Sd,∀ρ,ρ=[some (.d (sdD s))]->∀K:D->Prop,K (.int (f s))->te ρ K)->∀P:D->Prop,P (il (Sd.map f))->(eO (riL (aK 0)) 1 [] (aP 0) te) [some (.d (dJ Sd)),none] λds=>P (.lst ds):=λf te ht P hP=>by
   simp only[eO,riL,aK,jH,List.getElem?_cons_zero,EQ,List.map_nil,List.append_nil]
   refine⟨cO (by rw[List.length_map];have:=ok.len;omega),?_⟩
   refine iG (λρ=>∃a,ρ=[a]) sdD (λs=>.int (f s)) Sd ?_ ⟨_,rfl⟩ ?_
   ·rintro s hs ρ ⟨a,rfl⟩ K' hK'
    simp only[aP,List.set_cons_zero]
    exact ht s hs _ rfl _ (hK' _ ⟨_,rfl⟩)
   ·have:Sd.map (λs=>D.int (f s))=(Sd.map f).map .int:=by rw[List.map_map];rfl
    rw[this];exact hP
  refine comp (λs=>s.1.1) _ (λs hs ρ e K hk=>?_) (λd=>xT d _) ?_
  ·subst e
   simp only[r2,aD,rC,cQ,List.getElem?_cons_zero]
   exact hk
  refine⟨Sd.map λs=>s.1.1,rfl,ml,λlo lom lol=>?_⟩
  dsimp only
  refine comp (λs=>s.2.1) _ (λs hs ρ e K hk=>?_) (λd=>xS d _) ?_
  ·subst e
   simp only[r2,aD,rC,cQ,fA,List.getElem?_cons_zero]
   exact hk
  refine⟨Sd.map λs=>s.2.1,rfl,ml,λhi him hih=>?_⟩
  dsimp only
  obtain⟨s1,hs1,rfl⟩:=List.mem_map.mp lom
  obtain⟨s2,hs2,rfl⟩:=List.mem_map.mp him
  have b1:=(ok.bd s1 hs1).x1
  have b2:=(ok.bd s2 hs2).x2
  have out:∀c,¬(s1.1.1<=c/\c<s2.2.1)->aO Sd c:=λc h1 s hs t ht k k'=>by
   have k1:=gK.mp k
   have l1:=lol s.1.1 (List.mem_map_of_mem hs)
   have l2:=hih s.2.1 (List.mem_map_of_mem hs)
   exact absurd ⟨by omega,by omega⟩ h1
  refine lN s1.1.1 (s2.2.1-s1.1.1).toNat (λi ρ=>(∀c,s1.1.1<=c->c<s1.1.1+i->aO Sd c)/\∃u,ρ=[some (.d (dJ Sd)),u]) ?_ ?_ _ ⟨λc h1 h2=>absurd h2 (by omega),_,rfl⟩
  ·rintro i ρ hi' ⟨hu,u,rfl⟩ F hr hb hn hc
   unfold cS
   simp only[aP,dB,bH,aW,aB,aJ,aK,List.getElem?_cons_zero,List.getElem?_cons_succ,List.set_cons_zero,List.set_cons_succ]
   have bx:BL 202 (s1.1.1+(i:Int)):=by
    have h1:s1.1.1+(i:Int)<s2.2.1:=by omega
    have e1:(2:Nat) ^ 200<=2 ^ 202:=by decide
    unfold BL at *
    omega
   refine⟨Sd,_,rfl,⟨ok,bx⟩,jI Sd _,rfl,λcr=>?_,λun=>?_⟩
   ·simp only[if_true,bP,aK,List.getElem?_cons_zero,List.getElem?_cons_succ]
    rw[hr]
    refine q1 _ ⟨(xP cr).1,(xP cr).2,λc hc'=>?_⟩
    by_cases h1:s1.1.1<=c
    ·exact hu c h1 hc'
    ·exact out c λz=>h1 z.1
   ·simp only[Bool.false_eq_true,if_false,bM]
    refine hn _ ⟨λc h1 h2=>?_,_,rfl⟩
    by_cases hc':c=s1.1.1+(i:Int)
    ·rw[hc'];exact LR un
    ·exact hu c h1 (by omega)
  ·rintro ρ ⟨hu,u,rfl⟩
   refine hK _ λc=>?_
   by_cases h1:s1.1.1<=c/\c<s2.2.1
   ·exact hu c h1.1 (by omega)
   ·exact out c h1
 intro ρ h
 walk_at "rd"
 exact q2 h
end K24
namespace K24
theorem sX:∀{M:List IP},M.Pairwise (λx y=>¬ltP y x)->(∀p∈List.zip M (M.drop 1),p.1.2<=p.2.2)->mI M
 | [],_,_=>List.Pairwise.nil
 | [a],_,_=>List.pairwise_singleton _ _
 | a::b::r,h,k=>by
  have h':=List.pairwise_cons.mp h
  have ih:mI (b::r):=sX h'.2 λp hp=>k p (.tail _ hp)
  have ab:a.2<=b.2:=k (a,b) (.head _)
  refine List.pairwise_cons.mpr ⟨λx hx=>?_,ih⟩
  have n:=h'.1 x hx
  have x2:b.2<=x.2:=by
   rcases List.mem_cons.mp hx with rfl | hx
   ·exact Int.le_refl _
   ·exact ((List.pairwise_cons.mp ih).1 x hx).2
  unfold ltP at n
  exact⟨by omega,by omega⟩
theorem xH:∀{M:List IP} {p:IP × IP},M.Pairwise (λx y=>¬ltP y x)->p∈List.zip M (M.drop 1)->p.1∈M/\p.2∈M/\¬ltP p.2 p.1
 | [],p,_,hp=>by cases hp
 | [a],p,_,hp=>by cases hp
 | a::b::r,p,h,hp=>by
  have h':=List.pairwise_cons.mp h
  rcases List.mem_cons.mp hp with rfl | hp
  ·exact⟨.head _,.tail _ (.head _),h'.1 b (.head _)⟩
  ·obtain⟨x,y,z⟩:=xH h'.2 hp
   exact⟨.tail _ x,.tail _ y,z⟩
theorem EV {M:List IP} (h:mI M):∀x∈M,∀y∈M,x.1<y.1->x.2<=y.2:=by
 induction M with
 | nil=>intro x hx;cases hx
 | cons a r ih =>
  have h':=List.pairwise_cons.mp h
  intro x hx y hy l
  rcases List.mem_cons.mp hx with ex | hx
  ·rcases List.mem_cons.mp hy with ey | hy
   ·rw[ex,ey] at l;omega
   ·rw[ex];exact (h'.1 y hy).2
  ·rcases List.mem_cons.mp hy with ey | hy
   ·rw[ey] at l
    have:=(h'.1 x hx).1;omega
   ·exact ih h'.2 x hx y hy l
theorem FG:∀(xs ys:List IP),List.zipWith (λa b=>D.tup [a,b]) (xs.map pt) (ys.map pt)=(List.zip xs ys).map λp=>D.tup [pt p.1,pt p.2]
 | [],_=>by simp
 | _::_,[]=>rfl
 | x::xs,y::ys=>by rw[List.map_cons,List.map_cons,List.zipWith_cons_cons,FG xs ys,List.zip_cons_cons,List.map_cons]
noncomputable def kT:FDX:=λds Q PP=>∃(S:List bE) (c B:Int),ds=[dJ S,.int c,.int B]/\SdsOk S c B/\((∀x∈S.map (prB B c),∀y∈S.map (prB B c),x.1<y.1->x.2<=y.2)->∀M:List IP,M.Perm (S.map (prB B c))->mI M->Q (pts M))/\(Crs (S.map (prB B c))->PP c)
theorem AB:∀ds Q PP,kT ds Q PP->ds.length=3:=by rintro ds Q PP ⟨_,_,_,rfl,_⟩;rfl
theorem iC:∀ds Q PP,kT ds Q PP->bV PP xE { nx:=λ_=>Q .non,rt:=Q } (aN ["sides","column","bottom","heights","lower","upper"] ds):=by
 rintro ds Q PP ⟨Sd,c,B,rfl,ok,q,qx⟩
 rw[aU 3 rfl]
 unfold bV
 refine aR (λρ=>ρ=[some (.d (dJ Sd)),some (.d (.int c)),some (.d (.int B)),some (.own ((Sd.map (prB B c)).map pt)),none,none]) (λK hK=>?_) ?_
 ·walk_at "rd"
  refine⟨cO (by rw[List.length_map];have:=ok.len;omega),?_⟩
  refine iG (λρ=>∃a,ρ=[a,some (.d (.int c)),some (.d (.int B))]) sdD (λs=>pt (prB B c s)) Sd ?_ ⟨_,rfl⟩ ?_
  ·rintro s hs ρ ⟨a,rfl⟩ K' hK'
   walk_at "rd"
   have w0:=(ok.ok s hs).pos
   refine⟨s,c,B,rfl,⟨ok.bd s hs,by omega,ok.cb.mono (by decide),ok.bB⟩,s,c+1,B,rfl,⟨ok.bd s hs,by omega,((ok.cb.add (BL.const (n:=1) (i:=1))).mono (by decide)),ok.bB⟩,?_⟩
   walk_at "rd"
   exact hK' _ ⟨_,rfl⟩
  ·have e:Sd.map (λs=>pt (prB B c s))=(Sd.map (prB B c)).map pt:=by rw[List.map_map];rfl
   rw[e]
   exact hK _ rfl
 rintro ρ rfl
 refine aR (λρ=>∃M:List IP,(M.Perm (Sd.map (prB B c))/\M.Pairwise λx y=>¬ltP y x)/\ρ=[some (.d (dJ Sd)),some (.d (.int c)),some (.d (.int B)),some (.own (M.map pt)),none,none]) (λK hK=>?_) ?_
 ·simp only[cY,wT,aD,List.getElem?_cons_zero,List.getElem?_cons_succ,List.set_cons_zero,List.set_cons_succ]
  refine⟨(Sd.map (prB B c)).map λz=>[z.1,z.2],by rw[List.map_map (g:=gD)];rfl,by rw[List.length_map,List.length_map];have:=ok.len;omega,λns h=>?_,λmss pm ps=>?_⟩
  ·obtain⟨z,_,rfl⟩:=List.mem_map.mp h
   exact λe=>by cases e
  ·obtain⟨M,h1,h2,h3⟩:=FA pm ps
   rw[h2]
   exact hK _ ⟨M,⟨h1,h3⟩,rfl⟩
 rintro ρ ⟨M,⟨pm,srt⟩,rfl⟩
 refine aR (λρ=>mI M/\∃u v,ρ=[some (.d (dJ Sd)),some (.d (.int c)),some (.d (.int B)),some (.d (pts M)),u,v]) (λK hK=>?_) ?_
 ·simp only[dA,L2.R2.S.fz,cD,hU,aK,aD,qA,jV,dX,rC,List.getElem?_cons_zero,List.getElem?_cons_succ,List.set_cons_zero,List.set_cons_succ]
  have c1:jJ (M.map pt) (some 1) none=(M.drop 1).map pt:=by
   cases M with
   | nil=>rfl
   | cons a r=>exact qN (j:=1) (by simp)
  rw[c1,FG]
  refine cF (λxs ρ=>∃done todo:List (IP × IP),List.zip M (M.drop 1)=done++todo/\(∀p∈done,p.1.2<=p.2.2)/\xs=todo.map (λp=>D.tup [pt p.1,pt p.2])/\∃u v,ρ=[some (.d (dJ Sd)),some (.d (.int c)),some (.d (.int B)),some (.d (pts M)),u,v]) ?_ ?_ _ _ ⟨[],_,rfl,(λp h=>by cases h),rfl,_,_,rfl⟩
  ·rintro x xs ρ ⟨done,todo,ez,hd,exs,u,v,rfl⟩ F hr hb hn hc
   cases todo with
   | nil=>cases exs
   | cons p todo =>
    rw[List.map_cons] at exs
    injection exs with ex exs
    subst ex exs
    obtain⟨m1,m2,nl⟩:=xH srt (p:=p) (by rw[ez];exact List.mem_append_right _ (.head _))
    unfold cZ
    walk_at "rd"
    by_cases h:p.2.2<p.1.2
    ·simp only[h,decide_true,if_true,wR,aK,List.getElem?_cons_zero,List.getElem?_cons_succ]
     refine qx ⟨p.1,pm.mem_iff.mp m1,p.2,pm.mem_iff.mp m2,?_,h⟩
     unfold ltP at nl
     omega
    ·simp only[h,decide_false,if_false,Bool.false_eq_true]
     refine hn _ ⟨done++[p],todo,by rw[ez];simp,λz hz=>?_,rfl,_,_,rfl⟩
     rcases List.mem_append.mp hz with hz | hz
     ·exact hd z hz
     ·rw[List.mem_singleton.mp hz];omega
  ·rintro ρ ⟨done,todo,ez,hd,exs,u,v,rfl⟩
   have:todo=[]:=by cases todo with | nil=>rfl | cons _ _=>cases exs
   subst this
   rw[List.append_nil] at ez
   exact hK _ ⟨sX srt (by rw[ez];exact hd),u,v,rfl⟩
 rintro ρ ⟨rs,u,v,rfl⟩
 simp only[dA,L2.R2.S.fz,bP,aK,List.getElem?_cons_zero,List.getElem?_cons_succ,List.set_cons_zero,List.set_cons_succ]
 exact q (λx hx y hy=>EV rs x (pm.mem_iff.mpr hx) y (pm.mem_iff.mpr hy)) M pm rs
structure ColIn0 (S:List bE) (c:Int):Prop where
 len:S.length<=15
 bd:∀s∈S,SdB s
 ok:∀s∈S,SdOk s
 five:∀s∈S,wid s<=5
 cb:BL 200 c
 cv:∀s∈S,cov c s=true
theorem IH {S:List bE} {c B:Int} (hB0:0<B) (ok:∀s∈S,SdOk s) (hd:∀s∈S,wid s∣B) (u:∀x∈S.map (prB B c),∀y∈S.map (prB B c),x.1<y.1->x.2<=y.2):aO S c:=λs hs t ht _ _ l=>by
 have os:=ok s hs
 have ot:=ok t ht
 have k1:=(yE hB0 os.pos os.dvd (hd s hs) ot.pos ot.dvd (hd t ht) c).mpr l
 have k2:=u (prB B c s) (List.mem_map_of_mem hs) (prB B c t) (List.mem_map_of_mem ht) k1
 refine Int.not_lt.mp λk3=>?_
 have:=(yE hB0 ot.pos ot.dvd (hd t ht) os.pos os.dvd (hd s hs) (c+1)).mpr k3
 exact absurd k2 (Int.not_le.mpr this)
noncomputable def nE:FDX:=λds Q PP=>∃(S:List bE) (c:Int),ds=[dJ S,.int c]/\ColIn0 S c/\(aO S c->∀B M rows,ColB S c B M rows->Q (.lst rows))/\(¬aO S c->PP c)
theorem AA:∀ds Q PP,nE ds Q PP->ds.length=2:=by rintro ds Q PP ⟨_,_,rfl,_⟩;rfl
theorem FL (PP:Int->Prop) (F1 F3 F4:FD) (FX:FDX):bS PP F1 FX F3 F4=eM F1 (λds Q=>FX ds Q PP) F3 F4:=rfl
theorem kP:∀ds Q PP,nE ds Q PP->bS PP nU kT bK qE { nx:=λ_=>Q .non,rt:=Q } (aN ["sides","column","bottom","heights","rows","low","up","edges"] ds):=by
 rintro ds Q PP ⟨Sd,c,rfl,ok,q,qx⟩
 by_cases hu:aO Sd c
 ·rw[FL]
  refine jM (G:=λds Q=>kT ds Q PP) (λds Q h=>?_) _ Q ⟨Sd,c,rfl,⟨ok.len,ok.bd,ok.ok,ok.five,ok.cb,ok.cv,hu⟩,q hu⟩
  obtain⟨S',c',B',e,so,u',h'⟩:=h
  refine⟨S',c',B',e,so,λ_=>h',λ⟨x,hx,y,hy,l,k⟩=>?_⟩
  have:=u' x hx y hy l
  exact absurd this (Int.not_le.mpr k)
 rw[aU 6 rfl]
 unfold bS
 refine aR (λρ=>∃B,(0<B/\(∀s∈Sd,wid s∣B)/\BL 50 B)/\ρ=[some (.d (dJ Sd)),some (.d (.int c)),some (.d (.int B)),none,none,none,none,none]) (λK hK=>?_) ?_
 ·walk_at "rd"
  refine⟨cO (by rw[List.length_map];have:=ok.len;omega),?_⟩
  refine iG (λρ=>∃a,ρ=[a]) sdD (λs=>.int (wid s)) Sd ?_ ⟨_,rfl⟩ ?_
  ·rintro s hs ρ ⟨a,rfl⟩ K' hK'
   simp only[aP,aW,aB,aJ,aK,List.getElem?_cons_zero,List.set_cons_zero]
   exact⟨s,rfl,hK' _ ⟨_,rfl⟩⟩
  ·refine⟨Sd.map wid,by show _=[D.lst ((Sd.map wid).map .int)];rw[List.map_map];rfl,by rw[List.length_map];exact ok.len,λw hw=>?_,λB h1 h2 h3=>?_⟩
   ·obtain⟨s,hs,rfl⟩:=List.mem_map.mp hw
    exact⟨(ok.ok s hs).pos,ok.five s hs⟩
   ·exact hK _ ⟨B,⟨h1,λs hs=>h2 _ (List.mem_map_of_mem hs),h3⟩,rfl⟩
 rintro ρ ⟨B,⟨hB0,hdv,bB⟩,rfl⟩
 refine aR (λρ=>False) (λK hK=>?_) λ_ z=>z.elim
 simp only[bR,pD,aB,aJ,aK,List.getElem?_cons_zero,List.getElem?_cons_succ,List.set_cons_zero,List.set_cons_succ]
 exact⟨Sd,c,B,rfl,⟨ok.len,ok.bd,ok.ok,ok.cb,hB0,hdv,bB⟩,λun=>absurd (IH hB0 ok.ok hdv un) hu,λ_=>qx hu⟩
structure BandsIn0 (R:List (List Pt)) (o:Int):Prop where
 rgs:RgsOk R
 near:∀s∈bF R,o<=s.1.1/\s.2.1<=o+5
 bd:∀s∈bF R,SdB s
 ok:∀s∈bF R,SdOk s
theorem BandsIn0.col {R:List (List Pt)} {o:Int} (h:BandsIn0 R o) {c:Int} (hc:∃s∈bF R,cov c s=true):ColIn0 ((bF R).filter (cov c)) c:=by
 refine⟨?_,λs hs=>h.bd s (List.mem_filter.mp hs).1,λs hs=>h.ok s (List.mem_filter.mp hs).1,λs hs=>h.rgs.wide s (List.mem_filter.mp hs).1,?_,λs hs=>(List.mem_filter.mp hs).2⟩
 ·have h1:=List.length_filter_le (cov c) (bF R)
  have h2:=h.rgs.slen
  omega
 ·obtain⟨s,hs,k⟩:=hc
  have b1:=(h.bd s hs).x1
  have b2:=(h.bd s hs).x2
  have k':=gK.mp k
  unfold BL at *
  omega
theorem pK {S:List bE} {c:Int}:aO (S.filter (cov c)) c↔aO S c :=
 ⟨λh s hs t ht k k'=>h s (List.mem_filter.mpr ⟨hs,k⟩) t (List.mem_filter.mpr ⟨ht,k'⟩) k k',λh s hs t ht=>h s (List.mem_filter.mp hs).1 t (List.mem_filter.mp ht).1⟩
noncomputable def iE:FDX:=λds Q PP=>∃(R:List (List Pt)) (o:Int),ds=[cI R]/\BandsIn0 R o/\((∀c,aO (bF R) c)->∀rows,Q (.lst rows))/\∀c,First (bF R) c->PP c
theorem oP:∀ds Q PP,iE ds Q PP->ds.length=1:=by rintro ds Q PP ⟨_,_,rfl,_⟩;rfl
theorem uM:∀ds Q PP,iE ds Q PP->gR PP nE nF { nx:=λ_=>Q .non,rt:=Q } (aN ["rings","columns","rows","column"] ds):=by
 rintro ds Q PP ⟨R,o,rfl,ok,q,qx⟩
 rw[aU 3 rfl]
 unfold gR
 refine aR (λρ=>∃ks xs,ColOf (bF R) ks xs/\ρ=[some (.d (cI R)),some (.d (.dct ks xs)),none,none]) (λK hK=>?_) ?_
 ·simp only[bR,aW,aB,aJ,aK,fM,ER,List.map_cons,List.map_nil,List.cons_append,List.nil_append,List.getElem?_cons_zero,List.getElem?_cons_succ,List.set_cons_zero,List.set_cons_succ]
  exact⟨R,rfl,ok.rgs,λks xs h=>hK _ ⟨ks,xs,h,rfl⟩⟩
 rintro ρ ⟨ks,xs,co,rfl⟩
 have kl:ks.length<=5:=wE (o:=o) co.nodup λc hc=>by
  obtain⟨s,hs,k⟩:=(co.mem c).mp hc
  have:=ok.near s hs
  have:=gK.mp k
  omega
 refine aR (λρ=>ρ=[some (.d (cI R)),some (.d (.dct ks xs)),some (.own []),none]) (λK hK=>?_) ?_
 ·walk_at "rd"
  exact hK _ rfl
 rintro ρ rfl
 refine aR (λρ=>(∀c,aO (bF R) c)/\∃rows u,ρ=[some (.d (cI R)),some (.d (.dct ks xs)),some (.own rows),u]) (λK hK=>?_) ?_
 ·simp only[cD,riL,wS,wQ,aK,List.getElem?_cons_zero,List.getElem?_cons_succ]
  refine⟨ks,xs,rfl,co.len,ks,rfl,by omega,λcs pm srt=>?_⟩
  have off:∀c,c ∉ cs->aO (bF R) c:=λc hc=>LQ λh=>hc (pm.mem_iff.mpr ((co.mem c).mpr h))
  refine cF (λys ρ=>∃done todo:List Int,cs=done++todo/\ys=todo.map .int/\(∀c∈done,aO (bF R) c)/\∃rows u,AllB (bF R) done rows/\ρ=[some (.d (cI R)),some (.d (.dct ks xs)),some (.own rows),u]) ?_ ?_ _ _ ⟨[],cs,rfl,rfl,(λc h=>by cases h),[],none,.nil,rfl⟩
  ·rintro x ys ρ ⟨done,todo,ec,exs,hd,rows,u,hR,rfl⟩ F hr hb hn hc
   cases todo with
   | nil=>cases exs
   | cons c todo =>
    rw[List.map_cons] at exs
    injection exs with ex exs
    subst ex exs
    have hc:c∈ks:=pm.mem_iff.mp (by rw[ec];exact List.mem_append_right _ (.head _))
    have dl:done.length<=4:=by have:=pm.length_eq;rw[ec] at this;simp at this;omega
    have sl:=ok.rgs.slen
    have rl:=hR.rlen
    have rl2:done.length*(bF R).length<=4*15:=Nat.mul_le_mul dl sl
    unfold jW
    simp only[aP,qU,pD,aB,aJ,r2,FQ,aK,List.getElem?_cons_zero,List.getElem?_cons_succ,List.set_cons_zero,List.set_cons_succ]
    refine⟨_,co.here c hc,_,c,rfl,ok.col ((co.mem c).mp hc),λun B M r hB=>?_,λnu=>?_⟩
    ·have fl:=hB.rlen
     have f2:=List.length_filter_le (cov c) (bF R)
     dsimp only
     refine⟨cO (by omega),hn _ ⟨done++[c],todo,by rw[ec];simp,rfl,λz hz=>?_,rows++r,some (.d (.int c)),hR.snoc hB,rfl⟩⟩
     rcases List.mem_append.mp hz with hz | hz
     ·exact hd z hz
     ·rw[List.mem_singleton.mp hz];exact pK.mp un
    ·refine qx c ⟨(co.mem c).mp hc,λz=>nu (pK.mpr z),λc' hc'=>?_⟩
     by_cases m:c'∈cs
     ·rw[ec] at m srt
      rcases List.mem_append.mp m with m | m
      ·exact hd c' m
      ·have:=(List.pairwise_append.mp srt).2.1
       rcases List.mem_cons.mp m with m | m
       ·omega
       ·have:=(List.pairwise_cons.mp this).1 c' m
        omega
     ·exact off c' m
  ·rintro ρ ⟨done,todo,ec,exs,hd,rows,u,hR,rfl⟩
   have:todo=[]:=by cases todo with | nil=>rfl | cons _ _=>cases exs
   subst this
   rw[List.append_nil] at ec
   refine hK _ ⟨λc=>?_,rows,u,rfl⟩
   by_cases m:c∈cs
   ·exact hd c (ec ▸ m)
   ·exact off c m
 rintro ρ ⟨un,rows,u,rfl⟩
 simp only[dA,L2.R2.S.fz,bP,aK,List.getElem?_cons_zero,List.getElem?_cons_succ,List.set_cons_zero,List.set_cons_succ]
 exact q un rows
end K24
namespace K24
theorem JU (n:Nat) (g:List Pt):eqF (n+3) (pts g) (pts g)=some true:=by
 have l:eqF (n+3) (pts g) (pts g)=eqL (eqF (n+2)) (g.map pt) (g.map pt):=by rw[eqF]
 rw[l]
 induction g with
 | nil=>rfl
 | cons z g ih =>
  have e:eqF (n+2) (pt z) (pt z)=some true:=by simp[eqF,eqL]
  rw[List.map_cons,eqL,e,ih]
  ·rfl
  ·rw[eqF]
theorem CD (n:Nat) (R:List (List Pt)):eqL (eqF (n+3)) (R.map pts) (R.map pts)=some true:=by
 induction R with
 | nil=>rfl
 | cons g R ih=>rw[List.map_cons,eqL,JU,ih];rfl
theorem zA {R:List (List Pt)} {o:Int} (h:WildOk R o):BandsIn0 R o :=
 ⟨⟨h.len,h.each,λs hs=>by have:=(h.sds s hs).1.1.lo;have:=(h.sds s hs).1.2.hi;unfold wid;omega⟩,λs hs=>⟨(h.sds s hs).1.1.lo,(h.sds s hs).1.2.hi⟩,λs hs=>⟨(h.sds s hs).1.1.bx,(h.sds s hs).1.1.bY,(h.sds s hs).1.2.bx,(h.sds s hs).1.2.bY⟩,h.ok⟩
theorem wM {C:Addr}:∀ds Q,zC 63 ds Q->gS C (λds PP=>iE ds (λ_=>False) PP) jA kU nJ rB iE { nx:=λ_=>Q .non,rt:=Q } (aN ["_law_script","_law_rings","_law_due","_law_handed","_law_caught_here"] ds):=by
 rintro ds Q ⟨ns,rfl,hn,Qt⟩
 rw[aU 4 rfl]
 unfold gS
 simp only[fM,ES,List.map_cons,List.map_nil,List.cons_append,List.nil_append]
 refine aR (λρ=>∃R o,WildOk R o/\ρ=[some (.d (il ns)),some (.d (cI R)),none,none,none]) (λK hK=>?_) ?_
 ·walk_at "rd"
  exact⟨ns,rfl,λR o h=>hK _ ⟨R,o,h,rfl⟩⟩
 rintro ρ ⟨R,o,ok,rfl⟩
 refine aR (λρ=>∃d:D,((d = .non/\∀c,aO (bF R) c)\/∃x,d = .int x/\First (bF R) x)/\ρ=[some (.d (il ns)),some (.d (cI R)),some (.d d),none,none]) (λK hK=>?_) ?_
 ·walk_at "rd"
  refine⟨R,rfl,ok.len,ok.each,bF R,rfl,ok.sdin,λx hx=>?_,λun=>?_⟩
  ·exact hK _ ⟨.int x,.inr ⟨x,rfl,hx⟩,rfl⟩
  ·exact hK _ ⟨.non,.inl ⟨rfl,un⟩,rfl⟩
 rintro ρ ⟨d,hd,rfl⟩
 have rl:R.length<=3:=ok.len
 refine aR (λρ=>ρ=[some (.d (il ns)),some (.d (cI R)),some (.d d),some (.own (R.map pts)),none]) (λK hK=>?_) ?_
 ·walk_at "rd"
  refine⟨cO (by rw[List.length_map];omega),?_⟩
  refine iG (λρ=>∃u,ρ=[u]) pts pts R ?_ ⟨_,rfl⟩ (hK _ rfl)
  rintro g hg ρ ⟨u,rfl⟩ K' hK'
  walk_at "rd"
  exact hK' _ ⟨_,rfl⟩
 rintro ρ rfl
 rcases hd with ⟨rfl,un⟩ | ⟨x,rfl,fx⟩
 ·refine aR (λρ=>False) (λK hK=>?_) λ_ z=>z.elim
  have e6:eqF 6 (cI R) (cI R)=some true:=by
   have:eqF 6 (cI R) (cI R)=eqL (eqF 5) (R.map pts) (R.map pts):=by rw[eqF]
   rw[this];exact CD 2 R
  walk_at "rd"
  refine⟨R,o,rfl,zA ok,λ_ rows=>?_,λc hc=>hc.cr (un c)⟩
  have il':vV "list" (.lst rows)=some true:=rfl
  simp only[il']
  walk_at "rd"
  simp only[e6]
  exact Qt
 refine aR (λρ=>ρ=[some (.d (il ns)),some (.d (cI R)),some (.d (.int x)),some (.own (R.map pts)),none]) (λK hK=>?_) ?_
 ·walk_at "rd"
  exact hK _ rfl
 rintro ρ rfl
 refine aR (λρ=>ρ=[some (.d (il ns)),some (.d (cI R)),some (.d (.int x)),some (.d (cI R)),some (.exc C "column" x)]) (λK hK=>?_) ?_
 ·simp only[dA,S.fz,EL,aB,aJ,aK,List.getElem?_cons_zero,List.getElem?_cons_succ,List.set_cons_zero,List.set_cons_succ]
  refine⟨λc=>c=x,⟨R,o,rfl,zA ok,λun=>absurd (un x) fx.cr,λc hc=>hc.uniq fx⟩,λc hc=>?_⟩
  subst hc
  exact hK _ rfl
 rintro ρ rfl
 have e5:eqL (eqF 5) (R.map pts) (R.map pts)=some true:=CD 2 R
 refine aR (λρ=>ρ=[some (.d (il ns)),some (.d (cI R)),some (.d (.int x)),some (.d (cI R)),some (.exc C "column" x)]) (λK hK=>?_) ?_
 ·simp only[dB,rOr,bH,lP,r2,FR,aD,bM,L2.R2.S.val,List.getElem?_cons_zero,List.getElem?_cons_succ,true_and,Bool.false_eq_true,if_false,e5,Bool.not_true]
  exact hK _ rfl
 rintro ρ rfl
 refine aR (λρ=>ρ=[some (.d (il ns)),some (.d (cI R)),some (.d (.int x)),some (.d (cI R)),some (.exc C "column" x)]) (λK hK=>?_) ?_
 ·simp only[dB,rOr,uP,bH,lP,bM,List.getElem?_cons_zero,List.getElem?_cons_succ,true_and,Bool.false_eq_true,if_false,Bool.not_true]
  exact hK _ rfl
 rintro ρ rfl
 simp only[bP,jU,aW,aB,aJ,qT,List.getElem?_cons_zero,List.getElem?_cons_succ,true_and]
 refine⟨x,rfl,?_⟩
 have ex:eqF 6 (.int x) (.int x)=some true:=by simp[eqF]
 simp only[r2,qT,EJ,aD,rC,nY,kY,eD,L2.R2.S.val,List.getElem?_cons_zero,List.getElem?_cons_succ,true_and,ex,if_true]
 simpa using Qt
end K24
namespace K24
set_option maxHeartbeats 4000000
noncomputable def top (i:Nat):Stmt:=PySem.Challenge.pw_recut_k24_crossed.main.body.getD i (.Pass ⟨0,0,0,0⟩)
noncomputable abbrev s_shared_divisor:Stmt:=top 6
noncomputable abbrev s_shared_multiple:Stmt:=top 7
noncomputable abbrev s_lowest_multiple:Stmt:=top 9
noncomputable abbrev s_width_of:Stmt:=top 13
noncomputable abbrev s_height_at:Stmt:=top 14
noncomputable abbrev s_ordered_heights:Stmt:=top 15
noncomputable abbrev s_ratio:Stmt:=top 8
noncomputable abbrev s_column_bands:Stmt:=top 16
noncomputable abbrev s_sides_of:Stmt:=top 11
noncomputable abbrev s_sides_by_column:Stmt:=top 12
noncomputable abbrev s_bands:Stmt:=top 17
noncomputable abbrev s__law_caught:Stmt:=top 28
noncomputable abbrev s__law_column:Stmt:=top 25
noncomputable abbrev s__law_crossed:Stmt:=top 26
noncomputable abbrev s__law_first_crossed:Stmt:=top 27
noncomputable abbrev s__law_sides:Stmt:=top 24
noncomputable abbrev s__law_whole:Stmt:=top 20
noncomputable abbrev s__law_cell_at:Stmt:=top 19
noncomputable abbrev s__law_mixed:Stmt:=top 21
noncomputable abbrev s__law_start:Stmt:=top 22
noncomputable abbrev s__law_wild:Stmt:=top 23
noncomputable abbrev s_law:Stmt:=top 29
noncomputable abbrev s_Crossed:Stmt:=top 3
noncomputable abbrev s_init:Stmt:=GK s_Crossed 0
section
variable {P:Program} {w:World} {K:PySem.W.Frag} {mg:Str->Option Value} {base:Heap}
theorem IB:FnScope ["self","column"] ["self","column"] (aA s_init):=⟨rfl,rfl,rfl,by decide +kernel,rfl,by decide +kernel,by decide +kernel⟩
theorem GH {C Cb f c1 c2:Addr} {fd:FuncData} (W:ExcW K mg C Cb f c1 c2) (Fu:Fun K "__init__" "Crossed.__init__" s_init f fd) (hb:∀us:List Value,us.length=2->bindArgs fd ⟨us,[]⟩=pure ((["self","column"]:List Str).zip us)):FnI P w K mg base C f "column" 1 :=
 GL Fu IB hb λcdv A outer s H E=>PSs.mono (uL (nP (DY W.z rfl W.mC (pv 0))) (nQ (KY W.z (pv 0) (pv 1)))) λD σ H ⟨e,h0,h1,v,h2,h3⟩=>⟨e,h0,h1,e,v,h0,h2,h1,h3⟩
theorem fV:FnScope ["one","other","larger","smaller","rest"] ["one","other"] (aA s_shared_divisor):=⟨rfl,rfl,rfl,by decide +kernel,rfl,by decide +kernel,by decide +kernel⟩
theorem kW {f:Addr} {cdv:Value} {A:Around} {outer:List Env} {s:Shared} {H:Hp} {E:XK} (m_abs:mg "abs" = none) (hr:Room 0 (A.deeper (envOfC "shared_divisor" (aA s_shared_divisor) s.heap.objs.size f cdv))) :
  DSs (bX CX0 P w K mg base ["one","other","larger","smaller","rest"] "shared_divisor" (aA s_shared_divisor) f cdv A outer s H E).nox (aL s_shared_divisor) (cH) :=
 have nd:=fV.nd
 aG (bG nd (iH BE m_abs qJ (aC (dv 0) (aM))))
 (aG (bG nd (iH BE m_abs qJ (aC (dv 1) (aM))))
 (aG (BZ PassesOwn.never (cE KK (dvb 3) (DE.bor (aF))) (aG (bG nd (aS dH (dvb 2) (dvb 3)))
 (aG (bG nd (dv 3))
 (aI (bG nd (dv 4))))))
 (aI (bD (dv 2)))))
theorem lO (Z:DefAt K mg "shared_divisor" s_shared_divisor ["one","other"]) (m_abs:mg "abs" = none) {F:FD} (len:∀ds Q,F ds Q->ds.length=2) (pure:∀ds Q,F ds Q->cH { nx:=λ_=>Q .non,rt:=Q } (aN ["one","other","larger","smaller","rest"] ds)):FnAt P w K mg base "shared_divisor" ["one","other"] 1 F :=
 Z.ok fV (λcdv A outer s H E hr=>kW m_abs hr) len pure
theorem fK:FnScope ["one","other"] ["one","other"] (aA s_shared_multiple):=⟨rfl,rfl,rfl,by decide +kernel,rfl,by decide +kernel,by decide +kernel⟩
theorem kE {f:Addr} {cdv:Value} {A:Around} {outer:List Env} {s:Shared} {H:Hp} {E:XK} {F_shared_divisor:FD} (OH:FnAt P w K mg base "shared_divisor" ["one","other"] 1 F_shared_divisor) (hr:Room 1 (A.deeper (envOfC "shared_multiple" (aA s_shared_multiple) s.heap.objs.size f cdv))) :
  DSs (bX CX0 P w K mg base ["one","other"] "shared_multiple" (aA s_shared_multiple) f cdv A outer s H E).nox (aL s_shared_multiple) (cB F_shared_divisor) :=
 have nd:=fK.nd
 aI (bD (aS eK (dvb 0) (DE.bor (aS jG (dvb 1) (DE.bor (aT OH (hr.mono (by decide)) (aC (dv 0) (aC (dv 1) (aM)))))))))
theorem kN (Z:DefAt K mg "shared_multiple" s_shared_multiple ["one","other"]) {F_shared_divisor:FD} (OH:FnAt P w K mg base "shared_divisor" ["one","other"] 1 F_shared_divisor) {F:FD} (len:∀ds Q,F ds Q->ds.length=2) (pure:∀ds Q,F ds Q->cB F_shared_divisor { nx:=λ_=>Q .non,rt:=Q } (aN ["one","other"] ds)):FnAt P w K mg base "shared_multiple" ["one","other"] 2 F :=
 Z.ok fK (λcdv A outer s H E hr=>kE OH hr) len pure
theorem fI:FnScope ["numbers","multiple","number"] ["numbers"] (aA s_lowest_multiple):=⟨rfl,rfl,rfl,by decide +kernel,rfl,by decide +kernel,by decide +kernel⟩
theorem kC {f:Addr} {cdv:Value} {A:Around} {outer:List Env} {s:Shared} {H:Hp} {E:XK} {F_shared_multiple:FD} (OQ:FnAt P w K mg base "shared_multiple" ["one","other"] 2 F_shared_multiple) (hr:Room 2 (A.deeper (envOfC "lowest_multiple" (aA s_lowest_multiple) s.heap.objs.size f cdv))) :
  DSs (bX CX0 P w K mg base ["numbers","multiple","number"] "lowest_multiple" (aA s_lowest_multiple) f cdv A outer s H E).nox (aL s_lowest_multiple) (cA F_shared_multiple) :=
 have nd:=fI.nd
 aG (bG nd (aF))
 (aG (cP PassesOwn.never rfl (cN (dv 0)) (aZ nd) (aI (bG nd (aT OQ (hr.mono (by decide)) (aC (dv 1) (aC (dv 2) (aM)))))))
 (aI (bD (dv 1))))
theorem kL (Z:DefAt K mg "lowest_multiple" s_lowest_multiple ["numbers"]) {F_shared_multiple:FD} (OQ:FnAt P w K mg base "shared_multiple" ["one","other"] 2 F_shared_multiple) {F:FD} (len:∀ds Q,F ds Q->ds.length=1) (pure:∀ds Q,F ds Q->cA F_shared_multiple { nx:=λ_=>Q .non,rt:=Q } (aN ["numbers","multiple","number"] ds)):FnAt P w K mg base "lowest_multiple" ["numbers"] 3 F :=
 Z.ok fI (λcdv A outer s H E hr=>kC OQ hr) len pure
theorem mR:FnScope ["side"] ["side"] (aA s_width_of):=⟨rfl,rfl,rfl,by decide +kernel,rfl,by decide +kernel,by decide +kernel⟩
theorem tD {f:Addr} {cdv:Value} {A:Around} {outer:List Env} {s:Shared} {H:Hp} {E:XK} (hr:Room 0 (A.deeper (envOfC "width_of" (aA s_width_of) s.heap.objs.size f cdv))) :
  DSs (bX CX0 P w K mg base ["side"] "width_of" (aA s_width_of) f cdv A outer s H E).nox (aL s_width_of) (fU) :=
 have nd:=mR.nd
 aI (bD (aS gP (DE.bor (aV (DE.bor (aV (dvb 0) (DE.bor (aF)))) (DE.bor (aF)))) (DE.bor (aV (DE.bor (aV (dvb 0) (DE.bor (aF)))) (DE.bor (aF))))))
theorem uK (Z:DefAt K mg "width_of" s_width_of ["side"]) {F:FD} (len:∀ds Q,F ds Q->ds.length=1) (pure:∀ds Q,F ds Q->fU { nx:=λ_=>Q .non,rt:=Q } (aN ["side"] ds)):FnAt P w K mg base "width_of" ["side"] 1 F :=
 Z.ok mR (λcdv A outer s H E hr=>tD hr) len pure
theorem lS:FnScope ["side","thread","bottom","left","width","climb"] ["side","thread","bottom"] (aA s_height_at):=⟨rfl,rfl,rfl,by decide +kernel,rfl,by decide +kernel,by decide +kernel⟩
theorem rE {f:Addr} {cdv:Value} {A:Around} {outer:List Env} {s:Shared} {H:Hp} {E:XK} {F_width_of:FD} (OT:FnAt P w K mg base "width_of" ["side"] 1 F_width_of) (hr:Room 1 (A.deeper (envOfC "height_at" (aA s_height_at) s.heap.objs.size f cdv))) :
  DSs (bX CX0 P w K mg base ["side","thread","bottom","left","width","climb"] "height_at" (aA s_height_at) f cdv A outer s H E).nox (aL s_height_at) (eX F_width_of) :=
 have nd:=lS.nd
 aG (bG nd (aV (dvb 0) (DE.bor (aF))))
 (aG (bG nd (aT OT (hr.mono (by decide)) (aC (dv 0) (aM))))
 (aG (bG nd (aS eK (DE.bor (aS gP (DE.bor (aV (DE.bor (aV (dvb 0) (DE.bor (aF)))) (DE.bor (aF)))) (DE.bor (aV (dvb 3) (DE.bor (aF)))))) (DE.bor (aS gP (dvb 1) (DE.bor (aV (dvb 3) (DE.bor (aF))))))))
 (aI (bD (aS eK (DE.bor (aS cW (DE.bor (aS eK (DE.bor (aV (dvb 3) (DE.bor (aF)))) (dvb 4))) (dvb 5))) (DE.bor (aS jG (dvb 2) (dvb 4))))))))
theorem sK (Z:DefAt K mg "height_at" s_height_at ["side","thread","bottom"]) {F_width_of:FD} (OT:FnAt P w K mg base "width_of" ["side"] 1 F_width_of) {F:FD} (len:∀ds Q,F ds Q->ds.length=3) (pure:∀ds Q,F ds Q->eX F_width_of { nx:=λ_=>Q .non,rt:=Q } (aN ["side","thread","bottom","left","width","climb"] ds)):FnAt P w K mg base "height_at" ["side","thread","bottom"] 2 F :=
 Z.ok lS (λcdv A outer s H E hr=>rE OT hr) len pure
theorem fJ:FnScope ["sides","column","bottom","heights","lower","upper"] ["sides","column","bottom"] (aA s_ordered_heights):=⟨rfl,rfl,rfl,by decide +kernel,rfl,by decide +kernel,by decide +kernel⟩
theorem iA:List.Nodup (["side","column","bottom"]:List Str):=by decide +kernel
theorem kD {f:Addr} {cdv:Value} {A:Around} {outer:List Env} {s:Shared} {H:Hp} {E:XK} {PP:Int->Prop} {C Cb fi c1 c2:Addr} (W:ExcW K mg C Cb fi c1 c2) (G:FnI P w K mg base C fi "column" 1) {F_height_at:FD} (PF:FnAt P w K mg base "height_at" ["side","thread","bottom"] 2 F_height_at) (m_zip:mg "zip" = none) (m_sorted:mg "sorted" = none) (hr:Room 3 (A.deeper (envOfC "ordered_heights" (aA s_ordered_heights) s.heap.objs.size f cdv))) (acc:XAcc (bX (CXD P w C) P w K mg base ["sides","column","bottom","heights","lower","upper"] "ordered_heights" (aA s_ordered_heights) f cdv A outer s H E) C "column" PP) :
  DSs (bX (CXD P w C) P w K mg base ["sides","column","bottom","heights","lower","upper"] "ordered_heights" (aA s_ordered_heights) f cdv A outer s H E) (aL s_ordered_heights) (bV PP F_height_at) :=
 have nd:=fJ.nd
 aG (rT ["side","column","bottom"] 1 [1,2] nd (cN (dv 0)) (λcl C s H fp=>aZ iA) (λcl C s H fp=>iJ (aC (aT PF (hr.mono (by decide)) (aC (dv 0) (aC (dv 1) (aC (dv 2) (aM))))) (aC (aT PF (hr.mono (by decide)) (aC (dv 0) (aC (aS cW (dvb 1) (DE.bor (aF))) (aC (dv 2) (aM))))) (aM)))))
 (aG (fQ nd (BW m_sorted (dvb 3)))
 (aG (gU 3 (cP PassesOwn.leaving rfl (vS m_zip (dv 3) (oB (dvb 3) (rS (aF)) (rR))) (rN rfl (eE (aZ nd) (eE (aZ nd) (nO)))) (aI (eF (cE oU (DE.bor (aV (dvb 5) (DE.bor (aF)))) (DE.bor (aV (dvb 4) (DE.bor (aF))))) (aI (BY acc W.z G (hr.mono (by decide)) W.kp rfl rfl rfl W.mX (dv 1))) (bQ)))))
 (aI (gU 3 (bD (dv 3))))))
theorem kM (Z:DefAt K mg "ordered_heights" s_ordered_heights ["sides","column","bottom"]) {C Cb fi c1 c2:Addr} (W:ExcW K mg C Cb fi c1 c2) (G:FnI P w K mg base C fi "column" 1) {F_height_at:FD} (PF:FnAt P w K mg base "height_at" ["side","thread","bottom"] 2 F_height_at) (m_zip:mg "zip" = none) (m_sorted:mg "sorted" = none) {F:FDX} (len:∀ds Q PP,F ds Q PP->ds.length=3) (pure:∀ds Q PP,F ds Q PP->bV PP F_height_at { nx:=λ_=>Q .non,rt:=Q } (aN ["sides","column","bottom","heights","lower","upper"] ds)):FnAtX P w K mg base C "column" "ordered_heights" ["sides","column","bottom"] 4 F :=
 Z.okX fJ (λcdv A outer s H E PP hr acc=>kD W G PF m_zip m_sorted hr acc) len pure
theorem uU:FnScope ["top","bottom","divisor"] ["top","bottom"] (aA s_ratio):=⟨rfl,rfl,rfl,by decide +kernel,rfl,by decide +kernel,by decide +kernel⟩
theorem AY {f:Addr} {cdv:Value} {A:Around} {outer:List Env} {s:Shared} {H:Hp} {E:XK} {F_shared_divisor:FD} (OH:FnAt P w K mg base "shared_divisor" ["one","other"] 1 F_shared_divisor) (hr:Room 1 (A.deeper (envOfC "ratio" (aA s_ratio) s.heap.objs.size f cdv))) :
  DSs (bX CX0 P w K mg base ["top","bottom","divisor"] "ratio" (aA s_ratio) f cdv A outer s H E).nox (aL s_ratio) (lQ F_shared_divisor) :=
 have nd:=uU.nd
 aG (eF (cE wF (dvb 1) (DE.bor (aF))) (aI (BX)) (bQ))
 (aG (bG nd (aT OH (hr.mono (by decide)) (aC (dv 0) (aC (dv 1) (aM)))))
 (aG (eF (cE oU (dvb 1) (DE.bor (aF))) (aI (bG nd (LY LO (dvb 2)))) (bQ))
 (aI (bD (iJ (aC (aS jG (dvb 0) (dvb 2)) (aC (aS jG (dvb 1) (dvb 2)) (aM))))))))
theorem DQ (Z:DefAt K mg "ratio" s_ratio ["top","bottom"]) {F_shared_divisor:FD} (OH:FnAt P w K mg base "shared_divisor" ["one","other"] 1 F_shared_divisor) {F:FD} (len:∀ds Q,F ds Q->ds.length=2) (pure:∀ds Q,F ds Q->lQ F_shared_divisor { nx:=λ_=>Q .non,rt:=Q } (aN ["top","bottom","divisor"] ds)):FnAt P w K mg base "ratio" ["top","bottom"] 2 F :=
 Z.ok uU (λcdv A outer s H E hr=>AY OH hr) len pure
theorem hX:FnScope ["sides","column","bottom","heights","rows","low","up","edges"] ["sides","column"] (aA s_column_bands):=⟨rfl,rfl,rfl,by decide +kernel,rfl,by decide +kernel,by decide +kernel⟩
theorem kJ:List.Nodup (["height","bottom"]:List Str):=by decide +kernel
theorem kK:List.Nodup (["side"]:List Str):=by decide +kernel
theorem mV {f:Addr} {cdv:Value} {A:Around} {outer:List Env} {s:Shared} {H:Hp} {E:XK} {PP:Int->Prop} {C Cb fi c1 c2:Addr} (W:ExcW K mg C Cb fi c1 c2) (G:FnI P w K mg base C fi "column" 1) {F_lowest_multiple:FD} (OO:FnAt P w K mg base "lowest_multiple" ["numbers"] 3 F_lowest_multiple) {F_ordered_heights:FDX} (OP:FnAtX P w K mg base C "column" "ordered_heights" ["sides","column","bottom"] 4 F_ordered_heights) {bK:FD} (PQ:FnAt P w K mg base "ratio" ["top","bottom"] 2 bK) {F_width_of:FD} (OT:FnAt P w K mg base "width_of" ["side"] 1 F_width_of) (m_zip:mg "zip" = none) (hr:Room 4 (A.deeper (envOfC "column_bands" (aA s_column_bands) s.heap.objs.size f cdv))) (acc:XAcc (bX (CXD P w C) P w K mg base ["sides","column","bottom","heights","rows","low","up","edges"] "column_bands" (aA s_column_bands) f cdv A outer s H E) C "column" PP) :
  DSs (bX (CXD P w C) P w K mg base ["sides","column","bottom","heights","rows","low","up","edges"] "column_bands" (aA s_column_bands) f cdv A outer s H E) (aL s_column_bands) (bS PP F_lowest_multiple F_ordered_heights bK F_width_of) :=
 have nd:=hX.nd
 aG (bG nd (aT OO (hr.mono (by decide)) (aC (DO.val (rQ ["side"] 1 [] (cN (dv 0)) (λcl C s H fp=>aZ kK) (λcl C s H fp=>aT OT (hr.mono (by decide)) (aC (dv 0) (aM))))) (aM))))
 (aG (bG nd (tL acc OP (hr.mono (by decide)) (aC (dv 0) (aC (dv 1) (aC (dv 2) (aM))))))
 (aG (fQ nd (fB (aM)))
 (aG (cP PassesOwn.leaving rfl (vS m_zip (DO.val (GA (dvb 3))) (DO.val (GB (dvb 3)))) (rN rfl (eE (aZ nd) (eE (aZ nd) (nO)))) (aI (eF (cE (JA hr) (dvb 5) (dvb 6)) (aG (rT ["height","bottom"] 1 [2] nd (JP (aS yH (dvb 5) (dvb 6))) (λcl C s H fp=>aZ kJ) (λcl C s H fp=>aT PQ (hr.mono (by decide)) (aC (dv 0) (aC (dv 1) (aM)))))
 (aI (dR 4 (iJ (aC (dv 1) (aC (aV (dvb 7) (DE.bor (aF))) (aC (aV (dvb 7) (DE.bor (aF))) (aC (aV (dvb 7) (DE.bor (aF))) (aC (aV (dvb 7) (DE.bor (aF))) (aM)))))))))) (bQ))))
 (aI (gU 4 (bD (dv 4)))))))
theorem nB (Z:DefAt K mg "column_bands" s_column_bands ["sides","column"]) {C Cb fi c1 c2:Addr} (W:ExcW K mg C Cb fi c1 c2) (G:FnI P w K mg base C fi "column" 1) {F_lowest_multiple:FD} (OO:FnAt P w K mg base "lowest_multiple" ["numbers"] 3 F_lowest_multiple) {F_ordered_heights:FDX} (OP:FnAtX P w K mg base C "column" "ordered_heights" ["sides","column","bottom"] 4 F_ordered_heights) {bK:FD} (PQ:FnAt P w K mg base "ratio" ["top","bottom"] 2 bK) {F_width_of:FD} (OT:FnAt P w K mg base "width_of" ["side"] 1 F_width_of) (m_zip:mg "zip" = none) {F:FDX} (len:∀ds Q PP,F ds Q PP->ds.length=2) (pure:∀ds Q PP,F ds Q PP->bS PP F_lowest_multiple F_ordered_heights bK F_width_of { nx:=λ_=>Q .non,rt:=Q } (aN ["sides","column","bottom","heights","rows","low","up","edges"] ds)):FnAtX P w K mg base C "column" "column_bands" ["sides","column"] 5 F :=
 Z.okX hX (λcdv A outer s H E PP hr acc=>mV W G OO OP PQ OT m_zip hr acc) len pure
theorem mQ:FnScope ["ring","sides","one","other"] ["ring"] (aA s_sides_of):=⟨rfl,rfl,rfl,by decide +kernel,rfl,by decide +kernel,by decide +kernel⟩
theorem sZ {f:Addr} {cdv:Value} {A:Around} {outer:List Env} {s:Shared} {H:Hp} {E:XK} (m_zip:mg "zip" = none) (hr:Room 0 (A.deeper (envOfC "sides_of" (aA s_sides_of) s.heap.objs.size f cdv))) :
  DSs (bX CX0 P w K mg base ["ring","sides","one","other"] "sides_of" (aA s_sides_of) f cdv A outer s H E).nox (aL s_sides_of) (fT) :=
 have nd:=mQ.nd
 aG (fQ nd (fB (aM)))
 (aG (cP PassesOwn.never rfl (vS m_zip (dv 0) (aS yH (DE.bor (oB (dvb 0) (rS (aF)) (rR))) (DE.bor (oB (dvb 0) (rR) (rS (aF)))))) (rN rfl (eE (aZ nd) (eE (aZ nd) (nO)))) (aG (eF (cE oU (DE.bor (aV (dvb 2) (DE.bor (aF)))) (DE.bor (aV (dvb 3) (DE.bor (aF))))) (aI (dR 1 (iJ (aC (dv 2) (aC (dv 3) (aM)))))) (bQ))
 (aI (eF (cE oU (DE.bor (aV (dvb 3) (DE.bor (aF)))) (DE.bor (aV (dvb 2) (DE.bor (aF))))) (aI (dR 1 (iJ (aC (dv 3) (aC (dv 2) (aM)))))) (bQ)))))
 (aI (gU 1 (bD (dv 1)))))
theorem uJ (Z:DefAt K mg "sides_of" s_sides_of ["ring"]) (m_zip:mg "zip" = none) {F:FD} (len:∀ds Q,F ds Q->ds.length=1) (pure:∀ds Q,F ds Q->fT { nx:=λ_=>Q .non,rt:=Q } (aN ["ring","sides","one","other"] ds)):FnAt P w K mg base "sides_of" ["ring"] 1 F :=
 Z.ok mQ (λcdv A outer s H E hr=>sZ m_zip hr) len pure
theorem fL:FnScope ["rings","columns","ring","side","column"] ["rings"] (aA s_sides_by_column):=⟨rfl,rfl,rfl,by decide +kernel,rfl,by decide +kernel,by decide +kernel⟩
theorem kF {f:Addr} {cdv:Value} {A:Around} {outer:List Env} {s:Shared} {H:Hp} {E:XK} {F_sides_of:FD} (PM:FnAt P w K mg base "sides_of" ["ring"] 1 F_sides_of) (m_range:mg "range" = none) (hr:Room 1 (A.deeper (envOfC "sides_by_column" (aA s_sides_by_column) s.heap.objs.size f cdv))) :
  DSs (bX CX0 P w K mg base ["rings","columns","ring","side","column"] "sides_by_column" (aA s_sides_by_column) f cdv A outer s H E).nox (aL s_sides_by_column) (cC F_sides_of) :=
 have nd:=fL.nd
 aG (GD nd)
 (aG (cP PassesOwn.never rfl (cN (dv 0)) (aZ nd) (aI (cP PassesOwn.never rfl (cN (aT PM (hr.mono (by decide)) (aC (dv 2) (aM)))) (aZ nd) (aI (cP PassesOwn.never rfl (BN m_range (aC (aV (DE.bor (aV (dvb 3) (DE.bor (aF)))) (DE.bor (aF))) (aC (aV (DE.bor (aV (dvb 3) (DE.bor (aF)))) (DE.bor (aF))) (aM)))) (aZ nd) (aI (GC 1 (dv 4) (dv 3))))))))
 (aI (gU 1 (bD (dv 1)))))
theorem kO (Z:DefAt K mg "sides_by_column" s_sides_by_column ["rings"]) {F_sides_of:FD} (PM:FnAt P w K mg base "sides_of" ["ring"] 1 F_sides_of) (m_range:mg "range" = none) {F:FD} (len:∀ds Q,F ds Q->ds.length=1) (pure:∀ds Q,F ds Q->cC F_sides_of { nx:=λ_=>Q .non,rt:=Q } (aN ["rings","columns","ring","side","column"] ds)):FnAt P w K mg base "sides_by_column" ["rings"] 2 F :=
 Z.ok fL (λcdv A outer s H E hr=>kF PM m_range hr) len pure
theorem uT:FnScope ["rings","columns","rows","column"] ["rings"] (aA s_bands):=⟨rfl,rfl,rfl,by decide +kernel,rfl,by decide +kernel,by decide +kernel⟩
theorem AX {f:Addr} {cdv:Value} {A:Around} {outer:List Env} {s:Shared} {H:Hp} {E:XK} {PP:Int->Prop} {C Cb fi c1 c2:Addr} (W:ExcW K mg C Cb fi c1 c2) (G:FnI P w K mg base C fi "column" 1) {F_column_bands:FDX} (OY:FnAtX P w K mg base C "column" "column_bands" ["sides","column"] 5 F_column_bands) {F_sides_by_column:FD} (OR:FnAt P w K mg base "sides_by_column" ["rings"] 2 F_sides_by_column) (m_list:mg "list" = none) (m_sorted:mg "sorted" = none) (hr:Room 5 (A.deeper (envOfC "bands" (aA s_bands) s.heap.objs.size f cdv))) (acc:XAcc (bX (CXD P w C) P w K mg base ["rings","columns","rows","column"] "bands" (aA s_bands) f cdv A outer s H E) C "column" PP) :
  DSs (bX (CXD P w C) P w K mg base ["rings","columns","rows","column"] "bands" (aA s_bands) f cdv A outer s H E) (aL s_bands) (gR PP F_column_bands F_sides_by_column) :=
 have nd:=uT.nd
 aG (bG nd (aT OR (hr.mono (by decide)) (aC (dv 0) (aM))))
 (aG (fQ nd (fB (aM)))
 (aG (cP PassesOwn.leaving rfl (cN (DO.val (BV m_sorted (DE.bor (DO.val (BU m_list rfl (dv 1))))))) (aZ nd) (aI (zO 2 (tL acc OY (hr.mono (by decide)) (aC (JN hr (dv 1) (dv 3)) (aC (dv 3) (aM)))))))
 (aI (gU 2 (bD (dv 2))))))
theorem DN (Z:DefAt K mg "bands" s_bands ["rings"]) {C Cb fi c1 c2:Addr} (W:ExcW K mg C Cb fi c1 c2) (G:FnI P w K mg base C fi "column" 1) {F_column_bands:FDX} (OY:FnAtX P w K mg base C "column" "column_bands" ["sides","column"] 5 F_column_bands) {F_sides_by_column:FD} (OR:FnAt P w K mg base "sides_by_column" ["rings"] 2 F_sides_by_column) (m_list:mg "list" = none) (m_sorted:mg "sorted" = none) {F:FDX} (len:∀ds Q PP,F ds Q PP->ds.length=1) (pure:∀ds Q PP,F ds Q PP->gR PP F_column_bands F_sides_by_column { nx:=λ_=>Q .non,rt:=Q } (aN ["rings","columns","rows","column"] ds)):FnAtX P w K mg base C "column" "bands" ["rings"] 6 F :=
 Z.okX uT (λcdv A outer s H E PP hr acc=>AX W G OY OR m_list m_sorted hr acc) len pure
theorem iX:FnScope ["_law_rings","_law_caught_here","e"] ["_law_rings"] (aA s__law_caught):=⟨rfl,rfl,rfl,by decide +kernel,rfl,by decide +kernel,by decide +kernel⟩
theorem oV {C Cb f c1 c2:Addr} (W:ExcW K mg C Cb f c1 c2) (Z:DefAt K mg "_law_caught" s__law_caught ["_law_rings"]) {F:FDX} (PN:FnAtX P w K mg base C "column" "bands" ["rings"] 6 F) (len:∀ds Q PP,F ds Q PP->ds.length=1):FnAtE P w K mg base C "column" "_law_caught" ["_law_rings"] 7 (λds PP=>F ds (λ_=>False) PP) :=
 Z.okE (t:=aB (aK 0) aJ) iX (λcdv A outer s H E hr=>wK W.u ⟨rfl,rfl,rfl⟩ iX.nd rfl rfl rfl rfl (λx c z=>by cases z) PN (hr.mono (by decide)) (aC (dv 0) (aM)) rfl rfl (by decide) rfl rfl rfl rfl rfl rfl (by decide) (by decide)) len (wL len)
theorem iY:FnScope ["_law_sides_here","_law_x","_law_found","_law_one","_law_other","_law_wide","_law_rise","_law_left"] ["_law_sides_here","_law_x"] (aA s__law_column):=⟨rfl,rfl,rfl,by decide +kernel,rfl,by decide +kernel,by decide +kernel⟩
theorem nV {f:Addr} {cdv:Value} {A:Around} {outer:List Env} {s:Shared} {H:Hp} {E:XK} (hr:Room 0 (A.deeper (envOfC "_law_column" (aA s__law_column) s.heap.objs.size f cdv))) :
  DSs (bX CX0 P w K mg base ["_law_sides_here","_law_x","_law_found","_law_one","_law_other","_law_wide","_law_rise","_law_left"] "_law_column" (aA s__law_column) f cdv A outer s H E).nox (aL s__law_column) (dI) :=
 have nd:=iY.nd
 aG (fQ nd (fB (aM)))
 (aG (cP PassesOwn.never rfl (cN (dv 0)) (rN rfl (eE (aZ nd) (eE (aZ nd) (nO)))) (aI (eF (DW.tst (CB (cE MM (DE.bor (aV (dvb 3) (DE.bor (aF)))) (dvb 1)) (yC (cE oU (dvb 1) (DE.bor (aV (dvb 4) (DE.bor (aF)))))))) (aG (bG nd (aS gP (DE.bor (aV (dvb 4) (DE.bor (aF)))) (DE.bor (aV (dvb 3) (DE.bor (aF))))))
 (aG (bG nd (aS eK (DE.bor (aS gP (DE.bor (aV (dvb 4) (DE.bor (aF)))) (DE.bor (aV (dvb 3) (DE.bor (aF)))))) (DE.bor (aS jG (DE.bor (aF)) (dvb 5)))))
 (aG (bG nd (aS cW (DE.bor (aS eK (DE.bor (aF)) (DE.bor (aV (dvb 3) (DE.bor (aF)))))) (DE.bor (aS eK (dvb 6) (DE.bor (aS gP (dvb 1) (DE.bor (aV (dvb 3) (DE.bor (aF))))))))))
 (aI (dR 2 (iJ (aC (dv 7) (aC (aS cW (dvb 7) (dvb 6)) (aM))))))))) (bQ))))
 (aI (gU 2 (bD (dv 2)))))
theorem oW (Z:DefAt K mg "_law_column" s__law_column ["_law_sides_here","_law_x"]) {F:FD} (len:∀ds Q,F ds Q->ds.length=2) (pure:∀ds Q,F ds Q->dI { nx:=λ_=>Q .non,rt:=Q } (aN ["_law_sides_here","_law_x","_law_found","_law_one","_law_other","_law_wide","_law_rise","_law_left"] ds)):FnAt P w K mg base "_law_column" ["_law_sides_here","_law_x"] 1 F :=
 Z.ok iY (λcdv A outer s H E hr=>nV hr) len pure
theorem hW:FnScope ["_law_pairs","_law_one","_law_other"] ["_law_pairs"] (aA s__law_crossed):=⟨rfl,rfl,rfl,by decide +kernel,rfl,by decide +kernel,by decide +kernel⟩
theorem mU {f:Addr} {cdv:Value} {A:Around} {outer:List Env} {s:Shared} {H:Hp} {E:XK} (hr:Room 0 (A.deeper (envOfC "_law_crossed" (aA s__law_crossed) s.heap.objs.size f cdv))) :
  DSs (bX CX0 P w K mg base ["_law_pairs","_law_one","_law_other"] "_law_crossed" (aA s__law_crossed) f cdv A outer s H E).nox (aL s__law_crossed) (cV) :=
 have nd:=hW.nd
 aG (cP PassesOwn.never rfl (cN (dv 0)) (aZ nd) (aI (cP PassesOwn.never rfl (cN (dv 0)) (aZ nd) (aI (eF (DW.tst (CB (cE oU (DE.bor (aV (dvb 1) (DE.bor (aF)))) (DE.bor (aV (dvb 2) (DE.bor (aF))))) (yC (cE IZ (DE.bor (aV (dvb 1) (DE.bor (aF)))) (DE.bor (aV (dvb 2) (DE.bor (aF)))))))) (aI (bD (xU))) (bQ))))))
 (aI (bD (xU)))
theorem nA (Z:DefAt K mg "_law_crossed" s__law_crossed ["_law_pairs"]) {F:FD} (len:∀ds Q,F ds Q->ds.length=1) (pure:∀ds Q,F ds Q->cV { nx:=λ_=>Q .non,rt:=Q } (aN ["_law_pairs","_law_one","_law_other"] ds)):FnAt P w K mg base "_law_crossed" ["_law_pairs"] 1 F :=
 Z.ok hW (λcdv A outer s H E hr=>mU hr) len pure
theorem dQ:FnScope ["_law_sides_here","_law_x"] ["_law_sides_here"] (aA s__law_first_crossed):=⟨rfl,rfl,rfl,by decide +kernel,rfl,by decide +kernel,by decide +kernel⟩
theorem fY:List.Nodup (["_law_side"]:List Str):=by decide +kernel
theorem fZ:List.Nodup (["_law_side"]:List Str):=by decide +kernel
theorem hZ {f:Addr} {cdv:Value} {A:Around} {outer:List Env} {s:Shared} {H:Hp} {E:XK} {ON:FD} (PD:FnAt P w K mg base "_law_column" ["_law_sides_here","_law_x"] 1 ON) {OL:FD} (OX:FnAt P w K mg base "_law_crossed" ["_law_pairs"] 1 OL) (m_max:mg "max" = none) (m_min:mg "min" = none) (m_range:mg "range" = none) (hr:Room 1 (A.deeper (envOfC "_law_first_crossed" (aA s__law_first_crossed) s.heap.objs.size f cdv))) :
  DSs (bX CX0 P w K mg base ["_law_sides_here","_law_x"] "_law_first_crossed" (aA s__law_first_crossed) f cdv A outer s H E).nox (aL s__law_first_crossed) (bO ON OL) :=
 have nd:=dQ.nd
 aG (eF (cE (DM hr) (dvb 0) (DE.bor (DO.val (fB (aM))))) (aI (bD (vQ))) (bQ))
 (aG (cP PassesOwn.never rfl (BN m_range (aC (FY m_min rfl (DE.bor (DO.val (rQ ["_law_side"] 1 [] (cN (dv 0)) (λcl C s H fp=>aZ fZ) (λcl C s H fp=>aV (DE.bor (aV (dvb 0) (DE.bor (aF)))) (DE.bor (aF))))))) (aC (FW m_max rfl (DE.bor (DO.val (rQ ["_law_side"] 1 [] (cN (dv 0)) (λcl C s H fp=>aZ fY) (λcl C s H fp=>aV (DE.bor (aV (dvb 0) (DE.bor (aF)))) (DE.bor (aF))))))) (aM)))) (aZ nd) (aI (eF (rV (aT OX (hr.mono (by decide)) (aC (aT PD (hr.mono (by decide)) (aC (dv 0) (aC (dv 1) (aM)))) (aM)))) (aI (bD (dv 1))) (bQ))))
 (aI (bD (vQ))))
theorem iB (Z:DefAt K mg "_law_first_crossed" s__law_first_crossed ["_law_sides_here"]) {ON:FD} (PD:FnAt P w K mg base "_law_column" ["_law_sides_here","_law_x"] 1 ON) {OL:FD} (OX:FnAt P w K mg base "_law_crossed" ["_law_pairs"] 1 OL) (m_max:mg "max" = none) (m_min:mg "min" = none) (m_range:mg "range" = none) {F:FD} (len:∀ds Q,F ds Q->ds.length=1) (pure:∀ds Q,F ds Q->bO ON OL { nx:=λ_=>Q .non,rt:=Q } (aN ["_law_sides_here","_law_x"] ds)):FnAt P w K mg base "_law_first_crossed" ["_law_sides_here"] 2 F :=
 Z.ok dQ (λcdv A outer s H E hr=>hZ PD OX m_max m_min m_range hr) len pure
theorem jY:FnScope ["_law_rings","_law_found","_law_ring","_law_k","_law_one","_law_other"] ["_law_rings"] (aA s__law_sides):=⟨rfl,rfl,rfl,by decide +kernel,rfl,by decide +kernel,by decide +kernel⟩
theorem pM {f:Addr} {cdv:Value} {A:Around} {outer:List Env} {s:Shared} {H:Hp} {E:XK} (m_len:mg "len" = none) (m_range:mg "range" = none) (m_max:mg "max" = none) (m_min:mg "min" = none) (hr:Room 0 (A.deeper (envOfC "_law_sides" (aA s__law_sides) s.heap.objs.size f cdv))) :
  DSs (bX CX0 P w K mg base ["_law_rings","_law_found","_law_ring","_law_k","_law_one","_law_other"] "_law_sides" (aA s__law_sides) f cdv A outer s H E).nox (aL s__law_sides) (dZ) :=
 have nd:=jY.nd
 aG (fQ nd (fB (aM)))
 (aG (cP PassesOwn.never rfl (cN (dv 0)) (aZ nd) (aI (cP PassesOwn.never rfl (lV m_range (aC (oA m_len (dvb 2)) (aM))) (aZ nd) (aG (bG nd (aV (dvb 2) (dvb 3)))
 (aG (bG nd (aV (dvb 2) (DE.bor (aS dH (DE.bor (aS cW (dvb 3) (DE.bor (aF)))) (DE.bor (oA m_len (dvb 2)))))))
 (aI (eF (cE (JA hr) (DE.bor (aV (dvb 4) (DE.bor (aF)))) (DE.bor (aV (dvb 5) (DE.bor (aF))))) (aI (dR 1 (iJ (aC (iH (BG hr) m_min qL (aC (dv 4) (aC (dv 5) (aM)))) (aC (iH (BF hr) m_max zE (aC (dv 4) (aC (dv 5) (aM)))) (aM)))))) (bQ))))))))
 (aI (gU 1 (bD (dv 1)))))
theorem pU (Z:DefAt K mg "_law_sides" s__law_sides ["_law_rings"]) (m_len:mg "len" = none) (m_range:mg "range" = none) (m_max:mg "max" = none) (m_min:mg "min" = none) {F:FD} (len:∀ds Q,F ds Q->ds.length=1) (pure:∀ds Q,F ds Q->dZ { nx:=λ_=>Q .non,rt:=Q } (aN ["_law_rings","_law_found","_law_ring","_law_k","_law_one","_law_other"] ds)):FnAt P w K mg base "_law_sides" ["_law_rings"] 1 F :=
 Z.ok jY (λcdv A outer s H E hr=>pM m_len m_range m_max m_min hr) len pure
theorem kA:FnScope ["_law_found"] ["_law_found"] (aA s__law_whole):=⟨rfl,rfl,rfl,by decide +kernel,rfl,by decide +kernel,by decide +kernel⟩
theorem pO {f:Addr} {cdv:Value} {A:Around} {outer:List Env} {s:Shared} {H:Hp} {E:XK} (m_isinstance:mg "isinstance" = none) (m_bool:mg "bool" = none) (m_int:mg "int" = none) (hr:Room 0 (A.deeper (envOfC "_law_whole" (aA s__law_whole) s.heap.objs.size f cdv))) :
  DSs (bX CX0 P w K mg base ["_law_found"] "_law_whole" (aA s__law_whole) f cdv A outer s H E).nox (aL s__law_whole) (eC) :=
 have nd:=kA.nd
 aI (bD (rM (vP (IG _) m_isinstance m_int zD (dv 0)) (vR (JO (vP (FB _) m_isinstance m_bool vG (dv 0))))))
theorem pW (Z:DefAt K mg "_law_whole" s__law_whole ["_law_found"]) (m_isinstance:mg "isinstance" = none) (m_bool:mg "bool" = none) (m_int:mg "int" = none) {F:FD} (len:∀ds Q,F ds Q->ds.length=1) (pure:∀ds Q,F ds Q->eC { nx:=λ_=>Q .non,rt:=Q } (aN ["_law_found"] ds)):FnAt P w K mg base "_law_whole" ["_law_found"] 1 F :=
 Z.ok kA (λcdv A outer s H E hr=>pO m_isinstance m_bool m_int hr) len pure
theorem hV:FnScope ["_law_script","_law_k"] ["_law_script","_law_k"] (aA s__law_cell_at):=⟨rfl,rfl,rfl,by decide +kernel,rfl,by decide +kernel,by decide +kernel⟩
theorem mT {f:Addr} {cdv:Value} {A:Around} {outer:List Env} {s:Shared} {H:Hp} {E:XK} (m_len:mg "len" = none) (hr:Room 0 (A.deeper (envOfC "_law_cell_at" (aA s__law_cell_at) s.heap.objs.size f cdv))) :
  DSs (bX CX0 P w K mg base ["_law_script","_law_k"] "_law_cell_at" (aA s__law_cell_at) f cdv A outer s H E).nox (aL s__law_cell_at) (cU) :=
 have nd:=hV.nd
 aG (eF (cE oU (dvb 1) (DE.bor (oA m_len (dvb 0)))) (aI (bD (aV (dvb 0) (dvb 1)))) (bQ))
 (aI (bD (aF)))
theorem mZ (Z:DefAt K mg "_law_cell_at" s__law_cell_at ["_law_script","_law_k"]) (m_len:mg "len" = none) {F:FD} (len:∀ds Q,F ds Q->ds.length=2) (pure:∀ds Q,F ds Q->cU { nx:=λ_=>Q .non,rt:=Q } (aN ["_law_script","_law_k"] ds)):FnAt P w K mg base "_law_cell_at" ["_law_script","_law_k"] 1 F :=
 Z.ok hV (λcdv A outer s H E hr=>mT m_len hr) len pure
theorem jX:FnScope ["_law_script","_law_k","_law_cell","_law_number"] ["_law_script","_law_k"] (aA s__law_mixed):=⟨rfl,rfl,rfl,by decide +kernel,rfl,by decide +kernel,by decide +kernel⟩
theorem pL {f:Addr} {cdv:Value} {A:Around} {outer:List Env} {s:Shared} {H:Hp} {E:XK} (m_len:mg "len" = none) (m_min:mg "min" = none) (hr:Room 0 (A.deeper (envOfC "_law_mixed" (aA s__law_mixed) s.heap.objs.size f cdv))) :
  DSs (bX CX0 P w K mg base ["_law_script","_law_k","_law_cell","_law_number"] "_law_mixed" (aA s__law_mixed) f cdv A outer s H E).nox (aL s__law_mixed) (dY) :=
 have nd:=jX.nd
 aG (bG nd (aF))
 (aG (eF (cE IZ (DE.bor (oA m_len (dvb 0))) (DE.bor (aF))) (aI (bG nd (aV (dvb 0) (DE.bor (aS dH (dvb 1) (DE.bor (iH (FK rfl) m_min qL (aC (aF) (aC (oA m_len (dvb 0)) (aM)))))))))) (bQ))
 (aG (bG nd (aS cW (DE.bor (aS dH (dvb 2) (DE.bor (aS sI (DE.bor (aF)) (DE.bor (aF)))))) (DE.bor (aS eK (DE.bor (aF)) (DE.bor (aS cW (dvb 1) (DE.bor (aF))))))))
 (aI (bD (aS dH (DE.bor (aS eK (dvb 3) (dvb 3))) (DE.bor (aF)))))))
theorem pT (Z:DefAt K mg "_law_mixed" s__law_mixed ["_law_script","_law_k"]) (m_len:mg "len" = none) (m_min:mg "min" = none) {F:FD} (len:∀ds Q,F ds Q->ds.length=2) (pure:∀ds Q,F ds Q->dY { nx:=λ_=>Q .non,rt:=Q } (aN ["_law_script","_law_k","_law_cell","_law_number"] ds)):FnAt P w K mg base "_law_mixed" ["_law_script","_law_k"] 1 F :=
 Z.ok jX (λcdv A outer s H E hr=>pL m_len m_min hr) len pure
theorem jZ:FnScope ["_law_script"] ["_law_script"] (aA s__law_start):=⟨rfl,rfl,rfl,by decide +kernel,rfl,by decide +kernel,by decide +kernel⟩
theorem pN {f:Addr} {cdv:Value} {A:Around} {outer:List Env} {s:Shared} {H:Hp} {E:XK} {OF:FD} (OG:FnAt P w K mg base "_law_cell_at" ["_law_script","_law_k"] 1 OF) (hr:Room 1 (A.deeper (envOfC "_law_start" (aA s__law_start) s.heap.objs.size f cdv))) :
  DSs (bX CX0 P w K mg base ["_law_script"] "_law_start" (aA s__law_start) f cdv A outer s H E).nox (aL s__law_start) (eB OF) :=
 have nd:=jZ.nd
 aG (eF (cE wF (DE.bor (aS dH (DE.bor (aT OG (hr.mono (by decide)) (aC (dv 0) (aC (aF) (aM))))) (DE.bor (aF)))) (DE.bor (aF))) (aI (bD (aS gP (DE.bor (aS dH (DE.bor (aT OG (hr.mono (by decide)) (aC (dv 0) (aC (aF) (aM))))) (DE.bor (aS eK (DE.bor (aF)) (DE.bor (aS sI (DE.bor (aF)) (DE.bor (aF)))))))) (DE.bor (aS sI (DE.bor (aF)) (DE.bor (aF))))))) (bQ))
 (aI (bD (aS gP (DE.bor (aS dH (DE.bor (aT OG (hr.mono (by decide)) (aC (dv 0) (aC (aF) (aM))))) (DE.bor (aF)))) (DE.bor (aF)))))
theorem pV (Z:DefAt K mg "_law_start" s__law_start ["_law_script"]) {OF:FD} (OG:FnAt P w K mg base "_law_cell_at" ["_law_script","_law_k"] 1 OF) {F:FD} (len:∀ds Q,F ds Q->ds.length=1) (pure:∀ds Q,F ds Q->eB OF { nx:=λ_=>Q .non,rt:=Q } (aN ["_law_script"] ds)):FnAt P w K mg base "_law_start" ["_law_script"] 2 F :=
 Z.ok jZ (λcdv A outer s H E hr=>pN OG hr) len pure
theorem lR:FnScope ["_law_script","_law_off","_law_far","_law_rings","_law_k","_law_ring","_law_j","_law_number"] ["_law_script"] (aA s__law_wild):=⟨rfl,rfl,rfl,by decide +kernel,rfl,by decide +kernel,by decide +kernel⟩
theorem rD {f:Addr} {cdv:Value} {A:Around} {outer:List Env} {s:Shared} {H:Hp} {E:XK} {OF:FD} (OG:FnAt P w K mg base "_law_cell_at" ["_law_script","_law_k"] 1 OF) {OJ:FD} (PB:FnAt P w K mg base "_law_mixed" ["_law_script","_law_k"] 1 OJ) {OV:FD} (PJ:FnAt P w K mg base "_law_start" ["_law_script"] 2 OV) (m_range:mg "range" = none) (hr:Room 2 (A.deeper (envOfC "_law_wild" (aA s__law_wild) s.heap.objs.size f cdv))) :
  DSs (bX CX0 P w K mg base ["_law_script","_law_off","_law_far","_law_rings","_law_k","_law_ring","_law_j","_law_number"] "_law_wild" (aA s__law_wild) f cdv A outer s H E).nox (aL s__law_wild) (eV OF OJ OV) :=
 have nd:=lR.nd
 aG (bG nd (aT PJ (hr.mono (by decide)) (aC (dv 0) (aM))))
 (aG (bG nd (aV (DE.bor (DO.val (fB (aC (aF) (aC (aF) (aC (aF) (aC (aS cW (DE.bor (aS sI (DE.bor (aF)) (DE.bor (aF)))) (DE.bor (aF))) (aM)))))))) (DE.bor (aS dH (DE.bor (aT OG (hr.mono (by decide)) (aC (dv 0) (aC (aF) (aM))))) (DE.bor (aF))))))
 (aG (fQ nd (fB (aM)))
 (aG (cP PassesOwn.never rfl (lV m_range (aC (aS cW (DE.bor (aF)) (DE.bor (aS dH (DE.bor (aT OG (hr.mono (by decide)) (aC (dv 0) (aC (aF) (aM))))) (DE.bor (aF))))) (aM))) (aZ nd) (aG (fQ nd (fB (aM)))
 (aG (cP PassesOwn.never rfl (lV m_range (aC (aV (DE.bor (DO.val (fB (aC (aF) (aC (aF) (aC (aF) (aC (aF) (aC (aF) (aC (aF) (aC (aF) (aC (aF) (aM)))))))))))) (DE.bor (aS dH (DE.bor (aT PB (hr.mono (by decide)) (aC (dv 0) (aC (aS cW (DE.bor (aF)) (dvb 4)) (aM))))) (DE.bor (aF))))) (aM))) (aZ nd) (aG (bG nd (aT PB (hr.mono (by decide)) (aC (dv 0) (aC (aS cW (DE.bor (aS eK (DE.bor (aF)) (dvb 4))) (dvb 6)) (aM)))))
 (aI (dR 5 (iJ (aC (aS cW (dvb 1) (DE.bor (aS dH (dvb 7) (DE.bor (aV (DE.bor (DO.val (fB (aC (aF) (aC (aF) (aM)))))) (DE.bor (aS dH (dvb 4) (DE.bor (aF))))))))) (aC (aS eK (dvb 2) (DE.bor (aS gP (DE.bor (aS dH (DE.bor (aS jG (dvb 7) (DE.bor (aF)))) (DE.bor (aF)))) (DE.bor (aF))))) (aM))))))))
 (aI (gU 5 (dR 3 (dv 5)))))))
 (aI (gU 3 (bD (dv 3)))))))
theorem sJ (Z:DefAt K mg "_law_wild" s__law_wild ["_law_script"]) {OF:FD} (OG:FnAt P w K mg base "_law_cell_at" ["_law_script","_law_k"] 1 OF) {OJ:FD} (PB:FnAt P w K mg base "_law_mixed" ["_law_script","_law_k"] 1 OJ) {OV:FD} (PJ:FnAt P w K mg base "_law_start" ["_law_script"] 2 OV) (m_range:mg "range" = none) {F:FD} (len:∀ds Q,F ds Q->ds.length=1) (pure:∀ds Q,F ds Q->eV OF OJ OV { nx:=λ_=>Q .non,rt:=Q } (aN ["_law_script","_law_off","_law_far","_law_rings","_law_k","_law_ring","_law_j","_law_number"] ds)):FnAt P w K mg base "_law_wild" ["_law_script"] 3 F :=
 Z.ok lR (λcdv A outer s H E hr=>rD OG PB PJ m_range hr) len pure
theorem EY:FnScope ["_law_script","_law_rings","_law_due","_law_handed","_law_caught_here"] ["_law_script"] (aA s_law):=⟨rfl,rfl,rfl,by decide +kernel,rfl,by decide +kernel,by decide +kernel⟩
theorem AI:List.Nodup (["_law_ring"]:List Str):=by decide +kernel
theorem JJ {f:Addr} {cdv:Value} {A:Around} {outer:List Env} {s:Shared} {H:Hp} {E:XK} {C Cb fi c1 c2:Addr} (W:ExcW K mg C Cb fi c1 c2) (G:FnI P w K mg base C fi "column" 1) {OS:FDE} (PC:FnAtE P w K mg base C "column" "_law_caught" ["_law_rings"] 7 OS) {OI:FD} (OM:FnAt P w K mg base "_law_first_crossed" ["_law_sides_here"] 2 OI) {OU:FD} (PH:FnAt P w K mg base "_law_sides" ["_law_rings"] 1 OU) {OW:FD} (PK:FnAt P w K mg base "_law_whole" ["_law_found"] 1 OW) {OZ:FD} (PL:FnAt P w K mg base "_law_wild" ["_law_script"] 3 OZ) {fN:FDX} (PN:FnAtX P w K mg base C "column" "bands" ["rings"] 6 fN) (m_isinstance:mg "isinstance" = none) (m_list:mg "list" = none) (hr:Room 7 (A.deeper (envOfC "law" (aA s_law) s.heap.objs.size f cdv))) :
  DSs (bX CX0 P w K mg base ["_law_script","_law_rings","_law_due","_law_handed","_law_caught_here"] "law" (aA s_law) f cdv A outer s H E).nox (aL s_law) (gS C OS OI OU OW OZ fN) :=
 have nd:=EY.nd
 aG (bG nd (aT PL (hr.mono (by decide)) (aC (dv 0) (aM))))
 (aG (bG nd (aT OM (hr.mono (by decide)) (aC (aT PH (hr.mono (by decide)) (aC (dv 1) (aM))) (aM))))
 (aG (rT ["_law_ring"] 1 [] nd (cN (dv 1)) (λcl C s H fp=>aZ AI) (λcl C s H fp=>zM m_list (dvb 0)))
 (aG (eF (cE KI (dvb 2) (DE.bor (vQ))) (aI (gU 3 (bD (rM (vP (FC _) m_isinstance m_list vH (aT PN.norm (hr.mono (by decide)) (aC (dv 3) (aM)))) (vR (vO (DM hr) (dvb 3) (dvb 1))))))) (bQ))
 (aG (gU 3 (GE nd PC (hr.mono (by decide)) (aC (dv 3) (aM))))
 (aG (eF (DW.tst (IR (rV (BK W.z.k W.no m_isinstance (by exact rfl) W.m1 (by exact rfl) W.m2 4)) (CC (cE (KJ hr) (dvb 3) (dvb 1))))) (aI (bD (xU))) (bQ))
 (aG (eF (DW.tst (IR (CA (rV (xW (c:=.ref C) (cv:=.ref C) W.z.k (λu z=>by exact z) W.one m_isinstance (sM (by exact rfl) W.mX (by exact rfl)) 4))) (CC (CA (rV (xW (c:=.ty "ValueError") (cv:=.type "ValueError") W.z.k (λu z=>by exact z) W.ve m_isinstance (yK (by exact rfl) W.vn FJ (by exact rfl)) 4)))))) (aI (bD (xU))) (bQ))
 (aI (bD (rM (aT PK (hr.mono (by decide)) (aC (xV W.z.k W.z.a 4) (aM))) (rM (vO (DM hr) (DE.bor (xV W.z.k W.z.a 4)) (dvb 2)) (vR (vO wF (DE.bor (FV W.z G (hr.mono (by decide)) W.kp rfl W.mX (aS cW (dvb 2) (DE.bor (aF))))) (DE.bor (aS cW (dvb 2) (DE.bor (aF))))))))))))))))
theorem JW {C Cb fi c1 c2:Addr} (W:ExcW K mg C Cb fi c1 c2) (G:FnI P w K mg base C fi "column" 1) {OS:FDE} (PC:FnAtE P w K mg base C "column" "_law_caught" ["_law_rings"] 7 OS) {OI:FD} (OM:FnAt P w K mg base "_law_first_crossed" ["_law_sides_here"] 2 OI) {OU:FD} (PH:FnAt P w K mg base "_law_sides" ["_law_rings"] 1 OU) {OW:FD} (PK:FnAt P w K mg base "_law_whole" ["_law_found"] 1 OW) {OZ:FD} (PL:FnAt P w K mg base "_law_wild" ["_law_script"] 3 OZ) {fN:FDX} (PN:FnAtX P w K mg base C "column" "bands" ["rings"] 6 fN) (m_isinstance:mg "isinstance" = none) (m_list:mg "list" = none) {F:FD} {f:Addr} {fd:FuncData} (Fu:Fun K "law" "law" s_law f fd) (len:∀ds Q,F ds Q->ds.length=1) (pure:∀ds Q,F ds Q->gS C OS OI OU OW OZ fN { nx:=λ_=>Q .non,rt:=Q } (aN ["_law_script","_law_rings","_law_due","_law_handed","_law_caught_here"] ds)):FnOk P w K mg base CX0 8 f fd ["_law_script"] (spD K F) :=
 IU Fu EY (λcdv A outer s H E hr=>JJ W G PC OM PH PK PL PN m_isinstance m_list hr) len pure
end
structure TopF (K:PySem.W.Frag) (mg:Str->Option Value):Prop where
 d_shared_divisor:DefAt K mg "shared_divisor" s_shared_divisor ["one","other"]
 d_shared_multiple:DefAt K mg "shared_multiple" s_shared_multiple ["one","other"]
 d_lowest_multiple:DefAt K mg "lowest_multiple" s_lowest_multiple ["numbers"]
 d_width_of:DefAt K mg "width_of" s_width_of ["side"]
 d_height_at:DefAt K mg "height_at" s_height_at ["side","thread","bottom"]
 d_ordered_heights:DefAt K mg "ordered_heights" s_ordered_heights ["sides","column","bottom"]
 d_ratio:DefAt K mg "ratio" s_ratio ["top","bottom"]
 d_column_bands:DefAt K mg "column_bands" s_column_bands ["sides","column"]
 d_sides_of:DefAt K mg "sides_of" s_sides_of ["ring"]
 d_sides_by_column:DefAt K mg "sides_by_column" s_sides_by_column ["rings"]
 d_bands:DefAt K mg "bands" s_bands ["rings"]
 d__law_caught:DefAt K mg "_law_caught" s__law_caught ["_law_rings"]
 d__law_column:DefAt K mg "_law_column" s__law_column ["_law_sides_here","_law_x"]
 d__law_crossed:DefAt K mg "_law_crossed" s__law_crossed ["_law_pairs"]
 d__law_first_crossed:DefAt K mg "_law_first_crossed" s__law_first_crossed ["_law_sides_here"]
 d__law_sides:DefAt K mg "_law_sides" s__law_sides ["_law_rings"]
 d__law_whole:DefAt K mg "_law_whole" s__law_whole ["_law_found"]
 d__law_cell_at:DefAt K mg "_law_cell_at" s__law_cell_at ["_law_script","_law_k"]
 d__law_mixed:DefAt K mg "_law_mixed" s__law_mixed ["_law_script","_law_k"]
 d__law_start:DefAt K mg "_law_start" s__law_start ["_law_script"]
 d__law_wild:DefAt K mg "_law_wild" s__law_wild ["_law_script"]
 d_law:DefAt K mg "law" s_law ["_law_script"]
 m_abs:mg "abs" = none
 m_zip:mg "zip" = none
 m_sorted:mg "sorted" = none
 m_range:mg "range" = none
 m_list:mg "list" = none
 m_max:mg "max" = none
 m_min:mg "min" = none
 m_len:mg "len" = none
 m_isinstance:mg "isinstance" = none
 m_bool:mg "bool" = none
 m_int:mg "int" = none
 x:∃C Cb f c1 c2 fd,ExcW K mg C Cb f c1 c2/\Fun K "__init__" "Crossed.__init__" s_init f fd/\∀us:List Value,us.length=2->bindArgs fd ⟨us,[]⟩=pure ((["self","column"]:List Str).zip us)
theorem top_mk {K:PySem.W.Frag} {h:Heap} {mg:Str->Option Value} (X:K.In h) (G:h.Ns mainGlobals mg)
  {f0:Addr} {od0 an0:Option Addr} {sl0:Array (Option Value)} {oc0 kV0 dc0 pm0 cd0 ct0:Value}
  {f1:Addr} {od1 an1:Option Addr} {sl1:Array (Option Value)} {oc1 kV1 dc1 pm1 cd1 ct1:Value}
  {f2:Addr} {od2 an2:Option Addr} {sl2:Array (Option Value)} {oc2 kV2 dc2 pm2 cd2 ct2:Value}
  {f3:Addr} {od3 an3:Option Addr} {sl3:Array (Option Value)} {oc3 kV3 dc3 pm3 cd3 ct3:Value}
  {f4:Addr} {od4 an4:Option Addr} {sl4:Array (Option Value)} {oc4 kV4 dc4 pm4 cd4 ct4:Value}
  {f5:Addr} {od5 an5:Option Addr} {sl5:Array (Option Value)} {oc5 kV5 dc5 pm5 cd5 ct5:Value}
  {f6:Addr} {od6 an6:Option Addr} {sl6:Array (Option Value)} {oc6 kV6 dc6 pm6 cd6 ct6:Value}
  {f7:Addr} {od7 an7:Option Addr} {sl7:Array (Option Value)} {oc7 kV7 dc7 pm7 cd7 ct7:Value}
  {f8:Addr} {od8 an8:Option Addr} {sl8:Array (Option Value)} {oc8 kV8 dc8 pm8 cd8 ct8:Value}
  {f9:Addr} {od9 an9:Option Addr} {sl9:Array (Option Value)} {oc9 kV9 dc9 pm9 cd9 ct9:Value}
  {f10:Addr} {od10 an10:Option Addr} {sl10:Array (Option Value)} {oc10 kV10 dc10 pm10 cd10 ct10:Value}
  {f11:Addr} {od11 an11:Option Addr} {sl11:Array (Option Value)} {oc11 kV11 dc11 pm11 cd11 ct11:Value}
  {f12:Addr} {od12 an12:Option Addr} {sl12:Array (Option Value)} {oc12 kV12 dc12 pm12 cd12 ct12:Value}
  {f13:Addr} {od13 an13:Option Addr} {sl13:Array (Option Value)} {oc13 kV13 dc13 pm13 cd13 ct13:Value}
  {f14:Addr} {od14 an14:Option Addr} {sl14:Array (Option Value)} {oc14 kV14 dc14 pm14 cd14 ct14:Value}
  {f15:Addr} {od15 an15:Option Addr} {sl15:Array (Option Value)} {oc15 kV15 dc15 pm15 cd15 ct15:Value}
  {f16:Addr} {od16 an16:Option Addr} {sl16:Array (Option Value)} {oc16 kV16 dc16 pm16 cd16 ct16:Value}
  {f17:Addr} {od17 an17:Option Addr} {sl17:Array (Option Value)} {oc17 kV17 dc17 pm17 cd17 ct17:Value}
  {f18:Addr} {od18 an18:Option Addr} {sl18:Array (Option Value)} {oc18 kV18 dc18 pm18 cd18 ct18:Value}
  {f19:Addr} {od19 an19:Option Addr} {sl19:Array (Option Value)} {oc19 kV19 dc19 pm19 cd19 ct19:Value}
  {f20:Addr} {od20 an20:Option Addr} {sl20:Array (Option Value)} {oc20 kV20 dc20 pm20 cd20 ct20:Value}
  {f21:Addr} {od21 an21:Option Addr} {sl21:Array (Option Value)} {oc21 kV21 dc21 pm21 cd21 ct21:Value}
  {xC xB x1 x2 xf:Addr} {xd:ClassData} {xod xan:Option Addr} {xsl:Array (Option Value)} {xoc xkV xdc xpm xcd xct:Value}
  (a0:PySem.W.nsIn K mainGlobals "shared_divisor" = some (some (.ref f0))) (l0:K.lookup f0=some ⟨oc0,od0,.func (PySem.W.fnOf "shared_divisor" "shared_divisor" (aY s_shared_divisor) (aL s_shared_divisor) (aA s_shared_divisor) .none kV0 dc0 pm0 an0 cd0 ct0),sl0⟩) (c0:PySem.W.codeIn K cd0 "shared_divisor" = true) (k0:PySem.W.keepIn K (.ref f0)=true)
  (a1:PySem.W.nsIn K mainGlobals "shared_multiple" = some (some (.ref f1))) (l1:K.lookup f1=some ⟨oc1,od1,.func (PySem.W.fnOf "shared_multiple" "shared_multiple" (aY s_shared_multiple) (aL s_shared_multiple) (aA s_shared_multiple) .none kV1 dc1 pm1 an1 cd1 ct1),sl1⟩) (c1:PySem.W.codeIn K cd1 "shared_multiple" = true) (k1:PySem.W.keepIn K (.ref f1)=true)
  (a2:PySem.W.nsIn K mainGlobals "lowest_multiple" = some (some (.ref f2))) (l2:K.lookup f2=some ⟨oc2,od2,.func (PySem.W.fnOf "lowest_multiple" "lowest_multiple" (aY s_lowest_multiple) (aL s_lowest_multiple) (aA s_lowest_multiple) .none kV2 dc2 pm2 an2 cd2 ct2),sl2⟩) (c2:PySem.W.codeIn K cd2 "lowest_multiple" = true) (k2:PySem.W.keepIn K (.ref f2)=true)
  (a3:PySem.W.nsIn K mainGlobals "width_of" = some (some (.ref f3))) (l3:K.lookup f3=some ⟨oc3,od3,.func (PySem.W.fnOf "width_of" "width_of" (aY s_width_of) (aL s_width_of) (aA s_width_of) .none kV3 dc3 pm3 an3 cd3 ct3),sl3⟩) (c3:PySem.W.codeIn K cd3 "width_of" = true) (k3:PySem.W.keepIn K (.ref f3)=true)
  (a4:PySem.W.nsIn K mainGlobals "height_at" = some (some (.ref f4))) (l4:K.lookup f4=some ⟨oc4,od4,.func (PySem.W.fnOf "height_at" "height_at" (aY s_height_at) (aL s_height_at) (aA s_height_at) .none kV4 dc4 pm4 an4 cd4 ct4),sl4⟩) (c4:PySem.W.codeIn K cd4 "height_at" = true) (k4:PySem.W.keepIn K (.ref f4)=true)
  (a5:PySem.W.nsIn K mainGlobals "ordered_heights" = some (some (.ref f5))) (l5:K.lookup f5=some ⟨oc5,od5,.func (PySem.W.fnOf "ordered_heights" "ordered_heights" (aY s_ordered_heights) (aL s_ordered_heights) (aA s_ordered_heights) .none kV5 dc5 pm5 an5 cd5 ct5),sl5⟩) (c5:PySem.W.codeIn K cd5 "ordered_heights" = true) (k5:PySem.W.keepIn K (.ref f5)=true)
  (a6:PySem.W.nsIn K mainGlobals "ratio" = some (some (.ref f6))) (l6:K.lookup f6=some ⟨oc6,od6,.func (PySem.W.fnOf "ratio" "ratio" (aY s_ratio) (aL s_ratio) (aA s_ratio) .none kV6 dc6 pm6 an6 cd6 ct6),sl6⟩) (c6:PySem.W.codeIn K cd6 "ratio" = true) (k6:PySem.W.keepIn K (.ref f6)=true)
  (a7:PySem.W.nsIn K mainGlobals "column_bands" = some (some (.ref f7))) (l7:K.lookup f7=some ⟨oc7,od7,.func (PySem.W.fnOf "column_bands" "column_bands" (aY s_column_bands) (aL s_column_bands) (aA s_column_bands) .none kV7 dc7 pm7 an7 cd7 ct7),sl7⟩) (c7:PySem.W.codeIn K cd7 "column_bands" = true) (k7:PySem.W.keepIn K (.ref f7)=true)
  (a8:PySem.W.nsIn K mainGlobals "sides_of" = some (some (.ref f8))) (l8:K.lookup f8=some ⟨oc8,od8,.func (PySem.W.fnOf "sides_of" "sides_of" (aY s_sides_of) (aL s_sides_of) (aA s_sides_of) .none kV8 dc8 pm8 an8 cd8 ct8),sl8⟩) (c8:PySem.W.codeIn K cd8 "sides_of" = true) (k8:PySem.W.keepIn K (.ref f8)=true)
  (a9:PySem.W.nsIn K mainGlobals "sides_by_column" = some (some (.ref f9))) (l9:K.lookup f9=some ⟨oc9,od9,.func (PySem.W.fnOf "sides_by_column" "sides_by_column" (aY s_sides_by_column) (aL s_sides_by_column) (aA s_sides_by_column) .none kV9 dc9 pm9 an9 cd9 ct9),sl9⟩) (c9:PySem.W.codeIn K cd9 "sides_by_column" = true) (k9:PySem.W.keepIn K (.ref f9)=true)
  (a10:PySem.W.nsIn K mainGlobals "bands" = some (some (.ref f10))) (l10:K.lookup f10=some ⟨oc10,od10,.func (PySem.W.fnOf "bands" "bands" (aY s_bands) (aL s_bands) (aA s_bands) .none kV10 dc10 pm10 an10 cd10 ct10),sl10⟩) (c10:PySem.W.codeIn K cd10 "bands" = true) (k10:PySem.W.keepIn K (.ref f10)=true)
  (a11:PySem.W.nsIn K mainGlobals "_law_caught" = some (some (.ref f11))) (l11:K.lookup f11=some ⟨oc11,od11,.func (PySem.W.fnOf "_law_caught" "_law_caught" (aY s__law_caught) (aL s__law_caught) (aA s__law_caught) .none kV11 dc11 pm11 an11 cd11 ct11),sl11⟩) (c11:PySem.W.codeIn K cd11 "_law_caught" = true) (k11:PySem.W.keepIn K (.ref f11)=true)
  (a12:PySem.W.nsIn K mainGlobals "_law_column" = some (some (.ref f12))) (l12:K.lookup f12=some ⟨oc12,od12,.func (PySem.W.fnOf "_law_column" "_law_column" (aY s__law_column) (aL s__law_column) (aA s__law_column) .none kV12 dc12 pm12 an12 cd12 ct12),sl12⟩) (c12:PySem.W.codeIn K cd12 "_law_column" = true) (k12:PySem.W.keepIn K (.ref f12)=true)
  (a13:PySem.W.nsIn K mainGlobals "_law_crossed" = some (some (.ref f13))) (l13:K.lookup f13=some ⟨oc13,od13,.func (PySem.W.fnOf "_law_crossed" "_law_crossed" (aY s__law_crossed) (aL s__law_crossed) (aA s__law_crossed) .none kV13 dc13 pm13 an13 cd13 ct13),sl13⟩) (c13:PySem.W.codeIn K cd13 "_law_crossed" = true) (k13:PySem.W.keepIn K (.ref f13)=true)
  (a14:PySem.W.nsIn K mainGlobals "_law_first_crossed" = some (some (.ref f14))) (l14:K.lookup f14=some ⟨oc14,od14,.func (PySem.W.fnOf "_law_first_crossed" "_law_first_crossed" (aY s__law_first_crossed) (aL s__law_first_crossed) (aA s__law_first_crossed) .none kV14 dc14 pm14 an14 cd14 ct14),sl14⟩) (c14:PySem.W.codeIn K cd14 "_law_first_crossed" = true) (k14:PySem.W.keepIn K (.ref f14)=true)
  (a15:PySem.W.nsIn K mainGlobals "_law_sides" = some (some (.ref f15))) (l15:K.lookup f15=some ⟨oc15,od15,.func (PySem.W.fnOf "_law_sides" "_law_sides" (aY s__law_sides) (aL s__law_sides) (aA s__law_sides) .none kV15 dc15 pm15 an15 cd15 ct15),sl15⟩) (c15:PySem.W.codeIn K cd15 "_law_sides" = true) (k15:PySem.W.keepIn K (.ref f15)=true)
  (a16:PySem.W.nsIn K mainGlobals "_law_whole" = some (some (.ref f16))) (l16:K.lookup f16=some ⟨oc16,od16,.func (PySem.W.fnOf "_law_whole" "_law_whole" (aY s__law_whole) (aL s__law_whole) (aA s__law_whole) .none kV16 dc16 pm16 an16 cd16 ct16),sl16⟩) (c16:PySem.W.codeIn K cd16 "_law_whole" = true) (k16:PySem.W.keepIn K (.ref f16)=true)
  (a17:PySem.W.nsIn K mainGlobals "_law_cell_at" = some (some (.ref f17))) (l17:K.lookup f17=some ⟨oc17,od17,.func (PySem.W.fnOf "_law_cell_at" "_law_cell_at" (aY s__law_cell_at) (aL s__law_cell_at) (aA s__law_cell_at) .none kV17 dc17 pm17 an17 cd17 ct17),sl17⟩) (c17:PySem.W.codeIn K cd17 "_law_cell_at" = true) (k17:PySem.W.keepIn K (.ref f17)=true)
  (a18:PySem.W.nsIn K mainGlobals "_law_mixed" = some (some (.ref f18))) (l18:K.lookup f18=some ⟨oc18,od18,.func (PySem.W.fnOf "_law_mixed" "_law_mixed" (aY s__law_mixed) (aL s__law_mixed) (aA s__law_mixed) .none kV18 dc18 pm18 an18 cd18 ct18),sl18⟩) (c18:PySem.W.codeIn K cd18 "_law_mixed" = true) (k18:PySem.W.keepIn K (.ref f18)=true)
  (a19:PySem.W.nsIn K mainGlobals "_law_start" = some (some (.ref f19))) (l19:K.lookup f19=some ⟨oc19,od19,.func (PySem.W.fnOf "_law_start" "_law_start" (aY s__law_start) (aL s__law_start) (aA s__law_start) .none kV19 dc19 pm19 an19 cd19 ct19),sl19⟩) (c19:PySem.W.codeIn K cd19 "_law_start" = true) (k19:PySem.W.keepIn K (.ref f19)=true)
  (a20:PySem.W.nsIn K mainGlobals "_law_wild" = some (some (.ref f20))) (l20:K.lookup f20=some ⟨oc20,od20,.func (PySem.W.fnOf "_law_wild" "_law_wild" (aY s__law_wild) (aL s__law_wild) (aA s__law_wild) .none kV20 dc20 pm20 an20 cd20 ct20),sl20⟩) (c20:PySem.W.codeIn K cd20 "_law_wild" = true) (k20:PySem.W.keepIn K (.ref f20)=true)
  (a21:PySem.W.nsIn K mainGlobals "law" = some (some (.ref f21))) (l21:K.lookup f21=some ⟨oc21,od21,.func (PySem.W.fnOf "law" "law" (aY s_law) (aL s_law) (aA s_law) .none kV21 dc21 pm21 an21 cd21 ct21),sl21⟩) (c21:PySem.W.codeIn K cd21 "law" = true) (k21:PySem.W.keepIn K (.ref f21)=true)
  (z0:PySem.W.nsIn K mainGlobals "abs" = some none)
  (z1:PySem.W.nsIn K mainGlobals "zip" = some none)
  (z2:PySem.W.nsIn K mainGlobals "sorted" = some none)
  (z3:PySem.W.nsIn K mainGlobals "range" = some none)
  (z4:PySem.W.nsIn K mainGlobals "list" = some none)
  (z5:PySem.W.nsIn K mainGlobals "max" = some none)
  (z6:PySem.W.nsIn K mainGlobals "min" = some none)
  (z7:PySem.W.nsIn K mainGlobals "len" = some none)
  (z8:PySem.W.nsIn K mainGlobals "isinstance" = some none)
  (z9:PySem.W.nsIn K mainGlobals "bool" = some none)
  (z10:PySem.W.nsIn K mainGlobals "int" = some none)
  (w0:PySem.W.nsIn K mainGlobals "Crossed" = some (some (.ref xC)))
  (w1:PySem.W.nsIn K mainGlobals "CutError" = some (some (.ref xB)))
  (w2:PySem.W.nsIn K mainGlobals "NoNumber" = some (some (.ref x1)))
  (w3:PySem.W.nsIn K mainGlobals "Odd" = some (some (.ref x2)))
  (w4:PySem.W.clsIn K xC=some xd)
  (w5:PySem.W.nsIn K xd.ns "__init__" = some (some (.ref xf)))
  (w6:xd.mro = .ref xC :: .ref xB::uZ)
  (w7:xd.hasDict=true)
  (w8:PySem.W.findIn K (.ref xC) "__getattribute__" = some (some (.builtin "BaseException.__getattribute__")))
  (w9:PySem.W.findIn K (.ref xC) "__getattr__" = some none)
  (w10:PySem.W.findIn K (.ref xC) "__class__" = some (some (.builtin "object.__class__")))
  (w11:PySem.W.mroIn K xC (.type "object")=some true)
  (w12:PySem.W.mroIn K xC (.type "BaseException")=some true)
  (w13:PySem.W.findIn K (.ref xC) "__setattr__" = some (some (.builtin "object.__setattr__")))
  (w14:PySem.W.findIn K (.ref xC) "column" = some none)
  (w15:rY K xC xf=true)
  (w16:PySem.W.typeIn K (.ref xf)=some (.type "function"))
  (w17:PySem.W.specialIn K (.ref xB) "__getattribute__" = some (some (.builtin "type.__getattribute__")))
  (w18:PySem.W.readsIn K xB (.type "type")=true)
  (w19:PySem.W.findCls K (.ref xB) (.type "type") "__init__" = some (.val (.builtin "ValueError.__init__")))
  (w20:PySem.W.keepIn K (.ref xC)=true)
  (w21:PySem.W.exmOne K (.ref xC) (.ref xB)=some true)
  (w22:PySem.W.kitAny K (.ref xC) [.ref x1,.ref x2]=some false)
  (w23:PySem.W.kitOne K (.ref xC) (.ref xC)=some true)
  (w24:PySem.W.kitOne K (.ref xC) (.type "ValueError")=some true)
  (w25:PySem.W.nsIn K mainGlobals "ValueError" = some none)
  (w26:K.lookup xf=some ⟨xoc,xod,.func (PySem.W.fnOf "__init__" "Crossed.__init__" (aY s_init) (aL s_init) (aA s_init) .none xkV xdc xpm xan xcd xct),xsl⟩)
  (w27:PySem.W.codeIn K xcd "Crossed.__init__" = true)
  (w28:PySem.W.keepIn K (.ref xf)=true):TopF K mg :=
 ⟨⟨_,_,bN (st:=s_shared_divisor) l0 c0 k0,PySem.W.mg_of X G a0,kX (λ_ _=>rfl)⟩,
  ⟨_,_,bN (st:=s_shared_multiple) l1 c1 k1,PySem.W.mg_of X G a1,kX (λ_ _=>rfl)⟩,
  ⟨_,_,bN (st:=s_lowest_multiple) l2 c2 k2,PySem.W.mg_of X G a2,fP (λ_=>rfl)⟩,
  ⟨_,_,bN (st:=s_width_of) l3 c3 k3,PySem.W.mg_of X G a3,fP (λ_=>rfl)⟩,
  ⟨_,_,bN (st:=s_height_at) l4 c4 k4,PySem.W.mg_of X G a4,IL (λ_ _ _=>rfl)⟩,
  ⟨_,_,bN (st:=s_ordered_heights) l5 c5 k5,PySem.W.mg_of X G a5,IL (λ_ _ _=>rfl)⟩,
  ⟨_,_,bN (st:=s_ratio) l6 c6 k6,PySem.W.mg_of X G a6,kX (λ_ _=>rfl)⟩,
  ⟨_,_,bN (st:=s_column_bands) l7 c7 k7,PySem.W.mg_of X G a7,kX (λ_ _=>rfl)⟩,
  ⟨_,_,bN (st:=s_sides_of) l8 c8 k8,PySem.W.mg_of X G a8,fP (λ_=>rfl)⟩,
  ⟨_,_,bN (st:=s_sides_by_column) l9 c9 k9,PySem.W.mg_of X G a9,fP (λ_=>rfl)⟩,
  ⟨_,_,bN (st:=s_bands) l10 c10 k10,PySem.W.mg_of X G a10,fP (λ_=>rfl)⟩,
  ⟨_,_,bN (st:=s__law_caught) l11 c11 k11,PySem.W.mg_of X G a11,fP (λ_=>rfl)⟩,
  ⟨_,_,bN (st:=s__law_column) l12 c12 k12,PySem.W.mg_of X G a12,kX (λ_ _=>rfl)⟩,
  ⟨_,_,bN (st:=s__law_crossed) l13 c13 k13,PySem.W.mg_of X G a13,fP (λ_=>rfl)⟩,
  ⟨_,_,bN (st:=s__law_first_crossed) l14 c14 k14,PySem.W.mg_of X G a14,fP (λ_=>rfl)⟩,
  ⟨_,_,bN (st:=s__law_sides) l15 c15 k15,PySem.W.mg_of X G a15,fP (λ_=>rfl)⟩,
  ⟨_,_,bN (st:=s__law_whole) l16 c16 k16,PySem.W.mg_of X G a16,fP (λ_=>rfl)⟩,
  ⟨_,_,bN (st:=s__law_cell_at) l17 c17 k17,PySem.W.mg_of X G a17,kX (λ_ _=>rfl)⟩,
  ⟨_,_,bN (st:=s__law_mixed) l18 c18 k18,PySem.W.mg_of X G a18,kX (λ_ _=>rfl)⟩,
  ⟨_,_,bN (st:=s__law_start) l19 c19 k19,PySem.W.mg_of X G a19,fP (λ_=>rfl)⟩,
  ⟨_,_,bN (st:=s__law_wild) l20 c20 k20,PySem.W.mg_of X G a20,fP (λ_=>rfl)⟩,
  ⟨_,_,bN (st:=s_law) l21 c21 k21,PySem.W.mg_of X G a21,fP (λ_=>rfl)⟩,
  PySem.W.mg_none_of X G z0,
  PySem.W.mg_none_of X G z1,
  PySem.W.mg_none_of X G z2,
  PySem.W.mg_none_of X G z3,
  PySem.W.mg_none_of X G z4,
  PySem.W.mg_none_of X G z5,
  PySem.W.mg_none_of X G z6,
  PySem.W.mg_none_of X G z7,
  PySem.W.mg_none_of X G z8,
  PySem.W.mg_none_of X G z9,
  PySem.W.mg_none_of X G z10,
  xC,xB,xf,x1,x2,_,⟨⟨⟨w8,w9,w10,w11,w12,by rw[w4];rfl⟩,⟨w13,⟨xd,xB,w4,w6,w7⟩,w11,w14⟩,w15,w16,w17,w18,w19⟩,w20,PySem.W.mg_of X G w0,PySem.W.mg_of X G w1,PySem.W.mg_of X G w2,PySem.W.mg_of X G w3,w21,w22,w23,w24,PySem.W.mg_none_of X G w25⟩,bN (st:=s_init) w26 w27 w28,kX (λ_ _=>rfl)⟩
theorem law_fn {P:Program} {w:World} {K:PySem.W.Frag} {mg:Str->Option Value} {base:Heap} {f:Addr} {fd:FuncData} (T:TopF K mg) (Fu:Fun K "law" "law" s_law f fd):FnOk P w K mg base CX0 8 f fd ["_law_script"] (spD K (zC 63)):=by
 obtain⟨C,Cb,fi,c1,c2,fdi,W,Fi,Bi⟩:=T.x
 have GI:=GH (P:=P) (w:=w) (base:=base) W Fi Bi
 have OH:=lO (P:=P) (w:=w) (base:=base) T.d_shared_divisor T.m_abs (F:=sV) GP jN
 have OQ:=kN (P:=P) (w:=w) (base:=base) T.d_shared_multiple OH (F:=xF) GS iS
 have OO:=kL (P:=P) (w:=w) (base:=base) T.d_lowest_multiple OQ (F:=nU) CV iR
 have OT:=uK (P:=P) (w:=w) (base:=base) T.d_width_of (F:=qE) GT pZ
 have PF:=sK (P:=P) (w:=w) (base:=base) T.d_height_at OT (F:=xE) GQ oY
 have OP:=kM (P:=P) (w:=w) (base:=base) T.d_ordered_heights W GI PF T.m_zip T.m_sorted (F:=kT) AB iC
 have PQ:=DQ (P:=P) (w:=w) (base:=base) T.d_ratio OH (F:=bK) AE wN
 have OY:=nB (P:=P) (w:=w) (base:=base) T.d_column_bands W GI OO OP PQ OT T.m_zip (F:=nE) AA kP
 have PM:=uJ (P:=P) (w:=w) (base:=base) T.d_sides_of T.m_zip (F:=jB) uC pY
 have OR:=kO (P:=P) (w:=w) (base:=base) T.d_sides_by_column PM T.m_range (F:=nF) AC iT
 have PN:=DN (P:=P) (w:=w) (base:=base) T.d_bands W GI OY OR T.m_list T.m_sorted (F:=iE) oP uM
 have PC:=oV (P:=P) (w:=w) (base:=base) W T.d__law_caught PN oP
 have PD:=oW (P:=P) (w:=w) (base:=base) T.d__law_column (F:=rA) CU nC
 have OX:=nA (P:=P) (w:=w) (base:=base) T.d__law_crossed (F:=fO) pS kQ
 have OM:=iB (P:=P) (w:=w) (base:=base) T.d__law_first_crossed PD OX T.m_max T.m_min T.m_range (F:=jA) uB gB
 have PH:=pU (P:=P) (w:=w) (base:=base) T.d__law_sides T.m_len T.m_range T.m_max T.m_min (F:=kU) vX pA
 have PK:=pW (P:=P) (w:=w) (base:=base) T.d__law_whole T.m_isinstance T.m_bool T.m_int (F:=nJ) AG pC
 have OG:=mZ (P:=P) (w:=w) (base:=base) T.d__law_cell_at T.m_len (F:=nT) CT mE
 have PB:=pT (P:=P) (w:=w) (base:=base) T.d__law_mixed T.m_len T.m_min (F:=nG) AD oZ
 have PJ:=pV (P:=P) (w:=w) (base:=base) T.d__law_start OG (F:=nH) AF pB
 have PL:=sJ (P:=P) (w:=w) (base:=base) T.d__law_wild OG PB PJ T.m_range (F:=rB) CW pX
 exact JW W GI PC OM PH PK PL PN T.m_isinstance T.m_list (F:=zC 63) Fu GR wM
end K24
end L2.R2
open PySem PySem.W PyProof.Rows
set_option maxRecDepth 100000 in
set_option maxHeartbeats 0 in
theorem PySem.Challenge.cw_recut_k24_crossed_holds : PySem.Challenge.rw_recut_k24_crossed.Holds := by
 w_on;o_law;k_head;(case hw=>w_witness2)
 k_fill
 refine L2.R2.walk_law (l:=PySem.Challenge.rw_recut_k24_crossed) (k:=8) (x:="_law_script") rfl rfl ⟨rfl,by decide,by decide⟩ (λw h Y=>PySem.W.kIn_of Y) rfl ?F
 case F =>
  intro w mg h KX G
  have T:L2.R2.K24.TopF (L2.KOf KX) mg:=by
   dsimp only[L2.KOf]
   refine' L2.R2.K24.top_mk KX G ?a0 ?l0 ?c0 ?k0 ?a1 ?l1 ?c1 ?k1 ?a2 ?l2 ?c2 ?k2 ?a3 ?l3 ?c3 ?k3 ?a4 ?l4 ?c4 ?k4 ?a5 ?l5 ?c5 ?k5 ?a6 ?l6 ?c6 ?k6 ?a7 ?l7 ?c7 ?k7 ?a8 ?l8 ?c8 ?k8 ?a9 ?l9 ?c9 ?k9 ?a10 ?l10 ?c10 ?k10 ?a11 ?l11 ?c11 ?k11 ?a12 ?l12 ?c12 ?k12 ?a13 ?l13 ?c13 ?k13 ?a14 ?l14 ?c14 ?k14 ?a15 ?l15 ?c15 ?k15 ?a16 ?l16 ?c16 ?k16 ?a17 ?l17 ?c17 ?k17 ?a18 ?l18 ?c18 ?k18 ?a19 ?l19 ?c19 ?k19 ?a20 ?l20 ?c20 ?k20 ?a21 ?l21 ?c21 ?k21 ?z0 ?z1 ?z2 ?z3 ?z4 ?z5 ?z6 ?z7 ?z8 ?z9 ?z10 ?w0 ?w1 ?w2 ?w3 ?w4 ?w5 ?w6 ?w7 ?w8 ?w9 ?w10 ?w11 ?w12 ?w13 ?w14 ?w15 ?w16 ?w17 ?w18 ?w19 ?w20 ?w21 ?w22 ?w23 ?w24 ?w25 ?w26 ?w27 ?w28
   (case a0=>k_is);(case l0=>k_is);(case c0=>k_is);(case k0=>k_is)
   (case a1=>k_is);(case l1=>k_is);(case c1=>k_is);(case k1=>k_is)
   (case a2=>k_is);(case l2=>k_is);(case c2=>k_is);(case k2=>k_is)
   (case a3=>k_is);(case l3=>k_is);(case c3=>k_is);(case k3=>k_is)
   (case a4=>k_is);(case l4=>k_is);(case c4=>k_is);(case k4=>k_is)
   (case a5=>k_is);(case l5=>k_is);(case c5=>k_is);(case k5=>k_is)
   (case a6=>k_is);(case l6=>k_is);(case c6=>k_is);(case k6=>k_is)
   (case a7=>k_is);(case l7=>k_is);(case c7=>k_is);(case k7=>k_is)
   (case a8=>k_is);(case l8=>k_is);(case c8=>k_is);(case k8=>k_is)
   (case a9=>k_is);(case l9=>k_is);(case c9=>k_is);(case k9=>k_is)
   (case a10=>k_is);(case l10=>k_is);(case c10=>k_is);(case k10=>k_is)
   (case a11=>k_is);(case l11=>k_is);(case c11=>k_is);(case k11=>k_is)
   (case a12=>k_is);(case l12=>k_is);(case c12=>k_is);(case k12=>k_is)
   (case a13=>k_is);(case l13=>k_is);(case c13=>k_is);(case k13=>k_is)
   (case a14=>k_is);(case l14=>k_is);(case c14=>k_is);(case k14=>k_is)
   (case a15=>k_is);(case l15=>k_is);(case c15=>k_is);(case k15=>k_is)
   (case a16=>k_is);(case l16=>k_is);(case c16=>k_is);(case k16=>k_is)
   (case a17=>k_is);(case l17=>k_is);(case c17=>k_is);(case k17=>k_is)
   (case a18=>k_is);(case l18=>k_is);(case c18=>k_is);(case k18=>k_is)
   (case a19=>k_is);(case l19=>k_is);(case c19=>k_is);(case k19=>k_is)
   (case a20=>k_is);(case l20=>k_is);(case c20=>k_is);(case k20=>k_is)
   (case a21=>k_is);(case l21=>k_is);(case c21=>k_is);(case k21=>k_is)
   (case z0=>k_is)
   (case z1=>k_is)
   (case z2=>k_is)
   (case z3=>k_is)
   (case z4=>k_is)
   (case z5=>k_is)
   (case z6=>k_is)
   (case z7=>k_is)
   (case z8=>k_is)
   (case z9=>k_is)
   (case z10=>k_is)
   (case w0=>k_is)
   (case w1=>k_is)
   (case w2=>k_is)
   (case w3=>k_is)
   (case w4=>k_is)
   (case w5=>k_is)
   (case w6=>rfl)
   (case w7=>rfl)
   (case w8=>k_is)
   (case w9=>k_is)
   (case w10=>k_is)
   (case w11=>k_is)
   (case w12=>k_is)
   (case w13=>k_is)
   (case w14=>k_is)
   (case w15=>kernel_rfl)
   (case w16=>k_is)
   (case w17=>k_is)
   (case w18=>k_is)
   (case w19=>k_is)
   (case w20=>k_is)
   (case w21=>kts_exm)
   (case w22=>kit_is)
   (case w23=>kit_is)
   (case w24=>kit_is)
   (case w25=>k_is)
   (case w26=>k_is)
   (case w27=>k_is)
   (case w28=>k_is)
  exact T.d_law.okL λbase f fd Fu=>L2.R2.K24.law_fn T Fu

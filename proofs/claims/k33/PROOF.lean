import PyProof.Rows.All
import Wide.All
import OpenK.AllK
import Wide.FinOn
import Lean
import PyProof.EqAt
import PyProof.EqKinds
import PyProof.TupleCall
import PySem.Challenge.RW_recut_k33_paired
set_option compiler.extract_closed false
local macro_rules | `(tactic| omega)=>`(tactic| lia)
local macro_rules | `(tactic| walk_at "vis")=>`(tactic| first | exact Or.inl rfl | exact Or.inr (Or.inl rfl) | exact Or.inr (Or.inr rfl) | exact Or.inr rfl)
local macro_rules | `(tactic| walk_at "loc")=>`(tactic| first | exact .inl rfl | exact .inr rfl | assumption)
set_option Elab.async false
set_option linter.all false
set_option maxRecDepth 100000
namespace L2
open PySem PySem.Spec PyProof.Rows
noncomputable abbrev Key:=Sum Int Str
noncomputable def mM:Key->Value->Bool
 | .inl k,v=>Value.isInt k v
 | .inr x,v=>Value.isStrOf x v
noncomputable def IG (w:World):Key->Int
 | .inl k=>hashInt k
 | .inr x=>hashStr w x
theorem bH:∀{k:Key} {v:Value},mM k v=true->(∃i t,k=Sum.inl i/\v=Value.int i t)\/(∃x t,k=Sum.inr x/\v=Value.str x t)
 | .inl i,v,h=>by
  obtain⟨t,e⟩:=Value.isInt_shape (k:=i) (v:=v) h
  exact .inl ⟨i,t,rfl,e⟩
 | .inr x,v,h=>by
  obtain⟨t,e⟩:=Value.isStrOf_shape (x:=x) (v:=v) h
  exact .inr ⟨x,t,rfl,e⟩
theorem wQ (i:Int) (t:Tok):mM (.inl i) (.int i t)=true:=by simp[mM,Value.isInt]
theorem wR (x:Str) (t:Tok):mM (.inr x) (.str x t)=true:=by simp[mM,Value.isStrOf]
theorem EO (a b:Int):decide ((Sum.inl a:Key)=Sum.inl b)=(a == b):=by
 by_cases e:a=b
 ·subst e;simp
 ·have h:¬(Sum.inl a:Key)=Sum.inl b:=λq=>e (Sum.inl.inj q)
  rw[decide_eq_false h]
  exact (beq_eq_false_iff_ne.mpr e).symm
theorem ES (a b:Str):decide ((Sum.inr a:Key)=Sum.inr b)=decide (a=b):=by
 by_cases e:a=b
 ·subst e;simp
 ·have h:¬(Sum.inr a:Key)=Sum.inr b:=λq=>e (Sum.inr.inj q)
  rw[decide_eq_false h,decide_eq_false e]
theorem EQ (a:Int) (b:Str):decide ((Sum.inl a:Key)=Sum.inr b)=false:=decide_eq_false (λq=>nomatch q)
theorem ER (a:Str) (b:Int):decide ((Sum.inr a:Key)=Sum.inl b)=false:=decide_eq_false (λq=>nomatch q)
noncomputable def bN (prog:Program) (w:World):PySem.KeyKind prog w Key where
 is:=mM
 hash:=IG w
 inj:=λv a b ha hb=>by
  rcases bH ha with ⟨i,t,rfl,rfl⟩ | ⟨x,t,rfl,rfl⟩
  ·rcases bH hb with ⟨j,u,rfl,e⟩ | ⟨y,u,rfl,e⟩
   ·injection e with e1 _;rw[e1]
   ·exact nomatch e
  ·rcases bH hb with ⟨j,u,rfl,e⟩ | ⟨y,u,rfl,e⟩
   ·exact nomatch e
   ·injection e with e1 _;rw[e1]
 byValue:=λk v h=>by
  rcases bH h with ⟨i,t,rfl,rfl⟩ | ⟨x,t,rfl,rfl⟩ <;> rfl
 pyHash:=λhv h=>by
  rcases bH hv with ⟨i,t,rfl,rfl⟩ | ⟨x,t,rfl,rfl⟩
  ·exact wpAny_pyHash_int h
  ·exact wpAny_pyHash_str h
 eqBool:=λhu hv h=>by
  rcases bH hu with ⟨i,t,rfl,rfl⟩ | ⟨x,t,rfl,rfl⟩
  ·rcases bH hv with ⟨j,u,rfl,rfl⟩ | ⟨y,u,rfl,rfl⟩
   ·rw[EO] at h;exact wpAny_eqBool_int h
   ·rw[EQ] at h;exact SeqAt.EqAt.int_str i t y u _ _ _ _ h
  ·rcases bH hv with ⟨j,u,rfl,rfl⟩ | ⟨y,u,rfl,rfl⟩
   ·rw[ER] at h;exact SeqAt.EqAt.str_int x t j u _ _ _ _ h
   ·rw[ES] at h;exact wpAny_eqBool_str h
 «strs»:=λk x t v h=>by
  rcases bH h with ⟨i,u,rfl,e⟩ | ⟨y,u,rfl,e⟩
  ·exact nomatch e
  ·injection e with e1 _
   subst e1
   cases v <;> rfl
theorem sK (prog:Program) (w:World) (i:Int) (t:Tok):(bN prog w).is (.inl i) (.int i t)=true:=wQ i t
theorem sL (prog:Program) (w:World) (x:Str) (t:Tok):(bN prog w).is (.inr x) (.str x t)=true:=wR x t
end L2
namespace L2
open PySem PySem.Spec PyProof.Rows
inductive V where
 | non | bl (b:Bool) | int (i:Int) | str (x:Str) | byt (b:Array UInt8) | flt (b:UInt64) | ref (a:Addr) | ty (n:String)
 deriving DecidableEq
noncomputable def RelV:V->Value->Prop
 | .non,u=>u=Value.none
 | .bl b,u=>u=Value.bool b
 | .int i,u=>∃t,u=Value.int i t
 | .str x,u=>∃t,u=Value.str x t
 | .byt b,u=>∃t,u=Value.bytes b t
 | .flt b,u=>∃t,u=Value.float b t
 | .ref a,u=>u=Value.ref a
 | .ty n,u=>u=Value.type n
noncomputable abbrev Vals:List V->List Value->Prop:=Paired RelV
theorem Vals.length {xs:List V} {us:List Value} (r:Vals xs us):xs.length=us.length:=Paired.length r
theorem Vals.get:∀{xs:List V} {us:List Value} {i:Nat} {x:V},Vals xs us->xs[i]? = some x->∃u,us[i]? = some u/\RelV x u
 | _,_,_,_,.nil,e=>by simp at e
 | _,_,0,_,.cons r _,e=>by simp at e;subst e;exact⟨_,rfl,r⟩
 | _,_,i+1,x,.cons _ t,e=>by
  obtain⟨u,h1,h2⟩:=Vals.get (i:=i) (x:=x) t (by simpa using e)
  exact⟨u,by simpa using h1,h2⟩
theorem Vals.append:∀{xs ys:List V} {us ws:List Value},Vals xs us->Vals ys ws->Vals (xs++ys) (us++ws)
 | _,_,_,_,.nil,s=>s
 | _,_,_,_,.cons r t,s=>.cons r (Vals.append t s)
theorem Vals.take:∀{xs:List V} {us:List Value} (n:Nat),Vals xs us->Vals (xs.take n) (us.take n)
 | _,_,0,_=>.nil
 | _,_,_+1,.nil=>.nil
 | _,_,n+1,.cons r t=>.cons r (Vals.take n t)
theorem Vals.drop:∀{xs:List V} {us:List Value} (n:Nat),Vals xs us->Vals (xs.drop n) (us.drop n)
 | _,_,0,r=>r
 | _,_,_+1,.nil=>.nil
 | _,_,n+1,.cons _ t=>Vals.drop n t
noncomputable def RelO:Option V->Option Value->Prop
 | some v,some u=>RelV v u
 | none,none=>True
 | _,_=>False
noncomputable def KV {κ:Type}:List (κ × V)->List (κ × Value)->Prop:=Paired λ(p:κ × V) (q:κ × Value)=>p.1=q.1/\RelV p.2 q.2
noncomputable def kV:Key->V
 | .inl i=>.int i
 | .inr x=>.str x
inductive HO where
  | lst (xs:List V)
  | tup (xs:List V)
  | dK (kvs:List (Key × V)) | dT (kvs:List (List Key × V))
  | set (S:Int->Bool) (n:Nat)
  | ins (C dx:Addr) (fs:List (Str × V))
  | own (x:Addr)
  | xd (fs:List (Str × V))
  | met (f x:Addr)
  | rng (lo hi:Int)
  | frz (o:Obj) (u:HO)
  | tbl (ps:Array Value)
  | ext (φ:Heap->Prop)
noncomputable abbrev Hp:=Addr->Option HO
noncomputable def upd (H:Hp) (a:Addr) (o:HO):Hp:=λb=>if b=a then some o else H b
theorem aM {H:Hp} {a:Addr} {o:HO}:upd H a o a=some o:=by unfold upd;rw[if_pos rfl]
theorem aF {H:Hp} {a b:Addr} {o:HO} (h:b≠a):upd H a o b=H b:=by unfold upd;rw[if_neg h]
theorem dA {H:Hp} {a b:Addr} {o u:HO} (h:H a=some o) (h':H b=some u) (d:o≠u):a≠b:=by
 intro e;subst e;rw[h] at h';exact d (Option.some.inj h')
theorem aJ {H:Hp} {a b:Addr} {o:HO} (h:H a=some o) (h':H b=none):a≠b:=by
 intro e;subst e;rw[h] at h';cases h'
section
variable (P:Program) (w:World)
noncomputable def ObjOk (H:Hp) (h:Heap) (a:Addr):HO->Prop
 | .lst xs=>xs.length<=sizeLine/\∃(its:List Value) (n:Nat),Vals xs its/\h.get? a=some { cls:=.type "list",data:=.seq its.toArray n }
 | .tup xs=>xs.length<=sizeLine/\∃its:List Value,Vals xs its/\IsTup h a its.toArray
 | .dK kvs=>kvs.length<=sizeLine/\(a == sysModules)=false/\∃vs,KV kvs vs/\h.DictOf (bN P w) a vs
 | .dT kvs=>kvs.length<=sizeLine/\(a == sysModules)=false/\∃xs:List (List Key × Addr × Value),
   Paired (λ(p:List Key × V) (q:List Key × Addr × Value)=>p.1=q.1/\H q.2.1=some (.tup (p.1.map kV))/\RelV p.2 q.2.2) kvs xs /\
   ∃o es ep,h.get? a=some o/\o.ExactDict/\o.data = .dict es ep/\es.toList=xs.map (entryOfKey (tupleKind (bN P w)))/\(xs.map (·.1)).Nodup
 | .set S n=>h.SetOf (intKind P w) a S n
 | .ins C dx fs=>H dx=some (.own a)/\fs.length<=1000/\dx≠a/\h.get? a=some (PySem.W.instObj C dx) /\
   ∃mA,h.Ns1 dx mA/\(∀f,RelO (fs.lookup f) (mA f))/\PySem.Within mA (fs.map (·.1))
 | .own _=>∃o,h.get? a=some o
 | .xd fs=>∃mA,h.Ns1 a mA/\∀f,RelO (fs.lookup f) (mA f)
 | .rng lo hi=>∃t u v,h.get? a=some { cls:=.type "range",data:=.fields #[.int lo t,.int hi u,.int 1 v] }
 | .frz o u=>h.get? a=some o/\ObjOk H h a u
 | .tbl ps=>h.get? a=some { cls:=.none,data:=.fields ps }
 | .met f x=>h.get? a=some (PySem.W.methodObj (.ref f) (.ref x))
 | .ext φ=>φ h/\(∃o,h.get? a=some o)/\∀h1 h2:Heap,φ h1->(∀o,h1.get? a=some o->h2.get? a=some o)->φ h2
noncomputable def HOk (H:Hp) (h:Heap):Prop:=∀a o,H a=some o->ObjOk P w H h a o
end
section
variable {P:Program} {w:World} {H H':Hp} {h h':Heap} {a:Addr} {o:HO}
theorem ObjOk.lt (x:ObjOk P w H h a o):a<h.objs.size:=by
 cases o with
 | lst xs=>obtain⟨_,_,_,_,e⟩:=x;exact Heap.lt_size e
 | tup xs=>obtain⟨_,_,_,p⟩:=x;exact p.lt
 | dK kvs=>obtain⟨_,_,_,_,o,_,_,e,_⟩:=x;exact Heap.lt_size e
 | dT kvs=>obtain⟨_,_,_,_,o,_,_,e,_⟩:=x;exact Heap.lt_size e
 | set S n=>obtain⟨o,_,_,_,e,_⟩:=x;exact Heap.lt_size e
 | ins C dx fs=>obtain⟨_,_,_,e,_⟩:=x;exact Heap.lt_size e
 | own y=>obtain⟨_,e⟩:=x;exact Heap.lt_size e
 | xd fs=>obtain⟨_,⟨_,_,_,e,_⟩,_⟩:=x;exact Heap.lt_size e
 | rng lo hi=>obtain⟨_,_,_,e⟩:=x;exact Heap.lt_size e
 | frz ob u=>obtain⟨e,_⟩:=x;exact Heap.lt_size e
 | tbl ps=>exact Heap.lt_size (show h.get? a=some _ from x)
 | met f y=>exact Heap.lt_size (show h.get? a=some _ from x)
 | ext φ=>obtain⟨_,⟨_,e⟩,_⟩:=x;exact Heap.lt_size e
theorem Paired.mapP {α β:Type} {F G:α->β->Prop}:∀{l₁:List α} {l₂:List β},Paired F l₁ l₂->(∀a b,F a b->G a b)->Paired G l₁ l₂
 | _,_,.nil,_=>.nil
 | _,_,.cons r t,f=>.cons (f _ _ r) (Paired.mapP t f)
theorem ObjOk.stay (x:ObjOk P w H h a o) (k:∀b u,(b=a\/H b=some (.own a))->h.get? b=some u->h'.get? b=some u)
  (ho:∀b,H b=some (.own a)->H' b=some (.own a)) (ht:∀b xs,H b=some (.tup xs)->H' b=some (.tup xs)):ObjOk P w H' h' a o:=by
 induction o with
 | lst xs=>obtain⟨z,its,n,r,e⟩:=x;exact⟨z,its,n,r,k _ _ (.inl rfl) e⟩
 | tup xs=>obtain⟨z,its,r,ob,e,c⟩:=x;exact⟨z,its,r,ob,k _ _ (.inl rfl) e,c⟩
 | dK kvs=>obtain⟨z,y,vs,r,ob,es,ep,e,c⟩:=x;exact⟨z,y,vs,r,ob,es,ep,k _ _ (.inl rfl) e,c⟩
 | dT kvs =>
  obtain⟨z,y,xs,r,ob,es,ep,e,c⟩:=x
  exact⟨z,y,xs,Paired.mapP r λp q z=>⟨z.1,ht _ _ z.2.1,z.2.2⟩,ob,es,ep,k _ _ (.inl rfl) e,c⟩
 | set S n=>obtain⟨ob,es,ep,t,e,c⟩:=x;exact⟨ob,es,ep,t,k _ _ (.inl rfl) e,c⟩
 | ins C dx fs =>
  obtain⟨d,z,ne,e,mA,⟨od,es,ep,e2,c⟩,r⟩:=x
  exact⟨ho _ d,z,ne,k _ _ (.inl rfl) e,mA,⟨od,es,ep,k _ _ (.inr d) e2,c⟩,r⟩
 | own y=>obtain⟨ob,e⟩:=x;exact⟨ob,k _ _ (.inl rfl) e⟩
 | xd fs=>obtain⟨mA,⟨od,es,ep,e,c⟩,r⟩:=x;exact⟨mA,⟨od,es,ep,k _ _ (.inl rfl) e,c⟩,r⟩
 | rng lo hi=>obtain⟨t,u,v,e⟩:=x;exact⟨t,u,v,k _ _ (.inl rfl) e⟩
 | frz ob u ih=>obtain⟨e,q⟩:=x;exact⟨k _ _ (.inl rfl) e,ih q⟩
 | tbl ps =>
  have e:h.get? a=some { cls:=.none,data:=.fields ps }:=x
  show h'.get? a=some { cls:=.none,data:=.fields ps }
  exact k a _ (.inl rfl) e
 | met f y =>
  have e:h.get? a=some (PySem.W.methodObj (.ref f) (.ref y)):=x
  show h'.get? a=some (PySem.W.methodObj (.ref f) (.ref y))
  exact k a _ (.inl rfl) e
 | ext φ=>obtain⟨p,⟨o,e⟩,st⟩:=x;exact⟨st _ _ p λo q=>k _ _ (.inl rfl) q,⟨o,k _ _ (.inl rfl) e⟩,st⟩
theorem HOk.lt (x:HOk P w H h) (e:H a=some o):a<h.objs.size:=(x a o e).lt
theorem HOk.fresh (x:HOk P w H h) (e:h.objs.size<=a):H a=none:=by
 cases q:H a with
 | none=>rfl
 | some u=>exact absurd (Nat.lt_of_lt_of_le (x.lt q) e) (Nat.lt_irrefl _)
theorem HOk.kept (x:HOk P w H h) (k:∀b u,h.get? b=some u->h'.get? b=some u):HOk P w H h':=λa o e =>
 (x a o e).stay (λb u _ q=>k b u q) (λ_ q=>q) λ_ _ q=>q
theorem HOk.laid (x:HOk P w H h) (k:∀b u,h.get? b=some u->h'.get? b=some u) (hp:h.objs.size<=a) (new:ObjOk P w (upd H a o) h' a o):HOk P w (upd H a o) h':=λb u e=>by
 have hn:=x.fresh hp
 by_cases hb:b=a
 ·subst hb;rw[aM] at e;cases e;exact new
 ·rw[aF hb] at e
  exact (x b u e).stay (λc v _ q=>k c v q) (λc q=>by rw[aF (aJ q hn)];exact q) λc xs q=>by rw[aF (aJ q hn)];exact q
end
noncomputable def Rd (H:Hp) (a:Addr) (u:HO):Prop:=H a=some u\/∃o,H a=some (.frz o u)
theorem Rd.ok {P:Program} {w:World} {H:Hp} {h:Heap} {a:Addr} {u:HO} (r:Rd H a u) (x:HOk P w H h):ObjOk P w H h a u:=by
 rcases r with r | ⟨o,r⟩
 ·exact x a u r
 ·obtain⟨_,q⟩:=x a _ r
  exact q
noncomputable def Mut:Option HO->Prop
 | some (.lst _)=>True
 | some (.dK _)=>True
 | some (.dT _)=>True
 | some (.set _ _)=>True
 | some (.ins _ _ _)=>True
 | some (.ext _)=>True
 | _=>False
section
variable {P:Program} {w:World} {H:Hp} {h h':Heap} {x e:Addr} {o':HO}
theorem HOk.write (ok:HOk P w H h) (mu:Mut (H x)) (he:e=x\/H e=some (.own x)) (k:∀b u,b≠e->h.get? b=some u->h'.get? b=some u) (heo:∃u,h'.get? e=some u)
  (new:ObjOk P w (upd H x o') h' x o'):HOk P w (upd H x o') h':=λb u q=>by
 have nown:∀c y,H c=some (.own y)->c≠x:=λc y r z=>by subst z;rw[r] at mu;exact mu
 have ntup:∀c xs,H c=some (.tup xs)->c≠x:=λc xs r z=>by subst z;rw[r] at mu;exact mu
 by_cases hb:b=x
 ·subst hb;rw[aM] at q;cases q;exact new
 ·rw[aF hb] at q
  by_cases hbe:b=e
  ·have q':H b=some (.own x):=by
    rcases he with z | z
    ·exact absurd (hbe.trans z) hb
    ·rw[hbe];exact z
   rw[q] at q';cases q'
   obtain⟨v,hv⟩:=heo
   exact⟨v,by rw[hbe];exact hv⟩
  ·refine (ok b u q).stay (λc v hc r=>k c v ?_ r) (λc r=>by rw[aF (nown c b r)];exact r) λc xs r=>by rw[aF (ntup c xs r)];exact r
   rcases hc with rfl | hc
   ·exact hbe
   ·rintro rfl
    rcases he with z | z
    ·exact nown c b hc z
    ·rw[hc] at z;cases z;exact hb rfl
end
structure Un (fs ex:List Addr) (H H':Hp) (h h':Heap):Prop where
 keep:∀b o,h.get? b=some o->H b=none->b ∉ fs->b ∉ ex->h'.get? b=some o
 slot:∀b o,h.get? b=some o->H b=none->b∈fs->b ∉ ex->∃sl,h'.get? b=some { o with slots:=sl }
 free:∀b o,h.get? b=some o->H b=none->b ∉ ex->H' b=none
 there:∀b o,h.get? b=some o->b ∉ ex->∃o',h'.get? b=some o'
 tups:∀b xs,H b=some (.tup xs)->H' b=some (.tup xs)
 frzs:∀b o u,H b=some (.frz o u)->H' b=some (.frz o u)
 tbls:∀b ps,H b=some (.tbl ps)->∃more,H' b=some (.tbl (ps++more))
section
variable {fs fs' ex ex':List Addr} {H H1 H2:Hp} {h h1 h2 h':Heap} {a x e:Addr} {o:HO}
theorem Un.any (u:Un fs ex H H1 h h1) {b:Addr} {ob:Obj} (q:h.get? b=some ob) (n:H b=none) (hx:b ∉ ex):∃sl,h1.get? b=some { ob with slots:=sl }:=by
 by_cases hb:b∈fs
 ·exact u.slot b ob q n hb hx
 ·exact⟨ob.slots,u.keep b ob q n hb hx⟩
theorem Un.kept (k:∀b u,h.get? b=some u->h'.get? b=some u):Un fs ex H H h h' :=
 ⟨λb ob q _ _ _=>k b ob q,λb ob q _ _ _=>⟨ob.slots,k b ob q⟩,λ_ _ _ n _=>n,λb ob q _=>⟨ob,k b ob q⟩,λ_ _ q=>q,λ_ _ _ q=>q,λ_ ps q=>⟨#[],by rw[q];simp⟩⟩
theorem Un.refl:Un fs ex H H h h:=Un.kept λ_ _ q=>q
theorem Un.laid (k:∀b u,h.get? b=some u->h'.get? b=some u) (hp:h.objs.size<=a) (hn:H a=none):Un fs ex H (upd H a o) h h' where
 keep:=λb u q _ _ _=>k b u q
 slot:=λb u q _ _ _=>⟨u.slots,k b u q⟩
 free:=λb u q n _=>by rw[aF (Nat.ne_of_lt (Nat.lt_of_lt_of_le (Heap.lt_size q) hp))];exact n
 there:=λb u q _=>⟨u,k b u q⟩
 tups:=λb xs q=>by rw[aF (aJ q hn)];exact q
 frzs:=λb u xs q=>by rw[aF (aJ q hn)];exact q
 tbls:=λb ps q=>⟨#[],by rw[aF (aJ q hn),q];simp⟩
theorem Un.write (mu:Mut (H x)) (he:e=x\/H e=some (.own x)) (k:∀b u,b≠e->h.get? b=some u->h'.get? b=some u) (heo:∃u,h'.get? e=some u):Un fs ex H (upd H x o) h h':=by
 have hx:∀b,H b=none->b≠x:=λb n z=>by subst z;rw[n] at mu;exact mu
 have hb:∀b,H b=none->b≠e:=λb n z=>by
  subst z
  rcases he with r | r
  ·exact hx b n r
  ·rw[n] at r;cases r
 have hm:∀b u,H b=some u->¬Mut (some u)->b≠x:=λb u q nm z=>by subst z;rw[q] at mu;exact nm mu
 refine⟨λb u q n _ _=>k b u (hb b n) q,λb u q n _ _=>⟨u.slots,k b u (hb b n) q⟩,λb u q n _=>by rw[aF (hx b n)];exact n,λb u q _=>?_,
  λb xs q=>by rw[aF (hm b _ q λz=>z)];exact q,λb u xs q=>by rw[aF (hm b _ q λz=>z)];exact q,λb ps q=>⟨#[],by rw[aF (hm b _ q λz=>z),q];simp⟩⟩
 by_cases hbe:b=e
 ·subst hbe;exact heo
 ·exact⟨u,k b u hbe q⟩
theorem Un.mono (u:Un fs ex H H1 h h1) (hs:∀b∈fs,b∈fs') (hx:∀b∈ex,b∈ex'):Un fs' ex' H H1 h h1 :=
 ⟨λb ob q n hb he=>u.keep b ob q n (λz=>hb (hs b z)) λz=>he (hx b z),λ_ _ q n _ he=>u.any q n λz=>he (hx _ z),λb ob q n he=>u.free b ob q n λz=>he (hx b z),λb ob q he=>u.there b ob q λz=>he (hx b z),u.tups,u.frzs,u.tbls⟩
end
noncomputable def trk (h:Heap) (H:Hp):List Addr:=(List.range h.objs.size).filter λa=>(H a).isSome
noncomputable def qA (h:Heap) (H:Hp):Heap:=PySem.W.hideAll h (trk h H)
theorem wN (h:Heap) (H:Hp):(qA h H).objs.size=h.objs.size:=PySem.W.hideAll_size _ _
theorem yT {h:Heap} {H:Hp} {b:Addr} {o:Obj} (e:h.get? b=some o) (n:H b=none):(qA h H).get? b=some o :=
 PySem.W.hideAll_get _ e λhm=>by
  have q:(H b).isSome=true:=(List.mem_filter.mp hm).2
  rw[n] at q;simp at q
theorem BS {h:Heap} {H:Hp} {b:Addr} {o:Obj} (e:(qA h H).get? b=some o):h.get? b=some o/\H b=none:=by
 have e':h.get? b=some o:=PySem.W.of_hideAll (trk h H) e
 refine⟨e',?_⟩
 cases q:H b with
 | none=>rfl
 | some x =>
  have hm:b∈trk h H:=List.mem_filter.mpr ⟨List.mem_range.mpr (Heap.lt_size e'),by simp[q]⟩
  have z:(qA h H).get? b=none:=PySem.W.hideAll_none (trk h H) hm
  rw[z] at e;cases e
noncomputable def AN (g h:Heap) (L:Addr):List (Addr × Obj):=(List.range h.objs.size).filterMap λa=>if a=L\/(g.get? a).isSome=true then none else (h.get? a).map λo=>(a,o)
noncomputable def rest (g h:Heap) (L d:Addr):List (Addr × Obj):=(AN g h L).filter λp=>decide (p.1≠d)
end L2
namespace L2
open PySem PySem.Spec PyProof.Rows
structure Mod (K:PySem.W.Frag) (mg:Str->Option Value) (base:Heap):Prop where
 kin:K.In base
 glob:base.Ns mainGlobals mg
 blt:∃mb,base.Ns builtinsNs mb/\∀x:Str,x≠"__name__"->mb x=bootBuiltins x
 nolimit:base.NoLimit
structure Cx where
 prog:Program
 w:World
 K:PySem.W.Frag
 mg:Str->Option Value
 base:Heap
 A:Around
 N:List Str
 s₀:Shared
 H₀:Hp
 env:Env
 outer:List Env
 stack:List Env
 ex:List Addr
 fn:Str->Bool
 calm:Bool
 pn:List (Addr × Obj)
 xe:Value->Shared->Prop
noncomputable def frs (l:List Env):List Addr:=l.filterMap (·.frame)
noncomputable abbrev Cx.fs (X:Cx):List Addr:=frs X.outer
noncomputable def Vis (sc:Scope) (x:Str):Prop:=sc.names.lookup x=some .local\/sc.names.lookup x=some .cell\/sc.names.lookup x=some .free
noncomputable def Loc (sc:Scope) (x:Str):Prop:=sc.names.lookup x=some .local\/sc.names.lookup x=some .cell
noncomputable def HY (env:Env) (h:Heap) (m:Str->Option Value) (x:Str) (u:Value):Prop :=
 (env.kindOf x=some .local/\m x=some u)\/((env.kindOf x=some .cell\/env.kindOf x=some .free)/\∃c,env.cells.lookup x=some c/\h.IsCell c (some u))
structure Cx.Ok (X:Cx):Prop where
 mod:Mod X.K X.mg X.base
 kind:X.env.scope.kind = .function
 glob:X.env.globals=mainGlobals
 blt:X.env.builtins=builtinsNs
 above:X.s₀.heap.objs.size<=X.env.locals
 inj:∀x y c,X.env.cells.lookup x=some c->X.env.cells.lookup y=some c->x=y
 has:∀x,(X.env.kindOf x=some .cell\/X.env.kindOf x=some .free)->∃c,X.env.cells.lookup x=some c
 cab:∀x c,X.fn x=true->X.env.cells.lookup x=some c->X.s₀.heap.objs.size<=c
 hd:X.calm=true->X.A.handled=none
 frames:X.A.frames=some X.stack
 stk:X.stack=X.outer\/(X.stack=X.env::X.outer/\X.env.frame=some X.env.locals)
 exf:∀b∈X.ex,b≠X.env.locals/\∀x c,X.env.cells.lookup x=some c->c≠b
 bs:∀b o,X.base.get? b=some o->X.s₀.heap.get? b=some o/\X.H₀ b=none
 bsz:X.base.objs.size<=X.s₀.heap.objs.size
 noex:∀b o,X.base.get? b=some o->b ∉ X.ex
 exfs:∀b∈X.ex,b ∉ X.fs
 funs:X.s₀.heap.FunFrames X.base X.outer
 frf:∀b∈X.fs,X.H₀ b=none
structure Inv (X:Cx) (pins:List (Addr × Obj)) (σ:List (Option V)) (H:Hp) (s:Shared):Prop where
 ok:X.Ok
 os:s.os=X.s₀.os
 bare:AllBare s.gens
 base:Un X.fs X.ex X.H₀ H X.s₀.heap s.heap
 loc:∃m,s.heap.Ns X.env.locals m/\∀(i:Nat) (x:Str) (v:V),X.N[i]? = some x->σ[i]? = some (some v)->Vis X.env.scope x->∃u,RelV v u/\HY X.env s.heap m x u
 cell:∀x c,X.env.cells.lookup x=some c->∃v,s.heap.IsCell c v
 free:H X.env.locals=none
 freeC:∀x c,X.env.cells.lookup x=some c->H c=none
 pin:∀p∈X.pn++pins,s.heap.get? p.1=some p.2/\H p.1=none/\p.1≠X.env.locals/\p.1 ∉ X.fs/\∀v,p.2.data≠.cell v
 hok:HOk X.prog X.w H s.heap
 len:σ.length=X.N.length
section
variable {X:Cx} {pins:List (Addr × Obj)} {σ:List (Option V)} {H H':Hp} {s:Shared} {h':Heap}
theorem Cx.Ok.nofr (ok:X.Ok) {b:Addr} {o:Obj} (e:X.base.get? b=some o):b ∉ X.fs:=λhb=>by
 have:=(ok.funs.mem hb).1
 rw[e] at this;cases this
theorem Inv.bs (I:Inv X pins σ H s):∀b o,X.base.get? b=some o->s.heap.get? b=some o/\H b=none:=λb o e =>
 ⟨I.base.keep b o (I.ok.bs b o e).1 (I.ok.bs b o e).2 (I.ok.nofr e) (I.ok.noex b o e),I.base.free b o (I.ok.bs b o e).1 (I.ok.bs b o e).2 (I.ok.noex b o e)⟩
theorem Inv.bk (I:Inv X pins σ H s):∀b o,X.base.get? b=some o->s.heap.get? b=some o:=λb o e=>(I.bs b o e).1
theorem Inv.mod (I:Inv X pins σ H s):Mod X.K X.mg X.base:=I.ok.mod
theorem Inv.kIn (I:Inv X pins σ H s):X.K.In s.heap:=I.ok.mod.kin.keeps I.bk
theorem Inv.lt (I:Inv X pins σ H s):X.env.locals<s.heap.objs.size:=let ⟨_,hn,_⟩:=I.loc;hn.lt
theorem Inv.sz (I:Inv X pins σ H s):X.s₀.heap.objs.size<=s.heap.objs.size:=Nat.le_trans I.ok.above (Nat.le_of_lt I.lt)
theorem Inv.nofs (I:Inv X pins σ H s) {a:Addr} (h:s.heap.objs.size<=a):a ∉ X.fs:=λhb=>by
 obtain⟨_,o,ho,_⟩:=I.ok.funs.mem hb
 exact absurd (Nat.lt_of_lt_of_le (Heap.lt_size ho) (Nat.le_trans I.sz h)) (Nat.lt_irrefl _)
theorem Inv.cne (I:Inv X pins σ H s):∀x c,X.env.cells.lookup x=some c->c≠X.env.locals:=λx c e z=>by
 obtain⟨v,o,ho,hd⟩:=I.cell x c e
 obtain⟨m,⟨o',es,ep,ho',hd',_⟩,_⟩:=I.loc
 rw[z,ho'] at ho;cases ho;rw[hd'] at hd;cases hd
theorem Inv.funs (I:Inv X pins σ H s):s.heap.FunFrames X.base X.outer:=by
 have all:∀(l:List Env),(∀b∈frs l,b∈X.fs)->X.s₀.heap.FunFrames X.base l->s.heap.FunFrames X.base l:=by
  intro l
  induction l with
  | nil=>intro _ _;trivial
  | cons env r ih =>
   intro hs hl
   obtain⟨hk,⟨L,o,hf,hn,ho,hd⟩,hr⟩:=hl
   have hL:L∈X.fs:=hs L (by unfold frs;rw[List.filterMap_cons,hf];exact List.mem_cons_self)
   obtain⟨sl,e⟩:=I.base.slot L o ho (I.ok.frf L hL) hL λz=>I.ok.exfs L z hL
   exact⟨hk,⟨L,_,hf,hn,e,hd⟩,ih (λb hb=>hs b (by unfold frs;rw[List.filterMap_cons,hf];exact List.mem_cons_of_mem _ hb)) hr⟩
 exact all X.outer (λ_ hb=>hb) I.ok.funs
theorem Inv.stack (I:Inv X pins σ H s):s.heap.FunFrames X.base X.stack:=by
 rcases I.ok.stk with e | ⟨e,hf⟩
 ·rw[e];exact I.funs
 ·rw[e]
  obtain⟨m,hn,_⟩:=I.loc
  refine .cons (by rw[I.ok.kind];decide) hf hn ?_ I.funs
  exact Heap.get?_none_of_le (Nat.le_trans I.ok.bsz I.ok.above)
theorem Inv.stkSub (I:Inv X pins σ H s):∀b∈frs X.stack,b∈X.env.locals::X.fs:=λb hb=>by
 rcases I.ok.stk with e | ⟨e,hf⟩
 ·rw[e] at hb;exact List.mem_cons_of_mem _ hb
 ·rw[e] at hb
  unfold frs at hb
  rw[List.filterMap_cons,hf] at hb
  exact hb
theorem Inv.stkFree (I:Inv X pins σ H s):∀b∈frs X.stack,H b=none:=λb hb=>by
 rcases List.mem_cons.mp (I.stkSub b hb) with e | hb
 ·rw[e];exact I.free
 ·obtain⟨_,o,ho,_⟩:=I.ok.funs.mem hb
  exact I.base.free b o ho (I.ok.frf b hb) λz=>I.ok.exfs b z hb
theorem Inv.step {g':Array GenState} {t':Nat} {d':Drawn} {ch:List Addr} (I:Inv X pins σ H s)
  (hch:∀b∈ch,(b∈X.ex\/X.s₀.heap.objs.size<=b)/\b≠X.env.locals/\(∀x c,X.env.cells.lookup x=some c->c≠b)/\∀p∈X.pn++pins,p.1≠b)
  (keep:∀b o,b≠X.env.locals->b ∉ X.fs->b ∉ ch->s.heap.get? b=some o->H b=none->h'.get? b=some o)
  (slot:∀b o,b≠X.env.locals->b∈X.fs->b ∉ ch->s.heap.get? b=some o->H b=none->∃sl,h'.get? b=some { o with slots:=sl }) (free:∀b o,b ∉ ch->s.heap.get? b=some o->H b=none->H' b=none)
  (there:∀b o,b ∉ ch->s.heap.get? b=some o->∃o',h'.get? b=some o')
  (tups:∀b xs,H b=some (.tup xs)->H' b=some (.tup xs)) (frzs:∀b o u,H b=some (.frz o u)->H' b=some (.frz o u)) (tbls:∀b ps,H b=some (.tbl ps)->∃more,H' b=some (.tbl (ps++more)))
  (ns:∀m,s.heap.Ns X.env.locals m->h'.Ns X.env.locals m) (hok:HOk X.prog X.w H' h') (hg:AllBare g') :
  Inv X pins σ H' { s with heap:=h',gens:=g',drawn:=d',toks:=t' }:=by
 have neL:∀b o,X.s₀.heap.get? b=some o->b≠X.env.locals:=λb o e=>Nat.ne_of_lt (Nat.lt_of_lt_of_le (Heap.lt_size e) I.ok.above)
 have neC:∀b o,X.s₀.heap.get? b=some o->b ∉ X.ex->b ∉ ch:=λb o e hx hb=>by
  rcases (hch b hb).1 with z | z
  ·exact hx z
  ·exact absurd (Nat.lt_of_lt_of_le (Heap.lt_size e) z) (Nat.lt_irrefl _)
 have cellK:∀x c,X.env.cells.lookup x=some c->∀v,s.heap.IsCell c v->h'.IsCell c v:=λx c e v ⟨o,ho,hd⟩=>by
  have nch:c ∉ ch:=λz=>(hch c z).2.2.1 x c e rfl
  by_cases hc:c∈X.fs
  ·obtain⟨sl,q⟩:=slot c o (I.cne x c e) hc nch ho (I.freeC x c e)
   exact⟨_,q,hd⟩
  ·exact⟨o,keep c o (I.cne x c e) hc nch ho (I.freeC x c e),hd⟩
 refine⟨I.ok,I.os,hg,⟨λb o e n hb hx=>?_,λb o e n hb hx=>?_,λb o e n hx=>?_,λb o e hx=>?_,λb xs e=>tups b xs (I.base.tups b xs e),λb o xs e=>frzs b o xs (I.base.frzs b o xs e),λb ps e=>?_⟩,?_,λx c e=>?_,?_,λx c e=>?_,λp hp=>?_,hok,I.len⟩
 ·exact keep b o (neL b o e) hb (neC b o e hx) (I.base.keep b o e n hb hx) (I.base.free b o e n hx)
 ·obtain⟨sl,e1⟩:=I.base.slot b o e n hb hx
  obtain⟨sl',e2⟩:=slot b _ (neL b o e) hb (neC b o e hx) e1 (I.base.free b o e n hx)
  exact⟨sl',e2⟩
 ·obtain⟨o',e1⟩:=I.base.there b o e hx
  exact free b o' (neC b o e hx) e1 (I.base.free b o e n hx)
 ·obtain⟨o',e1⟩:=I.base.there b o e hx
  exact there b o' (neC b o e hx) e1
 ·obtain⟨m1,e1⟩:=I.base.tbls b ps e
  obtain⟨m2,e2⟩:=tbls b _ e1
  exact⟨m1++m2,by rw[e2,Array.append_assoc]⟩
 ·obtain⟨m,hn,hl⟩:=I.loc
  refine⟨m,ns m hn,λi x v e1 e2 e3=>?_⟩
  obtain⟨u,r,l⟩:=hl i x v e1 e2 e3
  refine⟨u,r,?_⟩
  rcases l with l | ⟨k,c,e,z⟩
  ·exact .inl l
  ·exact .inr ⟨k,c,e,cellK x c e _ z⟩
 ·obtain⟨v,z⟩:=I.cell x c e
  exact⟨v,cellK x c e v z⟩
 ·obtain⟨m,⟨o,_,_,ho,_⟩,_⟩:=I.loc
  exact free _ o (λz=>(hch _ z).2.1 rfl) ho I.free
 ·obtain⟨v,o,ho,hd⟩:=I.cell x c e
  exact free c o (λz=>(hch c z).2.2.1 x c e rfl) ho (I.freeC x c e)
 ·obtain⟨e,n,ne,nf,d⟩:=I.pin p hp
  have nch:p.1 ∉ ch:=λz=>(hch p.1 z).2.2.2 p hp rfl
  exact⟨keep p.1 p.2 ne nf nch e n,free p.1 p.2 nch e n,ne,nf,d⟩
theorem Inv.un {t':Nat} (I:Inv X pins σ H s) (u:Un X.fs [] H H' s.heap h') (hok:HOk X.prog X.w H' h'):Inv X pins σ H' { s with heap:=h',toks:=t' }:=by
 obtain⟨m,⟨o,es,ep,ho,r⟩,_⟩:=id I.loc
 obtain⟨sl,hL⟩:=u.any ho I.free (by simp)
 exact I.step (g':=s.gens) (d':=s.drawn) (ch:=[]) (λ_ z=>nomatch z) (λb o _ hb _ e n=>u.keep b o e n hb (by simp)) (λb o _ hb _ e n=>u.slot b o e n hb (by simp)) (λb o _ e n=>u.free b o e n (by simp)) (λb o _ e=>u.there b o e (by simp)) u.tups u.frzs u.tbls (λm' hm=>by
  obtain⟨o',es',ep',ho',r'⟩:=hm
  rw[ho] at ho';cases ho'
  exact⟨_,es',ep',hL,r'⟩) hok I.bare
theorem Inv.call {g':Array GenState} {t':Nat} {d':Drawn} {ch:List Addr} (I:Inv X pins σ H s) (u:Un (frs X.stack) ch H H' s.heap h') (hok:HOk X.prog X.w H' h') (hg:AllBare g')
  (hch:∀b∈ch,(b∈X.ex\/X.s₀.heap.objs.size<=b)/\b≠X.env.locals/\(∀x c,X.env.cells.lookup x=some c->c≠b)/\∀p∈X.pn++pins,p.1≠b) :
  Inv X pins σ H' { s with heap:=h',gens:=g',drawn:=d',toks:=t' }:=by
 obtain⟨m,⟨o,es,ep,ho,r⟩,_⟩:=id I.loc
 obtain⟨sl,hL⟩:=u.any ho I.free λz=>(hch _ z).2.1 rfl
 exact I.step (ch:=ch) hch (λb o hL hb hc e n=>u.keep b o e n (λz=>(List.mem_cons.mp (I.stkSub b z)).elim hL hb) hc) (λb o _ _ hc e n=>u.any e n hc) (λb o hc e n=>u.free b o e n hc) (λb o hc e=>u.there b o e hc) u.tups u.frzs u.tbls (λm' hm=>by
  obtain⟨o',es',ep',ho',r'⟩:=hm
  rw[ho] at ho';cases ho'
  exact⟨_,es',ep',hL,r'⟩) hok hg
theorem Inv.turned {t':Nat} {it:Addr} (I:Inv X pins σ H s) (k:∀b o,b≠it->s.heap.get? b=some o->h'.get? b=some o) (hn:H it=none) (hL:it≠X.env.locals)
  (h1:it∈X.ex\/X.s₀.heap.objs.size<=it) (h2:∀x c,X.env.cells.lookup x=some c->c≠it) (h3:∀p∈X.pn++pins,p.1≠it):Inv X pins σ H { s with heap:=h',toks:=t' }:=by
 have nit:∀b u,H b=some u->b≠it:=λb u e z=>by rw[z,hn] at e;cases e
 refine I.step (g':=s.gens) (d':=s.drawn) (ch:=[it]) (λb hb=>?_) (λb o _ _ hc e _=>k b o (λz=>hc (by simp[z])) e) (λb o _ _ hc e _=>⟨o.slots,k b o (λz=>hc (by simp[z])) e⟩) (λ_ _ _ _ n=>n)
  (λb o hc e=>⟨o,k b o (λz=>hc (by simp[z])) e⟩) (λ_ _ e=>e) (λ_ _ _ e=>e) (λb ps e=>⟨#[],by rw[e];simp⟩) (λm hm=>?_) (λb u e=>?_) I.bare
 ·have e:b=it:=by simpa using hb
  subst e
  exact⟨h1,hL,h2,h3⟩
 ·obtain⟨o,es,ep,ho,r⟩:=hm
  exact⟨o,es,ep,k _ o (Ne.symm hL) ho,r⟩
 ·refine (I.hok b u e).stay (λc v hc q=>k c v ?_ q) (λ_ q=>q) λ_ _ q=>q
  rcases hc with z | z
  ·rw[z];exact nit b u e
  ·exact nit c _ z
theorem Inv.tok (I:Inv X pins σ H s) (t:Nat):Inv X pins σ H { s with toks:=t }:=I.un (h':=s.heap) (t':=t) Un.refl I.hok
theorem Inv.kept {t':Nat} (I:Inv X pins σ H s) (k:∀b u,s.heap.get? b=some u->h'.get? b=some u):Inv X pins σ H { s with heap:=h',toks:=t' }:=I.un (Un.kept k) (I.hok.kept k)
theorem Inv.laid {a:Addr} {o:HO} {t':Nat} (I:Inv X pins σ H s) (k:∀b u,s.heap.get? b=some u->h'.get? b=some u) (hp:s.heap.objs.size<=a) (new:ObjOk X.prog X.w (upd H a o) h' a o) :
  Inv X pins σ (upd H a o) { s with heap:=h',toks:=t' }:=I.un (Un.laid k hp (I.hok.fresh hp)) (I.hok.laid k hp new)
theorem Inv.write {x e:Addr} {o:HO} {t':Nat} (I:Inv X pins σ H s) (mu:Mut (H x)) (he:e=x\/H e=some (.own x)) (k:∀b u,b≠e->s.heap.get? b=some u->h'.get? b=some u) (heo:∃u,h'.get? e=some u)
  (new:ObjOk X.prog X.w (upd H x o) h' x o):Inv X pins σ (upd H x o) { s with heap:=h',toks:=t' }:=I.un (Un.write mu he k heo) (I.hok.write mu he k heo new)
theorem Inv.pins_of {pins':List (Addr × Obj)} (I:Inv X pins σ H s) (h:∀p∈pins',s.heap.get? p.1=some p.2/\H p.1=none/\p.1≠X.env.locals/\p.1 ∉ X.fs/\∀v,p.2.data≠.cell v):Inv X pins' σ H s :=
 ⟨I.ok,I.os,I.bare,I.base,I.loc,I.cell,I.free,I.freeC,λp hp=>(List.mem_append.mp hp).elim (λz=>I.pin p (List.mem_append_left _ z)) (h p),I.hok,I.len⟩
theorem sM {N:List Str} (hN:N.Nodup) {i j:Nat} {x:Str} (a:N[i]? = some x) (b:N[j]? = some x):i=j:=by
 obtain⟨h1,e1⟩:=List.getElem?_eq_some_iff.mp a
 obtain⟨h2,e2⟩:=List.getElem?_eq_some_iff.mp b
 exact (List.getElem_inj hN).mp (e1.trans e2.symm)
theorem pF {M:Model} {A:Around} {E:Value->Shared->Prop} {i:Nat} {x:Str} {v:V} {u:Value} {Q:Unit->Shared->Prop} (I:Inv X pins σ H s) (hN:X.N.Nodup) (hi:X.N[i]? = some x) (hx:Loc X.env.scope x) (r:RelV v u)
  (h:∀s',Inv X pins (σ.set i (some v)) H s'->(∃a,Heap.SameBut a s.heap s'.heap/\(a=X.env.locals\/X.env.cells.lookup x=some a))->Q () s') (hf:X.fn x=true\/X.env.scope.names.lookup x=some .local:=by walk_at "loc"):wpAny M A (storeName X.env x u) Q E s:=by
 obtain⟨m,hn,hl⟩:=id I.loc
 have hcls:(X.env.scope.kind == .class || (X.env.scope.kind == .module && X.env.locals != X.env.globals))=false:=by rw[I.ok.kind];rfl
 have hiσ:i<σ.length:=by rw[I.len];exact (List.getElem?_eq_some_iff.mp hi).1
 have cne:=I.cne
 have tracked:∀{a:Addr} {h':Heap},(∃o,s.heap.get? a=some o/\H a=none)->Heap.SameBut a s.heap h'->HOk X.prog X.w H h':=λ{a h'} ha hs b ob e=>by
  obtain⟨_,_,hfree⟩:=ha
  refine (I.hok b ob e).stay (λc w' hc q=>(hs.2 c ?_).trans q) (λ_ q=>q) λ_ _ q=>q
  rintro rfl
  rcases hc with rfl | hc
  ·rw[hfree] at e;cases e
  ·rw[hfree] at hc;cases hc
 rcases hx with hk | hk
 ·refine wpAny_storeName_local hk hn (λh' hn' hs=>?_) hcls
  obtain⟨oL,_,_,hoL,_⟩:=id hn
  refine h _ ⟨I.ok,I.os,I.bare,⟨λb o e n hb hx=>?_,λb o e n hb hx=>?_,I.base.free,λb o e hx=>?_,I.base.tups,I.base.frzs,I.base.tbls⟩,⟨_,hn',λj y v' e1 e2 e3=>?_⟩,λy c e=>?_,I.free,I.freeC,λp hp=>?_,tracked ⟨oL,hoL,I.free⟩ hs,by simpa using I.len⟩ ⟨_,hs,.inl rfl⟩
  ·exact (hs.2 b (Nat.ne_of_lt (Nat.lt_of_lt_of_le (Heap.lt_size e) I.ok.above))).trans (I.base.keep b o e n hb hx)
  ·obtain⟨sl,e1⟩:=I.base.slot b o e n hb hx
   exact⟨sl,(hs.2 b (Nat.ne_of_lt (Nat.lt_of_lt_of_le (Heap.lt_size e) I.ok.above))).trans e1⟩
  ·obtain⟨o',e1⟩:=I.base.there b o e hx
   exact⟨o',(hs.2 b (Nat.ne_of_lt (Nat.lt_of_lt_of_le (Heap.lt_size e) I.ok.above))).trans e1⟩
  ·by_cases hj:j=i
   ·subst hj
    rw[hi] at e1;cases e1
    rw[List.getElem?_set_self hiσ] at e2
    cases e2
    exact⟨u,r,.inl ⟨hk,by simp⟩⟩
   ·rw[List.getElem?_set_ne (Ne.symm hj)] at e2
    obtain⟨u',r',q⟩:=hl j y v' e1 e2 e3
    refine⟨u',r',?_⟩
    rcases q with ⟨k,e⟩ | ⟨k,c,e,z⟩
    ·refine .inl ⟨k,?_⟩
     have:y≠x:=λe=>hj (sM hN e1 (e ▸ hi))
     simp[this,e]
    ·exact .inr ⟨k,c,e,z.sameBut hs (cne y c e)⟩
  ·obtain⟨w',z⟩:=I.cell y c e
   exact⟨w',z.sameBut hs (cne y c e)⟩
  ·obtain⟨e,n,ne,nf,d⟩:=I.pin p hp
   exact⟨(hs.2 p.1 ne).trans e,n,ne,nf,d⟩
 ·have hfn:X.fn x=true:=by
   rcases hf with z | z
   ·exact z
   ·rw[z] at hk;cases hk
  obtain⟨c,hc⟩:=I.ok.has x (.inl hk)
  obtain⟨w',z⟩:=I.cell x c hc
  refine wpAny_storeName_cell I.ok.kind hk hc z (λh' hc' hs=>?_)
  obtain⟨oc,hoc,hocd⟩:=id z
  refine h { s with heap:=h' } ⟨I.ok,I.os,I.bare,⟨λb o e n hb hx=>?_,λb o e n hb hx=>?_,I.base.free,λb o e hx=>?_,I.base.tups,I.base.frzs,I.base.tbls⟩,⟨m,hn.sameBut hs (Ne.symm (cne x c hc)),λj y v' e1 e2 e3=>?_⟩,λy c' e=>?_,I.free,I.freeC,λp hp=>?_,tracked ⟨oc,hoc,I.freeC x c hc⟩ hs,by simpa using I.len⟩ ⟨c,hs,.inr hc⟩
  ·exact (hs.2 b (Nat.ne_of_lt (Nat.lt_of_lt_of_le (Heap.lt_size e) (I.ok.cab x c hfn hc)))).trans (I.base.keep b o e n hb hx)
  ·obtain⟨sl,e1⟩:=I.base.slot b o e n hb hx
   exact⟨sl,(hs.2 b (Nat.ne_of_lt (Nat.lt_of_lt_of_le (Heap.lt_size e) (I.ok.cab x c hfn hc)))).trans e1⟩
  ·obtain⟨o',e1⟩:=I.base.there b o e hx
   exact⟨o',(hs.2 b (Nat.ne_of_lt (Nat.lt_of_lt_of_le (Heap.lt_size e) (I.ok.cab x c hfn hc)))).trans e1⟩
  ·by_cases hj:j=i
   ·subst hj
    rw[hi] at e1;cases e1
    rw[List.getElem?_set_self hiσ] at e2
    cases e2
    exact⟨u,r,.inr ⟨.inl hk,c,hc,hc'⟩⟩
   ·rw[List.getElem?_set_ne (Ne.symm hj)] at e2
    obtain⟨u',r',q⟩:=hl j y v' e1 e2 e3
    refine⟨u',r',?_⟩
    rcases q with q | ⟨k,c',e,z'⟩
    ·exact .inl q
    ·refine .inr ⟨k,c',e,z'.sameBut hs ?_⟩
     rintro rfl
     exact hj (sM hN e1 (I.ok.inj _ _ _ e hc ▸ hi))
  ·by_cases hcc:c'=c
   ·subst hcc;exact⟨_,hc'⟩
   ·obtain⟨w2,z2⟩:=I.cell y c' e
    exact⟨w2,z2.sameBut hs hcc⟩
  ·obtain⟨e,n,ne,nf,d⟩:=I.pin p hp
   refine⟨(hs.2 p.1 ?_).trans e,n,ne,nf,d⟩
   intro q
   rw[q,hoc] at e
   have q':oc=p.2:=Option.some.inj e
   exact d w' (by rw[<-q'];exact hocd)
theorem kH {M:Model} {A:Around} {E:Value->Shared->Prop} {i:Nat} {x:Str} {v:V} {u:Value} {Q:Unit->Shared->Prop} (I:Inv X pins σ H s) (hN:X.N.Nodup) (hi:X.N[i]? = some x) (hx:Loc X.env.scope x) (r:RelV v u)
  (h:∀s',Inv X pins (σ.set i (some v)) H s'->Q () s') (hf:X.fn x=true\/X.env.scope.names.lookup x=some .local:=by walk_at "loc"):wpAny M A (storeName X.env x u) Q E s :=
 pF I hN hi hx r (λs' I' _=>h s' I') hf
theorem Inv.call' {s':Shared} {ch:List Addr} (I:Inv X pins σ H s) (ho:s'.os=s.os) (u:Un (frs X.stack) ch H H' s.heap s'.heap) (hok:HOk X.prog X.w H' s'.heap) (hg:AllBare s'.gens)
  (hch:∀b∈ch,(b∈X.ex\/X.s₀.heap.objs.size<=b)/\b≠X.env.locals/\(∀x c,X.env.cells.lookup x=some c->c≠b)/\∀p∈X.pn++pins,p.1≠b):Inv X pins σ H' s':=by
 obtain⟨h',g',d',t',o'⟩:=s'
 have e:o'=s.os:=ho
 subst e
 exact I.call (g':=g') (t':=t') (d':=d') u hok hg hch
end
noncomputable abbrev XK:=Value->Option Addr->Hp->Prop
noncomputable abbrev St:=List (Option V)
noncomputable abbrev VK:=V->Hp->Prop
noncomputable abbrev TE:=St->Hp->VK->Prop
noncomputable abbrev TT:=St->Hp->(Bool->Hp->Prop)->Prop
noncomputable abbrev TA:=St->Hp->(List V->Hp->Prop)->Prop
structure Ends where
 nx:St->Hp->Prop
 rt:VK
 bk:St->Hp->Prop:=λ_ _=>False
 ct:St->Hp->Prop:=λ_ _=>False
noncomputable abbrev TS:=Ends->St->Hp->Prop
noncomputable def EP (X:Cx) (pins:List (Addr × Obj)) (σ:St) (Q:VK) (u:Value) (s':Shared):Prop:=∃v H',Inv X pins σ H' s'/\RelV v u/\Q v H'
noncomputable def TP (X:Cx) (pins:List (Addr × Obj)) (σ:St) (Q:Bool->Hp->Prop) (b:Bool) (s':Shared):Prop:=∃H',Inv X pins σ H' s'/\Q b H'
noncomputable def AP (X:Cx) (pins:List (Addr × Obj)) (σ:St) (Q:List V->Hp->Prop) (us:List Value) (s':Shared):Prop:=∃vs H',Inv X pins σ H' s'/\Vals vs us/\Q vs H'
noncomputable def SP (X:Cx) (pins:List (Addr × Obj)) (D:Ends) (f:Flow) (s':Shared):Prop :=
 match f with
 | .next=>∃σ' H',Inv X pins σ' H' s'/\D.nx σ' H'
 | .brk=>∃σ' H',Inv X pins σ' H' s'/\D.bk σ' H'
 | .cont=>∃σ' H',Inv X pins σ' H' s'/\D.ct σ' H'
 | .ret u=>∃v σ' H',Inv X pins σ' H' s'/\RelV v u/\D.rt v H'
noncomputable def PE (X:Cx) (e:Expr) (t:TE):Prop :=
 ∀(pins:List (Addr × Obj)) (s:Shared) (σ:St) (H:Hp) (Q:VK),Inv X pins σ H s->t σ H Q->wpAny (model X.prog X.w) X.A (eval e X.env) (EP X pins σ Q) X.xe s
noncomputable def PT (X:Cx) (e:Expr) (t:TT):Prop :=
 ∀(pins:List (Addr × Obj)) (s:Shared) (σ:St) (H:Hp) (Q:Bool->Hp->Prop),Inv X pins σ H s->t σ H Q->wpAny (model X.prog X.w) X.A (isTrue e X.env (eval e X.env)) (TP X pins σ Q) X.xe s
noncomputable def PW (X:Cx) (e:Expr) (t:TT):Prop :=
 ∀(whole:Sem Value) (pins:List (Addr × Obj)) (s:Shared) (σ:St) (H:Hp) (Q:Bool->Hp->Prop),Inv X pins σ H s->t σ H Q->wpAny (model X.prog X.w) X.A (isTrue e X.env whole) (TP X pins σ Q) X.xe s
theorem PW.pt {X:Cx} {e:Expr} {t:TT} (h:PW X e t):PT X e t:=h _
noncomputable def PA (X:Cx) (es:List Expr) (t:TA):Prop :=
 ∀(pos:Pos) (pins:List (Addr × Obj)) (s:Shared) (σ:St) (H:Hp) (Q:List V->Hp->Prop),Inv X pins σ H s->t σ H Q->wpAny (model X.prog X.w) X.A (spliced (backTo pos (starEach es X.env))) (AP X pins σ Q) X.xe s
noncomputable def PS (X:Cx) (st:Stmt) (t:TS):Prop :=
 ∀(pins:List (Addr × Obj)) (s:Shared) (σ:St) (H:Hp) (D:Ends),Inv X pins σ H s->t D σ H->wpAny (model X.prog X.w) X.A (exec st X.env) (SP X pins D) X.xe s
noncomputable def PSs (X:Cx) (st:List Stmt) (t:TS):Prop :=
 ∀(pins:List (Addr × Obj)) (s:Shared) (σ:St) (H:Hp) (D:Ends),Inv X pins σ H s->t D σ H->wpAny (model X.prog X.w) X.A (execs st X.env) (SP X pins D) X.xe s
theorem thn {α:Type} {t:Sem α} {Q Q':α->Shared->Prop} {M:Model} {A:Around} {E:Value->Shared->Prop} {s:Shared} (h:wpAny M A t Q E s) (hQ:∀a s,Q a s->Q' a s):wpAny M A t Q' E s:=wpAny_mono h hQ λ_ _ x=>x
end L2
namespace L2
open PySem PySem.Spec PyProof.Rows
section
variable {X:Cx}
noncomputable def HX (i:Nat):TE:=λσ H Q=>∃v,σ[i]? = some (some v)/\Q v H
noncomputable def tC (v:V):TE:=λ_ H Q=>Q v H
theorem FG {i:Nat} {x:Str} {pos:Pos} (hN:X.N[i]? = some x) (hv:Vis X.env.scope x) (hd:(x == ("__debug__":Str))=false:=by decide) (hcd:(x == ("__classdict__":Str))=false:=by decide):PE X (.Name x pos) (HX i):=by
 intro pins s σ H Q I h
 obtain⟨v,e,h⟩:=h
 obtain⟨m,hn,hl⟩:=I.loc
 obtain⟨u,r,l⟩:=hl i x v hN e hv
 have fin:EP X pins σ Q u s:=⟨v,H,I,r,h⟩
 rcases l with ⟨hk,hm⟩ | ⟨hk,c,hc,hcell⟩
 ·exact wpAny_Name (wpAny_loadName_local I.ok.kind hk hn hm fin) hd
 ·rcases hk with hk | hk
  ·exact wpAny_Name (wpAny_loadName_cell I.ok.kind hk hc hcell fin) hd
  ·exact wpAny_Name (wpAny_loadName_free I.ok.kind hk hc hcell fin hcd) hd
theorem FC {i j pos}:PE X (.Constant (.int i) j pos) (tC (.int i)):=λ_ _ _ H _ I h=>wpAny_Constant_int ⟨.int i,H,I.tok _,⟨_,rfl⟩,h⟩
theorem HB {b j pos}:PE X (.Constant (.bool b) j pos) (tC (.bl b)):=λ_ _ _ H _ I h=>Constant_bool ⟨.bl b,H,I,rfl,h⟩
theorem zO {j pos}:PE X (.Constant .none j pos) (tC .non):=λ_ _ _ H _ I h=>Constant_none ⟨.non,H,I,rfl,h⟩
noncomputable def Gl (X:Cx) (x:Str):Prop:=X.env.kindOf x=some .globalImplicit
theorem BN {E:Value->Shared->Prop} {pins:List (Addr × Obj)} {s:Shared} {σ:St} {H:Hp} {x:Str} {u:Value} {pos:Pos} {Q:Value->Shared->Prop} (I:Inv X pins σ H s) (hg:Gl X x) (hm:X.mg x=some u) (h:Q u s)
  (hd:(x == ("__debug__":Str))=false:=by decide):wpAny (model X.prog X.w) X.A (eval (.Name x pos) X.env) Q E s :=
 Calls.Name_function_global I.ok.kind hg (Calls.loadGlobal_global (by rw[I.ok.glob];exact I.mod.glob.keeps I.bk) hm h) hd
theorem gP {E:Value->Shared->Prop} {pins:List (Addr × Obj)} {s:Shared} {σ:St} {H:Hp} {x:Str} {u:Value} {pos:Pos} {Q:Value->Shared->Prop} (I:Inv X pins σ H s) (hg:Gl X x) (hm:X.mg x=none) (hv:bootBuiltins x=some u) (h:Q u s)
  (hn:x≠"__name__":=by decide) (hd:(x == ("__debug__":Str))=false:=by decide):wpAny (model X.prog X.w) X.A (eval (.Name x pos) X.env) Q E s:=by
 obtain⟨mb,h1,h2⟩:=I.mod.blt
 exact Calls.Name_function_global I.ok.kind hg (Calls.loadGlobal_builtin (by rw[I.ok.glob];exact I.mod.glob.keeps I.bk) hm (by rw[I.ok.blt];exact h1.keeps I.bk) ((h2 x hn).trans hv) h) hd
theorem BW {x:Str} {v:V} {u:Value} {pos:Pos} (hg:Gl X x) (hm:X.mg x=none) (hv:bootBuiltins x=some u) (r:RelV v u) (hn:x≠"__name__":=by decide) (hd:(x == ("__debug__":Str))=false:=by decide):PE X (.Name x pos) (tC v) :=
 λ_ _ _ H _ I h=>gP I hg hm hv ⟨v,H,I,r,h⟩ hn hd
variable {a b:Expr} {ta tb:TE} {pos:Pos}
noncomputable def tB (t:TE):TT:=λσ H Q=>t σ H λx H1=>∃c,x = .bl c/\Q c H1
theorem FM {e:Expr} {t:TE} (h:PE X e t) (he:∀whole,isTrue e X.env whole=(do let v <-whole;standAt e.pos;holding [v] (truthy v)):=by intro _;rfl):PT X e (tB t):=by
 intro pins s σ H Q I hw
 refine isTrue_plain (thn (h pins s σ H _ I hw) λv s1 ⟨x,H1,I1,r1,q1⟩=>?_) (he _)
 obtain⟨d,rfl,q⟩:=q1
 cases r1
 exact wpAny_truthy_bool ⟨H1,I1,q⟩
variable {tA tB':TT} {rest:List Expr}
noncomputable def IN (t u:TT):TT:=λσ H Q=>t σ H λc H1=>if c=true then u σ H1 Q else Q false H1
noncomputable def tOr (t u:TT):TT:=λσ H Q=>t σ H λc H1=>if c=true then Q true H1 else u σ H1 Q
noncomputable def IT (t:TT):TT:=λσ H Q=>t σ H λc H1=>Q (!c) H1
theorem CH (ha:PT X a tA):PW X (.BoolOp .And [a] pos) tA:=by
 intro wh pins s σ H Q I h
 refine isTrue_and (thn (ha pins s σ H Q I h) λc s1 e=>?_)
 cases c with
 | true=>exact isTrue_and_nil e
 | false=>exact e
theorem FO (ha:PT X a tA):PW X (.BoolOp .Or [a] pos) tA:=by
 intro wh pins s σ H Q I h
 refine isTrue_or (thn (ha pins s σ H Q I h) λc s1 e=>?_)
 cases c with
 | false=>exact isTrue_or_nil e
 | true=>exact e
theorem FN (ha:PT X a tA) (hb:PW X (.BoolOp .And (b::rest) pos) tB'):PW X (.BoolOp .And (a::b::rest) pos) (IN tA tB'):=by
 intro wh pins s σ H Q I h
 refine isTrue_and (thn (ha pins s σ H _ I h) λc s1 ⟨H1,I1,q1⟩=>?_)
 cases c with
 | true=>exact hb wh pins s1 σ H1 Q I1 q1
 | false=>exact⟨H1,I1,q1⟩
theorem HG (ha:PT X a tA) (hb:PW X (.BoolOp .Or (b::rest) pos) tB'):PW X (.BoolOp .Or (a::b::rest) pos) (tOr tA tB'):=by
 intro wh pins s σ H Q I h
 refine isTrue_or (thn (ha pins s σ H _ I h) λc s1 ⟨H1,I1,q1⟩=>?_)
 cases c with
 | true=>exact⟨H1,I1,q1⟩
 | false=>exact hb wh pins s1 σ H1 Q I1 q1
theorem FL (ha:PT X a tA):PT X (.UnaryOp .Not a pos) (IT tA):=by
 intro pins s σ H Q I h
 exact isTrue_not (ha pins s σ H (λc H1=>Q (!c) H1) I h)
noncomputable def HL (ta tb:TE):TE:=λσ H Q=>ta σ H λx H1=>∃c,x = .bl c/\if c=true then tb σ H1 Q else Q (.bl false) H1
noncomputable def HU (ta:TE):TE:=λσ H Q=>ta σ H λx H1=>∃c,x = .bl c/\Q (.bl (!c)) H1
theorem FF {op} {t:TE} (h:PE X a t):PE X (.BoolOp op [a] pos) t:=λpins s σ H Q I hw=>BoolOp_one (h pins s σ H Q I hw)
theorem FB (ha:PE X a ta) (hb:PE X (.BoolOp .And (b::rest) pos) tb):PE X (.BoolOp .And (a::b::rest) pos) (HL ta tb):=by
 intro pins s σ H Q I h
 refine BoolOp_and (thn (ha pins s σ H _ I h) λv s1 ⟨x,H1,I1,r1,q1⟩=>?_)
 obtain⟨c,rfl,q1⟩:=q1
 cases r1
 refine wpAny_truthy_bool ?_
 cases c with
 | true=>exact hb pins s1 σ H1 Q I1 q1
 | false=>exact⟨.bl false,H1,I1,rfl,q1⟩
theorem FE (ha:PE X a ta):PE X (.UnaryOp .Not a pos) (HU ta):=by
 intro pins s σ H Q I h
 refine UnaryOp_ (thn (ha pins s σ H _ I h) λv s1 ⟨x,H1,I1,r1,q1⟩=>?_)
 obtain⟨c,rfl,q1⟩:=q1
 cases r1
 exact not_of (wpAny_truthy_bool ⟨.bl (!c),H1,I1,rfl,q1⟩)
end
end L2
namespace L2
open PySem PySem.Spec PyProof.Rows
noncomputable def SqL (K:PySem.W.Frag) (H:Hp) (a:Addr) (xs:List V):Prop :=
 Rd H a (.lst xs) \/
  ∃(o:Obj) (its:Array Value) (n:Nat),K.lookup a=some o/\o.cls = .type "list"/\o.dict=none/\o.data = .seq its n/\its.size<=sizeLine/\Vals xs its.toList
noncomputable def SqT (K:PySem.W.Frag) (H:Hp) (a:Addr) (xs:List V):Prop :=
 Rd H a (.tup xs) \/
  ∃(o:Obj) (its:Array Value) (n:Nat),K.lookup a=some o/\o.cls = .type "tuple"/\o.data = .seq its n/\its.size<=sizeLine/\Vals xs its.toList
noncomputable def HZ:Value->Option V
 | .none=>some .non
 | .bool b=>some (.bl b)
 | .int i _=>some (.int i)
 | .str x _=>some (.str x)
 | .bytes b _=>some (.byt b)
 | .float b _=>some (.flt b)
 | .ref a=>some (.ref a)
 | .type n=>some (.ty n)
 | _=>none
theorem RelV.abs {x:V} {u:Value} (r:RelV x u):HZ u=some x:=by
 cases x with
 | non=>cases r;rfl
 | bl _=>cases r;rfl
 | int _=>obtain⟨t,rfl⟩:=r;rfl
 | str _=>obtain⟨t,rfl⟩:=r;rfl
 | byt _=>obtain⟨t,rfl⟩:=r;rfl
 | flt _=>obtain⟨t,rfl⟩:=r;rfl
 | ref _=>cases r;rfl
 | ty _=>cases r;rfl
theorem RelV.inj {x y:V} {u:Value} (r:RelV x u) (q:RelV y u):x=y:=Option.some.inj (r.abs.symm.trans q.abs)
theorem Vals.inj:∀{xs ys:List V} {us:List Value},Vals xs us->Vals ys us->xs=ys
 | _,_,_,.nil,.nil=>rfl
 | _,_,_,.cons r t,.cons r' t'=>by rw[r.inj r',Vals.inj t t']
section
variable {X:Cx} {pins:List (Addr × Obj)} {σ:St} {H:Hp} {s:Shared} {a:Addr} {xs ys:List V}
theorem SqL.of {K:PySem.W.Frag} (h:H a=some (.lst xs)):SqL K H a xs:=.inl (.inl h)
theorem SqT.of {K:PySem.W.Frag} (h:H a=some (.tup xs)):SqT K H a xs:=.inl (.inl h)
theorem Inv.list (I:Inv X pins σ H s) (h:SqL X.K H a xs):∃its:List Value,Vals xs its/\PlainL s.heap a its.toArray/\xs.length<=sizeLine:=by
 rcases h with h | ⟨o,its,n,hk,hc,hd,hs,hz,r⟩
 ·obtain⟨z,its,n,r,e⟩:=h.ok I.hok
  exact⟨its,r,⟨_,n,e,rfl,rfl,rfl⟩,z⟩
 ·refine⟨its.toList,r,⟨o,n,I.kIn a o hk,hc,hd,by simpa using hs⟩,?_⟩
  have e:=r.length
  simp only[Array.length_toList] at e
  omega
theorem Inv.tuple (I:Inv X pins σ H s) (h:SqT X.K H a xs):∃its:List Value,Vals xs its/\IsTup s.heap a its.toArray/\xs.length<=sizeLine:=by
 rcases h with h | ⟨o,its,n,hk,hc,hs,hz,r⟩
 ·obtain⟨z,its,r,p⟩:=h.ok I.hok
  exact⟨its,r,p,z⟩
 ·refine⟨its.toList,r,⟨o,I.kIn a o hk,hc,n,by simpa using hs⟩,?_⟩
  have e:=r.length
  simp only[Array.length_toList] at e
  omega
theorem Inv.list_inj (I:Inv X pins σ H s) (h:SqL X.K H a xs) (h':SqL X.K H a ys):xs=ys:=by
 obtain⟨its,r,⟨o,n,e,_,_,d⟩,_⟩:=I.list h
 obtain⟨its',r',⟨o',n',e',_,_,d'⟩,_⟩:=I.list h'
 rw[e] at e';cases e'
 rw[d] at d'
 injection d' with d1 _
 have:its=its':=by simpa using congrArg Array.toList d1
 subst this
 exact r.inj r'
theorem Inv.tuple_inj (I:Inv X pins σ H s) (h:SqT X.K H a xs) (h':SqT X.K H a ys):xs=ys:=by
 obtain⟨its,r,⟨o,e,_,n,d⟩,_⟩:=I.tuple h
 obtain⟨its',r',⟨o',e',_,n',d'⟩,_⟩:=I.tuple h'
 rw[e] at e';cases e'
 rw[d] at d'
 injection d' with d1 _
 have:its=its':=by simpa using congrArg Array.toList d1
 subst this
 exact r.inj r'
end
noncomputable abbrev Cx.wish (X:Cx) (E:Value->Shared->Prop):Cx:={ X with xe:=E }
noncomputable abbrev Cx.nox (X:Cx):Cx:=X.wish λ_ _=>False
theorem Cx.Ok.wish {X:Cx} (ok:X.Ok) (E:Value->Shared->Prop):(X.wish E).Ok :=
 ⟨ok.mod,ok.kind,ok.glob,ok.blt,ok.above,ok.inj,ok.has,ok.cab,ok.hd,ok.frames,ok.stk,ok.exf,ok.bs,ok.bsz,ok.noex,ok.exfs,ok.funs,ok.frf⟩
theorem Cx.Ok.unwish {X:Cx} {E:Value->Shared->Prop} (ok:(X.wish E).Ok):X.Ok :=
 ⟨ok.mod,ok.kind,ok.glob,ok.blt,ok.above,ok.inj,ok.has,ok.cab,ok.hd,ok.frames,ok.stk,ok.exf,ok.bs,ok.bsz,ok.noex,ok.exfs,ok.funs,ok.frf⟩
section
variable {X:Cx} {pins:List (Addr × Obj)} {σ:St} {H:Hp} {s:Shared} {E:Value->Shared->Prop}
theorem Inv.wish (I:Inv X pins σ H s) (E:Value->Shared->Prop):Inv (X.wish E) pins σ H s:=⟨I.ok.wish E,I.os,I.bare,I.base,I.loc,I.cell,I.free,I.freeC,I.pin,I.hok,I.len⟩
theorem Inv.unwish (I:Inv (X.wish E) pins σ H s):Inv X pins σ H s:=⟨I.ok.unwish,I.os,I.bare,I.base,I.loc,I.cell,I.free,I.freeC,I.pin,I.hok,I.len⟩
theorem SP.unwish {D:Ends} {f:Flow} {s':Shared} (h:SP (X.wish E) pins D f s'):SP X pins D f s':=by
 cases f with
 | next=>obtain⟨σ',H',I,q⟩:=h;exact⟨σ',H',I.unwish,q⟩
 | brk=>obtain⟨σ',H',I,q⟩:=h;exact⟨σ',H',I.unwish,q⟩
 | cont=>obtain⟨σ',H',I,q⟩:=h;exact⟨σ',H',I.unwish,q⟩
 | ret u=>obtain⟨v,σ',H',I,r,q⟩:=h;exact⟨v,σ',H',I.unwish,r,q⟩
theorem PE.nox {e:Expr} {t:TE} (h:PE X.nox e t):PE X e t:=λpins s σ H Q I hw =>
 wpAny_mono (h pins s σ H Q (I.wish _) hw) (λ_ _ ⟨v,H',I',r,q⟩=>⟨v,H',I'.unwish,r,q⟩) λ_ _ z=>False.elim z
theorem PT.nox {e:Expr} {t:TT} (h:PT X.nox e t):PT X e t:=λpins s σ H Q I hw =>
 wpAny_mono (h pins s σ H Q (I.wish _) hw) (λ_ _ ⟨H',I',q⟩=>⟨H',I'.unwish,q⟩) λ_ _ z=>False.elim z
theorem PSs.nox {st:List Stmt} {t:TS} (h:PSs X.nox st t):PSs X st t:=λpins s σ H D I hw =>
 wpAny_mono (h pins s σ H D (I.wish _) hw) (λ_ _ q=>q.unwish) λ_ _ z=>False.elim z
end
section
variable {X:Cx} {st:Stmt} {rest:List Stmt} {t u:TS} {e:Expr} {te:TE} {pos:Pos}
noncomputable def HS:TS:=λD σ H=>D.nx σ H
noncomputable def IW (t u:TS):TS:=λD σ H=>t { D with nx:=u D } σ H
theorem CD:PSs X [] HS:=λ_ _ σ H _ I h=>wpAny_execs_nil ⟨σ,H,I,h⟩
theorem mW (h1:PS X st t) (h2:PSs X rest u):PSs X (st::rest) (IW t u):=by
 intro pins s σ H D I h
 refine wpAny_execs_cons (thn (h1 pins s σ H { D with nx:=u D } I h) λf s1 q=>?_)
 cases f with
 | next =>
  obtain⟨σ',H',I',q⟩:=q
  exact h2 pins s1 σ' H' D I' q
 | ret v=>exact q
 | brk=>exact q
 | cont=>exact q
theorem lY (h1:PS X st t):PSs X [st] t:=by
 intro pins s σ H D I h
 refine wpAny_execs_cons (thn (h1 pins s σ H D I h) λf s1 q=>?_)
 cases f with
 | next=>exact wpAny_execs_nil q
 | ret v=>exact q
 | brk=>exact q
 | cont=>exact q
theorem Inv.quiet {pins:List (Addr × Obj)} {σ:St} {H:Hp} {s:Shared} (I:Inv X pins σ H s):interactive X.env=false:=by simp[interactive,I.ok.kind]
noncomputable def HR (te:TE):TS:=λD σ H=>te σ H λ_ H1=>D.nx σ H1
theorem jY (he:PE X e te) (hs:swapsWith e none pos.line X.env=pure false:=by rfl):PS X (.Expr e pos) (HR te):=by
 intro pins s σ H D I h
 exact wpAny_Expr_any (thn (he pins s σ H _ I h) λv s1 ⟨x,H1,I1,r1,q1⟩=>⟨σ,H1,I1,q1⟩) I.quiet hs
noncomputable def IV (te:TE):TS:=λD σ H=>te σ H D.rt
theorem tY (he:PE X e te):PS X (.Return (some e) pos) (IV te):=by
 intro pins s σ H D I h
 exact wpAny_Return_some (thn (he pins s σ H _ I h) λv s1 ⟨x,H1,I1,r1,q1⟩=>⟨x,σ,H1,I1,r1,q1⟩)
noncomputable def IQ (c:TT) (t u:TS):TS:=λD σ H=>c σ H λb H1=>if b=true then t D σ H1 else u D σ H1
theorem HF {c:Expr} {a b:List Stmt} {tc:TT} (hc:PT X c tc) (ha:PSs X a t) (hb:PSs X b u):PS X (.If c a b pos) (IQ tc t u):=by
 intro pins s σ H D I h
 refine wpAny_If (thn (hc pins s σ H _ I h) λd s1 ⟨H1,I1,q1⟩=>?_)
 cases d with
 | true=>exact ha pins s1 σ H1 D I1 q1
 | false=>exact hb pins s1 σ H1 D I1 q1
noncomputable def FV:TS:=λ_ _ _=>False
theorem zV:PS X st FV:=λ_ _ _ _ _ _ h=>h.elim
end
noncomputable abbrev TG:=V->St->Hp->(St->Hp->Prop)->Prop
noncomputable abbrev TGs:=List V->St->Hp->(St->Hp->Prop)->Prop
noncomputable def PG (X:Cx) (target:Expr) (t:TG):Prop :=
 ∀(pins:List (Addr × Obj)) (s:Shared) (σ:St) (H:Hp) (v:V) (u:Value) (Q:St->Hp->Prop),Inv X pins σ H s->RelV v u->t v σ H Q ->
  wpAny (model X.prog X.w) X.A (assign target X.env u) (λ_ s'=>∃σ' H',Inv X pins σ' H' s'/\Q σ' H') X.xe s
noncomputable def PGs (X:Cx) (ts:List Expr) (t:TGs):Prop :=
 ∀(pins:List (Addr × Obj)) (s:Shared) (σ:St) (H:Hp) (vs:List V) (us:List Value) (Q:St->Hp->Prop),Inv X pins σ H s->Vals vs us->t vs σ H Q ->
  wpAny (model X.prog X.w) X.A (assignInOrder ((assignEach ts X.env).map (·.2)) us) (λ_ s'=>∃σ' H',Inv X pins σ' H' s'/\Q σ' H') X.xe s
section
variable {X:Cx} {pos:Pos}
noncomputable def DD (i:Nat):TG:=λv σ H Q=>Q (σ.set i (some v)) H
theorem vF {i:Nat} {x:Str} (hN:X.N.Nodup) (hi:X.N[i]? = some x) (hx:Loc X.env.scope x) (hf:X.fn x=true\/X.env.scope.names.lookup x=some .local:=by walk_at "loc"):PG X (.Name x pos) (DD i):=by
 intro pins s σ H v u Q I r h
 exact wpAny_assign_Name (kH I hN hi hx r (λs' I'=>⟨_,H,I',h⟩) hf)
noncomputable def ID:TGs:=λvs σ H Q=>vs=[]/\Q σ H
noncomputable def GI (t:TG) (u:TGs):TGs:=λvs σ H Q=>∃v r,vs=v::r/\t v σ H λσ' H'=>u r σ' H' Q
theorem BZ:PGs X [] ID:=by
 intro pins s σ H vs us Q I r h
 obtain⟨e,h⟩:=h
 subst e
 cases r
 exact assignInOrder_nil ⟨σ,H,I,h⟩
theorem zS {e:Expr} {es:List Expr} {t:TG} {u:TGs} (h1:PG X e t) (h2:PGs X es u)
  (hs:(assignEach (e::es) X.env).map (·.2)=assign e X.env::(assignEach es X.env).map (·.2):=by rfl):PGs X (e::es) (GI t u):=by
 intro pins s σ H vs us Q I r h
 obtain⟨v,vr,e1,h⟩:=h
 subst e1
 cases r with
 | cons r rr =>
  rw[hs]
  refine assignInOrder_cons (thn (h1 pins s σ H _ _ _ I r h) λ_ s1 ⟨σ1,H1,I1,q1⟩=>?_)
  exact h2 pins s1 σ1 H1 _ _ Q I1 rr q1
noncomputable def IE (K:PySem.W.Frag) (n:Nat) (t:TGs):TG:=λv σ H Q=>∃a xs,v = .ref a/\SqT K H a xs/\xs.length=n/\t xs σ H Q
theorem FH {es:List Expr} {k:Nat} {t:TGs} {n:Nat} (hc:X.calm=true) (h:PGs X es t)
  (hn:(assignEach es X.env).length=n:=by rfl) (hst:(assignEach es X.env).findIdx? (·.1)=none:=by rfl):PG X (.Tuple es k pos) (IE X.K n t):=by
 intro pins s σ H v u Q I r hw
 obtain⟨a,xs,e1,hq,hl,hw⟩:=hw
 subst e1
 cases r
 obtain⟨its,rv,ht,hz⟩:=I.tuple hq
 refine assign_Tuple_tuple (I.ok.hd hc) ht (by simp[hn,<-hl,rv.length]) hst λh' hx=>?_
 have I1:Inv X pins σ H { s with heap:=h' }:=I.kept (t':=s.toks) λb o e=>hx b o (Nat.ne_of_lt (Heap.lt_size e)) e
 exact h pins _ σ H xs _ Q I1 (by simpa using rv) hw
noncomputable def HM (te:TE) (g:TG):TS:=λD σ H=>te σ H λx H1=>g x σ H1 D.nx
theorem FJ {tg e:Expr} {te:TE} {g:TG} (he:PE X e te) (hg:PG X tg g) (hs:swapsWithSole [tg] e pos.line X.env=pure false:=by rfl) (hw:swappedStores [tg] e X.env=pure none:=by rfl)
  (h1:(assignEach [tg] X.env).map (·.2)=[assign tg X.env]:=by rfl):PS X (.Assign [tg] e pos) (HM te g):=by
 intro pins s σ H D I h
 refine wpAny_Assign_stores (thn (he pins s σ H _ I h) λv s1 ⟨x,H1,I1,r1,q1⟩=>?_) hs hw
 rw[h1]
 exact thn (hg pins s1 σ H1 x v _ I1 r1 q1) λ_ s2 q=>q
theorem mV {i:Nat} {x:Str} {e:Expr} {te:TE} {pos':Pos} (hN:X.N.Nodup) (hi:X.N[i]? = some x) (hx:Loc X.env.scope x) (he:PE X e te) (hs:swapsWith e (some (.Name x pos')) pos.line X.env=pure false:=by rfl) (hf:X.fn x=true\/X.env.scope.names.lookup x=some .local:=by walk_at "loc") :
  PS X (.Assign [.Name x pos'] e pos) (HM te (DD i)):=by
 intro pins s σ H D I h
 refine wpAny_Assign_Name (thn (he pins s σ H _ I h) λv s1 ⟨y,H1,I1,r1,q1⟩=>?_) hs
 exact kH I1 hN hi hx r1 (λs2 I2=>⟨_,H1,I2,q1⟩) hf
noncomputable def IU (i j:Nat) (ta:TA):TS:=λD σ H=>ta σ H λvs H1=>∃v w,vs=[v,w]/\D.nx ((σ.set i (some v)).set j (some w)) H1
theorem FK {i j:Nat} {x y:Str} {a b:Expr} {ta:TA} {px py pt:Pos} {kt k2 pt2} (hc:X.calm=true) (hN:X.N.Nodup) (hi:X.N[i]? = some x) (hj:X.N[j]? = some y) (hij:i≠j)
  (hx:X.env.scope.names.lookup x=some .local) (hy:X.env.scope.names.lookup y=some .local) (ha:PA X [a,b] ta)
  (hw:swappedStores [.Tuple [.Name x px,.Name y py] kt pt] (.Tuple [a,b] k2 pt2) X.env=pure (some [x,y]))
  (hs:swapsWithSole [.Tuple [.Name x px,.Name y py] kt pt] (.Tuple [a,b] k2 pt2) pos.line X.env=pure false:=by rfl) :
  PS X (.Assign [.Tuple [.Name x px,.Name y py] kt pt] (.Tuple [a,b] k2 pt2) pos) (IU i j ta):=by
 intro pins s σ H D I h
 rw[exec_Assign_arm]
 refine wpAny_bind (wpAny_standAt ?_)
 rw[hs]
 refine wpAny_bind (wpAny_pure ?_)
 rw[if_neg (by decide)]
 refine wpAny_bind (Tuple_ (thn (ha _ pins s σ H _ I h) λus s1 ⟨vs,H1,I1,r1,q1⟩=>?_))
 obtain⟨v,w,e1,q1⟩:=q1
 subst e1
 obtain⟨u1,u2,rfl,rv,rw'⟩:∃u1 u2,us=[u1,u2]/\RelV v u1/\RelV w u2:=by
  cases r1 with
  | cons p q =>
   cases q with
   | cons p' q' =>
    cases q'
    exact⟨_,_,rfl,p,p'⟩
 refine wpAny_newObj_type ?_ (by show 2<=sizeLine;decide)
 have I2:Inv X pins σ H1 { s1 with heap:=s1.heap.push { cls:=.type "tuple",data:=.seq [u1,u2].toArray } }:=I1.kept (t':=s1.toks) λb o e=>Heap.get?_push_of_some _ e
 rw[hw]
 refine wpAny_bind (wpAny_pure ?_)
 show wpAny (model X.prog X.w) X.A (do rule "assign.swapped-stores";let items <-unpackItems (.ref s1.heap.objs.size) 2 none;assignInOrder [λv=>bindName X.env y v,λv=>bindName X.env x v] items.reverse;pure Flow.next) _ _ _
 refine wpAny_bind (wpAny_rule (wpAny_bind (unpackItems_tuple (items:=#[u1,u2]) (I.ok.hd hc) (IsTup.new s1.heap _) λh' hx'=>?_)))
 have I3:=I2.kept (h':=h') (t':=s1.toks) λb o e=>hx' b o (Nat.ne_of_lt (Heap.lt_size e)) e
 show wpAny _ _ (assignInOrder [λv=>bindName X.env y v,λv=>bindName X.env x v] [u2,u1] >>= λ_=>pure Flow.next) _ _ _
 refine wpAny_bind (assignInOrder_cons (wpAny_bindName (kH I3 hN hj (.inl hy) rw' (λs2 I4=>?_) (.inr hy))))
 refine assignInOrder_cons (wpAny_bindName (kH I4 hN hi (.inl hx) rv (λs3 I5=>assignInOrder_nil (wpAny_pure ?_)) (.inr hx)))
 rw[List.set_comm _ _ (Ne.symm hij)] at I5
 exact⟨_,H1,I5,q1⟩
end
section
variable {X:Cx} {pos:Pos}
noncomputable def FW (c:TT) (tb:TS):TS:=λD σ H=>∃W:Nat->St->Hp->Prop,(∃m,W m σ H)/\∀m σ H,W m σ H ->
 c σ H λb H1=>if b=true then ∃N:St->Hp->Prop,(∀σ' H',N σ' H'->∃m',m'<m/\W m' σ' H')/\tb { D with nx:=N,ct:=N,bk:=D.nx } σ H1 else D.nx σ H1
theorem zW {c:Expr} {body:List Stmt} {tc:TT} {tb:TS} (hp:PassesOwn (model X.prog X.w) X.A X.env X.xe) (hc:PT X c tc) (hb:PSs X body tb):PS X (.While c body [] pos) (FW tc tb):=by
 intro pins s σ H D I h
 obtain⟨W,⟨m0,w0⟩,turn⟩:=h
 refine wpAny_While (codeAny_whileLoop (λn s'=>∃σ' H',Inv X pins σ' H' s'/\W n σ' H') ?_ m0 ⟨σ,H,I,w0⟩)
 rintro n s1 ⟨σ1,H1,I1,w1⟩
 refine wpAny_passesOwn hp (thn (hc pins s1 σ1 H1 _ I1 (turn n σ1 H1 w1)) λb s2 ⟨H2,I2,q2⟩=>?_)
 cases b with
 | true =>
  obtain⟨N,hN,q2⟩:=q2
  rw[if_pos rfl]
  refine wpAny_passesOwn hp (thn (hb pins s2 σ1 H2 _ I2 q2) λf s3 q3=>?_)
  cases f with
  | next =>
   obtain⟨σ3,H3,I3,n3⟩:=q3
   obtain⟨m',hm,w3⟩:=hN σ3 H3 n3
   exact⟨m',hm,σ3,H3,I3,w3⟩
  | cont =>
   obtain⟨σ3,H3,I3,n3⟩:=q3
   obtain⟨m',hm,w3⟩:=hN σ3 H3 n3
   exact⟨m',hm,σ3,H3,I3,w3⟩
  | brk=>exact q3
  | ret v=>exact q3
 | false =>
  rw[if_neg Bool.false_ne_true]
  exact wpAny_execs_nil ⟨σ1,H2,I2,q2⟩
end
structure It where
 go:Nat->Hp->Prop
 yld:Nat->Hp->V->Hp->Prop
 stop:Nat->Hp->Prop
noncomputable def kI (X:Cx) (pins:List (Addr × Obj)) (H:Hp) (b:Addr):Prop :=
 H b=none/\b≠X.env.locals/\b ∉ X.fs/\(b∈X.ex\/X.s₀.heap.objs.size<=b)/\(∀x c,X.env.cells.lookup x=some c->c≠b)/\∀p∈X.pn++pins,p.1≠b
theorem Inv.fpOk {X:Cx} {pins:List (Addr × Obj)} {σ:St} {H H':Hp} {s:Shared} {b:Addr} (I:Inv X pins σ H s) (hb:s.heap.objs.size<=b) (hn:H' b=none):kI X pins H' b:=by
 refine⟨hn,Nat.ne_of_gt (Nat.lt_of_lt_of_le I.lt hb),I.nofs hb,.inr (Nat.le_trans I.sz hb),λx c e z=>?_,λp hp z=>?_⟩
 ·obtain⟨v,q⟩:=I.cell x c e
  exact absurd (Nat.lt_of_lt_of_le q.lt (by rw[z];exact hb)) (Nat.lt_irrefl _)
 ·exact absurd (Nat.lt_of_lt_of_le (Heap.lt_size (I.pin p hp).1) (by rw[z];exact hb)) (Nat.lt_irrefl _)
structure Turn (P:Program) (w:World) (K:PySem.W.Frag) (tg:Expr) (J:It) (fp:List Addr) (it:Addr) (tn:Nat->Heap->Prop):Prop where
 mem:it∈fp
 obj:∀i h,tn i h->∀b∈fp,∃o,h.get? b=some o/\∀v,o.data≠.cell v
 keep:∀i h h',tn i h->(∀b∈fp,∀o,h.get? b=some o->h'.get? b=some o)->tn i h'
 item:∀(X:Cx),X.prog=P->X.w=w->X.K=K->X.calm=true->∀(i:Nat) (pins:List (Addr × Obj)) (s:Shared) (σ:St) (H:Hp) (E:Value->Shared->Prop),Inv X pins σ H s->(∀b∈fp,kI X pins H b)->tn i s.heap->J.go i H ->
  wpAny (model P w) X.A (pyNext (.ref it)) (λr s1=>∃u,r=some u /\
   wpAny (model P w) X.A (letOwnedTupleGo tg (.ref it) u) (λ_ s2=>∃x H',Inv X pins σ H' s2/\RelV x u/\J.yld i H x H'/\tn (i+1) s2.heap/\∀b∈fp,H' b=none) E s1) E s
 done:∀(X:Cx),X.prog=P->X.w=w->X.K=K->X.calm=true->∀(i:Nat) (pins:List (Addr × Obj)) (s:Shared) (σ:St) (H:Hp) (E:Value->Shared->Prop),Inv X pins σ H s->(∀b∈fp,kI X pins H b)->tn i s.heap->J.stop i H ->
  wpAny (model P w) X.A (pyNext (.ref it)) (λr s1=>r=none/\Inv X pins σ H s1) E s
 self:∀(A:Around) (i:Nat) (s:Shared) (Q:Value->Shared->Prop) (E:Value->Shared->Prop),tn i s.heap->Q (.ref it) s->wpAny (model P w) A (pyIter (.ref it)) Q E s
noncomputable abbrev TI:=St->Hp->(It->Hp->Prop)->Prop
noncomputable def PIE (X:Cx) (pins:List (Addr × Obj)) (σ:St) (tg:Expr) (R:It->Hp->Prop) (itv:Value) (s2:Shared):Prop :=
 ∃(it:Addr) (fp:List Addr) (tn:Nat->Heap->Prop) (J:It) (H':Hp),itv = .ref it/\Inv X pins σ H' s2/\Turn X.prog X.w X.K tg J fp it tn/\tn 0 s2.heap/\(∀b∈fp,kI X pins H' b)/\R J H'
noncomputable def PI (X:Cx) (tg iter:Expr) (wi:TI):Prop :=
 ∀(pins:List (Addr × Obj)) (s:Shared) (σ:St) (H:Hp) (R:It->Hp->Prop),Inv X pins σ H s->wi σ H R ->
  wpAny (model X.prog X.w) X.A (eval iter X.env) (λv s1=>wpAny (model X.prog X.w) X.A (pyIter v) (PIE X pins σ tg R) X.xe s1) X.xe s
theorem yS {M:Model} {A:Around} {E:Value->Shared->Prop} {s:Shared} {tg:Expr} {it:Addr} {u:Value} {o:Obj} {n:String} {vs:Array Value} {Q:Unit->Shared->Prop} (ho:s.heap.get? it=some o) (hc:o.cls = .type n) (hd:o.data = .fields vs)
  (hn:["enumerate","zip","dict_itemiterator","dict_reverseitemiterator","odict_iterator","itertools.zip_longest","itertools.pairwise"].contains n=false) (hQ:Q () s):wpAny M A (letOwnedTupleGo tg (.ref it) u) Q E s:=by
 unfold letOwnedTupleGo
 cases tg <;> first
  | exact wpAny_pure hQ
  | (cases u <;> first
    | exact wpAny_pure hQ
    | (refine wpAny_bind (wpAny_load ho ?_);rw[hc,hd];show wpAny M A (if (["enumerate","zip","dict_itemiterator","dict_reverseitemiterator","odict_iterator","itertools.zip_longest","itertools.pairwise"].contains n && vs[0]? == some (rawInt _))=true then _ else _) Q E s;rw[if_neg (by intro h;rw[hn,Bool.false_and] at h;cases h)];exact wpAny_pure hQ))
noncomputable def Itl (K:PySem.W.Frag) (a:Addr):It :=
 ⟨λi H=>∃xs x,SqL K H a xs/\xs[i]? = some x,λi H x H'=>H'=H/\∀xs,SqL K H a xs->xs[i]? = some x,λi H=>∃xs,SqL K H a xs/\xs.length<=i⟩
noncomputable def Itt (K:PySem.W.Frag) (a:Addr):It :=
 ⟨λi H=>∃xs x,SqT K H a xs/\xs[i]? = some x,λi H x H'=>H'=H/\∀xs,SqT K H a xs->xs[i]? = some x,λi H=>∃xs,SqT K H a xs/\xs.length<=i⟩
noncomputable def Itr (lo:Int) (n:Nat):It:=⟨λi _=>i<n,λi H x H'=>H'=H/\x = .int (lo+i),λi _=>n<=i⟩
theorem xT {P:Program} {w:World} {K:PySem.W.Frag} {tg:Expr} (a it:Addr):Turn P w K tg (Itl K a) [it] it (λi h=>h.IsListIter it a i) where
 mem:=by simp
 obj:=λi h st b hb=>by
  have e:b=it:=by simpa using hb
  subst e
  obtain⟨o,e,c,d⟩:=st
  exact⟨o,e,λv z=>by rw[d] at z;cases z⟩
 keep:=λi h h' st k=>st.at λo e=>k it (by simp) o e
 item:=by
  intro X hP hw hK hc i pins s σ H E I hf st hg
  subst hP hw hK
  obtain⟨xs,x,hq,hx⟩:=hg
  obtain⟨its,rv,p,hz⟩:=I.list hq
  obtain⟨u,hu,ru⟩:=rv.get hx
  obtain⟨f0,f1,f2,f3,f4,f5⟩:=hf it (by simp)
  refine wpAny_pyNext_list_item st p.isList (x:=u) (by simpa using hu) λh' st' sb=>?_
  have I1:Inv X pins σ H { s with heap:=h' }:=I.turned (t':=s.toks) (λb o hb e=>(sb.2 b hb).trans e) f0 f1 f3 f4 f5
  obtain⟨o,e,c,d⟩:=id st'
  exact⟨u,rfl,yS (s:={ s with heap:=h' }) e c d (by decide) ⟨x,H,I1,ru,⟨rfl,λys hy=>by rw[I.list_inj hy hq];exact hx⟩,st',λb hb=>(hf b hb).1⟩⟩
 done:=by
  intro X hP hw hK hc i pins s σ H E I hf st hg
  subst hP hw hK
  obtain⟨xs,hq,hx⟩:=hg
  obtain⟨its,rv,p,hz⟩:=I.list hq
  obtain⟨f0,f1,f2,f3,f4,f5⟩:=hf it (by simp)
  have hl:=rv.length
  exact wpAny_pyNext_list_end (I.ok.hd hc) st p.isList (by simp;omega) λh' eb=>⟨rfl,I.turned (t':=s.toks) (λb o hb e=>eb b o hb e) f0 f1 f3 f4 f5⟩
 self:=λ_ _ _ _ _ st h=>wpAny_pyIter_listiter st h
theorem uG {P:Program} {w:World} {K:PySem.W.Frag} {tg:Expr} (a it:Addr):Turn P w K tg (Itt K a) [it] it (λi h=>h.IsTupleIter it a i) where
 mem:=by simp
 obj:=λi h st b hb=>by
  have e:b=it:=by simpa using hb
  subst e
  obtain⟨o,e,c,d⟩:=st
  exact⟨o,e,λv z=>by rw[d] at z;cases z⟩
 keep:=λi h h' st k=>st.at λo e=>k it (by simp) o e
 item:=by
  intro X hP hw hK hc i pins s σ H E I hf st hg
  subst hP hw hK
  obtain⟨xs,x,hq,hx⟩:=hg
  obtain⟨its,rv,p,hz⟩:=I.tuple hq
  obtain⟨u,hu,ru⟩:=rv.get hx
  obtain⟨f0,f1,f2,f3,f4,f5⟩:=hf it (by simp)
  refine wpAny_pyNext_tuple_item st (show s.heap.IsTuple a its.toArray from p) (x:=u) (by simpa using hu) λh' st' sb=>?_
  have I1:Inv X pins σ H { s with heap:=h' }:=I.turned (t':=s.toks) (λb o hb e=>(sb.2 b hb).trans e) f0 f1 f3 f4 f5
  obtain⟨o,e,c,d⟩:=id st'
  exact⟨u,rfl,yS (s:={ s with heap:=h' }) e c d (by decide) ⟨x,H,I1,ru,⟨rfl,λys hy=>by rw[I.tuple_inj hy hq];exact hx⟩,st',λb hb=>(hf b hb).1⟩⟩
 done:=by
  intro X hP hw hK hc i pins s σ H E I hf st hg
  subst hP hw hK
  obtain⟨xs,hq,hx⟩:=hg
  obtain⟨its,rv,p,hz⟩:=I.tuple hq
  obtain⟨f0,f1,f2,f3,f4,f5⟩:=hf it (by simp)
  have hl:=rv.length
  exact wpAny_pyNext_tuple_end (I.ok.hd hc) st (show s.heap.IsTuple a its.toArray from p) (by simp;omega) λh' eb=>⟨rfl,I.turned (t':=s.toks) (λb o hb e=>eb b o hb e) f0 f1 f3 f4 f5⟩
 self:=λ_ _ _ _ _ st h=>wpAny_pyIter_tupleiter st h
theorem uF {P:Program} {w:World} {K:PySem.W.Frag} {tg:Expr} (it:Addr) (lo:Int) (n:Nat):Turn P w K tg (Itr lo n) [it] it (λi h=>IsRangeIter h it (lo+(i:Nat)*1) ((n:Int)-(i:Nat)) 1) where
 mem:=by simp
 obj:=λi h st b hb=>by
  have e:b=it:=by simpa using hb
  subst e
  exact⟨_,st,λv z=>by
   have z':Data.fields _=Data.cell v:=z
   cases z'⟩
 keep:=λi h h' st k=>k it (by simp) _ st
 item:=by
  intro X hP hw hK hc i pins s σ H E I hf st hg
  subst hP hw hK
  obtain⟨f0,f1,f2,f3,f4,f5⟩:=hf it (by simp)
  have W:=Walks.range (prog:=X.prog) (w:=X.w) (I.ok.hd hc) it lo 1 n
  refine W.item i s _ _ hg st λv h' tk hv st' kk=>?_
  obtain⟨t,rfl⟩:=hv
  have I1:Inv X pins σ H { s with heap:=h',toks:=tk }:=I.turned (λb o hb e=>kk b o (by simpa using hb) e) f0 f1 f3 f4 f5
  refine⟨_,rfl,yS (s:={ s with heap:=h',toks:=tk }) (n:="range_iterator") st' rfl rfl (by decide) ⟨.int (lo+i),H,I1,⟨t,?_⟩,⟨rfl,rfl⟩,st',λb hb=>(hf b hb).1⟩⟩
  rw[Int.mul_one]
 done:=by
  intro X hP hw hK hc i pins s σ H E I hf st hg
  subst hP hw hK
  obtain⟨f0,f1,f2,f3,f4,f5⟩:=hf it (by simp)
  exact wpAny_pyNext_range_end (I.ok.hd hc) st (by have:n<=i:=hg;omega) λh' eb=>⟨rfl,I.turned (t':=s.toks) (λb o hb e=>eb b o hb e) f0 f1 f3 f4 f5⟩
 self:=λ_ _ _ _ _ st h=>wpAny_pyIter_rangeiter st h
end L2
namespace L2
open PySem PySem.Spec PyProof.Rows
section
variable {X:Cx} {tg:Expr}
noncomputable def GK (K:PySem.W.Frag) (tl:TE):TI:=λσ H R=>tl σ H λx H1=>∃a,x = .ref a/\(∃xs,SqL K H1 a xs)/\R (Itl K a) H1
noncomputable def IF (K:PySem.W.Frag) (tl:TE):TI:=λσ H R=>tl σ H λx H1=>∃a,x = .ref a/\(∃xs,SqT K H1 a xs)/\R (Itt K a) H1
theorem CA {l:Expr} {tl:TE} (hl:PE X l tl):PI X tg l (GK X.K tl):=by
 intro pins s σ H R I h
 refine thn (hl pins s σ H _ I h) λv s1 ⟨x,H1,I1,r1,q1⟩=>?_
 obtain⟨a,e,⟨xs,hq⟩,q⟩:=q1
 subst e
 cases r1
 obtain⟨its,rv,p,hz⟩:=I1.list hq
 refine wpAny_pyIter_list p.isList ?_
 refine⟨s1.heap.objs.size,[s1.heap.objs.size],_,_,H1,rfl,I1.kept (t':=s1.toks) λb o e=>Heap.get?_push_of_some _ e,xT a _,⟨_,Heap.get?_push_size _ rfl,rfl,rfl⟩,λb hb=>?_,q⟩
 have e:b=s1.heap.objs.size:=by simpa using hb
 subst e
 exact I1.fpOk (Nat.le_refl _) (I1.hok.fresh (Nat.le_refl _))
theorem FI {l:Expr} {tl:TE} (hl:PE X l tl):PI X tg l (IF X.K tl):=by
 intro pins s σ H R I h
 refine thn (hl pins s σ H _ I h) λv s1 ⟨x,H1,I1,r1,q1⟩=>?_
 obtain⟨a,e,⟨xs,hq⟩,q⟩:=q1
 subst e
 cases r1
 obtain⟨its,rv,p,hz⟩:=I1.tuple hq
 refine wpAny_pyIter_tuple (show s1.heap.IsTuple a its.toArray from p) ?_
 refine⟨s1.heap.objs.size,[s1.heap.objs.size],_,_,H1,rfl,I1.kept (t':=s1.toks) λb o e=>Heap.get?_push_of_some _ e,uG a _,⟨_,Heap.get?_push_size _ rfl,rfl,rfl⟩,λb hb=>?_,q⟩
 have e:b=s1.heap.objs.size:=by simpa using hb
 subst e
 exact I1.fpOk (Nat.le_refl _) (I1.hok.fresh (Nat.le_refl _))
theorem sT {pins:List (Addr × Obj)} {σ:St} {H:Hp} {s:Shared} {R:It->Hp->Prop} {E:Value->Shared->Prop} {lo hi:Int} {t u v:Tok} {tk:Nat} (I:Inv X pins σ H s) (h1:-(2 ^ 62)<=lo) (h2:lo<2 ^ 62) (h3:-(2 ^ 62)<=hi) (h4:hi<2 ^ 62)
  (q:R (Itr lo (hi-lo).toNat) H):wpAny (model X.prog X.w) X.A (pyIter (.ref s.heap.objs.size)) (PIE X pins σ tg R) E { s with heap:=s.heap.push { cls:=.type "range",data:=.fields #[.int lo t,.int hi u,.int 1 v] },toks:=tk }:=by
 refine wpAny_pyIter_range (IsRange.new ..) (small_one h1 h2 h3 h4) ?_
 have I1:Inv X pins σ H { s with heap:=s.heap.push { cls:=.type "range",data:=.fields #[.int lo t,.int hi u,.int 1 v] },toks:=tk }:=I.kept λb o e=>Heap.get?_push_of_some _ e
 refine⟨(s.heap.push { cls:=.type "range",data:=.fields #[.int lo t,.int hi u,.int 1 v] }).objs.size,[(s.heap.push { cls:=.type "range",data:=.fields #[.int lo t,.int hi u,.int 1 v] }).objs.size],_,_,H,rfl,
  I1.kept (t':=tk) λb o e=>Heap.get?_push_of_some _ e,uF _ lo (hi-lo).toNat,?_,λb hb=>?_,q⟩
 ·have e1:lo+((0:Nat):Int)*1=lo:=by simp
  have e2:(((hi-lo).toNat:Nat):Int)-((0:Nat):Int)=Builtin.Range.rangeSize lo hi 1:=by rw[rangeSize_one];split <;> omega
  show IsRangeIter _ _ (lo+((0:Nat):Int)*1) ((((hi-lo).toNat:Nat):Int)-((0:Nat):Int)) 1
  rw[e1,e2]
  exact Heap.get?_push_size _ rfl
 ·have e:b=(s.heap.push { cls:=.type "range",data:=.fields #[.int lo t,.int hi u,.int 1 v] }).objs.size:=by simpa using hb
  subst e
  exact I1.fpOk (Nat.le_refl _) (I1.hok.fresh (Nat.le_refl _))
noncomputable def GL (ta:TA):TI:=λσ H R=>ta σ H λvs H1=>∃j:Int,vs=[.int j]/\-(2 ^ 62)<=j/\j<2 ^ 62/\R (Itr 0 j.toNat) H1
noncomputable def GM (ta:TA):TI:=λσ H R=>ta σ H λvs H1=>∃i j:Int,vs=[.int i,.int j]/\(-(2 ^ 62)<=i/\i<2 ^ 62/\-(2 ^ 62)<=j/\j<2 ^ 62)/\R (Itr i (j-i).toNat) H1
theorem xH {a:Expr} {ta:TA} {p pos:Pos} (hg:Gl X "range") (hm:X.mg "range" = none) (ha:PA X [a] ta) (hs:starEach [a] X.env=[(false,eval a X.env)]:=by rfl):PI X tg (.Call (.Name "range" p) [a] [] pos) (GL ta):=by
 intro pins s σ H R I h
 refine Call_ (gP I hg hm boot_range (PyProof.Rows.callWith_type1 (thn (ha pos pins s σ H _ I h) λus s1 ⟨vs,H1,I1,r1,q1⟩=>?_) hs rfl))
 obtain⟨j,e,q1,q2,q⟩:=q1
 subst e
 cases r1 with
 | cons r rr =>
  cases rr
  obtain⟨t,rfl⟩:=r
  exact call_range_1 (sT I1 (by omega) (by omega) q1 q2 (by simpa using q))
theorem xI {a b:Expr} {ta:TA} {p pos:Pos} (hg:Gl X "range") (hm:X.mg "range" = none) (ha:PA X [a,b] ta) (hs:starEach [a,b] X.env=[(false,eval a X.env),(false,eval b X.env)]:=by rfl) (hs2:starEach [b] X.env=[(false,eval b X.env)]:=by rfl) :
  PI X tg (.Call (.Name "range" p) [a,b] [] pos) (GM ta):=by
 intro pins s σ H R I h
 refine Call_ (gP I hg hm boot_range (PyProof.Rows.callWith_type1 (thn (ha pos pins s σ H _ I h) λus s1 ⟨vs,H1,I1,r1,q1⟩=>?_) (by rw[hs,hs2]) (by rw[hs2];rfl)))
 obtain⟨i,j,e,⟨q1,q2,q3,q4⟩,q⟩:=q1
 subst e
 cases r1 with
 | cons r rr =>
  cases rr with
  | cons r' rr =>
   cases rr
   obtain⟨t,rfl⟩:=r
   obtain⟨t',rfl⟩:=r'
   exact call_range_2 (sT I1 q1 q2 q3 q4 q)
noncomputable def IP (wi:TI) (g:TG) (tb:TS):TS:=λD σ H=>wi σ H λJ H1=>∃W:Nat->Nat->St->Hp->Prop,(∃m,W 0 m σ H1)/\∀i m σ H,W i m σ H ->
 (J.stop i H/\D.nx σ H)\/(J.go i H/\∃N:St->Hp->Prop,(∀σ' H',N σ' H'->∃m',m'<m/\W (i+1) m' σ' H')/\∀x H',J.yld i H x H'->g x σ H' λσ2 H2=>tb { D with nx:=N,ct:=N,bk:=D.nx } σ2 H2)
noncomputable def qO (fp:List Addr) (h:Heap):List (Addr × Obj):=fp.filterMap λb=>(h.get? b).map λo=>(b,o)
theorem fM {fp:List Addr} {h:Heap} {b:Addr} {o:Obj} (hb:b∈fp) (e:h.get? b=some o):(b,o)∈qO fp h:=List.mem_filterMap.mpr ⟨b,hb,by rw[e];rfl⟩
theorem xC {fp:List Addr} {h:Heap} {p:Addr × Obj} (hp:p∈qO fp h):p.1∈fp/\h.get? p.1=some p.2:=by
 obtain⟨b,hb,e⟩:=List.mem_filterMap.mp hp
 cases q:h.get? b with
 | none=>rw[q] at e;cases e
 | some o =>
  rw[q] at e
  have e':(b,o)=p:=Option.some.inj e
  subst e'
  exact⟨hb,q⟩
theorem Inv.pinned {pins:List (Addr × Obj)} {σ:St} {H:Hp} {s:Shared} {fp:List Addr} (I:Inv X pins σ H s) (hf:∀b∈fp,kI X pins H b) (ho:∀b∈fp,∃o,s.heap.get? b=some o/\∀v,o.data≠.cell v):Inv X (pins++qO fp s.heap) σ H s :=
 I.pins_of λp hp=>(List.mem_append.mp hp).elim (λz=>I.pin p (List.mem_append_right _ z)) λz=>by
  obtain⟨hb,e⟩:=xC z
  obtain⟨f0,f1,f2,_⟩:=hf p.1 hb
  obtain⟨o,e',d⟩:=ho p.1 hb
  rw[e] at e';cases e'
  exact⟨e,f0,f1,f2,d⟩
theorem Inv.unpinned {pins pl:List (Addr × Obj)} {σ:St} {H:Hp} {s:Shared} (I:Inv X (pins++pl) σ H s):Inv X pins σ H s:=I.pins_of λp hp=>I.pin p (List.mem_append_right _ (List.mem_append_left _ hp))
theorem zU {iter:Expr} {body:List Stmt} {wi:TI} {g:TG} {tb:TS} {pos:Pos} (hp:PassesOwn (model X.prog X.w) X.A X.env X.xe) (hc:X.calm=true) (hi:PI X tg iter wi) (hg:PG X tg g) (hb:PSs X body tb)
  (hs:∀x,foldedSetIterable iter X.env x=pure x:=by intro _;rfl):PS X (.For tg iter body [] pos) (IP wi g tb):=by
 intro pins s σ H D I h
 refine wpAny_For (thn (hi pins s σ H _ I h) λv s1 h1=>thn h1 λitv s2 h2=>?_) hs
 obtain⟨it,fp,tn,J,H2,e,I2,T,st2,f2,W,⟨m0,w0⟩,turn⟩:=h2
 subst e
 have stat:∀{H':Hp},(∀b∈fp,H' b=none)->∀b∈fp,kI X pins H' b:=λhn b hb=>⟨hn b hb,(f2 b hb).2⟩
 refine codeAny_forLoop_any (λn s'=>∃i σ' H',Inv X pins σ' H' s'/\tn i s'.heap/\(∀b∈fp,H' b=none)/\W i n σ' H') ?_ m0 ⟨0,σ,H2,I2,st2,λb hb=>(f2 b hb).1,w0⟩
 rintro n s3 ⟨i,σ3,H3,I3,st3,fr3,w3⟩
 rcases turn i n σ3 H3 w3 with ⟨stop,qn⟩ | ⟨go,N,hN,step⟩
 ·refine wpAny_passesOwn hp (thn (T.done X rfl rfl rfl hc i pins s3 σ3 H3 X.xe I3 (stat fr3) st3 stop) λr s4 ⟨hr,I4⟩=>?_)
  subst hr
  exact wpAny_execs_nil ⟨σ3,H3,I4,qn⟩
 ·refine wpAny_passesOwn hp (thn (T.item X rfl rfl rfl hc i pins s3 σ3 H3 X.xe I3 (stat fr3) st3 go) λr s4 ⟨u,hr,h4⟩=>?_)
  subst hr
  refine wpAny_passesOwn hp (thn h4 λ_ s5 ⟨x,H5,I5,r5,y5,st5,fr5⟩=>?_)
  have I5':=I5.pinned (stat fr5) (T.obj _ _ st5)
  refine wpAny_passesOwn hp (thn (hg _ s5 σ3 H5 x u _ I5' r5 (step x H5 y5)) λ_ s6 ⟨σ6,H6,I6,q6⟩=>?_)
  refine wpAny_passesOwn hp (thn (hb _ s6 σ6 H6 _ I6 q6) λf s7 q7=>?_)
  have again:∀{σ7:St} {H7:Hp},Inv X (pins++qO fp s5.heap) σ7 H7 s7->N σ7 H7->∃m,m<n/\∃i σ' H',Inv X pins σ' H' s7/\tn i s7.heap/\(∀b∈fp,H' b=none)/\W i m σ' H':=λ{σ7 H7} I7 n7=>by
   obtain⟨m',hm,w7⟩:=hN σ7 H7 n7
   refine⟨m',hm,i+1,σ7,H7,I7.unpinned,T.keep _ _ _ st5 λb hb o e=>(I7.pin (b,o) (List.mem_append_right _ (List.mem_append_right _ (fM hb e)))).1,λb hb=>?_,w7⟩
   obtain⟨o,e,d⟩:=T.obj _ _ st5 b hb
   exact (I7.pin (b,o) (List.mem_append_right _ (List.mem_append_right _ (fM hb e)))).2.1
  cases f with
  | next=>obtain⟨σ7,H7,I7,n7⟩:=q7;exact again I7 n7
  | cont=>obtain⟨σ7,H7,I7,n7⟩:=q7;exact again I7 n7
  | brk=>obtain⟨σ7,H7,I7,q7⟩:=q7;exact⟨σ7,H7,I7.unpinned,q7⟩
  | ret v=>obtain⟨x7,σ7,H7,I7,r7,q7⟩:=q7;exact⟨x7,σ7,H7,I7.unpinned,r7,q7⟩
end
theorem mJ {K:PySem.W.Frag} {a:Addr} {xs:List V} {g:TG} {tb:TS} {D:Ends} {σ:St} {H:Hp} (Pv:Nat->St->Hp->Prop) (h0:Pv 0 σ H) (hl:∀i σ H,i<=xs.length->Pv i σ H->SqL K H a xs)
  (hs:∀i x σ H,xs[i]? = some x->Pv i σ H->g x σ H λσ2 H2=>tb { D with nx:=Pv (i+1),ct:=Pv (i+1),bk:=D.nx } σ2 H2) (hd:∀σ H,Pv xs.length σ H->D.nx σ H) :
  ∃W:Nat->Nat->St->Hp->Prop,(∃m,W 0 m σ H)/\∀i m σ H,W i m σ H ->
   ((Itl K a).stop i H/\D.nx σ H)\/((Itl K a).go i H/\∃N:St->Hp->Prop,(∀σ' H',N σ' H'->∃m',m'<m/\W (i+1) m' σ' H')/\∀x H',(Itl K a).yld i H x H'->g x σ H' λσ2 H2=>tb { D with nx:=N,ct:=N,bk:=D.nx } σ2 H2):=by
 refine⟨λi m σ H=>m=xs.length-i/\i<=xs.length/\Pv i σ H,⟨xs.length,by simp,Nat.zero_le _,h0⟩,?_⟩
 rintro i m σ H ⟨rfl,hi,p⟩
 have q:=hl i σ H hi p
 by_cases hlt:i<xs.length
 ·refine .inr ⟨⟨xs,xs[i],q,by simp[hlt]⟩,Pv (i+1),λσ' H' p'=>⟨xs.length-(i+1),by omega,rfl,hlt,p'⟩,λx H' y=>?_⟩
  obtain⟨e,y⟩:=y
  subst e
  exact hs i x σ _ (y xs q) p
 ·have e:i=xs.length:=by omega
  subst e
  exact .inl ⟨⟨xs,q,Nat.le_refl _⟩,hd σ H p⟩
theorem BJ {K:PySem.W.Frag} {a:Addr} {xs:List V} {g:TG} {tb:TS} {D:Ends} {σ:St} {H:Hp} (Pv:Nat->St->Hp->Prop) (h0:Pv 0 σ H) (hl:∀i σ H,i<=xs.length->Pv i σ H->SqT K H a xs)
  (hs:∀i x σ H,xs[i]? = some x->Pv i σ H->g x σ H λσ2 H2=>tb { D with nx:=Pv (i+1),ct:=Pv (i+1),bk:=D.nx } σ2 H2) (hd:∀σ H,Pv xs.length σ H->D.nx σ H) :
  ∃W:Nat->Nat->St->Hp->Prop,(∃m,W 0 m σ H)/\∀i m σ H,W i m σ H ->
   ((Itt K a).stop i H/\D.nx σ H)\/((Itt K a).go i H/\∃N:St->Hp->Prop,(∀σ' H',N σ' H'->∃m',m'<m/\W (i+1) m' σ' H')/\∀x H',(Itt K a).yld i H x H'->g x σ H' λσ2 H2=>tb { D with nx:=N,ct:=N,bk:=D.nx } σ2 H2):=by
 refine⟨λi m σ H=>m=xs.length-i/\i<=xs.length/\Pv i σ H,⟨xs.length,by simp,Nat.zero_le _,h0⟩,?_⟩
 rintro i m σ H ⟨rfl,hi,p⟩
 have q:=hl i σ H hi p
 by_cases hlt:i<xs.length
 ·refine .inr ⟨⟨xs,xs[i],q,by simp[hlt]⟩,Pv (i+1),λσ' H' p'=>⟨xs.length-(i+1),by omega,rfl,hlt,p'⟩,λx H' y=>?_⟩
  obtain⟨e,y⟩:=y
  subst e
  exact hs i x σ _ (y xs q) p
 ·have e:i=xs.length:=by omega
  subst e
  exact .inl ⟨⟨xs,q,Nat.le_refl _⟩,hd σ H p⟩
end L2
namespace L2
open PySem PySem.Spec PyProof.Rows
noncomputable abbrev R2:=V->V->Hp->VK->Prop
noncomputable def OpR (X:Cx) (f:Value->Value->Sem Value) (r:R2):Prop :=
 ∀(pins:List (Addr × Obj)) (s:Shared) (σ:St) (H:Hp) (x y:V) (v u:Value) (Q:VK),Inv X pins σ H s->RelV x v->RelV y u->r x y H Q ->
  wpAny (model X.prog X.w) X.A (f v u) (EP X pins σ Q) X.xe s
noncomputable def UnR (X:Cx) (f:Value->Sem Value) (r:V->Hp->VK->Prop):Prop :=
 ∀(pins:List (Addr × Obj)) (s:Shared) (σ:St) (H:Hp) (x:V) (v:Value) (Q:VK),Inv X pins σ H s->RelV x v->r x H Q ->
  wpAny (model X.prog X.w) X.A (f v) (EP X pins σ Q) X.xe s
noncomputable def iI (X:Cx) (f:Value) (r:List V->Hp->VK->Prop):Prop :=
 ∀(pins:List (Addr × Obj)) (s:Shared) (σ:St) (H:Hp) (xs:List V) (us:List Value) (Q:VK),Inv X pins σ H s->Vals xs us->r xs H Q ->
  wpAny (model X.prog X.w) X.A (call f us) (EP X pins σ Q) X.xe s
noncomputable def tOp (r:R2) (ta tb:TE):TE:=λσ H Q=>ta σ H λx H1=>tb σ H1 λy H2=>r x y H2 Q
noncomputable def tUn (r:V->Hp->VK->Prop) (ta:TE):TE:=λσ H Q=>ta σ H λx H1=>r x H1 Q
noncomputable def rI (C:Int->Int->Prop) (g:Int->Int->V):R2:=λx y H Q=>∃i j,x = .int i/\y = .int j/\C i j/\Q (g i j) H
noncomputable def rI0 (g:Int->Int->V):R2:=λx y H Q=>∃i j,x = .int i/\y = .int j/\Q (g i j) H
noncomputable def rU (g:Int->V):V->Hp->VK->Prop:=λx H Q=>∃i,x = .int i/\Q (g i) H
section
variable {X:Cx} {a b c:Expr} {ta tb tc:TE} {pos:Pos}
theorem DV (ha:PE X a ta) (hb:PE X b tb) {pins:List (Addr × Obj)} {s:Shared} {σ:St} {H:Hp} {R:V->V->Hp->Prop} (I:Inv X pins σ H s)
  (h:ta σ H λx H1=>tb σ H1 λy H2=>R x y H2) {Q:Value->Shared->Prop} {f:Value->Value->Sem Value}
  (hf:∀v u s2 x y H2,Inv X pins σ H2 s2->RelV x v->RelV y u->R x y H2->wpAny (model X.prog X.w) X.A (f v u) Q X.xe s2) :
  wpAny (model X.prog X.w) X.A (eval a X.env) (λv s₁=>wpAny (model X.prog X.w) X.A (eval b X.env) (λu s₂=>wpAny (model X.prog X.w) X.A (f v u) Q X.xe s₂) X.xe s₁) X.xe s:=by
 refine thn (ha pins s σ H _ I h) λv s1 ⟨x,H1,I1,r1,q1⟩=>?_
 refine thn (hb pins s1 σ H1 _ I1 q1) λu s2 ⟨y,H2,I2,r2,q2⟩=>?_
 exact hf v u s2 x y H2 I2 r1 r2 q2
theorem HC {op:Operator} {r:R2} (ho:OpR X (binaryOp op) r) (ha:PE X a ta) (hb:PE X b tb):PE X (.BinOp a op b pos) (tOp r ta tb):=by
 intro pins s σ H Q I h
 exact wpAny_BinOp (DV ha hb I h λv u s2 x y H2 I2 rx ry q=>ho pins s2 σ H2 x y v u Q I2 rx ry q)
theorem HD {op:UnaryOp} {r:V->Hp->VK->Prop} (ho:UnR X (unaryOp op) r) (ha:PE X a ta):PE X (.UnaryOp op a pos) (tUn r ta):=by
 intro pins s σ H Q I h
 exact UnaryOp_ (thn (ha pins s σ H _ I h) λv s1 ⟨x,H1,I1,r1,q1⟩=>ho pins s1 σ H1 x v Q I1 r1 q1)
theorem opI {f:Value->Value->Sem Value} {C:Int->Int->Prop} {g:Int->Int->Int}
  (rule:∀(i j:Int) (t u:Tok) (s:Shared) (Q:Value->Shared->Prop) (E:Value->Shared->Prop),C i j->Q (.int (g i j) s.toks) { s with toks:=s.toks+1 }->wpAny (model X.prog X.w) X.A (f (.int i t) (.int j u)) Q E s) :
  OpR X f (rI C λi j=>.int (g i j)):=by
 intro pins s σ H x y v u Q I rx ry h
 obtain⟨i,j,rfl,rfl,hc,q⟩:=h
 obtain⟨t,rfl⟩:=rx
 obtain⟨t',rfl⟩:=ry
 exact rule i j t t' s _ _ hc ⟨.int (g i j),H,I.tok _,⟨_,rfl⟩,q⟩
theorem EY {f:Value->Value->Sem Value} {g:Int->Int->Bool}
  (rule:∀(i j:Int) (t u:Tok) (s:Shared) (Q:Value->Shared->Prop) (E:Value->Shared->Prop),Q (.bool (g i j)) s->wpAny (model X.prog X.w) X.A (f (.int i t) (.int j u)) Q E s) :
  OpR X f (rI0 λi j=>.bl (g i j)):=by
 intro pins s σ H x y v u Q I rx ry h
 obtain⟨i,j,rfl,rfl,q⟩:=h
 obtain⟨t,rfl⟩:=rx
 obtain⟨t',rfl⟩:=ry
 exact rule i j t t' s _ _ ⟨.bl (g i j),H,I,rfl,q⟩
noncomputable def CMul (i j:Int):Prop:=(-(2 ^ 64)<i/\i<2 ^ 64)\/(-(2 ^ 64)<j/\j<2 ^ 64)
theorem CMul.ok {i j:Int} (h:CMul i j):IntMulOk i j:=by
 rcases h with ⟨h1,h2⟩ | ⟨h1,h2⟩
 ·exact .of_left (intBits_le_64 h1 h2)
 ·exact .of_right (intBits_le_64 h1 h2)
theorem unI {f:Value->Sem Value} {g:Int->Int}
  (rule:∀(i:Int) (t:Tok) (s:Shared) (Q:Value->Shared->Prop) (E:Value->Shared->Prop),Q (.int (g i) s.toks) { s with toks:=s.toks+1 }->wpAny (model X.prog X.w) X.A (f (.int i t)) Q E s) :
  UnR X f (rU λi=>.int (g i)):=by
 intro pins s σ H x v Q I rx h
 obtain⟨i,rfl,q⟩:=h
 obtain⟨t,rfl⟩:=rx
 exact rule i t s _ _ ⟨.int (g i),H,I.tok _,⟨_,rfl⟩,q⟩
theorem FY:UnR X (unaryOp .USub) (rU λi=>.int (-i)):=unI λ_ _ _ _ _ q=>neg_int q
end
noncomputable def HJ:V->V->Bool
 | .non,.non=>true | .non,.int _=>true | .int _,.non=>true | .non,.bl _=>true | .bl _,.non=>true | .non,.str _=>true | .str _,.non=>true
 | .int _,.int _=>true | .bl _,.bl _=>true | .str _,.str _=>true | .byt _,.byt _=>true
 | .int _,.str _=>true | .str _,.int _=>true | .bl _,.str _=>true | .str _,.bl _=>true
 | _,_=>false
noncomputable def rEq:R2:=λx y H Q=>HJ x y=true/\Q (.bl (decide (x=y))) H
noncomputable def rNe:R2:=λx y H Q=>HJ x y=true/\Q (.bl (!decide (x=y))) H
theorem uS {i j:Int}:decide (V.int i=V.int j)=(i == j):=by
 rw[Bool.eq_iff_iff]
 simp
theorem yM {i j:Bool}:decide (V.bl i=V.bl j)=(i == j):=by
 rw[Bool.eq_iff_iff]
 simp
theorem uT {i j:Str}:decide (V.str i=V.str j)=(i == j):=by
 rw[Bool.eq_iff_iff]
 simp
theorem uR {i j:Array UInt8}:decide (V.byt i=V.byt j)=(i.toList == j.toList):=by
 rw[Bool.eq_iff_iff]
 cases i
 cases j
 simp
section
variable {X:Cx} {a b c:Expr} {ta tb tc:TE} {pos:Pos}
theorem bB {pins:List (Addr × Obj)} {σ:St} {H:Hp} {s:Shared} {Q:VK} {k k':Bool} (I:Inv X pins σ H s) (q:Q (.bl k) H) (e:k=k'):EP X pins σ Q (.bool k') s:=by
 subst e
 exact⟨.bl k,H,I,rfl,q⟩
theorem DK:OpR X (compareOp .Eq) rEq:=by
 intro pins s σ H x y v u Q I rx ry h
 obtain⟨hs,q⟩:=h
 cases x with
 | non =>
  cases rx
  cases y with
  | non=>cases ry;exact PySem.EqNone.eq_none_none (bB I q (by simp))
  | bl j=>cases ry;exact PySem.EqNone.eq_none_bool (bB I q (by simp))
  | int j=>obtain⟨t',rfl⟩:=ry;exact PySem.EqNone.eq_none_int (bB I q (by simp))
  | str j=>obtain⟨t',rfl⟩:=ry;exact PySem.EqNone.eq_none_str (bB I q (by simp))
  | _=>exact absurd (show false=true from hs) Bool.false_ne_true
 | bl i =>
  cases rx
  cases y with
  | non=>cases ry;exact PySem.EqNone.eq_bool_none (bB I q (by simp))
  | bl j=>cases ry;exact eq_bool (bB I q yM)
  | str j=>obtain⟨t',rfl⟩:=ry;exact PySem.EqMixed.eq_bool_str (bB I q (by simp))
  | _=>exact absurd (show false=true from hs) Bool.false_ne_true
 | int i =>
  obtain⟨t,rfl⟩:=rx
  cases y with
  | non=>cases ry;exact PySem.EqNone.eq_int_none (bB I q (by simp))
  | int j=>obtain⟨t',rfl⟩:=ry;exact eq_int (bB I q uS)
  | str j=>obtain⟨t',rfl⟩:=ry;exact PySem.EqMixed.eq_int_str (bB I q (by simp))
  | _=>exact absurd (show false=true from hs) Bool.false_ne_true
 | str i =>
  obtain⟨t,rfl⟩:=rx
  cases y with
  | non=>cases ry;exact PySem.EqNone.eq_str_none (bB I q (by simp))
  | bl j=>cases ry;exact PySem.EqMixed.eq_str_bool (bB I q (by simp))
  | int j=>obtain⟨t',rfl⟩:=ry;exact PySem.EqMixed.eq_str_int (bB I q (by simp))
  | str j=>obtain⟨t',rfl⟩:=ry;exact eq_str (bB I q uT)
  | _=>exact absurd (show false=true from hs) Bool.false_ne_true
 | byt i =>
  obtain⟨t,rfl⟩:=rx
  cases y with
  | byt j=>obtain⟨t',rfl⟩:=ry;exact PySem.W.eq_bytes (bB I q uR)
  | _=>exact absurd (show false=true from hs) Bool.false_ne_true
 | _=>cases y <;> exact absurd (show false=true from hs) Bool.false_ne_true
theorem DL:OpR X (compareOp .NotEq) rNe:=by
 intro pins s σ H x y v u Q I rx ry h
 obtain⟨hs,q⟩:=h
 cases x with
 | non =>
  cases rx
  cases y with
  | non=>cases ry;exact PySem.EqNone.ne_none_none (bB I q (by simp))
  | bl j=>cases ry;exact PySem.EqNone.ne_none_bool (bB I q (by simp))
  | int j=>obtain⟨t',rfl⟩:=ry;exact PySem.EqNone.ne_none_int (bB I q (by simp))
  | str j=>obtain⟨t',rfl⟩:=ry;exact PySem.EqNone.ne_none_str (bB I q (by simp))
  | _=>exact absurd (show false=true from hs) Bool.false_ne_true
 | bl i =>
  cases rx
  cases y with
  | non=>cases ry;exact PySem.EqNone.ne_bool_none (bB I q (by simp))
  | bl j=>cases ry;exact ne_bool (bB I q (congrArg not yM))
  | str j=>obtain⟨t',rfl⟩:=ry;exact PySem.EqMixed.ne_bool_str (bB I q (by simp))
  | _=>exact absurd (show false=true from hs) Bool.false_ne_true
 | int i =>
  obtain⟨t,rfl⟩:=rx
  cases y with
  | non=>cases ry;exact PySem.EqNone.ne_int_none (bB I q (by simp))
  | int j=>obtain⟨t',rfl⟩:=ry;exact ne_int (bB I q (congrArg not uS))
  | str j=>obtain⟨t',rfl⟩:=ry;exact PySem.EqMixed.ne_int_str (bB I q (by simp))
  | _=>exact absurd (show false=true from hs) Bool.false_ne_true
 | str i =>
  obtain⟨t,rfl⟩:=rx
  cases y with
  | non=>cases ry;exact PySem.EqNone.ne_str_none (bB I q (by simp))
  | bl j=>cases ry;exact PySem.EqMixed.ne_str_bool (bB I q (by simp))
  | int j=>obtain⟨t',rfl⟩:=ry;exact PySem.EqMixed.ne_str_int (bB I q (by simp))
  | str j=>obtain⟨t',rfl⟩:=ry;exact ne_str (bB I q (congrArg not uT))
  | _=>exact absurd (show false=true from hs) Bool.false_ne_true
 | byt i =>
  obtain⟨t,rfl⟩:=rx
  cases y with
  | byt j=>obtain⟨t',rfl⟩:=ry;exact PySem.W.ne_bytes (bB I q (congrArg not uR))
  | _=>exact absurd (show false=true from hs) Bool.false_ne_true
 | _=>cases y <;> exact absurd (show false=true from hs) Bool.false_ne_true
theorem HA:OpR X (compareOp .Lt) (rI0 λi j=>.bl (decide (i<j))):=EY λ_ _ _ _ _ _ _ q=>lt_int q
theorem GZ:OpR X (compareOp .Gt) (rI0 λi j=>.bl (decide (j<i))):=EY λ_ _ _ _ _ _ _ q=>gt_int q
theorem GY:OpR X (compareOp .GtE) (rI0 λi j=>.bl (decide (j<=i))):=EY λ_ _ _ _ _ _ _ q=>ge_int q
theorem FA:OpR X (compareOp .Is) (λx y H Q=>y = .non/\Q (.bl (decide (x = .non))) H):=by
 intro pins s σ H x y v u Q I rx ry h
 obtain⟨rfl,q⟩:=h
 cases ry
 refine is_none_gen (bB I q ?_)
 cases x <;> first
  | (cases rx;rfl)
  | (obtain⟨t,rfl⟩:=rx;rfl)
theorem BV:OpR X (compareOp .IsNot) (λx y H Q=>y = .non/\Q (.bl (!decide (x = .non))) H):=by
 intro pins s σ H x y v u Q I rx ry h
 obtain⟨rfl,q⟩:=h
 cases ry
 refine isnot_none_gen (bB I q ?_)
 cases x <;> first
  | (cases rx;rfl)
  | (obtain⟨t,rfl⟩:=rx;rfl)
theorem zD (b:Expr) {op:CmpOp} (h:op≠.In:=by decide) (h2:op≠.NotIn:=by decide):behindInMarks op b=false:=by
 have e1:(op == CmpOp.In)=false:=by cases op <;> first | rfl | exact absurd rfl h
 have e2:(op == CmpOp.NotIn)=false:=by cases op <;> first | rfl | exact absurd rfl h2
 cases b <;> simp[behindInMarks,e1,e2]
theorem BX {op:CmpOp} {r:R2} (ho:OpR X (compareOp op) r) (ha:PE X a ta) (hb:PE X b tb) (hm:behindInMarks op b=false):PE X (.Compare a [op] [b] pos) (tOp r ta tb):=by
 intro pins s σ H Q I h
 exact wpAny_Compare1 (DV ha hb I h λv u s2 x y H2 I2 rx ry q=>ho pins s2 σ H2 x y v u Q I2 rx ry q) hm
noncomputable def HW (t:TE):TT:=λσ H Q=>t σ H λx H'=>∃k,x = .bl k/\Q k H'
theorem CF {op:CmpOp} {r:R2} (ho:OpR X (compareOp op) r) (ha:PE X a ta) (hb:PE X b tb) (hm:behindInMarks op b=false):PT X (.Compare a [op] [b] pos) (HW (tOp r ta tb)):=by
 intro pins s σ H Q I h
 refine wpAny_isTrue_Compare1 (thn (ha pins s σ H _ I h) λv s1 ⟨x,H1,I1,r1,q1⟩=>thn (hb pins s1 σ H1 _ I1 q1) λu s2 ⟨y,H2,I2,r2,q2⟩ =>
  thn (ho pins s2 σ H2 x y v u _ I2 r1 r2 q2) λc s3 ⟨z,H3,I3,r3,k,e,q3⟩=>?_) hm
 subst e
 cases r3
 exact wpAny_truthy_bool ⟨H3,I3,q3⟩
theorem tS:(sizeLine:Nat)<2 ^ 63:=by rw[sizeLine_eq];decide
theorem lJ {x:V} {us:List Value} (r:Vals [x] us):∃u,us=[u]/\RelV x u:=by
 cases r with
 | cons r1 r2=>cases r2;exact⟨_,rfl,r1⟩
theorem AJ {x y:V} {us:List Value} (r:Vals [x,y] us):∃u w',us=[u,w']/\RelV x u/\RelV y w':=by
 cases r with
 | cons r1 r2 =>
  cases r2 with
  | cons r3 r4=>cases r4;exact⟨_,_,rfl,r1,r3⟩
theorem yE:iI X (.builtin "abs") (λxs H Q=>∃i,xs=[.int i]/\Q (.int (if i<0 then -i else i)) H):=by
 intro pins s σ H xs us Q I r h
 obtain⟨i,rfl,q⟩:=h
 obtain⟨u,rfl,t,rfl⟩:=lJ r
 exact call_abs_int λu tk=>⟨.int (if i<0 then -i else i),H,I.tok _,⟨_,rfl⟩,q⟩
theorem wB (hc:X.calm=true):iI X (.builtin "min") (λxs H Q=>∃i j,xs=[.int i,.int j]/\Q (.int (if j<i then j else i)) H):=by
 intro pins s σ H xs us Q I r h
 obtain⟨i,j,rfl,q⟩:=h
 obtain⟨u,w',rfl,⟨t,rfl⟩,⟨t',rfl⟩⟩:=AJ r
 refine min_two_ints (I.ok.hd hc) λh' tk k=>⟨_,H,I.kept k,?_,q⟩
 by_cases hj:j<i
 ·rw[if_pos hj,if_pos hj];exact⟨_,rfl⟩
 ·rw[if_neg hj,if_neg hj];exact⟨_,rfl⟩
end
end L2
namespace L2
open PySem PySem.Spec PyProof.Rows
structure ObjM (h:Heap) (x dx C:Addr) (mA:Str->Option Value):Prop where
 obj:h.get? x=some (PySem.W.instObj C dx)
 ns:h.Ns1 dx mA
 ne:dx≠x
theorem wZ {h:Heap} {dx:Addr} {mA:Str->Option Value} (n:h.Ns1 dx mA):∃od,h.get? dx=some od/\∀name,PySem.W.lookIn name od=some (mA name):=by
 obtain⟨o,es,ep,ho,hd,hk,_,hm⟩:=n
 refine⟨o,ho,λname=>?_⟩
 have e:=hm name
 unfold nsFind findBy at e
 rw[<-Array.find?_toList] at e
 unfold PySem.W.lookIn
 rw[hd]
 dsimp only
 split
 ·rename_i y q
  rw[q] at e
  exact congrArg some e
 ·rename_i q
  rw[q] at e
  have a:es.toList.any (·.refKey)=false:=by
   rw[List.any_eq_false]
   intro y hy
   obtain⟨z,t,hkey⟩:=hk y (Array.mem_toList_iff.mp hy)
   simp[DictEntry.refKey,hkey]
  have a':¬es.toList.any (·.refKey)=true:=by rw[a];exact Bool.false_ne_true
  rw[if_neg a']
  exact congrArg some e
theorem ObjM.look {h:Heap} {x dx C:Addr} {mA:Str->Option Value} (I:ObjM h x dx C mA):∃od,PySem.W.InstAt h x (PySem.W.instObj C dx) C (some od)/\∀name,PySem.W.lookIn name od=some (mA name) :=
 let ⟨od,ho,hl⟩:=wZ I.ns
 ⟨od,⟨I.obj,rfl,rfl,ho⟩,hl⟩
section
variable {prog:Program} {w:World} {A:Around} {E:Value->Shared->Prop} {s:Shared} {K:PySem.W.Frag} {x dx C f:Addr} {mA:Str->Option Value} {name:Str} {v:Value}
end
theorem RelO.some_of {v:V} {o:Option Value} (r:RelO (some v) o):∃u,o=some u/\RelV v u:=by
 cases o with
 | none=>exact (show False from r).elim
 | some u=>exact⟨u,rfl,r⟩
section
variable {P:Program} {w:World} {H H':Hp} {h h':Heap} {a C dx:Addr} {fs fs':List (Str × V)}
theorem BK (hok:HOk P w H h) (e:H a=some (.ins C dx fs)):∃mA,ObjM h a dx C mA/\(∀f,RelO (fs.lookup f) (mA f))/\PySem.Within mA (fs.map (·.1))/\fs.length<=1000/\H dx=some (.own a):=by
 obtain⟨d,z,ne,ob,mA,n,r,q⟩:=(show ObjOk P w H h a (.ins C dx fs) from hok a _ e)
 exact⟨mA,⟨ob,n,ne⟩,r,q,z,d⟩
end
structure Cls (K:PySem.W.Frag) (C:Addr):Prop where
 pg:PySem.W.plainGet K C Str.empty=true
 hd:PySem.W.hasDictIn K C=true
 po:PySem.W.plainOver K C=true
 sa:PySem.W.findIn K (.ref C) "__setattr__" = some (some (.builtin "object.__setattr__"))
theorem Cls.get {K:PySem.W.Frag} {C:Addr} (c:Cls K C) (f:Str):PySem.W.plainGet K C f=true:=c.pg
section
variable {X:Cx} {pins:List (Addr × Obj)} {σ:St} {H:Hp} {s:Shared} {a C dx:Addr} {fs:List (Str × V)} {f:Str} {v:V} {A:Around} {E:Value->Shared->Prop}
end
section
variable {X:Cx} {o e value:Expr} {f:Str} {pos pos' tpos:Pos} {ta tv:TE}
end
section
variable {X:Cx} {pins:List (Addr × Obj)} {σ:St} {H:Hp} {s:Shared} {A:Around} {E:Value->Shared->Prop} {Q:Value->Shared->Prop} {c:Value} {b:Bool}
inductive TyOf (K:PySem.W.Frag) (H:Hp):V->Value->Prop where
 | non:TyOf K H .non (.type "NoneType")
 | bl (x:Bool):TyOf K H (.bl x) (.type "bool")
 | int (i:Int):TyOf K H (.int i) (.type "int")
 | str (x:Str):TyOf K H (.str x) (.type "str")
 | flt (x:UInt64):TyOf K H (.flt x) (.type "float")
 | lst {a:Addr} {xs:List V} (e:H a=some (.lst xs)):TyOf K H (.ref a) (.type "list")
 | frz {a:Addr} {o:Obj} {xs:List V} (e:H a=some (.frz o (.lst xs))):TyOf K H (.ref a) (.type "list")
 | tup {a:Addr} {xs:List V} (e:H a=some (.tup xs)):TyOf K H (.ref a) (.type "tuple")
 | dK {a:Addr} {kvs:List (Key × V)} (e:H a=some (.dK kvs)):TyOf K H (.ref a) (.type "dict")
 | dT {a:Addr} {kvs:List (List Key × V)} (e:H a=some (.dT kvs)):TyOf K H (.ref a) (.type "dict")
 | ins {a C dx:Addr} {fs:List (Str × V)} (e:H a=some (.ins C dx fs)) (cl:Cls K C) (ha:PySem.W.findIn K (.ref C) "__class__" = some (some (.builtin "object.__class__")))
   (hn:PySem.W.specialIn K (.builtin "object.__class__") "__get__" = some (some (.builtin "getset_descriptor.__get__"))) (htk:PySem.W.takesIn K (.builtin "object.__class__")=some true)
   (hm:PySem.W.mroIn K C (.type "object")=some true):TyOf K H (.ref a) (.ref C)
theorem wP {x:V} {u t:Value} (I:Inv X pins σ H s) (rx:RelV x u) (ty:TyOf X.K H x t) (e:PySem.W.kitOne X.K t c=some b) (h:∀tk,Q (.bool b) { s with toks:=tk }) :
  wpAny (model X.prog X.w) A (call (.builtin "isinstance") [u,c]) Q E s:=by
 cases ty with
 | non=>cases (show u=Value.none from rx);exact PySem.W.kia_one PySem.W.kitx_none I.kIn True.intro e (λz=>nomatch z) h
 | bl y=>cases (show u=Value.bool y from rx);exact PySem.W.kia_one PySem.W.kitx_bool I.kIn True.intro e (λz=>nomatch z) h
 | int i=>obtain⟨t,q⟩:=(show ∃t,u=Value.int i t from rx);cases q;exact PySem.W.kia_one PySem.W.kitx_int I.kIn True.intro e (λz=>nomatch z) h
 | str y=>obtain⟨t,q⟩:=(show ∃t,u=Value.str y t from rx);cases q;exact PySem.W.kia_one PySem.W.kitx_str I.kIn True.intro e (λz=>nomatch z) h
 | flt y=>obtain⟨t,q⟩:=(show ∃t,u=Value.float y t from rx);cases q;exact PySem.W.kia_one PySem.W.kitx_float I.kIn True.intro e (λz=>nomatch z) h
 | @lst a xs ea =>
  cases (show u=Value.ref a from rx)
  obtain⟨_,_,n,_,h1⟩:=(show ObjOk X.prog X.w H s.heap a (.lst xs) from I.hok a _ ea)
  exact PySem.W.kia_one PySem.W.kitx_list I.kIn ⟨_,h1,rfl⟩ e (λz=>nomatch z) h
 | @frz a ob xs ea =>
  cases (show u=Value.ref a from rx)
  obtain⟨_,_,_,n,_,h1⟩:=(show ObjOk X.prog X.w H s.heap a (.frz ob (.lst xs)) from I.hok a _ ea)
  exact PySem.W.kia_one PySem.W.kitx_list I.kIn ⟨_,h1,rfl⟩ e (λz=>nomatch z) h
 | @tup a xs ea =>
  cases (show u=Value.ref a from rx)
  obtain⟨_,_,_,p⟩:=(show ObjOk X.prog X.w H s.heap a (.tup xs) from I.hok a _ ea)
  obtain⟨o,h1,h2,_⟩:=p
  exact PySem.W.kia_one PySem.W.kitx_tuple I.kIn ⟨o,h1,h2⟩ e (λz=>nomatch z) h
 | @dK a kvs ea =>
  cases (show u=Value.ref a from rx)
  obtain⟨_,_,vs,_,p⟩:=(show ObjOk X.prog X.w H s.heap a (.dK kvs) from I.hok a _ ea)
  obtain⟨o,es,ep,h1,h2,_⟩:=p
  exact PySem.W.kia_one PySem.W.kitx_dict I.kIn ⟨o,h1,h2.1⟩ e (λz=>nomatch z) h
 | @dT a kvs ea =>
  cases (show u=Value.ref a from rx)
  obtain⟨_,_,xs,_,o,es,ep,h1,h2,_⟩:=(show ObjOk X.prog X.w H s.heap a (.dT kvs) from I.hok a _ ea)
  exact PySem.W.kia_one PySem.W.kitx_dict I.kIn ⟨o,h1,h2.1⟩ e (λz=>nomatch z) h
 | @ins a C dx fs ea cl ha hn htk hm =>
  cases (show u=Value.ref a from rx)
  obtain⟨mA,O,_⟩:=BK I.hok ea
  obtain⟨od,J,_⟩:=O.look
  exact PySem.W.kia_one (PySem.W.kitx_own (cl.get _) cl.hd ha hn htk hm) I.kIn J e (λz=>nomatch z) h
end
end L2
namespace L2
open PySem PySem.Spec PyProof.Rows
structure Room (k:Nat) (A:Around):Prop where
 hd:A.handled=none
 dp:A.depth+3*k+5<recursionLimit
 un:A.units+16*k+200<cLine
theorem Room.mono {j k:Nat} {A:Around} (r:Room k A) (h:j<=k):Room j A:=⟨r.hd,by have:=r.dp;omega,by have:=r.un;omega⟩
theorem Room.deeper {k:Nat} {A:Around} (r:Room (k+1) A) (env:Env):Room k (A.deeper env) :=
 ⟨r.hd,by have:=r.dp;show A.depth+1+3*k+5<_;omega,by have:=r.un;show A.units+3+16*k+200<_;omega⟩
theorem Room.depth {k:Nat} {A:Around} (r:Room k A):A.depth<recursionLimit:=by have:=r.dp;omega
theorem Room.units {k:Nat} {A:Around} (r:Room k A):A.units+64<cLine:=by have:=r.un;omega
noncomputable def IS:TA:=λ_ H Q=>Q [] H
noncomputable def HP (ta:TE) (tr:TA):TA:=λσ H Q=>ta σ H λx H1=>tr σ H1 λxs H2=>Q (x::xs) H2
section
variable {X:Cx} {e:Expr} {es:List Expr} {te:TE} {t:TA} {pos:Pos}
theorem eU:PA X [] IS:=λ_ _ _ _ H Q I h=>Calls.spliced_nil ⟨[],H,I,.nil,h⟩
theorem cC (ha:PE X e te) (hr:PA X es t) (hs:starEach (e::es) X.env=(false,eval e X.env)::starEach es X.env:=by rfl):PA X (e::es) (HP te t):=by
 intro pos pins s σ H Q I h
 rw[hs]
 show wpAny _ _ (spliced ((false,eval e X.env)::backTo pos (starEach es X.env))) _ _ s
 refine Calls.spliced_cons (thn (ha pins s σ H _ I h) λu s1 ⟨x,H1,I1,r1,q1⟩=>?_)
 exact thn (hr pos pins s1 σ H1 _ I1 q1) λus s2 ⟨xs,H2,I2,r2,q2⟩=>⟨x::xs,H2,I2,.cons r1 r2,q2⟩
noncomputable def IX (t:TA):TE:=λσ H Q=>t σ H λxs H1=>xs.length<=sizeLine/\∀p,H1 p=none->Q (.ref p) (upd H1 p (.tup xs))
noncomputable def IR (t:TA):TE:=λσ H Q=>t σ H λxs H1=>xs.length<=sizeLine/\∀p,H1 p=none->Q (.ref p) (upd H1 p (.lst xs))
theorem zQ {x1} (h:PA X es t):PE X (.Tuple es x1 pos) (IX t):=by
 intro pins s σ H Q I hq
 refine wpAny_Tuple_spliced (thn (h pos pins s σ H _ I hq) λus s1 ⟨xs,H1,I1,r,z,q⟩=>⟨by rw[<-r.length];exact z,?_⟩)
 have hf:H1 s1.heap.objs.size=none:=I1.hok.fresh (Nat.le_refl _)
 refine⟨.ref s1.heap.objs.size,upd H1 s1.heap.objs.size (.tup xs),I1.laid (t':=s1.toks) (λb u e=>Heap.get?_push_of_some _ e) (Nat.le_refl _) ?_,rfl,q _ hf⟩
 exact⟨z,us,r,⟨_,Heap.get?_push_size _ rfl,rfl,_,rfl⟩⟩
theorem mU (h:PA X es t):PE X (.List es pos) (IR t):=by
 intro pins s σ H Q I hq
 refine wpAny_List_spliced (thn (h pos pins s σ H _ I hq) λus s1 ⟨xs,H1,I1,r,z,q⟩=>⟨by rw[<-r.length];exact z,?_⟩)
 have hf:H1 s1.heap.objs.size=none:=I1.hok.fresh (Nat.le_refl _)
 refine⟨.ref s1.heap.objs.size,upd H1 s1.heap.objs.size (.lst xs),I1.laid (t':=s1.toks) (λb u e=>Heap.get?_push_of_some _ e) (Nat.le_refl _) ?_,rfl,q _ hf⟩
 exact⟨z,us,0,r,Heap.get?_push_size _ rfl⟩
end
noncomputable abbrev Sp:=List V->Hp->VK->XK->Prop
noncomputable abbrev CXT:=List Env->Hp->Shared->XK->Value->Shared->Prop
structure Env0 (P:Program) (w:World) (K:PySem.W.Frag) (mg:Str->Option Value) (base:Heap) (A:Around) (outer:List Env) (s:Shared) (H:Hp):Prop where
 frames:A.frames=some outer
 mod:Mod K mg base
 bs:∀b o,base.get? b=some o->s.heap.get? b=some o/\H b=none
 bsz:base.objs.size<=s.heap.objs.size
 funs:s.heap.FunFrames base outer
 frf:∀b∈frs outer,H b=none
 hok:HOk P w H s.heap
 bare:AllBare s.gens
noncomputable def CE (outer:List Env) (P:Program) (w:World) (H:Hp) (s:Shared) (Q:VK) (u:Value) (s':Shared):Prop :=
 ∃v H',s'.os=s.os/\AllBare s'.gens/\Un (frs outer) [] H H' s.heap s'.heap/\HOk P w H' s'.heap/\RelV v u/\Q v H'
noncomputable def CR (CX:CXT) (outer:List Env) (P:Program) (w:World) (H:Hp) (s:Shared) (Q:VK) (E:XK) (r:Result) (s':Shared):Prop :=
 match r with
 | .ok (.ret u)=>CE outer P w H s Q u s'
 | .ok _=>False
 | .error e=>CX outer H s E e s'
structure FnOk (P:Program) (w:World) (K:PySem.W.Frag) (mg:Str->Option Value) (base:Heap) (CX:CXT) (k:Nat) (f:Addr) (fd:FuncData) (ps:List Str) (sp:Sp):Prop where
 len:∀vs H Q E,sp vs H Q E->vs.length=ps.length
 run:∀(A:Around) (outer:List Env) (s:Shared) (H:Hp) (args:Args) (us:List Value) (vs:List V) (Q:VK) (E:XK),Room k A->Env0 P w K mg base A outer s H->BindsTo s fd args (ps.zip us)->Vals vs us->sp vs H Q E ->
  codeAny (model P w) A (.call (.ref f) args) (CR CX outer P w H s Q E) s
theorem FnOk.mono {P:Program} {w:World} {K:PySem.W.Frag} {mg:Str->Option Value} {base:Heap} {CX:CXT} {j k:Nat} {f:Addr} {fd:FuncData} {ps:List Str} {sp:Sp} (F:FnOk P w K mg base CX j f fd ps sp) (h:j<=k) :
  FnOk P w K mg base CX k f fd ps sp:=⟨F.len,λA outer s H args us vs Q E hr=>F.run A outer s H args us vs Q E (hr.mono h)⟩
section
variable {X:Cx} {pins:List (Addr × Obj)} {σ:St} {H:Hp} {s s':Shared}
theorem Inv.env0 (I:Inv X pins σ H s):Env0 X.prog X.w X.K X.mg X.base X.A X.stack s H :=
 ⟨I.ok.frames,I.ok.mod,I.bs,Nat.le_trans I.ok.bsz I.sz,I.stack,I.stkFree,I.hok,I.bare⟩
theorem Inv.after {Q:VK} {u:Value} (I:Inv X pins σ H s) (h:CE X.stack X.prog X.w H s Q u s'):EP X pins σ Q u s':=by
 obtain⟨v,H',os,bare,un,hok,r,q⟩:=h
 obtain⟨hh,g,d,t,os'⟩:=s'
 obtain rfl:os'=s.os:=os
 exact⟨v,H',I.call (h':=hh) (g':=g) (d':=d) (t':=t) (ch:=[]) un hok bare (λb z=>absurd z (by simp)),r,q⟩
end
noncomputable def HN (sp:Sp) (dvs:List V) (E:XK) (t:TA):TE:=λσ H Q=>t σ H λvs H1=>sp (vs++dvs) H1 Q E
noncomputable def Binds (K:PySem.W.Frag) (fd:FuncData) (ps:List Str) (ds:List Value):Prop :=
 ∀(s:Shared) (us:List Value),K.In s.heap->(us++ds).length=ps.length->BindsTo s fd ⟨us,[]⟩ (ps.zip (us++ds))
theorem Binds.all {K:PySem.W.Frag} {fd:FuncData} {ps:List Str} (h:∀us:List Value,us.length=ps.length->bindArgs fd ⟨us,[]⟩=pure (ps.zip us)):Binds K fd ps []:=λs us _ hl=>by
 rw[List.append_nil] at hl ⊢
 exact .of_eq (h us hl)
noncomputable def tE (CX:CXT) (X:Cx) (E:XK):Prop:=∀(pins:List (Addr × Obj)) (σ:St) (H:Hp) (s:Shared) (e:Value) (s':Shared),Inv X pins σ H s->CX X.stack H s E e s'->X.xe e s'
section
variable {X:Cx} {CX:CXT} {k:Nat} {f C:Addr} {fd:FuncData} {ps:List Str} {sp:Sp} {dvs:List V} {ds:List Value} {E:XK} {x m:Str} {p pos apos:Pos} {e o:Expr} {es:List Expr} {ta:TE} {t:TA}
theorem FP {pins:List (Addr × Obj)} {σ:St} {H:Hp} {s:Shared} {Q:VK} {us:List Value} {vs:List V} (F:FnOk X.prog X.w X.K X.mg X.base CX k f fd ps sp) (hr:Room k X.A) (hb:Binds X.K fd ps ds) (hd:Vals dvs ds) (hx:tE CX X E)
  (I:Inv X pins σ H s) (r:Vals vs us) (h:sp (vs++dvs) H Q E):wpAny (model X.prog X.w) X.A (call (.ref f) us) (EP X pins σ Q) X.xe s:=by
 have r2:Vals (vs++dvs) (us++ds):=r.append hd
 have hl:(us++ds).length=ps.length:=by rw[<-r2.length];exact F.len _ _ _ _ h
 refine wpAny_call (codeAny_mono (F.run X.A X.stack s H ⟨us,[]⟩ (us++ds) (vs++dvs) Q E hr I.env0 (hb s us I.kIn hl) r2 h) λr s' hq=>?_)
 cases r with
 | error e=>exact hx pins σ H s e s' I hq
 | ok fl =>
  cases fl with
  | ret u=>exact I.after hq
  | next=>exact False.elim hq
  | brk=>exact False.elim hq
  | cont=>exact False.elim hq
theorem qN (F:FnOk X.prog X.w X.K X.mg X.base CX k f fd ps sp) (hr:Room k X.A) (hg:Gl X x) (hm:X.mg x=some (.ref f)) (hk:PySem.W.keepIn X.K (.ref f)=true) (hb:Binds X.K fd ps ds) (hd:Vals dvs ds) (hx:tE CX X E)
  (ha:PA X (e::es) t) (hdb:(x == ("__debug__":Str))=false:=by decide) (he:starEach (e::es) X.env=(false,eval e X.env)::starEach es X.env:=by rfl) (hpl:(backTo pos (starEach es X.env)).any (·.1)=false:=by rfl) :
  PE X (.Call (.Name x p) (e::es) [] pos) (HN sp dvs E t):=by
 intro pins s σ H Q I h
 refine wpAny_Call_Name_kw (BN I hg hm ?_ hdb)
 refine PySem.W.callWith_K (h₀:=X.base) I.ok.mod.kin hk (thn (ha pos pins s σ H _ I h) λus s1 ⟨vs,H1,I1,r,q⟩=>⟨I1.kIn,?_⟩) he hpl
 exact FP F hr hb hd hx I1 r q
end
section
variable {X:Cx} {CX:CXT} {k:Nat} {f C:Addr} {fd:FuncData} {ps ks:List Str} {sp:Sp} {E:XK} {x m:Str} {p pos apos kpos:Pos} {e o:Expr} {es:List Expr} {kws:List Keyword} {te ta:TE} {t tk:TA} {nm:Option Str}
variable {g:List Value->List Value->List Value} {gV:List V->List V->List V}
end
structure FnScope (N P:List Str) (sc:Scope):Prop where
 kind:sc.kind = .function
 co:sc.isCoroutine=false
 gen:sc.isGenerator=false
 nd:N.Nodup
 pre:N.take P.length=P
 par:∀x∈P,sc.names.lookup x=some .local\/sc.names.lookup x=some .cell
 nofree:∀y∈sc.names,y.2≠.free
theorem oM {kindOf:Str->Option NameKind} {x:Str}:∀{binds:List (Str × Value)} {m:Str->Option Value},(∀v,(x,v) ∉ binds)->bindL kindOf binds m x=m x
 | [],_,_=>rfl
 | (n,v)::r,m,h=>by
  unfold bindL
  rw[oM λw hw=>h w (List.mem_cons_of_mem _ hw)]
  split
  ·have:x≠n:=by rintro rfl;exact h v List.mem_cons_self
   simp[this]
  ·rfl
theorem oJ {kindOf:Str->Option NameKind} {x:Str}:∀{binds:List (Str × Value)} {m:Str->Option Value},(∀v,(x,v) ∉ binds)->bindC kindOf binds m x=m x
 | [],_,_=>rfl
 | (n,v)::r,m,h=>by
  unfold bindC
  rw[oJ λw hw=>h w (List.mem_cons_of_mem _ hw)]
  split
  ·rfl
  ·have:x≠n:=by rintro rfl;exact h v List.mem_cons_self
   simp[this]
theorem oK {kindOf:Str->Option NameKind} {x:Str} {v:Value}:∀{P:List Str} {vs:List Value} {i:Nat} {m:Str->Option Value},P.Nodup->P[i]? = some x->vs[i]? = some v->kindOf x=some .local ->
  bindL kindOf (P.zip vs) m x=some v
 | [],_,_,_,_,h,_,_=>by simp at h
 | _::_,[],_,_,_,_,h,_=>by simp at h
 | p::P,w::vs,0,m,nd,h1,h2,hk=>by
  simp at h1 h2;subst h1;subst h2
  show bindL kindOf ((p,w)::P.zip vs) m p=_
  unfold bindL
  rw[oM λv hv=>(List.nodup_cons.mp nd).1 (List.of_mem_zip hv).1,if_pos hk]
  simp
 | p::P,w::vs,i+1,m,nd,h1,h2,hk=>by
  show bindL kindOf ((p,w)::P.zip vs) m x=_
  unfold bindL
  exact oK (i:=i) (List.nodup_cons.mp nd).2 (by simpa using h1) (by simpa using h2) hk
theorem oI {kindOf:Str->Option NameKind} {x:Str} {v:Value}:∀{P:List Str} {vs:List Value} {i:Nat} {m:Str->Option Value},P.Nodup->P[i]? = some x->vs[i]? = some v->kindOf x≠some .local ->
  bindC kindOf (P.zip vs) m x=some v
 | [],_,_,_,_,h,_,_=>by simp at h
 | _::_,[],_,_,_,_,h,_=>by simp at h
 | p::P,w::vs,0,m,nd,h1,h2,hk=>by
  simp at h1 h2;subst h1;subst h2
  show bindC kindOf ((p,w)::P.zip vs) m p=_
  unfold bindC
  rw[oJ λv hv=>(List.nodup_cons.mp nd).1 (List.of_mem_zip hv).1,if_neg hk]
  simp
 | p::P,w::vs,i+1,m,nd,h1,h2,hk=>by
  show bindC kindOf ((p,w)::P.zip vs) m x=_
  unfold bindC
  exact oI (i:=i) (List.nodup_cons.mp nd).2 (by simpa using h1) (by simpa using h2) hk
noncomputable def gY (N:List Str) (vs:List V):St:=vs.map some++List.replicate (N.length-vs.length) none
noncomputable def bV (CX:CXT) (P:Program) (w:World) (K:PySem.W.Frag) (mg:Str->Option Value) (base:Heap) (N:List Str) (qual:Str) (scope:Scope) (f:Addr) (cd:Value) (A:Around) (outer:List Env) (s:Shared) (H:Hp) (E:XK):Cx where
 prog:=P
 w:=w
 K:=K
 mg:=mg
 base:=base
 A:=A.deeper (envOfC qual scope s.heap.objs.size f cd)
 N:=N
 s₀:=s
 H₀:=H
 env:=envOfC qual scope s.heap.objs.size f cd
 outer:=outer
 stack:=envOfC qual scope s.heap.objs.size f cd::outer
 ex:=[]
 calm:=true
 fn:=λ_=>true
 pn:=[]
 xe:=λe s'=>wpAny (model P w) (A.deeper (envOfC qual scope s.heap.objs.size f cd)) (leaving (envOfC qual scope s.heap.objs.size f cd) e) (λ_ s''=>CX outer H s E e s'') (λe' s''=>CX outer H s E e' s'') s'
theorem rH {sc:Scope} {n:Nat} {x:Str} (h:sc.names.lookup x=some .cell):∃c,(cellsFrom n sc.names []).lookup x=some c:=by
 have q:=PySem.W.cellsFrom_some sc.names n [] (.inl h)
 exact Option.isSome_iff_exists.mp q
theorem wO {CX:CXT} {P:Program} {w:World} {K:PySem.W.Frag} {mg:Str->Option Value} {base:Heap} {N ps:List Str} {qual:Str} {scope:Scope} {f:Addr} {cd:Value} {A:Around} {outer:List Env} {s s1:Shared} {H:Hp} {E:XK} {us:List Value} {vs:List V}
  (S:FnScope N ps scope) (hd:A.handled=none) (e0:Env0 P w K mg base A outer s H) (hl:vs.length=ps.length) (r:Vals vs us)
  (x:InCallC s s.heap.objs.size (bindL (envOfC qual scope s.heap.objs.size f cd).kindOf (ps.zip us) λ_=>none) (cellsFrom (s.heap.objs.size+1) scope.names []) (bindC (envOfC qual scope s.heap.objs.size f cd).kindOf (ps.zip us) λ_=>none) s1) :
  Inv (bV CX P w K mg base N qual scope f cd A outer s H E) [] (gY N vs) H s1:=by
 have hpl:ps.length<=N.length:=by have:=congrArg List.length S.pre;rw[List.length_take] at this;omega
 obtain⟨h1,tk,rfl,hk⟩:=x.done
 have noA:∀b:Addr,b ∉ (bV CX P w K mg base N qual scope f cd A outer s H E).ex:=λb z=>absurd (show b∈([]:List Addr) from z) (by simp)
 refine⟨⟨e0.mod,S.kind,rfl,rfl,Nat.le_refl _,λy z c h1 h2=>?_,λy hy=>?_,λy c _ h=>?_,λ_=>hd,Around.frames_deeper e0.frames,.inr ⟨rfl,rfl⟩,λb z=>absurd z (noA b),e0.bs,e0.bsz,λb _ _=>noA b,λb z=>absurd z (noA b),e0.funs,e0.frf⟩,
  rfl,e0.bare,Un.kept hk,⟨_,x.toInCall.ns,λi y v h1 h2 h3=>?_⟩,λy c h=>⟨_,x.cell y c h⟩,e0.hok.fresh (Nat.le_refl _),λy c h=>?_,λp hp=>absurd (show p∈([]:List (Addr × Obj)) from hp) (by simp),e0.hok.kept hk,?_⟩
 ·exact name_of_addr x.apart (PySem.mem_of_lookup h1) (PySem.mem_of_lookup h2)
 ·have hy:scope.names.lookup y=some .cell\/scope.names.lookup y=some .free:=hy
  rcases hy with hy | hy
  ·exact rH hy
  ·exact absurd rfl (S.nofree _ (PySem.mem_of_lookup hy))
 ·exact Nat.le_of_lt (x.above y c (PySem.mem_of_lookup h))
 ·have hi:i<vs.length:=by
   unfold gY at h2
   by_cases hi:i<vs.length
   ·exact hi
   ·rw[List.getElem?_append_right (by simpa using hi)] at h2
    rw[List.getElem?_replicate] at h2
    split at h2 <;> cases h2
  have ha:vs[i]? = some v:=by
   unfold gY at h2
   rw[List.getElem?_append_left (by simpa using hi),List.getElem?_map] at h2
   cases e:vs[i]? with
   | none=>rw[e] at h2;cases h2
   | some a=>rw[e] at h2;cases h2;rfl
  obtain⟨u,hu,rv⟩:=r.get ha
  have hp:ps[i]? = some y:=by
   rw[<-S.pre,List.getElem?_take_of_lt (by omega)];exact h1
  have ndP:ps.Nodup:=by rw[<-S.pre];exact S.nd.sublist (List.take_sublist _ _)
  refine⟨u,rv,?_⟩
  rcases S.par y (List.mem_of_getElem? hp) with k | k
  ·exact .inl ⟨k,oK ndP hp hu k⟩
  ·obtain⟨c,e⟩:=rH (n:=s.heap.objs.size+1) k
   refine .inr ⟨.inl k,c,e,?_⟩
   have q:=x.cell y c e
   rw[oI ndP hp hu (by show scope.names.lookup y≠_;rw[k];decide)] at q
   exact q
 ·exact e0.hok.fresh (Nat.le_of_lt (x.above y c (PySem.mem_of_lookup h)))
 ·unfold gY
  show _=N.length
  rw[List.length_append,List.length_map,List.length_replicate]
  omega
theorem GH {CX:CXT} {P:Program} {w:World} {K:PySem.W.Frag} {mg:Str->Option Value} {base:Heap} {k:Nat} {f:Addr} {name qual:Str} {params:Arguments} {body:List Stmt} {scope:Scope} {dV kV doc pm cdv ct oc:Value} {an od:Option Addr}
  {osl:Array (Option Value)} {N ps:List Str} {sp:Sp} (lk:K.lookup f=some ⟨oc,od,.func (PySem.W.fnOf name qual params body scope dV kV doc pm an cdv ct),osl⟩) (hcd:PySem.W.codeIn K cdv qual=true) (S:FnScope N ps scope)
  (len:∀vs H Q E,sp vs H Q E->vs.length=ps.length)
  (hbody:∀(A:Around) (outer:List Env) (s:Shared) (H:Hp) (vs:List V) (Q:VK) (E:XK),Room k (A.deeper (envOfC qual scope s.heap.objs.size f cdv))->sp vs H Q E ->
   ∃t,PSs (bV CX P w K mg base N qual scope f cdv A outer s H E) body t/\t { nx:=λ_ H'=>Q .non H',rt:=Q } (gY N vs) H) :
  FnOk P w K mg base CX (k+1) f (PySem.W.fnOf name qual params body scope dV kV doc pm an cdv ct) ps sp:=by
 refine⟨len,λA outer s H args us vs Q E hr e0 hb r hsp=>?_⟩
 have hl:=len _ _ _ _ hsp
 have KX:K.In s.heap:=e0.mod.kin.keeps λb o e=>(e0.bs b o e).1
 have lim:s.heap.NoLimit:=e0.mod.nolimit.keeps λb o e=>(e0.bs b o e).1
 have hkind:∀y∈ps.zip us,scope.names.lookup y.1=some .local\/(scope.names.lookup y.1=some .cell/\((cellsFrom (s.heap.objs.size+1) scope.names []).lookup y.1).isSome=true):=λ⟨n,v⟩ hy=>by
  rcases S.par n (List.of_mem_zip hy).1 with q | q
  ·exact .inl q
  ·exact .inr ⟨q,PySem.W.cellsFrom_some _ _ _ (.inl q)⟩
 refine codeAny_call_function hr.depth (KX _ _ lk) rfl S.co S.gen rfl (PySem.W.codeRec_of KX hcd) (hb _ _ _ _ ?_)
 refine wpAny_newFunctionEnv_cells S.kind hkind λenv he s1 x=>?_
 subst he
 refine⟨lim.keeps x.toInCall.keep,codeAny_func ?_⟩
 obtain⟨t,ht,hq⟩:=hbody A outer s H vs Q E (hr.deeper _) hsp
 have I:Inv (bV CX P w K mg base N qual scope f cdv A outer s H E) [] (gY N vs) H s1:=wO S hr.hd e0 hl r x
 refine wpAny_mono (ht [] s1 (gY N vs) H _ I hq) (λfl s' hs=>?_) λe s' hs=>hs
 have fin:∀{σ':St} {H':Hp} {v:V} {u:Value},Inv (bV CX P w K mg base N qual scope f cdv A outer s H E) [] σ' H' s'->RelV v u->Q v H'->CE outer P w H s Q u s' :=
  λ{σ' H' v u} J rv q=>⟨v,H',J.os,J.bare,J.base,J.hok,rv,q⟩
 cases fl with
 | ret u =>
  obtain⟨v,σ',H',J,rv,q⟩:=hs
  exact fin J rv q
 | next =>
  obtain⟨σ',H',J,q⟩:=hs
  exact fin (v:=V.non) (u:=Value.none) J rfl q
 | brk =>
  obtain⟨_,_,_,q⟩:=hs
  exact False.elim q
 | cont =>
  obtain⟨_,_,_,q⟩:=hs
  exact False.elim q
end L2
namespace L2
open PySem PySem.Spec PyProof.Rows
section
variable {X:Cx} {x:Str} {p pos:Pos} {e:Expr} {es:List Expr} {t:TA} {id T:String} {r:List V->Hp->VK->Prop}
noncomputable def tCB (r:List V->Hp->VK->Prop) (t:TA):TE:=λσ H Q=>t σ H λvs H1=>r vs H1 Q
theorem jX (hc:iI X (.builtin id) r) (hg:Gl X x) (hm:X.mg x=none) (hv:bootBuiltins x=some (.builtin id)) (ha:PA X (e::es) t) (hn:x≠"__name__":=by decide) (hdb:(x == ("__debug__":Str))=false:=by decide)
  (he:starEach (e::es) X.env=(false,eval e X.env)::starEach es X.env:=by rfl) (hpl:(backTo pos (starEach es X.env)).any (·.1)=false:=by rfl):PE X (.Call (.Name x p) (e::es) [] pos) (tCB r t):=by
 intro pins s σ H Q I h
 refine wpAny_Call_Name_kw (gP I hg hm hv ?_ hn hdb)
 exact PyProof.Rows.callWith_builtin1 (thn (ha pos pins s σ H _ I h) λus s1 ⟨vs,H1,I1,r1,q1⟩=>hc pins s1 σ H1 vs us Q I1 r1 q1) he hpl
theorem oZ (hc:iI X (.type T) r) (hg:Gl X x) (hm:X.mg x=none) (hv:bootBuiltins x=some (.type T)) (ha:PA X (e::es) t) (hn:x≠"__name__":=by decide) (hdb:(x == ("__debug__":Str))=false:=by decide)
  (he:starEach (e::es) X.env=(false,eval e X.env)::starEach es X.env:=by rfl) (hpl:(backTo pos (starEach es X.env)).any (·.1)=false:=by rfl):PE X (.Call (.Name x p) (e::es) [] pos) (tCB r t):=by
 intro pins s σ H Q I h
 refine wpAny_Call_Name_kw (gP I hg hm hv ?_ hn hdb)
 exact PyProof.Rows.callWith_type1 (thn (ha pos pins s σ H _ I h) λus s1 ⟨vs,H1,I1,r1,q1⟩=>hc pins s1 σ H1 vs us Q I1 r1 q1) he hpl
end
end L2
namespace HT
open PySem PyProof.Rows
noncomputable def lexLt:List Int->List Int->Bool
 | [],[]=>false
 | [],_::_=>true
 | _::_,[]=>false
 | x::xs,y::ys=>if x=y then lexLt xs ys else decide (x<y)
theorem lexLt_cons (x y:Int) (xs ys:List Int):lexLt (x::xs) (y::ys)=if x=y then lexLt xs ys else decide (x<y):=rfl
theorem nT:lexLt [] []=false:=rfl
theorem mO (y:Int) (ys:List Int):lexLt [] (y::ys)=true:=rfl
theorem mN (x:Int) (xs:List Int):lexLt (x::xs) []=false:=rfl
theorem yR (A:Around) (s:Shared) (a:Int) (t:Tok) (c:Int) (u:Tok):∃e,SeqAt.EqAt A s (.int a t) (.int c u) e/\(e=true↔a=c) :=
 ⟨(a == c),SeqAt.EqAt.int_int a t c u,by simp⟩
theorem AC (A:Around) (s:Shared) (a:Int) (t:Tok) (c:Int) (u:Tok) (prog:Program) (w:World) (E:Value->Shared->Prop) (Q:Value->Shared->Prop) (h:Q (.bool (decide (a<c))) s) :
  wpAny (model prog w) A (richCompare .Lt (.int a t) (.int c u)) Q E s :=
 (PyProof.Rows.lt_int h:wpAny (model prog w) A (compareOp .Lt (.int a t) (.int c u)) Q E s)
section
open PySem.SeqAt
open PySem.AutoSeq1 (wpAny_loadPart')
open PySem.MeetsSeq PySem.MeetsSeq2 PySem.MeetsSeq3
theorem oF (l b:Addr) (items items2:Array Value) (n n2:Nat) (dd dd2:Option Addr) (sl sl2:Array (Option Value)) (ns ms:List Int) (hi:IntsAre items.toList ns) (hj:IntsAre items2.toList ms) :
  Meets (Builtin.«tuple.__lt__» ⟨[.ref l,.ref b],[]⟩)
   (λ_ R s=>s.heap.get? l=some { cls:=.type "tuple",dict:=dd,data:=.seq items n,slots:=sl }/\s.heap.get? b=some { cls:=.type "tuple",dict:=dd2,data:=.seq items2 n2,slots:=sl2 } /\
    R (.ok (.ret (.bool (lexLt ns ms)))) s) :=
 .of_wp λprog w A R s h=>by
  obtain⟨hp,g,d,tk,os⟩:=s;obtain⟨hl,hb,h⟩:=h
  have f2:=AutoSeq1.sub_tuple_tuple
  have z1:items.size=ns.length:=by rw[<-hi.length];simp
  have z2:items2.size=ms.length:=by rw[<-hj.length];simp
  wp_walk using wpAny_loadPart' hl,wpAny_loadPart' hb,wpAny_forIn_list _ (λrest b s'=>b.1=none/\s'=⟨hp,g,d,tk,os⟩/\∃(vs ws:List Value) (ns' ms':List Int),rest=vs.zip ws /\
   IntsAre vs ns'/\IntsAre ws ms'/\ns'.length+items2.size=ms'.length+items.size/\R (.ok (.ret (.bool (lexLt ns' ms')))) ⟨hp,g,d,tk,os⟩) _
  case turn =>
   rintro⟨y,x⟩ rest b s' ⟨hb',rfl,vs,ws,ns',ms',hz,hvi,hwi,hlen,hR⟩
   cases hvi with
   | nil=>rw[List.zip_nil_left] at hz;cases hz
   | cons a t hvi' =>
    cases hwi with
    | nil=>rw[List.zip_nil_right] at hz;cases hz
    | cons c u hwi' =>
     rw[List.zip_cons_cons] at hz
     injection hz with hyx hrest
     injection hyx with hy hx
     subst hy hx
     rw[lexLt_cons] at hR
     simp only[List.length_cons] at hlen
     obtain⟨e,he,hiff⟩:=yR A.in1 ⟨hp,g,d,tk,os⟩ a t c u
     refine wpAny_bind (he prog w _ _ ?_)
     cases e with
     | true =>
      rw[if_pos (hiff.mp rfl)] at hR
      wp_walk
      exact⟨rfl,rfl,_,_,_,_,hrest,hvi',hwi',by omega,hR⟩
     | false =>
      rw[if_neg (λq=>absurd (hiff.mpr q) Bool.false_ne_true)] at hR
      have hri:=AC A.in1 ⟨hp,g,d,tk,os⟩ a t c u prog w
      wp_walk using hri
      exact⟨_,rfl,by simpa using hR⟩
  case fin =>
   rintro⟨b1,b2⟩ s' ⟨hb',rfl,vs,ws,ns',ms',hz,hvi,hwi,hlen,hR⟩
   simp only at hb'
   subst hb'
   have hv:lexLt ns' ms'=decide (items.size<items2.size):=by
    cases hvi with
    | nil =>
     cases hwi with
     | nil =>
      simp only[List.length_nil] at hlen
      rw[nT]
      exact (decide_eq_false (by omega)).symm
     | cons c u hw =>
      simp only[List.length_nil,List.length_cons] at hlen
      rw[mO]
      exact (decide_eq_true (by omega)).symm
    | cons a t hv =>
     cases hwi with
     | nil =>
      simp only[List.length_nil,List.length_cons] at hlen
      rw[mN]
      exact (decide_eq_false (by omega)).symm
     | cons c u hw =>
      rw[List.zip_cons_cons] at hz
      cases hz
   rw[hv] at hR
   wp_walk
   exact⟨_,rfl,by simpa [Builtin.Tuple.tupleCompareSizes] using hR⟩
  case h =>
   exact⟨rfl,rfl,items.toList,items2.toList,ns,ms,rfl,hi,hj,by omega,h⟩
end
section
variable {prog:Program} {w:World} {A:Around} {E:Value->Shared->Prop} {s:Shared}
theorem lt_tupInts {l b:Addr} {items items2:Array Value} {ns ms:List Int} {Q:Value->Shared->Prop} (hl:IsTup s.heap l items) (hb:IsTup s.heap b items2) (hi:IntsAre items.toList ns) (hj:IntsAre items2.toList ms)
  (hu:A.units<cLine) (h:Q (.bool (lexLt ns ms)) s):wpAny (model prog w) A (compareOp .Lt (.ref l) (.ref b)) Q E s:=by
 obtain⟨⟨cls,dd,data,sl⟩,ho,hc,n,hd⟩:=id hl
 obtain⟨⟨cls2,dd2,data2,sl2⟩,ho2,hc2,n2,hd2⟩:=id hb
 simp only at hc hd hc2 hd2
 subst hc hd hc2 hd2
 exact richCompare_meets_room (op:=.Lt) ⟨_,ho,rfl⟩ ⟨_,ho2,rfl⟩ PySem.F.slot_tuple_lt PySem.F.entry_tuple_lt (PySem.F.args_tuple_lt_2 _ _) (oF l b items items2 n n2 dd dd2 sl sl2 ns ms hi hj)
  ⟨ho,ho2,show Value.bool (lexLt ns ms)≠Value.notImplemented/\Q (.bool (lexLt ns ms)) s from ⟨(λx=>nomatch x),h⟩⟩ hu
theorem cat_tup {t b:Addr} {vs ws:List Value} {Q:Value->Shared->Prop} (ht:IsTup s.heap t vs.toArray) (hb:IsTup s.heap b ws.toArray) (hv:vs≠[])
  (h1:ws=[]->Q (.ref t) s) (h2:ws≠[]->Q (.ref s.heap.objs.size) { s with heap:=s.heap.push { cls:=.type "tuple",data:=.seq (vs++ws).toArray } })
  (hsz:vs.length+ws.length<=sizeLine):wpAny (model prog w) A (binaryOp .Add (.ref t) (.ref b)) Q E s:=by
 obtain⟨⟨cls,dd,data,sl⟩,ho,hc,n,hd⟩:=id ht
 obtain⟨⟨cls2,dd2,data2,sl2⟩,ho2,hc2,n2,hd2⟩:=id hb
 simp only at hc hd hc2 hd2
 subst hc hd hc2 hd2
 have e:vs.toArray++ws.toArray=(vs++ws).toArray:=by simp
 by_cases hw:ws=[]
 ·exact concat_meets ⟨_,ho,rfl⟩ ⟨_,ho2,rfl⟩ noFill_tuple_add seq_tuple_add PySem.F.slot_tuple_add PySem.F.entry_tuple_add (PySem.F.args_tuple_add_2 _ _)
   (tuple_addW1 t b vs.toArray ws.toArray n n2 dd dd2 sl sl2 (by simpa using hv) (by simp[hw])) ⟨ho,ho2,h1 hw⟩
 ·refine concat_meets ⟨_,ho,rfl⟩ ⟨_,ho2,rfl⟩ noFill_tuple_add seq_tuple_add PySem.F.slot_tuple_add PySem.F.entry_tuple_add (PySem.F.args_tuple_add_2 _ _)
   (tuple_addW2 t b vs.toArray ws.toArray n n2 dd dd2 sl sl2 (by simpa using hv) (by simpa using hw) (by rw[List.size_toArray,List.size_toArray];exact hsz)) ⟨ho,ho2,?_⟩
  rw[e]
  exact h2 hw
noncomputable def sIx (n d:Nat):Option Int->Nat
 | none=>d
 | some v=>if v<0 then (v+(n:Int)).toNat else min v.toNat n
theorem sIx_none (n d:Nat):sIx n d none=d:=rfl
theorem sIx_nat (n d k:Nat):sIx n d (some (k:Int))=min k n:=by
 show (if (k:Int)<0 then ((k:Int)+(n:Int)).toNat else min (k:Int).toNat n)=min k n
 rw[if_neg (by omega),Int.toNat_natCast]
theorem FQ (n d:Nat) (hd:d<=n) (o:Option Int):sIx n d o<=n:=by
 cases o with
 | none=>exact hd
 | some v =>
  show (if v<0 then (v+(n:Int)).toNat else min v.toNat n)<=n
  by_cases hv:v<0
  ·rw[if_pos hv];omega
  ·rw[if_neg hv];exact Nat.min_le_right _ _
theorem uK (v:Int) (n d:Nat):(if v<0 then max (v+(n:Int)) 0 else min v (n:Int))=((sIx n d (some v):Nat):Int):=by
 show (if v<0 then max (v+(n:Int)) 0 else min v (n:Int))=(((if v<0 then (v+(n:Int)).toNat else min v.toNat n):Nat):Int)
 by_cases hv:v<0
 ·simp only[if_pos hv];omega
 ·simp only[if_neg hv];omega
theorem tF (lo hi:Option Int) (n:Nat):Builtin.Slice.sliceAdjust lo hi 1 (n:Int)=(((sIx n 0 lo:Nat):Int),((sIx n n hi:Nat):Int)):=by
 have h1:¬((1:Int)<0):=by omega
 unfold Builtin.Slice.sliceAdjust
 simp only[h1,if_false]
 refine Prod.ext ?_ ?_
 ·cases lo with
  | none=>rfl
  | some v=>exact uK v n 0
 ·cases hi with
  | none=>rfl
  | some v=>exact uK v n n
theorem tW (i j:Nat):Builtin.Slice.slicePlaces (i:Int) (j:Int) 1=j-i:=by
 unfold Builtin.Slice.slicePlaces
 have h1:(1:Int) > 0:=by omega
 simp only[h1,if_true,Int.ediv_one]
 split <;> omega
theorem nG {v:Value} {o:Option Int} {Q:Option Int->Shared->Prop} (p:IsPart v o) (h:Q o s):wpAny (model prog w) A (Builtin.Slice.slicePartIndex v) Q E s:=by
 cases p with
 | none=>exact slicePart_none h
 | int i t=>exact slicePart_int h
theorem kY {sl:Addr} {vl vu:Value} {lo hi:Option Int} {n:Nat} {Q:Int × Int × Nat->Shared->Prop} (hs:s.heap.IsSliceOf sl vl vu .none) (pl:IsPart vl lo) (pu:IsPart vu hi)
  (h:Q (((sIx n 0 lo:Nat):Int),1,sIx n n hi-sIx n 0 lo) s):wpAny (model prog w) A (Builtin.Slice.sliceApplied (.ref sl) (pure (n:Int))) Q E s:=by
 obtain⟨os,hos,hcs,hds⟩:=id hs
 unfold Builtin.Slice.sliceApplied Builtin.Slice.sliceFields
 refine wpAny_bind (wpAny_bind (wpAny_field hos hds (x:=vl) rfl (wpAny_bind (wpAny_field hos hds (x:=vu) rfl (wpAny_bind (wpAny_field hos hds (x:=.none) rfl (wpAny_pure ?_)))))))
 refine wpAny_bind (slicePart_none ?_)
 show wpAny _ _ (if ((1:Int) == 0)=true then _ else _) _ _ s
 rw[if_neg (by decide)]
 refine wpAny_bind (nG pl (wpAny_bind (nG pu (wpAny_bind (wpAny_pure ?_)))))
 show wpAny _ _ (match Builtin.Slice.sliceAdjust lo hi 1 (n:Int) with | (lo,hi)=>pure (lo,(1:Int),Builtin.Slice.slicePlaces lo hi 1)) _ _ s
 rw[tF lo hi n]
 show wpAny _ _ (pure (((sIx n 0 lo:Nat):Int),(1:Int),Builtin.Slice.slicePlaces ((sIx n 0 lo:Nat):Int) ((sIx n n hi:Nat):Int) 1)) _ _ s
 rw[tW]
 exact wpAny_pure h
theorem zT (xs:Array Value) (i k:Nat):((List.range k).filterMap λ(m:Nat)=>xs[((i:Int)+(m:Int)*1).toNat]?).toArray=((xs.toList.drop i).take k).toArray:=by
 have e:(λ(m:Nat)=>xs[((i:Int)+(m:Int)*1).toNat]?)=λm=>xs[i+m]?:=by
  funext m
  have:((i:Int)+(m:Int)*1).toNat=i+m:=by omega
  rw[this]
 rw[e]
 have:=pick_run xs i k
 rw[List.filterMap_map] at this
 have e2:((λx=>xs[x]?) ∘ λx=>i+x)=λm=>xs[i+m]?:=rfl
 rw[e2] at this
 rw[this]
theorem getItem_tuple_cut {t sl:Addr} {items:Array Value} {vl vu:Value} {lo hi:Option Int} {Q:Value->Shared->Prop} (ht:IsTup s.heap t items) (hs:s.heap.IsSliceOf sl vl vu .none) (pl:IsPart vl lo) (pu:IsPart vu hi)
  (hw:¬(sIx items.size 0 lo=0/\sIx items.size items.size hi=items.size))
  (h:Q (.ref s.heap.objs.size) { s with heap:=s.heap.push { cls:=.type "tuple",data:=.seq ((items.toList.drop (sIx items.size 0 lo)).take (sIx items.size items.size hi-sIx items.size 0 lo)).toArray } })
  (hsz:items.size<=sizeLine):wpAny (model prog w) A (getItem (.ref t) (.ref sl)) Q E s:=by
 have htake:sizeOk (.seq ((items.toList.drop (sIx items.size 0 lo)).take (sIx items.size items.size hi-sIx items.size 0 lo)).toArray):=by
  show ((items.toList.drop (sIx items.size 0 lo)).take (sIx items.size items.size hi-sIx items.size 0 lo)).toArray.size<=sizeLine
  rw[List.size_toArray,List.length_take,List.length_drop,Array.length_toList]
  omega
 have hj:sIx items.size items.size hi<=items.size:=FQ _ _ (Nat.le_refl _) hi
 obtain⟨os,hos,hcs,hds⟩:=id hs
 have hTs:s.TypeIs (.ref sl) "slice":=⟨os,hos,hcs⟩
 unfold getItem
 try with_reducible refine wpAny_holding ?_
 first | refine wpAny_bind (wpAny_pure ?_) | skip
 refine wpAny_bind (wpAny_sequenceKey ht.typeIs (by decide) ?_)
 refine wpAny_bind (wpAny_callSpecial?_slot (name:=Str.ofString "__getitem__") ht.typeIs PyProof.Rows.slot_tuple_getitem
  (wpAny_call_entry PyProof.Rows.slot_tuple_getitem ht.typeIs entry_tuple_getitem ?_ (args_tuple_getitem _ _)))
 show wpAny _ _ (Builtin.Tuple.tupleItemsOf (.ref t) >>= _) _ _ s
 refine wpAny_bind (tupleItemsOf_ ht ?_)
 refine wpAny_bind (wpAny_typeOf hTs ?_)
 rw[if_pos (by decide)]
 refine wpAny_bind (kY hs pl pu ?_)
 have hno:¬((((sIx items.size 0 lo:Nat):Int) == 0 && (1:Int) == 1 && (sIx items.size items.size hi-sIx items.size 0 lo) == items.size)=true):=by
  intro q
  rw[Bool.and_eq_true,Bool.and_eq_true] at q
  have q1:((sIx items.size 0 lo:Nat):Int)=0:=eq_of_beq q.1.1
  have q2:sIx items.size items.size hi-sIx items.size 0 lo=items.size:=eq_of_beq q.2
  exact hw ⟨by omega,by omega⟩
 show wpAny _ _ (if (((sIx items.size 0 lo:Nat):Int) == 0 && (1:Int) == 1 && (sIx items.size items.size hi-sIx items.size 0 lo) == items.size)=true then _ else _) _ _ s
 rw[if_neg hno,zT]
 first
  | exact wpAny_bind (m:=Builtin.Tuple.tupleExact _) (wpAny_newObj_type (wpAny_pure ⟨_,rfl,wpAny_pure h⟩) htake)
  | exact wpAny_bind (m:=Builtin.Tuple.tupleExact _) (wpAny_newObj_type (wpAny_bind (wpAny_pure (wpAny_pure ⟨_,rfl,wpAny_pure h⟩))) htake)
  | exact wpAny_bind (wpAny_bind (m:=Builtin.Tuple.tupleExact _) (wpAny_newObj_type (wpAny_pure (wpAny_pure ⟨_,rfl,wpAny_pure h⟩)) htake))
  | exact wpAny_bind (wpAny_bind (m:=Builtin.Tuple.tupleExact _) (wpAny_newObj_type (wpAny_pure ⟨_,rfl,wpAny_pure h⟩) htake))
end
end HT
namespace L2
open PySem PySem.Spec PyProof.Rows
noncomputable abbrev TO:=St->Hp->(Option Int->Hp->Prop)->Prop
noncomputable def PO (X:Cx) (e:Option Expr) (t:TO):Prop :=
 ∀(pins:List (Addr × Obj)) (s:Shared) (σ:St) (H:Hp) (Q:Option Int->Hp->Prop),Inv X pins σ H s->t σ H Q ->
  wpAny (model X.prog X.w) X.A (evalPart e X.env) (λu s'=>∃o H',Inv X pins σ H' s'/\IsPart u o/\Q o H') X.xe s
noncomputable def CT:TO:=λ_ H Q=>Q none H
noncomputable def HV (t:TE):TO:=λσ H Q=>t σ H λx H1=>∃i,x = .int i/\Q (some i) H1
theorem eG {ns:List Int}:∀{us:List Value},Vals (ns.map V.int) us->IntsAre us ns:=by
 induction ns with
 | nil=>intro us r;rw[List.map_nil] at r;cases r;exact .nil
 | cons n ns ih =>
  intro us r
  rw[List.map_cons] at r
  cases r with
  | cons r1 r2 =>
   obtain⟨t,e⟩:=r1
   subst e
   exact .cons n t (ih r2)
section
variable {X:Cx} {e:Expr} {te:TE} {lo hi:Option Expr} {tl th:TO} {pos p2:Pos}
theorem CB:PO X none CT:=by
 intro pins s σ H Q I h
 rw[evalPart_none]
 exact wpAny_pure ⟨none,H,I,.none,h⟩
theorem CC (h:PE X e te):PO X (some e) (HV te):=by
 intro pins s σ H Q I hw
 rw[evalPart_some]
 refine thn (h pins s σ H _ I hw) λu s1 ⟨x,H1,I1,r1,q1⟩=>?_
 obtain⟨i,rfl,q⟩:=q1
 obtain⟨t,rfl⟩:=r1
 exact⟨some i,H1,I1,.int i t,q⟩
noncomputable def SlR (X:Cx) (r:V->Option Int->Option Int->Hp->VK->Prop):Prop :=
 ∀(pins:List (Addr × Obj)) (s:Shared) (σ:St) (H:Hp) (x:V) (v vl vu:Value) (lo hi:Option Int) (sl:Addr) (Q:VK),Inv X pins σ H s->RelV x v->s.heap.IsSliceOf sl vl vu .none->IsPart vl lo->IsPart vu hi->r x lo hi H Q ->
  ∃T id,typeLookup (.type T) "__getitem__" = pure (some (.builtin id))/\s.TypeIs v T/\wpAny (model X.prog X.w) X.A (getItem v (.ref sl)) (EP X pins σ Q) X.xe s
theorem SlR.or {r r':V->Option Int->Option Int->Hp->VK->Prop} (h:SlR X r) (h':SlR X r'):SlR X (λx lo hi H Q=>r x lo hi H Q\/r' x lo hi H Q):=by
 intro pins s σ H x v vl vu lo hi sl Q I rx hs pl pu q
 rcases q with q | q
 ·exact h pins s σ H x v vl vu lo hi sl Q I rx hs pl pu q
 ·exact h' pins s σ H x v vl vu lo hi sl Q I rx hs pl pu q
noncomputable def tSl (r:V->Option Int->Option Int->Hp->VK->Prop) (te:TE) (tl th:TO):TE:=λσ H Q=>te σ H λx H1=>tl σ H1 λl H2=>th σ H2 λu H3=>r x l u H3 Q
theorem zP {r:V->Option Int->Option Int->Hp->VK->Prop} (hr:SlR X r) (he:PE X e te) (hl:PO X lo tl) (hu:PO X hi th):PE X (.Subscript e (.Slice lo hi none p2) pos) (tSl r te tl th):=by
 intro pins s σ H Q I h
 refine Subscript_ (thn (he pins s σ H _ I h) λv s1 ⟨x,H1,I1,r1,q1⟩=>?_)
 refine wpAny_Slice (thn (hl pins s1 σ H1 _ I1 q1) λvl s2 ⟨l,H2,I2,pl,q2⟩=>thn (hu pins s2 σ H2 _ I2 q2) λvu s3 ⟨u,H3,I3,pu,q3⟩=>?_)
 rw[evalPart_none]
 refine wpAny_pure ?_
 have I4:Inv X pins σ H3 { s3 with heap:=s3.heap.push { cls:=.type "slice",data:=.fields #[vl,vu,.none] } }:=I3.kept (t':=s3.toks) λb ob q=>Heap.get?_push_of_some _ q
 obtain⟨T,id,hT,ht,hg⟩:=hr pins { s3 with heap:=s3.heap.push { cls:=.type "slice",data:=.fields #[vl,vu,.none] } } σ H3 x v vl vu l u s3.heap.objs.size Q I4 r1 (Heap.IsSliceOf.new ..) pl pu q3
 show wpAny (model X.prog X.w) X.A (subscriptTail e (.Slice lo hi none p2) v (.ref s3.heap.objs.size)) (EP X pins σ Q) X.xe { s3 with heap:=s3.heap.push { cls:=.type "slice",data:=.fields #[vl,vu,.none] } }
 exact tail_any (ops:=[.ref s3.heap.objs.size,v]) ht hT hg (by with_unfolding_all rfl)
noncomputable def rL (xs:List V) (lo hi:Option Int):List V:=(xs.drop (HT.sIx xs.length 0 lo)).take (HT.sIx xs.length xs.length hi-HT.sIx xs.length 0 lo)
theorem lC (xs:List V) (lo hi:Option Int):(rL xs lo hi).length<=xs.length:=by
 unfold rL
 rw[List.length_take,List.length_drop]
 omega
noncomputable def IK (K:PySem.W.Frag):V->Option Int->Option Int->Hp->VK->Prop:=λx lo hi H Q=>∃a xs,x = .ref a/\SqT K H a xs /\
 ¬(HT.sIx xs.length 0 lo=0/\HT.sIx xs.length xs.length hi=xs.length)/\∀p,H p=none->Q (.ref p) (upd H p (.tup (rL xs lo hi)))
theorem FR:SlR X (IK X.K):=by
 intro pins s σ H x v vl vu lo hi sl Q I rx hs pl pu h
 obtain⟨a,xs,rfl,hx,hw,q⟩:=h
 cases rx
 obtain⟨its,r,ht,hz⟩:=I.tuple hx
 have hlen:its.toArray.size=xs.length:=by rw[List.size_toArray];exact r.length.symm
 refine⟨"tuple",_,PyProof.Rows.slot_tuple_getitem.lookup,ht.typeIs,?_⟩
 refine HT.getItem_tuple_cut ht hs pl pu (by rw[hlen];exact hw) ?_ (by rw[hlen];exact hz)
 rw[hlen]
 refine⟨.ref s.heap.objs.size,_,I.laid (t':=s.toks) (o:=.tup (rL xs lo hi)) (λb ob q=>Heap.get?_push_of_some _ q) (Nat.le_refl _) ?_,rfl,q _ (I.hok.fresh (Nat.le_refl _))⟩
 exact⟨Nat.le_trans (lC xs lo hi) hz,_,(r.drop (HT.sIx xs.length 0 lo)).take (HT.sIx xs.length xs.length hi-HT.sIx xs.length 0 lo),IsTup.new _ _⟩
noncomputable def HH (K:PySem.W.Frag):R2:=λx y H Q=>∃a b xs ys,x = .ref a/\y = .ref b/\SqT K H a xs/\SqT K H b ys/\xs≠[]/\xs.length+ys.length<=sizeLine /\
 (ys=[]->Q (.ref a) H)/\(ys≠[]->∀p,H p=none->Q (.ref p) (upd H p (.tup (xs++ys))))
theorem Vals.nil_iff {xs:List V} {us:List Value} (r:Vals xs us):us=[]↔xs=[]:=by
 cases r with
 | nil=>simp
 | cons _ _=>simp
theorem BU:OpR X (binaryOp .Add) (HH X.K):=by
 intro pins s σ H x y v u Q I rx ry h
 obtain⟨a,b,xs,ys,rfl,rfl,ha,hb,hx,hz,q1,q2⟩:=h
 cases rx
 cases ry
 obtain⟨its,r1,p1,_⟩:=I.tuple ha
 obtain⟨its2,r2,p2,_⟩:=I.tuple hb
 refine HT.cat_tup p1 p2 (λz=>hx (r1.nil_iff.mp z)) (λz=>⟨.ref a,H,I,rfl,q1 (r2.nil_iff.mp z)⟩) (λz=>?_) (by rw[<-r1.length,<-r2.length];exact hz)
 refine⟨.ref s.heap.objs.size,_,I.laid (t':=s.toks) (o:=.tup (xs++ys)) (λb ob q=>Heap.get?_push_of_some _ q) (Nat.le_refl _) ?_,rfl,q2 (λw=>z (r2.nil_iff.mpr w)) _ (I.hok.fresh (Nat.le_refl _))⟩
 exact⟨by rw[List.length_append];exact hz,_,r1.append r2,IsTup.new _ _⟩
end
end L2
namespace L2
open PySem PySem.Spec PyProof.Rows
noncomputable def ixN (n:Nat) (i:Int):Option Nat:=if 0<=i then (if i<n then some i.toNat else none) else if -(n:Int)<=i then some (i+n).toNat else none
noncomputable def atI {α:Type} (xs:List α) (i:Int):Option α:=(ixN xs.length i).bind λj=>xs[j]?
theorem BM {n:Nat} {i:Int} {j:Nat} (h:ixN n i=some j):seqIndex? i n=some j/\j<n/\-(n:Int)<=i/\i<n:=by
 unfold ixN at h
 by_cases h0:0<=i
 ·rw[if_pos h0] at h
  by_cases h1:i<n
  ·rw[if_pos h1] at h
   have e:i.toNat=j:=Option.some.inj h
   exact⟨by rw[seqIndex_of h0 h1,e],by omega,by omega,h1⟩
  ·rw[if_neg h1] at h;cases h
 ·rw[if_neg h0] at h
  by_cases h1:-(n:Int)<=i
  ·rw[if_pos h1] at h
   have e:(i+n).toNat=j:=Option.some.inj h
   exact⟨by rw[seqIndex_neg (by omega) h1,e],by omega,h1,by omega⟩
  ·rw[if_neg h1] at h;cases h
theorem uI {α:Type} {xs:List α} {i:Int} {v:α} (h:atI xs i=some v):∃j,seqIndex? i xs.length=some j/\xs[j]? = some v/\j<xs.length/\-(xs.length:Int)<=i/\i<xs.length:=by
 unfold atI at h
 cases e:ixN xs.length i with
 | none=>rw[e] at h;cases h
 | some j =>
  rw[e] at h
  obtain⟨h1,h2,h3,h4⟩:=BM e
  exact⟨j,h1,h,h2,h3,h4⟩
theorem pJ {α:Type} {xs:List α} {j:Nat} {v:α} (h:xs[j]? = some v):atI xs (j:Int)=some v:=by
 have hj:j<xs.length:=(List.getElem?_eq_some_iff.mp h).1
 have e:ixN xs.length (j:Int)=some j:=by
  unfold ixN
  rw[if_pos (by omega),if_pos (by omega)];simp
 unfold atI;rw[e];exact h
theorem rA {α:Type} (xs:List α) (v:α):atI (xs++[v]) (-1)=some v:=by
 have hl:(xs++[v]).length=xs.length+1:=by simp
 have e:ixN (xs++[v]).length (-1)=some xs.length:=by
  unfold ixN
  rw[hl,if_neg (by decide),if_pos (by omega)]
  congr 1
  omega
 unfold atI
 rw[e]
 show (xs++[v])[xs.length]? = some v
 simp
noncomputable def pI (b:Expr):Prop:=∀o i,subscripted b false o i=operate [o,i] (getItem o i)
noncomputable def IxR (X:Cx) (r:R2):Prop :=
 ∀(value slice:Expr) (pins:List (Addr × Obj)) (s:Shared) (σ:St) (H:Hp) (x y:V) (v u:Value) (Q:VK),Inv X pins σ H s->RelV x v->RelV y u->r x y H Q ->
  subscripted slice false v u=operate [v,u] (getItem v u)->wpAny (model X.prog X.w) X.A (subscriptTail value slice v u) (EP X pins σ Q) X.xe s
noncomputable def MtR (X:Cx) (id:String) (r:V->List V->Hp->VK->Prop):Prop :=
 ∀(pins:List (Addr × Obj)) (s:Shared) (σ:St) (H:Hp) (x:V) (xs:List V) (v:Value) (us:List Value) (Q:VK),Inv X pins σ H s->RelV x v->Vals xs us->r x xs H Q ->
  wpAny (model X.prog X.w) X.A (call (.builtin id) (v::us)) (EP X pins σ Q) X.xe s
section
variable {X:Cx} {a b:Expr} {ta tb:TE} {pos:Pos}
theorem IxR.or {r r':R2} (h:IxR X r) (h':IxR X r'):IxR X (λx y H Q=>r x y H Q\/r' x y H Q):=by
 intro value slice pins s σ H x y v u Q I rx ry q hs
 rcases q with q | q
 ·exact h value slice pins s σ H x y v u Q I rx ry q hs
 ·exact h' value slice pins s σ H x y v u Q I rx ry q hs
theorem DM {r:R2} (hr:IxR X r) (ha:PE X a ta) (hb:PE X b tb) (hs:pI b):PE X (.Subscript a b pos) (tOp r ta tb):=by
 intro pins s σ H Q I h
 exact Subscript_ (DV ha hb I h λv u s2 x y H2 I2 rx ry q=>hr a b pins s2 σ H2 x y v u Q I2 rx ry q (hs _ _))
noncomputable def IH (K:PySem.W.Frag):R2:=λx y H Q=>∃p xs i v,x = .ref p/\y = .int i/\SqL K H p xs/\atI xs i=some v/\Q v H
noncomputable def II (K:PySem.W.Frag):R2:=λx y H Q=>∃p xs i v,x = .ref p/\y = .int i/\SqT K H p xs/\atI xs i=some v/\Q v H
theorem uZ:IxR X (IH X.K):=by
 intro value slice pins s σ H x y v u Q I rx ry h hs
 obtain⟨p,xs,i,z,rfl,rfl,hq,he,q⟩:=h
 cases rx
 obtain⟨t,rfl⟩:=ry
 obtain⟨its,r,pl,hz⟩:=I.list hq
 obtain⟨j,h1,h2,h3,h4,h5⟩:=uI he
 obtain⟨w,ew,rw'⟩:=r.get h2
 have hl:=r.length
 have hn:=tS
 have fin:EP X pins σ Q w s:=⟨z,H,I,rw',q⟩
 by_cases h0:0<=i
 ·have hj:i.toNat=j:=by
   rw[seqIndex_of h0 h5] at h1
   exact Option.some.inj h1
  exact item_listR pl.isList h0 (by omega) (by rw[hj];simpa using ew) fin hs
 ·have hj:(i+(its.toArray.size:Int)).toNat=j:=by
   rw[seqIndex_neg (by omega) h4] at h1
   rw[List.size_toArray,<-hl]
   exact Option.some.inj h1
  exact subscriptTail_builtinR (x:=w) pl.isList.typeIs slot_list_getitem.lookup
   (wpAny_getItem_list_neg (Q:=λr s'=>r=w/\EP X pins σ Q r s') pl.isList (by omega) (by rw[List.size_toArray] <;> omega) (by omega) (by rw[hj];simpa using ew) ⟨rfl,fin⟩) hs
theorem EN:IxR X (II X.K):=by
 intro value slice pins s σ H x y v u Q I rx ry h hs
 obtain⟨p,xs,i,z,rfl,rfl,hq,he,q⟩:=h
 cases rx
 obtain⟨t,rfl⟩:=ry
 obtain⟨its,r,pl,hz⟩:=I.tuple hq
 obtain⟨j,h1,h2,h3,h4,h5⟩:=uI he
 obtain⟨w,ew,rw'⟩:=r.get h2
 have hl:=r.length
 have hn:=tS
 have fin:EP X pins σ Q w s:=⟨z,H,I,rw',q⟩
 exact subscriptTail_builtinR (x:=w) pl.typeIs slot_tuple_getitem.lookup
  (getItem_tuple (j:=j) (Q:=λr s'=>r=w/\EP X pins σ Q r s') pl (by omega) (by omega) (by rw[List.size_toArray,<-hl];exact h1) (by simpa using ew) ⟨rfl,fin⟩) hs
theorem qV (lo hi:Option Int) (n:Nat):(sliceBounds lo hi none n).1=((HT.sIx n 0 lo:Nat):Int)/\(sliceBounds lo hi none n).2.1=((HT.sIx n n hi:Nat):Int)/\(sliceBounds lo hi none n).2.2=1:=by
 refine⟨?_,?_,rfl⟩
 ·cases lo with
  | none=>simp[sliceBounds,HT.sIx]
  | some i =>
   simp only[sliceBounds,HT.sIx,Option.getD_none,show (1:Int) > 0 by decide,if_true]
   by_cases h:i<0
   ·simp only[h,if_true] <;> omega
   ·simp only[h,if_false] <;> omega
 ·cases hi with
  | none=>simp[sliceBounds,HT.sIx]
  | some i =>
   simp only[sliceBounds,HT.sIx,Option.getD_none,show (1:Int) > 0 by decide,if_true]
   by_cases h:i<0
   ·simp only[h,if_true] <;> omega
   ·simp only[h,if_false] <;> omega
theorem oE (its:List Value) (lo hi:Option Int):slicePick its.toArray lo hi none=((its.drop (HT.sIx its.length 0 lo)).take (HT.sIx its.length its.length hi-HT.sIx its.length 0 lo)).toArray:=by
 obtain⟨h1,h2,h3⟩:=qV lo hi its.toArray.size
 unfold slicePick
 rw[h1,h2,h3]
 simp only[sliceRange_one,pick_run,List.size_toArray] <;> rfl
noncomputable def IJ (K:PySem.W.Frag):V->Option Int->Option Int->Hp->VK->Prop:=λx lo hi H Q=>∃a xs,x = .ref a/\SqL K H a xs/\∀p,H p=none->Q (.ref p) (upd H p (.lst (rL xs lo hi)))
theorem CQ:SlR X (IJ X.K):=by
 intro pins s σ H x v vl vu lo hi sl Q I rx hs pl pu h
 obtain⟨a,xs,rfl,hx,q⟩:=h
 cases rx
 obtain⟨its,r,ht,hz⟩:=I.list hx
 have hlen:=r.length
 refine⟨"list",_,slot_list_getitem.lookup,ht.isList.typeIs,?_⟩
 refine wpAny_getItem_list_slice ht.isList hs pl pu .none (by simp) ?_ (by rw[List.size_toArray] <;> omega)
 rw[oE,<-hlen]
 refine⟨.ref s.heap.objs.size,_,I.laid (t':=s.toks) (o:=.lst (rL xs lo hi)) (λb ob q=>Heap.get?_push_of_some _ q) (Nat.le_refl _) ?_,rfl,q _ (I.hok.fresh (Nat.le_refl _))⟩
 exact⟨Nat.le_trans (lC xs lo hi) hz,_,0,(r.drop (HT.sIx xs.length 0 lo)).take (HT.sIx xs.length xs.length hi-HT.sIx xs.length 0 lo),Heap.get?_push_size _ rfl⟩
theorem pP:iI X (.builtin "len") (λxs H Q=>∃p ys,xs=[.ref p]/\(SqL X.K H p ys\/SqT X.K H p ys)/\Q (.int ys.length) H):=by
 intro pins s σ H xs us Q I r h
 obtain⟨p,ys,rfl,hq,q⟩:=h
 obtain⟨u,rfl,rx⟩:=lJ r
 cases rx
 have hn:=tS
 rcases hq with hq | hq
 ·obtain⟨its,r',pl,hz⟩:=I.list hq
  have hlen:=r'.length
  exact Calls.call_len_list pl.isList (by simp only[List.size_toArray] <;> omega) ⟨.int ys.length,H,I.tok _,⟨s.toks+1,by rw[List.size_toArray,hlen]⟩,q⟩
 ·obtain⟨its,r',pl,hz⟩:=I.tuple hq
  have hlen:=r'.length
  exact len_tuple pl (by simp only[List.size_toArray] <;> omega) ⟨.int ys.length,H,I.tok _,⟨s.toks+1,by rw[List.size_toArray,hlen]⟩,q⟩
theorem pQ:iI X (.type "list") (λxs H Q=>∃p ys,xs=[.ref p]/\(SqL X.K H p ys\/SqT X.K H p ys)/\∀l,H l=none->Q (.ref l) (upd H l (.lst ys))):=by
 intro pins s σ H xs us Q I r h
 obtain⟨p,ys,rfl,hq,q⟩:=h
 obtain⟨u,rfl,rx⟩:=lJ r
 cases rx
 have fin:∀(its:List Value),Vals ys its->ys.length<=sizeLine->∀(h':Heap) (c':Nat),(∀b o',s.heap.get? b=some o'->h'.get? b=some o') ->
   h'.get? s.heap.objs.size=some { cls:=.type "list",dict:=none,data:=.seq its.toArray c',slots:=#[] }->EP X pins σ Q (.ref s.heap.objs.size) { s with heap:=h' }:=λits r' hz h' c' kp e =>
  ⟨.ref s.heap.objs.size,_,I.laid (t':=s.toks) kp (Nat.le_refl _) (show ObjOk X.prog X.w _ h' _ (.lst ys) from ⟨hz,its,c',r',e⟩),rfl,q _ (I.hok.fresh (Nat.le_refl _))⟩
 rcases hq with hq | hq
 ·obtain⟨its,r',pl,hz⟩:=I.list hq
  have hlen:=r'.length
  obtain⟨o,ho,hc,n,hd⟩:=pl.isList
  exact call_list_seq p (.inl rfl) ho hc hd (λh' c' kp e=>fin its r' hz h' c' kp e) (by simp only[List.size_toArray] <;> omega)
 ·obtain⟨its,r',pl,hz⟩:=I.tuple hq
  have hlen:=r'.length
  obtain⟨o,ho,hc,n,hd⟩:=pl
  exact call_list_seq p (.inr rfl) ho hc hd (λh' c' kp e=>fin its r' hz h' c' kp e) (by simp only[List.size_toArray] <;> omega)
theorem nQ:iI X (.type "tuple") (λxs H Q=>∃p ys,xs=[.ref p]/\((SqL X.K H p ys/\∀l,H l=none->Q (.ref l) (upd H l (.tup ys)))\/(SqT X.K H p ys/\Q (.ref p) H))):=by
 intro pins s σ H xs us Q I r h
 obtain⟨p,ys,rfl,h⟩:=h
 obtain⟨u,rfl,rx⟩:=lJ r
 cases rx
 rcases h with ⟨hq,q⟩ | ⟨hq,q⟩
 ·obtain⟨its,r',pl,hz⟩:=I.list hq
  have hlen:=r'.length
  refine call_tuple_list pl.isList (λh' kp=>?_) (by simp only[List.size_toArray] <;> omega)
  have I1:Inv X pins σ H { s with heap:=h' }:=I.kept (t':=s.toks) kp
  have I2:Inv X pins σ (upd H h'.objs.size (.tup ys)) { s with heap:=h'.push { cls:=.type "tuple",data:=.seq its.toArray } } :=
   I1.laid (t':=s.toks) (λb o e=>Heap.get?_push_of_some _ e) (Nat.le_refl _) (show ObjOk X.prog X.w _ _ _ (.tup ys) from ⟨hz,its,r',IsTup.new _ _⟩)
  exact⟨.ref h'.objs.size,_,I2,rfl,q _ (I1.hok.fresh (Nat.le_refl _))⟩
 ·obtain⟨its,r',pl,hz⟩:=I.tuple hq
  exact call_tuple_same pl ⟨.ref p,H,I,rfl,q⟩
noncomputable def tyV (K:PySem.W.Frag) (T:String) (x:V) (H:Hp):Prop:=match x with
 | .str _=>T = "str"
 | .int _=>T = "int"
 | .ref p=>(T = "list"/\∃xs,SqL K H p xs)\/(T = "tuple"/\∃o,K.lookup p=some o/\o.cls = .type "tuple"/\o.dict=none) \/
   (T = "dict"/\((∃kvs,H p=some (.dK kvs))\/∃kvs,H p=some (.dT kvs)))\/(T = "set"/\∃S n,H p=some (.set S n))
 | _=>False
theorem FX {pins:List (Addr × Obj)} {σ:St} {H:Hp} {s:Shared} {T:String} {x:V} {v:Value} (I:Inv X pins σ H s) (r:RelV x v) (ty:tyV X.K T x H) :
  s.TypeIs v T/\∀a,v = .ref a->∃ob,s.heap.get? a=some ob/\ob.dict=none:=by
 cases x with
 | str z =>
  obtain⟨t,rfl⟩:=r
  cases (show T = "str" from ty)
  exact⟨typeIs_str s z t,λ_ e=>nomatch e⟩
 | int i =>
  obtain⟨t,rfl⟩:=r
  cases (show T = "int" from ty)
  exact⟨typeIs_int s i t,λ_ e=>nomatch e⟩
 | ref p =>
  cases r
  rcases ty with ⟨rfl,xs,hq⟩ | ⟨rfl,o,hk,hc,hd⟩ | ⟨rfl,hk⟩ | ⟨rfl,S,n,hk⟩
  ·obtain⟨its,_,pl,_⟩:=I.list hq
   refine⟨pl.isList.typeIs,λa e=>?_⟩
   cases e
   obtain⟨o,n,e,c,hd,_⟩:=pl
   exact⟨o,e,hd⟩
  ·refine⟨⟨o,I.kIn p o hk,hc⟩,λa e=>?_⟩
   cases e
   exact⟨o,I.kIn _ o hk,hd⟩
  ·have z:∃o,s.heap.get? p=some o/\o.ExactDict:=by
    rcases hk with ⟨kvs,hk⟩ | ⟨kvs,hk⟩
    ·obtain⟨_,_,_,_,o,_,_,e,ex,_⟩:=I.hok p _ hk
     exact⟨o,e,ex⟩
    ·obtain⟨_,_,_,_,o,_,_,e,ex,_⟩:=I.hok p _ hk
     exact⟨o,e,ex⟩
   obtain⟨o,e,ex⟩:=z
   refine⟨⟨o,e,ex.1⟩,λa e2=>?_⟩
   cases e2
   exact⟨o,e,ex.2.1⟩
  ·obtain⟨o,_,_,_,e,ex,_⟩:=I.hok p _ hk
   refine⟨⟨o,e,ex.1⟩,λa e2=>?_⟩
   cases e2
   exact⟨o,e,ex.2.1⟩
 | _=>exact False.elim ty
noncomputable def tBM (K:PySem.W.Frag) (T:String) (r:V->List V->Hp->VK->Prop) (to:TE) (t:TA):TE:=λσ H Q=>to σ H λx H1=>tyV K T x H1/\t σ H1 λxs H2=>r x xs H2 Q
variable {o e:Expr} {es:List Expr} {to:TE} {t:TA} {name:Str} {apos cpos:Pos} {T id:String} {r:V->List V->Hp->VK->Prop}
theorem mT (pa:PlainAttrs T) (slot:Slot T name id) (hty:typeOf (.builtin id)=pure (.type "method_descriptor")) (hm:MtR X id r) (ho:PE X o to) (ha:PA X (e::es) t)
  (hbase:attributeBase o name X.env (eval o X.env)=eval o X.env:=by rfl)
  (hfew:((backTo cpos (starEach (e::es) X.env)).all (λx=>!x.1) && (backToKw cpos (keywordEach [] X.env)).all (λx=>x.1.isSome)
   && decide ((e::es).length+([]:List Keyword).length+(if ([]:List Keyword).isEmpty then 0 else 1)<30))=true:=by rfl)
  (hline:(apos.endLine == cpos.line)=true:=by rfl) (hs:starEach (e::es) X.env=(false,eval e X.env)::starEach es X.env:=by rfl) (hplain:(backTo cpos (starEach es X.env)).any (·.1)=false:=by rfl) :
  PE X (.Call (.Attribute o name apos) (e::es) [] cpos) (tBM X.K T r to t):=by
 intro pins s σ H Q I h
 refine wpAny_Call_method_late hbase hfew hline rfl (thn (ho pins s σ H _ I h) λv s1 ⟨x,H1,I1,r1,ty,q1⟩=>?_)
 obtain⟨h1,h2⟩:=FX I1 r1 ty
 refine⟨T,id,pa,slot,hty,h1,h2,?_⟩
 have hA:=ha cpos pins s1 σ H1 _ I1 q1
 rw[hs] at hA ⊢
 refine Calls.callWith_builtin (by show (false || (backTo cpos (starEach es X.env)).any (·.1))=false;rw[hplain] <;> rfl) (Calls.evalArgs_plain ?_)
 exact thn hA λus s2 ⟨vs,H2,I2,r2,q2⟩=>hm pins s2 σ H2 x vs v us Q I2 r1 r2 q2
end
end L2
namespace L2
open PySem PySem.Spec PyProof.Rows
noncomputable def MtM (X:Cx) (id:String) (r:V->List V->Hp->VK->Prop):Prop :=
 ∀(pins:List (Addr × Obj)) (s:Shared) (σ:St) (H:Hp) (x:V) (xs:List V) (v:Value) (us:List Value) (Q:VK),Inv X pins σ H s->RelV x v->Vals xs us->r x xs H Q ->
  wpAny (model X.prog X.w) X.A (call (.builtin id) (v::us)) (EP X pins σ Q) X.xe s
theorem Vals.one:∀{x:V} {us:List Value},Vals [x] us->∃u,us=[u]/\RelV x u
 | _,_,.cons r .nil=>⟨_,rfl,r⟩
theorem Vals.two:∀{x y:V} {us:List Value},Vals [x,y] us->∃u v,us=[u,v]/\RelV x u/\RelV y v
 | _,_,_,.cons r (.cons q .nil)=>⟨_,_,rfl,r,q⟩
section
variable {X:Cx} {pins:List (Addr × Obj)} {σ:St} {H:Hp} {s:Shared} {l b:Addr} {xs ys zs:List V}
theorem Inv.lset {its its':List Value} {n:Nat} {f:Array Value->Array Value} {t':Nat} (I:Inv X pins σ H s) (hH:H l=some (.lst xs))
  (e:s.heap.get? l=some { cls:=.type "list",data:=.seq its.toArray n }) (hf:f its.toArray=its'.toArray) (hv:Vals ys its') (hz:ys.length<=sizeLine) :
  Inv X pins σ (upd H l (.lst ys)) { s with heap:=s.heap.update l (Obj.mapSeq f),toks:=t' }:=by
 have q:=PySem.IsL.update e f
 rw[hf] at q
 refine I.write (x:=l) (e:=l) (by rw[hH];exact trivial) (.inl rfl) (λb' u hb hu=>(Heap.get?_update_other s.heap (Obj.mapSeq f) (Ne.symm hb)).trans hu) ⟨_,q⟩ ?_
 exact⟨hz,its',_,hv,q⟩
theorem Inv.lnew {its:List Value} {t':Nat} (I:Inv X pins σ H s) (hv:Vals ys its) (hz:ys.length<=sizeLine) :
  Inv X pins σ (upd H s.heap.objs.size (.lst ys)) { s with heap:=s.heap.push { cls:=.type "list",data:=.seq its.toArray },toks:=t' } :=
 I.laid (λ_ _ q=>Heap.get?_push_of_some _ q) (Nat.le_refl _) ⟨hz,its,0,hv,Heap.get?_push_size _ rfl⟩
theorem Inv.fresh (I:Inv X pins σ H s):H s.heap.objs.size=none:=I.hok.fresh (Nat.le_refl _)
theorem Inv.lstM (I:Inv X pins σ H s) (hH:H l=some (.lst xs)):xs.length<=sizeLine/\∃(its:List Value) (n:Nat),Vals xs its/\xs.length=its.length/\s.heap.get? l=some { cls:=.type "list",data:=.seq its.toArray n }:=by
 obtain⟨z,its,n,r,e⟩:=I.hok l _ hH
 exact⟨z,its,n,r,r.length,e⟩
theorem zE {n:Nat} (h:n<=sizeLine):Builtin.List.listTooLong n=false:=by
 unfold Builtin.List.listTooLong
 exact decide_eq_false (by omega)
end
section
variable {X:Cx}
noncomputable def vG:V->List V->Hp->VK->Prop:=λx vs H Q=>∃l xs y,x = .ref l/\vs=[y]/\H l=some (.lst xs)/\xs.length<sizeLine/\Q .non (upd H l (.lst (xs++[y])))
theorem iC:MtM X "list.append" vG:=by
 intro pins s σ H x vs v us Q I rx rv h
 obtain⟨l,xs,y,rfl,rfl,hH,hz,q⟩:=h
 cases rx
 obtain⟨u,rfl,ru⟩:=rv.one
 obtain⟨z,its,n,r,hl,e⟩:=I.lstM hH
 refine call_meets F.slot_list_append ⟨_,e,rfl⟩ F.entry_list_append (F.args_list_append_2 _ _) (PySem.list_append l its.toArray n u (by rw[List.size_toArray];omega)) ⟨e,?_⟩
 refine⟨.non,_,I.lset (its':=its++[u]) hH e (by simp) (r.append (.cons ru .nil)) ?_,rfl,q⟩
 rw[List.length_append,List.length_singleton]
 omega
end
section
variable {prog:Program} {w:World} {A:Around} {E:Value->Shared->Prop} {s:Shared}
end
section
variable {X:Cx}
end
end L2
namespace Att
open PySem PySem.W PySem.Calls PyProof.Rows
theorem lM {P:Params} {h:Heap}:∀(ns:List Int) (vs:List Value),WellAll P h vs (ns.map WData.int)->IntsAre vs ns:=by
 intro ns
 induction ns with
 | nil =>
  intro vs w
  rw[List.map_nil] at w
  cases w
  exact .nil
 | cons n ns ih =>
  intro vs w
  rw[List.map_cons] at w
  cases w with
  | cons a b =>
   cases a
   exact .cons _ _ (ih _ b)
theorem xR {l:OpenLaw} {n:Nat} (hn:l.most=some n) {P:Params} {h:Heap} {args:List WData} {vals:List Value}
  (hpre:l.row.toRowW.claim.pre args=true) (hwl:WellAll P h vals args) :
  ∃a vs ns,vals=[Value.ref a]/\args=[WData.list (ns.map WData.int)]/\h.get? a=some { cls:=.type "list",data:=.seq vs.toArray }/\IntsAre vs ns/\ns.length<=n:=by
 have hsh:WShape.hasAll [] args [.list .int]=true:=(pre_splitW hpre).1
 have hc:l.pre.holds [] { args:=args } = true:=(pre_splitW hpre).2
 obtain⟨d,r,rfl,h1,h2⟩:=hasAllW_cons hsh
 obtain rfl:=hasAllW_nil h2
 obtain⟨xs,rfl,h3⟩:=hasW_list h1
 obtain⟨ns,rfl⟩:=items_int h3
 have hlen:ns.length<=n:=by
  unfold OpenLaw.pre at hc
  have h4:(WTm.not (.lt (.lit (.int (n:Int))) (.len (.arg 0)))).holds [] { args:=[.list (ns.map .int)] } = true:=by
   have h4:=(holds_andW hc).1
   rw[hn] at h4
   exact h4
  have h5:=condW_of h4 (w_not (w_lt w_lit (w_len_list (w_arg rfl))))
  rw[List.length_map] at h5
  refine Nat.le_of_not_lt λq=>?_
  have q':(n:Int)<((ns.length:Nat):Int):=by omega
  first
   | (rw[decide_eq_true q'] at h5;exact absurd h5 (by decide))
   | (simp at h5;omega)
 cases hwl with
 | cons w1 w2 =>
  cases w2
  cases w1 with
  | list ho hall=>exact⟨_,_,ns,rfl,rfl,ho,lM ns _ hall,hlen⟩
theorem xJ (l:OpenLaw) (args:List WData):l.row.toRowW.claim.post args (.bool true) args=true :=
 postW_of (r:=l.row.toRowW) (X:=(true == true))
  (show WShape.has [] (.bool true) .bool=true by first | rfl | decide | simp[WShape.has,WShape.arms,WShape.armsAll])
  (show (WTm.eq .res (.lit (.bool true))).value [] { args:=args,res:=some (.bool true),after:=args } = some (.bool (true == true)) from w_eq_bool (w_res rfl) w_lit) rfl
theorem attach_call {l:OpenLaw} {n:Nat} {q:Program} {loose:List Str} {XP:(Str->Option Value)->Heap->Prop} {YP:World->Heap->Prop} {d:DefRec}
  (hn:l.most=some n) (hdf:d.params.defaults=[])
  (call:∀(w:World) (s₀ s₁:Shared) (mg mb:Str->Option Value) (fa:Addr) (o:Obj) (pm cd doc:Value) (a:Addr) (vs:List Value) (ns:List Int),
   Ground q loose [] XP w s₀ mg mb s₁.heap->YP w s₁.heap ->
   s₁.heap.get? fa=some o->o.data = .func (docDef d.name d.params d.body d.scope pm cd doc)->s₁.heap.CodeRec cd d.name->mg d.name=some (.ref fa) ->
   s₁.heap.get? a=some { cls:=.type "list",data:=.seq vs.toArray }->IntsAre vs ns->ns.length<=n->s₁.gens = #[] ->
   codeAny (model l.prog w) callerA (.call (.ref fa) ⟨[.ref a],[]⟩) (λr s'=>r = .ok (.ret (.bool true))/\OldK s₁.heap s'.heap/\s'.os=s₁.os/\AllBare s'.gens) s₁) :
  WalkO q loose XP YP l.row.toRowW d [] (λf vs=>PySem.call f vs):=by
 intro w s₀ s₁ mg mb G Y fa o pm cd doc dV kV ho hd hcd hD hmg hg args vals as hpre hlay hrd hwl hlo
 obtain rfl:dV = .none:=Dflts.none hD hdf
 obtain rfl:kV = .none:=Dflts.noKw hD
 obtain⟨a,vs,ns,rfl,rfl,hobj,hints,hlen⟩:=xR hn hpre hwl
 refine enter_call (codeAny_mono (call w s₀ s₁ mg mb fa o pm cd doc a vs ns G Y ho (fd_plain hd) hcd hmg hobj hints hlen hg) λr s' hq=>?_)
 obtain⟨rfl,h2,h3,h4⟩:=hq
 exact⟨.inl ⟨.bool true,.bool true,[],rfl,λ_=>rfl,.bool true,xJ l _,λ_=>⟨List.Pairwise.nil,λ_ hm=>(nomatch hm)⟩⟩,h2,h3,h4⟩
section
variable {prog:Program} {w:World} {A:Around} {E:Value->Shared->Prop} {s:Shared} {K:Frag}
end
end Att
namespace L2
open PySem PySem.Spec PyProof.Rows
theorem fG:∀{vs:List Value} {ns:List Int},IntsAre vs ns->Vals (ns.map V.int) vs
 | _,_,.nil=>.nil
 | _,_,.cons n t h=>.cons ⟨t,rfl⟩ (fG h)
noncomputable def AL (H:Hp):Prop:=∀b,H b=none\/∃o xs,H b=some (.frz o (.lst xs))
theorem yX {P:Program} {w:World} {K:PySem.W.Frag} {mg mb:Str->Option Value} {CX:CXT} {k:Nat} {fa a:Addr} {fd:FuncData} {x:Str} {sp:Sp} {s₁:Shared} {vs:List Value} {ns:List Int}
  (KX:K.In s₁.heap) (hns:s₁.heap.Ns mainGlobals mg) (hb:s₁.heap.Ns builtinsNs mb) (hbb:∀x:Str,x≠"__name__"->mb x=bootBuiltins x) (hlim:s₁.heap.NoLimit) (hg:s₁.gens = #[])
  (ha:s₁.heap.get? a=some { cls:=.type "list",data:=.seq vs.toArray }) (hi:IntsAre vs ns) (hl:ns.length<=sizeLine) (hr:Room k callerA)
  (F:∀base:Heap,K.In base->base.Ns mainGlobals mg->FnOk P w K mg base CX k fa fd [x] sp) (hbind:∀(s:Shared) (u:Value),BindsTo s fd ⟨[u],[]⟩ [(x,u)])
  (hsp:∀H:Hp,AL H->SqL K H a (ns.map V.int)->sp [.ref a] H (λv _=>v = .bl true) λ_ _ _=>False)
  (hCX:∀H e s',CX [] H s₁ (λ_ _ _=>False) e s'->False) :
  codeAny (model P w) callerA (.call (.ref fa) ⟨[.ref a],[]⟩) (λr s'=>r = .ok (.ret (.bool true))/\OldK s₁.heap s'.heap/\s'.os=s₁.os/\AllBare s'.gens) s₁:=by
 have rv:=fG hi
 have lenV:=hi.length
 have core:∀H:Hp,AL H->SqL K H a (ns.map V.int)->HOk P w H s₁.heap->(∀b,H b≠none->b=a)->(H a≠none->K.lookup a=none) ->
   codeAny (model P w) callerA (.call (.ref fa) ⟨[.ref a],[]⟩) (λr s'=>r = .ok (.ret (.bool true))/\OldK s₁.heap s'.heap/\s'.os=s₁.os/\AllBare s'.gens) s₁:=by
  intro H hO hS hok hA hK
  have base_of:∀{b:Addr} {o:Obj},s₁.heap.get? b=some o->H b=none->(qA s₁.heap H).get? b=some o:=λe n=>yT e n
  have noA:∀{b:Addr} {o:Obj} {es:Array DictEntry} {ep:Nat},s₁.heap.get? b=some o->o.data = .dict es ep->H b=none:=λ{b o es ep} e d=>by
   cases q:H b with
   | none=>rfl
   | some u =>
    have e':b=a:=hA b (by rw[q];simp)
    subst e'
    rw[ha] at e;cases e
    have d':Data.seq vs.toArray _=Data.dict es ep:=d
    cases d'
  have nsK:∀{b:Addr} {m:Str->Option Value},s₁.heap.Ns b m->(qA s₁.heap H).Ns b m:=λ{b m} ⟨o,es,ep,e,d,r⟩=>⟨o,es,ep,base_of e (noA e d),d,r⟩
  have hKb:K.In (qA s₁.heap H):=λb o e=>base_of (KX b o e) (by
   cases q:H b with
   | none=>rfl
   | some u =>
    have e':b=a:=hA b (by rw[q];simp)
    subst e'
    rw[hK (by rw[q];simp)] at e;cases e)
  have hM:Mod K mg (qA s₁.heap H):=⟨hKb,nsK hns,⟨mb,nsK hb,hbb⟩,let ⟨mc,h1,h2⟩:=hlim;⟨mc,nsK h1,h2⟩⟩
  have e0:Env0 P w K mg (qA s₁.heap H) callerA [] s₁ H:=⟨rfl,hM,λb o e=>BS e,Nat.le_of_eq (wN _ _),trivial,λb hb=>absurd (show b∈([]:List Addr) from hb) (by simp),hok,.of_eq hg⟩
  refine codeAny_mono ((F _ hKb (nsK hns)).run callerA [] s₁ H ⟨[.ref a],[]⟩ [.ref a] [.ref a] _ _ hr e0 (hbind s₁ (.ref a)) (.cons rfl .nil) (hsp H hO hS)) λr s' h=>?_
  cases r with
  | error e=>exact (hCX H e s' h).elim
  | ok fl =>
   cases fl with
   | next=>exact False.elim h
   | brk=>exact False.elim h
   | cont=>exact False.elim h
   | ret u =>
    obtain⟨v,H',os,bare,un,hok',r',q⟩:=h
    have q':v = .bl true:=q
    subst q'
    obtain rfl:u=Value.bool true:=r'
    refine⟨rfl,OldK.of_keep λb o e=>?_,os,bare⟩
    cases q:H b with
    | none=>exact un.keep b o e q (by intro z;exact absurd (show b∈([]:List Addr) from z) (by simp)) (by simp)
    | some u =>
     rcases hO b with z | ⟨ob,xs,z⟩
     ·rw[q] at z;cases z
     ·have z2:=un.frzs b ob _ z
      obtain⟨e1,_⟩:=hok b _ z
      obtain⟨e2,_⟩:=hok' b _ z2
      rw[e] at e1;cases e1
      exact e2
 cases hk:K.lookup a with
 | some o =>
  have e:=KX a o hk
  rw[ha] at e
  cases e
  refine core (λ_=>none) (λ_=>.inl rfl) (.inr ⟨_,vs.toArray,_,hk,rfl,rfl,rfl,by rw[List.size_toArray,lenV];exact hl,by simpa using rv⟩) (λb u z=>by have z':(none:Option HO)=some u:=z;cases z') (λb z=>absurd rfl z) λz=>absurd rfl z
 | none =>
  refine core (λb=>if b=a then some (.frz { cls:=.type "list",data:=.seq vs.toArray } (.lst (ns.map V.int))) else none) (λb=>?_) (.inl (.inr ⟨{ cls:=.type "list",data:=.seq vs.toArray },if_pos rfl⟩)) (λb u z=>?_) (λb z=>?_) λ_=>hk
  ·by_cases hb:b=a
   ·exact .inr ⟨_,_,if_pos hb⟩
   ·exact .inl (if_neg hb)
  ·by_cases hb:b=a
   ·have z':=(if_pos hb).symm.trans z
    cases z'
    subst hb
    exact⟨ha,by rw[List.length_map];exact hl,vs,_,rv,ha⟩
   ·have z':=(if_neg hb).symm.trans z
    cases z'
  ·by_cases hb:b=a
   ·exact hb
   ·exact absurd (if_neg hb) z
end L2
namespace L2
open PySem PySem.Spec PyProof.Rows
noncomputable abbrev KOf {K:PySem.W.Frag} {h:Heap} (_:K.In h):PySem.W.Frag:=K
theorem walk_of {l:PySem.W.OpenLaw} {n k:Nat} {q:Program} {loose:List Str} {XP:(Str->Option Value)->Heap->Prop} {YP:World->Heap->Prop} {d:DefRec} {K:Params->PySem.W.Frag} {CX:World->CXT} {sp:World->Sp} {x:Str}
  (hn:l.most=some n) (hn2:n<=sizeLine) (hdf:d.params.defaults=[]) (hr:Room k callerA)
  (hY:∀(w:World) (h:Heap),YP w h->(K w.params).In h)
  (F:∀(w:World) (mg:Str->Option Value) (fa:Addr) (h:Heap),(K w.params).In h->h.Ns mainGlobals mg->mg d.name=some (.ref fa) ->
   ∃fd:FuncData,(∀(s:Shared) (u:Value),BindsTo s fd ⟨[u],[]⟩ [(x,u)]) /\
    ∀base:Heap,(K w.params).In base->base.Ns mainGlobals mg->FnOk l.prog w (K w.params) mg base (CX w) k fa fd [x] (sp w))
  (hsp:∀(w:World) (H:Hp) (a:Addr) (ns:List Int),ns.length<=n->AL H->SqL (K w.params) H a (ns.map V.int)->sp w [.ref a] H (λv _=>v = .bl true) λ_ _ _=>False)
  (hCX:∀(w:World) (H:Hp) (s:Shared) (e:Value) (s':Shared),CX w [] H s (λ_ _ _=>False) e s'->False) :
  PySem.W.WalkO q loose XP YP l.row.toRowW d [] (λf vs=>PySem.call f vs):=by
 refine Att.attach_call hn hdf λw s₀ s₁ mg mb fa o pm cd doc a vs ns G Y ho hd hcd hmg hobj hints hlen hg=>?_
 have KX:=hY w _ Y
 obtain⟨fd,hb,hF⟩:=F w mg fa _ KX G.T.g hmg
 exact yX KX G.T.g G.T.b G.T.builtins G.T.nolimit hg hobj hints (Nat.le_trans hlen hn2) hr hF hb (λH hO hS=>hsp w H a ns hlen hO hS) λH e s'=>hCX w H s₁ e s'
end L2
namespace L2
open PySem PySem.Spec PyProof.Rows
noncomputable def bC (s:Stmt):Arguments:=match s with
 | .FunctionDef _ a _ _ _ _ _ _ _ _=>a
 | _=>{ posonlyargs:=[],args:=[],vararg:=none,kwonlyargs:=[],kw_defaults:=[],kwarg:=none,defaults:=[] }
noncomputable def aL (s:Stmt):List Stmt:=match s with
 | .FunctionDef _ _ b _ _ _ _ _ _ _=>b
 | _=>[]
noncomputable def aC (s:Stmt):Scope:=match s with
 | .FunctionDef _ _ _ _ _ _ sc _ _ _=>sc
 | _=>{ kind:=.function,names:=[],isGenerator:=false,isCoroutine:=false }
noncomputable abbrev CX0:CXT:=λ_ _ _ _ _ _=>False
noncomputable abbrev E0:XK:=λ_ _ _=>False
theorem zL {X:Cx}:tE CX0 X E0:=λ_ _ _ _ _ _ _ h=>h.elim
structure Fun (K:PySem.W.Frag) (x qual:Str) (st:Stmt) (f:Addr) (fd:FuncData):Prop where
 ex:∃(oc:Value) (od:Option Addr) (kV doc pm:Value) (an:Option Addr) (cdv ct:Value) (osl:Array (Option Value)),
  fd=PySem.W.fnOf x qual (bC st) (aL st) (aC st) .none kV doc pm an cdv ct/\K.lookup f=some ⟨oc,od,.func fd,osl⟩/\PySem.W.codeIn K cdv qual=true
 kp:PySem.W.keepIn K (.ref f)=true
section
variable {P:Program} {w:World} {K:PySem.W.Frag} {mg:Str->Option Value} {base:Heap}
theorem Fun.ok {x qual:Str} {st:Stmt} {f:Addr} {fd:FuncData} {N ps:List Str} {k:Nat} {sp:Sp} (F:Fun K x qual st f fd) (S:FnScope N ps (aC st)) (len:∀vs H Q E,sp vs H Q E->vs.length=ps.length)
  (hbody:∀(cdv:Value) (A:Around) (outer:List Env) (s:Shared) (H:Hp) (vs:List V) (Q:VK) (E:XK),Room k (A.deeper (envOfC qual (aC st) s.heap.objs.size f cdv))->sp vs H Q E ->
   ∃t,PSs (bV CX0 P w K mg base N qual (aC st) f cdv A outer s H E).nox (aL st) t/\t { nx:=λ_ H'=>Q .non H',rt:=Q } (gY N vs) H):FnOk P w K mg base CX0 (k+1) f fd ps sp:=by
 obtain⟨oc,od,kV,doc,pm,an,cdv,ct,osl,rfl,lk,hcd⟩:=F.ex
 refine GH lk hcd S len λA outer s H vs Q E hr hsp=>?_
 obtain⟨t,h,q⟩:=hbody cdv A outer s H vs Q E hr hsp
 exact⟨t,h.nox,q⟩
theorem bL {x qual:Str} {st:Stmt} {f:Addr} {oc:Value} {od an:Option Addr} {osl:Array (Option Value)} {kV doc pm cdv ct:Value} (l:K.lookup f=some ⟨oc,od,.func (PySem.W.fnOf x qual (bC st) (aL st) (aC st) .none kV doc pm an cdv ct),osl⟩)
  (c:PySem.W.codeIn K cdv qual=true) (k:PySem.W.keepIn K (.ref f)=true):Fun K x qual st f (PySem.W.fnOf x qual (bC st) (aL st) (aC st) .none kV doc pm an cdv ct):=⟨⟨oc,od,kV,doc,pm,an,cdv,ct,osl,rfl,l,c⟩,k⟩
end
section
variable {X:Cx}
theorem pv (i:Nat) {x:Str} {pos:Pos} (hN:X.N[i]? = some x:=by rfl) (hv:Vis X.env.scope x:=by walk_at "vis") (hd:(x == ("__debug__":Str))=false:=by decide)
  (hcd:(x == ("__classdict__":Str))=false:=by decide):PE X (.Name x pos) (HX i):=FG hN hv hd hcd
end
noncomputable def Same (H H':Hp):Prop:=∀b o,H b=some o->H' b=some o
theorem Same.refl (H:Hp):Same H H:=λ_ _ h=>h
theorem Same.trans {H H1 H2:Hp} (a:Same H H1) (b:Same H1 H2):Same H H2:=λc o h=>b c o (a c o h)
theorem Same.free {H H':Hp} (e:Same H H') {l:Addr} (h:H' l=Option.none):H l=Option.none:=by
 cases q:H l with
 | none=>rfl
 | some o =>
  rw[e l o q] at h
  cases h
end L2
set_option linter.all false
namespace L2.R2
noncomputable abbrev Pt:=Int × Int
noncomputable def ltP (a b:Pt):Prop:=a.1<b.1\/(a.1=b.1/\a.2<b.2)
instance (a b:Pt):Decidable (ltP a b):=by unfold ltP;infer_instance
end L2.R2
set_option Elab.async false
set_option linter.all false
set_option maxRecDepth 100000
set_option maxHeartbeats 4000000
namespace L2.R2
namespace K33
theorem rY {α β:Type} (f g:α->List β):∀l:List α,(l.flatMap f++l.flatMap g).Perm (l.flatMap λx=>f x++g x)
 | []=>.refl _
 | x::l=>by
  rw[List.flatMap_cons,List.flatMap_cons,List.flatMap_cons]
  have ih:=rY f g l
  have e:f x++l.flatMap f++(g x++l.flatMap g)=f x++(l.flatMap f++(g x++l.flatMap g)):=by rw[List.append_assoc]
  rw[e,List.append_assoc]
  refine List.Perm.append_left _ ?_
  have e2:(l.flatMap f++(g x++l.flatMap g)).Perm (g x++(l.flatMap f++l.flatMap g)):=by
   rw[<-List.append_assoc,<-List.append_assoc]
   exact List.Perm.append_right _ List.perm_append_comm
  exact e2.trans (List.Perm.append_left _ ih)
theorem mI {α β:Type} (f:α->List β) (p:α->Bool) (h:∀x,p x=false->f x=[]):∀l:List α,l.flatMap f=(l.filter p).flatMap f
 | []=>rfl
 | x::l=>by
  rw[List.flatMap_cons,mI f p h l,List.filter_cons]
  by_cases e:p x=true
  ·rw[if_pos e,List.flatMap_cons]
  ·rw[if_neg e,h x (by simpa using e),List.nil_append]
theorem oU {α β:Type} [DecidableEq α] (f:α->List β) {l m:List α} (hl:l.Nodup) (hm:m.Nodup) (h1:∀x∈l,f x≠[]->x∈m) (h2:∀x∈m,f x≠[]->x∈l):(l.flatMap f).Perm (m.flatMap f):=by
 have k:∀x,(!(f x).isEmpty)=false->f x=[]:=λx e=>by simpa using e
 rw[mI f (λx=>!(f x).isEmpty) k l,mI f (λx=>!(f x).isEmpty) k m]
 refine List.Perm.flatMap_right _ ?_
 have ne:∀x,(!(f x).isEmpty)=true->f x≠[]:=λx e z=>by rw[z] at e;cases e
 refine (List.perm_ext_iff_of_nodup (hl.sublist List.filter_sublist) (hm.sublist List.filter_sublist)).mpr λx=>?_
 rw[List.mem_filter,List.mem_filter]
 exact⟨λ⟨a,b⟩=>⟨h1 x a (ne x b),b⟩,λ⟨a,b⟩=>⟨h2 x a (ne x b),b⟩⟩
theorem rX {α:Type} (p:α->Bool):∀l:List α,(l.filter p++l.filter λx=>!p x).Perm l
 | []=>.refl _
 | x::l=>by
  have ih:=rX p l
  rw[List.filter_cons,List.filter_cons]
  cases e:p x with
  | true=>simpa using ih
  | false =>
   simp only[Bool.false_eq_true,if_false,Bool.not_false,if_true]
   exact List.perm_middle.trans (.cons x ih)
theorem rZ {α:Type} (k:α->Int):∀(cs:List Int) (es:List α),cs.Nodup->(∀e∈es,k e∈cs)->(cs.flatMap λc=>es.filter λe=>decide (k e=c)).Perm es
 | [],es,_,h=>by
  cases es with
  | nil=>exact .refl _
  | cons e es=>exact absurd (h e (.head _)) List.not_mem_nil
 | c::cs,es,nd,h=>by
  have nd':=List.nodup_cons.mp nd
  rw[List.flatMap_cons]
  have e1:(cs.flatMap λc=>es.filter λe=>decide (k e=c))=cs.flatMap λc'=>(es.filter λe=>!decide (k e=c)).filter λe=>decide (k e=c'):=by
   rw[List.flatMap_def,List.flatMap_def]
   congr 1
   refine List.map_congr_left λc' hc=>?_
   rw[List.filter_filter]
   refine List.filter_congr λe _=>?_
   by_cases z:k e=c'
   ·have:¬k e=c:=λy=>nd'.1 (by rw[<-y,z];exact hc)
    rw[decide_eq_true z,decide_eq_false this];rfl
   ·rw[decide_eq_false z];rfl
  rw[e1]
  refine List.Perm.trans (List.Perm.append_left _ (rZ k cs (es.filter λe=>!decide (k e=c)) nd'.2 λe he=>?_)) (rX _ es)
  have he':=List.mem_filter.mp he
  have:¬k e=c:=by simpa using he'.2
  exact (List.mem_cons.mp (h e he'.1)).resolve_left this
noncomputable abbrev grp {α:Type} (k:α->Int) (es:List α) (c:Int):List α:=es.filter λe=>decide (k e=c)
noncomputable abbrev cU {α:Type} (k:α->Int) (es fs:List α) (cs:List Int):List (α × α):=cs.flatMap λc=>List.zip (grp k es c) (grp k fs c)
noncomputable abbrev bM {α:Type} (k:α->Int) (es fs:List α) (cs:List Int):List α:=cs.flatMap λc=>(grp k es c).drop (grp k fs c).length
theorem vU {α β:Type}:∀(xs:List α) (ys:List β),(List.zip xs ys).map (·.1)=xs.take ys.length
 | [],ys=>by simp
 | _::_,[]=>rfl
 | x::xs,y::ys=>by
  rw[List.zip_cons_cons,List.map_cons,vU xs ys,List.length_cons,List.take_succ_cons]
theorem vV {α β:Type}:∀(xs:List α) (ys:List β),(List.zip xs ys).map (·.2)=ys.take xs.length
 | [],ys=>by simp
 | _::_,[]=>rfl
 | x::xs,y::ys=>by
  rw[List.zip_cons_cons,List.map_cons,vV xs ys,List.length_cons,List.take_succ_cons]
theorem sJ {α β γ:Type} (g:β->γ) (f:α->List β) (l:List α):(l.flatMap f).map g=l.flatMap λx=>(f x).map g:=by rw[List.map_flatMap]
theorem jU {α:Type} {k:α->Int} {es:List α} {c:Int} (h:grp k es c≠[]):∃e∈es,k e=c:=by
 obtain⟨e,he⟩:=List.exists_mem_of_ne_nil _ h
 have:=List.mem_filter.mp he
 exact⟨e,this.1,of_decide_eq_true this.2⟩
theorem take_nil {α:Type} {l:List α} {n:Nat} (h:l.take n≠[]):l≠[]/\n≠0 :=
 ⟨λe=>h (by rw[e,List.take_nil]),λe=>h (by rw[e,List.take_zero])⟩
theorem pG {α:Type} (k:α->Int) (es fs:List α) (cs:List Int) (nd:cs.Nodup) (h:∀e∈es,k e∈cs):((cs.flatMap λc=>(grp k es c).take (grp k fs c).length)++bM k es fs cs).Perm es:=by
 refine (rY _ _ cs).trans ?_
 have e:(cs.flatMap λc=>(grp k es c).take (grp k fs c).length++(grp k es c).drop (grp k fs c).length)=cs.flatMap (grp k es):=by
  congr 1;funext c;rw[List.take_append_drop]
 rw[e]
 exact rZ k cs es nd h
theorem sP {α:Type} (k:α->Int) (es fs:List α) (cs:List Int) (nd:cs.Nodup) (h:∀e∈es,k e∈cs):((cU k es fs cs).map (·.1)++bM k es fs cs).Perm es:=by
 have e:(cU k es fs cs).map (·.1)=cs.flatMap λc=>(grp k es c).take (grp k fs c).length:=by
  unfold cU;rw[sJ];congr 1;funext c;exact vU _ _
 rw[e]
 exact pG k es fs cs nd h
theorem zR {α:Type} (k:α->Int) (es fs:List α) (cs ds:List Int) (nd:cs.Nodup) (nd':ds.Nodup) (h:∀e∈es,k e∈cs) (h':∀e∈fs,k e∈ds):((cU k es fs cs).map (·.2)++bM k fs es ds).Perm fs:=by
 have e:(cU k es fs cs).map (·.2)=cs.flatMap λc=>(grp k fs c).take (grp k es c).length:=by
  unfold cU;rw[sJ];congr 1;funext c;exact vV _ _
 rw[e]
 have e2:(cs.flatMap λc=>(grp k fs c).take (grp k es c).length).Perm (ds.flatMap λc=>(grp k fs c).take (grp k es c).length):=by
  refine oU _ nd nd' (λc _ hc=>?_) (λc _ hc=>?_)
  ·obtain⟨x,hx,e⟩:=jU (take_nil hc).1
   exact e ▸ h' x hx
  ·have:grp k es c≠[]:=λz=>(take_nil hc).2 (by rw[z];rfl)
   obtain⟨x,hx,e⟩:=jU this
   exact e ▸ h x hx
 exact (List.Perm.append_right _ e2).trans (pG k fs es ds nd' h')
theorem oY {α:Type} {k:α->Int} {es fs:List α} {cs:List Int} {e:α} (h:e∈bM k es fs cs):e∈es/\(grp k fs (k e)).length<(grp k es (k e)).length:=by
 obtain⟨c,hc,he⟩:=List.mem_flatMap.mp h
 have l:=List.length_pos_of_mem he
 rw[List.length_drop] at l
 have m:=List.mem_filter.mp (List.mem_of_mem_drop he)
 have ec:k e=c:=of_decide_eq_true m.2
 rw[ec]
 exact⟨m.1,by omega⟩
theorem sC {α:Type} {k:α->Int} {es fs:List α} {cs ds:List Int} {e f:α} (h:e∈bM k es fs cs) (h':f∈bM k fs es ds):k e≠k f:=λz=>by
 have h1:=(oY h).2
 have h2:=(oY h').2
 rw[z] at h1
 omega
theorem xG {α:Type} {k:α->Int} {es fs:List α} {cs:List Int} {p:α × α} (h:p∈cU k es fs cs):p.1∈es/\p.2∈fs/\k p.2=k p.1:=by
 obtain⟨c,hc,he⟩:=List.mem_flatMap.mp h
 have m1:=List.mem_filter.mp (List.of_mem_zip (a:=p.1) (b:=p.2) he).1
 have m2:=List.mem_filter.mp (List.of_mem_zip (a:=p.1) (b:=p.2) he).2
 exact⟨m1.1,m2.1,(of_decide_eq_true m2.2).trans (of_decide_eq_true m1.2).symm⟩
theorem eY {α:Type} {k:α->Int} {es fs:List α} {cs:List Int} (nd:cs.Nodup) (h:∀e∈es,k e∈cs):(bM k es fs cs).length<=es.length/\(cU k es fs cs).length<=es.length:=by
 have:=(sP k es fs cs nd h).length_eq
 rw[List.length_append,List.length_map] at this
 omega
theorem iV {α:Type} [BEq α] [LawfulBEq α] {a:α} {l m:List α} (h:(a::l).Perm m):a∈m/\l.Perm (m.erase a):=by
 refine⟨h.mem_iff.mp (.head _),?_⟩
 have:=h.erase a
 rwa [List.erase_cons_head] at this
theorem rW {α:Type} [BEq α] [LawfulBEq α] {a:α}:∀{m:List α} {i:Nat},m[i]? = some a->(∀j,j<i->∀b,m[j]? = some b->b≠a)->m.erase a=m.take i++m.drop (i+1)
 | [],i,e,_=>by simp at e
 | b::m,0,e,_=>by
  simp at e;subst e;simp
 | b::m,i+1,e,h=>by
  have hb:b≠a:=h 0 (Nat.succ_pos _) b rfl
  rw[List.erase_cons_tail (by simpa using hb),rW (m:=m) (i:=i) (by simpa using e) λj hj c hc=>h (j+1) (Nat.succ_lt_succ hj) c (by simpa using hc)]
  simp
end K33
end L2.R2
set_option Elab.async false
set_option linter.all false
namespace L2.R2
noncomputable abbrev AM:=Pt × Pt
end L2.R2
set_option Elab.async false
set_option linter.all false
namespace L2.R2
noncomputable def wid (s:AM):Int:=s.2.1-s.1.1
noncomputable def hB (B:Int) (s:AM) (t:Int):Int:=(s.1.2*wid s+(s.2.2-s.1.2)*(t-s.1.1))*B.fdiv (wid s)
end L2.R2
set_option Elab.async false
set_option linter.all false
namespace L2.R2
end L2.R2
set_option linter.all false
namespace L2.R2
end L2.R2
set_option linter.all false
namespace L2.R2
end L2.R2
set_option linter.all false
namespace L2.R2
end L2.R2
set_option Elab.async false
set_option linter.all false
set_option maxRecDepth 100000
namespace L2.R2
open PySem PySem.Spec PyProof.Rows L2
inductive D where
 | non | bl (b:Bool) | int (i:Int) | str (x:Str) | tup (xs:List D) | lst (xs:List D) | dct (ks:List Int) (xs:List D)
noncomputable def FzL (K:PySem.W.Frag) (H:Hp) (a:Addr) (vs:List V):Prop :=
 (∃o,H a=some (.frz o (.lst vs))) \/
  ∃(o:Obj) (its:Array Value) (n:Nat),K.lookup a=some o/\o.cls = .type "list"/\o.dict=none/\o.data = .seq its n/\its.size<=sizeLine/\Vals vs its.toList
theorem FzL.sq {K:PySem.W.Frag} {H:Hp} {a:Addr} {vs:List V}:FzL K H a vs->SqL K H a vs
 | .inl ⟨o,h⟩=>.inl (.inr ⟨o,h⟩)
 | .inr h=>.inr h
structure Keep (H H':Hp):Prop where
 tups:∀b xs,H b=some (.tup xs)->H' b=some (.tup xs)
 frzs:∀b o u,H b=some (.frz o u)->H' b=some (.frz o u)
theorem Keep.refl (H:Hp):Keep H H:=⟨λ_ _ h=>h,λ_ _ _ h=>h⟩
theorem Keep.trans {H H1 H2:Hp} (a:Keep H H1) (b:Keep H1 H2):Keep H H2 :=
 ⟨λc xs h=>b.tups c xs (a.tups c xs h),λc o u h=>b.frzs c o u (a.frzs c o u h)⟩
theorem Keep.of {H H':Hp} (s:Same H H'):Keep H H':=⟨λb xs h=>s b _ h,λb o u h=>s b _ h⟩
noncomputable def dM (ks:List Int) (vs:List V):List (Key × V):=List.zipWith (λk v=>(Sum.inl k,v)) ks vs
mutual
inductive Rep (K:PySem.W.Frag) (H:Hp):D->V->Prop
 | non:Rep K H .non .non
 | bl (b:Bool):Rep K H (.bl b) (.bl b)
 | int (i:Int):Rep K H (.int i) (.int i)
 | str (x:Str):Rep K H (.str x) (.str x)
 | tup {a:Addr} {vs:List V} {ds:List D} (h:H a=some (.tup vs)) (r:Reps K H ds vs):Rep K H (.tup ds) (.ref a)
 | lst {a:Addr} {vs:List V} {ds:List D} (h:FzL K H a vs) (r:Reps K H ds vs):Rep K H (.lst ds) (.ref a)
 | dct {a:Addr} {vs:List V} {ds:List D} {ks:List Int} {o:Obj} (h:H a=some (.frz o (.dK (dM ks vs)))) (hl:ks.length=vs.length) (r:Reps K H ds vs):Rep K H (.dct ks ds) (.ref a)
inductive Reps (K:PySem.W.Frag) (H:Hp):List D->List V->Prop
 | nil:Reps K H [] []
 | cons {d:D} {v:V} {ds:List D} {vs:List V} (h:Rep K H d v) (t:Reps K H ds vs):Reps K H (d::ds) (v::vs)
end
section
variable {K:PySem.W.Frag} {H H':Hp}
theorem FzL.keep {a:Addr} {vs:List V} (k:Keep H H') (h:FzL K H a vs):FzL K H' a vs:=by
 rcases h with ⟨o,h⟩ | h
 ·exact .inl ⟨o,k.frzs _ _ _ h⟩
 ·exact .inr h
mutual
theorem Rep.keep (k:Keep H H'):∀{d:D} {v:V},Rep K H d v->Rep K H' d v
 | _,_,.non=>.non
 | _,_,.bl b=>.bl b
 | _,_,.int i=>.int i
 | _,_,.str x=>.str x
 | _,_,.tup h r=>.tup (k.tups _ _ h) (Reps.keep k r)
 | _,_,.lst h r=>.lst (FzL.keep k h) (Reps.keep k r)
 | _,_,.dct h hl r=>.dct (k.frzs _ _ _ h) hl (Reps.keep k r)
theorem Reps.keep (k:Keep H H'):∀{ds:List D} {vs:List V},Reps K H ds vs->Reps K H' ds vs
 | _,_,.nil=>.nil
 | _,_,.cons h t=>.cons (Rep.keep k h) (Reps.keep k t)
end
theorem Reps.length:∀{ds:List D} {vs:List V},Reps K H ds vs->ds.length=vs.length
 | _,_,.nil=>rfl
 | _,_,.cons _ t=>by simp[Reps.length t]
theorem Reps.get:∀{ds:List D} {vs:List V} {i:Nat} {d:D},Reps K H ds vs->ds[i]? = some d->∃v,vs[i]? = some v/\Rep K H d v
 | _,_,_,_,.nil,e=>by simp at e
 | _,_,0,_,.cons h _,e=>by simp at e;subst e;exact⟨_,rfl,h⟩
 | _,_,i+1,d,.cons _ t,e=>by
  obtain⟨v,h1,h2⟩:=Reps.get (i:=i) (d:=d) t (by simpa using e)
  exact⟨v,by simpa using h1,h2⟩
theorem Reps.append:∀{ds es:List D} {vs us:List V},Reps K H ds vs->Reps K H es us->Reps K H (ds++es) (vs++us)
 | _,_,_,_,.nil,s=>s
 | _,_,_,_,.cons h t,s=>.cons h (Reps.append t s)
theorem Reps.take:∀{ds:List D} {vs:List V} (n:Nat),Reps K H ds vs->Reps K H (ds.take n) (vs.take n)
 | _,_,0,_=>.nil
 | _,_,_+1,.nil=>.nil
 | _,_,n+1,.cons r t=>.cons r (Reps.take n t)
theorem Reps.drop:∀{ds:List D} {vs:List V} (n:Nat),Reps K H ds vs->Reps K H (ds.drop n) (vs.drop n)
 | _,_,0,r=>r
 | _,_,_+1,.nil=>.nil
 | _,_,n+1,.cons _ t=>Reps.drop n t
theorem Rep.int_inv {i:Int} {v:V} (h:Rep K H (.int i) v):v = .int i:=by cases h;rfl
theorem Rep.bl_inv {b:Bool} {v:V} (h:Rep K H (.bl b) v):v = .bl b:=by cases h;rfl
theorem Reps.ints:∀{ns:List Int},Reps K H (ns.map D.int) (ns.map V.int)
 | []=>.nil
 | _::_=>.cons (.int _) Reps.ints
theorem Reps.ints_inv:∀{ns:List Int} {vs:List V},Reps K H (ns.map D.int) vs->vs=ns.map V.int
 | [],_,h=>by cases h;rfl
 | n::ns,_,h=>by
  cases h with
  | cons h t=>rw[h.int_inv,Reps.ints_inv t];rfl
end
noncomputable def RepB (K:PySem.W.Frag) (H:Hp) (d:D) (v:V):Prop :=
 Rep K H d v\/∃ds a vs,d = .lst ds/\v = .ref a/\H a=some (.lst vs)/\Reps K H ds vs
theorem RepB.same {K:PySem.W.Frag} {H H':Hp} {d:D} {v:V} (s:Same H H') (h:RepB K H d v):RepB K H' d v:=by
 rcases h with h | ⟨ds,a,vs,e1,e2,e3,r⟩
 ·exact .inl (h.keep (.of s))
 ·exact .inr ⟨ds,a,vs,e1,e2,s _ _ e3,r.keep (.of s)⟩
theorem RepB.lst {K:PySem.W.Frag} {H:Hp} {ds:List D} {v:V} (h:RepB K H (.lst ds) v):∃a vs,v = .ref a/\SqL K H a vs/\Reps K H ds vs:=by
 rcases h with h | ⟨ds',a,vs,e1,e2,e3,r⟩
 ·cases h with
  | lst h r=>exact⟨_,_,rfl,h.sq,r⟩
 ·cases e1;exact⟨a,vs,e2,SqL.of e3,r⟩
theorem RepB.tup {K:PySem.W.Frag} {H:Hp} {ds:List D} {v:V} (h:RepB K H (.tup ds) v):∃a vs,v = .ref a/\H a=some (.tup vs)/\Reps K H ds vs:=by
 rcases h with h | ⟨ds',a,vs,e1,e2,e3,r⟩
 ·cases h with
  | tup h r=>exact⟨_,_,rfl,h,r⟩
 ·cases e1
inductive S where
 | d (x:D) | own (xs:List D) | dcl (kvs:List (Int × List D)) | box (t:Bool) (xss:List (List D))
noncomputable def S.val:S->D
 | .d x=>x
 | .own xs=>.lst xs
 | .dcl _=>.non
 | .box _ _=>.non
noncomputable abbrev En:=List (Option S)
inductive Dcl (K:PySem.W.Frag) (H₀ H:Hp):List (Int × List D)->List (Key × V)->List Addr->Prop
 | nil:Dcl K H₀ H [] [] []
 | cons {k:Int} {b:Addr} {vs:List V} {ds:List D} {kvs:List (Int × List D)} {kws:List (Key × V)} {as:List Addr} (h:H b=some (.lst vs)) (h0:H₀ b=none) (r:Reps K H ds vs) (n:b ∉ as) (t:Dcl K H₀ H kvs kws as) :
   Dcl K H₀ H ((k,ds)::kvs) ((Sum.inl k,.ref b)::kws) (b::as)
noncomputable def RelS (K:PySem.W.Frag) (H₀ H:Hp):S->V->Prop
 | .d x,v=>Rep K H x v
 | .own xs,v=>∃a vs,v = .ref a/\H a=some (.lst vs)/\H₀ a=none/\Reps K H xs vs
 | .dcl kvs,v=>∃a kws as,v = .ref a/\H a=some (.dK kws)/\H₀ a=none/\Dcl K H₀ H kvs kws as
 | .box false xss,v=>∃a kws as,v = .ref a/\H a=some (.lst (as.map V.ref))/\H₀ a=none/\a ∉ as/\Dcl K H₀ H (xss.map λx=>(0,x)) kws as
 | .box true xss,v=>∃a kws as,v = .ref a/\H a=some (.tup (as.map V.ref))/\Dcl K H₀ H (xss.map λx=>(0,x)) kws as
noncomputable def Ow (H:Hp):S->V->Addr->Prop
 | .d _,_,_=>False
 | .own _,v,a=>v = .ref a
 | .dcl _,v,a=>∃p kws,v = .ref p/\H p=some (.dK kws)/\(a=p\/∃k,(k,V.ref a)∈kws)
 | .box false _,v,a=>∃p vs,v = .ref p/\H p=some (.lst vs)/\(a=p\/V.ref a∈vs)
 | .box true _,v,a=>∃p vs,v = .ref p/\H p=some (.tup vs)/\V.ref a∈vs
structure StOk (X:Cx) (ρ:En) (σ:St) (H:Hp):Prop where
 len:ρ.length=σ.length
 same:Same X.H₀ H
 rel:∀(i:Nat) (x:S),ρ[i]? = some (some x)->∃v,σ[i]? = some (some v)/\RelS X.K X.H₀ H x v
 sep:∀(i j:Nat) (x y:S) (v u:V) (a:Addr),ρ[i]? = some (some x)->ρ[j]? = some (some y)->σ[i]? = some (some v)->σ[j]? = some (some u)->Ow H x v a->Ow H y u a->i=j
section
variable {K:PySem.W.Frag} {H₀ H H':Hp}
theorem Dcl.keep {kvs:List (Int × List D)} {kws:List (Key × V)} {as:List Addr} (k:Keep H H') (t:Dcl K H₀ H kvs kws as) (w:∀a∈as,∀o,H a=some o->H' a=some o):Dcl K H₀ H' kvs kws as:=by
 induction t with
 | nil=>exact .nil
 | cons h h0 r n t ih=>exact .cons (w _ (.head _) _ h) h0 (r.keep k) n (ih λa m=>w a (.tail _ m))
theorem Dcl.mem {kvs:List (Int × List D)} {kws:List (Key × V)} {as:List Addr} {a:Addr} (t:Dcl K H₀ H kvs kws as):a∈as↔∃k,(k,V.ref a)∈kws:=by
 induction t with
 | nil=>simp
 | cons h h0 r n t ih =>
  rw[List.mem_cons,ih]
  constructor
  ·rintro (rfl | ⟨k,e⟩)
   ·exact⟨_,.head _⟩
   ·exact⟨k,.tail _ e⟩
  ·rintro⟨k,e⟩
   rcases List.mem_cons.mp e with e | e
   ·cases e;exact .inl rfl
   ·exact .inr ⟨k,e⟩
theorem Dcl.at {kvs:List (Int × List D)} {kws:List (Key × V)} {as:List Addr} {a:Addr} (t:Dcl K H₀ H kvs kws as) (m:a∈as):H₀ a=none/\∃vs,H a=some (.lst vs):=by
 induction t with
 | nil=>cases m
 | cons h h0 r n t ih =>
  rcases List.mem_cons.mp m with rfl | m
  ·exact⟨h0,_,h⟩
  ·exact ih m
theorem iW:∀{ks:List Int} {vs:List V},ks.length=vs.length->(dM ks vs).map (·.2)=vs
 | [],[],_=>rfl
 | [],_::_,h=>by cases h
 | _::_,[],h=>by cases h
 | k::ks,v::vs,h=>by
  show v::(dM ks vs).map (·.2)=v::vs
  rw[iW (by simpa using h)]
theorem Dcl.refs {kvs:List (Int × List D)} {kws:List (Key × V)} {as:List Addr} (t:Dcl K H₀ H kvs kws as):kws.map (·.2)=as.map V.ref:=by
 induction t with
 | nil=>rfl
 | cons h h0 r n t ih=>rw[List.map_cons,List.map_cons,ih]
theorem Ow.at {x:S} {v:V} {a:Addr} (r:RelS K H₀ H x v) (w:Ow H x v a):H₀ a=none/\((∃vs,H a=some (.lst vs))\/∃kws,H a=some (.dK kws)):=by
 cases x with
 | d x=>exact w.elim
 | own xs =>
  obtain⟨b,vs,rfl,h,h0,_⟩:=r
  cases w;exact⟨h0,.inl ⟨vs,h⟩⟩
 | dcl kvs =>
  obtain⟨b,kws,as,rfl,h,h0,t⟩:=r
  obtain⟨p,kws',e,h',m⟩:=w
  cases e
  rw[h] at h';cases h'
  rcases m with rfl | m
  ·exact⟨h0,.inr ⟨kws,h⟩⟩
  ·obtain⟨g0,g1⟩:=t.at (t.mem.mpr m)
   exact⟨g0,.inl g1⟩
 | box t xss =>
  cases t with
  | false =>
   obtain⟨b,kws,as,rfl,h,h0,_,t⟩:=r
   obtain⟨p,vs,e,h',m⟩:=w
   cases e
   rw[h] at h';cases h'
   rcases m with rfl | m
   ·exact⟨h0,.inl ⟨_,h⟩⟩
   ·obtain⟨c,hc,e⟩:=List.mem_map.mp m
    cases e
    obtain⟨g0,g1⟩:=t.at hc
    exact⟨g0,.inl g1⟩
  | true =>
   obtain⟨b,kws,as,rfl,h,t⟩:=r
   obtain⟨p,vs,e,h',m⟩:=w
   cases e
   rw[h] at h';cases h'
   obtain⟨c,hc,e⟩:=List.mem_map.mp m
   cases e
   obtain⟨g0,g1⟩:=t.at hc
   exact⟨g0,.inl g1⟩
theorem RelS.move {x:S} {v:V} (k:Keep H H') (r:RelS K H₀ H x v) (w:∀a,Ow H x v a->∀o,H a=some o->H' a=some o):RelS K H₀ H' x v/\∀a,Ow H' x v a->Ow H x v a:=by
 cases x with
 | d x=>exact⟨Rep.keep k r,λa e=>e⟩
 | own xs =>
  obtain⟨b,vs,rfl,h,h0,rr⟩:=r
  exact⟨⟨b,vs,rfl,w b rfl _ h,h0,rr.keep k⟩,λa e=>e⟩
 | dcl kvs =>
  obtain⟨b,kws,as,rfl,h,h0,t⟩:=r
  have hb:=w b ⟨b,kws,rfl,h,.inl rfl⟩ _ h
  refine⟨⟨b,kws,as,rfl,hb,h0,t.keep k λa m=>w a ⟨b,kws,rfl,h,.inr (t.mem.mp m)⟩⟩,λa e=>?_⟩
  obtain⟨p,kws',e,h',m⟩:=e
  cases e
  rw[hb] at h';cases h'
  exact⟨b,kws,rfl,h,m⟩
 | box t xss =>
  cases t with
  | false =>
   obtain⟨b,kws,as,rfl,h,h0,nb,t⟩:=r
   have hb:=w b ⟨b,_,rfl,h,.inl rfl⟩ _ h
   refine⟨⟨b,kws,as,rfl,hb,h0,nb,t.keep k λa m=>w a ⟨b,_,rfl,h,.inr (List.mem_map_of_mem m)⟩⟩,λa e=>?_⟩
   obtain⟨p,vs,e,h',m⟩:=e
   cases e
   rw[hb] at h';cases h'
   exact⟨b,_,rfl,h,m⟩
  | true =>
   obtain⟨b,kws,as,rfl,h,t⟩:=r
   have hb:=k.tups b _ h
   refine⟨⟨b,kws,as,rfl,hb,t.keep k λa m=>w a ⟨b,_,rfl,h,List.mem_map_of_mem m⟩⟩,λa e=>?_⟩
   obtain⟨p,vs,e,h',m⟩:=e
   cases e
   rw[hb] at h';cases h'
   exact⟨b,_,rfl,h,m⟩
theorem RelS.same {x:S} {v:V} (s:Same H H') (h:RelS K H₀ H x v):RelS K H₀ H' x v:=(h.move (.of s) λa _ o e=>s a o e).1
end
section
variable {X:Cx} {ρ:En} {σ:St} {H H':Hp}
theorem StOk.ext (st:StOk X ρ σ H) (s:Same H H'):StOk X ρ σ H':=by
 refine⟨st.len,st.same.trans s,λi x e=>let ⟨v,h1,h2⟩:=st.rel i x e;⟨v,h1,h2.same s⟩,λi j x y v u a e1 e2 e3 e4 o1 o2=>?_⟩
 obtain⟨v',h1,h2⟩:=st.rel i x e1
 obtain⟨u',g1,g2⟩:=st.rel j y e2
 rw[h1] at e3;cases e3
 rw[g1] at e4;cases e4
 exact st.sep i j x y _ _ a e1 e2 h1 g1 ((h2.move (.of s) λa _ o e=>s a o e).2 a o1) ((g2.move (.of s) λa _ o e=>s a o e).2 a o2)
theorem lZ {α:Type} {xs:List (Option α)} {i j:Nat} {x y:α} (e:(xs.set i (some x))[j]? = some (some y)):(j=i/\y=x/\i<xs.length)\/(i≠j/\xs[j]? = some (some y)):=by
 by_cases hj:i=j
 ·subst hj
  by_cases h:i<xs.length
  ·rw[List.getElem?_set_self h] at e;cases e;exact .inl ⟨rfl,rfl,h⟩
  ·rw[List.set_eq_of_length_le (by omega),List.getElem?_eq_none (by omega)] at e;cases e
 ·rw[List.getElem?_set_ne hj] at e;exact .inr ⟨hj,e⟩
theorem StOk.chg (st:StOk X ρ σ H) {i:Nat} {x':S} {v':V} {W:Addr->Prop} (kp:Keep H H') (h0:∀b o,X.H₀ b=some o->H' b=some o) (h1:∀b o,H b=some o->¬W b->H' b=some o) (h2:RelS X.K X.H₀ H' x' v')
  (h3:∀a,Ow H' x' v' a->W a\/H a=none) (h4:∀(j:Nat) (y:S) (u:V) (a:Addr),j≠i->ρ[j]? = some (some y)->σ[j]? = some (some u)->Ow H y u a->¬W a):StOk X (ρ.set i (some x')) (σ.set i (some v')) H':=by
 have old:∀(j:Nat) (y:S),j≠i->ρ[j]? = some (some y)->∃u,σ[j]? = some (some u)/\RelS X.K X.H₀ H y u/\RelS X.K X.H₀ H' y u/\∀a,Ow H' y u a->Ow H y u a:=λj y hj e=>by
  obtain⟨u,g1,g2⟩:=st.rel j y e
  obtain⟨g3,g4⟩:=g2.move kp λa w o e'=>h1 a o e' (h4 j y u a hj e g1 w)
  exact⟨u,g1,g2,g3,g4⟩
 refine⟨by simp[st.len],λb o h=>h0 b o h,λj y e=>?_,λj k y z v u a e1 e2 e3 e4 o1 o2=>?_⟩
 ·rcases lZ e with ⟨rfl,rfl,hl⟩ | ⟨hj,e⟩
  ·exact⟨v',by rw[List.getElem?_set_self (by rw[<-st.len];exact hl)],h2⟩
  ·obtain⟨u,g1,_,g3,_⟩:=old j y (Ne.symm hj) e
   exact⟨u,by rw[List.getElem?_set_ne hj];exact g1,g3⟩
 ·have cross:∀(j:Nat) (y:S) (u:V),i≠j->ρ[j]? = some (some y)->σ[j]? = some (some u)->Ow H' y u a->Ow H' x' v' a->False:=λj y u hj e es o1 o2=>by
   obtain⟨u',g1,g2,g3,g4⟩:=old j y (Ne.symm hj) e
   rw[g1] at es;cases es
   rcases h3 a o2 with w | n
   ·exact h4 j y _ a (Ne.symm hj) e g1 (g4 a o1) w
   ·obtain⟨_,⟨_,q⟩ | ⟨_,q⟩⟩:=Ow.at g2 (g4 a o1) <;> rw[n] at q <;> cases q
  rcases lZ e1 with ⟨rfl,rfl,hl⟩ | ⟨hj,e1'⟩
  ·rcases lZ e2 with ⟨rfl,rfl,_⟩ | ⟨hk,e2'⟩
   ·rfl
   ·rw[List.getElem?_set_self (by rw[<-st.len];exact hl)] at e3;cases e3
    rw[List.getElem?_set_ne hk] at e4
    exact (cross k z u hk e2' e4 o2 o1).elim
  ·rw[List.getElem?_set_ne hj] at e3
   rcases lZ e2 with ⟨rfl,rfl,hl⟩ | ⟨hk,e2'⟩
   ·rw[List.getElem?_set_self (by rw[<-st.len];exact hl)] at e4;cases e4
    exact (cross j y v hj e1' e3 o1 o2).elim
   ·rw[List.getElem?_set_ne hk] at e4
    obtain⟨v',g1,g2,g3,g4⟩:=old j y (Ne.symm hj) e1'
    obtain⟨u',f1,f2,f3,f4⟩:=old k z (Ne.symm hk) e2'
    rw[g1] at e3;cases e3
    rw[f1] at e4;cases e4
    exact st.sep j k y z _ _ a e1' e2' g1 f1 (g4 a o1) (f4 a o2)
theorem StOk.put (st:StOk X ρ σ H) {i:Nat} {x':S} {v':V} (s:Same H H') (h2:RelS X.K X.H₀ H' x' v') (h3:∀a,Ow H' x' v' a->H a=none):StOk X (ρ.set i (some x')) (σ.set i (some v')) H' :=
 st.chg (W:=λ_=>False) (.of s) (λb o h=>s b o (st.same b o h)) (λb o h _=>s b o h) h2 (λa o=>.inr (h3 a o)) λ_ _ _ _ _ _ _ _ z=>z
theorem StOk.updW (st:StOk X ρ σ H) {i:Nat} {x x':S} {v v':V} (e:ρ[i]? = some (some x)) (es:σ[i]? = some (some v)) (h1:∀b o,H b=some o->¬Ow H x v b->H' b=some o) (h2:RelS X.K X.H₀ H' x' v')
  (h3:∀a,Ow H' x' v' a->Ow H x v a\/H a=none):StOk X (ρ.set i (some x')) (σ.set i (some v')) H'/\Keep H H':=by
 obtain⟨v0,g1,g2⟩:=st.rel i x e
 rw[g1] at es;cases es
 have no:∀b o,H b=some o->(∀vs,o≠.lst vs)->(∀kws,o≠.dK kws)->¬Ow H x v b:=λb o h n1 n2 w=>by
  obtain⟨_,⟨_,q⟩ | ⟨_,q⟩⟩:=Ow.at g2 w <;> rw[h] at q <;> cases q
  ·exact n1 _ rfl
  ·exact n2 _ rfl
 have kp:Keep H H':=⟨λb xs h=>h1 b _ h (no b _ h (λ_ z=>by cases z) λ_ z=>by cases z),λb o u h=>h1 b _ h (no b _ h (λ_ z=>by cases z) λ_ z=>by cases z)⟩
 refine⟨st.chg (W:=Ow H x v) kp (λb o h=>h1 b o (st.same b o h) λw=>?_) h1 h2 h3 λj y u a hj ej eu o1 o2=>hj (st.sep j i y x u v a ej e eu g1 o1 o2),kp⟩
 rw[(Ow.at g2 w).1] at h;cases h
theorem StOk.set_d (st:StOk X ρ σ H) {i:Nat} {d:D} {v:V} (r:Rep X.K H d v):StOk X (ρ.set i (some (.d d))) (σ.set i (some v)) H:=st.put (x':=.d d) (Same.refl H) r λ_ o=>o.elim
theorem bR {α:Type} {xs:List α} {i:Nat} {x:α} (e:xs[i]? = some x):xs.set i x=xs:=by
 apply List.ext_getElem? ;intro j
 by_cases hj:i=j
 ·subst hj;rw[List.getElem?_set_self (List.getElem?_eq_some_iff.mp e).1,e]
 ·rw[List.getElem?_set_ne hj]
theorem StOk.set_own (st:StOk X ρ σ H) {i:Nat} {ds:List D} {p:Addr} {vs:List V} (hp:H p=none) (r:Reps X.K H ds vs) :
  StOk X (ρ.set i (some (.own ds))) (σ.set i (some (.ref p))) (upd H p (.lst vs)):=by
 have sm:Same H (upd H p (.lst vs)):=λb o h=>by rw[aF (aJ h hp)];exact h
 exact st.put sm ⟨p,vs,rfl,aM,st.same.free hp,r.keep (.of sm)⟩ λa o=>by cases o;exact hp
theorem StOk.upd_own (st:StOk X ρ σ H) {i:Nat} {xs ds:List D} {p:Addr} {us vs:List V} (e:ρ[i]? = some (some (.own xs))) (es:σ[i]? = some (some (.ref p))) (hp:H p=some (.lst us)) (h0:X.H₀ p=none)
  (r:Reps X.K H ds vs):StOk X (ρ.set i (some (.own ds))) σ (upd H p (.lst vs))/\Keep H (upd H p (.lst vs)):=by
 have kp:Keep H (upd H p (.lst vs)):=⟨λb ys h=>by
   rw[aF (dA h hp (by intro z;cases z))];exact h,λb o u h=>by rw[aF (dA h hp (by intro z;cases z))];exact h⟩
 have:=st.updW (x':=.own ds) (v':=.ref p) e es (H':=upd H p (.lst vs)) (λb o h w=>by rw[aF (by rintro rfl;exact w rfl)];exact h) ⟨p,vs,rfl,aM,h0,r.keep kp⟩ λa o=>.inl o
 rw[bR es] at this
 exact this
end
section
variable {X:Cx} {pins:List (Addr × Obj)} {σ:St} {H:Hp} {s:Shared}
theorem Inv.freezeG {a:Addr} {x:HO} {o:Obj} (I:Inv X pins σ H s) (h:H a=some x) (ho:s.heap.get? a=some o) (n1:∀ys,HO.tup ys≠x) (n2:∀o w,HO.frz o w≠x) (n3:∀ps,HO.tbl ps≠x) (n4:∀c,HO.own c≠x):Inv X pins σ (upd H a (.frz o x)) s:=by
 have ok:=I.hok a _ h
 have ntup:∀b u,H b=some u->u≠x->b≠a:=λb u q d z=>by subst z;rw[h] at q;cases q;exact d rfl
 have st:∀{b:Addr} {u:HO},ObjOk X.prog X.w H s.heap b u->ObjOk X.prog X.w (upd H a (.frz o x)) s.heap b u:=λ{b u} q =>
  q.stay (λc v _ w=>w) (λc w=>by rw[aF (ntup c _ w (n4 _))];exact w) λc ys w=>by rw[aF (ntup c _ w (n1 _))];exact w
 refine I.un (t':=s.toks) (h':=s.heap) ⟨λb o q _ _ _=>q,λb o q _ _ _=>⟨o.slots,q⟩,λb o q n _=>?_,λb o q _=>⟨o,q⟩,λb ys q=>?_,λb o u q=>?_,λb ps q=>⟨#[],?_⟩⟩ λb u q=>?_
 ·rw[aF (λz=>by subst z;rw[h] at n;cases n)];exact n
 ·rw[aF (ntup b _ q (n1 _))];exact q
 ·rw[aF (ntup b _ q (n2 _ _))];exact q
 ·rw[aF (ntup b _ q (n3 _)),q];simp
 ·by_cases hb:b=a
  ·subst hb
   rw[aM] at q;cases q
   exact⟨ho,st ok⟩
  ·rw[aF hb] at q
   exact st (I.hok b u q)
theorem Inv.freeze {a:Addr} {xs:List V} (I:Inv X pins σ H s) (h:H a=some (.lst xs)):∃o,Inv X pins σ (upd H a (.frz o (.lst xs))) s:=by
 obtain⟨z,its,n,r,e⟩:=I.hok a _ h
 exact⟨_,Inv.freezeG I h e (λ_ z=>by cases z) (λ_ _ z=>by cases z) (λ_ z=>by cases z) λ_ z=>by cases z⟩
theorem Inv.freezeD {a:Addr} {kvs:List (Key × V)} (I:Inv X pins σ H s) (h:H a=some (.dK kvs)):∃o,Inv X pins σ (upd H a (.frz o (.dK kvs))) s:=by
 obtain⟨_,_,vs,r,ob,es,ep,e,_⟩:=I.hok a _ h
 exact⟨ob,Inv.freezeG I h e (λ_ z=>by cases z) (λ_ _ z=>by cases z) (λ_ z=>by cases z) λ_ z=>by cases z⟩
theorem Same.upd_new {a:Addr} {o:HO} {H H1:Hp} (s:Same H H1) (n:H a=none):Same H (upd H1 a o):=λb u h=>by
 rw[aF (aJ h n)];exact s b u h
theorem eA:∀(kvs:List (Int × List D)) {kws:List (Key × V)} {as:List Addr} {H:Hp},Inv X pins σ H s->Dcl X.K X.H₀ H kvs kws as ->
  ∃H' vs,Inv X pins σ H' s/\kws=dM (kvs.map (·.1)) vs/\kvs.length=vs.length/\Reps X.K H' (kvs.map λp=>.lst p.2) vs/\Keep H H'/\∀b o,H b=some o->b ∉ as->H' b=some o
 | [],_,_,H,I,t=>by cases t;exact⟨H,[],I,rfl,rfl,.nil,Keep.refl H,λb o h _=>h⟩
 | (k,ds)::kvs,_,_,H,I,t=>by
  cases t with
  | @cons _ b vs _ _ kws as h h0 r n t =>
   obtain⟨o,I1⟩:=Inv.freeze I h
   have kp:Keep H (upd H b (.frz o (.lst vs))):=⟨λc ys q=>by rw[aF (dA q h (by intro z;cases z))];exact q,λc o u q=>by rw[aF (dA q h (by intro z;cases z))];exact q⟩
   obtain⟨H',us,I2,e1,e2,e3,k2,e4⟩:=eA kvs I1 (t.keep kp λa m o e=>by rw[aF (by rintro rfl;exact n m)];exact e)
   subst e1
   refine⟨H',.ref b::us,I2,rfl,by simp[e2],.cons (.lst (.inl ⟨o,k2.frzs _ _ _ aM⟩) (r.keep (kp.trans k2))) e3,kp.trans k2,λc u q m=>?_⟩
   rw[List.mem_cons,not_or] at m
   exact e4 c u (by rw[aF m.1];exact q) m.2
noncomputable def S.fz:S->S
 | .own ds=>.d (.lst ds)
 | .dcl kvs=>.d (.dct (kvs.map (·.1)) (kvs.map λp=>.lst p.2))
 | .box false xss=>.d (.lst (xss.map .lst))
 | .box true xss=>.d (.tup (xss.map .lst))
 | .d x=>.d x
theorem StOk.fz {ρ:En} {i:Nat} {x:S} (so:StOk X ρ σ H) (I:Inv X pins σ H s) (e:ρ[i]? = some (some x)):∃H',Inv X pins σ H' s/\StOk X (ρ.set i (some x.fz)) σ H'/\Keep H H':=by
 obtain⟨v,h1,h2⟩:=so.rel i _ e
 cases x with
 | d x=>exact⟨H,I,by rw[show S.fz (.d x) = .d x from rfl,bR e];exact so,Keep.refl H⟩
 | own ds =>
  obtain⟨p,vs,ev,hp,h0,rr⟩:=id h2
  subst ev
  obtain⟨o,I2⟩:=Inv.freeze I hp
  have kp:Keep H (upd H p (.frz o (.lst vs))):=⟨λc ys q=>by rw[aF (dA q hp (by intro z;cases z))];exact q,λc o u q=>by rw[aF (dA q hp (by intro z;cases z))];exact q⟩
  obtain⟨so2,k2⟩:=so.updW (x':=.d (.lst ds)) (v':=.ref p) e h1 (H':=upd H p (.frz o (.lst vs))) (λb o h w=>by rw[aF (by rintro rfl;exact w rfl)];exact h) (.lst (.inl ⟨o,aM⟩) (rr.keep kp)) λa o=>o.elim
  rw[bR h1] at so2
  exact⟨_,I2,so2,k2⟩
 | dcl kvs =>
  obtain⟨p,kws,as,ev,hp,h0,t⟩:=id h2
  subst ev
  obtain⟨H1,vs,I1,e1,e2,e3,k1,e4⟩:=eA kvs I t
  have np:p ∉ as:=λm=>by obtain⟨_,us,q⟩:=t.at m;rw[hp] at q;cases q
  have hp1:=e4 p _ hp np
  obtain⟨o,I2⟩:=Inv.freezeD I1 hp1
  have kp:Keep H1 (upd H1 p (.frz o (.dK kws))):=⟨λc ys q=>by rw[aF (dA q hp1 (by intro z;cases z))];exact q,λc o u q=>by rw[aF (dA q hp1 (by intro z;cases z))];exact q⟩
  obtain⟨so2,k2⟩:=so.updW (x':=.d (.dct (kvs.map (·.1)) (kvs.map λp=>.lst p.2))) (v':=.ref p) e h1 (H':=upd H1 p (.frz o (.dK kws)))
   (λb o h w=>by
    rw[aF (by rintro rfl;exact w ⟨_,kws,rfl,hp,.inl rfl⟩)]
    exact e4 b o h λm=>w ⟨p,kws,rfl,hp,.inr (t.mem.mp m)⟩)
   (.dct (by rw[aM,e1]) (by simp[e2]) (e3.keep kp)) λa o=>o.elim
  rw[bR h1] at so2
  exact⟨_,I2,so2,k2⟩
 | box t xss =>
  have emap:(xss.map λx=>((0:Int),x)).map (λp=>D.lst p.2)=xss.map D.lst:=by rw[List.map_map];rfl
  cases t with
  | false =>
   obtain⟨p,kws,as,ev,hp,h0,np,t⟩:=id h2
   subst ev
   obtain⟨H1,vs,I1,e1,e2,e3,k1,e4⟩:=eA _ I t
   rw[emap] at e3
   have ea:as.map V.ref=vs:=by rw[<-t.refs,e1];exact iW (by rw[List.length_map];simpa using e2)
   have hp1:=e4 p _ hp np
   obtain⟨o,I2⟩:=Inv.freeze I1 hp1
   have kp:Keep H1 (upd H1 p (.frz o (.lst (as.map V.ref)))):=⟨λc ys q=>by rw[aF (dA q hp1 (by intro z;cases z))];exact q,λc o u q=>by rw[aF (dA q hp1 (by intro z;cases z))];exact q⟩
   obtain⟨so2,k2⟩:=so.updW (x':=.d (.lst (xss.map .lst))) (v':=.ref p) e h1 (H':=upd H1 p (.frz o (.lst (as.map V.ref))))
    (λb o h w=>by
     rw[aF (by rintro rfl;exact w ⟨_,_,rfl,hp,.inl rfl⟩)]
     exact e4 b o h λm=>w ⟨p,_,rfl,hp,.inr (List.mem_map_of_mem m)⟩)
    (.lst (vs:=as.map V.ref) (.inl ⟨o,aM⟩) (by have z:=e3.keep kp;rw[<-ea] at z;exact z)) λa o=>o.elim
   rw[bR h1] at so2
   exact⟨_,I2,so2,k2⟩
  | true =>
   obtain⟨p,kws,as,ev,hp,t⟩:=id h2
   subst ev
   obtain⟨H1,vs,I1,e1,e2,e3,k1,e4⟩:=eA _ I t
   rw[emap] at e3
   have ea:as.map V.ref=vs:=by rw[<-t.refs,e1];exact iW (by rw[List.length_map];simpa using e2)
   obtain⟨so2,k2⟩:=so.updW (x':=.d (.tup (xss.map .lst))) (v':=.ref p) e h1 (H':=H1)
    (λb o h w=>e4 b o h λm=>w ⟨p,_,rfl,hp,List.mem_map_of_mem m⟩)
    (.tup (vs:=as.map V.ref) (k1.tups _ _ hp) (by have z:=e3;rw[<-ea] at z;exact z)) λa o=>o.elim
   rw[bR h1] at so2
   exact⟨_,I1,so2,k2⟩
end
structure Sz (n:Nat):Prop where
 ok:n<=sizeLine
noncomputable abbrev RE:=En->(D->Prop)->Prop
noncomputable abbrev RT:=En->(Bool->Prop)->Prop
noncomputable abbrev RA:=En->(List D->Prop)->Prop
structure DEnds where
 nx:En->Prop
 rt:D->Prop
 bk:En->Prop:=λ_=>False
 ct:En->Prop:=λ_=>False
noncomputable abbrev RS:=DEnds->En->Prop
noncomputable abbrev RG:=D->En->(En->Prop)->Prop
noncomputable def zC (X:Cx) (t:RE):TE:=λσ H Q=>∃ρ P,StOk X ρ σ H/\t ρ P/\∀d v H',P d->Same H H'->Rep X.K H' d v->Q v H'
noncomputable def zB (X:Cx) (t:RE):TE:=λσ H Q=>∃ρ P,StOk X ρ σ H/\t ρ P/\∀d v H',P d->Same H H'->RepB X.K H' d v->Q v H'
noncomputable def GR (X:Cx) (t:RA):TE:=λσ H Q=>∃ρ P,StOk X ρ σ H/\t ρ P/\∀ds p vs H1,P ds->Same H H1->H1 p=none->Reps X.K H1 ds vs->Q (.ref p) (upd H1 p (.lst vs))
noncomputable def DJ (X:Cx) (t:RT):TT:=λσ H Q=>∃ρ P,StOk X ρ σ H/\t ρ P/\∀b H',P b->Same H H'->Q b H'
noncomputable def GO (X:Cx) (t:RA):TA:=λσ H Q=>∃ρ P,StOk X ρ σ H/\t ρ P/\∀ds vs H',P ds->Same H H'->Reps X.K H' ds vs->Q vs H'
noncomputable def DH (X:Cx) (t:RS):TS:=λDe σ H=>∃ρ E,StOk X ρ σ H/\t E ρ/\(∀ρ' σ' H',E.nx ρ'->Keep H H'->StOk X ρ' σ' H'->De.nx σ' H')/\(∀d v H',E.rt d->Keep H H'->Same X.H₀ H'->Rep X.K H' d v->De.rt v H') /\
 (∀ρ' σ' H',E.bk ρ'->Keep H H'->StOk X ρ' σ' H'->De.bk σ' H')/\∀ρ' σ' H',E.ct ρ'->Keep H H'->StOk X ρ' σ' H'->De.ct σ' H'
noncomputable def GP (X:Cx) (g:RG):TG:=λv σ H Q=>∃d ρ P,Rep X.K H d v/\StOk X ρ σ H/\g d ρ P/\∀ρ' σ' H',P ρ'->Keep H H'->StOk X ρ' σ' H'->Q σ' H'
theorem bG {α β:Type} {A B C:α->β->Prop} {R:Prop} (h:∃ρ P,A ρ P/\B ρ P/\C ρ P) (k:∀ρ P,A ρ P->B ρ P->C ρ P->R):R:=let ⟨ρ,P,a,b,c⟩:=h;k ρ P a b c
theorem pX {α β γ:Type} {A B C E:γ->α->β->Prop} {R:Prop} (h:∃d ρ P,A d ρ P/\B d ρ P/\C d ρ P/\E d ρ P) (k:∀d ρ P,A d ρ P->B d ρ P->C d ρ P->E d ρ P->R):R:=let ⟨d,ρ,P,a,b,c,e⟩:=h;k d ρ P a b c e
theorem bX {α β:Type} {A B C E F G:α->β->Prop} {R:Prop} (h:∃ρ P,A ρ P/\B ρ P/\C ρ P/\E ρ P/\F ρ P/\G ρ P) (k:∀ρ P,A ρ P->B ρ P->C ρ P->E ρ P->F ρ P->G ρ P->R):R:=let ⟨ρ,P,a,b,c,e,f,g⟩:=h;k ρ P a b c e f g
noncomputable def DE (X:Cx) (e:Expr) (t:RE):Prop:=PE X e (zC X t)
noncomputable def DB (X:Cx) (e:Expr) (t:RE):Prop:=PE X e (zB X t)
noncomputable def DO (X:Cx) (e:Expr) (t:RA):Prop:=PE X e (GR X t)
noncomputable def DT (X:Cx) (e:Expr) (t:RT):Prop:=PT X e (DJ X t)
noncomputable def DW (X:Cx) (e:Expr) (t:RT):Prop:=PW X e (DJ X t)
noncomputable def DA (X:Cx) (es:List Expr) (t:RA):Prop:=PA X es (GO X t)
noncomputable def DS (X:Cx) (st:Stmt) (t:RS):Prop:=PS X st (DH X t)
noncomputable def DSs (X:Cx) (sts:List Stmt) (t:RS):Prop:=PSs X sts (DH X t)
noncomputable def DG (X:Cx) (tg:Expr) (g:RG):Prop:=PG X tg (GP X g)
theorem PE.mono {X:Cx} {e:Expr} {t t':TE} (h:PE X e t) (m:∀σ H Q,t' σ H Q->t σ H Q):PE X e t':=λpins s σ H Q I q=>h pins s σ H Q I (m σ H Q q)
theorem PT.mono {X:Cx} {e:Expr} {t t':TT} (h:PT X e t) (m:∀σ H Q,t' σ H Q->t σ H Q):PT X e t':=λpins s σ H Q I q=>h pins s σ H Q I (m σ H Q q)
theorem PW.mono {X:Cx} {e:Expr} {t t':TT} (h:PW X e t) (m:∀σ H Q,t' σ H Q->t σ H Q):PW X e t':=λwh pins s σ H Q I q=>h wh pins s σ H Q I (m σ H Q q)
theorem PA.mono {X:Cx} {e:List Expr} {t t':TA} (h:PA X e t) (m:∀σ H Q,t' σ H Q->t σ H Q):PA X e t':=λpos pins s σ H Q I q=>h pos pins s σ H Q I (m σ H Q q)
theorem PS.mono {X:Cx} {e:Stmt} {t t':TS} (h:PS X e t) (m:∀D σ H,t' D σ H->t D σ H):PS X e t':=λpins s σ H D I q=>h pins s σ H D I (m D σ H q)
theorem PSs.mono {X:Cx} {e:List Stmt} {t t':TS} (h:PSs X e t) (m:∀D σ H,t' D σ H->t D σ H):PSs X e t':=λpins s σ H D I q=>h pins s σ H D I (m D σ H q)
theorem PG.mono {X:Cx} {e:Expr} {t t':TG} (h:PG X e t) (m:∀v σ H Q,t' v σ H Q->t v σ H Q):PG X e t':=λpins s σ H v u Q I r q=>h pins s σ H v u Q I r (m v σ H Q q)
section
variable {X:Cx} {e a b c:Expr} {pos:Pos}
theorem DE.bor {t:RE} (h:DE X e t):DB X e t:=PE.mono h λσ H Q hh=>bG hh λρ P st q k=>⟨ρ,P,st,q,λd v H' p s r=>k d v H' p s (.inl r)⟩
theorem DO.val {t:RA} (h:DO X e t):DE X e (λρ Q=>t ρ λds=>Q (.lst ds)):=by
 intro pins s σ H Q I hh_0
 obtain⟨ρ,P,st,q,k⟩:=hh_0
 refine thn (h pins s σ H (λv H'=>∃ds p vs H1,v = .ref p/\H'=upd H1 p (.lst vs)/\P (.lst ds)/\Same H H1/\H1 p=none/\Reps X.K H1 ds vs) I ⟨ρ,_,st,q,λds p vs H1 hp s1 hn r=>⟨ds,p,vs,H1,rfl,rfl,hp,s1,hn,r⟩⟩) λu s1 ⟨v,H',I',rv,ds,p,vs,H1,ev,eH,hp,sm,hn,r⟩=>?_
 subst ev eH
 obtain⟨o,I2⟩:=Inv.freeze I' (a:=p) (xs:=vs) aM
 have sm2:Same H1 (upd (upd H1 p (.lst vs)) p (.frz o (.lst vs))):=λb u e=>by rw[aF (aJ e hn),aF (aJ e hn)];exact e
 exact⟨.ref p,_,I2,rv,k (.lst ds) (.ref p) _ hp (sm.trans sm2) (.lst (.inl ⟨o,aM⟩) (r.keep (.of sm2)))⟩
theorem DO.bor {t:RA} (h:DO X e t):DB X e (λρ Q=>t ρ λds=>Q (.lst ds)):=h.val.bor
noncomputable def aO (i:Nat):RE:=λρ Q=>match ρ[i]? with
 | some (some (.d d))=>Q d
 | _=>False
noncomputable def aE (i:Nat):RE:=λρ Q=>match ρ[i]? with
 | some (some (.d d))=>Q d
 | some (some (.own xs))=>Q (.lst xs)
 | _=>False
theorem dv (i:Nat) {x:Str} (hN:X.N[i]? = some x:=by rfl) (hv:Vis X.env.scope x:=by walk_at "vis") (hd:(x == ("__debug__":Str))=false:=by decide)
  (hcd:(x == ("__classdict__":Str))=false:=by decide):DE X (.Name x pos) (aO i):=by
 refine PE.mono (pv i hN hv hd hcd) λσ H Q hh=>bG hh λρ P st q k=>?_
 unfold aO at q
 split at q
 ·rename_i d e
  obtain⟨v,h1,h2⟩:=st.rel i _ e
  exact⟨v,h1,k d v H q (Same.refl H) h2⟩
 ·exact q.elim
theorem dvb (i:Nat) {x:Str} (hN:X.N[i]? = some x:=by rfl) (hv:Vis X.env.scope x:=by walk_at "vis") (hd:(x == ("__debug__":Str))=false:=by decide)
  (hcd:(x == ("__classdict__":Str))=false:=by decide):DB X (.Name x pos) (aE i):=by
 refine PE.mono (pv i hN hv hd hcd) λσ H Q hh=>bG hh λρ P st q k=>?_
 unfold aE at q
 split at q
 ·rename_i d e
  obtain⟨v,h1,h2⟩:=st.rel i _ e
  exact⟨v,h1,k _ v H q (Same.refl H) (.inl h2)⟩
 ·rename_i xs e
  obtain⟨v,h1,h2⟩:=st.rel i _ e
  obtain⟨a,vs,e1,e2,_,r⟩:=h2
  exact⟨v,h1,k _ v H q (Same.refl H) (.inr ⟨xs,a,vs,rfl,e1,e2,r⟩)⟩
 ·exact q.elim
noncomputable def rC (d:D):RE:=λ_ Q=>Q d
theorem aD {i:Int} {j:Nat}:DE X (.Constant (.int i) j pos) (rC (.int i)):=PE.mono FC λσ H Q hh=>bG hh λρ P st q k=>k _ _ H q (Same.refl H) (.int i)
theorem oP {i:Bool} {j:Nat}:DE X (.Constant (.bool i) j pos) (rC (.bl i)):=PE.mono HB λσ H Q hh=>bG hh λρ P st q k=>k _ _ H q (Same.refl H) (.bl i)
theorem dR {j:Nat}:DE X (.Constant .none j pos) (rC .non):=PE.mono zO λσ H Q hh=>bG hh λρ P st q k=>k _ _ H q (Same.refl H) .non
noncomputable abbrev R22:=D->D->(D->Prop)->Prop
noncomputable def DF (X:Cx) (r:R22):R2:=λx y H Q=>∃d e P,RepB X.K H d x/\RepB X.K H e y/\r d e P/\∀z v H',P z->Same H H'->Rep X.K H' z v->Q v H'
noncomputable def OpD (X:Cx) (f:Value->Value->Sem Value) (r:R22):Prop:=OpR X f (DF X r)
noncomputable def r2 (r:R22) (ta tb:RE):RE:=λρ Q=>ta ρ λx=>tb ρ λy=>r x y Q
variable {ta tb tc:RE}
theorem zA {r:R22} {σ:St} {H:Hp} {Q:VK} (h:zC X (r2 r ta tb) σ H Q):tOp (DF X r) (zB X ta) (zB X tb) σ H Q:=by
 obtain⟨ρ,P,st,ht,hP⟩:=h
 exact⟨ρ,_,st,ht,λx v H1 h1 s1 r1=>⟨ρ,_,st.ext s1,h1,λy u H2 h2 s2 r2=>⟨x,y,P,r1.same s2,r2,h2,λz w H' hz s3 r3=>hP z w H' hz ((s1.trans s2).trans s3) r3⟩⟩⟩
theorem aN {op:Operator} {r:R22} (ho:OpD X (binaryOp op) r) (ha:DB X a ta) (hb:DB X b tb):DE X (.BinOp a op b pos) (r2 r ta tb):=PE.mono (HC ho ha hb) λσ H Q h=>zA h
theorem yI {op:CmpOp} {r:R22} (ho:OpD X (compareOp op) r) (ha:DB X a ta) (hb:DB X b tb) (hm:behindInMarks op b=false:=by exact zD _):DE X (.Compare a [op] [b] pos) (r2 r ta tb):=PE.mono (BX ho ha hb hm) λσ H Q h=>zA h
noncomputable def bD (t:RE):RT:=λρ Q=>t ρ λd=>match d with
 | .bl k=>Q k
 | _=>False
theorem bP {op:CmpOp} {r:R22} (ho:OpD X (compareOp op) r) (ha:DB X a ta) (hb:DB X b tb) (hm:behindInMarks op b=false:=by exact zD _):DT X (.Compare a [op] [b] pos) (bD (r2 r ta tb)):=by
 refine PT.mono (CF ho ha hb hm) λσ H Q hh=>bG hh λρ P st q k=>?_
 refine zA (Q:=λx H'=>∃k,x = .bl k/\Q k H') ⟨ρ,_,st,q,λd v H' hd s r=>?_⟩
 cases d with
 | bl b=>exact⟨b,r.bl_inv,k b H' hd s⟩
 | _=>exact hd.elim
theorem fK (h:DE X e ta) (he:∀whole,isTrue e X.env whole=(do let v <-whole;standAt e.pos;holding [v] (truthy v)):=by intro _;rfl):DT X e (bD ta):=by
 refine PT.mono (FM h he) λσ H Q hh=>bG hh λρ P st q k=>?_
 refine⟨ρ,_,st,q,λd v H' hd s r=>?_⟩
 cases d with
 | bl b=>exact⟨b,r.bl_inv,k b H' hd s⟩
 | _=>exact hd.elim
noncomputable def xL (t u:RT):RT:=λρ Q=>t ρ λc=>if c=true then u ρ Q else Q false
noncomputable def rOr (t u:RT):RT:=λρ Q=>t ρ λc=>if c=true then Q true else u ρ Q
noncomputable def iX (t:RT):RT:=λρ Q=>t ρ λc=>Q (!c)
variable {tA tB:RT} {rest:List Expr}
theorem BH (ha:DT X a tA):DW X (.BoolOp .And [a] pos) tA:=CH ha
theorem mF (ha:DT X a tA):DW X (.BoolOp .Or [a] pos) tA:=FO ha
theorem EI (ha:DT X a tA) (hb:DW X (.BoolOp .And (b::rest) pos) tB):DW X (.BoolOp .And (a::b::rest) pos) (xL tA tB) :=
 PW.mono (FN ha hb) λσ H Q hh=>bG hh λρ P st q k=>⟨ρ,_,st,q,λc H1 hc s1=>by
  cases c with
  | true=>rw[if_pos rfl] at hc ⊢;exact⟨ρ,P,st.ext s1,hc,λd H2 hd s2=>k d H2 hd (s1.trans s2)⟩
  | false=>rw[if_neg Bool.false_ne_true] at hc ⊢;exact k false H1 hc s1⟩
theorem jR (ha:DT X a tA) (hb:DW X (.BoolOp .Or (b::rest) pos) tB):DW X (.BoolOp .Or (a::b::rest) pos) (rOr tA tB) :=
 PW.mono (HG ha hb) λσ H Q hh=>bG hh λρ P st q k=>⟨ρ,_,st,q,λc H1 hc s1=>by
  cases c with
  | false=>rw[if_neg Bool.false_ne_true] at hc ⊢;exact⟨ρ,P,st.ext s1,hc,λd H2 hd s2=>k d H2 hd (s1.trans s2)⟩
  | true=>rw[if_pos rfl] at hc ⊢;exact k true H1 hc s1⟩
theorem DW.tst (h:DW X e tA):DT X e tA:=PW.pt h
theorem gM (ha:DT X a tA):DT X (.UnaryOp .Not a pos) (iX tA):=PT.mono (FL ha) λσ H Q hh=>bG hh λρ P st q k=>⟨ρ,_,st,q,λc H1 hc s1=>k _ H1 hc s1⟩
noncomputable def pA (ta tb:RE):RE:=λρ Q=>ta ρ λd=>match d with
 | .bl k=>if k=true then tb ρ Q else Q (.bl false)
 | _=>False
noncomputable def CI (ta tb:RE):RE:=λρ Q=>ta ρ λd=>match d with
 | .bl k=>if k=true then Q (.bl true) else tb ρ Q
 | _=>False
noncomputable def pC (ta:RE):RE:=λρ Q=>ta ρ λd=>match d with
 | .bl k=>Q (.bl (!k))
 | _=>False
theorem ED {op} (h:DE X a ta):DE X (.BoolOp op [a] pos) ta:=FF h
theorem EB (ha:DE X a ta) (hb:DE X (.BoolOp .And (b::rest) pos) tb):DE X (.BoolOp .And (a::b::rest) pos) (pA ta tb) :=
 PE.mono (FB ha hb) λσ H Q hh=>bG hh λρ P st q k=>⟨ρ,_,st,q,λd v H1 hd s1 r=>by
  cases d with
  | bl c =>
   refine⟨c,r.bl_inv,?_⟩
   cases c with
   | true=>exact⟨ρ,P,st.ext s1,hd,λd v H2 hd s2=>k d v H2 hd (s1.trans s2)⟩
   | false=>exact k (.bl false) (.bl false) H1 hd s1 (.bl false)
  | _=>exact hd.elim⟩
theorem EC (ha:DE X a ta):DE X (.UnaryOp .Not a pos) (pC ta) :=
 PE.mono (FE ha) λσ H Q hh=>bG hh λρ P st q k=>⟨ρ,_,st,q,λd v H1 hd s1 r=>by
  cases d with
  | bl c=>exact⟨c,r.bl_inv,k (.bl !c) (.bl !c) H1 hd s1 (.bl _)⟩
  | _=>exact hd.elim⟩
noncomputable def rIf (t:RT) (ta tb:RE):RE:=λρ Q=>t ρ λc=>if c=true then ta ρ Q else tb ρ Q
noncomputable def GT (X:Cx) (r:D->(D->Prop)->Prop):V->Hp->VK->Prop:=λx H Q=>∃d P,RepB X.K H d x/\r d P/\∀z v H',P z->Same H H'->Rep X.K H' z v->Q v H'
noncomputable def UnD (X:Cx) (f:Value->Sem Value) (r:D->(D->Prop)->Prop):Prop:=UnR X f (GT X r)
noncomputable def r1 (r:D->(D->Prop)->Prop) (ta:RE):RE:=λρ Q=>ta ρ λx=>r x Q
theorem uQ {op:UnaryOp} {r:D->(D->Prop)->Prop} (ho:UnD X (unaryOp op) r) (ha:DB X a ta):DE X (.UnaryOp op a pos) (r1 r ta) :=
 PE.mono (HD ho ha) λσ H Q hh=>bG hh λρ P st q k=>⟨ρ,_,st,q,λd v H1 hd s1 rr=>⟨d,P,rr,hd,λz v H2 hz s2 r2=>k z v H2 hz (s1.trans s2) r2⟩⟩
noncomputable def aI:RA:=λ_ Q=>Q []
noncomputable def aB (t:RE) (u:RA):RA:=λρ Q=>t ρ λx=>u ρ λxs=>Q (x::xs)
variable {es:List Expr} {t:RA}
theorem aH:DA X [] aI:=PA.mono eU λσ H Q hh=>bG hh λρ P st q k=>k [] [] H q (Same.refl H) .nil
theorem aA (ha:DE X e ta) (hr:DA X es t) (hs:starEach (e::es) X.env=(false,eval e X.env)::starEach es X.env:=by rfl):DA X (e::es) (aB ta t) :=
 PA.mono (cC ha hr hs) λσ H Q hh=>bG hh λρ P st q k=>⟨ρ,_,st,q,λd v H1 hd s1 r1=>⟨ρ,_,st.ext s1,hd,λds vs H2 hds s2 r2=>k (d::ds) (v::vs) H2 hds (s1.trans s2) (.cons (r1.keep (.of s2)) r2)⟩⟩
noncomputable def eB (t:RA):RE:=λρ Q=>t ρ λds=>Sz ds.length/\Q (.tup ds)
theorem bW {x1} (h:DA X es t):DE X (.Tuple es x1 pos) (eB t) :=
 PE.mono (zQ h) λσ H Q hh=>bG hh λρ P st q k=>⟨ρ,_,st,q,λds vs H1 hd s1 r=>⟨by rw[<-r.length];exact hd.1.ok,λp hp=>k (.tup ds) (.ref p) _ hd.2 (Same.upd_new s1 (s1.free hp)) (by
  have sm:Same H1 (upd H1 p (.tup vs)):=λb u e=>by rw[aF (aJ e hp)];exact e
  exact .tup aM (r.keep (.of sm)))⟩⟩
noncomputable def dU (t:RA):RA:=λρ Q=>t ρ λds=>Sz ds.length/\Q ds
theorem cE (h:DA X es t):DO X (.List es pos) (dU t) :=
 PE.mono (mU h) λσ H Q hh=>bG hh λρ P st q k=>⟨ρ,_,st,q,λds vs H1 hd s1 r=>⟨by rw[<-r.length];exact hd.1.ok,λp hp=>k ds p vs H1 hd.2 s1 hp r⟩⟩
end
section
variable {X:Cx} {e a b c:Expr} {pos:Pos} {st:Stmt} {rest:List Stmt} {t u:RS} {te:RE} {tA:RT}
noncomputable def aZ (t u:RS):RS:=λE ρ=>t { E with nx:=u E } ρ
noncomputable def bU:RS:=λE ρ=>E.nx ρ
theorem bJ:DSs X [] bU:=PSs.mono CD λDe σ H hh=>bX hh λρ E st q n r b c=>n ρ σ H q (Keep.refl H) st
theorem aK (h:DS X st t):DSs X [st] t:=lY h
theorem aG (h1:DS X st t) (h2:DSs X rest u):DSs X (st::rest) (aZ t u) :=
 PSs.mono (mW h1 h2) λDe σ H hh=>bX hh λρ E st q n r b c=>⟨ρ,_,st,q,λρ' σ' H' h k s=>⟨ρ',E,s,h,λρ2 σ2 H2 x k2=>n ρ2 σ2 H2 x (k.trans k2),λd v H2 x k2=>r d v H2 x (k.trans k2),λρ2 σ2 H2 x k2=>b ρ2 σ2 H2 x (k.trans k2),λρ2 σ2 H2 x k2=>c ρ2 σ2 H2 x (k.trans k2)⟩,r,b,c⟩
theorem yQ:DS X st (λ_ _=>False):=PS.mono zV λDe σ H ⟨ρ,E,st,q,_⟩=>q
noncomputable def bO (te:RE):RS:=λE ρ=>te ρ E.rt
theorem aX (h:DE X e te):DS X (.Return (some e) pos) (bO te) :=
 PS.mono (tY h) λDe σ H hh=>bX hh λρ E st q n r b c=>⟨ρ,_,st,q,λd v H1 hd s1 rr=>r d v H1 hd (.of s1) (st.same.trans s1) rr⟩
noncomputable def vL (te:RE):RS:=λE ρ=>te ρ λ_=>E.nx ρ
noncomputable def dN (c:RT) (t u:RS):RS:=λE ρ=>c ρ λk=>if k=true then t E ρ else u E ρ
theorem cZ {sa sb:List Stmt} (hc:DT X c tA) (ha:DSs X sa t) (hb:DSs X sb u):DS X (.If c sa sb pos) (dN tA t u) :=
 PS.mono (HF hc ha hb) λDe σ H hh=>bX hh λρ E st q n r b c=>⟨ρ,_,st,q,λk H1 hk s1=>by
  cases k with
  | true=>rw[if_pos rfl] at hk ⊢;exact⟨ρ,E,st.ext s1,hk,λρ2 σ2 H2 x k2=>n ρ2 σ2 H2 x ((Keep.of s1).trans k2),λd v H2 x k2=>r d v H2 x ((Keep.of s1).trans k2),λρ2 σ2 H2 x k2=>b ρ2 σ2 H2 x ((Keep.of s1).trans k2),λρ2 σ2 H2 x k2=>c ρ2 σ2 H2 x ((Keep.of s1).trans k2)⟩
  | false=>rw[if_neg Bool.false_ne_true] at hk ⊢;exact⟨ρ,E,st.ext s1,hk,λρ2 σ2 H2 x k2=>n ρ2 σ2 H2 x ((Keep.of s1).trans k2),λd v H2 x k2=>r d v H2 x ((Keep.of s1).trans k2),λρ2 σ2 H2 x k2=>b ρ2 σ2 H2 x ((Keep.of s1).trans k2),λρ2 σ2 H2 x k2=>c ρ2 σ2 H2 x ((Keep.of s1).trans k2)⟩⟩
noncomputable def aT (i:Nat):RG:=λd ρ Q=>Q (ρ.set i (some (.d d)))
theorem aW {i:Nat} {x:Str} (hN:X.N.Nodup) (hi:X.N[i]? = some x:=by rfl) (hx:Loc X.env.scope x:=by walk_at "vis") (hf:X.fn x=true\/X.env.scope.names.lookup x=some .local:=by walk_at "loc"):DG X (.Name x pos) (aT i) :=
 PG.mono (vF hN hi hx hf) λv σ H Q hh=>pX hh λd ρ P r st q k=>k _ _ H q (Keep.refl H) (st.set_d r)
noncomputable abbrev RGs:=List D->En->(En->Prop)->Prop
noncomputable def EV (X:Cx) (g:RGs):TGs:=λvs σ H Q=>∃ds ρ P,Reps X.K H ds vs/\StOk X ρ σ H/\g ds ρ P/\∀ρ' σ' H',P ρ'->Keep H H'->StOk X ρ' σ' H'->Q σ' H'
noncomputable def DGs (X:Cx) (ts:List Expr) (g:RGs):Prop:=PGs X ts (EV X g)
theorem PGs.mono {X:Cx} {e:List Expr} {t t':TGs} (h:PGs X e t) (m:∀v σ H Q,t' v σ H Q->t v σ H Q):PGs X e t':=λpins s σ H v u Q I r q=>h pins s σ H v u Q I r (m v σ H Q q)
noncomputable def dP:RGs:=λds ρ Q=>match ds with
 | []=>Q ρ
 | _=>False
noncomputable def bF (g:RG) (u:RGs):RGs:=λds ρ Q=>match ds with
 | []=>False
 | d::r=>g d ρ λρ'=>u r ρ' Q
theorem dZ:DGs X [] dP:=PGs.mono BZ λvs σ H Q hh=>pX hh λds ρ P r st q k=>by
 cases r with
 | nil=>exact⟨rfl,k ρ σ H q (Keep.refl H) st⟩
 | cons _ _=>exact q.elim
theorem bE {es:List Expr} {g:RG} {u:RGs} (h1:DG X e g) (h2:DGs X es u) (hs:(assignEach (e::es) X.env).map (·.2)=assign e X.env::(assignEach es X.env).map (·.2):=by rfl):DGs X (e::es) (bF g u) :=
 PGs.mono (zS h1 h2 hs) λvs σ H Q hh=>pX hh λds ρ P r st q k=>by
  cases r with
  | nil=>exact q.elim
  | cons r rs =>
   refine⟨_,_,rfl,_,ρ,_,r,st,q,λρ' σ' H' hq k1 st1=>⟨_,ρ',P,rs.keep k1,st1,hq,λρ2 σ2 H2 p k2 s2=>k ρ2 σ2 H2 p (k1.trans k2) s2⟩⟩
noncomputable def eM (n:Nat) (g:RGs):RG:=λd ρ Q=>match d with
 | .tup ds=>ds.length=n/\g ds ρ Q
 | _=>False
theorem gL {es:List Expr} {k:Nat} {g:RGs} {n:Nat} (hc:X.calm=true) (h:DGs X es g) (hn:(assignEach es X.env).length=n:=by rfl) (hst:(assignEach es X.env).findIdx? (·.1)=none:=by rfl):DG X (.Tuple es k pos) (eM n g) :=
 PG.mono (FH hc h hn hst) λv σ H Q hh=>pX hh λd ρ P r st q kk=>by
  cases d with
  | tup ds =>
   cases r with
   | tup h r=>exact⟨_,_,rfl,SqT.of h,by rw[<-r.length];exact q.1,ds,ρ,P,r,st,q.2,kk⟩
  | _=>exact q.elim
noncomputable def sR (te:RE) (g:RG):RS:=λE ρ=>te ρ λd=>g d ρ E.nx
theorem yO {tg:Expr} {g:RG} (he:DE X e te) (hg:DG X tg g) (hs:swapsWithSole [tg] e pos.line X.env=pure false:=by rfl) (hw:swappedStores [tg] e X.env=pure none:=by rfl)
  (h1:(assignEach [tg] X.env).map (·.2)=[assign tg X.env]:=by rfl):DS X (.Assign [tg] e pos) (sR te g) :=
 PS.mono (FJ he hg hs hw h1) λDe σ H hh=>bX hh λρ E st q n r b c=>⟨ρ,_,st,q,λd v H1 hd s1 rr=>⟨d,ρ,_,rr,st.ext s1,hd,λρ2 σ2 H2 x k2 s2=>n ρ2 σ2 H2 x ((Keep.of s1).trans k2) s2⟩⟩
noncomputable def bI (i:Nat) (te:RE):RS:=λE ρ=>te ρ λd=>E.nx (ρ.set i (some (.d d)))
theorem aV {i:Nat} {x:Str} {pos':Pos} (hN:X.N.Nodup) (he:DE X e te) (hi:X.N[i]? = some x:=by rfl) (hx:Loc X.env.scope x:=by walk_at "vis") (hs:swapsWith e (some (.Name x pos')) pos.line X.env=pure false:=by rfl)
  (hf:X.fn x=true\/X.env.scope.names.lookup x=some .local:=by walk_at "loc"):DS X (.Assign [.Name x pos'] e pos) (bI i te) :=
 PS.mono (mV hN hi hx he hs hf) λDe σ H hh=>bX hh λρ E st q n r b c=>⟨ρ,_,st,q,λd v H1 hd s1 rr=>n _ _ H1 hd (.of s1) ((st.ext s1).set_d rr)⟩
noncomputable def iK (i:Nat) (t:RA):RS:=λE ρ=>t ρ λds=>E.nx (ρ.set i (some (.own ds)))
theorem pW {i:Nat} {x:Str} {pos':Pos} {t:RA} (hN:X.N.Nodup) (he:DO X e t) (hi:X.N[i]? = some x:=by rfl) (hx:Loc X.env.scope x:=by walk_at "vis") (hs:swapsWith e (some (.Name x pos')) pos.line X.env=pure false:=by rfl)
  (hf:X.fn x=true\/X.env.scope.names.lookup x=some .local:=by walk_at "loc"):DS X (.Assign [.Name x pos'] e pos) (iK i t) :=
 PS.mono (mV hN hi hx he hs hf) λDe σ H hh=>bX hh λρ E st q n r b c=>⟨ρ,_,st,q,λds p vs H1 hd s1 hp rr=>n _ _ _ hd ((Keep.of s1).trans (.of λb o h=>by rw[aF (aJ h hp)];exact h)) ((st.ext s1).set_own hp rr)⟩
noncomputable def xM (i j:Nat) (t:RA):RS:=λE ρ=>t ρ λds=>match ds with
 | [x,y]=>E.nx ((ρ.set i (some (.d x))).set j (some (.d y)))
 | _=>False
theorem EH {i j:Nat} {x y:Str} {t:RA} {px py pt:Pos} {kt k2 pt2} (hc:X.calm=true) (hN:X.N.Nodup) (ha:DA X [a,b] t) (hi:X.N[i]? = some x:=by rfl) (hj:X.N[j]? = some y:=by rfl) (hij:i≠j:=by decide)
  (hx:X.env.scope.names.lookup x=some .local:=by rfl) (hy:X.env.scope.names.lookup y=some .local:=by rfl)
  (hw:swappedStores [.Tuple [.Name x px,.Name y py] kt pt] (.Tuple [a,b] k2 pt2) X.env=pure (some [x,y]):=by rfl)
  (hs:swapsWithSole [.Tuple [.Name x px,.Name y py] kt pt] (.Tuple [a,b] k2 pt2) pos.line X.env=pure false:=by rfl) :
  DS X (.Assign [.Tuple [.Name x px,.Name y py] kt pt] (.Tuple [a,b] k2 pt2) pos) (xM i j t) :=
 PS.mono (FK hc hN hi hj hij hx hy ha hw hs) λDe σ H hh=>bX hh λρ E st q n r b c=>⟨ρ,_,st,q,λds vs H1 hd s1 rr=>by
  cases rr with
  | nil=>exact hd.elim
  | cons r1 t1 =>
   cases t1 with
   | nil=>exact hd.elim
   | cons r2 t2 =>
    cases t2 with
    | nil=>exact⟨_,_,rfl,n _ _ H1 hd (.of s1) (((st.ext s1).set_d r1).set_d r2)⟩
    | cons _ _=>exact hd.elim⟩
noncomputable def kM (i:Nat) (ρ:En):En:=match ρ[i]? with
 | some (some x)=>ρ.set i (some x.fz)
 | _=>ρ
theorem yP (i:Nat) (h:DS X st t):DS X st (λE ρ=>t E (kM i ρ)):=by
 intro pins s σ H De I ⟨ρ,E,so,q,n,r,b,c⟩
 have q:t E (kM i ρ):=q
 unfold kM at q
 split at q
 ·rename_i x e
  obtain⟨H2,I2,so2,kp⟩:=so.fz I e
  exact h pins s σ _ De I2 ⟨_,E,so2,q,λρ2 σ2 H2 x k2=>n ρ2 σ2 H2 x (kp.trans k2),λd v H2 x k2=>r d v H2 x (kp.trans k2),λρ2 σ2 H2 x k2=>b ρ2 σ2 H2 x (kp.trans k2),λρ2 σ2 H2 x k2=>c ρ2 σ2 H2 x (kp.trans k2)⟩
 ·exact h pins s σ H De I ⟨ρ,E,so,q,n,r,b,c⟩
noncomputable def fP (c:RT) (t:RS):Nat->RS
 | 0,_,_=>False
 | n+1,E,ρ=>c ρ λk=>if k=true then t { E with nx:=fP c t n E,ct:=fP c t n E,bk:=E.nx } ρ else E.nx ρ
noncomputable def nE (c:RT) (t:RS):RS:=λE ρ=>∃n,fP c t n E ρ
theorem rV {body:List Stmt} (hp:PassesOwn (model X.prog X.w) X.A X.env X.xe) (hc:DT X c tA) (hb:DSs X body t):DS X (.While c body [] pos) (nE tA t) :=
 PS.mono (zW hp hc hb) λDe σ H hh=>bX hh λρ E st mq n r b c=>by
  obtain⟨m,q⟩:=mq
  refine⟨λm σ' H'=>∃ρ',StOk X ρ' σ' H'/\Keep H H'/\fP tA t m E ρ',⟨m,ρ,st,Keep.refl H,q⟩,?_⟩
  rintro m σ' H' ⟨ρ',st',kp,hw⟩
  cases m with
  | zero=>exact hw.elim
  | succ m =>
   refine⟨ρ',_,st',hw,λk H1 hk s1=>?_⟩
   have kp1:=kp.trans (.of s1)
   cases k with
   | true =>
    dsimp only at hk ⊢
    rw[if_pos rfl] at hk ⊢
    refine⟨λσ2 H2=>∃ρ2,StOk X ρ2 σ2 H2/\Keep H H2/\fP tA t m E ρ2,λσ2 H2 ⟨ρ2,a1,a2,a3⟩=>⟨m,Nat.lt_succ_self m,ρ2,a1,a2,a3⟩,?_⟩
    exact⟨ρ',_,st'.ext s1,hk,λρ2 σ2 H2 x k2 s2=>⟨ρ2,s2,kp1.trans k2,x⟩,λd v H2 x k2=>r d v H2 x (kp1.trans k2),λρ2 σ2 H2 x k2=>n ρ2 σ2 H2 x (kp1.trans k2),λρ2 σ2 H2 x k2 s2=>⟨ρ2,s2,kp1.trans k2,x⟩⟩
   | false =>
    dsimp only at hk ⊢
    rw[if_neg Bool.false_ne_true] at hk ⊢
    exact n ρ' σ' H1 hk kp1 (st'.ext s1)
noncomputable def xX (X:Cx) (J:It) (xs:List D) (H0:Hp):Prop:=∀i H,Keep H0 H ->
 (∀d,xs[i]? = some d->J.go i H/\∀x H',J.yld i H x H'->Same H H'/\Rep X.K H' d x)/\(xs.length<=i->J.stop i H)
noncomputable def GQ (X:Cx) (t:RA):TI:=λσ H R=>∃ρ P,StOk X ρ σ H/\t ρ P/\∀xs J H',P xs->Same H H'->xX X J xs H'->R J H'
noncomputable def DI (X:Cx) (tg iter:Expr) (t:RA):Prop:=PI X tg iter (GQ X t)
theorem PI.mono {X:Cx} {tg e:Expr} {t t':TI} (h:PI X tg e t) (m:∀σ H Q,t' σ H Q->t σ H Q):PI X tg e t':=λpins s σ H Q I q=>h pins s σ H Q I (m σ H Q q)
noncomputable def sA (g:RG) (t:RS):List D->RS
 | [],E,ρ=>E.nx ρ
 | x::xs,E,ρ=>g x ρ λρ1=>t { E with nx:=sA g t xs E,ct:=sA g t xs E,bk:=E.nx } ρ1
noncomputable def dC (ti:RA) (g:RG) (t:RS):RS:=λE ρ=>ti ρ λxs=>sA g t xs E ρ
theorem dB {tg iter:Expr} {body:List Stmt} {ti:RA} {g:RG} (hp:PassesOwn (model X.prog X.w) X.A X.env X.xe) (hc:X.calm=true) (hi:DI X tg iter ti) (hg:DG X tg g) (hb:DSs X body t)
  (hs:∀x,foldedSetIterable iter X.env x=pure x:=by intro _;rfl):DS X (.For tg iter body [] pos) (dC ti g t) :=
 PS.mono (zU hp hc hi hg hb hs) λDe σ H hh=>bX hh λρ E st q n r b c=>by
  refine⟨ρ,_,st,q,λxs J H1 hx s1 ok=>?_⟩
  refine⟨λi m σ' H'=>m=xs.length-i/\i<=xs.length/\∃ρ',StOk X ρ' σ' H'/\Keep H1 H'/\sA g t (xs.drop i) E ρ',⟨xs.length,by simp,Nat.zero_le _,ρ,st.ext s1,Keep.refl H1,by simpa using hx⟩,?_⟩
  rintro i m σ' H' ⟨rfl,hi,ρ',st',kp,hf⟩
  obtain⟨o1,o2⟩:=ok i H' kp
  have kp1:Keep H H':=(Keep.of s1).trans kp
  by_cases hlt:i<xs.length
  ·have e:xs.drop i=xs[i]::xs.drop (i+1):=List.drop_eq_getElem_cons hlt
   rw[e] at hf
   obtain⟨go,yl⟩:=o1 xs[i] (List.getElem?_eq_getElem hlt)
   refine .inr ⟨go,λσ2 H2=>∃ρ2,StOk X ρ2 σ2 H2/\Keep H1 H2/\sA g t (xs.drop (i+1)) E ρ2,λσ2 H2 hh=>⟨xs.length-(i+1),by omega,rfl,hlt,hh⟩,λx H2 y=>?_⟩
   obtain⟨s2,rx⟩:=yl x H2 y
   refine⟨xs[i],ρ',_,rx,st'.ext s2,hf,λρ3 σ3 H3 h3 k3 s3=>?_⟩
   have k13:Keep H1 H3:=(kp.trans (.of s2)).trans k3
   have k03:Keep H H3:=(kp1.trans (.of s2)).trans k3
   exact⟨ρ3,_,s3,h3,λρ4 σ4 H4 x4 k4 s4=>⟨ρ4,s4,k13.trans k4,x4⟩,λd v H4 x4 k4=>r d v H4 x4 (k03.trans k4),λρ4 σ4 H4 x4 k4=>n ρ4 σ4 H4 x4 (k03.trans k4),λρ4 σ4 H4 x4 k4 s4=>⟨ρ4,s4,k13.trans k4,x4⟩⟩
  ·have e:i=xs.length:=by omega
   subst e
   rw[List.drop_length] at hf
   exact .inl ⟨o2 (Nat.le_refl _),n ρ' σ' H' hf kp1 st'⟩
end
section
variable {X:Cx} {tg e:Expr} {te:RE} {pos p:Pos}
noncomputable def riL (te:RE):RA:=λρ Q=>te ρ λd=>match d with
 | .lst ds=>Q ds
 | _=>False
theorem cR (h:DE X e te):DI X tg e (riL te):=by
 refine PI.mono (CA h) λσ H R hh=>bG hh λρ P st q k=>⟨ρ,_,st,q,λd v H1 hd s1 r=>?_⟩
 cases d with
 | lst ds =>
  cases r with
  | @lst a vs _ hz r =>
   refine⟨a,rfl,⟨vs,hz.sq⟩,k ds _ H1 hd s1 λi H2 kp=>⟨λd e=>?_,λhl=>⟨vs,(hz.keep kp).sq,by rw[<-r.length];exact hl⟩⟩⟩
   obtain⟨v,h1,h2⟩:=(r.keep kp).get e
   refine⟨⟨vs,v,(hz.keep kp).sq,h1⟩,λx H' y=>?_⟩
   obtain⟨e1,e2⟩:=y
   subst e1
   have e3:=e2 vs (hz.keep kp).sq
   rw[h1] at e3;cases e3
   exact⟨Same.refl _,h2⟩
 | _=>exact hd.elim
noncomputable def riT (te:RE):RA:=λρ Q=>te ρ λd=>match d with
 | .tup ds=>Q ds
 | _=>False
noncomputable def dW (lo:Int) (n:Nat):List D:=(List.range n).map λk:Nat=>D.int (lo+(k:Int))
theorem yU {H0:Hp} (lo:Int) (n:Nat):xX X (Itr lo n) (dW lo n) H0:=λi H kp=>by
 refine⟨λd e=>?_,λhl=>by show n<=i;simpa [dW] using hl⟩
 unfold dW at e
 rw[List.getElem?_map] at e
 by_cases hi:i<n
 ·rw[List.getElem?_range hi] at e
  cases e
  exact⟨hi,λx H' y=>by obtain⟨rfl,rfl⟩:=y;exact⟨Same.refl _,.int _⟩⟩
 ·rw[List.getElem?_eq_none (by simpa using hi)] at e;cases e
structure RngOk (j:Int):Prop where
 lo:-(2 ^ 62)<=j
 hi:j<2 ^ 62
noncomputable def oD (t:RA):RA:=λρ Q=>t ρ λds=>match ds with
 | [.int j]=>RngOk j/\Q (dW 0 j.toNat)
 | _=>False
noncomputable def xQ (t:RA):RA:=λρ Q=>t ρ λds=>match ds with
 | [.int i,.int j]=>(RngOk i/\RngOk j)/\Q (dW i (j-i).toNat)
 | _=>False
theorem kL {a:Expr} {t:RA} (hm:X.mg "range" = none) (ha:DA X [a] t) (hg:Gl X "range":=by rfl) (hs:starEach [a] X.env=[(false,eval a X.env)]:=by rfl):DI X tg (.Call (.Name "range" p) [a] [] pos) (oD t):=by
 refine PI.mono (xH hg hm ha hs) λσ H R hh=>bG hh λρ P st q k=>⟨ρ,_,st,q,λds vs H1 hd s1 r=>?_⟩
 split at hd
 ·rename_i j
  rw[Reps.ints_inv (ns:=[j]) r]
  exact⟨j,rfl,hd.1.lo,hd.1.hi,k _ _ H1 hd.2 s1 (yU 0 _)⟩
 ·exact hd.elim
theorem wI {a b:Expr} {t:RA} (hm:X.mg "range" = none) (ha:DA X [a,b] t) (hg:Gl X "range":=by rfl) (hs:starEach [a,b] X.env=[(false,eval a X.env),(false,eval b X.env)]:=by rfl) (hs2:starEach [b] X.env=[(false,eval b X.env)]:=by rfl):DI X tg (.Call (.Name "range" p) [a,b] [] pos) (xQ t):=by
 refine PI.mono (xI hg hm ha hs hs2) λσ H R hh=>bG hh λρ P st q k=>⟨ρ,_,st,q,λds vs H1 hd s1 r=>?_⟩
 split at hd
 ·rename_i i j
  rw[Reps.ints_inv (ns:=[i,j]) r]
  exact⟨i,j,rfl,⟨hd.1.1.lo,hd.1.1.hi,hd.1.2.lo,hd.1.2.hi⟩,k _ _ H1 hd.2 s1 (yU i _)⟩
 ·exact hd.elim
end
noncomputable abbrev FD:=List D->(D->Prop)->Prop
noncomputable def spD (K:PySem.W.Frag) (F:FD):Sp:=λvs H Q _=>∃ds P,Reps K H ds vs/\F ds P/\∀d v H',P d->Same H H'->Rep K H' d v->Q v H'
noncomputable def bA (F:FD) (t:RA):RE:=λρ Q=>t ρ λds=>F ds Q
section
variable {X:Cx} {k:Nat} {f:Addr} {fd:FuncData} {ps:List Str} {F:FD} {x:Str} {p pos:Pos} {e:Expr} {es:List Expr} {t:RA}
theorem AX (G:FnOk X.prog X.w X.K X.mg X.base CX0 k f fd ps (spD X.K F)) (hr:Room k X.A) (hm:X.mg x=some (.ref f)) (hk:PySem.W.keepIn X.K (.ref f)=true) (hb:Binds X.K fd ps []) (ha:DA X (e::es) t) (hg:Gl X x:=by rfl)
  (hdb:(x == ("__debug__":Str))=false:=by decide) (he:starEach (e::es) X.env=(false,eval e X.env)::starEach es X.env:=by rfl) (hpl:(backTo pos (starEach es X.env)).any (·.1)=false:=by rfl) :
  DE X (.Call (.Name x p) (e::es) [] pos) (bA F t) :=
 PE.mono (qN (E:=E0) G hr hg hm hk hb .nil zL ha hdb he hpl) λσ H Q hh=>bG hh λρ P st q kk=>⟨ρ,_,st,q,λds vs H1 hd s1 r=>by
  show spD X.K F (vs++[]) H1 Q E0
  rw[List.append_nil]
  exact⟨ds,P,r,hd,λd v H2 hp s2 r2=>kk d v H2 hp (s1.trans s2) r2⟩⟩
end
noncomputable def aP (N:List Str) (ds:List D):En:=ds.map (λd=>some (.d d))++List.replicate (N.length-ds.length) none
section
variable {P:Program} {w:World} {K:PySem.W.Frag} {mg:Str->Option Value} {base:Heap}
theorem nH {X:Cx} {N:List Str} {ds:List D} {vs:List V} (r:Reps X.K X.H₀ ds vs):StOk X (aP N ds) (gY N vs) X.H₀:=by
 have hl:=r.length
 have own:∀(i:Nat) (x:S),(aP N ds)[i]? = some (some x)->∃d,x = .d d:=λi x e=>by
  unfold aP at e
  by_cases hi:i<ds.length
  ·rw[List.getElem?_append_left (by simpa using hi),List.getElem?_map,List.getElem?_eq_getElem hi] at e
   cases e;exact⟨_,rfl⟩
  ·rw[List.getElem?_append_right (by simpa using hi),List.getElem?_replicate] at e
   split at e <;> cases e
 refine⟨by simp[aP,gY,hl],Same.refl _,λi x e=>?_,λi j x y v u a e1 _ _ _ o _=>by
  obtain⟨d,rfl⟩:=own i x e1
  exact o.elim⟩
 unfold aP at e
 by_cases hi:i<ds.length
 ·rw[List.getElem?_append_left (by simpa using hi),List.getElem?_map,List.getElem?_eq_getElem hi] at e
  cases e
  obtain⟨v,h1,h2⟩:=r.get (List.getElem?_eq_getElem hi)
  refine⟨v,?_,h2⟩
  unfold gY
  rw[List.getElem?_append_left (by simpa [<-hl] using hi),List.getElem?_map,h1];rfl
 ·rw[List.getElem?_append_right (by simpa using hi),List.getElem?_replicate] at e
  split at e <;> cases e
theorem DC {x qual:Str} {st:Stmt} {f:Addr} {fd:FuncData} {N ps:List Str} {k:Nat} {F:FD} {t:RS} (Fu:Fun K x qual st f fd) (Sc:FnScope N ps (aC st))
  (hbody:∀(cdv:Value) (A:Around) (outer:List Env) (s:Shared) (H:Hp) (E:XK),Room k (A.deeper (envOfC qual (aC st) s.heap.objs.size f cdv)) ->
   DSs (bV CX0 P w K mg base N qual (aC st) f cdv A outer s H E).nox (aL st) t)
  (len:∀ds Q,F ds Q->ds.length=ps.length) (pure:∀ds Q,F ds Q->t { nx:=λ_=>Q .non,rt:=Q } (aP N ds)):FnOk P w K mg base CX0 (k+1) f fd ps (spD K F):=by
 refine Fu.ok Sc (λvs H Q E ⟨ds,P,r,h,_⟩=>by rw[<-r.length];exact len ds P h) λcdv A outer s H vs Q E hr ⟨ds,P',r,h,kk⟩=>⟨_,hbody cdv A outer s H E hr,?_⟩
 exact⟨aP N ds,_,nH (X:=(bV CX0 P w K mg base N qual (aC st) f cdv A outer s H E).nox) r,pure ds P' h,λρ' σ' H' hq k s'=>kk .non .non H' hq s'.same .non,λd v H' hq k sm rv=>kk d v H' hq sm rv,λ_ _ _ z=>z.elim,λ_ _ _ z=>z.elim⟩
end
noncomputable def BL (n:Nat) (i:Int):Prop:=i.natAbs<2 ^ n
theorem BL.bits {n:Nat} {i:Int} (h:BL n i):Builtin.Int.intBits i<=n:=intBits_le_iff.mpr h
theorem BL.of {n:Nat} {i:Int} (h:Builtin.Int.intBits i<=n):BL n i:=intBits_le_iff.mp h
theorem BL.mono {m n:Nat} {i:Int} (h:BL m i) (l:m<=n):BL n i:=BL.of (Nat.le_trans h.bits l)
theorem BL.add {m n:Nat} {i j:Int} (a:BL m i) (b:BL n j):BL (max m n+1) (i+j):=BL.of (intBits_add_le a.bits b.bits)
theorem BL.mul {m n:Nat} {i j:Int} (a:BL m i) (b:BL n j):BL (m+n) (i*j):=BL.of (intBits_mul_le a.bits b.bits)
theorem BL.neg {m:Nat} {i:Int} (a:BL m i):BL m (-i):=BL.of (intBits_neg_le a.bits)
theorem BL.le {m:Nat} {i j:Int} (a:BL m j) (h:i.natAbs<=j.natAbs):BL m i:=Nat.lt_of_le_of_lt h a
theorem BL.of_lt {m:Nat} {i:Int} (h1:-(2 ^ m:Nat)<i) (h2:i<(2 ^ m:Nat)):BL m i:=by unfold BL;omega
theorem BL.intMulOk {m n:Nat} {i j:Int} (a:BL m i) (b:BL n j) (h:m+n<=134217728):IntMulOk i j:=IntMulOk.of_le a.bits b.bits h
theorem BL.noPy {i j:Int} (h:BL 9000 j):Builtin.divisionGoesByPylong i j=false:=by
 refine PyProof.noPylong_of_log2 ?_
 by_cases h0:j.natAbs=0
 ·rw[h0];decide +kernel
 ·exact (Nat.log2_lt h0).mpr h
section
variable {X:Cx} {e a b c:Expr} {pos:Pos}
theorem RepB.int_inv {K:PySem.W.Frag} {H:Hp} {i:Int} {v:V} (h:RepB K H (.int i) v):v = .int i:=by
 rcases h with h | ⟨ds,a,vs,e1,_⟩
 ·exact h.int_inv
 ·cases e1
theorem RepB.bl_inv {K:PySem.W.Frag} {H:Hp} {i:Bool} {v:V} (h:RepB K H (.bl i) v):v = .bl i:=by
 rcases h with h | ⟨ds,a,vs,e1,_⟩
 ·exact h.bl_inv
 ·cases e1
theorem RepB.non_inv {K:PySem.W.Frag} {H:Hp} {v:V} (h:RepB K H .non v):v = .non:=by
 rcases h with h | ⟨ds,a,vs,e1,_⟩
 ·cases h;rfl
 ·cases e1
theorem RepB.is_non {K:PySem.W.Frag} {H:Hp} {d:D} {v:V} (h:RepB K H d v):decide (v = .non)=(match d with | .non=>true | _=>false):=by
 rcases h with h | ⟨ds,a,vs,e1,e2,_⟩
 ·cases h <;> simp
 ·subst e1 e2;simp
structure MulOk (i j:Int):Prop where
 ok:IntMulOk i j
structure DivOk (i j:Int):Prop where
 nz:j≠0
 np:Builtin.divisionGoesByPylong i j=false
structure ModOk (j:Int):Prop where
 nz:j≠0
structure PowOk (i j:Int):Prop where
 ok:0<=j/\j<=1000000/\i.natAbs<2 ^ 64
theorem BL.mulOk {m n:Nat} {i j:Int} (a:BL m i) (b:BL n j) (h:m+n<=134217728:=by decide):MulOk i j:=⟨a.intMulOk b h⟩
theorem BL.divOk {i j:Int} (h:BL 9000 j) (nz:j≠0):DivOk i j:=⟨nz,h.noPy⟩
noncomputable def eE:R22:=λx y Q=>match x,y with
 | .int i,.int j=>Q (.int (i+j))
 | _,_=>False
noncomputable def fV:R22:=λx y Q=>match x,y with
 | .int i,.int j=>Q (.int (i-j))
 | _,_=>False
noncomputable def dY:R22:=λx y Q=>match x,y with
 | .int i,.int j=>MulOk i j/\Q (.int (i*j))
 | _,_=>False
noncomputable def bT:R22:=λx y Q=>match x,y with
 | .int i,.int j=>DivOk i j/\Q (.int (i.fdiv j))
 | _,_=>False
noncomputable def cO:R22:=λx y Q=>match x,y with
 | .int i,.int j=>ModOk j/\Q (.int (i.fmod j))
 | _,_=>False
noncomputable def pV:R22:=λx y Q=>match x,y with
 | .int i,.int j=>PowOk i j/\Q (.int (i ^ j.toNat))
 | _,_=>False
theorem xF {f:Value->Value->Sem Value} {C:Int->Int->Prop} {g:Int->Int->Int} {r:R22} (h:OpR X f (rI C λi j=>.int (g i j)))
  (hr:∀x y Q,r x y Q->∃i j,x = .int i/\y = .int j/\C i j/\Q (.int (g i j))):OpD X f r:=by
 intro pins s σ H x y v u Q I rx ry hh_0
 obtain⟨d,e,P,r1,r2,q,k⟩:=hh_0
 obtain⟨i,j,rfl,rfl,hc,q⟩:=hr _ _ _ q
 exact h pins s σ H x y v u Q I rx ry ⟨i,j,r1.int_inv,r2.int_inv,hc,k _ _ H q (Same.refl H) (.int _)⟩
theorem cF:OpD X (binaryOp .Add) eE:=xF (C:=λ_ _=>True) (g:=λi j=>i+j) (opI λ_ _ _ _ _ _ _ _ q=>add_int q) λx y Q q=>by
 unfold eE at q;split at q
 ·exact⟨_,_,rfl,rfl,trivial,q⟩
 ·exact q.elim
theorem eI:OpD X (binaryOp .Sub) fV:=xF (C:=λ_ _=>True) (g:=λi j=>i-j) (opI λ_ _ _ _ _ _ _ _ q=>sub_int q) λx y Q q=>by
 unfold fV at q;split at q
 ·exact⟨_,_,rfl,rfl,trivial,q⟩
 ·exact q.elim
theorem bY:OpD X (binaryOp .Mult) dY:=xF (C:=λi j=>IntMulOk i j) (g:=λi j=>i*j) (opI λ_ _ _ _ _ _ _ hc q=>mul_int q hc) λx y Q q=>by
 unfold dY at q;split at q
 ·exact⟨_,_,rfl,rfl,q.1.ok,q.2⟩
 ·exact q.elim
theorem bK:OpD X (binaryOp .FloorDiv) bT:=xF (C:=λi j=>j≠0/\Builtin.divisionGoesByPylong i j=false) (g:=λi j=>i.fdiv j) (opI λ_ _ _ _ _ _ _ hc q=>floordiv_int hc.1 q (.inl hc.2)) λx y Q q=>by
 unfold bT at q;split at q
 ·exact⟨_,_,rfl,rfl,⟨q.1.nz,q.1.np⟩,q.2⟩
 ·exact q.elim
theorem bQ:OpD X (binaryOp .Mod) cO:=xF (C:=λ_ j=>j≠0) (g:=λi j=>i.fmod j) (opI λ_ _ _ _ _ _ _ hc q=>mod_int' hc q) λx y Q q=>by
 unfold cO at q;split at q
 ·exact⟨_,_,rfl,rfl,q.1.nz,q.2⟩
 ·exact q.elim
theorem zI:OpD X (binaryOp .Pow) pV:=xF (C:=λi j=>0<=j/\j<=1000000/\i.natAbs<2 ^ 64) (g:=λi j=>i ^ j.toNat) (opI λ_ _ _ _ _ _ _ hc q=>pow_int_small hc.1 hc.2.1 hc.2.2 q) λx y Q q=>by
 unfold pV at q;split at q
 ·exact⟨_,_,rfl,rfl,q.1.ok,q.2⟩
 ·exact q.elim
noncomputable def nS:D->(D->Prop)->Prop:=λx Q=>match x with
 | .int i=>Q (.int (-i))
 | _=>False
theorem qW:UnD X (unaryOp .USub) nS:=by
 intro pins s σ H x v Q I rx hh_0
 obtain⟨d,P,r,q,k⟩:=hh_0
 unfold nS at q;split at q
 ·rename_i i
  exact FY pins s σ H x v Q I rx ⟨i,r.int_inv,k _ _ H q (Same.refl H) (.int _)⟩
 ·exact q.elim
noncomputable def iT (p:Int->Int->Bool):R22:=λx y Q=>match x,y with
 | .int i,.int j=>Q (.bl (p i j))
 | _,_=>False
theorem EZ {f:Value->Value->Sem Value} {p:Int->Int->Bool} (h:OpR X f (rI0 λi j=>.bl (p i j))):OpD X f (iT p):=by
 intro pins s σ H x y v u Q I rx ry hh_0
 obtain⟨d,e,P,r1,r2,q,k⟩:=hh_0
 unfold iT at q;split at q
 ·rename_i i j
  exact h pins s σ H x y v u Q I rx ry ⟨i,j,r1.int_inv,r2.int_inv,k _ _ H q (Same.refl H) (.bl _)⟩
 ·exact q.elim
theorem zG:OpD X (compareOp .Lt) (iT λi j=>decide (i<j)):=EZ HA
theorem GW:OpD X (compareOp .Gt) (iT λi j=>decide (j<i)):=EZ GZ
theorem GV:OpD X (compareOp .GtE) (iT λi j=>decide (j<=i)):=EZ GY
noncomputable def gC (neg:Bool):R22:=λx y Q=>match x,y with
 | .int i,.int j=>Q (.bl (if neg then !decide (i=j) else decide (i=j)))
 | .bl i,.bl j=>Q (.bl (if neg then !decide (i=j) else decide (i=j)))
 | _,_=>False
theorem tV:OpD X (compareOp .Eq) (gC false):=by
 intro pins s σ H x y v u Q I rx ry hh_0
 obtain⟨d,e,P,r1,r2,q,k⟩:=hh_0
 unfold gC at q;split at q
 ·rename_i i j
  rw[r1.int_inv] at rx;rw[r2.int_inv] at ry
  exact DK pins s σ H _ _ v u Q I rx ry ⟨rfl,by
   have e:decide (V.int i=V.int j)=decide (i=j):=by simp
   rw[e];exact k _ _ H q (Same.refl H) (.bl _)⟩
 ·rename_i i j
  rw[r1.bl_inv] at rx;rw[r2.bl_inv] at ry
  exact DK pins s σ H _ _ v u Q I rx ry ⟨rfl,by
   have e:decide (V.bl i=V.bl j)=decide (i=j):=by simp
   rw[e];exact k _ _ H q (Same.refl H) (.bl _)⟩
 ·exact q.elim
theorem mS:OpD X (compareOp .NotEq) (gC true):=by
 intro pins s σ H x y v u Q I rx ry hh_0
 obtain⟨d,e,P,r1,r2,q,k⟩:=hh_0
 unfold gC at q;split at q
 ·rename_i i j
  rw[r1.int_inv] at rx;rw[r2.int_inv] at ry
  exact DL pins s σ H _ _ v u Q I rx ry ⟨rfl,by
   have e:decide (V.int i=V.int j)=decide (i=j):=by simp
   rw[e];exact k _ _ H q (Same.refl H) (.bl _)⟩
 ·rename_i i j
  rw[r1.bl_inv] at rx;rw[r2.bl_inv] at ry
  exact DL pins s σ H _ _ v u Q I rx ry ⟨rfl,by
   have e:decide (V.bl i=V.bl j)=decide (i=j):=by simp
   rw[e];exact k _ _ H q (Same.refl H) (.bl _)⟩
 ·exact q.elim
noncomputable def mL:D->Bool
 | .non=>true
 | _=>false
noncomputable def lL (neg:Bool):R22:=λx y Q=>match y with
 | .non=>Q (.bl (if neg then !mL x else mL x))
 | _=>False
theorem sB {K:PySem.W.Frag} {H:Hp} {d:D} {v:V} (h:RepB K H d v):decide (v = .non)=mL d:=by
 rw[h.is_non];cases d <;> rfl
theorem zF:OpD X (compareOp .Is) (lL false):=by
 intro pins s σ H x y v u Q I rx ry hh_0
 obtain⟨d,e,P,r1,r2,q,k⟩:=hh_0
 unfold lL at q;split at q
 ·exact FA pins s σ H x y v u Q I rx ry ⟨r2.non_inv,by rw[sB r1];exact k _ _ H q (Same.refl H) (.bl _)⟩
 ·exact q.elim
theorem vE:OpD X (compareOp .IsNot) (lL true):=by
 intro pins s σ H x y v u Q I rx ry hh_0
 obtain⟨d,e,P,r1,r2,q,k⟩:=hh_0
 unfold lL at q;split at q
 ·exact BV pins s σ H x y v u Q I rx ry ⟨r2.non_inv,by rw[sB r1];exact k _ _ H q (Same.refl H) (.bl _)⟩
 ·exact q.elim
noncomputable def dIx:R22:=λx y Q=>match x,y with
 | .lst ds,.int i=>match atI ds i with
  | some d=>Q d
  | none=>False
 | .tup ds,.int i=>match atI ds i with
  | some d=>Q d
  | none=>False
 | _,_=>False
theorem rB {K:PySem.W.Frag} {H:Hp} {ds:List D} {vs:List V} {i:Int} {d:D} (r:Reps K H ds vs) (h:atI ds i=some d):∃v,atI vs i=some v/\Rep K H d v:=by
 unfold atI at h ⊢
 rw[<-r.length]
 cases e:ixN ds.length i with
 | none=>rw[e] at h;cases h
 | some j =>
  rw[e] at h
  exact r.get h
theorem aU {ta tb:RE} (ha:DB X a ta) (hb:DB X b tb) (hs:pI b:=by intro _ _;rfl):DE X (.Subscript a b pos) (r2 dIx ta tb):=by
 refine PE.mono (DM (uZ.or EN) ha hb hs) λσ H Q h=>?_
 obtain⟨ρ,P,st,ht,hP⟩:=h
 refine⟨ρ,_,st,ht,λx v H1 h1 s1 r1=>⟨ρ,_,st.ext s1,h1,λy u H2 h2 s2 r2=>?_⟩⟩
 have r1':=r1.same s2
 unfold dIx at h2;split at h2
 ·rename_i ds i
  split at h2
  ·rename_i d e
   obtain⟨p,vs,rfl,hq,rr⟩:=r1'.lst
   obtain⟨w',e',rw'⟩:=rB rr e
   exact .inl ⟨p,vs,i,w',rfl,r2.int_inv,hq,e',hP d w' H2 h2 (s1.trans s2) rw'⟩
  ·exact h2.elim
 ·rename_i ds i
  split at h2
  ·rename_i d e
   obtain⟨p,vs,rfl,hq,rr⟩:=r1'.tup
   obtain⟨w',e',rw'⟩:=rB rr e
   exact .inr ⟨p,vs,i,w',rfl,r2.int_inv,SqT.of hq,e',hP d w' H2 h2 (s1.trans s2) rw'⟩
  ·exact h2.elim
 ·exact h2.elim
noncomputable abbrev RO:=En->(Option Int->Prop)->Prop
noncomputable def GS (X:Cx) (t:RO):TO:=λσ H Q=>∃ρ P,StOk X ρ σ H/\t ρ P/\∀o H',P o->Same H H'->Q o H'
noncomputable def DP (X:Cx) (e:Option Expr) (t:RO):Prop:=PO X e (GS X t)
noncomputable def cV:RO:=λ_ Q=>Q none
noncomputable def gT (t:RE):RO:=λρ Q=>t ρ λd=>match d with
 | .int i=>Q (some i)
 | _=>False
theorem jP:DP X none cV:=λpins s σ H Q I hh=>bG hh λρ P st q k=>CB pins s σ H Q I (k none H q (Same.refl H))
theorem jQ {t:RE} (h:DE X e t):DP X (some e) (gT t):=λpins s σ H Q I hh=>bG hh λρ P st q k=>CC h pins s σ H Q I ⟨ρ,_,st,q,λd v H1 hd s1 r=>by
 cases d with
 | int i=>exact⟨i,r.int_inv,k (some i) H1 hd s1⟩
 | _=>exact hd.elim⟩
noncomputable def jG (xs:List D) (lo hi:Option Int):List D:=(xs.drop (HT.sIx xs.length 0 lo)).take (HT.sIx xs.length xs.length hi-HT.sIx xs.length 0 lo)
noncomputable def vP (te:RE) (tl th:RO):RA:=λρ Q=>te ρ λx=>tl ρ λl=>th ρ λu=>match x with
 | .lst ds=>Q (jG ds l u)
 | _=>False
noncomputable def EU (X:Cx) (r:List D->(D->Prop)->Prop):List V->Hp->VK->Prop:=λxs H Q=>∃ds P,Reps X.K H ds xs/\r ds P/\∀z v H',P z->Same H H'->Rep X.K H' z v->Q v H'
noncomputable def xV (X:Cx) (f:Value) (r:List D->(D->Prop)->Prop):Prop:=iI X f (EU X r)
noncomputable def rCB (r:List D->(D->Prop)->Prop) (t:RA):RE:=λρ Q=>t ρ λds=>r ds Q
variable {x:Str} {p:Pos} {es:List Expr} {t:RA} {id T:String} {r:List D->(D->Prop)->Prop}
theorem gI (hc:xV X (.builtin id) r) (hm:X.mg x=none) (hv:bootBuiltins x=some (.builtin id)) (ha:DA X (e::es) t) (hg:Gl X x:=by rfl) (hn:x≠"__name__":=by decide) (hdb:(x == ("__debug__":Str))=false:=by decide)
  (he:starEach (e::es) X.env=(false,eval e X.env)::starEach es X.env:=by rfl) (hpl:(backTo pos (starEach es X.env)).any (·.1)=false:=by rfl):DE X (.Call (.Name x p) (e::es) [] pos) (rCB r t) :=
 PE.mono (jX hc hg hm hv ha hn hdb he hpl) λσ H Q hh=>bG hh λρ P st q k=>⟨ρ,_,st,q,λds vs H1 hd s1 rr=>⟨ds,P,rr,hd,λz v H2 hz s2 r2=>k z v H2 hz (s1.trans s2) r2⟩⟩
noncomputable def nR:List D->(D->Prop)->Prop:=λds Q=>match ds with
 | [.int i]=>Q (.int (if i<0 then -i else i))
 | _=>False
theorem pS:xV X (.builtin "abs") nR:=by
 intro pins s σ H xs us Q I rv hh_0
 obtain⟨ds,P,r,q,k⟩:=hh_0
 unfold nR at q;split at q
 ·rename_i i
  cases r with
  | cons r1 r2 =>
   cases r2
   rw[r1.int_inv] at rv
   exact yE pins s σ H _ us Q I rv ⟨i,rfl,k _ _ H q (Same.refl H) (.int _)⟩
 ·exact q.elim
noncomputable def AT:List D->(D->Prop)->Prop:=λds Q=>match ds with
 | [.bl b]=>Q (.int (if b then 1 else 0))
 | [.int i]=>Q (.int i)
 | _=>False
noncomputable def uO:List D->(D->Prop)->Prop:=λds Q=>match ds with
 | [.int i,.int j]=>Q (.int (if j > i then j else i))
 | _=>False
noncomputable def mE:List D->(D->Prop)->Prop:=λds Q=>match ds with
 | [.int i,.int j]=>Q (.int (if j<i then j else i))
 | _=>False
theorem AQ (hc:X.calm=true:=by rfl):xV X (.builtin "min") mE:=by
 intro pins s σ H xs us Q I rv hh_0
 obtain⟨ds,P,r,q,k⟩:=hh_0
 unfold mE at q;split at q
 ·rename_i i j
  ·rw[Reps.ints_inv (ns:=[i,j]) r] at rv
   exact wB hc pins s σ H _ us Q I rv ⟨i,j,rfl,k _ _ H q (Same.refl H) (.int _)⟩
 ·exact q.elim
noncomputable def fJ:D->(D->Prop)->Prop:=λd Q=>match d with
 | .lst ds=>Q (.int ds.length)
 | .tup ds=>Q (.int ds.length)
 | _=>False
theorem dS {t:TE} (h:PE X e t) (hs:starEach [e] X.env=[(false,eval e X.env)]:=by rfl) (hn:starEach [] X.env=[]:=by rfl):PA X [e] (λσ H Q=>t σ H λv H'=>Q [v] H') :=
 PA.mono (cC h eU (by rw[hs,hn])) λσ H Q q=>q
theorem eF {te:RE} (hm:X.mg "len" = none) (h:DB X e te) (hg:Gl X "len":=by rfl) (hs:starEach [e] X.env=[(false,eval e X.env)]:=by rfl) (hn:starEach [] X.env=[]:=by rfl):DE X (.Call (.Name "len" p) [e] [] pos) (r1 fJ te):=by
 refine PE.mono (jX pP hg hm PySem.boot_len (dS h hs hn) (by decide) (by decide) (by rw[hs,hn]) (by rw[hn];rfl)) λσ H Q hh=>bG hh λρ P st q k=>⟨ρ,_,st,q,λd v H1 hd s1 r=>?_⟩
 unfold fJ at hd;split at hd
 ·obtain⟨p,vs,rfl,hq,rr⟩:=r.lst
  exact⟨p,vs,rfl,.inl hq,by rw[<-rr.length];exact k _ _ H1 hd s1 (.int _)⟩
 ·obtain⟨p,vs,rfl,hq,rr⟩:=r.tup
  exact⟨p,vs,rfl,.inr (SqT.of hq),by rw[<-rr.length];exact k _ _ H1 hd s1 (.int _)⟩
 ·exact hd.elim
end
section
variable {X:Cx} {pins:List (Addr × Obj)} {σ:St} {H:Hp} {s:Shared} {h':Heap}
theorem _root_.L2.Inv.turnedL {t':Nat} {ch:List Addr} (I:Inv X pins σ H s) (k:∀b o,b ∉ ch->s.heap.get? b=some o->h'.get? b=some o) (f:∀b∈ch,kI X pins H b):Inv X pins σ H { s with heap:=h',toks:=t' }:=by
 have nit:∀b u,H b=some u->b ∉ ch:=λb u e z=>by rw[(f b z).1] at e;cases e
 refine I.step (g':=s.gens) (d':=s.drawn) (ch:=ch) (λb hb=>⟨(f b hb).2.2.2.1,(f b hb).2.1,(f b hb).2.2.2.2.1,(f b hb).2.2.2.2.2⟩) (λb o _ _ hc e _=>k b o hc e) (λb o _ _ hc e _=>⟨o.slots,k b o hc e⟩) (λ_ _ _ _ n=>n)
  (λb o hc e=>⟨o,k b o hc e⟩) (λ_ _ e=>e) (λ_ _ _ e=>e) (λb ps e=>⟨#[],by rw[e];simp⟩) (λm hm=>?_) (λb u e=>?_) I.bare
 ·obtain⟨o,es,ep,ho,r⟩:=hm
  exact⟨o,es,ep,k _ o (λz=>(f _ z).2.1 rfl) ho,r⟩
 ·refine (I.hok b u e).stay (λc v hc q=>k c v ?_ q) (λ_ q=>q) λ_ _ q=>q
  rcases hc with z | z
  ·rw[z];exact nit b u e
  ·exact nit c _ z
theorem _root_.L2.Inv.turnedT {t':Nat} {ch:List Addr} {T:Addr} {xs:List V} {its:List Value} (I:Inv X pins σ H s) (k:∀b o,b ∉ ch->s.heap.get? b=some o->h'.get? b=some o) (f:∀b∈ch,kI X pins H b)
  (hT:s.heap.objs.size<=T) (ht:h'.IsTuple T its.toArray) (rv:Vals xs its) (hz:xs.length<=sizeLine):Inv X pins σ (upd H T (.tup xs)) { s with heap:=h',toks:=t' }:=by
 have nit:∀b u,H b=some u->b ∉ ch:=λb u e z=>by rw[(f b z).1] at e;cases e
 have hn:H T=none:=I.hok.fresh hT
 have ne:∀{b:Addr} {o:Obj},s.heap.get? b=some o->b≠T:=λe=>Nat.ne_of_lt (Nat.lt_of_lt_of_le (Heap.lt_size e) hT)
 refine I.step (g':=s.gens) (d':=s.drawn) (ch:=ch) (λb hb=>⟨(f b hb).2.2.2.1,(f b hb).2.1,(f b hb).2.2.2.2.1,(f b hb).2.2.2.2.2⟩) (λb o _ _ hc e _=>k b o hc e) (λb o _ _ hc e _=>⟨o.slots,k b o hc e⟩) (λb o _ e n=>by rw[aF (ne e)];exact n)
  (λb o hc e=>⟨o,k b o hc e⟩) (λb ys e=>by rw[aF (aJ e hn)];exact e) (λb o u e=>by rw[aF (aJ e hn)];exact e) (λb ps e=>⟨#[],by rw[aF (aJ e hn),e];simp⟩) (λm hm=>?_) (λb u e=>?_) I.bare
 ·obtain⟨o,es,ep,ho,r⟩:=hm
  exact⟨o,es,ep,k _ o (λz=>(f _ z).2.1 rfl) ho,r⟩
 ·by_cases hb:b=T
  ·subst hb
   rw[aM] at e;cases e
   exact⟨hz,its,rv,ht⟩
  ·rw[aF hb] at e
   refine (I.hok b u e).stay (λc v hc q=>k c v ?_ q) (λc q=>by rw[aF (aJ q hn)];exact q) λc ys q=>by rw[aF (aJ q hn)];exact q
   rcases hc with z | z
   ·rw[z];exact nit b u e
   ·exact nit c _ z
end
noncomputable def GE (ds:List D):List D:=ds.zipIdx.map λp=>D.tup [.int (p.2:Int),p.1]
section
variable {X:Cx} {e:Expr} {te:RE} {pos p:Pos} {elts:List Expr} {k:Nat} {tp:Pos}
noncomputable def CO (te:RE):RA:=λρ Q=>te ρ λd=>match d with
 | .lst ds=>Q (GE ds)
 | _=>False
end
noncomputable def tL (T:String):D->Option Bool
 | .non=>some (T == "NoneType")
 | .bl _=>some (T == "bool" || T == "int")
 | .int _=>some (T == "int")
 | .str _=>some (T == "str")
 | .tup _=>some (T == "tuple")
 | .lst _=>some (T == "list")
 | .dct _ _=>none
noncomputable def iE (T:String):D->(D->Prop)->Prop:=λd Q=>match tL T d with
 | some b=>Q (.bl b)
 | none=>False
structure TyTab (K:PySem.W.Frag) (T:String):Prop where
 non:PySem.W.kitOne K (.type "NoneType") (.type T)=some (T == "NoneType")
 bl:PySem.W.kitOne K (.type "bool") (.type T)=some (T == "bool" || T == "int")
 int:PySem.W.kitOne K (.type "int") (.type T)=some (T == "int")
 str:PySem.W.kitOne K (.type "str") (.type T)=some (T == "str")
 tup:PySem.W.kitOne K (.type "tuple") (.type T)=some (T == "tuple")
 lst:PySem.W.kitOne K (.type "list") (.type T)=some (T == "list")
section
variable {X:Cx} {e:Expr} {te:RE} {pos p p2:Pos} {T:String} {x:Str}
theorem gJ (tab:TyTab X.K T) (hm:X.mg "isinstance" = none) (hT:X.mg x=none) (hb:bootBuiltins x=some (.type T)) (h:DE X e te) (hg:Gl X "isinstance":=by rfl) (hgT:Gl X x:=by rfl) (hn:x≠"__name__":=by decide) (hd:(x == ("__debug__":Str))=false:=by decide)
  (hs:starEach [e,.Name x p2] X.env=(false,eval e X.env)::starEach [.Name x p2] X.env:=by rfl) (hs2:starEach [.Name x p2] X.env=(false,eval (.Name x p2) X.env)::starEach [] X.env:=by rfl) (hpl:(backTo pos (starEach [.Name x p2] X.env)).any (·.1)=false:=by rfl) :
  DE X (.Call (.Name "isinstance" p) [e,.Name x p2] [] pos) (r1 (iE T) te):=by
 have hc:iI X (.builtin "isinstance") (λxs H Q=>∃d v P,xs=[v,.ty T]/\Rep X.K H d v/\iE T d P/\∀b,P (.bl b)->Q (.bl b) H):=by
  intro pins s σ H xs us Q I r hh_0
  obtain⟨d,v,P,ex,rd,q,k⟩:=hh_0
  subst ex
  obtain⟨u,w',rfl,r1,r2⟩:=AJ r
  cases r2
  unfold iE at q
  split at q
  ·rename_i b eb
   have fin:∀{t:Value},TyOf X.K H v t->PySem.W.kitOne X.K t (.type T)=some b->wpAny (model X.prog X.w) X.A (call (.builtin "isinstance") [u,.type T]) (EP X pins σ Q) X.xe s:=λty e=>wP I r1 ty e λtk=>⟨.bl b,H,I.tok tk,rfl,k b q⟩
   cases rd with
   | non=>cases eb;exact fin .non tab.non
   | bl _=>cases eb;exact fin (.bl _) tab.bl
   | int _=>cases eb;exact fin (.int _) tab.int
   | str _=>cases eb;exact fin (.str _) tab.str
   | tup h _=>cases eb;exact fin (.tup h) tab.tup
   | @lst a vs _ h _ =>
    cases eb
    rcases h with ⟨o,h⟩ | ⟨o,its,n,hk,hc,_⟩
    ·exact fin (.frz h) tab.lst
    ·cases (show u=Value.ref a from r1)
     exact PySem.W.kia_one PySem.W.kitx_list I.kIn ⟨o,I.kIn a o hk,hc⟩ tab.lst (λz=>nomatch z) λtk=>⟨.bl _,H,I.tok tk,rfl,k _ q⟩
   | dct _ _ _=>cases eb
  ·exact q.elim
 refine PE.mono (jX hc hg hm PyProof.Rows.boot_isinstance (cC h (cC (BW (v:=.ty T) hgT hT hb rfl hn hd) eU hs2) hs) (by decide) (by decide) hs hpl) λσ H Q hh=>bG hh λρ P st q k=>?_
 refine⟨ρ,_,st,q,λd v H1 hd s1 r=>⟨d,v,P,rfl,r,hd,λb hb=>k _ _ H1 hb s1 (.bl b)⟩⟩
end
theorem hW:bootBuiltins "abs" = some (.builtin "abs"):=by decide +kernel
theorem wA:bootBuiltins "min" = some (.builtin "min"):=by decide +kernel
theorem vZ:bootBuiltins "int" = some (.type "int"):=by decide +kernel
theorem tG:bootBuiltins "bool" = some (.type "bool"):=by decide +kernel
theorem fZ:bootBuiltins "tuple" = some (.type "tuple"):=by decide +kernel
theorem iS:bootBuiltins "list" = some (.type "list"):=by decide +kernel
theorem CU (K:PySem.W.Frag):TyTab K "int":=⟨by rfl,by rfl,by rfl,by rfl,by rfl,by rfl⟩
theorem AH (K:PySem.W.Frag):TyTab K "bool":=⟨by rfl,by rfl,by rfl,by rfl,by rfl,by rfl⟩
theorem nI (K:PySem.W.Frag):TyTab K "list":=⟨by rfl,by rfl,by rfl,by rfl,by rfl,by rfl⟩
theorem kZ (K:PySem.W.Frag):TyTab K "tuple":=⟨by rfl,by rfl,by rfl,by rfl,by rfl,by rfl⟩
theorem rF {P:List Value->Prop} (h:∀a,P [a]):∀us:List Value,us.length=1->P us
 | [a],_=>h a
theorem fQ {P:List Value->Prop} (h:∀a b,P [a,b]) (us:List Value) (hl:us.length=2):P us:=by
 cases us with
 | nil=>cases hl
 | cons a us=>exact rF (P:=λus=>P (a::us)) (h a) us (Nat.succ.inj hl)
theorem oH {P:List Value->Prop} (h:∀a b c,P [a,b,c]) (us:List Value) (hl:us.length=3):P us:=by
 cases us with
 | nil=>cases hl
 | cons a us=>exact fQ (P:=λus=>P (a::us)) (h a) us (Nat.succ.inj hl)
theorem CW {P:List Value->Prop} (h:∀a b c d,P [a,b,c,d]) (us:List Value) (hl:us.length=4):P us:=by
 cases us with
 | nil=>cases hl
 | cons a us=>exact oH (P:=λus=>P (a::us)) (h a) us (Nat.succ.inj hl)
structure FnAt (P:Program) (w:World) (K:PySem.W.Frag) (mg:Str->Option Value) (base:Heap) (x:Str) (ps:List Str) (k:Nat) (F:FD):Prop where
 ex:∃f fd,FnOk P w K mg base CX0 k f fd ps (spD K F)/\Binds K fd ps []/\PySem.W.keepIn K (.ref f)=true/\mg x=some (.ref f)
structure DefAt (K:PySem.W.Frag) (mg:Str->Option Value) (x:Str) (st:Stmt) (ps:List Str):Prop where
 ex:∃f fd,Fun K x x st f fd/\mg x=some (.ref f)/\∀us:List Value,us.length=ps.length->bindArgs fd ⟨us,[]⟩=pure (ps.zip us)
section
variable {P:Program} {w:World} {K:PySem.W.Frag} {mg:Str->Option Value} {base:Heap}
theorem DefAt.ok {x:Str} {st:Stmt} {N ps:List Str} {k:Nat} {F:FD} {t:RS} (Z:DefAt K mg x st ps) (Sc:FnScope N ps (aC st))
  (hbody:∀{f:Addr} (cdv:Value) (A:Around) (outer:List Env) (s:Shared) (H:Hp) (E:XK),Room k (A.deeper (envOfC x (aC st) s.heap.objs.size f cdv)) ->
   DSs (bV CX0 P w K mg base N x (aC st) f cdv A outer s H E).nox (aL st) t)
  (len:∀ds Q,F ds Q->ds.length=ps.length) (pure:∀ds Q,F ds Q->t { nx:=λ_=>Q .non,rt:=Q } (aP N ds)):FnAt P w K mg base x ps (k+1) F:=by
 obtain⟨f,fd,a,b,c⟩:=Z.ex
 exact⟨f,fd,DC a Sc (λcdv A outer s H E hr=>hbody cdv A outer s H E hr) len pure,.all c,a.kp,b⟩
theorem DefAt.okL {x:Str} {st:Stmt} {ps:List Str} {k:Nat} {F:FD} (Z:DefAt K mg x st ps) (h:∀(base:Heap) (f:Addr) (fd:FuncData),Fun K x x st f fd->FnOk P w K mg base CX0 k f fd ps (spD K F)) :
  ∃f fd,mg x=some (.ref f)/\(∀us:List Value,us.length=ps.length->bindArgs fd ⟨us,[]⟩=pure (ps.zip us))/\∀base,FnOk P w K mg base CX0 k f fd ps (spD K F):=by
 obtain⟨f,fd,a,b,c⟩:=Z.ex
 exact⟨f,fd,b,c,λbase=>h base f fd a⟩
end
section
variable {X:Cx} {k:Nat} {ps:List Str} {F:FD} {x:Str} {p pos:Pos} {e:Expr} {es:List Expr} {t:RA}
theorem aQ (C:FnAt X.prog X.w X.K X.mg X.base x ps k F) (hr:Room k X.A) (ha:DA X (e::es) t) (hg:Gl X x:=by rfl)
  (hdb:(x == ("__debug__":Str))=false:=by decide) (he:starEach (e::es) X.env=(false,eval e X.env)::starEach es X.env:=by rfl) (hpl:(backTo pos (starEach es X.env)).any (·.1)=false:=by rfl) :
  DE X (.Call (.Name x p) (e::es) [] pos) (bA F t):=by
 obtain⟨f,fd,G,hb,hk,hm⟩:=C.ex
 exact AX G hr hm hk hb ha hg hdb he hpl
end
noncomputable def vW (n:Nat):FD:=λds Q=>∃ns:List Int,ds=[.lst (ns.map .int)]/\ns.length<=n/\Q (.bl true)
theorem FS {K:PySem.W.Frag} {H:Hp} {a:Addr} {vs:List V} (hO:AL H) (h:SqL K H a vs):FzL K H a vs:=by
 rcases h with (h | ⟨o,h⟩) | h
 ·rcases hO a with z | ⟨o,xs,z⟩
  ·rw[z] at h;cases h
  ·rw[z] at h;cases h
 ·exact .inl ⟨o,h⟩
 ·exact .inr h
theorem walk_law {l:PySem.W.OpenLaw} {q:Program} {loose:List Str} {XP:(Str->Option Value)->Heap->Prop} {YP:World->Heap->Prop} {d:DefRec} {K:Params->PySem.W.Frag} {x:Str} {k:Nat}
  (hn:l.most=some 63) (hdf:d.params.defaults=[]) (hr:Room k callerA)
  (hY:∀(w:World) (h:Heap),YP w h->(K w.params).In h) (hd:d.name = "law")
  (F:∀(w:World) (mg:Str->Option Value) (h:Heap),(K w.params).In h->h.Ns mainGlobals mg ->
   ∃f fd,mg "law" = some (.ref f)/\(∀us:List Value,us.length=[x].length->bindArgs fd ⟨us,[]⟩=pure ([x].zip us))/\∀base,FnOk l.prog w (K w.params) mg base CX0 k f fd [x] (spD (K w.params) (vW 63))) :
  PySem.W.WalkO q loose XP YP l.row.toRowW d [] (λf vs=>PySem.call f vs):=by
 refine L2.walk_of (n:=63) (k:=k) (x:=x) (CX:=λ_=>CX0) (sp:=λw=>spD (K w.params) (vW 63)) hn (by decide) hdf hr hY ?_ ?_ λ_ _ _ _ _ z=>z
 ·intro w mg fa h KX G hmg
  rw[hd] at hmg
  obtain⟨f,fd,hm,hb,hF⟩:=F w mg h KX G
  rw[hmg] at hm;cases hm
  exact⟨fd,λs u=>.of_eq (hb [u] rfl),λbase _ _=>hF base⟩
 ·intro w H a ns hl hO hS
  exact⟨[.lst (ns.map .int)],λd=>d = .bl true,.cons (.lst (FS hO hS) .ints) .nil,⟨ns,rfl,hl,rfl⟩,λd v H' e _ r=>by subst e;exact r.bl_inv⟩
noncomputable def eqL (f:D->D->Option Bool):List D->List D->Option Bool
 | [],[]=>some true
 | [],_::_=>some false
 | _::_,[]=>some false
 | x::xs,y::ys=>match f x y,eqL f xs ys with
  | some a,some b=>some (a && b)
  | _,_=>none
noncomputable def eqF:Nat->D->D->Option Bool
 | 0,_,_=>none
 | n+1,d,e=>match d,e with
  | .int a,.int b=>some (decide (a=b))
  | .bl a,.bl b=>some (decide (a=b))
  | .non,.non=>some true
  | .non,.tup _=>some false
  | .tup _,.non=>some false
  | .tup xs,.tup ys=>eqL (eqF n) xs ys
  | .lst xs,.lst ys=>eqL (eqF n) xs ys
  | _,_=>none
theorem jT {f:D->D->Option Bool}:∀{xs ys:List D} {b:Bool},eqL f xs ys=some b->∀(j:Nat) (x y:D),xs[j]? = some x->ys[j]? = some y->∃c,f x y=some c
 | [],_,_,_,j,x,y,e,_=>by simp at e
 | _::_,[],_,_,j,x,y,_,e=>by simp at e
 | a::xs,c::ys,b,h,j,x,y,e1,e2=>by
  unfold eqL at h
  split at h
  ·rename_i p q hp hq
   cases j with
   | zero=>simp at e1 e2;subst e1 e2;exact⟨p,hp⟩
   | succ j=>exact jT hq j x y (by simpa using e1) (by simpa using e2)
  ·cases h
theorem iB {f:D->D->Option Bool}:∀{xs ys:List D} {b:Bool},eqL f xs ys=some b ->
  ((List.range (min xs.length ys.length)).all (λj=>match xs[j]?,ys[j]? with | some x,some y=>(f x y).getD false | _,_=>false) && xs.length == ys.length)=b
 | [],[],b,h=>by cases h;rfl
 | [],_::_,b,h=>by cases h;rfl
 | _::_,[],b,h=>by cases h;rfl
 | x::xs,y::ys,b,h=>by
  unfold eqL at h
  split at h
  ·rename_i p q hp hq
   cases h
   have ih:=iB hq
   rw[<-ih]
   simp only[List.length_cons,Nat.succ_min_succ,List.range_succ_eq_map,List.all_cons,List.getElem?_cons_zero,hp,Option.getD_some,List.all_map]
   rw[Bool.and_assoc]
   congr 1
   congr 1
   rw[Bool.eq_iff_iff];simp
  ·cases h
section
variable {X:Cx} {pins:List (Addr × Obj)} {σ:St} {H:Hp} {s:Shared}
theorem mG {f:D->D->Option Bool} (hf:∀{d e:D} {v:V} {b:Bool},f d e=some b->Rep X.K H d v->Rep X.K H e v->b=true):∀{xs ys:List D} {vs:List V} {b:Bool},eqL f xs ys=some b->Reps X.K H xs vs->Reps X.K H ys vs->b=true:=by
 intro xs
 induction xs with
 | nil=>intro ys vs b h q1 q2;cases q1;cases q2;cases h;rfl
 | cons x xs ih =>
  intro ys vs b h q1 q2
  cases q1 with
  | cons r t =>
   cases q2 with
   | cons r' t' =>
    unfold eqL at h
    split at h
    ·rename_i p q hp hq
     cases h
     rw[hf hp r r',ih hq t t'];rfl
    ·cases h
theorem jS (I:Inv X pins σ H s):∀(n:Nat) {d e:D} {v:V} {b:Bool},eqF n d e=some b->Rep X.K H d v->Rep X.K H e v->b=true
 | 0,_,_,_,_,h,_,_=>by cases h
 | n+1,d,e,v,b,h,r1,r2=>by
  unfold eqF at h
  split at h
  ·rw[r1.int_inv] at r2;cases r2;cases h;simp
  ·rw[r1.bl_inv] at r2;cases r2;cases h;simp
  ·cases h;rfl
  ·cases r1;cases r2
  ·cases r2;cases r1
  ·rename_i xs ys
   cases r1 with
   | @tup a vs _ h1 q1 =>
    cases r2 with
    | @tup _ ws _ h2 q2 =>
     rw[h1] at h2;cases h2
     exact mG (λ{d e v b}=>jS I n) h q1 q2
  ·rename_i xs ys
   cases r1 with
   | @lst a vs _ h1 q1 =>
    cases r2 with
    | @lst _ ws _ h2 q2 =>
     rw[I.list_inj h2.sq h1.sq] at q2
     exact mG (λ{d e v b}=>jS I n) h q1 q2
  ·cases h
theorem mH (I:Inv X pins σ H s) {n:Nat} {xs ys:List D} {a c:Addr} {vs ws:List V} {b:Bool} {A:Around} (h:eqL (eqF n) xs ys=some b) (h1:SqL X.K H a vs) (q1:Reps X.K H xs vs) (h2:SqL X.K H c ws) (q2:Reps X.K H ys ws) (hu:A.units<cLine)
  (at':∀{d e:D} {v u:V} {x y:Value} {b:Bool},eqF n d e=some b->Rep X.K H d v->Rep X.K H e u->RelV v x->RelV u y->SeqAt.EqAt A.in1 s x y b):SeqAt.RcAt A s (.ref a) (.ref c) b/\SeqAt.EqAt A s (.ref a) (.ref c) b:=by
 obtain⟨its,rv,ht,_⟩:=I.list h1
 obtain⟨its2,rv2,ht2,_⟩:=I.list h2
 have l1:xs.length=its.length:=q1.length.trans rv.length
 have l2:ys.length=its2.length:=q2.length.trans rv2.length
 have rc:SeqAt.RcAt A s (.ref a) (.ref c) b:=by
  by_cases hl:xs.length=ys.length
  ·have:=SeqAt.RcAt.lists (A:=A) (s:=s) (e:=λj=>match xs[j]?,ys[j]? with | some x,some y=>(eqF n x y).getD false | _,_=>false) ht.isList ht2.isList (by simp;omega) hu (λj g1 g2=>?_)
   ·have al:=iB h
    simp only[List.size_toArray,<-l1] at this
    rw[<-hl,Nat.min_self,beq_self_eq_true,Bool.and_true] at al
    rw[al] at this
    exact this
   ·simp only[List.size_toArray] at g1 g2
    have e1:xs[j]? = some (xs[j]'(by omega)):=List.getElem?_eq_getElem _
    have e2:ys[j]? = some (ys[j]'(by omega)):=List.getElem?_eq_getElem _
    obtain⟨k,hk⟩:=jT h j _ _ e1 e2
    rw[e1,e2]
    simp only[hk,Option.getD_some]
    obtain⟨v1,f1,f2⟩:=q1.get e1
    obtain⟨v2,f3,f4⟩:=q2.get e2
    obtain⟨u1,g3,g4⟩:=rv.get f1
    obtain⟨u2,g5,g6⟩:=rv2.get f3
    have a1:its.toArray[j]=u1:=by
     have:=List.getElem?_eq_getElem g1
     rw[this] at g3
     simpa using Option.some.inj g3
    have a2:its2.toArray[j]=u2:=by
     have:=List.getElem?_eq_getElem g2
     rw[this] at g5
     simpa using Option.some.inj g5
    rw[a1,a2]
    exact at' hk f2 f4 g4 g6
  ·have al:=iB h
   have:(xs.length == ys.length)=false:=by simpa using hl
   rw[this,Bool.and_false] at al
   rw[<-al]
   exact SeqAt.RcAt.lists_lengths ht.isList ht2.isList (by simp;omega) hu
 refine⟨rc,?_⟩
 by_cases hac:a=c
 ·subst hac
  rw[I.list_inj h2 h1] at q2
  rw[mG (λ{d e v b}=>jS I n) h q1 q2]
  exact SeqAt.EqAt.same _
 ·exact SeqAt.EqAt.of_refs hac rc
theorem fL (I:Inv X pins σ H s):∀(n:Nat) {d e:D} {v u:V} {x y:Value} {b:Bool} {A:Around},eqF n d e=some b->Rep X.K H d v->Rep X.K H e u->RelV v x->RelV u y->A.units+n<cLine ->
  SeqAt.RcAt A s x y b/\SeqAt.EqAt A s x y b
 | 0,_,_,_,_,_,_,_,_,h,_,_,_,_,_=>by cases h
 | n+1,d,e,v,u,x,y,b,A,h,r1,r2,rx,ry,hu=>by
  have same:=λ(hvu:v=u)=>jS I (n+1) h r1 (hvu ▸ r2)
  unfold eqF at h
  split at h
  ·rename_i i j
   rw[r1.int_inv] at rx;rw[r2.int_inv] at ry
   obtain⟨t,rfl⟩:=rx
   obtain⟨t',rfl⟩:=ry
   cases h
   have e:decide (i=j)=(i == j):=by rw[Bool.beq_eq_decide_eq]
   rw[e]
   exact⟨SeqAt.RcAt.int_int _ _ _ _,SeqAt.EqAt.int_int _ _ _ _⟩
  ·rename_i i j
   rw[r1.bl_inv] at rx;rw[r2.bl_inv] at ry
   cases rx;cases ry
   cases h
   have e:decide (i=j)=(i == j):=by rw[Bool.beq_eq_decide_eq]
   rw[e]
   exact⟨SeqAt.RcAt.bool_bool _ _,SeqAt.EqAt.bool_bool _ _⟩
  ·cases r1;cases r2;cases rx;cases ry;cases h
   exact⟨SeqAt.RcAt.none_none,SeqAt.EqAt.same _⟩
  ·cases r1
   cases r2 with
   | tup h2 q2 =>
    cases rx;cases ry;cases h
    obtain⟨its,rv,ht,_⟩:=I.tuple (SqT.of h2)
    exact⟨SeqAt.RcAt.none_tuple ht (by omega),SeqAt.EqAt.none_tuple ht (by omega)⟩
  ·cases r2
   cases r1 with
   | tup h2 q2 =>
    cases rx;cases ry;cases h
    obtain⟨its,rv,ht,_⟩:=I.tuple (SqT.of h2)
    exact⟨SeqAt.RcAt.tuple_none ht (by omega),SeqAt.EqAt.tuple_none ht (by omega)⟩
  ·rename_i xs ys
   cases r1 with
   | @tup a vs _ h1 q1 =>
    cases r2 with
    | @tup c ws _ h2 q2 =>
     cases rx;cases ry
     obtain⟨its,rv,ht,_⟩:=I.tuple (SqT.of h1)
     obtain⟨its2,rv2,ht2,_⟩:=I.tuple (SqT.of h2)
     have l1:xs.length=its.length:=q1.length.trans rv.length
     have l2:ys.length=its2.length:=q2.length.trans rv2.length
     have rc:SeqAt.RcAt A s (.ref a) (.ref c) b:=by
      have:=SeqAt.RcAt.tuples (A:=A) (s:=s) (e:=λj=>match xs[j]?,ys[j]? with | some x,some y=>(eqF n x y).getD false | _,_=>false) ht ht2 (by omega) (λj g1 g2=>?_)
      ·simp only[List.size_toArray,<-l1,<-l2] at this
       rw[iB h] at this
       exact this
      ·simp only[List.size_toArray] at g1 g2
       have e1:xs[j]? = some (xs[j]'(by omega)):=List.getElem?_eq_getElem _
       have e2:ys[j]? = some (ys[j]'(by omega)):=List.getElem?_eq_getElem _
       obtain⟨k,hk⟩:=jT h j _ _ e1 e2
       rw[e1,e2]
       simp only[hk,Option.getD_some]
       obtain⟨v1,f1,f2⟩:=q1.get e1
       obtain⟨v2,f3,f4⟩:=q2.get e2
       obtain⟨u1,g3,g4⟩:=rv.get f1
       obtain⟨u2,g5,g6⟩:=rv2.get f3
       have a1:its.toArray[j]=u1:=by
        have:=List.getElem?_eq_getElem g1
        rw[this] at g3
        simpa using Option.some.inj g3
       have a2:its2.toArray[j]=u2:=by
        have:=List.getElem?_eq_getElem g2
        rw[this] at g5
        simpa using Option.some.inj g5
       rw[a1,a2]
       exact (fL I n hk f2 f4 g4 g6 (by show A.units+1+n<cLine;omega)).2
     refine⟨rc,?_⟩
     by_cases hac:a=c
     ·subst hac
      rw[same rfl]
      exact SeqAt.EqAt.same _
     ·exact SeqAt.EqAt.of_refs hac rc
  ·rename_i xs ys
   cases r1 with
   | @lst a vs _ h1 q1 =>
    cases r2 with
    | @lst c ws _ h2 q2 =>
     cases rx;cases ry
     exact mH I h h1.sq q1 h2.sq q2 (by omega) λ{d e v u x y b} hk f2 f4 g4 g6=>(fL I n hk f2 f4 g4 g6 (by show A.units+1+n<cLine;omega)).2
  ·cases h
end
noncomputable def dEq:R22:=λx y Q=>match eqF 6 x y with
 | some b=>Q (.bl b)
 | none=>False
section
variable {X:Cx}
theorem EJ {X:Cx} {pins:List (Addr × Obj)} {σ:St} {H:Hp} {s:Shared} (I:Inv X pins σ H s) {d e:D} {v u:V} {x y:Value} {b:Bool} {A:Around} (h:eqF 6 d e=some b) (r1:RepB X.K H d v) (r2:RepB X.K H e u) (rx:RelV v x) (ry:RelV u y) (hu:A.units+6<cLine):SeqAt.RcAt A s x y b:=by
 by_cases hl:∃xs ys,d = .lst xs/\e = .lst ys
 ·obtain⟨xs,ys,rfl,rfl⟩:=hl
  obtain⟨a,vs,rfl,h1,q1⟩:=r1.lst
  obtain⟨c,ws,rfl,h2,q2⟩:=r2.lst
  cases rx;cases ry
  exact (mH I (n:=5) h h1 q1 h2 q2 (by omega) λ{d e v u x y b} hk f2 f4 g4 g6=>(fL I 5 hk f2 f4 g4 g6 (by show A.units+1+5<cLine;omega)).2).1
 ·have p1:Rep X.K H d v:=by
   rcases r1 with r | ⟨ds,a,vs,e1,_⟩
   ·exact r
   ·subst e1;cases e <;> first | (cases h;done) | exact absurd ⟨_,_,rfl,rfl⟩ hl
  have p2:Rep X.K H e u:=by
   rcases r2 with r | ⟨ds,a,vs,e1,_⟩
   ·exact r
   ·subst e1;cases d <;> first | (cases h;done) | exact absurd ⟨_,_,rfl,rfl⟩ hl
  exact (fL I 6 h p1 p2 rx ry hu).1
theorem GU {k:Nat} (hr:Room k X.A):OpD X (compareOp .Eq) dEq:=by
 intro pins s σ H x y v u Q I rx ry hh_0
 obtain⟨d,e,P,r1,r2,q,kk⟩:=hh_0
 unfold dEq at q
 split at q
 ·rename_i b hb
  have hu:=hr.units
  exact EJ I (A:=X.A) hb r1 r2 rx ry (by omega) _ _ _ _ ⟨.bl b,H,I,rfl,kk _ _ H q (Same.refl H) (.bl b)⟩
 ·exact q.elim
end
theorem gB (env:Env):∀(names:List (Str × NameKind)) (acc:List (Str × Addr)),(∀y∈names,y.2 = .free->∃c,env.cells.lookup y.1=some c) ->
  ∃cl:List (Str × Addr),(do
   let mut cs:=acc
   for (name,kind) in names do
    if kind == .free then cs:=(name,<-cellOf env name)::cs
   return cs:Sem (List (Str × Addr)))=pure cl/\(∀p∈cl,p∈acc\/env.cells.lookup p.1=some p.2)/\(∀p∈acc,p∈cl)/\∀y∈names,y.2 = .free->∃c,(y.1,c)∈cl
 | [],acc,_=>⟨acc,by simp,λp h=>.inl h,λp h=>h,λy h=>by simp at h⟩
 | (n,k)::r,acc,h=>by
  by_cases hk:k = .free
  ·subst hk
   obtain⟨c,hc⟩:=h _ List.mem_cons_self rfl
   obtain⟨cl,e,h1,h2,h3⟩:=gB env r ((n,c)::acc) λy hy=>h y (List.mem_cons_of_mem _ hy)
   refine⟨cl,?_,λp hp=>?_,λp hp=>h2 p (List.mem_cons_of_mem _ hp),λy hy hf=>?_⟩
   ·rw[<-e]
    have hcell:cellOf env n=pure c:=by unfold cellOf;rw[hc]
    simp only[List.forIn_cons,hcell,beq_self_eq_true,if_true,pure_bind]
   ·rcases h1 p hp with q | q
    ·rcases List.mem_cons.mp q with rfl | q
     ·exact .inr hc
     ·exact .inl q
    ·exact .inr q
   ·rcases List.mem_cons.mp hy with rfl | hy
    ·exact⟨c,h2 _ List.mem_cons_self⟩
    ·exact h3 y hy hf
  ·obtain⟨cl,e,h1,h2,h3⟩:=gB env r acc λy hy=>h y (List.mem_cons_of_mem _ hy)
   refine⟨cl,?_,h1,h2,λy hy hf=>?_⟩
   ·rw[<-e]
    have hb:(k == NameKind.free)=false:=by simpa using hk
    simp only[List.forIn_cons,hb,Bool.false_eq_true,if_false,pure_bind]
   ·rcases List.mem_cons.mp hy with rfl | hy
    ·exact absurd hf hk
    ·exact h3 y hy hf
theorem iJ {α:Type}:∀{l:List (Str × α)} {x:Str} {c:α},(x,c)∈l->∃c',l.lookup x=some c'
 | [],_,_,h=>by simp at h
 | (y,d)::r,x,c,h=>by
  rw[List.lookup_cons]
  cases e:x == y with
  | true=>exact⟨d,rfl⟩
  | false =>
   rcases List.mem_cons.mp h with q | q
   ·cases q;rw[beq_self_eq_true] at e;cases e
   ·exact iJ q
theorem mC {scope:Scope} {env:Env} (h:∀y∈scope.names,y.2 = .free->∃c,env.cells.lookup y.1=some c) :
  ∃cl,closureFor scope env=pure cl/\(∀x c,cl.lookup x=some c->env.cells.lookup x=some c)/\∀y∈scope.names,y.2 = .free->∃c,cl.lookup y.1=some c:=by
 obtain⟨cl,e,h1,_,h3⟩:=gB env scope.names [] h
 refine⟨cl,e,λx c hx=>?_,λy hy hf=>?_⟩
 ·rcases h1 _ (PySem.mem_of_lookup hx) with q | q
  ·simp at q
  ·exact q
 ·obtain⟨c,hc⟩:=h3 y hy hf
  exact iJ hc
noncomputable def eT (X:Cx) (scope:Scope) (N:List Str) (cl:List (Str × Addr)) (C:Addr) (s:Shared) (H:Hp) (fp:List Addr):Cx where
 prog:=X.prog
 w:=X.w
 K:=X.K
 mg:=X.mg
 base:=X.base
 A:=X.A
 N:=N
 s₀:=s
 H₀:=H
 env:=compEnvC scope cl C X.env
 outer:=X.stack
 stack:=X.stack
 ex:=fp
 fn:=λ_=>false
 calm:=X.calm
 pn:=[]
 xe:=λ_ _=>False
structure CScope (X:Cx) (scope:Scope):Prop where
 kind:scope.kind = .function
 nocell:∀y∈scope.names,y.2≠.cell
 locs:∀y∈scope.names,y.2 = .local->scope.names.lookup y.1=some .local
 frees:∀y∈scope.names,y.2 = .free->X.env.kindOf y.1=some .cell\/X.env.kindOf y.1=some .free
theorem cS {env:Env}:∀{names:List (Str × NameKind)} {x:Str} {k:NameKind},(names.map λ(n,k)=>if (k == NameKind.free && env.scope.kind == .function && env.kindOf n == some .cell) then (n,NameKind.cell) else (n,k)).lookup x=some k ->
  (k = .cell\/k = .free)->(∀y∈names,y.2≠.cell)->(x,.free)∈names
 | [],_,_,h,_,_=>by simp at h
 | (n,j)::r,x,k,h,hk,hn=>by
  have h:List.lookup x ((if (j == NameKind.free && env.scope.kind == .function && env.kindOf n == some .cell)=true then (n,NameKind.cell) else (n,j))::r.map λ(n,k)=>if (k == NameKind.free && env.scope.kind == .function && env.kindOf n == some .cell) then (n,NameKind.cell) else (n,k))=some k:=h
  have hn':∀y∈r,y.2≠.cell:=λy hy=>hn y (List.mem_cons_of_mem _ hy)
  cases hx:x == n with
  | true =>
   have e:x=n:=eq_of_beq hx
   subst e
   by_cases hc:(j == NameKind.free && env.scope.kind == .function && env.kindOf x == some .cell)=true
   ·have hj:j = .free:=by
     rw[Bool.and_eq_true,Bool.and_eq_true] at hc
     exact eq_of_beq hc.1.1
    subst hj
    exact List.mem_cons_self
   ·rw[if_neg hc,List.lookup_cons,beq_self_eq_true] at h
    cases h
    rcases hk with rfl | rfl
    ·exact absurd rfl (hn _ List.mem_cons_self)
    ·exact List.mem_cons_self
  | false =>
   by_cases hc:(j == NameKind.free && env.scope.kind == .function && env.kindOf n == some .cell)=true
   ·rw[if_pos hc,List.lookup_cons,hx] at h
    exact List.mem_cons_of_mem _ (cS h hk hn')
   ·rw[if_neg hc,List.lookup_cons,hx] at h
    exact List.mem_cons_of_mem _ (cS h hk hn')
section
variable {X:Cx} {pins:List (Addr × Obj)} {σ:St} {H:Hp} {s:Shared} {scope:Scope} {N:List Str} {cl:List (Str × Addr)} {C:Addr} {fp:List Addr}
theorem AR (I:Inv X pins σ H s) (Sc:CScope X scope) (hcl:∀x c,cl.lookup x=some c->X.env.cells.lookup x=some c) (hall:∀y∈scope.names,y.2 = .free->∃c,cl.lookup y.1=some c)
  (hC:s.heap.objs.size<=C) (hf:∀b∈fp,kI X pins H b) (hlt:∀b∈fp,b<s.heap.objs.size):(eT X scope N cl C s H fp).Ok:=by
 refine⟨I.ok.mod,Sc.kind,I.ok.glob,I.ok.blt,hC,λx y c h1 h2=>I.ok.inj x y c (hcl x c h1) (hcl y c h2),λx hx=>?_,λx c hx=>absurd (show false=true from hx) Bool.false_ne_true,I.ok.hd,I.ok.frames,.inl rfl,λb hb=>?_,I.bs,Nat.le_trans I.ok.bsz I.sz,λb o e hb=>?_,λb hb hfs=>?_,I.stack,I.stkFree⟩
 ·have hx:(scope.names.map λ(n,k)=>if (k == NameKind.free && X.env.scope.kind == .function && X.env.kindOf n == some .cell) then (n,NameKind.cell) else (n,k)).lookup x=some .cell\/(scope.names.map λ(n,k)=>if (k == NameKind.free && X.env.scope.kind == .function && X.env.kindOf n == some .cell) then (n,NameKind.cell) else (n,k)).lookup x=some .free:=hx
  have:(x,NameKind.free)∈scope.names:=by
   rcases hx with hx | hx
   ·exact cS hx (.inl rfl) Sc.nocell
   ·exact cS hx (.inr rfl) Sc.nocell
  exact hall _ this rfl
 ·obtain⟨f0,f1,f2,f3,f4,f5⟩:=hf b hb
  exact⟨Nat.ne_of_lt (Nat.lt_of_lt_of_le (hlt b hb) hC),λx c e=>f4 x c (hcl x c e)⟩
 ·obtain⟨f0,f1,f2,f3,f4,f5⟩:=hf b hb
  rcases f3 with z | z
  ·exact I.ok.noex b o e z
  ·have h1:=(Heap.lt_size e)
   have h2:=I.ok.bsz
   exact absurd (Nat.lt_of_lt_of_le h1 (Nat.le_trans h2 z)) (Nat.lt_irrefl _)
 ·obtain⟨f0,f1,f2,f3,f4,f5⟩:=hf b hb
  rcases List.mem_cons.mp (I.stkSub b hfs) with e | e
  ·exact f1 e
  ·exact f2 e
noncomputable def pR (σ:St) (k:Nat) (ix:List Nat):St:=List.replicate k none++ix.map λi=>(σ[i]?).join
theorem yF (I:Inv X pins σ H s) (Sc:CScope X scope) (hcl:∀x c,cl.lookup x=some c->X.env.cells.lookup x=some c) (hall:∀y∈scope.names,y.2 = .free->∃c,cl.lookup y.1=some c)
  {s4:Shared} {m:Str->Option Value} {k:Nat} {ix:List Nat} {ys:List Str} (hC:s.heap.objs.size<=C) (hf:∀b∈fp,kI X pins H b) (hlt:∀b∈fp,b<s.heap.objs.size)
  (hk4:∀b o,s.heap.get? b=some o->s4.heap.get? b=some o) (hos:s4.os=s.os) (hb:AllBare s4.gens) (hns:s4.heap.Ns C m)
  (hN:N.length=k+ys.length) (hdrop:N.drop k=ys) (hix:ix.length=ys.length) (hiy:∀(j:Nat) (y:Str) (i:Nat),ys[j]? = some y->ix[j]? = some i->X.N[i]? = some y/\(y,NameKind.free)∈scope.names)
  (hkind:∀y∈ys,(relabel scope X.env).names.lookup y=some .cell\/(relabel scope X.env).names.lookup y=some .free) :
  Inv (eT X scope N cl C s H fp) [] (pR σ k ix) H s4:=by
 have hfr:H C=none:=I.hok.fresh hC
 refine⟨AR I Sc hcl hall hC hf hlt,hos,hb,Un.kept hk4,⟨m,hns,λi x v e1 e2 e3=>?_⟩,λx c e=>?_,hfr,λx c e=>I.freeC x c (hcl x c e),λp hp=>absurd (show p∈([]:List (Addr × Obj)) from hp) (by simp),I.hok.kept hk4,?_⟩
 ·unfold pR at e2
  by_cases hik:i<k
  ·rw[List.getElem?_append_left (by simpa using hik),List.getElem?_replicate,if_pos hik] at e2
   cases e2
  ·rw[List.getElem?_append_right (by simpa using hik),List.length_replicate,List.getElem?_map] at e2
   cases eo:ix[i-k]? with
   | none=>rw[eo] at e2;cases e2
   | some o =>
    rw[eo] at e2
    have e2:some ((σ[o]?).join)=some (some v):=e2
    have e2':σ[o]? = some (some v):=by
     cases q:σ[o]? with
     | none=>rw[q] at e2;cases e2
     | some z=>rw[q] at e2;cases e2;rfl
    have ey:ys[i-k]? = some x:=by
     rw[<-hdrop,List.getElem?_drop]
     rw[show k+(i-k)=i by omega]
     exact e1
    obtain⟨h1,h2⟩:=hiy _ _ _ ey eo
    have hv:Vis X.env.scope x:=by
     rcases Sc.frees _ h2 rfl with q | q
     ·exact .inr (.inl q)
     ·exact .inr (.inr q)
    obtain⟨m0,hn0,hl0⟩:=I.loc
    obtain⟨u,ru,lu⟩:=hl0 o x v h1 e2' hv
    refine⟨u,ru,.inr ⟨hkind x (List.mem_of_getElem? ey),?_⟩⟩
    obtain⟨c,hc⟩:=hall _ h2 rfl
    refine⟨c,hc,?_⟩
    rcases lu with ⟨q,_⟩ | ⟨_,c',hc',hcell⟩
    ·rcases Sc.frees _ h2 rfl with z | z
     ·rw[z] at q;cases q
     ·rw[z] at q;cases q
    ·have:=hcl x c hc
     rw[this] at hc';cases hc'
     obtain⟨oc,ho,hd⟩:=hcell
     exact⟨oc,hk4 _ _ ho,hd⟩
 ·obtain⟨v,oc,ho,hd⟩:=I.cell x c (hcl x c e)
  exact⟨v,oc,hk4 _ _ ho,hd⟩
 ·unfold pR
  show _=N.length
  rw[List.length_append,List.length_replicate,List.length_map,hix,hN]
end
theorem wD {prog:Program} {w:World} {A:Around} {R:Result->Shared->Prop} {s:Shared} {elt target iter:Expr} {scope:Scope} {pos:Pos} {it acc:Value} {env:Env} (I:Nat->Shared->Prop)
  (turn:∀n s,I n s->∀E:Value->Shared->Prop,wpAny (model prog w) A (pyNext it) (λr s₁=>match r with
   | none=>R (.ok .next) s₁
   | some v=>wpAny (model prog w) A (letOwnedTupleGo target it v) (λ_ s₁=>wpAny (model prog w) A (assign target env v) (λ_ s₂=>wpAny (model prog w) A (eval elt env) (λx s₃ =>
     wpAny (model prog w) A (call (.builtin "list.append") [acc,x]) (λ_ s₄=>∃m,m<n/\I m s₄) E s₃) E s₂) E s₁) E s₁) E s)
  (n:Nat) (h:I n s):codeAny (model prog w) A (.compLoop (.ListComp elt [⟨target,iter,[],0⟩] scope pos) 0 it acc env) R s:=by
 refine codeAny_loop rfl I (λn s hI=>?_) n h
 show wpAny _ _ ((compTurn (.ListComp elt [⟨target,iter,[],0⟩] scope pos) 0 it acc env).onRaise (λx=>do noteFrame x env;theTreesLotGoes x)) _ _ s
 refine wpAny_noted ?_
 rw[compTurn_list1]
 refine wpAny_bind (wpAny_standAt (wpAny_bind (wpAny_mono (turn n s hI _) (λr s₁ h₁=>?_) λ_ _ h'=>h')))
 cases r with
 | none=>exact wpAny_pure h₁
 | some v =>
  refine wpAny_bind (wpAny_mono h₁ (λ_ s₁' h₁'=>?_) λ_ _ h'=>h')
  exact wpAny_bind (wpAny_mono h₁' (λ_ s₂ h₂=>wpAny_bind (wpAny_bind (wpAny_mono h₂ (λx s₃ h₃=>wpAny_bind (wpAny_mono h₃
   (λ_ s₄ h₄=>wpAny_pure (wpAny_pure ⟨rfl,h₄⟩)) λ_ _ h'=>h')) λ_ _ h'=>h'))) λ_ _ h'=>h')
noncomputable def dX (g:RG) (te:RE):List D->En->List D->(List D->Prop)->Prop
 | [],_,acc,Q=>Q acc
 | x::xs,ρ,acc,Q=>g x ρ λρ'=>te ρ' λd=>dX g te xs ρ' (acc++[d]) Q
noncomputable def mB (ρ:En) (i:Nat):Option S:=match ρ[i]? with
 | some (some (.d d))=>some (.d d)
 | _=>none
noncomputable def gA (ρ:En) (k:Nat) (ix:List Nat):En:=List.replicate k none++ix.map (mB ρ)
theorem DX {X X':Cx} {ρ:En} {σ:St} {H:Hp} {k:Nat} {ix:List Nat} (so:StOk X ρ σ H) (hK:X'.K=X.K) (hH:X'.H₀=H):StOk X' (gA ρ k ix) (pR σ k ix) H:=by
 have own:∀(i:Nat) (x:S),(gA ρ k ix)[i]? = some (some x)->∃d,x = .d d:=λi x e=>by
  unfold gA at e
  by_cases hik:i<k
  ·rw[List.getElem?_append_left (by simpa using hik),List.getElem?_replicate,if_pos hik] at e;cases e
  ·rw[List.getElem?_append_right (by simpa using hik),List.getElem?_map] at e
   cases eo:ix[i-(List.replicate k (none:Option S)).length]? with
   | none=>rw[eo] at e;cases e
   | some o =>
    rw[eo] at e
    have e:some (mB ρ o)=some (some x):=e
    have e:=Option.some.inj e
    unfold mB at e
    split at e <;> cases e
    exact⟨_,rfl⟩
 refine⟨by simp[gA,pR],by rw[hH];exact Same.refl H,λi x e=>?_,λi j x y v u a e1 _ _ _ o _=>by
  obtain⟨d,rfl⟩:=own i x e1
  exact o.elim⟩
 unfold gA at e
 by_cases hik:i<k
 ·rw[List.getElem?_append_left (by simpa using hik),List.getElem?_replicate,if_pos hik] at e;cases e
 ·rw[List.getElem?_append_right (by simpa using hik),List.getElem?_map,List.length_replicate] at e
  cases eo:ix[i-k]? with
  | none=>rw[eo] at e;cases e
  | some o =>
   rw[eo] at e
   have e:some (mB ρ o)=some (some x):=e
   have e:=Option.some.inj e
   unfold mB at e
   split at e
   ·rename_i d ed
    cases e
    obtain⟨v,h1,h2⟩:=so.rel o _ ed
    refine⟨v,?_,by rw[hK];exact h2⟩
    unfold pR
    rw[List.getElem?_append_right (by simpa using hik),List.getElem?_map,List.length_replicate,eo,Option.map_some,h1];rfl
   ·cases e
section
variable {X:Cx} {pins:List (Addr × Obj)} {σ:St} {H:Hp} {s2:Shared} {scope:Scope} {N:List Str} {cl:List (Str × Addr)} {fp:List Addr} {it:Addr} {tn:Nat->Heap->Prop} {J:It} {xs:List D} {ρ:En}
 {elt target iter:Expr} {pos:Pos} {g:RG} {te:RE} {k:Nat} {ix:List Nat} {ys:List Str} {P:List D->Prop}
theorem _root_.L2.Inv.track {s s':Shared} {H H':Hp} {a:Addr} {vs:List V} {its:List Value} {n:Nat} (I:Inv X pins σ H s) (I':Inv X pins σ H' s') (ha:s.heap.objs.size<=a) (hn:H' a=none)
  (e:s'.heap.get? a=some { cls:=.type "list",data:=.seq its.toArray n }) (rv:Vals vs its) (hz:vs.length<=sizeLine):Inv X pins σ (upd H' a (.lst vs)) s':=by
 have hL:X.env.locals≠a:=Nat.ne_of_lt (Nat.lt_of_lt_of_le I.lt ha)
 have hcell:∀x c,X.env.cells.lookup x=some c->c≠a:=λx c q z=>by
  obtain⟨v,hv⟩:=I.cell x c q
  exact absurd (Nat.lt_of_lt_of_le hv.lt (by rw[z];exact ha)) (Nat.lt_irrefl _)
 have hs0:∀{b:Addr} {o:Obj},X.s₀.heap.get? b=some o->b≠a:=λ{b o} q=>Nat.ne_of_lt (Nat.lt_of_lt_of_le (Heap.lt_size q) (Nat.le_trans I.sz ha))
 refine⟨I'.ok,I'.os,I'.bare,⟨I'.base.keep,I'.base.slot,λb o q n hx=>?_,I'.base.there,λb ys q=>?_,λb o u q=>?_,λb ps q=>?_⟩,I'.loc,I'.cell,?_,λx c q=>?_,λp hp=>?_,λb u q=>?_,I'.len⟩
 ·rw[aF (hs0 q)];exact I'.base.free b o q n hx
 ·rw[aF (aJ (I'.base.tups b ys q) hn)];exact I'.base.tups b ys q
 ·rw[aF (aJ (I'.base.frzs b o u q) hn)];exact I'.base.frzs b o u q
 ·obtain⟨m,q2⟩:=I'.base.tbls b ps q
  exact⟨m,by rw[aF (aJ q2 hn)];exact q2⟩
 ·rw[aF hL];exact I'.free
 ·rw[aF (hcell x c q)];exact I'.freeC x c q
 ·obtain⟨q1,q2,q3,q4,q5⟩:=I'.pin p hp
  have hp1:p.1≠a:=Nat.ne_of_lt (Nat.lt_of_lt_of_le (Heap.lt_size (I.pin p hp).1) ha)
  exact⟨q1,by rw[aF hp1];exact q2,q3,q4,q5⟩
 ·by_cases hb:b=a
  ·subst hb
   rw[aM] at q;cases q
   exact⟨hz,its,n,rv,e⟩
  ·rw[aF hb] at q
   exact (I'.hok b u q).stay (λc v _ w=>w) (λc w=>by rw[aF (aJ w hn)];exact w) λc ys w=>by rw[aF (aJ w hn)];exact w
theorem oO (hc:X.calm=true) (Sc:CScope X scope) (hcl:∀x c,cl.lookup x=some c->X.env.cells.lookup x=some c) (hall:∀y∈scope.names,y.2 = .free->∃c,cl.lookup y.1=some c)
  (hN:N.length=k+ys.length) (hdrop:N.drop k=ys) (hix:ix.length=ys.length) (hiy:∀(j:Nat) (y:Str) (i:Nat),ys[j]? = some y->ix[j]? = some i->X.N[i]? = some y/\(y,NameKind.free)∈scope.names)
  (hkind:∀y∈ys,(relabel scope X.env).names.lookup y=some .cell\/(relabel scope X.env).names.lookup y=some .free)
  (hg:∀C s H fp,DG (eT X scope N cl C s H fp) target g) (he:∀C s H fp,DE (eT X scope N cl C s H fp) elt te)
  (I2:Inv X pins σ H s2) (so:StOk X ρ σ H) (T:Turn X.prog X.w X.K target J fp it tn) (st:tn 0 s2.heap) (hf:∀b∈fp,kI X pins H b) (ok:xX X J xs H) (hz:xs.length<=sizeLine)
  (hP:dX g te xs (gA ρ k ix) [] P) {RR:Value->Addr->Result->Shared->Prop} {E:Value->Shared->Prop}
  (post:∀(ds:List D) (vs:List V) (its:List Value) (n:Nat) (C:Addr) (s':Shared) (H':Hp),P ds->Same H H'->H' s2.heap.objs.size=none->Reps X.K H' ds vs->Vals vs its->vs.length<=sizeLine ->
   s'.heap.get? s2.heap.objs.size=some { cls:=.type "list",data:=.seq its.toArray n }->Inv X pins σ H' s'->(∃m,s'.heap.Ns C m)->s2.heap.objs.size<C->H' C=none->RR (.ref s2.heap.objs.size) C (.ok .next) s') :
  wpAny (model X.prog X.w) X.A (newList []) (λacc s₃=>wpAny (model X.prog X.w) X.A (newFunctionEnv scope X.env.globals cl [] X.env.qual none .none (some X.env)) (λcenv s₄ =>
   codeAny (model X.prog X.w) X.A (.compStart (.ListComp elt [⟨target,iter,[],0⟩] scope pos) 0 (.ref it) acc { cenv with scope:=relabel scope X.env }) (RR acc cenv.locals) s₄) E s₃) E s2:=by
 refine wpAny_newObj_type (wpAny_newFunctionEnv Sc.nocell (by intro y hy;simp at hy) (λh₁ hns₁ hsb₁=>?_) Sc.kind)
 dsimp only at hns₁ hsb₁ ⊢
 generalize hH2:s2.heap.push { cls:=.type "list",dict:=none,data:=.seq ([]:List Value).toArray } = HP2 at hns₁ hsb₁ ⊢
 have hCs:HP2.objs.size=s2.heap.objs.size+1:=by rw[<-hH2,Heap.size_push]
 have hltC:s2.heap.objs.size<HP2.objs.size:=by rw[hCs];exact Nat.lt_succ_self _
 have hlt:∀b∈fp,b<s2.heap.objs.size:=λb hb=>by
  obtain⟨o,ho,_⟩:=T.obj 0 _ st b hb
  exact Heap.lt_size ho
 have old:∀b o,s2.heap.get? b=some o->h₁.get? b=some o:=λb o e =>
  hsb₁.extBut b o (Nat.ne_of_lt (Nat.lt_trans (Heap.lt_size e) hltC)) (Heap.get?_push_of_some _ (hH2 ▸ Heap.get?_push_of_some _ e))
 have hacc:h₁.get? s2.heap.objs.size=some { cls:=.type "list",data:=.seq ([]:List Value).toArray 0 } :=
  hsb₁.extBut _ _ (Nat.ne_of_lt hltC) (Heap.get?_push_of_some _ (hH2 ▸ Heap.get?_push_size _ rfl))
 have hfr:H s2.heap.objs.size=none:=I2.hok.fresh (Nat.le_refl _)
 let X':=eT X scope N cl HP2.objs.size s2 H fp
 have J0:Inv X' [] (pR σ k ix) H { s2 with heap:=h₁,toks:=s2.toks+([]:List (Str × Value)).length } :=
  yF I2 Sc hcl hall (Nat.le_of_lt hltC) hf hlt old rfl I2.bare hns₁ hN hdrop hix hiy hkind
 have S0:StOk X' (gA ρ k ix) (pR σ k ix) H:=DX so rfl rfl
 have hD0fs:s2.heap.objs.size ∉ X'.fs:=λhb=>by
  have hb:s2.heap.objs.size∈frs X.stack:=hb
  rcases List.mem_cons.mp (I2.stkSub _ hb) with e | e
  ·exact absurd (show X.env.locals<X.env.locals from Nat.lt_of_lt_of_eq I2.lt e) (Nat.lt_irrefl _)
  ·exact I2.nofs (Nat.le_refl _) e
 have fpok:∀{H':Hp} {o:Obj},(∀b∈fp,H' b=none)->∀b∈fp,kI X' [(s2.heap.objs.size,o)] H' b:=λ{H' o} hn b hb=>by
  obtain⟨f0,f1,f2,f3,f4,f5⟩:=hf b hb
  refine⟨hn b hb,Nat.ne_of_lt (Nat.lt_trans (hlt b hb) hltC),λhfs=>?_,.inl hb,λx c e=>f4 x c (hcl x c e),λp hp=>?_⟩
  ·rcases List.mem_cons.mp (I2.stkSub b hfs) with e | e
   ·exact f1 e
   ·exact f2 e
  ·have:p=(s2.heap.objs.size,o):=by simpa [X',eT] using hp
   subst this
   exact Nat.ne_of_gt (hlt b hb)
 have pinD:∀{σ':St} {H':Hp} {s':Shared} {its:List Value} {n:Nat},Inv X' [] σ' H' s'->H' s2.heap.objs.size=none->s'.heap.get? s2.heap.objs.size=some { cls:=.type "list",data:=.seq its.toArray n }->Inv X' [(s2.heap.objs.size,{ cls:=.type "list",data:=.seq its.toArray n })] σ' H' s':=λI' hn e =>
  I'.pins_of λp hp=>by
   have:=List.mem_singleton.mp hp
   subst this
   exact⟨e,hn,Nat.ne_of_lt hltC,hD0fs,λv z=>by cases z⟩
 have loop:∀s₃:Shared,s₃ = { s2 with heap:=h₁,toks:=s2.toks+([]:List (Str × Value)).length } ->
   codeAny (model X.prog X.w) X.A (.compLoop (.ListComp elt [⟨target,iter,[],0⟩] scope pos) 0 (.ref it) (.ref s2.heap.objs.size) (compEnvC scope cl HP2.objs.size X.env)) (RR (.ref s2.heap.objs.size) HP2.objs.size) s₃:=by
  rintro s₃ rfl
  refine wD (λm s'=>∃(i:Nat) (ρ':En) (σ':St) (H':Hp) (ds:List D) (vs:List V) (its:List Value) (n:Nat),m=xs.length-i/\i<=xs.length/\Inv X' [] σ' H' s'/\StOk X' ρ' σ' H'/\tn i s'.heap/\(∀b∈fp,H' b=none) /\
   H' s2.heap.objs.size=none/\s'.heap.get? s2.heap.objs.size=some { cls:=.type "list",data:=.seq its.toArray n }/\Reps X.K H' ds vs/\Vals vs its/\vs.length=i/\dX g te (xs.drop i) ρ' ds P) ?_ xs.length
   ⟨0,gA ρ k ix,pR σ k ix,H,[],[],[],0,rfl,Nat.zero_le _,J0,S0,T.keep _ _ _ st (λb hb o e=>old b o e),λb hb=>(hf b hb).1,hfr,hacc,.nil,.nil,rfl,by simpa using hP⟩
  rintro m s' ⟨i,ρ',σ',H',ds,vs,its,n,rfl,hi,I',S',st',fr',hn',e',rr,rv,hl,hD⟩ E'
  obtain⟨o1,o2⟩:=ok i H' (.of S'.same)
  have I1:=pinD I' hn' e'
  by_cases hlt':i<xs.length
  ·have e:xs.drop i=xs[i]::xs.drop (i+1):=List.drop_eq_getElem_cons hlt'
   rw[e] at hD
   obtain⟨go,yl⟩:=o1 xs[i] (List.getElem?_eq_getElem hlt')
   refine thn (T.item X' rfl rfl rfl hc i _ s' σ' H' E' I1 (fpok fr') st' go) λr s4 ⟨u,hr,h4⟩=>?_
   subst hr
   refine thn h4 λ_ s5 ⟨x,H5,I5,r5,y5,st5,fr5⟩=>?_
   obtain⟨s45,rx5⟩:=yl x H5 y5
   have I5':=I5.pinned (fpok fr5) (T.obj _ _ st5)
   refine wpAny_mono (hg _ _ _ _ _ s5 σ' H5 x u (λσ6 H6=>∃ρ6,te ρ6 (λd=>dX g te (xs.drop (i+1)) ρ6 (ds++[d]) P)/\Keep H5 H6/\StOk X' ρ6 σ6 H6) I5' r5 ⟨xs[i],ρ',_,rx5,S'.ext s45,hD,λρ6 σ6 H6 q6 k6 s6=>⟨ρ6,q6,k6,s6⟩⟩) (λ_ s6 ⟨σ6,H6,I6,ρ6,q6,k6,S6⟩=>?_) λ_ _ z=>z.elim
   refine wpAny_mono (he _ _ _ _ _ s6 σ6 H6 (λv H7=>∃d,dX g te (xs.drop (i+1)) ρ6 (ds++[d]) P/\Same H6 H7/\Rep X.K H7 d v) I6 ⟨ρ6,_,S6,q6,λd v H7 q7 s7 r7=>⟨d,q7,s7,r7⟩⟩) (λu7 s7 ⟨v7,H7,I7,rv7,d,q7,s67,r7⟩=>?_) λ_ _ z=>z.elim
   obtain⟨e7,n7,_,_,_⟩:=I7.pin (s2.heap.objs.size,_) (List.mem_append_right _ (List.mem_append_left _ List.mem_cons_self))
   have hsz:its.toArray.size+1<=sizeLine:=by
    rw[List.size_toArray,<-rv.length,hl]
    omega
   refine call_meets F.slot_list_append ⟨_,e7,rfl⟩ F.entry_list_append (F.args_list_append_2 _ _) (PySem.list_append s2.heap.objs.size its.toArray n u7 (by omega)) ⟨e7,?_⟩
   have e8:=PySem.IsL.update e7 (λa=>a.push u7)
   have I8:Inv X' [] σ6 H7 s7:=I7.pins_of λp hp=>absurd hp (by simp)
   have upd8:∀b o,b≠s2.heap.objs.size->s7.heap.get? b=some o->(s7.heap.update s2.heap.objs.size (Obj.mapSeq λa=>a.push u7)).get? b=some o:=λb o hb q=>(Heap.get?_update_other s7.heap _ (Ne.symm hb)).trans q
   have I9:Inv X' [] σ6 H7 { s7 with heap:=s7.heap.update s2.heap.objs.size (Obj.mapSeq λa=>a.push u7) } :=
    I8.turned (t':=s7.toks) upd8 n7 (Nat.ne_of_lt hltC) (.inr (Nat.le_refl _)) (λx c q z=>by
     obtain⟨v,hv⟩:=I2.cell x c (hcl x c q)
     exact absurd hv.lt (by rw[z];exact Nat.lt_irrefl _)) (λp hp=>absurd (show p∈([]:List (Addr × Obj)) from hp) (by simp))
   have k57:Keep H5 H7:=k6.trans (.of s67)
   have k':Keep H' H7:=(Keep.of s45).trans k57
   refine⟨xs.length-(i+1),by omega,i+1,ρ6,σ6,H7,ds++[d],vs++[v7],its++[u7],_,rfl,hlt',I9,S6.ext s67,?_,λb hb=>?_,n7,by simpa using e8,(rr.keep k').append (.cons r7 .nil),rv.append (.cons rv7 .nil),by rw[List.length_append,hl];rfl,q7⟩
   ·refine T.keep _ _ _ st5 λb hb o q=>?_
    have q7':=(I7.pin (b,o) (List.mem_append_right _ (List.mem_append_right _ (fM hb q)))).1
    exact upd8 b o (Nat.ne_of_lt (hlt b hb)) q7'
   ·obtain⟨o,q,_⟩:=T.obj _ _ st5 b hb
    exact (I7.pin (b,o) (List.mem_append_right _ (List.mem_append_right _ (fM hb q)))).2.1
  ·have hie:i=xs.length:=by omega
   subst hie
   rw[List.drop_length] at hD
   refine thn (T.done X' rfl rfl rfl hc _ _ s' σ' H' E' I1 (fpok fr') st' (o2 (Nat.le_refl _))) λr s4 ⟨hr,I4⟩=>?_
   subst hr
   obtain⟨e4,n4,_,_,_⟩:=I4.pin (s2.heap.objs.size,_) (List.mem_append_right _ List.mem_cons_self)
   obtain⟨m4,hn4,_⟩:=I4.loc
   have I5:Inv X pins σ H' s4:=I2.call' (ch:=fp) I4.os I4.base I4.hok I4.bare λb hb=>by
    obtain⟨f0,f1,f2,f3,f4,f5⟩:=hf b hb
    exact⟨f3,f1,f4,f5⟩
   exact post ds vs its n HP2.objs.size s4 H' hD S'.same n4 rr rv (by rw[hl];exact hz) e4 I5 ⟨m4,hn4⟩ hltC I4.free
 exact codeAny_compStart_list (loop _ rfl) (T.self X.A 0 _ _ _ (T.keep _ _ _ st λb hb o e=>old b o e) (loop _ rfl))
end
noncomputable def uL (X:Cx) (scope:Scope) (N:List Str) (k:Nat) (ix:List Nat):Bool :=
 scope.kind == .function && scope.names.all (λy=>y.2 != .cell) && scope.names.all (λy=>y.2 != .local || scope.names.lookup y.1 == some .local) &&
 scope.names.all (λy=>y.2 != .free || X.env.kindOf y.1 == some .cell || X.env.kindOf y.1 == some .free) &&
 N.length == k+ix.length && ((N.drop k).zip ix).all (λp=>X.N[p.2]? == some p.1 && scope.names.contains (p.1,.free)) &&
 (N.drop k).all (λy=>(relabel scope X.env).names.lookup y == some .cell || (relabel scope X.env).names.lookup y == some .free)
structure CompF (X:Cx) (scope:Scope) (N:List Str) (k:Nat) (ix:List Nat):Prop where
 sc:CScope X scope
 hN:N.length=k+(N.drop k).length
 hix:ix.length=(N.drop k).length
 hiy:∀(j:Nat) (y:Str) (i:Nat),(N.drop k)[j]? = some y->ix[j]? = some i->X.N[i]? = some y/\(y,NameKind.free)∈scope.names
 hkind:∀y∈N.drop k,(relabel scope X.env).names.lookup y=some .cell\/(relabel scope X.env).names.lookup y=some .free
theorem rJ {X:Cx} {scope:Scope} {N:List Str} {k:Nat} {ix:List Nat} (h:uL X scope N k ix=true):CompF X scope N k ix:=by
 unfold uL at h
 simp only[Bool.and_eq_true,List.all_eq_true,bne_iff_ne,ne_eq,Bool.or_eq_true,beq_iff_eq] at h
 obtain⟨⟨⟨⟨⟨⟨h1,h2⟩,h3⟩,h4⟩,h5⟩,h6⟩,h7⟩:=h
 have hl:(N.drop k).length=ix.length:=by rw[List.length_drop];omega
 refine⟨⟨h1,h2,λy hy e=>?_,λy hy e=>?_⟩,by omega,hl.symm,λj y i e1 e2=>?_,h7⟩
 ·rcases h3 y hy with q | q
  ·exact absurd e q
  ·exact q
 ·rcases h4 y hy with (q | q) | q
  ·exact absurd e q
  ·exact .inl q
  ·exact .inr q
 ·have hm:(y,i)∈(N.drop k).zip ix:=by
   refine List.mem_of_getElem? (i:=j) ?_
   rw[List.getElem?_zip_eq_some]
   exact⟨e1,e2⟩
  obtain⟨q1,q2⟩:=h6 _ hm
  exact⟨q1,List.contains_iff_mem.mp q2⟩
noncomputable def gS (ti:RA) (k:Nat) (ix:List Nat) (g:RG) (te:RE):RA:=λρ Q=>ti ρ λxs=>Sz xs.length/\dX g te xs (gA ρ k ix) [] Q
section
variable {X:Cx} {scope:Scope} {elt target iter:Expr} {pos:Pos} {g:RG} {te:RE} {ti:RA}
theorem lF {pins:List (Addr × Obj)} {σ:St} {H H':Hp} {s s':Shared} {C:Addr} {h':Heap} {t':Nat} (I2:Inv X pins σ H s) {σ':St} (I':Inv X pins σ' H' s') (hC:s.heap.objs.size<=C) (hn:H' C=none) (hs:Heap.SameBut C s'.heap h') :
  Inv X pins σ' H' { s' with heap:=h',toks:=t' } :=
 I'.turned (λb o hb e=>(hs.2 b hb).trans e) hn (Nat.ne_of_gt (Nat.lt_of_lt_of_le I2.lt hC)) (.inr (Nat.le_trans I2.sz hC)) (λx c e z=>by
  obtain⟨v,hv⟩:=I2.cell x c e
  exact absurd (Nat.lt_of_lt_of_le hv.lt (by rw[z];exact hC)) (Nat.lt_irrefl _)) λp hp z=>absurd (Nat.lt_of_lt_of_le (Heap.lt_size (I2.pin p hp).1) (by rw[z];exact hC)) (Nat.lt_irrefl _)
theorem uU (N:List Str) (k:Nat) (ix:List Nat) (hi:DI X target iter ti) (hg:∀cl C s H fp,DG (eT X scope N cl C s H fp) target g) (he:∀cl C s H fp,DE (eT X scope N cl C s H fp) elt te)
  (hc:X.calm=true:=by rfl) (hB:uL X scope N k ix=true:=by rfl) (hs:∀x,foldedSetIterable iter X.env x=pure x:=by intro _;rfl):DO X (.ListComp elt [⟨target,iter,[],0⟩] scope pos) (gS ti k ix g te):=by
 intro pins s σ H Q I hh_0
 obtain⟨ρ,P,so,q,kk⟩:=hh_0
 have F:=rJ hB
 obtain⟨cl,hclos,hcl,hall⟩:=mC (scope:=scope) (env:=X.env) λy hy hf=>I.ok.has _ (F.sc.frees y hy hf)
 rw[eval_ListComp]
 refine wpAny_comprehension_free (use:=none) rfl hs hclos F.sc.kind F.sc.locs (thn (hi pins s σ H (λJ H'=>∃xs,Same H H'/\xX X J xs H'/\xs.length<=sizeLine/\dX g te xs (gA ρ k ix) [] P) I ⟨ρ,_,so,q,λxs J H' hx s1 ok=>⟨xs,s1,ok,hx.1.ok,hx.2⟩⟩) λv s1 h1=>thn h1 λitv s2 h2=>?_)
 obtain⟨it,fp,tn,J,H',rfl,I2,T,st,hf,xs,s01,ok,hz,hD⟩:=h2
 refine oO (RR:=λacc C=>compPost (model X.prog X.w) X.A X.xe none (EP X pins σ Q) acc C) hc F.sc hcl hall F.hN rfl F.hix F.hiy F.hkind (hg cl) (he cl) I2 (so.ext s01) T st hf ok hz hD ?_
 intro ds vs its n C s' H2 hP s12 hn rr rv hl e I' ⟨m,hns⟩ hltC hnC
 refine⟨m,hns,λh' hs'=>?_⟩
 have I3:Inv X pins σ H2 { s' with heap:=h' }:=lF (t':=s'.toks) I2 I' (Nat.le_of_lt hltC) hnC hs'
 have e3:h'.get? s2.heap.objs.size=some { cls:=.type "list",data:=.seq its.toArray n }:=(hs'.2 _ (Nat.ne_of_lt hltC)).trans e
 exact⟨.ref s2.heap.objs.size,_,I2.track I3 (Nat.le_refl _) hn e3 rv hl,rfl,kk ds _ vs H2 hP (s01.trans s12) hn rr⟩
theorem BF {i:Nat} {y:Str} {pos' spos:Pos} (N:List Str) (k:Nat) (ix:List Nat) (hN:X.N.Nodup) (hi:DI X target iter ti) (hg:∀cl C s H fp,DG (eT X scope N cl C s H fp) target g) (he:∀cl C s H fp,DE (eT X scope N cl C s H fp) elt te)
  (hy:X.N[i]? = some y:=by rfl) (hx:X.env.scope.names.lookup y=some .local:=by rfl) (hc:X.calm=true:=by rfl) (hB:uL X scope N k ix=true:=by rfl) (hs:∀x,foldedSetIterable iter X.env x=pure x:=by intro _;rfl)
  (hsw:swapsWith (.ListComp elt [⟨target,iter,[],0⟩] scope pos) (some (.Name y pos')) spos.line X.env=pure true:=by rfl) :
  DS X (.Assign [.Name y pos'] (.ListComp elt [⟨target,iter,[],0⟩] scope pos) spos) (iK i (gS ti k ix g te)):=by
 intro pins s σ H De I hh_0
 obtain⟨ρ,E,so,q,nn,rt,bk,ct⟩:=hh_0
 have F:=rJ hB
 obtain⟨cl,hclos,hcl,hall⟩:=mC (scope:=scope) (env:=X.env) λy hy hf=>I.ok.has _ (F.sc.frees y hy hf)
 rw[exec_Assign_Name_used _ _ _ _ hsw]
 refine wpAny_bind (wpAny_standAt (wpAny_bind ?_))
 show wpAny _ X.A (do let _ <-comprehension (.ListComp elt [⟨target,iter,[],0⟩] scope pos) scope X.env _ (newList []) false (eval iter X.env) (some (assign (.Name y pos') X.env))) _ _ s
 refine wpAny_bind (wpAny_mono (wpAny_comprehension_free (use:=some (assign (.Name y pos') X.env)) (Q:=λ_ s'=>SP X pins De .next s') rfl hs hclos F.sc.kind F.sc.locs
  (thn (hi pins s σ H (λJ H'=>∃xs,Same H H'/\xX X J xs H'/\xs.length<=sizeLine/\dX g te xs (gA ρ k ix) [] (λds=>E.nx (ρ.set i (some (.own ds))))) I ⟨ρ,_,so,q,λxs J H' hx s1 ok=>⟨xs,s1,ok,hx.1.ok,hx.2⟩⟩) λv s1 h1=>thn h1 λitv s2 h2=>?_)) (λ_ s' hq=>wpAny_pure (wpAny_pure hq)) λ_ _ e=>e)
 obtain⟨it,fp,tn,J,H',rfl,I2,T,st,hf,xs,s01,ok,hz,hD⟩:=h2
 refine oO (RR:=λacc C=>compPost (model X.prog X.w) X.A X.xe (some (assign (.Name y pos') X.env)) (λ_ s'=>SP X pins De .next s') acc C) hc F.sc hcl hall F.hN rfl F.hix F.hiy F.hkind (hg cl) (he cl) I2 (so.ext s01) T st hf ok hz hD ?_
 intro ds vs its n C s' H2 hP s12 hn rr rv hl e I' ⟨m,hns⟩ hltC hnC
 have I3:=I2.track I' (Nat.le_refl _) hn e rv hl
 have hneC:s2.heap.objs.size≠C:=Nat.ne_of_lt hltC
 have so3:StOk X (ρ.set i (some (.own ds))) (σ.set i (some (.ref s2.heap.objs.size))) (upd H2 s2.heap.objs.size (.lst vs)):=(so.ext (s01.trans s12)).set_own hn rr
 have k3:Keep H (upd H2 s2.heap.objs.size (.lst vs)):=(Keep.of (s01.trans s12)).trans (.of λb o h=>by rw[aF (aJ h hn)];exact h)
 show wpAny (model X.prog X.w) X.A (assign (.Name y pos') X.env (.ref s2.heap.objs.size)) _ _ s'
 refine wpAny_assign_Name (pF I3 hN hy (.inl hx) (v:=.ref s2.heap.objs.size) rfl (λs4 I4 ⟨a,sb,ha⟩=>?_) (.inr hx))
 have hCa:C≠a:=by
  rcases ha with rfl | ha
  ·exact Nat.ne_of_gt (Nat.lt_trans I2.lt hltC)
  ·obtain⟨v,hv⟩:=I2.cell _ a ha
   exact Nat.ne_of_gt (Nat.lt_trans hv.lt hltC)
 refine⟨m,hns.sameBut sb hCa,λh' hs'=>⟨_,_,lF (t':=s4.toks) I2 I4 (Nat.le_of_lt hltC) (by rw[aF (Ne.symm hneC)];exact hnC) hs',nn _ _ _ hP k3 so3⟩⟩
end
section
variable {X:Cx} {e a b:Expr} {pos apos cpos npos:Pos} {te:RE} {x:Str}
noncomputable def lG (i:Nat) (te:RE):RS:=λE ρ=>match ρ[i]? with
 | some (some (.own xs))=>te ρ λd=>Sz (xs.length+1)/\E.nx (ρ.set i (some (.own (xs++[d]))))
 | _=>False
theorem oS (i:Nat) (he:DE X e te) (hN:X.N[i]? = some x:=by rfl) (hv:Vis X.env.scope x:=by walk_at "vis") (hd:(x == ("__debug__":Str))=false:=by decide) (hcd:(x == ("__classdict__":Str))=false:=by decide)
  (hbase:attributeBase (.Name x npos) "append" X.env (eval (.Name x npos) X.env)=eval (.Name x npos) X.env:=by rfl)
  (hfew:((backTo cpos (starEach [e] X.env)).all (λx=>!x.1) && (backToKw cpos (keywordEach [] X.env)).all (λx=>x.1.isSome) && decide (([e]:List Expr).length+([]:List Keyword).length+(if ([]:List Keyword).isEmpty then 0 else 1)<30))=true:=by rfl)
  (hline:(apos.endLine == cpos.line)=true:=by rfl) (hs:starEach [e] X.env=[(false,eval e X.env)]:=by rfl) (hn:starEach [] X.env=[]:=by rfl) (hsw:swapsWith (.Call (.Attribute (.Name x npos) "append" apos) [e] [] cpos) none pos.line X.env=pure false:=by rfl) :
  DS X (.Expr (.Call (.Attribute (.Name x npos) "append" apos) [e] [] cpos) pos) (lG i te):=by
 refine PS.mono (jY (mT PySem.F.plainAttrs_list PySem.F.slot_list_append PySem.F.type_list_append iC (pv i hN hv hd hcd) (dS he hs hn) hbase hfew hline (by rw[hs,hn]) (by rw[hn];rfl)) hsw) λDe σ H hh=>bX hh λρ E so q n r bk ct=>?_
 unfold lG at q
 split at q
 ·rename_i xs ex
  obtain⟨v,h1,p,vs,ev,hp,h0,rr⟩:=so.rel i _ ex
  subst ev
  refine⟨.ref p,h1,.inl ⟨rfl,vs,SqL.of hp⟩,ρ,_,so,q,λd v H1 hd s1 rd=>?_⟩
  have hp1:=s1 _ _ hp
  obtain⟨so2,k2⟩:=(so.ext s1).upd_own ex h1 hp1 h0 ((rr.keep (.of s1)).append (.cons rd .nil))
  have hsz:xs.length+1<=sizeLine:=hd.1.ok
  exact⟨p,vs,v,rfl,rfl,hp1,by rw[<-rr.length];omega,n _ _ _ hd.2 ((Keep.of s1).trans k2) so2⟩
 ·exact q.elim
noncomputable def vM (i:Nat):RS:=λE ρ=>match ρ[i]? with
 | some (some (.own xs))=>xs≠[]/\E.nx (ρ.set i (some (.own xs.dropLast)))
 | _=>False
noncomputable def qT (i:Nat) (te tk:RE):RS:=λE ρ=>match ρ[i]? with
 | some (some (.own xs))=>te ρ λd=>tk ρ λkd=>match kd with
  | .int k=>match ixN xs.length k with
   | some j=>E.nx (ρ.set i (some (.own (xs.set j d))))
   | none=>False
  | _=>False
 | _=>False
end
section
variable {X:Cx} {e a b:Expr} {pos p:Pos}
theorem BT:OpR X (binaryOp .Add) (λx y H Q=>∃l b xs zs,x = .ref l/\y = .ref b/\SqL X.K H l xs/\SqL X.K H b zs/\xs.length+zs.length<=sizeLine/\∀p,H p=none->Q (.ref p) (upd H p (.lst (xs++zs)))):=by
 intro pins s σ H x y v u Q I rx ry h
 obtain⟨l,b,xs,zs,rfl,rfl,hH,hB,hz,q⟩:=h
 cases rx
 cases ry
 obtain⟨its,r,⟨o,n,e,hc,hd,hs⟩,hl⟩:=I.list hH
 obtain⟨its2,r2,⟨o2,n2,e2,hc2,hd2,hs2⟩,hl2⟩:=I.list hB
 obtain⟨c,d,dt,sl⟩:=o
 obtain⟨c2,d2,dt2,sl2⟩:=o2
 dsimp only at hc hs hd hc2 hs2 hd2
 subst hc hs hd hc2 hs2 hd2
 have hl1:=r.length
 have hl2:=r2.length
 refine concat_meets (T:="list") (id:="list.__add__") ⟨_,e,rfl⟩ ⟨_,e2,rfl⟩ (by kernel_rfl) (by kernel_rfl) PySem.F.slot_list_add PySem.F.entry_list_add (PySem.F.args_list_add_2 _ _)
  (list_addW l b its.toArray its2.toArray n n2 none none sl sl2 (by rw[List.size_toArray,List.size_toArray];omega)) ⟨e,e2,?_⟩
 have ea:its.toArray++its2.toArray=(its++its2).toArray:=by simp
 rw[ea]
 exact⟨.ref _,_,I.lnew (t':=s.toks) (r.append r2) (by rw[List.length_append];omega),rfl,q _ I.fresh⟩
noncomputable def FzQ (X:Cx) (Q:VK):VK:=λv H'=>Q v H'\/∃p vs H1,v = .ref p/\H'=upd H1 p (.lst vs)/\H1 p=none/\∀H2,Same H1 H2->FzL X.K H2 p vs->Q v H2
theorem CZ {pins:List (Addr × Obj)} {σ:St} {Q:VK} {u:Value} {s:Shared} (h:EP X pins σ (FzQ X Q) u s):EP X pins σ Q u s:=by
 obtain⟨v,H',I,rv,q | ⟨p,vs,H1,rfl,rfl,hn,q⟩⟩:=h
 ·exact⟨v,H',I,rv,q⟩
 ·obtain⟨o,I2⟩:=Inv.freeze I (a:=p) (xs:=vs) aM
  exact⟨.ref p,_,I2,rv,q _ (λb u e=>by rw[aF (aJ e hn),aF (aJ e hn)];exact e) (.inl ⟨o,aM⟩)⟩
theorem PE.frz {t:TE} (h:PE X e t):PE X e (λσ H Q=>t σ H (FzQ X Q)):=λpins s σ H Q I q=>thn (h pins s σ H _ I q) λ_ _=>CZ
theorem OpR.frz {f:Value->Value->Sem Value} {r:R2} (h:OpR X f r):OpR X f (λx y H Q=>r x y H (FzQ X Q)):=λpins s σ H x y v u Q I rx ry q=>thn (h pins s σ H x y v u _ I rx ry q) λ_ _=>CZ
noncomputable def lD:R22:=λx y Q=>match x,y with
 | .int i,.int j=>Q (.int (i+j))
 | .lst xs,.lst ys=>Sz (xs.length+ys.length)/\Q (.lst (xs++ys))
 | .tup xs,.tup ys=>xs≠[]/\Sz (xs.length+ys.length)/\Q (.tup (xs++ys))
 | _,_=>False
theorem upd_new {H:Hp} {p:Addr} {o:HO} (hp:H p=none):Same H (upd H p o):=λb u e=>by rw[aF (aJ e hp)];exact e
theorem vD:OpD X (binaryOp .Add) lD:=by
 intro pins s σ H x y v u Q I rx ry hh_0
 obtain⟨d,e,P,r1,r2,q,k⟩:=hh_0
 unfold lD at q;split at q
 ·exact cF pins s σ H x y v u Q I rx ry ⟨_,_,P,r1,r2,q,k⟩
 ·rename_i xs ys
  obtain⟨a,vs,rfl,ha,ra⟩:=r1.lst
  obtain⟨b,ws,rfl,hb,rb⟩:=r2.lst
  have hsz:xs.length+ys.length<=sizeLine:=q.1.ok
  refine OpR.frz BT pins s σ H _ _ v u Q I rx ry ⟨a,b,vs,ws,rfl,rfl,ha,hb,by rw[<-ra.length,<-rb.length];exact hsz,λp hp=>.inr ⟨p,_,H,rfl,rfl,hp,λH2 s2 fz=>k _ _ H2 q.2 s2 (.lst fz ((ra.append rb).keep (.of s2)))⟩⟩
 ·rename_i xs ys
  obtain⟨a,vs,rfl,ha,ra⟩:=r1.tup
  obtain⟨b,ws,rfl,hb,rb⟩:=r2.tup
  have hsz:xs.length+ys.length<=sizeLine:=q.2.1.ok
  have hl:=ra.length
  refine BU pins s σ H _ _ v u Q I rx ry ⟨a,b,vs,ws,rfl,rfl,SqT.of ha,SqT.of hb,λz=>q.1 (List.length_eq_zero_iff.mp (by rw[hl,z];rfl)),by rw[<-ra.length,<-rb.length];exact hsz,λz=>?_,λz p hp=>?_⟩
  ·subst z
   cases rb
   have:=k _ (.ref a) H q.2.2 (Same.refl H)
   rw[List.append_nil] at this
   exact this (.tup ha ra)
  ·exact k _ _ _ q.2.2 (upd_new hp) (.tup aM ((ra.append rb).keep (.of (upd_new hp))))
 ·exact q.elim
noncomputable def nC (te:RE) (tl th:RO):RE:=λρ Q=>te ρ λx=>tl ρ λl=>th ρ λu=>match x with
 | .lst ds=>Q (.lst (jG ds l u))
 | .tup ds=>¬(HT.sIx ds.length 0 l=0/\HT.sIx ds.length ds.length u=ds.length)/\Q (.tup (jG ds l u))
 | _=>False
theorem rM {K:PySem.W.Frag} {H:Hp} {ds:List D} {vs:List V} (l u:Option Int) (rr:Reps K H ds vs):Reps K H (jG ds l u) (rL vs l u):=by
 unfold jG rL
 rw[<-rr.length]
 exact (rr.drop _).take _
theorem gK {lo hi:Option Expr} {te:RE} {tl th:RO} {p2:Pos} (he:DB X e te) (hl:DP X lo tl) (hu:DP X hi th):DE X (.Subscript e (.Slice lo hi none p2) pos) (nC te tl th):=by
 refine PE.mono (PE.frz (zP (CQ.or FR) he hl hu)) λσ H Q hh=>bG hh λρ P st q k=>?_
 refine⟨ρ,_,st,q,λd v H1 hd s1 r1=>⟨ρ,_,st.ext s1,hd,λl H2 h2 s2=>⟨ρ,_,(st.ext s1).ext s2,h2,λu H3 h3 s3=>?_⟩⟩⟩
 have s03:=(s1.trans s2).trans s3
 cases d with
 | lst ds =>
  obtain⟨p,vs,rfl,hq,rr⟩:=(r1.same (s2.trans s3)).lst
  exact .inl ⟨p,vs,rfl,hq,λp' hp'=>.inr ⟨p',_,H3,rfl,rfl,hp',λH4 s4 fz=>k _ _ H4 h3 (s03.trans s4) (.lst fz ((rM l u rr).keep (.of s4)))⟩⟩
 | tup ds =>
  obtain⟨p,vs,rfl,hq,rr⟩:=(r1.same (s2.trans s3)).tup
  refine .inr ⟨p,vs,rfl,SqT.of hq,by rw[<-rr.length];exact h3.1,λp' hp'=>.inl ?_⟩
  exact k _ _ _ h3.2 (s03.trans (upd_new hp')) (.tup aM ((rM l u rr).keep (.of (upd_new hp'))))
 | _=>exact h3.elim
variable {te:RE}
noncomputable def cQ:D->(D->Prop)->Prop:=λd Q=>match d with
 | .lst ds=>Q (.lst ds)
 | .tup ds=>Q (.lst ds)
 | _=>False
theorem oN:bootBuiltins "list" = some (.type "list"):=by decide +kernel
theorem tH:bootBuiltins "tuple" = some (.type "tuple"):=by decide +kernel
theorem eV (hm:X.mg "list" = none) (h:DB X e te) (hg:Gl X "list":=by rfl) (hs:starEach [e] X.env=[(false,eval e X.env)]:=by rfl) (hn:starEach [] X.env=[]:=by rfl):DE X (.Call (.Name "list" p) [e] [] pos) (r1 cQ te):=by
 refine PE.mono (PE.frz (oZ pQ hg hm oN (dS h hs hn) (by decide) (by decide) (by rw[hs,hn]) (by rw[hn];rfl))) λσ H Q hh=>bG hh λρ P st q k=>⟨ρ,_,st,q,λd v H1 hd s1 r=>?_⟩
 unfold cQ at hd;split at hd
 ·obtain⟨p,vs,rfl,hq,rr⟩:=r.lst
  exact⟨p,vs,rfl,.inl hq,λp' hp'=>.inr ⟨p',_,H1,rfl,rfl,hp',λH4 s4 fz=>k _ _ H4 hd (s1.trans s4) (.lst fz (rr.keep (.of s4)))⟩⟩
 ·obtain⟨p,vs,rfl,hq,rr⟩:=r.tup
  exact⟨p,vs,rfl,.inr (SqT.of hq),λp' hp'=>.inr ⟨p',_,H1,rfl,rfl,hp',λH4 s4 fz=>k _ _ H4 hd (s1.trans s4) (.lst fz (rr.keep (.of s4)))⟩⟩
 ·exact hd.elim
noncomputable def iU:D->(D->Prop)->Prop:=λd Q=>match d with
 | .lst ds=>Q (.tup ds)
 | .tup ds=>Q (.tup ds)
 | _=>False
theorem yL (hm:X.mg "tuple" = none) (h:DB X e te) (hg:Gl X "tuple":=by rfl) (hs:starEach [e] X.env=[(false,eval e X.env)]:=by rfl) (hn:starEach [] X.env=[]:=by rfl):DE X (.Call (.Name "tuple" p) [e] [] pos) (r1 iU te):=by
 refine PE.mono (oZ nQ hg hm tH (dS h hs hn) (by decide) (by decide) (by rw[hs,hn]) (by rw[hn];rfl)) λσ H Q hh=>bG hh λρ P st q k=>⟨ρ,_,st,q,λd v H1 hd s1 r=>?_⟩
 unfold iU at hd;split at hd
 ·obtain⟨p,vs,rfl,hq,rr⟩:=r.lst
  exact⟨p,vs,rfl,.inl ⟨hq,λp' hp'=>k _ _ _ hd (s1.trans (upd_new hp')) (.tup aM (rr.keep (.of (upd_new hp'))))⟩⟩
 ·obtain⟨p,vs,rfl,hq,rr⟩:=r.tup
  exact⟨p,vs,rfl,.inr ⟨SqT.of hq,k _ _ H1 hd s1 (.tup hq rr)⟩⟩
 ·exact hd.elim
noncomputable def AV:D->(D->Prop)->Prop:=λd Q=>match d with
 | .lst ds=>∃ns:List Int,ds=ns.map D.int/\Q (.int ns.sum)
 | _=>False
noncomputable def dMaxL:D->(D->Prop)->Prop:=λd Q=>match d with
 | .lst ds=>∃ns:List Int,ds=ns.map D.int/\ns≠[]/\∀M,M∈ns->(∀a∈ns,a<=M)->Q (.int M)
 | _=>False
noncomputable def dMinL:D->(D->Prop)->Prop:=λd Q=>match d with
 | .lst ds=>∃ns:List Int,ds=ns.map D.int/\ns≠[]/\∀M,M∈ns->(∀a∈ns,M<=a)->Q (.int M)
 | _=>False
theorem yC:bootBuiltins "min" = some (.builtin "min"):=by decide +kernel
end
section
variable {X:Cx} {tg e:Expr} {te:RE} {pos p:Pos}
noncomputable def vT (te:RE):RA:=λρ Q=>te ρ λd=>match d with
 | .lst ds=>Q ds.reverse
 | _=>False
end
section
variable {prog:Program} {w:World} {A:Around} {E:Value->Shared->Prop} {s:Shared}
end
section
variable {prog:Program} {w:World} {A:Around} {E:Value->Shared->Prop} {s:Shared} {z TI TO i1 i2 a1 a2:Addr} {vs us:List Value} {T1 T2:Nat->Heap->Prop}
end
noncomputable abbrev uY (c:String) (l:Addr):Obj:={ cls:=.type c,data:=.fields #[.ref l,.int 0 0] }
section
variable {prog:Program} {w:World} {A:Around} {E:Value->Shared->Prop} {s:Shared}
end
section
variable {prog:Program} {w:World} {A:Around} {E:Value->Shared->Prop} {s:Shared} {z TI TO i1 i2 a1 a2:Addr} {vs us:List Value} {T1 T2:Nat->Heap->Prop}
end
section
variable {X:Cx} {pins:List (Addr × Obj)} {σ:St}
end
noncomputable def xS:D->Option (List D)
 | .lst xs=>some xs
 | .tup xs=>some xs
 | _=>none
noncomputable def CK (ta tb:RE):RA:=λρ Q=>ta ρ λx=>tb ρ λy=>∃xs ys,xS x=some xs/\xS y=some ys/\xs.length=ys.length/\Q (xs.zipWith (λa b=>D.tup [a,b]) ys)
theorem yD:bootBuiltins "zip" = some (.type "zip"):=by decide +kernel
section
variable {X:Cx} {a b:Expr} {ta tb:RE} {p pz pos posz:Pos}
end
noncomputable def Itz (K:PySem.W.Frag) (l m:Addr):It :=
 ⟨λi H=>∃xs ys x y,SqL K H l xs/\SqL K H m ys/\xs[i]? = some x/\ys[i]? = some y,λi H x H'=>∃p a b,H p=none/\x = .ref p/\H'=upd H p (.tup [a,b])/\(∀xs,SqL K H l xs->xs[i]? = some a)/\∀ys,SqL K H m ys->ys[i]? = some b,
  λi H=>∃xs ys,SqL K H l xs/\SqL K H m ys/\(xs.length<=i\/ys.length<=i)⟩
noncomputable def ZSt (z TI TO i1 i2 l m:Addr) (i:Nat) (h:Heap):Prop:=IsZip h z TI TO .none/\IsPair h TI (.ref i1) (.ref i2)/\(∃a b,IsPair h TO a b)/\h.IsListIter i1 l i/\h.IsListIter i2 m i
theorem AI {P:Program} {w:World} {K:PySem.W.Frag} {elts:List Expr} {k:Nat} {pos:Pos} (z TI TO i1 i2 l m:Addr) (D:ZipApart z TI TO i1 i2 l m) :
  Turn P w K (.Tuple elts k pos) (Itz K l m) [z,TI,TO,i1,i2] z (ZSt z TI TO i1 i2 l m) where
 mem:=by simp
 obj:=λi h st b hb=>by
  obtain⟨hz,hI,⟨a,c,hO⟩,⟨o1,e1,c1,d1⟩,o2,e2,c2,d2⟩:=st
  simp only[List.mem_cons,List.not_mem_nil,or_false] at hb
  rcases hb with rfl | rfl | rfl | rfl | rfl
  ·exact⟨_,hz,λv z=>by cases z⟩
  ·exact⟨_,hI,λv z=>by cases z⟩
  ·exact⟨_,hO,λv z=>by cases z⟩
  ·exact⟨o1,e1,λv z=>by rw[d1] at z;cases z⟩
  ·exact⟨o2,e2,λv z=>by rw[d2] at z;cases z⟩
 keep:=λi h h' st kk=>by
  obtain⟨hz,hI,⟨a,c,hO⟩,h1,h2⟩:=st
  exact⟨kk z (by simp) _ hz,kk TI (by simp) _ hI,⟨a,c,kk TO (by simp) _ hO⟩,h1.at λo x=>kk i1 (by simp) o x,h2.at λo x=>kk i2 (by simp) o x⟩
 item:=by
  intro X hP hw hK hc i pins s σ H E I hf st hg
  subst hP hw hK
  obtain⟨xs,ys,x,y,hq,hr,hx,hy⟩:=hg
  obtain⟨its,rv,p,hzl⟩:=I.list hq
  obtain⟨jts,rw',p',hzm⟩:=I.list hr
  obtain⟨u,hu,ru⟩:=rv.get hx
  obtain⟨u',hu',ru'⟩:=rw'.get hy
  have W:=WalksT.zip2 (prog:=X.prog) (w:=X.w) (A:=X.A) (I.ok.hd hc) z TI TO i1 i2 l m D its.toArray jts.toArray
  have hlt:i<min its.toArray.size jts.toArray.size:=by
   have a1:=(List.getElem?_eq_some_iff.mp hu).1
   have a2:=(List.getElem?_eq_some_iff.mp hu').1
   simp;omega
  obtain⟨g1,g2,g3,g4,g5⟩:=id st
  refine W.item i s _ _ hlt ⟨g1,g2,g3,g4,g5,p.isList,p'.isList⟩ λT vals h1 tk hv hT ht hm kk=>?_
  obtain⟨v1,v2,e1,e2,rfl⟩:=hv
  have q1:v1=u:=by
   have:its.toArray[i]? = some u:=by simpa using hu
   rw[e1] at this;exact Option.some.inj this
  have q2:v2=u':=by
   have:jts.toArray[i]? = some u':=by simpa using hu'
   rw[e2] at this;exact Option.some.inj this
  subst q1 q2
  refine⟨_,rfl,?_⟩
  have sub:∀{b:Addr},b ∉ [z,TI,TO,i1,i2]->b ∉ [z,TO,i1,i2]:=λh h'=>h (by simp at h' ⊢;rcases h' with a | a | a | a <;> simp[a])
  have I1:Inv X pins σ (upd H T (.tup [x,y])) { s with heap:=h1,toks:=tk } :=
   I.turnedT (its:=[v1,v2]) (ch:=[z,TI,TO,i1,i2]) (λb o hb e=>kk b o (sub hb) e) hf hT (by simpa using ht) (.cons ru (.cons ru' .nil)) (by show 2<=sizeLine;decide)
  have hn:H T=none:=I.hok.fresh hT
  refine W.go elts k pos i T _ _ _ hm λh2 st2 kk2=>?_
  have hf1:∀b∈[z,TI,TO,i1,i2],kI X pins (upd H T (.tup [x,y])) b:=λb hb=>by
   obtain⟨f0,f1⟩:=hf b hb
   have:∃o,s.heap.get? b=some o:=by
    obtain⟨hz,hI,⟨a,c,hO⟩,⟨o1,w1,c1,d1⟩,o2,w2,c2,d2⟩:=st
    simp only[List.mem_cons,List.not_mem_nil,or_false] at hb
    rcases hb with rfl | rfl | rfl | rfl | rfl
    ·exact⟨_,hz⟩
    ·exact⟨_,hI⟩
    ·exact⟨_,hO⟩
    ·exact⟨_,w1⟩
    ·exact⟨_,w2⟩
   obtain⟨o,ho⟩:=this
   exact⟨by rw[aF (Nat.ne_of_lt (Nat.lt_of_lt_of_le (Heap.lt_size ho) hT))];exact f0,f1⟩
  refine⟨.ref T,_,I1.turnedL (ch:=[z,TI,TO,i1,i2]) (t':=tk) (λb o hb e=>kk2 b o (sub hb) e) hf1,rfl,⟨T,x,y,hn,rfl,rfl,λys' h'=>by rw[I.list_inj h' hq];exact hx,λys' h'=>by rw[I.list_inj h' hr];exact hy⟩,⟨st2.1,st2.2.1,st2.2.2.1,st2.2.2.2.1,st2.2.2.2.2.1⟩,λb hb=>(hf1 b hb).1⟩
 done:=by
  intro X hP hw hK hc i pins s σ H E I hf st hg
  subst hP hw hK
  obtain⟨xs,ys,hq,hr,hx⟩:=hg
  obtain⟨its,rv,p,hzl⟩:=I.list hq
  obtain⟨jts,rw',p',hzm⟩:=I.list hr
  obtain⟨g1,g2,⟨a,b,g3⟩,g4,g5⟩:=st
  have l1:=rv.length
  have l2:=rw'.length
  refine wpAny_pyNext_zip_end (I.ok.hd hc) D g1 g2 g3 g4 g5 p.isList p'.isList ?_ λh1 kk=>⟨rfl,I.turnedL (ch:=[z,TI,TO,i1,i2]) (t':=s.toks) (λb o hb q=>kk b o (λe=>hb (by simp[e])) (λe=>hb (by simp[e])) (λe=>hb (by simp[e])) (λe=>hb (by simp[e])) q) hf⟩
  rcases hx with hx | hx
  ·exact .inl (by rw[List.getElem?_toArray];exact List.getElem?_eq_none (by omega))
  ·exact .inr (by rw[List.getElem?_toArray];exact List.getElem?_eq_none (by omega))
 self:=λ_ _ _ _ _ st h=>wpAny_pyIter_zip st.1 h
section
variable {X:Cx} {a b:Expr} {ta tb:RE} {pos p:Pos} {elts:List Expr} {k:Nat} {tp:Pos}
noncomputable def nF (ta tb:RE):RA:=λρ Q=>ta ρ λx=>tb ρ λy=>match x,y with
 | .lst xs,.lst ys=>Q (xs.zipWith (λa b=>D.tup [a,b]) ys)
 | _,_=>False
theorem EF (hm:X.mg "zip" = none) (ha:DE X a ta) (hb:DE X b tb) (hg:Gl X "zip":=by rfl) (h2:starEach [a,b] X.env=(false,eval a X.env)::starEach [b] X.env:=by rfl) (h1:starEach [b] X.env=[(false,eval b X.env)]:=by rfl) (hn:starEach [] X.env=[]:=by rfl) :
  DI X (.Tuple elts k tp) (.Call (.Name "zip" p) [a,b] [] pos) (nF ta tb):=by
 intro pins s σ H R I hh_0
 obtain⟨ρ,P,st,q,kk⟩:=hh_0
 refine Call_ (gP I hg hm yD (PyProof.Rows.callWith_type1 (thn (cC ha (cC hb eU (by rw[h1,hn])) h2 pos pins s σ H (λvs H1=>∃l m xs ys us ws,vs=[V.ref l,V.ref m]/\Same H H1/\P (xs.zipWith (λa b=>D.tup [a,b]) ys)/\FzL X.K H1 l us/\Reps X.K H1 xs us/\FzL X.K H1 m ws/\Reps X.K H1 ys ws) I
  ⟨ρ,_,st,q,λx v H1 hx s1 r1=>⟨ρ,_,st.ext s1,hx,λy u H2 hy s2 r2=>?_⟩⟩) λus s1 ⟨vs,H1,I1,r1,q1⟩=>?_) h2 (by rw[h1];rfl)))
 ·cases x with
  | lst xs =>
   cases y with
   | lst ys =>
    cases r1 with
    | @lst l us _ z1 t1 =>
     cases r2 with
     | @lst m ws _ z2 t2=>exact⟨l,m,xs,ys,us,ws,rfl,s1.trans s2,hy,z1.keep (.of s2),t1.keep (.of s2),z2,t2⟩
   | _=>exact hy.elim
  | _=>exact hy.elim
 obtain⟨l,m,xs,ys,us,ws,rfl,s01,hp,z1,t1,z2,t2⟩:=q1
 obtain⟨w1,w2,rfl,rv,ru⟩:=AJ r1
 cases rv;cases ru
 obtain⟨its,rv,pl,hzz⟩:=I1.list z1.sq
 obtain⟨jts,rv',pl',hzz'⟩:=I1.list z2.sq
 have lt1:l<s1.heap.objs.size:=by obtain⟨o,n,e,_⟩:=pl;exact Heap.lt_size e
 have lt2:m<s1.heap.objs.size:=by obtain⟨o,n,e,_⟩:=pl';exact Heap.lt_size e
 refine call_zip_2 pl.isList pl'.isList λh' hz hTI hTO hi1 hi2 hsz kk'=>?_
 have I2:Inv X pins σ H1 { s1 with heap:=h' }:=I1.kept (t':=s1.toks) kk'
 refine wpAny_pyIter_zip hz ⟨s1.heap.objs.size+4,[s1.heap.objs.size+4,s1.heap.objs.size+2,s1.heap.objs.size+3,s1.heap.objs.size,s1.heap.objs.size+1],_,_,H1,rfl,I2,AI (s1.heap.objs.size+4) (s1.heap.objs.size+2) (s1.heap.objs.size+3) s1.heap.objs.size (s1.heap.objs.size+1) l m (zipApart_new lt1 lt2),⟨hz,hTI,⟨_,_,hTO⟩,hi1,hi2⟩,λb hb=>?_,?_⟩
 ·have:s1.heap.objs.size<=b:=by
   simp only[List.mem_cons,List.not_mem_nil,or_false] at hb
   rcases hb with rfl | rfl | rfl | rfl | rfl <;> simp
  exact I1.fpOk this (I1.hok.fresh this)
 ·refine kk _ _ H1 hp s01 λi H2 kp=>⟨λd ed=>?_,λhl=>⟨us,ws,(z1.keep kp).sq,(z2.keep kp).sq,by rw[<-t1.length,<-t2.length];simp at hl;omega⟩⟩
  rw[List.getElem?_zipWith] at ed
  cases e1:xs[i]? with
  | none=>rw[e1] at ed;cases ed
  | some d1 =>
   cases e2:ys[i]? with
   | none=>rw[e1,e2] at ed;cases ed
   | some d2 =>
    rw[e1,e2] at ed
    cases ed
    obtain⟨v,f1,f2⟩:=(t1.keep kp).get e1
    obtain⟨u,f3,f4⟩:=(t2.keep kp).get e2
    refine⟨⟨us,ws,v,u,(z1.keep kp).sq,(z2.keep kp).sq,f1,f3⟩,λx H' y=>?_⟩
    obtain⟨pp,y1,y2,hn,rfl,rfl,ha',hb'⟩:=y
    have e3:=ha' us (z1.keep kp).sq
    have e4:=hb' ws (z2.keep kp).sq
    rw[f1] at e3;rw[f3] at e4;cases e3;cases e4
    have sm:Same H2 (upd H2 pp (.tup [v,u])):=λb o e=>by rw[aF (aJ e hn)];exact e
    exact⟨sm,.tup aM (.cons (f2.keep (.of sm)) (.cons (f4.keep (.of sm)) .nil))⟩
end
section
variable {prog:Program} {w:World} {A:Around} {E:Value->Shared->Prop} {s:Shared}
theorem xA {I l S:Addr} {items:Array Value} {bt:Nat->Nat->Bool} {G:Heap->Prop} {R:Result->Shared->Prop} {os0:Shared} (hh:A.handled=none) (hl:l≠I) (hSI:S≠I) (hSl:S≠l)
  (cmp:∀(i j:Nat) (u v:Value) (s:Shared) (Q:Value->Shared->Prop) (E:Value->Shared->Prop),items[i]? = some u->items[j]? = some v->G s.heap->Q (.bool (bt i j)) s->wpAny (model prog w) A.in1 (richCompare .Lt u v) Q E s)
  (gs:∀h h',G h->(∀b o,b≠I->b≠S->h.get? b=some o->h'.get? b=some o)->G h') :
  ∀(k j:Nat) (s:Shared) (vb:Value) (c:Nat),items.size-(j+1)=k->j+1<=items.size->s.heap.IsListIter I l (j+1)->s.heap.IsList l items->items[argBest bt j]? = some vb->G s.heap ->
   s.heap.get? S=some { cls:=.type "list",dict:=none,data:=.seq #[vb,vb] c,slots:=#[] } ->
   (∀v h' tk,items[argBest bt (items.size-1)]? = some v->(∀b o,b≠I->b≠S->s.heap.get? b=some o->h'.get? b=some o)->R (.ok (.ret v)) { s with heap:=h',toks:=tk }) ->
   codeAny (model prog w) A (.builtin "min.loop" ⟨[.ref I,.none,.ref S],[]⟩) R s:=by
 have nm:(toString "min" ++ toString ".loop":String) = "min.loop":=by decide
 have W:=Walks.list (prog:=prog) (w:=w) (A:=A.in1) hh I l hl items
 have wr:∀{b:Addr},b≠I->b ∉ [I]:=λh=>by simpa using h
 intro k
 induction k with
 | zero =>
  intro j s vb c hk hj hi hL hb hG hS q
  refine codeAny_builtin F.entry_min_loop ?_;rw[Around.under_plainId F.plain_min_loop _]
  show wpAny _ A.in1 (seqItems? (.ref S) >>= _) _ _ s
  apply wpAny_bind;apply wpAny_seqItems hS rfl
  show wpAny _ A.in1 (tryCatch (pyNext (.ref I)) _ >>= _) _ _ s
  apply wpAny_bind;apply wpAny_tryCatch;refine W.done s _ _ (by rw[show items.size=j+1 by omega];exact⟨hi,hL⟩) λh' tk kp=>?_
  have hS':=kp S _ (wr hSI) hS
  show wpAny _ A.in1 (updateSeq S (λ_=>#[]) >>= _) _ _ _
  apply wpAny_bind;refine wpAny_updateSeq hS' rfl ?_;apply wpAny_bind;apply wpAny_letGo;apply wpAny_pure
  exact q vb _ tk (by rw[show items.size-1=j by omega];exact hb) λb o b1 b2 e=>(Heap.get?_update_other _ _ (Ne.symm b2)).trans (kp b o (wr b1) e)
 | succ k ih =>
  intro j s vb c hk hj hi hL hb hG hS q
  refine codeAny_builtin F.entry_min_loop ?_;rw[Around.under_plainId F.plain_min_loop _]
  show wpAny _ A.in1 (seqItems? (.ref S) >>= _) _ _ s
  apply wpAny_bind;apply wpAny_seqItems hS rfl
  show wpAny _ A.in1 (tryCatch (pyNext (.ref I)) _ >>= _) _ _ s
  apply wpAny_bind;apply wpAny_tryCatch;refine W.item (j+1) s _ _ (by omega) ⟨hi,hL⟩ λv h' tk hv st' kp=>?_
  have hS':=kp S _ (wr hSI) hS
  have hG':G h':=gs _ _ hG λb o b1 _ e=>kp b o (wr b1) e
  show wpAny _ A.in1 (tryCatch (holding [v,v] (richCompare .Lt v vb >>= _)) _ >>= _) _ _ _
  apply wpAny_bind;apply wpAny_tryCatch;apply wpAny_holding;apply wpAny_bind;refine cmp (j+1) (argBest bt j) v vb _ _ _ hv hb hG' ?_
  apply wpAny_bind;apply wpAny_holding;apply wpAny_truthy_bool;apply wpAny_bind;apply wpAny_letGo;apply wpAny_pure
  cases hbt:bt (j+1) (argBest bt j) with
  | true =>
   simp only[if_true]
   apply wpAny_bind;refine wpAny_updateSeq hS' rfl ?_;apply wpAny_bind;apply wpAny_letGo;rw[nm];apply wpAny_pure
   have up:∀b o,b≠S->h'.get? b=some o->(h'.update S (Obj.mapSeq λ_=>#[v,v])).get? b=some o:=λb o b2 e=>(Heap.get?_update_other _ _ (Ne.symm b2)).trans e
   refine⟨plainId_quiet F.plain_min_loop _,ih (j+1) _ v _ (by omega) (by omega) (st'.1.at λo e=>up _ o hSI.symm e) (st'.2.at λo e=>up _ o hSl.symm e) (by simp only[argBest,hbt,if_true];exact hv) (gs _ _ hG' λb o _ b2 e=>up b o b2 e) (Heap.get?_update_self _ hS' rfl) λv' h'' tk'' e kk=>?_⟩
   exact q v' h'' tk'' e λb o b1 b2 e=>kk b o b1 b2 (up b o b2 (kp b o (wr b1) e))
  | false =>
   simp only[Bool.false_eq_true,if_false]
   apply wpAny_bind;apply wpAny_letGo;rw[nm];apply wpAny_pure
   refine⟨plainId_quiet F.plain_min_loop _,ih (j+1) _ vb c (by omega) (by omega) st'.1 st'.2 (by simp only[argBest,hbt,Bool.false_eq_true,if_false];exact hb) hG' hS' λv' h'' tk'' e kk=>?_⟩
   exact q v' h'' tk'' e λb o b1 b2 e=>kk b o b1 b2 (kp b o (wr b1) e)
theorem wC {l:Addr} {items:Array Value} {bt:Nat->Nat->Bool} {G:Heap->Prop} {Q:Value->Shared->Prop} (hh:A.handled=none) (hL:s.heap.IsList l items) (hne:0<items.size)
  (cmp:∀(i j:Nat) (u v:Value) (s:Shared) (Q:Value->Shared->Prop) (E:Value->Shared->Prop),items[i]? = some u->items[j]? = some v->G s.heap->Q (.bool (bt i j)) s->wpAny (model prog w) A.in1 (richCompare .Lt u v) Q E s)
  (gs:∀h',(∀b o,s.heap.get? b=some o->h'.get? b=some o)->G h') (q:∀v h' tk,items[argBest bt (items.size-1)]? = some v->(∀b o,s.heap.get? b=some o->h'.get? b=some o)->Q v { s with heap:=h',toks:=tk }) :
  wpAny (model prog w) A (call (.builtin "min") [.ref l]) Q E s:=by
 have nm:(toString "min" ++ toString ".loop":String) = "min.loop":=by decide
 have lt:l<s.heap.objs.size:=by obtain⟨_,e,_⟩:=hL;exact Heap.lt_size e
 refine call_function_tree F.kind_min F.plain_min F.entry_min (F.args_min1 _) ?_
 show wpAny _ A.in1 (Builtin.Builtins.bindParams "min" ["key","default"] 0 ⟨[],[]⟩ >>= _) _ _ s
 apply wpAny_bind;refine wpAny_of_eq (show Builtin.Builtins.bindParams "min" ["key","default"] 0 ⟨[],[]⟩=pure [none,none] from rfl) ?_
 apply wpAny_bind;apply wpAny_pure;apply wpAny_bind;refine wpAny_pyIter_list hL ?_
 apply wpAny_bind;refine wpAny_newObj_type ?_;rw[nm];apply wpAny_pure
 have sz1:(s.heap.push (uY "list_iterator" l)).objs.size=s.heap.objs.size+1:=Heap.size_push ..
 generalize hp:s.heap.push (uY "list_iterator" l)=h1 at sz1
 have hI:h1.IsListIter s.heap.objs.size l 0:=by rw[<-hp];exact⟨_,Heap.get?_push_size _ rfl,rfl,rfl⟩
 have k1:∀b o,s.heap.get? b=some o->h1.get? b=some o:=λb o e=>by rw[<-hp];exact Heap.get?_push_of_some _ e
 refine⟨plainId_quiet F.plain_min_loop _,?_⟩
 show codeAny _ A (.builtin "min.loop" ⟨[.ref s.heap.objs.size,.none,.ref h1.objs.size],[]⟩) _ { s with heap:=h1.push { cls:=.type "list",dict:=none,data:=.seq ([]:List Value).toArray } }
 rw[sz1]
 have hS:(h1.push { cls:=.type "list",dict:=none,data:=.seq ([]:List Value).toArray }).get? (s.heap.objs.size+1)=some { cls:=.type "list",dict:=none,data:=.seq #[] 0,slots:=#[] }:=by rw[<-sz1];exact Heap.get?_push_size _ rfl
 have k2:∀b o,h1.get? b=some o->(h1.push { cls:=.type "list",dict:=none,data:=.seq ([]:List Value).toArray }).get? b=some o:=λb o e=>Heap.get?_push_of_some _ e
 generalize h1.push { cls:=.type "list",dict:=none,data:=.seq ([]:List Value).toArray } = h2 at hS k2
 have neI:∀{b:Addr} {o:Obj},s.heap.get? b=some o->b≠s.heap.objs.size/\b≠s.heap.objs.size+1:=λe=>⟨Nat.ne_of_lt (Heap.lt_size e),Nat.ne_of_lt (Nat.lt_succ_of_lt (Heap.lt_size e))⟩
 have W:=Walks.list (prog:=prog) (w:=w) (A:=A.in1) hh s.heap.objs.size l (Nat.ne_of_lt lt) items
 refine codeAny_builtin F.entry_min_loop ?_;rw[Around.under_plainId F.plain_min_loop _]
 show wpAny _ A.in1 (seqItems? (.ref (s.heap.objs.size+1)) >>= _) _ _ _
 apply wpAny_bind;apply wpAny_seqItems hS rfl
 show wpAny _ A.in1 (tryCatch (pyNext (.ref s.heap.objs.size)) _ >>= _) _ _ _
 have hL2:h2.IsList l items:=hL.at λo e=>k2 _ o (k1 _ o e)
 apply wpAny_bind;apply wpAny_tryCatch;refine W.item 0 _ _ _ hne ⟨hI.at λo e=>k2 _ o e,hL2⟩ λv h' tk hv st' kp=>?_
 have wr:∀{b:Addr},b≠s.heap.objs.size->b ∉ [s.heap.objs.size]:=λh=>by simpa using h
 have hS':=kp (s.heap.objs.size+1) _ (wr (Nat.succ_ne_self _)) hS
 show wpAny _ A.in1 (updateSeq (s.heap.objs.size+1) (λ_=>#[v,v]) >>= _) _ _ _
 apply wpAny_bind;refine wpAny_updateSeq hS' rfl ?_;rw[nm];apply wpAny_pure
 have up:∀b o,b≠s.heap.objs.size+1->h'.get? b=some o->(h'.update (s.heap.objs.size+1) (Obj.mapSeq λ_=>#[v,v])).get? b=some o:=λb o b2 e=>(Heap.get?_update_other _ _ (Ne.symm b2)).trans e
 have old:∀b o,s.heap.get? b=some o->(h'.update (s.heap.objs.size+1) (Obj.mapSeq λ_=>#[v,v])).get? b=some o:=λb o e=>up b o (neI e).2 (kp b o (wr (neI e).1) (k2 b o (k1 b o e)))
 have hS'':=Heap.get?_update_self (Obj.mapSeq λ_=>#[v,v]) hS' rfl
 refine⟨plainId_quiet F.plain_min_loop _,?_⟩
 refine xA (A:=A) (G:=λh=>∀b o,s.heap.get? b=some o->h.get? b=some o) (bt:=bt) (items:=items) (I:=s.heap.objs.size) (l:=l) (S:=s.heap.objs.size+1) (os0:=s) hh (Nat.ne_of_lt lt) (Nat.succ_ne_self _) (Nat.ne_of_gt (Nat.lt_succ_of_lt lt)) (λi j u v s' Q' E' e1 e2 g c=>cmp i j u v s' Q' E' e1 e2 (gs _ g) c)
  (λh3 h4 g kk b o e=>kk b o (neI e).1 (neI e).2 (g b o e)) (items.size-1) 0 _ v _ (by omega) (by omega) (st'.1.at λo e=>up _ o (Nat.ne_of_lt (Nat.lt_succ_self _)) e) (st'.2.at λo e=>up _ o (Nat.ne_of_lt (Nat.lt_succ_of_lt lt)) e) (by simpa [argBest] using hv) old hS'' λv' h'' tk'' e kk=>?_
 exact q v' h'' tk'' e λb o e=>kk b o (neI e).1 (neI e).2 (old b o e)
theorem tT {I l S:Addr} {items:Array Value} {bt:Nat->Nat->Bool} {G:Heap->Prop} {R:Result->Shared->Prop} {os0:Shared} (hh:A.handled=none) (hl:l≠I) (hSI:S≠I) (hSl:S≠l)
  (cmp:∀(i j:Nat) (u v:Value) (s:Shared) (Q:Value->Shared->Prop) (E:Value->Shared->Prop),items[i]? = some u->items[j]? = some v->G s.heap->Q (.bool (bt i j)) s->wpAny (model prog w) A.in1 (richCompare .Lt u v) Q E s)
  (gs:∀h h',G h->(∀b o,b≠I->b≠S->h.get? b=some o->h'.get? b=some o)->G h') :
  ∀(k j:Nat) (s:Shared) (vb:Value) (c:Nat),items.size-(j+1)=k->j+1<=items.size->s.heap.IsTupleIter I l (j+1)->s.heap.IsTuple l items->items[argBest bt j]? = some vb->G s.heap ->
   s.heap.get? S=some { cls:=.type "list",dict:=none,data:=.seq #[vb,vb] c,slots:=#[] } ->
   (∀v h' tk,items[argBest bt (items.size-1)]? = some v->(∀b o,b≠I->b≠S->s.heap.get? b=some o->h'.get? b=some o)->R (.ok (.ret v)) { s with heap:=h',toks:=tk }) ->
   codeAny (model prog w) A (.builtin "min.loop" ⟨[.ref I,.none,.ref S],[]⟩) R s:=by
 have nm:(toString "min" ++ toString ".loop":String) = "min.loop":=by decide
 have W:=Walks.tuple (prog:=prog) (w:=w) (A:=A.in1) hh I l hl items
 have wr:∀{b:Addr},b≠I->b ∉ [I]:=λh=>by simpa using h
 intro k
 induction k with
 | zero =>
  intro j s vb c hk hj hi hL hb hG hS q
  refine codeAny_builtin F.entry_min_loop ?_;rw[Around.under_plainId F.plain_min_loop _]
  show wpAny _ A.in1 (seqItems? (.ref S) >>= _) _ _ s
  apply wpAny_bind;apply wpAny_seqItems hS rfl
  show wpAny _ A.in1 (tryCatch (pyNext (.ref I)) _ >>= _) _ _ s
  apply wpAny_bind;apply wpAny_tryCatch;refine W.done s _ _ (by rw[show items.size=j+1 by omega];exact⟨hi,hL⟩) λh' tk kp=>?_
  have hS':=kp S _ (wr hSI) hS
  show wpAny _ A.in1 (updateSeq S (λ_=>#[]) >>= _) _ _ _
  apply wpAny_bind;refine wpAny_updateSeq hS' rfl ?_;apply wpAny_bind;apply wpAny_letGo;apply wpAny_pure
  exact q vb _ tk (by rw[show items.size-1=j by omega];exact hb) λb o b1 b2 e=>(Heap.get?_update_other _ _ (Ne.symm b2)).trans (kp b o (wr b1) e)
 | succ k ih =>
  intro j s vb c hk hj hi hL hb hG hS q
  refine codeAny_builtin F.entry_min_loop ?_;rw[Around.under_plainId F.plain_min_loop _]
  show wpAny _ A.in1 (seqItems? (.ref S) >>= _) _ _ s
  apply wpAny_bind;apply wpAny_seqItems hS rfl
  show wpAny _ A.in1 (tryCatch (pyNext (.ref I)) _ >>= _) _ _ s
  apply wpAny_bind;apply wpAny_tryCatch;refine W.item (j+1) s _ _ (by omega) ⟨hi,hL⟩ λv h' tk hv st' kp=>?_
  have hS':=kp S _ (wr hSI) hS
  have hG':G h':=gs _ _ hG λb o b1 _ e=>kp b o (wr b1) e
  show wpAny _ A.in1 (tryCatch (holding [v,v] (richCompare .Lt v vb >>= _)) _ >>= _) _ _ _
  apply wpAny_bind;apply wpAny_tryCatch;apply wpAny_holding;apply wpAny_bind;refine cmp (j+1) (argBest bt j) v vb _ _ _ hv hb hG' ?_
  apply wpAny_bind;apply wpAny_holding;apply wpAny_truthy_bool;apply wpAny_bind;apply wpAny_letGo;apply wpAny_pure
  cases hbt:bt (j+1) (argBest bt j) with
  | true =>
   simp only[if_true]
   apply wpAny_bind;refine wpAny_updateSeq hS' rfl ?_;apply wpAny_bind;apply wpAny_letGo;rw[nm];apply wpAny_pure
   have up:∀b o,b≠S->h'.get? b=some o->(h'.update S (Obj.mapSeq λ_=>#[v,v])).get? b=some o:=λb o b2 e=>(Heap.get?_update_other _ _ (Ne.symm b2)).trans e
   refine⟨plainId_quiet F.plain_min_loop _,ih (j+1) _ v _ (by omega) (by omega) (st'.1.at λo e=>up _ o hSI.symm e) (st'.2.at λo e=>up _ o hSl.symm e) (by simp only[argBest,hbt,if_true];exact hv) (gs _ _ hG' λb o _ b2 e=>up b o b2 e) (Heap.get?_update_self _ hS' rfl) λv' h'' tk'' e kk=>?_⟩
   exact q v' h'' tk'' e λb o b1 b2 e=>kk b o b1 b2 (up b o b2 (kp b o (wr b1) e))
  | false =>
   simp only[Bool.false_eq_true,if_false]
   apply wpAny_bind;apply wpAny_letGo;rw[nm];apply wpAny_pure
   refine⟨plainId_quiet F.plain_min_loop _,ih (j+1) _ vb c (by omega) (by omega) st'.1 st'.2 (by simp only[argBest,hbt,Bool.false_eq_true,if_false];exact hb) hG' hS' λv' h'' tk'' e kk=>?_⟩
   exact q v' h'' tk'' e λb o b1 b2 e=>kk b o b1 b2 (kp b o (wr b1) e)
theorem tI {l:Addr} {items:Array Value} {bt:Nat->Nat->Bool} {G:Heap->Prop} {Q:Value->Shared->Prop} (hh:A.handled=none) (hL:s.heap.IsTuple l items) (hne:0<items.size)
  (cmp:∀(i j:Nat) (u v:Value) (s:Shared) (Q:Value->Shared->Prop) (E:Value->Shared->Prop),items[i]? = some u->items[j]? = some v->G s.heap->Q (.bool (bt i j)) s->wpAny (model prog w) A.in1 (richCompare .Lt u v) Q E s)
  (gs:∀h',(∀b o,s.heap.get? b=some o->h'.get? b=some o)->G h') (q:∀v h' tk,items[argBest bt (items.size-1)]? = some v->(∀b o,s.heap.get? b=some o->h'.get? b=some o)->Q v { s with heap:=h',toks:=tk }) :
  wpAny (model prog w) A (call (.builtin "min") [.ref l]) Q E s:=by
 have nm:(toString "min" ++ toString ".loop":String) = "min.loop":=by decide
 have lt:l<s.heap.objs.size:=by obtain⟨_,e,_⟩:=hL;exact Heap.lt_size e
 refine call_function_tree F.kind_min F.plain_min F.entry_min (F.args_min1 _) ?_
 show wpAny _ A.in1 (Builtin.Builtins.bindParams "min" ["key","default"] 0 ⟨[],[]⟩ >>= _) _ _ s
 apply wpAny_bind;refine wpAny_of_eq (show Builtin.Builtins.bindParams "min" ["key","default"] 0 ⟨[],[]⟩=pure [none,none] from rfl) ?_
 apply wpAny_bind;apply wpAny_pure;apply wpAny_bind;refine wpAny_pyIter_tuple hL ?_
 apply wpAny_bind;refine wpAny_newObj_type ?_;rw[nm];apply wpAny_pure
 have sz1:(s.heap.push (uY "tuple_iterator" l)).objs.size=s.heap.objs.size+1:=Heap.size_push ..
 generalize hp:s.heap.push (uY "tuple_iterator" l)=h1 at sz1
 have hI:h1.IsTupleIter s.heap.objs.size l 0:=by rw[<-hp];exact⟨_,Heap.get?_push_size _ rfl,rfl,rfl⟩
 have k1:∀b o,s.heap.get? b=some o->h1.get? b=some o:=λb o e=>by rw[<-hp];exact Heap.get?_push_of_some _ e
 refine⟨plainId_quiet F.plain_min_loop _,?_⟩
 show codeAny _ A (.builtin "min.loop" ⟨[.ref s.heap.objs.size,.none,.ref h1.objs.size],[]⟩) _ { s with heap:=h1.push { cls:=.type "list",dict:=none,data:=.seq ([]:List Value).toArray } }
 rw[sz1]
 have hS:(h1.push { cls:=.type "list",dict:=none,data:=.seq ([]:List Value).toArray }).get? (s.heap.objs.size+1)=some { cls:=.type "list",dict:=none,data:=.seq #[] 0,slots:=#[] }:=by rw[<-sz1];exact Heap.get?_push_size _ rfl
 have k2:∀b o,h1.get? b=some o->(h1.push { cls:=.type "list",dict:=none,data:=.seq ([]:List Value).toArray }).get? b=some o:=λb o e=>Heap.get?_push_of_some _ e
 generalize h1.push { cls:=.type "list",dict:=none,data:=.seq ([]:List Value).toArray } = h2 at hS k2
 have neI:∀{b:Addr} {o:Obj},s.heap.get? b=some o->b≠s.heap.objs.size/\b≠s.heap.objs.size+1:=λe=>⟨Nat.ne_of_lt (Heap.lt_size e),Nat.ne_of_lt (Nat.lt_succ_of_lt (Heap.lt_size e))⟩
 have W:=Walks.tuple (prog:=prog) (w:=w) (A:=A.in1) hh s.heap.objs.size l (Nat.ne_of_lt lt) items
 refine codeAny_builtin F.entry_min_loop ?_;rw[Around.under_plainId F.plain_min_loop _]
 show wpAny _ A.in1 (seqItems? (.ref (s.heap.objs.size+1)) >>= _) _ _ _
 apply wpAny_bind;apply wpAny_seqItems hS rfl
 show wpAny _ A.in1 (tryCatch (pyNext (.ref s.heap.objs.size)) _ >>= _) _ _ _
 have hL2:h2.IsTuple l items:=hL.at λo e=>k2 _ o (k1 _ o e)
 apply wpAny_bind;apply wpAny_tryCatch;refine W.item 0 _ _ _ hne ⟨hI.at λo e=>k2 _ o e,hL2⟩ λv h' tk hv st' kp=>?_
 have wr:∀{b:Addr},b≠s.heap.objs.size->b ∉ [s.heap.objs.size]:=λh=>by simpa using h
 have hS':=kp (s.heap.objs.size+1) _ (wr (Nat.succ_ne_self _)) hS
 show wpAny _ A.in1 (updateSeq (s.heap.objs.size+1) (λ_=>#[v,v]) >>= _) _ _ _
 apply wpAny_bind;refine wpAny_updateSeq hS' rfl ?_;rw[nm];apply wpAny_pure
 have up:∀b o,b≠s.heap.objs.size+1->h'.get? b=some o->(h'.update (s.heap.objs.size+1) (Obj.mapSeq λ_=>#[v,v])).get? b=some o:=λb o b2 e=>(Heap.get?_update_other _ _ (Ne.symm b2)).trans e
 have old:∀b o,s.heap.get? b=some o->(h'.update (s.heap.objs.size+1) (Obj.mapSeq λ_=>#[v,v])).get? b=some o:=λb o e=>up b o (neI e).2 (kp b o (wr (neI e).1) (k2 b o (k1 b o e)))
 have hS'':=Heap.get?_update_self (Obj.mapSeq λ_=>#[v,v]) hS' rfl
 refine⟨plainId_quiet F.plain_min_loop _,?_⟩
 refine tT (A:=A) (G:=λh=>∀b o,s.heap.get? b=some o->h.get? b=some o) (bt:=bt) (items:=items) (I:=s.heap.objs.size) (l:=l) (S:=s.heap.objs.size+1) (os0:=s) hh (Nat.ne_of_lt lt) (Nat.succ_ne_self _) (Nat.ne_of_gt (Nat.lt_succ_of_lt lt)) (λi j u v s' Q' E' e1 e2 g c=>cmp i j u v s' Q' E' e1 e2 (gs _ g) c)
  (λh3 h4 g kk b o e=>kk b o (neI e).1 (neI e).2 (g b o e)) (items.size-1) 0 _ v _ (by omega) (by omega) (st'.1.at λo e=>up _ o (Nat.ne_of_lt (Nat.lt_succ_self _)) e) (st'.2.at λo e=>up _ o (Nat.ne_of_lt (Nat.lt_succ_of_lt lt)) e) (by simpa [argBest] using hv) old hS'' λv' h'' tk'' e kk=>?_
 exact q v' h'' tk'' e λb o e=>kk b o (neI e).1 (neI e).2 (old b o e)
end
noncomputable abbrev fO (ns:List Int):D:=.tup (ns.map .int)
theorem gQ:∀{a b c:List Int},HT.lexLt a b=true->HT.lexLt b c=true->HT.lexLt a c=true
 | [],[],_,h,_=>by cases h
 | [],_::_,[],_,h=>by cases h
 | [],_::_,_::_,_,_=>rfl
 | _::_,[],_,h,_=>by cases h
 | _::_,_::_,[],_,h=>by cases h
 | x::xs,y::ys,z::zs,h1,h2=>by
  rw[HT.lexLt_cons] at *
  by_cases e1:x=y
  ·subst e1
   rw[if_pos rfl] at h1
   by_cases e2:x=z
   ·rw[if_pos e2] at h2 ⊢;exact gQ h1 h2
   ·rw[if_neg e2] at h2 ⊢;exact h2
  ·rw[if_neg e1] at h1
   by_cases e2:y=z
   ·subst e2;rw[if_neg e1];exact h1
   ·rw[if_neg e2] at h2
    simp only[decide_eq_true_eq] at h1 h2
    rw[if_neg (by omega)];simp only[decide_eq_true_eq];omega
theorem kN:∀(a:List Int),HT.lexLt a a=false
 | []=>rfl
 | x::xs=>by rw[HT.lexLt_cons,if_pos rfl];exact kN xs
theorem fY {bt:Nat->Nat->Bool} (tr:∀i j k,bt i j=true->bt j k=true->bt i k=true) (ir:∀i,bt i i=false):∀k,argBest bt k<=k/\∀j,j<=k->bt j (argBest bt k)=false
 | 0=>⟨Nat.le_refl _,λj hj=>by rw[Nat.le_zero.mp hj];exact ir 0⟩
 | k+1=>by
  obtain⟨h1,h2⟩:=fY tr ir k
  cases hb:bt (k+1) (argBest bt k) with
  | true =>
   simp only[argBest,hb,if_true]
   refine⟨Nat.le_refl _,λj hj=>?_⟩
   by_cases e:j=k+1
   ·subst e;exact ir _
   ·cases hc:bt j (k+1) with
    | false=>rfl
    | true =>
     have:=tr j (k+1) _ hc hb
     rw[h2 j (by omega)] at this;cases this
  | false =>
   simp only[argBest,hb,Bool.false_eq_true,if_false]
   refine⟨by omega,λj hj=>?_⟩
   by_cases e:j=k+1
   ·subst e;exact hb
   ·exact h2 j (by omega)
theorem Reps.tupI_inv {K:PySem.W.Frag} {H:Hp} {ns:List Int} {v:V} (r:Rep K H (fO ns) v):∃a,v = .ref a/\H a=some (.tup (ns.map V.int)):=by
 cases r with
 | tup h rr=>rw[rr.ints_inv] at h;exact⟨_,rfl,h⟩
section
variable {X:Cx} {e a b:Expr} {te ta tb:RE} {p pos:Pos}
noncomputable def dLtT:R22:=λx y Q=>∃ns ms:List Int,x=fO ns/\y=fO ms/\Q (.bl (HT.lexLt ns ms))
noncomputable def yH:D->(D->Prop)->Prop:=λd Q=>match d with
 | .lst ds=>∃nss:List (List Int),ds=nss.map fO/\nss≠[]/\∀M,M∈nss->(∀x∈nss,HT.lexLt x M=false)->Q (fO M)
 | .tup ds=>∃nss:List (List Int),ds=nss.map fO/\nss≠[]/\∀M,M∈nss->(∀x∈nss,HT.lexLt x M=false)->Q (fO M)
 | _=>False
theorem AY {k:Nat} (hr:Room k X.A) (hm:X.mg "min" = none) (hc:X.calm=true) (h:DB X e te) (hg:Gl X "min":=by rfl) (hs:starEach [e] X.env=[(false,eval e X.env)]:=by rfl) (hn:starEach [] X.env=[]:=by rfl) :
  DE X (.Call (.Name "min" p) [e] [] pos) (r1 yH te):=by
 have call:iI X (.builtin "min") (λxs H Q=>∃(d:D) (v:V) (P:D->Prop),xs=[v]/\RepB X.K H d v/\yH d P/\∀z w,P z->Rep X.K H z w->Q w H):=by
  intro pins s σ H xs us Q I rs hq
  obtain⟨d,v,P,rfl,rb,hd,kk⟩:=hq
  cases d with
  | lst ds =>
   obtain⟨nss,rfl,hne,hd⟩:=hd
   obtain⟨l,vs,rfl,hq,rr⟩:=rb.lst
   obtain⟨u,rfl,rx⟩:=lJ rs
   cases rx
   obtain⟨its,rv,pl,hz⟩:=I.list hq
   have l1:=rr.length
   have l2:=rv.length
   have hpos:0<nss.length:=List.length_pos_iff.mpr hne
   rw[List.length_map] at l1
   have each:∀(i:Nat) (u:Value),its[i]? = some u->∃ns a ts,nss[i]? = some ns/\vs[i]? = some (.ref a)/\u = .ref a/\Vals (ns.map V.int) ts/\IsTup s.heap a ts.toArray:=λi u e=>by
    have hi:i<nss.length:=by have:=(List.getElem?_eq_some_iff.mp e).1;omega
    obtain⟨v,e1,e2⟩:=rr.get (i:=i) (d:=fO nss[i]) (by rw[List.getElem?_map,List.getElem?_eq_getElem hi];rfl)
    obtain⟨a,rfl,ha⟩:=Reps.tupI_inv e2
    obtain⟨u',f1,f2⟩:=rv.get e1
    rw[e] at f1;cases f1
    cases f2
    obtain⟨ts,g1,g2,_⟩:=I.tuple (SqT.of (K:=X.K) ha)
    exact⟨_,a,ts,List.getElem?_eq_getElem hi,e1,rfl,g1,g2⟩
   refine wC (bt:=λi j=>HT.lexLt (nss.getD i []) (nss.getD j [])) (G:=λh=>∀b o,s.heap.get? b=some o->h.get? b=some o) (I.ok.hd hc) pl.isList (by simp;omega) (λi j u v s' Q' E' e1 e2 g c=>?_) (λh' g=>g) λv h' tk ev kp=>?_
   ·obtain⟨ns,a,ts,n1,_,rfl,g1,g2⟩:=each i u (by simpa using e1)
    obtain⟨ms,b,us,n2,_,rfl,g3,g4⟩:=each j v (by simpa using e2)
    have q1:nss.getD i []=ns:=by rw[List.getD_eq_getElem?_getD,n1];rfl
    have q2:nss.getD j []=ms:=by rw[List.getD_eq_getElem?_getD,n2];rfl
    rw[q1,q2] at c
    have hu:=hr.un
    have tupAt:∀{a:Addr} {xs:Array Value},IsTup s.heap a xs->IsTup s'.heap a xs:=λ⟨o,e,r⟩=>⟨o,g _ o e,r⟩
    refine HT.lt_tupInts (A:=X.A.in1) (tupAt g2) (tupAt g4) (eG g1) (eG g3) (by show X.A.units+1<cLine;omega) c
   ·obtain⟨b1,b2⟩:=fY (bt:=λi j=>HT.lexLt (nss.getD i []) (nss.getD j [])) (λ_ _ _=>gQ) (λ_=>kN _) (its.toArray.size-1)
    generalize argBest (λi j=>HT.lexLt (nss.getD i []) (nss.getD j [])) (its.toArray.size-1)=m at b1 b2 ev
    obtain⟨ns,a,ts,n1,n2,rfl,g1,g2⟩:=each m v (by simpa using ev)
    have hm:m<nss.length:=(List.getElem?_eq_some_iff.mp n1).1
    refine⟨.ref a,H,I.kept kp,rfl,kk _ _ (hd ns (List.mem_of_getElem? n1) λx hx=>?_) ?_⟩
    ·obtain⟨j,hj,rfl⟩:=List.getElem_of_mem hx
     have:=b2 j (by simp;omega)
     have q1:nss.getD j []=nss[j]:=by rw[List.getD_eq_getElem?_getD,List.getElem?_eq_getElem hj];rfl
     have q2:nss.getD m []=ns:=by rw[List.getD_eq_getElem?_getD,n1];rfl
     rw[q1,q2] at this;exact this
    ·obtain⟨w,f1,f2⟩:=rr.get (i:=m) (d:=fO ns) (by rw[List.getElem?_map,n1];rfl)
     rw[n2] at f1;cases f1;exact f2
  | tup ds =>
   obtain⟨nss,rfl,hne,hd⟩:=hd
   obtain⟨l,vs,rfl,hq,rr⟩:=rb.tup
   obtain⟨u,rfl,rx⟩:=lJ rs
   cases rx
   obtain⟨its,rv,pl,hz⟩:=I.tuple (SqT.of (K:=X.K) hq)
   have l1:=rr.length
   have l2:=rv.length
   have hpos:0<nss.length:=List.length_pos_iff.mpr hne
   rw[List.length_map] at l1
   have each:∀(i:Nat) (u:Value),its[i]? = some u->∃ns a ts,nss[i]? = some ns/\vs[i]? = some (.ref a)/\u = .ref a/\Vals (ns.map V.int) ts/\IsTup s.heap a ts.toArray:=λi u e=>by
    have hi:i<nss.length:=by have:=(List.getElem?_eq_some_iff.mp e).1;omega
    obtain⟨v,e1,e2⟩:=rr.get (i:=i) (d:=fO nss[i]) (by rw[List.getElem?_map,List.getElem?_eq_getElem hi];rfl)
    obtain⟨a,rfl,ha⟩:=Reps.tupI_inv e2
    obtain⟨u',f1,f2⟩:=rv.get e1
    rw[e] at f1;cases f1
    cases f2
    obtain⟨ts,g1,g2,_⟩:=I.tuple (SqT.of (K:=X.K) ha)
    exact⟨_,a,ts,List.getElem?_eq_getElem hi,e1,rfl,g1,g2⟩
   refine tI (bt:=λi j=>HT.lexLt (nss.getD i []) (nss.getD j [])) (G:=λh=>∀b o,s.heap.get? b=some o->h.get? b=some o) (I.ok.hd hc) pl (by simp;omega) (λi j u v s' Q' E' e1 e2 g c=>?_) (λh' g=>g) λv h' tk ev kp=>?_
   ·obtain⟨ns,a,ts,n1,_,rfl,g1,g2⟩:=each i u (by simpa using e1)
    obtain⟨ms,b,us,n2,_,rfl,g3,g4⟩:=each j v (by simpa using e2)
    have q1:nss.getD i []=ns:=by rw[List.getD_eq_getElem?_getD,n1];rfl
    have q2:nss.getD j []=ms:=by rw[List.getD_eq_getElem?_getD,n2];rfl
    rw[q1,q2] at c
    have hu:=hr.un
    have tupAt:∀{a:Addr} {xs:Array Value},IsTup s.heap a xs->IsTup s'.heap a xs:=λ⟨o,e,r⟩=>⟨o,g _ o e,r⟩
    refine HT.lt_tupInts (A:=X.A.in1) (tupAt g2) (tupAt g4) (eG g1) (eG g3) (by show X.A.units+1<cLine;omega) c
   ·obtain⟨b1,b2⟩:=fY (bt:=λi j=>HT.lexLt (nss.getD i []) (nss.getD j [])) (λ_ _ _=>gQ) (λ_=>kN _) (its.toArray.size-1)
    generalize argBest (λi j=>HT.lexLt (nss.getD i []) (nss.getD j [])) (its.toArray.size-1)=m at b1 b2 ev
    obtain⟨ns,a,ts,n1,n2,rfl,g1,g2⟩:=each m v (by simpa using ev)
    have hm:m<nss.length:=(List.getElem?_eq_some_iff.mp n1).1
    refine⟨.ref a,H,I.kept kp,rfl,kk _ _ (hd ns (List.mem_of_getElem? n1) λx hx=>?_) ?_⟩
    ·obtain⟨j,hj,rfl⟩:=List.getElem_of_mem hx
     have:=b2 j (by simp;omega)
     have q1:nss.getD j []=nss[j]:=by rw[List.getD_eq_getElem?_getD,List.getElem?_eq_getElem hj];rfl
     have q2:nss.getD m []=ns:=by rw[List.getD_eq_getElem?_getD,n1];rfl
     rw[q1,q2] at this;exact this
    ·obtain⟨w,f1,f2⟩:=rr.get (i:=m) (d:=fO ns) (by rw[List.getElem?_map,n1];rfl)
     rw[n2] at f1;cases f1;exact f2
  | _=>exact hd.elim
 refine PE.mono (jX call hg hm yC (dS h hs hn) (by decide) (by decide) (by rw[hs,hn]) (by rw[hn];rfl)) λσ H Q hh=>bG hh λρ P st q k=>⟨ρ,_,st,q,λd v H1 hd s1 r=>⟨d,v,P,rfl,r,hd,λz w hz rz=>k z w H1 hz s1 rz⟩⟩
noncomputable def dNe:R22:=λx y Q=>match x,y with
 | .int i,.int j=>Q (.bl !(decide (i=j)))
 | .bl i,.bl j=>Q (.bl !(decide (i=j)))
 | .tup xs,.tup ys=>match eqL (eqF 5) xs ys with
  | some b=>Q (.bl !b)
  | none=>False
 | .non,.non=>Q (.bl false)
 | _,_=>False
theorem GX {k:Nat} (hr:Room k X.A):OpD X (compareOp .NotEq) dNe:=by
 intro pins s σ H x y v u Q I rx ry hh_0
 obtain⟨d,e,P,r1,r2,q,kk⟩:=hh_0
 have hu:=hr.un
 unfold dNe at q
 split at q
 ·rename_i i j
  rw[r1.int_inv] at rx;rw[r2.int_inv] at ry
  obtain⟨t,rfl⟩:=rx
  obtain⟨t',rfl⟩:=ry
  have e:(!(decide (i=j))) = !(i == j):=by rw[Bool.beq_eq_decide_eq]
  rw[e] at q
  exact SeqAt.RcNeAt.int_int i t j t' _ _ _ _ ⟨.bl _,H,I,rfl,kk _ _ H q (Same.refl H) (.bl _)⟩
 ·rename_i i j
  rw[r1.bl_inv] at rx;rw[r2.bl_inv] at ry
  cases rx;cases ry
  have e:(!(decide (i=j))) = !(i == j):=by rw[Bool.beq_eq_decide_eq]
  rw[e] at q
  exact SeqAt.RcNeAt.bool_bool i j _ _ _ _ ⟨.bl _,H,I,rfl,kk _ _ H q (Same.refl H) (.bl _)⟩
 ·rename_i xs ys
  split at q
  ·rename_i b h
   obtain⟨a,vs,rfl,h1,q1⟩:=r1.tup
   obtain⟨c,ws,rfl,h2,q2⟩:=r2.tup
   cases rx;cases ry
   obtain⟨its,rv,ht,_⟩:=I.tuple (SqT.of h1)
   obtain⟨its2,rv2,ht2,_⟩:=I.tuple (SqT.of h2)
   have l1:xs.length=its.length:=q1.length.trans rv.length
   have l2:ys.length=its2.length:=q2.length.trans rv2.length
   have rc:SeqAt.RcNeAt X.A s (.ref a) (.ref c) (!b):=by
    have:=SeqAt.RcNeAt.tuples (A:=X.A) (s:=s) (e:=λj=>match xs[j]?,ys[j]? with | some x,some y=>(eqF 5 x y).getD false | _,_=>false) ht ht2 (by omega) (λj g1 g2=>?_)
    ·simp only[List.size_toArray,<-l1,<-l2] at this
     have al:=iB h
     rw[<-al]
     exact this
    ·simp only[List.size_toArray] at g1 g2
     have e1:xs[j]? = some (xs[j]'(by omega)):=List.getElem?_eq_getElem _
     have e2:ys[j]? = some (ys[j]'(by omega)):=List.getElem?_eq_getElem _
     obtain⟨k,hk⟩:=jT h j _ _ e1 e2
     rw[e1,e2]
     simp only[hk,Option.getD_some]
     obtain⟨v1,f1,f2⟩:=q1.get e1
     obtain⟨v2,f3,f4⟩:=q2.get e2
     obtain⟨u1,g3,g4⟩:=rv.get f1
     obtain⟨u2,g5,g6⟩:=rv2.get f3
     have a1:its.toArray[j]=u1:=by
      have:=List.getElem?_eq_getElem g1
      rw[this] at g3
      simpa using Option.some.inj g3
     have a2:its2.toArray[j]=u2:=by
      have:=List.getElem?_eq_getElem g2
      rw[this] at g5
      simpa using Option.some.inj g5
     rw[a1,a2]
     exact (fL I 5 hk f2 f4 g4 g6 (by show X.A.units+1+5<cLine;omega)).2
   exact rc _ _ _ _ ⟨.bl _,H,I,rfl,kk _ _ H q (Same.refl H) (.bl _)⟩
  ·exact q.elim
 ·have non:∀{v:V},RepB X.K H .non v->v = .non:=λr=>by
   rcases r with r | ⟨_,_,_,e,_⟩
   ·cases r;rfl
   ·cases e
  rw[non r1] at rx;rw[non r2] at ry
  cases rx;cases ry
  exact SeqAt.RcNeAt.none_none _ _ _ _ ⟨.bl _,H,I,rfl,kk _ _ H q (Same.refl H) (.bl _)⟩
 ·exact q.elim
noncomputable def yG:R22:=λx y Q=>match x with
 | .lst xs=>∃j:Nat,(∃d,xs[j]? = some d/\eqF 6 d y=some true)/\(∀(i:Nat) d,i<j->xs[i]? = some d->eqF 6 d y=some false)/\(∀d∈xs,∃b,eqF 6 d y=some b)/\Q (.int (j:Int))
 | _=>False
theorem RelV.det {v v':V} {u:Value} (h:RelV v u) (h':RelV v' u):v=v':=RelV.inj h h'
end
section
variable {X:Cx} {pins:List (Addr × Obj)} {σ:St} {H:Hp} {s:Shared}
theorem oX:∀{ks ks':List Int} {vs vs':List V},ks.length=vs.length->ks'.length=vs'.length->dM ks vs=dM ks' vs'->ks=ks'/\vs=vs'
 | [],[],[],[],_,_,_=>⟨rfl,rfl⟩
 | [],_::_,[],_::_,_,_,h=>by simp[dM] at h
 | _::_,[],_::_,[],_,_,h=>by simp[dM] at h
 | k::ks,k'::ks',v::vs,v'::vs',h1,h2,h=>by
  simp only[dM,List.zipWith_cons_cons,List.cons.injEq,Prod.mk.injEq,Sum.inl.injEq] at h
  obtain⟨rfl,rfl⟩:=oX (ks:=ks) (ks':=ks') (vs:=vs) (vs':=vs') (by simpa using h1) (by simpa using h2) h.2
  obtain⟨⟨rfl,rfl⟩,_⟩:=h
  exact⟨rfl,rfl⟩
theorem lE (I:Inv X pins σ H s) {a:Addr} {o:Obj} {kvs:List (Key × V)} {vs:List V} (h:H a=some (.frz o (.dK kvs))) (h':FzL X.K H a vs):False:=by
 obtain⟨its,rv,pl,_⟩:=I.list h'.sq
 obtain⟨o',e',c',_⟩:=pl.isList
 obtain⟨_,_,_,us,_,ob,es,ep,e,c,_⟩:=I.hok a _ h
 rw[e] at e';cases e';rw[c.1] at c';simp at c'
mutual
theorem Rep.det (I:Inv X pins σ H s):∀{d d':D} {v:V},Rep X.K H d v->Rep X.K H d' v->d=d'
 | _,_,_,.non,r=>by cases r;rfl
 | _,_,_,.bl b,r=>by cases r;rfl
 | _,_,_,.int i,r=>by cases r;rfl
 | _,_,_,.str x,r=>by cases r;rfl
 | _,_,_,.tup h q,r=>by
  cases r with
  | tup h' q'=>rw[h] at h';cases h';rw[Reps.det I q q']
  | lst h' q' =>
   obtain⟨its,rv,pl,_⟩:=I.list h'.sq
   obtain⟨jts,rv',⟨o,e,c,_⟩,_⟩:=I.tuple (SqT.of (K:=X.K) h)
   obtain⟨o',e',c',_⟩:=pl.isList
   rw[e] at e';cases e';rw[c] at c';simp at c'
  | dct h' _ _=>rw[h] at h';cases h'
 | _,_,_,.dct h hl q,r=>by
  cases r with
  | tup h' q'=>rw[h] at h';cases h'
  | lst h' q'=>exact (lE I h h').elim
  | dct h' hl' q' =>
   rw[h] at h'
   obtain⟨rfl,rfl⟩:=oX hl hl' (by injection h' with e;injection e with _ e;injection e)
   rw[Reps.det I q q']
 | _,_,_,.lst h q,r=>by
  cases r with
  | tup h' q' =>
   obtain⟨its,rv,pl,_⟩:=I.list h.sq
   obtain⟨jts,rv',⟨o,e,c,_⟩,_⟩:=I.tuple (SqT.of (K:=X.K) h')
   obtain⟨o',e',c',_⟩:=pl.isList
   rw[e] at e';cases e';rw[c] at c';simp at c'
  | lst h' q'=>rw[I.list_inj h'.sq h.sq] at q';rw[Reps.det I q q']
  | dct h' _ _=>exact (lE I h' h).elim
theorem Reps.det (I:Inv X pins σ H s):∀{d d':List D} {v:List V},Reps X.K H d v->Reps X.K H d' v->d=d'
 | _,_,_,.nil,r=>by cases r;rfl
 | _,_,_,.cons h t,r=>by
  cases r with
  | cons h' t'=>rw[Rep.det I h h',Reps.det I t t']
end
end
section
variable {X:Cx} {e a b:Expr} {te ta tb:RE} {p pos:Pos}
noncomputable def kX (ta tb:RE):RE:=λρ Q=>ta ρ λx=>(∃xs,x = .lst xs)/\tb ρ λy=>yG x y Q
theorem yJ {k:Nat} {apos cpos:Pos} (hr:Room k X.A) (ha:DB X a ta) (hb:DE X b tb) (hbase:attributeBase a "index" X.env (eval a X.env)=eval a X.env:=by rfl)
  (hfew:((backTo cpos (starEach [b] X.env)).all (λx=>!x.1) && (backToKw cpos (keywordEach [] X.env)).all (λx=>x.1.isSome) && decide (([b]:List Expr).length+([]:List Keyword).length+(if ([]:List Keyword).isEmpty then 0 else 1)<30))=true:=by rfl)
  (hline:(apos.endLine == cpos.line)=true:=by rfl) (hs:starEach [b] X.env=[(false,eval b X.env)]:=by rfl) (hn:starEach [] X.env=[]:=by rfl) :
  DE X (.Call (.Attribute a "index" apos) [b] [] cpos) (kX ta tb):=by
 have mt:MtR X "list.index" (λx vs H Q=>∃(d e:D) (u:V) (P:D->Prop),vs=[u]/\RepB X.K H d x/\Rep X.K H e u/\yG d e P/\∀z w,P z->Rep X.K H z w->Q w H):=by
  intro pins s σ H x vs v us Q I rx rv hh_0
  obtain⟨d,e,u,P,ev,rd,re,q,kk⟩:=hh_0
  subst ev
  obtain⟨u',rfl,ru⟩:=rv.one
  cases d with
  | lst xs =>
   obtain⟨j,⟨dj,ej,hj⟩,hno,hall,q⟩:=q
   obtain⟨l,vs,rfl,hq,rr⟩:=rd.lst
   cases rx
   obtain⟨its,rw',pl,hz⟩:=I.list hq
   obtain⟨⟨cls,dd,data,sl⟩,ho,hc,n,hd⟩:=pl.isList
   simp only at hc hd
   subst hc hd
   have l1:=rr.length
   have l2:=rw'.length
   have hu:=hr.un
   have hjl:j<xs.length:=(List.getElem?_eq_some_iff.mp ej).1
   let ev:Value->Bool:=λy=>(List.range xs.length).any λi=>match xs[i]?,its[i]? with
    | some d,some z=>z == y && eqF 6 d e == some true
    | _,_=>false
   have each:∀(i:Nat) (y:Value),its[i]? = some y->∃d v,xs[i]? = some d/\Rep X.K H d v/\RelV v y/\∃b,eqF 6 d e=some b:=λi y ey=>by
    have hi:i<xs.length:=by have:=(List.getElem?_eq_some_iff.mp ey).1;omega
    obtain⟨v,e1,e2⟩:=rr.get (List.getElem?_eq_getElem hi)
    obtain⟨y',f1,f2⟩:=rw'.get e1
    rw[ey] at f1;cases f1
    exact⟨_,v,List.getElem?_eq_getElem hi,e2,f2,hall _ (List.getElem_mem hi)⟩
   have evOk:∀(i:Nat) (y:Value) (d:D) (b:Bool),its[i]? = some y->xs[i]? = some d->eqF 6 d e=some b->ev y=b:=λi y d b ey ed hb=>by
    obtain⟨d',v,q1,q2,q3,_⟩:=each i y ey
    rw[ed] at q1;cases q1
    cases b with
    | true =>
     have hi:i<xs.length:=(List.getElem?_eq_some_iff.mp ed).1
     refine List.any_eq_true.mpr ⟨i,List.mem_range.mpr hi,?_⟩
     simp only[ed,ey,hb];simp
    | false =>
     refine List.any_eq_false.mpr λi' hi'=>?_
     cases ex:xs[i']? with
     | none=>simp
     | some d' =>
      cases ez:its[i']? with
      | none=>simp
      | some z =>
       simp only[Bool.and_eq_true,beq_iff_eq,not_and]
       intro hz hd'
       subst hz
       obtain⟨d2,v2,p1,p2,p3,_⟩:=each i' z ez
       rw[ex] at p1;cases p1
       have:=RelV.det q3 p3
       subst this
       rw[Rep.det I q2 p2] at hb
       rw[hb] at hd';cases hd'
   have getI:∀(i:Nat) (h:i<its.toArray.size),its[i]? = some its.toArray[i]:=λi h=>by
    have h':i<its.length:=by simpa using h
    rw[List.getElem?_eq_getElem h'];simp
   refine call_meets F.slot_list_index ⟨_,ho,rfl⟩ F.entry_list_index (F.args_list_index_2 _ _) (SeqAt.list_indexAt l its.toArray n dd sl u' ev j (by simp;omega) ?_ ?_ λm hm hlt=>?_) ⟨ho,λy hy=>?_,?_⟩
   ·have hs:(sizeLine:Int)<2 ^ 63-1:=by decide
    omega
   ·exact evOk j _ dj true (getI j _) ej hj
   ·have hm':m<xs.length:=by simp at hm;omega
    exact evOk m _ xs[m] false (getI m hm) (List.getElem?_eq_getElem hm') (hno m _ hlt (List.getElem?_eq_getElem hm'))
   ·obtain⟨i,hi,rfl⟩:=List.getElem_of_mem (List.mem_toArray.mp hy)
    obtain⟨d,v,q1,q2,q3,b,hb⟩:=each i its[i] (List.getElem?_eq_getElem hi)
    rw[evOk i _ d b (List.getElem?_eq_getElem hi) q1 hb]
    exact (fL I 6 hb q2 re q3 ru (by show X.A.units+1+6<cLine;omega)).2
   ·exact⟨.int (j:Int),H,I.tok _,⟨_,rfl⟩,kk _ _ q (.int _)⟩
  | _=>exact q.elim
 refine PE.mono (mT PySem.F.plainAttrs_list PySem.F.slot_list_index PySem.F.type_list_index mt ha (dS hb hs hn) hbase hfew hline (by rw[hs,hn]) (by rw[hn];rfl)) λσ H Q hh=>bG hh λρ P st q k=>⟨ρ,_,st,q,λx v H1 hx s1 r1=>⟨?_,ρ,_,st.ext s1,hx.2,λy u H2 hy s2 r2=>⟨x,y,u,P,rfl,r1.same s2,r2,hy,λz w hz rz=>k z w H2 hz (s1.trans s2) rz⟩⟩⟩
 obtain⟨⟨xs,rfl⟩,_⟩:=hx
 obtain⟨l,vs,rfl,hq,_⟩:=r1.lst
 exact .inl ⟨rfl,vs,hq⟩
end
end L2.R2
set_option Elab.async false
set_option linter.all false
set_option maxRecDepth 100000
set_option maxHeartbeats 1000000
namespace L2.R2
open PySem PySem.SetTable
section
variable {prog:Program} {w:World} {A:Around} {E:Value->Shared->Prop} {s:Shared}
end
end L2.R2
set_option Elab.async false
set_option linter.all false
set_option maxRecDepth 100000
set_option maxHeartbeats 3200000
namespace L2.R2
open PySem PySem.SetTable PyProof.Rows
section
variable {prog:Program} {w:World} {A:Around} {E:Value->Shared->Prop} {s:Shared}
end
section
variable {prog:Program} {w:World} {A:Around} {E:Value->Shared->Prop} {s:Shared}
end
section
variable {prog:Program} {w:World} {A:Around} {E:Value->Shared->Prop} {s:Shared}
end
end L2.R2
set_option Elab.async false
set_option linter.all false
set_option maxRecDepth 100000
set_option maxHeartbeats 1000000
namespace L2.R2
open PySem PySem.W PyProof.Rows
section
variable {O:KeyOrd} {key:Nat->O.α} {N:Nat}
noncomputable def kk (O:KeyOrd) (key:Nat->O.α) (p:Array Nat) (i:Nat):O.α:=key (p.getD i 0)
end
end L2.R2
set_option Elab.async false
set_option linter.all false
set_option maxRecDepth 100000
set_option maxHeartbeats 3200000
namespace L2.R2
open PySem PySem.W PySem.SetTable PyProof.Rows
noncomputable def GN:List Int->List Int->Bool
 | [],[]=>false
 | [],_::_=>true
 | _::_,[]=>false
 | a::as,b::bs=>if a=b then GN as bs else decide (a<b)
section
variable {prog:Program} {w:World} {A:Around} {E:Value->Shared->Prop} {s:Shared}
end
end L2.R2
set_option Elab.async false
set_option linter.all false
set_option maxRecDepth 100000
set_option maxHeartbeats 3200000
namespace L2.R2
open PySem PySem.W PyProof.Rows
section
variable {prog:Program} {w:World} {A:Around} {E:Value->Shared->Prop} {s:Shared}
end
end L2.R2
set_option Elab.async false
set_option linter.all false
set_option maxRecDepth 100000
set_option maxHeartbeats 1000000
namespace L2.R2
open PySem PySem.Spec PyProof.Rows L2
theorem rG:bootBuiltins "sorted" = some (.builtin "sorted"):=by decide +kernel
noncomputable def HI (te:RE):RA:=λρ Q=>te ρ λx=>∃ds:List D,x = .lst ds/\Q ds.reverse
section
variable {X:Cx} {e:Expr} {te:RE} {p pz pos posz:Pos}
end
section
variable {X:Cx} {tg:Expr}
noncomputable def HK (lo:Int) (n:Nat):List D:=(List.range n).map λk:Nat=>D.int (lo+(k:Int)*2)
structure StpOk (j:Int):Prop where
 lo:-(2 ^ 60)<=j
 hi:j<2 ^ 60
noncomputable def qU (t:RA):RA:=λρ Q=>t ρ λds=>match ds with
 | [.int i,.int j,.int c]=>(StpOk i/\StpOk j/\c=2)/\Q (HK i ((j-i+1) / 2).toNat)
 | _=>False
end
end L2.R2
set_option Elab.async false
set_option linter.all false
set_option maxRecDepth 100000
namespace L2
open PySem PySem.Spec PyProof.Rows
section
variable {κ:Type} [DecidableEq κ]
noncomputable def dD (kvs:List (κ × V)) (k:κ):Option V:=(kvs.find? λkv=>decide (kv.1=k)).map (·.2)
noncomputable def CG (kvs:List (κ × V)) (k:κ) (v:V):List (κ × V) :=
 if (kvs.any λkv=>decide (kv.1=k))=true then kvs.map (λkv=>if kv.1=k then (kv.1,v) else kv) else kvs++[(k,v)]
theorem dQ {p:κ × V} {r:List (κ × V)} {k:κ} (e:p.1=k):dD (p::r) k=some p.2:=by simp[dD,List.find?_cons,e]
theorem cG {p:κ × V} {r:List (κ × V)} {k:κ} (e:¬p.1=k):dD (p::r) k=dD r k:=by simp[dD,List.find?_cons,e]
theorem sZ (k:κ):∀kvs:List (κ × V),(kvs.any λkv=>decide (kv.1=k))=(dD kvs k).isSome
 | []=>rfl
 | p::r=>by
  rw[List.any_cons]
  by_cases e:p.1=k
  ·simp only[dQ e,decide_eq_true e,Bool.true_or,Option.isSome_some]
  ·rw[cG e,decide_eq_false e,Bool.false_or];exact sZ k r
theorem zX {kvs:List (κ × V)} {k:κ} (v:V) (h:dD kvs k=none):CG kvs k v=kvs++[(k,v)]:=by
 unfold CG
 rw[sZ,h]
 exact if_neg (by decide)
theorem RelO.getD {o:Option V} {u:Option Value} {d:V} {d':Value} (r:RelO o u) (rd:RelV d d'):RelV (o.getD d) (u.getD d'):=by
 cases o with
 | none=>cases u with
  | none=>exact rd
  | some _=>exact (show False from r).elim
 | some _=>cases u with
  | none=>exact (show False from r).elim
  | some _=>exact r
theorem KV.val {kvs:List (κ × V)} {vs:List (κ × Value)} (r:KV kvs vs) (k:κ):RelO (dD kvs k) (valueAt vs k):=by
 unfold KV at r
 induction r with
 | nil=>exact True.intro
 | @cons p q ps qs h t ih =>
  obtain⟨h1,h2⟩:=h
  by_cases e:p.1=k
  ·have e':q.1=k:=h1.symm.trans e
   have b:valueAt (q::qs) k=some q.2:=by simp[valueAt,List.find?_cons,e']
   rw[dQ e,b];exact h2
  ·have e':¬q.1=k:=λz=>e (h1.trans z)
   have b:valueAt (q::qs) k=valueAt qs k:=by simp[valueAt,List.find?_cons,e']
   rw[cG e,b];exact ih
theorem KV.any {kvs:List (κ × V)} {vs:List (κ × Value)} (r:KV kvs vs) (k:κ):(kvs.any λkv=>decide (kv.1=k))=vs.any λkv=>decide (kv.1=k):=by
 unfold KV at r
 induction r with
 | nil=>rfl
 | cons h t ih=>rw[List.any_cons,List.any_cons,ih,h.1]
theorem KV.repl {kvs:List (κ × V)} {vs:List (κ × Value)} (r:KV kvs vs) (k:κ) {y:V} {u:Value} (ry:RelV y u) :
  KV (kvs.map λkv=>if kv.1=k then (kv.1,y) else kv) (vs.map λkv=>if kv.1=k then (kv.1,u) else kv):=by
 unfold KV at r ⊢
 induction r with
 | nil=>exact .nil
 | @cons p q ps qs h t ih =>
  rw[List.map_cons,List.map_cons]
  refine .cons ?_ ih
  obtain⟨h1,h2⟩:=h
  by_cases e:p.1=k
  ·rw[if_pos e,if_pos (h1.symm.trans e)];exact⟨h1,ry⟩
  ·rw[if_neg e,if_neg (λz=>e (h1.trans z))];exact⟨h1,h2⟩
theorem KV.put {kvs:List (κ × V)} {vs:List (κ × Value)} (r:KV kvs vs) (k:κ) {y:V} {u:Value} (ry:RelV y u):KV (CG kvs k y) (stored vs k u):=by
 unfold CG stored
 rw[r.any k]
 by_cases e:(vs.any λkv=>decide (kv.1=k))=true
 ·rw[if_pos e,if_pos e];exact r.repl k ry
 ·rw[if_neg e,if_neg e];exact Paired.snoc r ⟨rfl,ry⟩
theorem KV.length {kvs:List (κ × V)} {vs:List (κ × Value)} (r:KV kvs vs):kvs.length=vs.length:=Paired.length r
end
theorem vA {P:Program} {w:World} {k:Key} {u:Value} (r:RelV (kV k) u):(bN P w).is k u=true:=by
 cases k with
 | inl i=>obtain⟨t,e⟩:=(show ∃t,u=Value.int i t from r);subst e;exact sK P w i t
 | inr x=>obtain⟨t,e⟩:=(show ∃t,u=Value.str x t from r);subst e;exact sL P w x t
theorem oW {P:Program} {w:World}:∀{ks:List Key} {us:List Value},Vals (ks.map kV) us->ItemsAre (bN P w) ks us
 | [],_,r=>by rw[List.map_nil] at r;cases r;exact .nil
 | k::ks,_,r=>by
  rw[List.map_cons] at r
  cases r with
  | cons h t=>exact .cons (vA h) (oW t)
noncomputable abbrev KT (H:Hp):List (List Key × V)->List (List Key × Addr × Value)->Prop:=Paired λp q=>p.1=q.1/\H q.2.1=some (.tup (p.1.map kV))/\RelV p.2 q.2.2
theorem KT.val {H:Hp} {kvs:List (List Key × V)} {xs:List (List Key × Addr × Value)} (r:KT H kvs xs) (k:List Key):RelO (dD kvs k) ((atKey xs k).map (·.2)):=by
 induction r with
 | nil=>exact True.intro
 | @cons p q ps qs h t ih =>
  obtain⟨h1,_,h2⟩:=h
  by_cases e:p.1=k
  ·have e':q.1=k:=h1.symm.trans e
   have b:atKey (q::qs) k=some q.2:=by simp[atKey,List.find?_cons,e']
   rw[dQ e,b];exact h2
  ·have e':¬q.1=k:=λz=>e (h1.trans z)
   have b:atKey (q::qs) k=atKey qs k:=by simp[atKey,List.find?_cons,e']
   rw[cG e,b];exact ih
section
variable {P:Program} {w:World} {H:Hp} {h:Heap} {a:Addr}
theorem DN {u:HO} (ok:HOk P w H h) (e:Rd H a u):ObjOk P w H h a u:=e.ok ok
theorem oQ {kvs:List (Key × V)} (ok:HOk P w H h) (e:Rd H a (.dK kvs)):kvs.length<=sizeLine/\(a == sysModules)=false/\∃vs,KV kvs vs/\h.DictOf (bN P w) a vs :=
 show ObjOk P w H h a (.dK kvs) from DN ok e
theorem GC {kvs:List (Key × V)} (ok:HOk P w H h) (e:H a=some (.dK kvs)):kvs.length<=sizeLine/\(a == sysModules)=false/\∃vs,KV kvs vs/\h.DictOf (bN P w) a vs:=oQ ok (.inl e)
theorem tN {ks:List Key} (ok:HOk P w H h) (e:H a=some (.tup (ks.map kV))):(tupleKind (bN P w)).is h ks a:=by
 obtain⟨_,its,r,o,h1,h2,n,h3⟩:=(show ObjOk P w H h a (.tup (ks.map kV)) from ok a _ e)
 exact⟨o,its.toArray,n,h1,h2,h3,by simpa using oW r⟩
theorem uV {kvs:List (List Key × V)} (ok:HOk P w H h) (e:Rd H a (.dT kvs)):kvs.length<=sizeLine/\(a == sysModules)=false /\
  ∃xs,KT H kvs xs/\h.DictOfH (tupleKind (bN P w)) a xs:=by
 obtain⟨z,y,xs,r,o,es,ep,h1,h2,h3,h4,h5⟩:=(show ObjOk P w H h a (.dT kvs) from DN ok e)
 refine⟨z,y,xs,r,o,es,ep,h1,h2,h3,h4,λx hx=>?_,h5⟩
 have all:∀{l:List (List Key × V)} {m:List (List Key × Addr × Value)},KT H l m->∀x∈m,(tupleKind (bN P w)).is h x.1 x.2.1:=by
  intro l m q
  induction q with
  | nil=>intro x hx;exact nomatch hx
  | @cons p q ps qs hq t ih =>
   intro x hx
   rcases List.mem_cons.mp hx with e | hx
   ·subst e
    exact tN ok (by rw[<-hq.1];exact hq.2.1)
   ·exact ih x hx
 exact all r x hx
end
noncomputable def xW (H:Hp) (a:Addr) (y:V) (r:Option V):Prop :=
 (∃kvs k,Rd H a (.dK kvs)/\y=kV k/\r=dD kvs k)\/∃kvs k b,Rd H a (.dT kvs)/\y = .ref b/\H b=some (.tup (k.map kV))/\r=dD kvs k
section
variable {X:Cx} {pins:List (Addr × Obj)} {σ:St} {H:Hp} {s:Shared} {a:Addr} {y v:V} {u r:Value} {o:Option V} {A:Around} {E:Value->Shared->Prop}
theorem Inv.big (I:Inv X pins σ H s):sysModules<s.heap.objs.size:=by
 have h:mainGlobals<s.heap.objs.size:=(I.mod.glob.keeps I.bk).lt
 exact Nat.lt_trans (by decide) h
theorem wH {Q:Value->Shared->Prop} (hu:A.units+1<cLine) (I:Inv X pins σ H s) (g:xW H a y (some v)) (ry:RelV y u) (h:∀w' s',Inv X pins σ H s'->RelV v w'->Q w' s') :
  wpAny (model X.prog X.w) A (getItem (.ref a) u) Q E s:=by
 rcases g with ⟨kvs,k,e,ey,l⟩ | ⟨kvs,k,b,e,ey,eb,l⟩
 ·subst ey
  obtain⟨z,hd,vs,rel,dd⟩:=oQ I.hok e
  obtain⟨w',hw,rw'⟩:=RelO.some_of (v:=v) (o:=valueAt vs k) (by rw[l];exact rel.val k)
  exact wpAny_getItem_of (vA ry) dd.mapOf hw (h w' _ (I.tok _) rw')
 ·subst ey
  cases (show u=Value.ref b from ry)
  obtain⟨z,hd,xs,rel,dd⟩:=uV I.hok e
  obtain⟨w',hw,rw'⟩:=RelO.some_of (v:=v) (o:=(atKey xs k).map (·.2)) (by rw[l];exact rel.val k)
  obtain⟨p,hp,hp2⟩:=Option.map_eq_some_iff.mp hw
  refine wpAny_getItem_heap (tupleKind_room_in1 hu) (tN I.hok eb) dd hp ?_
  rw[hp2]
  exact h w' _ (I.tok _) rw'
theorem AW {h':Heap} {t':Nat} {ob:HO} (I:Inv X pins σ H s) (mu:Mut (H a)) (hs:Heap.SameBut a s.heap h') (he:∃q,h'.get? a=some q) (new:ObjOk X.prog X.w (upd H a ob) h' a ob) :
  Inv X pins σ (upd H a ob) { s with heap:=h',toks:=t' } :=
 I.write (x:=a) (e:=a) mu (.inl rfl) (λb q hb z=>(hs.2 b hb).trans z) he new
theorem EG {P:Program} {w:World} {H':Hp} {h':Heap} {kvs:List (Key × V)} {vs:List (Key × Value)} (z:kvs.length<=sizeLine) (hd:(a == sysModules)=false) (rel:KV kvs vs) (dd:h'.DictOf (bN P w) a vs) :
  ObjOk P w H' h' a (.dK kvs):=⟨z,hd,vs,rel,dd⟩
end
section
variable {X:Cx} {pins:List (Addr × Obj)} {σ:St} {H:Hp} {s:Shared} {a:Addr} {kvs:List (Key × V)} {k:Key} {u:Value} {A:Around} {E:Value->Shared->Prop}
end
noncomputable def DQ (i:Expr):Prop:=∀ov iv,subscripted i false ov iv=operate [ov,iv] (getItem ov iv)
theorem CS {prog:Program} {w:World} {A:Around} {E:Value->Shared->Prop} {s:Shared} {env:Env} {value slice:Expr} {pos:Pos} {T id:String} {Q:Value->Shared->Prop}
  (hl:typeLookup (.type T) "__getitem__" = pure (some (.builtin id))) (hs:DQ slice)
  (h:wpAny (model prog w) A (eval value env) (λo s₁=>wpAny (model prog w) A (eval slice env) (λi s₂=>s₂.TypeIs o T/\wpAny (model prog w) A (getItem o i) Q E s₂) E s₁) E s) :
  wpAny (model prog w) A (eval (.Subscript value slice pos) env) Q E s:=by
 refine Subscript_ (wpAny_mono h (λo s₁ h₁=>wpAny_mono h₁ (λi s₂ h₂=>?_) λ_ _ x=>x) λ_ _ x=>x)
 obtain⟨hT,h₂⟩:=h₂
 unfold subscriptTail
 refine wpAny_bind ?_
 rw[getitemInPython_of_ne hT.not_modules]
 refine wpAny_bind (wpAny_specialOf hT hl ?_)
 have fin:wpAny (model prog w) A (subscripted slice false o i) (λr s₃=>wpAny (model prog w) A (letTemporaryGo value o r >>= λ_=>pure r) Q E s₃) E s₂:=by
  rw[hs o i]
  exact wpAny_operating (wpAny_mono h₂ (λr s₃ h₃=>wpAny_bind (wpAny_letTemporaryGo (wpAny_pure h₃))) λ_ _ x=>x)
 first
  | exact wpAny_pure (wpAny_bind fin)
  | exact wpAny_bind (wpAny_pure (wpAny_bind fin))
  | exact wpAny_bind fin
theorem rQ {X:Cx} {pins:List (Addr × Obj)} {σ:St} {H:Hp} {s:Shared} {a:Addr} {y:V} {o:Option V} (I:Inv X pins σ H s) (g:xW H a y o):s.TypeIs (.ref a) "dict":=by
 rcases g with ⟨kvs,k,e,_,_⟩ | ⟨kvs,k,b,e,_,_,_⟩
 ·obtain⟨_,_,vs,_,dd⟩:=oQ I.hok e
  exact dd.typeIs
 ·obtain⟨_,_,xs,_,dd⟩:=uV I.hok e
  exact dd.typeIs
noncomputable def HQ (td ty:TE):TE:=λσ H Q=>td σ H λx H1=>ty σ H1 λy H2=>∃a v,x = .ref a/\xW H2 a y (some v)/\Q v H2
section
variable {X:Cx} {o i e value:Expr} {pos pos' tpos:Pos} {td ty tv:TE}
theorem BY (hu:X.A.units+1<cLine) (ho:PE X o td) (hi:PE X i ty) (hs:DQ i):PE X (.Subscript o i pos) (HQ td ty):=by
 intro pins s σ H Q I h
 refine CS PySem.F.slot_dict_getitem.lookup hs (thn (ho pins s σ H _ I h) λu s1 ⟨x,H1,I1,rx,q1⟩=>thn (hi pins s1 σ H1 _ I1 q1) λiv s2 ⟨y,H2,I2,ry,a,v,ex,g,q2⟩=>?_)
 subst ex
 obtain rfl:u=Value.ref a:=rx
 exact⟨rQ I2 g,wH hu I2 g ry λw' s3 I3 rw'=>⟨v,H2,I3,rw',q2⟩⟩
end
theorem yN {P:Program} {w:World} {H:Hp} (h:Heap) (hb:sysModules<h.objs.size):ObjOk P w H (h.push { cls:=.type "dict",data:=.dict #[] }) h.objs.size (.dK []) :=
 ⟨Nat.zero_le _,beq_eq_false_iff_ne.mpr (Ne.symm (Nat.ne_of_lt hb)),[],.nil,Heap.DictOf.new h⟩
noncomputable def FU:TE:=λ_ H Q=>∀p,H p=none->Q (.ref p) (upd H p (.dK []))
section
variable {X:Cx} {pos:Pos}
theorem zN:PE X (.Dict [] [] pos) FU:=λpins s σ H Q I h =>
 wpAny_Dict_empty ⟨.ref s.heap.objs.size,_,I.laid (a:=s.heap.objs.size) (o:=.dK []) (t':=s.toks) (λ_ _ q=>Heap.get?_push_of_some _ q) (Nat.le_refl _) (yN s.heap I.big),rfl,h _ (I.hok.fresh (Nat.le_refl _))⟩
end
noncomputable abbrev VV:List (V × V)->List (Value × Value)->Prop:=Paired λp q=>RelV p.1 q.1/\RelV p.2 q.2
structure M2 (X:Cx) (o:Expr) (m:Str) (apos:Pos) (e f:Expr) (cpos:Pos):Prop where
 base:attributeBase o m X.env (eval o X.env)=eval o X.env
 few:((backTo cpos (starEach [e,f] X.env)).all (λx=>!x.1) && (backToKw cpos (keywordEach [] X.env)).all (λx=>x.1.isSome)
  && decide (([e,f]:List Expr).length+([]:List Keyword).length+(if ([]:List Keyword).isEmpty then 0 else 1)<30))=true
 line:(apos.endLine == cpos.line)=true
 trees:backTo cpos (starEach [e,f] X.env)=[(false,eval e X.env),(false,eval f X.env)]
noncomputable def IsD (H:Hp) (a:Addr):Prop:=(∃kvs,Rd H a (.dK kvs))\/∃kvs,Rd H a (.dT kvs)
theorem EM {X:Cx} {pins:List (Addr × Obj)} {σ:St} {H:Hp} {s:Shared} {a:Addr} (I:Inv X pins σ H s) (d:IsD H a) :
  s.TypeIs (.ref a) "dict"/\(∀b,Value.ref a = .ref b->∃ob,s.heap.get? b=some ob/\ob.dict=none)/\(a == sysModules)=false:=by
 rcases d with ⟨kvs,e⟩ | ⟨kvs,e⟩
 ·obtain⟨_,hd,vs,_,dd⟩:=oQ I.hok e
  refine⟨dd.typeIs,λb q=>?_,hd⟩
  cases q
  obtain⟨ob,_,_,h1,h2,_⟩:=dd
  exact⟨ob,h1,h2.2.1⟩
 ·obtain⟨_,hd,xs,_,dd⟩:=uV I.hok e
  refine⟨dd.typeIs,λb q=>?_,hd⟩
  cases q
  obtain⟨ob,_,_,h1,h2,_⟩:=dd
  exact⟨ob,h1,h2.2.1⟩
section
variable {X:Cx} {pins:List (Addr × Obj)} {σ:St} {H:Hp} {s:Shared} {a:Addr} {y d:V} {u r:Value} {o:Option V} {A:Around} {E:Value->Shared->Prop}
theorem EA {Q:Value->Shared->Prop} (hu:A.units+1<cLine) (I:Inv X pins σ H s) (g:xW H a y o) (ry:RelV y u) (rd:RelV d r) (h:∀w' s',Inv X pins σ H s'->RelV (o.getD d) w'->Q w' s') :
  wpAny (model X.prog X.w) A (call (.builtin "dict.get") [.ref a,u,r]) Q E s:=by
 rcases g with ⟨kvs,k,e,ey,l⟩ | ⟨kvs,k,b,e,ey,eb,l⟩
 ·subst ey
  obtain⟨z,hd,vs,rel,dd⟩:=oQ I.hok e
  refine call_meetsIn PySem.F.slot_dict_get dd.typeIs PySem.F.entry_dict_get (PySem.F.args_dict_get_3 _ _ _) (meets_dict_get_default (bN X.prog X.w) a (vA ry) hd r) ⟨_,dd.mapOf,h _ _ (I.tok _) ?_⟩
  rw[l]
  exact (rel.val k).getD rd
 ·subst ey
  cases (show u=Value.ref b from ry)
  obtain⟨z,hd,xs,rel,dd⟩:=uV I.hok e
  refine call_meetsIn PySem.F.slot_dict_get dd.typeIs PySem.F.entry_dict_get (PySem.F.args_dict_get_3 _ _ _) (meetsH_dict_get_default (tupleKind (bN X.prog X.w)) a b hd r) ⟨tupleKind_room_in1 hu,k,xs,tN I.hok eb,dd,h _ _ (I.tok _) ?_⟩
  rw[l]
  exact (rel.val k).getD rd
end
noncomputable def FT (td ty tx:TE):TE:=λσ H Q=>td σ H λx H1=>∃a,x = .ref a/\IsD H1 a/\ty σ H1 λy H2=>tx σ H2 λz H3=>∃o,xW H3 a y o/\Q (o.getD z) H3
section
variable {X:Cx} {o e f:Expr} {apos cpos:Pos} {td ty tx:TE}
theorem zM (hu:X.A.units+1<cLine) (ho:PE X o td) (he:PE X e ty) (hf:PE X f tx) (m:M2 X o "get" apos e f cpos):PE X (.Call (.Attribute o "get" apos) [e,f] [] cpos) (FT td ty tx):=by
 intro pins s σ H Q I h
 refine wpAny_Call_method m.base m.few m.line PySem.F.plainAttrs_dict PySem.F.slot_dict_get PySem.F.type_dict_get (thn (ho pins s σ H _ I h) λu s1 ⟨x,H1,I1,rx,a,ex,d,q1⟩=>?_)
 subst ex
 obtain rfl:u=Value.ref a:=rx
 obtain⟨t1,t2,_⟩:=EM I1 d
 refine⟨t1,t2,?_⟩
 rw[m.trees]
 refine Calls.callWith_builtin rfl (Calls.evalArgs_plain (Calls.spliced_cons (thn (he pins s1 σ H1 _ I1 q1) λiv s2 ⟨y,H2,I2,ry,q2⟩ =>
  Calls.spliced_cons (thn (hf pins s2 σ H2 _ I2 q2) λfv s3 ⟨z,H3,I3,rz,ov,g,q3⟩=>Calls.spliced_nil ?_))))
 exact EA hu I3 g ry rz λw' s4 I4 rw'=>⟨_,H3,I4,rw',q3⟩
end
section
variable {X:Cx} {pins:List (Addr × Obj)} {σ:St} {H:Hp} {s:Shared} {a:Addr} {kvs:List (Key × V)} {A:Around} {E:Value->Shared->Prop}
end
section
variable {X:Cx} {pins:List (Addr × Obj)} {σ:St} {H:Hp} {s:Shared} {a:Addr} {y:V} {u:Value} {A:Around} {E:Value->Shared->Prop}
end
end L2
set_option Elab.async false
set_option linter.all false
set_option maxRecDepth 100000
namespace L2.R2
open PySem PySem.Spec PyProof.Rows L2
noncomputable def CJ:V->List V->Hp->VK->Prop:=λx vs H Q=>∃a kvs k y,x = .ref a/\vs=[kV k,y]/\H a=some (.dK kvs)/\kvs.length<sizeLine /\
 (∀v,dD kvs k=some v->Q v H)/\(dD kvs k=none->Q y (upd H a (.dK (kvs++[(k,y)]))))
section
variable {X:Cx}
theorem xB:MtR X "dict.setdefault" CJ:=by
 intro pins s σ H x vs v us Q I rx rv h
 obtain⟨a,kvs,k,y,rfl,rfl,hH,hz,h1,h2⟩:=h
 cases rx
 obtain⟨u,w,rfl,ru,rw'⟩:=rv.two
 obtain⟨z,hd,ws,rel,dd⟩:=GC I.hok hH
 have val:=rel.val k
 refine call_meetsIn PySem.F.slot_dict_setdefault dd.typeIs PySem.F.entry_dict_setdefault (PySem.F.args_dict_setdefault_3 _ _ _) (kt_meets_setdefault (bN X.prog X.w) a (vA ru) hd w)
  ⟨ws,dd,by rw[<-rel.length];exact z,λv hv=>?_,λhn h' dd' hs=>?_⟩
 ·rw[hv] at val
  cases e:dD kvs k with
  | none=>rw[e] at val;exact (show False from val).elim
  | some v'=>rw[e] at val;exact⟨v',H,I.tok _,val,h1 v' e⟩
 ·rw[hn] at val
  cases e:dD kvs k with
  | some _=>rw[e] at val;exact (show False from val).elim
  | none =>
   have he:∃q,h'.get? a=some q:=let ⟨q,_,_,hq,_⟩:=dd';⟨q,hq⟩
   have r2:=rel.put k rw'
   rw[zX y e] at r2
   exact⟨y,_,AW I (by rw[hH];exact True.intro) hs he (EG (by rw[List.length_append];exact hz) hd r2 dd'),rw',h2 e⟩
end
noncomputable def fW:List (Int × List D)->Int->List (Int × List D)
 | [],k=>[(k,[])]
 | (k',ds)::r,k=>if k'=k then (k',ds)::r else (k',ds)::fW r k
noncomputable def cY:List (Int × List D)->Int->D->List (Int × List D)
 | [],k,d=>[(k,[d])]
 | (k',ds)::r,k,d=>if k'=k then (k',ds++[d])::r else (k',ds)::cY r k d
section
variable {K:PySem.W.Frag} {H₀ H H':Hp} {kvs:List (Int × List D)} {kws:List (Key × V)} {as:List Addr} {k:Int}
theorem uC {v:V} (t:Dcl K H₀ H kvs kws as) (e:dD kws (Sum.inl k)=some v):fW kvs k=kvs:=by
 induction t with
 | nil=>cases e
 | @cons k' b vs ds kvs kws as h h0 r n t ih =>
  unfold fW
  by_cases hk:k'=k
  ·rw[if_pos hk]
  ·rw[if_neg hk,ih (by rw[cG (λz=>hk (by cases z;rfl))] at e;exact e)]
theorem Dcl.there {v:V} (t:Dcl K H₀ H kvs kws as) (e:dD kws (Sum.inl k)=some v):∃b vs ds,v = .ref b/\b∈as/\H b=some (.lst vs)/\Reps K H ds vs/\(∃p∈kvs,p.2=ds) /\
  ∀(H':Hp) (d:D) (w:V),Keep H H'->H' b=some (.lst (vs++[w]))->(∀a o,a∈as->a≠b->H a=some o->H' a=some o)->Rep K H' d w->Dcl K H₀ H' (cY kvs k d) kws as:=by
 induction t with
 | nil=>cases e
 | @cons k' b vs ds kvs kws as h h0 r n t ih =>
  by_cases hk:k'=k
  ·subst hk
   rw[dQ rfl] at e
   cases e
   refine⟨b,vs,ds,rfl,.head _,h,r,⟨_,.head _,rfl⟩,λH' d w kp hb ho rd=>?_⟩
   unfold cY
   rw[if_pos rfl]
   exact .cons hb h0 ((r.keep kp).append (.cons rd .nil)) n (t.keep kp λa m o e=>ho a o (.tail _ m) (by rintro rfl;exact n m) e)
  ·rw[cG (λz=>hk (by cases z;rfl))] at e
   obtain⟨c,us,es,e1,m,g1,g2,⟨p,pm,pe⟩,g3⟩:=ih e
   refine⟨c,us,es,e1,.tail _ m,g1,g2,⟨p,.tail _ pm,pe⟩,λH' d w kp hb ho rd=>?_⟩
   unfold cY
   rw[if_neg hk]
   exact .cons (ho b _ (.head _) (by rintro rfl;exact n m) h) h0 (r.keep kp) n (g3 H' d w kp hb (λa o q=>ho a o (.tail _ q)) rd)
theorem Dcl.fresh {p:Addr} (t:Dcl K H₀ H kvs kws as) (e:dD kws (Sum.inl k)=none) (kp:Keep H H') (ho:∀a o,a∈as->H a=some o->H' a=some o) (hp:H' p=some (.lst [])) (h0:H₀ p=none) (np:p ∉ as) :
  Dcl K H₀ H' (fW kvs k) (kws++[(Sum.inl k,.ref p)]) (as++[p]):=by
 induction t with
 | nil=>exact .cons hp h0 .nil (by simp) .nil
 | @cons k' b vs ds kvs kws as h h1 r n t ih =>
  have hk:¬k'=k:=λz=>by rw[dQ (by rw[z])] at e;cases e
  rw[cG (λz=>hk (by cases z;rfl))] at e
  unfold fW
  rw[if_neg hk]
  rw[List.mem_cons,not_or] at np
  exact .cons (ho b _ (.head _) h) h1 (r.keep kp) (λz=>(List.mem_append.mp (show b∈as++[p] from z)).elim n λz=>np.1 (List.mem_singleton.mp z).symm) (ih e (λa o q=>ho a o (.tail _ q)) np.2)
theorem xU {p:V} (t:Dcl K H₀ H kvs kws as) (e:dD kws (Sum.inl k)=none):dD (kws++[(Sum.inl k,p)]) (Sum.inl k)=some p:=by
 induction t with
 | nil=>exact dQ rfl
 | @cons k' b vs ds kvs kws as h h1 r n t ih =>
  have hk:¬(Sum.inl k':Key)=Sum.inl k:=λz=>by rw[dQ z] at e;cases e
  rw[cG hk] at e
  rw[List.cons_append,cG hk]
  exact ih e
theorem zY:∀(kvs:List (Int × List D)) (k:Int) (d:D),cY (fW kvs k) k d=cY kvs k d
 | [],k,d=>by simp[fW,cY]
 | (k',ds)::r,k,d=>by
  unfold fW
  by_cases hk:k'=k
  ·rw[if_pos hk]
  ·rw[if_neg hk];simp only[cY,if_neg hk];rw[zY r k d]
theorem sQ:∀(kvs:List (Int × List D)) (k:Int) {p:Int × List D},p∈fW kvs k->p∈kvs\/p.2=[]
 | [],k,p,h=>by rw[fW,List.mem_singleton] at h;subst h;exact .inr rfl
 | (k',ds)::r,k,p,h=>by
  unfold fW at h
  by_cases hk:k'=k
  ·rw[if_pos hk] at h;exact .inl h
  ·rw[if_neg hk] at h
   rcases List.mem_cons.mp h with h | h
   ·exact .inl (h ▸ .head _)
   ·exact (sQ r k h).imp (.tail _) id
theorem Dcl.len (t:Dcl K H₀ H kvs kws as):kvs.length=kws.length:=by
 induction t with
 | nil=>rfl
 | cons _ _ _ _ _ ih=>simp[ih]
end
section
variable {X:Cx} {e k:Expr} {pos pos' p apos cpos npos spos dpos lpos:Pos} {te tk:RE} {x:Str}
noncomputable def vK (i:Nat):RS:=λE ρ=>E.nx (ρ.set i (some (.dcl [])))
theorem BD {i:Nat} (hN:X.N.Nodup) (hi:X.N[i]? = some x:=by rfl) (hx:Loc X.env.scope x:=by walk_at "vis") (hs:swapsWith (.Dict [] [] p) (some (.Name x pos')) pos.line X.env=pure false:=by rfl)
  (hf:X.fn x=true\/X.env.scope.names.lookup x=some .local:=by walk_at "loc"):DS X (.Assign [.Name x pos'] (.Dict [] [] p) pos) (vK i) :=
 PS.mono (mV hN hi hx zN hs hf) λDe σ H hh=>bX hh λρ E st q n r b c=>λa ha=>by
  have sm:Same H (upd H a (.dK [])):=λb o h=>by rw[aF (aJ h ha)];exact h
  refine n _ _ _ q (.of sm) (st.put sm ⟨a,[],[],rfl,aM,st.same.free ha,.nil⟩ λc o=>?_)
  obtain⟨p,kws,e1,e2,e3⟩:=o
  cases e1
  rw[aM] at e2;cases e2
  rcases e3 with rfl | ⟨_,z⟩
  ·exact ha
  ·cases z
noncomputable def vJ (i:Nat) (tk te:RE):RS:=λE ρ=>match ρ[i]? with
 | some (some (.dcl kvs))=>tk ρ λkd=>match kd with
  | .int k=>Sz (kvs.length+1)/\te (ρ.set i (some (.dcl (fW kvs k)))) λd=>(∀p∈kvs,Sz (p.2.length+1))/\E.nx (ρ.set i (some (.dcl (cY kvs k d))))
  | _=>False
 | _=>False
theorem BC (i:Nat) (hk:DE X k tk) (he:DE X e te) (hN:X.N[i]? = some x:=by rfl) (hv:Vis X.env.scope x:=by walk_at "vis") (hd:(x == ("__debug__":Str))=false:=by decide) (hcd:(x == ("__classdict__":Str))=false:=by decide)
  (hbase:attributeBase (.Name x npos) "setdefault" X.env (eval (.Name x npos) X.env)=eval (.Name x npos) X.env:=by rfl)
  (hfew:((backTo dpos (starEach [k,.List [] lpos] X.env)).all (λx=>!x.1) && (backToKw dpos (keywordEach [] X.env)).all (λx=>x.1.isSome) && decide (([k,.List [] lpos]:List Expr).length+([]:List Keyword).length+(if ([]:List Keyword).isEmpty then 0 else 1)<30))=true:=by rfl)
  (hline:(spos.endLine == dpos.line)=true:=by rfl) (hs1:starEach [k,.List [] lpos] X.env=(false,eval k X.env)::starEach [.List [] lpos] X.env:=by rfl) (hs2:starEach [.List [] lpos] X.env=(false,eval (.List [] lpos) X.env)::starEach [] X.env:=by rfl)
  (hpl:(backTo dpos (starEach [.List [] lpos] X.env)).any (·.1)=false:=by rfl)
  (hbase':attributeBase (.Call (.Attribute (.Name x npos) "setdefault" spos) [k,.List [] lpos] [] dpos) "append" X.env (eval (.Call (.Attribute (.Name x npos) "setdefault" spos) [k,.List [] lpos] [] dpos) X.env)=eval (.Call (.Attribute (.Name x npos) "setdefault" spos) [k,.List [] lpos] [] dpos) X.env:=by rfl)
  (hfew':((backTo cpos (starEach [e] X.env)).all (λx=>!x.1) && (backToKw cpos (keywordEach [] X.env)).all (λx=>x.1.isSome) && decide (([e]:List Expr).length+([]:List Keyword).length+(if ([]:List Keyword).isEmpty then 0 else 1)<30))=true:=by rfl)
  (hline':(apos.endLine == cpos.line)=true:=by rfl) (hs:starEach [e] X.env=[(false,eval e X.env)]:=by rfl) (hn:starEach [] X.env=[]:=by rfl)
  (hsw:swapsWith (.Call (.Attribute (.Call (.Attribute (.Name x npos) "setdefault" spos) [k,.List [] lpos] [] dpos) "append" apos) [e] [] cpos) none pos.line X.env=pure false:=by rfl) :
  DS X (.Expr (.Call (.Attribute (.Call (.Attribute (.Name x npos) "setdefault" spos) [k,.List [] lpos] [] dpos) "append" apos) [e] [] cpos) pos) (vJ i tk te):=by
 have inner:=mT (apos:=spos) (cpos:=dpos) PySem.F.plainAttrs_dict PySem.F.slot_dict_setdefault PySem.F.type_dict_setdefault xB (pv (pos:=npos) i hN hv hd hcd) (cC hk (cC (mU (pos:=lpos) eU) eU hs2) hs1) hbase hfew hline hs1 hpl
 refine PS.mono (jY (mT PySem.F.plainAttrs_list PySem.F.slot_list_append PySem.F.type_list_append iC inner (dS he hs hn) hbase' hfew' hline' (by rw[hs,hn]) (by rw[hn];rfl)) hsw) λDe σ H hh=>bX hh λρ E so q n r bk ct=>?_
 unfold vJ at q
 split at q
 ·rename_i kvs ex
  obtain⟨v,h1,a,kws,as,ev,ha,h0,t⟩:=so.rel i _ ex
  subst ev
  refine⟨.ref a,h1,.inr (.inr (.inl ⟨rfl,.inl ⟨kws,ha⟩⟩)),ρ,_,so,q,λkd kv H1 hkd s1 rk=>?_⟩
  cases kd with
  | int k =>
   obtain⟨z1,q1⟩:=hkd
   have z1:kvs.length+1<=sizeLine:=z1.ok
   rw[rk.int_inv]
   have so1:=so.ext s1
   have ha1:=s1 _ _ ha
   have t1:Dcl X.K X.H₀ H1 kvs kws as:=t.keep (.of s1) λc _ o=>s1 c o
   refine⟨Nat.zero_le _,λp hp=>?_⟩
   have sm2:Same H1 (upd H1 p (.lst [])):=λb o h=>by rw[aF (aJ h hp)];exact h
   have kl:=t1.len
   have go:∀(b:Addr) (H2:Hp) (kws2:List (Key × V)),StOk X (ρ.set i (some (.dcl (fW kvs k)))) σ H2->H2 a=some (.dK kws2)->dD kws2 (Sum.inl k)=some (.ref b)->Keep H H2 ->
     tyV X.K "list" (.ref b) H2/\zC X te σ H2 λw H3=>vG (.ref b) [w] H3 λ_ H4=>De.nx σ H4:=λb H2 kws2 so2 ha2 hv2 kp2=>by
    have e2:(ρ.set i (some (.dcl (fW kvs k))))[i]? = some (some (.dcl (fW kvs k))):=List.getElem?_set_self (List.getElem?_eq_some_iff.mp ex).1
    obtain⟨v2,g1,a',kws',as2,ev2,ha',g0,t2⟩:=so2.rel i _ e2
    rw[h1] at g1;cases g1;cases ev2
    rw[ha2] at ha';cases ha'
    obtain⟨b',us,ds',eb,_,hb,_,_,_⟩:=t2.there hv2
    cases eb
    refine⟨.inl ⟨rfl,us,SqL.of hb⟩,_,_,so2,q1,λd w H3 ⟨z2,hd⟩ s3 rd=>?_⟩
    have t3:Dcl X.K X.H₀ H3 (fW kvs k) kws2 as2:=t2.keep (.of s3) λc _ o=>s3 c o
    obtain⟨b',us3,ds3,eb,mb,hb3,rb3,⟨pp,pm,pe⟩,fin⟩:=t3.there hv2
    cases eb
    have ha3:=s3 _ _ ha2
    have ne:a≠b:=by rintro rfl;rw[ha3] at hb3;cases hb3
    have sz:us3.length<sizeLine:=by
     rw[<-rb3.length,<-pe]
     rcases sQ kvs k pm with h | h
     ·exact (z2 pp h).ok
     ·rw[h];exact Nat.lt_of_lt_of_le (Nat.succ_pos _) z1
    refine⟨b,us3,w,rfl,rfl,hb3,sz,?_⟩
    have kpU:Keep H3 (upd H3 b (.lst (us3++[w]))):=⟨λc ys h=>by rw[aF (dA h hb3 (by intro z;cases z))];exact h,λc o u h=>by rw[aF (dA h hb3 (by intro z;cases z))];exact h⟩
    have ow:∀c,Ow H3 (.dcl (fW kvs k)) (.ref a) c↔(c=a\/∃k,(k,V.ref c)∈kws2):=λc=>⟨λ⟨p',kw',e1,e2,e3⟩=>by cases e1;rw[ha3] at e2;cases e2;exact e3,λh=>⟨a,kws2,rfl,ha3,h⟩⟩
    have haU:upd H3 b (.lst (us3++[w])) a=some (.dK kws2):=by rw[aF ne];exact ha3
    obtain⟨so4,k4⟩:=(so2.ext s3).updW (x':=.dcl (cY kvs k d)) (v':=.ref a) e2 h1 (H':=upd H3 b (.lst (us3++[w])))
     (λc o h w'=>by rw[aF (by rintro rfl;exact w' ((ow _).mpr (.inr (t3.mem.mp mb))))];exact h)
     ⟨a,kws2,as2,rfl,haU,h0,by
      rw[<-zY]
      exact fin _ d w kpU aM (λc o _ nc h=>by rw[aF nc];exact h) (rd.keep kpU)⟩
     (λc o=>.inl ((ow c).mpr (by
      obtain⟨p',kw',e1,e2,e3⟩:=o
      cases e1;rw[haU] at e2;cases e2;exact e3)))
    rw[bR h1,List.set_set] at so4
    exact n _ _ _ hd ((kp2.trans (.of s3)).trans k4) so4
   refine⟨a,kws,Sum.inl k,.ref p,rfl,rfl,sm2 _ _ ha1,by omega,λv hv=>?_,λhv=>?_⟩
   ·obtain⟨b,_,_,eb,_⟩:=t1.there hv
    subst eb
    refine go b _ kws ?_ (sm2 _ _ ha1) hv (.of (s1.trans sm2))
    rw[uC t1 hv,bR ex]
    exact so1.ext sm2
   ·have pa:p≠a:=by rintro rfl;rw[hp] at ha1;cases ha1
    have np:p ∉ as:=λm=>by obtain⟨_,us,q'⟩:=t1.at m;rw[hp] at q';cases q'
    have ow:∀c,Ow H1 (.dcl kvs) (.ref a) c↔(c=a\/∃k,(k,V.ref c)∈kws):=λc=>⟨λ⟨p',kw',e1,e2,e3⟩=>by cases e1;rw[ha1] at e2;cases e2;exact e3,λh=>⟨a,kws,rfl,ha1,h⟩⟩
    have st1:∀c o,c≠a->H1 c=some o->upd (upd H1 p (.lst [])) a (.dK (kws++[(Sum.inl k,.ref p)])) c=some o:=λc o nc h=>by rw[aF nc];exact sm2 c o h
    have kpU:Keep H1 (upd (upd H1 p (.lst [])) a (.dK (kws++[(Sum.inl k,.ref p)]))):=⟨λc ys h=>st1 c _ (by rintro rfl;rw[ha1] at h;cases h) h,λc o u h=>st1 c _ (by rintro rfl;rw[ha1] at h;cases h) h⟩
    obtain⟨so2,k2⟩:=so1.updW (x':=.dcl (fW kvs k)) (v':=.ref a) ex h1 (H':=upd (upd H1 p (.lst [])) a (.dK (kws++[(Sum.inl k,.ref p)])))
     (λc o h w'=>st1 c o (by rintro rfl;exact w' ((ow _).mpr (.inl rfl))) h)
     ⟨a,_,_,rfl,aM,h0,t1.fresh hv kpU (λc o m h=>st1 c o (by rintro rfl;obtain⟨_,us,q'⟩:=t1.at m;rw[ha1] at q';cases q') h) (by rw[aF pa];exact aM) (so1.same.free hp) np⟩
     (λc o=>by
      obtain⟨p',kw',e1,e2,e3⟩:=o
      cases e1;rw[aM] at e2;cases e2
      rcases e3 with rfl | ⟨k',m⟩
      ·exact .inl ((ow _).mpr (.inl rfl))
      ·rcases List.mem_append.mp m with m | m
       ·exact .inl ((ow _).mpr (.inr ⟨k',m⟩))
       ·rw[List.mem_singleton] at m;cases m;exact .inr hp)
    rw[bR h1] at so2
    exact go p _ _ so2 aM (xU t1 hv) ((Keep.of s1).trans k2)
  | _=>exact hkd.elim
 ·exact q.elim
noncomputable def dL:List Int->List D->Int->Option D
 | k'::ks,d::ds,k=>if k'=k then some d else dL ks ds k
 | _,_,_=>none
noncomputable def wF:R22:=λx y Q=>match x,y with
 | .dct ks ds,.int k=>∃d,dL ks ds k=some d/\Q d
 | _,_=>False
theorem tJ {K:PySem.W.Frag} {H:Hp} {k:Int}:∀{ks:List Int} {ds:List D} {vs:List V} {d:D},Reps K H ds vs->dL ks ds k=some d->∃v,dD (dM ks vs) (Sum.inl k)=some v/\Rep K H d v
 | [],_,_,_,_,e=>by simp[dL] at e
 | k'::ks,_,_,_,.nil,e=>by simp[dL] at e
 | k'::ks,_,_,d,.cons (v:=v) (vs:=vs) h t,e=>by
  unfold dL at e
  by_cases hk:k'=k
  ·rw[if_pos hk] at e;cases e
   exact⟨v,dQ (by rw[hk]),h⟩
  ·rw[if_neg hk] at e
   obtain⟨u,g1,g2⟩:=tJ t e
   exact⟨u,by show dD ((Sum.inl k',v)::dM ks vs) _=_;rw[cG (λz=>hk (by cases z;rfl))];exact g1,g2⟩
theorem yK {kk:Nat} {a b:Expr} {ta tb:RE} (hr:Room kk X.A) (ha:DE X a ta) (hb:DE X b tb) (hs:DQ b:=by intro _ _;rfl):DE X (.Subscript a b pos) (r2 wF ta tb):=by
 refine PE.mono (BY (by have:=hr.un;omega) ha hb hs) λσ H Q h=>?_
 obtain⟨ρ,P,st,ht,hP⟩:=h
 refine⟨ρ,_,st,ht,λx v H1 h1 s1 r1=>⟨ρ,_,st.ext s1,h1,λy u H2 h2 s2 r2=>?_⟩⟩
 unfold wF at h2
 split at h2
 ·rename_i ks ds k
  obtain⟨d,e,h2⟩:=h2
  rw[r2.int_inv]
  have r1':=Rep.keep (.of s2) r1
  cases r1' with
  | @dct a vs _ _ o hh hl rr =>
   obtain⟨w,g1,g2⟩:=tJ rr e
   exact⟨a,w,rfl,.inl ⟨_,Sum.inl k,.inr ⟨o,hh⟩,rfl,g1.symm⟩,hP d w H2 h2 (s1.trans s2) g2⟩
 ·exact h2.elim
end
end L2.R2
set_option Elab.async false
set_option linter.all false
set_option maxRecDepth 100000
set_option maxHeartbeats 1000000
namespace L2.R2
open PySem PySem.Spec PyProof.Rows L2 PySem.W
theorem fG:∀{ns:List Int} {us:List Value},IntsAre us ns->Vals (ns.map V.int) us
 | [],[],_=>.nil
 | n::ns,u::us,h=>by
  cases h with
  | cons _ t h=>exact .cons ⟨_,rfl⟩ (fG h)
theorem wS (ks:List Int) (vs:List V):(dM ks vs).length=min ks.length vs.length:=List.length_zipWith
theorem pH {P:Program} {w:World}:∀(ks:List Int) (vs:List V) (ws:List (Key × Value)),ks.length=vs.length->KV (dM ks vs) ws->∀us:List Value,us.length=ks.length ->
  (∀(j:Nat) (v:Value),us[j]? = some v->∃k x,ws[j]? = some (k,x)/\(bN P w).is k v=true)->Vals (ks.map V.int) us
 | [],_,_,_,_,us,h,_=>by rw[List.length_eq_zero_iff.mp h];exact .nil
 | k::ks,[],_,h,_,_,_,_=>by cases h
 | k::ks,v::vs,ws,hl,r,us,h,q=>by
  cases us with
  | nil=>cases h
  | cons u us =>
   cases r with
   | @cons _ b _ bs h1 t =>
    refine .cons ?_ (pH ks vs bs (by simpa using hl) t us (by simpa using h) λj v e=>q (j+1) v (by simpa using e))
    obtain⟨k',x,e,i⟩:=q 0 u rfl
    cases e
    rw[<-show (Sum.inl k:Key)=k' from h1.1] at i
    rcases bH (show mM (Sum.inl k) u=true from i) with ⟨i',t',e1,e2⟩ | ⟨y,t',e1,e2⟩
    ·cases e1;exact⟨t',e2⟩
    ·cases e1
noncomputable def nD (te:RE):RA:=λρ Q=>te ρ λx=>∃ns:List Int,x = .lst (ns.map .int)/\ns.length<64/\∀ms:List Int,ms.Perm ns->ms.Pairwise (·<=·)->Q (ms.map .int)
noncomputable def IL (te:RE):RA:=λρ Q=>te ρ λx=>∃nss:List (List Int),x = .lst (nss.map fO)/\nss.length<64/\(∀ns∈nss,ns≠[])/\∀mss:List (List Int),mss.Perm nss->mss.Pairwise (λx y=>GN y x=false)->Q (mss.map fO)
noncomputable def nB (te:RE):RA:=λρ Q=>te ρ λx=>∃(ks:List Int) (ds:List D),x = .dct ks ds/\ks.length=ds.length/\Q (ks.map .int)
section
variable {X:Cx} {e:Expr} {te:RE} {p pos:Pos}
theorem rT (hms:X.mg "sorted" = none) (h:DB X e te) (hgs:Gl X "sorted":=by rfl) (hs:starEach [e] X.env=[(false,eval e X.env)]:=by rfl) (hn:starEach [] X.env=[]:=by rfl) :
  DO X (.Call (.Name "sorted" p) [e] [] pos) (nD te):=by
 intro pins s σ H Q I hh_0
 obtain⟨ρ,P,st,q,kq⟩:=hh_0
 refine wpAny_Call_Name_kw (gP I hgs hms rG ?_)
 refine PyProof.Rows.callWith_builtin1 (thn (dS h hs hn pos pins s σ H (λvs H1=>∃(ns:List Int) (v:V),vs=[v]/\Same H H1/\RepB X.K H1 (.lst (ns.map .int)) v/\ns.length<64/\∀ms:List Int,ms.Perm ns->ms.Pairwise (·<=·)->P (ms.map .int)) I
  ⟨ρ,_,st,q,λx v H1 hx s1 r1=>?_⟩) λus s1 ⟨vs,H1,I1,r1,q1⟩=>?_) (by rw[hs,hn]) (by rw[hn];rfl)
 ·obtain⟨ns,rfl,a1,a2⟩:=hx
  exact⟨ns,v,rfl,s1,r1,a1,a2⟩
 obtain⟨ns,v,rfl,s01,rb,h64,hP⟩:=q1
 obtain⟨l,vs,rfl,hq,rr⟩:=rb.lst
 obtain⟨u,rfl,rx⟩:=lJ r1
 cases rx
 obtain⟨its,rv,pl,hz⟩:=I1.list hq
 have l2:=rv.length
 rw[rr.ints_inv] at rv l2
 rw[List.length_map] at l2
 refine sorted_ints pl.isList (eG rv) (by omega) λout ms a1 a2 a3=>?_
 obtain⟨c,he⟩:=sortedAll_at s1.heap its out
 have VV:=fG a1
 have lw:ms.length=ns.length:=a2.length_eq
 have I4:=I1.laid (a:=s1.heap.objs.size+1) (o:=.lst (ms.map V.int)) (h':=sortedAll s1.heap its out) (t':=s1.toks) (λb o=>sortedAll_old) (Nat.le_succ _) ⟨by rw[List.length_map,sizeLine_eq];omega,out.toList,c,VV,by simpa using he⟩
 exact⟨.ref (s1.heap.objs.size+1),_,I4,rfl,kq _ _ _ H1 (hP ms a2 a3) s01 (I1.hok.fresh (Nat.le_succ _)) Reps.ints⟩
theorem rS (hml:X.mg "list" = none) (hc:X.calm=true) (h:DE X e te) (hgl:Gl X "list":=by rfl) (hs:starEach [e] X.env=[(false,eval e X.env)]:=by rfl) (hn:starEach [] X.env=[]:=by rfl) :
  DO X (.Call (.Name "list" p) [e] [] pos) (nB te):=by
 intro pins s σ H Q I hh_0
 obtain⟨ρ,P,st,q,kq⟩:=hh_0
 refine wpAny_Call_Name_kw (gP I hgl hml oN ?_)
 refine PyProof.Rows.callWith_type1 (thn (dS h hs hn pos pins s σ H (λvs H1=>∃(ks:List Int) (ds:List D) (v:V),vs=[v]/\Same H H1/\Rep X.K H1 (.dct ks ds) v/\P (ks.map .int)) I
  ⟨ρ,_,st,q,λx v H1 hx s1 r1=>?_⟩) λus s1 ⟨vs,H1,I1,r1,q1⟩=>?_) (by rw[hs,hn]) (by rw[hn];rfl)
 ·obtain⟨ks,ds,rfl,a1,a2⟩:=hx
  exact⟨ks,ds,v,rfl,s1,r1,a2⟩
 obtain⟨ks,ds,v,rfl,s01,rd,hP⟩:=q1
 obtain⟨u,rfl,rx⟩:=lJ r1
 cases rd with
 | @dct a vs _ _ o ha hl rr =>
  cases rx
  obtain⟨z,hd,ws,rel,dd⟩:=oQ I1.hok (.inr ⟨o,ha⟩)
  have le:=rel.length
  obtain⟨ep,da⟩:=dd.dictAt
  refine kdl_call (kdl_dict (knd:=bN X.prog X.w) (kvs:=ws) (ep:=ep) hd) (I1.ok.hd hc) da (by rw[<-le];exact z) λh' tk acc c kp g1 it=>?_
  have lk:ks.length=ws.length:=by rw[<-le,wS,<-hl,Nat.min_self]
  have VV:Vals (ks.map V.int) acc.toList:=pH ks vs ws hl rel acc.toList (by rw[Array.length_toList,it.1];exact lk.symm) λj v e=>it.2 j v (by simpa using e)
  have I4:=I1.laid (a:=s1.heap.objs.size) (o:=.lst (ks.map V.int)) (h':=h') (t':=tk) kp (Nat.le_refl _) ⟨by rw[List.length_map,lk,<-le];exact z,acc.toList,c,VV,by simpa using g1⟩
  exact⟨.ref s1.heap.objs.size,_,I4,rfl,kq _ _ _ H1 hP s01 (I1.hok.fresh (Nat.le_refl _)) Reps.ints⟩
end
end L2.R2
set_option Elab.async false
set_option linter.all false
set_option maxRecDepth 100000
set_option maxHeartbeats 1000000
namespace L2.R2
open PySem PySem.Spec PyProof.Rows L2
theorem lN (l:Addr) (items:Array Value) (n:Nat) (b:Addr) (items2:Array Value) (n2:Nat) (sl:Array (Option Value)) (hc0:¬(!items.isEmpty && Builtin.List.listTooLong (items.size+items2.size))=true) (hc1:items.size<=sizeLine) (hs2:items.size+items2.size<=sizeLine+1) :
  Meets (Builtin.«list.extend» ⟨[.ref l,.ref b],[]⟩) (λ_ R s=>s.heap.get? l=some { cls:=.type "list",dict:=none,data:=.seq items n,slots:=#[] }/\s.heap.get? b=some { cls:=.type "list",dict:=none,data:=.seq items2 n2,slots:=sl }/\R (.ok (.ret Value.none)) { s with heap:=s.heap.update l (Obj.mapSeq λx=>x++items2),toks:=s.toks }) :=
 .of_wp λprog w A R s h=>by
  obtain⟨hp,g,d,tk,os⟩:=s;obtain⟨hl,hb,h⟩:=h
  have hz':(items++items2).size<=sizeLine+1:=by rw[Array.size_append];exact hs2
  wp_walk using (wpAny_updateSeq hl rfl (hz:=hc1) (_hz':=hz')),wpAny_loadPart' hl,wpAny_loadPart' hb;exact⟨_,rfl,h⟩
noncomputable def AA (K:PySem.W.Frag):V->List V->Hp->VK->Prop:=λx vs H Q=>∃l b xs zs,x = .ref l/\vs=[.ref b]/\H l=some (.lst xs)/\SqL K H b zs/\xs.length+zs.length<=sizeLine/\Q .non (upd H l (.lst (xs++zs)))
section
variable {X:Cx} {e:Expr} {pos apos cpos npos p2 p3 p4:Pos} {te:RE} {x:Str}
theorem tU:MtM X "list.extend" (AA X.K):=by
 intro pins s σ H x vs v us Q I rx rv h
 obtain⟨l,b,xs,zs,rfl,rfl,hH,hB,hz,q⟩:=h
 cases rx
 obtain⟨u,rfl,ru⟩:=rv.one
 cases ru
 obtain⟨z,its,n,r,hl,e⟩:=I.lstM hH
 obtain⟨its2,r2,pl,z2⟩:=I.list hB
 have hl2:=r2.length
 obtain⟨o,n2,e2,c1,c2,c3⟩:=pl
 obtain⟨oc,od,oda,osl⟩:=o
 dsimp only at c1 c2 c3
 subst c1 c2 c3
 have hsz:its.toArray.size+its2.toArray.size<=sizeLine:=by rw[List.size_toArray,List.size_toArray];omega
 have hlong:¬(!its.toArray.isEmpty && Builtin.List.listTooLong (its.toArray.size+its2.toArray.size))=true:=by
  rw[zE hsz,Bool.and_false]
  exact Bool.false_ne_true
 refine call_meets F.slot_list_extend ⟨_,e,rfl⟩ F.entry_list_extend (F.args_list_extend_2 _ _)
  (lN l its.toArray n b its2.toArray n2 osl hlong (by rw[List.size_toArray];omega) (by omega)) ⟨e,e2,?_⟩
 refine⟨.non,_,I.lset (its':=its++its2) hH e (by simp) (r.append r2) ?_,rfl,q⟩
 rw[List.length_append]
 omega
noncomputable def pB (i:Nat) (te:RE):RS:=λE ρ=>match ρ[i]? with
 | some (some (.own xs))=>te ρ λd=>match d with
  | .lst ys=>Sz (xs.length+ys.length)/\E.nx (ρ.set i (some (.own (xs++ys))))
  | _=>False
 | _=>False
theorem wJ (i:Nat) (he:DE X e te) (hN:X.N[i]? = some x:=by rfl) (hv:Vis X.env.scope x:=by walk_at "vis") (hd:(x == ("__debug__":Str))=false:=by decide) (hcd:(x == ("__classdict__":Str))=false:=by decide)
  (hbase:attributeBase (.Name x npos) "extend" X.env (eval (.Name x npos) X.env)=eval (.Name x npos) X.env:=by rfl)
  (hfew:((backTo cpos (starEach [e] X.env)).all (λx=>!x.1) && (backToKw cpos (keywordEach [] X.env)).all (λx=>x.1.isSome) && decide (([e]:List Expr).length+([]:List Keyword).length+(if ([]:List Keyword).isEmpty then 0 else 1)<30))=true:=by rfl)
  (hline:(apos.endLine == cpos.line)=true:=by rfl) (hs:starEach [e] X.env=[(false,eval e X.env)]:=by rfl) (hn:starEach [] X.env=[]:=by rfl) (hsw:swapsWith (.Call (.Attribute (.Name x npos) "extend" apos) [e] [] cpos) none pos.line X.env=pure false:=by rfl) :
  DS X (.Expr (.Call (.Attribute (.Name x npos) "extend" apos) [e] [] cpos) pos) (pB i te):=by
 refine PS.mono (jY (mT PySem.F.plainAttrs_list PySem.F.slot_list_extend PySem.F.type_list_extend tU (pv i hN hv hd hcd) (dS he hs hn) hbase hfew hline (by rw[hs,hn]) (by rw[hn];rfl)) hsw) λDe σ H hh=>bX hh λρ E so q n r bk ct=>?_
 unfold pB at q
 split at q
 ·rename_i xs ex
  obtain⟨v,h1,p,vs,ev,hp,h0,rr⟩:=so.rel i _ ex
  subst ev
  refine⟨.ref p,h1,.inl ⟨rfl,vs,SqL.of hp⟩,ρ,_,so,q,λd v H1 hd s1 rd=>?_⟩
  have hp1:=s1 _ _ hp
  cases d with
  | lst ys =>
   cases rd with
   | @lst b us _ hz rd =>
    obtain⟨so2,k2⟩:=(so.ext s1).upd_own ex h1 hp1 h0 ((rr.keep (.of s1)).append rd)
    have hsz:xs.length+ys.length<=sizeLine:=hd.1.ok
    exact⟨p,b,vs,us,rfl,rfl,hp1,hz.sq,by rw[<-rr.length,<-rd.length];exact hsz,n _ _ _ hd.2 ((Keep.of s1).trans k2) so2⟩
  | _=>exact hd.elim
 ·exact q.elim
noncomputable def alt {α:Type}:List α->List α
 | []=>[]
 | [x]=>[x]
 | x::_::r=>x::alt r
noncomputable def rAlt (k:Nat) (te:RE):RA:=λρ Q=>te ρ λx=>match x with
 | .lst ds=>Q (alt (ds.drop k))
 | _=>False
end
section
variable {X:Cx} {tg:Expr}
noncomputable def riFar (t:RA):RA:=λρ Q=>t ρ λds=>match ds with
 | [.int i,.int j]=>Q (dW i (j-i).toNat)
 | _=>False
noncomputable def CY:R22:=λx y Q=>match x,y with
 | .bl a,.bl b=>Q (.int ((if a then 1 else 0)-(if b then 1 else 0)))
 | _,_=>False
end
end L2.R2
set_option Elab.async false
set_option linter.all false
set_option maxRecDepth 100000
set_option maxHeartbeats 1000000
namespace HT
open PySem PyProof.Rows
section
open PySem.SeqAt
open PySem.AutoSeq1 (wpAny_loadPart')
open PySem.MeetsSeq PySem.MeetsSeq2 PySem.MeetsSeq3
end
section
variable {prog:Program} {w:World} {A:Around} {E:Value->Shared->Prop} {s:Shared}
end
end HT
namespace L2.R2
open PySem PySem.Spec PyProof.Rows L2
section
variable {prog:Program} {w:World} {A:Around} {E:Value->Shared->Prop} {s:Shared}
end
section
variable {X:Cx}
noncomputable def IB:List D->(D->Prop)->Prop:=λds Q=>∃ns ms,ds=[fO ns,fO ms]/\Q (fO (if HT.lexLt ms ns=true then ms else ns))
noncomputable def IA:List D->(D->Prop)->Prop:=λds Q=>∃ns ms,ds=[fO ns,fO ms]/\Q (fO (if HT.lexLt ns ms=true then ms else ns))
end
section
variable {X:Cx} {pins:List (Addr × Obj)} {σ:St} {H:Hp} {s:Shared}
theorem Inv.thaw {a:Addr} {xs:List V} {o:Obj} (I:Inv X pins σ H s) (h:H a=some (.frz o (.lst xs))) (h0:X.H₀ a=none):Inv X pins σ (upd H a (.lst xs)) s:=by
 have nn:∀b,H b=none->upd H a (.lst xs) b=none:=λb q=>by rw[aF (by rintro rfl;rw[h] at q;cases q)];exact q
 have ne0:∀b u,X.H₀ b=some u->b≠a:=λb u q z=>by subst z;rw[h0] at q;cases q
 refine⟨I.ok,I.os,I.bare,⟨I.base.keep,I.base.slot,λb o q n x=>nn b (I.base.free b o q n x),I.base.there,λb ys q=>?_,λb o u q=>?_,λb ps q=>?_⟩,I.loc,I.cell,nn _ I.free,λx c e=>nn _ (I.freeC x c e),λp hp=>?_,λb u q=>?_,I.len⟩
 ·rw[aF (ne0 b _ q)];exact I.base.tups b ys q
 ·rw[aF (ne0 b _ q)];exact I.base.frzs b o u q
 ·rw[aF (ne0 b _ q)];exact I.base.tbls b ps q
 ·obtain⟨p1,p2,p3⟩:=I.pin p hp
  exact⟨p1,nn _ p2,p3⟩
 ·have st:∀{b:Addr} {u:HO},ObjOk X.prog X.w H s.heap b u->ObjOk X.prog X.w (upd H a (.lst xs)) s.heap b u:=λ{b u} q =>
   q.stay (λc v _ w=>w) (λc w=>by rw[aF (by rintro rfl;rw[h] at w;cases w)];exact w) λc ys w=>by rw[aF (by rintro rfl;rw[h] at w;cases w)];exact w
  by_cases hb:b=a
  ·subst hb
   rw[aM] at q;cases q
   exact st (show ObjOk X.prog X.w H s.heap b (.frz o (.lst xs)) from I.hok b _ h).2
  ·rw[aF hb] at q
   exact st (I.hok b u q)
end
section
variable {X:Cx} {e:Expr} {t:RT}
noncomputable def lend (i:Nat) (ρ:En):En:=match ρ[i]? with
 | some (some (.own ds))=>ρ.set i (some (.d (.lst ds)))
 | _=>ρ
end
noncomputable def mQ (X:Cx) (t:RS):TS:=λDe σ H=>∃ρ E,StOk X ρ σ H/\t E ρ/\(∀ρ,¬E.nx ρ)/\(∀xs p vs H',E.rt (.lst xs)->Keep H H'->Same X.H₀ H'->X.H₀ p=none->H' p=some (.lst vs)->Reps X.K H' xs vs->De.rt (.ref p) H')
noncomputable def kA (t u:RS):RS:=λE ρ=>t { nx:=u E,rt:=λ_=>False } ρ
noncomputable def vO (i:Nat):RS:=λE ρ=>match ρ[i]? with
 | some (some (.own xs))=>E.rt (.lst xs)
 | _=>False
section
variable {X:Cx} {st:Stmt} {rest:List Stmt} {t u:RS} {x:Str} {p pos:Pos}
theorem oT (h1:DS X st t) (h2:PSs X rest (mQ X u)):PSs X (st::rest) (mQ X (kA t u)) :=
 PSs.mono (mW h1 h2) λDe σ H ⟨ρ,E,so,q,n,r⟩=>by
  refine⟨ρ,_,so,q,λρ' σ' H' hq k s'=>⟨ρ',E,s',hq,n,λxs p vs H2 e k2 s2=>r xs p vs H2 e (k.trans k2) s2⟩,λ_ _ _ z=>z.elim,λ_ _ _ z=>z.elim,λ_ _ _ z=>z.elim⟩
theorem wL (i:Nat) (hN:X.N[i]? = some x:=by rfl) (hv:Vis X.env.scope x:=by walk_at "vis") (hd:(x == ("__debug__":Str))=false:=by decide)
  (hcd:(x == ("__classdict__":Str))=false:=by decide):PSs X [.Return (some (.Name x p)) pos] (mQ X (vO i)) :=
 PSs.mono (lY (tY (pv i hN hv hd hcd))) λDe σ H ⟨ρ,E,so,q,n,r⟩=>by
  unfold vO at q
  split at q
  ·rename_i xs ex
   obtain⟨v,h1,a,vs,rfl,ha,h0,rr⟩:=so.rel i _ ex
   exact⟨_,h1,r xs a vs H q (Keep.refl H) so.same h0 ha rr⟩
  ·exact q.elim
end
noncomputable def spO (K:PySem.W.Frag) (F:FD):Sp:=λvs H Q _=>∃ds P,Reps K H ds vs/\F ds P/\∀xs p us H1,P (.lst xs)->Same H H1->H1 p=none->Reps K H1 xs us->Q (.ref p) (upd H1 p (.lst us))
structure FnAtO (P:Program) (w:World) (K:PySem.W.Frag) (mg:Str->Option Value) (base:Heap) (x:Str) (ps:List Str) (k:Nat) (F:FD):Prop where
 ex:∃f fd,FnOk P w K mg base CX0 k f fd ps (spO K F)/\Binds K fd ps []/\PySem.W.keepIn K (.ref f)=true/\mg x=some (.ref f)
section
variable {P:Program} {w:World} {K:PySem.W.Frag} {mg:Str->Option Value} {base:Heap}
theorem DefAt.okO {x:Str} {st:Stmt} {N ps:List Str} {k:Nat} {F:FD} {t:RS} (Z:DefAt K mg x st ps) (Sc:FnScope N ps (aC st))
  (hbody:∀{f:Addr} (cdv:Value) (A:Around) (outer:List Env) (s:Shared) (H:Hp) (E:XK),Room k (A.deeper (envOfC x (aC st) s.heap.objs.size f cdv)) ->
   PSs (bV CX0 P w K mg base N x (aC st) f cdv A outer s H E).nox (aL st) (mQ (bV CX0 P w K mg base N x (aC st) f cdv A outer s H E).nox t))
  (len:∀ds Q,F ds Q->ds.length=ps.length) (pure:∀ds Q,F ds Q->t { nx:=λ_=>False,rt:=Q } (aP N ds)):FnAtO P w K mg base x ps (k+1) F:=by
 obtain⟨f,fd,a,b,c⟩:=Z.ex
 refine⟨f,fd,?_,.all c,a.kp,b⟩
 refine a.ok Sc (λvs H Q E ⟨ds,P',r,h,_⟩=>by rw[<-r.length];exact len ds P' h) λcdv A outer s H vs Q E hr ⟨ds,P',r,h,kk⟩=>⟨_,hbody cdv A outer s H E hr,?_⟩
 refine⟨aP N ds,_,nH (X:=(bV CX0 P w K mg base N x (aC st) f cdv A outer s H E).nox) r,pure ds P' h,λ_ z=>z,λxs p us H' hq kp sm h0 hp rr=>?_⟩
 have e:H'=upd (λa=>if a=p then none else H' a) p (.lst us):=by
  funext a
  by_cases ha:a=p
  ·subst ha;rw[aM,hp]
  ·rw[aF ha,if_neg ha]
 have kp2:Keep H' (λa=>if a=p then none else H' a):=⟨λb ys q=>by rw[if_neg (by rintro rfl;rw[hp] at q;cases q)];exact q,λb o u q=>by rw[if_neg (by rintro rfl;rw[hp] at q;cases q)];exact q⟩
 have sm':Same H H':=sm
 have h0':H p=none:=h0
 have:=kk xs p us (λa=>if a=p then none else H' a) hq (λb u q=>(if_neg (by rintro rfl;rw[h0'] at q;cases q)).trans (sm' b u q)) (if_pos rfl) (rr.keep kp2)
 rw[<-e] at this
 exact this
end
noncomputable def qS (F:FD) (t:RA):RA:=λρ Q=>t ρ λds=>F ds λd=>match d with
 | .lst xs=>Q xs
 | _=>False
section
variable {X:Cx} {k:Nat} {ps:List Str} {F:FD} {x:Str} {p pos:Pos} {e:Expr} {es:List Expr} {t:RA}
theorem rR (C:FnAtO X.prog X.w X.K X.mg X.base x ps k F) (hr:Room k X.A) (ha:DA X (e::es) t) (hg:Gl X x:=by rfl)
  (hdb:(x == ("__debug__":Str))=false:=by decide) (he:starEach (e::es) X.env=(false,eval e X.env)::starEach es X.env:=by rfl) (hpl:(backTo pos (starEach es X.env)).any (·.1)=false:=by rfl) :
  DO X (.Call (.Name x p) (e::es) [] pos) (qS F t):=by
 obtain⟨f,fd,G,hb,hk,hm⟩:=C.ex
 exact PE.mono (qN (E:=E0) G hr hg hm hk hb .nil zL ha hdb he hpl) λσ H Q hh=>bG hh λρ P st q kk=>⟨ρ,_,st,q,λds vs H1 hd s1 r=>by
  show spO X.K F (vs++[]) H1 Q E0
  rw[List.append_nil]
  exact⟨ds,_,r,hd,λxs p us H2 hp s2 hn rr=>kk xs p us H2 hp (s1.trans s2) hn rr⟩⟩
end
section
variable {prog:Program} {w:World} {A:Around} {E:Value->Shared->Prop} {s:Shared}
end
section
variable {X:Cx} {tg a:Expr} {t:RA} {pos p pos2 p2:Pos}
structure RvOk (j:Int):Prop where
 lo:0<=j
 hi:j<2 ^ 62
noncomputable def IM (t:RA):RA:=λρ Q=>t ρ λds=>match ds with
 | [.int j]=>RvOk j/\Q (dW 0 j.toNat).reverse
 | _=>False
end
noncomputable def wG:R22:=λx y Q=>match x,y with
 | .lst xs,.lst ys=>xs.length=ys.length/\match eqL (eqF 5) xs ys with
  | some b=>Q (.bl !b)
  | none=>False
 | _,_=>False
section
variable {X:Cx}
theorem zH {k:Nat} (hr:Room k X.A):OpD X (compareOp .NotEq) wG:=by
 intro pins s σ H x y v u Q I rx ry hh_0
 obtain⟨d,e,P,r1,r2,q,kk⟩:=hh_0
 have hu:=hr.un
 unfold wG at q
 split at q
 ·rename_i xs ys
  obtain⟨hl,q⟩:=q
  split at q
  ·rename_i b h
   obtain⟨a,vs,rfl,h1,q1⟩:=r1.lst
   obtain⟨c,ws,rfl,h2,q2⟩:=r2.lst
   cases rx;cases ry
   obtain⟨its,rv,ht,_⟩:=I.list h1
   obtain⟨its2,rv2,ht2,_⟩:=I.list h2
   have l1:xs.length=its.length:=q1.length.trans rv.length
   have l2:ys.length=its2.length:=q2.length.trans rv2.length
   have rc:SeqAt.RcNeAt X.A s (.ref a) (.ref c) (!b):=by
    have:=SeqAt.RcNeAt.lists (A:=X.A) (s:=s) (e:=λj=>match xs[j]?,ys[j]? with | some x,some y=>(eqF 5 x y).getD false | _,_=>false) ht.isList ht2.isList (by simp;omega) (by omega) (λj g1 g2=>?_)
    ·have al:=iB h
     simp only[List.size_toArray,<-l1] at this
     rw[<-hl,Nat.min_self,beq_self_eq_true,Bool.and_true] at al
     rw[<-al]
     exact this
    ·simp only[List.size_toArray] at g1 g2
     have e1:xs[j]? = some (xs[j]'(by omega)):=List.getElem?_eq_getElem _
     have e2:ys[j]? = some (ys[j]'(by omega)):=List.getElem?_eq_getElem _
     obtain⟨k,hk⟩:=jT h j _ _ e1 e2
     rw[e1,e2]
     simp only[hk,Option.getD_some]
     obtain⟨v1,f1,f2⟩:=q1.get e1
     obtain⟨v2,f3,f4⟩:=q2.get e2
     obtain⟨u1,g3,g4⟩:=rv.get f1
     obtain⟨u2,g5,g6⟩:=rv2.get f3
     have a1:its.toArray[j]=u1:=by
      have:=List.getElem?_eq_getElem g1
      rw[this] at g3
      simpa using Option.some.inj g3
     have a2:its2.toArray[j]=u2:=by
      have:=List.getElem?_eq_getElem g2
      rw[this] at g5
      simpa using Option.some.inj g5
     rw[a1,a2]
     exact (fL I 5 hk f2 f4 g4 g6 (by show X.A.units+1+5<cLine;omega)).2
   exact rc _ _ _ _ ⟨.bl _,H,I,rfl,kk _ _ H q (Same.refl H) (.bl _)⟩
  ·exact q.elim
 ·exact q.elim
end
section
variable {K:PySem.W.Frag} {H₀ H:Hp}
theorem Dcl.ix {kvs:List (Int × List D)} {kws:List (Key × V)} {as:List Addr} (t:Dcl K H₀ H kvs kws as):∀{j:Nat} {k:Int} {ds:List D},kvs[j]? = some (k,ds) ->
  ∃b vs,as[j]? = some b/\H b=some (.lst vs)/\Reps K H ds vs/\∀(H':Hp) (ds':List D) (vs':List V),Keep H H'->H' b=some (.lst vs')->(∀c∈as,c≠b->∀o,H c=some o->H' c=some o)->Reps K H' ds' vs'->Dcl K H₀ H' (kvs.set j (k,ds')) kws as:=by
 induction t with
 | nil=>intro j k ds e;simp at e
 | @cons k b vs ds kvs kws as h h0 r n t ih =>
  intro j k' ds' e
  cases j with
  | zero =>
   simp at e
   obtain⟨rfl,rfl⟩:=e
   refine⟨b,vs,rfl,h,r,λH' ds' vs' kp hb hc rr=>?_⟩
   exact .cons hb h0 rr n (t.keep kp λa m o e=>hc a (.tail _ m) (by rintro rfl;exact n m) o e)
  | succ j =>
   obtain⟨b',vs',e1,e2,e3,e4⟩:=ih (by simpa using e)
   refine⟨b',vs',by simpa using e1,e2,e3,λH' ds'' vs'' kp hb hc rr=>?_⟩
   have nb:b≠b':=by rintro rfl;exact n (List.mem_of_getElem? e1)
   exact .cons (hc b (.head _) nb _ h) h0 (r.keep kp) n (e4 H' ds'' vs'' kp hb (λc m nc o e=>hc c (.tail _ m) nc o e) rr)
theorem Dcl.alen {kvs:List (Int × List D)} {kws:List (Key × V)} {as:List Addr} (t:Dcl K H₀ H kvs kws as):kvs.length=as.length:=by
 induction t with
 | nil=>rfl
 | cons _ _ _ _ _ ih=>simp[ih]
end
theorem pO {xss:List (List D)} {j:Nat} {ds:List D} (e:xss[j]? = some ds):(xss.map λx=>((0:Int),x))[j]? = some (0,ds):=by rw[List.getElem?_map,e];rfl
theorem uJ {xss:List (List D)} {j:Nat} {ds:List D}:(xss.map λx=>((0:Int),x)).set j (0,ds)=(xss.set j ds).map λx=>((0:Int),x):=by rw[List.map_set]
section
variable {X:Cx} {e k:Expr} {pos pos' p p1 p2 apos cpos npos spos:Pos} {te tk:RE} {x:Str}
noncomputable def zZ (i:Nat):RS:=λE ρ=>E.nx (ρ.set i (some (.box false [[],[]])))
theorem BB {i:Nat} (hN:X.N.Nodup) (hi:X.N[i]? = some x:=by rfl) (hx:Loc X.env.scope x:=by walk_at "vis") (hs:swapsWith (.List [.List [] p1,.List [] p2] p) (some (.Name x pos')) pos.line X.env=pure false:=by rfl)
  (hf:X.fn x=true\/X.env.scope.names.lookup x=some .local:=by walk_at "loc")
  (h1:starEach [.List [] p1,.List [] p2] X.env=(false,eval (.List [] p1) X.env)::starEach [.List [] p2] X.env:=by rfl) (h2:starEach [.List [] p2] X.env=(false,eval (.List [] p2) X.env)::starEach [] X.env:=by rfl) :
  DS X (.Assign [.Name x pos'] (.List [.List [] p1,.List [] p2] p) pos) (zZ i) :=
 PS.mono (mV hN hi hx (mU (cC (mU (pos:=p1) eU) (cC (mU (pos:=p2) eU) eU h2) h1)) hs hf) λDe σ H hh=>bX hh λρ E st q n r b c=>by
  refine⟨Nat.zero_le _,λa ha=>⟨Nat.zero_le _,λa2 ha2=>⟨(by decide:2<=sizeLine),λa3 ha3=>?_⟩⟩⟩
  have na:H a2=none/\a2≠a:=by
   have ne:a2≠a:=by rintro rfl;rw[aM] at ha2;cases ha2
   rw[aF ne] at ha2;exact⟨ha2,ne⟩
  have n3:H a3=none/\a3≠a/\a3≠a2:=by
   have ne2:a3≠a2:=by rintro rfl;rw[aM] at ha3;cases ha3
   rw[aF ne2] at ha3
   have ne:a3≠a:=by rintro rfl;rw[aM] at ha3;cases ha3
   rw[aF ne] at ha3;exact⟨ha3,ne,ne2⟩
  have sm:Same H (upd (upd (upd H a (.lst [])) a2 (.lst [])) a3 (.lst [.ref a,.ref a2])):=λb o h=>by
   rw[aF (aJ h n3.1),aF (aJ h na.1),aF (aJ h ha)];exact h
  have g1:upd (upd (upd H a (.lst [])) a2 (.lst [])) a3 (.lst [.ref a,.ref a2]) a=some (.lst []):=by rw[aF (Ne.symm n3.2.1),aF (Ne.symm na.2)];exact aM
  have g2:upd (upd (upd H a (.lst [])) a2 (.lst [])) a3 (.lst [.ref a,.ref a2]) a2=some (.lst []):=by rw[aF (Ne.symm n3.2.2)];exact aM
  refine n _ _ _ q (.of sm) (st.put sm (x':=.box false [[],[]]) ⟨a3,_,[a,a2],rfl,aM,st.same.free n3.1,by simp[n3.2.1,n3.2.2],.cons g1 (st.same.free ha) .nil (by simp[Ne.symm na.2]) (.cons g2 (st.same.free na.1) .nil (by simp) .nil)⟩ λc o=>?_)
  obtain⟨p,vs,e1,e2,e3⟩:=o
  cases e1
  rw[aM] at e2;cases e2
  rcases e3 with rfl | m
  ·exact n3.1
  ·simp only[List.mem_cons,List.not_mem_nil,or_false,V.ref.injEq] at m
   rcases m with rfl | rfl
   ·exact ha
   ·exact na.1
noncomputable def vH (i:Nat) (tk te:RE):RS:=λE ρ=>match ρ[i]? with
 | some (some (.box false xss))=>tk ρ λkd=>match kd with
  | .int k=>∃(j:Nat) (ds:List D),(k=(j:Int)/\xss[j]? = some ds/\Sz (ds.length+1))/\te ρ λd=>E.nx (ρ.set i (some (.box false (xss.set j (ds++[d])))))
  | _=>False
 | _=>False
theorem AZ (i:Nat) (hk:DE X k tk) (he:DE X e te) (hN:X.N[i]? = some x:=by rfl) (hv:Vis X.env.scope x:=by walk_at "vis") (hd:(x == ("__debug__":Str))=false:=by decide) (hcd:(x == ("__classdict__":Str))=false:=by decide)
  (hpi:pI k:=by intro _ _;rfl)
  (hbase:attributeBase (.Subscript (.Name x npos) k spos) "append" X.env (eval (.Subscript (.Name x npos) k spos) X.env)=eval (.Subscript (.Name x npos) k spos) X.env:=by rfl)
  (hfew:((backTo cpos (starEach [e] X.env)).all (λx=>!x.1) && (backToKw cpos (keywordEach [] X.env)).all (λx=>x.1.isSome) && decide (([e]:List Expr).length+([]:List Keyword).length+(if ([]:List Keyword).isEmpty then 0 else 1)<30))=true:=by rfl)
  (hline:(apos.endLine == cpos.line)=true:=by rfl) (hs:starEach [e] X.env=[(false,eval e X.env)]:=by rfl) (hn:starEach [] X.env=[]:=by rfl)
  (hsw:swapsWith (.Call (.Attribute (.Subscript (.Name x npos) k spos) "append" apos) [e] [] cpos) none pos.line X.env=pure false:=by rfl) :
  DS X (.Expr (.Call (.Attribute (.Subscript (.Name x npos) k spos) "append" apos) [e] [] cpos) pos) (vH i tk te):=by
 refine PS.mono (jY (mT PySem.F.plainAttrs_list PySem.F.slot_list_append PySem.F.type_list_append iC (DM uZ (pv (pos:=npos) i hN hv hd hcd) hk hpi) (dS he hs hn) hbase hfew hline (by rw[hs,hn]) (by rw[hn];rfl)) hsw) λDe σ H hh=>bX hh λρ E so q n r bk ct=>?_
 unfold vH at q
 split at q
 ·rename_i xss ex
  obtain⟨v,h1,a,kws,as,ev,ha,h0,na,t⟩:=so.rel i _ ex
  subst ev
  refine⟨.ref a,h1,ρ,_,so,q,λkd kv H1 hkd s1 rk=>?_⟩
  cases kd with
  | int k =>
   obtain⟨j,ds,⟨ej,hj,z1⟩,q1⟩:=hkd
   subst ej
   rw[rk.int_inv]
   have so1:=so.ext s1
   have ha1:=s1 _ _ ha
   have t1:Dcl X.K X.H₀ H1 (xss.map λx=>(0,x)) kws as:=t.keep (.of s1) λc _ o=>s1 c o
   obtain⟨b,vs,eb,hb,_,_⟩:=t1.ix (pO hj)
   refine⟨a,as.map V.ref,j,.ref b,rfl,rfl,SqL.of ha1,pJ (by rw[List.getElem?_map,eb];rfl),.inl ⟨rfl,vs,SqL.of hb⟩,ρ,_,so1,q1,λd w H2 hd s2 rd=>?_⟩
   have t2:Dcl X.K X.H₀ H2 (xss.map λx=>(0,x)) kws as:=t1.keep (.of s2) λc _ o=>s2 c o
   have ha2:=s2 _ _ ha1
   obtain⟨b',vs',eb',hb2,rb2,fin⟩:=t2.ix (pO hj)
   rw[eb] at eb';cases eb'
   have mb:b∈as:=List.mem_of_getElem? eb
   have ne:a≠b:=by rintro rfl;exact na mb
   have sz:vs'.length<sizeLine:=by rw[<-rb2.length];exact Nat.lt_of_succ_le z1.ok
   refine⟨b,vs',w,rfl,rfl,hb2,sz,?_⟩
   have kpU:Keep H2 (upd H2 b (.lst (vs'++[w]))):=⟨λc ys h=>by rw[aF (dA h hb2 (by intro z;cases z))];exact h,λc o u h=>by rw[aF (dA h hb2 (by intro z;cases z))];exact h⟩
   have haU:upd H2 b (.lst (vs'++[w])) a=some (.lst (as.map V.ref)):=by rw[aF ne];exact ha2
   obtain⟨so4,k4⟩:=(so1.ext s2).updW (x':=.box false (xss.set j (ds++[d]))) (v':=.ref a) ex h1 (H':=upd H2 b (.lst (vs'++[w])))
    (λc o h w'=>by rw[aF (by rintro rfl;exact w' ⟨a,_,rfl,ha2,.inr (List.mem_map_of_mem mb)⟩)];exact h)
    ⟨a,kws,as,rfl,haU,h0,na,by
     rw[<-uJ]
     exact fin _ _ _ kpU aM (λc _ nc o h=>by rw[aF nc];exact h) ((rb2.keep kpU).append (.cons (rd.keep kpU) .nil))⟩
    (λc o=>.inl (by
     obtain⟨p',vs0,e1,e2,e3⟩:=o
     cases e1;rw[haU] at e2;cases e2
     exact⟨a,_,rfl,ha2,e3⟩))
   rw[bR h1] at so4
   exact n _ _ _ hd (((Keep.of s1).trans (.of s2)).trans k4) so4
  | _=>exact hkd.elim
 ·exact q.elim
end
noncomputable abbrev zk (xss:List (List D)):List (Int × List D):=xss.map λx=>(0,x)
theorem vC:∀{xss yss:List (List D)},xss.map D.lst=yss.map D.lst->xss=yss
 | [],[],_=>rfl
 | [],_::_,h=>by cases h
 | _::_,[],h=>by cases h
 | x::xss,y::yss,h=>by
  rw[List.map_cons,List.map_cons] at h
  injection h with h1 h2
  injection h1 with h1
  rw[h1,vC h2]
noncomputable def mP (X:Cx) (t:RS):TS:=λDe σ H=>∃ρ E,StOk X ρ σ H/\t E ρ/\(∀ρ,¬E.nx ρ)/\(∀xss p kws as H',E.rt (.tup (xss.map .lst))->Keep H H'->Same X.H₀ H'->H' p=some (.tup (as.map V.ref))->X.H₀ p=none->Dcl X.K X.H₀ H' (zk xss) kws as->De.rt (.ref p) H')
noncomputable def vN (i:Nat) (ta tb:RA):RS:=λE ρ=>match ρ[i]? with
 | some (some (.own xs))=>ta ρ λys=>tb ρ λzs=>E.rt (.tup [.lst xs,.lst ys,.lst zs])
 | _=>False
section
variable {X:Cx} {st:Stmt} {rest:List Stmt} {t u:RS} {x:Str} {p pos tp:Pos} {j:Nat} {e1 e2:Expr} {ta tb:RA}
theorem iA (h1:DS X st t) (h2:PSs X rest (mP X u)):PSs X (st::rest) (mP X (kA t u)) :=
 PSs.mono (mW h1 h2) λDe σ H ⟨ρ,E,so,q,n,r⟩=>by
  refine⟨ρ,_,so,q,λρ' σ' H' hq k s'=>⟨ρ',E,s',hq,n,λxss p kws as H2 e k2 s2=>r xss p kws as H2 e (k.trans k2) s2⟩,λ_ _ _ z=>z.elim,λ_ _ _ z=>z.elim,λ_ _ _ z=>z.elim⟩
theorem wK (i:Nat) (h1:DO X e1 ta) (h2:DO X e2 tb) (hN:X.N[i]? = some x:=by rfl) (hv:Vis X.env.scope x:=by walk_at "vis") (hd:(x == ("__debug__":Str))=false:=by decide)
  (hcd:(x == ("__classdict__":Str))=false:=by decide) (s1:starEach [.Name x p,e1,e2] X.env=(false,eval (.Name x p) X.env)::starEach [e1,e2] X.env:=by rfl) (s2:starEach [e1,e2] X.env=(false,eval e1 X.env)::starEach [e2] X.env:=by rfl) (s3:starEach [e2] X.env=(false,eval e2 X.env)::starEach [] X.env:=by rfl) :
  PSs X [.Return (some (.Tuple [.Name x p,e1,e2] j tp)) pos] (mP X (vN i ta tb)) :=
 PSs.mono (lY (tY (zQ (cC (pv i hN hv hd hcd) (cC h1 (cC h2 eU s3) s2) s1)))) λDe σ H ⟨ρ,E,so,q,n,r⟩=>by
  unfold vN at q
  split at q
  ·rename_i xs ex
   obtain⟨v,g1,a,vs,ev,ha,h0,rr⟩:=so.rel i _ ex
   subst ev
   refine⟨.ref a,g1,ρ,_,so,q,λys p1 us1 H1 hq sm1 n1 r1=>?_⟩
   have smA:Same H1 (upd H1 p1 (.lst us1)):=λb o h=>by rw[aF (aJ h n1)];exact h
   refine⟨ρ,_,so.ext (sm1.trans smA),hq,λzs p2 us2 H2 hz sm2 n2 r2=>?_⟩
   have smB:Same H2 (upd H2 p2 (.lst us2)):=λb o h=>by rw[aF (aJ h n2)];exact h
   refine⟨(by decide:3<=sizeLine),λp hp=>?_⟩
   have smC:Same (upd H2 p2 (.lst us2)) (upd (upd H2 p2 (.lst us2)) p (.tup [.ref a,.ref p1,.ref p2])):=λb o h=>by rw[aF (aJ h hp)];exact h
   have toC:Same H2 (upd (upd H2 p2 (.lst us2)) p (.tup [.ref a,.ref p1,.ref p2])):=smB.trans smC
   have all:Same H (upd (upd H2 p2 (.lst us2)) p (.tup [.ref a,.ref p1,.ref p2])):=((sm1.trans smA).trans sm2).trans toC
   have hp1:H2 p1=some (.lst us1):=sm2 _ _ aM
   have ha2:H2 a=some (.lst vs):=sm2 _ _ (smA _ _ (sm1 _ _ ha))
   have np1:H p1=none:=sm1.free n1
   have np2:H p2=none:=((sm1.trans smA).trans sm2).free n2
   have np:H p=none:=(((sm1.trans smA).trans sm2).trans smB).free hp
   have d1:a≠p1:=by rintro rfl;rw[ha] at np1;cases np1
   have d2:a≠p2:=by rintro rfl;rw[ha] at np2;cases np2
   have d3:p1≠p2:=by rintro rfl;rw[hp1] at n2;cases n2
   refine r [xs,ys,zs] p [(Sum.inl 0,.ref a),(Sum.inl 0,.ref p1),(Sum.inl 0,.ref p2)] [a,p1,p2] _ hz (.of all) (so.same.trans all) aM (so.same.free np) ?_
   exact .cons (all _ _ ha) h0 (rr.keep (.of all)) (by simp[d1,d2])
    (.cons (toC _ _ hp1) (so.same.free np1) (r1.keep ((Keep.of smA).trans ((Keep.of sm2).trans (.of toC)))) (by simp[d3])
     (.cons (smC _ _ aM) (so.same.free np2) (r2.keep (.of toC)) (by simp) .nil))
  ·exact q.elim
end
noncomputable def spB (K:PySem.W.Frag) (F:FD):Sp:=λvs H Q _=>∃ds P,Reps K H ds vs/\F ds P/\∀xss p kws as H1,P (.tup (xss.map .lst))->Same H H1->H1 p=some (.tup (as.map V.ref))->H p=none->Dcl K H H1 (zk xss) kws as->Q (.ref p) H1
structure FnAtB (P:Program) (w:World) (K:PySem.W.Frag) (mg:Str->Option Value) (base:Heap) (x:Str) (ps:List Str) (k:Nat) (F:FD):Prop where
 ex:∃f fd,FnOk P w K mg base CX0 k f fd ps (spB K F)/\Binds K fd ps []/\PySem.W.keepIn K (.ref f)=true/\mg x=some (.ref f)
section
variable {P:Program} {w:World} {K:PySem.W.Frag} {mg:Str->Option Value} {base:Heap}
theorem DefAt.okB {x:Str} {st:Stmt} {N ps:List Str} {k:Nat} {F:FD} {t:RS} (Z:DefAt K mg x st ps) (Sc:FnScope N ps (aC st))
  (hbody:∀{f:Addr} (cdv:Value) (A:Around) (outer:List Env) (s:Shared) (H:Hp) (E:XK),Room k (A.deeper (envOfC x (aC st) s.heap.objs.size f cdv)) ->
   PSs (bV CX0 P w K mg base N x (aC st) f cdv A outer s H E).nox (aL st) (mP (bV CX0 P w K mg base N x (aC st) f cdv A outer s H E).nox t))
  (len:∀ds Q,F ds Q->ds.length=ps.length) (pure:∀ds Q,F ds Q->t { nx:=λ_=>False,rt:=Q } (aP N ds)):FnAtB P w K mg base x ps (k+1) F:=by
 obtain⟨f,fd,a,b,c⟩:=Z.ex
 refine⟨f,fd,?_,.all c,a.kp,b⟩
 refine a.ok Sc (λvs H Q E ⟨ds,P',r,h,_⟩=>by rw[<-r.length];exact len ds P' h) λcdv A outer s H vs Q E hr ⟨ds,P',r,h,kk⟩=>⟨_,hbody cdv A outer s H E hr,?_⟩
 exact⟨aP N ds,_,nH (X:=(bV CX0 P w K mg base N x (aC st) f cdv A outer s H E).nox) r,pure ds P' h,λ_ z=>z,λxss p kws as H' hq kp sm hp h0 t=>kk xss p kws as H' hq sm hp h0 t⟩
end
noncomputable def AB (j:Nat) (F:FD) (t:RA):RS:=λE ρ=>t ρ λds=>F ds λd=>∃xss:List (List D),d = .tup (xss.map .lst)/\E.nx (ρ.set j (some (.box true xss)))
section
variable {X:Cx} {k j:Nat} {ps:List Str} {F:FD} {x y:Str} {p pos pos' cpos:Pos} {e:Expr} {es:List Expr} {t:RA}
theorem BE (hN:X.N.Nodup) (C:FnAtB X.prog X.w X.K X.mg X.base x ps k F) (hr:Room k X.A) (ha:DA X (e::es) t) (hg:Gl X x:=by rfl) (hi:X.N[j]? = some y:=by rfl) (hx:Loc X.env.scope y:=by walk_at "vis")
  (hs:swapsWith (.Call (.Name x p) (e::es) [] cpos) (some (.Name y pos')) pos.line X.env=pure false:=by rfl) (hf:X.fn y=true\/X.env.scope.names.lookup y=some .local:=by walk_at "loc")
  (hdb:(x == ("__debug__":Str))=false:=by decide) (he:starEach (e::es) X.env=(false,eval e X.env)::starEach es X.env:=by rfl) (hpl:(backTo cpos (starEach es X.env)).any (·.1)=false:=by rfl) :
  DS X (.Assign [.Name y pos'] (.Call (.Name x p) (e::es) [] cpos) pos) (AB j F t):=by
 obtain⟨f,fd,G,hb,hk,hm⟩:=C.ex
 refine PS.mono (mV hN hi hx (qN (E:=E0) G hr hg hm hk hb .nil zL ha hdb he hpl) hs hf) λDe σ H hh=>bX hh λρ E so q n r bk ct=>?_
 refine⟨ρ,_,so,q,λds vs H1 hd s1 rr=>?_⟩
 show spB X.K F (vs++[]) H1 _ E0
 rw[List.append_nil]
 refine⟨ds,_,rr,hd,λxss p kws as H2 hp s2 hpt hp0 t=>?_⟩
 obtain⟨xss',e,hn⟩:=hp
 injection e with e
 have:=vC e
 subst this
 have sm:=s1.trans s2
 have t':Dcl X.K X.H₀ H2 (zk xss) kws as:=by
  have key:∀{kvs:List (Int × List D)} {kws:List (Key × V)} {as:List Addr},Dcl X.K H1 H2 kvs kws as->Dcl X.K X.H₀ H2 kvs kws as:=λ{kvs kws as} t=>by
   induction t with
   | nil=>exact .nil
   | cons h h0 r n t ih=>exact .cons h ((so.same.trans s1).free h0) r n ih
  exact key t
 refine n _ _ _ hn (.of sm) (so.put sm (x':=.box true xss) ⟨p,kws,as,rfl,hpt,t'⟩ λa o=>?_)
 obtain⟨p',vs',e1,e2,e3⟩:=o
 cases e1
 rw[hpt] at e2;cases e2
 obtain⟨b,hb',e4⟩:=List.mem_map.mp e3
 cases e4
 have:=(t.at hb').1
 exact s1.free this
end
section
variable {X:Cx} {pins:List (Addr × Obj)} {σ:St} {s:Shared}
theorem mK:∀(as:List Addr) {H:Hp},Inv X pins σ H s->as.Nodup->(∀b∈as,∃vs,H b=some (.lst vs))->∃H',Inv X pins σ H' s/\Keep H H'/\(∀b∈as,∃o vs,H b=some (.lst vs)/\H' b=some (.frz o (.lst vs)))/\∀b o,H b=some o->b ∉ as->H' b=some o
 | [],H,I,_,_=>⟨H,I,Keep.refl H,λb h=>(by cases h),λb o h _=>h⟩
 | a::as,H,I,nd,hl=>by
  obtain⟨n1,n2⟩:=List.nodup_cons.mp nd
  obtain⟨vs,ha⟩:=hl a (.head _)
  obtain⟨o,I1⟩:=Inv.freeze I ha
  have kp:Keep H (upd H a (.frz o (.lst vs))):=⟨λc ys q=>by rw[aF (dA q ha (by intro z;cases z))];exact q,λc o u q=>by rw[aF (dA q ha (by intro z;cases z))];exact q⟩
  obtain⟨H',I2,k2,f1,f2⟩:=mK as I1 n2 λb hb=>by
   obtain⟨ws,h⟩:=hl b (.tail _ hb)
   exact⟨ws,by rw[aF (by rintro rfl;exact n1 hb)];exact h⟩
  refine⟨H',I2,kp.trans k2,λb hb=>?_,λb u h m=>?_⟩
  ·rcases List.mem_cons.mp hb with e | hb'
   ·rw[e];exact⟨o,vs,ha,k2.frzs _ _ _ aM⟩
   ·obtain⟨o',ws,h1,h2⟩:=f1 b hb'
    rw[aF (by intro e;rw[e] at hb';exact n1 hb')] at h1
    exact⟨o',ws,h1,h2⟩
  ·rw[List.mem_cons,not_or] at m
   exact f2 b u (by rw[aF m.1];exact h) m.2
theorem sY (H:Hp):∀(as:List Addr) {H3:Hp},Inv X pins σ H3 s->as.Nodup->(∀b∈as,X.H₀ b=none/\∃o vs,H b=some (.lst vs)/\H3 b=some (.frz o (.lst vs)))->∃H4,Inv X pins σ H4 s/\(∀b∈as,H4 b=H b)/\∀c,c ∉ as->H4 c=H3 c
 | [],H3,I,_,_=>⟨H3,I,λb h=>(by cases h),λc _=>rfl⟩
 | a::as,H3,I,nd,hl=>by
  obtain⟨n1,n2⟩:=List.nodup_cons.mp nd
  obtain⟨h0,o,vs,ha,ha3⟩:=hl a (.head _)
  have I1:=Inv.thaw I ha3 h0
  obtain⟨H4,I2,f1,f2⟩:=sY H as I1 n2 λb hb=>by
   obtain⟨g0,o',ws,h1,h2⟩:=hl b (.tail _ hb)
   exact⟨g0,o',ws,h1,by rw[aF (by rintro rfl;exact n1 hb)];exact h2⟩
  refine⟨H4,I2,λb hb=>?_,λc m=>?_⟩
  ·rcases List.mem_cons.mp hb with e | hb'
   ·rw[e,f2 _ n1,aM,ha]
   ·exact f1 b hb'
  ·rw[List.mem_cons,not_or] at m
   rw[f2 c m.2,aF m.1]
end
section
variable {K:PySem.W.Frag} {H₀ H H':Hp}
theorem Dcl.reps_fz {kvs:List (Int × List D)} {kws:List (Key × V)} {as:List Addr} (t:Dcl K H₀ H kvs kws as) (kp:Keep H H') (hf:∀b∈as,∃o vs,H b=some (.lst vs)/\H' b=some (.frz o (.lst vs))):Reps K H' (kvs.map λp=>.lst p.2) (as.map V.ref):=by
 induction t with
 | nil=>exact .nil
 | cons h h0 r n t ih =>
  obtain⟨o,vs,g1,g2⟩:=hf _ (.head _)
  rw[h] at g1;cases g1
  exact .cons (.lst (.inl ⟨o,g2⟩) (r.keep kp)) (ih λb hb=>hf b (.tail _ hb))
theorem Dcl.nodup {kvs:List (Int × List D)} {kws:List (Key × V)} {as:List Addr} (t:Dcl K H₀ H kvs kws as):as.Nodup:=by
 induction t with
 | nil=>exact List.nodup_nil
 | cons h h0 r n t ih=>exact List.nodup_cons.mpr ⟨n,ih⟩
end
noncomputable def sI (i:Nat) (ρ:En):En:=match ρ[i]? with
 | some (some (.box true xss))=>ρ.set i (some (.d (.tup (xss.map .lst))))
 | _=>ρ
section
variable {X:Cx} {e:Expr} {t:RT}
theorem BG (i:Nat) (h:DT X e t):DT X e (λρ Q=>t (sI i ρ) Q):=by
 intro pins s σ H Q I ⟨ρ,P,so,q,k⟩
 have q:t (sI i ρ) P:=q
 unfold sI at q
 split at q
 ·rename_i xss ex
  obtain⟨v,h1,p,kws,as,rfl,hp,tt⟩:=so.rel i _ ex
  have nd:=tt.nodup
  obtain⟨H1,I1,kp,f1,f2⟩:=mK as I nd λb hb=>(tt.at hb).2
  have emap:(zk xss).map (λp=>D.lst p.2)=xss.map D.lst:=by rw[List.map_map];rfl
  have rr:=tt.reps_fz kp f1
  rw[emap] at rr
  obtain⟨so2,k2⟩:=so.updW (x':=.d (.tup (xss.map .lst))) (v':=.ref p) ex h1 (H':=H1)
   (λb o h w=>f2 b o h λm=>w ⟨p,_,rfl,hp,List.mem_map_of_mem m⟩)
   (.tup (vs:=as.map V.ref) (kp.tups _ _ hp) rr) λa o=>o.elim
  rw[bR h1] at so2
  refine thn (h pins s σ _ (λb H3=>P b/\Same H1 H3) I1 ⟨_,P,so2,q,λb H3 hb s3=>⟨hb,s3⟩⟩) λb s1 ⟨H3,I3,hb,s3⟩=>?_
  obtain⟨H4,I4,g1,g2⟩:=sY H as I3 nd λb hb=>by
   obtain⟨o,vs,e1,e2⟩:=f1 b hb
   exact⟨(tt.at hb).1,o,vs,e1,s3 _ _ e2⟩
  refine⟨H4,I4,k b _ hb λc u hc=>?_⟩
  by_cases m:c∈as
  ·rw[g1 c m];exact hc
  ·rw[g2 c m];exact s3 c u (f2 c u hc m)
 ·exact h pins s σ H Q I ⟨ρ,P,so,q,k⟩
end
section
variable {X:Cx} {ρ:En} {σ:St} {H:Hp}
theorem StOk.any (so:StOk X ρ σ H) {j:Nat} (hj:∀x,ρ[j]?≠some (some x)) (v:Option V):StOk X ρ (σ.set j v) H:=by
 refine⟨by simp[so.len],so.same,λi x e=>?_,λi k x y v' u a e1 e2 e3 e4 o1 o2=>?_⟩
 ·obtain⟨w,h1,h2⟩:=so.rel i x e
  have ne:j≠i:=by rintro rfl;exact hj x e
  exact⟨w,by rw[List.getElem?_set_ne ne];exact h1,h2⟩
 ·have n1:j≠i:=by rintro rfl;exact hj x e1
  have n2:j≠k:=by rintro rfl;exact hj y e2
  rw[List.getElem?_set_ne n1] at e3
  rw[List.getElem?_set_ne n2] at e4
  exact so.sep i k x y v' u a e1 e2 e3 e4 o1 o2
theorem StOk.forget (so:StOk X ρ σ H) (j:Nat):StOk X (ρ.set j none) σ H:=by
 have at':∀{i:Nat} {x:S},(ρ.set j none)[i]? = some (some x)->ρ[i]? = some (some x):=λ{i x} e=>by
  by_cases h:j=i
  ·subst h
   by_cases hl:j<ρ.length
   ·rw[List.getElem?_set_self hl] at e;cases e
   ·rw[List.set_eq_of_length_le (by omega)] at e;exact e
  ·rw[List.getElem?_set_ne h] at e;exact e
 exact⟨by simp[so.len],so.same,λi x e=>so.rel i x (at' e),λi k x y v u a e1 e2=>so.sep i k x y v u a (at' e1) (at' e2)⟩
end
noncomputable def jC (k:Nat) (xss:List (List D)):List (List D):=(xss.take k).map (· ++ [.non])++xss.drop k
theorem xY {xss:List (List D)} {k:Nat} {ds:List D} (e:xss[k]? = some ds):(jC k xss)[k]? = some ds/\(jC k xss).set k (ds++[.non])=jC (k+1) xss:=by
 have hk:k<xss.length:=(List.getElem?_eq_some_iff.mp e).1
 have e':xss[k]=ds:=(List.getElem?_eq_some_iff.mp e).2
 have hl:((xss.take k).map (· ++ [D.non])).length=k:=by simp;omega
 have hd:xss.drop k=ds::xss.drop (k+1):=by rw[List.drop_eq_getElem_cons hk,e']
 unfold jC
 rw[hd]
 constructor
 ·rw[List.getElem?_append_right (by omega),hl];simp
 ·rw[List.set_append_right _ _ (by omega),hl,Nat.sub_self,List.set_cons_zero,List.take_succ,e,List.map_append]
  simp
noncomputable def vI (i j:Nat):RS:=λE ρ=>match ρ[i]? with
 | some (some (.box true xss))=>(j<ρ.length/\∀ds∈xss,Sz (ds.length+1))/\E.nx ((ρ.set j none).set i (some (.box true (xss.map (· ++ [.non])))))
 | _=>False
section
variable {X:Cx} {x y:Str} {pos cpos apos npos pos' xpos epos:Pos} {jn:Nat}
theorem BA {i j:Nat} (hp:PassesOwn (model X.prog X.w) X.A X.env X.xe) (hc:X.calm=true) (hN:X.N.Nodup) (hij:j≠i) (hi:X.N[i]? = some x:=by rfl) (hj:X.N[j]? = some y:=by rfl) (hvx:Vis X.env.scope x:=by walk_at "vis") (hly:Loc X.env.scope y:=by walk_at "vis") (hvy:Vis X.env.scope y:=by walk_at "vis")
  (hd:(x == ("__debug__":Str))=false:=by decide) (hcd:(x == ("__classdict__":Str))=false:=by decide) (hd':(y == ("__debug__":Str))=false:=by decide) (hcd':(y == ("__classdict__":Str))=false:=by decide)
  (hf:X.fn y=true\/X.env.scope.names.lookup y=some .local:=by walk_at "loc")
  (hbase:attributeBase (.Name y npos) "append" X.env (eval (.Name y npos) X.env)=eval (.Name y npos) X.env:=by rfl)
  (hfew:((backTo cpos (starEach [.Constant .none jn epos] X.env)).all (λx=>!x.1) && (backToKw cpos (keywordEach [] X.env)).all (λx=>x.1.isSome) && decide (([.Constant .none jn epos]:List Expr).length+([]:List Keyword).length+(if ([]:List Keyword).isEmpty then 0 else 1)<30))=true:=by rfl)
  (hline:(apos.endLine == cpos.line)=true:=by rfl) (hs:starEach [.Constant .none jn epos] X.env=[(false,eval (.Constant .none jn epos) X.env)]:=by rfl) (hn:starEach [] X.env=[]:=by rfl)
  (hsw:swapsWith (.Call (.Attribute (.Name y npos) "append" apos) [.Constant .none jn epos] [] cpos) none xpos.line X.env=pure false:=by rfl) (hfs:∀z,foldedSetIterable (.Name x pos') X.env z=pure z:=by intro _;rfl) :
  DS X (.For (.Name y pos) (.Name x pos') [.Expr (.Call (.Attribute (.Name y npos) "append" apos) [.Constant .none jn epos] [] cpos) xpos] [] pos) (vI i j):=by
 have body:=lY (jY (pos:=xpos) (mT (apos:=apos) (cpos:=cpos) PySem.F.plainAttrs_list PySem.F.slot_list_append PySem.F.type_list_append iC (pv (pos:=npos) j hj hvy hd' hcd') (dS (X:=X) (zO (j:=jn) (pos:=epos)) hs hn) hbase hfew hline (by rw[hs,hn]) (by rw[hn];rfl)) hsw)
 refine PS.mono (zU hp hc (FI (pv (pos:=pos') i hi hvx hd hcd)) (vF (pos:=pos) hN hj hly hf) body hfs) λDe σ H hh=>bX hh λρ E so q n r bk ct=>?_
 unfold vI at q
 split at q
 ·rename_i xss ex
  obtain⟨⟨jlr,hsz⟩,q⟩:=q
  obtain⟨v,h1,p,kws,as,rfl,hpt,t⟩:=so.rel i _ ex
  have il:i<ρ.length:=(List.getElem?_eq_some_iff.mp ex).1
  have al:xss.length=as.length:=by have:=t.alen;simpa using this
  have e0:(ρ.set j none).set i (some (.box true (jC 0 xss)))=ρ.set j none:=by
   have:jC 0 xss=xss:=by simp[jC]
   rw[this];exact bR (by rw[List.getElem?_set_ne hij];exact ex)
  have nj:∀(k:Nat) (z:S),((ρ.set j none).set i (some (.box true (jC k xss))))[j]?≠some (some z):=λk z e=>by
   rw[List.getElem?_set_ne (Ne.symm hij)] at e
   by_cases hl:j<ρ.length
   ·rw[List.getElem?_set_self hl] at e;cases e
   ·rw[List.set_eq_of_length_le (by omega),List.getElem?_eq_none (by omega)] at e;cases e
  have exk:∀k,((ρ.set j none).set i (some (.box true (jC k xss))))[i]? = some (some (.box true (jC k xss))):=λk=>List.getElem?_set_self (by simpa using il)
  refine⟨.ref p,h1,p,rfl,⟨_,SqT.of hpt⟩,BJ (xs:=as.map V.ref) (λk σ' H'=>(Keep H H'/\H' p=some (.tup (as.map V.ref))/\σ'[i]? = some (some (.ref p)))/\StOk X ((ρ.set j none).set i (some (.box true (jC k xss)))) σ' H')
   ⟨⟨Keep.refl H,hpt,h1⟩,by rw[e0];exact so.forget j⟩ (λk σ' H' _ h=>SqT.of h.1.2.1) (λk xv σ' H' exv h=>?_) λσ' H' h=>?_⟩
  ·obtain⟨⟨kp,hp',h1'⟩,so'⟩:=h
   have hk:k<as.length:=by have:=(List.getElem?_eq_some_iff.mp exv).1;simpa using this
   have exs:xss[k]? = some (xss[k]'(by omega)):=List.getElem?_eq_getElem _
   obtain⟨ag,aset⟩:=xY exs
   obtain⟨v2,g1,p2,kws2,as2,ev2,hp2,t2⟩:=so'.rel i _ (exk k)
   rw[h1'] at g1;cases g1;cases ev2
   rw[hp'] at hp2
   have eas:as.map V.ref=as2.map V.ref:=by injection (Option.some.inj hp2)
   have easv:as2[k]? = as[k]?:=by
    have:=congrArg (λl=>l[k]?) eas
    simp only[List.getElem?_map] at this
    cases a1:as[k]? with
    | none=>rw[a1] at this;cases a2:as2[k]? with | none=>rfl | some z=>rw[a2] at this;cases this
    | some z1=>rw[a1] at this;cases a2:as2[k]? with | none=>rw[a2] at this;cases this | some z2=>rw[a2] at this;cases this;rfl
   obtain⟨b,vs,eb,hb,rb,fin⟩:=t2.ix (pO ag)
   rw[easv] at eb
   rw[List.getElem?_map,eb] at exv
   cases exv
   have mb:b∈as2:=by rw[<-easv] at eb;exact List.mem_of_getElem? eb
   have so2:=so'.any (nj k) (some (.ref b))
   have h1s:(σ'.set j (some (.ref b)))[i]? = some (some (.ref p)):=by rw[List.getElem?_set_ne hij];exact h1'
   have jl:j<σ'.length:=by
    have l1:=so'.len
    rw[<-l1];simpa using jlr
   refine⟨.ref b,List.getElem?_set_self jl,.inl ⟨rfl,vs,SqL.of hb⟩,?_⟩
   have sz:vs.length<sizeLine:=by rw[<-rb.length];exact Nat.lt_of_succ_le (hsz _ (List.mem_of_getElem? exs)).ok
   refine⟨b,vs,.non,rfl,rfl,hb,sz,?_⟩
   have kpU:Keep H' (upd H' b (.lst (vs++[.non]))):=⟨λc ys h=>by rw[aF (dA h hb (by intro z;cases z))];exact h,λc o u h=>by rw[aF (dA h hb (by intro z;cases z))];exact h⟩
   have hpU:upd H' b (.lst (vs++[.non])) p=some (.tup (as.map V.ref)):=by rw[aF (by rintro rfl;rw[hp'] at hb;cases hb)];exact hp'
   obtain⟨so4,k4⟩:=so2.updW (x':=.box true (jC (k+1) xss)) (v':=.ref p) (exk k) h1s (H':=upd H' b (.lst (vs++[.non])))
    (λc o h w'=>by rw[aF (by rintro rfl;exact w' ⟨p,_,rfl,hp',by rw[eas];exact List.mem_map_of_mem mb⟩)];exact h)
    ⟨p,kws2,as2,rfl,by rw[<-eas];exact hpU,by
     rw[<-aset,<-uJ]
     exact fin _ _ _ kpU aM (λc _ nc o h=>by rw[aF nc];exact h) ((rb.keep kpU).append (.cons .non .nil))⟩
    (λc o=>.inl (by
     obtain⟨p',vs0,e1,e2,e3⟩:=o
     cases e1;rw[hpU] at e2;cases e2
     exact⟨p,_,rfl,hp',e3⟩))
   rw[bR h1s,List.set_set] at so4
   exact⟨⟨kp.trans k4,hpU,h1s⟩,so4⟩
  ·obtain⟨⟨kp,hp',h1'⟩,so'⟩:=h
   rw[List.length_map,<-al] at so'
   have:jC xss.length xss=xss.map (· ++ [.non]):=by simp[jC]
   rw[this] at so'
   exact n _ _ _ q kp so'
 ·exact q.elim
end
theorem rO {k:Int}:∀{ks:List Int} {ds:List D} {vs:List V},ds.length=vs.length->dL ks ds k=none->dD (dM ks vs) (Sum.inl k)=none
 | [],_,_,_,_=>by simp[dM,dD]
 | k'::ks,[],[],_,_=>by simp[dM,dD]
 | k'::ks,[],_::_,h,_=>by cases h
 | k'::ks,_::_,[],h,_=>by cases h
 | k'::ks,d::ds,v::vs,h,e=>by
  unfold dL at e
  by_cases hk:k'=k
  ·rw[if_pos hk] at e;cases e
  ·rw[if_neg hk] at e
   show dD ((Sum.inl k',v)::dM ks vs) _=_
   rw[cG (λz=>hk (by cases z;rfl))]
   exact rO (by simpa using h) e
noncomputable def sS (ta tk tf:RE):RE:=λρ Q=>ta ρ λx=>match x with
 | .dct ks ds=>tk ρ λy=>match y with
  | .int k=>tf ρ λz=>Q ((dL ks ds k).getD z)
  | _=>False
 | _=>False
section
variable {X:Cx} {a k f:Expr} {ta tk tf:RE} {apos cpos:Pos}
theorem rP {kk:Nat} (hr:Room kk X.A) (ha:DE X a ta) (hk:DE X k tk) (hf:DE X f tf) (m:M2 X a "get" apos k f cpos:=by exact⟨rfl,rfl,rfl,rfl⟩):DE X (.Call (.Attribute a "get" apos) [k,f] [] cpos) (sS ta tk tf):=by
 refine PE.mono (zM (by have:=hr.un;omega) ha hk hf m) λσ H Q h=>?_
 obtain⟨ρ,P,st,ht,hP⟩:=h
 refine⟨ρ,_,st,ht,λx v H1 h1 s1 r1=>?_⟩
 cases x with
 | dct ks ds =>
  cases r1 with
  | @dct a vs _ _ o hh hl rr =>
   refine⟨a,rfl,.inl ⟨_,.inr ⟨o,hh⟩⟩,ρ,_,st.ext s1,h1,λy u H2 h2 s2 r2=>?_⟩
   cases y with
   | int k =>
    rw[r2.int_inv]
    refine⟨ρ,_,(st.ext s1).ext s2,h2,λz w H3 h3 s3 r3=>?_⟩
    have sm:=s2.trans s3
    refine⟨_,.inl ⟨_,Sum.inl k,.inr ⟨o,sm _ _ hh⟩,rfl,rfl⟩,hP _ _ H3 h3 (s1.trans sm) ?_⟩
    have rr3:=rr.keep (.of sm)
    cases e:dL ks ds k with
    | some d =>
     obtain⟨w',g1,g2⟩:=tJ rr3 e
     rw[g1];exact g2
    | none =>
     rw[rO rr3.length e];exact r3
   | _=>exact h2.elim
 | _=>exact h1.elim
end
noncomputable def isI (i:Int):Value->Bool
 | .int n _=>n == i
 | _=>false
theorem qY:∀{ns:List Int} {its:List Value},Vals (ns.map V.int) its->∀y∈its,∃n t,y=Value.int n t
 | [],_,h,y,hy=>by cases h;cases hy
 | n::ns,_,h,y,hy=>by
  cases h with
  | cons h1 t =>
   obtain⟨t',rfl⟩:=h1
   rcases List.mem_cons.mp hy with rfl | hy
   ·exact⟨n,t',rfl⟩
   ·exact qY t y hy
theorem qZ {i:Int}:∀{ns:List Int} {its:List Value},Vals (ns.map V.int) its->its.any (isI i)=decide (i∈ns)
 | [],_,h=>by cases h;simp
 | n::ns,_,h=>by
  cases h with
  | cons h1 t =>
   obtain⟨t',rfl⟩:=h1
   rw[List.any_cons,qZ t]
   show ((n == i) || decide (i∈ns))=decide (i∈n::ns)
   by_cases e:n=i
   ·subst e;simp
   ·have e':¬i=n:=λz=>e z.symm
    simp[e,e']
noncomputable def DY:R22:=λx y Q=>match x,y with
 | .int i,.lst ds=>∃ns:List Int,ds=ns.map .int/\Q (.bl (decide (i∈ns)))
 | _,_=>False
section
variable {X:Cx}
theorem EX {k:Nat} (hr:Room k X.A):OpD X (compareOp .In) DY:=by
 intro pins s σ H x y v u Q I rx ry hh_0
 obtain⟨d,e,P,r1,r2,q,kk⟩:=hh_0
 have hu:=hr.un
 unfold DY at q
 split at q
 ·rename_i i ds
  obtain⟨ns,rfl,q⟩:=q
  rw[r1.int_inv] at rx
  obtain⟨t,rfl⟩:=rx
  obtain⟨a,vs,rfl,h1,q1⟩:=r2.lst
  cases ry
  rw[Reps.ints_inv q1] at h1
  obtain⟨its,rv,ht,_⟩:=I.list h1
  refine SeqAt.in_listAt (isI i) ht.isList (λy hy=>?_) ?_
  ·obtain⟨n,t',rfl⟩:=qY rv y (by simpa using hy)
   exact SeqAt.EqAt.int_int n t' i t
  ·have e:its.toArray.any (isI i)=decide (i∈ns):=by rw[List.any_toArray,qZ rv]
   rw[e]
   exact⟨.bl _,H,I,rfl,kk _ _ H q (Same.refl H) (.bl _)⟩
 ·exact q.elim
end
section
variable {prog:Program} {w:World} {A:Around} {E:Value->Shared->Prop} {s:Shared}
theorem oR {it t:Addr} {items:Array Value} (hne:t≠it):∀(n i:Nat) (s:Shared) (Q:List Value->Shared->Prop),s.heap.IsListIter it t i->s.heap.IsList t items->i+n<=items.size ->
  (∀h',h'.IsListIter it t (i+n)->Heap.SameBut it s.heap h'->Q ((items.toList.drop i).take n) { s with heap:=h' })->wpAny (model prog w) A (draw (.ref it) n) Q E s
 | 0,i,s,Q,hit,_,_,hQ=>by
  show wpAny _ _ (pure []) Q E s
  exact wpAny_pure (by simpa using hQ s.heap hit (Heap.SameBut.refl ..))
 | n+1,i,s,Q,hit,ht,hle,hQ=>by
  have hlt:i<items.size:=by omega
  show wpAny _ _ (pyNext (.ref it) >>= _) Q E s
  refine wpAny_bind (wpAny_pyNext_list_item hit ht (x:=items[i]) (by simp[hlt]) λh₁ hit₁ hs₁=>?_)
  refine wpAny_bind (wpAny_holding (oR hne n (i+1) _ _ hit₁ (ht.at λo e=>(hs₁.2 _ hne).trans e) (by omega) λh₂ hit₂ hs₂=>wpAny_pure ?_))
  have hd:items.toList.drop i=items[i]::items.toList.drop (i+1):=by simp[List.drop_eq_getElem_cons,hlt]
  have:=hQ h₂ (by rw[show i+(n+1)=i+1+n by omega];exact hit₂) (hs₁.trans hs₂)
  rw[hd,List.take_succ_cons] at this
  exact this
theorem lA {t:Addr} {items:Array Value} {Q:List Value->Shared->Prop} (hh:A.handled=none) (ht:s.heap.IsList t items)
  (hQ:∀h',Heap.ExtBut s.heap.objs.size s.heap h'->Q items.toList { s with heap:=h' }):wpAny (model prog w) A (unpackItems (.ref t) items.size none) Q E s:=by
 have hlt:t≠s.heap.objs.size:=by obtain⟨o,ho,_⟩:=ht;exact Nat.ne_of_lt (Heap.lt_size ho)
 unfold unpackItems
 refine wpAny_bind ?_
 ·unfold notIterableAtAll
  refine wpAny_bind (wpAny_specialOf ht.typeIs slot_list_iter.lookup ?_)
  refine wpAny_pure ?_
  simp only[Bool.false_eq_true,if_false]
  refine wpAny_bind (wpAny_holding (wpAny_pyIter_list ht ?_))
  have ht0:(s.heap.push { cls:=.type "list_iterator",data:=.fields #[.ref t,.int 0 0] }).IsList t items:=ht.at λo e=>Heap.get?_push_of_some _ e
  refine wpAny_bind (wpAny_holding (oR hlt items.size 0 _ _ ⟨_,Heap.get?_push_size _ rfl,rfl,rfl⟩ ht0 (by omega) λh₁ hit₁ hs₁=>?_))
  have hall:List.take items.size (List.drop 0 items.toList)=items.toList:=by
   rw[List.drop_zero];exact List.take_of_length_le (by simp)
  rw[hall]
  rw[if_neg (by simp)]
  have ht₁:h₁.IsList t items:=ht0.at λo e=>(hs₁.2 _ hlt).trans e
  refine wpAny_bind (wpAny_holding (wpAny_pyNext_list_end hh hit₁ ht₁ (by simp) λh₂ he₂=>?_))
  simp only[Option.isSome_none,Bool.false_eq_true,if_false]
  refine wpAny_pure (hQ h₂ λb o hb e=>he₂ b o hb (hs₁.extBut b o hb (Heap.get?_push_of_some _ e)))
theorem jD {env:Env} {elts:List Expr} {x1:Nat} {pos:Pos} {t:Addr} {items:Array Value} {Q:Unit->Shared->Prop} (hh:A.handled=none) (ht:s.heap.IsList t items)
  (hn:(assignEach elts env).length=items.size) (hstar:(assignEach elts env).findIdx? (·.1)=none)
  (h:∀h',Heap.ExtBut s.heap.objs.size s.heap h'->wpAny (model prog w) A (assignInOrder ((assignEach elts env).map (·.2)) items.toList) Q E { s with heap:=h' }) :
  wpAny (model prog w) A (assign (.Tuple elts x1 pos) env (.ref t)) Q E s:=by
 rw[assign_Tuple]
 refine wpAny_bind (wpAny_standAt ?_)
 unfold unpack
 rw[hn,hstar]
 exact wpAny_bind (wpAny_holding (lA hh ht h))
end
noncomputable def AF (n:Nat) (g:RGs):RG:=λd ρ Q=>match d with
 | .lst ds=>ds.length=n/\g ds ρ Q
 | _=>False
section
variable {X:Cx} {pos:Pos}
theorem EE {es:List Expr} {k:Nat} {g:RGs} {n:Nat} (hc:X.calm=true) (h:DGs X es g) (hn:(assignEach es X.env).length=n:=by rfl) (hst:(assignEach es X.env).findIdx? (·.1)=none:=by rfl):DG X (.Tuple es k pos) (AF n g):=by
 intro pins s σ H v u Q I r hh
 obtain⟨d,ρ,P,rr,st,q,kk⟩:=hh
 cases d with
 | lst ds =>
  cases rr with
  | @lst a vs _ hz rr =>
   obtain rfl:u=Value.ref a:=r
   obtain⟨its,rv,ht,hz'⟩:=I.list hz.sq
   refine jD (I.ok.hd hc) ht.isList (by simp[hn,<-rv.length,<-rr.length,q.1]) hst λh' hx=>?_
   have I1:Inv X pins σ H { s with heap:=h' }:=I.kept (t':=s.toks) λb o e=>hx b o (Nat.ne_of_lt (Heap.lt_size e)) e
   exact h pins _ σ H vs _ Q I1 (by simpa using rv) ⟨ds,ρ,P,rr,st,q.2,kk⟩
 | _=>exact q.elim
end
noncomputable def AS:R22:=λx y Q=>match eqF 9 x y with
 | some b=>Q (.bl b)
 | none=>False
section
variable {X:Cx}
theorem EW {k:Nat} (hr:Room k X.A):OpD X (compareOp .Eq) AS:=by
 intro pins s σ H x y v u Q I rx ry hh_0
 obtain⟨d,e,P,r1,r2,q,kk⟩:=hh_0
 unfold AS at q
 split at q
 ·rename_i b hb
  have hu:=hr.units
  have:SeqAt.RcAt X.A s v u b:=by
   by_cases hl:∃xs ys,d = .lst xs/\e = .lst ys
   ·obtain⟨xs,ys,rfl,rfl⟩:=hl
    obtain⟨a,vs,rfl,h1,q1⟩:=r1.lst
    obtain⟨c,ws,rfl,h2,q2⟩:=r2.lst
    cases rx;cases ry
    exact (mH I (A:=X.A) (n:=8) hb h1 q1 h2 q2 (by omega) λ{d e v u x y b} hk f2 f4 g4 g6=>(fL I 8 hk f2 f4 g4 g6 (by show X.A.units+1+8<cLine;omega)).2).1
   ·have p1:Rep X.K H d x:=by
     rcases r1 with r | ⟨ds,a,vs,e1,_⟩
     ·exact r
     ·subst e1;cases e <;> first | (cases hb;done) | exact absurd ⟨_,_,rfl,rfl⟩ hl
    have p2:Rep X.K H e y:=by
     rcases r2 with r | ⟨ds,a,vs,e1,_⟩
     ·exact r
     ·subst e1;cases d <;> first | (cases hb;done) | exact absurd ⟨_,_,rfl,rfl⟩ hl
    exact (fL I (A:=X.A) 9 hb p1 p2 rx ry (by omega)).1
  exact this _ _ _ _ ⟨.bl b,H,I,rfl,kk _ _ H q (Same.refl H) (.bl b)⟩
 ·exact q.elim
end
noncomputable def cB:RS :=
 aZ (bI 4 (r2 cO (aE 2) (aE 3)))
 (aZ (bI 2 (aO 3))
 (bI 3 (aO 4)))
noncomputable def cA:RS :=
 aZ (bI 2 (rCB nR (aB (aO 0) (aI))))
 (aZ (bI 3 (rCB nR (aB (aO 1) (aI))))
 (aZ (nE (bD (r2 (gC true) (aE 3) (rC (.int 0)))) (cB))
 (bO (aO 2))))
noncomputable def kC (F_shared_divisor:FD):RS :=
 aZ (dN (bD (r2 (gC false) (aE 1) (rC (.int 0)))) ((λ_ _=>False)) (bU))
 (aZ (bI 2 (bA F_shared_divisor (aB (aO 0) (aB (aO 1) (aI)))))
 (aZ (dN (bD (r2 (iT λi j=>decide (i<j)) (aE 1) (rC (.int 0)))) (bI 2 (r1 nS (aE 2))) (bU))
 (bO (eB (aB (r2 bT (aE 0) (aE 2)) (aB (r2 bT (aE 1) (aE 2)) (aI)))))))
noncomputable def dJ:RS :=
 bO (pA (r1 (iE "int") (aO 0)) (pC (r1 (iE "bool") (aO 0))))
noncomputable def kB (cH:FD):RS :=
 bO (bA cH (aB (r2 fV (r2 dY (r2 dIx (aE 0) (rC (.int 0))) (r2 dIx (aE 1) (rC (.int 1)))) (r2 dY (r2 dIx (aE 1) (rC (.int 0))) (r2 dIx (aE 0) (rC (.int 1))))) (aB (r2 dY (r2 dIx (aE 0) (rC (.int 1))) (r2 dIx (aE 1) (rC (.int 1)))) (aI))))
noncomputable def cN:RS :=
 xM 0 1 (aB (aO 1) (aB (r2 cO (aE 0) (aE 1)) (aI)))
noncomputable def cJ:RS :=
 aZ (bI 0 (rCB nR (aB (aO 0) (aI))))
 (aZ (bI 1 (rCB nR (aB (aO 1) (aI))))
 (aZ (nE (bD (r2 (iT λi j=>decide (j<i)) (aE 1) (rC (.int 0)))) (cN))
 (bO (aO 0))))
noncomputable def fC:RS :=
 bI 0 (r2 bT (aE 0) (aE 1))
noncomputable def dF:RS :=
 aZ (dC (oD (aB (aO 2) (aI))) (aT 3) (fC))
 (bO (r2 cO (aE 0) (aE 1)))
noncomputable def cD (JA:FD):RS :=
 aZ (bI 2 (bA JA (aB (aO 0) (aB (aO 1) (aI)))))
 (bO (eB (aB (r2 bT (aE 0) (aE 2)) (aB (r2 bT (aE 1) (aE 2)) (aI)))))
noncomputable def fT:RS :=
 bO (r2 dIx ((λρ Q=>(dU (aB (rC (.int 1)) (aB (r2 eE (rC (.int 1)) (r2 cO (r2 bT (aE 0) (rC (.int 3))) (rC (.int 12)))) (aB (r2 eE (rC (.int 1)) (r2 cO (r2 bT (aE 0) (rC (.int 3))) (r2 pV (rC (.int 10)) (rC (.int 9))))) (aI))))) ρ λds=>Q (.lst ds))) (r2 cO (aE 0) (rC (.int 3))))
noncomputable def gU (JA:FD):RS :=
 bI 2 (bA JA (aB (bA JA (aB (aO 2) (aB (aO 3) (aI)))) (aB (aO 4) (aI))))
noncomputable def eO (JA:FD):RS :=
 aZ (bI 2 (aO 0))
 (aZ (dC (riL (aO 1)) (eM 2 (bF (aT 3) (bF (aT 4) (dP)))) (gU JA))
 (aZ (iK 5 (gS (riL (aO 1)) 2 [2] (eM 2 (bF (aT 0) (bF (aT 1) (dP)))) (eB (aB (r2 bT (aE 0) (aE 2)) (aB (r2 bT (aE 1) (aE 2)) (aI))))))
 (aZ (bI 6 (kX (aE 5) (r1 yH (aE 5))))
 (bO (eB (aB (r2 bT (aE 0) (aE 2)) (aB (r1 iU (r2 lD (nC (aE 5) (gT (aO 6)) (cV)) (nC (aE 5) (cV) (gT (aO 6))))) (aI))))))))
noncomputable def dI (JS:FD):RS :=
 aZ (bI 3 (r2 dY (r2 dIx (aE 0) (rC (.int 1))) (r2 dIx (aE 1) (rC (.int 1)))))
 (aZ (bI 4 (r2 dY (r2 dIx (aE 0) (rC (.int 0))) (r2 dIx (aE 1) (rC (.int 1)))))
 (aZ (bI 5 (r2 dY (r2 dIx (aE 1) (rC (.int 0))) (r2 dIx (aE 0) (rC (.int 1)))))
 (aZ (dN (bD (aO 2)) (bO (bA JS (aB (aO 3) (aB ((λρ Q=>(dU (aB (eB (aB (rC (.int 0)) (aB (rC (.int 0)) (aI)))) (aB (eB (aB (aO 3) (aB (aO 4) (aI)))) (aB (eB (aB (aO 3) (aB (aO 5) (aI)))) (aI))))) ρ λds=>Q (.lst ds))) (aI))))) (bU))
 (bO (bA JS (aB (aO 3) (aB ((λρ Q=>(dU (aB (eB (aB (rC (.int 0)) (aB (rC (.int 0)) (aI)))) (aB (eB (aB (aO 3) (aB (aO 5) (aI)))) (aB (eB (aB (rC (.int 0)) (aB (r2 fV (aE 5) (aE 4)) (aI)))) (aI))))) ρ λds=>Q (.lst ds))) (aI))))))))
noncomputable def dO:RS :=
 vJ 1 (aO 2) (aO 3)
noncomputable def bZ:RS :=
 aZ (vK 1)
 (aZ (dC (riL (aO 0)) (eM 2 (bF (aT 2) (bF (aT 3) (dP)))) (dO))
 ((λE ρ=>(bO (aO 1)) E (kM 1 ρ))))
noncomputable def iD (cP:FD):RS :=
 bO (eB (aB (aO 0) (aB (bA cP (aB (r2 dIx (aE 3) (r2 eE (aE 0) (rC (.int 1)))) (aB (r2 dIx (aE 3) (aE 0)) (aI)))) (aB ((λρ Q=>(dU (aB (aO 1) (aB (aO 2) (aI)))) ρ λds=>Q (.lst ds))) (aI)))))
noncomputable def fD (JG:FD) (IY:FD):RS :=
 aZ (bI 4 (r2 eE (rC (.int 1)) (bA JG (aB (r2 bT (aE 0) (rC (.int 18))) (aB (rC (.int 3)) (aB (aO 3) (aI)))))))
 (aZ (bI 5 (r2 eE (rC (.int 1)) (r2 cO (bA JG (aB (r2 bT (aE 0) (rC (.int 35))) (aB (rC (.int 4)) (aB (aO 3) (aI))))) (rC (.int 3)))))
 (lG 2 (bA IY (aB (r2 eE (r2 dY (r2 dIx (r2 dIx (aE 2) (r1 nS (rC (.int 1)))) (rC (.int 0))) (aE 5)) (r2 dY (aE 4) (r2 dIx (r2 dIx (aE 2) (r1 nS (rC (.int 1)))) (rC (.int 1))))) (aB (r2 dY (r2 dIx (r2 dIx (aE 2) (r1 nS (rC (.int 1)))) (rC (.int 1))) (aE 5)) (aI))))))
noncomputable def dG (JG:FD) (IY:FD):RS :=
 aZ (iK 2 (dU (aB (bA IY (aB (r2 fV (r2 cO (aE 0) (rC (.int 9))) (rC (.int 4))) (aB (r2 eE (rC (.int 1)) (r2 cO (r2 bT (aE 0) (rC (.int 9))) (rC (.int 2)))) (aI)))) (aI))))
 (aZ (dC (oD (aB (r2 fV (aE 1) (rC (.int 1))) (aI))) (aT 3) (fD JG IY))
 ((λE ρ=>(bO (aO 2)) E (kM 2 ρ))))
noncomputable def cW (IY:FD):RS :=
 aZ (bI 1 (r2 dIx ((λρ Q=>(dU (aB (rC (.int 9)) (aB (r2 pV (rC (.int 10)) (rC (.int 30))) (aI)))) ρ λds=>Q (.lst ds))) (r2 cO (r2 bT (aE 0) (rC (.int 2))) (rC (.int 2)))))
 (aZ (bI 2 (bA IY (aB (r2 fV (r2 cO (r2 dY (r2 cO (r2 dY (aE 0) (rC (.int 48271))) (rC (.int 1000000007))) (rC (.int 69621))) (r2 eE (r2 dY (rC (.int 2)) (aE 1)) (rC (.int 1)))) (aE 1)) (aB (r2 eE (rC (.int 1)) (r2 cO (r2 bT (aE 0) (rC (.int 4))) (rC (.int 4)))) (aI)))))
 (aZ (bI 3 (bA IY (aB (r2 fV (r2 cO (aE 0) (r2 eE (r2 dY (rC (.int 2)) (aE 1)) (rC (.int 1)))) (aE 1)) (aB (r2 eE (rC (.int 1)) (r2 cO (r2 bT (aE 0) (rC (.int 16))) (rC (.int 3)))) (aI)))))
 (bO (eB (aB (r2 fV (rC (.int 1)) (r2 dY (rC (.int 2)) (r2 cO (aE 0) (rC (.int 2))))) (aB (aO 2) (aB (aO 3) (aI))))))))
noncomputable def eC:RS :=
 aZ (dN (bD (r2 (iT λi j=>decide (i<j)) (aE 1) (r1 fJ (aE 0)))) (bO (r2 cO (r2 dIx (aE 0) (aE 1)) (r2 eE (r2 pV (rC (.int 10)) (rC (.int 60))) (rC (.int 7))))) (bU))
 (bO (rC (.int 0)))
noncomputable def fE:RS :=
 dN (bD (r2 (dEq) (r2 dIx (aE 0) (aE 3)) (eB (aB (aO 1) (aB (aO 2) (aI)))))) (bO (r2 lD (nC (aE 0) (cV) (gT (aO 3))) (nC (aE 0) (gT (r2 eE (aE 3) (rC (.int 1)))) (cV)))) (bU)
noncomputable def dH:RS :=
 aZ (dC (oD (aB (r1 fJ (aE 0)) (aI))) (aT 3) (fE))
 (bO (rC .non))
noncomputable def fB (JB:FD):RS :=
 aZ (bI 10 (bA JB (aB (r2 dIx (aE 1) (rC (.int 0))) (aB (aO 3) (aB (r2 dIx (aE 5) (aE 8)) (aI))))))
 (aZ (bI 11 (bA JB (aB (r2 dIx (aE 1) (rC (.int 1))) (aB (aO 3) (aB (r2 dIx (aE 5) (aE 9)) (aI))))))
 (dN (xL (bD (r2 (lL true) (aE 10) (rC .non))) (bD (r2 (lL true) (aE 11) (rC .non)))) (bO ((λρ Q=>(dU (aB (aO 10) (aB (aO 11) (aI)))) ρ λds=>Q (.lst ds)))) (bU)))
noncomputable def dE (IY:FD) (JB:FD) (JP:FD):RS :=
 aZ (dN (rOr (iX (bD (r1 (iE "tuple") (aO 0)))) (rOr (bD (r2 (gC true) (r1 fJ (aE 0)) (rC (.int 3)))) (rOr (iX (bD (bA JP (aB (r2 dIx (aE 0) (rC (.int 0))) (aI))))) (iX (bD (r1 (iE "list") (r2 dIx (aE 0) (rC (.int 2))))))))) (bO (rC .non)) (bU))
 (aZ (sR (aO 0) (eM 3 (bF (aT 3) (bF (aT 4) (bF (aT 5) (dP))))))
 (aZ (dN (rOr (bD (r2 (gC true) (r1 fJ (aE 5)) (rC (.int 2)))) (rOr (bD (r2 (iT λi j=>decide (i<j)) (aE 3) (rC (.int 0)))) (bD (r2 (iT λi j=>decide (j<=i)) (aE 3) (r2 fV (r1 fJ (aE 2)) (rC (.int 1))))))) (bO (rC .non)) (bU))
 (aZ (bI 6 (r2 dIx (aE 2) (aE 3)))
 (aZ (bI 7 (r2 dIx (aE 2) (r2 eE (aE 3) (rC (.int 1)))))
 (aZ (dN (bD (r2 (dNe) (aE 4) (bA IY (aB (r2 fV (r2 dY (r2 dIx (aE 7) (rC (.int 0))) (r2 dIx (aE 6) (rC (.int 1)))) (r2 dY (r2 dIx (aE 6) (rC (.int 0))) (r2 dIx (aE 7) (rC (.int 1))))) (aB (r2 dY (r2 dIx (aE 6) (rC (.int 1))) (r2 dIx (aE 7) (rC (.int 1)))) (aI)))))) (bO (rC .non)) (bU))
 (aZ (dC (riL ((λρ Q=>(dU (aB (eB (aB (rC (.int 0)) (aB (rC (.int 1)) (aI)))) (aB (eB (aB (rC (.int 1)) (aB (rC (.int 0)) (aI)))) (aI)))) ρ λds=>Q (.lst ds)))) (eM 2 (bF (aT 8) (bF (aT 9) (dP)))) (fB JB))
 (bO (rC .non))))))))
noncomputable def fS (JB:FD):RS :=
 aZ (dN (rOr (iX (bD (r1 (iE "tuple") (aO 2)))) (bD (r2 (gC true) (r1 fJ (aE 2)) (rC (.int 2))))) (bO (rC .non)) (bU))
 (aZ (bI 1 (bA JB (aB (aO 1) (aB (r2 dIx (aE 2) (rC (.int 0))) (aB (r2 dIx (aE 2) (rC (.int 1))) (aI))))))
 (dN (bD (r2 (lL false) (aE 1) (rC .non))) (bO (rC .non)) (bU)))
noncomputable def eD (JB:FD):RS :=
 aZ (dN (iX (bD (r1 (iE "list") (aO 0)))) (bO (rC .non)) (bU))
 (aZ (dC (riL (aO 0)) (aT 2) (fS JB))
 (bO (aO 1)))
noncomputable def eK:RS :=
 dN (bD (r2 (DY) (aE 6) ((λρ Q=>(gS (riL (r2 dIx (aE 0) (rC (.int 2)))) 2 [] (eM 2 (bF (aT 0) (bF (aT 1) (dP)))) (aO 0)) ρ λds=>Q (.lst ds))))) (bO (rC (.bl false))) (bU)
noncomputable def eL (JQ:FD):RS :=
 aZ (bI 4 (bA JQ (aB (aO 5) (aB (aO 4) (aB (aO 3) (aI))))))
 (dN (bD (r2 (lL false) (aE 4) (rC .non))) (bO (rC (.bl false))) (bU))
noncomputable def cL (JQ:FD) (JN:FD):RS :=
 aZ (dN (rOr (iX (bD (r1 (iE "tuple") (aO 0)))) (rOr (bD (r2 (gC true) (r1 fJ (aE 0)) (rC (.int 3)))) (iX (bD (r1 (iE "list") (r2 dIx (aE 0) (rC (.int 0)))))))) (bO (rC (.bl false))) (bU))
 (aZ (bI 4 ((λρ Q=>(dU (aB (r1 cQ (aE 1)) (aB (r1 cQ (aE 2)) (aI)))) ρ λds=>Q (.lst ds))))
 (aZ (dC (riL (r2 dIx (aE 0) (rC (.int 0)))) (aT 5) (eL JQ))
 (aZ (dN (rOr (bD (r2 (wG) (bA JN (aB (r2 dIx (aE 0) (rC (.int 1))) (aB (r2 dIx (aE 4) (rC (.int 0))) (aI)))) ((λρ Q=>(dU (aI)) ρ λds=>Q (.lst ds))))) (bD (r2 (wG) (bA JN (aB (r2 dIx (aE 0) (rC (.int 2))) (aB (r2 dIx (aE 4) (rC (.int 1))) (aI)))) ((λρ Q=>(dU (aI)) ρ λds=>Q (.lst ds)))))) (bO (rC (.bl false))) (bU))
 (aZ (dC (riL (r2 dIx (aE 0) (rC (.int 1)))) (eM 2 (bF (aT 6) (bF (aT 7) (dP)))) (eK))
 (bO (rC (.bl true)))))))
noncomputable def eP:RS :=
 aZ (bI 4 (r1 fJ (sS (aO 1) (aO 3) ((λρ Q=>(dU (aI)) ρ λds=>Q (.lst ds))))))
 (pB 2 ((λρ Q=>(gS (riL (nC (r2 wF (aO 0) (aO 3)) (gT (aO 4)) (cV))) 1 [3] (aT 0) (eB (aB (aO 1) (aB (aO 0) (aI))))) ρ λds=>Q (.lst ds))))
noncomputable def cX:RS :=
 kA (iK 2 (dU (aI)))
 (kA (dC (riL ((λρ Q=>(nD ((λρ Q=>(nB (aO 0)) ρ λds=>Q (.lst ds)))) ρ λds=>Q (.lst ds)))) (aT 3) (eP))
 (vO 2))
noncomputable def gW (F_joined:FD):RS :=
 lG 5 (bA F_joined (aB (aO 6) (aB (aO 7) (aB (aO 8) (aB (aO 2) (aI))))))
noncomputable def gX (F_joined:FD):RS :=
 dC (nF (r2 wF (aO 3) (aO 6)) (sS (aO 4) (aO 6) ((λρ Q=>(dU (aI)) ρ λds=>Q (.lst ds))))) (eM 2 (bF (aT 7) (bF (aT 8) (dP)))) (gW F_joined)
noncomputable def eQ (F_bits_by_number:FD) (F_joined:FD) (F_left_over:FD):RS :=
 kA (bI 3 (bA F_bits_by_number (aB (aO 0) (aI))))
 (kA (bI 4 (bA F_bits_by_number (aB (aO 1) (aI))))
 (kA (iK 5 (dU (aI)))
 (kA (dC (riL ((λρ Q=>(nD ((λρ Q=>(nB (aO 3)) ρ λds=>Q (.lst ds)))) ρ λds=>Q (.lst ds)))) (aT 6) (gX F_joined))
 (vN 5 (qS F_left_over (aB (aO 3) (aB (aO 4) (aI)))) (qS F_left_over (aB (aO 4) (aB (aO 3) (aI))))))))
noncomputable def eJ (JC:FD) (JJ:FD) (JI:FD):RS :=
 aZ (bI 4 (bA JC (aB (aO 0) (aB (aO 3) (aI)))))
 (aZ (bI 5 (r2 cO (r2 bT (aE 4) (rC (.int 2))) (r2 fV (r1 fJ (aE 1)) (rC (.int 1)))))
 (aZ (dN (bD (r2 (gC false) (r2 cO (bA JC (aB (aO 0) (aB (rC (.int 1)) (aI)))) (rC (.int 3))) (rC (.int 1)))) (bI 5 (r2 cO (r2 bT (bA JC (aB (aO 0) (aB (rC (.int 1)) (aI)))) (rC (.int 3))) (r2 fV (r1 fJ (aE 1)) (rC (.int 1))))) (bU))
 (aZ (bI 6 (bA JI (aB (r2 dIx (aE 1) (aE 5)) (aB (r2 dIx (aE 1) (r2 eE (aE 5) (rC (.int 1)))) (aB (r2 (gC false) (r2 cO (aE 4) (rC (.int 2))) (rC (.int 0))) (aI))))))
 (vH 2 (r2 cO (aE 4) (rC (.int 2))) (eB (aB (aO 5) (aB (eB (aB (aO 6) (aB (bA JJ (aB (r2 eE (r2 bT (aE 4) (rC (.int 8))) (r2 dY (rC (.int 31)) (aE 3))) (aI))) (aI)))) (aI))))))))
noncomputable def cK (JC:FD) (JJ:FD) (JI:FD):RS :=
 aZ (zZ 2)
 (aZ (dC (xQ (aB (rC (.int 2)) (aB (rCB mE (aB (r1 fJ (aE 0)) (aB (rC (.int 12)) (aI)))) (aI)))) (aT 3) (eJ JC JJ JI))
 ((λE ρ=>(bO (aO 2)) E (kM 2 ρ))))
noncomputable def fN (JC:FD) (JL:FD) (JM:FD) (JO:FD) (F_paired:FD):RS :=
 aZ (bI 1 (bA JM (aB (r2 bT (bA JC (aB (aO 0) (aB (rC (.int 0)) (aI)))) (rC (.int 4))) (aB (r2 eE (rC (.int 2)) (r2 cO (bA JC (aB (aO 0) (aB (rC (.int 0)) (aI)))) (rC (.int 4)))) (aI)))))
 (aZ (sR (bA JL (aB (aO 0) (aB (aO 1) (aI)))) (AF 2 (bF (aT 2) (bF (aT 3) (dP)))))
 (aZ (bI 4 ((λρ Q=>(dU (aB (r1 cQ (aE 2)) (aB (r1 cQ (aE 3)) (aB (r1 cQ (aE 1)) (aI))))) ρ λds=>Q (.lst ds))))
 (aZ (AB 5 F_paired (aB (r2 dIx (aE 4) (rC (.int 0))) (aB (r2 dIx (aE 4) (rC (.int 1))) (aB (r2 dIx (aE 4) (rC (.int 2))) (aI)))))
 (aZ (dN ((λρ Q=>(iX (bD (bA JO (aB (aO 5) (aB (aO 2) (aB (aO 3) (aB (aO 1) (aI)))))))) (sI 5 ρ) Q)) (bO (rC (.bl false))) (bU))
 (aZ (vI 5 6)
 (bO (r2 (AS) (aE 4) ((λρ Q=>(dU (aB (aO 2) (aB (aO 3) (aB (aO 1) (aI))))) ρ λds=>Q (.lst ds))))))))))
theorem FZ {α:Type} (x:α) (xs:List α):atI (x::xs) 0=some x:=by
 unfold atI ixN;simp
theorem GA {α:Type} (x y:α) (xs:List α):atI (x::y::xs) 1=some y:=by
 unfold atI ixN
 rw[if_pos (by decide),if_pos (by simp only[List.length_cons];omega)];rfl
theorem GB {α:Type} (x y z:α) (xs:List α):atI (x::y::z::xs) 2=some z:=by
 unfold atI ixN
 rw[if_pos (by decide),if_pos (by simp only[List.length_cons];omega)];rfl
theorem xZ {α:Type} {xs:List α} {i:Int} {j:Nat} {x:α} (h:i=(j:Int)) (e:xs[j]? = some x):atI xs i=some x:=by
 subst h;exact pJ e
theorem pT {x y:D} {Q:D->Prop}:dEq x y Q=(match eqF 6 x y with | some b=>Q (.bl b) | none=>False):=rfl
theorem BL.const {n:Nat} {i:Int} (h:i.natAbs<2 ^ n:=by decide):BL n i:=h
theorem tX {i j:Int} (h:0<=j/\j<=1000000/\i.natAbs<2 ^ 64:=by decide):PowOk i j:=⟨h⟩
theorem cT {j:Int} (h:j≠0:=by decide):ModOk j:=⟨h⟩
theorem jO {x:D} {xs:List D} {Q:D->Prop}:dIx (.tup (x::xs)) (.int 0) Q=Q x:=by simp only[dIx,FZ]
theorem gG {x y:D} {xs:List D} {Q:D->Prop}:dIx (.tup (x::y::xs)) (.int 1) Q=Q y:=by simp only[dIx,GA]
theorem gH {x y z:D} {xs:List D} {Q:D->Prop}:dIx (.tup (x::y::z::xs)) (.int 2) Q=Q z:=by simp only[dIx,GB]
theorem uN {xs:List D} {i:Int} {Q:D->Prop} {x:D} (e:atI xs i=some x) (h:Q x):dIx (.lst xs) (.int i) Q:=by simp only[dIx,e];exact h
theorem pU {xs:List D} {i:Int} {Q:D->Prop} (h0:0<=i) (h1:i<xs.length) (h:∀x,x∈xs->Q x):dIx (.lst xs) (.int i) Q:=by
 have hj:i.toNat<xs.length:=by omega
 exact uN (xZ (j:=i.toNat) (by omega) (List.getElem?_eq_getElem hj)) (h _ (List.getElem_mem hj))
theorem cM {xs:List D} {k:Nat} {x:D} {Q:D->Prop} (e:xs[k]? = some x):dIx (.lst xs) (.int (k:Int)) Q=Q x:=by simp only[dIx,pJ e]
theorem gD {a0:D} {r:List D} {Q:D->Prop}:dIx (.lst (a0::r)) (.int 0) Q=Q a0:=cM (k:=0) rfl
theorem gE {a0 a1:D} {r:List D} {Q:D->Prop}:dIx (.lst (a0::a1::r)) (.int 1) Q=Q a1:=cM (k:=1) rfl
theorem gF {a0 a1 a2:D} {r:List D} {Q:D->Prop}:dIx (.lst (a0::a1::a2::r)) (.int 2) Q=Q a2:=cM (k:=2) rfl
theorem jH {a0 a1 a2 a3:D} {r:List D} {Q:D->Prop}:dIx (.lst (a0::a1::a2::a3::r)) (.int 3) Q=Q a3:=cM (k:=3) rfl
theorem jI {a0 a1 a2 a3 a4:D} {r:List D} {Q:D->Prop}:dIx (.lst (a0::a1::a2::a3::a4::r)) (.int 4) Q=Q a4:=cM (k:=4) rfl
theorem jJ {a0 a1 a2 a3 a4 a5:D} {r:List D} {Q:D->Prop}:dIx (.lst (a0::a1::a2::a3::a4::a5::r)) (.int 5) Q=Q a5:=cM (k:=5) rfl
theorem jK {a0 a1 a2 a3 a4 a5 a6:D} {r:List D} {Q:D->Prop}:dIx (.lst (a0::a1::a2::a3::a4::a5::a6::r)) (.int 6) Q=Q a6:=cM (k:=6) rfl
theorem jL {a0 a1 a2 a3 a4 a5 a6 a7:D} {r:List D} {Q:D->Prop}:dIx (.lst (a0::a1::a2::a3::a4::a5::a6::a7::r)) (.int 7) Q=Q a7:=cM (k:=7) rfl
theorem jM {a0 a1 a2 a3 a4 a5 a6 a7 a8:D} {r:List D} {Q:D->Prop}:dIx (.lst (a0::a1::a2::a3::a4::a5::a6::a7::a8::r)) (.int 8) Q=Q a8:=cM (k:=8) rfl
theorem jN {a0 a1 a2 a3 a4 a5 a6 a7 a8 a9:D} {r:List D} {Q:D->Prop}:dIx (.lst (a0::a1::a2::a3::a4::a5::a6::a7::a8::a9::r)) (.int 9) Q=Q a9:=cM (k:=9) rfl
theorem hX {a0 a1 a2 a3 a4 a5 a6 a7 a8 a9 a10:D} {r:List D} {Q:D->Prop}:dIx (.lst (a0::a1::a2::a3::a4::a5::a6::a7::a8::a9::a10::r)) (.int 10) Q=Q a10:=cM (k:=10) rfl
theorem hZ {a0 a1 a2 a3 a4 a5 a6 a7 a8 a9 a10 a11:D} {r:List D} {Q:D->Prop}:dIx (.lst (a0::a1::a2::a3::a4::a5::a6::a7::a8::a9::a10::a11::r)) (.int 11) Q=Q a11:=cM (k:=11) rfl
noncomputable def bS (n:Nat) (ds:List D):En:=ds.map (λd=>some (.d d))++List.replicate n none
theorem aS {N:List Str} {ds:List D} (n:Nat) (h:N.length=ds.length+n):aP N ds=bS n ds:=by
 unfold aP bS;rw[h,Nat.add_sub_cancel_left]
theorem qE {i:Int}:tL "int" (.int i)=some true:=rfl
theorem qC {i:Int}:tL "bool" (.int i)=some false:=rfl
theorem qD {i:Bool}:tL "int" (.bl i)=some true:=rfl
theorem qB {i:Bool}:tL "bool" (.bl i)=some true:=rfl
theorem qF {xs:List D}:tL "tuple" (.tup xs)=some true:=rfl
theorem CL {α:Type} {x:α}:List.replicate 0 x=[]:=rfl
theorem sU {α:Type} {x:α}:List.replicate 1 x=[x]:=rfl
theorem AD {α:Type} {x:α}:List.replicate 2 x=[x,x]:=rfl
theorem sV {α:Type} {x:α}:List.replicate 3 x=[x,x,x]:=rfl
theorem xN {α:Type} {x:α}:List.replicate 4 x=[x,x,x,x]:=rfl
theorem xO {α:Type} {x:α}:List.replicate 5 x=[x,x,x,x,x]:=rfl
theorem xP {α:Type} {x:α}:List.replicate 6 x=[x,x,x,x,x,x]:=rfl
theorem CM {α:Type} {x:α}:List.replicate 7 x=[x,x,x,x,x,x,x]:=rfl
theorem CN {α:Type} {x:α}:List.replicate 8 x=[x,x,x,x,x,x,x,x]:=rfl
theorem AE {α:Type} {x:α}:List.replicate 9 x=[x,x,x,x,x,x,x,x,x]:=rfl
theorem vQ {α:Type} {x:α}:List.replicate 10 x=[x,x,x,x,x,x,x,x,x,x]:=rfl
theorem vR {α:Type} {x:α}:List.replicate 11 x=[x,x,x,x,x,x,x,x,x,x,x]:=rfl
theorem vS {α:Type} {x:α}:List.replicate 12 x=[x,x,x,x,x,x,x,x,x,x,x,x]:=rfl
theorem sz2:Sz (0+1+1):=⟨by decide⟩
theorem sz3:Sz (0+1+1+1):=⟨by decide⟩
theorem sz4:Sz (0+1+1+1+1):=⟨by decide⟩
theorem sz1:Sz (0+1):=⟨by decide⟩
theorem sz0:Sz 0:=⟨by decide⟩
local macro_rules | `(tactic| walk_at "rd")=>do
 let a <- ("aZ bU bO vL dN bI iK xM sR aT eM bF dP aO aE rC r2 r1 bD xL rOr iX pA CI pC rIf aI aB eB dU bA rCB cV gT vP dC CO riL riT oD xQ qU gS dX gA mB kM lG vM qT CK xS nC lD cQ iU AV dNe kX vT nF eE fV dY bT cO pV nS iT gC lL pT mL jO gG gH gD gE gF jH jI jJ jK jL jM jN hX hZ nR AT uO mE fJ iE qE qC qD qB qF S.val bS CL sU AD sV xN xO xP CM CN AE vQ vR vS List.map_cons List.map_nil List.cons_append List.nil_append List.length_cons List.length_nil List.getElem?_cons_zero List.getElem?_cons_succ List.set_cons_zero List.set_cons_succ List.append_nil Bool.or_false Bool.or_true Bool.false_or Bool.true_or Bool.not_true Bool.not_false if_true if_false Bool.false_eq_true sz0 sz1 sz2 sz3 sz4 true_and decide_eq_true_eq Int.reduceToNat Int.reducePow Int.reduceMul Int.reduceSub Int.reduceAdd Int.reduceNeg".splitOn " ").toArray.mapM λx=>`(Lean.Parser.Tactic.simpLemma| $(Lean.mkIdent x.toName):term)
 `(tactic| simp only[$a,*])
local macro_rules | `(tactic| walk_at "side")=>`(tactic| first | exact tX | exact cT | exact (BL.const (n:=9000) (by decide)).divOk (by decide) | exact (BL.const (n:=300) (by decide)).mulOk (BL.const (n:=300) (by decide)))
local macro_rules | `(tactic| walk_at "sides")=>`(tactic| repeat (refine And.intro (by walk_at "side") ?_))
theorem jB (i:Int):(if i<0 then -i else i)=((i.natAbs:Nat):Int):=by split <;> omega
theorem oV (x y:Nat):((x:Nat):Int).fmod (y:Nat)=((x % y:Nat):Int):=by
 rw[Int.fmod_eq_emod_of_nonneg _ (Int.natCast_nonneg y)];exact (Int.natCast_emod x y).symm
noncomputable def lB:FD:=λds Q=>∃a b:Int,ds=[.int a,.int b]/\Q (.int (Int.gcd a b:Nat))
theorem vB:∀ds Q,lB ds Q->ds.length=2:=by rintro ds Q ⟨a,b,rfl,_⟩;rfl
theorem kO (E:DEnds):∀(y x:Nat),E.nx [some (.d (.int (Nat.gcd x y:Nat))),some (.d (.int (0:Nat)))] ->
  nE (bD (r2 (iT λi j=>decide (j<i)) (aE 1) (rC (.int 0)))) cN E [some (.d (.int (x:Nat))),some (.d (.int (y:Nat)))]:=by
 intro y
 induction y using Nat.strongRecOn with
 | ind y ih =>
  intro x h
  cases Nat.eq_zero_or_pos y with
  | inl hy =>
   subst hy
   refine⟨1,?_⟩
   unfold fP
   walk_at "rd"
   rw[if_neg (by decide)]
   rw[Nat.gcd_zero_right] at h
   exact h
  | inr hy =>
   have h2:=ih (x % y) (Nat.mod_lt x hy) y (by
    rw[Nat.gcd_comm y,<-Nat.gcd_rec,Nat.gcd_comm];exact h)
   obtain⟨n,hn⟩:=h2
   refine⟨n+1,?_⟩
   unfold fP cN
   walk_at "rd"
   rw[if_pos (by omega)]
   refine⟨⟨by omega⟩,?_⟩
   rw[oV]
   exact hn
theorem kQ:∀ds Q,lB ds Q->cJ { nx:=λ_=>Q .non,rt:=Q } (aP ["_law_one","_law_other"] ds):=by
 rintro ds Q ⟨a,b,rfl,q⟩
 rw[aS 0 rfl]
 unfold cJ
 walk_at "rd"
 rw[jB,jB]
 refine kO _ _ _ ?_
 walk_at "rd"
 exact q
theorem iF (E:DEnds) (u v:Option S):∀(y x:Nat) (r:Option S),(∀r,E.nx [u,v,some (.d (.int (Nat.gcd x y:Nat))),some (.d (.int (0:Nat))),r]) ->
  nE (bD (r2 (gC true) (aE 3) (rC (.int 0)))) cB E [u,v,some (.d (.int (x:Nat))),some (.d (.int (y:Nat))),r]:=by
 intro y
 induction y using Nat.strongRecOn with
 | ind y ih =>
  intro x r h
  cases Nat.eq_zero_or_pos y with
  | inl hy =>
   subst hy
   refine⟨1,?_⟩
   unfold fP
   walk_at "rd"
   rw[if_neg (by simp)]
   rw[Nat.gcd_zero_right] at h
   exact h r
  | inr hy =>
   obtain⟨n,hn⟩:=ih (x % y) (Nat.mod_lt x hy) y (some (.d (.int ((x % y:Nat))))) (by
    rw[Nat.gcd_comm y,<-Nat.gcd_rec,Nat.gcd_comm];exact h)
   refine⟨n+1,?_⟩
   unfold fP cB
   walk_at "rd"
   rw[if_pos (by simp;omega)]
   refine⟨⟨by omega⟩,?_⟩
   rw[oV]
   exact hn
theorem iH:∀ds Q,lB ds Q->cA { nx:=λ_=>Q .non,rt:=Q } (aP ["one","other","larger","smaller","rest"] ds):=by
 rintro ds Q ⟨a,b,rfl,q⟩
 rw[aS 3 rfl]
 unfold cA
 walk_at "rd"
 rw[jB,jB]
 refine iF _ _ _ _ _ _ λr=>?_
 walk_at "rd"
 exact q
noncomputable abbrev fr (a b:Int):D:=.tup [.int a,.int b]
theorem pZ {a b:Int} (h:b≠0):0<(Int.gcd a b:Int):=by
 have:0<Int.gcd a b:=Int.gcd_pos_of_ne_zero_right a h
 omega
theorem BL.gcd {n:Nat} {a b:Int} (hb:b≠0) (h:BL n b):BL n (Int.gcd a b:Int):=by
 refine h.le ?_
 rw[Int.natAbs_natCast]
 exact Nat.le_of_dvd (by omega) (Int.gcd_dvd_natAbs_right a b)
structure Low (a b p q:Int):Prop where
 pos:0<q
 cop:Int.gcd p q=1
 worth:p*b=a*q
 lea:p.natAbs<=a.natAbs
 leb:q.natAbs<=b.natAbs
theorem qI {a b:Int} (hb:0<b):Low a b (a.fdiv (Int.gcd a b:Nat)) (b.fdiv (Int.gcd a b:Nat)):=by
 have hg:0<(Int.gcd a b:Int):=pZ (by omega)
 have ea:((Int.gcd a b:Nat):Int)∣a:=Int.gcd_dvd_left ..
 have eb:((Int.gcd a b:Nat):Int)∣b:=Int.gcd_dvd_right ..
 rw[Int.fdiv_eq_ediv_of_nonneg _ (by omega),Int.fdiv_eq_ediv_of_nonneg _ (by omega)]
 have e1:a / (Int.gcd a b:Int)*(Int.gcd a b:Int)=a:=Int.ediv_mul_cancel ea
 have e2:b / (Int.gcd a b:Int)*(Int.gcd a b:Int)=b:=Int.ediv_mul_cancel eb
 have hc:Int.gcd (a / (Int.gcd a b:Int)) (b / (Int.gcd a b:Int))=1:=Int.gcd_ediv_gcd_ediv_gcd (by omega)
 generalize (Int.gcd a b:Int)=g at *
 generalize a / g=p at *
 generalize b / g=q at *
 subst e1 e2
 refine⟨?_,hc,by rw[Int.mul_assoc,Int.mul_comm q g],?_,?_⟩
 ·exact Int.pos_of_mul_pos_left hb (by omega)
 ·rw[Int.natAbs_mul];exact Nat.le_mul_of_pos_right _ (by omega)
 ·rw[Int.natAbs_mul];exact Nat.le_mul_of_pos_right _ (by omega)
theorem BR {a b:Int} (hb:b<0):Low a b (a.fdiv (-(Int.gcd a b:Nat))) (b.fdiv (-(Int.gcd a b:Nat))):=by
 have h:=qI (a:=-a) (b:=-b) (by omega)
 have e:Int.gcd (-a) (-b)=Int.gcd a b:=by rw[Int.neg_gcd,Int.gcd_neg]
 rw[e] at h
 have f:∀x g:Int,(-x).fdiv g=x.fdiv (-g):=λx g=>by
  have:=Int.neg_fdiv_neg (-x) g
  rw[Int.neg_neg] at this
  exact this.symm
 rw[f,f] at h
 refine⟨h.pos,h.cop,?_,by have:=h.lea;omega,by have:=h.leb;omega⟩
 have w:=h.worth
 rw[Int.mul_neg,Int.neg_mul] at w
 exact Int.neg_inj.mp w
noncomputable def cH:FD:=λds Q=>∃a b:Int,ds=[.int a,.int b]/\(b≠0/\BL 9000 b)/\∀p q,Low a b p q->Q (fr p q)
theorem wW:∀ds Q,cH ds Q->ds.length=2:=by rintro ds Q ⟨a,b,rfl,_⟩;rfl
theorem uB:∀ds Q,cH ds Q->kC lB { nx:=λ_=>Q .non,rt:=Q } (aP ["top","bottom","divisor"] ds):=by
 rintro ds Q ⟨a,b,rfl,⟨h0,hb⟩,q⟩
 rw[aS 1 rfl]
 unfold kC
 walk_at "rd"
 rw[if_neg h0]
 refine⟨a,b,rfl,?_⟩
 have hg:=pZ (a:=a) h0
 have bg:=BL.gcd (a:=a) h0 hb
 walk_at "rd"
 split
 ·rename_i hlt
  refine⟨bg.neg.divOk (by omega),bg.neg.divOk (by omega),q _ _ (BR hlt)⟩
 ·rename_i hlt
  refine⟨bg.divOk (by omega),bg.divOk (by omega),q _ _ (qI (by omega))⟩
noncomputable def CV (f:Int->Int->Int->Int->Int):FD:=λds Q=>∃a b c d:Int,ds=[fr a b,fr c d]/\(0<b/\0<d)/\(BL 4000 a/\BL 4000 b/\BL 4000 c/\BL 4000 d)/\∀p q,Low (f a b c d) (b*d) p q->Q (fr p q)
theorem yZ {f:Int->Int->Int->Int->Int}:∀ds Q,CV f ds Q->ds.length=2:=by rintro ds Q ⟨a,b,c,d,rfl,_⟩;rfl
noncomputable abbrev cP:FD:=CV λa b c d=>a*d-c*b
theorem uA:∀ds Q,cP ds Q->kB cH { nx:=λ_=>Q .non,rt:=Q } (aP ["one","other"] ds):=by
 rintro ds Q ⟨a,b,c,d,rfl,⟨h1,h2⟩,⟨ba,bb,bc,bd⟩,q⟩
 rw[aS 0 rfl]
 unfold kB
 walk_at "rd"
 refine⟨ba.mulOk bd,bc.mulOk bb,bb.mulOk bd,_,_,rfl,⟨Int.ne_of_gt (Int.mul_pos h1 h2),(bb.mul bd).mono (by decide)⟩,q⟩
noncomputable def oG:FD:=λds Q=>∃a b:Int,ds=[.int a,.int b]/\(0<b/\BL 9000 b)/\∀p q,Low a b p q->Q (fr p q)
theorem BQ:∀ds Q,oG ds Q->ds.length=2:=by rintro ds Q ⟨a,b,rfl,_⟩;rfl
noncomputable def lX:FD:=λds Q=>∃a:Int,ds=[.int a]/\Q (.bl true)
theorem wY:∀ds Q,lX ds Q->ds.length=1:=by rintro ds Q ⟨a,rfl,_⟩;rfl
theorem nA:∀ds Q,lX ds Q->dJ { nx:=λ_=>Q .non,rt:=Q } (aP ["_law_found"] ds):=by
 rintro ds Q ⟨a,rfl,q⟩
 rw[aS 0 rfl]
 unfold dJ
 walk_at "rd"
 exact q
theorem aY {a b:Int} (h:0<b):0<=a.fmod b/\a.fmod b<b:=⟨Int.fmod_nonneg_of_pos a h,Int.fmod_lt_of_pos a h⟩
theorem BI {a b:Int} (h:0<=a) (hb:0<b):0<=a.fdiv b/\a.fdiv b<=a:=by
 rw[Int.fdiv_eq_ediv_of_nonneg _ (by omega)]
 exact⟨Int.ediv_nonneg h (by omega),Int.ediv_le_self _ h⟩
theorem BP:∀ds Q,vW 63 ds Q->ds.length=1:=by rintro ds Q ⟨a,rfl,_⟩;rfl
theorem cI {g:RG} {t:RS} {E:DEnds} (J:List D->En->Prop)
  (step:∀x xs ρ,J (x::xs) ρ->∀F:DEnds,F.rt=E.rt->F.bk=E.nx->(∀ρ',J xs ρ'->F.nx ρ')->(∀ρ',J xs ρ'->F.ct ρ')->g x ρ λρ1=>t F ρ1) (last:∀ρ,J [] ρ->E.nx ρ):∀xs ρ,J xs ρ->sA g t xs E ρ
 | [],ρ,h=>last ρ h
 | x::xs,ρ,h=>step x xs ρ h _ rfl rfl (λρ' h'=>cI J step last xs ρ' h') λρ' h'=>cI J step last xs ρ' h'
theorem rK {α:Type} {g:RG} {te:RE} (R:En->Prop) (enc f:α->D):∀(src:List α) {Q:List D->Prop},(∀a∈src,∀ρ,R ρ->∀K:En->D->Prop,(∀ρ1,R ρ1->K ρ1 (f a))->g (enc a) ρ λρ1=>te ρ1 λd=>K ρ1 d) ->
  ∀(ρ:En) (acc:List D),R ρ->Q (acc++src.map f)->dX g te (src.map enc) ρ acc Q
 | [],Q,_,ρ,acc,_,q=>by
  show Q acc
  simpa using q
 | a::src,Q,step,ρ,acc,h,q=>by
  show g (enc a) ρ λρ'=>te ρ' λd=>dX g te (src.map enc) ρ' (acc++[d]) Q
  refine step a List.mem_cons_self ρ h (λρ1 d=>dX g te (src.map enc) ρ1 (acc++[d]) Q) λρ1 h1=>?_
  exact rK R enc f src (λb hb=>step b (List.mem_cons_of_mem _ hb)) ρ1 _ h1 (by simpa using q)
theorem mD {α:Type} {g:RG} {te:RE} (R:En->Prop) (enc f:α->D) (src:List α) {Q:List D->Prop} {ρ:En} (step:∀a∈src,∀ρ,R ρ->∀K:En->D->Prop,(∀ρ1,R ρ1->K ρ1 (f a))->g (enc a) ρ λρ1=>te ρ1 λd=>K ρ1 d)
  (h:R ρ) (q:Q (src.map f)):dX g te (src.map enc) ρ [] Q:=rK R enc f src step ρ [] h (by simpa using q)
noncomputable abbrev il (ns:List Int):D:=.lst (ns.map .int)
noncomputable abbrev pt (p:Int × Int):D:=.tup [.int p.1,.int p.2]
noncomputable abbrev pts (ps:List (Int × Int)):D:=.lst (ps.map pt)
theorem DZ {ns:List Int} {i:Int} {Q:D->Prop} (h0:0<=i) (h1:i<ns.length) (q:∀n∈ns,Q (.int n)):dIx (il ns) (.int i) Q:=by
 refine pU h0 (by simpa using h1) λx hx=>?_
 obtain⟨n,hn,rfl⟩:=List.mem_map.mp hx
 exact q n hn
theorem eN {n:Nat} (h:n<=100000):Sz n:=⟨Nat.le_trans h (by decide)⟩
noncomputable abbrev big:Int:=1000000000000000000000000000000000000000000000000000000000007
structure Drawn (m:Nat) (xs:List Int):Prop where
 len:xs.length=m
 lo:∀x∈xs,0<=x
 hi:∀x∈xs,x<big
theorem uE {lo:Int} {n:Nat}:(dW lo n).length=n:=by simp[dW]
theorem rA {α:Type} {xs:List α} {x:α} (h:xs.getLast? = some x):atI xs (-1)=some x:=by
 have hne:xs≠[]:=λe=>by rw[e] at h;cases h
 have hl:0<xs.length:=List.length_pos_iff.mpr hne
 unfold atI ixN
 rw[if_neg (by decide),if_pos (by omega)]
 rw[List.getLast?_eq_getElem?] at h
 show xs[((-1:Int)+(xs.length:Int)).toNat]? = some x
 rw[<-h];congr 1;omega
theorem aR {t u:RS} {E:DEnds} {ρ:En} (I:En->Prop) (h1:∀K:En->Prop,(∀ρ',I ρ'->K ρ')->t { E with nx:=K } ρ) (h2:∀ρ',I ρ'->u E ρ'):aZ t u E ρ:=h1 (u E) h2
noncomputable def AK:FD:=λds Q=>∃n:Int,ds=[.int n]/\∀s,1<=s->s<=1000000000->Q (.int s)
theorem xK:∀ds Q,AK ds Q->fT { nx:=λ_=>Q .non,rt:=Q } (aP ["_law_number"] ds):=by
 rintro ds Q ⟨n,rfl,q⟩
 rw[aS 0 rfl]
 unfold fT
 walk_at "rd"
 walk_at "sides"
 obtain⟨a0,a1⟩:=aY (a:=n) (b:=3) (by decide)
 obtain⟨b0,b1⟩:=aY (a:=n.fdiv 3) (b:=12) (by decide)
 obtain⟨c0,c1⟩:=aY (a:=n.fdiv 3) (b:=1000000000) (by decide)
 refine pU a0 (by simpa using a1) λx hx=>?_
 simp only[List.mem_cons,List.not_mem_nil,or_false] at hx
 rcases hx with rfl | rfl | rfl
 ·exact q _ (by decide) (by decide)
 ·exact q _ (by omega) (by omega)
 ·exact q _ (by omega) (by omega)
theorem jZ:∀ds Q,oG ds Q->cD lB { nx:=λ_=>Q .non,rt:=Q } (aP ["_law_top","_law_bottom","_law_most"] ds):=by
 rintro ds Q ⟨a,b,rfl,⟨h0,hb⟩,q⟩
 rw[aS 1 rfl]
 unfold cD
 walk_at "rd"
 refine⟨a,b,rfl,?_⟩
 have hg:=pZ (a:=a) (b:=b) (by omega)
 have bg:=BL.gcd (a:=a) (b:=b) (by omega) hb
 walk_at "rd"
 exact⟨bg.divOk (by omega),bg.divOk (by omega),q _ _ (qI h0)⟩
structure DueOf (share:Int) (cs:List (Int × Int)) (m sh:Int) (ds:List (Int × Int)) (j:Nat):Prop where
 mpos:0<m
 sh_eq:share=m*sh
 cs_eq:cs=ds.map λz=>(m*z.1,m*z.2)
 j_lt:j<ds.length
 least:∀z∈ds,∀w,ds[j]? = some w->HT.lexLt [z.1,z.2] [w.1,w.2]=false
 cop:∀d:Nat,(d:Int)∣sh->(∀z∈ds,(d:Int)∣z.1/\(d:Int)∣z.2)->d=1
noncomputable abbrev turned {α:Type} (j:Nat) (ds:List α):List α:=ds.drop j++ds.take j
noncomputable def qX:FD:=λds Q=>∃(share:Int) (cs:List (Int × Int)),ds=[.int share,pts cs]/\(0<share/\BL 100 share)/\(cs≠[]/\cs.length<=100) /\
 ∀m sh zs j,DueOf share cs m sh zs j->Q (.tup [.int sh,.tup ((turned j zs).map pt)])
theorem BO:∀ds Q,qX ds Q->ds.length=2:=by rintro ds Q ⟨_,_,rfl,_⟩;rfl
structure GcdOf (share:Int) (zs:List (Int × Int)) (g:Nat):Prop where
 pos:0<g
 sh:(g:Int)∣share
 all:∀z∈zs,(g:Int)∣z.1/\(g:Int)∣z.2
 most:∀d:Nat,(d:Int)∣share->(∀z∈zs,(d:Int)∣z.1/\(d:Int)∣z.2)->d∣g
theorem GcdOf.bl {share:Int} {zs:List (Int × Int)} {g:Nat} (h:GcdOf share zs g) (hs:0<share) {n:Nat} (b:BL n share):BL n (g:Int):=by
 refine b.le ?_
 have:=Int.le_of_dvd hs h.sh
 omega
theorem GcdOf.snoc {share:Int} {zs:List (Int × Int)} {g:Nat} (h:GcdOf share zs g) (z:Int × Int):GcdOf share (zs++[z]) (Int.gcd (Int.gcd g z.1:Nat) z.2):=by
 have d1:((Int.gcd (Int.gcd g z.1:Nat) z.2:Nat):Int)∣((Int.gcd g z.1:Nat):Int):=Int.gcd_dvd_left ..
 have d2:((Int.gcd g z.1:Nat):Int)∣(g:Int):=Int.gcd_dvd_left ..
 have d3:((Int.gcd g z.1:Nat):Int)∣z.1:=Int.gcd_dvd_right ..
 have d4:((Int.gcd (Int.gcd g z.1:Nat) z.2:Nat):Int)∣z.2:=Int.gcd_dvd_right ..
 have dg:=Int.dvd_trans d1 d2
 refine⟨?_,Int.dvd_trans dg h.sh,λw hw=>?_,λd e1 e2=>?_⟩
 ·have:=h.pos
  have h1:0<Int.gcd g z.1:=Int.gcd_pos_of_ne_zero_left _ (by omega)
  exact Int.gcd_pos_of_ne_zero_left _ (by omega)
 ·rcases List.mem_append.mp hw with h' | h'
  ·obtain⟨a,b⟩:=h.all w h'
   exact⟨Int.dvd_trans dg a,Int.dvd_trans dg b⟩
  ·rw[List.mem_singleton.mp h']
   exact⟨Int.dvd_trans d1 d3,d4⟩
 ·obtain⟨a,b⟩:=e2 z (by simp)
  have:=h.most d e1 λw hw=>e2 w (List.mem_append_left _ hw)
  have h1:(d:Int)∣((Int.gcd g z.1:Nat):Int):=Int.dvd_coe_gcd (by exact_mod_cast this) a
  exact_mod_cast Int.dvd_coe_gcd h1 b
theorem kK {xs:List D} {j:Nat} (h:j<=xs.length):jG xs (some (j:Int)) none=xs.drop j:=by
 unfold jG
 rw[HT.sIx_nat,HT.sIx_none,Nat.min_eq_left h,List.take_of_length_le (by simp)]
theorem uM {xs:List D} {j:Nat} (h:j<=xs.length):jG xs none (some (j:Int))=xs.take j:=by
 unfold jG
 rw[HT.sIx_nat,HT.sIx_none,Nat.min_eq_left h];simp
theorem tK (z w:Int × Int):eqF 6 (pt z) (pt w)=some (decide (z=w)):=by
 obtain⟨a,b⟩:=z
 obtain⟨c,d⟩:=w
 simp only[eqF,eqL]
 congr 1
 by_cases h1:a=c <;> by_cases h2:b=d <;> simp[h1,h2]
theorem qQ:∀ds Q,qX ds Q->eO lB { nx:=λ_=>Q .non,rt:=Q } (aP ["_law_share_here","_law_ring_here","_law_most","_law_x","_law_y","_law_corners","_law_at"] ds):=by
 rintro ds Q ⟨share,cs,rfl,⟨hs,bs⟩,⟨hne,hlen⟩,q⟩
 rw[aS 5 rfl]
 unfold eO
 simp only[bS,xO,List.map_cons,List.map_nil,List.cons_append,List.nil_append]
 refine aR (λρ=>ρ=[some (.d (.int share)),some (.d (pts cs)),some (.d (.int share)),none,none,none,none]) (λK hK=>?_) ?_
 ·walk_at "rd"
  exact hK _ rfl
 rintro ρ rfl
 refine aR (λρ=>∃(g:Nat) (x y:Option S),GcdOf share cs g/\ρ=[some (.d (.int share)),some (.d (pts cs)),some (.d (.int g)),x,y,none,none]) (λK hK=>?_) ?_
 ·walk_at "rd"
  refine cI (λxs ρ=>∃(done rest:List (Int × Int)) (g:Nat) (x y:Option S),cs=done++rest/\xs=rest.map pt/\GcdOf share done g/\ρ=[some (.d (.int share)),some (.d (pts cs)),some (.d (.int g)),x,y,none,none]) ?_ ?_ _ _ ⟨[],cs,share.toNat,none,none,rfl,rfl,⟨by omega,?_,by simp,λd e1 _=>?_⟩,?_⟩
  ·rintro x xs ρ ⟨done,rest,g,u,v,e,ex,hg,rfl⟩ F _ _ hn _
   cases rest with
   | nil=>cases ex
   | cons z rest =>
    cases ex
    unfold gU
    walk_at "rd"
    refine⟨_,_,rfl,_,_,rfl,?_⟩
    exact hn _ ⟨done++[z],rest,_,_,_,by simpa using e,rfl,hg.snoc z,rfl⟩
  ·rintro ρ ⟨done,rest,g,u,v,e,ex,hg,rfl⟩
   have:rest=[]:=by simpa using ex.symm
   subst this
   rw[List.append_nil] at e
   subst e
   exact hK _ ⟨g,u,v,hg,rfl⟩
  ·have:(share.toNat:Int)=share:=by omega
   rw[this];exact Int.dvd_refl _
  ·have:(share.toNat:Int)=share:=by omega
   exact_mod_cast (by rw[this];exact e1:(d:Int)∣(share.toNat:Int))
  ·have:(share.toNat:Int)=share:=by omega
   rw[this]
 rintro ρ ⟨g,x,y,hg,rfl⟩
 have gp:(0:Int)<g:=by have:=hg.pos;omega
 have gb:BL 9000 (g:Int):=(hg.bl hs bs).mono (by decide)
 obtain⟨zs,ez⟩:∃zs,zs=cs.map λz=>(z.1 / (g:Int),z.2 / (g:Int)):=⟨_,rfl⟩
 have ec:cs=zs.map λz=>((g:Int)*z.1,(g:Int)*z.2):=by
  rw[ez,List.map_map]
  symm
  conv=>rhs;rw[<-List.map_id cs]
  refine List.map_congr_left λz hz=>?_
  obtain⟨a,b⟩:=hg.all z hz
  simp only[Function.comp,id,Int.mul_ediv_cancel' a,Int.mul_ediv_cancel' b]
 refine aR (λρ=>ρ=[some (.d (.int share)),some (.d (pts cs)),some (.d (.int g)),x,y,some (.own (zs.map pt)),none]) (λK hK=>?_) ?_
 ·walk_at "rd"
  refine⟨eN (by simp;omega),?_⟩
  refine mD (λρ=>∃a b,ρ=[a,b,some (.d (.int g))]) pt (λz=>pt (z.1 / (g:Int),z.2 / (g:Int))) cs ?_ ⟨_,_,rfl⟩ ?_
  ·rintro z hz ρ ⟨a,b,rfl⟩ K' hK'
   walk_at "rd"
   refine⟨gb.divOk (by omega),gb.divOk (by omega),?_⟩
   rw[Int.fdiv_eq_ediv_of_nonneg _ (by omega),Int.fdiv_eq_ediv_of_nonneg _ (by omega)]
   exact hK' _ ⟨_,_,rfl⟩
  ·refine hK _ ?_
   rw[ez,List.map_map];rfl
 rintro ρ rfl
 have lz:zs.length=cs.length:=by rw[ez];simp
 have hz:zs≠[]:=by intro e;rw[e] at lz;exact hne (List.length_eq_zero_iff.mp lz.symm)
 refine aR (λρ=>∃j:Nat,(j<zs.length/\∀z∈zs,∀w,zs[j]? = some w->HT.lexLt [z.1,z.2] [w.1,w.2]=false)/\ρ=[some (.d (.int share)),some (.d (pts cs)),some (.d (.int g)),x,y,some (.own (zs.map pt)),some (.d (.int j))]) (λK hK=>?_) ?_
 ·walk_at "rd"
  refine⟨⟨_,rfl⟩,zs.map λz=>[z.1,z.2],by rw[List.map_map];rfl,by simpa using hz,λM hM hmin=>?_⟩
  obtain⟨w,hw,rfl⟩:=List.mem_map.mp hM
  have hlt:zs.findIdx (λz=>decide (z=w))<zs.length:=List.findIdx_lt_length_of_exists ⟨w,hw,by simp⟩
  have hat:=List.findIdx_getElem (w:=hlt)
  have hat':zs[zs.findIdx (λz=>decide (z=w))]=w:=by simpa using hat
  refine⟨zs.findIdx (λz=>decide (z=w)),⟨pt w,?_,?_⟩,λi d hi ed=>?_,λd hd=>?_,hK _ ⟨_,⟨hlt,λz hz v ev=>?_⟩,rfl⟩⟩
  ·rw[List.getElem?_map,List.getElem?_eq_getElem hlt,hat'];rfl
  ·show eqF 6 (pt w) (pt w)=_
   rw[tK];simp
  ·rw[List.getElem?_map] at ed
   cases e:zs[i]? with
   | none=>rw[e] at ed;cases ed
   | some z =>
    rw[e] at ed;cases ed
    show eqF 6 (pt z) (pt w)=_
    have hil:i<zs.length:=(List.getElem?_eq_some_iff.mp e).1
    have:=List.not_of_lt_findIdx hi
    rw[tK]
    have e2:zs[i]=z:=by rw[List.getElem?_eq_getElem hil] at e;exact Option.some.inj e
    rw[e2] at this
    simpa using this
  ·obtain⟨z,_,rfl⟩:=List.mem_map.mp hd
   exact⟨_,tK z w⟩
  ·rw[List.getElem?_eq_getElem hlt,hat'] at ev;cases ev
   exact hmin _ (List.mem_map.mpr ⟨z,hz,rfl⟩)
 rintro ρ ⟨j,⟨hj,hleast⟩,rfl⟩
 walk_at "rd"
 have lm:(zs.map pt).length=zs.length:=by simp
 rw[kK (by omega),uM (by omega)]
 refine⟨gb.divOk (by omega),eN (by simp;omega),?_⟩
 rw[Int.fdiv_eq_ediv_of_nonneg _ (by omega)]
 have:=q g (share / g) zs j ⟨gp,(Int.mul_ediv_cancel' hg.sh).symm,ec,hj,hleast,λd e1 e2=>?_⟩
 ·rw[List.map_append,List.map_drop,List.map_take] at this
  exact this
 ·have h1:((g*d:Nat):Int)∣share:=by
   rw[<-Int.mul_ediv_cancel' hg.sh]
   push_cast
   exact Int.mul_dvd_mul (Int.dvd_refl _) e1
  have h2:=hg.most (g*d) h1 λz hz=>by
   rw[ec] at hz
   obtain⟨w,hw,rfl⟩:=List.mem_map.mp hz
   obtain⟨a,b⟩:=e2 w hw
   push_cast
   exact⟨Int.mul_dvd_mul (Int.dvd_refl _) a,Int.mul_dvd_mul (Int.dvd_refl _) b⟩
  have h3:=Nat.le_of_dvd hg.pos h2
  have h4:d≠0:=λe=>by
   subst e
   simp at h2
   have:=hg.pos;omega
  have h5:=hg.pos
  rcases Nat.lt_or_ge 1 d with h | h
  ·have:g*2<=g*d:=Nat.mul_le_mul_left _ h
   omega
  ·omega
local macro_rules | `(tactic| walk_at "rd")=>do
 let a <- ("S.fz vK pB CY aZ bU bO vL dN bI iK xM sR aT eM bF dP aO aE rC r2 r1 bD xL rOr iX pA CI pC rIf aI aB eB dU bA rCB cV gT vP dC CO riL riT oD xQ qU gS dX gA mB kM lG vM qT CK xS nC lD cQ iU AV dNe kX vT nF eE fV dY bT cO pV nS iT gC lL pT mL jO gG gH gD gE gF jH jI jJ jK jL jM jN hX hZ nR AT uO mE fJ iE qE qC qD qB qF S.val bS CL sU AD sV xN xO xP CM CN AE vQ vR vS List.map_cons List.map_nil List.cons_append List.nil_append List.length_cons List.length_nil List.getElem?_cons_zero List.getElem?_cons_succ List.set_cons_zero List.set_cons_succ List.append_nil Bool.or_false Bool.or_true Bool.false_or Bool.true_or Bool.not_true Bool.not_false if_true if_false Bool.false_eq_true sz0 sz1 sz2 sz3 sz4 true_and decide_eq_true_eq Int.reduceToNat Int.reducePow Int.reduceMul Int.reduceSub Int.reduceAdd Int.reduceNeg".splitOn " ").toArray.mapM λx=>`(Lean.Parser.Tactic.simpLemma| $(Lean.mkIdent x.toName):term)
 `(tactic| simp only[$a,*])
noncomputable abbrev sdD (s:AM):D:=.tup [pt s.1,pt s.2]
noncomputable def fR:List (Int × List D)->Int->List D
 | [],_=>[]
 | (k',ds)::r,k=>if k'=k then ds else fR r k
theorem mR:∀(kvs:List (Int × List D)) (k:Int) (d:D) (c:Int),fR (cY kvs k d) c=if k=c then fR kvs c++[d] else fR kvs c
 | [],k,d,c=>by simp only[cY,fR];split <;> rfl
 | (k',ds)::r,k,d,c=>by
  have ih:=mR r k d c
  unfold cY
  by_cases h:k'=k
  ·rw[if_pos h];subst h
   simp only[fR]
   by_cases hc:k'=c
   ·rw[if_pos hc,if_pos hc,if_pos hc]
   ·rw[if_neg hc,if_neg hc,if_neg hc]
  ·rw[if_neg h]
   simp only[fR]
   by_cases hc:k=c
   ·have:¬k'=c:=λe=>h (e.trans hc.symm)
    rw[if_neg this,if_pos hc,ih,if_pos hc,if_neg this]
   ·rw[if_neg hc,ih,if_neg hc]
theorem gN:∀(kvs:List (Int × List D)) (k:Int) (d:D),(cY kvs k d).map (·.1)=if k∈kvs.map (·.1) then kvs.map (·.1) else kvs.map (·.1)++[k]
 | [],k,d=>by simp[cY]
 | (k',ds)::r,k,d=>by
  have ih:=gN r k d
  unfold cY
  by_cases h:k'=k
  ·rw[if_pos h];subst h;simp
  ·rw[if_neg h,List.map_cons,ih]
   have h':¬k=k':=λe=>h e.symm
   by_cases hm:k∈r.map (·.1)
   ·rw[if_pos hm,if_pos (by rw[List.map_cons];exact .tail _ hm)];rfl
   ·rw[if_neg hm,if_neg (by rw[List.map_cons,List.mem_cons];exact λz=>z.elim h' hm)];rfl
theorem rN:∀(kvs:List (Int × List D)) (c:Int),c∈kvs.map (·.1)->dL (kvs.map (·.1)) (kvs.map λp=>.lst p.2) c=some (.lst (fR kvs c))
 | [],_,h=>by cases h
 | (k',ds)::r,c,h=>by
  simp only[List.map_cons,dL,fR]
  by_cases hc:k'=c
  ·rw[if_pos hc,if_pos hc]
  ·rw[if_neg hc,if_neg hc]
   rw[List.map_cons,List.mem_cons] at h
   exact rN r c (h.resolve_left λe=>hc e.symm)
theorem qR:∀(kvs:List (Int × List D)) (k:Int) (d:D) (n:Nat),kvs.length<=n->(∀p∈kvs,p.2.length<=n)->(cY kvs k d).length<=n+1/\∀p∈cY kvs k d,p.2.length<=n+1
 | [],k,d,n,_,_=>⟨by simp[cY],λp hp=>by simp[cY] at hp;subst hp;simp⟩
 | (k',ds)::r,k,d,n,hl,hp=>by
  unfold cY
  have hds:=hp (k',ds) (.head _)
  by_cases h:k'=k
  ·rw[if_pos h]
   refine⟨by simpa using Nat.le_succ_of_le hl,λp h'=>?_⟩
   rcases List.mem_cons.mp h' with rfl | h'
   ·simp;exact hds
   ·exact Nat.le_succ_of_le (hp p (.tail _ h'))
  ·rw[if_neg h]
   rw[List.length_cons] at hl
   have n1:n=(n-1)+1:=by omega
   obtain⟨i1,i2⟩:=qR r k d n (by omega) λp h'=>hp p (.tail _ h')
   have i3:(cY r k d).length<=r.length+1:=by
    clear i1 i2 hp hds hl
    induction r with
    | nil=>simp[cY]
    | cons z r ih=>unfold cY;split <;> simp <;> omega
   refine⟨by rw[List.length_cons];omega,λp h'=>?_⟩
   rcases List.mem_cons.mp h' with rfl | h'
   ·exact Nat.le_succ_of_le hds
   ·exact i2 p h'
noncomputable abbrev Ev:=Int × AM
noncomputable def eX (E:List Ev):List (Int × List D):=E.foldl (λm e=>cY m e.1 (sdD e.2)) []
theorem yW (E:List Ev) (e:Ev):eX (E++[e])=cY (eX E) e.1 (sdD e.2):=by unfold eX;rw[List.foldl_append];rfl
theorem ET (E:List Ev):((eX E).length<=E.length/\∀p∈eX E,p.2.length<=E.length)/\((eX E).map (·.1)).Nodup/\(∀c,c∈(eX E).map (·.1)↔∃e∈E,e.1=c)/\∀c,fR (eX E) c=(E.filter λe=>decide (e.1=c)).map λe=>sdD e.2:=by
 refine snoc_ind (P:=λE=>((eX E).length<=E.length/\∀p∈eX E,p.2.length<=E.length)/\((eX E).map (·.1)).Nodup/\(∀c,c∈(eX E).map (·.1)↔∃e∈E,e.1=c)/\∀c,fR (eX E) c=(E.filter λe=>decide (e.1=c)).map λe=>sdD e.2) ?_ ?_ E
 ·exact⟨⟨Nat.le_refl _,λp h=>by cases h⟩,List.nodup_nil,λc=>⟨λh=>(by cases h),λ⟨e,h,_⟩=>(by cases h)⟩,λc=>rfl⟩
 ·rintro E e ⟨⟨h1,h2⟩,h3,h4,h5⟩
  rw[yW]
  refine⟨by rw[List.length_append];exact qR _ _ _ _ h1 h2,?_,λc=>?_,λc=>?_⟩
  ·rw[gN]
   split
   ·exact h3
   ·rename_i n
    exact List.nodup_append.mpr ⟨h3,List.pairwise_singleton _ _,λa ha b hb e'=>n (by rw[List.mem_singleton.mp hb] at e';exact e' ▸ ha)⟩
  ·rw[gN]
   split
   ·rename_i m
    rw[h4 c]
    constructor
    ·rintro⟨x,hx,rfl⟩;exact⟨x,List.mem_append_left _ hx,rfl⟩
    ·rintro⟨x,hx,rfl⟩
     rcases List.mem_append.mp hx with hx | hx
     ·exact⟨x,hx,rfl⟩
     ·rw[List.mem_singleton.mp hx];exact (h4 _).mp m
   ·rw[List.mem_append,h4 c,List.mem_singleton]
    constructor
    ·rintro (⟨x,hx,rfl⟩ | rfl)
     ·exact⟨x,List.mem_append_left _ hx,rfl⟩
     ·exact⟨e,List.mem_append_right _ (.head _),rfl⟩
    ·rintro⟨x,hx,rfl⟩
     rcases List.mem_append.mp hx with hx | hx
     ·exact .inl ⟨x,hx,rfl⟩
     ·rw[List.mem_singleton.mp hx];exact .inr rfl
  ·rw[mR,h5 c,List.filter_append,List.map_append]
   by_cases hc:e.1=c
   ·rw[if_pos hc];simp[hc]
   ·rw[if_neg hc];simp[hc]
where
 snoc_ind {α:Type} {P:List α->Prop} (h0:P []) (hs:∀E e,P E->P (E++[e])) (E:List α):P E:=by
  have:∀(n:Nat) (E:List α),E.length=n->P E:=by
   intro n
   induction n with
   | zero=>intro E h;rw[List.length_eq_zero_iff.mp h];exact h0
   | succ n ih =>
    intro E h
    rcases List.eq_nil_or_concat E with rfl | ⟨E',e,rfl⟩
    ·cases h
    ·rw[List.concat_eq_append] at h ⊢
     exact hs E' e (ih E' (by simpa using h))
  exact this _ E rfl
local macro_rules | `(tactic| walk_at "rd")=>do
 let a <- ("aZ bU bO vL dN bI iK xM sR aT eM bF dP aO aE rC r2 r1 bD xL rOr iX pA CI pC rIf aI aB eB dU bA rCB cV gT vP dC CO riL riT oD xQ qU gS dX gA mB kM lG vM qT CK xS nC lD cQ iU AV dNe kX vT nF eE fV dY bT cO pV nS iT gC lL pT mL jO gG gH gD gE gF jH jI jJ jK jL jM jN hX hZ nR AT uO mE fJ iE qE qC qD qB qF S.val bS CL sU AD sV xN xO xP CM CN AE vQ vR vS List.map_cons List.map_nil List.cons_append List.nil_append List.length_cons List.length_nil List.getElem?_cons_zero List.getElem?_cons_succ List.set_cons_zero List.set_cons_succ List.append_nil Bool.or_false Bool.or_true Bool.false_or Bool.true_or Bool.not_true Bool.not_false if_true if_false Bool.false_eq_true sz0 sz1 sz2 sz3 sz4 true_and decide_eq_true_eq Int.reduceToNat Int.reducePow Int.reduceMul Int.reduceSub Int.reduceAdd Int.reduceNeg".splitOn " ").toArray.mapM λx=>`(Lean.Parser.Tactic.simpLemma| $(Lean.mkIdent x.toName):term)
 `(tactic| simp only[$a,*])
theorem DueOf.len {share:Int} {cs:List (Int × Int)} {m sh:Int} {ds:List (Int × Int)} {j:Nat} (h:DueOf share cs m sh ds j):ds.length=cs.length:=by rw[h.cs_eq];simp
theorem uH {α:Type} {j:Nat} {ds:List α} (h:j<=ds.length):(turned j ds).length=ds.length:=by simp[turned];omega
namespace K12
theorem uW {q p r:Int} (h:Int.gcd q p=1) (d:q∣p*r):q∣r:=by
 have h1:q.natAbs∣p.natAbs*r.natAbs:=by rw[<-Int.natAbs_mul];exact Int.natAbs_dvd_natAbs.mpr d
 exact Int.natAbs_dvd_natAbs.mp (Nat.Coprime.dvd_of_dvd_mul_left h h1)
theorem low_eq {a b p q p' q':Int} (hb:0<b) (h:Low a b p q) (h':Low a b p' q'):p=p'/\q=q':=by
 have e:p*q'=p'*q:=by
  have h1:=h.worth
  have h2:=h'.worth
  have:(p*q')*b=(p'*q)*b:=by grind
  exact Int.eq_of_mul_eq_mul_right (by omega) this
 have d1:q∣q':=by
  have:q∣p*q':=by rw[e];exact Int.dvd_mul_left ..
  exact uW (by rw[Int.gcd_comm];exact h.cop) this
 have d2:q'∣q:=by
  have:q'∣p'*q:=by rw[<-e];exact Int.dvd_mul_left ..
  exact uW (by rw[Int.gcd_comm];exact h'.cop) this
 have l1:=Int.le_of_dvd h'.pos d1
 have l2:=Int.le_of_dvd h.pos d2
 have eq:q=q':=by omega
 subst eq
 exact⟨Int.eq_of_mul_eq_mul_right (by have:=h.pos;omega) e,rfl⟩
end K12
noncomputable def lV:FD:=λds Q=>∃n b p:Int,ds=[.int n,.int b,.int p]/\(0<b/\BL 9000 b)/\(0<=p/\p<=1000)/\∀x,0<=x->x<b->Q (.int x)
theorem wV:∀ds Q,lV ds Q->ds.length=3:=by rintro ds Q ⟨_,_,_,rfl,_⟩;rfl
theorem mY:∀ds Q,lV ds Q->dF { nx:=λ_=>Q .non,rt:=Q } (aP ["_law_number","_law_base","_law_place","_law_k"] ds):=by
 rintro ds Q ⟨n,b,p,rfl,⟨b0,b1⟩,⟨p0,p1⟩,q⟩
 rw[aS 1 rfl]
 unfold dF
 simp only[bS,sU,List.map_cons,List.map_nil,List.cons_append,List.nil_append]
 refine aR (λρ=>∃(m:Int) (o:Option S),ρ=[some (.d (.int m)),some (.d (.int b)),some (.d (.int p)),o]) (λK hK=>?_) ?_
 ·walk_at "rd"
  refine⟨⟨by omega,by omega⟩,?_⟩
  refine cI (λ_ ρ=>∃(m:Int) (o:Option S),ρ=[some (.d (.int m)),some (.d (.int b)),some (.d (.int p)),o]) ?_ ?_ _ _ ⟨n,none,rfl⟩
  ·rintro x xs ρ ⟨m,o,rfl⟩ F _ _ hn _
   unfold fC
   walk_at "rd"
   exact⟨b1.divOk (by omega),hn _ ⟨m.fdiv b,some (.d x),rfl⟩⟩
  ·rintro ρ ⟨m,o,rfl⟩
   exact hK _ ⟨m,o,rfl⟩
 rintro ρ ⟨m,o,rfl⟩
 walk_at "rd"
 obtain⟨a0,a1⟩:=aY (a:=m) b0
 exact⟨⟨by omega⟩,q _ a0 a1⟩
theorem mJ {g:RG} {t:RS} {E:DEnds} (xs:List D) (J:Nat->En->Prop) (step:∀i x ρ,xs[i]? = some x->J i ρ->∀F:DEnds,F.rt=E.rt->F.bk=E.nx->(∀ρ',J (i+1) ρ'->F.nx ρ')->(∀ρ',J (i+1) ρ'->F.ct ρ')->g x ρ λρ1=>t F ρ1)
  (last:∀ρ,J xs.length ρ->E.nx ρ) (ρ:En) (h:J 0 ρ):sA g t xs E ρ:=by
 refine cI (λys ρ=>∃i,i<=xs.length/\ys=xs.drop i/\J i ρ) ?_ ?_ xs ρ ⟨0,Nat.zero_le _,rfl,h⟩
 ·rintro x ys ρ ⟨i,hi,e,hJ⟩ F f1 f2 f3 f4
  have hlt:i<xs.length:=by
   apply Nat.not_le.mp
   intro hn
   rw[List.drop_of_length_le hn] at e;cases e
  rw[List.drop_eq_getElem_cons hlt] at e
  cases e
  exact step i _ ρ (List.getElem?_eq_getElem hlt) hJ F f1 f2 (λρ' h=>f3 ρ' ⟨i+1,by omega,rfl,h⟩) λρ' h=>f4 ρ' ⟨i+1,by omega,rfl,h⟩
 ·rintro ρ ⟨i,hi,e,hJ⟩
  have:i=xs.length:=by
   have:=congrArg List.length e
   simp at this;omega
  subst this
  exact last ρ hJ
theorem uD {lo:Int} {n i:Nat} {x:D} (h:(dW lo n)[i]? = some x):x = .int (lo+i)/\i<n:=by
 unfold dW at h
 rw[List.getElem?_map] at h
 by_cases hi:i<n
 ·rw[List.getElem?_range hi] at h;cases h;exact⟨rfl,hi⟩
 ·rw[List.getElem?_eq_none (by simpa using hi)] at h;cases h
theorem pY {g:RG} {t:RS} {E:DEnds} (lo:Int) (n:Nat) (J:Nat->En->Prop) (step:∀i ρ,i<n->J i ρ->∀F:DEnds,F.rt=E.rt->F.bk=E.nx->(∀ρ',J (i+1) ρ'->F.nx ρ')->(∀ρ',J (i+1) ρ'->F.ct ρ')->g (.int (lo+i)) ρ λρ1=>t F ρ1)
  (last:∀ρ,J n ρ->E.nx ρ) (ρ:En) (h:J 0 ρ):sA g t (dW lo n) E ρ:=by
 refine mJ _ J (λi x ρ e hJ=>?_) (λρ h=>last ρ (by rwa [uE] at h)) ρ h
 obtain⟨rfl,hi⟩:=uD e
 exact step i ρ hi hJ
local macro_rules | `(tactic| walk_at "rd")=>do
 let a <- ("S.fz vK pB CY aZ bU bO vL dN bI iK xM sR aT eM bF dP aO aE rC r2 r1 bD xL rOr iX pA CI pC rIf aI aB eB dU bA rCB cV gT vP dC CO riL riT oD xQ qU gS dX gA mB kM lG vM qT CK xS nC lD cQ iU AV dNe kX vT nF eE fV dY bT cO pV nS iT gC lL pT mL jO gG gH gD gE gF jH jI jJ jK jL jM jN hX hZ nR AT uO mE fJ iE qE qC qD qB qF S.val bS CL sU AD sV xN xO xP CM CN AE vQ vR vS List.map_cons List.map_nil List.cons_append List.nil_append List.length_cons List.length_nil List.getElem?_cons_zero List.getElem?_cons_succ List.set_cons_zero List.set_cons_succ List.append_nil Bool.or_false Bool.or_true Bool.false_or Bool.true_or Bool.not_true Bool.not_false if_true if_false Bool.false_eq_true sz0 sz1 sz2 sz3 sz4 true_and decide_eq_true_eq Int.reduceToNat Int.reducePow Int.reduceMul Int.reduceSub Int.reduceAdd Int.reduceNeg".splitOn " ").toArray.mapM λx=>`(Lean.Parser.Tactic.simpLemma| $(Lean.mkIdent x.toName):term)
 `(tactic| simp only[$a,*])
namespace K33
noncomputable abbrev P2:=Int × Int
noncomputable abbrev Wd:=Int × P2 × P2 × P2
noncomputable abbrev Mv:=Int × P2 × P2
noncomputable abbrev Bit:=Wd × Mv
noncomputable abbrev Ent:=Int × Bit
noncomputable def wdD (w:Wd):D:=.tup [.int w.1,.tup [pt w.2.1,pt w.2.2.1,pt w.2.2.2]]
noncomputable def mvD (m:Mv):D:=.tup [.int m.1,pt m.2.1,pt m.2.2]
noncomputable def btD (b:Bit):D:=.tup [wdD b.1,mvD b.2]
noncomputable def enD (e:Ent):D:=.tup [.int e.1,btD e.2]
theorem eW {f:D->D->Option Bool} {a b:D} {xs ys:List D} {p q:Bool} (h1:f a b=some p) (h2:eqL f xs ys=some q):eqL f (a::xs) (b::ys)=some (p && q):=by rw[eqL,h1,h2]
theorem eqI (n:Nat) (i j:Int):eqF (n+1) (.int i) (.int j)=some (decide (i=j)):=by rw[eqF]
theorem eqT (n:Nat) (xs ys:List D):eqF (n+1) (.tup xs) (.tup ys)=eqL (eqF n) xs ys:=by rw[eqF]
theorem eqP (n:Nat) (z w:P2):eqF (n+2) (pt z) (pt w)=some (decide (z=w)):=by
 obtain⟨a,b⟩:=z
 obtain⟨c,d⟩:=w
 rw[eqT,eW (eqI n a c) (eW (eqI n b d) rfl)]
 simp only[Prod.mk.injEq,Bool.decide_and,Bool.and_true]
theorem eqW (n:Nat) (z w:Wd):eqF (n+4) (wdD z) (wdD w)=some (decide (z=w)):=by
 obtain⟨s,a,b,c⟩:=z
 obtain⟨s',a',b',c'⟩:=w
 have h:=eW (eqP n a a') (eW (eqP n b b') (eW (eqP n c c') (show eqL (eqF (n+2)) [] []=some true from rfl)))
 rw[<-eqT] at h
 unfold wdD
 rw[eqT,eW (eqI (n+2) s s') (eW h rfl)]
 simp only[Prod.mk.injEq,Bool.decide_and,Bool.and_true]
theorem eqM (n:Nat) (z w:Mv):eqF (n+3) (mvD z) (mvD w)=some (decide (z=w)):=by
 obtain⟨s,a,b⟩:=z
 obtain⟨s',a',b'⟩:=w
 unfold mvD
 rw[eqT,eW (eqI (n+1) s s') (eW (eqP n a a') (eW (eqP n b b') rfl))]
 simp only[Prod.mk.injEq,Bool.decide_and,Bool.and_true]
theorem IC (n:Nat) (z w:Bit):eqF (n+5) (btD z) (btD w)=some (decide (z=w)):=by
 obtain⟨a,b⟩:=z
 obtain⟨c,d⟩:=w
 unfold btD
 rw[eqT,eW (eqW n a c) (eW (eqM (n+1) b d) rfl)]
 simp only[Prod.mk.injEq,Bool.decide_and,Bool.and_true]
theorem GF (n:Nat) (z w:Ent):eqF (n+6) (enD z) (enD w)=some (decide (z=w)):=by
 obtain⟨a,b⟩:=z
 obtain⟨c,d⟩:=w
 unfold enD
 rw[eqT,eW (eqI (n+4) a c) (eW (IC n b d) rfl)]
 simp only[Prod.mk.injEq,Bool.decide_and,Bool.and_true]
theorem EK {α:Type} (f:D->D->Option Bool) (g:α->D) (h:∀x,f (g x) (g x)=some true):∀xs:List α,eqL f (xs.map g) (xs.map g)=some true
 | []=>rfl
 | x::xs=>by rw[List.map_cons,eW (h x) (EK f g h xs)];rfl
theorem wM (os cs:List Ent) (fs:List P2):eqF 9 (.lst [.lst (os.map enD),.lst (cs.map enD),pts fs]) (.lst [.lst (os.map enD),.lst (cs.map enD),pts fs])=some true:=by
 have l:∀n xs ys,eqF (n+1) (.lst xs) (.lst ys)=eqL (eqF n) xs ys:=λn xs ys=>by rw[eqF]
 have e:∀xs:List Ent,eqF 8 (.lst (xs.map enD)) (.lst (xs.map enD))=some true:=λxs=>by
  rw[l,EK _ _ λx=>by rw[GF 1 x x,decide_eq_true rfl]]
 have p:eqF 8 (pts fs) (pts fs)=some true:=by
  rw[l,EK _ _ λx=>by rw[eqP 5 x x,decide_eq_true rfl]]
 rw[l,eW (e os) (eW (e cs) (eW p rfl))]
 rfl
noncomputable def fX:FD:=λds Q=>∃(ns:List Int) (k:Int),ds=[il ns,.int k]/\0<=k/\∀c,0<=c->c<big->Q (.int c)
theorem tP:∀ds Q,fX ds Q->ds.length=2:=by rintro ds Q ⟨_,_,rfl,_⟩;rfl
theorem lQ:∀ds Q,fX ds Q->eC { nx:=λ_=>Q .non,rt:=Q } (aP ["_law_script","_law_k"] ds):=by
 rintro ds Q ⟨ns,k,rfl,hk,q⟩
 rw[aS 0 rfl]
 unfold eC
 walk_at "rd"
 split
 ·rename_i hlt
  refine DZ hk (by simpa using hlt) λy _=>⟨tX,cT,?_⟩
  obtain⟨e0,e1⟩:=aY (a:=y) (b:=big) (by decide)
  exact q _ e0 e1
 ·exact q 0 (by decide) (by decide)
theorem GG {x:D} (h:x∈[D.int 9,D.int 1000000000000000000000000000000]):∃f:Int,x = .int f/\0<=f/\BL 200 f:=by
 rcases List.mem_cons.mp h with rfl | h
 ·exact⟨9,rfl,by decide,BL.const (by decide)⟩
 ·rcases List.mem_cons.mp h with rfl | h
  ·exact⟨_,rfl,by decide,BL.const (by decide)⟩
  ·cases h
theorem DU {c:Int} (h0:0<=c) (h1:c<big):BL 200 c:=by
 have e:big<((2 ^ 200:Nat):Int):=by decide
 exact BL.of_lt (by omega) (by omega)
noncomputable def iZ:FD:=λds Q=>∃n:Int,ds=[.int n]/\BL 210 n/\∀m:Mv,Q (mvD m)
theorem tR:∀ds Q,iZ ds Q->ds.length=1:=by rintro ds Q ⟨_,rfl,_⟩;rfl
theorem lS:∀ds Q,iZ ds Q->cW oG { nx:=λ_=>Q .non,rt:=Q } (aP ["_law_number","_law_far","_law_dx","_law_dy"] ds):=by
 rintro ds Q ⟨n,rfl,bn,q⟩
 rw[aS 3 rfl]
 unfold cW
 simp only[bS,sV,List.map_cons,List.map_nil,List.cons_append,List.nil_append]
 refine aR (λρ=>∃f:Int,(0<=f/\BL 200 f)/\ρ=[some (.d (.int n)),some (.d (.int f)),none,none]) (λK hK=>?_) ?_
 ·walk_at "rd"
  obtain⟨a0,a1⟩:=aY (a:=n.fdiv 2) (b:=2) (by decide)
  refine⟨tX,(BL.const (n:=9000) (by decide)).divOk (by decide),cT,?_⟩
  refine pU a0 (by simpa using a1) λx hx=>?_
  obtain⟨f,rfl,f0,f1⟩:=GG hx
  exact hK _ ⟨f,⟨f0,f1⟩,rfl⟩
 rintro ρ ⟨f,⟨f0,f1⟩,rfl⟩
 have fp:(2*f+1)≠0:=by omega
 refine aR (λρ=>∃x:P2,ρ=[some (.d (.int n)),some (.d (.int f)),some (.d (pt x)),none]) (λK hK=>?_) ?_
 ·walk_at "rd"
  obtain⟨a0,a1⟩:=aY (a:=n*48271) (b:=1000000007) (by decide)
  obtain⟨b0,b1⟩:=aY (a:=n.fdiv 4) (b:=4) (by decide)
  refine⟨bn.mulOk (BL.const (n:=20)),cT,(BL.of_lt (m:=40) (by omega) (by omega)).mulOk (BL.const (n:=20)),(BL.const (n:=20)).mulOk f1,⟨fp⟩,(BL.const (n:=9000) (by decide)).divOk (by decide),cT,?_⟩
  refine⟨_,_,rfl,⟨by omega,BL.of_lt (m:=9000) (by omega) (by exact Int.lt_of_lt_of_le (show _<(2 ^ 3:Int) by omega) (by decide))⟩,λp q' _=>hK _ ⟨(p,q'),rfl⟩⟩
 rintro ρ ⟨x,rfl⟩
 refine aR (λρ=>∃y:P2,ρ=[some (.d (.int n)),some (.d (.int f)),some (.d (pt x)),some (.d (pt y))]) (λK hK=>?_) ?_
 ·walk_at "rd"
  obtain⟨b0,b1⟩:=aY (a:=n.fdiv 16) (b:=3) (by decide)
  refine⟨(BL.const (n:=20)).mulOk f1,⟨fp⟩,(BL.const (n:=9000) (by decide)).divOk (by decide),cT,?_⟩
  refine⟨_,_,rfl,⟨by omega,BL.of_lt (m:=9000) (by omega) (by exact Int.lt_of_lt_of_le (show _<(2 ^ 3:Int) by omega) (by decide))⟩,λp q' _=>hK _ ⟨(p,q'),rfl⟩⟩
 rintro ρ ⟨y,rfl⟩
 walk_at "rd"
 obtain⟨b0,b1⟩:=aY (a:=n) (b:=2) (by decide)
 exact⟨cT,(BL.const (n:=20)).mulOk (BL.of_lt (m:=20) (by omega) (by omega)),q (_,x,y)⟩
structure LeanOk (n:Nat) (f:P2):Prop where
 pos:0<f.2
 top:BL n f.1
 bot:BL n f.2
theorem LeanOk.mono {n m:Nat} {f:P2} (h:LeanOk n f) (k:n<=m):LeanOk m f:=⟨h.pos,h.top.mono k,h.bot.mono k⟩
theorem AU {xs:List D} {x:D} {Q:D->Prop} (h:xs.getLast? = some x):dIx (.lst xs) (.int (-1)) Q=Q x:=by simp only[dIx,rA h]
noncomputable def hE:FD:=λds Q=>∃n m:Int,ds=[.int n,.int m]/\(1<=m/\m<=5)/\∀fs:List P2,(fs.length:Int)=m->(∀f∈fs,LeanOk 40 f)->Q (pts fs)
theorem sE:∀ds Q,hE ds Q->ds.length=2:=by rintro ds Q ⟨_,_,rfl,_⟩;rfl
theorem yY {n:Nat} {a b t w p q:Int} (ha:BL n a) (hb:BL n b) (b0:0<b) (t0:1<=t) (t1:t<=3) (w0:1<=w) (w1:w<=3) (h:Low (a*w+t*b) (b*w) p q):LeanOk (n+5) (p,q):=by
 have bw:BL 2 w:=BL.of_lt (m:=2) (by omega) (by omega)
 have bt:BL 2 t:=BL.of_lt (m:=2) (by omega) (by omega)
 have h1:BL (n+2+1) (a*w+t*b):=by
  have:=(ha.mul bw).add (show BL (n+2) (t*b) by have:=bt.mul hb;rwa [Nat.add_comm] at this)
  rwa [Nat.max_self] at this
 exact⟨h.pos,(h1.le h.lea).mono (by omega),((hb.mul bw).le h.leb).mono (by omega)⟩
theorem kS:∀ds Q,hE ds Q->dG lV oG { nx:=λ_=>Q .non,rt:=Q } (aP ["_law_number","_law_many","_law_found","_law_k","_law_top","_law_bottom"] ds):=by
 rintro ds Q ⟨n,m,rfl,⟨m0,m1⟩,q⟩
 rw[aS 4 rfl]
 unfold dG
 simp only[bS,xN,List.map_cons,List.map_nil,List.cons_append,List.nil_append]
 refine aR (λρ=>∃f:P2,LeanOk 10 f/\ρ=[some (.d (.int n)),some (.d (.int m)),some (.own ([f].map pt)),none,none,none]) (λK hK=>?_) ?_
 ·walk_at "rd"
  obtain⟨a0,a1⟩:=aY (a:=n) (b:=9) (by decide)
  obtain⟨b0,b1⟩:=aY (a:=n.fdiv 9) (b:=2) (by decide)
  refine⟨cT,(BL.const (n:=9000) (by decide)).divOk (by decide),cT,?_⟩
  have w:BL 10 (1+(n.fdiv 9).fmod 2):=BL.of_lt (m:=10) (by omega) (by omega)
  have t:BL 10 (n.fmod 9-4):=BL.of_lt (m:=10) (by omega) (by omega)
  refine⟨_,_,rfl,⟨by omega,w.mono (by decide)⟩,λp q' l=>hK _ ⟨(p,q'),⟨l.pos,t.le l.lea,w.le l.leb⟩,rfl⟩⟩
 rintro ρ ⟨f,hf,rfl⟩
 refine aR (λρ=>∃(fs:List P2) (u v w:Option S),((fs.length:Int)=m/\∀f∈fs,LeanOk 40 f)/\ρ=[some (.d (.int n)),some (.d (.int m)),some (.own (fs.map pt)),u,v,w]) (λK hK=>?_) ?_
 ·simp only[dC,oD,aB,aI,r2,fV,aE,rC,List.getElem?_cons_zero,List.getElem?_cons_succ,L2.R2.S.val]
  refine⟨⟨by omega,by omega⟩,?_⟩
  refine pY 0 (m-1).toNat (λi ρ=>∃(gs:List P2) (g:P2) (u v w:Option S),(gs.length=i/\(∀f∈gs++[g],LeanOk 40 f)/\LeanOk (10+5*i) g)/\ρ=[some (.d (.int n)),some (.d (.int m)),some (.own ((gs++[g]).map pt)),u,v,w]) ?_ ?_ _ ⟨[],f,none,none,none,⟨rfl,λz hz=>by rw[List.mem_singleton.mp hz];exact hf.mono (by decide),hf⟩,rfl⟩
  ·rintro i ρ hi ⟨gs,g,u,v,w,⟨hl,hall,hg⟩,rfl⟩ F hr hb hn hc
   have hlast:((gs++[g]).map pt).getLast? = some (.tup [.int g.1,.int g.2]):=by rw[List.map_append,List.map_cons,List.map_nil,List.getLast?_concat]
   unfold fD
   walk_at "rd"
   refine⟨(BL.const (n:=9000) (by decide)).divOk (by decide),?_⟩
   refine⟨_,_,_,rfl,⟨by decide,BL.const (by decide)⟩,⟨by omega,by omega⟩,λt t0 t1=>?_⟩
   walk_at "rd"
   refine⟨(BL.const (n:=9000) (by decide)).divOk (by decide),?_⟩
   refine⟨_,_,_,rfl,⟨by decide,BL.const (by decide)⟩,⟨by omega,by omega⟩,λy y0 y1=>?_⟩
   obtain⟨c0,c1⟩:=aY (a:=y) (b:=3) (by decide)
   walk_at "rd"
   simp only[AU hlast]
   walk_at "rd"
   have bw:BL 2 (1+y.fmod 3):=BL.of_lt (m:=2) (by omega) (by omega)
   have bt:BL 2 (1+t):=BL.of_lt (m:=2) (by omega) (by omega)
   have g4:=hall g (List.mem_append_right _ (.head _))
   refine⟨cT,g4.top.mulOk bw,bt.mulOk g4.bot,g4.bot.mulOk bw,?_⟩
   refine⟨_,_,rfl,⟨Int.mul_pos hg.pos (by omega),(hg.bot.mul bw).mono (by omega)⟩,λp q' l=>?_⟩
   have nw:=yY hg.top hg.bot hg.pos (by omega) (by omega) (by omega) (by omega) l
   refine⟨eN (by rw[List.length_map,List.length_append];simp;omega),hn _ ⟨gs++[g],(p,q'),_,_,_,⟨by simp;omega,λz hz=>?_,nw.mono (by omega)⟩,by rw[show (gs++[g]++[(p,q')]).map pt=(gs++[g]).map pt++[fr p q'] from List.map_append]⟩⟩
   rcases List.mem_append.mp hz with hz | hz
   ·exact hall z hz
   ·rw[List.mem_singleton.mp hz];exact nw.mono (by omega)
  ·rintro ρ ⟨gs,g,u,v,w,⟨hl,hall,hg⟩,rfl⟩
   exact hK _ ⟨gs++[g],u,v,w,⟨by simp;omega,hall⟩,rfl⟩
 rintro ρ ⟨fs,u,v,w,⟨hl,hall⟩,rfl⟩
 simp only[kM,S.fz,bO,aO,List.getElem?_cons_zero,List.getElem?_cons_succ,List.set_cons_zero,List.set_cons_succ]
 exact q fs hl hall
noncomputable def hV:FD:=λds Q=>∃(s t:P2) (b:Bool),ds=[pt s,pt t,.bl b]/\(LeanOk 40 s/\LeanOk 40 t)/\∀w:Wd,Q (wdD w)
theorem sH:∀ds Q,hV ds Q->ds.length=3:=by rintro ds Q ⟨_,_,_,rfl,_⟩;rfl
theorem GD {share:Int} {a b c:P2} {Q:D->Prop} (h0:0<share) (h1:BL 100 share) (q:∀w:Wd,Q (wdD w)):qX [.int share,pts [a,b,c]] Q:=by
 refine⟨share,[a,b,c],rfl,⟨h0,h1⟩,⟨by simp,by simp⟩,λm sh zs j d=>?_⟩
 have l:(turned j zs).length=3:=by
  rw[uH (Nat.le_of_lt d.j_lt),d.len];rfl
 match hz:turned j zs,l with
 | [x,y,z],_=>exact q (sh,x,y,z)
theorem kU:∀ds Q,hV ds Q->dI qX { nx:=λ_=>Q .non,rt:=Q } (aP ["_law_s","_law_t","_law_opening","_law_share","_law_low","_law_high"] ds):=by
 rintro ds Q ⟨s,t,b,rfl,⟨hs,ht⟩,q⟩
 rw[aS 3 rfl]
 unfold dI
 simp only[bS,sV,List.map_cons,List.map_nil,List.cons_append,List.nil_append]
 have sp:0<s.2*t.2:=Int.mul_pos hs.pos ht.pos
 have sb:BL 100 (s.2*t.2):=(hs.bot.mul ht.bot).mono (by decide)
 refine aR (λρ=>ρ=[some (.d (pt s)),some (.d (pt t)),some (.d (.bl b)),some (.d (.int (s.2*t.2))),none,none]) (λK hK=>?_) ?_
 ·walk_at "rd"
  exact⟨hs.bot.mulOk ht.bot,hK _ rfl⟩
 rintro ρ rfl
 refine aR (λρ=>ρ=[some (.d (pt s)),some (.d (pt t)),some (.d (.bl b)),some (.d (.int (s.2*t.2))),some (.d (.int (s.1*t.2))),none]) (λK hK=>?_) ?_
 ·walk_at "rd"
  exact⟨hs.top.mulOk ht.bot,hK _ rfl⟩
 rintro ρ rfl
 refine aR (λρ=>ρ=[some (.d (pt s)),some (.d (pt t)),some (.d (.bl b)),some (.d (.int (s.2*t.2))),some (.d (.int (s.1*t.2))),some (.d (.int (t.1*s.2)))]) (λK hK=>?_) ?_
 ·walk_at "rd"
  exact⟨ht.top.mulOk hs.bot,hK _ rfl⟩
 rintro ρ rfl
 cases b with
 | true =>
  walk_at "rd"
  exact GD (a:=(0,0)) (b:=(s.2*t.2,s.1*t.2)) (c:=(s.2*t.2,t.1*s.2)) sp sb q
 | false =>
  walk_at "rd"
  exact GD (a:=(0,0)) (b:=(s.2*t.2,t.1*s.2)) (c:=(0,t.1*s.2-s.1*t.2)) sp sb q
end K33
namespace K33
structure Placed (m:Nat) (es:List Ent):Prop where
 len:es.length<=10
 pl:∀e∈es,0<=e.1/\e.1+1<(m:Int)
theorem Placed.snoc {m:Nat} {es:List Ent} {e:Ent} (l:es.length<=9) (h:∀e∈es,0<=e.1/\e.1+1<(m:Int)) (he:0<=e.1/\e.1+1<(m:Int)):∀x∈es++[e],0<=x.1/\x.1+1<(m:Int):=λx hx=>by
 rcases List.mem_append.mp hx with hx | hx
 ·exact h x hx
 ·rw[List.mem_singleton.mp hx];exact he
noncomputable abbrev esD (es:List Ent):D:=.lst (es.map enD)
theorem qP {fs:List P2} {i:Int} {Q:D->Prop} (h0:0<=i) (h1:i<fs.length) (q:∀f,fs[i.toNat]? = some f->Q (pt f)):dIx (pts fs) (.int i) Q:=by
 have hj:i.toNat<fs.length:=by omega
 exact uN (xZ (j:=i.toNat) (by omega) (by rw[List.getElem?_map,List.getElem?_eq_getElem hj];rfl)) (q _ (List.getElem?_eq_getElem hj))
noncomputable def gZ:FD:=λds Q=>∃(ns:List Int) (fs:List P2),ds=[il ns,pts fs]/\(2<=fs.length/\fs.length<=5)/\(∀f∈fs,LeanOk 40 f)/\∀os cs:List Ent,Placed fs.length os->Placed fs.length cs->Q (.lst [esD os,esD cs])
theorem sD:∀ds Q,gZ ds Q->ds.length=2:=by rintro ds Q ⟨_,_,rfl,_⟩;rfl
theorem kR:∀ds Q,gZ ds Q->cK fX iZ hV { nx:=λ_=>Q .non,rt:=Q } (aP ["_law_script","_law_leans_here","_law_found","_law_k","_law_cell_here","_law_place","_law_piece"] ds):=by
 rintro ds Q ⟨ns,fs,rfl,⟨l0,l1⟩,hf,q⟩
 rw[aS 5 rfl]
 unfold cK
 simp only[bS,xO,List.map_cons,List.map_nil,List.cons_append,List.nil_append]
 refine aR (λρ=>ρ=[some (.d (il ns)),some (.d (pts fs)),some (.box false [[],[]]),none,none,none,none]) (λK hK=>?_) ?_
 ·simp only[zZ,List.set_cons_zero,List.set_cons_succ]
  exact hK _ rfl
 rintro ρ rfl
 have lp:(0:Int)<(fs.length:Int)-1:=by omega
 refine aR (λρ=>∃(os cs:List Ent) (u v w x:Option S),(Placed fs.length os/\Placed fs.length cs)/\ρ=[some (.d (il ns)),some (.d (pts fs)),some (.box false [os.map enD,cs.map enD]),u,v,w,x]) (λK hK=>?_) ?_
 ·walk_at "rd"
  rw[List.length_map]
  have hm:(if (12:Int)<(ns.length:Int) then 12 else (ns.length:Int))<=12:=by split <;> omega
  have hm0:0<=(if (12:Int)<(ns.length:Int) then 12 else (ns.length:Int)):=by split <;> omega
  generalize (if (12:Int)<(ns.length:Int) then 12 else (ns.length:Int))=M at *
  refine⟨⟨⟨by decide,by decide⟩,⟨by omega,by omega⟩⟩,?_⟩
  refine pY 2 (M-2).toNat (λi ρ=>∃(os cs:List Ent) (u v w x:Option S),(os.length+cs.length=i/\(∀e∈os,0<=e.1/\e.1+1<(fs.length:Int))/\∀e∈cs,0<=e.1/\e.1+1<(fs.length:Int))/\ρ=[some (.d (il ns)),some (.d (pts fs)),some (.box false [os.map enD,cs.map enD]),u,v,w,x]) ?_ ?_ _ ⟨[],[],none,none,none,none,⟨rfl,λe h=>(by cases h),λe h=>(by cases h)⟩,rfl⟩
  ·rintro i ρ hi ⟨os,cs,u,v,w,x,⟨hl,ho,hc⟩,rfl⟩ F hr hb hn _
   have hi10:i<=9:=by omega
   unfold eJ
   simp only[aT,List.set_cons_zero,List.set_cons_succ]
   refine aR (λρ=>∃c:Int,(0<=c/\c<big)/\ρ=[some (.d (il ns)),some (.d (pts fs)),some (.box false [os.map enD,cs.map enD]),some (.d (.int (2+i))),some (.d (.int c)),w,x]) (λK2 hK2=>?_) ?_
   ·simp only[bI,bA,aB,aI,aO,List.getElem?_cons_zero,List.getElem?_cons_succ,List.set_cons_zero,List.set_cons_succ]
    exact⟨ns,_,rfl,by omega,λc c0 c1=>hK2 _ ⟨c,⟨c0,c1⟩,rfl⟩⟩
   rintro ρ ⟨c,⟨c0,c1⟩,rfl⟩
   have bc:=DU c0 c1
   refine aR (λρ=>∃p:Int,(0<=p/\p+1<(fs.length:Int))/\ρ=[some (.d (il ns)),some (.d (pts fs)),some (.box false [os.map enD,cs.map enD]),some (.d (.int (2+i))),some (.d (.int c)),some (.d (.int p)),x]) (λK2 hK2=>?_) ?_
   ·walk_at "rd"
    rw[List.length_map]
    obtain⟨a0,a1⟩:=aY (a:=c.fdiv 2) lp
    exact⟨(BL.const (n:=9000) (by decide)).divOk (by decide),⟨by omega⟩,hK2 _ ⟨_,⟨a0,by omega⟩,rfl⟩⟩
   rintro ρ ⟨p,hp,rfl⟩
   refine aR (λρ=>∃p:Int,(0<=p/\p+1<(fs.length:Int))/\ρ=[some (.d (il ns)),some (.d (pts fs)),some (.box false [os.map enD,cs.map enD]),some (.d (.int (2+i))),some (.d (.int c)),some (.d (.int p)),x]) (λK2 hK2=>?_) ?_
   ·walk_at "rd"
    refine⟨ns,1,rfl,by decide,λy y0 y1=>?_⟩
    walk_at "rd"
    refine⟨cT,?_⟩
    split
    ·refine⟨ns,1,rfl,by decide,λz z0 z1=>?_⟩
     walk_at "rd"
     rw[List.length_map]
     obtain⟨a0,a1⟩:=aY (a:=z.fdiv 3) lp
     exact⟨(BL.const (n:=9000) (by decide)).divOk (by decide),⟨by omega⟩,hK2 _ ⟨_,⟨a0,by omega⟩,rfl⟩⟩
    ·exact hK2 _ ⟨p,hp,rfl⟩
   clear hp p
   rintro ρ ⟨p,hp,rfl⟩
   refine aR (λρ=>∃wd:Wd,ρ=[some (.d (il ns)),some (.d (pts fs)),some (.box false [os.map enD,cs.map enD]),some (.d (.int (2+i))),some (.d (.int c)),some (.d (.int p)),some (.d (wdD wd))]) (λK2 hK2=>?_) ?_
   ·walk_at "rd"
    refine qP hp.1 (by omega) λs hs=>?_
    refine qP (by omega) (by omega) λt ht=>?_
    refine⟨cT,s,t,_,rfl,⟨hf s (List.mem_of_getElem? hs),hf t (List.mem_of_getElem? ht)⟩,λwd=>hK2 _ ⟨wd,rfl⟩⟩
   rintro ρ ⟨wd,rfl⟩
   obtain⟨d0,d1⟩:=aY (a:=c) (b:=2) (by decide)
   have bn:BL 210 (c.fdiv 8+31*(2+(i:Int))):=by
    have h1:=BI (a:=c) (b:=8) c0 (by decide)
    have h2:big<((2 ^ 200:Nat):Int):=by decide
    have h3:((2 ^ 200:Nat):Int)+1000<((2 ^ 210:Nat):Int):=by decide
    exact BL.of_lt (by omega) (by omega)
   have done:∀xss:List (List D),(∃(os' cs':List Ent),(os'.length+cs'.length=i+1/\(∀e∈os',0<=e.1/\e.1+1<(fs.length:Int))/\∀e∈cs',0<=e.1/\e.1+1<(fs.length:Int))/\xss=[os'.map enD,cs'.map enD])->F.nx [some (.d (il ns)),some (.d (pts fs)),some (.box false xss),some (.d (.int (2+i))),some (.d (.int c)),some (.d (.int p)),some (.d (wdD wd))]:=by
    rintro xss ⟨os',cs',h1,rfl⟩
    exact hn _ ⟨os',cs',_,_,_,_,h1,rfl⟩
   simp only[vH,r2,cO,aE,rC,L2.R2.S.val,List.getElem?_cons_zero,List.getElem?_cons_succ]
   refine⟨cT,?_⟩
   by_cases h2:c.fmod 2=0
   ·refine⟨0,os.map enD,⟨h2,rfl,eN (by rw[List.length_map];omega)⟩,?_⟩
    walk_at "rd"
    refine⟨(BL.const (n:=9000) (by decide)).divOk (by decide),(BL.const (n:=20)).mulOk (BL.of_lt (m:=20) (by omega) (by omega)),?_⟩
    refine⟨_,rfl,bn,λm=>?_⟩
    refine done _ ⟨os++[(p,(wd,m))],cs,⟨by simp;omega,Placed.snoc (by omega) ho hp,hc⟩,?_⟩
    rw[List.map_append];rfl
   ·refine⟨1,cs.map enD,⟨by omega,rfl,eN (by rw[List.length_map];omega)⟩,?_⟩
    walk_at "rd"
    refine⟨(BL.const (n:=9000) (by decide)).divOk (by decide),(BL.const (n:=20)).mulOk (BL.of_lt (m:=20) (by omega) (by omega)),?_⟩
    refine⟨_,rfl,bn,λm=>?_⟩
    refine done _ ⟨os,cs++[(p,(wd,m))],⟨by simp;omega,ho,Placed.snoc (by omega) hc hp⟩,?_⟩
    rw[List.map_append];rfl
  ·rintro ρ ⟨os,cs,u,v,w,x,⟨hl,ho,hc⟩,rfl⟩
   exact hK _ ⟨os,cs,u,v,w,x,⟨⟨by omega,ho⟩,⟨by omega,hc⟩⟩,rfl⟩
 rintro ρ ⟨os,cs,u,v,w,x,⟨ho,hc⟩,rfl⟩
 simp only[kM,S.fz,bO,aO,List.getElem?_cons_zero,List.getElem?_cons_succ,List.set_cons_zero,List.set_cons_succ]
 exact q os cs ho hc
end K33
namespace K33
theorem seqN_by {t u:RS} {E:DEnds} {ρ:En} (I:En->Prop) (h1:∀K:En->Prop,(∀ρ',I ρ'->K ρ')->t { nx:=K,rt:=λ_=>False } ρ) (h2:∀ρ',I ρ'->u E ρ'):kA t u E ρ:=h1 (u E) h2
theorem wE {xs:List D} {j:Nat} (h:xs.length<=j):jG xs (some (j:Int)) none=[]:=by
 unfold jG
 rw[HT.sIx_nat,Nat.min_eq_right h,List.drop_of_length_le (Nat.le_refl _),List.take_nil]
end K33
namespace K33
noncomputable abbrev ky:Ent->Int:=λe=>e.1
noncomputable abbrev AO (es:List Ent):D:=.lst (es.map λe=>btD e.2)
noncomputable def kvG (es:List Ent):List (Int × List D):=es.foldl (λm e=>cY m e.1 (btD e.2)) []
theorem gO (es:List Ent) (e:Ent):kvG (es++[e])=cY (kvG es) e.1 (btD e.2):=by unfold kvG;rw[List.foldl_append];rfl
structure KvG (es:List Ent):Prop where
 sz:(kvG es).length<=es.length/\∀p∈kvG es,p.2.length<=es.length
 nd:((kvG es).map (·.1)).Nodup
 mem:∀c,c∈(kvG es).map (·.1)↔∃e∈es,e.1=c
 at':∀c,fR (kvG es) c=(grp ky es c).map λe=>btD e.2
theorem yV (es:List Ent):KvG es:=by
 refine ET.snoc_ind (P:=KvG) ?_ ?_ es
 ·exact⟨⟨Nat.le_refl _,λp h=>by cases h⟩,List.nodup_nil,λc=>⟨λh=>(by cases h),λ⟨e,h,_⟩=>(by cases h)⟩,λc=>rfl⟩
 ·rintro E e ⟨⟨h1,h2⟩,h3,h4,h5⟩
  refine⟨by rw[gO,List.length_append];exact qR _ _ _ _ h1 h2,?_,λc=>?_,λc=>?_⟩
  ·rw[gO,gN]
   split
   ·exact h3
   ·rename_i n
    exact List.nodup_append.mpr ⟨h3,List.pairwise_singleton _ _,λa ha b hb e'=>n (by rw[List.mem_singleton.mp hb] at e';exact e' ▸ ha)⟩
  ·rw[gO,gN]
   split
   ·rename_i m
    rw[h4 c]
    constructor
    ·rintro⟨x,hx,rfl⟩;exact⟨x,List.mem_append_left _ hx,rfl⟩
    ·rintro⟨x,hx,rfl⟩
     rcases List.mem_append.mp hx with hx | hx
     ·exact⟨x,hx,rfl⟩
     ·rw[List.mem_singleton.mp hx];exact (h4 _).mp m
   ·rw[List.mem_append,h4 c,List.mem_singleton]
    constructor
    ·rintro (⟨x,hx,rfl⟩ | rfl)
     ·exact⟨x,List.mem_append_left _ hx,rfl⟩
     ·exact⟨e,List.mem_append_right _ (.head _),rfl⟩
    ·rintro⟨x,hx,rfl⟩
     rcases List.mem_append.mp hx with hx | hx
     ·exact .inl ⟨x,hx,rfl⟩
     ·rw[List.mem_singleton.mp hx];exact .inr rfl
  ·rw[gO,mR,h5 c,grp,grp,List.filter_append,List.map_append]
   by_cases hc:e.1=c
   ·rw[if_pos hc];simp[ky,hc]
   ·rw[if_neg hc];simp[ky,hc]
theorem uP:∀(kvs:List (Int × List D)) (c:Int),c ∉ kvs.map (·.1)->dL (kvs.map (·.1)) (kvs.map λp=>.lst p.2) c=none
 | [],_,h=>rfl
 | (k',ds)::r,c,h=>by
  simp only[List.map_cons,dL]
  rw[List.map_cons,List.mem_cons,not_or] at h
  rw[if_neg λe=>h.1 e.symm]
  exact uP r c h.2
structure Grp (es:List Ent) (ks:List Int) (xs:List D):Prop where
 len:ks.length=xs.length
 kl:ks.length<=es.length
 nodup:ks.Nodup
 mem:∀c,c∈ks↔∃e∈es,e.1=c
 here:∀c∈ks,dL ks xs c=some (AO (grp ky es c))
 get:∀c,(dL ks xs c).getD (.lst [])=AO (grp ky es c)
theorem GJ (es:List Ent):Grp es ((kvG es).map (·.1)) ((kvG es).map λp=>.lst p.2):=by
 obtain⟨⟨h1,h2⟩,h3,h4,h5⟩:=yV es
 have here:∀c∈(kvG es).map (·.1),dL ((kvG es).map (·.1)) ((kvG es).map λp=>.lst p.2) c=some (AO (grp ky es c)):=λc hc=>by rw[rN _ c hc,h5 c]
 refine⟨by simp,by simpa using h1,h3,h4,here,λc=>?_⟩
 by_cases hc:c∈(kvG es).map (·.1)
 ·rw[here c hc];rfl
 ·rw[uP _ c hc]
  have:grp ky es c=[]:=Classical.byContradiction λn=>hc ((h4 c).mpr (jU n))
  rw[this];rfl
noncomputable def lU:FD:=λds Q=>∃es:List Ent,ds=[esD es]/\es.length<=10/\∀ks xs,Grp es ks xs->Q (.dct ks xs)
theorem wU:∀ds Q,lU ds Q->ds.length=1:=by rintro ds Q ⟨_,rfl,_⟩;rfl
theorem iG:∀ds Q,lU ds Q->bZ { nx:=λ_=>Q .non,rt:=Q } (aP ["triangles","groups","number","bit"] ds):=by
 rintro ds Q ⟨es,rfl,hl,q⟩
 rw[aS 3 rfl]
 unfold bZ
 simp only[bS,sV,List.map_cons,List.map_nil,List.cons_append,List.nil_append]
 refine aR (λρ=>ρ=[some (.d (esD es)),some (.dcl (kvG [])),none,none]) (λK hK=>?_) ?_
 ·walk_at "rd"
  exact hK _ rfl
 rintro ρ rfl
 refine aR (λρ=>∃u v,ρ=[some (.d (esD es)),some (.dcl (kvG es)),u,v]) (λK hK=>?_) ?_
 ·simp only[dC,riL,aO,List.getElem?_cons_zero]
  refine mJ _ (λi ρ=>∃u v,ρ=[some (.d (esD es)),some (.dcl (kvG (es.take i))),u,v]) ?_ ?_ _ ⟨_,_,rfl⟩
  ·rintro i x ρ hx ⟨u,v,rfl⟩ F hr hb hn hc
   rw[List.getElem?_map] at hx
   cases he:es[i]? with
   | none=>rw[he] at hx;cases hx
   | some e =>
    rw[he] at hx
    cases hx
    have et:es.take (i+1)=es.take i++[e]:=by rw[List.take_succ,he];rfl
    obtain⟨⟨k1,k2⟩,_⟩:=yV (es.take i)
    have tl:(es.take i).length<=10:=by rw[List.length_take];omega
    unfold dO enD
    simp only[eM,bF,dP,aT,vJ,aO,List.length_cons,List.length_nil,List.getElem?_cons_zero,List.getElem?_cons_succ,List.set_cons_zero,List.set_cons_succ,true_and]
    refine⟨eN (by omega),λp hp=>eN (by have:=k2 p hp;omega),?_⟩
    refine hn _ ⟨some (.d (.int e.1)),some (.d (btD e.2)),?_⟩
    rw[et,gO]
  ·rintro ρ ⟨u,v,rfl⟩
   rw[List.length_map,List.take_length]
   exact hK _ ⟨u,v,rfl⟩
 rintro ρ ⟨u,v,rfl⟩
 simp only[kM,S.fz,bO,aO,List.getElem?_cons_zero,List.getElem?_cons_succ,List.set_cons_zero,List.set_cons_succ]
 exact q _ _ (GJ es)
noncomputable def Hgt (fs:List P2) (c:Int) (h:P2):Prop:=∃s t:P2,fs[c.toNat]? = some s/\fs[(c+1).toNat]? = some t/\Low (t.1*s.2-s.1*t.2) (t.2*s.2) h.1 h.2
noncomputable def fH:FD:=λds Q=>∃(c:Int) (x y:D) (fs:List P2),ds=[.int c,x,y,pts fs]/\(0<=c/\c+1<(fs.length:Int))/\(∀f∈fs,LeanOk 40 f)/\∀h,Hgt fs c h->Q (.tup [.int c,pt h,.lst [x,y]])
theorem qG:∀ds Q,fH ds Q->ds.length=4:=by rintro ds Q ⟨_,_,_,_,rfl,_⟩;rfl
theorem oB:∀ds Q,fH ds Q->iD cP { nx:=λ_=>Q .non,rt:=Q } (aP ["number","one","other","leans"] ds):=by
 rintro ds Q ⟨c,x,y,fs,rfl,⟨c0,c1⟩,hf,q⟩
 rw[aS 0 rfl]
 unfold iD
 walk_at "rd"
 refine qP (by omega) (by omega) λt ht=>?_
 refine qP c0 (by omega) λs hs=>?_
 have os:=hf s (List.mem_of_getElem? hs)
 have ot:=hf t (List.mem_of_getElem? ht)
 refine⟨t.1,t.2,s.1,s.2,rfl,⟨ot.pos,os.pos⟩,⟨ot.top.mono (by decide),ot.bot.mono (by decide),os.top.mono (by decide),os.bot.mono (by decide)⟩,λp q' l=>?_⟩
 walk_at "rd"
 exact q (p,q') ⟨s,t,hs,ht,l⟩
noncomputable def lW:FD:=λds Q=>∃(es fs:List Ent) (ks ks':List Int) (xs xs':List D),ds=[.dct ks xs,.dct ks' xs']/\(Grp es ks xs/\Grp fs ks' xs')/\es.length<=10/\∀cs,cs.Perm ks->Q (esD (bM ky es fs cs))
theorem sF:∀ds Q,lW ds Q->ds.length=2:=by rintro ds Q ⟨_,_,_,_,_,_,rfl,_⟩;rfl
theorem uX {es:List Ent} {c:Int} {e:Ent} (h:e∈grp ky es c):e.1=c:=of_decide_eq_true (List.mem_filter.mp h).2
theorem kW:∀ds Q,lW ds Q->cX { nx:=λ_=>False,rt:=Q } (aP ["groups","partners","rest","number","used"] ds):=by
 rintro ds Q ⟨es,fs,ks,ks',xs,xs',rfl,⟨g,g'⟩,el,q⟩
 rw[aS 3 rfl]
 unfold cX
 simp only[bS,sV,List.map_cons,List.map_nil,List.cons_append,List.nil_append]
 refine K33.seqN_by (λρ=>ρ=[some (.d (.dct ks xs)),some (.d (.dct ks' xs')),some (.own []),none,none]) (λK hK=>?_) ?_
 ·walk_at "rd"
  exact hK _ rfl
 rintro ρ rfl
 refine K33.seqN_by (λρ=>∃(cs:List Int) (u v:Option S),cs.Perm ks/\ρ=[some (.d (.dct ks xs)),some (.d (.dct ks' xs')),some (.own ((bM ky es fs cs).map enD)),u,v]) (λK hK=>?_) ?_
 ·simp only[dC,riL,nD,nB,aO,List.getElem?_cons_zero,List.getElem?_cons_succ]
  refine⟨ks,xs,rfl,g.len,ks,rfl,by have:=g.kl;omega,λcs pm srt=>?_⟩
  have nd:cs.Nodup:=pm.nodup_iff.mpr g.nodup
  have inn:∀e∈es,ky e∈cs:=λe he=>pm.mem_iff.mpr ((g.mem _).mpr ⟨e,he,rfl⟩)
  have fit:∀d t,cs=d++t->(bM ky es fs d).length<=10:=λd t e=>by
   have:=(eY (fs:=fs) nd inn).1
   rw[e,bM,List.flatMap_append,List.length_append] at this
   exact Nat.le_trans (Nat.le_trans (Nat.le_add_right _ _) this) el
  refine cI (λys ρ=>∃done todo:List Int,cs=done++todo/\ys=todo.map .int/\∃u v,ρ=[some (.d (.dct ks xs)),some (.d (.dct ks' xs')),some (.own ((bM ky es fs done).map enD)),u,v]) ?_ ?_ _ _ ⟨[],cs,rfl,rfl,none,none,rfl⟩
  ·rintro x ys ρ ⟨done,todo,ec,exs,u,v,rfl⟩ F hr hb hn hc
   cases todo with
   | nil=>cases exs
   | cons c todo =>
    rw[List.map_cons] at exs
    injection exs with ex exs
    subst ex exs
    have hc:c∈ks:=pm.mem_iff.mp (by rw[ec];exact List.mem_append_right _ (.head _))
    unfold eP
    simp only[aT,List.set_cons_zero,List.set_cons_succ]
    refine aR (λρ=>ρ=[some (.d (.dct ks xs)),some (.d (.dct ks' xs')),some (.own ((bM ky es fs done).map enD)),some (.d (.int c)),some (.d (.int ((grp ky fs c).length:Nat)))]) (λK2 hK2=>?_) ?_
    ·simp only[bI,r1,fJ,sS,aO,dU,aI,List.getElem?_cons_zero,List.getElem?_cons_succ,List.set_cons_zero,List.set_cons_succ]
     refine⟨sz0,?_⟩
     rw[g'.get c]
     dsimp only
     rw[List.length_map]
     exact hK2 _ rfl
    rintro ρ rfl
    have dl:((grp ky es c).drop (grp ky fs c).length).length<=10:=by
     rw[List.length_drop]
     have:(grp ky es c).length<=es.length:=List.length_filter_le _ _
     omega
    have nw:bM ky es fs (done++[c])=bM ky es fs done++(grp ky es c).drop (grp ky fs c).length:=by
     rw[bM,bM,List.flatMap_append];simp
    simp only[pB,gS,riL,nC,gT,cV,r2,wF,aO,gA,mB,sU,List.map_cons,List.map_nil,List.cons_append,List.nil_append,List.getElem?_cons_zero,List.getElem?_cons_succ]
    refine⟨_,g.here c hc,?_⟩
    have hcut:jG ((grp ky es c).map λe=>btD e.2) (some ((grp ky fs c).length:Int)) none=(((grp ky es c).drop (grp ky fs c).length)).map λe=>btD e.2:=by
     by_cases hle:(grp ky fs c).length<=(grp ky es c).length
     ·rw[kK (by simpa using hle),List.map_drop]
     ·rw[wE (by simp;omega),List.drop_of_length_le (by omega)];rfl
    dsimp only[AO]
    rw[hcut]
    refine⟨eN (by rw[List.length_map];omega),?_⟩
    refine mD (λρ=>∃u,ρ=[u,some (.d (.int c))]) (λe:Ent=>btD e.2) (λe:Ent=>.tup [.int c,btD e.2]) ((grp ky es c).drop (grp ky fs c).length) ?_ ⟨_,rfl⟩ ?_
    ·rintro e he ρ ⟨u,rfl⟩ K' hK'
     walk_at "rd"
     exact hK' _ ⟨_,rfl⟩
    ·have em:((grp ky es c).drop (grp ky fs c).length).map (λe:Ent=>D.tup [.int c,btD e.2])=((grp ky es c).drop (grp ky fs c).length).map enD:=List.map_congr_left λe he=>by
      have:=uX (List.mem_of_mem_drop he)
      unfold enD;rw[this]
     rw[em]
     have f1:=fit done (c::todo) ec
     refine⟨eN (by rw[List.length_map,List.length_map];omega),hn _ ⟨done++[c],todo,by rw[ec];simp,rfl,some (.d (.int c)),some (.d (.int ((grp ky fs c).length:Nat))),?_⟩⟩
     rw[nw,List.map_append]
     rfl
  ·rintro ρ ⟨done,todo,ec,exs,u,v,rfl⟩
   have:todo=[]:=by cases todo with | nil=>rfl | cons _ _=>cases exs
   subst this
   rw[List.append_nil] at ec
   subst ec
   exact hK _ ⟨cs,u,v,pm,rfl⟩
 rintro ρ ⟨cs,u,v,pm,rfl⟩
 simp only[vO,List.getElem?_cons_zero,List.getElem?_cons_succ]
 exact q cs pm
end K33
namespace K33
noncomputable def bxD (p:Ent × Ent) (h:P2):D:=.tup [.int p.1.1,pt h,.lst [btD p.1.2,btD p.2.2]]
inductive Bxs (fs:List P2):List (Ent × Ent)->List D->Prop
 | nil:Bxs fs [] []
 | cons {p:Ent × Ent} {ps:List (Ent × Ent)} {h:P2} {ds:List D}:Hgt fs p.1.1 h->Bxs fs ps ds->Bxs fs (p::ps) (bxD p h::ds)
theorem Bxs.snoc {fs:List P2} {ps:List (Ent × Ent)} {ds:List D} {p:Ent × Ent} {h:P2} (b:Bxs fs ps ds) (hh:Hgt fs p.1.1 h):Bxs fs (ps++[p]) (ds++[bxD p h]):=by
 induction b with
 | nil=>exact .cons hh .nil
 | cons h1 _ ih=>exact .cons h1 ih
theorem Bxs.len {fs:List P2} {ps:List (Ent × Ent)} {ds:List D} (b:Bxs fs ps ds):ds.length=ps.length:=by
 induction b with
 | nil=>rfl
 | cons _ _ ih=>rw[List.length_cons,List.length_cons,ih]
structure PairOf (os cs:List Ent) (fs:List P2) (ks1 ks2:List Int) (rows:List D):Prop where
 nd1:ks1.Nodup
 nd2:ks2.Nodup
 in1:∀e∈os,ky e∈ks1
 in2:∀e∈cs,ky e∈ks2
 bx:Bxs fs (cU ky os cs ks1) rows
noncomputable def fI:FD:=λds Q=>∃(os cs:List Ent) (fs:List P2),ds=[esD os,esD cs,pts fs]/\(Placed fs.length os/\Placed fs.length cs)/\(∀f∈fs,LeanOk 40 f) /\
 ∀ks1 ks2 ks3 rows,PairOf os cs fs ks1 ks3 rows->ks2.Nodup->(∀e∈os,ky e∈ks2)->Q (.tup [.lst rows,esD (bM ky os cs ks2),esD (bM ky cs os ks3)])
theorem qH:∀ds Q,fI ds Q->ds.length=3:=by rintro ds Q ⟨_,_,_,rfl,_⟩;rfl
theorem tD:∀(xs ys:List Ent),List.zipWith (λa b=>D.tup [a,b]) (xs.map λe=>btD e.2) (ys.map λe=>btD e.2)=(List.zip xs ys).map λp=>D.tup [btD p.1.2,btD p.2.2]
 | [],_=>by simp
 | _::_,[]=>rfl
 | x::xs,y::ys=>by
  rw[List.map_cons,List.map_cons,List.zipWith_cons_cons,tD xs ys,List.zip_cons_cons,List.map_cons]
theorem oC:∀ds Q,fI ds Q->eQ lU fH lW { nx:=λ_=>False,rt:=Q } (aP ["openings","closings","leans","opening_bits","closing_bits","boxes","number","one","other"] ds):=by
 rintro ds Q ⟨os,cs,fs,rfl,⟨ho,hc⟩,hf,q⟩
 rw[aS 6 rfl]
 unfold eQ
 simp only[bS,xP,List.map_cons,List.map_nil,List.cons_append,List.nil_append]
 refine K33.seqN_by (λρ=>∃ks xs,Grp os ks xs/\ρ=[some (.d (esD os)),some (.d (esD cs)),some (.d (pts fs)),some (.d (.dct ks xs)),none,none,none,none,none]) (λK hK=>?_) ?_
 ·simp only[bI,bA,aB,aI,aO,List.getElem?_cons_zero,List.getElem?_cons_succ,List.set_cons_zero,List.set_cons_succ]
  exact⟨os,rfl,ho.len,λks xs g=>hK _ ⟨ks,xs,g,rfl⟩⟩
 rintro ρ ⟨ks,xs,g,rfl⟩
 refine K33.seqN_by (λρ=>∃ks' xs',Grp cs ks' xs'/\ρ=[some (.d (esD os)),some (.d (esD cs)),some (.d (pts fs)),some (.d (.dct ks xs)),some (.d (.dct ks' xs')),none,none,none,none]) (λK hK=>?_) ?_
 ·simp only[bI,bA,aB,aI,aO,List.getElem?_cons_zero,List.getElem?_cons_succ,List.set_cons_zero,List.set_cons_succ]
  exact⟨cs,rfl,hc.len,λks' xs' g'=>hK _ ⟨ks',xs',g',rfl⟩⟩
 rintro ρ ⟨ks',xs',g',rfl⟩
 refine K33.seqN_by (λρ=>ρ=[some (.d (esD os)),some (.d (esD cs)),some (.d (pts fs)),some (.d (.dct ks xs)),some (.d (.dct ks' xs')),some (.own []),none,none,none]) (λK hK=>?_) ?_
 ·walk_at "rd"
  exact hK _ rfl
 rintro ρ rfl
 refine K33.seqN_by (λρ=>∃(ds:List Int) (rows:List D) (u v w:Option S),(ds.Perm ks/\Bxs fs (cU ky os cs ds) rows)/\ρ=[some (.d (esD os)),some (.d (esD cs)),some (.d (pts fs)),some (.d (.dct ks xs)),some (.d (.dct ks' xs')),some (.own rows),u,v,w]) (λK hK=>?_) ?_
 ·simp only[dC,riL,nD,nB,aO,List.getElem?_cons_zero,List.getElem?_cons_succ]
  refine⟨ks,xs,rfl,g.len,ks,rfl,by have:=g.kl;have:=ho.len;omega,λms pm srt=>?_⟩
  have nd:ms.Nodup:=pm.nodup_iff.mpr g.nodup
  have inn:∀e∈os,ky e∈ms:=λe he=>pm.mem_iff.mpr ((g.mem _).mpr ⟨e,he,rfl⟩)
  have fit:∀d t,ms=d++t->(cU ky os cs d).length<=10:=λd t e=>by
   have:=(eY (fs:=cs) nd inn).2
   rw[e,cU,List.flatMap_append,List.length_append] at this
   exact Nat.le_trans (Nat.le_trans (Nat.le_add_right _ _) this) ho.len
  refine cI (λys ρ=>∃done todo:List Int,ms=done++todo/\ys=todo.map .int/\∃rows u v w,Bxs fs (cU ky os cs done) rows/\ρ=[some (.d (esD os)),some (.d (esD cs)),some (.d (pts fs)),some (.d (.dct ks xs)),some (.d (.dct ks' xs')),some (.own rows),u,v,w]) ?_ ?_ _ _ ⟨[],ms,rfl,rfl,[],none,none,none,.nil,rfl⟩
  ·rintro x ys ρ ⟨done,todo,ec,exs,rows,u,v,w,hB,rfl⟩ F hr hb hn _
   cases todo with
   | nil=>cases exs
   | cons c todo =>
    rw[List.map_cons] at exs
    injection exs with ex exs
    subst ex exs
    have hck:c∈ks:=pm.mem_iff.mp (by rw[ec];exact List.mem_append_right _ (.head _))
    have fit2:=fit (done++[c]) todo (by rw[ec];simp)
    have nw:cU ky os cs (done++[c])=cU ky os cs done++List.zip (grp ky os c) (grp ky cs c):=by
     rw[cU,cU,List.flatMap_append];simp
    rw[nw,List.length_append] at fit2
    obtain⟨e0,he0,ek0⟩:=(g.mem c).mp hck
    have pl:=ho.pl e0 he0
    rw[ek0] at pl
    unfold gX
    simp only[aT,dC,nF,r2,wF,sS,aO,dU,aI,List.getElem?_cons_zero,List.getElem?_cons_succ,List.set_cons_zero,List.set_cons_succ]
    refine⟨_,g.here c hck,sz0,?_⟩
    rw[g'.get c]
    dsimp only
    rw[tD]
    refine cI (λys ρ=>∃d2 t2:List (Ent × Ent),List.zip (grp ky os c) (grp ky cs c)=d2++t2/\ys=t2.map (λp=>D.tup [btD p.1.2,btD p.2.2])/\∃rows v w,Bxs fs (cU ky os cs done++d2) rows/\ρ=[some (.d (esD os)),some (.d (esD cs)),some (.d (pts fs)),some (.d (.dct ks xs)),some (.d (.dct ks' xs')),some (.own rows),some (.d (.int c)),v,w]) ?_ ?_ _ _ ⟨[],_,rfl,rfl,rows,v,w,by rw[List.append_nil];exact hB,rfl⟩
    ·rintro x ys ρ ⟨d2,t2,eZ,exs,rows,v,w,hB2,rfl⟩ F2 hr2 hb2 hn2 _
     cases t2 with
     | nil=>cases exs
     | cons p t2 =>
      rw[List.map_cons] at exs
      injection exs with ex exs
      subst ex exs
      have hp:p∈List.zip (grp ky os c) (grp ky cs c):=by rw[eZ];exact List.mem_append_right _ (.head _)
      have k1:=uX (List.of_mem_zip (a:=p.1) (b:=p.2) hp).1
      unfold gW
      walk_at "rd"
      refine⟨c,_,_,fs,rfl,pl,hf,λh hh=>?_⟩
      have rl:=hB2.len
      rw[eZ,List.length_append,List.length_cons] at fit2
      rw[List.length_append] at rl
      refine⟨eN (by omega),hn2 _ ⟨d2++[p],t2,by rw[eZ];simp,rfl,rows++[bxD p h],some (.d (btD p.1.2)),some (.d (btD p.2.2)),?_,?_⟩⟩
      ·rw[<-List.append_assoc]
       exact hB2.snoc (by rw[k1];exact hh)
      ·unfold bxD;rw[k1]
    ·rintro ρ ⟨d2,t2,eZ,exs,rows,v,w,hB2,rfl⟩
     have:t2=[]:=by cases t2 with | nil=>rfl | cons _ _=>cases exs
     subst this
     rw[List.append_nil] at eZ
     refine hn _ ⟨done++[c],todo,by rw[ec];simp,rfl,rows,some (.d (.int c)),v,w,?_,rfl⟩
     rw[nw,eZ];exact hB2
  ·rintro ρ ⟨done,todo,ec,exs,rows,u,v,w,hB,rfl⟩
   have:todo=[]:=by cases todo with | nil=>rfl | cons _ _=>cases exs
   subst this
   rw[List.append_nil] at ec
   subst ec
   exact hK _ ⟨ms,rows,u,v,w,⟨pm,hB⟩,rfl⟩
 rintro ρ ⟨ms,rows,u,v,w,⟨pm,hB⟩,rfl⟩
 simp only[vN,qS,aB,aI,aO,List.getElem?_cons_zero,List.getElem?_cons_succ]
 refine⟨os,cs,ks,ks',xs,xs',rfl,⟨g,g'⟩,ho.len,λk2 p2=>?_⟩
 dsimp only
 refine⟨cs,os,ks',ks,xs',xs,rfl,⟨g',g⟩,hc.len,λk3 p3=>?_⟩
 dsimp only
 have inO:∀(l:List Int),l.Perm ks->∀e∈os,ky e∈l:=λl p e he=>p.mem_iff.mpr ((g.mem _).mpr ⟨e,he,rfl⟩)
 exact q ms k2 k3 rows ⟨pm.nodup_iff.mpr g.nodup,p3.nodup_iff.mpr g'.nodup,inO ms pm,λe he=>p3.mem_iff.mpr ((g'.mem _).mpr ⟨e,he,rfl⟩),hB⟩ (p2.nodup_iff.mpr g.nodup) (inO k2 p2)
end K33
namespace K33
theorem drop_nil {α:Type} {l:List α} {n:Nat} (h:l.drop n≠[]):l≠[]:=λe=>h (by rw[e,List.drop_nil])
theorem tO {es fs:List Ent} {cs ds:List Int} (nc:cs.Nodup) (nd:ds.Nodup) (hc:∀e∈es,ky e∈cs) (hd:∀e∈es,ky e∈ds):(bM ky es fs cs).Perm (bM ky es fs ds):=by
 refine oU _ nc nd (λc _ h=>?_) (λc _ h=>?_)
 ·obtain⟨x,hx,e⟩:=jU (drop_nil h)
  exact e ▸ hd x hx
 ·obtain⟨x,hx,e⟩:=jU (drop_nil h)
  exact e ▸ hc x hx
noncomputable def jA:FD:=λds Q=>∃(P:List Ent) (e:Ent),ds=[esD P,.int e.1,btD e.2]/\(P.length<=10/\e∈P)/\Q (esD (P.erase e))
theorem wX:∀ds Q,jA ds Q->ds.length=3:=by rintro ds Q ⟨_,_,rfl,_⟩;rfl
theorem mZ:∀ds Q,jA ds Q->dH { nx:=λ_=>Q .non,rt:=Q } (aP ["_law_pool","_law_place","_law_bit","_law_k"] ds):=by
 rintro ds Q ⟨P,e,rfl,⟨pl,he⟩,q⟩
 rw[aS 1 rfl]
 unfold dH
 simp only[bS,sU,List.map_cons,List.map_nil,List.cons_append,List.nil_append]
 refine aR (λρ=>False) (λK hK=>?_) (λ_ z=>z.elim)
 simp only[dC,oD,aB,aI,r1,fJ,aE,L2.R2.S.val,List.getElem?_cons_zero,List.getElem?_cons_succ]
 rw[List.length_map]
 refine⟨⟨by omega,by omega⟩,?_⟩
 refine pY 0 ((P.length:Int)).toNat (λi ρ=>∃u,(∀j,j<i->∀b,P[j]? = some b->b≠e)/\ρ=[some (.d (esD P)),some (.d (.int e.1)),some (.d (btD e.2)),u]) ?_ ?_ _ ⟨_,λj hj=>absurd hj (Nat.not_lt_zero _),rfl⟩
 ·rintro i ρ hi ⟨u,hb,rfl⟩ F hr _ hn _
  have hi':i<P.length:=by omega
  have ei:P[i]? = some P[i]:=List.getElem?_eq_getElem hi'
  have hx:dIx (esD P) (.int (0+(i:Int)))=λQ=>Q (enD P[i]):=by
   funext Q'
   rw[Int.zero_add]
   exact cM (by rw[List.getElem?_map,ei];rfl)
  have eq6:eqF 6 (enD P[i]) (.tup [.int e.1,btD e.2])=some (decide (P[i]=e)):=GF 0 P[i] e
  unfold fE
  walk_at "rd"
  rw[hx]
  dsimp only
  rw[eq6]
  by_cases h:P[i]=e
  ·rw[decide_eq_true h]
   simp only[if_true]
   have e1:jG (P.map enD) none (some (0+(i:Int)))=(P.take i).map enD:=by
    rw[Int.zero_add,uM (by rw[List.length_map];omega),List.map_take]
   have e2:jG (P.map enD) (some (0+(i:Int)+1)) none=(P.drop (i+1)).map enD:=by
    have:(0+(i:Int)+1)=((i+1:Nat):Int):=by omega
    rw[this,kK (by rw[List.length_map];omega),List.map_drop]
   rw[e1,e2,<-List.map_append]
   refine⟨eN (by rw[List.length_map,List.length_map,List.length_take,List.length_drop];omega),?_⟩
   rw[hr,<-rW (a:=e) (by rw[ei,h]) hb]
   exact q
  ·rw[decide_eq_false h]
   simp only[Bool.false_eq_true,if_false]
   refine hn _ ⟨_,λj hj b hjb=>?_,rfl⟩
   by_cases hji:j<i
   ·exact hb j hji b hjb
   ·have:j=i:=by omega
    subst this
    rw[ei] at hjb
    cases hjb
    exact h
 ·rintro ρ ⟨u,hb,rfl⟩
  exfalso
  obtain⟨j,hj,ej⟩:=List.getElem_of_mem he
  exact hb j (by omega) e (by rw[List.getElem?_eq_getElem hj,ej]) rfl
noncomputable def iY:FD:=λds Q=>∃(L P:List Ent),ds=[esD L,esD P]/\(P.length<=10/\L.Perm P)/\Q (.lst [])
theorem tQ:∀ds Q,iY ds Q->ds.length=2:=by rintro ds Q ⟨_,_,rfl,_⟩;rfl
theorem tM {xs:List D}:tL "list" (.lst xs)=some true:=rfl
theorem lR:∀ds Q,iY ds Q->eD jA { nx:=λ_=>Q .non,rt:=Q } (aP ["_law_wedges","_law_pool","_law_wedge_here"] ds):=by
 rintro ds Q ⟨L,P,rfl,⟨pl,pm⟩,q⟩
 rw[aS 1 rfl]
 unfold eD
 simp only[bS,sU,List.map_cons,List.map_nil,List.cons_append,List.nil_append]
 refine aR (λρ=>ρ=[some (.d (esD L)),some (.d (esD P)),none]) (λK hK=>?_) ?_
 ·simp only[dN,iX,bD,r1,iE,aO,bU,List.getElem?_cons_zero,tM,Bool.not_true,Bool.false_eq_true,if_false]
  exact hK _ rfl
 rintro ρ rfl
 refine aR (λρ=>∃u,ρ=[some (.d (esD L)),some (.d (.lst [])),u]) (λK hK=>?_) ?_
 ·simp only[dC,riL,aO,List.getElem?_cons_zero]
  refine cI (λys ρ=>∃(todo R:List Ent) (u:Option S),ys=todo.map enD/\(R.length<=10/\todo.Perm R)/\ρ=[some (.d (esD L)),some (.d (esD R)),u]) ?_ ?_ _ _ ⟨L,P,none,rfl,⟨pl,pm⟩,rfl⟩
  ·rintro x ys ρ ⟨todo,R,u,exs,⟨rl,pr⟩,rfl⟩ F hr hb hn _
   cases todo with
   | nil=>cases exs
   | cons e todo =>
    rw[List.map_cons] at exs
    injection exs with ex exs
    subst ex exs
    obtain⟨he,pe⟩:=iV pr
    unfold fS enD
    walk_at "rd"
    refine⟨R,e,rfl,⟨rl,he⟩,?_⟩
    walk_at "rd"
    refine hn _ ⟨todo,R.erase e,_,rfl,⟨Nat.le_trans (List.length_erase_le) rl,pe⟩,rfl⟩
  ·rintro ρ ⟨todo,R,u,exs,⟨rl,pr⟩,rfl⟩
   have:todo=[]:=by cases todo with | nil=>rfl | cons _ _=>cases exs
   subst this
   have:R=[]:=List.Perm.eq_nil pr.symm
   subst this
   exact hK _ ⟨u,rfl⟩
 rintro ρ ⟨u,rfl⟩
 walk_at "rd"
 exact q
noncomputable def lT:FD:=λds Q=>∃(p:Ent × Ent) (h:P2) (A B:List Ent) (fs:List P2),ds=[bxD p h,.lst [esD A,esD B],pts fs]/\(0<=p.1.1/\p.1.1+1<(fs.length:Int)/\p.2.1=p.1.1)/\(Hgt fs p.1.1 h/\∀f∈fs,LeanOk 40 f)/\(A.length<=10/\B.length<=10/\p.1∈A/\p.2∈B)/\Q (.lst [esD (A.erase p.1),esD (B.erase p.2)])
theorem wT:∀ds Q,lT ds Q->ds.length=3:=by rintro ds Q ⟨_,_,_,_,_,rfl,_⟩;rfl
theorem mX:∀ds Q,lT ds Q->dE oG jA lX { nx:=λ_=>Q .non,rt:=Q } (aP ["_law_box_here","_law_pools","_law_leans_here","_law_place","_law_height","_law_bits","_law_s","_law_t","_law_one","_law_other","_law_first","_law_second"] ds):=by
 rintro ds Q ⟨p,h,A,B,fs,rfl,⟨c0,c1,ek⟩,⟨⟨s,t,es,et,lw⟩,hf⟩,⟨l1,l2,h1,h2⟩,q⟩
 rw[aS 9 rfl]
 unfold dE bxD
 have os:=hf s (List.mem_of_getElem? es)
 have ot:=hf t (List.mem_of_getElem? et)
 have xs:∀Q:D->Prop,dIx (pts fs) (.int p.1.1) Q=Q (pt s):=λQ=>by
  have:=cM (xs:=fs.map pt) (k:=p.1.1.toNat) (x:=pt s) (Q:=Q) (by rw[List.getElem?_map,es];rfl)
  rwa [Int.toNat_of_nonneg c0] at this
 have xt:∀Q:D->Prop,dIx (pts fs) (.int (p.1.1+1)) Q=Q (pt t):=λQ=>by
  have:=cM (xs:=fs.map pt) (k:=(p.1.1+1).toNat) (x:=pt t) (Q:=Q) (by rw[List.getElem?_map,et];rfl)
  rwa [Int.toNat_of_nonneg (by omega)] at this
 simp only[bS,AE,List.map_cons,List.map_nil,List.cons_append,List.nil_append]
 refine aR (λρ=>ρ=[some (.d (.tup [.int p.1.1,pt h,.lst [btD p.1.2,btD p.2.2]])),some (.d (.lst [esD A,esD B])),some (.d (pts fs)),none,none,none,none,none,none,none,none,none]) (λK hK=>?_) ?_
 ·walk_at "rd"
  refine⟨p.1.1,rfl,?_⟩
  walk_at "rd"
  simp only[tM,Bool.not_true,Bool.false_eq_true,if_false]
  exact hK _ rfl
 rintro ρ rfl
 refine aR (λρ=>ρ=[some (.d (.tup [.int p.1.1,pt h,.lst [btD p.1.2,btD p.2.2]])),some (.d (.lst [esD A,esD B])),some (.d (pts fs)),some (.d (.int p.1.1)),some (.d (pt h)),some (.d (.lst [btD p.1.2,btD p.2.2])),none,none,none,none,none,none]) (λK hK=>?_) ?_
 ·walk_at "rd"
  exact hK _ rfl
 rintro ρ rfl
 refine aR (λρ=>ρ=[some (.d (.tup [.int p.1.1,pt h,.lst [btD p.1.2,btD p.2.2]])),some (.d (.lst [esD A,esD B])),some (.d (pts fs)),some (.d (.int p.1.1)),some (.d (pt h)),some (.d (.lst [btD p.1.2,btD p.2.2])),none,none,none,none,none,none]) (λK hK=>?_) ?_
 ·walk_at "rd"
  rw[List.length_map,if_neg (by simp),if_neg (by omega),if_neg (by omega)]
  exact hK _ rfl
 rintro ρ rfl
 refine aR (λρ=>ρ=[some (.d (.tup [.int p.1.1,pt h,.lst [btD p.1.2,btD p.2.2]])),some (.d (.lst [esD A,esD B])),some (.d (pts fs)),some (.d (.int p.1.1)),some (.d (pt h)),some (.d (.lst [btD p.1.2,btD p.2.2])),some (.d (pt s)),none,none,none,none,none]) (λK hK=>?_) ?_
 ·walk_at "rd"
  rw[xs]
  exact hK _ rfl
 rintro ρ rfl
 refine aR (λρ=>ρ=[some (.d (.tup [.int p.1.1,pt h,.lst [btD p.1.2,btD p.2.2]])),some (.d (.lst [esD A,esD B])),some (.d (pts fs)),some (.d (.int p.1.1)),some (.d (pt h)),some (.d (.lst [btD p.1.2,btD p.2.2])),some (.d (pt s)),some (.d (pt t)),none,none,none,none]) (λK hK=>?_) ?_
 ·walk_at "rd"
  rw[xt]
  exact hK _ rfl
 rintro ρ rfl
 refine aR (λρ=>ρ=[some (.d (.tup [.int p.1.1,pt h,.lst [btD p.1.2,btD p.2.2]])),some (.d (.lst [esD A,esD B])),some (.d (pts fs)),some (.d (.int p.1.1)),some (.d (pt h)),some (.d (.lst [btD p.1.2,btD p.2.2])),some (.d (pt s)),some (.d (pt t)),none,none,none,none]) (λK hK=>?_) ?_
 ·walk_at "rd"
  refine⟨ot.top.mulOk os.bot,os.top.mulOk ot.bot,os.bot.mulOk ot.bot,?_⟩
  refine⟨_,_,rfl,⟨Int.mul_pos os.pos ot.pos,(os.bot.mul ot.bot).mono (by decide)⟩,λa b l=>?_⟩
  rw[Int.mul_comm s.2 t.2] at l
  obtain⟨ea,eb⟩:=K12.low_eq (Int.mul_pos ot.pos os.pos) lw l
  subst ea eb
  have e5:eqL (eqF 5) [.int h.1,.int h.2] [.int h.1,.int h.2]=some true:=by
   rw[eW (eqI 4 h.1 h.1) (eW (eqI 4 h.2 h.2) rfl),decide_eq_true rfl,decide_eq_true rfl];rfl
  dsimp only
  rw[e5]
  simp only[Bool.not_true,Bool.false_eq_true,if_false]
  exact hK _ rfl
 rintro ρ rfl
 refine aR (λρ=>False) (λK hK=>?_) (λ_ z=>z.elim)
 simp only[dC,riL,dU,aB,aI,eB,rC,List.length_cons,List.length_nil,sz2,true_and]
 have e12:(p.1.1,p.2.2)=p.2:=by rw[<-ek]
 refine cI (λys ρ=>ys=[.tup [.int 0,.int 1],.tup [.int 1,.int 0]]/\ρ=[some (.d (.tup [.int p.1.1,pt h,.lst [btD p.1.2,btD p.2.2]])),some (.d (.lst [esD A,esD B])),some (.d (pts fs)),some (.d (.int p.1.1)),some (.d (pt h)),some (.d (.lst [btD p.1.2,btD p.2.2])),some (.d (pt s)),some (.d (pt t)),none,none,none,none]) ?_ ?_ _ _ ⟨rfl,rfl⟩
 ·rintro x ys ρ ⟨exs,rfl⟩ F hr _ _ _
  injection exs with ex exs
  subst ex
  unfold fB
  walk_at "rd"
  refine⟨A,p.1,rfl,⟨l1,h1⟩,?_⟩
  walk_at "rd"
  refine⟨B,p.2,by rw[ek],⟨l2,h2⟩,?_⟩
  walk_at "rd"
  rw[hr]
  exact q
 ·rintro ρ ⟨exs,_⟩
  cases exs
end K33
namespace K33
structure RightOf (rows:List D) (lo lc os cs:List Ent) (fs:List P2) (ps:List (Ent × Ent)):Prop where
 bx:Bxs fs ps rows
 key:∀p∈ps,0<=p.1.1/\p.1.1+1<(fs.length:Int)/\p.2.1=p.1.1
 p1:(ps.map (·.1)++lo).Perm os
 p2:(ps.map (·.2)++lc).Perm cs
 apart:∀e∈lo,∀f∈lc,e.1≠f.1
 ol:os.length<=10
 cl:cs.length<=10
 ok:∀f∈fs,LeanOk 40 f
noncomputable def hU:FD:=λds Q=>∃(rows:List D) (lo lc os cs:List Ent) (fs:List P2) (ps:List (Ent × Ent)),ds=[.tup [.lst rows,esD lo,esD lc],esD os,esD cs,pts fs]/\RightOf rows lo lc os cs fs ps/\Q (.bl true)
theorem sG:∀ds Q,hU ds Q->ds.length=4:=by rintro ds Q ⟨_,_,_,_,_,_,_,rfl,_⟩;rfl
theorem kT:∀ds Q,hU ds Q->cL lT iY { nx:=λ_=>Q .non,rt:=Q } (aP ["_law_found","_law_openings","_law_closings","_law_leans_here","_law_pools","_law_box_here","_law_place","_law_bit"] ds):=by
 rintro ds Q ⟨rows,lo,lc,os,cs,fs,ps,rfl,R,q⟩
 rw[aS 4 rfl]
 unfold cL
 simp only[bS,xN,List.map_cons,List.map_nil,List.cons_append,List.nil_append]
 refine aR (λρ=>ρ=[some (.d (.tup [.lst rows,esD lo,esD lc])),some (.d (esD os)),some (.d (esD cs)),some (.d (pts fs)),none,none,none,none]) (λK hK=>?_) ?_
 ·walk_at "rd"
  simp only[tM,Bool.not_true,Bool.false_eq_true,if_false]
  exact hK _ rfl
 rintro ρ rfl
 refine aR (λρ=>ρ=[some (.d (.tup [.lst rows,esD lo,esD lc])),some (.d (esD os)),some (.d (esD cs)),some (.d (pts fs)),some (.d (.lst [esD os,esD cs])),none,none,none]) (λK hK=>?_) ?_
 ·walk_at "rd"
  exact hK _ rfl
 rintro ρ rfl
 refine aR (λρ=>∃(A B:List Ent) (u:Option S),((A.length<=10/\lo.Perm A)/\B.length<=10/\lc.Perm B)/\ρ=[some (.d (.tup [.lst rows,esD lo,esD lc])),some (.d (esD os)),some (.d (esD cs)),some (.d (pts fs)),some (.d (.lst [esD A,esD B])),u,none,none]) (λK hK=>?_) ?_
 ·walk_at "rd"
  refine cI (λys ρ=>∃(todo:List (Ent × Ent)) (A B:List Ent) (u:Option S),Bxs fs todo ys/\(∀p∈todo,p∈ps)/\((A.length<=10/\(todo.map (·.1)++lo).Perm A)/\B.length<=10/\(todo.map (·.2)++lc).Perm B)/\ρ=[some (.d (.tup [.lst rows,esD lo,esD lc])),some (.d (esD os)),some (.d (esD cs)),some (.d (pts fs)),some (.d (.lst [esD A,esD B])),u,none,none]) ?_ ?_ _ _ ⟨ps,os,cs,none,R.bx,λp hp=>hp,⟨⟨R.ol,R.p1⟩,R.cl,R.p2⟩,rfl⟩
  ·rintro x ys ρ ⟨todo,A,B,u,hB,sub,⟨⟨al,pa⟩,bl,pb⟩,rfl⟩ F hr hb hn _
   cases hB with
   | @cons p todo h _ hh hB =>
    rw[List.map_cons,List.cons_append] at pa pb
    obtain⟨ha,pa'⟩:=iV pa
    obtain⟨hb',pb'⟩:=iV pb
    unfold eL
    walk_at "rd"
    refine⟨p,h,A,B,fs,rfl,R.key p (sub p (.head _)),⟨hh,R.ok⟩,⟨al,bl,ha,hb'⟩,?_⟩
    walk_at "rd"
    exact hn _ ⟨todo,A.erase p.1,B.erase p.2,_,hB,λz hz=>sub z (.tail _ hz),⟨⟨Nat.le_trans List.length_erase_le al,pa'⟩,Nat.le_trans List.length_erase_le bl,pb'⟩,rfl⟩
  ·rintro ρ ⟨todo,A,B,u,hB,sub,⟨⟨al,pa⟩,bl,pb⟩,rfl⟩
   cases hB
   exact hK _ ⟨A,B,u,⟨⟨al,pa⟩,bl,pb⟩,rfl⟩
 rintro ρ ⟨A,B,u,⟨⟨al,pa⟩,bl,pb⟩,rfl⟩
 refine aR (λρ=>ρ=[some (.d (.tup [.lst rows,esD lo,esD lc])),some (.d (esD os)),some (.d (esD cs)),some (.d (pts fs)),some (.d (.lst [esD A,esD B])),u,none,none]) (λK hK=>?_) ?_
 ·walk_at "rd"
  refine⟨lo,A,rfl,⟨al,pa⟩,?_⟩
  simp only[wG,eqL,List.length_nil,true_and,Bool.not_true,Bool.false_eq_true,if_false]
  refine⟨lc,B,rfl,⟨bl,pb⟩,?_⟩
  simp only[wG,eqL,List.length_nil,true_and,Bool.not_true,Bool.false_eq_true,if_false]
  exact hK _ rfl
 rintro ρ rfl
 have lcl:lc.length<=10:=by rw[pb.length_eq];exact bl
 refine aR (λρ=>True) (λK hK=>?_) (λρ _=>?_)
 ·simp only[dC,riL,r2,aE,rC,gG,L2.R2.S.val,List.getElem?_cons_zero]
  refine cI (λys ρ=>∃(todo:List Ent) (v w:Option S),ys=todo.map enD/\(∀e∈todo,e∈lo)/\ρ=[some (.d (.tup [.lst rows,esD lo,esD lc])),some (.d (esD os)),some (.d (esD cs)),some (.d (pts fs)),some (.d (.lst [esD A,esD B])),u,v,w]) ?_ (λρ _=>hK ρ trivial) _ _ ⟨lo,none,none,rfl,λe h=>h,rfl⟩
  rintro x ys ρ ⟨todo,v,w,exs,sub,rfl⟩ F hr hb hn _
  cases todo with
  | nil=>cases exs
  | cons e todo =>
   rw[List.map_cons] at exs
   injection exs with ex exs
   subst ex exs
   unfold eK enD
   simp only[eM,bF,dP,aT,dN,bD,r2,aE,gS,riL,rC,gH,gA,mB,AD,L2.R2.S.val,List.length_cons,List.length_nil,List.map_nil,List.append_nil,List.getElem?_cons_zero,List.getElem?_cons_succ,List.set_cons_zero,List.set_cons_succ,true_and]
   refine⟨eN (by rw[List.length_map];omega),?_⟩
   refine mD (λρ=>∃a b,ρ=[a,b]) enD (λe:Ent=>.int e.1) lc ?_ ⟨_,_,rfl⟩ ?_
   ·rintro z hz ρ ⟨a,b,rfl⟩ K' hK'
    unfold enD
    walk_at "rd"
    exact hK' _ ⟨_,_,rfl⟩
   ·have em:lc.map (λe:Ent=>D.int e.1)=(lc.map (·.1)).map .int:=by rw[List.map_map];rfl
    refine⟨lc.map (·.1),em,?_⟩
    have:¬e.1∈lc.map (·.1):=λz=>by
     obtain⟨f,hf,ef⟩:=List.mem_map.mp z
     exact R.apart e (sub e (.head _)) f hf ef.symm
    rw[decide_eq_false this]
    simp only[Bool.false_eq_true,if_false,bU]
    exact hn _ ⟨todo,_,_,rfl,λz hz=>sub z (.tail _ hz),rfl⟩
 ·walk_at "rd"
  exact q
end K33
namespace K33
theorem CP {os cs:List Ent} {fs:List P2} {ks1 ks2 ks3:List Int} {rows:List D} (ho:Placed fs.length os) (hc:Placed fs.length cs) (hf:∀f∈fs,LeanOk 40 f) (R:PairOf os cs fs ks1 ks3 rows) (n2:ks2.Nodup) (i2:∀e∈os,ky e∈ks2) :
  RightOf rows (bM ky os cs ks2) (bM ky cs os ks3) os cs fs (cU ky os cs ks1) where
 bx:=R.bx
 key:=λp hp=>by
  have:=xG hp
  have h:=ho.pl _ this.1
  exact⟨h.1,h.2,this.2.2⟩
 p1:=((tO n2 R.nd1 i2 R.in1).append_left _).trans (sP ky os cs ks1 R.nd1 R.in1)
 p2:=zR ky os cs ks1 ks3 R.nd1 R.nd2 R.in1 R.in2
 apart:=λe he f hf=>sC he hf
 ol:=ho.len
 cl:=hc.len
 ok:=hf
theorem tZ:∀ds Q,vW 63 ds Q->fN fX gZ hE hU fI { nx:=λ_=>Q .non,rt:=Q } (aP ["_law_script","_law_leans_here","_law_openings","_law_closings","_law_handed","_law_found","_law_part"] ds):=by
 rintro ds Q ⟨ns,rfl,hn,Qt⟩
 rw[aS 6 rfl]
 unfold fN
 simp only[bS,xP,List.map_cons,List.map_nil,List.cons_append,List.nil_append]
 refine aR (λρ=>∃fs:List P2,((2<=fs.length/\fs.length<=5)/\∀f∈fs,LeanOk 40 f)/\ρ=[some (.d (il ns)),some (.d (pts fs)),none,none,none,none,none]) (λK hK=>?_) ?_
 ·walk_at "rd"
  refine⟨ns,0,rfl,by decide,λc c0 c1=>?_⟩
  walk_at "rd"
  refine⟨(BL.const (n:=9000) (by decide)).divOk (by decide),?_⟩
  refine⟨ns,0,rfl,by decide,λd d0 d1=>?_⟩
  walk_at "rd"
  obtain⟨a0,a1⟩:=aY (a:=d) (b:=4) (by decide)
  refine⟨cT,?_⟩
  exact⟨_,_,rfl,⟨by omega,by omega⟩,λfs h1 h2=>hK _ ⟨fs,⟨⟨by omega,by omega⟩,h2⟩,rfl⟩⟩
 rintro ρ ⟨fs,⟨fl,hf⟩,rfl⟩
 refine aR (λρ=>∃os cs:List Ent,(Placed fs.length os/\Placed fs.length cs)/\ρ=[some (.d (il ns)),some (.d (pts fs)),some (.d (esD os)),some (.d (esD cs)),none,none,none]) (λK hK=>?_) ?_
 ·simp only[sR,bA,aB,aI,aO,AF,bF,aT,dP,List.getElem?_cons_zero,List.getElem?_cons_succ,List.set_cons_zero,List.set_cons_succ]
  refine⟨ns,fs,rfl,fl,hf,λos cs ho hc=>?_⟩
  exact⟨rfl,hK _ ⟨os,cs,⟨ho,hc⟩,rfl⟩⟩
 rintro ρ ⟨os,cs,⟨ho,hc⟩,rfl⟩
 refine aR (λρ=>ρ=[some (.d (il ns)),some (.d (pts fs)),some (.d (esD os)),some (.d (esD cs)),some (.d (.lst [esD os,esD cs,pts fs])),none,none]) (λK hK=>?_) ?_
 ·walk_at "rd"
  exact hK _ rfl
 rintro ρ rfl
 refine aR (λρ=>∃(rows:List D) (ks1 ks2 ks3:List Int),(PairOf os cs fs ks1 ks3 rows/\ks2.Nodup/\∀e∈os,ky e∈ks2)/\ρ=[some (.d (il ns)),some (.d (pts fs)),some (.d (esD os)),some (.d (esD cs)),some (.d (.lst [esD os,esD cs,pts fs])),some (.box true [rows,(bM ky os cs ks2).map enD,(bM ky cs os ks3).map enD]),none]) (λK hK=>?_) ?_
 ·simp only[AB,aB,aI,r2,aE,rC,gD,gE,gF,L2.R2.S.val,List.getElem?_cons_zero,List.getElem?_cons_succ,List.set_cons_zero,List.set_cons_succ]
  refine⟨os,cs,fs,rfl,⟨ho,hc⟩,hf,λks1 ks2 ks3 rows P n2 i2=>?_⟩
  exact⟨[rows,(bM ky os cs ks2).map enD,(bM ky cs os ks3).map enD],rfl,hK _ ⟨rows,ks1,ks2,ks3,⟨P,n2,i2⟩,rfl⟩⟩
 rintro ρ ⟨rows,ks1,ks2,ks3,⟨P,n2,i2⟩,rfl⟩
 refine aR (λρ=>ρ=[some (.d (il ns)),some (.d (pts fs)),some (.d (esD os)),some (.d (esD cs)),some (.d (.lst [esD os,esD cs,pts fs])),some (.box true [rows,(bM ky os cs ks2).map enD,(bM ky cs os ks3).map enD]),none]) (λK hK=>?_) ?_
 ·simp only[dN,sI,iX,bD,bA,aB,aI,aO,bU,List.map_cons,List.map_nil,List.getElem?_cons_zero,List.getElem?_cons_succ,List.set_cons_zero,List.set_cons_succ]
  refine⟨rows,_,_,os,cs,fs,_,rfl,CP ho hc hf P n2 i2,?_⟩
  simp only[Bool.not_true,Bool.false_eq_true,if_false]
  exact hK _ rfl
 rintro ρ rfl
 refine aR (λρ=>∃u,ρ=[some (.d (il ns)),some (.d (pts fs)),some (.d (esD os)),some (.d (esD cs)),some (.d (.lst [esD os,esD cs,pts fs])),u,none]) (λK hK=>?_) ?_
 ·simp only[vI,List.getElem?_cons_zero,List.getElem?_cons_succ,List.set_cons_zero,List.set_cons_succ,List.length_cons,List.length_nil]
  refine⟨⟨by omega,λds hd=>?_⟩,hK _ ⟨_,rfl⟩⟩
  have h1:=(eY (fs:=cs) n2 i2).1
  have h2:=(eY (fs:=os) P.nd2 P.in2).1
  have h3:=(eY (fs:=cs) P.nd1 P.in1).2
  have h4:=P.bx.len
  have h5:=ho.len
  have h6:=hc.len
  rcases List.mem_cons.mp hd with rfl | hd
  ·exact eN (by omega)
  rcases List.mem_cons.mp hd with rfl | hd
  ·exact eN (by rw[List.length_map];omega)
  rcases List.mem_cons.mp hd with rfl | hd
  ·exact eN (by rw[List.length_map];omega)
  ·cases hd
 rintro ρ ⟨u,rfl⟩
 walk_at "rd"
 simp only[AS,wM]
 exact Qt
end K33
namespace K33
set_option maxHeartbeats 4000000
noncomputable def top (i:Nat):Stmt:=PySem.Challenge.pw_recut_k33_paired.main.body.getD i (.Pass ⟨0,0,0,0⟩)
noncomputable abbrev s__law_cell:Stmt:=top 21
noncomputable abbrev s__law_divisor:Stmt:=top 15
noncomputable abbrev s__law_fraction:Stmt:=top 16
noncomputable abbrev s__law_move:Stmt:=top 19
noncomputable abbrev s__law_due:Stmt:=top 17
noncomputable abbrev s__law_wedge:Stmt:=top 20
noncomputable abbrev s__law_drawn:Stmt:=top 22
noncomputable abbrev s__law_digit:Stmt:=top 13
noncomputable abbrev s__law_leans:Stmt:=top 18
noncomputable abbrev s__law_taken:Stmt:=top 23
noncomputable abbrev s__law_whole:Stmt:=top 14
noncomputable abbrev s__law_box:Stmt:=top 24
noncomputable abbrev s__law_left:Stmt:=top 25
noncomputable abbrev s__law_right:Stmt:=top 26
noncomputable abbrev s_bits_by_number:Stmt:=top 8
noncomputable abbrev s_shared_divisor:Stmt:=top 4
noncomputable abbrev s_ratio:Stmt:=top 5
noncomputable abbrev s_minus:Stmt:=top 6
noncomputable abbrev s_joined:Stmt:=top 9
noncomputable abbrev s_left_over:Stmt:=top 10
noncomputable abbrev s_paired:Stmt:=top 11
noncomputable abbrev s_law:Stmt:=top 27
section
variable {P:Program} {w:World} {K:PySem.W.Frag} {mg:Str->Option Value} {base:Heap}
theorem kD:FnScope ["_law_script","_law_k"] ["_law_script","_law_k"] (aC s__law_cell):=⟨rfl,rfl,rfl,by decide +kernel,rfl,by decide +kernel,by decide +kernel⟩
theorem pK {f:Addr} {cdv:Value} {A:Around} {outer:List Env} {s:Shared} {H:Hp} {E:XK} (m_len:mg "len" = none) (hr:Room 0 (A.deeper (envOfC "_law_cell" (aC s__law_cell) s.heap.objs.size f cdv))) :
  DSs (bV CX0 P w K mg base ["_law_script","_law_k"] "_law_cell" (aC s__law_cell) f cdv A outer s H E).nox (aL s__law_cell) (eC) :=
 have nd:=kD.nd
 aG (cZ (bP zG (dvb 1) (DE.bor (eF m_len (dvb 0)))) (aK (aX (aN bQ (DE.bor (aU (dvb 0) (dvb 1))) (DE.bor (aN cF (DE.bor (aN zI (DE.bor (aD)) (DE.bor (aD)))) (DE.bor (aD))))))) (bJ))
 (aK (aX (aD)))
theorem qJ (Z:DefAt K mg "_law_cell" s__law_cell ["_law_script","_law_k"]) (m_len:mg "len" = none) {F:FD} (len:∀ds Q,F ds Q->ds.length=2) (pure:∀ds Q,F ds Q->eC { nx:=λ_=>Q .non,rt:=Q } (aP ["_law_script","_law_k"] ds)):FnAt P w K mg base "_law_cell" ["_law_script","_law_k"] 1 F :=
 Z.ok kD (λcdv A outer s H E hr=>pK m_len hr) len pure
theorem fU:FnScope ["_law_one","_law_other"] ["_law_one","_law_other"] (aC s__law_divisor):=⟨rfl,rfl,rfl,by decide +kernel,rfl,by decide +kernel,by decide +kernel⟩
theorem lK {f:Addr} {cdv:Value} {A:Around} {outer:List Env} {s:Shared} {H:Hp} {E:XK} (m_abs:mg "abs" = none) (hr:Room 0 (A.deeper (envOfC "_law_divisor" (aC s__law_divisor) s.heap.objs.size f cdv))) :
  DSs (bV CX0 P w K mg base ["_law_one","_law_other"] "_law_divisor" (aC s__law_divisor) f cdv A outer s H E).nox (aL s__law_divisor) (cJ) :=
 have nd:=fU.nd
 aG (aV nd (gI pS m_abs hW (aA (dv 0) (aH))))
 (aG (aV nd (gI pS m_abs hW (aA (dv 1) (aH))))
 (aG (rV PassesOwn.never (bP GW (dvb 1) (DE.bor (aD))) (aK (EH rfl nd (aA (dv 1) (aA (aN bQ (dvb 0) (dvb 1)) (aH))))))
 (aK (aX (dv 0)))))
theorem lP (Z:DefAt K mg "_law_divisor" s__law_divisor ["_law_one","_law_other"]) (m_abs:mg "abs" = none) {F:FD} (len:∀ds Q,F ds Q->ds.length=2) (pure:∀ds Q,F ds Q->cJ { nx:=λ_=>Q .non,rt:=Q } (aP ["_law_one","_law_other"] ds)):FnAt P w K mg base "_law_divisor" ["_law_one","_law_other"] 1 F :=
 Z.ok fU (λcdv A outer s H E hr=>lK m_abs hr) len pure
theorem fF:FnScope ["_law_top","_law_bottom","_law_most"] ["_law_top","_law_bottom"] (aC s__law_fraction):=⟨rfl,rfl,rfl,by decide +kernel,rfl,by decide +kernel,by decide +kernel⟩
theorem kJ {f:Addr} {cdv:Value} {A:Around} {outer:List Env} {s:Shared} {H:Hp} {E:XK} {JA:FD} (JD:FnAt P w K mg base "_law_divisor" ["_law_one","_law_other"] 1 JA) (hr:Room 1 (A.deeper (envOfC "_law_fraction" (aC s__law_fraction) s.heap.objs.size f cdv))) :
  DSs (bV CX0 P w K mg base ["_law_top","_law_bottom","_law_most"] "_law_fraction" (aC s__law_fraction) f cdv A outer s H E).nox (aL s__law_fraction) (cD JA) :=
 have nd:=fF.nd
 aG (aV nd (aQ JD (hr.mono (by decide)) (aA (dv 0) (aA (dv 1) (aH)))))
 (aK (aX (bW (aA (aN bK (dvb 0) (dvb 2)) (aA (aN bK (dvb 1) (dvb 2)) (aH))))))
theorem kP (Z:DefAt K mg "_law_fraction" s__law_fraction ["_law_top","_law_bottom"]) {JA:FD} (JD:FnAt P w K mg base "_law_divisor" ["_law_one","_law_other"] 1 JA) {F:FD} (len:∀ds Q,F ds Q->ds.length=2) (pure:∀ds Q,F ds Q->cD JA { nx:=λ_=>Q .non,rt:=Q } (aP ["_law_top","_law_bottom","_law_most"] ds)):FnAt P w K mg base "_law_fraction" ["_law_top","_law_bottom"] 2 F :=
 Z.ok fF (λcdv A outer s H E hr=>kJ JD hr) len pure
theorem kF:FnScope ["_law_number","_law_far","_law_dx","_law_dy"] ["_law_number"] (aC s__law_move):=⟨rfl,rfl,rfl,by decide +kernel,rfl,by decide +kernel,by decide +kernel⟩
theorem pM {f:Addr} {cdv:Value} {A:Around} {outer:List Env} {s:Shared} {H:Hp} {E:XK} {IY:FD} (IZ:FnAt P w K mg base "_law_fraction" ["_law_top","_law_bottom"] 2 IY) (hr:Room 2 (A.deeper (envOfC "_law_move" (aC s__law_move) s.heap.objs.size f cdv))) :
  DSs (bV CX0 P w K mg base ["_law_number","_law_far","_law_dx","_law_dy"] "_law_move" (aC s__law_move) f cdv A outer s H E).nox (aL s__law_move) (cW IY) :=
 have nd:=kF.nd
 aG (aV nd (aU (DE.bor (DO.val (cE (aA (aD) (aA (aN zI (DE.bor (aD)) (DE.bor (aD))) (aH)))))) (DE.bor (aN bQ (DE.bor (aN bK (dvb 0) (DE.bor (aD)))) (DE.bor (aD))))))
 (aG (aV nd (aQ IZ (hr.mono (by decide)) (aA (aN eI (DE.bor (aN bQ (DE.bor (aN bY (DE.bor (aN bQ (DE.bor (aN bY (dvb 0) (DE.bor (aD)))) (DE.bor (aD)))) (DE.bor (aD)))) (DE.bor (aN cF (DE.bor (aN bY (DE.bor (aD)) (dvb 1))) (DE.bor (aD)))))) (dvb 1)) (aA (aN cF (DE.bor (aD)) (DE.bor (aN bQ (DE.bor (aN bK (dvb 0) (DE.bor (aD)))) (DE.bor (aD))))) (aH)))))
 (aG (aV nd (aQ IZ (hr.mono (by decide)) (aA (aN eI (DE.bor (aN bQ (dvb 0) (DE.bor (aN cF (DE.bor (aN bY (DE.bor (aD)) (dvb 1))) (DE.bor (aD)))))) (dvb 1)) (aA (aN cF (DE.bor (aD)) (DE.bor (aN bQ (DE.bor (aN bK (dvb 0) (DE.bor (aD)))) (DE.bor (aD))))) (aH)))))
 (aK (aX (bW (aA (aN eI (DE.bor (aD)) (DE.bor (aN bY (DE.bor (aD)) (DE.bor (aN bQ (dvb 0) (DE.bor (aD))))))) (aA (dv 2) (aA (dv 3) (aH)))))))))
theorem qL (Z:DefAt K mg "_law_move" s__law_move ["_law_number"]) {IY:FD} (IZ:FnAt P w K mg base "_law_fraction" ["_law_top","_law_bottom"] 2 IY) {F:FD} (len:∀ds Q,F ds Q->ds.length=1) (pure:∀ds Q,F ds Q->cW IY { nx:=λ_=>Q .non,rt:=Q } (aP ["_law_number","_law_far","_law_dx","_law_dy"] ds)):FnAt P w K mg base "_law_move" ["_law_number"] 3 F :=
 Z.ok kF (λcdv A outer s H E hr=>pM IZ hr) len pure
theorem lI:FnScope ["_law_share","_law_ring","_law_most","_law_x","_law_y","_law_corners","_law_at"] ["_law_share","_law_ring"] (aC s__law_due):=⟨rfl,rfl,rfl,by decide +kernel,rfl,by decide +kernel,by decide +kernel⟩
theorem gR:List.Nodup (["_law_x","_law_y","_law_most"]:List Str):=by decide +kernel
theorem rE {f:Addr} {cdv:Value} {A:Around} {outer:List Env} {s:Shared} {H:Hp} {E:XK} {JA:FD} (JD:FnAt P w K mg base "_law_divisor" ["_law_one","_law_other"] 1 JA) (m_tuple:mg "tuple" = none) (m_min:mg "min" = none) (hr:Room 1 (A.deeper (envOfC "_law_due" (aC s__law_due) s.heap.objs.size f cdv))) :
  DSs (bV CX0 P w K mg base ["_law_share","_law_ring","_law_most","_law_x","_law_y","_law_corners","_law_at"] "_law_due" (aC s__law_due) f cdv A outer s H E).nox (aL s__law_due) (eO JA) :=
 have nd:=lI.nd
 aG (aV nd (dv 0))
 (aG (dB PassesOwn.never rfl (cR (dv 1)) (gL rfl (bE (aW nd) (bE (aW nd) (dZ)))) (aK (aV nd (aQ JD (hr.mono (by decide)) (aA (aQ JD (hr.mono (by decide)) (aA (dv 2) (aA (dv 3) (aH)))) (aA (dv 4) (aH)))))))
 (aG (BF ["_law_x","_law_y","_law_most"] 2 [2] nd (cR (dv 1)) (λcl C s H fp=>gL rfl (bE (aW gR) (bE (aW gR) (dZ)))) (λcl C s H fp=>bW (aA (aN bK (dvb 0) (dvb 2)) (aA (aN bK (dvb 1) (dvb 2)) (aH)))))
 (aG (aV nd (yJ hr (dvb 5) (AY hr m_min rfl (dvb 5))))
 (aK (aX (bW (aA (aN bK (dvb 0) (dvb 2)) (aA (yL m_tuple (DE.bor (aN vD (DE.bor (gK (dvb 5) (jQ (dv 6)) (jP))) (DE.bor (gK (dvb 5) (jP) (jQ (dv 6))))))) (aH)))))))))
theorem sO (Z:DefAt K mg "_law_due" s__law_due ["_law_share","_law_ring"]) {JA:FD} (JD:FnAt P w K mg base "_law_divisor" ["_law_one","_law_other"] 1 JA) (m_tuple:mg "tuple" = none) (m_min:mg "min" = none) {F:FD} (len:∀ds Q,F ds Q->ds.length=2) (pure:∀ds Q,F ds Q->eO JA { nx:=λ_=>Q .non,rt:=Q } (aP ["_law_share","_law_ring","_law_most","_law_x","_law_y","_law_corners","_law_at"] ds)):FnAt P w K mg base "_law_due" ["_law_share","_law_ring"] 2 F :=
 Z.ok lI (λcdv A outer s H E hr=>rE JD m_tuple m_min hr) len pure
theorem iQ:FnScope ["_law_s","_law_t","_law_opening","_law_share","_law_low","_law_high"] ["_law_s","_law_t","_law_opening"] (aC s__law_wedge):=⟨rfl,rfl,rfl,by decide +kernel,rfl,by decide +kernel,by decide +kernel⟩
theorem nO {f:Addr} {cdv:Value} {A:Around} {outer:List Env} {s:Shared} {H:Hp} {E:XK} {JS:FD} (KA:FnAt P w K mg base "_law_due" ["_law_share","_law_ring"] 2 JS) (hr:Room 2 (A.deeper (envOfC "_law_wedge" (aC s__law_wedge) s.heap.objs.size f cdv))) :
  DSs (bV CX0 P w K mg base ["_law_s","_law_t","_law_opening","_law_share","_law_low","_law_high"] "_law_wedge" (aC s__law_wedge) f cdv A outer s H E).nox (aL s__law_wedge) (dI JS) :=
 have nd:=iQ.nd
 aG (aV nd (aN bY (DE.bor (aU (dvb 0) (DE.bor (aD)))) (DE.bor (aU (dvb 1) (DE.bor (aD))))))
 (aG (aV nd (aN bY (DE.bor (aU (dvb 0) (DE.bor (aD)))) (DE.bor (aU (dvb 1) (DE.bor (aD))))))
 (aG (aV nd (aN bY (DE.bor (aU (dvb 1) (DE.bor (aD)))) (DE.bor (aU (dvb 0) (DE.bor (aD))))))
 (aG (cZ (fK (dv 2)) (aK (aX (aQ KA (hr.mono (by decide)) (aA (dv 3) (aA (DO.val (cE (aA (bW (aA (aD) (aA (aD) (aH)))) (aA (bW (aA (dv 3) (aA (dv 4) (aH)))) (aA (bW (aA (dv 3) (aA (dv 5) (aH)))) (aH)))))) (aH)))))) (bJ))
 (aK (aX (aQ KA (hr.mono (by decide)) (aA (dv 3) (aA (DO.val (cE (aA (bW (aA (aD) (aA (aD) (aH)))) (aA (bW (aA (dv 3) (aA (dv 5) (aH)))) (aA (bW (aA (aD) (aA (aN eI (dvb 5) (dvb 4)) (aH)))) (aH)))))) (aH)))))))))
theorem nZ (Z:DefAt K mg "_law_wedge" s__law_wedge ["_law_s","_law_t","_law_opening"]) {JS:FD} (KA:FnAt P w K mg base "_law_due" ["_law_share","_law_ring"] 2 JS) {F:FD} (len:∀ds Q,F ds Q->ds.length=3) (pure:∀ds Q,F ds Q->dI JS { nx:=λ_=>Q .non,rt:=Q } (aP ["_law_s","_law_t","_law_opening","_law_share","_law_low","_law_high"] ds)):FnAt P w K mg base "_law_wedge" ["_law_s","_law_t","_law_opening"] 3 F :=
 Z.ok iQ (λcdv A outer s H E hr=>nO KA hr) len pure
theorem iM:FnScope ["_law_script","_law_leans_here","_law_found","_law_k","_law_cell_here","_law_place","_law_piece"] ["_law_script","_law_leans_here"] (aC s__law_drawn):=⟨rfl,rfl,rfl,by decide +kernel,rfl,by decide +kernel,by decide +kernel⟩
theorem nK {f:Addr} {cdv:Value} {A:Around} {outer:List Env} {s:Shared} {H:Hp} {E:XK} {JC:FD} (JE:FnAt P w K mg base "_law_cell" ["_law_script","_law_k"] 1 JC) {JJ:FD} (KB:FnAt P w K mg base "_law_move" ["_law_number"] 3 JJ) {JI:FD} (JY:FnAt P w K mg base "_law_wedge" ["_law_s","_law_t","_law_opening"] 3 JI) (m_len:mg "len" = none) (m_min:mg "min" = none) (m_range:mg "range" = none) (hr:Room 3 (A.deeper (envOfC "_law_drawn" (aC s__law_drawn) s.heap.objs.size f cdv))) :
  DSs (bV CX0 P w K mg base ["_law_script","_law_leans_here","_law_found","_law_k","_law_cell_here","_law_place","_law_piece"] "_law_drawn" (aC s__law_drawn) f cdv A outer s H E).nox (aL s__law_drawn) (cK JC JJ JI) :=
 have nd:=iM.nd
 aG (BB nd)
 (aG (dB PassesOwn.never rfl (wI m_range (aA (aD) (aA (gI (AQ rfl) m_min wA (aA (eF m_len (dvb 0)) (aA (aD) (aH)))) (aH)))) (aW nd) (aG (aV nd (aQ JE (hr.mono (by decide)) (aA (dv 0) (aA (dv 3) (aH)))))
 (aG (aV nd (aN bQ (DE.bor (aN bK (dvb 4) (DE.bor (aD)))) (DE.bor (aN eI (DE.bor (eF m_len (dvb 1))) (DE.bor (aD))))))
 (aG (cZ (bP tV (DE.bor (aN bQ (DE.bor (aQ JE (hr.mono (by decide)) (aA (dv 0) (aA (aD) (aH))))) (DE.bor (aD)))) (DE.bor (aD))) (aK (aV nd (aN bQ (DE.bor (aN bK (DE.bor (aQ JE (hr.mono (by decide)) (aA (dv 0) (aA (aD) (aH))))) (DE.bor (aD)))) (DE.bor (aN eI (DE.bor (eF m_len (dvb 1))) (DE.bor (aD))))))) (bJ))
 (aG (aV nd (aQ JY (hr.mono (by decide)) (aA (aU (dvb 1) (dvb 5)) (aA (aU (dvb 1) (DE.bor (aN cF (dvb 5) (DE.bor (aD))))) (aA (yI tV (DE.bor (aN bQ (dvb 4) (DE.bor (aD)))) (DE.bor (aD))) (aH))))))
 (aK (AZ 2 (aN bQ (dvb 4) (DE.bor (aD))) (bW (aA (dv 5) (aA (bW (aA (dv 6) (aA (aQ KB (hr.mono (by decide)) (aA (aN cF (DE.bor (aN bK (dvb 4) (DE.bor (aD)))) (DE.bor (aN bY (DE.bor (aD)) (dvb 3)))) (aH))) (aH)))) (aH)))))))))))
 (aK (yP 2 (aX (dv 2)))))
theorem nV (Z:DefAt K mg "_law_drawn" s__law_drawn ["_law_script","_law_leans_here"]) {JC:FD} (JE:FnAt P w K mg base "_law_cell" ["_law_script","_law_k"] 1 JC) {JJ:FD} (KB:FnAt P w K mg base "_law_move" ["_law_number"] 3 JJ) {JI:FD} (JY:FnAt P w K mg base "_law_wedge" ["_law_s","_law_t","_law_opening"] 3 JI) (m_len:mg "len" = none) (m_min:mg "min" = none) (m_range:mg "range" = none) {F:FD} (len:∀ds Q,F ds Q->ds.length=2) (pure:∀ds Q,F ds Q->cK JC JJ JI { nx:=λ_=>Q .non,rt:=Q } (aP ["_law_script","_law_leans_here","_law_found","_law_k","_law_cell_here","_law_place","_law_piece"] ds)):FnAt P w K mg base "_law_drawn" ["_law_script","_law_leans_here"] 4 F :=
 Z.ok iM (λcdv A outer s H E hr=>nK JE KB JY m_len m_min m_range hr) len pure
theorem iL:FnScope ["_law_number","_law_base","_law_place","_law_k"] ["_law_number","_law_base","_law_place"] (aC s__law_digit):=⟨rfl,rfl,rfl,by decide +kernel,rfl,by decide +kernel,by decide +kernel⟩
theorem nJ {f:Addr} {cdv:Value} {A:Around} {outer:List Env} {s:Shared} {H:Hp} {E:XK} (m_range:mg "range" = none) (hr:Room 0 (A.deeper (envOfC "_law_digit" (aC s__law_digit) s.heap.objs.size f cdv))) :
  DSs (bV CX0 P w K mg base ["_law_number","_law_base","_law_place","_law_k"] "_law_digit" (aC s__law_digit) f cdv A outer s H E).nox (aL s__law_digit) (dF) :=
 have nd:=iL.nd
 aG (dB PassesOwn.never rfl (kL m_range (aA (dv 2) (aH))) (aW nd) (aK (aV nd (aN bK (dvb 0) (dvb 1)))))
 (aK (aX (aN bQ (dvb 0) (dvb 1))))
theorem nU (Z:DefAt K mg "_law_digit" s__law_digit ["_law_number","_law_base","_law_place"]) (m_range:mg "range" = none) {F:FD} (len:∀ds Q,F ds Q->ds.length=3) (pure:∀ds Q,F ds Q->dF { nx:=λ_=>Q .non,rt:=Q } (aP ["_law_number","_law_base","_law_place","_law_k"] ds)):FnAt P w K mg base "_law_digit" ["_law_number","_law_base","_law_place"] 1 F :=
 Z.ok iL (λcdv A outer s H E hr=>nJ m_range hr) len pure
theorem iN:FnScope ["_law_number","_law_many","_law_found","_law_k","_law_top","_law_bottom"] ["_law_number","_law_many"] (aC s__law_leans):=⟨rfl,rfl,rfl,by decide +kernel,rfl,by decide +kernel,by decide +kernel⟩
theorem nL {f:Addr} {cdv:Value} {A:Around} {outer:List Env} {s:Shared} {H:Hp} {E:XK} {JG:FD} (JR:FnAt P w K mg base "_law_digit" ["_law_number","_law_base","_law_place"] 1 JG) {IY:FD} (IZ:FnAt P w K mg base "_law_fraction" ["_law_top","_law_bottom"] 2 IY) (m_range:mg "range" = none) (hr:Room 2 (A.deeper (envOfC "_law_leans" (aC s__law_leans) s.heap.objs.size f cdv))) :
  DSs (bV CX0 P w K mg base ["_law_number","_law_many","_law_found","_law_k","_law_top","_law_bottom"] "_law_leans" (aC s__law_leans) f cdv A outer s H E).nox (aL s__law_leans) (dG JG IY) :=
 have nd:=iN.nd
 aG (pW nd (cE (aA (aQ IZ (hr.mono (by decide)) (aA (aN eI (DE.bor (aN bQ (dvb 0) (DE.bor (aD)))) (DE.bor (aD))) (aA (aN cF (DE.bor (aD)) (DE.bor (aN bQ (DE.bor (aN bK (dvb 0) (DE.bor (aD)))) (DE.bor (aD))))) (aH)))) (aH))))
 (aG (dB PassesOwn.never rfl (kL m_range (aA (aN eI (dvb 1) (DE.bor (aD))) (aH))) (aW nd) (aG (aV nd (aN cF (DE.bor (aD)) (DE.bor (aQ JR (hr.mono (by decide)) (aA (aN bK (dvb 0) (DE.bor (aD))) (aA (aD) (aA (dv 3) (aH))))))))
 (aG (aV nd (aN cF (DE.bor (aD)) (DE.bor (aN bQ (DE.bor (aQ JR (hr.mono (by decide)) (aA (aN bK (dvb 0) (DE.bor (aD))) (aA (aD) (aA (dv 3) (aH)))))) (DE.bor (aD))))))
 (aK (oS 2 (aQ IZ (hr.mono (by decide)) (aA (aN cF (DE.bor (aN bY (DE.bor (aU (DE.bor (aU (dvb 2) (DE.bor (uQ qW (DE.bor (aD)))))) (DE.bor (aD)))) (dvb 5))) (DE.bor (aN bY (dvb 4) (DE.bor (aU (DE.bor (aU (dvb 2) (DE.bor (uQ qW (DE.bor (aD)))))) (DE.bor (aD))))))) (aA (aN bY (DE.bor (aU (DE.bor (aU (dvb 2) (DE.bor (uQ qW (DE.bor (aD)))))) (DE.bor (aD)))) (dvb 5)) (aH)))))))))
 (aK (yP 2 (aX (dv 2)))))
theorem nW (Z:DefAt K mg "_law_leans" s__law_leans ["_law_number","_law_many"]) {JG:FD} (JR:FnAt P w K mg base "_law_digit" ["_law_number","_law_base","_law_place"] 1 JG) {IY:FD} (IZ:FnAt P w K mg base "_law_fraction" ["_law_top","_law_bottom"] 2 IY) (m_range:mg "range" = none) {F:FD} (len:∀ds Q,F ds Q->ds.length=2) (pure:∀ds Q,F ds Q->dG JG IY { nx:=λ_=>Q .non,rt:=Q } (aP ["_law_number","_law_many","_law_found","_law_k","_law_top","_law_bottom"] ds)):FnAt P w K mg base "_law_leans" ["_law_number","_law_many"] 3 F :=
 Z.ok iN (λcdv A outer s H E hr=>nL JR IZ m_range hr) len pure
theorem iP:FnScope ["_law_pool","_law_place","_law_bit","_law_k"] ["_law_pool","_law_place","_law_bit"] (aC s__law_taken):=⟨rfl,rfl,rfl,by decide +kernel,rfl,by decide +kernel,by decide +kernel⟩
theorem nN {f:Addr} {cdv:Value} {A:Around} {outer:List Env} {s:Shared} {H:Hp} {E:XK} (m_len:mg "len" = none) (m_range:mg "range" = none) (hr:Room 0 (A.deeper (envOfC "_law_taken" (aC s__law_taken) s.heap.objs.size f cdv))) :
  DSs (bV CX0 P w K mg base ["_law_pool","_law_place","_law_bit","_law_k"] "_law_taken" (aC s__law_taken) f cdv A outer s H E).nox (aL s__law_taken) (dH) :=
 have nd:=iP.nd
 aG (dB PassesOwn.never rfl (kL m_range (aA (eF m_len (dvb 0)) (aH))) (aW nd) (aK (cZ (bP (GU hr) (DE.bor (aU (dvb 0) (dvb 3))) (DE.bor (bW (aA (dv 1) (aA (dv 2) (aH)))))) (aK (aX (aN vD (DE.bor (gK (dvb 0) (jP) (jQ (dv 3)))) (DE.bor (gK (dvb 0) (jQ (aN cF (dvb 3) (DE.bor (aD)))) (jP)))))) (bJ))))
 (aK (aX (dR)))
theorem nY (Z:DefAt K mg "_law_taken" s__law_taken ["_law_pool","_law_place","_law_bit"]) (m_len:mg "len" = none) (m_range:mg "range" = none) {F:FD} (len:∀ds Q,F ds Q->ds.length=3) (pure:∀ds Q,F ds Q->dH { nx:=λ_=>Q .non,rt:=Q } (aP ["_law_pool","_law_place","_law_bit","_law_k"] ds)):FnAt P w K mg base "_law_taken" ["_law_pool","_law_place","_law_bit"] 1 F :=
 Z.ok iP (λcdv A outer s H E hr=>nN m_len m_range hr) len pure
theorem iR:FnScope ["_law_found"] ["_law_found"] (aC s__law_whole):=⟨rfl,rfl,rfl,by decide +kernel,rfl,by decide +kernel,by decide +kernel⟩
theorem nP {f:Addr} {cdv:Value} {A:Around} {outer:List Env} {s:Shared} {H:Hp} {E:XK} (m_isinstance:mg "isinstance" = none) (m_bool:mg "bool" = none) (m_int:mg "int" = none) (hr:Room 0 (A.deeper (envOfC "_law_whole" (aC s__law_whole) s.heap.objs.size f cdv))) :
  DSs (bV CX0 P w K mg base ["_law_found"] "_law_whole" (aC s__law_whole) f cdv A outer s H E).nox (aL s__law_whole) (dJ) :=
 have nd:=iR.nd
 aK (aX (EB (gJ (CU _) m_isinstance m_int vZ (dv 0)) (ED (EC (gJ (AH _) m_isinstance m_bool tG (dv 0))))))
theorem oA (Z:DefAt K mg "_law_whole" s__law_whole ["_law_found"]) (m_isinstance:mg "isinstance" = none) (m_bool:mg "bool" = none) (m_int:mg "int" = none) {F:FD} (len:∀ds Q,F ds Q->ds.length=1) (pure:∀ds Q,F ds Q->dJ { nx:=λ_=>Q .non,rt:=Q } (aP ["_law_found"] ds)):FnAt P w K mg base "_law_whole" ["_law_found"] 1 F :=
 Z.ok iR (λcdv A outer s H E hr=>nP m_isinstance m_bool m_int hr) len pure
theorem lH:FnScope ["_law_box_here","_law_pools","_law_leans_here","_law_place","_law_height","_law_bits","_law_s","_law_t","_law_one","_law_other","_law_first","_law_second"] ["_law_box_here","_law_pools","_law_leans_here"] (aC s__law_box):=⟨rfl,rfl,rfl,by decide +kernel,rfl,by decide +kernel,by decide +kernel⟩
theorem rD {f:Addr} {cdv:Value} {A:Around} {outer:List Env} {s:Shared} {H:Hp} {E:XK} {IY:FD} (IZ:FnAt P w K mg base "_law_fraction" ["_law_top","_law_bottom"] 2 IY) {JB:FD} (JF:FnAt P w K mg base "_law_taken" ["_law_pool","_law_place","_law_bit"] 1 JB) {JP:FD} (JZ:FnAt P w K mg base "_law_whole" ["_law_found"] 1 JP) (m_len:mg "len" = none) (m_isinstance:mg "isinstance" = none) (m_list:mg "list" = none) (m_tuple:mg "tuple" = none) (hr:Room 2 (A.deeper (envOfC "_law_box" (aC s__law_box) s.heap.objs.size f cdv))) :
  DSs (bV CX0 P w K mg base ["_law_box_here","_law_pools","_law_leans_here","_law_place","_law_height","_law_bits","_law_s","_law_t","_law_one","_law_other","_law_first","_law_second"] "_law_box" (aC s__law_box) f cdv A outer s H E).nox (aL s__law_box) (dE IY JB JP) :=
 have nd:=lH.nd
 aG (cZ (DW.tst (jR (gM (fK (gJ (kZ _) m_isinstance m_tuple fZ (dv 0)))) (jR (bP mS (DE.bor (eF m_len (dvb 0))) (DE.bor (aD))) (jR (gM (fK (aQ JZ (hr.mono (by decide)) (aA (aU (dvb 0) (DE.bor (aD))) (aH))))) (mF (gM (fK (gJ (nI _) m_isinstance m_list iS (aU (dvb 0) (DE.bor (aD))))))))))) (aK (aX (dR))) (bJ))
 (aG (yO (dv 0) (gL rfl (bE (aW nd) (bE (aW nd) (bE (aW nd) (dZ))))))
 (aG (cZ (DW.tst (jR (bP mS (DE.bor (eF m_len (dvb 5))) (DE.bor (aD))) (jR (bP zG (dvb 3) (DE.bor (aD))) (mF (bP GV (dvb 3) (DE.bor (aN eI (DE.bor (eF m_len (dvb 2))) (DE.bor (aD))))))))) (aK (aX (dR))) (bJ))
 (aG (aV nd (aU (dvb 2) (dvb 3)))
 (aG (aV nd (aU (dvb 2) (DE.bor (aN cF (dvb 3) (DE.bor (aD))))))
 (aG (cZ (bP (GX hr) (dvb 4) (DE.bor (aQ IZ (hr.mono (by decide)) (aA (aN eI (DE.bor (aN bY (DE.bor (aU (dvb 7) (DE.bor (aD)))) (DE.bor (aU (dvb 6) (DE.bor (aD)))))) (DE.bor (aN bY (DE.bor (aU (dvb 6) (DE.bor (aD)))) (DE.bor (aU (dvb 7) (DE.bor (aD))))))) (aA (aN bY (DE.bor (aU (dvb 6) (DE.bor (aD)))) (DE.bor (aU (dvb 7) (DE.bor (aD))))) (aH)))))) (aK (aX (dR))) (bJ))
 (aG (dB PassesOwn.never rfl (cR (DO.val (cE (aA (bW (aA (aD) (aA (aD) (aH)))) (aA (bW (aA (aD) (aA (aD) (aH)))) (aH)))))) (gL rfl (bE (aW nd) (bE (aW nd) (dZ)))) (aG (aV nd (aQ JF (hr.mono (by decide)) (aA (aU (dvb 1) (DE.bor (aD))) (aA (dv 3) (aA (aU (dvb 5) (dvb 8)) (aH))))))
 (aG (aV nd (aQ JF (hr.mono (by decide)) (aA (aU (dvb 1) (DE.bor (aD))) (aA (dv 3) (aA (aU (dvb 5) (dvb 9)) (aH))))))
 (aK (cZ (DW.tst (EI (bP vE (dvb 10) (DE.bor (dR))) (BH (bP vE (dvb 11) (DE.bor (dR)))))) (aK (aX (DO.val (cE (aA (dv 10) (aA (dv 11) (aH))))))) (bJ))))))
 (aK (aX (dR)))))))))
theorem sN (Z:DefAt K mg "_law_box" s__law_box ["_law_box_here","_law_pools","_law_leans_here"]) {IY:FD} (IZ:FnAt P w K mg base "_law_fraction" ["_law_top","_law_bottom"] 2 IY) {JB:FD} (JF:FnAt P w K mg base "_law_taken" ["_law_pool","_law_place","_law_bit"] 1 JB) {JP:FD} (JZ:FnAt P w K mg base "_law_whole" ["_law_found"] 1 JP) (m_len:mg "len" = none) (m_isinstance:mg "isinstance" = none) (m_list:mg "list" = none) (m_tuple:mg "tuple" = none) {F:FD} (len:∀ds Q,F ds Q->ds.length=3) (pure:∀ds Q,F ds Q->dE IY JB JP { nx:=λ_=>Q .non,rt:=Q } (aP ["_law_box_here","_law_pools","_law_leans_here","_law_place","_law_height","_law_bits","_law_s","_law_t","_law_one","_law_other","_law_first","_law_second"] ds)):FnAt P w K mg base "_law_box" ["_law_box_here","_law_pools","_law_leans_here"] 3 F :=
 Z.ok lH (λcdv A outer s H E hr=>rD IZ JF JZ m_len m_isinstance m_list m_tuple hr) len pure
theorem kE:FnScope ["_law_wedges","_law_pool","_law_wedge_here"] ["_law_wedges","_law_pool"] (aC s__law_left):=⟨rfl,rfl,rfl,by decide +kernel,rfl,by decide +kernel,by decide +kernel⟩
theorem pL {f:Addr} {cdv:Value} {A:Around} {outer:List Env} {s:Shared} {H:Hp} {E:XK} {JB:FD} (JF:FnAt P w K mg base "_law_taken" ["_law_pool","_law_place","_law_bit"] 1 JB) (m_len:mg "len" = none) (m_isinstance:mg "isinstance" = none) (m_tuple:mg "tuple" = none) (m_list:mg "list" = none) (hr:Room 1 (A.deeper (envOfC "_law_left" (aC s__law_left) s.heap.objs.size f cdv))) :
  DSs (bV CX0 P w K mg base ["_law_wedges","_law_pool","_law_wedge_here"] "_law_left" (aC s__law_left) f cdv A outer s H E).nox (aL s__law_left) (eD JB) :=
 have nd:=kE.nd
 aG (cZ (gM (fK (gJ (nI _) m_isinstance m_list iS (dv 0)))) (aK (aX (dR))) (bJ))
 (aG (dB PassesOwn.never rfl (cR (dv 0)) (aW nd) (aG (cZ (DW.tst (jR (gM (fK (gJ (kZ _) m_isinstance m_tuple fZ (dv 2)))) (mF (bP mS (DE.bor (eF m_len (dvb 2))) (DE.bor (aD)))))) (aK (aX (dR))) (bJ))
 (aG (aV nd (aQ JF (hr.mono (by decide)) (aA (dv 1) (aA (aU (dvb 2) (DE.bor (aD))) (aA (aU (dvb 2) (DE.bor (aD))) (aH))))))
 (aK (cZ (bP zF (dvb 1) (DE.bor (dR))) (aK (aX (dR))) (bJ))))))
 (aK (aX (dv 1))))
theorem qK (Z:DefAt K mg "_law_left" s__law_left ["_law_wedges","_law_pool"]) {JB:FD} (JF:FnAt P w K mg base "_law_taken" ["_law_pool","_law_place","_law_bit"] 1 JB) (m_len:mg "len" = none) (m_isinstance:mg "isinstance" = none) (m_tuple:mg "tuple" = none) (m_list:mg "list" = none) {F:FD} (len:∀ds Q,F ds Q->ds.length=2) (pure:∀ds Q,F ds Q->eD JB { nx:=λ_=>Q .non,rt:=Q } (aP ["_law_wedges","_law_pool","_law_wedge_here"] ds)):FnAt P w K mg base "_law_left" ["_law_wedges","_law_pool"] 2 F :=
 Z.ok kE (λcdv A outer s H E hr=>pL JF m_len m_isinstance m_tuple m_list hr) len pure
theorem iO:FnScope ["_law_found","_law_openings","_law_closings","_law_leans_here","_law_pools","_law_box_here","_law_place","_law_bit"] ["_law_found","_law_openings","_law_closings","_law_leans_here"] (aC s__law_right):=⟨rfl,rfl,rfl,by decide +kernel,rfl,by decide +kernel,by decide +kernel⟩
theorem fA:List.Nodup (["_law_other","_law_more"]:List Str):=by decide +kernel
theorem nM {f:Addr} {cdv:Value} {A:Around} {outer:List Env} {s:Shared} {H:Hp} {E:XK} {JQ:FD} (KC:FnAt P w K mg base "_law_box" ["_law_box_here","_law_pools","_law_leans_here"] 3 JQ) {JN:FD} (JT:FnAt P w K mg base "_law_left" ["_law_wedges","_law_pool"] 2 JN) (m_list:mg "list" = none) (m_isinstance:mg "isinstance" = none) (m_len:mg "len" = none) (m_tuple:mg "tuple" = none) (hr:Room 3 (A.deeper (envOfC "_law_right" (aC s__law_right) s.heap.objs.size f cdv))) :
  DSs (bV CX0 P w K mg base ["_law_found","_law_openings","_law_closings","_law_leans_here","_law_pools","_law_box_here","_law_place","_law_bit"] "_law_right" (aC s__law_right) f cdv A outer s H E).nox (aL s__law_right) (cL JQ JN) :=
 have nd:=iO.nd
 aG (cZ (DW.tst (jR (gM (fK (gJ (kZ _) m_isinstance m_tuple fZ (dv 0)))) (jR (bP mS (DE.bor (eF m_len (dvb 0))) (DE.bor (aD))) (mF (gM (fK (gJ (nI _) m_isinstance m_list iS (aU (dvb 0) (DE.bor (aD)))))))))) (aK (aX (oP))) (bJ))
 (aG (aV nd (DO.val (cE (aA (eV m_list (dvb 1)) (aA (eV m_list (dvb 2)) (aH))))))
 (aG (dB PassesOwn.never rfl (cR (aU (dvb 0) (DE.bor (aD)))) (aW nd) (aG (aV nd (aQ KC (hr.mono (by decide)) (aA (dv 5) (aA (dv 4) (aA (dv 3) (aH))))))
 (aK (cZ (bP zF (dvb 4) (DE.bor (dR))) (aK (aX (oP))) (bJ)))))
 (aG (cZ (DW.tst (jR (bP (zH hr) (DE.bor (aQ JT (hr.mono (by decide)) (aA (aU (dvb 0) (DE.bor (aD))) (aA (aU (dvb 4) (DE.bor (aD))) (aH))))) (DE.bor (DO.val (cE (aH))))) (mF (bP (zH hr) (DE.bor (aQ JT (hr.mono (by decide)) (aA (aU (dvb 0) (DE.bor (aD))) (aA (aU (dvb 4) (DE.bor (aD))) (aH))))) (DE.bor (DO.val (cE (aH)))))))) (aK (aX (oP))) (bJ))
 (aG (dB PassesOwn.never rfl (cR (aU (dvb 0) (DE.bor (aD)))) (gL rfl (bE (aW nd) (bE (aW nd) (dZ)))) (aK (cZ (bP (EX hr) (dvb 6) (DE.bor (DO.val (uU ["_law_other","_law_more"] 2 [] (cR (aU (dvb 0) (DE.bor (aD)))) (λcl C s H fp=>gL rfl (bE (aW fA) (bE (aW fA) (dZ)))) (λcl C s H fp=>dv 0)))) rfl) (aK (aX (oP))) (bJ))))
 (aK (aX (oP)))))))
theorem nX (Z:DefAt K mg "_law_right" s__law_right ["_law_found","_law_openings","_law_closings","_law_leans_here"]) {JQ:FD} (KC:FnAt P w K mg base "_law_box" ["_law_box_here","_law_pools","_law_leans_here"] 3 JQ) {JN:FD} (JT:FnAt P w K mg base "_law_left" ["_law_wedges","_law_pool"] 2 JN) (m_list:mg "list" = none) (m_isinstance:mg "isinstance" = none) (m_len:mg "len" = none) (m_tuple:mg "tuple" = none) {F:FD} (len:∀ds Q,F ds Q->ds.length=4) (pure:∀ds Q,F ds Q->cL JQ JN { nx:=λ_=>Q .non,rt:=Q } (aP ["_law_found","_law_openings","_law_closings","_law_leans_here","_law_pools","_law_box_here","_law_place","_law_bit"] ds)):FnAt P w K mg base "_law_right" ["_law_found","_law_openings","_law_closings","_law_leans_here"] 4 F :=
 Z.ok iO (λcdv A outer s H E hr=>nM KC JT m_list m_isinstance m_len m_tuple hr) len pure
theorem eR:FnScope ["triangles","groups","number","bit"] ["triangles"] (aC s_bits_by_number):=⟨rfl,rfl,rfl,by decide +kernel,rfl,by decide +kernel,by decide +kernel⟩
theorem jE {f:Addr} {cdv:Value} {A:Around} {outer:List Env} {s:Shared} {H:Hp} {E:XK} (hr:Room 0 (A.deeper (envOfC "bits_by_number" (aC s_bits_by_number) s.heap.objs.size f cdv))) :
  DSs (bV CX0 P w K mg base ["triangles","groups","number","bit"] "bits_by_number" (aC s_bits_by_number) f cdv A outer s H E).nox (aL s_bits_by_number) (bZ) :=
 have nd:=eR.nd
 aG (BD nd)
 (aG (dB PassesOwn.never rfl (cR (dv 0)) (gL rfl (bE (aW nd) (bE (aW nd) (dZ)))) (aK (BC 1 (dv 2) (dv 3))))
 (aK (yP 1 (aX (dv 1)))))
theorem jV (Z:DefAt K mg "bits_by_number" s_bits_by_number ["triangles"]) {F:FD} (len:∀ds Q,F ds Q->ds.length=1) (pure:∀ds Q,F ds Q->bZ { nx:=λ_=>Q .non,rt:=Q } (aP ["triangles","groups","number","bit"] ds)):FnAt P w K mg base "bits_by_number" ["triangles"] 1 F :=
 Z.ok eR (λcdv A outer s H E hr=>jE hr) len pure
theorem eS:FnScope ["one","other","larger","smaller","rest"] ["one","other"] (aC s_shared_divisor):=⟨rfl,rfl,rfl,by decide +kernel,rfl,by decide +kernel,by decide +kernel⟩
theorem jF {f:Addr} {cdv:Value} {A:Around} {outer:List Env} {s:Shared} {H:Hp} {E:XK} (m_abs:mg "abs" = none) (hr:Room 0 (A.deeper (envOfC "shared_divisor" (aC s_shared_divisor) s.heap.objs.size f cdv))) :
  DSs (bV CX0 P w K mg base ["one","other","larger","smaller","rest"] "shared_divisor" (aC s_shared_divisor) f cdv A outer s H E).nox (aL s_shared_divisor) (cA) :=
 have nd:=eS.nd
 aG (aV nd (gI pS m_abs hW (aA (dv 0) (aH))))
 (aG (aV nd (gI pS m_abs hW (aA (dv 1) (aH))))
 (aG (rV PassesOwn.never (bP mS (dvb 3) (DE.bor (aD))) (aG (aV nd (aN bQ (dvb 2) (dvb 3)))
 (aG (aV nd (dv 3))
 (aK (aV nd (dv 4))))))
 (aK (aX (dv 2)))))
theorem jW (Z:DefAt K mg "shared_divisor" s_shared_divisor ["one","other"]) (m_abs:mg "abs" = none) {F:FD} (len:∀ds Q,F ds Q->ds.length=2) (pure:∀ds Q,F ds Q->cA { nx:=λ_=>Q .non,rt:=Q } (aP ["one","other","larger","smaller","rest"] ds)):FnAt P w K mg base "shared_divisor" ["one","other"] 1 F :=
 Z.ok eS (λcdv A outer s H E hr=>jF m_abs hr) len pure
theorem sX:FnScope ["top","bottom","divisor"] ["top","bottom"] (aC s_ratio):=⟨rfl,rfl,rfl,by decide +kernel,rfl,by decide +kernel,by decide +kernel⟩
theorem yB {f:Addr} {cdv:Value} {A:Around} {outer:List Env} {s:Shared} {H:Hp} {E:XK} {F_shared_divisor:FD} (JK:FnAt P w K mg base "shared_divisor" ["one","other"] 1 F_shared_divisor) (hr:Room 1 (A.deeper (envOfC "ratio" (aC s_ratio) s.heap.objs.size f cdv))) :
  DSs (bV CX0 P w K mg base ["top","bottom","divisor"] "ratio" (aC s_ratio) f cdv A outer s H E).nox (aL s_ratio) (kC F_shared_divisor) :=
 have nd:=sX.nd
 aG (cZ (bP tV (dvb 1) (DE.bor (aD))) (aK (yQ)) (bJ))
 (aG (aV nd (aQ JK (hr.mono (by decide)) (aA (dv 0) (aA (dv 1) (aH)))))
 (aG (cZ (bP zG (dvb 1) (DE.bor (aD))) (aK (aV nd (uQ qW (dvb 2)))) (bJ))
 (aK (aX (bW (aA (aN bK (dvb 0) (dvb 2)) (aA (aN bK (dvb 1) (dvb 2)) (aH))))))))
theorem zK (Z:DefAt K mg "ratio" s_ratio ["top","bottom"]) {F_shared_divisor:FD} (JK:FnAt P w K mg base "shared_divisor" ["one","other"] 1 F_shared_divisor) {F:FD} (len:∀ds Q,F ds Q->ds.length=2) (pure:∀ds Q,F ds Q->kC F_shared_divisor { nx:=λ_=>Q .non,rt:=Q } (aP ["top","bottom","divisor"] ds)):FnAt P w K mg base "ratio" ["top","bottom"] 2 F :=
 Z.ok sX (λcdv A outer s H E hr=>yB JK hr) len pure
theorem sW:FnScope ["one","other"] ["one","other"] (aC s_minus):=⟨rfl,rfl,rfl,by decide +kernel,rfl,by decide +kernel,by decide +kernel⟩
theorem yA {f:Addr} {cdv:Value} {A:Around} {outer:List Env} {s:Shared} {H:Hp} {E:XK} {cH:FD} (KG:FnAt P w K mg base "ratio" ["top","bottom"] 2 cH) (hr:Room 2 (A.deeper (envOfC "minus" (aC s_minus) s.heap.objs.size f cdv))) :
  DSs (bV CX0 P w K mg base ["one","other"] "minus" (aC s_minus) f cdv A outer s H E).nox (aL s_minus) (kB cH) :=
 have nd:=sW.nd
 aK (aX (aQ KG (hr.mono (by decide)) (aA (aN eI (DE.bor (aN bY (DE.bor (aU (dvb 0) (DE.bor (aD)))) (DE.bor (aU (dvb 1) (DE.bor (aD)))))) (DE.bor (aN bY (DE.bor (aU (dvb 1) (DE.bor (aD)))) (DE.bor (aU (dvb 0) (DE.bor (aD))))))) (aA (aN bY (DE.bor (aU (dvb 0) (DE.bor (aD)))) (DE.bor (aU (dvb 1) (DE.bor (aD))))) (aH)))))
theorem zJ (Z:DefAt K mg "minus" s_minus ["one","other"]) {cH:FD} (KG:FnAt P w K mg base "ratio" ["top","bottom"] 2 cH) {F:FD} (len:∀ds Q,F ds Q->ds.length=2) (pure:∀ds Q,F ds Q->kB cH { nx:=λ_=>Q .non,rt:=Q } (aP ["one","other"] ds)):FnAt P w K mg base "minus" ["one","other"] 3 F :=
 Z.ok sW (λcdv A outer s H E hr=>yA KG hr) len pure
theorem pD:FnScope ["number","one","other","leans"] ["number","one","other","leans"] (aC s_joined):=⟨rfl,rfl,rfl,by decide +kernel,rfl,by decide +kernel,by decide +kernel⟩
theorem vX {f:Addr} {cdv:Value} {A:Around} {outer:List Env} {s:Shared} {H:Hp} {E:XK} {cP:FD} (KF:FnAt P w K mg base "minus" ["one","other"] 3 cP) (hr:Room 3 (A.deeper (envOfC "joined" (aC s_joined) s.heap.objs.size f cdv))) :
  DSs (bV CX0 P w K mg base ["number","one","other","leans"] "joined" (aC s_joined) f cdv A outer s H E).nox (aL s_joined) (iD cP) :=
 have nd:=pD.nd
 aK (aX (bW (aA (dv 0) (aA (aQ KF (hr.mono (by decide)) (aA (aU (dvb 3) (DE.bor (aN cF (dvb 0) (DE.bor (aD))))) (aA (aU (dvb 3) (dvb 0)) (aH)))) (aA (DO.val (cE (aA (dv 1) (aA (dv 2) (aH))))) (aH))))))
theorem xD (Z:DefAt K mg "joined" s_joined ["number","one","other","leans"]) {cP:FD} (KF:FnAt P w K mg base "minus" ["one","other"] 3 cP) {F:FD} (len:∀ds Q,F ds Q->ds.length=4) (pure:∀ds Q,F ds Q->iD cP { nx:=λ_=>Q .non,rt:=Q } (aP ["number","one","other","leans"] ds)):FnAt P w K mg base "joined" ["number","one","other","leans"] 4 F :=
 Z.ok pD (λcdv A outer s H E hr=>vX KF hr) len pure
theorem kG:FnScope ["groups","partners","rest","number","used"] ["groups","partners"] (aC s_left_over):=⟨rfl,rfl,rfl,by decide +kernel,rfl,by decide +kernel,by decide +kernel⟩
theorem lO:List.Nodup (["bit","number"]:List Str):=by decide +kernel
theorem pN {f:Addr} {cdv:Value} {A:Around} {outer:List Env} {s:Shared} {H:Hp} {E:XK} (m_list:mg "list" = none) (m_sorted:mg "sorted" = none) (m_len:mg "len" = none) (hr:Room 0 (A.deeper (envOfC "left_over" (aC s_left_over) s.heap.objs.size f cdv))) :
  PSs (bV CX0 P w K mg base ["groups","partners","rest","number","used"] "left_over" (aC s_left_over) f cdv A outer s H E).nox (aL s_left_over) (mQ (bV CX0 P w K mg base ["groups","partners","rest","number","used"] "left_over" (aC s_left_over) f cdv A outer s H E).nox (cX)) :=
 have nd:=kG.nd
 oT (pW nd (cE (aH)))
 (oT (dB PassesOwn.never rfl (cR (DO.val (rT m_sorted (DE.bor (DO.val (rS m_list rfl (dv 0))))))) (aW nd) (aG (aV nd (eF m_len (DE.bor (rP hr (dv 1) (dv 3) (DO.val (cE (aH)))))))
 (aK (wJ 2 (DO.val (uU ["bit","number"] 1 [3] (cR (gK (DE.bor (yK hr (dv 0) (dv 3))) (jQ (dv 4)) (jP))) (λcl C s H fp=>aW lO) (λcl C s H fp=>bW (aA (dv 1) (aA (dv 0) (aH))))))))))
 (wL 2))
theorem qM (Z:DefAt K mg "left_over" s_left_over ["groups","partners"]) (m_list:mg "list" = none) (m_sorted:mg "sorted" = none) (m_len:mg "len" = none) {F:FD} (len:∀ds Q,F ds Q->ds.length=2) (pure:∀ds Q,F ds Q->cX { nx:=λ_=>False,rt:=Q } (aP ["groups","partners","rest","number","used"] ds)):FnAtO P w K mg base "left_over" ["groups","partners"] 1 F :=
 Z.okO kG (λcdv A outer s H E hr=>pN m_list m_sorted m_len hr) len pure
theorem pE:FnScope ["openings","closings","leans","opening_bits","closing_bits","boxes","number","one","other"] ["openings","closings","leans"] (aC s_paired):=⟨rfl,rfl,rfl,by decide +kernel,rfl,by decide +kernel,by decide +kernel⟩
theorem vY {f:Addr} {cdv:Value} {A:Around} {outer:List Env} {s:Shared} {H:Hp} {E:XK} {F_bits_by_number:FD} (JH:FnAt P w K mg base "bits_by_number" ["triangles"] 1 F_bits_by_number) {F_joined:FD} (KD:FnAt P w K mg base "joined" ["number","one","other","leans"] 4 F_joined) {F_left_over:FD} (JU:FnAtO P w K mg base "left_over" ["groups","partners"] 1 F_left_over) (m_list:mg "list" = none) (m_sorted:mg "sorted" = none) (m_zip:mg "zip" = none) (hr:Room 4 (A.deeper (envOfC "paired" (aC s_paired) s.heap.objs.size f cdv))) :
  PSs (bV CX0 P w K mg base ["openings","closings","leans","opening_bits","closing_bits","boxes","number","one","other"] "paired" (aC s_paired) f cdv A outer s H E).nox (aL s_paired) (mP (bV CX0 P w K mg base ["openings","closings","leans","opening_bits","closing_bits","boxes","number","one","other"] "paired" (aC s_paired) f cdv A outer s H E).nox (eQ F_bits_by_number F_joined F_left_over)) :=
 have nd:=pE.nd
 iA (aV nd (aQ JH (hr.mono (by decide)) (aA (dv 0) (aH))))
 (iA (aV nd (aQ JH (hr.mono (by decide)) (aA (dv 1) (aH))))
 (iA (pW nd (cE (aH)))
 (iA (dB PassesOwn.never rfl (cR (DO.val (rT m_sorted (DE.bor (DO.val (rS m_list rfl (dv 3))))))) (aW nd) (aK (dB PassesOwn.never rfl (EF m_zip (yK hr (dv 3) (dv 6)) (rP hr (dv 4) (dv 6) (DO.val (cE (aH))))) (gL rfl (bE (aW nd) (bE (aW nd) (dZ)))) (aK (oS 5 (aQ KD (hr.mono (by decide)) (aA (dv 6) (aA (dv 7) (aA (dv 8) (aA (dv 2) (aH)))))))))))
 (wK 5 (rR JU (hr.mono (by decide)) (aA (dv 3) (aA (dv 4) (aH)))) (rR JU (hr.mono (by decide)) (aA (dv 4) (aA (dv 3) (aH))))))))
theorem xE (Z:DefAt K mg "paired" s_paired ["openings","closings","leans"]) {F_bits_by_number:FD} (JH:FnAt P w K mg base "bits_by_number" ["triangles"] 1 F_bits_by_number) {F_joined:FD} (KD:FnAt P w K mg base "joined" ["number","one","other","leans"] 4 F_joined) {F_left_over:FD} (JU:FnAtO P w K mg base "left_over" ["groups","partners"] 1 F_left_over) (m_list:mg "list" = none) (m_sorted:mg "sorted" = none) (m_zip:mg "zip" = none) {F:FD} (len:∀ds Q,F ds Q->ds.length=3) (pure:∀ds Q,F ds Q->eQ F_bits_by_number F_joined F_left_over { nx:=λ_=>False,rt:=Q } (aP ["openings","closings","leans","opening_bits","closing_bits","boxes","number","one","other"] ds)):FnAtB P w K mg base "paired" ["openings","closings","leans"] 5 F :=
 Z.okB pE (λcdv A outer s H E hr=>vY JH KD JU m_list m_sorted m_zip hr) len pure
theorem AG:FnScope ["_law_script","_law_leans_here","_law_openings","_law_closings","_law_handed","_law_found","_law_part"] ["_law_script"] (aC s_law):=⟨rfl,rfl,rfl,by decide +kernel,rfl,by decide +kernel,by decide +kernel⟩
theorem DR {f:Addr} {cdv:Value} {A:Around} {outer:List Env} {s:Shared} {H:Hp} {E:XK} {JC:FD} (JE:FnAt P w K mg base "_law_cell" ["_law_script","_law_k"] 1 JC) {JL:FD} (JV:FnAt P w K mg base "_law_drawn" ["_law_script","_law_leans_here"] 4 JL) {JM:FD} (JW:FnAt P w K mg base "_law_leans" ["_law_number","_law_many"] 3 JM) {JO:FD} (JX:FnAt P w K mg base "_law_right" ["_law_found","_law_openings","_law_closings","_law_leans_here"] 4 JO) {F_paired:FD} (KE:FnAtB P w K mg base "paired" ["openings","closings","leans"] 5 F_paired) (m_list:mg "list" = none) (hr:Room 5 (A.deeper (envOfC "law" (aC s_law) s.heap.objs.size f cdv))) :
  DSs (bV CX0 P w K mg base ["_law_script","_law_leans_here","_law_openings","_law_closings","_law_handed","_law_found","_law_part"] "law" (aC s_law) f cdv A outer s H E).nox (aL s_law) (fN JC JL JM JO F_paired) :=
 have nd:=AG.nd
 aG (aV nd (aQ JW (hr.mono (by decide)) (aA (aN bK (DE.bor (aQ JE (hr.mono (by decide)) (aA (dv 0) (aA (aD) (aH))))) (DE.bor (aD))) (aA (aN cF (DE.bor (aD)) (DE.bor (aN bQ (DE.bor (aQ JE (hr.mono (by decide)) (aA (dv 0) (aA (aD) (aH))))) (DE.bor (aD))))) (aH)))))
 (aG (yO (aQ JV (hr.mono (by decide)) (aA (dv 0) (aA (dv 1) (aH)))) (EE rfl (bE (aW nd) (bE (aW nd) (dZ)))))
 (aG (aV nd (DO.val (cE (aA (eV m_list (dvb 2)) (aA (eV m_list (dvb 3)) (aA (eV m_list (dvb 1)) (aH)))))))
 (aG (BE nd KE (hr.mono (by decide)) (aA (aU (dvb 4) (DE.bor (aD))) (aA (aU (dvb 4) (DE.bor (aD))) (aA (aU (dvb 4) (DE.bor (aD))) (aH)))))
 (aG (cZ (BG 5 (gM (fK (aQ JX (hr.mono (by decide)) (aA (dv 5) (aA (dv 2) (aA (dv 3) (aA (dv 1) (aH))))))))) (aK (aX (oP))) (bJ))
 (aG (BA PassesOwn.never rfl nd (by decide))
 (aK (aX (yI (EW hr) (dvb 4) (DE.bor (DO.val (cE (aA (dv 2) (aA (dv 3) (aA (dv 1) (aH)))))))))))))))
theorem EL {JC:FD} (JE:FnAt P w K mg base "_law_cell" ["_law_script","_law_k"] 1 JC) {JL:FD} (JV:FnAt P w K mg base "_law_drawn" ["_law_script","_law_leans_here"] 4 JL) {JM:FD} (JW:FnAt P w K mg base "_law_leans" ["_law_number","_law_many"] 3 JM) {JO:FD} (JX:FnAt P w K mg base "_law_right" ["_law_found","_law_openings","_law_closings","_law_leans_here"] 4 JO) {F_paired:FD} (KE:FnAtB P w K mg base "paired" ["openings","closings","leans"] 5 F_paired) (m_list:mg "list" = none) {F:FD} {f:Addr} {fd:FuncData} (Fu:Fun K "law" "law" s_law f fd) (len:∀ds Q,F ds Q->ds.length=1) (pure:∀ds Q,F ds Q->fN JC JL JM JO F_paired { nx:=λ_=>Q .non,rt:=Q } (aP ["_law_script","_law_leans_here","_law_openings","_law_closings","_law_handed","_law_found","_law_part"] ds)):FnOk P w K mg base CX0 6 f fd ["_law_script"] (spD K F) :=
 DC Fu AG (λcdv A outer s H E hr=>DR JE JV JW JX KE m_list hr) len pure
end
structure TopF (K:PySem.W.Frag) (mg:Str->Option Value):Prop where
 d__law_cell:DefAt K mg "_law_cell" s__law_cell ["_law_script","_law_k"]
 d__law_divisor:DefAt K mg "_law_divisor" s__law_divisor ["_law_one","_law_other"]
 d__law_fraction:DefAt K mg "_law_fraction" s__law_fraction ["_law_top","_law_bottom"]
 d__law_move:DefAt K mg "_law_move" s__law_move ["_law_number"]
 d__law_due:DefAt K mg "_law_due" s__law_due ["_law_share","_law_ring"]
 d__law_wedge:DefAt K mg "_law_wedge" s__law_wedge ["_law_s","_law_t","_law_opening"]
 d__law_drawn:DefAt K mg "_law_drawn" s__law_drawn ["_law_script","_law_leans_here"]
 d__law_digit:DefAt K mg "_law_digit" s__law_digit ["_law_number","_law_base","_law_place"]
 d__law_leans:DefAt K mg "_law_leans" s__law_leans ["_law_number","_law_many"]
 d__law_taken:DefAt K mg "_law_taken" s__law_taken ["_law_pool","_law_place","_law_bit"]
 d__law_whole:DefAt K mg "_law_whole" s__law_whole ["_law_found"]
 d__law_box:DefAt K mg "_law_box" s__law_box ["_law_box_here","_law_pools","_law_leans_here"]
 d__law_left:DefAt K mg "_law_left" s__law_left ["_law_wedges","_law_pool"]
 d__law_right:DefAt K mg "_law_right" s__law_right ["_law_found","_law_openings","_law_closings","_law_leans_here"]
 d_bits_by_number:DefAt K mg "bits_by_number" s_bits_by_number ["triangles"]
 d_shared_divisor:DefAt K mg "shared_divisor" s_shared_divisor ["one","other"]
 d_ratio:DefAt K mg "ratio" s_ratio ["top","bottom"]
 d_minus:DefAt K mg "minus" s_minus ["one","other"]
 d_joined:DefAt K mg "joined" s_joined ["number","one","other","leans"]
 d_left_over:DefAt K mg "left_over" s_left_over ["groups","partners"]
 d_paired:DefAt K mg "paired" s_paired ["openings","closings","leans"]
 d_law:DefAt K mg "law" s_law ["_law_script"]
 m_len:mg "len" = none
 m_abs:mg "abs" = none
 m_tuple:mg "tuple" = none
 m_min:mg "min" = none
 m_range:mg "range" = none
 m_isinstance:mg "isinstance" = none
 m_bool:mg "bool" = none
 m_int:mg "int" = none
 m_list:mg "list" = none
 m_sorted:mg "sorted" = none
 m_zip:mg "zip" = none
theorem top_mk {K:PySem.W.Frag} {h:Heap} {mg:Str->Option Value} (X:K.In h) (G:h.Ns mainGlobals mg)
  {f0:Addr} {od0 an0:Option Addr} {sl0:Array (Option Value)} {oc0 kV0 dc0 pm0 cd0 ct0:Value}
  {f1:Addr} {od1 an1:Option Addr} {sl1:Array (Option Value)} {oc1 kV1 dc1 pm1 cd1 ct1:Value}
  {f2:Addr} {od2 an2:Option Addr} {sl2:Array (Option Value)} {oc2 kV2 dc2 pm2 cd2 ct2:Value}
  {f3:Addr} {od3 an3:Option Addr} {sl3:Array (Option Value)} {oc3 kV3 dc3 pm3 cd3 ct3:Value}
  {f4:Addr} {od4 an4:Option Addr} {sl4:Array (Option Value)} {oc4 kV4 dc4 pm4 cd4 ct4:Value}
  {f5:Addr} {od5 an5:Option Addr} {sl5:Array (Option Value)} {oc5 kV5 dc5 pm5 cd5 ct5:Value}
  {f6:Addr} {od6 an6:Option Addr} {sl6:Array (Option Value)} {oc6 kV6 dc6 pm6 cd6 ct6:Value}
  {f7:Addr} {od7 an7:Option Addr} {sl7:Array (Option Value)} {oc7 kV7 dc7 pm7 cd7 ct7:Value}
  {f8:Addr} {od8 an8:Option Addr} {sl8:Array (Option Value)} {oc8 kV8 dc8 pm8 cd8 ct8:Value}
  {f9:Addr} {od9 an9:Option Addr} {sl9:Array (Option Value)} {oc9 kV9 dc9 pm9 cd9 ct9:Value}
  {f10:Addr} {od10 an10:Option Addr} {sl10:Array (Option Value)} {oc10 kV10 dc10 pm10 cd10 ct10:Value}
  {f11:Addr} {od11 an11:Option Addr} {sl11:Array (Option Value)} {oc11 kV11 dc11 pm11 cd11 ct11:Value}
  {f12:Addr} {od12 an12:Option Addr} {sl12:Array (Option Value)} {oc12 kV12 dc12 pm12 cd12 ct12:Value}
  {f13:Addr} {od13 an13:Option Addr} {sl13:Array (Option Value)} {oc13 kV13 dc13 pm13 cd13 ct13:Value}
  {f14:Addr} {od14 an14:Option Addr} {sl14:Array (Option Value)} {oc14 kV14 dc14 pm14 cd14 ct14:Value}
  {f15:Addr} {od15 an15:Option Addr} {sl15:Array (Option Value)} {oc15 kV15 dc15 pm15 cd15 ct15:Value}
  {f16:Addr} {od16 an16:Option Addr} {sl16:Array (Option Value)} {oc16 kV16 dc16 pm16 cd16 ct16:Value}
  {f17:Addr} {od17 an17:Option Addr} {sl17:Array (Option Value)} {oc17 kV17 dc17 pm17 cd17 ct17:Value}
  {f18:Addr} {od18 an18:Option Addr} {sl18:Array (Option Value)} {oc18 kV18 dc18 pm18 cd18 ct18:Value}
  {f19:Addr} {od19 an19:Option Addr} {sl19:Array (Option Value)} {oc19 kV19 dc19 pm19 cd19 ct19:Value}
  {f20:Addr} {od20 an20:Option Addr} {sl20:Array (Option Value)} {oc20 kV20 dc20 pm20 cd20 ct20:Value}
  {f21:Addr} {od21 an21:Option Addr} {sl21:Array (Option Value)} {oc21 kV21 dc21 pm21 cd21 ct21:Value}
  (a0:PySem.W.nsIn K mainGlobals "_law_cell" = some (some (.ref f0))) (l0:K.lookup f0=some ⟨oc0,od0,.func (PySem.W.fnOf "_law_cell" "_law_cell" (bC s__law_cell) (aL s__law_cell) (aC s__law_cell) .none kV0 dc0 pm0 an0 cd0 ct0),sl0⟩) (c0:PySem.W.codeIn K cd0 "_law_cell" = true) (k0:PySem.W.keepIn K (.ref f0)=true)
  (a1:PySem.W.nsIn K mainGlobals "_law_divisor" = some (some (.ref f1))) (l1:K.lookup f1=some ⟨oc1,od1,.func (PySem.W.fnOf "_law_divisor" "_law_divisor" (bC s__law_divisor) (aL s__law_divisor) (aC s__law_divisor) .none kV1 dc1 pm1 an1 cd1 ct1),sl1⟩) (c1:PySem.W.codeIn K cd1 "_law_divisor" = true) (k1:PySem.W.keepIn K (.ref f1)=true)
  (a2:PySem.W.nsIn K mainGlobals "_law_fraction" = some (some (.ref f2))) (l2:K.lookup f2=some ⟨oc2,od2,.func (PySem.W.fnOf "_law_fraction" "_law_fraction" (bC s__law_fraction) (aL s__law_fraction) (aC s__law_fraction) .none kV2 dc2 pm2 an2 cd2 ct2),sl2⟩) (c2:PySem.W.codeIn K cd2 "_law_fraction" = true) (k2:PySem.W.keepIn K (.ref f2)=true)
  (a3:PySem.W.nsIn K mainGlobals "_law_move" = some (some (.ref f3))) (l3:K.lookup f3=some ⟨oc3,od3,.func (PySem.W.fnOf "_law_move" "_law_move" (bC s__law_move) (aL s__law_move) (aC s__law_move) .none kV3 dc3 pm3 an3 cd3 ct3),sl3⟩) (c3:PySem.W.codeIn K cd3 "_law_move" = true) (k3:PySem.W.keepIn K (.ref f3)=true)
  (a4:PySem.W.nsIn K mainGlobals "_law_due" = some (some (.ref f4))) (l4:K.lookup f4=some ⟨oc4,od4,.func (PySem.W.fnOf "_law_due" "_law_due" (bC s__law_due) (aL s__law_due) (aC s__law_due) .none kV4 dc4 pm4 an4 cd4 ct4),sl4⟩) (c4:PySem.W.codeIn K cd4 "_law_due" = true) (k4:PySem.W.keepIn K (.ref f4)=true)
  (a5:PySem.W.nsIn K mainGlobals "_law_wedge" = some (some (.ref f5))) (l5:K.lookup f5=some ⟨oc5,od5,.func (PySem.W.fnOf "_law_wedge" "_law_wedge" (bC s__law_wedge) (aL s__law_wedge) (aC s__law_wedge) .none kV5 dc5 pm5 an5 cd5 ct5),sl5⟩) (c5:PySem.W.codeIn K cd5 "_law_wedge" = true) (k5:PySem.W.keepIn K (.ref f5)=true)
  (a6:PySem.W.nsIn K mainGlobals "_law_drawn" = some (some (.ref f6))) (l6:K.lookup f6=some ⟨oc6,od6,.func (PySem.W.fnOf "_law_drawn" "_law_drawn" (bC s__law_drawn) (aL s__law_drawn) (aC s__law_drawn) .none kV6 dc6 pm6 an6 cd6 ct6),sl6⟩) (c6:PySem.W.codeIn K cd6 "_law_drawn" = true) (k6:PySem.W.keepIn K (.ref f6)=true)
  (a7:PySem.W.nsIn K mainGlobals "_law_digit" = some (some (.ref f7))) (l7:K.lookup f7=some ⟨oc7,od7,.func (PySem.W.fnOf "_law_digit" "_law_digit" (bC s__law_digit) (aL s__law_digit) (aC s__law_digit) .none kV7 dc7 pm7 an7 cd7 ct7),sl7⟩) (c7:PySem.W.codeIn K cd7 "_law_digit" = true) (k7:PySem.W.keepIn K (.ref f7)=true)
  (a8:PySem.W.nsIn K mainGlobals "_law_leans" = some (some (.ref f8))) (l8:K.lookup f8=some ⟨oc8,od8,.func (PySem.W.fnOf "_law_leans" "_law_leans" (bC s__law_leans) (aL s__law_leans) (aC s__law_leans) .none kV8 dc8 pm8 an8 cd8 ct8),sl8⟩) (c8:PySem.W.codeIn K cd8 "_law_leans" = true) (k8:PySem.W.keepIn K (.ref f8)=true)
  (a9:PySem.W.nsIn K mainGlobals "_law_taken" = some (some (.ref f9))) (l9:K.lookup f9=some ⟨oc9,od9,.func (PySem.W.fnOf "_law_taken" "_law_taken" (bC s__law_taken) (aL s__law_taken) (aC s__law_taken) .none kV9 dc9 pm9 an9 cd9 ct9),sl9⟩) (c9:PySem.W.codeIn K cd9 "_law_taken" = true) (k9:PySem.W.keepIn K (.ref f9)=true)
  (a10:PySem.W.nsIn K mainGlobals "_law_whole" = some (some (.ref f10))) (l10:K.lookup f10=some ⟨oc10,od10,.func (PySem.W.fnOf "_law_whole" "_law_whole" (bC s__law_whole) (aL s__law_whole) (aC s__law_whole) .none kV10 dc10 pm10 an10 cd10 ct10),sl10⟩) (c10:PySem.W.codeIn K cd10 "_law_whole" = true) (k10:PySem.W.keepIn K (.ref f10)=true)
  (a11:PySem.W.nsIn K mainGlobals "_law_box" = some (some (.ref f11))) (l11:K.lookup f11=some ⟨oc11,od11,.func (PySem.W.fnOf "_law_box" "_law_box" (bC s__law_box) (aL s__law_box) (aC s__law_box) .none kV11 dc11 pm11 an11 cd11 ct11),sl11⟩) (c11:PySem.W.codeIn K cd11 "_law_box" = true) (k11:PySem.W.keepIn K (.ref f11)=true)
  (a12:PySem.W.nsIn K mainGlobals "_law_left" = some (some (.ref f12))) (l12:K.lookup f12=some ⟨oc12,od12,.func (PySem.W.fnOf "_law_left" "_law_left" (bC s__law_left) (aL s__law_left) (aC s__law_left) .none kV12 dc12 pm12 an12 cd12 ct12),sl12⟩) (c12:PySem.W.codeIn K cd12 "_law_left" = true) (k12:PySem.W.keepIn K (.ref f12)=true)
  (a13:PySem.W.nsIn K mainGlobals "_law_right" = some (some (.ref f13))) (l13:K.lookup f13=some ⟨oc13,od13,.func (PySem.W.fnOf "_law_right" "_law_right" (bC s__law_right) (aL s__law_right) (aC s__law_right) .none kV13 dc13 pm13 an13 cd13 ct13),sl13⟩) (c13:PySem.W.codeIn K cd13 "_law_right" = true) (k13:PySem.W.keepIn K (.ref f13)=true)
  (a14:PySem.W.nsIn K mainGlobals "bits_by_number" = some (some (.ref f14))) (l14:K.lookup f14=some ⟨oc14,od14,.func (PySem.W.fnOf "bits_by_number" "bits_by_number" (bC s_bits_by_number) (aL s_bits_by_number) (aC s_bits_by_number) .none kV14 dc14 pm14 an14 cd14 ct14),sl14⟩) (c14:PySem.W.codeIn K cd14 "bits_by_number" = true) (k14:PySem.W.keepIn K (.ref f14)=true)
  (a15:PySem.W.nsIn K mainGlobals "shared_divisor" = some (some (.ref f15))) (l15:K.lookup f15=some ⟨oc15,od15,.func (PySem.W.fnOf "shared_divisor" "shared_divisor" (bC s_shared_divisor) (aL s_shared_divisor) (aC s_shared_divisor) .none kV15 dc15 pm15 an15 cd15 ct15),sl15⟩) (c15:PySem.W.codeIn K cd15 "shared_divisor" = true) (k15:PySem.W.keepIn K (.ref f15)=true)
  (a16:PySem.W.nsIn K mainGlobals "ratio" = some (some (.ref f16))) (l16:K.lookup f16=some ⟨oc16,od16,.func (PySem.W.fnOf "ratio" "ratio" (bC s_ratio) (aL s_ratio) (aC s_ratio) .none kV16 dc16 pm16 an16 cd16 ct16),sl16⟩) (c16:PySem.W.codeIn K cd16 "ratio" = true) (k16:PySem.W.keepIn K (.ref f16)=true)
  (a17:PySem.W.nsIn K mainGlobals "minus" = some (some (.ref f17))) (l17:K.lookup f17=some ⟨oc17,od17,.func (PySem.W.fnOf "minus" "minus" (bC s_minus) (aL s_minus) (aC s_minus) .none kV17 dc17 pm17 an17 cd17 ct17),sl17⟩) (c17:PySem.W.codeIn K cd17 "minus" = true) (k17:PySem.W.keepIn K (.ref f17)=true)
  (a18:PySem.W.nsIn K mainGlobals "joined" = some (some (.ref f18))) (l18:K.lookup f18=some ⟨oc18,od18,.func (PySem.W.fnOf "joined" "joined" (bC s_joined) (aL s_joined) (aC s_joined) .none kV18 dc18 pm18 an18 cd18 ct18),sl18⟩) (c18:PySem.W.codeIn K cd18 "joined" = true) (k18:PySem.W.keepIn K (.ref f18)=true)
  (a19:PySem.W.nsIn K mainGlobals "left_over" = some (some (.ref f19))) (l19:K.lookup f19=some ⟨oc19,od19,.func (PySem.W.fnOf "left_over" "left_over" (bC s_left_over) (aL s_left_over) (aC s_left_over) .none kV19 dc19 pm19 an19 cd19 ct19),sl19⟩) (c19:PySem.W.codeIn K cd19 "left_over" = true) (k19:PySem.W.keepIn K (.ref f19)=true)
  (a20:PySem.W.nsIn K mainGlobals "paired" = some (some (.ref f20))) (l20:K.lookup f20=some ⟨oc20,od20,.func (PySem.W.fnOf "paired" "paired" (bC s_paired) (aL s_paired) (aC s_paired) .none kV20 dc20 pm20 an20 cd20 ct20),sl20⟩) (c20:PySem.W.codeIn K cd20 "paired" = true) (k20:PySem.W.keepIn K (.ref f20)=true)
  (a21:PySem.W.nsIn K mainGlobals "law" = some (some (.ref f21))) (l21:K.lookup f21=some ⟨oc21,od21,.func (PySem.W.fnOf "law" "law" (bC s_law) (aL s_law) (aC s_law) .none kV21 dc21 pm21 an21 cd21 ct21),sl21⟩) (c21:PySem.W.codeIn K cd21 "law" = true) (k21:PySem.W.keepIn K (.ref f21)=true)
  (z0:PySem.W.nsIn K mainGlobals "len" = some none)
  (z1:PySem.W.nsIn K mainGlobals "abs" = some none)
  (z2:PySem.W.nsIn K mainGlobals "tuple" = some none)
  (z3:PySem.W.nsIn K mainGlobals "min" = some none)
  (z4:PySem.W.nsIn K mainGlobals "range" = some none)
  (z5:PySem.W.nsIn K mainGlobals "isinstance" = some none)
  (z6:PySem.W.nsIn K mainGlobals "bool" = some none)
  (z7:PySem.W.nsIn K mainGlobals "int" = some none)
  (z8:PySem.W.nsIn K mainGlobals "list" = some none)
  (z9:PySem.W.nsIn K mainGlobals "sorted" = some none)
  (z10:PySem.W.nsIn K mainGlobals "zip" = some none):TopF K mg :=
 ⟨⟨_,_,bL (st:=s__law_cell) l0 c0 k0,PySem.W.mg_of X G a0,fQ (λ_ _=>rfl)⟩,
  ⟨_,_,bL (st:=s__law_divisor) l1 c1 k1,PySem.W.mg_of X G a1,fQ (λ_ _=>rfl)⟩,
  ⟨_,_,bL (st:=s__law_fraction) l2 c2 k2,PySem.W.mg_of X G a2,fQ (λ_ _=>rfl)⟩,
  ⟨_,_,bL (st:=s__law_move) l3 c3 k3,PySem.W.mg_of X G a3,rF (λ_=>rfl)⟩,
  ⟨_,_,bL (st:=s__law_due) l4 c4 k4,PySem.W.mg_of X G a4,fQ (λ_ _=>rfl)⟩,
  ⟨_,_,bL (st:=s__law_wedge) l5 c5 k5,PySem.W.mg_of X G a5,oH (λ_ _ _=>rfl)⟩,
  ⟨_,_,bL (st:=s__law_drawn) l6 c6 k6,PySem.W.mg_of X G a6,fQ (λ_ _=>rfl)⟩,
  ⟨_,_,bL (st:=s__law_digit) l7 c7 k7,PySem.W.mg_of X G a7,oH (λ_ _ _=>rfl)⟩,
  ⟨_,_,bL (st:=s__law_leans) l8 c8 k8,PySem.W.mg_of X G a8,fQ (λ_ _=>rfl)⟩,
  ⟨_,_,bL (st:=s__law_taken) l9 c9 k9,PySem.W.mg_of X G a9,oH (λ_ _ _=>rfl)⟩,
  ⟨_,_,bL (st:=s__law_whole) l10 c10 k10,PySem.W.mg_of X G a10,rF (λ_=>rfl)⟩,
  ⟨_,_,bL (st:=s__law_box) l11 c11 k11,PySem.W.mg_of X G a11,oH (λ_ _ _=>rfl)⟩,
  ⟨_,_,bL (st:=s__law_left) l12 c12 k12,PySem.W.mg_of X G a12,fQ (λ_ _=>rfl)⟩,
  ⟨_,_,bL (st:=s__law_right) l13 c13 k13,PySem.W.mg_of X G a13,CW (λ_ _ _ _=>rfl)⟩,
  ⟨_,_,bL (st:=s_bits_by_number) l14 c14 k14,PySem.W.mg_of X G a14,rF (λ_=>rfl)⟩,
  ⟨_,_,bL (st:=s_shared_divisor) l15 c15 k15,PySem.W.mg_of X G a15,fQ (λ_ _=>rfl)⟩,
  ⟨_,_,bL (st:=s_ratio) l16 c16 k16,PySem.W.mg_of X G a16,fQ (λ_ _=>rfl)⟩,
  ⟨_,_,bL (st:=s_minus) l17 c17 k17,PySem.W.mg_of X G a17,fQ (λ_ _=>rfl)⟩,
  ⟨_,_,bL (st:=s_joined) l18 c18 k18,PySem.W.mg_of X G a18,CW (λ_ _ _ _=>rfl)⟩,
  ⟨_,_,bL (st:=s_left_over) l19 c19 k19,PySem.W.mg_of X G a19,fQ (λ_ _=>rfl)⟩,
  ⟨_,_,bL (st:=s_paired) l20 c20 k20,PySem.W.mg_of X G a20,oH (λ_ _ _=>rfl)⟩,
  ⟨_,_,bL (st:=s_law) l21 c21 k21,PySem.W.mg_of X G a21,rF (λ_=>rfl)⟩,
  PySem.W.mg_none_of X G z0,
  PySem.W.mg_none_of X G z1,
  PySem.W.mg_none_of X G z2,
  PySem.W.mg_none_of X G z3,
  PySem.W.mg_none_of X G z4,
  PySem.W.mg_none_of X G z5,
  PySem.W.mg_none_of X G z6,
  PySem.W.mg_none_of X G z7,
  PySem.W.mg_none_of X G z8,
  PySem.W.mg_none_of X G z9,
  PySem.W.mg_none_of X G z10⟩
theorem law_fn {P:Program} {w:World} {K:PySem.W.Frag} {mg:Str->Option Value} {base:Heap} {f:Addr} {fd:FuncData} (T:TopF K mg) (Fu:Fun K "law" "law" s_law f fd):FnOk P w K mg base CX0 6 f fd ["_law_script"] (spD K (vW 63)):=by
 have JE:=qJ (P:=P) (w:=w) (base:=base) T.d__law_cell T.m_len (F:=fX) tP lQ
 have JD:=lP (P:=P) (w:=w) (base:=base) T.d__law_divisor T.m_abs (F:=lB) vB kQ
 have IZ:=kP (P:=P) (w:=w) (base:=base) T.d__law_fraction JD (F:=oG) BQ jZ
 have KB:=qL (P:=P) (w:=w) (base:=base) T.d__law_move IZ (F:=iZ) tR lS
 have KA:=sO (P:=P) (w:=w) (base:=base) T.d__law_due JD T.m_tuple T.m_min (F:=qX) BO qQ
 have JY:=nZ (P:=P) (w:=w) (base:=base) T.d__law_wedge KA (F:=hV) sH kU
 have JV:=nV (P:=P) (w:=w) (base:=base) T.d__law_drawn JE KB JY T.m_len T.m_min T.m_range (F:=gZ) sD kR
 have JR:=nU (P:=P) (w:=w) (base:=base) T.d__law_digit T.m_range (F:=lV) wV mY
 have JW:=nW (P:=P) (w:=w) (base:=base) T.d__law_leans JR IZ T.m_range (F:=hE) sE kS
 have JF:=nY (P:=P) (w:=w) (base:=base) T.d__law_taken T.m_len T.m_range (F:=jA) wX mZ
 have JZ:=oA (P:=P) (w:=w) (base:=base) T.d__law_whole T.m_isinstance T.m_bool T.m_int (F:=lX) wY nA
 have KC:=sN (P:=P) (w:=w) (base:=base) T.d__law_box IZ JF JZ T.m_len T.m_isinstance T.m_list T.m_tuple (F:=lT) wT mX
 have JT:=qK (P:=P) (w:=w) (base:=base) T.d__law_left JF T.m_len T.m_isinstance T.m_tuple T.m_list (F:=iY) tQ lR
 have JX:=nX (P:=P) (w:=w) (base:=base) T.d__law_right KC JT T.m_list T.m_isinstance T.m_len T.m_tuple (F:=hU) sG kT
 have JH:=jV (P:=P) (w:=w) (base:=base) T.d_bits_by_number (F:=lU) wU iG
 have JK:=jW (P:=P) (w:=w) (base:=base) T.d_shared_divisor T.m_abs (F:=lB) vB iH
 have KG:=zK (P:=P) (w:=w) (base:=base) T.d_ratio JK (F:=cH) wW uB
 have KF:=zJ (P:=P) (w:=w) (base:=base) T.d_minus KG (F:=cP) yZ uA
 have KD:=xD (P:=P) (w:=w) (base:=base) T.d_joined KF (F:=fH) qG oB
 have JU:=qM (P:=P) (w:=w) (base:=base) T.d_left_over T.m_list T.m_sorted T.m_len (F:=lW) sF kW
 have KE:=xE (P:=P) (w:=w) (base:=base) T.d_paired JH KD JU T.m_list T.m_sorted T.m_zip (F:=fI) qH oC
 exact EL JE JV JW JX KE T.m_list (F:=vW 63) Fu BP tZ
end K33
end L2.R2
open PySem PySem.W PyProof.Rows
set_option maxRecDepth 100000 in
set_option maxHeartbeats 0 in
theorem PySem.Challenge.cw_recut_k33_paired_holds : PySem.Challenge.rw_recut_k33_paired.Holds := by
 w_on;o_law;k_head;(case hw=>w_witness2)
 k_fill
 refine L2.R2.walk_law (l:=PySem.Challenge.rw_recut_k33_paired) (k:=6) (x:="_law_script") rfl rfl ⟨rfl,by decide,by decide⟩ (λw h Y=>PySem.W.kIn_of Y) rfl ?F
 case F =>
  intro w mg h KX G
  have T:L2.R2.K33.TopF (L2.KOf KX) mg:=by
   dsimp only[L2.KOf]
   refine' L2.R2.K33.top_mk KX G ?a0 ?l0 ?c0 ?k0 ?a1 ?l1 ?c1 ?k1 ?a2 ?l2 ?c2 ?k2 ?a3 ?l3 ?c3 ?k3 ?a4 ?l4 ?c4 ?k4 ?a5 ?l5 ?c5 ?k5 ?a6 ?l6 ?c6 ?k6 ?a7 ?l7 ?c7 ?k7 ?a8 ?l8 ?c8 ?k8 ?a9 ?l9 ?c9 ?k9 ?a10 ?l10 ?c10 ?k10 ?a11 ?l11 ?c11 ?k11 ?a12 ?l12 ?c12 ?k12 ?a13 ?l13 ?c13 ?k13 ?a14 ?l14 ?c14 ?k14 ?a15 ?l15 ?c15 ?k15 ?a16 ?l16 ?c16 ?k16 ?a17 ?l17 ?c17 ?k17 ?a18 ?l18 ?c18 ?k18 ?a19 ?l19 ?c19 ?k19 ?a20 ?l20 ?c20 ?k20 ?a21 ?l21 ?c21 ?k21 ?z0 ?z1 ?z2 ?z3 ?z4 ?z5 ?z6 ?z7 ?z8 ?z9 ?z10
   (case a0=>k_is);(case l0=>k_is);(case c0=>k_is);(case k0=>k_is)
   (case a1=>k_is);(case l1=>k_is);(case c1=>k_is);(case k1=>k_is)
   (case a2=>k_is);(case l2=>k_is);(case c2=>k_is);(case k2=>k_is)
   (case a3=>k_is);(case l3=>k_is);(case c3=>k_is);(case k3=>k_is)
   (case a4=>k_is);(case l4=>k_is);(case c4=>k_is);(case k4=>k_is)
   (case a5=>k_is);(case l5=>k_is);(case c5=>k_is);(case k5=>k_is)
   (case a6=>k_is);(case l6=>k_is);(case c6=>k_is);(case k6=>k_is)
   (case a7=>k_is);(case l7=>k_is);(case c7=>k_is);(case k7=>k_is)
   (case a8=>k_is);(case l8=>k_is);(case c8=>k_is);(case k8=>k_is)
   (case a9=>k_is);(case l9=>k_is);(case c9=>k_is);(case k9=>k_is)
   (case a10=>k_is);(case l10=>k_is);(case c10=>k_is);(case k10=>k_is)
   (case a11=>k_is);(case l11=>k_is);(case c11=>k_is);(case k11=>k_is)
   (case a12=>k_is);(case l12=>k_is);(case c12=>k_is);(case k12=>k_is)
   (case a13=>k_is);(case l13=>k_is);(case c13=>k_is);(case k13=>k_is)
   (case a14=>k_is);(case l14=>k_is);(case c14=>k_is);(case k14=>k_is)
   (case a15=>k_is);(case l15=>k_is);(case c15=>k_is);(case k15=>k_is)
   (case a16=>k_is);(case l16=>k_is);(case c16=>k_is);(case k16=>k_is)
   (case a17=>k_is);(case l17=>k_is);(case c17=>k_is);(case k17=>k_is)
   (case a18=>k_is);(case l18=>k_is);(case c18=>k_is);(case k18=>k_is)
   (case a19=>k_is);(case l19=>k_is);(case c19=>k_is);(case k19=>k_is)
   (case a20=>k_is);(case l20=>k_is);(case c20=>k_is);(case k20=>k_is)
   (case a21=>k_is);(case l21=>k_is);(case c21=>k_is);(case k21=>k_is)
   (case z0=>k_is)
   (case z1=>k_is)
   (case z2=>k_is)
   (case z3=>k_is)
   (case z4=>k_is)
   (case z5=>k_is)
   (case z6=>k_is)
   (case z7=>k_is)
   (case z8=>k_is)
   (case z9=>k_is)
   (case z10=>k_is)
  exact T.d_law.okL λbase f fd Fu=>L2.R2.K33.law_fn T Fu

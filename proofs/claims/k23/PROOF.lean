import PyProof.Rows.All
import Wide.All
import OpenK.AllK
import Wide.FinOn
import Lean
import PyProof.EqAt
import PyProof.EqKinds
import PyProof.TupleCall
import PySem.Challenge.RW_recut_k23_bands_of_curves
set_option compiler.extract_closed false
local macro_rules | `(tactic| omega)=>`(tactic| lia)
local macro_rules | `(tactic| walk_at "vis")=>`(tactic| first | exact Or.inl rfl | exact Or.inr (Or.inl rfl) | exact Or.inr (Or.inr rfl) | exact Or.inr rfl)
local macro_rules | `(tactic| walk_at "loc")=>`(tactic| first | exact .inl rfl | exact .inr rfl | assumption)
set_option Elab.async false
set_option linter.all false
set_option maxRecDepth 100000
namespace L2
open PySem PySem.Spec PyProof.Rows
noncomputable abbrev Key:=Sum Int Str
noncomputable def rJ:Key->Value->Bool
 | .inl k,v=>Value.isInt k v
 | .inr x,v=>Value.isStrOf x v
noncomputable def PD (w:World):Key->Int
 | .inl k=>hashInt k
 | .inr x=>hashStr w x
theorem cA:∀{k:Key} {v:Value},rJ k v=true->(∃i t,k=Sum.inl i/\v=Value.int i t)\/(∃x t,k=Sum.inr x/\v=Value.str x t)
 | .inl i,v,h=>by
  obtain⟨t,e⟩:=Value.isInt_shape (k:=i) (v:=v) h
  exact .inl ⟨i,t,rfl,e⟩
 | .inr x,v,h=>by
  obtain⟨t,e⟩:=Value.isStrOf_shape (x:=x) (v:=v) h
  exact .inr ⟨x,t,rfl,e⟩
theorem CI (i:Int) (t:Tok):rJ (.inl i) (.int i t)=true:=by simp[rJ,Value.isInt]
theorem CJ (x:Str) (t:Tok):rJ (.inr x) (.str x t)=true:=by simp[rJ,Value.isStrOf]
theorem LN (a b:Int):decide ((Sum.inl a:Key)=Sum.inl b)=(a == b):=by
 by_cases e:a=b
 ·subst e;simp
 ·have h:¬(Sum.inl a:Key)=Sum.inl b:=λq=>e (Sum.inl.inj q)
  rw[decide_eq_false h]
  exact (beq_eq_false_iff_ne.mpr e).symm
theorem LQ (a b:Str):decide ((Sum.inr a:Key)=Sum.inr b)=decide (a=b):=by
 by_cases e:a=b
 ·subst e;simp
 ·have h:¬(Sum.inr a:Key)=Sum.inr b:=λq=>e (Sum.inr.inj q)
  rw[decide_eq_false h,decide_eq_false e]
theorem LO (a:Int) (b:Str):decide ((Sum.inl a:Key)=Sum.inr b)=false:=decide_eq_false (λq=>nomatch q)
theorem LP (a:Str) (b:Int):decide ((Sum.inr a:Key)=Sum.inl b)=false:=decide_eq_false (λq=>nomatch q)
noncomputable def cN (prog:Program) (w:World):PySem.KeyKind prog w Key where
 is:=rJ
 hash:=PD w
 inj:=λv a b ha hb=>by
  rcases cA ha with ⟨i,t,rfl,rfl⟩ | ⟨x,t,rfl,rfl⟩
  ·rcases cA hb with ⟨j,u,rfl,e⟩ | ⟨y,u,rfl,e⟩
   ·injection e with e1 _;rw[e1]
   ·exact nomatch e
  ·rcases cA hb with ⟨j,u,rfl,e⟩ | ⟨y,u,rfl,e⟩
   ·exact nomatch e
   ·injection e with e1 _;rw[e1]
 byValue:=λk v h=>by
  rcases cA h with ⟨i,t,rfl,rfl⟩ | ⟨x,t,rfl,rfl⟩ <;> rfl
 pyHash:=λhv h=>by
  rcases cA hv with ⟨i,t,rfl,rfl⟩ | ⟨x,t,rfl,rfl⟩
  ·exact wpAny_pyHash_int h
  ·exact wpAny_pyHash_str h
 eqBool:=λhu hv h=>by
  rcases cA hu with ⟨i,t,rfl,rfl⟩ | ⟨x,t,rfl,rfl⟩
  ·rcases cA hv with ⟨j,u,rfl,rfl⟩ | ⟨y,u,rfl,rfl⟩
   ·rw[LN] at h;exact wpAny_eqBool_int h
   ·rw[LO] at h;exact SeqAt.EqAt.int_str i t y u _ _ _ _ h
  ·rcases cA hv with ⟨j,u,rfl,rfl⟩ | ⟨y,u,rfl,rfl⟩
   ·rw[LP] at h;exact SeqAt.EqAt.str_int x t j u _ _ _ _ h
   ·rw[LQ] at h;exact wpAny_eqBool_str h
 «strs»:=λk x t v h=>by
  rcases cA h with ⟨i,u,rfl,e⟩ | ⟨y,u,rfl,e⟩
  ·exact nomatch e
  ·injection e with e1 _
   subst e1
   cases v <;> rfl
theorem xE (prog:Program) (w:World) (i:Int) (t:Tok):(cN prog w).is (.inl i) (.int i t)=true:=CI i t
theorem xF (prog:Program) (w:World) (x:Str) (t:Tok):(cN prog w).is (.inr x) (.str x t)=true:=CJ x t
end L2
namespace L2
open PySem PySem.Spec PyProof.Rows
inductive V where
 | non | bl (b:Bool) | int (i:Int) | str (x:Str) | byt (b:Array UInt8) | flt (b:UInt64) | ref (a:Addr) | ty (n:String)
 deriving DecidableEq
noncomputable def RelV:V->Value->Prop
 | .non,u=>u=Value.none
 | .bl b,u=>u=Value.bool b
 | .int i,u=>∃t,u=Value.int i t
 | .str x,u=>∃t,u=Value.str x t
 | .byt b,u=>∃t,u=Value.bytes b t
 | .flt b,u=>∃t,u=Value.float b t
 | .ref a,u=>u=Value.ref a
 | .ty n,u=>u=Value.type n
noncomputable abbrev Vals:List V->List Value->Prop:=Paired RelV
theorem Vals.length {xs:List V} {us:List Value} (r:Vals xs us):xs.length=us.length:=Paired.length r
theorem Vals.get:∀{xs:List V} {us:List Value} {i:Nat} {x:V},Vals xs us->xs[i]? = some x->∃u,us[i]? = some u/\RelV x u
 | _,_,_,_,.nil,e=>by simp at e
 | _,_,0,_,.cons r _,e=>by simp at e;subst e;exact⟨_,rfl,r⟩
 | _,_,i+1,x,.cons _ t,e=>by
  obtain⟨u,h1,h2⟩:=Vals.get (i:=i) (x:=x) t (by simpa using e)
  exact⟨u,by simpa using h1,h2⟩
theorem Vals.append:∀{xs ys:List V} {us ws:List Value},Vals xs us->Vals ys ws->Vals (xs++ys) (us++ws)
 | _,_,_,_,.nil,s=>s
 | _,_,_,_,.cons r t,s=>.cons r (Vals.append t s)
theorem Vals.take:∀{xs:List V} {us:List Value} (n:Nat),Vals xs us->Vals (xs.take n) (us.take n)
 | _,_,0,_=>.nil
 | _,_,_+1,.nil=>.nil
 | _,_,n+1,.cons r t=>.cons r (Vals.take n t)
theorem Vals.drop:∀{xs:List V} {us:List Value} (n:Nat),Vals xs us->Vals (xs.drop n) (us.drop n)
 | _,_,0,r=>r
 | _,_,_+1,.nil=>.nil
 | _,_,n+1,.cons _ t=>Vals.drop n t
noncomputable def RelO:Option V->Option Value->Prop
 | some v,some u=>RelV v u
 | none,none=>True
 | _,_=>False
noncomputable def KV {κ:Type}:List (κ × V)->List (κ × Value)->Prop:=Paired λ(p:κ × V) (q:κ × Value)=>p.1=q.1/\RelV p.2 q.2
noncomputable def kV:Key->V
 | .inl i=>.int i
 | .inr x=>.str x
inductive HO where
  | lst (xs:List V)
  | tup (xs:List V)
  | dK (kvs:List (Key × V)) | dT (kvs:List (List Key × V))
  | set (S:Int->Bool) (n:Nat)
  | ins (C dx:Addr) (fs:List (Str × V))
  | own (x:Addr)
  | xd (fs:List (Str × V))
  | met (f x:Addr)
  | rng (lo hi:Int)
  | frz (o:Obj) (u:HO)
  | tbl (ps:Array Value)
  | ext (φ:Heap->Prop)
noncomputable abbrev Hp:=Addr->Option HO
noncomputable def upd (H:Hp) (a:Addr) (o:HO):Hp:=λb=>if b=a then some o else H b
theorem aX {H:Hp} {a:Addr} {o:HO}:upd H a o a=some o:=by unfold upd;rw[if_pos rfl]
theorem aI {H:Hp} {a b:Addr} {o:HO} (h:b≠a):upd H a o b=H b:=by unfold upd;rw[if_neg h]
theorem jP {H:Hp} {a b:Addr} {o u:HO} (h:H a=some o) (h':H b=some u) (d:o≠u):a≠b:=by
 intro e;subst e;rw[h] at h';exact d (Option.some.inj h')
theorem aQ {H:Hp} {a b:Addr} {o:HO} (h:H a=some o) (h':H b=none):a≠b:=by
 intro e;subst e;rw[h] at h';cases h'
section
variable (P:Program) (w:World)
noncomputable def ObjOk (H:Hp) (h:Heap) (a:Addr):HO->Prop
 | .lst xs=>xs.length<=sizeLine/\∃(its:List Value) (n:Nat),Vals xs its/\h.get? a=some { cls:=.type "list",data:=.seq its.toArray n }
 | .tup xs=>xs.length<=sizeLine/\∃its:List Value,Vals xs its/\IsTup h a its.toArray
 | .dK kvs=>kvs.length<=sizeLine/\(a == sysModules)=false/\∃vs,KV kvs vs/\h.DictOf (cN P w) a vs
 | .dT kvs=>kvs.length<=sizeLine/\(a == sysModules)=false/\∃xs:List (List Key × Addr × Value),
   Paired (λ(p:List Key × V) (q:List Key × Addr × Value)=>p.1=q.1/\H q.2.1=some (.tup (p.1.map kV))/\RelV p.2 q.2.2) kvs xs /\
   ∃o es ep,h.get? a=some o/\o.ExactDict/\o.data = .dict es ep/\es.toList=xs.map (entryOfKey (tupleKind (cN P w)))/\(xs.map (·.1)).Nodup
 | .set S n=>h.SetOf (intKind P w) a S n
 | .ins C dx fs=>H dx=some (.own a)/\fs.length<=1000/\dx≠a/\h.get? a=some (PySem.W.instObj C dx) /\
   ∃mA,h.Ns1 dx mA/\(∀f,RelO (fs.lookup f) (mA f))/\PySem.Within mA (fs.map (·.1))
 | .own _=>∃o,h.get? a=some o
 | .xd fs=>∃mA,h.Ns1 a mA/\∀f,RelO (fs.lookup f) (mA f)
 | .rng lo hi=>∃t u v,h.get? a=some { cls:=.type "range",data:=.fields #[.int lo t,.int hi u,.int 1 v] }
 | .frz o u=>h.get? a=some o/\ObjOk H h a u
 | .tbl ps=>h.get? a=some { cls:=.none,data:=.fields ps }
 | .met f x=>h.get? a=some (PySem.W.methodObj (.ref f) (.ref x))
 | .ext φ=>φ h/\(∃o,h.get? a=some o)/\∀h1 h2:Heap,φ h1->(∀o,h1.get? a=some o->h2.get? a=some o)->φ h2
noncomputable def HOk (H:Hp) (h:Heap):Prop:=∀a o,H a=some o->ObjOk P w H h a o
end
section
variable {P:Program} {w:World} {H H':Hp} {h h':Heap} {a:Addr} {o:HO}
theorem ObjOk.lt (x:ObjOk P w H h a o):a<h.objs.size:=by
 cases o with
 | lst xs=>obtain⟨_,_,_,_,e⟩:=x;exact Heap.lt_size e
 | tup xs=>obtain⟨_,_,_,p⟩:=x;exact p.lt
 | dK kvs=>obtain⟨_,_,_,_,o,_,_,e,_⟩:=x;exact Heap.lt_size e
 | dT kvs=>obtain⟨_,_,_,_,o,_,_,e,_⟩:=x;exact Heap.lt_size e
 | set S n=>obtain⟨o,_,_,_,e,_⟩:=x;exact Heap.lt_size e
 | ins C dx fs=>obtain⟨_,_,_,e,_⟩:=x;exact Heap.lt_size e
 | own y=>obtain⟨_,e⟩:=x;exact Heap.lt_size e
 | xd fs=>obtain⟨_,⟨_,_,_,e,_⟩,_⟩:=x;exact Heap.lt_size e
 | rng lo hi=>obtain⟨_,_,_,e⟩:=x;exact Heap.lt_size e
 | frz ob u=>obtain⟨e,_⟩:=x;exact Heap.lt_size e
 | tbl ps=>exact Heap.lt_size (show h.get? a=some _ from x)
 | met f y=>exact Heap.lt_size (show h.get? a=some _ from x)
 | ext φ=>obtain⟨_,⟨_,e⟩,_⟩:=x;exact Heap.lt_size e
theorem Paired.mapP {α β:Type} {F G:α->β->Prop}:∀{l₁:List α} {l₂:List β},Paired F l₁ l₂->(∀a b,F a b->G a b)->Paired G l₁ l₂
 | _,_,.nil,_=>.nil
 | _,_,.cons r t,f=>.cons (f _ _ r) (Paired.mapP t f)
theorem ObjOk.stay (x:ObjOk P w H h a o) (k:∀b u,(b=a\/H b=some (.own a))->h.get? b=some u->h'.get? b=some u)
  (ho:∀b,H b=some (.own a)->H' b=some (.own a)) (ht:∀b xs,H b=some (.tup xs)->H' b=some (.tup xs)):ObjOk P w H' h' a o:=by
 induction o with
 | lst xs=>obtain⟨z,its,n,r,e⟩:=x;exact⟨z,its,n,r,k _ _ (.inl rfl) e⟩
 | tup xs=>obtain⟨z,its,r,ob,e,c⟩:=x;exact⟨z,its,r,ob,k _ _ (.inl rfl) e,c⟩
 | dK kvs=>obtain⟨z,y,vs,r,ob,es,ep,e,c⟩:=x;exact⟨z,y,vs,r,ob,es,ep,k _ _ (.inl rfl) e,c⟩
 | dT kvs =>
  obtain⟨z,y,xs,r,ob,es,ep,e,c⟩:=x
  exact⟨z,y,xs,Paired.mapP r λp q z=>⟨z.1,ht _ _ z.2.1,z.2.2⟩,ob,es,ep,k _ _ (.inl rfl) e,c⟩
 | set S n=>obtain⟨ob,es,ep,t,e,c⟩:=x;exact⟨ob,es,ep,t,k _ _ (.inl rfl) e,c⟩
 | ins C dx fs =>
  obtain⟨d,z,ne,e,mA,⟨od,es,ep,e2,c⟩,r⟩:=x
  exact⟨ho _ d,z,ne,k _ _ (.inl rfl) e,mA,⟨od,es,ep,k _ _ (.inr d) e2,c⟩,r⟩
 | own y=>obtain⟨ob,e⟩:=x;exact⟨ob,k _ _ (.inl rfl) e⟩
 | xd fs=>obtain⟨mA,⟨od,es,ep,e,c⟩,r⟩:=x;exact⟨mA,⟨od,es,ep,k _ _ (.inl rfl) e,c⟩,r⟩
 | rng lo hi=>obtain⟨t,u,v,e⟩:=x;exact⟨t,u,v,k _ _ (.inl rfl) e⟩
 | frz ob u ih=>obtain⟨e,q⟩:=x;exact⟨k _ _ (.inl rfl) e,ih q⟩
 | tbl ps =>
  have e:h.get? a=some { cls:=.none,data:=.fields ps }:=x
  show h'.get? a=some { cls:=.none,data:=.fields ps }
  exact k a _ (.inl rfl) e
 | met f y =>
  have e:h.get? a=some (PySem.W.methodObj (.ref f) (.ref y)):=x
  show h'.get? a=some (PySem.W.methodObj (.ref f) (.ref y))
  exact k a _ (.inl rfl) e
 | ext φ=>obtain⟨p,⟨o,e⟩,st⟩:=x;exact⟨st _ _ p λo q=>k _ _ (.inl rfl) q,⟨o,k _ _ (.inl rfl) e⟩,st⟩
theorem HOk.lt (x:HOk P w H h) (e:H a=some o):a<h.objs.size:=(x a o e).lt
theorem HOk.fresh (x:HOk P w H h) (e:h.objs.size<=a):H a=none:=by
 cases q:H a with
 | none=>rfl
 | some u=>exact absurd (Nat.lt_of_lt_of_le (x.lt q) e) (Nat.lt_irrefl _)
theorem HOk.kept (x:HOk P w H h) (k:∀b u,h.get? b=some u->h'.get? b=some u):HOk P w H h':=λa o e =>
 (x a o e).stay (λb u _ q=>k b u q) (λ_ q=>q) λ_ _ q=>q
theorem HOk.laid (x:HOk P w H h) (k:∀b u,h.get? b=some u->h'.get? b=some u) (hp:h.objs.size<=a) (new:ObjOk P w (upd H a o) h' a o):HOk P w (upd H a o) h':=λb u e=>by
 have hn:=x.fresh hp
 by_cases hb:b=a
 ·subst hb;rw[aX] at e;cases e;exact new
 ·rw[aI hb] at e
  exact (x b u e).stay (λc v _ q=>k c v q) (λc q=>by rw[aI (aQ q hn)];exact q) λc xs q=>by rw[aI (aQ q hn)];exact q
end
noncomputable def Rd (H:Hp) (a:Addr) (u:HO):Prop:=H a=some u\/∃o,H a=some (.frz o u)
theorem Rd.ok {P:Program} {w:World} {H:Hp} {h:Heap} {a:Addr} {u:HO} (r:Rd H a u) (x:HOk P w H h):ObjOk P w H h a u:=by
 rcases r with r | ⟨o,r⟩
 ·exact x a u r
 ·obtain⟨_,q⟩:=x a _ r
  exact q
noncomputable def Mut:Option HO->Prop
 | some (.lst _)=>True
 | some (.dK _)=>True
 | some (.dT _)=>True
 | some (.set _ _)=>True
 | some (.ins _ _ _)=>True
 | some (.ext _)=>True
 | _=>False
section
variable {P:Program} {w:World} {H:Hp} {h h':Heap} {x e:Addr} {o':HO}
theorem HOk.write (ok:HOk P w H h) (mu:Mut (H x)) (he:e=x\/H e=some (.own x)) (k:∀b u,b≠e->h.get? b=some u->h'.get? b=some u) (heo:∃u,h'.get? e=some u)
  (new:ObjOk P w (upd H x o') h' x o'):HOk P w (upd H x o') h':=λb u q=>by
 have nown:∀c y,H c=some (.own y)->c≠x:=λc y r z=>by subst z;rw[r] at mu;exact mu
 have ntup:∀c xs,H c=some (.tup xs)->c≠x:=λc xs r z=>by subst z;rw[r] at mu;exact mu
 by_cases hb:b=x
 ·subst hb;rw[aX] at q;cases q;exact new
 ·rw[aI hb] at q
  by_cases hbe:b=e
  ·have q':H b=some (.own x):=by
    rcases he with z | z
    ·exact absurd (hbe.trans z) hb
    ·rw[hbe];exact z
   rw[q] at q';cases q'
   obtain⟨v,hv⟩:=heo
   exact⟨v,by rw[hbe];exact hv⟩
  ·refine (ok b u q).stay (λc v hc r=>k c v ?_ r) (λc r=>by rw[aI (nown c b r)];exact r) λc xs r=>by rw[aI (ntup c xs r)];exact r
   rcases hc with rfl | hc
   ·exact hbe
   ·rintro rfl
    rcases he with z | z
    ·exact nown c b hc z
    ·rw[hc] at z;cases z;exact hb rfl
end
structure Un (fs ex:List Addr) (H H':Hp) (h h':Heap):Prop where
 keep:∀b o,h.get? b=some o->H b=none->b ∉ fs->b ∉ ex->h'.get? b=some o
 slot:∀b o,h.get? b=some o->H b=none->b∈fs->b ∉ ex->∃sl,h'.get? b=some { o with slots:=sl }
 free:∀b o,h.get? b=some o->H b=none->b ∉ ex->H' b=none
 there:∀b o,h.get? b=some o->b ∉ ex->∃o',h'.get? b=some o'
 tups:∀b xs,H b=some (.tup xs)->H' b=some (.tup xs)
 frzs:∀b o u,H b=some (.frz o u)->H' b=some (.frz o u)
 tbls:∀b ps,H b=some (.tbl ps)->∃more,H' b=some (.tbl (ps++more))
section
variable {fs fs' ex ex':List Addr} {H H1 H2:Hp} {h h1 h2 h':Heap} {a x e:Addr} {o:HO}
theorem Un.any (u:Un fs ex H H1 h h1) {b:Addr} {ob:Obj} (q:h.get? b=some ob) (n:H b=none) (hx:b ∉ ex):∃sl,h1.get? b=some { ob with slots:=sl }:=by
 by_cases hb:b∈fs
 ·exact u.slot b ob q n hb hx
 ·exact⟨ob.slots,u.keep b ob q n hb hx⟩
theorem Un.kept (k:∀b u,h.get? b=some u->h'.get? b=some u):Un fs ex H H h h' :=
 ⟨λb ob q _ _ _=>k b ob q,λb ob q _ _ _=>⟨ob.slots,k b ob q⟩,λ_ _ _ n _=>n,λb ob q _=>⟨ob,k b ob q⟩,λ_ _ q=>q,λ_ _ _ q=>q,λ_ ps q=>⟨#[],by rw[q];simp⟩⟩
theorem Un.refl:Un fs ex H H h h:=Un.kept λ_ _ q=>q
theorem Un.laid (k:∀b u,h.get? b=some u->h'.get? b=some u) (hp:h.objs.size<=a) (hn:H a=none):Un fs ex H (upd H a o) h h' where
 keep:=λb u q _ _ _=>k b u q
 slot:=λb u q _ _ _=>⟨u.slots,k b u q⟩
 free:=λb u q n _=>by rw[aI (Nat.ne_of_lt (Nat.lt_of_lt_of_le (Heap.lt_size q) hp))];exact n
 there:=λb u q _=>⟨u,k b u q⟩
 tups:=λb xs q=>by rw[aI (aQ q hn)];exact q
 frzs:=λb u xs q=>by rw[aI (aQ q hn)];exact q
 tbls:=λb ps q=>⟨#[],by rw[aI (aQ q hn),q];simp⟩
theorem Un.write (mu:Mut (H x)) (he:e=x\/H e=some (.own x)) (k:∀b u,b≠e->h.get? b=some u->h'.get? b=some u) (heo:∃u,h'.get? e=some u):Un fs ex H (upd H x o) h h':=by
 have hx:∀b,H b=none->b≠x:=λb n z=>by subst z;rw[n] at mu;exact mu
 have hb:∀b,H b=none->b≠e:=λb n z=>by
  subst z
  rcases he with r | r
  ·exact hx b n r
  ·rw[n] at r;cases r
 have hm:∀b u,H b=some u->¬Mut (some u)->b≠x:=λb u q nm z=>by subst z;rw[q] at mu;exact nm mu
 refine⟨λb u q n _ _=>k b u (hb b n) q,λb u q n _ _=>⟨u.slots,k b u (hb b n) q⟩,λb u q n _=>by rw[aI (hx b n)];exact n,λb u q _=>?_,
  λb xs q=>by rw[aI (hm b _ q λz=>z)];exact q,λb u xs q=>by rw[aI (hm b _ q λz=>z)];exact q,λb ps q=>⟨#[],by rw[aI (hm b _ q λz=>z),q];simp⟩⟩
 by_cases hbe:b=e
 ·subst hbe;exact heo
 ·exact⟨u,k b u hbe q⟩
theorem Un.mono (u:Un fs ex H H1 h h1) (hs:∀b∈fs,b∈fs') (hx:∀b∈ex,b∈ex'):Un fs' ex' H H1 h h1 :=
 ⟨λb ob q n hb he=>u.keep b ob q n (λz=>hb (hs b z)) λz=>he (hx b z),λ_ _ q n _ he=>u.any q n λz=>he (hx _ z),λb ob q n he=>u.free b ob q n λz=>he (hx b z),λb ob q he=>u.there b ob q λz=>he (hx b z),u.tups,u.frzs,u.tbls⟩
end
noncomputable def trk (h:Heap) (H:Hp):List Addr:=(List.range h.objs.size).filter λa=>(H a).isSome
noncomputable def vG (h:Heap) (H:Hp):Heap:=PySem.W.hideAll h (trk h H)
theorem CD (h:Heap) (H:Hp):(vG h H).objs.size=h.objs.size:=PySem.W.hideAll_size _ _
theorem FE {h:Heap} {H:Hp} {b:Addr} {o:Obj} (e:h.get? b=some o) (n:H b=none):(vG h H).get? b=some o :=
 PySem.W.hideAll_get _ e λhm=>by
  have q:(H b).isSome=true:=(List.mem_filter.mp hm).2
  rw[n] at q;simp at q
theorem IW {h:Heap} {H:Hp} {b:Addr} {o:Obj} (e:(vG h H).get? b=some o):h.get? b=some o/\H b=none:=by
 have e':h.get? b=some o:=PySem.W.of_hideAll (trk h H) e
 refine⟨e',?_⟩
 cases q:H b with
 | none=>rfl
 | some x =>
  have hm:b∈trk h H:=List.mem_filter.mpr ⟨List.mem_range.mpr (Heap.lt_size e'),by simp[q]⟩
  have z:(vG h H).get? b=none:=PySem.W.hideAll_none (trk h H) hm
  rw[z] at e;cases e
noncomputable def HH (g h:Heap) (L:Addr):List (Addr × Obj):=(List.range h.objs.size).filterMap λa=>if a=L\/(g.get? a).isSome=true then none else (h.get? a).map λo=>(a,o)
noncomputable def rest (g h:Heap) (L d:Addr):List (Addr × Obj):=(HH g h L).filter λp=>decide (p.1≠d)
end L2
namespace L2
open PySem PySem.Spec PyProof.Rows
structure Mod (K:PySem.W.Frag) (mg:Str->Option Value) (base:Heap):Prop where
 kin:K.In base
 glob:base.Ns mainGlobals mg
 blt:∃mb,base.Ns builtinsNs mb/\∀x:Str,x≠"__name__"->mb x=bootBuiltins x
 nolimit:base.NoLimit
structure Cx where
 prog:Program
 w:World
 K:PySem.W.Frag
 mg:Str->Option Value
 base:Heap
 A:Around
 N:List Str
 s₀:Shared
 H₀:Hp
 env:Env
 outer:List Env
 stack:List Env
 ex:List Addr
 fn:Str->Bool
 calm:Bool
 pn:List (Addr × Obj)
 xe:Value->Shared->Prop
noncomputable def frs (l:List Env):List Addr:=l.filterMap (·.frame)
noncomputable abbrev Cx.fs (X:Cx):List Addr:=frs X.outer
noncomputable def Vis (sc:Scope) (x:Str):Prop:=sc.names.lookup x=some .local\/sc.names.lookup x=some .cell\/sc.names.lookup x=some .free
noncomputable def Loc (sc:Scope) (x:Str):Prop:=sc.names.lookup x=some .local\/sc.names.lookup x=some .cell
noncomputable def OV (env:Env) (h:Heap) (m:Str->Option Value) (x:Str) (u:Value):Prop :=
 (env.kindOf x=some .local/\m x=some u)\/((env.kindOf x=some .cell\/env.kindOf x=some .free)/\∃c,env.cells.lookup x=some c/\h.IsCell c (some u))
structure Cx.Ok (X:Cx):Prop where
 mod:Mod X.K X.mg X.base
 kind:X.env.scope.kind = .function
 glob:X.env.globals=mainGlobals
 blt:X.env.builtins=builtinsNs
 above:X.s₀.heap.objs.size<=X.env.locals
 inj:∀x y c,X.env.cells.lookup x=some c->X.env.cells.lookup y=some c->x=y
 has:∀x,(X.env.kindOf x=some .cell\/X.env.kindOf x=some .free)->∃c,X.env.cells.lookup x=some c
 cab:∀x c,X.fn x=true->X.env.cells.lookup x=some c->X.s₀.heap.objs.size<=c
 hd:X.calm=true->X.A.handled=none
 frames:X.A.frames=some X.stack
 stk:X.stack=X.outer\/(X.stack=X.env::X.outer/\X.env.frame=some X.env.locals)
 exf:∀b∈X.ex,b≠X.env.locals/\∀x c,X.env.cells.lookup x=some c->c≠b
 bs:∀b o,X.base.get? b=some o->X.s₀.heap.get? b=some o/\X.H₀ b=none
 bsz:X.base.objs.size<=X.s₀.heap.objs.size
 noex:∀b o,X.base.get? b=some o->b ∉ X.ex
 exfs:∀b∈X.ex,b ∉ X.fs
 funs:X.s₀.heap.FunFrames X.base X.outer
 frf:∀b∈X.fs,X.H₀ b=none
structure Inv (X:Cx) (pins:List (Addr × Obj)) (σ:List (Option V)) (H:Hp) (s:Shared):Prop where
 ok:X.Ok
 os:s.os=X.s₀.os
 bare:AllBare s.gens
 base:Un X.fs X.ex X.H₀ H X.s₀.heap s.heap
 loc:∃m,s.heap.Ns X.env.locals m/\∀(i:Nat) (x:Str) (v:V),X.N[i]? = some x->σ[i]? = some (some v)->Vis X.env.scope x->∃u,RelV v u/\OV X.env s.heap m x u
 cell:∀x c,X.env.cells.lookup x=some c->∃v,s.heap.IsCell c v
 free:H X.env.locals=none
 freeC:∀x c,X.env.cells.lookup x=some c->H c=none
 pin:∀p∈X.pn++pins,s.heap.get? p.1=some p.2/\H p.1=none/\p.1≠X.env.locals/\p.1 ∉ X.fs/\∀v,p.2.data≠.cell v
 hok:HOk X.prog X.w H s.heap
 len:σ.length=X.N.length
section
variable {X:Cx} {pins:List (Addr × Obj)} {σ:List (Option V)} {H H':Hp} {s:Shared} {h':Heap}
theorem Cx.Ok.nofr (ok:X.Ok) {b:Addr} {o:Obj} (e:X.base.get? b=some o):b ∉ X.fs:=λhb=>by
 have:=(ok.funs.mem hb).1
 rw[e] at this;cases this
theorem Inv.bs (I:Inv X pins σ H s):∀b o,X.base.get? b=some o->s.heap.get? b=some o/\H b=none:=λb o e =>
 ⟨I.base.keep b o (I.ok.bs b o e).1 (I.ok.bs b o e).2 (I.ok.nofr e) (I.ok.noex b o e),I.base.free b o (I.ok.bs b o e).1 (I.ok.bs b o e).2 (I.ok.noex b o e)⟩
theorem Inv.bk (I:Inv X pins σ H s):∀b o,X.base.get? b=some o->s.heap.get? b=some o:=λb o e=>(I.bs b o e).1
theorem Inv.mod (I:Inv X pins σ H s):Mod X.K X.mg X.base:=I.ok.mod
theorem Inv.kIn (I:Inv X pins σ H s):X.K.In s.heap:=I.ok.mod.kin.keeps I.bk
theorem Inv.lt (I:Inv X pins σ H s):X.env.locals<s.heap.objs.size:=let ⟨_,hn,_⟩:=I.loc;hn.lt
theorem Inv.sz (I:Inv X pins σ H s):X.s₀.heap.objs.size<=s.heap.objs.size:=Nat.le_trans I.ok.above (Nat.le_of_lt I.lt)
theorem Inv.nofs (I:Inv X pins σ H s) {a:Addr} (h:s.heap.objs.size<=a):a ∉ X.fs:=λhb=>by
 obtain⟨_,o,ho,_⟩:=I.ok.funs.mem hb
 exact absurd (Nat.lt_of_lt_of_le (Heap.lt_size ho) (Nat.le_trans I.sz h)) (Nat.lt_irrefl _)
theorem Inv.cne (I:Inv X pins σ H s):∀x c,X.env.cells.lookup x=some c->c≠X.env.locals:=λx c e z=>by
 obtain⟨v,o,ho,hd⟩:=I.cell x c e
 obtain⟨m,⟨o',es,ep,ho',hd',_⟩,_⟩:=I.loc
 rw[z,ho'] at ho;cases ho;rw[hd'] at hd;cases hd
theorem Inv.funs (I:Inv X pins σ H s):s.heap.FunFrames X.base X.outer:=by
 have all:∀(l:List Env),(∀b∈frs l,b∈X.fs)->X.s₀.heap.FunFrames X.base l->s.heap.FunFrames X.base l:=by
  intro l
  induction l with
  | nil=>intro _ _;trivial
  | cons env r ih =>
   intro hs hl
   obtain⟨hk,⟨L,o,hf,hn,ho,hd⟩,hr⟩:=hl
   have hL:L∈X.fs:=hs L (by unfold frs;rw[List.filterMap_cons,hf];exact List.mem_cons_self)
   obtain⟨sl,e⟩:=I.base.slot L o ho (I.ok.frf L hL) hL λz=>I.ok.exfs L z hL
   exact⟨hk,⟨L,_,hf,hn,e,hd⟩,ih (λb hb=>hs b (by unfold frs;rw[List.filterMap_cons,hf];exact List.mem_cons_of_mem _ hb)) hr⟩
 exact all X.outer (λ_ hb=>hb) I.ok.funs
theorem Inv.stack (I:Inv X pins σ H s):s.heap.FunFrames X.base X.stack:=by
 rcases I.ok.stk with e | ⟨e,hf⟩
 ·rw[e];exact I.funs
 ·rw[e]
  obtain⟨m,hn,_⟩:=I.loc
  refine .cons (by rw[I.ok.kind];decide) hf hn ?_ I.funs
  exact Heap.get?_none_of_le (Nat.le_trans I.ok.bsz I.ok.above)
theorem Inv.stkSub (I:Inv X pins σ H s):∀b∈frs X.stack,b∈X.env.locals::X.fs:=λb hb=>by
 rcases I.ok.stk with e | ⟨e,hf⟩
 ·rw[e] at hb;exact List.mem_cons_of_mem _ hb
 ·rw[e] at hb
  unfold frs at hb
  rw[List.filterMap_cons,hf] at hb
  exact hb
theorem Inv.stkFree (I:Inv X pins σ H s):∀b∈frs X.stack,H b=none:=λb hb=>by
 rcases List.mem_cons.mp (I.stkSub b hb) with e | hb
 ·rw[e];exact I.free
 ·obtain⟨_,o,ho,_⟩:=I.ok.funs.mem hb
  exact I.base.free b o ho (I.ok.frf b hb) λz=>I.ok.exfs b z hb
theorem Inv.step {g':Array GenState} {t':Nat} {d':Drawn} {ch:List Addr} (I:Inv X pins σ H s)
  (hch:∀b∈ch,(b∈X.ex\/X.s₀.heap.objs.size<=b)/\b≠X.env.locals/\(∀x c,X.env.cells.lookup x=some c->c≠b)/\∀p∈X.pn++pins,p.1≠b)
  (keep:∀b o,b≠X.env.locals->b ∉ X.fs->b ∉ ch->s.heap.get? b=some o->H b=none->h'.get? b=some o)
  (slot:∀b o,b≠X.env.locals->b∈X.fs->b ∉ ch->s.heap.get? b=some o->H b=none->∃sl,h'.get? b=some { o with slots:=sl }) (free:∀b o,b ∉ ch->s.heap.get? b=some o->H b=none->H' b=none)
  (there:∀b o,b ∉ ch->s.heap.get? b=some o->∃o',h'.get? b=some o')
  (tups:∀b xs,H b=some (.tup xs)->H' b=some (.tup xs)) (frzs:∀b o u,H b=some (.frz o u)->H' b=some (.frz o u)) (tbls:∀b ps,H b=some (.tbl ps)->∃more,H' b=some (.tbl (ps++more)))
  (ns:∀m,s.heap.Ns X.env.locals m->h'.Ns X.env.locals m) (hok:HOk X.prog X.w H' h') (hg:AllBare g') :
  Inv X pins σ H' { s with heap:=h',gens:=g',drawn:=d',toks:=t' }:=by
 have neL:∀b o,X.s₀.heap.get? b=some o->b≠X.env.locals:=λb o e=>Nat.ne_of_lt (Nat.lt_of_lt_of_le (Heap.lt_size e) I.ok.above)
 have neC:∀b o,X.s₀.heap.get? b=some o->b ∉ X.ex->b ∉ ch:=λb o e hx hb=>by
  rcases (hch b hb).1 with z | z
  ·exact hx z
  ·exact absurd (Nat.lt_of_lt_of_le (Heap.lt_size e) z) (Nat.lt_irrefl _)
 have cellK:∀x c,X.env.cells.lookup x=some c->∀v,s.heap.IsCell c v->h'.IsCell c v:=λx c e v ⟨o,ho,hd⟩=>by
  have nch:c ∉ ch:=λz=>(hch c z).2.2.1 x c e rfl
  by_cases hc:c∈X.fs
  ·obtain⟨sl,q⟩:=slot c o (I.cne x c e) hc nch ho (I.freeC x c e)
   exact⟨_,q,hd⟩
  ·exact⟨o,keep c o (I.cne x c e) hc nch ho (I.freeC x c e),hd⟩
 refine⟨I.ok,I.os,hg,⟨λb o e n hb hx=>?_,λb o e n hb hx=>?_,λb o e n hx=>?_,λb o e hx=>?_,λb xs e=>tups b xs (I.base.tups b xs e),λb o xs e=>frzs b o xs (I.base.frzs b o xs e),λb ps e=>?_⟩,?_,λx c e=>?_,?_,λx c e=>?_,λp hp=>?_,hok,I.len⟩
 ·exact keep b o (neL b o e) hb (neC b o e hx) (I.base.keep b o e n hb hx) (I.base.free b o e n hx)
 ·obtain⟨sl,e1⟩:=I.base.slot b o e n hb hx
  obtain⟨sl',e2⟩:=slot b _ (neL b o e) hb (neC b o e hx) e1 (I.base.free b o e n hx)
  exact⟨sl',e2⟩
 ·obtain⟨o',e1⟩:=I.base.there b o e hx
  exact free b o' (neC b o e hx) e1 (I.base.free b o e n hx)
 ·obtain⟨o',e1⟩:=I.base.there b o e hx
  exact there b o' (neC b o e hx) e1
 ·obtain⟨m1,e1⟩:=I.base.tbls b ps e
  obtain⟨m2,e2⟩:=tbls b _ e1
  exact⟨m1++m2,by rw[e2,Array.append_assoc]⟩
 ·obtain⟨m,hn,hl⟩:=I.loc
  refine⟨m,ns m hn,λi x v e1 e2 e3=>?_⟩
  obtain⟨u,r,l⟩:=hl i x v e1 e2 e3
  refine⟨u,r,?_⟩
  rcases l with l | ⟨k,c,e,z⟩
  ·exact .inl l
  ·exact .inr ⟨k,c,e,cellK x c e _ z⟩
 ·obtain⟨v,z⟩:=I.cell x c e
  exact⟨v,cellK x c e v z⟩
 ·obtain⟨m,⟨o,_,_,ho,_⟩,_⟩:=I.loc
  exact free _ o (λz=>(hch _ z).2.1 rfl) ho I.free
 ·obtain⟨v,o,ho,hd⟩:=I.cell x c e
  exact free c o (λz=>(hch c z).2.2.1 x c e rfl) ho (I.freeC x c e)
 ·obtain⟨e,n,ne,nf,d⟩:=I.pin p hp
  have nch:p.1 ∉ ch:=λz=>(hch p.1 z).2.2.2 p hp rfl
  exact⟨keep p.1 p.2 ne nf nch e n,free p.1 p.2 nch e n,ne,nf,d⟩
theorem Inv.un {t':Nat} (I:Inv X pins σ H s) (u:Un X.fs [] H H' s.heap h') (hok:HOk X.prog X.w H' h'):Inv X pins σ H' { s with heap:=h',toks:=t' }:=by
 obtain⟨m,⟨o,es,ep,ho,r⟩,_⟩:=id I.loc
 obtain⟨sl,hL⟩:=u.any ho I.free (by simp)
 exact I.step (g':=s.gens) (d':=s.drawn) (ch:=[]) (λ_ z=>nomatch z) (λb o _ hb _ e n=>u.keep b o e n hb (by simp)) (λb o _ hb _ e n=>u.slot b o e n hb (by simp)) (λb o _ e n=>u.free b o e n (by simp)) (λb o _ e=>u.there b o e (by simp)) u.tups u.frzs u.tbls (λm' hm=>by
  obtain⟨o',es',ep',ho',r'⟩:=hm
  rw[ho] at ho';cases ho'
  exact⟨_,es',ep',hL,r'⟩) hok I.bare
theorem Inv.call {g':Array GenState} {t':Nat} {d':Drawn} {ch:List Addr} (I:Inv X pins σ H s) (u:Un (frs X.stack) ch H H' s.heap h') (hok:HOk X.prog X.w H' h') (hg:AllBare g')
  (hch:∀b∈ch,(b∈X.ex\/X.s₀.heap.objs.size<=b)/\b≠X.env.locals/\(∀x c,X.env.cells.lookup x=some c->c≠b)/\∀p∈X.pn++pins,p.1≠b) :
  Inv X pins σ H' { s with heap:=h',gens:=g',drawn:=d',toks:=t' }:=by
 obtain⟨m,⟨o,es,ep,ho,r⟩,_⟩:=id I.loc
 obtain⟨sl,hL⟩:=u.any ho I.free λz=>(hch _ z).2.1 rfl
 exact I.step (ch:=ch) hch (λb o hL hb hc e n=>u.keep b o e n (λz=>(List.mem_cons.mp (I.stkSub b z)).elim hL hb) hc) (λb o _ _ hc e n=>u.any e n hc) (λb o hc e n=>u.free b o e n hc) (λb o hc e=>u.there b o e hc) u.tups u.frzs u.tbls (λm' hm=>by
  obtain⟨o',es',ep',ho',r'⟩:=hm
  rw[ho] at ho';cases ho'
  exact⟨_,es',ep',hL,r'⟩) hok hg
theorem Inv.turned {t':Nat} {it:Addr} (I:Inv X pins σ H s) (k:∀b o,b≠it->s.heap.get? b=some o->h'.get? b=some o) (hn:H it=none) (hL:it≠X.env.locals)
  (h1:it∈X.ex\/X.s₀.heap.objs.size<=it) (h2:∀x c,X.env.cells.lookup x=some c->c≠it) (h3:∀p∈X.pn++pins,p.1≠it):Inv X pins σ H { s with heap:=h',toks:=t' }:=by
 have nit:∀b u,H b=some u->b≠it:=λb u e z=>by rw[z,hn] at e;cases e
 refine I.step (g':=s.gens) (d':=s.drawn) (ch:=[it]) (λb hb=>?_) (λb o _ _ hc e _=>k b o (λz=>hc (by simp[z])) e) (λb o _ _ hc e _=>⟨o.slots,k b o (λz=>hc (by simp[z])) e⟩) (λ_ _ _ _ n=>n)
  (λb o hc e=>⟨o,k b o (λz=>hc (by simp[z])) e⟩) (λ_ _ e=>e) (λ_ _ _ e=>e) (λb ps e=>⟨#[],by rw[e];simp⟩) (λm hm=>?_) (λb u e=>?_) I.bare
 ·have e:b=it:=by simpa using hb
  subst e
  exact⟨h1,hL,h2,h3⟩
 ·obtain⟨o,es,ep,ho,r⟩:=hm
  exact⟨o,es,ep,k _ o (Ne.symm hL) ho,r⟩
 ·refine (I.hok b u e).stay (λc v hc q=>k c v ?_ q) (λ_ q=>q) λ_ _ q=>q
  rcases hc with z | z
  ·rw[z];exact nit b u e
  ·exact nit c _ z
theorem Inv.tok (I:Inv X pins σ H s) (t:Nat):Inv X pins σ H { s with toks:=t }:=I.un (h':=s.heap) (t':=t) Un.refl I.hok
theorem Inv.kept {t':Nat} (I:Inv X pins σ H s) (k:∀b u,s.heap.get? b=some u->h'.get? b=some u):Inv X pins σ H { s with heap:=h',toks:=t' }:=I.un (Un.kept k) (I.hok.kept k)
theorem Inv.laid {a:Addr} {o:HO} {t':Nat} (I:Inv X pins σ H s) (k:∀b u,s.heap.get? b=some u->h'.get? b=some u) (hp:s.heap.objs.size<=a) (new:ObjOk X.prog X.w (upd H a o) h' a o) :
  Inv X pins σ (upd H a o) { s with heap:=h',toks:=t' }:=I.un (Un.laid k hp (I.hok.fresh hp)) (I.hok.laid k hp new)
theorem Inv.write {x e:Addr} {o:HO} {t':Nat} (I:Inv X pins σ H s) (mu:Mut (H x)) (he:e=x\/H e=some (.own x)) (k:∀b u,b≠e->s.heap.get? b=some u->h'.get? b=some u) (heo:∃u,h'.get? e=some u)
  (new:ObjOk X.prog X.w (upd H x o) h' x o):Inv X pins σ (upd H x o) { s with heap:=h',toks:=t' }:=I.un (Un.write mu he k heo) (I.hok.write mu he k heo new)
theorem Inv.pins_of {pins':List (Addr × Obj)} (I:Inv X pins σ H s) (h:∀p∈pins',s.heap.get? p.1=some p.2/\H p.1=none/\p.1≠X.env.locals/\p.1 ∉ X.fs/\∀v,p.2.data≠.cell v):Inv X pins' σ H s :=
 ⟨I.ok,I.os,I.bare,I.base,I.loc,I.cell,I.free,I.freeC,λp hp=>(List.mem_append.mp hp).elim (λz=>I.pin p (List.mem_append_left _ z)) (h p),I.hok,I.len⟩
theorem xH {N:List Str} (hN:N.Nodup) {i j:Nat} {x:Str} (a:N[i]? = some x) (b:N[j]? = some x):i=j:=by
 obtain⟨h1,e1⟩:=List.getElem?_eq_some_iff.mp a
 obtain⟨h2,e2⟩:=List.getElem?_eq_some_iff.mp b
 exact (List.getElem_inj hN).mp (e1.trans e2.symm)
theorem uI {M:Model} {A:Around} {E:Value->Shared->Prop} {i:Nat} {x:Str} {v:V} {u:Value} {Q:Unit->Shared->Prop} (I:Inv X pins σ H s) (hN:X.N.Nodup) (hi:X.N[i]? = some x) (hx:Loc X.env.scope x) (r:RelV v u)
  (h:∀s',Inv X pins (σ.set i (some v)) H s'->(∃a,Heap.SameBut a s.heap s'.heap/\(a=X.env.locals\/X.env.cells.lookup x=some a))->Q () s') (hf:X.fn x=true\/X.env.scope.names.lookup x=some .local:=by walk_at "loc"):wpAny M A (storeName X.env x u) Q E s:=by
 obtain⟨m,hn,hl⟩:=id I.loc
 have hcls:(X.env.scope.kind == .class || (X.env.scope.kind == .module && X.env.locals != X.env.globals))=false:=by rw[I.ok.kind];rfl
 have hiσ:i<σ.length:=by rw[I.len];exact (List.getElem?_eq_some_iff.mp hi).1
 have cne:=I.cne
 have tracked:∀{a:Addr} {h':Heap},(∃o,s.heap.get? a=some o/\H a=none)->Heap.SameBut a s.heap h'->HOk X.prog X.w H h':=λ{a h'} ha hs b ob e=>by
  obtain⟨_,_,hfree⟩:=ha
  refine (I.hok b ob e).stay (λc w' hc q=>(hs.2 c ?_).trans q) (λ_ q=>q) λ_ _ q=>q
  rintro rfl
  rcases hc with rfl | hc
  ·rw[hfree] at e;cases e
  ·rw[hfree] at hc;cases hc
 rcases hx with hk | hk
 ·refine wpAny_storeName_local hk hn (λh' hn' hs=>?_) hcls
  obtain⟨oL,_,_,hoL,_⟩:=id hn
  refine h _ ⟨I.ok,I.os,I.bare,⟨λb o e n hb hx=>?_,λb o e n hb hx=>?_,I.base.free,λb o e hx=>?_,I.base.tups,I.base.frzs,I.base.tbls⟩,⟨_,hn',λj y v' e1 e2 e3=>?_⟩,λy c e=>?_,I.free,I.freeC,λp hp=>?_,tracked ⟨oL,hoL,I.free⟩ hs,by simpa using I.len⟩ ⟨_,hs,.inl rfl⟩
  ·exact (hs.2 b (Nat.ne_of_lt (Nat.lt_of_lt_of_le (Heap.lt_size e) I.ok.above))).trans (I.base.keep b o e n hb hx)
  ·obtain⟨sl,e1⟩:=I.base.slot b o e n hb hx
   exact⟨sl,(hs.2 b (Nat.ne_of_lt (Nat.lt_of_lt_of_le (Heap.lt_size e) I.ok.above))).trans e1⟩
  ·obtain⟨o',e1⟩:=I.base.there b o e hx
   exact⟨o',(hs.2 b (Nat.ne_of_lt (Nat.lt_of_lt_of_le (Heap.lt_size e) I.ok.above))).trans e1⟩
  ·by_cases hj:j=i
   ·subst hj
    rw[hi] at e1;cases e1
    rw[List.getElem?_set_self hiσ] at e2
    cases e2
    exact⟨u,r,.inl ⟨hk,by simp⟩⟩
   ·rw[List.getElem?_set_ne (Ne.symm hj)] at e2
    obtain⟨u',r',q⟩:=hl j y v' e1 e2 e3
    refine⟨u',r',?_⟩
    rcases q with ⟨k,e⟩ | ⟨k,c,e,z⟩
    ·refine .inl ⟨k,?_⟩
     have:y≠x:=λe=>hj (xH hN e1 (e ▸ hi))
     simp[this,e]
    ·exact .inr ⟨k,c,e,z.sameBut hs (cne y c e)⟩
  ·obtain⟨w',z⟩:=I.cell y c e
   exact⟨w',z.sameBut hs (cne y c e)⟩
  ·obtain⟨e,n,ne,nf,d⟩:=I.pin p hp
   exact⟨(hs.2 p.1 ne).trans e,n,ne,nf,d⟩
 ·have hfn:X.fn x=true:=by
   rcases hf with z | z
   ·exact z
   ·rw[z] at hk;cases hk
  obtain⟨c,hc⟩:=I.ok.has x (.inl hk)
  obtain⟨w',z⟩:=I.cell x c hc
  refine wpAny_storeName_cell I.ok.kind hk hc z (λh' hc' hs=>?_)
  obtain⟨oc,hoc,hocd⟩:=id z
  refine h { s with heap:=h' } ⟨I.ok,I.os,I.bare,⟨λb o e n hb hx=>?_,λb o e n hb hx=>?_,I.base.free,λb o e hx=>?_,I.base.tups,I.base.frzs,I.base.tbls⟩,⟨m,hn.sameBut hs (Ne.symm (cne x c hc)),λj y v' e1 e2 e3=>?_⟩,λy c' e=>?_,I.free,I.freeC,λp hp=>?_,tracked ⟨oc,hoc,I.freeC x c hc⟩ hs,by simpa using I.len⟩ ⟨c,hs,.inr hc⟩
  ·exact (hs.2 b (Nat.ne_of_lt (Nat.lt_of_lt_of_le (Heap.lt_size e) (I.ok.cab x c hfn hc)))).trans (I.base.keep b o e n hb hx)
  ·obtain⟨sl,e1⟩:=I.base.slot b o e n hb hx
   exact⟨sl,(hs.2 b (Nat.ne_of_lt (Nat.lt_of_lt_of_le (Heap.lt_size e) (I.ok.cab x c hfn hc)))).trans e1⟩
  ·obtain⟨o',e1⟩:=I.base.there b o e hx
   exact⟨o',(hs.2 b (Nat.ne_of_lt (Nat.lt_of_lt_of_le (Heap.lt_size e) (I.ok.cab x c hfn hc)))).trans e1⟩
  ·by_cases hj:j=i
   ·subst hj
    rw[hi] at e1;cases e1
    rw[List.getElem?_set_self hiσ] at e2
    cases e2
    exact⟨u,r,.inr ⟨.inl hk,c,hc,hc'⟩⟩
   ·rw[List.getElem?_set_ne (Ne.symm hj)] at e2
    obtain⟨u',r',q⟩:=hl j y v' e1 e2 e3
    refine⟨u',r',?_⟩
    rcases q with q | ⟨k,c',e,z'⟩
    ·exact .inl q
    ·refine .inr ⟨k,c',e,z'.sameBut hs ?_⟩
     rintro rfl
     exact hj (xH hN e1 (I.ok.inj _ _ _ e hc ▸ hi))
  ·by_cases hcc:c'=c
   ·subst hcc;exact⟨_,hc'⟩
   ·obtain⟨w2,z2⟩:=I.cell y c' e
    exact⟨w2,z2.sameBut hs hcc⟩
  ·obtain⟨e,n,ne,nf,d⟩:=I.pin p hp
   refine⟨(hs.2 p.1 ?_).trans e,n,ne,nf,d⟩
   intro q
   rw[q,hoc] at e
   have q':oc=p.2:=Option.some.inj e
   exact d w' (by rw[<-q'];exact hocd)
theorem nQ {M:Model} {A:Around} {E:Value->Shared->Prop} {i:Nat} {x:Str} {v:V} {u:Value} {Q:Unit->Shared->Prop} (I:Inv X pins σ H s) (hN:X.N.Nodup) (hi:X.N[i]? = some x) (hx:Loc X.env.scope x) (r:RelV v u)
  (h:∀s',Inv X pins (σ.set i (some v)) H s'->Q () s') (hf:X.fn x=true\/X.env.scope.names.lookup x=some .local:=by walk_at "loc"):wpAny M A (storeName X.env x u) Q E s :=
 uI I hN hi hx r (λs' I' _=>h s' I') hf
theorem Inv.call' {s':Shared} {ch:List Addr} (I:Inv X pins σ H s) (ho:s'.os=s.os) (u:Un (frs X.stack) ch H H' s.heap s'.heap) (hok:HOk X.prog X.w H' s'.heap) (hg:AllBare s'.gens)
  (hch:∀b∈ch,(b∈X.ex\/X.s₀.heap.objs.size<=b)/\b≠X.env.locals/\(∀x c,X.env.cells.lookup x=some c->c≠b)/\∀p∈X.pn++pins,p.1≠b):Inv X pins σ H' s':=by
 obtain⟨h',g',d',t',o'⟩:=s'
 have e:o'=s.os:=ho
 subst e
 exact I.call (g':=g') (t':=t') (d':=d') u hok hg hch
end
noncomputable abbrev XK:=Value->Option Addr->Hp->Prop
noncomputable abbrev St:=List (Option V)
noncomputable abbrev VK:=V->Hp->Prop
noncomputable abbrev TE:=St->Hp->VK->Prop
noncomputable abbrev TT:=St->Hp->(Bool->Hp->Prop)->Prop
noncomputable abbrev TA:=St->Hp->(List V->Hp->Prop)->Prop
structure Ends where
 nx:St->Hp->Prop
 rt:VK
 bk:St->Hp->Prop:=λ_ _=>False
 ct:St->Hp->Prop:=λ_ _=>False
noncomputable abbrev TS:=Ends->St->Hp->Prop
noncomputable def EP (X:Cx) (pins:List (Addr × Obj)) (σ:St) (Q:VK) (u:Value) (s':Shared):Prop:=∃v H',Inv X pins σ H' s'/\RelV v u/\Q v H'
noncomputable def TP (X:Cx) (pins:List (Addr × Obj)) (σ:St) (Q:Bool->Hp->Prop) (b:Bool) (s':Shared):Prop:=∃H',Inv X pins σ H' s'/\Q b H'
noncomputable def AP (X:Cx) (pins:List (Addr × Obj)) (σ:St) (Q:List V->Hp->Prop) (us:List Value) (s':Shared):Prop:=∃vs H',Inv X pins σ H' s'/\Vals vs us/\Q vs H'
noncomputable def SP (X:Cx) (pins:List (Addr × Obj)) (D:Ends) (f:Flow) (s':Shared):Prop :=
 match f with
 | .next=>∃σ' H',Inv X pins σ' H' s'/\D.nx σ' H'
 | .brk=>∃σ' H',Inv X pins σ' H' s'/\D.bk σ' H'
 | .cont=>∃σ' H',Inv X pins σ' H' s'/\D.ct σ' H'
 | .ret u=>∃v σ' H',Inv X pins σ' H' s'/\RelV v u/\D.rt v H'
noncomputable def PE (X:Cx) (e:Expr) (t:TE):Prop :=
 ∀(pins:List (Addr × Obj)) (s:Shared) (σ:St) (H:Hp) (Q:VK),Inv X pins σ H s->t σ H Q->wpAny (model X.prog X.w) X.A (eval e X.env) (EP X pins σ Q) X.xe s
noncomputable def PT (X:Cx) (e:Expr) (t:TT):Prop :=
 ∀(pins:List (Addr × Obj)) (s:Shared) (σ:St) (H:Hp) (Q:Bool->Hp->Prop),Inv X pins σ H s->t σ H Q->wpAny (model X.prog X.w) X.A (isTrue e X.env (eval e X.env)) (TP X pins σ Q) X.xe s
noncomputable def PW (X:Cx) (e:Expr) (t:TT):Prop :=
 ∀(whole:Sem Value) (pins:List (Addr × Obj)) (s:Shared) (σ:St) (H:Hp) (Q:Bool->Hp->Prop),Inv X pins σ H s->t σ H Q->wpAny (model X.prog X.w) X.A (isTrue e X.env whole) (TP X pins σ Q) X.xe s
theorem PW.pt {X:Cx} {e:Expr} {t:TT} (h:PW X e t):PT X e t:=h _
noncomputable def PA (X:Cx) (es:List Expr) (t:TA):Prop :=
 ∀(pos:Pos) (pins:List (Addr × Obj)) (s:Shared) (σ:St) (H:Hp) (Q:List V->Hp->Prop),Inv X pins σ H s->t σ H Q->wpAny (model X.prog X.w) X.A (spliced (backTo pos (starEach es X.env))) (AP X pins σ Q) X.xe s
noncomputable def PS (X:Cx) (st:Stmt) (t:TS):Prop :=
 ∀(pins:List (Addr × Obj)) (s:Shared) (σ:St) (H:Hp) (D:Ends),Inv X pins σ H s->t D σ H->wpAny (model X.prog X.w) X.A (exec st X.env) (SP X pins D) X.xe s
noncomputable def PSs (X:Cx) (st:List Stmt) (t:TS):Prop :=
 ∀(pins:List (Addr × Obj)) (s:Shared) (σ:St) (H:Hp) (D:Ends),Inv X pins σ H s->t D σ H->wpAny (model X.prog X.w) X.A (execs st X.env) (SP X pins D) X.xe s
theorem thn {α:Type} {t:Sem α} {Q Q':α->Shared->Prop} {M:Model} {A:Around} {E:Value->Shared->Prop} {s:Shared} (h:wpAny M A t Q E s) (hQ:∀a s,Q a s->Q' a s):wpAny M A t Q' E s:=wpAny_mono h hQ λ_ _ x=>x
end L2
namespace L2
open PySem PySem.Spec PyProof.Rows
section
variable {X:Cx}
noncomputable def OU (i:Nat):TE:=λσ H Q=>∃v,σ[i]? = some (some v)/\Q v H
noncomputable def tC (v:V):TE:=λ_ H Q=>Q v H
theorem MA {i:Nat} {x:Str} {pos:Pos} (hN:X.N[i]? = some x) (hv:Vis X.env.scope x) (hd:(x == ("__debug__":Str))=false:=by decide) (hcd:(x == ("__classdict__":Str))=false:=by decide):PE X (.Name x pos) (OU i):=by
 intro pins s σ H Q I h
 obtain⟨v,e,h⟩:=h
 obtain⟨m,hn,hl⟩:=I.loc
 obtain⟨u,r,l⟩:=hl i x v hN e hv
 have fin:EP X pins σ Q u s:=⟨v,H,I,r,h⟩
 rcases l with ⟨hk,hm⟩ | ⟨hk,c,hc,hcell⟩
 ·exact wpAny_Name (wpAny_loadName_local I.ok.kind hk hn hm fin) hd
 ·rcases hk with hk | hk
  ·exact wpAny_Name (wpAny_loadName_cell I.ok.kind hk hc hcell fin) hd
  ·exact wpAny_Name (wpAny_loadName_free I.ok.kind hk hc hcell fin hcd) hd
theorem zT {i j pos}:PE X (.Constant (.int i) j pos) (tC (.int i)):=λ_ _ _ H _ I h=>wpAny_Constant_int ⟨.int i,H,I.tok _,⟨_,rfl⟩,h⟩
theorem NZ {b j pos}:PE X (.Constant (.bool b) j pos) (tC (.bl b)):=λ_ _ _ H _ I h=>Constant_bool ⟨.bl b,H,I,rfl,h⟩
noncomputable def Gl (X:Cx) (x:Str):Prop:=X.env.kindOf x=some .globalImplicit
theorem IJ {E:Value->Shared->Prop} {pins:List (Addr × Obj)} {s:Shared} {σ:St} {H:Hp} {x:Str} {u:Value} {pos:Pos} {Q:Value->Shared->Prop} (I:Inv X pins σ H s) (hg:Gl X x) (hm:X.mg x=some u) (h:Q u s)
  (hd:(x == ("__debug__":Str))=false:=by decide):wpAny (model X.prog X.w) X.A (eval (.Name x pos) X.env) Q E s :=
 Calls.Name_function_global I.ok.kind hg (Calls.loadGlobal_global (by rw[I.ok.glob];exact I.mod.glob.keeps I.bk) hm h) hd
theorem eC {E:Value->Shared->Prop} {pins:List (Addr × Obj)} {s:Shared} {σ:St} {H:Hp} {x:Str} {u:Value} {pos:Pos} {Q:Value->Shared->Prop} (I:Inv X pins σ H s) (hg:Gl X x) (hm:X.mg x=none) (hv:bootBuiltins x=some u) (h:Q u s)
  (hn:x≠"__name__":=by decide) (hd:(x == ("__debug__":Str))=false:=by decide):wpAny (model X.prog X.w) X.A (eval (.Name x pos) X.env) Q E s:=by
 obtain⟨mb,h1,h2⟩:=I.mod.blt
 exact Calls.Name_function_global I.ok.kind hg (Calls.loadGlobal_builtin (by rw[I.ok.glob];exact I.mod.glob.keeps I.bk) hm (by rw[I.ok.blt];exact h1.keeps I.bk) ((h2 x hn).trans hv) h) hd
theorem IZ {x:Str} {v:V} {u:Value} {pos:Pos} (hg:Gl X x) (hm:X.mg x=none) (hv:bootBuiltins x=some u) (r:RelV v u) (hn:x≠"__name__":=by decide) (hd:(x == ("__debug__":Str))=false:=by decide):PE X (.Name x pos) (tC v) :=
 λ_ _ _ H _ I h=>eC I hg hm hv ⟨v,H,I,r,h⟩ hn hd
variable {a b:Expr} {ta tb:TE} {pos:Pos}
noncomputable def tB (t:TE):TT:=λσ H Q=>t σ H λx H1=>∃c,x = .bl c/\Q c H1
theorem MH {e:Expr} {t:TE} (h:PE X e t) (he:∀whole,isTrue e X.env whole=(do let v <-whole;standAt e.pos;holding [v] (truthy v)):=by intro _;rfl):PT X e (tB t):=by
 intro pins s σ H Q I hw
 refine isTrue_plain (thn (h pins s σ H _ I hw) λv s1 ⟨x,H1,I1,r1,q1⟩=>?_) (he _)
 obtain⟨d,rfl,q⟩:=q1
 cases r1
 exact wpAny_truthy_bool ⟨H1,I1,q⟩
variable {tA tB':TT} {rest:List Expr}
noncomputable def PL (t u:TT):TT:=λσ H Q=>t σ H λc H1=>if c=true then u σ H1 Q else Q false H1
noncomputable def tOr (t u:TT):TT:=λσ H Q=>t σ H λc H1=>if c=true then Q true H1 else u σ H1 Q
noncomputable def PR (t:TT):TT:=λσ H Q=>t σ H λc H1=>Q (!c) H1
theorem JK (ha:PT X a tA):PW X (.BoolOp .And [a] pos) tA:=by
 intro wh pins s σ H Q I h
 refine isTrue_and (thn (ha pins s σ H Q I h) λc s1 e=>?_)
 cases c with
 | true=>exact isTrue_and_nil e
 | false=>exact e
theorem MJ (ha:PT X a tA):PW X (.BoolOp .Or [a] pos) tA:=by
 intro wh pins s σ H Q I h
 refine isTrue_or (thn (ha pins s σ H Q I h) λc s1 e=>?_)
 cases c with
 | false=>exact isTrue_or_nil e
 | true=>exact e
theorem MI (ha:PT X a tA) (hb:PW X (.BoolOp .And (b::rest) pos) tB'):PW X (.BoolOp .And (a::b::rest) pos) (PL tA tB'):=by
 intro wh pins s σ H Q I h
 refine isTrue_and (thn (ha pins s σ H _ I h) λc s1 ⟨H1,I1,q1⟩=>?_)
 cases c with
 | true=>exact hb wh pins s1 σ H1 Q I1 q1
 | false=>exact⟨H1,I1,q1⟩
theorem OE (ha:PT X a tA) (hb:PW X (.BoolOp .Or (b::rest) pos) tB'):PW X (.BoolOp .Or (a::b::rest) pos) (tOr tA tB'):=by
 intro wh pins s σ H Q I h
 refine isTrue_or (thn (ha pins s σ H _ I h) λc s1 ⟨H1,I1,q1⟩=>?_)
 cases c with
 | true=>exact⟨H1,I1,q1⟩
 | false=>exact hb wh pins s1 σ H1 Q I1 q1
theorem MG (ha:PT X a tA):PT X (.UnaryOp .Not a pos) (PR tA):=by
 intro pins s σ H Q I h
 exact isTrue_not (ha pins s σ H (λc H1=>Q (!c) H1) I h)
noncomputable def OJ (ta tb:TE):TE:=λσ H Q=>ta σ H λx H1=>∃c,x = .bl c/\if c=true then tb σ H1 Q else Q (.bl false) H1
noncomputable def OR (ta:TE):TE:=λσ H Q=>ta σ H λx H1=>∃c,x = .bl c/\Q (.bl (!c)) H1
theorem LY {op} {t:TE} (h:PE X a t):PE X (.BoolOp op [a] pos) t:=λpins s σ H Q I hw=>BoolOp_one (h pins s σ H Q I hw)
theorem LW (ha:PE X a ta) (hb:PE X (.BoolOp .And (b::rest) pos) tb):PE X (.BoolOp .And (a::b::rest) pos) (OJ ta tb):=by
 intro pins s σ H Q I h
 refine BoolOp_and (thn (ha pins s σ H _ I h) λv s1 ⟨x,H1,I1,r1,q1⟩=>?_)
 obtain⟨c,rfl,q1⟩:=q1
 cases r1
 refine wpAny_truthy_bool ?_
 cases c with
 | true=>exact hb pins s1 σ H1 Q I1 q1
 | false=>exact⟨.bl false,H1,I1,rfl,q1⟩
theorem LX (ha:PE X a ta):PE X (.UnaryOp .Not a pos) (OR ta):=by
 intro pins s σ H Q I h
 refine UnaryOp_ (thn (ha pins s σ H _ I h) λv s1 ⟨x,H1,I1,r1,q1⟩=>?_)
 obtain⟨c,rfl,q1⟩:=q1
 cases r1
 exact not_of (wpAny_truthy_bool ⟨.bl (!c),H1,I1,rfl,q1⟩)
end
end L2
namespace L2
open PySem PySem.Spec PyProof.Rows
noncomputable def SqL (K:PySem.W.Frag) (H:Hp) (a:Addr) (xs:List V):Prop :=
 Rd H a (.lst xs) \/
  ∃(o:Obj) (its:Array Value) (n:Nat),K.lookup a=some o/\o.cls = .type "list"/\o.dict=none/\o.data = .seq its n/\its.size<=sizeLine/\Vals xs its.toList
noncomputable def SqT (K:PySem.W.Frag) (H:Hp) (a:Addr) (xs:List V):Prop :=
 Rd H a (.tup xs) \/
  ∃(o:Obj) (its:Array Value) (n:Nat),K.lookup a=some o/\o.cls = .type "tuple"/\o.data = .seq its n/\its.size<=sizeLine/\Vals xs its.toList
noncomputable def OW:Value->Option V
 | .none=>some .non
 | .bool b=>some (.bl b)
 | .int i _=>some (.int i)
 | .str x _=>some (.str x)
 | .bytes b _=>some (.byt b)
 | .float b _=>some (.flt b)
 | .ref a=>some (.ref a)
 | .type n=>some (.ty n)
 | _=>none
theorem RelV.abs {x:V} {u:Value} (r:RelV x u):OW u=some x:=by
 cases x with
 | non=>cases r;rfl
 | bl _=>cases r;rfl
 | int _=>obtain⟨t,rfl⟩:=r;rfl
 | str _=>obtain⟨t,rfl⟩:=r;rfl
 | byt _=>obtain⟨t,rfl⟩:=r;rfl
 | flt _=>obtain⟨t,rfl⟩:=r;rfl
 | ref _=>cases r;rfl
 | ty _=>cases r;rfl
theorem RelV.inj {x y:V} {u:Value} (r:RelV x u) (q:RelV y u):x=y:=Option.some.inj (r.abs.symm.trans q.abs)
theorem Vals.inj:∀{xs ys:List V} {us:List Value},Vals xs us->Vals ys us->xs=ys
 | _,_,_,.nil,.nil=>rfl
 | _,_,_,.cons r t,.cons r' t'=>by rw[r.inj r',Vals.inj t t']
section
variable {X:Cx} {pins:List (Addr × Obj)} {σ:St} {H:Hp} {s:Shared} {a:Addr} {xs ys:List V}
theorem SqL.of {K:PySem.W.Frag} (h:H a=some (.lst xs)):SqL K H a xs:=.inl (.inl h)
theorem SqT.of {K:PySem.W.Frag} (h:H a=some (.tup xs)):SqT K H a xs:=.inl (.inl h)
theorem Inv.list (I:Inv X pins σ H s) (h:SqL X.K H a xs):∃its:List Value,Vals xs its/\PlainL s.heap a its.toArray/\xs.length<=sizeLine:=by
 rcases h with h | ⟨o,its,n,hk,hc,hd,hs,hz,r⟩
 ·obtain⟨z,its,n,r,e⟩:=h.ok I.hok
  exact⟨its,r,⟨_,n,e,rfl,rfl,rfl⟩,z⟩
 ·refine⟨its.toList,r,⟨o,n,I.kIn a o hk,hc,hd,by simpa using hs⟩,?_⟩
  have e:=r.length
  simp only[Array.length_toList] at e
  omega
theorem Inv.tuple (I:Inv X pins σ H s) (h:SqT X.K H a xs):∃its:List Value,Vals xs its/\IsTup s.heap a its.toArray/\xs.length<=sizeLine:=by
 rcases h with h | ⟨o,its,n,hk,hc,hs,hz,r⟩
 ·obtain⟨z,its,r,p⟩:=h.ok I.hok
  exact⟨its,r,p,z⟩
 ·refine⟨its.toList,r,⟨o,I.kIn a o hk,hc,n,by simpa using hs⟩,?_⟩
  have e:=r.length
  simp only[Array.length_toList] at e
  omega
theorem Inv.list_inj (I:Inv X pins σ H s) (h:SqL X.K H a xs) (h':SqL X.K H a ys):xs=ys:=by
 obtain⟨its,r,⟨o,n,e,_,_,d⟩,_⟩:=I.list h
 obtain⟨its',r',⟨o',n',e',_,_,d'⟩,_⟩:=I.list h'
 rw[e] at e';cases e'
 rw[d] at d'
 injection d' with d1 _
 have:its=its':=by simpa using congrArg Array.toList d1
 subst this
 exact r.inj r'
theorem Inv.tuple_inj (I:Inv X pins σ H s) (h:SqT X.K H a xs) (h':SqT X.K H a ys):xs=ys:=by
 obtain⟨its,r,⟨o,e,_,n,d⟩,_⟩:=I.tuple h
 obtain⟨its',r',⟨o',e',_,n',d'⟩,_⟩:=I.tuple h'
 rw[e] at e';cases e'
 rw[d] at d'
 injection d' with d1 _
 have:its=its':=by simpa using congrArg Array.toList d1
 subst this
 exact r.inj r'
end
noncomputable abbrev Cx.wish (X:Cx) (E:Value->Shared->Prop):Cx:={ X with xe:=E }
noncomputable abbrev Cx.nox (X:Cx):Cx:=X.wish λ_ _=>False
theorem Cx.Ok.wish {X:Cx} (ok:X.Ok) (E:Value->Shared->Prop):(X.wish E).Ok :=
 ⟨ok.mod,ok.kind,ok.glob,ok.blt,ok.above,ok.inj,ok.has,ok.cab,ok.hd,ok.frames,ok.stk,ok.exf,ok.bs,ok.bsz,ok.noex,ok.exfs,ok.funs,ok.frf⟩
theorem Cx.Ok.unwish {X:Cx} {E:Value->Shared->Prop} (ok:(X.wish E).Ok):X.Ok :=
 ⟨ok.mod,ok.kind,ok.glob,ok.blt,ok.above,ok.inj,ok.has,ok.cab,ok.hd,ok.frames,ok.stk,ok.exf,ok.bs,ok.bsz,ok.noex,ok.exfs,ok.funs,ok.frf⟩
section
variable {X:Cx} {pins:List (Addr × Obj)} {σ:St} {H:Hp} {s:Shared} {E:Value->Shared->Prop}
theorem Inv.wish (I:Inv X pins σ H s) (E:Value->Shared->Prop):Inv (X.wish E) pins σ H s:=⟨I.ok.wish E,I.os,I.bare,I.base,I.loc,I.cell,I.free,I.freeC,I.pin,I.hok,I.len⟩
theorem Inv.unwish (I:Inv (X.wish E) pins σ H s):Inv X pins σ H s:=⟨I.ok.unwish,I.os,I.bare,I.base,I.loc,I.cell,I.free,I.freeC,I.pin,I.hok,I.len⟩
theorem SP.unwish {D:Ends} {f:Flow} {s':Shared} (h:SP (X.wish E) pins D f s'):SP X pins D f s':=by
 cases f with
 | next=>obtain⟨σ',H',I,q⟩:=h;exact⟨σ',H',I.unwish,q⟩
 | brk=>obtain⟨σ',H',I,q⟩:=h;exact⟨σ',H',I.unwish,q⟩
 | cont=>obtain⟨σ',H',I,q⟩:=h;exact⟨σ',H',I.unwish,q⟩
 | ret u=>obtain⟨v,σ',H',I,r,q⟩:=h;exact⟨v,σ',H',I.unwish,r,q⟩
theorem PE.nox {e:Expr} {t:TE} (h:PE X.nox e t):PE X e t:=λpins s σ H Q I hw =>
 wpAny_mono (h pins s σ H Q (I.wish _) hw) (λ_ _ ⟨v,H',I',r,q⟩=>⟨v,H',I'.unwish,r,q⟩) λ_ _ z=>False.elim z
theorem PT.nox {e:Expr} {t:TT} (h:PT X.nox e t):PT X e t:=λpins s σ H Q I hw =>
 wpAny_mono (h pins s σ H Q (I.wish _) hw) (λ_ _ ⟨H',I',q⟩=>⟨H',I'.unwish,q⟩) λ_ _ z=>False.elim z
theorem PSs.nox {st:List Stmt} {t:TS} (h:PSs X.nox st t):PSs X st t:=λpins s σ H D I hw =>
 wpAny_mono (h pins s σ H D (I.wish _) hw) (λ_ _ q=>q.unwish) λ_ _ z=>False.elim z
end
section
variable {X:Cx} {st:Stmt} {rest:List Stmt} {t u:TS} {e:Expr} {te:TE} {pos:Pos}
noncomputable def OQ:TS:=λD σ H=>D.nx σ H
noncomputable def PX (t u:TS):TS:=λD σ H=>t { D with nx:=u D } σ H
theorem JH:PSs X [] OQ:=λ_ _ σ H _ I h=>wpAny_execs_nil ⟨σ,H,I,h⟩
theorem xM (h1:PS X st t) (h2:PSs X rest u):PSs X (st::rest) (PX t u):=by
 intro pins s σ H D I h
 refine wpAny_execs_cons (thn (h1 pins s σ H { D with nx:=u D } I h) λf s1 q=>?_)
 cases f with
 | next =>
  obtain⟨σ',H',I',q⟩:=q
  exact h2 pins s1 σ' H' D I' q
 | ret v=>exact q
 | brk=>exact q
 | cont=>exact q
theorem BH (h1:PS X st t):PSs X [st] t:=by
 intro pins s σ H D I h
 refine wpAny_execs_cons (thn (h1 pins s σ H D I h) λf s1 q=>?_)
 cases f with
 | next=>exact wpAny_execs_nil q
 | ret v=>exact q
 | brk=>exact q
 | cont=>exact q
theorem Inv.quiet {pins:List (Addr × Obj)} {σ:St} {H:Hp} {s:Shared} (I:Inv X pins σ H s):interactive X.env=false:=by simp[interactive,I.ok.kind]
noncomputable def OP (te:TE):TS:=λD σ H=>te σ H λ_ H1=>D.nx σ H1
theorem vN (he:PE X e te) (hs:swapsWith e none pos.line X.env=pure false:=by rfl):PS X (.Expr e pos) (OP te):=by
 intro pins s σ H D I h
 exact wpAny_Expr_any (thn (he pins s σ H _ I h) λv s1 ⟨x,H1,I1,r1,q1⟩=>⟨σ,H1,I1,q1⟩) I.quiet hs
noncomputable def PV (te:TE):TS:=λD σ H=>te σ H D.rt
theorem GJ (he:PE X e te):PS X (.Return (some e) pos) (PV te):=by
 intro pins s σ H D I h
 exact wpAny_Return_some (thn (he pins s σ H _ I h) λv s1 ⟨x,H1,I1,r1,q1⟩=>⟨x,σ,H1,I1,r1,q1⟩)
noncomputable def PN (c:TT) (t u:TS):TS:=λD σ H=>c σ H λb H1=>if b=true then t D σ H1 else u D σ H1
theorem OD {c:Expr} {a b:List Stmt} {tc:TT} (hc:PT X c tc) (ha:PSs X a t) (hb:PSs X b u):PS X (.If c a b pos) (PN tc t u):=by
 intro pins s σ H D I h
 refine wpAny_If (thn (hc pins s σ H _ I h) λd s1 ⟨H1,I1,q1⟩=>?_)
 cases d with
 | true=>exact ha pins s1 σ H1 D I1 q1
 | false=>exact hb pins s1 σ H1 D I1 q1
noncomputable def MT:TS:=λ_ _ _=>False
theorem GI:PS X st MT:=λ_ _ _ _ _ _ h=>h.elim
end
noncomputable abbrev TG:=V->St->Hp->(St->Hp->Prop)->Prop
noncomputable abbrev TGs:=List V->St->Hp->(St->Hp->Prop)->Prop
noncomputable def PG (X:Cx) (target:Expr) (t:TG):Prop :=
 ∀(pins:List (Addr × Obj)) (s:Shared) (σ:St) (H:Hp) (v:V) (u:Value) (Q:St->Hp->Prop),Inv X pins σ H s->RelV v u->t v σ H Q ->
  wpAny (model X.prog X.w) X.A (assign target X.env u) (λ_ s'=>∃σ' H',Inv X pins σ' H' s'/\Q σ' H') X.xe s
noncomputable def PGs (X:Cx) (ts:List Expr) (t:TGs):Prop :=
 ∀(pins:List (Addr × Obj)) (s:Shared) (σ:St) (H:Hp) (vs:List V) (us:List Value) (Q:St->Hp->Prop),Inv X pins σ H s->Vals vs us->t vs σ H Q ->
  wpAny (model X.prog X.w) X.A (assignInOrder ((assignEach ts X.env).map (·.2)) us) (λ_ s'=>∃σ' H',Inv X pins σ' H' s'/\Q σ' H') X.xe s
section
variable {X:Cx} {pos:Pos}
noncomputable def KB (i:Nat):TG:=λv σ H Q=>Q (σ.set i (some v)) H
theorem JC {i:Nat} {x:Str} (hN:X.N.Nodup) (hi:X.N[i]? = some x) (hx:Loc X.env.scope x) (hf:X.fn x=true\/X.env.scope.names.lookup x=some .local:=by walk_at "loc"):PG X (.Name x pos) (KB i):=by
 intro pins s σ H v u Q I r h
 exact wpAny_assign_Name (nQ I hN hi hx r (λs' I'=>⟨_,H,I',h⟩) hf)
noncomputable def OZ:TGs:=λvs σ H Q=>vs=[]/\Q σ H
noncomputable def NJ (t:TG) (u:TGs):TGs:=λvs σ H Q=>∃v r,vs=v::r/\t v σ H λσ' H'=>u r σ' H' Q
theorem JD:PGs X [] OZ:=by
 intro pins s σ H vs us Q I r h
 obtain⟨e,h⟩:=h
 subst e
 cases r
 exact assignInOrder_nil ⟨σ,H,I,h⟩
theorem GF {e:Expr} {es:List Expr} {t:TG} {u:TGs} (h1:PG X e t) (h2:PGs X es u)
  (hs:(assignEach (e::es) X.env).map (·.2)=assign e X.env::(assignEach es X.env).map (·.2):=by rfl):PGs X (e::es) (NJ t u):=by
 intro pins s σ H vs us Q I r h
 obtain⟨v,vr,e1,h⟩:=h
 subst e1
 cases r with
 | cons r rr =>
  rw[hs]
  refine assignInOrder_cons (thn (h1 pins s σ H _ _ _ I r h) λ_ s1 ⟨σ1,H1,I1,q1⟩=>?_)
  exact h2 pins s1 σ1 H1 _ _ Q I1 rr q1
noncomputable def PB (K:PySem.W.Frag) (n:Nat) (t:TGs):TG:=λv σ H Q=>∃a xs,v = .ref a/\SqT K H a xs/\xs.length=n/\t xs σ H Q
theorem MB {es:List Expr} {k:Nat} {t:TGs} {n:Nat} (hc:X.calm=true) (h:PGs X es t)
  (hn:(assignEach es X.env).length=n:=by rfl) (hst:(assignEach es X.env).findIdx? (·.1)=none:=by rfl):PG X (.Tuple es k pos) (PB X.K n t):=by
 intro pins s σ H v u Q I r hw
 obtain⟨a,xs,e1,hq,hl,hw⟩:=hw
 subst e1
 cases r
 obtain⟨its,rv,ht,hz⟩:=I.tuple hq
 refine assign_Tuple_tuple (I.ok.hd hc) ht (by simp[hn,<-hl,rv.length]) hst λh' hx=>?_
 have I1:Inv X pins σ H { s with heap:=h' }:=I.kept (t':=s.toks) λb o e=>hx b o (Nat.ne_of_lt (Heap.lt_size e)) e
 exact h pins _ σ H xs _ Q I1 (by simpa using rv) hw
noncomputable def OL (te:TE) (g:TG):TS:=λD σ H=>te σ H λx H1=>g x σ H1 D.nx
theorem MD {tg e:Expr} {te:TE} {g:TG} (he:PE X e te) (hg:PG X tg g) (hs:swapsWithSole [tg] e pos.line X.env=pure false:=by rfl) (hw:swappedStores [tg] e X.env=pure none:=by rfl)
  (h1:(assignEach [tg] X.env).map (·.2)=[assign tg X.env]:=by rfl):PS X (.Assign [tg] e pos) (OL te g):=by
 intro pins s σ H D I h
 refine wpAny_Assign_stores (thn (he pins s σ H _ I h) λv s1 ⟨x,H1,I1,r1,q1⟩=>?_) hs hw
 rw[h1]
 exact thn (hg pins s1 σ H1 x v _ I1 r1 q1) λ_ s2 q=>q
theorem zV {i:Nat} {x:Str} {e:Expr} {te:TE} {pos':Pos} (hN:X.N.Nodup) (hi:X.N[i]? = some x) (hx:Loc X.env.scope x) (he:PE X e te) (hs:swapsWith e (some (.Name x pos')) pos.line X.env=pure false:=by rfl) (hf:X.fn x=true\/X.env.scope.names.lookup x=some .local:=by walk_at "loc") :
  PS X (.Assign [.Name x pos'] e pos) (OL te (KB i)):=by
 intro pins s σ H D I h
 refine wpAny_Assign_Name (thn (he pins s σ H _ I h) λv s1 ⟨y,H1,I1,r1,q1⟩=>?_) hs
 exact nQ I1 hN hi hx r1 (λs2 I2=>⟨_,H1,I2,q1⟩) hf
noncomputable def PU (i j:Nat) (ta:TA):TS:=λD σ H=>ta σ H λvs H1=>∃v w,vs=[v,w]/\D.nx ((σ.set i (some v)).set j (some w)) H1
theorem MF {i j:Nat} {x y:Str} {a b:Expr} {ta:TA} {px py pt:Pos} {kt k2 pt2} (hc:X.calm=true) (hN:X.N.Nodup) (hi:X.N[i]? = some x) (hj:X.N[j]? = some y) (hij:i≠j)
  (hx:X.env.scope.names.lookup x=some .local) (hy:X.env.scope.names.lookup y=some .local) (ha:PA X [a,b] ta)
  (hw:swappedStores [.Tuple [.Name x px,.Name y py] kt pt] (.Tuple [a,b] k2 pt2) X.env=pure (some [x,y]))
  (hs:swapsWithSole [.Tuple [.Name x px,.Name y py] kt pt] (.Tuple [a,b] k2 pt2) pos.line X.env=pure false:=by rfl) :
  PS X (.Assign [.Tuple [.Name x px,.Name y py] kt pt] (.Tuple [a,b] k2 pt2) pos) (PU i j ta):=by
 intro pins s σ H D I h
 rw[exec_Assign_arm]
 refine wpAny_bind (wpAny_standAt ?_)
 rw[hs]
 refine wpAny_bind (wpAny_pure ?_)
 rw[if_neg (by decide)]
 refine wpAny_bind (Tuple_ (thn (ha _ pins s σ H _ I h) λus s1 ⟨vs,H1,I1,r1,q1⟩=>?_))
 obtain⟨v,w,e1,q1⟩:=q1
 subst e1
 obtain⟨u1,u2,rfl,rv,rw'⟩:∃u1 u2,us=[u1,u2]/\RelV v u1/\RelV w u2:=by
  cases r1 with
  | cons p q =>
   cases q with
   | cons p' q' =>
    cases q'
    exact⟨_,_,rfl,p,p'⟩
 refine wpAny_newObj_type ?_ (by show 2<=sizeLine;decide)
 have I2:Inv X pins σ H1 { s1 with heap:=s1.heap.push { cls:=.type "tuple",data:=.seq [u1,u2].toArray } }:=I1.kept (t':=s1.toks) λb o e=>Heap.get?_push_of_some _ e
 rw[hw]
 refine wpAny_bind (wpAny_pure ?_)
 show wpAny (model X.prog X.w) X.A (do rule "assign.swapped-stores";let items <-unpackItems (.ref s1.heap.objs.size) 2 none;assignInOrder [λv=>bindName X.env y v,λv=>bindName X.env x v] items.reverse;pure Flow.next) _ _ _
 refine wpAny_bind (wpAny_rule (wpAny_bind (unpackItems_tuple (items:=#[u1,u2]) (I.ok.hd hc) (IsTup.new s1.heap _) λh' hx'=>?_)))
 have I3:=I2.kept (h':=h') (t':=s1.toks) λb o e=>hx' b o (Nat.ne_of_lt (Heap.lt_size e)) e
 show wpAny _ _ (assignInOrder [λv=>bindName X.env y v,λv=>bindName X.env x v] [u2,u1] >>= λ_=>pure Flow.next) _ _ _
 refine wpAny_bind (assignInOrder_cons (wpAny_bindName (nQ I3 hN hj (.inl hy) rw' (λs2 I4=>?_) (.inr hy))))
 refine assignInOrder_cons (wpAny_bindName (nQ I4 hN hi (.inl hx) rv (λs3 I5=>assignInOrder_nil (wpAny_pure ?_)) (.inr hx)))
 rw[List.set_comm _ _ (Ne.symm hij)] at I5
 exact⟨_,H1,I5,q1⟩
end
section
variable {X:Cx} {pos:Pos}
noncomputable def MU (c:TT) (tb:TS):TS:=λD σ H=>∃W:Nat->St->Hp->Prop,(∃m,W m σ H)/\∀m σ H,W m σ H ->
 c σ H λb H1=>if b=true then ∃N:St->Hp->Prop,(∀σ' H',N σ' H'->∃m',m'<m/\W m' σ' H')/\tb { D with nx:=N,ct:=N,bk:=D.nx } σ H1 else D.nx σ H1
theorem GK {c:Expr} {body:List Stmt} {tc:TT} {tb:TS} (hp:PassesOwn (model X.prog X.w) X.A X.env X.xe) (hc:PT X c tc) (hb:PSs X body tb):PS X (.While c body [] pos) (MU tc tb):=by
 intro pins s σ H D I h
 obtain⟨W,⟨m0,w0⟩,turn⟩:=h
 refine wpAny_While (codeAny_whileLoop (λn s'=>∃σ' H',Inv X pins σ' H' s'/\W n σ' H') ?_ m0 ⟨σ,H,I,w0⟩)
 rintro n s1 ⟨σ1,H1,I1,w1⟩
 refine wpAny_passesOwn hp (thn (hc pins s1 σ1 H1 _ I1 (turn n σ1 H1 w1)) λb s2 ⟨H2,I2,q2⟩=>?_)
 cases b with
 | true =>
  obtain⟨N,hN,q2⟩:=q2
  rw[if_pos rfl]
  refine wpAny_passesOwn hp (thn (hb pins s2 σ1 H2 _ I2 q2) λf s3 q3=>?_)
  cases f with
  | next =>
   obtain⟨σ3,H3,I3,n3⟩:=q3
   obtain⟨m',hm,w3⟩:=hN σ3 H3 n3
   exact⟨m',hm,σ3,H3,I3,w3⟩
  | cont =>
   obtain⟨σ3,H3,I3,n3⟩:=q3
   obtain⟨m',hm,w3⟩:=hN σ3 H3 n3
   exact⟨m',hm,σ3,H3,I3,w3⟩
  | brk=>exact q3
  | ret v=>exact q3
 | false =>
  rw[if_neg Bool.false_ne_true]
  exact wpAny_execs_nil ⟨σ1,H2,I2,q2⟩
end
structure It where
 go:Nat->Hp->Prop
 yld:Nat->Hp->V->Hp->Prop
 stop:Nat->Hp->Prop
noncomputable def nT (X:Cx) (pins:List (Addr × Obj)) (H:Hp) (b:Addr):Prop :=
 H b=none/\b≠X.env.locals/\b ∉ X.fs/\(b∈X.ex\/X.s₀.heap.objs.size<=b)/\(∀x c,X.env.cells.lookup x=some c->c≠b)/\∀p∈X.pn++pins,p.1≠b
theorem Inv.fpOk {X:Cx} {pins:List (Addr × Obj)} {σ:St} {H H':Hp} {s:Shared} {b:Addr} (I:Inv X pins σ H s) (hb:s.heap.objs.size<=b) (hn:H' b=none):nT X pins H' b:=by
 refine⟨hn,Nat.ne_of_gt (Nat.lt_of_lt_of_le I.lt hb),I.nofs hb,.inr (Nat.le_trans I.sz hb),λx c e z=>?_,λp hp z=>?_⟩
 ·obtain⟨v,q⟩:=I.cell x c e
  exact absurd (Nat.lt_of_lt_of_le q.lt (by rw[z];exact hb)) (Nat.lt_irrefl _)
 ·exact absurd (Nat.lt_of_lt_of_le (Heap.lt_size (I.pin p hp).1) (by rw[z];exact hb)) (Nat.lt_irrefl _)
structure Turn (P:Program) (w:World) (K:PySem.W.Frag) (tg:Expr) (J:It) (fp:List Addr) (it:Addr) (tn:Nat->Heap->Prop):Prop where
 mem:it∈fp
 obj:∀i h,tn i h->∀b∈fp,∃o,h.get? b=some o/\∀v,o.data≠.cell v
 keep:∀i h h',tn i h->(∀b∈fp,∀o,h.get? b=some o->h'.get? b=some o)->tn i h'
 item:∀(X:Cx),X.prog=P->X.w=w->X.K=K->X.calm=true->∀(i:Nat) (pins:List (Addr × Obj)) (s:Shared) (σ:St) (H:Hp) (E:Value->Shared->Prop),Inv X pins σ H s->(∀b∈fp,nT X pins H b)->tn i s.heap->J.go i H ->
  wpAny (model P w) X.A (pyNext (.ref it)) (λr s1=>∃u,r=some u /\
   wpAny (model P w) X.A (letOwnedTupleGo tg (.ref it) u) (λ_ s2=>∃x H',Inv X pins σ H' s2/\RelV x u/\J.yld i H x H'/\tn (i+1) s2.heap/\∀b∈fp,H' b=none) E s1) E s
 done:∀(X:Cx),X.prog=P->X.w=w->X.K=K->X.calm=true->∀(i:Nat) (pins:List (Addr × Obj)) (s:Shared) (σ:St) (H:Hp) (E:Value->Shared->Prop),Inv X pins σ H s->(∀b∈fp,nT X pins H b)->tn i s.heap->J.stop i H ->
  wpAny (model P w) X.A (pyNext (.ref it)) (λr s1=>r=none/\Inv X pins σ H s1) E s
 self:∀(A:Around) (i:Nat) (s:Shared) (Q:Value->Shared->Prop) (E:Value->Shared->Prop),tn i s.heap->Q (.ref it) s->wpAny (model P w) A (pyIter (.ref it)) Q E s
noncomputable abbrev TI:=St->Hp->(It->Hp->Prop)->Prop
noncomputable def PIE (X:Cx) (pins:List (Addr × Obj)) (σ:St) (tg:Expr) (R:It->Hp->Prop) (itv:Value) (s2:Shared):Prop :=
 ∃(it:Addr) (fp:List Addr) (tn:Nat->Heap->Prop) (J:It) (H':Hp),itv = .ref it/\Inv X pins σ H' s2/\Turn X.prog X.w X.K tg J fp it tn/\tn 0 s2.heap/\(∀b∈fp,nT X pins H' b)/\R J H'
noncomputable def PI (X:Cx) (tg iter:Expr) (wi:TI):Prop :=
 ∀(pins:List (Addr × Obj)) (s:Shared) (σ:St) (H:Hp) (R:It->Hp->Prop),Inv X pins σ H s->wi σ H R ->
  wpAny (model X.prog X.w) X.A (eval iter X.env) (λv s1=>wpAny (model X.prog X.w) X.A (pyIter v) (PIE X pins σ tg R) X.xe s1) X.xe s
theorem tR {M:Model} {A:Around} {E:Value->Shared->Prop} {s:Shared} {tg:Expr} {it:Addr} {u:Value} {o:Obj} {n:String} {vs:Array Value} {Q:Unit->Shared->Prop} (ho:s.heap.get? it=some o) (hc:o.cls = .type n) (hd:o.data = .fields vs)
  (hn:["enumerate","zip","dict_itemiterator","dict_reverseitemiterator","odict_iterator","itertools.zip_longest","itertools.pairwise"].contains n=false) (hQ:Q () s):wpAny M A (letOwnedTupleGo tg (.ref it) u) Q E s:=by
 unfold letOwnedTupleGo
 cases tg <;> first
  | exact wpAny_pure hQ
  | (cases u <;> first
    | exact wpAny_pure hQ
    | (refine wpAny_bind (wpAny_load ho ?_);rw[hc,hd];show wpAny M A (if (["enumerate","zip","dict_itemiterator","dict_reverseitemiterator","odict_iterator","itertools.zip_longest","itertools.pairwise"].contains n && vs[0]? == some (rawInt _))=true then _ else _) Q E s;rw[if_neg (by intro h;rw[hn,Bool.false_and] at h;cases h)];exact wpAny_pure hQ))
noncomputable def Itl (K:PySem.W.Frag) (a:Addr):It :=
 ⟨λi H=>∃xs x,SqL K H a xs/\xs[i]? = some x,λi H x H'=>H'=H/\∀xs,SqL K H a xs->xs[i]? = some x,λi H=>∃xs,SqL K H a xs/\xs.length<=i⟩
noncomputable def Itt (K:PySem.W.Frag) (a:Addr):It :=
 ⟨λi H=>∃xs x,SqT K H a xs/\xs[i]? = some x,λi H x H'=>H'=H/\∀xs,SqT K H a xs->xs[i]? = some x,λi H=>∃xs,SqT K H a xs/\xs.length<=i⟩
noncomputable def Itr (lo:Int) (n:Nat):It:=⟨λi _=>i<n,λi H x H'=>H'=H/\x = .int (lo+i),λi _=>n<=i⟩
theorem DY {P:Program} {w:World} {K:PySem.W.Frag} {tg:Expr} (a it:Addr):Turn P w K tg (Itl K a) [it] it (λi h=>h.IsListIter it a i) where
 mem:=by simp
 obj:=λi h st b hb=>by
  have e:b=it:=by simpa using hb
  subst e
  obtain⟨o,e,c,d⟩:=st
  exact⟨o,e,λv z=>by rw[d] at z;cases z⟩
 keep:=λi h h' st k=>st.at λo e=>k it (by simp) o e
 item:=by
  intro X hP hw hK hc i pins s σ H E I hf st hg
  subst hP hw hK
  obtain⟨xs,x,hq,hx⟩:=hg
  obtain⟨its,rv,p,hz⟩:=I.list hq
  obtain⟨u,hu,ru⟩:=rv.get hx
  obtain⟨f0,f1,f2,f3,f4,f5⟩:=hf it (by simp)
  refine wpAny_pyNext_list_item st p.isList (x:=u) (by simpa using hu) λh' st' sb=>?_
  have I1:Inv X pins σ H { s with heap:=h' }:=I.turned (t':=s.toks) (λb o hb e=>(sb.2 b hb).trans e) f0 f1 f3 f4 f5
  obtain⟨o,e,c,d⟩:=id st'
  exact⟨u,rfl,tR (s:={ s with heap:=h' }) e c d (by decide) ⟨x,H,I1,ru,⟨rfl,λys hy=>by rw[I.list_inj hy hq];exact hx⟩,st',λb hb=>(hf b hb).1⟩⟩
 done:=by
  intro X hP hw hK hc i pins s σ H E I hf st hg
  subst hP hw hK
  obtain⟨xs,hq,hx⟩:=hg
  obtain⟨its,rv,p,hz⟩:=I.list hq
  obtain⟨f0,f1,f2,f3,f4,f5⟩:=hf it (by simp)
  have hl:=rv.length
  exact wpAny_pyNext_list_end (I.ok.hd hc) st p.isList (by simp;omega) λh' eb=>⟨rfl,I.turned (t':=s.toks) (λb o hb e=>eb b o hb e) f0 f1 f3 f4 f5⟩
 self:=λ_ _ _ _ _ st h=>wpAny_pyIter_listiter st h
theorem AI {P:Program} {w:World} {K:PySem.W.Frag} {tg:Expr} (a it:Addr):Turn P w K tg (Itt K a) [it] it (λi h=>h.IsTupleIter it a i) where
 mem:=by simp
 obj:=λi h st b hb=>by
  have e:b=it:=by simpa using hb
  subst e
  obtain⟨o,e,c,d⟩:=st
  exact⟨o,e,λv z=>by rw[d] at z;cases z⟩
 keep:=λi h h' st k=>st.at λo e=>k it (by simp) o e
 item:=by
  intro X hP hw hK hc i pins s σ H E I hf st hg
  subst hP hw hK
  obtain⟨xs,x,hq,hx⟩:=hg
  obtain⟨its,rv,p,hz⟩:=I.tuple hq
  obtain⟨u,hu,ru⟩:=rv.get hx
  obtain⟨f0,f1,f2,f3,f4,f5⟩:=hf it (by simp)
  refine wpAny_pyNext_tuple_item st (show s.heap.IsTuple a its.toArray from p) (x:=u) (by simpa using hu) λh' st' sb=>?_
  have I1:Inv X pins σ H { s with heap:=h' }:=I.turned (t':=s.toks) (λb o hb e=>(sb.2 b hb).trans e) f0 f1 f3 f4 f5
  obtain⟨o,e,c,d⟩:=id st'
  exact⟨u,rfl,tR (s:={ s with heap:=h' }) e c d (by decide) ⟨x,H,I1,ru,⟨rfl,λys hy=>by rw[I.tuple_inj hy hq];exact hx⟩,st',λb hb=>(hf b hb).1⟩⟩
 done:=by
  intro X hP hw hK hc i pins s σ H E I hf st hg
  subst hP hw hK
  obtain⟨xs,hq,hx⟩:=hg
  obtain⟨its,rv,p,hz⟩:=I.tuple hq
  obtain⟨f0,f1,f2,f3,f4,f5⟩:=hf it (by simp)
  have hl:=rv.length
  exact wpAny_pyNext_tuple_end (I.ok.hd hc) st (show s.heap.IsTuple a its.toArray from p) (by simp;omega) λh' eb=>⟨rfl,I.turned (t':=s.toks) (λb o hb e=>eb b o hb e) f0 f1 f3 f4 f5⟩
 self:=λ_ _ _ _ _ st h=>wpAny_pyIter_tupleiter st h
theorem sI {P:Program} {w:World} {K:PySem.W.Frag} {tg:Expr} (it:Addr) (lo:Int) (n:Nat):Turn P w K tg (Itr lo n) [it] it (λi h=>IsRangeIter h it (lo+(i:Nat)*1) ((n:Int)-(i:Nat)) 1) where
 mem:=by simp
 obj:=λi h st b hb=>by
  have e:b=it:=by simpa using hb
  subst e
  exact⟨_,st,λv z=>by
   have z':Data.fields _=Data.cell v:=z
   cases z'⟩
 keep:=λi h h' st k=>k it (by simp) _ st
 item:=by
  intro X hP hw hK hc i pins s σ H E I hf st hg
  subst hP hw hK
  obtain⟨f0,f1,f2,f3,f4,f5⟩:=hf it (by simp)
  have W:=Walks.range (prog:=X.prog) (w:=X.w) (I.ok.hd hc) it lo 1 n
  refine W.item i s _ _ hg st λv h' tk hv st' kk=>?_
  obtain⟨t,rfl⟩:=hv
  have I1:Inv X pins σ H { s with heap:=h',toks:=tk }:=I.turned (λb o hb e=>kk b o (by simpa using hb) e) f0 f1 f3 f4 f5
  refine⟨_,rfl,tR (s:={ s with heap:=h',toks:=tk }) (n:="range_iterator") st' rfl rfl (by decide) ⟨.int (lo+i),H,I1,⟨t,?_⟩,⟨rfl,rfl⟩,st',λb hb=>(hf b hb).1⟩⟩
  rw[Int.mul_one]
 done:=by
  intro X hP hw hK hc i pins s σ H E I hf st hg
  subst hP hw hK
  obtain⟨f0,f1,f2,f3,f4,f5⟩:=hf it (by simp)
  exact wpAny_pyNext_range_end (I.ok.hd hc) st (by have:n<=i:=hg;omega) λh' eb=>⟨rfl,I.turned (t':=s.toks) (λb o hb e=>eb b o hb e) f0 f1 f3 f4 f5⟩
 self:=λ_ _ _ _ _ st h=>wpAny_pyIter_rangeiter st h
end L2
namespace L2
open PySem PySem.Spec PyProof.Rows
section
variable {X:Cx} {tg:Expr}
noncomputable def NK (K:PySem.W.Frag) (tl:TE):TI:=λσ H R=>tl σ H λx H1=>∃a,x = .ref a/\(∃xs,SqL K H1 a xs)/\R (Itl K a) H1
noncomputable def PC (K:PySem.W.Frag) (tl:TE):TI:=λσ H R=>tl σ H λx H1=>∃a,x = .ref a/\(∃xs,SqT K H1 a xs)/\R (Itt K a) H1
theorem JE {l:Expr} {tl:TE} (hl:PE X l tl):PI X tg l (NK X.K tl):=by
 intro pins s σ H R I h
 refine thn (hl pins s σ H _ I h) λv s1 ⟨x,H1,I1,r1,q1⟩=>?_
 obtain⟨a,e,⟨xs,hq⟩,q⟩:=q1
 subst e
 cases r1
 obtain⟨its,rv,p,hz⟩:=I1.list hq
 refine wpAny_pyIter_list p.isList ?_
 refine⟨s1.heap.objs.size,[s1.heap.objs.size],_,_,H1,rfl,I1.kept (t':=s1.toks) λb o e=>Heap.get?_push_of_some _ e,DY a _,⟨_,Heap.get?_push_size _ rfl,rfl,rfl⟩,λb hb=>?_,q⟩
 have e:b=s1.heap.objs.size:=by simpa using hb
 subst e
 exact I1.fpOk (Nat.le_refl _) (I1.hok.fresh (Nat.le_refl _))
theorem MC {l:Expr} {tl:TE} (hl:PE X l tl):PI X tg l (PC X.K tl):=by
 intro pins s σ H R I h
 refine thn (hl pins s σ H _ I h) λv s1 ⟨x,H1,I1,r1,q1⟩=>?_
 obtain⟨a,e,⟨xs,hq⟩,q⟩:=q1
 subst e
 cases r1
 obtain⟨its,rv,p,hz⟩:=I1.tuple hq
 refine wpAny_pyIter_tuple (show s1.heap.IsTuple a its.toArray from p) ?_
 refine⟨s1.heap.objs.size,[s1.heap.objs.size],_,_,H1,rfl,I1.kept (t':=s1.toks) λb o e=>Heap.get?_push_of_some _ e,AI a _,⟨_,Heap.get?_push_size _ rfl,rfl,rfl⟩,λb hb=>?_,q⟩
 have e:b=s1.heap.objs.size:=by simpa using hb
 subst e
 exact I1.fpOk (Nat.le_refl _) (I1.hok.fresh (Nat.le_refl _))
theorem xV {pins:List (Addr × Obj)} {σ:St} {H:Hp} {s:Shared} {R:It->Hp->Prop} {E:Value->Shared->Prop} {lo hi:Int} {t u v:Tok} {tk:Nat} (I:Inv X pins σ H s) (h1:-(2 ^ 62)<=lo) (h2:lo<2 ^ 62) (h3:-(2 ^ 62)<=hi) (h4:hi<2 ^ 62)
  (q:R (Itr lo (hi-lo).toNat) H):wpAny (model X.prog X.w) X.A (pyIter (.ref s.heap.objs.size)) (PIE X pins σ tg R) E { s with heap:=s.heap.push { cls:=.type "range",data:=.fields #[.int lo t,.int hi u,.int 1 v] },toks:=tk }:=by
 refine wpAny_pyIter_range (IsRange.new ..) (small_one h1 h2 h3 h4) ?_
 have I1:Inv X pins σ H { s with heap:=s.heap.push { cls:=.type "range",data:=.fields #[.int lo t,.int hi u,.int 1 v] },toks:=tk }:=I.kept λb o e=>Heap.get?_push_of_some _ e
 refine⟨(s.heap.push { cls:=.type "range",data:=.fields #[.int lo t,.int hi u,.int 1 v] }).objs.size,[(s.heap.push { cls:=.type "range",data:=.fields #[.int lo t,.int hi u,.int 1 v] }).objs.size],_,_,H,rfl,
  I1.kept (t':=tk) λb o e=>Heap.get?_push_of_some _ e,sI _ lo (hi-lo).toNat,?_,λb hb=>?_,q⟩
 ·have e1:lo+((0:Nat):Int)*1=lo:=by simp
  have e2:(((hi-lo).toNat:Nat):Int)-((0:Nat):Int)=Builtin.Range.rangeSize lo hi 1:=by rw[rangeSize_one];split <;> omega
  show IsRangeIter _ _ (lo+((0:Nat):Int)*1) ((((hi-lo).toNat:Nat):Int)-((0:Nat):Int)) 1
  rw[e1,e2]
  exact Heap.get?_push_size _ rfl
 ·have e:b=(s.heap.push { cls:=.type "range",data:=.fields #[.int lo t,.int hi u,.int 1 v] }).objs.size:=by simpa using hb
  subst e
  exact I1.fpOk (Nat.le_refl _) (I1.hok.fresh (Nat.le_refl _))
noncomputable def NL (ta:TA):TI:=λσ H R=>ta σ H λvs H1=>∃j:Int,vs=[.int j]/\-(2 ^ 62)<=j/\j<2 ^ 62/\R (Itr 0 j.toNat) H1
noncomputable def NM (ta:TA):TI:=λσ H R=>ta σ H λvs H1=>∃i j:Int,vs=[.int i,.int j]/\(-(2 ^ 62)<=i/\i<2 ^ 62/\-(2 ^ 62)<=j/\j<2 ^ 62)/\R (Itr i (j-i).toNat) H1
theorem CV {a:Expr} {ta:TA} {p pos:Pos} (hg:Gl X "range") (hm:X.mg "range" = none) (ha:PA X [a] ta) (hs:starEach [a] X.env=[(false,eval a X.env)]:=by rfl):PI X tg (.Call (.Name "range" p) [a] [] pos) (NL ta):=by
 intro pins s σ H R I h
 refine Call_ (eC I hg hm boot_range (PyProof.Rows.callWith_type1 (thn (ha pos pins s σ H _ I h) λus s1 ⟨vs,H1,I1,r1,q1⟩=>?_) hs rfl))
 obtain⟨j,e,q1,q2,q⟩:=q1
 subst e
 cases r1 with
 | cons r rr =>
  cases rr
  obtain⟨t,rfl⟩:=r
  exact call_range_1 (xV I1 (by omega) (by omega) q1 q2 (by simpa using q))
theorem CW {a b:Expr} {ta:TA} {p pos:Pos} (hg:Gl X "range") (hm:X.mg "range" = none) (ha:PA X [a,b] ta) (hs:starEach [a,b] X.env=[(false,eval a X.env),(false,eval b X.env)]:=by rfl) (hs2:starEach [b] X.env=[(false,eval b X.env)]:=by rfl) :
  PI X tg (.Call (.Name "range" p) [a,b] [] pos) (NM ta):=by
 intro pins s σ H R I h
 refine Call_ (eC I hg hm boot_range (PyProof.Rows.callWith_type1 (thn (ha pos pins s σ H _ I h) λus s1 ⟨vs,H1,I1,r1,q1⟩=>?_) (by rw[hs,hs2]) (by rw[hs2];rfl)))
 obtain⟨i,j,e,⟨q1,q2,q3,q4⟩,q⟩:=q1
 subst e
 cases r1 with
 | cons r rr =>
  cases rr with
  | cons r' rr =>
   cases rr
   obtain⟨t,rfl⟩:=r
   obtain⟨t',rfl⟩:=r'
   exact call_range_2 (xV I1 q1 q2 q3 q4 q)
noncomputable def PM (wi:TI) (g:TG) (tb:TS):TS:=λD σ H=>wi σ H λJ H1=>∃W:Nat->Nat->St->Hp->Prop,(∃m,W 0 m σ H1)/\∀i m σ H,W i m σ H ->
 (J.stop i H/\D.nx σ H)\/(J.go i H/\∃N:St->Hp->Prop,(∀σ' H',N σ' H'->∃m',m'<m/\W (i+1) m' σ' H')/\∀x H',J.yld i H x H'->g x σ H' λσ2 H2=>tb { D with nx:=N,ct:=N,bk:=D.nx } σ2 H2)
noncomputable def vL (fp:List Addr) (h:Heap):List (Addr × Obj):=fp.filterMap λb=>(h.get? b).map λo=>(b,o)
theorem jD {fp:List Addr} {h:Heap} {b:Addr} {o:Obj} (hb:b∈fp) (e:h.get? b=some o):(b,o)∈vL fp h:=List.mem_filterMap.mpr ⟨b,hb,by rw[e];rfl⟩
theorem CT {fp:List Addr} {h:Heap} {p:Addr × Obj} (hp:p∈vL fp h):p.1∈fp/\h.get? p.1=some p.2:=by
 obtain⟨b,hb,e⟩:=List.mem_filterMap.mp hp
 cases q:h.get? b with
 | none=>rw[q] at e;cases e
 | some o =>
  rw[q] at e
  have e':(b,o)=p:=Option.some.inj e
  subst e'
  exact⟨hb,q⟩
theorem Inv.pinned {pins:List (Addr × Obj)} {σ:St} {H:Hp} {s:Shared} {fp:List Addr} (I:Inv X pins σ H s) (hf:∀b∈fp,nT X pins H b) (ho:∀b∈fp,∃o,s.heap.get? b=some o/\∀v,o.data≠.cell v):Inv X (pins++vL fp s.heap) σ H s :=
 I.pins_of λp hp=>(List.mem_append.mp hp).elim (λz=>I.pin p (List.mem_append_right _ z)) λz=>by
  obtain⟨hb,e⟩:=CT z
  obtain⟨f0,f1,f2,_⟩:=hf p.1 hb
  obtain⟨o,e',d⟩:=ho p.1 hb
  rw[e] at e';cases e'
  exact⟨e,f0,f1,f2,d⟩
theorem Inv.unpinned {pins pl:List (Addr × Obj)} {σ:St} {H:Hp} {s:Shared} (I:Inv X (pins++pl) σ H s):Inv X pins σ H s:=I.pins_of λp hp=>I.pin p (List.mem_append_right _ (List.mem_append_left _ hp))
theorem ME {iter:Expr} {body:List Stmt} {wi:TI} {g:TG} {tb:TS} {pos:Pos} (hp:PassesOwn (model X.prog X.w) X.A X.env X.xe) (hc:X.calm=true) (hi:PI X tg iter wi) (hg:PG X tg g) (hb:PSs X body tb)
  (hs:∀x,foldedSetIterable iter X.env x=pure x:=by intro _;rfl):PS X (.For tg iter body [] pos) (PM wi g tb):=by
 intro pins s σ H D I h
 refine wpAny_For (thn (hi pins s σ H _ I h) λv s1 h1=>thn h1 λitv s2 h2=>?_) hs
 obtain⟨it,fp,tn,J,H2,e,I2,T,st2,f2,W,⟨m0,w0⟩,turn⟩:=h2
 subst e
 have stat:∀{H':Hp},(∀b∈fp,H' b=none)->∀b∈fp,nT X pins H' b:=λhn b hb=>⟨hn b hb,(f2 b hb).2⟩
 refine codeAny_forLoop_any (λn s'=>∃i σ' H',Inv X pins σ' H' s'/\tn i s'.heap/\(∀b∈fp,H' b=none)/\W i n σ' H') ?_ m0 ⟨0,σ,H2,I2,st2,λb hb=>(f2 b hb).1,w0⟩
 rintro n s3 ⟨i,σ3,H3,I3,st3,fr3,w3⟩
 rcases turn i n σ3 H3 w3 with ⟨stop,qn⟩ | ⟨go,N,hN,step⟩
 ·refine wpAny_passesOwn hp (thn (T.done X rfl rfl rfl hc i pins s3 σ3 H3 X.xe I3 (stat fr3) st3 stop) λr s4 ⟨hr,I4⟩=>?_)
  subst hr
  exact wpAny_execs_nil ⟨σ3,H3,I4,qn⟩
 ·refine wpAny_passesOwn hp (thn (T.item X rfl rfl rfl hc i pins s3 σ3 H3 X.xe I3 (stat fr3) st3 go) λr s4 ⟨u,hr,h4⟩=>?_)
  subst hr
  refine wpAny_passesOwn hp (thn h4 λ_ s5 ⟨x,H5,I5,r5,y5,st5,fr5⟩=>?_)
  have I5':=I5.pinned (stat fr5) (T.obj _ _ st5)
  refine wpAny_passesOwn hp (thn (hg _ s5 σ3 H5 x u _ I5' r5 (step x H5 y5)) λ_ s6 ⟨σ6,H6,I6,q6⟩=>?_)
  refine wpAny_passesOwn hp (thn (hb _ s6 σ6 H6 _ I6 q6) λf s7 q7=>?_)
  have again:∀{σ7:St} {H7:Hp},Inv X (pins++vL fp s5.heap) σ7 H7 s7->N σ7 H7->∃m,m<n/\∃i σ' H',Inv X pins σ' H' s7/\tn i s7.heap/\(∀b∈fp,H' b=none)/\W i m σ' H':=λ{σ7 H7} I7 n7=>by
   obtain⟨m',hm,w7⟩:=hN σ7 H7 n7
   refine⟨m',hm,i+1,σ7,H7,I7.unpinned,T.keep _ _ _ st5 λb hb o e=>(I7.pin (b,o) (List.mem_append_right _ (List.mem_append_right _ (jD hb e)))).1,λb hb=>?_,w7⟩
   obtain⟨o,e,d⟩:=T.obj _ _ st5 b hb
   exact (I7.pin (b,o) (List.mem_append_right _ (List.mem_append_right _ (jD hb e)))).2.1
  cases f with
  | next=>obtain⟨σ7,H7,I7,n7⟩:=q7;exact again I7 n7
  | cont=>obtain⟨σ7,H7,I7,n7⟩:=q7;exact again I7 n7
  | brk=>obtain⟨σ7,H7,I7,q7⟩:=q7;exact⟨σ7,H7,I7.unpinned,q7⟩
  | ret v=>obtain⟨x7,σ7,H7,I7,r7,q7⟩:=q7;exact⟨x7,σ7,H7,I7.unpinned,r7,q7⟩
end
theorem nB {K:PySem.W.Frag} {a:Addr} {xs:List V} {g:TG} {tb:TS} {D:Ends} {σ:St} {H:Hp} (Pv:Nat->St->Hp->Prop) (h0:Pv 0 σ H) (hl:∀i σ H,i<=xs.length->Pv i σ H->SqL K H a xs)
  (hs:∀i x σ H,xs[i]? = some x->Pv i σ H->g x σ H λσ2 H2=>tb { D with nx:=Pv (i+1),ct:=Pv (i+1),bk:=D.nx } σ2 H2) (hd:∀σ H,Pv xs.length σ H->D.nx σ H) :
  ∃W:Nat->Nat->St->Hp->Prop,(∃m,W 0 m σ H)/\∀i m σ H,W i m σ H ->
   ((Itl K a).stop i H/\D.nx σ H)\/((Itl K a).go i H/\∃N:St->Hp->Prop,(∀σ' H',N σ' H'->∃m',m'<m/\W (i+1) m' σ' H')/\∀x H',(Itl K a).yld i H x H'->g x σ H' λσ2 H2=>tb { D with nx:=N,ct:=N,bk:=D.nx } σ2 H2):=by
 refine⟨λi m σ H=>m=xs.length-i/\i<=xs.length/\Pv i σ H,⟨xs.length,by simp,Nat.zero_le _,h0⟩,?_⟩
 rintro i m σ H ⟨rfl,hi,p⟩
 have q:=hl i σ H hi p
 by_cases hlt:i<xs.length
 ·refine .inr ⟨⟨xs,xs[i],q,by simp[hlt]⟩,Pv (i+1),λσ' H' p'=>⟨xs.length-(i+1),by omega,rfl,hlt,p'⟩,λx H' y=>?_⟩
  obtain⟨e,y⟩:=y
  subst e
  exact hs i x σ _ (y xs q) p
 ·have e:i=xs.length:=by omega
  subst e
  exact .inl ⟨⟨xs,q,Nat.le_refl _⟩,hd σ H p⟩
end L2
namespace L2
open PySem PySem.Spec PyProof.Rows
noncomputable abbrev R2:=V->V->Hp->VK->Prop
noncomputable def OpR (X:Cx) (f:Value->Value->Sem Value) (r:R2):Prop :=
 ∀(pins:List (Addr × Obj)) (s:Shared) (σ:St) (H:Hp) (x y:V) (v u:Value) (Q:VK),Inv X pins σ H s->RelV x v->RelV y u->r x y H Q ->
  wpAny (model X.prog X.w) X.A (f v u) (EP X pins σ Q) X.xe s
noncomputable def UnR (X:Cx) (f:Value->Sem Value) (r:V->Hp->VK->Prop):Prop :=
 ∀(pins:List (Addr × Obj)) (s:Shared) (σ:St) (H:Hp) (x:V) (v:Value) (Q:VK),Inv X pins σ H s->RelV x v->r x H Q ->
  wpAny (model X.prog X.w) X.A (f v) (EP X pins σ Q) X.xe s
noncomputable def lK (X:Cx) (f:Value) (r:List V->Hp->VK->Prop):Prop :=
 ∀(pins:List (Addr × Obj)) (s:Shared) (σ:St) (H:Hp) (xs:List V) (us:List Value) (Q:VK),Inv X pins σ H s->Vals xs us->r xs H Q ->
  wpAny (model X.prog X.w) X.A (call f us) (EP X pins σ Q) X.xe s
noncomputable def tOp (r:R2) (ta tb:TE):TE:=λσ H Q=>ta σ H λx H1=>tb σ H1 λy H2=>r x y H2 Q
noncomputable def tUn (r:V->Hp->VK->Prop) (ta:TE):TE:=λσ H Q=>ta σ H λx H1=>r x H1 Q
noncomputable def rI (C:Int->Int->Prop) (g:Int->Int->V):R2:=λx y H Q=>∃i j,x = .int i/\y = .int j/\C i j/\Q (g i j) H
noncomputable def rI0 (g:Int->Int->V):R2:=λx y H Q=>∃i j,x = .int i/\y = .int j/\Q (g i j) H
noncomputable def rU (g:Int->V):V->Hp->VK->Prop:=λx H Q=>∃i,x = .int i/\Q (g i) H
section
variable {X:Cx} {a b c:Expr} {ta tb tc:TE} {pos:Pos}
theorem KQ (ha:PE X a ta) (hb:PE X b tb) {pins:List (Addr × Obj)} {s:Shared} {σ:St} {H:Hp} {R:V->V->Hp->Prop} (I:Inv X pins σ H s)
  (h:ta σ H λx H1=>tb σ H1 λy H2=>R x y H2) {Q:Value->Shared->Prop} {f:Value->Value->Sem Value}
  (hf:∀v u s2 x y H2,Inv X pins σ H2 s2->RelV x v->RelV y u->R x y H2->wpAny (model X.prog X.w) X.A (f v u) Q X.xe s2) :
  wpAny (model X.prog X.w) X.A (eval a X.env) (λv s₁=>wpAny (model X.prog X.w) X.A (eval b X.env) (λu s₂=>wpAny (model X.prog X.w) X.A (f v u) Q X.xe s₂) X.xe s₁) X.xe s:=by
 refine thn (ha pins s σ H _ I h) λv s1 ⟨x,H1,I1,r1,q1⟩=>?_
 refine thn (hb pins s1 σ H1 _ I1 q1) λu s2 ⟨y,H2,I2,r2,q2⟩=>?_
 exact hf v u s2 x y H2 I2 r1 r2 q2
theorem OB {op:Operator} {r:R2} (ho:OpR X (binaryOp op) r) (ha:PE X a ta) (hb:PE X b tb):PE X (.BinOp a op b pos) (tOp r ta tb):=by
 intro pins s σ H Q I h
 exact wpAny_BinOp (KQ ha hb I h λv u s2 x y H2 I2 rx ry q=>ho pins s2 σ H2 x y v u Q I2 rx ry q)
theorem OC {op:UnaryOp} {r:V->Hp->VK->Prop} (ho:UnR X (unaryOp op) r) (ha:PE X a ta):PE X (.UnaryOp op a pos) (tUn r ta):=by
 intro pins s σ H Q I h
 exact UnaryOp_ (thn (ha pins s σ H _ I h) λv s1 ⟨x,H1,I1,r1,q1⟩=>ho pins s1 σ H1 x v Q I1 r1 q1)
theorem opI {f:Value->Value->Sem Value} {C:Int->Int->Prop} {g:Int->Int->Int}
  (rule:∀(i j:Int) (t u:Tok) (s:Shared) (Q:Value->Shared->Prop) (E:Value->Shared->Prop),C i j->Q (.int (g i j) s.toks) { s with toks:=s.toks+1 }->wpAny (model X.prog X.w) X.A (f (.int i t) (.int j u)) Q E s) :
  OpR X f (rI C λi j=>.int (g i j)):=by
 intro pins s σ H x y v u Q I rx ry h
 obtain⟨i,j,rfl,rfl,hc,q⟩:=h
 obtain⟨t,rfl⟩:=rx
 obtain⟨t',rfl⟩:=ry
 exact rule i j t t' s _ _ hc ⟨.int (g i j),H,I.tok _,⟨_,rfl⟩,q⟩
theorem NV {f:Value->Value->Sem Value} {g:Int->Int->Bool}
  (rule:∀(i j:Int) (t u:Tok) (s:Shared) (Q:Value->Shared->Prop) (E:Value->Shared->Prop),Q (.bool (g i j)) s->wpAny (model X.prog X.w) X.A (f (.int i t) (.int j u)) Q E s) :
  OpR X f (rI0 λi j=>.bl (g i j)):=by
 intro pins s σ H x y v u Q I rx ry h
 obtain⟨i,j,rfl,rfl,q⟩:=h
 obtain⟨t,rfl⟩:=rx
 obtain⟨t',rfl⟩:=ry
 exact rule i j t t' s _ _ ⟨.bl (g i j),H,I,rfl,q⟩
noncomputable def CMul (i j:Int):Prop:=(-(2 ^ 64)<i/\i<2 ^ 64)\/(-(2 ^ 64)<j/\j<2 ^ 64)
theorem CMul.ok {i j:Int} (h:CMul i j):IntMulOk i j:=by
 rcases h with ⟨h1,h2⟩ | ⟨h1,h2⟩
 ·exact .of_left (intBits_le_64 h1 h2)
 ·exact .of_right (intBits_le_64 h1 h2)
theorem unI {f:Value->Sem Value} {g:Int->Int}
  (rule:∀(i:Int) (t:Tok) (s:Shared) (Q:Value->Shared->Prop) (E:Value->Shared->Prop),Q (.int (g i) s.toks) { s with toks:=s.toks+1 }->wpAny (model X.prog X.w) X.A (f (.int i t)) Q E s) :
  UnR X f (rU λi=>.int (g i)):=by
 intro pins s σ H x v Q I rx h
 obtain⟨i,rfl,q⟩:=h
 obtain⟨t,rfl⟩:=rx
 exact rule i t s _ _ ⟨.int (g i),H,I.tok _,⟨_,rfl⟩,q⟩
theorem MW:UnR X (unaryOp .USub) (rU λi=>.int (-i)):=unI λ_ _ _ _ _ q=>neg_int q
end
noncomputable def OH:V->V->Bool
 | .non,.non=>true | .non,.int _=>true | .int _,.non=>true | .non,.bl _=>true | .bl _,.non=>true | .non,.str _=>true | .str _,.non=>true
 | .int _,.int _=>true | .bl _,.bl _=>true | .str _,.str _=>true | .byt _,.byt _=>true
 | .int _,.str _=>true | .str _,.int _=>true | .bl _,.str _=>true | .str _,.bl _=>true
 | _,_=>false
noncomputable def rEq:R2:=λx y H Q=>OH x y=true/\Q (.bl (decide (x=y))) H
noncomputable def rNe:R2:=λx y H Q=>OH x y=true/\Q (.bl (!decide (x=y))) H
theorem AV {i j:Int}:decide (V.int i=V.int j)=(i == j):=by
 rw[Bool.eq_iff_iff]
 simp
theorem ES {i j:Bool}:decide (V.bl i=V.bl j)=(i == j):=by
 rw[Bool.eq_iff_iff]
 simp
theorem AW {i j:Str}:decide (V.str i=V.str j)=(i == j):=by
 rw[Bool.eq_iff_iff]
 simp
theorem AU {i j:Array UInt8}:decide (V.byt i=V.byt j)=(i.toList == j.toList):=by
 rw[Bool.eq_iff_iff]
 cases i
 cases j
 simp
section
variable {X:Cx} {a b c:Expr} {ta tb tc:TE} {pos:Pos}
theorem bH {pins:List (Addr × Obj)} {σ:St} {H:Hp} {s:Shared} {Q:VK} {k k':Bool} (I:Inv X pins σ H s) (q:Q (.bl k) H) (e:k=k'):EP X pins σ Q (.bool k') s:=by
 subst e
 exact⟨.bl k,H,I,rfl,q⟩
theorem KG:OpR X (compareOp .Eq) rEq:=by
 intro pins s σ H x y v u Q I rx ry h
 obtain⟨hs,q⟩:=h
 cases x with
 | non =>
  cases rx
  cases y with
  | non=>cases ry;exact PySem.EqNone.eq_none_none (bH I q (by simp))
  | bl j=>cases ry;exact PySem.EqNone.eq_none_bool (bH I q (by simp))
  | int j=>obtain⟨t',rfl⟩:=ry;exact PySem.EqNone.eq_none_int (bH I q (by simp))
  | str j=>obtain⟨t',rfl⟩:=ry;exact PySem.EqNone.eq_none_str (bH I q (by simp))
  | _=>exact absurd (show false=true from hs) Bool.false_ne_true
 | bl i =>
  cases rx
  cases y with
  | non=>cases ry;exact PySem.EqNone.eq_bool_none (bH I q (by simp))
  | bl j=>cases ry;exact eq_bool (bH I q ES)
  | str j=>obtain⟨t',rfl⟩:=ry;exact PySem.EqMixed.eq_bool_str (bH I q (by simp))
  | _=>exact absurd (show false=true from hs) Bool.false_ne_true
 | int i =>
  obtain⟨t,rfl⟩:=rx
  cases y with
  | non=>cases ry;exact PySem.EqNone.eq_int_none (bH I q (by simp))
  | int j=>obtain⟨t',rfl⟩:=ry;exact eq_int (bH I q AV)
  | str j=>obtain⟨t',rfl⟩:=ry;exact PySem.EqMixed.eq_int_str (bH I q (by simp))
  | _=>exact absurd (show false=true from hs) Bool.false_ne_true
 | str i =>
  obtain⟨t,rfl⟩:=rx
  cases y with
  | non=>cases ry;exact PySem.EqNone.eq_str_none (bH I q (by simp))
  | bl j=>cases ry;exact PySem.EqMixed.eq_str_bool (bH I q (by simp))
  | int j=>obtain⟨t',rfl⟩:=ry;exact PySem.EqMixed.eq_str_int (bH I q (by simp))
  | str j=>obtain⟨t',rfl⟩:=ry;exact eq_str (bH I q AW)
  | _=>exact absurd (show false=true from hs) Bool.false_ne_true
 | byt i =>
  obtain⟨t,rfl⟩:=rx
  cases y with
  | byt j=>obtain⟨t',rfl⟩:=ry;exact PySem.W.eq_bytes (bH I q AU)
  | _=>exact absurd (show false=true from hs) Bool.false_ne_true
 | _=>cases y <;> exact absurd (show false=true from hs) Bool.false_ne_true
theorem KH:OpR X (compareOp .NotEq) rNe:=by
 intro pins s σ H x y v u Q I rx ry h
 obtain⟨hs,q⟩:=h
 cases x with
 | non =>
  cases rx
  cases y with
  | non=>cases ry;exact PySem.EqNone.ne_none_none (bH I q (by simp))
  | bl j=>cases ry;exact PySem.EqNone.ne_none_bool (bH I q (by simp))
  | int j=>obtain⟨t',rfl⟩:=ry;exact PySem.EqNone.ne_none_int (bH I q (by simp))
  | str j=>obtain⟨t',rfl⟩:=ry;exact PySem.EqNone.ne_none_str (bH I q (by simp))
  | _=>exact absurd (show false=true from hs) Bool.false_ne_true
 | bl i =>
  cases rx
  cases y with
  | non=>cases ry;exact PySem.EqNone.ne_bool_none (bH I q (by simp))
  | bl j=>cases ry;exact ne_bool (bH I q (congrArg not ES))
  | str j=>obtain⟨t',rfl⟩:=ry;exact PySem.EqMixed.ne_bool_str (bH I q (by simp))
  | _=>exact absurd (show false=true from hs) Bool.false_ne_true
 | int i =>
  obtain⟨t,rfl⟩:=rx
  cases y with
  | non=>cases ry;exact PySem.EqNone.ne_int_none (bH I q (by simp))
  | int j=>obtain⟨t',rfl⟩:=ry;exact ne_int (bH I q (congrArg not AV))
  | str j=>obtain⟨t',rfl⟩:=ry;exact PySem.EqMixed.ne_int_str (bH I q (by simp))
  | _=>exact absurd (show false=true from hs) Bool.false_ne_true
 | str i =>
  obtain⟨t,rfl⟩:=rx
  cases y with
  | non=>cases ry;exact PySem.EqNone.ne_str_none (bH I q (by simp))
  | bl j=>cases ry;exact PySem.EqMixed.ne_str_bool (bH I q (by simp))
  | int j=>obtain⟨t',rfl⟩:=ry;exact PySem.EqMixed.ne_str_int (bH I q (by simp))
  | str j=>obtain⟨t',rfl⟩:=ry;exact ne_str (bH I q (congrArg not AW))
  | _=>exact absurd (show false=true from hs) Bool.false_ne_true
 | byt i =>
  obtain⟨t,rfl⟩:=rx
  cases y with
  | byt j=>obtain⟨t',rfl⟩:=ry;exact PySem.W.ne_bytes (bH I q (congrArg not AU))
  | _=>exact absurd (show false=true from hs) Bool.false_ne_true
 | _=>cases y <;> exact absurd (show false=true from hs) Bool.false_ne_true
theorem NY:OpR X (compareOp .Lt) (rI0 λi j=>.bl (decide (i<j))):=NV λ_ _ _ _ _ _ _ q=>lt_int q
theorem NX:OpR X (compareOp .Gt) (rI0 λi j=>.bl (decide (j<i))):=NV λ_ _ _ _ _ _ _ q=>gt_int q
theorem FV (b:Expr) {op:CmpOp} (h:op≠.In:=by decide) (h2:op≠.NotIn:=by decide):behindInMarks op b=false:=by
 have e1:(op == CmpOp.In)=false:=by cases op <;> first | rfl | exact absurd rfl h
 have e2:(op == CmpOp.NotIn)=false:=by cases op <;> first | rfl | exact absurd rfl h2
 cases b <;> simp[behindInMarks,e1,e2]
theorem JA {op:CmpOp} {r:R2} (ho:OpR X (compareOp op) r) (ha:PE X a ta) (hb:PE X b tb) (hm:behindInMarks op b=false):PE X (.Compare a [op] [b] pos) (tOp r ta tb):=by
 intro pins s σ H Q I h
 exact wpAny_Compare1 (KQ ha hb I h λv u s2 x y H2 I2 rx ry q=>ho pins s2 σ H2 x y v u Q I2 rx ry q) hm
noncomputable def OT (t:TE):TT:=λσ H Q=>t σ H λx H'=>∃k,x = .bl k/\Q k H'
theorem JI {op:CmpOp} {r:R2} (ho:OpR X (compareOp op) r) (ha:PE X a ta) (hb:PE X b tb) (hm:behindInMarks op b=false):PT X (.Compare a [op] [b] pos) (OT (tOp r ta tb)):=by
 intro pins s σ H Q I h
 refine wpAny_isTrue_Compare1 (thn (ha pins s σ H _ I h) λv s1 ⟨x,H1,I1,r1,q1⟩=>thn (hb pins s1 σ H1 _ I1 q1) λu s2 ⟨y,H2,I2,r2,q2⟩ =>
  thn (ho pins s2 σ H2 x y v u _ I2 r1 r2 q2) λc s3 ⟨z,H3,I3,r3,k,e,q3⟩=>?_) hm
 subst e
 cases r3
 exact wpAny_truthy_bool ⟨H3,I3,q3⟩
theorem zK:(sizeLine:Nat)<2 ^ 63:=by rw[sizeLine_eq];decide
theorem kW {x:V} {us:List Value} (r:Vals [x] us):∃u,us=[u]/\RelV x u:=by
 cases r with
 | cons r1 r2=>cases r2;exact⟨_,rfl,r1⟩
theorem GZ {x y:V} {us:List Value} (r:Vals [x,y] us):∃u w',us=[u,w']/\RelV x u/\RelV y w':=by
 cases r with
 | cons r1 r2 =>
  cases r2 with
  | cons r3 r4=>cases r4;exact⟨_,_,rfl,r1,r3⟩
theorem EG:lK X (.builtin "abs") (λxs H Q=>∃i,xs=[.int i]/\Q (.int (if i<0 then -i else i)) H):=by
 intro pins s σ H xs us Q I r h
 obtain⟨i,rfl,q⟩:=h
 obtain⟨u,rfl,t,rfl⟩:=kW r
 exact call_abs_int λu tk=>⟨.int (if i<0 then -i else i),H,I.tok _,⟨_,rfl⟩,q⟩
theorem BS (hc:X.calm=true):lK X (.builtin "min") (λxs H Q=>∃i j,xs=[.int i,.int j]/\Q (.int (if j<i then j else i)) H):=by
 intro pins s σ H xs us Q I r h
 obtain⟨i,j,rfl,q⟩:=h
 obtain⟨u,w',rfl,⟨t,rfl⟩,⟨t',rfl⟩⟩:=GZ r
 refine min_two_ints (I.ok.hd hc) λh' tk k=>⟨_,H,I.kept k,?_,q⟩
 by_cases hj:j<i
 ·rw[if_pos hj,if_pos hj];exact⟨_,rfl⟩
 ·rw[if_neg hj,if_neg hj];exact⟨_,rfl⟩
theorem tN:lK X (.type "int") (λxs H Q=>(∃i,xs=[.int i]/\Q (.int i) H)\/∃k,xs=[.bl k]/\Q (.int (if k then 1 else 0)) H):=by
 intro pins s σ H xs us Q I r h
 rcases h with ⟨i,rfl,q⟩ | ⟨k,rfl,q⟩
 ·obtain⟨u,rfl,t,rfl⟩:=kW r
  exact call_int_int ⟨.int i,H,I,⟨_,rfl⟩,q⟩
 ·obtain⟨u,rfl,r1⟩:=kW r
  cases r1
  exact call_int_bool ⟨.int (if k then 1 else 0),H,I.tok _,⟨_,rfl⟩,q⟩
end
end L2
namespace L2
open PySem PySem.Spec PyProof.Rows
structure ObjM (h:Heap) (x dx C:Addr) (mA:Str->Option Value):Prop where
 obj:h.get? x=some (PySem.W.instObj C dx)
 ns:h.Ns1 dx mA
 ne:dx≠x
theorem CP {h:Heap} {dx:Addr} {mA:Str->Option Value} (n:h.Ns1 dx mA):∃od,h.get? dx=some od/\∀name,PySem.W.lookIn name od=some (mA name):=by
 obtain⟨o,es,ep,ho,hd,hk,_,hm⟩:=n
 refine⟨o,ho,λname=>?_⟩
 have e:=hm name
 unfold nsFind findBy at e
 rw[<-Array.find?_toList] at e
 unfold PySem.W.lookIn
 rw[hd]
 dsimp only
 split
 ·rename_i y q
  rw[q] at e
  exact congrArg some e
 ·rename_i q
  rw[q] at e
  have a:es.toList.any (·.refKey)=false:=by
   rw[List.any_eq_false]
   intro y hy
   obtain⟨z,t,hkey⟩:=hk y (Array.mem_toList_iff.mp hy)
   simp[DictEntry.refKey,hkey]
  have a':¬es.toList.any (·.refKey)=true:=by rw[a];exact Bool.false_ne_true
  rw[if_neg a']
  exact congrArg some e
theorem ObjM.look {h:Heap} {x dx C:Addr} {mA:Str->Option Value} (I:ObjM h x dx C mA):∃od,PySem.W.InstAt h x (PySem.W.instObj C dx) C (some od)/\∀name,PySem.W.lookIn name od=some (mA name) :=
 let ⟨od,ho,hl⟩:=CP I.ns
 ⟨od,⟨I.obj,rfl,rfl,ho⟩,hl⟩
section
variable {prog:Program} {w:World} {A:Around} {E:Value->Shared->Prop} {s:Shared} {K:PySem.W.Frag} {x dx C f:Addr} {mA:Str->Option Value} {name:Str} {v:Value}
end
theorem RelO.some_of {v:V} {o:Option Value} (r:RelO (some v) o):∃u,o=some u/\RelV v u:=by
 cases o with
 | none=>exact (show False from r).elim
 | some u=>exact⟨u,rfl,r⟩
section
variable {P:Program} {w:World} {H H':Hp} {h h':Heap} {a C dx:Addr} {fs fs':List (Str × V)}
theorem IE (hok:HOk P w H h) (e:H a=some (.ins C dx fs)):∃mA,ObjM h a dx C mA/\(∀f,RelO (fs.lookup f) (mA f))/\PySem.Within mA (fs.map (·.1))/\fs.length<=1000/\H dx=some (.own a):=by
 obtain⟨d,z,ne,ob,mA,n,r,q⟩:=(show ObjOk P w H h a (.ins C dx fs) from hok a _ e)
 exact⟨mA,⟨ob,n,ne⟩,r,q,z,d⟩
end
structure Cls (K:PySem.W.Frag) (C:Addr):Prop where
 pg:PySem.W.plainGet K C Str.empty=true
 hd:PySem.W.hasDictIn K C=true
 po:PySem.W.plainOver K C=true
 sa:PySem.W.findIn K (.ref C) "__setattr__" = some (some (.builtin "object.__setattr__"))
theorem Cls.get {K:PySem.W.Frag} {C:Addr} (c:Cls K C) (f:Str):PySem.W.plainGet K C f=true:=c.pg
section
variable {X:Cx} {pins:List (Addr × Obj)} {σ:St} {H:Hp} {s:Shared} {a C dx:Addr} {fs:List (Str × V)} {f:Str} {v:V} {A:Around} {E:Value->Shared->Prop}
end
section
variable {X:Cx} {o e value:Expr} {f:Str} {pos pos' tpos:Pos} {ta tv:TE}
end
section
variable {X:Cx} {pins:List (Addr × Obj)} {σ:St} {H:Hp} {s:Shared} {A:Around} {E:Value->Shared->Prop} {Q:Value->Shared->Prop} {c:Value} {b:Bool}
inductive TyOf (K:PySem.W.Frag) (H:Hp):V->Value->Prop where
 | non:TyOf K H .non (.type "NoneType")
 | bl (x:Bool):TyOf K H (.bl x) (.type "bool")
 | int (i:Int):TyOf K H (.int i) (.type "int")
 | str (x:Str):TyOf K H (.str x) (.type "str")
 | flt (x:UInt64):TyOf K H (.flt x) (.type "float")
 | lst {a:Addr} {xs:List V} (e:H a=some (.lst xs)):TyOf K H (.ref a) (.type "list")
 | frz {a:Addr} {o:Obj} {xs:List V} (e:H a=some (.frz o (.lst xs))):TyOf K H (.ref a) (.type "list")
 | tup {a:Addr} {xs:List V} (e:H a=some (.tup xs)):TyOf K H (.ref a) (.type "tuple")
 | dK {a:Addr} {kvs:List (Key × V)} (e:H a=some (.dK kvs)):TyOf K H (.ref a) (.type "dict")
 | dT {a:Addr} {kvs:List (List Key × V)} (e:H a=some (.dT kvs)):TyOf K H (.ref a) (.type "dict")
 | ins {a C dx:Addr} {fs:List (Str × V)} (e:H a=some (.ins C dx fs)) (cl:Cls K C) (ha:PySem.W.findIn K (.ref C) "__class__" = some (some (.builtin "object.__class__")))
   (hn:PySem.W.specialIn K (.builtin "object.__class__") "__get__" = some (some (.builtin "getset_descriptor.__get__"))) (htk:PySem.W.takesIn K (.builtin "object.__class__")=some true)
   (hm:PySem.W.mroIn K C (.type "object")=some true):TyOf K H (.ref a) (.ref C)
theorem CG {x:V} {u t:Value} (I:Inv X pins σ H s) (rx:RelV x u) (ty:TyOf X.K H x t) (e:PySem.W.kitOne X.K t c=some b) (h:∀tk,Q (.bool b) { s with toks:=tk }) :
  wpAny (model X.prog X.w) A (call (.builtin "isinstance") [u,c]) Q E s:=by
 cases ty with
 | non=>cases (show u=Value.none from rx);exact PySem.W.kia_one PySem.W.kitx_none I.kIn True.intro e (λz=>nomatch z) h
 | bl y=>cases (show u=Value.bool y from rx);exact PySem.W.kia_one PySem.W.kitx_bool I.kIn True.intro e (λz=>nomatch z) h
 | int i=>obtain⟨t,q⟩:=(show ∃t,u=Value.int i t from rx);cases q;exact PySem.W.kia_one PySem.W.kitx_int I.kIn True.intro e (λz=>nomatch z) h
 | str y=>obtain⟨t,q⟩:=(show ∃t,u=Value.str y t from rx);cases q;exact PySem.W.kia_one PySem.W.kitx_str I.kIn True.intro e (λz=>nomatch z) h
 | flt y=>obtain⟨t,q⟩:=(show ∃t,u=Value.float y t from rx);cases q;exact PySem.W.kia_one PySem.W.kitx_float I.kIn True.intro e (λz=>nomatch z) h
 | @lst a xs ea =>
  cases (show u=Value.ref a from rx)
  obtain⟨_,_,n,_,h1⟩:=(show ObjOk X.prog X.w H s.heap a (.lst xs) from I.hok a _ ea)
  exact PySem.W.kia_one PySem.W.kitx_list I.kIn ⟨_,h1,rfl⟩ e (λz=>nomatch z) h
 | @frz a ob xs ea =>
  cases (show u=Value.ref a from rx)
  obtain⟨_,_,_,n,_,h1⟩:=(show ObjOk X.prog X.w H s.heap a (.frz ob (.lst xs)) from I.hok a _ ea)
  exact PySem.W.kia_one PySem.W.kitx_list I.kIn ⟨_,h1,rfl⟩ e (λz=>nomatch z) h
 | @tup a xs ea =>
  cases (show u=Value.ref a from rx)
  obtain⟨_,_,_,p⟩:=(show ObjOk X.prog X.w H s.heap a (.tup xs) from I.hok a _ ea)
  obtain⟨o,h1,h2,_⟩:=p
  exact PySem.W.kia_one PySem.W.kitx_tuple I.kIn ⟨o,h1,h2⟩ e (λz=>nomatch z) h
 | @dK a kvs ea =>
  cases (show u=Value.ref a from rx)
  obtain⟨_,_,vs,_,p⟩:=(show ObjOk X.prog X.w H s.heap a (.dK kvs) from I.hok a _ ea)
  obtain⟨o,es,ep,h1,h2,_⟩:=p
  exact PySem.W.kia_one PySem.W.kitx_dict I.kIn ⟨o,h1,h2.1⟩ e (λz=>nomatch z) h
 | @dT a kvs ea =>
  cases (show u=Value.ref a from rx)
  obtain⟨_,_,xs,_,o,es,ep,h1,h2,_⟩:=(show ObjOk X.prog X.w H s.heap a (.dT kvs) from I.hok a _ ea)
  exact PySem.W.kia_one PySem.W.kitx_dict I.kIn ⟨o,h1,h2.1⟩ e (λz=>nomatch z) h
 | @ins a C dx fs ea cl ha hn htk hm =>
  cases (show u=Value.ref a from rx)
  obtain⟨mA,O,_⟩:=IE I.hok ea
  obtain⟨od,J,_⟩:=O.look
  exact PySem.W.kia_one (PySem.W.kitx_own (cl.get _) cl.hd ha hn htk hm) I.kIn J e (λz=>nomatch z) h
end
end L2
namespace L2
open PySem PySem.Spec PyProof.Rows
structure Room (k:Nat) (A:Around):Prop where
 hd:A.handled=none
 dp:A.depth+3*k+5<recursionLimit
 un:A.units+16*k+200<cLine
theorem Room.mono {j k:Nat} {A:Around} (r:Room k A) (h:j<=k):Room j A:=⟨r.hd,by have:=r.dp;omega,by have:=r.un;omega⟩
theorem Room.deeper {k:Nat} {A:Around} (r:Room (k+1) A) (env:Env):Room k (A.deeper env) :=
 ⟨r.hd,by have:=r.dp;show A.depth+1+3*k+5<_;omega,by have:=r.un;show A.units+3+16*k+200<_;omega⟩
theorem Room.depth {k:Nat} {A:Around} (r:Room k A):A.depth<recursionLimit:=by have:=r.dp;omega
noncomputable def PQ:TA:=λ_ H Q=>Q [] H
noncomputable def ON (ta:TE) (tr:TA):TA:=λσ H Q=>ta σ H λx H1=>tr σ H1 λxs H2=>Q (x::xs) H2
section
variable {X:Cx} {e:Expr} {es:List Expr} {te:TE} {t:TA} {pos:Pos}
theorem oJ:PA X [] PQ:=λ_ _ _ _ H Q I h=>Calls.spliced_nil ⟨[],H,I,.nil,h⟩
theorem gY (ha:PE X e te) (hr:PA X es t) (hs:starEach (e::es) X.env=(false,eval e X.env)::starEach es X.env:=by rfl):PA X (e::es) (ON te t):=by
 intro pos pins s σ H Q I h
 rw[hs]
 show wpAny _ _ (spliced ((false,eval e X.env)::backTo pos (starEach es X.env))) _ _ s
 refine Calls.spliced_cons (thn (ha pins s σ H _ I h) λu s1 ⟨x,H1,I1,r1,q1⟩=>?_)
 exact thn (hr pos pins s1 σ H1 _ I1 q1) λus s2 ⟨xs,H2,I2,r2,q2⟩=>⟨x::xs,H2,I2,.cons r1 r2,q2⟩
noncomputable def PY (t:TA):TE:=λσ H Q=>t σ H λxs H1=>xs.length<=sizeLine/\∀p,H1 p=none->Q (.ref p) (upd H1 p (.tup xs))
noncomputable def PP (t:TA):TE:=λσ H Q=>t σ H λxs H1=>xs.length<=sizeLine/\∀p,H1 p=none->Q (.ref p) (upd H1 p (.lst xs))
theorem LZ {x1} (h:PA X es t):PE X (.Tuple es x1 pos) (PY t):=by
 intro pins s σ H Q I hq
 refine wpAny_Tuple_spliced (thn (h pos pins s σ H _ I hq) λus s1 ⟨xs,H1,I1,r,z,q⟩=>⟨by rw[<-r.length];exact z,?_⟩)
 have hf:H1 s1.heap.objs.size=none:=I1.hok.fresh (Nat.le_refl _)
 refine⟨.ref s1.heap.objs.size,upd H1 s1.heap.objs.size (.tup xs),I1.laid (t':=s1.toks) (λb u e=>Heap.get?_push_of_some _ e) (Nat.le_refl _) ?_,rfl,q _ hf⟩
 exact⟨z,us,r,⟨_,Heap.get?_push_size _ rfl,rfl,_,rfl⟩⟩
theorem GD (h:PA X es t):PE X (.List es pos) (PP t):=by
 intro pins s σ H Q I hq
 refine wpAny_List_spliced (thn (h pos pins s σ H _ I hq) λus s1 ⟨xs,H1,I1,r,z,q⟩=>⟨by rw[<-r.length];exact z,?_⟩)
 have hf:H1 s1.heap.objs.size=none:=I1.hok.fresh (Nat.le_refl _)
 refine⟨.ref s1.heap.objs.size,upd H1 s1.heap.objs.size (.lst xs),I1.laid (t':=s1.toks) (λb u e=>Heap.get?_push_of_some _ e) (Nat.le_refl _) ?_,rfl,q _ hf⟩
 exact⟨z,us,0,r,Heap.get?_push_size _ rfl⟩
end
noncomputable abbrev Sp:=List V->Hp->VK->XK->Prop
noncomputable abbrev CXT:=List Env->Hp->Shared->XK->Value->Shared->Prop
structure Env0 (P:Program) (w:World) (K:PySem.W.Frag) (mg:Str->Option Value) (base:Heap) (A:Around) (outer:List Env) (s:Shared) (H:Hp):Prop where
 frames:A.frames=some outer
 mod:Mod K mg base
 bs:∀b o,base.get? b=some o->s.heap.get? b=some o/\H b=none
 bsz:base.objs.size<=s.heap.objs.size
 funs:s.heap.FunFrames base outer
 frf:∀b∈frs outer,H b=none
 hok:HOk P w H s.heap
 bare:AllBare s.gens
noncomputable def CE (outer:List Env) (P:Program) (w:World) (H:Hp) (s:Shared) (Q:VK) (u:Value) (s':Shared):Prop :=
 ∃v H',s'.os=s.os/\AllBare s'.gens/\Un (frs outer) [] H H' s.heap s'.heap/\HOk P w H' s'.heap/\RelV v u/\Q v H'
noncomputable def CR (CX:CXT) (outer:List Env) (P:Program) (w:World) (H:Hp) (s:Shared) (Q:VK) (E:XK) (r:Result) (s':Shared):Prop :=
 match r with
 | .ok (.ret u)=>CE outer P w H s Q u s'
 | .ok _=>False
 | .error e=>CX outer H s E e s'
structure FnOk (P:Program) (w:World) (K:PySem.W.Frag) (mg:Str->Option Value) (base:Heap) (CX:CXT) (k:Nat) (f:Addr) (fd:FuncData) (ps:List Str) (sp:Sp):Prop where
 len:∀vs H Q E,sp vs H Q E->vs.length=ps.length
 run:∀(A:Around) (outer:List Env) (s:Shared) (H:Hp) (args:Args) (us:List Value) (vs:List V) (Q:VK) (E:XK),Room k A->Env0 P w K mg base A outer s H->BindsTo s fd args (ps.zip us)->Vals vs us->sp vs H Q E ->
  codeAny (model P w) A (.call (.ref f) args) (CR CX outer P w H s Q E) s
theorem FnOk.mono {P:Program} {w:World} {K:PySem.W.Frag} {mg:Str->Option Value} {base:Heap} {CX:CXT} {j k:Nat} {f:Addr} {fd:FuncData} {ps:List Str} {sp:Sp} (F:FnOk P w K mg base CX j f fd ps sp) (h:j<=k) :
  FnOk P w K mg base CX k f fd ps sp:=⟨F.len,λA outer s H args us vs Q E hr=>F.run A outer s H args us vs Q E (hr.mono h)⟩
section
variable {X:Cx} {pins:List (Addr × Obj)} {σ:St} {H:Hp} {s s':Shared}
theorem Inv.env0 (I:Inv X pins σ H s):Env0 X.prog X.w X.K X.mg X.base X.A X.stack s H :=
 ⟨I.ok.frames,I.ok.mod,I.bs,Nat.le_trans I.ok.bsz I.sz,I.stack,I.stkFree,I.hok,I.bare⟩
theorem Inv.after {Q:VK} {u:Value} (I:Inv X pins σ H s) (h:CE X.stack X.prog X.w H s Q u s'):EP X pins σ Q u s':=by
 obtain⟨v,H',os,bare,un,hok,r,q⟩:=h
 obtain⟨hh,g,d,t,os'⟩:=s'
 obtain rfl:os'=s.os:=os
 exact⟨v,H',I.call (h':=hh) (g':=g) (d':=d) (t':=t) (ch:=[]) un hok bare (λb z=>absurd z (by simp)),r,q⟩
end
noncomputable def OM (sp:Sp) (dvs:List V) (E:XK) (t:TA):TE:=λσ H Q=>t σ H λvs H1=>sp (vs++dvs) H1 Q E
noncomputable def Binds (K:PySem.W.Frag) (fd:FuncData) (ps:List Str) (ds:List Value):Prop :=
 ∀(s:Shared) (us:List Value),K.In s.heap->(us++ds).length=ps.length->BindsTo s fd ⟨us,[]⟩ (ps.zip (us++ds))
theorem Binds.all {K:PySem.W.Frag} {fd:FuncData} {ps:List Str} (h:∀us:List Value,us.length=ps.length->bindArgs fd ⟨us,[]⟩=pure (ps.zip us)):Binds K fd ps []:=λs us _ hl=>by
 rw[List.append_nil] at hl ⊢
 exact .of_eq (h us hl)
noncomputable def yO (CX:CXT) (X:Cx) (E:XK):Prop:=∀(pins:List (Addr × Obj)) (σ:St) (H:Hp) (s:Shared) (e:Value) (s':Shared),Inv X pins σ H s->CX X.stack H s E e s'->X.xe e s'
section
variable {X:Cx} {CX:CXT} {k:Nat} {f C:Addr} {fd:FuncData} {ps:List Str} {sp:Sp} {dvs:List V} {ds:List Value} {E:XK} {x m:Str} {p pos apos:Pos} {e o:Expr} {es:List Expr} {ta:TE} {t:TA}
theorem MK {pins:List (Addr × Obj)} {σ:St} {H:Hp} {s:Shared} {Q:VK} {us:List Value} {vs:List V} (F:FnOk X.prog X.w X.K X.mg X.base CX k f fd ps sp) (hr:Room k X.A) (hb:Binds X.K fd ps ds) (hd:Vals dvs ds) (hx:yO CX X E)
  (I:Inv X pins σ H s) (r:Vals vs us) (h:sp (vs++dvs) H Q E):wpAny (model X.prog X.w) X.A (call (.ref f) us) (EP X pins σ Q) X.xe s:=by
 have r2:Vals (vs++dvs) (us++ds):=r.append hd
 have hl:(us++ds).length=ps.length:=by rw[<-r2.length];exact F.len _ _ _ _ h
 refine wpAny_call (codeAny_mono (F.run X.A X.stack s H ⟨us,[]⟩ (us++ds) (vs++dvs) Q E hr I.env0 (hb s us I.kIn hl) r2 h) λr s' hq=>?_)
 cases r with
 | error e=>exact hx pins σ H s e s' I hq
 | ok fl =>
  cases fl with
  | ret u=>exact I.after hq
  | next=>exact False.elim hq
  | brk=>exact False.elim hq
  | cont=>exact False.elim hq
theorem BF (F:FnOk X.prog X.w X.K X.mg X.base CX k f fd ps sp) (hr:Room k X.A) (hg:Gl X x) (hm:X.mg x=some (.ref f)) (hk:PySem.W.keepIn X.K (.ref f)=true) (hb:Binds X.K fd ps ds) (hd:Vals dvs ds) (hx:yO CX X E)
  (ha:PA X (e::es) t) (hdb:(x == ("__debug__":Str))=false:=by decide) (he:starEach (e::es) X.env=(false,eval e X.env)::starEach es X.env:=by rfl) (hpl:(backTo pos (starEach es X.env)).any (·.1)=false:=by rfl) :
  PE X (.Call (.Name x p) (e::es) [] pos) (OM sp dvs E t):=by
 intro pins s σ H Q I h
 refine wpAny_Call_Name_kw (IJ I hg hm ?_ hdb)
 refine PySem.W.callWith_K (h₀:=X.base) I.ok.mod.kin hk (thn (ha pos pins s σ H _ I h) λus s1 ⟨vs,H1,I1,r,q⟩=>⟨I1.kIn,?_⟩) he hpl
 exact MK F hr hb hd hx I1 r q
end
section
variable {X:Cx} {CX:CXT} {k:Nat} {f C:Addr} {fd:FuncData} {ps ks:List Str} {sp:Sp} {E:XK} {x m:Str} {p pos apos kpos:Pos} {e o:Expr} {es:List Expr} {kws:List Keyword} {te ta:TE} {t tk:TA} {nm:Option Str}
variable {g:List Value->List Value->List Value} {gV:List V->List V->List V}
end
structure FnScope (N P:List Str) (sc:Scope):Prop where
 kind:sc.kind = .function
 co:sc.isCoroutine=false
 gen:sc.isGenerator=false
 nd:N.Nodup
 pre:N.take P.length=P
 par:∀x∈P,sc.names.lookup x=some .local\/sc.names.lookup x=some .cell
 nofree:∀y∈sc.names,y.2≠.free
theorem tL {kindOf:Str->Option NameKind} {x:Str}:∀{binds:List (Str × Value)} {m:Str->Option Value},(∀v,(x,v) ∉ binds)->bindL kindOf binds m x=m x
 | [],_,_=>rfl
 | (n,v)::r,m,h=>by
  unfold bindL
  rw[tL λw hw=>h w (List.mem_cons_of_mem _ hw)]
  split
  ·have:x≠n:=by rintro rfl;exact h v List.mem_cons_self
   simp[this]
  ·rfl
theorem tJ {kindOf:Str->Option NameKind} {x:Str}:∀{binds:List (Str × Value)} {m:Str->Option Value},(∀v,(x,v) ∉ binds)->bindC kindOf binds m x=m x
 | [],_,_=>rfl
 | (n,v)::r,m,h=>by
  unfold bindC
  rw[tJ λw hw=>h w (List.mem_cons_of_mem _ hw)]
  split
  ·rfl
  ·have:x≠n:=by rintro rfl;exact h v List.mem_cons_self
   simp[this]
theorem tK {kindOf:Str->Option NameKind} {x:Str} {v:Value}:∀{P:List Str} {vs:List Value} {i:Nat} {m:Str->Option Value},P.Nodup->P[i]? = some x->vs[i]? = some v->kindOf x=some .local ->
  bindL kindOf (P.zip vs) m x=some v
 | [],_,_,_,_,h,_,_=>by simp at h
 | _::_,[],_,_,_,_,h,_=>by simp at h
 | p::P,w::vs,0,m,nd,h1,h2,hk=>by
  simp at h1 h2;subst h1;subst h2
  show bindL kindOf ((p,w)::P.zip vs) m p=_
  unfold bindL
  rw[tL λv hv=>(List.nodup_cons.mp nd).1 (List.of_mem_zip hv).1,if_pos hk]
  simp
 | p::P,w::vs,i+1,m,nd,h1,h2,hk=>by
  show bindL kindOf ((p,w)::P.zip vs) m x=_
  unfold bindL
  exact tK (i:=i) (List.nodup_cons.mp nd).2 (by simpa using h1) (by simpa using h2) hk
theorem tI {kindOf:Str->Option NameKind} {x:Str} {v:Value}:∀{P:List Str} {vs:List Value} {i:Nat} {m:Str->Option Value},P.Nodup->P[i]? = some x->vs[i]? = some v->kindOf x≠some .local ->
  bindC kindOf (P.zip vs) m x=some v
 | [],_,_,_,_,h,_,_=>by simp at h
 | _::_,[],_,_,_,_,h,_=>by simp at h
 | p::P,w::vs,0,m,nd,h1,h2,hk=>by
  simp at h1 h2;subst h1;subst h2
  show bindC kindOf ((p,w)::P.zip vs) m p=_
  unfold bindC
  rw[tJ λv hv=>(List.nodup_cons.mp nd).1 (List.of_mem_zip hv).1,if_neg hk]
  simp
 | p::P,w::vs,i+1,m,nd,h1,h2,hk=>by
  show bindC kindOf ((p,w)::P.zip vs) m x=_
  unfold bindC
  exact tI (i:=i) (List.nodup_cons.mp nd).2 (by simpa using h1) (by simpa using h2) hk
noncomputable def kU (N:List Str) (vs:List V):St:=vs.map some++List.replicate (N.length-vs.length) none
noncomputable def cJ (CX:CXT) (P:Program) (w:World) (K:PySem.W.Frag) (mg:Str->Option Value) (base:Heap) (N:List Str) (qual:Str) (scope:Scope) (f:Addr) (cd:Value) (A:Around) (outer:List Env) (s:Shared) (H:Hp) (E:XK):Cx where
 prog:=P
 w:=w
 K:=K
 mg:=mg
 base:=base
 A:=A.deeper (envOfC qual scope s.heap.objs.size f cd)
 N:=N
 s₀:=s
 H₀:=H
 env:=envOfC qual scope s.heap.objs.size f cd
 outer:=outer
 stack:=envOfC qual scope s.heap.objs.size f cd::outer
 ex:=[]
 calm:=true
 fn:=λ_=>true
 pn:=[]
 xe:=λe s'=>wpAny (model P w) (A.deeper (envOfC qual scope s.heap.objs.size f cd)) (leaving (envOfC qual scope s.heap.objs.size f cd) e) (λ_ s''=>CX outer H s E e s'') (λe' s''=>CX outer H s E e' s'') s'
theorem wF {sc:Scope} {n:Nat} {x:Str} (h:sc.names.lookup x=some .cell):∃c,(cellsFrom n sc.names []).lookup x=some c:=by
 have q:=PySem.W.cellsFrom_some sc.names n [] (.inl h)
 exact Option.isSome_iff_exists.mp q
theorem CF {CX:CXT} {P:Program} {w:World} {K:PySem.W.Frag} {mg:Str->Option Value} {base:Heap} {N ps:List Str} {qual:Str} {scope:Scope} {f:Addr} {cd:Value} {A:Around} {outer:List Env} {s s1:Shared} {H:Hp} {E:XK} {us:List Value} {vs:List V}
  (S:FnScope N ps scope) (hd:A.handled=none) (e0:Env0 P w K mg base A outer s H) (hl:vs.length=ps.length) (r:Vals vs us)
  (x:InCallC s s.heap.objs.size (bindL (envOfC qual scope s.heap.objs.size f cd).kindOf (ps.zip us) λ_=>none) (cellsFrom (s.heap.objs.size+1) scope.names []) (bindC (envOfC qual scope s.heap.objs.size f cd).kindOf (ps.zip us) λ_=>none) s1) :
  Inv (cJ CX P w K mg base N qual scope f cd A outer s H E) [] (kU N vs) H s1:=by
 have hpl:ps.length<=N.length:=by have:=congrArg List.length S.pre;rw[List.length_take] at this;omega
 obtain⟨h1,tk,rfl,hk⟩:=x.done
 have noA:∀b:Addr,b ∉ (cJ CX P w K mg base N qual scope f cd A outer s H E).ex:=λb z=>absurd (show b∈([]:List Addr) from z) (by simp)
 refine⟨⟨e0.mod,S.kind,rfl,rfl,Nat.le_refl _,λy z c h1 h2=>?_,λy hy=>?_,λy c _ h=>?_,λ_=>hd,Around.frames_deeper e0.frames,.inr ⟨rfl,rfl⟩,λb z=>absurd z (noA b),e0.bs,e0.bsz,λb _ _=>noA b,λb z=>absurd z (noA b),e0.funs,e0.frf⟩,
  rfl,e0.bare,Un.kept hk,⟨_,x.toInCall.ns,λi y v h1 h2 h3=>?_⟩,λy c h=>⟨_,x.cell y c h⟩,e0.hok.fresh (Nat.le_refl _),λy c h=>?_,λp hp=>absurd (show p∈([]:List (Addr × Obj)) from hp) (by simp),e0.hok.kept hk,?_⟩
 ·exact name_of_addr x.apart (PySem.mem_of_lookup h1) (PySem.mem_of_lookup h2)
 ·have hy:scope.names.lookup y=some .cell\/scope.names.lookup y=some .free:=hy
  rcases hy with hy | hy
  ·exact wF hy
  ·exact absurd rfl (S.nofree _ (PySem.mem_of_lookup hy))
 ·exact Nat.le_of_lt (x.above y c (PySem.mem_of_lookup h))
 ·have hi:i<vs.length:=by
   unfold kU at h2
   by_cases hi:i<vs.length
   ·exact hi
   ·rw[List.getElem?_append_right (by simpa using hi)] at h2
    rw[List.getElem?_replicate] at h2
    split at h2 <;> cases h2
  have ha:vs[i]? = some v:=by
   unfold kU at h2
   rw[List.getElem?_append_left (by simpa using hi),List.getElem?_map] at h2
   cases e:vs[i]? with
   | none=>rw[e] at h2;cases h2
   | some a=>rw[e] at h2;cases h2;rfl
  obtain⟨u,hu,rv⟩:=r.get ha
  have hp:ps[i]? = some y:=by
   rw[<-S.pre,List.getElem?_take_of_lt (by omega)];exact h1
  have ndP:ps.Nodup:=by rw[<-S.pre];exact S.nd.sublist (List.take_sublist _ _)
  refine⟨u,rv,?_⟩
  rcases S.par y (List.mem_of_getElem? hp) with k | k
  ·exact .inl ⟨k,tK ndP hp hu k⟩
  ·obtain⟨c,e⟩:=wF (n:=s.heap.objs.size+1) k
   refine .inr ⟨.inl k,c,e,?_⟩
   have q:=x.cell y c e
   rw[tI ndP hp hu (by show scope.names.lookup y≠_;rw[k];decide)] at q
   exact q
 ·exact e0.hok.fresh (Nat.le_of_lt (x.above y c (PySem.mem_of_lookup h)))
 ·unfold kU
  show _=N.length
  rw[List.length_append,List.length_map,List.length_replicate]
  omega
theorem NI {CX:CXT} {P:Program} {w:World} {K:PySem.W.Frag} {mg:Str->Option Value} {base:Heap} {k:Nat} {f:Addr} {name qual:Str} {params:Arguments} {body:List Stmt} {scope:Scope} {dV kV doc pm cdv ct oc:Value} {an od:Option Addr}
  {osl:Array (Option Value)} {N ps:List Str} {sp:Sp} (lk:K.lookup f=some ⟨oc,od,.func (PySem.W.fnOf name qual params body scope dV kV doc pm an cdv ct),osl⟩) (hcd:PySem.W.codeIn K cdv qual=true) (S:FnScope N ps scope)
  (len:∀vs H Q E,sp vs H Q E->vs.length=ps.length)
  (hbody:∀(A:Around) (outer:List Env) (s:Shared) (H:Hp) (vs:List V) (Q:VK) (E:XK),Room k (A.deeper (envOfC qual scope s.heap.objs.size f cdv))->sp vs H Q E ->
   ∃t,PSs (cJ CX P w K mg base N qual scope f cdv A outer s H E) body t/\t { nx:=λ_ H'=>Q .non H',rt:=Q } (kU N vs) H) :
  FnOk P w K mg base CX (k+1) f (PySem.W.fnOf name qual params body scope dV kV doc pm an cdv ct) ps sp:=by
 refine⟨len,λA outer s H args us vs Q E hr e0 hb r hsp=>?_⟩
 have hl:=len _ _ _ _ hsp
 have KX:K.In s.heap:=e0.mod.kin.keeps λb o e=>(e0.bs b o e).1
 have lim:s.heap.NoLimit:=e0.mod.nolimit.keeps λb o e=>(e0.bs b o e).1
 have hkind:∀y∈ps.zip us,scope.names.lookup y.1=some .local\/(scope.names.lookup y.1=some .cell/\((cellsFrom (s.heap.objs.size+1) scope.names []).lookup y.1).isSome=true):=λ⟨n,v⟩ hy=>by
  rcases S.par n (List.of_mem_zip hy).1 with q | q
  ·exact .inl q
  ·exact .inr ⟨q,PySem.W.cellsFrom_some _ _ _ (.inl q)⟩
 refine codeAny_call_function hr.depth (KX _ _ lk) rfl S.co S.gen rfl (PySem.W.codeRec_of KX hcd) (hb _ _ _ _ ?_)
 refine wpAny_newFunctionEnv_cells S.kind hkind λenv he s1 x=>?_
 subst he
 refine⟨lim.keeps x.toInCall.keep,codeAny_func ?_⟩
 obtain⟨t,ht,hq⟩:=hbody A outer s H vs Q E (hr.deeper _) hsp
 have I:Inv (cJ CX P w K mg base N qual scope f cdv A outer s H E) [] (kU N vs) H s1:=CF S hr.hd e0 hl r x
 refine wpAny_mono (ht [] s1 (kU N vs) H _ I hq) (λfl s' hs=>?_) λe s' hs=>hs
 have fin:∀{σ':St} {H':Hp} {v:V} {u:Value},Inv (cJ CX P w K mg base N qual scope f cdv A outer s H E) [] σ' H' s'->RelV v u->Q v H'->CE outer P w H s Q u s' :=
  λ{σ' H' v u} J rv q=>⟨v,H',J.os,J.bare,J.base,J.hok,rv,q⟩
 cases fl with
 | ret u =>
  obtain⟨v,σ',H',J,rv,q⟩:=hs
  exact fin J rv q
 | next =>
  obtain⟨σ',H',J,q⟩:=hs
  exact fin (v:=V.non) (u:=Value.none) J rfl q
 | brk =>
  obtain⟨_,_,_,q⟩:=hs
  exact False.elim q
 | cont =>
  obtain⟨_,_,_,q⟩:=hs
  exact False.elim q
end L2
namespace L2
open PySem PySem.Spec PyProof.Rows
section
variable {X:Cx} {x:Str} {p pos:Pos} {e:Expr} {es:List Expr} {t:TA} {id T:String} {r:List V->Hp->VK->Prop}
noncomputable def tCB (r:List V->Hp->VK->Prop) (t:TA):TE:=λσ H Q=>t σ H λvs H1=>r vs H1 Q
theorem rR (hc:lK X (.builtin id) r) (hg:Gl X x) (hm:X.mg x=none) (hv:bootBuiltins x=some (.builtin id)) (ha:PA X (e::es) t) (hn:x≠"__name__":=by decide) (hdb:(x == ("__debug__":Str))=false:=by decide)
  (he:starEach (e::es) X.env=(false,eval e X.env)::starEach es X.env:=by rfl) (hpl:(backTo pos (starEach es X.env)).any (·.1)=false:=by rfl):PE X (.Call (.Name x p) (e::es) [] pos) (tCB r t):=by
 intro pins s σ H Q I h
 refine wpAny_Call_Name_kw (eC I hg hm hv ?_ hn hdb)
 exact PyProof.Rows.callWith_builtin1 (thn (ha pos pins s σ H _ I h) λus s1 ⟨vs,H1,I1,r1,q1⟩=>hc pins s1 σ H1 vs us Q I1 r1 q1) he hpl
theorem oK (hc:lK X (.type T) r) (hg:Gl X x) (hm:X.mg x=none) (hv:bootBuiltins x=some (.type T)) (ha:PA X (e::es) t) (hn:x≠"__name__":=by decide) (hdb:(x == ("__debug__":Str))=false:=by decide)
  (he:starEach (e::es) X.env=(false,eval e X.env)::starEach es X.env:=by rfl) (hpl:(backTo pos (starEach es X.env)).any (·.1)=false:=by rfl):PE X (.Call (.Name x p) (e::es) [] pos) (tCB r t):=by
 intro pins s σ H Q I h
 refine wpAny_Call_Name_kw (eC I hg hm hv ?_ hn hdb)
 exact PyProof.Rows.callWith_type1 (thn (ha pos pins s σ H _ I h) λus s1 ⟨vs,H1,I1,r1,q1⟩=>hc pins s1 σ H1 vs us Q I1 r1 q1) he hpl
end
end L2
namespace HT
open PySem PyProof.Rows
noncomputable def lexLt:List Int->List Int->Bool
 | [],[]=>false
 | [],_::_=>true
 | _::_,[]=>false
 | x::xs,y::ys=>if x=y then lexLt xs ys else decide (x<y)
section
open PySem.SeqAt
open PySem.AutoSeq1 (wpAny_loadPart')
open PySem.MeetsSeq PySem.MeetsSeq2 PySem.MeetsSeq3
end
section
variable {prog:Program} {w:World} {A:Around} {E:Value->Shared->Prop} {s:Shared}
theorem cat_tup {t b:Addr} {vs ws:List Value} {Q:Value->Shared->Prop} (ht:IsTup s.heap t vs.toArray) (hb:IsTup s.heap b ws.toArray) (hv:vs≠[])
  (h1:ws=[]->Q (.ref t) s) (h2:ws≠[]->Q (.ref s.heap.objs.size) { s with heap:=s.heap.push { cls:=.type "tuple",data:=.seq (vs++ws).toArray } })
  (hsz:vs.length+ws.length<=sizeLine):wpAny (model prog w) A (binaryOp .Add (.ref t) (.ref b)) Q E s:=by
 obtain⟨⟨cls,dd,data,sl⟩,ho,hc,n,hd⟩:=id ht
 obtain⟨⟨cls2,dd2,data2,sl2⟩,ho2,hc2,n2,hd2⟩:=id hb
 simp only at hc hd hc2 hd2
 subst hc hd hc2 hd2
 have e:vs.toArray++ws.toArray=(vs++ws).toArray:=by simp
 by_cases hw:ws=[]
 ·exact concat_meets ⟨_,ho,rfl⟩ ⟨_,ho2,rfl⟩ noFill_tuple_add seq_tuple_add PySem.F.slot_tuple_add PySem.F.entry_tuple_add (PySem.F.args_tuple_add_2 _ _)
   (tuple_addW1 t b vs.toArray ws.toArray n n2 dd dd2 sl sl2 (by simpa using hv) (by simp[hw])) ⟨ho,ho2,h1 hw⟩
 ·refine concat_meets ⟨_,ho,rfl⟩ ⟨_,ho2,rfl⟩ noFill_tuple_add seq_tuple_add PySem.F.slot_tuple_add PySem.F.entry_tuple_add (PySem.F.args_tuple_add_2 _ _)
   (tuple_addW2 t b vs.toArray ws.toArray n n2 dd dd2 sl sl2 (by simpa using hv) (by simpa using hw) (by rw[List.size_toArray,List.size_toArray];exact hsz)) ⟨ho,ho2,?_⟩
  rw[e]
  exact h2 hw
noncomputable def sIx (n d:Nat):Option Int->Nat
 | none=>d
 | some v=>if v<0 then (v+(n:Int)).toNat else min v.toNat n
theorem sIx_none (n d:Nat):sIx n d none=d:=rfl
theorem sIx_nat (n d k:Nat):sIx n d (some (k:Int))=min k n:=by
 show (if (k:Int)<0 then ((k:Int)+(n:Int)).toNat else min (k:Int).toNat n)=min k n
 rw[if_neg (by omega),Int.toNat_natCast]
theorem ML (n d:Nat) (hd:d<=n) (o:Option Int):sIx n d o<=n:=by
 cases o with
 | none=>exact hd
 | some v =>
  show (if v<0 then (v+(n:Int)).toNat else min v.toNat n)<=n
  by_cases hv:v<0
  ·rw[if_pos hv];omega
  ·rw[if_neg hv];exact Nat.min_le_right _ _
theorem AR (v:Int) (n d:Nat):(if v<0 then max (v+(n:Int)) 0 else min v (n:Int))=((sIx n d (some v):Nat):Int):=by
 show (if v<0 then max (v+(n:Int)) 0 else min v (n:Int))=(((if v<0 then (v+(n:Int)).toNat else min v.toNat n):Nat):Int)
 by_cases hv:v<0
 ·simp only[if_pos hv];omega
 ·simp only[if_neg hv];omega
theorem yP (lo hi:Option Int) (n:Nat):Builtin.Slice.sliceAdjust lo hi 1 (n:Int)=(((sIx n 0 lo:Nat):Int),((sIx n n hi:Nat):Int)):=by
 have h1:¬((1:Int)<0):=by omega
 unfold Builtin.Slice.sliceAdjust
 simp only[h1,if_false]
 refine Prod.ext ?_ ?_
 ·cases lo with
  | none=>rfl
  | some v=>exact AR v n 0
 ·cases hi with
  | none=>rfl
  | some v=>exact AR v n n
theorem zU (i j:Nat):Builtin.Slice.slicePlaces (i:Int) (j:Int) 1=j-i:=by
 unfold Builtin.Slice.slicePlaces
 have h1:(1:Int) > 0:=by omega
 simp only[h1,if_true,Int.ediv_one]
 split <;> omega
theorem sH {v:Value} {o:Option Int} {Q:Option Int->Shared->Prop} (p:IsPart v o) (h:Q o s):wpAny (model prog w) A (Builtin.Slice.slicePartIndex v) Q E s:=by
 cases p with
 | none=>exact slicePart_none h
 | int i t=>exact slicePart_int h
theorem oT {sl:Addr} {vl vu:Value} {lo hi:Option Int} {n:Nat} {Q:Int × Int × Nat->Shared->Prop} (hs:s.heap.IsSliceOf sl vl vu .none) (pl:IsPart vl lo) (pu:IsPart vu hi)
  (h:Q (((sIx n 0 lo:Nat):Int),1,sIx n n hi-sIx n 0 lo) s):wpAny (model prog w) A (Builtin.Slice.sliceApplied (.ref sl) (pure (n:Int))) Q E s:=by
 obtain⟨os,hos,hcs,hds⟩:=id hs
 unfold Builtin.Slice.sliceApplied Builtin.Slice.sliceFields
 refine wpAny_bind (wpAny_bind (wpAny_field hos hds (x:=vl) rfl (wpAny_bind (wpAny_field hos hds (x:=vu) rfl (wpAny_bind (wpAny_field hos hds (x:=.none) rfl (wpAny_pure ?_)))))))
 refine wpAny_bind (slicePart_none ?_)
 show wpAny _ _ (if ((1:Int) == 0)=true then _ else _) _ _ s
 rw[if_neg (by decide)]
 refine wpAny_bind (sH pl (wpAny_bind (sH pu (wpAny_bind (wpAny_pure ?_)))))
 show wpAny _ _ (match Builtin.Slice.sliceAdjust lo hi 1 (n:Int) with | (lo,hi)=>pure (lo,(1:Int),Builtin.Slice.slicePlaces lo hi 1)) _ _ s
 rw[yP lo hi n]
 show wpAny _ _ (pure (((sIx n 0 lo:Nat):Int),(1:Int),Builtin.Slice.slicePlaces ((sIx n 0 lo:Nat):Int) ((sIx n n hi:Nat):Int) 1)) _ _ s
 rw[zU]
 exact wpAny_pure h
theorem GH (xs:Array Value) (i k:Nat):((List.range k).filterMap λ(m:Nat)=>xs[((i:Int)+(m:Int)*1).toNat]?).toArray=((xs.toList.drop i).take k).toArray:=by
 have e:(λ(m:Nat)=>xs[((i:Int)+(m:Int)*1).toNat]?)=λm=>xs[i+m]?:=by
  funext m
  have:((i:Int)+(m:Int)*1).toNat=i+m:=by omega
  rw[this]
 rw[e]
 have:=pick_run xs i k
 rw[List.filterMap_map] at this
 have e2:((λx=>xs[x]?) ∘ λx=>i+x)=λm=>xs[i+m]?:=rfl
 rw[e2] at this
 rw[this]
theorem getItem_tuple_cut {t sl:Addr} {items:Array Value} {vl vu:Value} {lo hi:Option Int} {Q:Value->Shared->Prop} (ht:IsTup s.heap t items) (hs:s.heap.IsSliceOf sl vl vu .none) (pl:IsPart vl lo) (pu:IsPart vu hi)
  (hw:¬(sIx items.size 0 lo=0/\sIx items.size items.size hi=items.size))
  (h:Q (.ref s.heap.objs.size) { s with heap:=s.heap.push { cls:=.type "tuple",data:=.seq ((items.toList.drop (sIx items.size 0 lo)).take (sIx items.size items.size hi-sIx items.size 0 lo)).toArray } })
  (hsz:items.size<=sizeLine):wpAny (model prog w) A (getItem (.ref t) (.ref sl)) Q E s:=by
 have htake:sizeOk (.seq ((items.toList.drop (sIx items.size 0 lo)).take (sIx items.size items.size hi-sIx items.size 0 lo)).toArray):=by
  show ((items.toList.drop (sIx items.size 0 lo)).take (sIx items.size items.size hi-sIx items.size 0 lo)).toArray.size<=sizeLine
  rw[List.size_toArray,List.length_take,List.length_drop,Array.length_toList]
  omega
 have hj:sIx items.size items.size hi<=items.size:=ML _ _ (Nat.le_refl _) hi
 obtain⟨os,hos,hcs,hds⟩:=id hs
 have hTs:s.TypeIs (.ref sl) "slice":=⟨os,hos,hcs⟩
 unfold getItem
 try with_reducible refine wpAny_holding ?_
 first | refine wpAny_bind (wpAny_pure ?_) | skip
 refine wpAny_bind (wpAny_sequenceKey ht.typeIs (by decide) ?_)
 refine wpAny_bind (wpAny_callSpecial?_slot (name:=Str.ofString "__getitem__") ht.typeIs PyProof.Rows.slot_tuple_getitem
  (wpAny_call_entry PyProof.Rows.slot_tuple_getitem ht.typeIs entry_tuple_getitem ?_ (args_tuple_getitem _ _)))
 show wpAny _ _ (Builtin.Tuple.tupleItemsOf (.ref t) >>= _) _ _ s
 refine wpAny_bind (tupleItemsOf_ ht ?_)
 refine wpAny_bind (wpAny_typeOf hTs ?_)
 rw[if_pos (by decide)]
 refine wpAny_bind (oT hs pl pu ?_)
 have hno:¬((((sIx items.size 0 lo:Nat):Int) == 0 && (1:Int) == 1 && (sIx items.size items.size hi-sIx items.size 0 lo) == items.size)=true):=by
  intro q
  rw[Bool.and_eq_true,Bool.and_eq_true] at q
  have q1:((sIx items.size 0 lo:Nat):Int)=0:=eq_of_beq q.1.1
  have q2:sIx items.size items.size hi-sIx items.size 0 lo=items.size:=eq_of_beq q.2
  exact hw ⟨by omega,by omega⟩
 show wpAny _ _ (if (((sIx items.size 0 lo:Nat):Int) == 0 && (1:Int) == 1 && (sIx items.size items.size hi-sIx items.size 0 lo) == items.size)=true then _ else _) _ _ s
 rw[if_neg hno,GH]
 first
  | exact wpAny_bind (m:=Builtin.Tuple.tupleExact _) (wpAny_newObj_type (wpAny_pure ⟨_,rfl,wpAny_pure h⟩) htake)
  | exact wpAny_bind (m:=Builtin.Tuple.tupleExact _) (wpAny_newObj_type (wpAny_bind (wpAny_pure (wpAny_pure ⟨_,rfl,wpAny_pure h⟩))) htake)
  | exact wpAny_bind (wpAny_bind (m:=Builtin.Tuple.tupleExact _) (wpAny_newObj_type (wpAny_pure (wpAny_pure ⟨_,rfl,wpAny_pure h⟩)) htake))
  | exact wpAny_bind (wpAny_bind (m:=Builtin.Tuple.tupleExact _) (wpAny_newObj_type (wpAny_pure ⟨_,rfl,wpAny_pure h⟩) htake))
end
end HT
namespace L2
open PySem PySem.Spec PyProof.Rows
noncomputable abbrev TO:=St->Hp->(Option Int->Hp->Prop)->Prop
noncomputable def PO (X:Cx) (e:Option Expr) (t:TO):Prop :=
 ∀(pins:List (Addr × Obj)) (s:Shared) (σ:St) (H:Hp) (Q:Option Int->Hp->Prop),Inv X pins σ H s->t σ H Q ->
  wpAny (model X.prog X.w) X.A (evalPart e X.env) (λu s'=>∃o H',Inv X pins σ H' s'/\IsPart u o/\Q o H') X.xe s
noncomputable def JP:TO:=λ_ H Q=>Q none H
noncomputable def OS (t:TE):TO:=λσ H Q=>t σ H λx H1=>∃i,x = .int i/\Q (some i) H1
theorem zB {ns:List Int}:∀{us:List Value},Vals (ns.map V.int) us->IntsAre us ns:=by
 induction ns with
 | nil=>intro us r;rw[List.map_nil] at r;cases r;exact .nil
 | cons n ns ih =>
  intro us r
  rw[List.map_cons] at r
  cases r with
  | cons r1 r2 =>
   obtain⟨t,e⟩:=r1
   subst e
   exact .cons n t (ih r2)
section
variable {X:Cx} {e:Expr} {te:TE} {lo hi:Option Expr} {tl th:TO} {pos p2:Pos}
theorem BG:PO X none JP:=by
 intro pins s σ H Q I h
 rw[evalPart_none]
 exact wpAny_pure ⟨none,H,I,.none,h⟩
theorem vM (h:PE X e te):PO X (some e) (OS te):=by
 intro pins s σ H Q I hw
 rw[evalPart_some]
 refine thn (h pins s σ H _ I hw) λu s1 ⟨x,H1,I1,r1,q1⟩=>?_
 obtain⟨i,rfl,q⟩:=q1
 obtain⟨t,rfl⟩:=r1
 exact⟨some i,H1,I1,.int i t,q⟩
noncomputable def SlR (X:Cx) (r:V->Option Int->Option Int->Hp->VK->Prop):Prop :=
 ∀(pins:List (Addr × Obj)) (s:Shared) (σ:St) (H:Hp) (x:V) (v vl vu:Value) (lo hi:Option Int) (sl:Addr) (Q:VK),Inv X pins σ H s->RelV x v->s.heap.IsSliceOf sl vl vu .none->IsPart vl lo->IsPart vu hi->r x lo hi H Q ->
  ∃T id,typeLookup (.type T) "__getitem__" = pure (some (.builtin id))/\s.TypeIs v T/\wpAny (model X.prog X.w) X.A (getItem v (.ref sl)) (EP X pins σ Q) X.xe s
theorem SlR.or {r r':V->Option Int->Option Int->Hp->VK->Prop} (h:SlR X r) (h':SlR X r'):SlR X (λx lo hi H Q=>r x lo hi H Q\/r' x lo hi H Q):=by
 intro pins s σ H x v vl vu lo hi sl Q I rx hs pl pu q
 rcases q with q | q
 ·exact h pins s σ H x v vl vu lo hi sl Q I rx hs pl pu q
 ·exact h' pins s σ H x v vl vu lo hi sl Q I rx hs pl pu q
noncomputable def tSl (r:V->Option Int->Option Int->Hp->VK->Prop) (te:TE) (tl th:TO):TE:=λσ H Q=>te σ H λx H1=>tl σ H1 λl H2=>th σ H2 λu H3=>r x l u H3 Q
theorem GE {r:V->Option Int->Option Int->Hp->VK->Prop} (hr:SlR X r) (he:PE X e te) (hl:PO X lo tl) (hu:PO X hi th):PE X (.Subscript e (.Slice lo hi none p2) pos) (tSl r te tl th):=by
 intro pins s σ H Q I h
 refine Subscript_ (thn (he pins s σ H _ I h) λv s1 ⟨x,H1,I1,r1,q1⟩=>?_)
 refine wpAny_Slice (thn (hl pins s1 σ H1 _ I1 q1) λvl s2 ⟨l,H2,I2,pl,q2⟩=>thn (hu pins s2 σ H2 _ I2 q2) λvu s3 ⟨u,H3,I3,pu,q3⟩=>?_)
 rw[evalPart_none]
 refine wpAny_pure ?_
 have I4:Inv X pins σ H3 { s3 with heap:=s3.heap.push { cls:=.type "slice",data:=.fields #[vl,vu,.none] } }:=I3.kept (t':=s3.toks) λb ob q=>Heap.get?_push_of_some _ q
 obtain⟨T,id,hT,ht,hg⟩:=hr pins { s3 with heap:=s3.heap.push { cls:=.type "slice",data:=.fields #[vl,vu,.none] } } σ H3 x v vl vu l u s3.heap.objs.size Q I4 r1 (Heap.IsSliceOf.new ..) pl pu q3
 show wpAny (model X.prog X.w) X.A (subscriptTail e (.Slice lo hi none p2) v (.ref s3.heap.objs.size)) (EP X pins σ Q) X.xe { s3 with heap:=s3.heap.push { cls:=.type "slice",data:=.fields #[vl,vu,.none] } }
 exact tail_any (ops:=[.ref s3.heap.objs.size,v]) ht hT hg (by with_unfolding_all rfl)
noncomputable def wL (xs:List V) (lo hi:Option Int):List V:=(xs.drop (HT.sIx xs.length 0 lo)).take (HT.sIx xs.length xs.length hi-HT.sIx xs.length 0 lo)
theorem oZ (xs:List V) (lo hi:Option Int):(wL xs lo hi).length<=xs.length:=by
 unfold wL
 rw[List.length_take,List.length_drop]
 omega
noncomputable def PK (K:PySem.W.Frag):V->Option Int->Option Int->Hp->VK->Prop:=λx lo hi H Q=>∃a xs,x = .ref a/\SqT K H a xs /\
 ¬(HT.sIx xs.length 0 lo=0/\HT.sIx xs.length xs.length hi=xs.length)/\∀p,H p=none->Q (.ref p) (upd H p (.tup (wL xs lo hi)))
theorem MP:SlR X (PK X.K):=by
 intro pins s σ H x v vl vu lo hi sl Q I rx hs pl pu h
 obtain⟨a,xs,rfl,hx,hw,q⟩:=h
 cases rx
 obtain⟨its,r,ht,hz⟩:=I.tuple hx
 have hlen:its.toArray.size=xs.length:=by rw[List.size_toArray];exact r.length.symm
 refine⟨"tuple",_,PyProof.Rows.slot_tuple_getitem.lookup,ht.typeIs,?_⟩
 refine HT.getItem_tuple_cut ht hs pl pu (by rw[hlen];exact hw) ?_ (by rw[hlen];exact hz)
 rw[hlen]
 refine⟨.ref s.heap.objs.size,_,I.laid (t':=s.toks) (o:=.tup (wL xs lo hi)) (λb ob q=>Heap.get?_push_of_some _ q) (Nat.le_refl _) ?_,rfl,q _ (I.hok.fresh (Nat.le_refl _))⟩
 exact⟨Nat.le_trans (oZ xs lo hi) hz,_,(r.drop (HT.sIx xs.length 0 lo)).take (HT.sIx xs.length xs.length hi-HT.sIx xs.length 0 lo),IsTup.new _ _⟩
noncomputable def OF (K:PySem.W.Frag):R2:=λx y H Q=>∃a b xs ys,x = .ref a/\y = .ref b/\SqT K H a xs/\SqT K H b ys/\xs≠[]/\xs.length+ys.length<=sizeLine /\
 (ys=[]->Q (.ref a) H)/\(ys≠[]->∀p,H p=none->Q (.ref p) (upd H p (.tup (xs++ys))))
theorem Vals.nil_iff {xs:List V} {us:List Value} (r:Vals xs us):us=[]↔xs=[]:=by
 cases r with
 | nil=>simp
 | cons _ _=>simp
theorem IY:OpR X (binaryOp .Add) (OF X.K):=by
 intro pins s σ H x y v u Q I rx ry h
 obtain⟨a,b,xs,ys,rfl,rfl,ha,hb,hx,hz,q1,q2⟩:=h
 cases rx
 cases ry
 obtain⟨its,r1,p1,_⟩:=I.tuple ha
 obtain⟨its2,r2,p2,_⟩:=I.tuple hb
 refine HT.cat_tup p1 p2 (λz=>hx (r1.nil_iff.mp z)) (λz=>⟨.ref a,H,I,rfl,q1 (r2.nil_iff.mp z)⟩) (λz=>?_) (by rw[<-r1.length,<-r2.length];exact hz)
 refine⟨.ref s.heap.objs.size,_,I.laid (t':=s.toks) (o:=.tup (xs++ys)) (λb ob q=>Heap.get?_push_of_some _ q) (Nat.le_refl _) ?_,rfl,q2 (λw=>z (r2.nil_iff.mpr w)) _ (I.hok.fresh (Nat.le_refl _))⟩
 exact⟨by rw[List.length_append];exact hz,_,r1.append r2,IsTup.new _ _⟩
end
end L2
namespace L2
open PySem PySem.Spec PyProof.Rows
noncomputable def ixN (n:Nat) (i:Int):Option Nat:=if 0<=i then (if i<n then some i.toNat else none) else if -(n:Int)<=i then some (i+n).toNat else none
noncomputable def atI {α:Type} (xs:List α) (i:Int):Option α:=(ixN xs.length i).bind λj=>xs[j]?
theorem IH {n:Nat} {i:Int} {j:Nat} (h:ixN n i=some j):seqIndex? i n=some j/\j<n/\-(n:Int)<=i/\i<n:=by
 unfold ixN at h
 by_cases h0:0<=i
 ·rw[if_pos h0] at h
  by_cases h1:i<n
  ·rw[if_pos h1] at h
   have e:i.toNat=j:=Option.some.inj h
   exact⟨by rw[seqIndex_of h0 h1,e],by omega,by omega,h1⟩
  ·rw[if_neg h1] at h;cases h
 ·rw[if_neg h0] at h
  by_cases h1:-(n:Int)<=i
  ·rw[if_pos h1] at h
   have e:(i+n).toNat=j:=Option.some.inj h
   exact⟨by rw[seqIndex_neg (by omega) h1,e],by omega,h1,by omega⟩
  ·rw[if_neg h1] at h;cases h
theorem AQ {α:Type} {xs:List α} {i:Int} {v:α} (h:atI xs i=some v):∃j,seqIndex? i xs.length=some j/\xs[j]? = some v/\j<xs.length/\-(xs.length:Int)<=i/\i<xs.length:=by
 unfold atI at h
 cases e:ixN xs.length i with
 | none=>rw[e] at h;cases h
 | some j =>
  rw[e] at h
  obtain⟨h1,h2,h3,h4⟩:=IH e
  exact⟨j,h1,h,h2,h3,h4⟩
theorem lB {α:Type} {xs:List α} {j:Nat} {v:α} (h:xs[j]? = some v):atI xs (j:Int)=some v:=by
 have hj:j<xs.length:=(List.getElem?_eq_some_iff.mp h).1
 have e:ixN xs.length (j:Int)=some j:=by
  unfold ixN
  rw[if_pos (by omega),if_pos (by omega)];simp
 unfold atI;rw[e];exact h
noncomputable def AM (b:Expr):Prop:=∀o i,subscripted b false o i=operate [o,i] (getItem o i)
noncomputable def IxR (X:Cx) (r:R2):Prop :=
 ∀(value slice:Expr) (pins:List (Addr × Obj)) (s:Shared) (σ:St) (H:Hp) (x y:V) (v u:Value) (Q:VK),Inv X pins σ H s->RelV x v->RelV y u->r x y H Q ->
  subscripted slice false v u=operate [v,u] (getItem v u)->wpAny (model X.prog X.w) X.A (subscriptTail value slice v u) (EP X pins σ Q) X.xe s
noncomputable def MtR (X:Cx) (id:String) (r:V->List V->Hp->VK->Prop):Prop :=
 ∀(pins:List (Addr × Obj)) (s:Shared) (σ:St) (H:Hp) (x:V) (xs:List V) (v:Value) (us:List Value) (Q:VK),Inv X pins σ H s->RelV x v->Vals xs us->r x xs H Q ->
  wpAny (model X.prog X.w) X.A (call (.builtin id) (v::us)) (EP X pins σ Q) X.xe s
section
variable {X:Cx} {a b:Expr} {ta tb:TE} {pos:Pos}
theorem IxR.or {r r':R2} (h:IxR X r) (h':IxR X r'):IxR X (λx y H Q=>r x y H Q\/r' x y H Q):=by
 intro value slice pins s σ H x y v u Q I rx ry q hs
 rcases q with q | q
 ·exact h value slice pins s σ H x y v u Q I rx ry q hs
 ·exact h' value slice pins s σ H x y v u Q I rx ry q hs
theorem OA {r:R2} (hr:IxR X r) (ha:PE X a ta) (hb:PE X b tb) (hs:AM b):PE X (.Subscript a b pos) (tOp r ta tb):=by
 intro pins s σ H Q I h
 exact Subscript_ (KQ ha hb I h λv u s2 x y H2 I2 rx ry q=>hr a b pins s2 σ H2 x y v u Q I2 rx ry q (hs _ _))
noncomputable def PF (K:PySem.W.Frag):R2:=λx y H Q=>∃p xs i v,x = .ref p/\y = .int i/\SqL K H p xs/\atI xs i=some v/\Q v H
noncomputable def PH (K:PySem.W.Frag):R2:=λx y H Q=>∃p xs i v,x = .ref p/\y = .int i/\SqT K H p xs/\atI xs i=some v/\Q v H
theorem II:IxR X (PF X.K):=by
 intro value slice pins s σ H x y v u Q I rx ry h hs
 obtain⟨p,xs,i,z,rfl,rfl,hq,he,q⟩:=h
 cases rx
 obtain⟨t,rfl⟩:=ry
 obtain⟨its,r,pl,hz⟩:=I.list hq
 obtain⟨j,h1,h2,h3,h4,h5⟩:=AQ he
 obtain⟨w,ew,rw'⟩:=r.get h2
 have hl:=r.length
 have hn:=zK
 have fin:EP X pins σ Q w s:=⟨z,H,I,rw',q⟩
 by_cases h0:0<=i
 ·have hj:i.toNat=j:=by
   rw[seqIndex_of h0 h5] at h1
   exact Option.some.inj h1
  exact item_listR pl.isList h0 (by omega) (by rw[hj];simpa using ew) fin hs
 ·have hj:(i+(its.toArray.size:Int)).toNat=j:=by
   rw[seqIndex_neg (by omega) h4] at h1
   rw[List.size_toArray,<-hl]
   exact Option.some.inj h1
  exact subscriptTail_builtinR (x:=w) pl.isList.typeIs slot_list_getitem.lookup
   (wpAny_getItem_list_neg (Q:=λr s'=>r=w/\EP X pins σ Q r s') pl.isList (by omega) (by rw[List.size_toArray] <;> omega) (by omega) (by rw[hj];simpa using ew) ⟨rfl,fin⟩) hs
theorem LM:IxR X (PH X.K):=by
 intro value slice pins s σ H x y v u Q I rx ry h hs
 obtain⟨p,xs,i,z,rfl,rfl,hq,he,q⟩:=h
 cases rx
 obtain⟨t,rfl⟩:=ry
 obtain⟨its,r,pl,hz⟩:=I.tuple hq
 obtain⟨j,h1,h2,h3,h4,h5⟩:=AQ he
 obtain⟨w,ew,rw'⟩:=r.get h2
 have hl:=r.length
 have hn:=zK
 have fin:EP X pins σ Q w s:=⟨z,H,I,rw',q⟩
 exact subscriptTail_builtinR (x:=w) pl.typeIs slot_tuple_getitem.lookup
  (getItem_tuple (j:=j) (Q:=λr s'=>r=w/\EP X pins σ Q r s') pl (by omega) (by omega) (by rw[List.size_toArray,<-hl];exact h1) (by simpa using ew) ⟨rfl,fin⟩) hs
theorem vT (lo hi:Option Int) (n:Nat):(sliceBounds lo hi none n).1=((HT.sIx n 0 lo:Nat):Int)/\(sliceBounds lo hi none n).2.1=((HT.sIx n n hi:Nat):Int)/\(sliceBounds lo hi none n).2.2=1:=by
 refine⟨?_,?_,rfl⟩
 ·cases lo with
  | none=>simp[sliceBounds,HT.sIx]
  | some i =>
   simp only[sliceBounds,HT.sIx,Option.getD_none,show (1:Int) > 0 by decide,if_true]
   by_cases h:i<0
   ·simp only[h,if_true] <;> omega
   ·simp only[h,if_false] <;> omega
 ·cases hi with
  | none=>simp[sliceBounds,HT.sIx]
  | some i =>
   simp only[sliceBounds,HT.sIx,Option.getD_none,show (1:Int) > 0 by decide,if_true]
   by_cases h:i<0
   ·simp only[h,if_true] <;> omega
   ·simp only[h,if_false] <;> omega
theorem tG (its:List Value) (lo hi:Option Int):slicePick its.toArray lo hi none=((its.drop (HT.sIx its.length 0 lo)).take (HT.sIx its.length its.length hi-HT.sIx its.length 0 lo)).toArray:=by
 obtain⟨h1,h2,h3⟩:=vT lo hi its.toArray.size
 unfold slicePick
 rw[h1,h2,h3]
 simp only[sliceRange_one,pick_run,List.size_toArray] <;> rfl
noncomputable def PJ (K:PySem.W.Frag):V->Option Int->Option Int->Hp->VK->Prop:=λx lo hi H Q=>∃a xs,x = .ref a/\SqL K H a xs/\∀p,H p=none->Q (.ref p) (upd H p (.lst (wL xs lo hi)))
theorem JM:SlR X (PJ X.K):=by
 intro pins s σ H x v vl vu lo hi sl Q I rx hs pl pu h
 obtain⟨a,xs,rfl,hx,q⟩:=h
 cases rx
 obtain⟨its,r,ht,hz⟩:=I.list hx
 have hlen:=r.length
 refine⟨"list",_,slot_list_getitem.lookup,ht.isList.typeIs,?_⟩
 refine wpAny_getItem_list_slice ht.isList hs pl pu .none (by simp) ?_ (by rw[List.size_toArray] <;> omega)
 rw[tG,<-hlen]
 refine⟨.ref s.heap.objs.size,_,I.laid (t':=s.toks) (o:=.lst (wL xs lo hi)) (λb ob q=>Heap.get?_push_of_some _ q) (Nat.le_refl _) ?_,rfl,q _ (I.hok.fresh (Nat.le_refl _))⟩
 exact⟨Nat.le_trans (oZ xs lo hi) hz,_,0,(r.drop (HT.sIx xs.length 0 lo)).take (HT.sIx xs.length xs.length hi-HT.sIx xs.length 0 lo),Heap.get?_push_size _ rfl⟩
theorem uS:lK X (.builtin "len") (λxs H Q=>∃p ys,xs=[.ref p]/\(SqL X.K H p ys\/SqT X.K H p ys)/\Q (.int ys.length) H):=by
 intro pins s σ H xs us Q I r h
 obtain⟨p,ys,rfl,hq,q⟩:=h
 obtain⟨u,rfl,rx⟩:=kW r
 cases rx
 have hn:=zK
 rcases hq with hq | hq
 ·obtain⟨its,r',pl,hz⟩:=I.list hq
  have hlen:=r'.length
  exact Calls.call_len_list pl.isList (by simp only[List.size_toArray] <;> omega) ⟨.int ys.length,H,I.tok _,⟨s.toks+1,by rw[List.size_toArray,hlen]⟩,q⟩
 ·obtain⟨its,r',pl,hz⟩:=I.tuple hq
  have hlen:=r'.length
  exact len_tuple pl (by simp only[List.size_toArray] <;> omega) ⟨.int ys.length,H,I.tok _,⟨s.toks+1,by rw[List.size_toArray,hlen]⟩,q⟩
theorem uT:lK X (.type "list") (λxs H Q=>∃p ys,xs=[.ref p]/\(SqL X.K H p ys\/SqT X.K H p ys)/\∀l,H l=none->Q (.ref l) (upd H l (.lst ys))):=by
 intro pins s σ H xs us Q I r h
 obtain⟨p,ys,rfl,hq,q⟩:=h
 obtain⟨u,rfl,rx⟩:=kW r
 cases rx
 have fin:∀(its:List Value),Vals ys its->ys.length<=sizeLine->∀(h':Heap) (c':Nat),(∀b o',s.heap.get? b=some o'->h'.get? b=some o') ->
   h'.get? s.heap.objs.size=some { cls:=.type "list",dict:=none,data:=.seq its.toArray c',slots:=#[] }->EP X pins σ Q (.ref s.heap.objs.size) { s with heap:=h' }:=λits r' hz h' c' kp e =>
  ⟨.ref s.heap.objs.size,_,I.laid (t':=s.toks) kp (Nat.le_refl _) (show ObjOk X.prog X.w _ h' _ (.lst ys) from ⟨hz,its,c',r',e⟩),rfl,q _ (I.hok.fresh (Nat.le_refl _))⟩
 rcases hq with hq | hq
 ·obtain⟨its,r',pl,hz⟩:=I.list hq
  have hlen:=r'.length
  obtain⟨o,ho,hc,n,hd⟩:=pl.isList
  exact call_list_seq p (.inl rfl) ho hc hd (λh' c' kp e=>fin its r' hz h' c' kp e) (by simp only[List.size_toArray] <;> omega)
 ·obtain⟨its,r',pl,hz⟩:=I.tuple hq
  have hlen:=r'.length
  obtain⟨o,ho,hc,n,hd⟩:=pl
  exact call_list_seq p (.inr rfl) ho hc hd (λh' c' kp e=>fin its r' hz h' c' kp e) (by simp only[List.size_toArray] <;> omega)
theorem sR:lK X (.type "tuple") (λxs H Q=>∃p ys,xs=[.ref p]/\((SqL X.K H p ys/\∀l,H l=none->Q (.ref l) (upd H l (.tup ys)))\/(SqT X.K H p ys/\Q (.ref p) H))):=by
 intro pins s σ H xs us Q I r h
 obtain⟨p,ys,rfl,h⟩:=h
 obtain⟨u,rfl,rx⟩:=kW r
 cases rx
 rcases h with ⟨hq,q⟩ | ⟨hq,q⟩
 ·obtain⟨its,r',pl,hz⟩:=I.list hq
  have hlen:=r'.length
  refine call_tuple_list pl.isList (λh' kp=>?_) (by simp only[List.size_toArray] <;> omega)
  have I1:Inv X pins σ H { s with heap:=h' }:=I.kept (t':=s.toks) kp
  have I2:Inv X pins σ (upd H h'.objs.size (.tup ys)) { s with heap:=h'.push { cls:=.type "tuple",data:=.seq its.toArray } } :=
   I1.laid (t':=s.toks) (λb o e=>Heap.get?_push_of_some _ e) (Nat.le_refl _) (show ObjOk X.prog X.w _ _ _ (.tup ys) from ⟨hz,its,r',IsTup.new _ _⟩)
  exact⟨.ref h'.objs.size,_,I2,rfl,q _ (I1.hok.fresh (Nat.le_refl _))⟩
 ·obtain⟨its,r',pl,hz⟩:=I.tuple hq
  exact call_tuple_same pl ⟨.ref p,H,I,rfl,q⟩
noncomputable def tyV (K:PySem.W.Frag) (T:String) (x:V) (H:Hp):Prop:=match x with
 | .str _=>T = "str"
 | .int _=>T = "int"
 | .ref p=>(T = "list"/\∃xs,SqL K H p xs)\/(T = "tuple"/\∃o,K.lookup p=some o/\o.cls = .type "tuple"/\o.dict=none) \/
   (T = "dict"/\((∃kvs,H p=some (.dK kvs))\/∃kvs,H p=some (.dT kvs)))\/(T = "set"/\∃S n,H p=some (.set S n))
 | _=>False
theorem MV {pins:List (Addr × Obj)} {σ:St} {H:Hp} {s:Shared} {T:String} {x:V} {v:Value} (I:Inv X pins σ H s) (r:RelV x v) (ty:tyV X.K T x H) :
  s.TypeIs v T/\∀a,v = .ref a->∃ob,s.heap.get? a=some ob/\ob.dict=none:=by
 cases x with
 | str z =>
  obtain⟨t,rfl⟩:=r
  cases (show T = "str" from ty)
  exact⟨typeIs_str s z t,λ_ e=>nomatch e⟩
 | int i =>
  obtain⟨t,rfl⟩:=r
  cases (show T = "int" from ty)
  exact⟨typeIs_int s i t,λ_ e=>nomatch e⟩
 | ref p =>
  cases r
  rcases ty with ⟨rfl,xs,hq⟩ | ⟨rfl,o,hk,hc,hd⟩ | ⟨rfl,hk⟩ | ⟨rfl,S,n,hk⟩
  ·obtain⟨its,_,pl,_⟩:=I.list hq
   refine⟨pl.isList.typeIs,λa e=>?_⟩
   cases e
   obtain⟨o,n,e,c,hd,_⟩:=pl
   exact⟨o,e,hd⟩
  ·refine⟨⟨o,I.kIn p o hk,hc⟩,λa e=>?_⟩
   cases e
   exact⟨o,I.kIn _ o hk,hd⟩
  ·have z:∃o,s.heap.get? p=some o/\o.ExactDict:=by
    rcases hk with ⟨kvs,hk⟩ | ⟨kvs,hk⟩
    ·obtain⟨_,_,_,_,o,_,_,e,ex,_⟩:=I.hok p _ hk
     exact⟨o,e,ex⟩
    ·obtain⟨_,_,_,_,o,_,_,e,ex,_⟩:=I.hok p _ hk
     exact⟨o,e,ex⟩
   obtain⟨o,e,ex⟩:=z
   refine⟨⟨o,e,ex.1⟩,λa e2=>?_⟩
   cases e2
   exact⟨o,e,ex.2.1⟩
  ·obtain⟨o,_,_,_,e,ex,_⟩:=I.hok p _ hk
   refine⟨⟨o,e,ex.1⟩,λa e2=>?_⟩
   cases e2
   exact⟨o,e,ex.2.1⟩
 | _=>exact False.elim ty
noncomputable def tBM (K:PySem.W.Frag) (T:String) (r:V->List V->Hp->VK->Prop) (to:TE) (t:TA):TE:=λσ H Q=>to σ H λx H1=>tyV K T x H1/\t σ H1 λxs H2=>r x xs H2 Q
variable {o e:Expr} {es:List Expr} {to:TE} {t:TA} {name:Str} {apos cpos:Pos} {T id:String} {r:V->List V->Hp->VK->Prop}
theorem BE (pa:PlainAttrs T) (slot:Slot T name id) (hty:typeOf (.builtin id)=pure (.type "method_descriptor")) (hm:MtR X id r) (ho:PE X o to) (ha:PA X (e::es) t)
  (hbase:attributeBase o name X.env (eval o X.env)=eval o X.env:=by rfl)
  (hfew:((backTo cpos (starEach (e::es) X.env)).all (λx=>!x.1) && (backToKw cpos (keywordEach [] X.env)).all (λx=>x.1.isSome)
   && decide ((e::es).length+([]:List Keyword).length+(if ([]:List Keyword).isEmpty then 0 else 1)<30))=true:=by rfl)
  (hline:(apos.endLine == cpos.line)=true:=by rfl) (hs:starEach (e::es) X.env=(false,eval e X.env)::starEach es X.env:=by rfl) (hplain:(backTo cpos (starEach es X.env)).any (·.1)=false:=by rfl) :
  PE X (.Call (.Attribute o name apos) (e::es) [] cpos) (tBM X.K T r to t):=by
 intro pins s σ H Q I h
 refine wpAny_Call_method_late hbase hfew hline rfl (thn (ho pins s σ H _ I h) λv s1 ⟨x,H1,I1,r1,ty,q1⟩=>?_)
 obtain⟨h1,h2⟩:=MV I1 r1 ty
 refine⟨T,id,pa,slot,hty,h1,h2,?_⟩
 have hA:=ha cpos pins s1 σ H1 _ I1 q1
 rw[hs] at hA ⊢
 refine Calls.callWith_builtin (by show (false || (backTo cpos (starEach es X.env)).any (·.1))=false;rw[hplain] <;> rfl) (Calls.evalArgs_plain ?_)
 exact thn hA λus s2 ⟨vs,H2,I2,r2,q2⟩=>hm pins s2 σ H2 x vs v us Q I2 r1 r2 q2
end
end L2
namespace L2
open PySem PySem.Spec PyProof.Rows
noncomputable def MtM (X:Cx) (id:String) (r:V->List V->Hp->VK->Prop):Prop :=
 ∀(pins:List (Addr × Obj)) (s:Shared) (σ:St) (H:Hp) (x:V) (xs:List V) (v:Value) (us:List Value) (Q:VK),Inv X pins σ H s->RelV x v->Vals xs us->r x xs H Q ->
  wpAny (model X.prog X.w) X.A (call (.builtin id) (v::us)) (EP X pins σ Q) X.xe s
theorem Vals.one:∀{x:V} {us:List Value},Vals [x] us->∃u,us=[u]/\RelV x u
 | _,_,.cons r .nil=>⟨_,rfl,r⟩
theorem Vals.two:∀{x y:V} {us:List Value},Vals [x,y] us->∃u v,us=[u,v]/\RelV x u/\RelV y v
 | _,_,_,.cons r (.cons q .nil)=>⟨_,_,rfl,r,q⟩
section
variable {X:Cx} {pins:List (Addr × Obj)} {σ:St} {H:Hp} {s:Shared} {l b:Addr} {xs ys zs:List V}
theorem Inv.lset {its its':List Value} {n:Nat} {f:Array Value->Array Value} {t':Nat} (I:Inv X pins σ H s) (hH:H l=some (.lst xs))
  (e:s.heap.get? l=some { cls:=.type "list",data:=.seq its.toArray n }) (hf:f its.toArray=its'.toArray) (hv:Vals ys its') (hz:ys.length<=sizeLine) :
  Inv X pins σ (upd H l (.lst ys)) { s with heap:=s.heap.update l (Obj.mapSeq f),toks:=t' }:=by
 have q:=PySem.IsL.update e f
 rw[hf] at q
 refine I.write (x:=l) (e:=l) (by rw[hH];exact trivial) (.inl rfl) (λb' u hb hu=>(Heap.get?_update_other s.heap (Obj.mapSeq f) (Ne.symm hb)).trans hu) ⟨_,q⟩ ?_
 exact⟨hz,its',_,hv,q⟩
theorem Inv.lnew {its:List Value} {t':Nat} (I:Inv X pins σ H s) (hv:Vals ys its) (hz:ys.length<=sizeLine) :
  Inv X pins σ (upd H s.heap.objs.size (.lst ys)) { s with heap:=s.heap.push { cls:=.type "list",data:=.seq its.toArray },toks:=t' } :=
 I.laid (λ_ _ q=>Heap.get?_push_of_some _ q) (Nat.le_refl _) ⟨hz,its,0,hv,Heap.get?_push_size _ rfl⟩
theorem Inv.fresh (I:Inv X pins σ H s):H s.heap.objs.size=none:=I.hok.fresh (Nat.le_refl _)
theorem Inv.lstM (I:Inv X pins σ H s) (hH:H l=some (.lst xs)):xs.length<=sizeLine/\∃(its:List Value) (n:Nat),Vals xs its/\xs.length=its.length/\s.heap.get? l=some { cls:=.type "list",data:=.seq its.toArray n }:=by
 obtain⟨z,its,n,r,e⟩:=I.hok l _ hH
 exact⟨z,its,n,r,r.length,e⟩
theorem FW {n:Nat} (h:n<=sizeLine):Builtin.List.listTooLong n=false:=by
 unfold Builtin.List.listTooLong
 exact decide_eq_false (by omega)
end
section
variable {X:Cx}
noncomputable def BJ:V->List V->Hp->VK->Prop:=λx vs H Q=>∃l xs y,x = .ref l/\vs=[y]/\H l=some (.lst xs)/\xs.length<sizeLine/\Q .non (upd H l (.lst (xs++[y])))
theorem tX:MtM X "list.append" BJ:=by
 intro pins s σ H x vs v us Q I rx rv h
 obtain⟨l,xs,y,rfl,rfl,hH,hz,q⟩:=h
 cases rx
 obtain⟨u,rfl,ru⟩:=rv.one
 obtain⟨z,its,n,r,hl,e⟩:=I.lstM hH
 refine call_meets F.slot_list_append ⟨_,e,rfl⟩ F.entry_list_append (F.args_list_append_2 _ _) (PySem.list_append l its.toArray n u (by rw[List.size_toArray];omega)) ⟨e,?_⟩
 refine⟨.non,_,I.lset (its':=its++[u]) hH e (by simp) (r.append (.cons ru .nil)) ?_,rfl,q⟩
 rw[List.length_append,List.length_singleton]
 omega
end
section
variable {prog:Program} {w:World} {A:Around} {E:Value->Shared->Prop} {s:Shared}
end
section
variable {X:Cx}
end
end L2
namespace Att
open PySem PySem.W PySem.Calls PyProof.Rows
theorem pS {P:Params} {h:Heap}:∀(ns:List Int) (vs:List Value),WellAll P h vs (ns.map WData.int)->IntsAre vs ns:=by
 intro ns
 induction ns with
 | nil =>
  intro vs w
  rw[List.map_nil] at w
  cases w
  exact .nil
 | cons n ns ih =>
  intro vs w
  rw[List.map_cons] at w
  cases w with
  | cons a b =>
   cases a
   exact .cons _ _ (ih _ b)
theorem DQ {l:OpenLaw} {n:Nat} (hn:l.most=some n) {P:Params} {h:Heap} {args:List WData} {vals:List Value}
  (hpre:l.row.toRowW.claim.pre args=true) (hwl:WellAll P h vals args) :
  ∃a vs ns,vals=[Value.ref a]/\args=[WData.list (ns.map WData.int)]/\h.get? a=some { cls:=.type "list",data:=.seq vs.toArray }/\IntsAre vs ns/\ns.length<=n:=by
 have hsh:WShape.hasAll [] args [.list .int]=true:=(pre_splitW hpre).1
 have hc:l.pre.holds [] { args:=args } = true:=(pre_splitW hpre).2
 obtain⟨d,r,rfl,h1,h2⟩:=hasAllW_cons hsh
 obtain rfl:=hasAllW_nil h2
 obtain⟨xs,rfl,h3⟩:=hasW_list h1
 obtain⟨ns,rfl⟩:=items_int h3
 have hlen:ns.length<=n:=by
  unfold OpenLaw.pre at hc
  have h4:(WTm.not (.lt (.lit (.int (n:Int))) (.len (.arg 0)))).holds [] { args:=[.list (ns.map .int)] } = true:=by
   have h4:=(holds_andW hc).1
   rw[hn] at h4
   exact h4
  have h5:=condW_of h4 (w_not (w_lt w_lit (w_len_list (w_arg rfl))))
  rw[List.length_map] at h5
  refine Nat.le_of_not_lt λq=>?_
  have q':(n:Int)<((ns.length:Nat):Int):=by omega
  first
   | (rw[decide_eq_true q'] at h5;exact absurd h5 (by decide))
   | (simp at h5;omega)
 cases hwl with
 | cons w1 w2 =>
  cases w2
  cases w1 with
  | list ho hall=>exact⟨_,_,ns,rfl,rfl,ho,pS ns _ hall,hlen⟩
theorem CY (l:OpenLaw) (args:List WData):l.row.toRowW.claim.post args (.bool true) args=true :=
 postW_of (r:=l.row.toRowW) (X:=(true == true))
  (show WShape.has [] (.bool true) .bool=true by first | rfl | decide | simp[WShape.has,WShape.arms,WShape.armsAll])
  (show (WTm.eq .res (.lit (.bool true))).value [] { args:=args,res:=some (.bool true),after:=args } = some (.bool (true == true)) from w_eq_bool (w_res rfl) w_lit) rfl
theorem attach_call {l:OpenLaw} {n:Nat} {q:Program} {loose:List Str} {XP:(Str->Option Value)->Heap->Prop} {YP:World->Heap->Prop} {d:DefRec}
  (hn:l.most=some n) (hdf:d.params.defaults=[])
  (call:∀(w:World) (s₀ s₁:Shared) (mg mb:Str->Option Value) (fa:Addr) (o:Obj) (pm cd doc:Value) (a:Addr) (vs:List Value) (ns:List Int),
   Ground q loose [] XP w s₀ mg mb s₁.heap->YP w s₁.heap ->
   s₁.heap.get? fa=some o->o.data = .func (docDef d.name d.params d.body d.scope pm cd doc)->s₁.heap.CodeRec cd d.name->mg d.name=some (.ref fa) ->
   s₁.heap.get? a=some { cls:=.type "list",data:=.seq vs.toArray }->IntsAre vs ns->ns.length<=n->s₁.gens = #[] ->
   codeAny (model l.prog w) callerA (.call (.ref fa) ⟨[.ref a],[]⟩) (λr s'=>r = .ok (.ret (.bool true))/\OldK s₁.heap s'.heap/\s'.os=s₁.os/\AllBare s'.gens) s₁) :
  WalkO q loose XP YP l.row.toRowW d [] (λf vs=>PySem.call f vs):=by
 intro w s₀ s₁ mg mb G Y fa o pm cd doc dV kV ho hd hcd hD hmg hg args vals as hpre hlay hrd hwl hlo
 obtain rfl:dV = .none:=Dflts.none hD hdf
 obtain rfl:kV = .none:=Dflts.noKw hD
 obtain⟨a,vs,ns,rfl,rfl,hobj,hints,hlen⟩:=DQ hn hpre hwl
 refine enter_call (codeAny_mono (call w s₀ s₁ mg mb fa o pm cd doc a vs ns G Y ho (fd_plain hd) hcd hmg hobj hints hlen hg) λr s' hq=>?_)
 obtain⟨rfl,h2,h3,h4⟩:=hq
 exact⟨.inl ⟨.bool true,.bool true,[],rfl,λ_=>rfl,.bool true,CY l _,λ_=>⟨List.Pairwise.nil,λ_ hm=>(nomatch hm)⟩⟩,h2,h3,h4⟩
section
variable {prog:Program} {w:World} {A:Around} {E:Value->Shared->Prop} {s:Shared} {K:Frag}
end
end Att
namespace L2
open PySem PySem.Spec PyProof.Rows
theorem iW:∀{vs:List Value} {ns:List Int},IntsAre vs ns->Vals (ns.map V.int) vs
 | _,_,.nil=>.nil
 | _,_,.cons n t h=>.cons ⟨t,rfl⟩ (iW h)
noncomputable def HG (H:Hp):Prop:=∀b,H b=none\/∃o xs,H b=some (.frz o (.lst xs))
theorem FK {P:Program} {w:World} {K:PySem.W.Frag} {mg mb:Str->Option Value} {CX:CXT} {k:Nat} {fa a:Addr} {fd:FuncData} {x:Str} {sp:Sp} {s₁:Shared} {vs:List Value} {ns:List Int}
  (KX:K.In s₁.heap) (hns:s₁.heap.Ns mainGlobals mg) (hb:s₁.heap.Ns builtinsNs mb) (hbb:∀x:Str,x≠"__name__"->mb x=bootBuiltins x) (hlim:s₁.heap.NoLimit) (hg:s₁.gens = #[])
  (ha:s₁.heap.get? a=some { cls:=.type "list",data:=.seq vs.toArray }) (hi:IntsAre vs ns) (hl:ns.length<=sizeLine) (hr:Room k callerA)
  (F:∀base:Heap,K.In base->base.Ns mainGlobals mg->FnOk P w K mg base CX k fa fd [x] sp) (hbind:∀(s:Shared) (u:Value),BindsTo s fd ⟨[u],[]⟩ [(x,u)])
  (hsp:∀H:Hp,HG H->SqL K H a (ns.map V.int)->sp [.ref a] H (λv _=>v = .bl true) λ_ _ _=>False)
  (hCX:∀H e s',CX [] H s₁ (λ_ _ _=>False) e s'->False) :
  codeAny (model P w) callerA (.call (.ref fa) ⟨[.ref a],[]⟩) (λr s'=>r = .ok (.ret (.bool true))/\OldK s₁.heap s'.heap/\s'.os=s₁.os/\AllBare s'.gens) s₁:=by
 have rv:=iW hi
 have lenV:=hi.length
 have core:∀H:Hp,HG H->SqL K H a (ns.map V.int)->HOk P w H s₁.heap->(∀b,H b≠none->b=a)->(H a≠none->K.lookup a=none) ->
   codeAny (model P w) callerA (.call (.ref fa) ⟨[.ref a],[]⟩) (λr s'=>r = .ok (.ret (.bool true))/\OldK s₁.heap s'.heap/\s'.os=s₁.os/\AllBare s'.gens) s₁:=by
  intro H hO hS hok hA hK
  have base_of:∀{b:Addr} {o:Obj},s₁.heap.get? b=some o->H b=none->(vG s₁.heap H).get? b=some o:=λe n=>FE e n
  have noA:∀{b:Addr} {o:Obj} {es:Array DictEntry} {ep:Nat},s₁.heap.get? b=some o->o.data = .dict es ep->H b=none:=λ{b o es ep} e d=>by
   cases q:H b with
   | none=>rfl
   | some u =>
    have e':b=a:=hA b (by rw[q];simp)
    subst e'
    rw[ha] at e;cases e
    have d':Data.seq vs.toArray _=Data.dict es ep:=d
    cases d'
  have nsK:∀{b:Addr} {m:Str->Option Value},s₁.heap.Ns b m->(vG s₁.heap H).Ns b m:=λ{b m} ⟨o,es,ep,e,d,r⟩=>⟨o,es,ep,base_of e (noA e d),d,r⟩
  have hKb:K.In (vG s₁.heap H):=λb o e=>base_of (KX b o e) (by
   cases q:H b with
   | none=>rfl
   | some u =>
    have e':b=a:=hA b (by rw[q];simp)
    subst e'
    rw[hK (by rw[q];simp)] at e;cases e)
  have hM:Mod K mg (vG s₁.heap H):=⟨hKb,nsK hns,⟨mb,nsK hb,hbb⟩,let ⟨mc,h1,h2⟩:=hlim;⟨mc,nsK h1,h2⟩⟩
  have e0:Env0 P w K mg (vG s₁.heap H) callerA [] s₁ H:=⟨rfl,hM,λb o e=>IW e,Nat.le_of_eq (CD _ _),trivial,λb hb=>absurd (show b∈([]:List Addr) from hb) (by simp),hok,.of_eq hg⟩
  refine codeAny_mono ((F _ hKb (nsK hns)).run callerA [] s₁ H ⟨[.ref a],[]⟩ [.ref a] [.ref a] _ _ hr e0 (hbind s₁ (.ref a)) (.cons rfl .nil) (hsp H hO hS)) λr s' h=>?_
  cases r with
  | error e=>exact (hCX H e s' h).elim
  | ok fl =>
   cases fl with
   | next=>exact False.elim h
   | brk=>exact False.elim h
   | cont=>exact False.elim h
   | ret u =>
    obtain⟨v,H',os,bare,un,hok',r',q⟩:=h
    have q':v = .bl true:=q
    subst q'
    obtain rfl:u=Value.bool true:=r'
    refine⟨rfl,OldK.of_keep λb o e=>?_,os,bare⟩
    cases q:H b with
    | none=>exact un.keep b o e q (by intro z;exact absurd (show b∈([]:List Addr) from z) (by simp)) (by simp)
    | some u =>
     rcases hO b with z | ⟨ob,xs,z⟩
     ·rw[q] at z;cases z
     ·have z2:=un.frzs b ob _ z
      obtain⟨e1,_⟩:=hok b _ z
      obtain⟨e2,_⟩:=hok' b _ z2
      rw[e] at e1;cases e1
      exact e2
 cases hk:K.lookup a with
 | some o =>
  have e:=KX a o hk
  rw[ha] at e
  cases e
  refine core (λ_=>none) (λ_=>.inl rfl) (.inr ⟨_,vs.toArray,_,hk,rfl,rfl,rfl,by rw[List.size_toArray,lenV];exact hl,by simpa using rv⟩) (λb u z=>by have z':(none:Option HO)=some u:=z;cases z') (λb z=>absurd rfl z) λz=>absurd rfl z
 | none =>
  refine core (λb=>if b=a then some (.frz { cls:=.type "list",data:=.seq vs.toArray } (.lst (ns.map V.int))) else none) (λb=>?_) (.inl (.inr ⟨{ cls:=.type "list",data:=.seq vs.toArray },if_pos rfl⟩)) (λb u z=>?_) (λb z=>?_) λ_=>hk
  ·by_cases hb:b=a
   ·exact .inr ⟨_,_,if_pos hb⟩
   ·exact .inl (if_neg hb)
  ·by_cases hb:b=a
   ·have z':=(if_pos hb).symm.trans z
    cases z'
    subst hb
    exact⟨ha,by rw[List.length_map];exact hl,vs,_,rv,ha⟩
   ·have z':=(if_neg hb).symm.trans z
    cases z'
  ·by_cases hb:b=a
   ·exact hb
   ·exact absurd (if_neg hb) z
end L2
namespace L2
open PySem PySem.Spec PyProof.Rows
noncomputable abbrev KOf {K:PySem.W.Frag} {h:Heap} (_:K.In h):PySem.W.Frag:=K
theorem walk_of {l:PySem.W.OpenLaw} {n k:Nat} {q:Program} {loose:List Str} {XP:(Str->Option Value)->Heap->Prop} {YP:World->Heap->Prop} {d:DefRec} {K:Params->PySem.W.Frag} {CX:World->CXT} {sp:World->Sp} {x:Str}
  (hn:l.most=some n) (hn2:n<=sizeLine) (hdf:d.params.defaults=[]) (hr:Room k callerA)
  (hY:∀(w:World) (h:Heap),YP w h->(K w.params).In h)
  (F:∀(w:World) (mg:Str->Option Value) (fa:Addr) (h:Heap),(K w.params).In h->h.Ns mainGlobals mg->mg d.name=some (.ref fa) ->
   ∃fd:FuncData,(∀(s:Shared) (u:Value),BindsTo s fd ⟨[u],[]⟩ [(x,u)]) /\
    ∀base:Heap,(K w.params).In base->base.Ns mainGlobals mg->FnOk l.prog w (K w.params) mg base (CX w) k fa fd [x] (sp w))
  (hsp:∀(w:World) (H:Hp) (a:Addr) (ns:List Int),ns.length<=n->HG H->SqL (K w.params) H a (ns.map V.int)->sp w [.ref a] H (λv _=>v = .bl true) λ_ _ _=>False)
  (hCX:∀(w:World) (H:Hp) (s:Shared) (e:Value) (s':Shared),CX w [] H s (λ_ _ _=>False) e s'->False) :
  PySem.W.WalkO q loose XP YP l.row.toRowW d [] (λf vs=>PySem.call f vs):=by
 refine Att.attach_call hn hdf λw s₀ s₁ mg mb fa o pm cd doc a vs ns G Y ho hd hcd hmg hobj hints hlen hg=>?_
 have KX:=hY w _ Y
 obtain⟨fd,hb,hF⟩:=F w mg fa _ KX G.T.g hmg
 exact FK KX G.T.g G.T.b G.T.builtins G.T.nolimit hg hobj hints (Nat.le_trans hlen hn2) hr hF hb (λH hO hS=>hsp w H a ns hlen hO hS) λH e s'=>hCX w H s₁ e s'
end L2
namespace L2
open PySem PySem.Spec PyProof.Rows
noncomputable def bA (s:Stmt):Arguments:=match s with
 | .FunctionDef _ a _ _ _ _ _ _ _ _=>a
 | _=>{ posonlyargs:=[],args:=[],vararg:=none,kwonlyargs:=[],kw_defaults:=[],kwarg:=none,defaults:=[] }
noncomputable def aN (s:Stmt):List Stmt:=match s with
 | .FunctionDef _ _ b _ _ _ _ _ _ _=>b
 | _=>[]
noncomputable def aC (s:Stmt):Scope:=match s with
 | .FunctionDef _ _ _ _ _ _ sc _ _ _=>sc
 | _=>{ kind:=.function,names:=[],isGenerator:=false,isCoroutine:=false }
noncomputable abbrev CX0:CXT:=λ_ _ _ _ _ _=>False
noncomputable abbrev E0:XK:=λ_ _ _=>False
theorem KI {X:Cx}:yO CX0 X E0:=λ_ _ _ _ _ _ _ h=>h.elim
structure Fun (K:PySem.W.Frag) (x qual:Str) (st:Stmt) (f:Addr) (fd:FuncData):Prop where
 ex:∃(oc:Value) (od:Option Addr) (kV doc pm:Value) (an:Option Addr) (cdv ct:Value) (osl:Array (Option Value)),
  fd=PySem.W.fnOf x qual (bA st) (aN st) (aC st) .none kV doc pm an cdv ct/\K.lookup f=some ⟨oc,od,.func fd,osl⟩/\PySem.W.codeIn K cdv qual=true
 kp:PySem.W.keepIn K (.ref f)=true
section
variable {P:Program} {w:World} {K:PySem.W.Frag} {mg:Str->Option Value} {base:Heap}
theorem Fun.ok {x qual:Str} {st:Stmt} {f:Addr} {fd:FuncData} {N ps:List Str} {k:Nat} {sp:Sp} (F:Fun K x qual st f fd) (S:FnScope N ps (aC st)) (len:∀vs H Q E,sp vs H Q E->vs.length=ps.length)
  (hbody:∀(cdv:Value) (A:Around) (outer:List Env) (s:Shared) (H:Hp) (vs:List V) (Q:VK) (E:XK),Room k (A.deeper (envOfC qual (aC st) s.heap.objs.size f cdv))->sp vs H Q E ->
   ∃t,PSs (cJ CX0 P w K mg base N qual (aC st) f cdv A outer s H E).nox (aN st) t/\t { nx:=λ_ H'=>Q .non H',rt:=Q } (kU N vs) H):FnOk P w K mg base CX0 (k+1) f fd ps sp:=by
 obtain⟨oc,od,kV,doc,pm,an,cdv,ct,osl,rfl,lk,hcd⟩:=F.ex
 refine NI lk hcd S len λA outer s H vs Q E hr hsp=>?_
 obtain⟨t,h,q⟩:=hbody cdv A outer s H vs Q E hr hsp
 exact⟨t,h.nox,q⟩
theorem bJ {x qual:Str} {st:Stmt} {f:Addr} {oc:Value} {od an:Option Addr} {osl:Array (Option Value)} {kV doc pm cdv ct:Value} (l:K.lookup f=some ⟨oc,od,.func (PySem.W.fnOf x qual (bA st) (aN st) (aC st) .none kV doc pm an cdv ct),osl⟩)
  (c:PySem.W.codeIn K cdv qual=true) (k:PySem.W.keepIn K (.ref f)=true):Fun K x qual st f (PySem.W.fnOf x qual (bA st) (aN st) (aC st) .none kV doc pm an cdv ct):=⟨⟨oc,od,kV,doc,pm,an,cdv,ct,osl,rfl,l,c⟩,k⟩
end
section
variable {X:Cx}
theorem pv (i:Nat) {x:Str} {pos:Pos} (hN:X.N[i]? = some x:=by rfl) (hv:Vis X.env.scope x:=by walk_at "vis") (hd:(x == ("__debug__":Str))=false:=by decide)
  (hcd:(x == ("__classdict__":Str))=false:=by decide):PE X (.Name x pos) (OU i):=MA hN hv hd hcd
end
noncomputable def Same (H H':Hp):Prop:=∀b o,H b=some o->H' b=some o
theorem Same.refl (H:Hp):Same H H:=λ_ _ h=>h
theorem Same.trans {H H1 H2:Hp} (a:Same H H1) (b:Same H1 H2):Same H H2:=λc o h=>b c o (a c o h)
theorem Same.free {H H':Hp} (e:Same H H') {l:Addr} (h:H' l=Option.none):H l=Option.none:=by
 cases q:H l with
 | none=>rfl
 | some o =>
  rw[e l o q] at h
  cases h
end L2
set_option linter.all false
namespace L2.R2
noncomputable abbrev Pt:=Int × Int
noncomputable def ltP (a b:Pt):Prop:=a.1<b.1\/(a.1=b.1/\a.2<b.2)
instance (a b:Pt):Decidable (ltP a b):=by unfold ltP;infer_instance
end L2.R2
set_option Elab.async false
set_option linter.all false
namespace L2.R2
noncomputable abbrev bT:=Pt × Pt
noncomputable def sd (a b:Pt):List bT:=if a.1<b.1 then [(a,b)] else if b.1<a.1 then [(b,a)] else []
noncomputable def cC:Pt->List Pt->List bT
 | _,[]=>[]
 | a,b::r=>sd a b++cC b r
noncomputable def bR:List Pt->List bT
 | []=>[]
 | a::r=>cC a (r++[a])
noncomputable def cov (c:Int) (s:bT):Bool:=decide (s.1.1<=c) && decide (c<s.2.1)
noncomputable def mY:Pt->List Pt->Pt
 | a,[]=>a
 | _,b::r=>mY b r
theorem iP:∀(a:Pt) (r:List Pt) (b:Pt),mY a (r++[b])=b
 | _,[],_=>rfl
 | _,x::r,b=>iP x r b
noncomputable def eU {α:Type}:List α->List (α × α)
 | x::y::r=>(x,y)::eU r
 | _=>[]
end L2.R2
set_option Elab.async false
set_option linter.all false
namespace L2.R2
noncomputable def wid (s:bT):Int:=s.2.1-s.1.1
noncomputable def hB (B:Int) (s:bT) (t:Int):Int:=(s.1.2*wid s+(s.2.2-s.1.2)*(t-s.1.1))*B.fdiv (wid s)
theorem vF {B w:Int} (hw:0<w) (h:w∣B):∃q,B=w*q/\B.fdiv w=q:=by
 obtain⟨q,rfl⟩:=h
 exact⟨q,rfl,by rw[Int.mul_comm];exact Int.mul_fdiv_cancel _ (Int.ne_of_gt hw)⟩
theorem wR {B:Int} {s:bT} (hw:0<wid s) (h:wid s∣60) (hb:wid s∣B) (t:Int):60*hB B s t=B*hB 60 s t:=by
 obtain⟨q,e1,e2⟩:=vF hw h
 obtain⟨r,f1,f2⟩:=vF hw hb
 unfold hB
 rw[e2,f2]
 rw[e1]
 conv=>rhs;rw[f1]
 grind
theorem KC {B:Int} (hB0:0<B) {s s':bT} (hw:0<wid s) (h:wid s∣60) (hb:wid s∣B) (hw':0<wid s') (h':wid s'∣60) (hb':wid s'∣B) (t:Int):hB B s t<hB B s' t↔hB 60 s t<hB 60 s' t:=by
 have e1:=wR hw h hb t
 have e2:=wR hw' h' hb' t
 constructor
 ·intro k
  refine Int.lt_of_mul_lt_mul_left (a:=B) ?_ (Int.le_of_lt hB0)
  rw[<-e1,<-e2];omega
 ·intro k
  have:=Int.mul_lt_mul_of_pos_left k hB0
  rw[<-e1,<-e2] at this;omega
structure SdOk (s:bT):Prop where
 pos:0<wid s
 dvd:wid s∣60
noncomputable def kC (S:List bT) (c:Int):Prop:=∀s∈S,∀s'∈S,cov c s=true->cov c s'=true->hB 60 s c<hB 60 s' c->hB 60 s (c+1)<=hB 60 s' (c+1)
theorem gU {c:Int} {s:bT}:cov c s=true↔s.1.1<=c/\c<s.2.1:=by unfold cov;simp
theorem MN {a b:Pt} {s:bT} (h:s∈sd a b):(s=(a,b)\/s=(b,a))/\0<wid s:=by
 unfold sd at h
 split at h
 ·rw[List.mem_singleton] at h;subst h;exact⟨.inl rfl,by unfold wid;dsimp only;omega⟩
 ·split at h
  ·rw[List.mem_singleton] at h;subst h;exact⟨.inr rfl,by unfold wid;dsimp only;omega⟩
  ·cases h
theorem yL:∀{r:List Pt} {a:Pt} {s:bT},s∈cC a r->∃p q,p∈a::r/\q∈a::r/\s∈sd p q
 | [],_,_,h=>by cases h
 | b::r,a,s,h=>by
  rw[cC] at h
  rcases List.mem_append.mp h with h | h
  ·exact⟨a,b,.head _,.tail _ (.head _),h⟩
  ·obtain⟨p,q,h1,h2,h3⟩:=yL h
   exact⟨p,q,.tail _ h1,.tail _ h2,h3⟩
theorem uF {g:List Pt} {s:bT} (h:s∈bR g):(s.1∈g/\s.2∈g)/\0<wid s:=by
 cases g with
 | nil=>cases h
 | cons a r =>
  obtain⟨p,q,h1,h2,h3⟩:=yL h
  have m:∀x∈a::(r++[a]),x∈a::r:=λx hx=>by
   rcases List.mem_cons.mp hx with rfl | hx
   ·exact .head _
   ·rcases List.mem_append.mp hx with hx | hx
    ·exact .tail _ hx
    ·rw[List.mem_singleton.mp hx];exact .head _
  obtain⟨e,k⟩:=MN h3
  refine⟨?_,k⟩
  rcases e with rfl | rfl
  ·exact⟨m _ h1,m _ h2⟩
  ·exact⟨m _ h2,m _ h1⟩
end L2.R2
set_option Elab.async false
set_option linter.all false
namespace L2.R2
noncomputable abbrev IP:=Int × Int
noncomputable def prB (B c:Int) (s:bT):IP:=(hB B s c,hB B s (c+1))
noncomputable def dN (M:List IP):Prop:=M.Pairwise λx y=>x.1<=y.1/\x.2<=y.2
theorem xZ {M:List IP} (h:M.Pairwise λx y=>¬ltP y x) (u:∀x∈M,∀y∈M,x.1<y.1->x.2<=y.2):dN M:=by
 refine h.imp_of_mem λ{x y} hx hy n=>?_
 unfold ltP at n
 by_cases k:x.1<y.1
 ·exact⟨Int.le_of_lt k,u x hx y hy k⟩
 ·omega
theorem HK {S:List bT} {c B:Int} (hB0:0<B) (ok:∀s∈S,SdOk s) (hd:∀s∈S,wid s∣B) (hc:∀s∈S,cov c s=true) (u:kC S c):∀x∈S.map (prB B c),∀y∈S.map (prB B c),x.1<y.1->x.2<=y.2:=by
 intro x hx y hy l
 obtain⟨s,hs,rfl⟩:=List.mem_map.mp hx
 obtain⟨t,ht,rfl⟩:=List.mem_map.mp hy
 have os:=ok s hs
 have ot:=ok t ht
 have k1:=(KC hB0 os.pos os.dvd (hd s hs) ot.pos ot.dvd (hd t ht) c).mp l
 have k2:=u s hs t ht (hc s hs) (hc t ht) k1
 refine Int.not_lt.mp λk3=>?_
 have:=(KC hB0 ot.pos ot.dvd (hd t ht) os.pos os.dvd (hd s hs) (c+1)).mp k3
 omega
end L2.R2
set_option linter.all false
namespace L2.R2
end L2.R2
set_option linter.all false
namespace L2.R2
end L2.R2
set_option linter.all false
namespace L2.R2
end L2.R2
set_option Elab.async false
set_option linter.all false
set_option maxRecDepth 100000
namespace L2.R2
open PySem PySem.Spec PyProof.Rows L2
inductive D where
 | non | bl (b:Bool) | int (i:Int) | str (x:Str) | tup (xs:List D) | lst (xs:List D) | dct (ks:List Int) (xs:List D)
noncomputable def FzL (K:PySem.W.Frag) (H:Hp) (a:Addr) (vs:List V):Prop :=
 (∃o,H a=some (.frz o (.lst vs))) \/
  ∃(o:Obj) (its:Array Value) (n:Nat),K.lookup a=some o/\o.cls = .type "list"/\o.dict=none/\o.data = .seq its n/\its.size<=sizeLine/\Vals vs its.toList
theorem FzL.sq {K:PySem.W.Frag} {H:Hp} {a:Addr} {vs:List V}:FzL K H a vs->SqL K H a vs
 | .inl ⟨o,h⟩=>.inl (.inr ⟨o,h⟩)
 | .inr h=>.inr h
structure Keep (H H':Hp):Prop where
 tups:∀b xs,H b=some (.tup xs)->H' b=some (.tup xs)
 frzs:∀b o u,H b=some (.frz o u)->H' b=some (.frz o u)
theorem Keep.refl (H:Hp):Keep H H:=⟨λ_ _ h=>h,λ_ _ _ h=>h⟩
theorem Keep.trans {H H1 H2:Hp} (a:Keep H H1) (b:Keep H1 H2):Keep H H2 :=
 ⟨λc xs h=>b.tups c xs (a.tups c xs h),λc o u h=>b.frzs c o u (a.frzs c o u h)⟩
theorem Keep.of {H H':Hp} (s:Same H H'):Keep H H':=⟨λb xs h=>s b _ h,λb o u h=>s b _ h⟩
noncomputable def tU (ks:List Int) (vs:List V):List (Key × V):=List.zipWith (λk v=>(Sum.inl k,v)) ks vs
mutual
inductive Rep (K:PySem.W.Frag) (H:Hp):D->V->Prop
 | non:Rep K H .non .non
 | bl (b:Bool):Rep K H (.bl b) (.bl b)
 | int (i:Int):Rep K H (.int i) (.int i)
 | str (x:Str):Rep K H (.str x) (.str x)
 | tup {a:Addr} {vs:List V} {ds:List D} (h:H a=some (.tup vs)) (r:Reps K H ds vs):Rep K H (.tup ds) (.ref a)
 | lst {a:Addr} {vs:List V} {ds:List D} (h:FzL K H a vs) (r:Reps K H ds vs):Rep K H (.lst ds) (.ref a)
 | dct {a:Addr} {vs:List V} {ds:List D} {ks:List Int} {o:Obj} (h:H a=some (.frz o (.dK (tU ks vs)))) (hl:ks.length=vs.length) (r:Reps K H ds vs):Rep K H (.dct ks ds) (.ref a)
inductive Reps (K:PySem.W.Frag) (H:Hp):List D->List V->Prop
 | nil:Reps K H [] []
 | cons {d:D} {v:V} {ds:List D} {vs:List V} (h:Rep K H d v) (t:Reps K H ds vs):Reps K H (d::ds) (v::vs)
end
section
variable {K:PySem.W.Frag} {H H':Hp}
theorem FzL.keep {a:Addr} {vs:List V} (k:Keep H H') (h:FzL K H a vs):FzL K H' a vs:=by
 rcases h with ⟨o,h⟩ | h
 ·exact .inl ⟨o,k.frzs _ _ _ h⟩
 ·exact .inr h
mutual
theorem Rep.keep (k:Keep H H'):∀{d:D} {v:V},Rep K H d v->Rep K H' d v
 | _,_,.non=>.non
 | _,_,.bl b=>.bl b
 | _,_,.int i=>.int i
 | _,_,.str x=>.str x
 | _,_,.tup h r=>.tup (k.tups _ _ h) (Reps.keep k r)
 | _,_,.lst h r=>.lst (FzL.keep k h) (Reps.keep k r)
 | _,_,.dct h hl r=>.dct (k.frzs _ _ _ h) hl (Reps.keep k r)
theorem Reps.keep (k:Keep H H'):∀{ds:List D} {vs:List V},Reps K H ds vs->Reps K H' ds vs
 | _,_,.nil=>.nil
 | _,_,.cons h t=>.cons (Rep.keep k h) (Reps.keep k t)
end
theorem Reps.length:∀{ds:List D} {vs:List V},Reps K H ds vs->ds.length=vs.length
 | _,_,.nil=>rfl
 | _,_,.cons _ t=>by simp[Reps.length t]
theorem Reps.get:∀{ds:List D} {vs:List V} {i:Nat} {d:D},Reps K H ds vs->ds[i]? = some d->∃v,vs[i]? = some v/\Rep K H d v
 | _,_,_,_,.nil,e=>by simp at e
 | _,_,0,_,.cons h _,e=>by simp at e;subst e;exact⟨_,rfl,h⟩
 | _,_,i+1,d,.cons _ t,e=>by
  obtain⟨v,h1,h2⟩:=Reps.get (i:=i) (d:=d) t (by simpa using e)
  exact⟨v,by simpa using h1,h2⟩
theorem Reps.append:∀{ds es:List D} {vs us:List V},Reps K H ds vs->Reps K H es us->Reps K H (ds++es) (vs++us)
 | _,_,_,_,.nil,s=>s
 | _,_,_,_,.cons h t,s=>.cons h (Reps.append t s)
theorem Reps.take:∀{ds:List D} {vs:List V} (n:Nat),Reps K H ds vs->Reps K H (ds.take n) (vs.take n)
 | _,_,0,_=>.nil
 | _,_,_+1,.nil=>.nil
 | _,_,n+1,.cons r t=>.cons r (Reps.take n t)
theorem Reps.drop:∀{ds:List D} {vs:List V} (n:Nat),Reps K H ds vs->Reps K H (ds.drop n) (vs.drop n)
 | _,_,0,r=>r
 | _,_,_+1,.nil=>.nil
 | _,_,n+1,.cons _ t=>Reps.drop n t
theorem Reps.reverse:∀{ds:List D} {vs:List V},Reps K H ds vs->Reps K H ds.reverse vs.reverse
 | _,_,.nil=>.nil
 | _,_,.cons r t=>by
  simp only[List.reverse_cons]
  exact (Reps.reverse t).append (.cons r .nil)
theorem Rep.int_inv {i:Int} {v:V} (h:Rep K H (.int i) v):v = .int i:=by cases h;rfl
theorem Rep.bl_inv {b:Bool} {v:V} (h:Rep K H (.bl b) v):v = .bl b:=by cases h;rfl
theorem Reps.ints:∀{ns:List Int},Reps K H (ns.map D.int) (ns.map V.int)
 | []=>.nil
 | _::_=>.cons (.int _) Reps.ints
theorem Reps.ints_inv:∀{ns:List Int} {vs:List V},Reps K H (ns.map D.int) vs->vs=ns.map V.int
 | [],_,h=>by cases h;rfl
 | n::ns,_,h=>by
  cases h with
  | cons h t=>rw[h.int_inv,Reps.ints_inv t];rfl
end
noncomputable def RepB (K:PySem.W.Frag) (H:Hp) (d:D) (v:V):Prop :=
 Rep K H d v\/∃ds a vs,d = .lst ds/\v = .ref a/\H a=some (.lst vs)/\Reps K H ds vs
theorem RepB.same {K:PySem.W.Frag} {H H':Hp} {d:D} {v:V} (s:Same H H') (h:RepB K H d v):RepB K H' d v:=by
 rcases h with h | ⟨ds,a,vs,e1,e2,e3,r⟩
 ·exact .inl (h.keep (.of s))
 ·exact .inr ⟨ds,a,vs,e1,e2,s _ _ e3,r.keep (.of s)⟩
theorem RepB.lst {K:PySem.W.Frag} {H:Hp} {ds:List D} {v:V} (h:RepB K H (.lst ds) v):∃a vs,v = .ref a/\SqL K H a vs/\Reps K H ds vs:=by
 rcases h with h | ⟨ds',a,vs,e1,e2,e3,r⟩
 ·cases h with
  | lst h r=>exact⟨_,_,rfl,h.sq,r⟩
 ·cases e1;exact⟨a,vs,e2,SqL.of e3,r⟩
theorem RepB.tup {K:PySem.W.Frag} {H:Hp} {ds:List D} {v:V} (h:RepB K H (.tup ds) v):∃a vs,v = .ref a/\H a=some (.tup vs)/\Reps K H ds vs:=by
 rcases h with h | ⟨ds',a,vs,e1,e2,e3,r⟩
 ·cases h with
  | tup h r=>exact⟨_,_,rfl,h,r⟩
 ·cases e1
inductive S where
 | d (x:D) | own (xs:List D) | dcl (kvs:List (Int × List D))
noncomputable def S.val:S->D
 | .d x=>x
 | .own xs=>.lst xs
 | .dcl _=>.non
noncomputable abbrev En:=List (Option S)
inductive Dcl (K:PySem.W.Frag) (H₀ H:Hp):List (Int × List D)->List (Key × V)->List Addr->Prop
 | nil:Dcl K H₀ H [] [] []
 | cons {k:Int} {b:Addr} {vs:List V} {ds:List D} {kvs:List (Int × List D)} {kws:List (Key × V)} {as:List Addr} (h:H b=some (.lst vs)) (h0:H₀ b=none) (r:Reps K H ds vs) (n:b ∉ as) (t:Dcl K H₀ H kvs kws as) :
   Dcl K H₀ H ((k,ds)::kvs) ((Sum.inl k,.ref b)::kws) (b::as)
noncomputable def RelS (K:PySem.W.Frag) (H₀ H:Hp):S->V->Prop
 | .d x,v=>Rep K H x v
 | .own xs,v=>∃a vs,v = .ref a/\H a=some (.lst vs)/\H₀ a=none/\Reps K H xs vs
 | .dcl kvs,v=>∃a kws as,v = .ref a/\H a=some (.dK kws)/\H₀ a=none/\Dcl K H₀ H kvs kws as
noncomputable def Ow (H:Hp):S->V->Addr->Prop
 | .d _,_,_=>False
 | .own _,v,a=>v = .ref a
 | .dcl _,v,a=>∃p kws,v = .ref p/\H p=some (.dK kws)/\(a=p\/∃k,(k,V.ref a)∈kws)
structure StOk (X:Cx) (ρ:En) (σ:St) (H:Hp):Prop where
 len:ρ.length=σ.length
 same:Same X.H₀ H
 rel:∀(i:Nat) (x:S),ρ[i]? = some (some x)->∃v,σ[i]? = some (some v)/\RelS X.K X.H₀ H x v
 sep:∀(i j:Nat) (x y:S) (v u:V) (a:Addr),ρ[i]? = some (some x)->ρ[j]? = some (some y)->σ[i]? = some (some v)->σ[j]? = some (some u)->Ow H x v a->Ow H y u a->i=j
section
variable {K:PySem.W.Frag} {H₀ H H':Hp}
theorem Dcl.keep {kvs:List (Int × List D)} {kws:List (Key × V)} {as:List Addr} (k:Keep H H') (t:Dcl K H₀ H kvs kws as) (w:∀a∈as,∀o,H a=some o->H' a=some o):Dcl K H₀ H' kvs kws as:=by
 induction t with
 | nil=>exact .nil
 | cons h h0 r n t ih=>exact .cons (w _ (.head _) _ h) h0 (r.keep k) n (ih λa m=>w a (.tail _ m))
theorem Dcl.mem {kvs:List (Int × List D)} {kws:List (Key × V)} {as:List Addr} {a:Addr} (t:Dcl K H₀ H kvs kws as):a∈as↔∃k,(k,V.ref a)∈kws:=by
 induction t with
 | nil=>simp
 | cons h h0 r n t ih =>
  rw[List.mem_cons,ih]
  constructor
  ·rintro (rfl | ⟨k,e⟩)
   ·exact⟨_,.head _⟩
   ·exact⟨k,.tail _ e⟩
  ·rintro⟨k,e⟩
   rcases List.mem_cons.mp e with e | e
   ·cases e;exact .inl rfl
   ·exact .inr ⟨k,e⟩
theorem Dcl.at {kvs:List (Int × List D)} {kws:List (Key × V)} {as:List Addr} {a:Addr} (t:Dcl K H₀ H kvs kws as) (m:a∈as):H₀ a=none/\∃vs,H a=some (.lst vs):=by
 induction t with
 | nil=>cases m
 | cons h h0 r n t ih =>
  rcases List.mem_cons.mp m with rfl | m
  ·exact⟨h0,_,h⟩
  ·exact ih m
theorem Ow.at {x:S} {v:V} {a:Addr} (r:RelS K H₀ H x v) (w:Ow H x v a):H₀ a=none/\((∃vs,H a=some (.lst vs))\/∃kws,H a=some (.dK kws)):=by
 cases x with
 | d x=>exact w.elim
 | own xs =>
  obtain⟨b,vs,rfl,h,h0,_⟩:=r
  cases w;exact⟨h0,.inl ⟨vs,h⟩⟩
 | dcl kvs =>
  obtain⟨b,kws,as,rfl,h,h0,t⟩:=r
  obtain⟨p,kws',e,h',m⟩:=w
  cases e
  rw[h] at h';cases h'
  rcases m with rfl | m
  ·exact⟨h0,.inr ⟨kws,h⟩⟩
  ·obtain⟨g0,g1⟩:=t.at (t.mem.mpr m)
   exact⟨g0,.inl g1⟩
theorem RelS.move {x:S} {v:V} (k:Keep H H') (r:RelS K H₀ H x v) (w:∀a,Ow H x v a->∀o,H a=some o->H' a=some o):RelS K H₀ H' x v/\∀a,Ow H' x v a->Ow H x v a:=by
 cases x with
 | d x=>exact⟨Rep.keep k r,λa e=>e⟩
 | own xs =>
  obtain⟨b,vs,rfl,h,h0,rr⟩:=r
  exact⟨⟨b,vs,rfl,w b rfl _ h,h0,rr.keep k⟩,λa e=>e⟩
 | dcl kvs =>
  obtain⟨b,kws,as,rfl,h,h0,t⟩:=r
  have hb:=w b ⟨b,kws,rfl,h,.inl rfl⟩ _ h
  refine⟨⟨b,kws,as,rfl,hb,h0,t.keep k λa m=>w a ⟨b,kws,rfl,h,.inr (t.mem.mp m)⟩⟩,λa e=>?_⟩
  obtain⟨p,kws',e,h',m⟩:=e
  cases e
  rw[hb] at h';cases h'
  exact⟨b,kws,rfl,h,m⟩
theorem RelS.same {x:S} {v:V} (s:Same H H') (h:RelS K H₀ H x v):RelS K H₀ H' x v:=(h.move (.of s) λa _ o e=>s a o e).1
end
section
variable {X:Cx} {ρ:En} {σ:St} {H H':Hp}
theorem StOk.ext (st:StOk X ρ σ H) (s:Same H H'):StOk X ρ σ H':=by
 refine⟨st.len,st.same.trans s,λi x e=>let ⟨v,h1,h2⟩:=st.rel i x e;⟨v,h1,h2.same s⟩,λi j x y v u a e1 e2 e3 e4 o1 o2=>?_⟩
 obtain⟨v',h1,h2⟩:=st.rel i x e1
 obtain⟨u',g1,g2⟩:=st.rel j y e2
 rw[h1] at e3;cases e3
 rw[g1] at e4;cases e4
 exact st.sep i j x y _ _ a e1 e2 h1 g1 ((h2.move (.of s) λa _ o e=>s a o e).2 a o1) ((g2.move (.of s) λa _ o e=>s a o e).2 a o2)
theorem qO {α:Type} {xs:List (Option α)} {i j:Nat} {x y:α} (e:(xs.set i (some x))[j]? = some (some y)):(j=i/\y=x/\i<xs.length)\/(i≠j/\xs[j]? = some (some y)):=by
 by_cases hj:i=j
 ·subst hj
  by_cases h:i<xs.length
  ·rw[List.getElem?_set_self h] at e;cases e;exact .inl ⟨rfl,rfl,h⟩
  ·rw[List.set_eq_of_length_le (by omega),List.getElem?_eq_none (by omega)] at e;cases e
 ·rw[List.getElem?_set_ne hj] at e;exact .inr ⟨hj,e⟩
theorem StOk.chg (st:StOk X ρ σ H) {i:Nat} {x':S} {v':V} {W:Addr->Prop} (kp:Keep H H') (h0:∀b o,X.H₀ b=some o->H' b=some o) (h1:∀b o,H b=some o->¬W b->H' b=some o) (h2:RelS X.K X.H₀ H' x' v')
  (h3:∀a,Ow H' x' v' a->W a\/H a=none) (h4:∀(j:Nat) (y:S) (u:V) (a:Addr),j≠i->ρ[j]? = some (some y)->σ[j]? = some (some u)->Ow H y u a->¬W a):StOk X (ρ.set i (some x')) (σ.set i (some v')) H':=by
 have old:∀(j:Nat) (y:S),j≠i->ρ[j]? = some (some y)->∃u,σ[j]? = some (some u)/\RelS X.K X.H₀ H y u/\RelS X.K X.H₀ H' y u/\∀a,Ow H' y u a->Ow H y u a:=λj y hj e=>by
  obtain⟨u,g1,g2⟩:=st.rel j y e
  obtain⟨g3,g4⟩:=g2.move kp λa w o e'=>h1 a o e' (h4 j y u a hj e g1 w)
  exact⟨u,g1,g2,g3,g4⟩
 refine⟨by simp[st.len],λb o h=>h0 b o h,λj y e=>?_,λj k y z v u a e1 e2 e3 e4 o1 o2=>?_⟩
 ·rcases qO e with ⟨rfl,rfl,hl⟩ | ⟨hj,e⟩
  ·exact⟨v',by rw[List.getElem?_set_self (by rw[<-st.len];exact hl)],h2⟩
  ·obtain⟨u,g1,_,g3,_⟩:=old j y (Ne.symm hj) e
   exact⟨u,by rw[List.getElem?_set_ne hj];exact g1,g3⟩
 ·have cross:∀(j:Nat) (y:S) (u:V),i≠j->ρ[j]? = some (some y)->σ[j]? = some (some u)->Ow H' y u a->Ow H' x' v' a->False:=λj y u hj e es o1 o2=>by
   obtain⟨u',g1,g2,g3,g4⟩:=old j y (Ne.symm hj) e
   rw[g1] at es;cases es
   rcases h3 a o2 with w | n
   ·exact h4 j y _ a (Ne.symm hj) e g1 (g4 a o1) w
   ·obtain⟨_,⟨_,q⟩ | ⟨_,q⟩⟩:=Ow.at g2 (g4 a o1) <;> rw[n] at q <;> cases q
  rcases qO e1 with ⟨rfl,rfl,hl⟩ | ⟨hj,e1'⟩
  ·rcases qO e2 with ⟨rfl,rfl,_⟩ | ⟨hk,e2'⟩
   ·rfl
   ·rw[List.getElem?_set_self (by rw[<-st.len];exact hl)] at e3;cases e3
    rw[List.getElem?_set_ne hk] at e4
    exact (cross k z u hk e2' e4 o2 o1).elim
  ·rw[List.getElem?_set_ne hj] at e3
   rcases qO e2 with ⟨rfl,rfl,hl⟩ | ⟨hk,e2'⟩
   ·rw[List.getElem?_set_self (by rw[<-st.len];exact hl)] at e4;cases e4
    exact (cross j y v hj e1' e3 o1 o2).elim
   ·rw[List.getElem?_set_ne hk] at e4
    obtain⟨v',g1,g2,g3,g4⟩:=old j y (Ne.symm hj) e1'
    obtain⟨u',f1,f2,f3,f4⟩:=old k z (Ne.symm hk) e2'
    rw[g1] at e3;cases e3
    rw[f1] at e4;cases e4
    exact st.sep j k y z _ _ a e1' e2' g1 f1 (g4 a o1) (f4 a o2)
theorem StOk.put (st:StOk X ρ σ H) {i:Nat} {x':S} {v':V} (s:Same H H') (h2:RelS X.K X.H₀ H' x' v') (h3:∀a,Ow H' x' v' a->H a=none):StOk X (ρ.set i (some x')) (σ.set i (some v')) H' :=
 st.chg (W:=λ_=>False) (.of s) (λb o h=>s b o (st.same b o h)) (λb o h _=>s b o h) h2 (λa o=>.inr (h3 a o)) λ_ _ _ _ _ _ _ _ z=>z
theorem StOk.updW (st:StOk X ρ σ H) {i:Nat} {x x':S} {v v':V} (e:ρ[i]? = some (some x)) (es:σ[i]? = some (some v)) (h1:∀b o,H b=some o->¬Ow H x v b->H' b=some o) (h2:RelS X.K X.H₀ H' x' v')
  (h3:∀a,Ow H' x' v' a->Ow H x v a\/H a=none):StOk X (ρ.set i (some x')) (σ.set i (some v')) H'/\Keep H H':=by
 obtain⟨v0,g1,g2⟩:=st.rel i x e
 rw[g1] at es;cases es
 have no:∀b o,H b=some o->(∀vs,o≠.lst vs)->(∀kws,o≠.dK kws)->¬Ow H x v b:=λb o h n1 n2 w=>by
  obtain⟨_,⟨_,q⟩ | ⟨_,q⟩⟩:=Ow.at g2 w <;> rw[h] at q <;> cases q
  ·exact n1 _ rfl
  ·exact n2 _ rfl
 have kp:Keep H H':=⟨λb xs h=>h1 b _ h (no b _ h (λ_ z=>by cases z) λ_ z=>by cases z),λb o u h=>h1 b _ h (no b _ h (λ_ z=>by cases z) λ_ z=>by cases z)⟩
 refine⟨st.chg (W:=Ow H x v) kp (λb o h=>h1 b o (st.same b o h) λw=>?_) h1 h2 h3 λj y u a hj ej eu o1 o2=>hj (st.sep j i y x u v a ej e eu g1 o1 o2),kp⟩
 rw[(Ow.at g2 w).1] at h;cases h
theorem StOk.set_d (st:StOk X ρ σ H) {i:Nat} {d:D} {v:V} (r:Rep X.K H d v):StOk X (ρ.set i (some (.d d))) (σ.set i (some v)) H:=st.put (x':=.d d) (Same.refl H) r λ_ o=>o.elim
theorem fR {α:Type} {xs:List α} {i:Nat} {x:α} (e:xs[i]? = some x):xs.set i x=xs:=by
 apply List.ext_getElem? ;intro j
 by_cases hj:i=j
 ·subst hj;rw[List.getElem?_set_self (List.getElem?_eq_some_iff.mp e).1,e]
 ·rw[List.getElem?_set_ne hj]
theorem StOk.set_own (st:StOk X ρ σ H) {i:Nat} {ds:List D} {p:Addr} {vs:List V} (hp:H p=none) (r:Reps X.K H ds vs) :
  StOk X (ρ.set i (some (.own ds))) (σ.set i (some (.ref p))) (upd H p (.lst vs)):=by
 have sm:Same H (upd H p (.lst vs)):=λb o h=>by rw[aI (aQ h hp)];exact h
 exact st.put sm ⟨p,vs,rfl,aX,st.same.free hp,r.keep (.of sm)⟩ λa o=>by cases o;exact hp
theorem StOk.upd_own (st:StOk X ρ σ H) {i:Nat} {xs ds:List D} {p:Addr} {us vs:List V} (e:ρ[i]? = some (some (.own xs))) (es:σ[i]? = some (some (.ref p))) (hp:H p=some (.lst us)) (h0:X.H₀ p=none)
  (r:Reps X.K H ds vs):StOk X (ρ.set i (some (.own ds))) σ (upd H p (.lst vs))/\Keep H (upd H p (.lst vs)):=by
 have kp:Keep H (upd H p (.lst vs)):=⟨λb ys h=>by
   rw[aI (jP h hp (by intro z;cases z))];exact h,λb o u h=>by rw[aI (jP h hp (by intro z;cases z))];exact h⟩
 have:=st.updW (x':=.own ds) (v':=.ref p) e es (H':=upd H p (.lst vs)) (λb o h w=>by rw[aI (by rintro rfl;exact w rfl)];exact h) ⟨p,vs,rfl,aX,h0,r.keep kp⟩ λa o=>.inl o
 rw[fR es] at this
 exact this
end
section
variable {X:Cx} {pins:List (Addr × Obj)} {σ:St} {H:Hp} {s:Shared}
theorem Inv.freezeG {a:Addr} {x:HO} {o:Obj} (I:Inv X pins σ H s) (h:H a=some x) (ho:s.heap.get? a=some o) (n1:∀ys,HO.tup ys≠x) (n2:∀o w,HO.frz o w≠x) (n3:∀ps,HO.tbl ps≠x) (n4:∀c,HO.own c≠x):Inv X pins σ (upd H a (.frz o x)) s:=by
 have ok:=I.hok a _ h
 have ntup:∀b u,H b=some u->u≠x->b≠a:=λb u q d z=>by subst z;rw[h] at q;cases q;exact d rfl
 have st:∀{b:Addr} {u:HO},ObjOk X.prog X.w H s.heap b u->ObjOk X.prog X.w (upd H a (.frz o x)) s.heap b u:=λ{b u} q =>
  q.stay (λc v _ w=>w) (λc w=>by rw[aI (ntup c _ w (n4 _))];exact w) λc ys w=>by rw[aI (ntup c _ w (n1 _))];exact w
 refine I.un (t':=s.toks) (h':=s.heap) ⟨λb o q _ _ _=>q,λb o q _ _ _=>⟨o.slots,q⟩,λb o q n _=>?_,λb o q _=>⟨o,q⟩,λb ys q=>?_,λb o u q=>?_,λb ps q=>⟨#[],?_⟩⟩ λb u q=>?_
 ·rw[aI (λz=>by subst z;rw[h] at n;cases n)];exact n
 ·rw[aI (ntup b _ q (n1 _))];exact q
 ·rw[aI (ntup b _ q (n2 _ _))];exact q
 ·rw[aI (ntup b _ q (n3 _)),q];simp
 ·by_cases hb:b=a
  ·subst hb
   rw[aX] at q;cases q
   exact⟨ho,st ok⟩
  ·rw[aI hb] at q
   exact st (I.hok b u q)
theorem Inv.freeze {a:Addr} {xs:List V} (I:Inv X pins σ H s) (h:H a=some (.lst xs)):∃o,Inv X pins σ (upd H a (.frz o (.lst xs))) s:=by
 obtain⟨z,its,n,r,e⟩:=I.hok a _ h
 exact⟨_,Inv.freezeG I h e (λ_ z=>by cases z) (λ_ _ z=>by cases z) (λ_ z=>by cases z) λ_ z=>by cases z⟩
theorem Inv.freezeD {a:Addr} {kvs:List (Key × V)} (I:Inv X pins σ H s) (h:H a=some (.dK kvs)):∃o,Inv X pins σ (upd H a (.frz o (.dK kvs))) s:=by
 obtain⟨_,_,vs,r,ob,es,ep,e,_⟩:=I.hok a _ h
 exact⟨ob,Inv.freezeG I h e (λ_ z=>by cases z) (λ_ _ z=>by cases z) (λ_ z=>by cases z) λ_ z=>by cases z⟩
theorem Same.upd_new {a:Addr} {o:HO} {H H1:Hp} (s:Same H H1) (n:H a=none):Same H (upd H1 a o):=λb u h=>by
 rw[aI (aQ h n)];exact s b u h
theorem nD:∀(kvs:List (Int × List D)) {kws:List (Key × V)} {as:List Addr} {H:Hp},Inv X pins σ H s->Dcl X.K X.H₀ H kvs kws as ->
  ∃H' vs,Inv X pins σ H' s/\kws=tU (kvs.map (·.1)) vs/\kvs.length=vs.length/\Reps X.K H' (kvs.map λp=>.lst p.2) vs/\Keep H H'/\∀b o,H b=some o->b ∉ as->H' b=some o
 | [],_,_,H,I,t=>by cases t;exact⟨H,[],I,rfl,rfl,.nil,Keep.refl H,λb o h _=>h⟩
 | (k,ds)::kvs,_,_,H,I,t=>by
  cases t with
  | @cons _ b vs _ _ kws as h h0 r n t =>
   obtain⟨o,I1⟩:=Inv.freeze I h
   have kp:Keep H (upd H b (.frz o (.lst vs))):=⟨λc ys q=>by rw[aI (jP q h (by intro z;cases z))];exact q,λc o u q=>by rw[aI (jP q h (by intro z;cases z))];exact q⟩
   obtain⟨H',us,I2,e1,e2,e3,k2,e4⟩:=nD kvs I1 (t.keep kp λa m o e=>by rw[aI (by rintro rfl;exact n m)];exact e)
   subst e1
   refine⟨H',.ref b::us,I2,rfl,by simp[e2],.cons (.lst (.inl ⟨o,k2.frzs _ _ _ aX⟩) (r.keep (kp.trans k2))) e3,kp.trans k2,λc u q m=>?_⟩
   rw[List.mem_cons,not_or] at m
   exact e4 c u (by rw[aI m.1];exact q) m.2
noncomputable def S.fz:S->S
 | .own ds=>.d (.lst ds)
 | .dcl kvs=>.d (.dct (kvs.map (·.1)) (kvs.map λp=>.lst p.2))
 | x=>x
theorem StOk.fz {ρ:En} {i:Nat} {x:S} (so:StOk X ρ σ H) (I:Inv X pins σ H s) (e:ρ[i]? = some (some x)):∃H',Inv X pins σ H' s/\StOk X (ρ.set i (some x.fz)) σ H'/\Keep H H':=by
 obtain⟨v,h1,h2⟩:=so.rel i _ e
 cases x with
 | d x=>exact⟨H,I,by rw[show S.fz (.d x) = .d x from rfl,fR e];exact so,Keep.refl H⟩
 | own ds =>
  obtain⟨p,vs,ev,hp,h0,rr⟩:=id h2
  subst ev
  obtain⟨o,I2⟩:=Inv.freeze I hp
  have kp:Keep H (upd H p (.frz o (.lst vs))):=⟨λc ys q=>by rw[aI (jP q hp (by intro z;cases z))];exact q,λc o u q=>by rw[aI (jP q hp (by intro z;cases z))];exact q⟩
  obtain⟨so2,k2⟩:=so.updW (x':=.d (.lst ds)) (v':=.ref p) e h1 (H':=upd H p (.frz o (.lst vs))) (λb o h w=>by rw[aI (by rintro rfl;exact w rfl)];exact h) (.lst (.inl ⟨o,aX⟩) (rr.keep kp)) λa o=>o.elim
  rw[fR h1] at so2
  exact⟨_,I2,so2,k2⟩
 | dcl kvs =>
  obtain⟨p,kws,as,ev,hp,h0,t⟩:=id h2
  subst ev
  obtain⟨H1,vs,I1,e1,e2,e3,k1,e4⟩:=nD kvs I t
  have np:p ∉ as:=λm=>by obtain⟨_,us,q⟩:=t.at m;rw[hp] at q;cases q
  have hp1:=e4 p _ hp np
  obtain⟨o,I2⟩:=Inv.freezeD I1 hp1
  have kp:Keep H1 (upd H1 p (.frz o (.dK kws))):=⟨λc ys q=>by rw[aI (jP q hp1 (by intro z;cases z))];exact q,λc o u q=>by rw[aI (jP q hp1 (by intro z;cases z))];exact q⟩
  obtain⟨so2,k2⟩:=so.updW (x':=.d (.dct (kvs.map (·.1)) (kvs.map λp=>.lst p.2))) (v':=.ref p) e h1 (H':=upd H1 p (.frz o (.dK kws)))
   (λb o h w=>by
    rw[aI (by rintro rfl;exact w ⟨_,kws,rfl,hp,.inl rfl⟩)]
    exact e4 b o h λm=>w ⟨p,kws,rfl,hp,.inr (t.mem.mp m)⟩)
   (.dct (by rw[aX,e1]) (by simp[e2]) (e3.keep kp)) λa o=>o.elim
  rw[fR h1] at so2
  exact⟨_,I2,so2,k2⟩
end
structure Sz (n:Nat):Prop where
 ok:n<=sizeLine
noncomputable abbrev RE:=En->(D->Prop)->Prop
noncomputable abbrev RT:=En->(Bool->Prop)->Prop
noncomputable abbrev RA:=En->(List D->Prop)->Prop
structure DEnds where
 nx:En->Prop
 rt:D->Prop
 bk:En->Prop:=λ_=>False
 ct:En->Prop:=λ_=>False
noncomputable abbrev RS:=DEnds->En->Prop
noncomputable abbrev RG:=D->En->(En->Prop)->Prop
noncomputable def FS (X:Cx) (t:RE):TE:=λσ H Q=>∃ρ P,StOk X ρ σ H/\t ρ P/\∀d v H',P d->Same H H'->Rep X.K H' d v->Q v H'
noncomputable def FR (X:Cx) (t:RE):TE:=λσ H Q=>∃ρ P,StOk X ρ σ H/\t ρ P/\∀d v H',P d->Same H H'->RepB X.K H' d v->Q v H'
noncomputable def NS (X:Cx) (t:RA):TE:=λσ H Q=>∃ρ P,StOk X ρ σ H/\t ρ P/\∀ds p vs H1,P ds->Same H H1->H1 p=none->Reps X.K H1 ds vs->Q (.ref p) (upd H1 p (.lst vs))
noncomputable def KF (X:Cx) (t:RT):TT:=λσ H Q=>∃ρ P,StOk X ρ σ H/\t ρ P/\∀b H',P b->Same H H'->Q b H'
noncomputable def NP (X:Cx) (t:RA):TA:=λσ H Q=>∃ρ P,StOk X ρ σ H/\t ρ P/\∀ds vs H',P ds->Same H H'->Reps X.K H' ds vs->Q vs H'
noncomputable def KE (X:Cx) (t:RS):TS:=λDe σ H=>∃ρ E,StOk X ρ σ H/\t E ρ/\(∀ρ' σ' H',E.nx ρ'->Keep H H'->StOk X ρ' σ' H'->De.nx σ' H')/\(∀d v H',E.rt d->Keep H H'->Same X.H₀ H'->Rep X.K H' d v->De.rt v H') /\
 (∀ρ' σ' H',E.bk ρ'->Keep H H'->StOk X ρ' σ' H'->De.bk σ' H')/\∀ρ' σ' H',E.ct ρ'->Keep H H'->StOk X ρ' σ' H'->De.ct σ' H'
noncomputable def NQ (X:Cx) (g:RG):TG:=λv σ H Q=>∃d ρ P,Rep X.K H d v/\StOk X ρ σ H/\g d ρ P/\∀ρ' σ' H',P ρ'->Keep H H'->StOk X ρ' σ' H'->Q σ' H'
theorem bX {α β:Type} {A B C:α->β->Prop} {R:Prop} (h:∃ρ P,A ρ P/\B ρ P/\C ρ P) (k:∀ρ P,A ρ P->B ρ P->C ρ P->R):R:=let ⟨ρ,P,a,b,c⟩:=h;k ρ P a b c
theorem vE {α β γ:Type} {A B C E:γ->α->β->Prop} {R:Prop} (h:∃d ρ P,A d ρ P/\B d ρ P/\C d ρ P/\E d ρ P) (k:∀d ρ P,A d ρ P->B d ρ P->C d ρ P->E d ρ P->R):R:=let ⟨d,ρ,P,a,b,c,e⟩:=h;k d ρ P a b c e
theorem eI {α β:Type} {A B C E F G:α->β->Prop} {R:Prop} (h:∃ρ P,A ρ P/\B ρ P/\C ρ P/\E ρ P/\F ρ P/\G ρ P) (k:∀ρ P,A ρ P->B ρ P->C ρ P->E ρ P->F ρ P->G ρ P->R):R:=let ⟨ρ,P,a,b,c,e,f,g⟩:=h;k ρ P a b c e f g
noncomputable def DE (X:Cx) (e:Expr) (t:RE):Prop:=PE X e (FS X t)
noncomputable def DB (X:Cx) (e:Expr) (t:RE):Prop:=PE X e (FR X t)
noncomputable def DO (X:Cx) (e:Expr) (t:RA):Prop:=PE X e (NS X t)
noncomputable def DT (X:Cx) (e:Expr) (t:RT):Prop:=PT X e (KF X t)
noncomputable def DW (X:Cx) (e:Expr) (t:RT):Prop:=PW X e (KF X t)
noncomputable def DA (X:Cx) (es:List Expr) (t:RA):Prop:=PA X es (NP X t)
noncomputable def DS (X:Cx) (st:Stmt) (t:RS):Prop:=PS X st (KE X t)
noncomputable def DSs (X:Cx) (sts:List Stmt) (t:RS):Prop:=PSs X sts (KE X t)
noncomputable def DG (X:Cx) (tg:Expr) (g:RG):Prop:=PG X tg (NQ X g)
theorem PE.mono {X:Cx} {e:Expr} {t t':TE} (h:PE X e t) (m:∀σ H Q,t' σ H Q->t σ H Q):PE X e t':=λpins s σ H Q I q=>h pins s σ H Q I (m σ H Q q)
theorem PT.mono {X:Cx} {e:Expr} {t t':TT} (h:PT X e t) (m:∀σ H Q,t' σ H Q->t σ H Q):PT X e t':=λpins s σ H Q I q=>h pins s σ H Q I (m σ H Q q)
theorem PW.mono {X:Cx} {e:Expr} {t t':TT} (h:PW X e t) (m:∀σ H Q,t' σ H Q->t σ H Q):PW X e t':=λwh pins s σ H Q I q=>h wh pins s σ H Q I (m σ H Q q)
theorem PA.mono {X:Cx} {e:List Expr} {t t':TA} (h:PA X e t) (m:∀σ H Q,t' σ H Q->t σ H Q):PA X e t':=λpos pins s σ H Q I q=>h pos pins s σ H Q I (m σ H Q q)
theorem PS.mono {X:Cx} {e:Stmt} {t t':TS} (h:PS X e t) (m:∀D σ H,t' D σ H->t D σ H):PS X e t':=λpins s σ H D I q=>h pins s σ H D I (m D σ H q)
theorem PSs.mono {X:Cx} {e:List Stmt} {t t':TS} (h:PSs X e t) (m:∀D σ H,t' D σ H->t D σ H):PSs X e t':=λpins s σ H D I q=>h pins s σ H D I (m D σ H q)
theorem PG.mono {X:Cx} {e:Expr} {t t':TG} (h:PG X e t) (m:∀v σ H Q,t' v σ H Q->t v σ H Q):PG X e t':=λpins s σ H v u Q I r q=>h pins s σ H v u Q I r (m v σ H Q q)
section
variable {X:Cx} {e a b c:Expr} {pos:Pos}
theorem DE.bor {t:RE} (h:DE X e t):DB X e t:=PE.mono h λσ H Q hh=>bX hh λρ P st q k=>⟨ρ,P,st,q,λd v H' p s r=>k d v H' p s (.inl r)⟩
theorem DO.val {t:RA} (h:DO X e t):DE X e (λρ Q=>t ρ λds=>Q (.lst ds)):=by
 intro pins s σ H Q I hh_0
 obtain⟨ρ,P,st,q,k⟩:=hh_0
 refine thn (h pins s σ H (λv H'=>∃ds p vs H1,v = .ref p/\H'=upd H1 p (.lst vs)/\P (.lst ds)/\Same H H1/\H1 p=none/\Reps X.K H1 ds vs) I ⟨ρ,_,st,q,λds p vs H1 hp s1 hn r=>⟨ds,p,vs,H1,rfl,rfl,hp,s1,hn,r⟩⟩) λu s1 ⟨v,H',I',rv,ds,p,vs,H1,ev,eH,hp,sm,hn,r⟩=>?_
 subst ev eH
 obtain⟨o,I2⟩:=Inv.freeze I' (a:=p) (xs:=vs) aX
 have sm2:Same H1 (upd (upd H1 p (.lst vs)) p (.frz o (.lst vs))):=λb u e=>by rw[aI (aQ e hn),aI (aQ e hn)];exact e
 exact⟨.ref p,_,I2,rv,k (.lst ds) (.ref p) _ hp (sm.trans sm2) (.lst (.inl ⟨o,aX⟩) (r.keep (.of sm2)))⟩
theorem DO.bor {t:RA} (h:DO X e t):DB X e (λρ Q=>t ρ λds=>Q (.lst ds)):=h.val.bor
noncomputable def aK (i:Nat):RE:=λρ Q=>match ρ[i]? with
 | some (some (.d d))=>Q d
 | _=>False
noncomputable def aD (i:Nat):RE:=λρ Q=>match ρ[i]? with
 | some (some (.d d))=>Q d
 | some (some (.own xs))=>Q (.lst xs)
 | _=>False
theorem dv (i:Nat) {x:Str} (hN:X.N[i]? = some x:=by rfl) (hv:Vis X.env.scope x:=by walk_at "vis") (hd:(x == ("__debug__":Str))=false:=by decide)
  (hcd:(x == ("__classdict__":Str))=false:=by decide):DE X (.Name x pos) (aK i):=by
 refine PE.mono (pv i hN hv hd hcd) λσ H Q hh=>bX hh λρ P st q k=>?_
 unfold aK at q
 split at q
 ·rename_i d e
  obtain⟨v,h1,h2⟩:=st.rel i _ e
  exact⟨v,h1,k d v H q (Same.refl H) h2⟩
 ·exact q.elim
theorem dvb (i:Nat) {x:Str} (hN:X.N[i]? = some x:=by rfl) (hv:Vis X.env.scope x:=by walk_at "vis") (hd:(x == ("__debug__":Str))=false:=by decide)
  (hcd:(x == ("__classdict__":Str))=false:=by decide):DB X (.Name x pos) (aD i):=by
 refine PE.mono (pv i hN hv hd hcd) λσ H Q hh=>bX hh λρ P st q k=>?_
 unfold aD at q
 split at q
 ·rename_i d e
  obtain⟨v,h1,h2⟩:=st.rel i _ e
  exact⟨v,h1,k _ v H q (Same.refl H) (.inl h2)⟩
 ·rename_i xs e
  obtain⟨v,h1,h2⟩:=st.rel i _ e
  obtain⟨a,vs,e1,e2,_,r⟩:=h2
  exact⟨v,h1,k _ v H q (Same.refl H) (.inr ⟨xs,a,vs,rfl,e1,e2,r⟩)⟩
 ·exact q.elim
noncomputable def rC (d:D):RE:=λ_ Q=>Q d
theorem aE {i:Int} {j:Nat}:DE X (.Constant (.int i) j pos) (rC (.int i)):=PE.mono zT λσ H Q hh=>bX hh λρ P st q k=>k _ _ H q (Same.refl H) (.int i)
theorem pA {i:Bool} {j:Nat}:DE X (.Constant (.bool i) j pos) (rC (.bl i)):=PE.mono NZ λσ H Q hh=>bX hh λρ P st q k=>k _ _ H q (Same.refl H) (.bl i)
noncomputable abbrev R22:=D->D->(D->Prop)->Prop
noncomputable def KD (X:Cx) (r:R22):R2:=λx y H Q=>∃d e P,RepB X.K H d x/\RepB X.K H e y/\r d e P/\∀z v H',P z->Same H H'->Rep X.K H' z v->Q v H'
noncomputable def OpD (X:Cx) (f:Value->Value->Sem Value) (r:R22):Prop:=OpR X f (KD X r)
noncomputable def r2 (r:R22) (ta tb:RE):RE:=λρ Q=>ta ρ λx=>tb ρ λy=>r x y Q
variable {ta tb tc:RE}
theorem FQ {r:R22} {σ:St} {H:Hp} {Q:VK} (h:FS X (r2 r ta tb) σ H Q):tOp (KD X r) (FR X ta) (FR X tb) σ H Q:=by
 obtain⟨ρ,P,st,ht,hP⟩:=h
 exact⟨ρ,_,st,ht,λx v H1 h1 s1 r1=>⟨ρ,_,st.ext s1,h1,λy u H2 h2 s2 r2=>⟨x,y,P,r1.same s2,r2,h2,λz w H' hz s3 r3=>hP z w H' hz ((s1.trans s2).trans s3) r3⟩⟩⟩
theorem aM {op:Operator} {r:R22} (ho:OpD X (binaryOp op) r) (ha:DB X a ta) (hb:DB X b tb):DE X (.BinOp a op b pos) (r2 r ta tb):=PE.mono (OB ho ha hb) λσ H Q h=>FQ h
theorem yX {op:CmpOp} {r:R22} (ho:OpD X (compareOp op) r) (ha:DB X a ta) (hb:DB X b tb) (hm:behindInMarks op b=false:=by exact FV _):DE X (.Compare a [op] [b] pos) (r2 r ta tb):=PE.mono (JA ho ha hb hm) λσ H Q h=>FQ h
noncomputable def bD (t:RE):RT:=λρ Q=>t ρ λd=>match d with
 | .bl k=>Q k
 | _=>False
theorem bV {op:CmpOp} {r:R22} (ho:OpD X (compareOp op) r) (ha:DB X a ta) (hb:DB X b tb) (hm:behindInMarks op b=false:=by exact FV _):DT X (.Compare a [op] [b] pos) (bD (r2 r ta tb)):=by
 refine PT.mono (JI ho ha hb hm) λσ H Q hh=>bX hh λρ P st q k=>?_
 refine FQ (Q:=λx H'=>∃k,x = .bl k/\Q k H') ⟨ρ,_,st,q,λd v H' hd s r=>?_⟩
 cases d with
 | bl b=>exact⟨b,r.bl_inv,k b H' hd s⟩
 | _=>exact hd.elim
theorem jA (h:DE X e ta) (he:∀whole,isTrue e X.env whole=(do let v <-whole;standAt e.pos;holding [v] (truthy v)):=by intro _;rfl):DT X e (bD ta):=by
 refine PT.mono (MH h he) λσ H Q hh=>bX hh λρ P st q k=>?_
 refine⟨ρ,_,st,q,λd v H' hd s r=>?_⟩
 cases d with
 | bl b=>exact⟨b,r.bl_inv,k b H' hd s⟩
 | _=>exact hd.elim
noncomputable def xP (t u:RT):RT:=λρ Q=>t ρ λc=>if c=true then u ρ Q else Q false
noncomputable def rOr (t u:RT):RT:=λρ Q=>t ρ λc=>if c=true then Q true else u ρ Q
noncomputable def jF (t:RT):RT:=λρ Q=>t ρ λc=>Q (!c)
variable {tA tB:RT} {rest:List Expr}
theorem HZ (ha:DT X a tA):DW X (.BoolOp .And [a] pos) tA:=JK ha
theorem qZ (ha:DT X a tA):DW X (.BoolOp .Or [a] pos) tA:=MJ ha
theorem LF (ha:DT X a tA) (hb:DW X (.BoolOp .And (b::rest) pos) tB):DW X (.BoolOp .And (a::b::rest) pos) (xP tA tB) :=
 PW.mono (MI ha hb) λσ H Q hh=>bX hh λρ P st q k=>⟨ρ,_,st,q,λc H1 hc s1=>by
  cases c with
  | true=>rw[if_pos rfl] at hc ⊢;exact⟨ρ,P,st.ext s1,hc,λd H2 hd s2=>k d H2 hd (s1.trans s2)⟩
  | false=>rw[if_neg Bool.false_ne_true] at hc ⊢;exact k false H1 hc s1⟩
theorem mX (ha:DT X a tA) (hb:DW X (.BoolOp .Or (b::rest) pos) tB):DW X (.BoolOp .Or (a::b::rest) pos) (rOr tA tB) :=
 PW.mono (OE ha hb) λσ H Q hh=>bX hh λρ P st q k=>⟨ρ,_,st,q,λc H1 hc s1=>by
  cases c with
  | false=>rw[if_neg Bool.false_ne_true] at hc ⊢;exact⟨ρ,P,st.ext s1,hc,λd H2 hd s2=>k d H2 hd (s1.trans s2)⟩
  | true=>rw[if_pos rfl] at hc ⊢;exact k true H1 hc s1⟩
theorem DW.tst (h:DW X e tA):DT X e tA:=PW.pt h
theorem iZ (ha:DT X a tA):DT X (.UnaryOp .Not a pos) (jF tA):=PT.mono (MG ha) λσ H Q hh=>bX hh λρ P st q k=>⟨ρ,_,st,q,λc H1 hc s1=>k _ H1 hc s1⟩
noncomputable def nG (ta tb:RE):RE:=λρ Q=>ta ρ λd=>match d with
 | .bl k=>if k=true then tb ρ Q else Q (.bl false)
 | _=>False
noncomputable def DC (ta tb:RE):RE:=λρ Q=>ta ρ λd=>match d with
 | .bl k=>if k=true then Q (.bl true) else tb ρ Q
 | _=>False
noncomputable def pH (ta:RE):RE:=λρ Q=>ta ρ λd=>match d with
 | .bl k=>Q (.bl (!k))
 | _=>False
theorem EO {op} (h:DE X a ta):DE X (.BoolOp op [a] pos) ta:=LY h
theorem EN (ha:DE X a ta) (hb:DE X (.BoolOp .And (b::rest) pos) tb):DE X (.BoolOp .And (a::b::rest) pos) (nG ta tb) :=
 PE.mono (LW ha hb) λσ H Q hh=>bX hh λρ P st q k=>⟨ρ,_,st,q,λd v H1 hd s1 r=>by
  cases d with
  | bl c =>
   refine⟨c,r.bl_inv,?_⟩
   cases c with
   | true=>exact⟨ρ,P,st.ext s1,hd,λd v H2 hd s2=>k d v H2 hd (s1.trans s2)⟩
   | false=>exact k (.bl false) (.bl false) H1 hd s1 (.bl false)
  | _=>exact hd.elim⟩
theorem KY (ha:DE X a ta):DE X (.UnaryOp .Not a pos) (pH ta) :=
 PE.mono (LX ha) λσ H Q hh=>bX hh λρ P st q k=>⟨ρ,_,st,q,λd v H1 hd s1 r=>by
  cases d with
  | bl c=>exact⟨c,r.bl_inv,k (.bl !c) (.bl !c) H1 hd s1 (.bl _)⟩
  | _=>exact hd.elim⟩
noncomputable def rIf (t:RT) (ta tb:RE):RE:=λρ Q=>t ρ λc=>if c=true then ta ρ Q else tb ρ Q
noncomputable def NU (X:Cx) (r:D->(D->Prop)->Prop):V->Hp->VK->Prop:=λx H Q=>∃d P,RepB X.K H d x/\r d P/\∀z v H',P z->Same H H'->Rep X.K H' z v->Q v H'
noncomputable def UnD (X:Cx) (f:Value->Sem Value) (r:D->(D->Prop)->Prop):Prop:=UnR X f (NU X r)
noncomputable def r1 (r:D->(D->Prop)->Prop) (ta:RE):RE:=λρ Q=>ta ρ λx=>r x Q
theorem ER {op:UnaryOp} {r:D->(D->Prop)->Prop} (ho:UnD X (unaryOp op) r) (ha:DB X a ta):DE X (.UnaryOp op a pos) (r1 r ta) :=
 PE.mono (OC ho ha) λσ H Q hh=>bX hh λρ P st q k=>⟨ρ,_,st,q,λd v H1 hd s1 rr=>⟨d,P,rr,hd,λz v H2 hz s2 r2=>k z v H2 hz (s1.trans s2) r2⟩⟩
noncomputable def aG:RA:=λ_ Q=>Q []
noncomputable def aA (t:RE) (u:RA):RA:=λρ Q=>t ρ λx=>u ρ λxs=>Q (x::xs)
variable {es:List Expr} {t:RA}
theorem aH:DA X [] aG:=PA.mono oJ λσ H Q hh=>bX hh λρ P st q k=>k [] [] H q (Same.refl H) .nil
theorem aB (ha:DE X e ta) (hr:DA X es t) (hs:starEach (e::es) X.env=(false,eval e X.env)::starEach es X.env:=by rfl):DA X (e::es) (aA ta t) :=
 PA.mono (gY ha hr hs) λσ H Q hh=>bX hh λρ P st q k=>⟨ρ,_,st,q,λd v H1 hd s1 r1=>⟨ρ,_,st.ext s1,hd,λds vs H2 hds s2 r2=>k (d::ds) (v::vs) H2 hds (s1.trans s2) (.cons (r1.keep (.of s2)) r2)⟩⟩
noncomputable def fV (t:RA):RE:=λρ Q=>t ρ λds=>Sz ds.length/\Q (.tup ds)
theorem eG {x1} (h:DA X es t):DE X (.Tuple es x1 pos) (fV t) :=
 PE.mono (LZ h) λσ H Q hh=>bX hh λρ P st q k=>⟨ρ,_,st,q,λds vs H1 hd s1 r=>⟨by rw[<-r.length];exact hd.1.ok,λp hp=>k (.tup ds) (.ref p) _ hd.2 (Same.upd_new s1 (s1.free hp)) (by
  have sm:Same H1 (upd H1 p (.tup vs)):=λb u e=>by rw[aI (aQ e hp)];exact e
  exact .tup aX (r.keep (.of sm)))⟩⟩
noncomputable def dM (t:RA):RA:=λρ Q=>t ρ λds=>Sz ds.length/\Q ds
theorem cB (h:DA X es t):DO X (.List es pos) (dM t) :=
 PE.mono (GD h) λσ H Q hh=>bX hh λρ P st q k=>⟨ρ,_,st,q,λds vs H1 hd s1 r=>⟨by rw[<-r.length];exact hd.1.ok,λp hp=>k ds p vs H1 hd.2 s1 hp r⟩⟩
end
section
variable {X:Cx} {e a b c:Expr} {pos:Pos} {st:Stmt} {rest:List Stmt} {t u:RS} {te:RE} {tA:RT}
noncomputable def aV (t u:RS):RS:=λE ρ=>t { E with nx:=u E } ρ
noncomputable def bS:RS:=λE ρ=>E.nx ρ
theorem bI:DSs X [] bS:=PSs.mono JH λDe σ H hh=>eI hh λρ E st q n r b c=>n ρ σ H q (Keep.refl H) st
theorem aL (h:DS X st t):DSs X [st] t:=BH h
theorem aF (h1:DS X st t) (h2:DSs X rest u):DSs X (st::rest) (aV t u) :=
 PSs.mono (xM h1 h2) λDe σ H hh=>eI hh λρ E st q n r b c=>⟨ρ,_,st,q,λρ' σ' H' h k s=>⟨ρ',E,s,h,λρ2 σ2 H2 x k2=>n ρ2 σ2 H2 x (k.trans k2),λd v H2 x k2=>r d v H2 x (k.trans k2),λρ2 σ2 H2 x k2=>b ρ2 σ2 H2 x (k.trans k2),λρ2 σ2 H2 x k2=>c ρ2 σ2 H2 x (k.trans k2)⟩,r,b,c⟩
theorem wP:DS X st (λ_ _=>False):=PS.mono GI λDe σ H ⟨ρ,E,st,q,_⟩=>q
noncomputable def bN (te:RE):RS:=λE ρ=>te ρ E.rt
theorem bE (h:DE X e te):DS X (.Return (some e) pos) (bN te) :=
 PS.mono (GJ h) λDe σ H hh=>eI hh λρ E st q n r b c=>⟨ρ,_,st,q,λd v H1 hd s1 rr=>r d v H1 hd (.of s1) (st.same.trans s1) rr⟩
noncomputable def tY (te:RE):RS:=λE ρ=>te ρ λ_=>E.nx ρ
noncomputable def cU (c:RT) (t u:RS):RS:=λE ρ=>c ρ λk=>if k=true then t E ρ else u E ρ
theorem dE {sa sb:List Stmt} (hc:DT X c tA) (ha:DSs X sa t) (hb:DSs X sb u):DS X (.If c sa sb pos) (cU tA t u) :=
 PS.mono (OD hc ha hb) λDe σ H hh=>eI hh λρ E st q n r b c=>⟨ρ,_,st,q,λk H1 hk s1=>by
  cases k with
  | true=>rw[if_pos rfl] at hk ⊢;exact⟨ρ,E,st.ext s1,hk,λρ2 σ2 H2 x k2=>n ρ2 σ2 H2 x ((Keep.of s1).trans k2),λd v H2 x k2=>r d v H2 x ((Keep.of s1).trans k2),λρ2 σ2 H2 x k2=>b ρ2 σ2 H2 x ((Keep.of s1).trans k2),λρ2 σ2 H2 x k2=>c ρ2 σ2 H2 x ((Keep.of s1).trans k2)⟩
  | false=>rw[if_neg Bool.false_ne_true] at hk ⊢;exact⟨ρ,E,st.ext s1,hk,λρ2 σ2 H2 x k2=>n ρ2 σ2 H2 x ((Keep.of s1).trans k2),λd v H2 x k2=>r d v H2 x ((Keep.of s1).trans k2),λρ2 σ2 H2 x k2=>b ρ2 σ2 H2 x ((Keep.of s1).trans k2),λρ2 σ2 H2 x k2=>c ρ2 σ2 H2 x ((Keep.of s1).trans k2)⟩⟩
noncomputable def aR (i:Nat):RG:=λd ρ Q=>Q (ρ.set i (some (.d d)))
theorem bF {i:Nat} {x:Str} (hN:X.N.Nodup) (hi:X.N[i]? = some x:=by rfl) (hx:Loc X.env.scope x:=by walk_at "vis") (hf:X.fn x=true\/X.env.scope.names.lookup x=some .local:=by walk_at "loc"):DG X (.Name x pos) (aR i) :=
 PG.mono (JC hN hi hx hf) λv σ H Q hh=>vE hh λd ρ P r st q k=>k _ _ H q (Keep.refl H) (st.set_d r)
noncomputable abbrev RGs:=List D->En->(En->Prop)->Prop
noncomputable def LU (X:Cx) (g:RGs):TGs:=λvs σ H Q=>∃ds ρ P,Reps X.K H ds vs/\StOk X ρ σ H/\g ds ρ P/\∀ρ' σ' H',P ρ'->Keep H H'->StOk X ρ' σ' H'->Q σ' H'
noncomputable def DGs (X:Cx) (ts:List Expr) (g:RGs):Prop:=PGs X ts (LU X g)
theorem PGs.mono {X:Cx} {e:List Expr} {t t':TGs} (h:PGs X e t) (m:∀v σ H Q,t' v σ H Q->t v σ H Q):PGs X e t':=λpins s σ H v u Q I r q=>h pins s σ H v u Q I r (m v σ H Q q)
noncomputable def hV:RGs:=λds ρ Q=>match ds with
 | []=>Q ρ
 | _=>False
noncomputable def cQ (g:RG) (u:RGs):RGs:=λds ρ Q=>match ds with
 | []=>False
 | d::r=>g d ρ λρ'=>u r ρ' Q
theorem qK:DGs X [] hV:=PGs.mono JD λvs σ H Q hh=>vE hh λds ρ P r st q k=>by
 cases r with
 | nil=>exact⟨rfl,k ρ σ H q (Keep.refl H) st⟩
 | cons _ _=>exact q.elim
theorem fL {es:List Expr} {g:RG} {u:RGs} (h1:DG X e g) (h2:DGs X es u) (hs:(assignEach (e::es) X.env).map (·.2)=assign e X.env::(assignEach es X.env).map (·.2):=by rfl):DGs X (e::es) (cQ g u) :=
 PGs.mono (GF h1 h2 hs) λvs σ H Q hh=>vE hh λds ρ P r st q k=>by
  cases r with
  | nil=>exact q.elim
  | cons r rs =>
   refine⟨_,_,rfl,_,ρ,_,r,st,q,λρ' σ' H' hq k1 st1=>⟨_,ρ',P,rs.keep k1,st1,hq,λρ2 σ2 H2 p k2 s2=>k ρ2 σ2 H2 p (k1.trans k2) s2⟩⟩
noncomputable def hX (n:Nat) (g:RGs):RG:=λd ρ Q=>match d with
 | .tup ds=>ds.length=n/\g ds ρ Q
 | _=>False
theorem uY {es:List Expr} {k:Nat} {g:RGs} {n:Nat} (hc:X.calm=true) (h:DGs X es g) (hn:(assignEach es X.env).length=n:=by rfl) (hst:(assignEach es X.env).findIdx? (·.1)=none:=by rfl):DG X (.Tuple es k pos) (hX n g) :=
 PG.mono (MB hc h hn hst) λv σ H Q hh=>vE hh λd ρ P r st q kk=>by
  cases d with
  | tup ds =>
   cases r with
   | tup h r=>exact⟨_,_,rfl,SqT.of h,by rw[<-r.length];exact q.1,ds,ρ,P,r,st,q.2,kk⟩
  | _=>exact q.elim
noncomputable def xQ (te:RE) (g:RG):RS:=λE ρ=>te ρ λd=>g d ρ E.nx
theorem LC {tg:Expr} {g:RG} (he:DE X e te) (hg:DG X tg g) (hs:swapsWithSole [tg] e pos.line X.env=pure false:=by rfl) (hw:swappedStores [tg] e X.env=pure none:=by rfl)
  (h1:(assignEach [tg] X.env).map (·.2)=[assign tg X.env]:=by rfl):DS X (.Assign [tg] e pos) (xQ te g) :=
 PS.mono (MD he hg hs hw h1) λDe σ H hh=>eI hh λρ E st q n r b c=>⟨ρ,_,st,q,λd v H1 hd s1 rr=>⟨d,ρ,_,rr,st.ext s1,hd,λρ2 σ2 H2 x k2 s2=>n ρ2 σ2 H2 x ((Keep.of s1).trans k2) s2⟩⟩
noncomputable def bC (i:Nat) (te:RE):RS:=λE ρ=>te ρ λd=>E.nx (ρ.set i (some (.d d)))
theorem aY {i:Nat} {x:Str} {pos':Pos} (hN:X.N.Nodup) (he:DE X e te) (hi:X.N[i]? = some x:=by rfl) (hx:Loc X.env.scope x:=by walk_at "vis") (hs:swapsWith e (some (.Name x pos')) pos.line X.env=pure false:=by rfl)
  (hf:X.fn x=true\/X.env.scope.names.lookup x=some .local:=by walk_at "loc"):DS X (.Assign [.Name x pos'] e pos) (bC i te) :=
 PS.mono (zV hN hi hx he hs hf) λDe σ H hh=>eI hh λρ E st q n r b c=>⟨ρ,_,st,q,λd v H1 hd s1 rr=>n _ _ H1 hd (.of s1) ((st.ext s1).set_d rr)⟩
noncomputable def cK (i:Nat) (t:RA):RS:=λE ρ=>t ρ λds=>E.nx (ρ.set i (some (.own ds)))
theorem dQ {i:Nat} {x:Str} {pos':Pos} {t:RA} (hN:X.N.Nodup) (he:DO X e t) (hi:X.N[i]? = some x:=by rfl) (hx:Loc X.env.scope x:=by walk_at "vis") (hs:swapsWith e (some (.Name x pos')) pos.line X.env=pure false:=by rfl)
  (hf:X.fn x=true\/X.env.scope.names.lookup x=some .local:=by walk_at "loc"):DS X (.Assign [.Name x pos'] e pos) (cK i t) :=
 PS.mono (zV hN hi hx he hs hf) λDe σ H hh=>eI hh λρ E st q n r b c=>⟨ρ,_,st,q,λds p vs H1 hd s1 hp rr=>n _ _ _ hd ((Keep.of s1).trans (.of λb o h=>by rw[aI (aQ h hp)];exact h)) ((st.ext s1).set_own hp rr)⟩
noncomputable def xT (i j:Nat) (t:RA):RS:=λE ρ=>t ρ λds=>match ds with
 | [x,y]=>E.nx ((ρ.set i (some (.d x))).set j (some (.d y)))
 | _=>False
theorem LD {i j:Nat} {x y:Str} {t:RA} {px py pt:Pos} {kt k2 pt2} (hc:X.calm=true) (hN:X.N.Nodup) (ha:DA X [a,b] t) (hi:X.N[i]? = some x:=by rfl) (hj:X.N[j]? = some y:=by rfl) (hij:i≠j:=by decide)
  (hx:X.env.scope.names.lookup x=some .local:=by rfl) (hy:X.env.scope.names.lookup y=some .local:=by rfl)
  (hw:swappedStores [.Tuple [.Name x px,.Name y py] kt pt] (.Tuple [a,b] k2 pt2) X.env=pure (some [x,y]):=by rfl)
  (hs:swapsWithSole [.Tuple [.Name x px,.Name y py] kt pt] (.Tuple [a,b] k2 pt2) pos.line X.env=pure false:=by rfl) :
  DS X (.Assign [.Tuple [.Name x px,.Name y py] kt pt] (.Tuple [a,b] k2 pt2) pos) (xT i j t) :=
 PS.mono (MF hc hN hi hj hij hx hy ha hw hs) λDe σ H hh=>eI hh λρ E st q n r b c=>⟨ρ,_,st,q,λds vs H1 hd s1 rr=>by
  cases rr with
  | nil=>exact hd.elim
  | cons r1 t1 =>
   cases t1 with
   | nil=>exact hd.elim
   | cons r2 t2 =>
    cases t2 with
    | nil=>exact⟨_,_,rfl,n _ _ H1 hd (.of s1) (((st.ext s1).set_d r1).set_d r2)⟩
    | cons _ _=>exact hd.elim⟩
noncomputable def eF (i:Nat) (ρ:En):En:=match ρ[i]? with
 | some (some x)=>ρ.set i (some x.fz)
 | _=>ρ
theorem kI (i:Nat) (h:DS X st t):DS X st (λE ρ=>t E (eF i ρ)):=by
 intro pins s σ H De I ⟨ρ,E,so,q,n,r,b,c⟩
 have q:t E (eF i ρ):=q
 unfold eF at q
 split at q
 ·rename_i x e
  obtain⟨H2,I2,so2,kp⟩:=so.fz I e
  exact h pins s σ _ De I2 ⟨_,E,so2,q,λρ2 σ2 H2 x k2=>n ρ2 σ2 H2 x (kp.trans k2),λd v H2 x k2=>r d v H2 x (kp.trans k2),λρ2 σ2 H2 x k2=>b ρ2 σ2 H2 x (kp.trans k2),λρ2 σ2 H2 x k2=>c ρ2 σ2 H2 x (kp.trans k2)⟩
 ·exact h pins s σ H De I ⟨ρ,E,so,q,n,r,b,c⟩
noncomputable def jK (c:RT) (t:RS):Nat->RS
 | 0,_,_=>False
 | n+1,E,ρ=>c ρ λk=>if k=true then t { E with nx:=jK c t n E,ct:=jK c t n E,bk:=E.nx } ρ else E.nx ρ
noncomputable def sE (c:RT) (t:RS):RS:=λE ρ=>∃n,jK c t n E ρ
theorem wQ {body:List Stmt} (hp:PassesOwn (model X.prog X.w) X.A X.env X.xe) (hc:DT X c tA) (hb:DSs X body t):DS X (.While c body [] pos) (sE tA t) :=
 PS.mono (GK hp hc hb) λDe σ H hh=>eI hh λρ E st mq n r b c=>by
  obtain⟨m,q⟩:=mq
  refine⟨λm σ' H'=>∃ρ',StOk X ρ' σ' H'/\Keep H H'/\jK tA t m E ρ',⟨m,ρ,st,Keep.refl H,q⟩,?_⟩
  rintro m σ' H' ⟨ρ',st',kp,hw⟩
  cases m with
  | zero=>exact hw.elim
  | succ m =>
   refine⟨ρ',_,st',hw,λk H1 hk s1=>?_⟩
   have kp1:=kp.trans (.of s1)
   cases k with
   | true =>
    dsimp only at hk ⊢
    rw[if_pos rfl] at hk ⊢
    refine⟨λσ2 H2=>∃ρ2,StOk X ρ2 σ2 H2/\Keep H H2/\jK tA t m E ρ2,λσ2 H2 ⟨ρ2,a1,a2,a3⟩=>⟨m,Nat.lt_succ_self m,ρ2,a1,a2,a3⟩,?_⟩
    exact⟨ρ',_,st'.ext s1,hk,λρ2 σ2 H2 x k2 s2=>⟨ρ2,s2,kp1.trans k2,x⟩,λd v H2 x k2=>r d v H2 x (kp1.trans k2),λρ2 σ2 H2 x k2=>n ρ2 σ2 H2 x (kp1.trans k2),λρ2 σ2 H2 x k2 s2=>⟨ρ2,s2,kp1.trans k2,x⟩⟩
   | false =>
    dsimp only at hk ⊢
    rw[if_neg Bool.false_ne_true] at hk ⊢
    exact n ρ' σ' H1 hk kp1 (st'.ext s1)
noncomputable def yN (X:Cx) (J:It) (xs:List D) (H0:Hp):Prop:=∀i H,Keep H0 H ->
 (∀d,xs[i]? = some d->J.go i H/\∀x H',J.yld i H x H'->Same H H'/\Rep X.K H' d x)/\(xs.length<=i->J.stop i H)
noncomputable def NR (X:Cx) (t:RA):TI:=λσ H R=>∃ρ P,StOk X ρ σ H/\t ρ P/\∀xs J H',P xs->Same H H'->yN X J xs H'->R J H'
noncomputable def DI (X:Cx) (tg iter:Expr) (t:RA):Prop:=PI X tg iter (NR X t)
theorem PI.mono {X:Cx} {tg e:Expr} {t t':TI} (h:PI X tg e t) (m:∀σ H Q,t' σ H Q->t σ H Q):PI X tg e t':=λpins s σ H Q I q=>h pins s σ H Q I (m σ H Q q)
noncomputable def sS (g:RG) (t:RS):List D->RS
 | [],E,ρ=>E.nx ρ
 | x::xs,E,ρ=>g x ρ λρ1=>t { E with nx:=sS g t xs E,ct:=sS g t xs E,bk:=E.nx } ρ1
noncomputable def cI (ti:RA) (g:RG) (t:RS):RS:=λE ρ=>ti ρ λxs=>sS g t xs E ρ
theorem dD {tg iter:Expr} {body:List Stmt} {ti:RA} {g:RG} (hp:PassesOwn (model X.prog X.w) X.A X.env X.xe) (hc:X.calm=true) (hi:DI X tg iter ti) (hg:DG X tg g) (hb:DSs X body t)
  (hs:∀x,foldedSetIterable iter X.env x=pure x:=by intro _;rfl):DS X (.For tg iter body [] pos) (cI ti g t) :=
 PS.mono (ME hp hc hi hg hb hs) λDe σ H hh=>eI hh λρ E st q n r b c=>by
  refine⟨ρ,_,st,q,λxs J H1 hx s1 ok=>?_⟩
  refine⟨λi m σ' H'=>m=xs.length-i/\i<=xs.length/\∃ρ',StOk X ρ' σ' H'/\Keep H1 H'/\sS g t (xs.drop i) E ρ',⟨xs.length,by simp,Nat.zero_le _,ρ,st.ext s1,Keep.refl H1,by simpa using hx⟩,?_⟩
  rintro i m σ' H' ⟨rfl,hi,ρ',st',kp,hf⟩
  obtain⟨o1,o2⟩:=ok i H' kp
  have kp1:Keep H H':=(Keep.of s1).trans kp
  by_cases hlt:i<xs.length
  ·have e:xs.drop i=xs[i]::xs.drop (i+1):=List.drop_eq_getElem_cons hlt
   rw[e] at hf
   obtain⟨go,yl⟩:=o1 xs[i] (List.getElem?_eq_getElem hlt)
   refine .inr ⟨go,λσ2 H2=>∃ρ2,StOk X ρ2 σ2 H2/\Keep H1 H2/\sS g t (xs.drop (i+1)) E ρ2,λσ2 H2 hh=>⟨xs.length-(i+1),by omega,rfl,hlt,hh⟩,λx H2 y=>?_⟩
   obtain⟨s2,rx⟩:=yl x H2 y
   refine⟨xs[i],ρ',_,rx,st'.ext s2,hf,λρ3 σ3 H3 h3 k3 s3=>?_⟩
   have k13:Keep H1 H3:=(kp.trans (.of s2)).trans k3
   have k03:Keep H H3:=(kp1.trans (.of s2)).trans k3
   exact⟨ρ3,_,s3,h3,λρ4 σ4 H4 x4 k4 s4=>⟨ρ4,s4,k13.trans k4,x4⟩,λd v H4 x4 k4=>r d v H4 x4 (k03.trans k4),λρ4 σ4 H4 x4 k4=>n ρ4 σ4 H4 x4 (k03.trans k4),λρ4 σ4 H4 x4 k4 s4=>⟨ρ4,s4,k13.trans k4,x4⟩⟩
  ·have e:i=xs.length:=by omega
   subst e
   rw[List.drop_length] at hf
   exact .inl ⟨o2 (Nat.le_refl _),n ρ' σ' H' hf kp1 st'⟩
end
section
variable {X:Cx} {tg e:Expr} {te:RE} {pos p:Pos}
noncomputable def riL (te:RE):RA:=λρ Q=>te ρ λd=>match d with
 | .lst ds=>Q ds
 | _=>False
theorem fX (h:DE X e te):DI X tg e (riL te):=by
 refine PI.mono (JE h) λσ H R hh=>bX hh λρ P st q k=>⟨ρ,_,st,q,λd v H1 hd s1 r=>?_⟩
 cases d with
 | lst ds =>
  cases r with
  | @lst a vs _ hz r =>
   refine⟨a,rfl,⟨vs,hz.sq⟩,k ds _ H1 hd s1 λi H2 kp=>⟨λd e=>?_,λhl=>⟨vs,(hz.keep kp).sq,by rw[<-r.length];exact hl⟩⟩⟩
   obtain⟨v,h1,h2⟩:=(r.keep kp).get e
   refine⟨⟨vs,v,(hz.keep kp).sq,h1⟩,λx H' y=>?_⟩
   obtain⟨e1,e2⟩:=y
   subst e1
   have e3:=e2 vs (hz.keep kp).sq
   rw[h1] at e3;cases e3
   exact⟨Same.refl _,h2⟩
 | _=>exact hd.elim
noncomputable def riT (te:RE):RA:=λρ Q=>te ρ λd=>match d with
 | .tup ds=>Q ds
 | _=>False
theorem ET (h:DE X e te):DI X tg e (riT te):=by
 refine PI.mono (MC h) λσ H R hh=>bX hh λρ P st q k=>⟨ρ,_,st,q,λd v H1 hd s1 r=>?_⟩
 cases d with
 | tup ds =>
  cases r with
  | @tup a vs _ hz r =>
   refine⟨a,rfl,⟨vs,SqT.of hz⟩,k ds _ H1 hd s1 λi H2 kp=>⟨λd e=>?_,λhl=>⟨vs,SqT.of (kp.tups _ _ hz),by rw[<-r.length];exact hl⟩⟩⟩
   obtain⟨v,h1,h2⟩:=(r.keep kp).get e
   refine⟨⟨vs,v,SqT.of (kp.tups _ _ hz),h1⟩,λx H' y=>?_⟩
   obtain⟨e1,e2⟩:=y
   subst e1
   have e3:=e2 vs (SqT.of (kp.tups _ _ hz))
   rw[h1] at e3;cases e3
   exact⟨Same.refl _,h2⟩
 | _=>exact hd.elim
noncomputable def cD (lo:Int) (n:Nat):List D:=(List.range n).map λk:Nat=>D.int (lo+(k:Int))
theorem zD {H0:Hp} (lo:Int) (n:Nat):yN X (Itr lo n) (cD lo n) H0:=λi H kp=>by
 refine⟨λd e=>?_,λhl=>by show n<=i;simpa [cD] using hl⟩
 unfold cD at e
 rw[List.getElem?_map] at e
 by_cases hi:i<n
 ·rw[List.getElem?_range hi] at e
  cases e
  exact⟨hi,λx H' y=>by obtain⟨rfl,rfl⟩:=y;exact⟨Same.refl _,.int _⟩⟩
 ·rw[List.getElem?_eq_none (by simpa using hi)] at e;cases e
structure RngOk (j:Int):Prop where
 lo:-(2 ^ 62)<=j
 hi:j<2 ^ 62
noncomputable def oS (t:RA):RA:=λρ Q=>t ρ λds=>match ds with
 | [.int j]=>RngOk j/\Q (cD 0 j.toNat)
 | _=>False
noncomputable def xY (t:RA):RA:=λρ Q=>t ρ λds=>match ds with
 | [.int i,.int j]=>(RngOk i/\RngOk j)/\Q (cD i (j-i).toNat)
 | _=>False
theorem gC {a:Expr} {t:RA} (hm:X.mg "range" = none) (ha:DA X [a] t) (hg:Gl X "range":=by rfl) (hs:starEach [a] X.env=[(false,eval a X.env)]:=by rfl):DI X tg (.Call (.Name "range" p) [a] [] pos) (oS t):=by
 refine PI.mono (CV hg hm ha hs) λσ H R hh=>bX hh λρ P st q k=>⟨ρ,_,st,q,λds vs H1 hd s1 r=>?_⟩
 split at hd
 ·rename_i j
  rw[Reps.ints_inv (ns:=[j]) r]
  exact⟨j,rfl,hd.1.lo,hd.1.hi,k _ _ H1 hd.2 s1 (zD 0 _)⟩
 ·exact hd.elim
theorem CA {a b:Expr} {t:RA} (hm:X.mg "range" = none) (ha:DA X [a,b] t) (hg:Gl X "range":=by rfl) (hs:starEach [a,b] X.env=[(false,eval a X.env),(false,eval b X.env)]:=by rfl) (hs2:starEach [b] X.env=[(false,eval b X.env)]:=by rfl):DI X tg (.Call (.Name "range" p) [a,b] [] pos) (xY t):=by
 refine PI.mono (CW hg hm ha hs hs2) λσ H R hh=>bX hh λρ P st q k=>⟨ρ,_,st,q,λds vs H1 hd s1 r=>?_⟩
 split at hd
 ·rename_i i j
  rw[Reps.ints_inv (ns:=[i,j]) r]
  exact⟨i,j,rfl,⟨hd.1.1.lo,hd.1.1.hi,hd.1.2.lo,hd.1.2.hi⟩,k _ _ H1 hd.2 s1 (zD i _)⟩
 ·exact hd.elim
end
noncomputable abbrev FD:=List D->(D->Prop)->Prop
noncomputable def spD (K:PySem.W.Frag) (F:FD):Sp:=λvs H Q _=>∃ds P,Reps K H ds vs/\F ds P/\∀d v H',P d->Same H H'->Rep K H' d v->Q v H'
noncomputable def aU (F:FD) (t:RA):RE:=λρ Q=>t ρ λds=>F ds Q
section
variable {X:Cx} {k:Nat} {f:Addr} {fd:FuncData} {ps:List Str} {F:FD} {x:Str} {p pos:Pos} {e:Expr} {es:List Expr} {t:RA}
theorem HR (G:FnOk X.prog X.w X.K X.mg X.base CX0 k f fd ps (spD X.K F)) (hr:Room k X.A) (hm:X.mg x=some (.ref f)) (hk:PySem.W.keepIn X.K (.ref f)=true) (hb:Binds X.K fd ps []) (ha:DA X (e::es) t) (hg:Gl X x:=by rfl)
  (hdb:(x == ("__debug__":Str))=false:=by decide) (he:starEach (e::es) X.env=(false,eval e X.env)::starEach es X.env:=by rfl) (hpl:(backTo pos (starEach es X.env)).any (·.1)=false:=by rfl) :
  DE X (.Call (.Name x p) (e::es) [] pos) (aU F t) :=
 PE.mono (BF (E:=E0) G hr hg hm hk hb .nil KI ha hdb he hpl) λσ H Q hh=>bX hh λρ P st q kk=>⟨ρ,_,st,q,λds vs H1 hd s1 r=>by
  show spD X.K F (vs++[]) H1 Q E0
  rw[List.append_nil]
  exact⟨ds,P,r,hd,λd v H2 hp s2 r2=>kk d v H2 hp (s1.trans s2) r2⟩⟩
end
noncomputable def aO (N:List Str) (ds:List D):En:=ds.map (λd=>some (.d d))++List.replicate (N.length-ds.length) none
section
variable {P:Program} {w:World} {K:PySem.W.Frag} {mg:Str->Option Value} {base:Heap}
theorem yD {X:Cx} {N:List Str} {ds:List D} {vs:List V} (r:Reps X.K X.H₀ ds vs):StOk X (aO N ds) (kU N vs) X.H₀:=by
 have hl:=r.length
 have own:∀(i:Nat) (x:S),(aO N ds)[i]? = some (some x)->∃d,x = .d d:=λi x e=>by
  unfold aO at e
  by_cases hi:i<ds.length
  ·rw[List.getElem?_append_left (by simpa using hi),List.getElem?_map,List.getElem?_eq_getElem hi] at e
   cases e;exact⟨_,rfl⟩
  ·rw[List.getElem?_append_right (by simpa using hi),List.getElem?_replicate] at e
   split at e <;> cases e
 refine⟨by simp[aO,kU,hl],Same.refl _,λi x e=>?_,λi j x y v u a e1 _ _ _ o _=>by
  obtain⟨d,rfl⟩:=own i x e1
  exact o.elim⟩
 unfold aO at e
 by_cases hi:i<ds.length
 ·rw[List.getElem?_append_left (by simpa using hi),List.getElem?_map,List.getElem?_eq_getElem hi] at e
  cases e
  obtain⟨v,h1,h2⟩:=r.get (List.getElem?_eq_getElem hi)
  refine⟨v,?_,h2⟩
  unfold kU
  rw[List.getElem?_append_left (by simpa [<-hl] using hi),List.getElem?_map,h1];rfl
 ·rw[List.getElem?_append_right (by simpa using hi),List.getElem?_replicate] at e
  split at e <;> cases e
theorem JZ {x qual:Str} {st:Stmt} {f:Addr} {fd:FuncData} {N ps:List Str} {k:Nat} {F:FD} {t:RS} (Fu:Fun K x qual st f fd) (Sc:FnScope N ps (aC st))
  (hbody:∀(cdv:Value) (A:Around) (outer:List Env) (s:Shared) (H:Hp) (E:XK),Room k (A.deeper (envOfC qual (aC st) s.heap.objs.size f cdv)) ->
   DSs (cJ CX0 P w K mg base N qual (aC st) f cdv A outer s H E).nox (aN st) t)
  (len:∀ds Q,F ds Q->ds.length=ps.length) (pure:∀ds Q,F ds Q->t { nx:=λ_=>Q .non,rt:=Q } (aO N ds)):FnOk P w K mg base CX0 (k+1) f fd ps (spD K F):=by
 refine Fu.ok Sc (λvs H Q E ⟨ds,P,r,h,_⟩=>by rw[<-r.length];exact len ds P h) λcdv A outer s H vs Q E hr ⟨ds,P',r,h,kk⟩=>⟨_,hbody cdv A outer s H E hr,?_⟩
 exact⟨aO N ds,_,yD (X:=(cJ CX0 P w K mg base N qual (aC st) f cdv A outer s H E).nox) r,pure ds P' h,λρ' σ' H' hq k s'=>kk .non .non H' hq s'.same .non,λd v H' hq k sm rv=>kk d v H' hq sm rv,λ_ _ _ z=>z.elim,λ_ _ _ z=>z.elim⟩
end
noncomputable def BL (n:Nat) (i:Int):Prop:=i.natAbs<2 ^ n
theorem BL.bits {n:Nat} {i:Int} (h:BL n i):Builtin.Int.intBits i<=n:=intBits_le_iff.mpr h
theorem BL.of {n:Nat} {i:Int} (h:Builtin.Int.intBits i<=n):BL n i:=intBits_le_iff.mp h
theorem BL.mono {m n:Nat} {i:Int} (h:BL m i) (l:m<=n):BL n i:=BL.of (Nat.le_trans h.bits l)
theorem BL.add {m n:Nat} {i j:Int} (a:BL m i) (b:BL n j):BL (max m n+1) (i+j):=BL.of (intBits_add_le a.bits b.bits)
theorem BL.sub {m n:Nat} {i j:Int} (a:BL m i) (b:BL n j):BL (max m n+1) (i-j):=BL.of (intBits_sub_le a.bits b.bits)
theorem BL.mul {m n:Nat} {i j:Int} (a:BL m i) (b:BL n j):BL (m+n) (i*j):=BL.of (intBits_mul_le a.bits b.bits)
theorem BL.neg {m:Nat} {i:Int} (a:BL m i):BL m (-i):=BL.of (intBits_neg_le a.bits)
theorem BL.fdiv {m:Nat} {i j:Int} (a:BL m i):BL m (i.fdiv j):=BL.of (intBits_fdiv_le a.bits)
theorem BL.le {m:Nat} {i j:Int} (a:BL m j) (h:i.natAbs<=j.natAbs):BL m i:=Nat.lt_of_le_of_lt h a
theorem BL.of_lt {m:Nat} {i:Int} (h1:-(2 ^ m:Nat)<i) (h2:i<(2 ^ m:Nat)):BL m i:=by unfold BL;omega
theorem BL.intMulOk {m n:Nat} {i j:Int} (a:BL m i) (b:BL n j) (h:m+n<=134217728):IntMulOk i j:=IntMulOk.of_le a.bits b.bits h
theorem BL.noPy {i j:Int} (h:BL 9000 j):Builtin.divisionGoesByPylong i j=false:=by
 refine PyProof.noPylong_of_log2 ?_
 by_cases h0:j.natAbs=0
 ·rw[h0];decide +kernel
 ·exact (Nat.log2_lt h0).mpr h
section
variable {X:Cx} {e a b c:Expr} {pos:Pos}
theorem RepB.int_inv {K:PySem.W.Frag} {H:Hp} {i:Int} {v:V} (h:RepB K H (.int i) v):v = .int i:=by
 rcases h with h | ⟨ds,a,vs,e1,_⟩
 ·exact h.int_inv
 ·cases e1
theorem RepB.bl_inv {K:PySem.W.Frag} {H:Hp} {i:Bool} {v:V} (h:RepB K H (.bl i) v):v = .bl i:=by
 rcases h with h | ⟨ds,a,vs,e1,_⟩
 ·exact h.bl_inv
 ·cases e1
structure MulOk (i j:Int):Prop where
 ok:IntMulOk i j
structure DivOk (i j:Int):Prop where
 nz:j≠0
 np:Builtin.divisionGoesByPylong i j=false
structure ModOk (j:Int):Prop where
 nz:j≠0
structure PowOk (i j:Int):Prop where
 ok:0<=j/\j<=1000000/\i.natAbs<2 ^ 64
theorem BL.mulOk {m n:Nat} {i j:Int} (a:BL m i) (b:BL n j) (h:m+n<=134217728:=by decide):MulOk i j:=⟨a.intMulOk b h⟩
theorem BL.divOk {i j:Int} (h:BL 9000 j) (nz:j≠0):DivOk i j:=⟨nz,h.noPy⟩
noncomputable def bK:R22:=λx y Q=>match x,y with
 | .int i,.int j=>Q (.int (i+j))
 | _,_=>False
noncomputable def fA:R22:=λx y Q=>match x,y with
 | .int i,.int j=>Q (.int (i-j))
 | _,_=>False
noncomputable def cT:R22:=λx y Q=>match x,y with
 | .int i,.int j=>MulOk i j/\Q (.int (i*j))
 | _,_=>False
noncomputable def cH:R22:=λx y Q=>match x,y with
 | .int i,.int j=>DivOk i j/\Q (.int (i.fdiv j))
 | _,_=>False
noncomputable def bU:R22:=λx y Q=>match x,y with
 | .int i,.int j=>ModOk j/\Q (.int (i.fmod j))
 | _,_=>False
noncomputable def jW:R22:=λx y Q=>match x,y with
 | .int i,.int j=>PowOk i j/\Q (.int (i ^ j.toNat))
 | _,_=>False
theorem CU {f:Value->Value->Sem Value} {C:Int->Int->Prop} {g:Int->Int->Int} {r:R22} (h:OpR X f (rI C λi j=>.int (g i j)))
  (hr:∀x y Q,r x y Q->∃i j,x = .int i/\y = .int j/\C i j/\Q (.int (g i j))):OpD X f r:=by
 intro pins s σ H x y v u Q I rx ry hh_0
 obtain⟨d,e,P,r1,r2,q,k⟩:=hh_0
 obtain⟨i,j,rfl,rfl,hc,q⟩:=hr _ _ _ q
 exact h pins s σ H x y v u Q I rx ry ⟨i,j,r1.int_inv,r2.int_inv,hc,k _ _ H q (Same.refl H) (.int _)⟩
theorem bM:OpD X (binaryOp .Add) bK:=CU (C:=λ_ _=>True) (g:=λi j=>i+j) (opI λ_ _ _ _ _ _ _ _ q=>add_int q) λx y Q q=>by
 unfold bK at q;split at q
 ·exact⟨_,_,rfl,rfl,trivial,q⟩
 ·exact q.elim
theorem eL:OpD X (binaryOp .Sub) fA:=CU (C:=λ_ _=>True) (g:=λi j=>i-j) (opI λ_ _ _ _ _ _ _ _ q=>sub_int q) λx y Q q=>by
 unfold fA at q;split at q
 ·exact⟨_,_,rfl,rfl,trivial,q⟩
 ·exact q.elim
theorem eK:OpD X (binaryOp .Mult) cT:=CU (C:=λi j=>IntMulOk i j) (g:=λi j=>i*j) (opI λ_ _ _ _ _ _ _ hc q=>mul_int q hc) λx y Q q=>by
 unfold cT at q;split at q
 ·exact⟨_,_,rfl,rfl,q.1.ok,q.2⟩
 ·exact q.elim
theorem dA:OpD X (binaryOp .FloorDiv) cH:=CU (C:=λi j=>j≠0/\Builtin.divisionGoesByPylong i j=false) (g:=λi j=>i.fdiv j) (opI λ_ _ _ _ _ _ _ hc q=>floordiv_int hc.1 q (.inl hc.2)) λx y Q q=>by
 unfold cH at q;split at q
 ·exact⟨_,_,rfl,rfl,⟨q.1.nz,q.1.np⟩,q.2⟩
 ·exact q.elim
theorem bW:OpD X (binaryOp .Mod) bU:=CU (C:=λ_ j=>j≠0) (g:=λi j=>i.fmod j) (opI λ_ _ _ _ _ _ _ hc q=>mod_int' hc q) λx y Q q=>by
 unfold bU at q;split at q
 ·exact⟨_,_,rfl,rfl,q.1.nz,q.2⟩
 ·exact q.elim
theorem oH:OpD X (binaryOp .Pow) jW:=CU (C:=λi j=>0<=j/\j<=1000000/\i.natAbs<2 ^ 64) (g:=λi j=>i ^ j.toNat) (opI λ_ _ _ _ _ _ _ hc q=>pow_int_small hc.1 hc.2.1 hc.2.2 q) λx y Q q=>by
 unfold jW at q;split at q
 ·exact⟨_,_,rfl,rfl,q.1.ok,q.2⟩
 ·exact q.elim
noncomputable def qW:D->(D->Prop)->Prop:=λx Q=>match x with
 | .int i=>Q (.int (-i))
 | _=>False
theorem AJ:UnD X (unaryOp .USub) qW:=by
 intro pins s σ H x v Q I rx hh_0
 obtain⟨d,P,r,q,k⟩:=hh_0
 unfold qW at q;split at q
 ·rename_i i
  exact MW pins s σ H x v Q I rx ⟨i,r.int_inv,k _ _ H q (Same.refl H) (.int _)⟩
 ·exact q.elim
noncomputable def iB (p:Int->Int->Bool):R22:=λx y Q=>match x,y with
 | .int i,.int j=>Q (.bl (p i j))
 | _,_=>False
theorem NW {f:Value->Value->Sem Value} {p:Int->Int->Bool} (h:OpR X f (rI0 λi j=>.bl (p i j))):OpD X f (iB p):=by
 intro pins s σ H x y v u Q I rx ry hh_0
 obtain⟨d,e,P,r1,r2,q,k⟩:=hh_0
 unfold iB at q;split at q
 ·rename_i i j
  exact h pins s σ H x y v u Q I rx ry ⟨i,j,r1.int_inv,r2.int_inv,k _ _ H q (Same.refl H) (.bl _)⟩
 ·exact q.elim
theorem xJ:OpD X (compareOp .Lt) (iB λi j=>decide (i<j)):=NW NY
theorem FX:OpD X (compareOp .Gt) (iB λi j=>decide (j<i)):=NW NX
noncomputable def fH (neg:Bool):R22:=λx y Q=>match x,y with
 | .int i,.int j=>Q (.bl (if neg then !decide (i=j) else decide (i=j)))
 | .bl i,.bl j=>Q (.bl (if neg then !decide (i=j) else decide (i=j)))
 | _,_=>False
theorem fU:OpD X (compareOp .Eq) (fH false):=by
 intro pins s σ H x y v u Q I rx ry hh_0
 obtain⟨d,e,P,r1,r2,q,k⟩:=hh_0
 unfold fH at q;split at q
 ·rename_i i j
  rw[r1.int_inv] at rx;rw[r2.int_inv] at ry
  exact KG pins s σ H _ _ v u Q I rx ry ⟨rfl,by
   have e:decide (V.int i=V.int j)=decide (i=j):=by simp
   rw[e];exact k _ _ H q (Same.refl H) (.bl _)⟩
 ·rename_i i j
  rw[r1.bl_inv] at rx;rw[r2.bl_inv] at ry
  exact KG pins s σ H _ _ v u Q I rx ry ⟨rfl,by
   have e:decide (V.bl i=V.bl j)=decide (i=j):=by simp
   rw[e];exact k _ _ H q (Same.refl H) (.bl _)⟩
 ·exact q.elim
theorem zR:OpD X (compareOp .NotEq) (fH true):=by
 intro pins s σ H x y v u Q I rx ry hh_0
 obtain⟨d,e,P,r1,r2,q,k⟩:=hh_0
 unfold fH at q;split at q
 ·rename_i i j
  rw[r1.int_inv] at rx;rw[r2.int_inv] at ry
  exact KH pins s σ H _ _ v u Q I rx ry ⟨rfl,by
   have e:decide (V.int i=V.int j)=decide (i=j):=by simp
   rw[e];exact k _ _ H q (Same.refl H) (.bl _)⟩
 ·rename_i i j
  rw[r1.bl_inv] at rx;rw[r2.bl_inv] at ry
  exact KH pins s σ H _ _ v u Q I rx ry ⟨rfl,by
   have e:decide (V.bl i=V.bl j)=decide (i=j):=by simp
   rw[e];exact k _ _ H q (Same.refl H) (.bl _)⟩
 ·exact q.elim
noncomputable def pG:D->Bool
 | .non=>true
 | _=>false
noncomputable def BU (neg:Bool):R22:=λx y Q=>match y with
 | .non=>Q (.bl (if neg then !pG x else pG x))
 | _=>False
noncomputable def dIx:R22:=λx y Q=>match x,y with
 | .lst ds,.int i=>match atI ds i with
  | some d=>Q d
  | none=>False
 | .tup ds,.int i=>match atI ds i with
  | some d=>Q d
  | none=>False
 | _,_=>False
theorem wA {K:PySem.W.Frag} {H:Hp} {ds:List D} {vs:List V} {i:Int} {d:D} (r:Reps K H ds vs) (h:atI ds i=some d):∃v,atI vs i=some v/\Rep K H d v:=by
 unfold atI at h ⊢
 rw[<-r.length]
 cases e:ixN ds.length i with
 | none=>rw[e] at h;cases h
 | some j =>
  rw[e] at h
  exact r.get h
theorem aW {ta tb:RE} (ha:DB X a ta) (hb:DB X b tb) (hs:AM b:=by intro _ _;rfl):DE X (.Subscript a b pos) (r2 dIx ta tb):=by
 refine PE.mono (OA (II.or LM) ha hb hs) λσ H Q h=>?_
 obtain⟨ρ,P,st,ht,hP⟩:=h
 refine⟨ρ,_,st,ht,λx v H1 h1 s1 r1=>⟨ρ,_,st.ext s1,h1,λy u H2 h2 s2 r2=>?_⟩⟩
 have r1':=r1.same s2
 unfold dIx at h2;split at h2
 ·rename_i ds i
  split at h2
  ·rename_i d e
   obtain⟨p,vs,rfl,hq,rr⟩:=r1'.lst
   obtain⟨w',e',rw'⟩:=wA rr e
   exact .inl ⟨p,vs,i,w',rfl,r2.int_inv,hq,e',hP d w' H2 h2 (s1.trans s2) rw'⟩
  ·exact h2.elim
 ·rename_i ds i
  split at h2
  ·rename_i d e
   obtain⟨p,vs,rfl,hq,rr⟩:=r1'.tup
   obtain⟨w',e',rw'⟩:=wA rr e
   exact .inr ⟨p,vs,i,w',rfl,r2.int_inv,SqT.of hq,e',hP d w' H2 h2 (s1.trans s2) rw'⟩
  ·exact h2.elim
 ·exact h2.elim
noncomputable abbrev RO:=En->(Option Int->Prop)->Prop
noncomputable def NT (X:Cx) (t:RO):TO:=λσ H Q=>∃ρ P,StOk X ρ σ H/\t ρ P/\∀o H',P o->Same H H'->Q o H'
noncomputable def DP (X:Cx) (e:Option Expr) (t:RO):Prop:=PO X e (NT X t)
noncomputable def bZ:RO:=λ_ Q=>Q none
noncomputable def eN (t:RE):RO:=λρ Q=>t ρ λd=>match d with
 | .int i=>Q (some i)
 | _=>False
theorem gW:DP X none bZ:=λpins s σ H Q I hh=>bX hh λρ P st q k=>BG pins s σ H Q I (k none H q (Same.refl H))
theorem gX {t:RE} (h:DE X e t):DP X (some e) (eN t):=λpins s σ H Q I hh=>bX hh λρ P st q k=>vM h pins s σ H Q I ⟨ρ,_,st,q,λd v H1 hd s1 r=>by
 cases d with
 | int i=>exact⟨i,r.int_inv,k (some i) H1 hd s1⟩
 | _=>exact hd.elim⟩
noncomputable def eX (xs:List D) (lo hi:Option Int):List D:=(xs.drop (HT.sIx xs.length 0 lo)).take (HT.sIx xs.length xs.length hi-HT.sIx xs.length 0 lo)
noncomputable def uA (te:RE) (tl th:RO):RA:=λρ Q=>te ρ λx=>tl ρ λl=>th ρ λu=>match x with
 | .lst ds=>Q (eX ds l u)
 | _=>False
noncomputable def LT (X:Cx) (r:List D->(D->Prop)->Prop):List V->Hp->VK->Prop:=λxs H Q=>∃ds P,Reps X.K H ds xs/\r ds P/\∀z v H',P z->Same H H'->Rep X.K H' z v->Q v H'
noncomputable def vX (X:Cx) (f:Value) (r:List D->(D->Prop)->Prop):Prop:=lK X f (LT X r)
noncomputable def rCB (r:List D->(D->Prop)->Prop) (t:RA):RE:=λρ Q=>t ρ λds=>r ds Q
variable {x:Str} {p:Pos} {es:List Expr} {t:RA} {id T:String} {r:List D->(D->Prop)->Prop}
theorem kH (hc:vX X (.builtin id) r) (hm:X.mg x=none) (hv:bootBuiltins x=some (.builtin id)) (ha:DA X (e::es) t) (hg:Gl X x:=by rfl) (hn:x≠"__name__":=by decide) (hdb:(x == ("__debug__":Str))=false:=by decide)
  (he:starEach (e::es) X.env=(false,eval e X.env)::starEach es X.env:=by rfl) (hpl:(backTo pos (starEach es X.env)).any (·.1)=false:=by rfl):DE X (.Call (.Name x p) (e::es) [] pos) (rCB r t) :=
 PE.mono (rR hc hg hm hv ha hn hdb he hpl) λσ H Q hh=>bX hh λρ P st q k=>⟨ρ,_,st,q,λds vs H1 hd s1 rr=>⟨ds,P,rr,hd,λz v H2 hz s2 r2=>k z v H2 hz (s1.trans s2) r2⟩⟩
theorem BY (hc:vX X (.type T) r) (hm:X.mg x=none) (hv:bootBuiltins x=some (.type T)) (ha:DA X (e::es) t) (hg:Gl X x:=by rfl) (hn:x≠"__name__":=by decide) (hdb:(x == ("__debug__":Str))=false:=by decide)
  (he:starEach (e::es) X.env=(false,eval e X.env)::starEach es X.env:=by rfl) (hpl:(backTo pos (starEach es X.env)).any (·.1)=false:=by rfl):DE X (.Call (.Name x p) (e::es) [] pos) (rCB r t) :=
 PE.mono (oK hc hg hm hv ha hn hdb he hpl) λσ H Q hh=>bX hh λρ P st q k=>⟨ρ,_,st,q,λds vs H1 hd s1 rr=>⟨ds,P,rr,hd,λz v H2 hz s2 r2=>k z v H2 hz (s1.trans s2) r2⟩⟩
noncomputable def pR:List D->(D->Prop)->Prop:=λds Q=>match ds with
 | [.int i]=>Q (.int (if i<0 then -i else i))
 | _=>False
theorem uV:vX X (.builtin "abs") pR:=by
 intro pins s σ H xs us Q I rv hh_0
 obtain⟨ds,P,r,q,k⟩:=hh_0
 unfold pR at q;split at q
 ·rename_i i
  cases r with
  | cons r1 r2 =>
   cases r2
   rw[r1.int_inv] at rv
   exact EG pins s σ H _ us Q I rv ⟨i,rfl,k _ _ H q (Same.refl H) (.int _)⟩
 ·exact q.elim
noncomputable def uX:List D->(D->Prop)->Prop:=λds Q=>match ds with
 | [.bl b]=>Q (.int (if b then 1 else 0))
 | [.int i]=>Q (.int i)
 | _=>False
theorem KS:vX X (.type "int") uX:=by
 intro pins s σ H xs us Q I rv hh_0
 obtain⟨ds,P,r,q,k⟩:=hh_0
 unfold uX at q;split at q
 ·rename_i i
  cases r with
  | cons r1 r2 =>
   cases r2
   rw[r1.bl_inv] at rv
   exact tN pins s σ H _ us Q I rv (.inr ⟨i,rfl,k _ _ H q (Same.refl H) (.int _)⟩)
 ·rename_i i
  cases r with
  | cons r1 r2 =>
   cases r2
   rw[r1.int_inv] at rv
   exact tN pins s σ H _ us Q I rv (.inl ⟨i,rfl,k _ _ H q (Same.refl H) (.int _)⟩)
 ·exact q.elim
noncomputable def tP:List D->(D->Prop)->Prop:=λds Q=>match ds with
 | [.int i,.int j]=>Q (.int (if j > i then j else i))
 | _=>False
noncomputable def kG:List D->(D->Prop)->Prop:=λds Q=>match ds with
 | [.int i,.int j]=>Q (.int (if j<i then j else i))
 | _=>False
theorem HJ (hc:X.calm=true:=by rfl):vX X (.builtin "min") kG:=by
 intro pins s σ H xs us Q I rv hh_0
 obtain⟨ds,P,r,q,k⟩:=hh_0
 unfold kG at q;split at q
 ·rename_i i j
  ·rw[Reps.ints_inv (ns:=[i,j]) r] at rv
   exact BS hc pins s σ H _ us Q I rv ⟨i,j,rfl,k _ _ H q (Same.refl H) (.int _)⟩
 ·exact q.elim
noncomputable def eZ:D->(D->Prop)->Prop:=λd Q=>match d with
 | .lst ds=>Q (.int ds.length)
 | .tup ds=>Q (.int ds.length)
 | _=>False
theorem iC {t:TE} (h:PE X e t) (hs:starEach [e] X.env=[(false,eval e X.env)]:=by rfl) (hn:starEach [] X.env=[]:=by rfl):PA X [e] (λσ H Q=>t σ H λv H'=>Q [v] H') :=
 PA.mono (gY h oJ (by rw[hs,hn])) λσ H Q q=>q
theorem dZ {te:RE} (hm:X.mg "len" = none) (h:DB X e te) (hg:Gl X "len":=by rfl) (hs:starEach [e] X.env=[(false,eval e X.env)]:=by rfl) (hn:starEach [] X.env=[]:=by rfl):DE X (.Call (.Name "len" p) [e] [] pos) (r1 eZ te):=by
 refine PE.mono (rR uS hg hm PySem.boot_len (iC h hs hn) (by decide) (by decide) (by rw[hs,hn]) (by rw[hn];rfl)) λσ H Q hh=>bX hh λρ P st q k=>⟨ρ,_,st,q,λd v H1 hd s1 r=>?_⟩
 unfold eZ at hd;split at hd
 ·obtain⟨p,vs,rfl,hq,rr⟩:=r.lst
  exact⟨p,vs,rfl,.inl hq,by rw[<-rr.length];exact k _ _ H1 hd s1 (.int _)⟩
 ·obtain⟨p,vs,rfl,hq,rr⟩:=r.tup
  exact⟨p,vs,rfl,.inr (SqT.of hq),by rw[<-rr.length];exact k _ _ H1 hd s1 (.int _)⟩
 ·exact hd.elim
end
section
variable {X:Cx} {pins:List (Addr × Obj)} {σ:St} {H:Hp} {s:Shared} {h':Heap}
theorem _root_.L2.Inv.turnedL {t':Nat} {ch:List Addr} (I:Inv X pins σ H s) (k:∀b o,b ∉ ch->s.heap.get? b=some o->h'.get? b=some o) (f:∀b∈ch,nT X pins H b):Inv X pins σ H { s with heap:=h',toks:=t' }:=by
 have nit:∀b u,H b=some u->b ∉ ch:=λb u e z=>by rw[(f b z).1] at e;cases e
 refine I.step (g':=s.gens) (d':=s.drawn) (ch:=ch) (λb hb=>⟨(f b hb).2.2.2.1,(f b hb).2.1,(f b hb).2.2.2.2.1,(f b hb).2.2.2.2.2⟩) (λb o _ _ hc e _=>k b o hc e) (λb o _ _ hc e _=>⟨o.slots,k b o hc e⟩) (λ_ _ _ _ n=>n)
  (λb o hc e=>⟨o,k b o hc e⟩) (λ_ _ e=>e) (λ_ _ _ e=>e) (λb ps e=>⟨#[],by rw[e];simp⟩) (λm hm=>?_) (λb u e=>?_) I.bare
 ·obtain⟨o,es,ep,ho,r⟩:=hm
  exact⟨o,es,ep,k _ o (λz=>(f _ z).2.1 rfl) ho,r⟩
 ·refine (I.hok b u e).stay (λc v hc q=>k c v ?_ q) (λ_ q=>q) λ_ _ q=>q
  rcases hc with z | z
  ·rw[z];exact nit b u e
  ·exact nit c _ z
theorem _root_.L2.Inv.turnedT {t':Nat} {ch:List Addr} {T:Addr} {xs:List V} {its:List Value} (I:Inv X pins σ H s) (k:∀b o,b ∉ ch->s.heap.get? b=some o->h'.get? b=some o) (f:∀b∈ch,nT X pins H b)
  (hT:s.heap.objs.size<=T) (ht:h'.IsTuple T its.toArray) (rv:Vals xs its) (hz:xs.length<=sizeLine):Inv X pins σ (upd H T (.tup xs)) { s with heap:=h',toks:=t' }:=by
 have nit:∀b u,H b=some u->b ∉ ch:=λb u e z=>by rw[(f b z).1] at e;cases e
 have hn:H T=none:=I.hok.fresh hT
 have ne:∀{b:Addr} {o:Obj},s.heap.get? b=some o->b≠T:=λe=>Nat.ne_of_lt (Nat.lt_of_lt_of_le (Heap.lt_size e) hT)
 refine I.step (g':=s.gens) (d':=s.drawn) (ch:=ch) (λb hb=>⟨(f b hb).2.2.2.1,(f b hb).2.1,(f b hb).2.2.2.2.1,(f b hb).2.2.2.2.2⟩) (λb o _ _ hc e _=>k b o hc e) (λb o _ _ hc e _=>⟨o.slots,k b o hc e⟩) (λb o _ e n=>by rw[aI (ne e)];exact n)
  (λb o hc e=>⟨o,k b o hc e⟩) (λb ys e=>by rw[aI (aQ e hn)];exact e) (λb o u e=>by rw[aI (aQ e hn)];exact e) (λb ps e=>⟨#[],by rw[aI (aQ e hn),e];simp⟩) (λm hm=>?_) (λb u e=>?_) I.bare
 ·obtain⟨o,es,ep,ho,r⟩:=hm
  exact⟨o,es,ep,k _ o (λz=>(f _ z).2.1 rfl) ho,r⟩
 ·by_cases hb:b=T
  ·subst hb
   rw[aX] at e;cases e
   exact⟨hz,its,rv,ht⟩
  ·rw[aI hb] at e
   refine (I.hok b u e).stay (λc v hc q=>k c v ?_ q) (λc q=>by rw[aI (aQ q hn)];exact q) λc ys q=>by rw[aI (aQ q hn)];exact q
   rcases hc with z | z
   ·rw[z];exact nit b u e
   ·exact nit c _ z
end
noncomputable def NH (ds:List D):List D:=ds.zipIdx.map λp=>D.tup [.int (p.2:Int),p.1]
section
variable {X:Cx} {e:Expr} {te:RE} {pos p:Pos} {elts:List Expr} {k:Nat} {tp:Pos}
noncomputable def DL (te:RE):RA:=λρ Q=>te ρ λd=>match d with
 | .lst ds=>Q (NH ds)
 | _=>False
end
noncomputable def zC (T:String):D->Option Bool
 | .non=>some (T == "NoneType")
 | .bl _=>some (T == "bool" || T == "int")
 | .int _=>some (T == "int")
 | .str _=>some (T == "str")
 | .tup _=>some (T == "tuple")
 | .lst _=>some (T == "list")
 | .dct _ _=>none
noncomputable def mV (T:String):D->(D->Prop)->Prop:=λd Q=>match zC T d with
 | some b=>Q (.bl b)
 | none=>False
structure TyTab (K:PySem.W.Frag) (T:String):Prop where
 non:PySem.W.kitOne K (.type "NoneType") (.type T)=some (T == "NoneType")
 bl:PySem.W.kitOne K (.type "bool") (.type T)=some (T == "bool" || T == "int")
 int:PySem.W.kitOne K (.type "int") (.type T)=some (T == "int")
 str:PySem.W.kitOne K (.type "str") (.type T)=some (T == "str")
 tup:PySem.W.kitOne K (.type "tuple") (.type T)=some (T == "tuple")
 lst:PySem.W.kitOne K (.type "list") (.type T)=some (T == "list")
section
variable {X:Cx} {e:Expr} {te:RE} {pos p p2:Pos} {T:String} {x:Str}
theorem qX (tab:TyTab X.K T) (hm:X.mg "isinstance" = none) (hT:X.mg x=none) (hb:bootBuiltins x=some (.type T)) (h:DE X e te) (hg:Gl X "isinstance":=by rfl) (hgT:Gl X x:=by rfl) (hn:x≠"__name__":=by decide) (hd:(x == ("__debug__":Str))=false:=by decide)
  (hs:starEach [e,.Name x p2] X.env=(false,eval e X.env)::starEach [.Name x p2] X.env:=by rfl) (hs2:starEach [.Name x p2] X.env=(false,eval (.Name x p2) X.env)::starEach [] X.env:=by rfl) (hpl:(backTo pos (starEach [.Name x p2] X.env)).any (·.1)=false:=by rfl) :
  DE X (.Call (.Name "isinstance" p) [e,.Name x p2] [] pos) (r1 (mV T) te):=by
 have hc:lK X (.builtin "isinstance") (λxs H Q=>∃d v P,xs=[v,.ty T]/\Rep X.K H d v/\mV T d P/\∀b,P (.bl b)->Q (.bl b) H):=by
  intro pins s σ H xs us Q I r hh_0
  obtain⟨d,v,P,ex,rd,q,k⟩:=hh_0
  subst ex
  obtain⟨u,w',rfl,r1,r2⟩:=GZ r
  cases r2
  unfold mV at q
  split at q
  ·rename_i b eb
   have fin:∀{t:Value},TyOf X.K H v t->PySem.W.kitOne X.K t (.type T)=some b->wpAny (model X.prog X.w) X.A (call (.builtin "isinstance") [u,.type T]) (EP X pins σ Q) X.xe s:=λty e=>CG I r1 ty e λtk=>⟨.bl b,H,I.tok tk,rfl,k b q⟩
   cases rd with
   | non=>cases eb;exact fin .non tab.non
   | bl _=>cases eb;exact fin (.bl _) tab.bl
   | int _=>cases eb;exact fin (.int _) tab.int
   | str _=>cases eb;exact fin (.str _) tab.str
   | tup h _=>cases eb;exact fin (.tup h) tab.tup
   | @lst a vs _ h _ =>
    cases eb
    rcases h with ⟨o,h⟩ | ⟨o,its,n,hk,hc,_⟩
    ·exact fin (.frz h) tab.lst
    ·cases (show u=Value.ref a from r1)
     exact PySem.W.kia_one PySem.W.kitx_list I.kIn ⟨o,I.kIn a o hk,hc⟩ tab.lst (λz=>nomatch z) λtk=>⟨.bl _,H,I.tok tk,rfl,k _ q⟩
   | dct _ _ _=>cases eb
  ·exact q.elim
 refine PE.mono (rR hc hg hm PyProof.Rows.boot_isinstance (gY h (gY (IZ (v:=.ty T) hgT hT hb rfl hn hd) oJ hs2) hs) (by decide) (by decide) hs hpl) λσ H Q hh=>bX hh λρ P st q k=>?_
 refine⟨ρ,_,st,q,λd v H1 hd s1 r=>⟨d,v,P,rfl,r,hd,λb hb=>k _ _ H1 hb s1 (.bl b)⟩⟩
end
theorem lC:bootBuiltins "abs" = some (.builtin "abs"):=by decide +kernel
theorem BR:bootBuiltins "min" = some (.builtin "min"):=by decide +kernel
theorem tM:bootBuiltins "int" = some (.type "int"):=by decide +kernel
theorem yS:bootBuiltins "bool" = some (.type "bool"):=by decide +kernel
theorem oW:bootBuiltins "tuple" = some (.type "tuple"):=by decide +kernel
theorem yT:bootBuiltins "list" = some (.type "list"):=by decide +kernel
theorem JQ (K:PySem.W.Frag):TyTab K "int":=⟨by rfl,by rfl,by rfl,by rfl,by rfl,by rfl⟩
theorem GW (K:PySem.W.Frag):TyTab K "bool":=⟨by rfl,by rfl,by rfl,by rfl,by rfl,by rfl⟩
theorem GX (K:PySem.W.Frag):TyTab K "list":=⟨by rfl,by rfl,by rfl,by rfl,by rfl,by rfl⟩
theorem uJ (K:PySem.W.Frag):TyTab K "tuple":=⟨by rfl,by rfl,by rfl,by rfl,by rfl,by rfl⟩
theorem jL {P:List Value->Prop} (h:∀a,P [a]):∀us:List Value,us.length=1->P us
 | [a],_=>h a
theorem kD {P:List Value->Prop} (h:∀a b,P [a,b]) (us:List Value) (hl:us.length=2):P us:=by
 cases us with
 | nil=>cases hl
 | cons a us=>exact jL (P:=λus=>P (a::us)) (h a) us (Nat.succ.inj hl)
theorem tH {P:List Value->Prop} (h:∀a b c,P [a,b,c]) (us:List Value) (hl:us.length=3):P us:=by
 cases us with
 | nil=>cases hl
 | cons a us=>exact kD (P:=λus=>P (a::us)) (h a) us (Nat.succ.inj hl)
theorem NC {P:List Value->Prop} (h:∀a b c d,P [a,b,c,d]) (us:List Value) (hl:us.length=4):P us:=by
 cases us with
 | nil=>cases hl
 | cons a us=>exact tH (P:=λus=>P (a::us)) (h a) us (Nat.succ.inj hl)
theorem JU {P:List Value->Prop} (h:∀a b c d e,P [a,b,c,d,e]) (us:List Value) (hl:us.length=5):P us:=by
 cases us with
 | nil=>cases hl
 | cons a us=>exact NC (P:=λus=>P (a::us)) (h a) us (Nat.succ.inj hl)
structure FnAt (P:Program) (w:World) (K:PySem.W.Frag) (mg:Str->Option Value) (base:Heap) (x:Str) (ps:List Str) (k:Nat) (F:FD):Prop where
 ex:∃f fd,FnOk P w K mg base CX0 k f fd ps (spD K F)/\Binds K fd ps []/\PySem.W.keepIn K (.ref f)=true/\mg x=some (.ref f)
structure DefAt (K:PySem.W.Frag) (mg:Str->Option Value) (x:Str) (st:Stmt) (ps:List Str):Prop where
 ex:∃f fd,Fun K x x st f fd/\mg x=some (.ref f)/\∀us:List Value,us.length=ps.length->bindArgs fd ⟨us,[]⟩=pure (ps.zip us)
section
variable {P:Program} {w:World} {K:PySem.W.Frag} {mg:Str->Option Value} {base:Heap}
theorem DefAt.ok {x:Str} {st:Stmt} {N ps:List Str} {k:Nat} {F:FD} {t:RS} (Z:DefAt K mg x st ps) (Sc:FnScope N ps (aC st))
  (hbody:∀{f:Addr} (cdv:Value) (A:Around) (outer:List Env) (s:Shared) (H:Hp) (E:XK),Room k (A.deeper (envOfC x (aC st) s.heap.objs.size f cdv)) ->
   DSs (cJ CX0 P w K mg base N x (aC st) f cdv A outer s H E).nox (aN st) t)
  (len:∀ds Q,F ds Q->ds.length=ps.length) (pure:∀ds Q,F ds Q->t { nx:=λ_=>Q .non,rt:=Q } (aO N ds)):FnAt P w K mg base x ps (k+1) F:=by
 obtain⟨f,fd,a,b,c⟩:=Z.ex
 exact⟨f,fd,JZ a Sc (λcdv A outer s H E hr=>hbody cdv A outer s H E hr) len pure,.all c,a.kp,b⟩
theorem DefAt.okL {x:Str} {st:Stmt} {ps:List Str} {k:Nat} {F:FD} (Z:DefAt K mg x st ps) (h:∀(base:Heap) (f:Addr) (fd:FuncData),Fun K x x st f fd->FnOk P w K mg base CX0 k f fd ps (spD K F)) :
  ∃f fd,mg x=some (.ref f)/\(∀us:List Value,us.length=ps.length->bindArgs fd ⟨us,[]⟩=pure (ps.zip us))/\∀base,FnOk P w K mg base CX0 k f fd ps (spD K F):=by
 obtain⟨f,fd,a,b,c⟩:=Z.ex
 exact⟨f,fd,b,c,λbase=>h base f fd a⟩
end
section
variable {X:Cx} {k:Nat} {ps:List Str} {F:FD} {x:Str} {p pos:Pos} {e:Expr} {es:List Expr} {t:RA}
theorem aP (C:FnAt X.prog X.w X.K X.mg X.base x ps k F) (hr:Room k X.A) (ha:DA X (e::es) t) (hg:Gl X x:=by rfl)
  (hdb:(x == ("__debug__":Str))=false:=by decide) (he:starEach (e::es) X.env=(false,eval e X.env)::starEach es X.env:=by rfl) (hpl:(backTo pos (starEach es X.env)).any (·.1)=false:=by rfl) :
  DE X (.Call (.Name x p) (e::es) [] pos) (aU F t):=by
 obtain⟨f,fd,G,hb,hk,hm⟩:=C.ex
 exact HR G hr hm hk hb ha hg hdb he hpl
end
noncomputable def BP (n:Nat):FD:=λds Q=>∃ns:List Int,ds=[.lst (ns.map .int)]/\ns.length<=n/\Q (.bl true)
theorem MR {K:PySem.W.Frag} {H:Hp} {a:Addr} {vs:List V} (hO:HG H) (h:SqL K H a vs):FzL K H a vs:=by
 rcases h with (h | ⟨o,h⟩) | h
 ·rcases hO a with z | ⟨o,xs,z⟩
  ·rw[z] at h;cases h
  ·rw[z] at h;cases h
 ·exact .inl ⟨o,h⟩
 ·exact .inr h
theorem walk_law {l:PySem.W.OpenLaw} {q:Program} {loose:List Str} {XP:(Str->Option Value)->Heap->Prop} {YP:World->Heap->Prop} {d:DefRec} {K:Params->PySem.W.Frag} {x:Str} {k:Nat}
  (hn:l.most=some 63) (hdf:d.params.defaults=[]) (hr:Room k callerA)
  (hY:∀(w:World) (h:Heap),YP w h->(K w.params).In h) (hd:d.name = "law")
  (F:∀(w:World) (mg:Str->Option Value) (h:Heap),(K w.params).In h->h.Ns mainGlobals mg ->
   ∃f fd,mg "law" = some (.ref f)/\(∀us:List Value,us.length=[x].length->bindArgs fd ⟨us,[]⟩=pure ([x].zip us))/\∀base,FnOk l.prog w (K w.params) mg base CX0 k f fd [x] (spD (K w.params) (BP 63))) :
  PySem.W.WalkO q loose XP YP l.row.toRowW d [] (λf vs=>PySem.call f vs):=by
 refine L2.walk_of (n:=63) (k:=k) (x:=x) (CX:=λ_=>CX0) (sp:=λw=>spD (K w.params) (BP 63)) hn (by decide) hdf hr hY ?_ ?_ λ_ _ _ _ _ z=>z
 ·intro w mg fa h KX G hmg
  rw[hd] at hmg
  obtain⟨f,fd,hm,hb,hF⟩:=F w mg h KX G
  rw[hmg] at hm;cases hm
  exact⟨fd,λs u=>.of_eq (hb [u] rfl),λbase _ _=>hF base⟩
 ·intro w H a ns hl hO hS
  exact⟨[.lst (ns.map .int)],λd=>d = .bl true,.cons (.lst (MR hO hS) .ints) .nil,⟨ns,rfl,hl,rfl⟩,λd v H' e _ r=>by subst e;exact r.bl_inv⟩
noncomputable def eqL (f:D->D->Option Bool):List D->List D->Option Bool
 | [],[]=>some true
 | [],_::_=>some false
 | _::_,[]=>some false
 | x::xs,y::ys=>match f x y,eqL f xs ys with
  | some a,some b=>some (a && b)
  | _,_=>none
noncomputable def eqF:Nat->D->D->Option Bool
 | 0,_,_=>none
 | n+1,d,e=>match d,e with
  | .int a,.int b=>some (decide (a=b))
  | .bl a,.bl b=>some (decide (a=b))
  | .non,.non=>some true
  | .non,.tup _=>some false
  | .tup _,.non=>some false
  | .tup xs,.tup ys=>eqL (eqF n) xs ys
  | .lst xs,.lst ys=>eqL (eqF n) xs ys
  | _,_=>none
theorem nA {f:D->D->Option Bool}:∀{xs ys:List D} {b:Bool},eqL f xs ys=some b->∀(j:Nat) (x y:D),xs[j]? = some x->ys[j]? = some y->∃c,f x y=some c
 | [],_,_,_,j,x,y,e,_=>by simp at e
 | _::_,[],_,_,j,x,y,_,e=>by simp at e
 | a::xs,c::ys,b,h,j,x,y,e1,e2=>by
  unfold eqL at h
  split at h
  ·rename_i p q hp hq
   cases j with
   | zero=>simp at e1 e2;subst e1 e2;exact⟨p,hp⟩
   | succ j=>exact nA hq j x y (by simpa using e1) (by simpa using e2)
  ·cases h
theorem lD {f:D->D->Option Bool}:∀{xs ys:List D} {b:Bool},eqL f xs ys=some b ->
  ((List.range (min xs.length ys.length)).all (λj=>match xs[j]?,ys[j]? with | some x,some y=>(f x y).getD false | _,_=>false) && xs.length == ys.length)=b
 | [],[],b,h=>by cases h;rfl
 | [],_::_,b,h=>by cases h;rfl
 | _::_,[],b,h=>by cases h;rfl
 | x::xs,y::ys,b,h=>by
  unfold eqL at h
  split at h
  ·rename_i p q hp hq
   cases h
   have ih:=lD hq
   rw[<-ih]
   simp only[List.length_cons,Nat.succ_min_succ,List.range_succ_eq_map,List.all_cons,List.getElem?_cons_zero,hp,Option.getD_some,List.all_map]
   rw[Bool.and_assoc]
   congr 1
   congr 1
   rw[Bool.eq_iff_iff];simp
  ·cases h
section
variable {X:Cx} {pins:List (Addr × Obj)} {σ:St} {H:Hp} {s:Shared}
theorem rD {f:D->D->Option Bool} (hf:∀{d e:D} {v:V} {b:Bool},f d e=some b->Rep X.K H d v->Rep X.K H e v->b=true):∀{xs ys:List D} {vs:List V} {b:Bool},eqL f xs ys=some b->Reps X.K H xs vs->Reps X.K H ys vs->b=true:=by
 intro xs
 induction xs with
 | nil=>intro ys vs b h q1 q2;cases q1;cases q2;cases h;rfl
 | cons x xs ih =>
  intro ys vs b h q1 q2
  cases q1 with
  | cons r t =>
   cases q2 with
   | cons r' t' =>
    unfold eqL at h
    split at h
    ·rename_i p q hp hq
     cases h
     rw[hf hp r r',ih hq t t'];rfl
    ·cases h
theorem mZ (I:Inv X pins σ H s):∀(n:Nat) {d e:D} {v:V} {b:Bool},eqF n d e=some b->Rep X.K H d v->Rep X.K H e v->b=true
 | 0,_,_,_,_,h,_,_=>by cases h
 | n+1,d,e,v,b,h,r1,r2=>by
  unfold eqF at h
  split at h
  ·rw[r1.int_inv] at r2;cases r2;cases h;simp
  ·rw[r1.bl_inv] at r2;cases r2;cases h;simp
  ·cases h;rfl
  ·cases r1;cases r2
  ·cases r2;cases r1
  ·rename_i xs ys
   cases r1 with
   | @tup a vs _ h1 q1 =>
    cases r2 with
    | @tup _ ws _ h2 q2 =>
     rw[h1] at h2;cases h2
     exact rD (λ{d e v b}=>mZ I n) h q1 q2
  ·rename_i xs ys
   cases r1 with
   | @lst a vs _ h1 q1 =>
    cases r2 with
    | @lst _ ws _ h2 q2 =>
     rw[I.list_inj h2.sq h1.sq] at q2
     exact rD (λ{d e v b}=>mZ I n) h q1 q2
  ·cases h
theorem FA (I:Inv X pins σ H s) {n:Nat} {xs ys:List D} {a c:Addr} {vs ws:List V} {b:Bool} {A:Around} (h:eqL (eqF n) xs ys=some b) (h1:SqL X.K H a vs) (q1:Reps X.K H xs vs) (h2:SqL X.K H c ws) (q2:Reps X.K H ys ws) (hu:A.units<cLine)
  (at':∀{d e:D} {v u:V} {x y:Value} {b:Bool},eqF n d e=some b->Rep X.K H d v->Rep X.K H e u->RelV v x->RelV u y->SeqAt.EqAt A.in1 s x y b):SeqAt.RcAt A s (.ref a) (.ref c) b/\SeqAt.EqAt A s (.ref a) (.ref c) b:=by
 obtain⟨its,rv,ht,_⟩:=I.list h1
 obtain⟨its2,rv2,ht2,_⟩:=I.list h2
 have l1:xs.length=its.length:=q1.length.trans rv.length
 have l2:ys.length=its2.length:=q2.length.trans rv2.length
 have rc:SeqAt.RcAt A s (.ref a) (.ref c) b:=by
  by_cases hl:xs.length=ys.length
  ·have:=SeqAt.RcAt.lists (A:=A) (s:=s) (e:=λj=>match xs[j]?,ys[j]? with | some x,some y=>(eqF n x y).getD false | _,_=>false) ht.isList ht2.isList (by simp;omega) hu (λj g1 g2=>?_)
   ·have al:=lD h
    simp only[List.size_toArray,<-l1] at this
    rw[<-hl,Nat.min_self,beq_self_eq_true,Bool.and_true] at al
    rw[al] at this
    exact this
   ·simp only[List.size_toArray] at g1 g2
    have e1:xs[j]? = some (xs[j]'(by omega)):=List.getElem?_eq_getElem _
    have e2:ys[j]? = some (ys[j]'(by omega)):=List.getElem?_eq_getElem _
    obtain⟨k,hk⟩:=nA h j _ _ e1 e2
    rw[e1,e2]
    simp only[hk,Option.getD_some]
    obtain⟨v1,f1,f2⟩:=q1.get e1
    obtain⟨v2,f3,f4⟩:=q2.get e2
    obtain⟨u1,g3,g4⟩:=rv.get f1
    obtain⟨u2,g5,g6⟩:=rv2.get f3
    have a1:its.toArray[j]=u1:=by
     have:=List.getElem?_eq_getElem g1
     rw[this] at g3
     simpa using Option.some.inj g3
    have a2:its2.toArray[j]=u2:=by
     have:=List.getElem?_eq_getElem g2
     rw[this] at g5
     simpa using Option.some.inj g5
    rw[a1,a2]
    exact at' hk f2 f4 g4 g6
  ·have al:=lD h
   have:(xs.length == ys.length)=false:=by simpa using hl
   rw[this,Bool.and_false] at al
   rw[<-al]
   exact SeqAt.RcAt.lists_lengths ht.isList ht2.isList (by simp;omega) hu
 refine⟨rc,?_⟩
 by_cases hac:a=c
 ·subst hac
  rw[I.list_inj h2 h1] at q2
  rw[rD (λ{d e v b}=>mZ I n) h q1 q2]
  exact SeqAt.EqAt.same _
 ·exact SeqAt.EqAt.of_refs hac rc
theorem vB (I:Inv X pins σ H s):∀(n:Nat) {d e:D} {v u:V} {x y:Value} {b:Bool} {A:Around},eqF n d e=some b->Rep X.K H d v->Rep X.K H e u->RelV v x->RelV u y->A.units+n<cLine ->
  SeqAt.RcAt A s x y b/\SeqAt.EqAt A s x y b
 | 0,_,_,_,_,_,_,_,_,h,_,_,_,_,_=>by cases h
 | n+1,d,e,v,u,x,y,b,A,h,r1,r2,rx,ry,hu=>by
  have same:=λ(hvu:v=u)=>mZ I (n+1) h r1 (hvu ▸ r2)
  unfold eqF at h
  split at h
  ·rename_i i j
   rw[r1.int_inv] at rx;rw[r2.int_inv] at ry
   obtain⟨t,rfl⟩:=rx
   obtain⟨t',rfl⟩:=ry
   cases h
   have e:decide (i=j)=(i == j):=by rw[Bool.beq_eq_decide_eq]
   rw[e]
   exact⟨SeqAt.RcAt.int_int _ _ _ _,SeqAt.EqAt.int_int _ _ _ _⟩
  ·rename_i i j
   rw[r1.bl_inv] at rx;rw[r2.bl_inv] at ry
   cases rx;cases ry
   cases h
   have e:decide (i=j)=(i == j):=by rw[Bool.beq_eq_decide_eq]
   rw[e]
   exact⟨SeqAt.RcAt.bool_bool _ _,SeqAt.EqAt.bool_bool _ _⟩
  ·cases r1;cases r2;cases rx;cases ry;cases h
   exact⟨SeqAt.RcAt.none_none,SeqAt.EqAt.same _⟩
  ·cases r1
   cases r2 with
   | tup h2 q2 =>
    cases rx;cases ry;cases h
    obtain⟨its,rv,ht,_⟩:=I.tuple (SqT.of h2)
    exact⟨SeqAt.RcAt.none_tuple ht (by omega),SeqAt.EqAt.none_tuple ht (by omega)⟩
  ·cases r2
   cases r1 with
   | tup h2 q2 =>
    cases rx;cases ry;cases h
    obtain⟨its,rv,ht,_⟩:=I.tuple (SqT.of h2)
    exact⟨SeqAt.RcAt.tuple_none ht (by omega),SeqAt.EqAt.tuple_none ht (by omega)⟩
  ·rename_i xs ys
   cases r1 with
   | @tup a vs _ h1 q1 =>
    cases r2 with
    | @tup c ws _ h2 q2 =>
     cases rx;cases ry
     obtain⟨its,rv,ht,_⟩:=I.tuple (SqT.of h1)
     obtain⟨its2,rv2,ht2,_⟩:=I.tuple (SqT.of h2)
     have l1:xs.length=its.length:=q1.length.trans rv.length
     have l2:ys.length=its2.length:=q2.length.trans rv2.length
     have rc:SeqAt.RcAt A s (.ref a) (.ref c) b:=by
      have:=SeqAt.RcAt.tuples (A:=A) (s:=s) (e:=λj=>match xs[j]?,ys[j]? with | some x,some y=>(eqF n x y).getD false | _,_=>false) ht ht2 (by omega) (λj g1 g2=>?_)
      ·simp only[List.size_toArray,<-l1,<-l2] at this
       rw[lD h] at this
       exact this
      ·simp only[List.size_toArray] at g1 g2
       have e1:xs[j]? = some (xs[j]'(by omega)):=List.getElem?_eq_getElem _
       have e2:ys[j]? = some (ys[j]'(by omega)):=List.getElem?_eq_getElem _
       obtain⟨k,hk⟩:=nA h j _ _ e1 e2
       rw[e1,e2]
       simp only[hk,Option.getD_some]
       obtain⟨v1,f1,f2⟩:=q1.get e1
       obtain⟨v2,f3,f4⟩:=q2.get e2
       obtain⟨u1,g3,g4⟩:=rv.get f1
       obtain⟨u2,g5,g6⟩:=rv2.get f3
       have a1:its.toArray[j]=u1:=by
        have:=List.getElem?_eq_getElem g1
        rw[this] at g3
        simpa using Option.some.inj g3
       have a2:its2.toArray[j]=u2:=by
        have:=List.getElem?_eq_getElem g2
        rw[this] at g5
        simpa using Option.some.inj g5
       rw[a1,a2]
       exact (vB I n hk f2 f4 g4 g6 (by show A.units+1+n<cLine;omega)).2
     refine⟨rc,?_⟩
     by_cases hac:a=c
     ·subst hac
      rw[same rfl]
      exact SeqAt.EqAt.same _
     ·exact SeqAt.EqAt.of_refs hac rc
  ·rename_i xs ys
   cases r1 with
   | @lst a vs _ h1 q1 =>
    cases r2 with
    | @lst c ws _ h2 q2 =>
     cases rx;cases ry
     exact FA I h h1.sq q1 h2.sq q2 (by omega) λ{d e v u x y b} hk f2 f4 g4 g6=>(vB I n hk f2 f4 g4 g6 (by show A.units+1+n<cLine;omega)).2
  ·cases h
end
noncomputable def dEq:R22:=λx y Q=>match eqF 6 x y with
 | some b=>Q (.bl b)
 | none=>False
section
variable {X:Cx}
end
theorem kF (env:Env):∀(names:List (Str × NameKind)) (acc:List (Str × Addr)),(∀y∈names,y.2 = .free->∃c,env.cells.lookup y.1=some c) ->
  ∃cl:List (Str × Addr),(do
   let mut cs:=acc
   for (name,kind) in names do
    if kind == .free then cs:=(name,<-cellOf env name)::cs
   return cs:Sem (List (Str × Addr)))=pure cl/\(∀p∈cl,p∈acc\/env.cells.lookup p.1=some p.2)/\(∀p∈acc,p∈cl)/\∀y∈names,y.2 = .free->∃c,(y.1,c)∈cl
 | [],acc,_=>⟨acc,by simp,λp h=>.inl h,λp h=>h,λy h=>by simp at h⟩
 | (n,k)::r,acc,h=>by
  by_cases hk:k = .free
  ·subst hk
   obtain⟨c,hc⟩:=h _ List.mem_cons_self rfl
   obtain⟨cl,e,h1,h2,h3⟩:=kF env r ((n,c)::acc) λy hy=>h y (List.mem_cons_of_mem _ hy)
   refine⟨cl,?_,λp hp=>?_,λp hp=>h2 p (List.mem_cons_of_mem _ hp),λy hy hf=>?_⟩
   ·rw[<-e]
    have hcell:cellOf env n=pure c:=by unfold cellOf;rw[hc]
    simp only[List.forIn_cons,hcell,beq_self_eq_true,if_true,pure_bind]
   ·rcases h1 p hp with q | q
    ·rcases List.mem_cons.mp q with rfl | q
     ·exact .inr hc
     ·exact .inl q
    ·exact .inr q
   ·rcases List.mem_cons.mp hy with rfl | hy
    ·exact⟨c,h2 _ List.mem_cons_self⟩
    ·exact h3 y hy hf
  ·obtain⟨cl,e,h1,h2,h3⟩:=kF env r acc λy hy=>h y (List.mem_cons_of_mem _ hy)
   refine⟨cl,?_,h1,h2,λy hy hf=>?_⟩
   ·rw[<-e]
    have hb:(k == NameKind.free)=false:=by simpa using hk
    simp only[List.forIn_cons,hb,Bool.false_eq_true,if_false,pure_bind]
   ·rcases List.mem_cons.mp hy with rfl | hy
    ·exact absurd hf hk
    ·exact h3 y hy hf
theorem lN {α:Type}:∀{l:List (Str × α)} {x:Str} {c:α},(x,c)∈l->∃c',l.lookup x=some c'
 | [],_,_,h=>by simp at h
 | (y,d)::r,x,c,h=>by
  rw[List.lookup_cons]
  cases e:x == y with
  | true=>exact⟨d,rfl⟩
  | false =>
   rcases List.mem_cons.mp h with q | q
   ·cases q;rw[beq_self_eq_true] at e;cases e
   ·exact lN q
theorem qU {scope:Scope} {env:Env} (h:∀y∈scope.names,y.2 = .free->∃c,env.cells.lookup y.1=some c) :
  ∃cl,closureFor scope env=pure cl/\(∀x c,cl.lookup x=some c->env.cells.lookup x=some c)/\∀y∈scope.names,y.2 = .free->∃c,cl.lookup y.1=some c:=by
 obtain⟨cl,e,h1,_,h3⟩:=kF env scope.names [] h
 refine⟨cl,e,λx c hx=>?_,λy hy hf=>?_⟩
 ·rcases h1 _ (PySem.mem_of_lookup hx) with q | q
  ·simp at q
  ·exact q
 ·obtain⟨c,hc⟩:=h3 y hy hf
  exact lN hc
noncomputable def iA (X:Cx) (scope:Scope) (N:List Str) (cl:List (Str × Addr)) (C:Addr) (s:Shared) (H:Hp) (fp:List Addr):Cx where
 prog:=X.prog
 w:=X.w
 K:=X.K
 mg:=X.mg
 base:=X.base
 A:=X.A
 N:=N
 s₀:=s
 H₀:=H
 env:=compEnvC scope cl C X.env
 outer:=X.stack
 stack:=X.stack
 ex:=fp
 fn:=λ_=>false
 calm:=X.calm
 pn:=[]
 xe:=λ_ _=>False
structure CScope (X:Cx) (scope:Scope):Prop where
 kind:scope.kind = .function
 nocell:∀y∈scope.names,y.2≠.cell
 locs:∀y∈scope.names,y.2 = .local->scope.names.lookup y.1=some .local
 frees:∀y∈scope.names,y.2 = .free->X.env.kindOf y.1=some .cell\/X.env.kindOf y.1=some .free
theorem eJ {env:Env}:∀{names:List (Str × NameKind)} {x:Str} {k:NameKind},(names.map λ(n,k)=>if (k == NameKind.free && env.scope.kind == .function && env.kindOf n == some .cell) then (n,NameKind.cell) else (n,k)).lookup x=some k ->
  (k = .cell\/k = .free)->(∀y∈names,y.2≠.cell)->(x,.free)∈names
 | [],_,_,h,_,_=>by simp at h
 | (n,j)::r,x,k,h,hk,hn=>by
  have h:List.lookup x ((if (j == NameKind.free && env.scope.kind == .function && env.kindOf n == some .cell)=true then (n,NameKind.cell) else (n,j))::r.map λ(n,k)=>if (k == NameKind.free && env.scope.kind == .function && env.kindOf n == some .cell) then (n,NameKind.cell) else (n,k))=some k:=h
  have hn':∀y∈r,y.2≠.cell:=λy hy=>hn y (List.mem_cons_of_mem _ hy)
  cases hx:x == n with
  | true =>
   have e:x=n:=eq_of_beq hx
   subst e
   by_cases hc:(j == NameKind.free && env.scope.kind == .function && env.kindOf x == some .cell)=true
   ·have hj:j = .free:=by
     rw[Bool.and_eq_true,Bool.and_eq_true] at hc
     exact eq_of_beq hc.1.1
    subst hj
    exact List.mem_cons_self
   ·rw[if_neg hc,List.lookup_cons,beq_self_eq_true] at h
    cases h
    rcases hk with rfl | rfl
    ·exact absurd rfl (hn _ List.mem_cons_self)
    ·exact List.mem_cons_self
  | false =>
   by_cases hc:(j == NameKind.free && env.scope.kind == .function && env.kindOf n == some .cell)=true
   ·rw[if_pos hc,List.lookup_cons,hx] at h
    exact List.mem_cons_of_mem _ (eJ h hk hn')
   ·rw[if_neg hc,List.lookup_cons,hx] at h
    exact List.mem_cons_of_mem _ (eJ h hk hn')
section
variable {X:Cx} {pins:List (Addr × Obj)} {σ:St} {H:Hp} {s:Shared} {scope:Scope} {N:List Str} {cl:List (Str × Addr)} {C:Addr} {fp:List Addr}
theorem HL (I:Inv X pins σ H s) (Sc:CScope X scope) (hcl:∀x c,cl.lookup x=some c->X.env.cells.lookup x=some c) (hall:∀y∈scope.names,y.2 = .free->∃c,cl.lookup y.1=some c)
  (hC:s.heap.objs.size<=C) (hf:∀b∈fp,nT X pins H b) (hlt:∀b∈fp,b<s.heap.objs.size):(iA X scope N cl C s H fp).Ok:=by
 refine⟨I.ok.mod,Sc.kind,I.ok.glob,I.ok.blt,hC,λx y c h1 h2=>I.ok.inj x y c (hcl x c h1) (hcl y c h2),λx hx=>?_,λx c hx=>absurd (show false=true from hx) Bool.false_ne_true,I.ok.hd,I.ok.frames,.inl rfl,λb hb=>?_,I.bs,Nat.le_trans I.ok.bsz I.sz,λb o e hb=>?_,λb hb hfs=>?_,I.stack,I.stkFree⟩
 ·have hx:(scope.names.map λ(n,k)=>if (k == NameKind.free && X.env.scope.kind == .function && X.env.kindOf n == some .cell) then (n,NameKind.cell) else (n,k)).lookup x=some .cell\/(scope.names.map λ(n,k)=>if (k == NameKind.free && X.env.scope.kind == .function && X.env.kindOf n == some .cell) then (n,NameKind.cell) else (n,k)).lookup x=some .free:=hx
  have:(x,NameKind.free)∈scope.names:=by
   rcases hx with hx | hx
   ·exact eJ hx (.inl rfl) Sc.nocell
   ·exact eJ hx (.inr rfl) Sc.nocell
  exact hall _ this rfl
 ·obtain⟨f0,f1,f2,f3,f4,f5⟩:=hf b hb
  exact⟨Nat.ne_of_lt (Nat.lt_of_lt_of_le (hlt b hb) hC),λx c e=>f4 x c (hcl x c e)⟩
 ·obtain⟨f0,f1,f2,f3,f4,f5⟩:=hf b hb
  rcases f3 with z | z
  ·exact I.ok.noex b o e z
  ·have h1:=(Heap.lt_size e)
   have h2:=I.ok.bsz
   exact absurd (Nat.lt_of_lt_of_le h1 (Nat.le_trans h2 z)) (Nat.lt_irrefl _)
 ·obtain⟨f0,f1,f2,f3,f4,f5⟩:=hf b hb
  rcases List.mem_cons.mp (I.stkSub b hfs) with e | e
  ·exact f1 e
  ·exact f2 e
noncomputable def uU (σ:St) (k:Nat) (ix:List Nat):St:=List.replicate k none++ix.map λi=>(σ[i]?).join
theorem EI (I:Inv X pins σ H s) (Sc:CScope X scope) (hcl:∀x c,cl.lookup x=some c->X.env.cells.lookup x=some c) (hall:∀y∈scope.names,y.2 = .free->∃c,cl.lookup y.1=some c)
  {s4:Shared} {m:Str->Option Value} {k:Nat} {ix:List Nat} {ys:List Str} (hC:s.heap.objs.size<=C) (hf:∀b∈fp,nT X pins H b) (hlt:∀b∈fp,b<s.heap.objs.size)
  (hk4:∀b o,s.heap.get? b=some o->s4.heap.get? b=some o) (hos:s4.os=s.os) (hb:AllBare s4.gens) (hns:s4.heap.Ns C m)
  (hN:N.length=k+ys.length) (hdrop:N.drop k=ys) (hix:ix.length=ys.length) (hiy:∀(j:Nat) (y:Str) (i:Nat),ys[j]? = some y->ix[j]? = some i->X.N[i]? = some y/\(y,NameKind.free)∈scope.names)
  (hkind:∀y∈ys,(relabel scope X.env).names.lookup y=some .cell\/(relabel scope X.env).names.lookup y=some .free) :
  Inv (iA X scope N cl C s H fp) [] (uU σ k ix) H s4:=by
 have hfr:H C=none:=I.hok.fresh hC
 refine⟨HL I Sc hcl hall hC hf hlt,hos,hb,Un.kept hk4,⟨m,hns,λi x v e1 e2 e3=>?_⟩,λx c e=>?_,hfr,λx c e=>I.freeC x c (hcl x c e),λp hp=>absurd (show p∈([]:List (Addr × Obj)) from hp) (by simp),I.hok.kept hk4,?_⟩
 ·unfold uU at e2
  by_cases hik:i<k
  ·rw[List.getElem?_append_left (by simpa using hik),List.getElem?_replicate,if_pos hik] at e2
   cases e2
  ·rw[List.getElem?_append_right (by simpa using hik),List.length_replicate,List.getElem?_map] at e2
   cases eo:ix[i-k]? with
   | none=>rw[eo] at e2;cases e2
   | some o =>
    rw[eo] at e2
    have e2:some ((σ[o]?).join)=some (some v):=e2
    have e2':σ[o]? = some (some v):=by
     cases q:σ[o]? with
     | none=>rw[q] at e2;cases e2
     | some z=>rw[q] at e2;cases e2;rfl
    have ey:ys[i-k]? = some x:=by
     rw[<-hdrop,List.getElem?_drop]
     rw[show k+(i-k)=i by omega]
     exact e1
    obtain⟨h1,h2⟩:=hiy _ _ _ ey eo
    have hv:Vis X.env.scope x:=by
     rcases Sc.frees _ h2 rfl with q | q
     ·exact .inr (.inl q)
     ·exact .inr (.inr q)
    obtain⟨m0,hn0,hl0⟩:=I.loc
    obtain⟨u,ru,lu⟩:=hl0 o x v h1 e2' hv
    refine⟨u,ru,.inr ⟨hkind x (List.mem_of_getElem? ey),?_⟩⟩
    obtain⟨c,hc⟩:=hall _ h2 rfl
    refine⟨c,hc,?_⟩
    rcases lu with ⟨q,_⟩ | ⟨_,c',hc',hcell⟩
    ·rcases Sc.frees _ h2 rfl with z | z
     ·rw[z] at q;cases q
     ·rw[z] at q;cases q
    ·have:=hcl x c hc
     rw[this] at hc';cases hc'
     obtain⟨oc,ho,hd⟩:=hcell
     exact⟨oc,hk4 _ _ ho,hd⟩
 ·obtain⟨v,oc,ho,hd⟩:=I.cell x c (hcl x c e)
  exact⟨v,oc,hk4 _ _ ho,hd⟩
 ·unfold uU
  show _=N.length
  rw[List.length_append,List.length_replicate,List.length_map,hix,hN]
end
theorem BT {prog:Program} {w:World} {A:Around} {R:Result->Shared->Prop} {s:Shared} {elt target iter:Expr} {scope:Scope} {pos:Pos} {it acc:Value} {env:Env} (I:Nat->Shared->Prop)
  (turn:∀n s,I n s->∀E:Value->Shared->Prop,wpAny (model prog w) A (pyNext it) (λr s₁=>match r with
   | none=>R (.ok .next) s₁
   | some v=>wpAny (model prog w) A (letOwnedTupleGo target it v) (λ_ s₁=>wpAny (model prog w) A (assign target env v) (λ_ s₂=>wpAny (model prog w) A (eval elt env) (λx s₃ =>
     wpAny (model prog w) A (call (.builtin "list.append") [acc,x]) (λ_ s₄=>∃m,m<n/\I m s₄) E s₃) E s₂) E s₁) E s₁) E s)
  (n:Nat) (h:I n s):codeAny (model prog w) A (.compLoop (.ListComp elt [⟨target,iter,[],0⟩] scope pos) 0 it acc env) R s:=by
 refine codeAny_loop rfl I (λn s hI=>?_) n h
 show wpAny _ _ ((compTurn (.ListComp elt [⟨target,iter,[],0⟩] scope pos) 0 it acc env).onRaise (λx=>do noteFrame x env;theTreesLotGoes x)) _ _ s
 refine wpAny_noted ?_
 rw[compTurn_list1]
 refine wpAny_bind (wpAny_standAt (wpAny_bind (wpAny_mono (turn n s hI _) (λr s₁ h₁=>?_) λ_ _ h'=>h')))
 cases r with
 | none=>exact wpAny_pure h₁
 | some v =>
  refine wpAny_bind (wpAny_mono h₁ (λ_ s₁' h₁'=>?_) λ_ _ h'=>h')
  exact wpAny_bind (wpAny_mono h₁' (λ_ s₂ h₂=>wpAny_bind (wpAny_bind (wpAny_mono h₂ (λx s₃ h₃=>wpAny_bind (wpAny_mono h₃
   (λ_ s₄ h₄=>wpAny_pure (wpAny_pure ⟨rfl,h₄⟩)) λ_ _ h'=>h')) λ_ _ h'=>h'))) λ_ _ h'=>h')
noncomputable def dO (g:RG) (te:RE):List D->En->List D->(List D->Prop)->Prop
 | [],_,acc,Q=>Q acc
 | x::xs,ρ,acc,Q=>g x ρ λρ'=>te ρ' λd=>dO g te xs ρ' (acc++[d]) Q
noncomputable def qT (ρ:En) (i:Nat):Option S:=match ρ[i]? with
 | some (some (.d d))=>some (.d d)
 | _=>none
noncomputable def kE (ρ:En) (k:Nat) (ix:List Nat):En:=List.replicate k none++ix.map (qT ρ)
theorem KR {X X':Cx} {ρ:En} {σ:St} {H:Hp} {k:Nat} {ix:List Nat} (so:StOk X ρ σ H) (hK:X'.K=X.K) (hH:X'.H₀=H):StOk X' (kE ρ k ix) (uU σ k ix) H:=by
 have own:∀(i:Nat) (x:S),(kE ρ k ix)[i]? = some (some x)->∃d,x = .d d:=λi x e=>by
  unfold kE at e
  by_cases hik:i<k
  ·rw[List.getElem?_append_left (by simpa using hik),List.getElem?_replicate,if_pos hik] at e;cases e
  ·rw[List.getElem?_append_right (by simpa using hik),List.getElem?_map] at e
   cases eo:ix[i-(List.replicate k (none:Option S)).length]? with
   | none=>rw[eo] at e;cases e
   | some o =>
    rw[eo] at e
    have e:some (qT ρ o)=some (some x):=e
    have e:=Option.some.inj e
    unfold qT at e
    split at e <;> cases e
    exact⟨_,rfl⟩
 refine⟨by simp[kE,uU],by rw[hH];exact Same.refl H,λi x e=>?_,λi j x y v u a e1 _ _ _ o _=>by
  obtain⟨d,rfl⟩:=own i x e1
  exact o.elim⟩
 unfold kE at e
 by_cases hik:i<k
 ·rw[List.getElem?_append_left (by simpa using hik),List.getElem?_replicate,if_pos hik] at e;cases e
 ·rw[List.getElem?_append_right (by simpa using hik),List.getElem?_map,List.length_replicate] at e
  cases eo:ix[i-k]? with
  | none=>rw[eo] at e;cases e
  | some o =>
   rw[eo] at e
   have e:some (qT ρ o)=some (some x):=e
   have e:=Option.some.inj e
   unfold qT at e
   split at e
   ·rename_i d ed
    cases e
    obtain⟨v,h1,h2⟩:=so.rel o _ ed
    refine⟨v,?_,by rw[hK];exact h2⟩
    unfold uU
    rw[List.getElem?_append_right (by simpa using hik),List.getElem?_map,List.length_replicate,eo,Option.map_some,h1];rfl
   ·cases e
section
variable {X:Cx} {pins:List (Addr × Obj)} {σ:St} {H:Hp} {s2:Shared} {scope:Scope} {N:List Str} {cl:List (Str × Addr)} {fp:List Addr} {it:Addr} {tn:Nat->Heap->Prop} {J:It} {xs:List D} {ρ:En}
 {elt target iter:Expr} {pos:Pos} {g:RG} {te:RE} {k:Nat} {ix:List Nat} {ys:List Str} {P:List D->Prop}
theorem _root_.L2.Inv.track {s s':Shared} {H H':Hp} {a:Addr} {vs:List V} {its:List Value} {n:Nat} (I:Inv X pins σ H s) (I':Inv X pins σ H' s') (ha:s.heap.objs.size<=a) (hn:H' a=none)
  (e:s'.heap.get? a=some { cls:=.type "list",data:=.seq its.toArray n }) (rv:Vals vs its) (hz:vs.length<=sizeLine):Inv X pins σ (upd H' a (.lst vs)) s':=by
 have hL:X.env.locals≠a:=Nat.ne_of_lt (Nat.lt_of_lt_of_le I.lt ha)
 have hcell:∀x c,X.env.cells.lookup x=some c->c≠a:=λx c q z=>by
  obtain⟨v,hv⟩:=I.cell x c q
  exact absurd (Nat.lt_of_lt_of_le hv.lt (by rw[z];exact ha)) (Nat.lt_irrefl _)
 have hs0:∀{b:Addr} {o:Obj},X.s₀.heap.get? b=some o->b≠a:=λ{b o} q=>Nat.ne_of_lt (Nat.lt_of_lt_of_le (Heap.lt_size q) (Nat.le_trans I.sz ha))
 refine⟨I'.ok,I'.os,I'.bare,⟨I'.base.keep,I'.base.slot,λb o q n hx=>?_,I'.base.there,λb ys q=>?_,λb o u q=>?_,λb ps q=>?_⟩,I'.loc,I'.cell,?_,λx c q=>?_,λp hp=>?_,λb u q=>?_,I'.len⟩
 ·rw[aI (hs0 q)];exact I'.base.free b o q n hx
 ·rw[aI (aQ (I'.base.tups b ys q) hn)];exact I'.base.tups b ys q
 ·rw[aI (aQ (I'.base.frzs b o u q) hn)];exact I'.base.frzs b o u q
 ·obtain⟨m,q2⟩:=I'.base.tbls b ps q
  exact⟨m,by rw[aI (aQ q2 hn)];exact q2⟩
 ·rw[aI hL];exact I'.free
 ·rw[aI (hcell x c q)];exact I'.freeC x c q
 ·obtain⟨q1,q2,q3,q4,q5⟩:=I'.pin p hp
  have hp1:p.1≠a:=Nat.ne_of_lt (Nat.lt_of_lt_of_le (Heap.lt_size (I.pin p hp).1) ha)
  exact⟨q1,by rw[aI hp1];exact q2,q3,q4,q5⟩
 ·by_cases hb:b=a
  ·subst hb
   rw[aX] at q;cases q
   exact⟨hz,its,n,rv,e⟩
  ·rw[aI hb] at q
   exact (I'.hok b u q).stay (λc v _ w=>w) (λc w=>by rw[aI (aQ w hn)];exact w) λc ys w=>by rw[aI (aQ w hn)];exact w
theorem tO (hc:X.calm=true) (Sc:CScope X scope) (hcl:∀x c,cl.lookup x=some c->X.env.cells.lookup x=some c) (hall:∀y∈scope.names,y.2 = .free->∃c,cl.lookup y.1=some c)
  (hN:N.length=k+ys.length) (hdrop:N.drop k=ys) (hix:ix.length=ys.length) (hiy:∀(j:Nat) (y:Str) (i:Nat),ys[j]? = some y->ix[j]? = some i->X.N[i]? = some y/\(y,NameKind.free)∈scope.names)
  (hkind:∀y∈ys,(relabel scope X.env).names.lookup y=some .cell\/(relabel scope X.env).names.lookup y=some .free)
  (hg:∀C s H fp,DG (iA X scope N cl C s H fp) target g) (he:∀C s H fp,DE (iA X scope N cl C s H fp) elt te)
  (I2:Inv X pins σ H s2) (so:StOk X ρ σ H) (T:Turn X.prog X.w X.K target J fp it tn) (st:tn 0 s2.heap) (hf:∀b∈fp,nT X pins H b) (ok:yN X J xs H) (hz:xs.length<=sizeLine)
  (hP:dO g te xs (kE ρ k ix) [] P) {RR:Value->Addr->Result->Shared->Prop} {E:Value->Shared->Prop}
  (post:∀(ds:List D) (vs:List V) (its:List Value) (n:Nat) (C:Addr) (s':Shared) (H':Hp),P ds->Same H H'->H' s2.heap.objs.size=none->Reps X.K H' ds vs->Vals vs its->vs.length<=sizeLine ->
   s'.heap.get? s2.heap.objs.size=some { cls:=.type "list",data:=.seq its.toArray n }->Inv X pins σ H' s'->(∃m,s'.heap.Ns C m)->s2.heap.objs.size<C->H' C=none->RR (.ref s2.heap.objs.size) C (.ok .next) s') :
  wpAny (model X.prog X.w) X.A (newList []) (λacc s₃=>wpAny (model X.prog X.w) X.A (newFunctionEnv scope X.env.globals cl [] X.env.qual none .none (some X.env)) (λcenv s₄ =>
   codeAny (model X.prog X.w) X.A (.compStart (.ListComp elt [⟨target,iter,[],0⟩] scope pos) 0 (.ref it) acc { cenv with scope:=relabel scope X.env }) (RR acc cenv.locals) s₄) E s₃) E s2:=by
 refine wpAny_newObj_type (wpAny_newFunctionEnv Sc.nocell (by intro y hy;simp at hy) (λh₁ hns₁ hsb₁=>?_) Sc.kind)
 dsimp only at hns₁ hsb₁ ⊢
 generalize hH2:s2.heap.push { cls:=.type "list",dict:=none,data:=.seq ([]:List Value).toArray } = HP2 at hns₁ hsb₁ ⊢
 have hCs:HP2.objs.size=s2.heap.objs.size+1:=by rw[<-hH2,Heap.size_push]
 have hltC:s2.heap.objs.size<HP2.objs.size:=by rw[hCs];exact Nat.lt_succ_self _
 have hlt:∀b∈fp,b<s2.heap.objs.size:=λb hb=>by
  obtain⟨o,ho,_⟩:=T.obj 0 _ st b hb
  exact Heap.lt_size ho
 have old:∀b o,s2.heap.get? b=some o->h₁.get? b=some o:=λb o e =>
  hsb₁.extBut b o (Nat.ne_of_lt (Nat.lt_trans (Heap.lt_size e) hltC)) (Heap.get?_push_of_some _ (hH2 ▸ Heap.get?_push_of_some _ e))
 have hacc:h₁.get? s2.heap.objs.size=some { cls:=.type "list",data:=.seq ([]:List Value).toArray 0 } :=
  hsb₁.extBut _ _ (Nat.ne_of_lt hltC) (Heap.get?_push_of_some _ (hH2 ▸ Heap.get?_push_size _ rfl))
 have hfr:H s2.heap.objs.size=none:=I2.hok.fresh (Nat.le_refl _)
 let X':=iA X scope N cl HP2.objs.size s2 H fp
 have J0:Inv X' [] (uU σ k ix) H { s2 with heap:=h₁,toks:=s2.toks+([]:List (Str × Value)).length } :=
  EI I2 Sc hcl hall (Nat.le_of_lt hltC) hf hlt old rfl I2.bare hns₁ hN hdrop hix hiy hkind
 have S0:StOk X' (kE ρ k ix) (uU σ k ix) H:=KR so rfl rfl
 have hD0fs:s2.heap.objs.size ∉ X'.fs:=λhb=>by
  have hb:s2.heap.objs.size∈frs X.stack:=hb
  rcases List.mem_cons.mp (I2.stkSub _ hb) with e | e
  ·exact absurd (show X.env.locals<X.env.locals from Nat.lt_of_lt_of_eq I2.lt e) (Nat.lt_irrefl _)
  ·exact I2.nofs (Nat.le_refl _) e
 have fpok:∀{H':Hp} {o:Obj},(∀b∈fp,H' b=none)->∀b∈fp,nT X' [(s2.heap.objs.size,o)] H' b:=λ{H' o} hn b hb=>by
  obtain⟨f0,f1,f2,f3,f4,f5⟩:=hf b hb
  refine⟨hn b hb,Nat.ne_of_lt (Nat.lt_trans (hlt b hb) hltC),λhfs=>?_,.inl hb,λx c e=>f4 x c (hcl x c e),λp hp=>?_⟩
  ·rcases List.mem_cons.mp (I2.stkSub b hfs) with e | e
   ·exact f1 e
   ·exact f2 e
  ·have:p=(s2.heap.objs.size,o):=by simpa [X',iA] using hp
   subst this
   exact Nat.ne_of_gt (hlt b hb)
 have pinD:∀{σ':St} {H':Hp} {s':Shared} {its:List Value} {n:Nat},Inv X' [] σ' H' s'->H' s2.heap.objs.size=none->s'.heap.get? s2.heap.objs.size=some { cls:=.type "list",data:=.seq its.toArray n }->Inv X' [(s2.heap.objs.size,{ cls:=.type "list",data:=.seq its.toArray n })] σ' H' s':=λI' hn e =>
  I'.pins_of λp hp=>by
   have:=List.mem_singleton.mp hp
   subst this
   exact⟨e,hn,Nat.ne_of_lt hltC,hD0fs,λv z=>by cases z⟩
 have loop:∀s₃:Shared,s₃ = { s2 with heap:=h₁,toks:=s2.toks+([]:List (Str × Value)).length } ->
   codeAny (model X.prog X.w) X.A (.compLoop (.ListComp elt [⟨target,iter,[],0⟩] scope pos) 0 (.ref it) (.ref s2.heap.objs.size) (compEnvC scope cl HP2.objs.size X.env)) (RR (.ref s2.heap.objs.size) HP2.objs.size) s₃:=by
  rintro s₃ rfl
  refine BT (λm s'=>∃(i:Nat) (ρ':En) (σ':St) (H':Hp) (ds:List D) (vs:List V) (its:List Value) (n:Nat),m=xs.length-i/\i<=xs.length/\Inv X' [] σ' H' s'/\StOk X' ρ' σ' H'/\tn i s'.heap/\(∀b∈fp,H' b=none) /\
   H' s2.heap.objs.size=none/\s'.heap.get? s2.heap.objs.size=some { cls:=.type "list",data:=.seq its.toArray n }/\Reps X.K H' ds vs/\Vals vs its/\vs.length=i/\dO g te (xs.drop i) ρ' ds P) ?_ xs.length
   ⟨0,kE ρ k ix,uU σ k ix,H,[],[],[],0,rfl,Nat.zero_le _,J0,S0,T.keep _ _ _ st (λb hb o e=>old b o e),λb hb=>(hf b hb).1,hfr,hacc,.nil,.nil,rfl,by simpa using hP⟩
  rintro m s' ⟨i,ρ',σ',H',ds,vs,its,n,rfl,hi,I',S',st',fr',hn',e',rr,rv,hl,hD⟩ E'
  obtain⟨o1,o2⟩:=ok i H' (.of S'.same)
  have I1:=pinD I' hn' e'
  by_cases hlt':i<xs.length
  ·have e:xs.drop i=xs[i]::xs.drop (i+1):=List.drop_eq_getElem_cons hlt'
   rw[e] at hD
   obtain⟨go,yl⟩:=o1 xs[i] (List.getElem?_eq_getElem hlt')
   refine thn (T.item X' rfl rfl rfl hc i _ s' σ' H' E' I1 (fpok fr') st' go) λr s4 ⟨u,hr,h4⟩=>?_
   subst hr
   refine thn h4 λ_ s5 ⟨x,H5,I5,r5,y5,st5,fr5⟩=>?_
   obtain⟨s45,rx5⟩:=yl x H5 y5
   have I5':=I5.pinned (fpok fr5) (T.obj _ _ st5)
   refine wpAny_mono (hg _ _ _ _ _ s5 σ' H5 x u (λσ6 H6=>∃ρ6,te ρ6 (λd=>dO g te (xs.drop (i+1)) ρ6 (ds++[d]) P)/\Keep H5 H6/\StOk X' ρ6 σ6 H6) I5' r5 ⟨xs[i],ρ',_,rx5,S'.ext s45,hD,λρ6 σ6 H6 q6 k6 s6=>⟨ρ6,q6,k6,s6⟩⟩) (λ_ s6 ⟨σ6,H6,I6,ρ6,q6,k6,S6⟩=>?_) λ_ _ z=>z.elim
   refine wpAny_mono (he _ _ _ _ _ s6 σ6 H6 (λv H7=>∃d,dO g te (xs.drop (i+1)) ρ6 (ds++[d]) P/\Same H6 H7/\Rep X.K H7 d v) I6 ⟨ρ6,_,S6,q6,λd v H7 q7 s7 r7=>⟨d,q7,s7,r7⟩⟩) (λu7 s7 ⟨v7,H7,I7,rv7,d,q7,s67,r7⟩=>?_) λ_ _ z=>z.elim
   obtain⟨e7,n7,_,_,_⟩:=I7.pin (s2.heap.objs.size,_) (List.mem_append_right _ (List.mem_append_left _ List.mem_cons_self))
   have hsz:its.toArray.size+1<=sizeLine:=by
    rw[List.size_toArray,<-rv.length,hl]
    omega
   refine call_meets F.slot_list_append ⟨_,e7,rfl⟩ F.entry_list_append (F.args_list_append_2 _ _) (PySem.list_append s2.heap.objs.size its.toArray n u7 (by omega)) ⟨e7,?_⟩
   have e8:=PySem.IsL.update e7 (λa=>a.push u7)
   have I8:Inv X' [] σ6 H7 s7:=I7.pins_of λp hp=>absurd hp (by simp)
   have upd8:∀b o,b≠s2.heap.objs.size->s7.heap.get? b=some o->(s7.heap.update s2.heap.objs.size (Obj.mapSeq λa=>a.push u7)).get? b=some o:=λb o hb q=>(Heap.get?_update_other s7.heap _ (Ne.symm hb)).trans q
   have I9:Inv X' [] σ6 H7 { s7 with heap:=s7.heap.update s2.heap.objs.size (Obj.mapSeq λa=>a.push u7) } :=
    I8.turned (t':=s7.toks) upd8 n7 (Nat.ne_of_lt hltC) (.inr (Nat.le_refl _)) (λx c q z=>by
     obtain⟨v,hv⟩:=I2.cell x c (hcl x c q)
     exact absurd hv.lt (by rw[z];exact Nat.lt_irrefl _)) (λp hp=>absurd (show p∈([]:List (Addr × Obj)) from hp) (by simp))
   have k57:Keep H5 H7:=k6.trans (.of s67)
   have k':Keep H' H7:=(Keep.of s45).trans k57
   refine⟨xs.length-(i+1),by omega,i+1,ρ6,σ6,H7,ds++[d],vs++[v7],its++[u7],_,rfl,hlt',I9,S6.ext s67,?_,λb hb=>?_,n7,by simpa using e8,(rr.keep k').append (.cons r7 .nil),rv.append (.cons rv7 .nil),by rw[List.length_append,hl];rfl,q7⟩
   ·refine T.keep _ _ _ st5 λb hb o q=>?_
    have q7':=(I7.pin (b,o) (List.mem_append_right _ (List.mem_append_right _ (jD hb q)))).1
    exact upd8 b o (Nat.ne_of_lt (hlt b hb)) q7'
   ·obtain⟨o,q,_⟩:=T.obj _ _ st5 b hb
    exact (I7.pin (b,o) (List.mem_append_right _ (List.mem_append_right _ (jD hb q)))).2.1
  ·have hie:i=xs.length:=by omega
   subst hie
   rw[List.drop_length] at hD
   refine thn (T.done X' rfl rfl rfl hc _ _ s' σ' H' E' I1 (fpok fr') st' (o2 (Nat.le_refl _))) λr s4 ⟨hr,I4⟩=>?_
   subst hr
   obtain⟨e4,n4,_,_,_⟩:=I4.pin (s2.heap.objs.size,_) (List.mem_append_right _ List.mem_cons_self)
   obtain⟨m4,hn4,_⟩:=I4.loc
   have I5:Inv X pins σ H' s4:=I2.call' (ch:=fp) I4.os I4.base I4.hok I4.bare λb hb=>by
    obtain⟨f0,f1,f2,f3,f4,f5⟩:=hf b hb
    exact⟨f3,f1,f4,f5⟩
   exact post ds vs its n HP2.objs.size s4 H' hD S'.same n4 rr rv (by rw[hl];exact hz) e4 I5 ⟨m4,hn4⟩ hltC I4.free
 exact codeAny_compStart_list (loop _ rfl) (T.self X.A 0 _ _ _ (T.keep _ _ _ st λb hb o e=>old b o e) (loop _ rfl))
end
noncomputable def AT (X:Cx) (scope:Scope) (N:List Str) (k:Nat) (ix:List Nat):Bool :=
 scope.kind == .function && scope.names.all (λy=>y.2 != .cell) && scope.names.all (λy=>y.2 != .local || scope.names.lookup y.1 == some .local) &&
 scope.names.all (λy=>y.2 != .free || X.env.kindOf y.1 == some .cell || X.env.kindOf y.1 == some .free) &&
 N.length == k+ix.length && ((N.drop k).zip ix).all (λp=>X.N[p.2]? == some p.1 && scope.names.contains (p.1,.free)) &&
 (N.drop k).all (λy=>(relabel scope X.env).names.lookup y == some .cell || (relabel scope X.env).names.lookup y == some .free)
structure CompF (X:Cx) (scope:Scope) (N:List Str) (k:Nat) (ix:List Nat):Prop where
 sc:CScope X scope
 hN:N.length=k+(N.drop k).length
 hix:ix.length=(N.drop k).length
 hiy:∀(j:Nat) (y:Str) (i:Nat),(N.drop k)[j]? = some y->ix[j]? = some i->X.N[i]? = some y/\(y,NameKind.free)∈scope.names
 hkind:∀y∈N.drop k,(relabel scope X.env).names.lookup y=some .cell\/(relabel scope X.env).names.lookup y=some .free
theorem wG {X:Cx} {scope:Scope} {N:List Str} {k:Nat} {ix:List Nat} (h:AT X scope N k ix=true):CompF X scope N k ix:=by
 unfold AT at h
 simp only[Bool.and_eq_true,List.all_eq_true,bne_iff_ne,ne_eq,Bool.or_eq_true,beq_iff_eq] at h
 obtain⟨⟨⟨⟨⟨⟨h1,h2⟩,h3⟩,h4⟩,h5⟩,h6⟩,h7⟩:=h
 have hl:(N.drop k).length=ix.length:=by rw[List.length_drop];omega
 refine⟨⟨h1,h2,λy hy e=>?_,λy hy e=>?_⟩,by omega,hl.symm,λj y i e1 e2=>?_,h7⟩
 ·rcases h3 y hy with q | q
  ·exact absurd e q
  ·exact q
 ·rcases h4 y hy with (q | q) | q
  ·exact absurd e q
  ·exact .inl q
  ·exact .inr q
 ·have hm:(y,i)∈(N.drop k).zip ix:=by
   refine List.mem_of_getElem? (i:=j) ?_
   rw[List.getElem?_zip_eq_some]
   exact⟨e1,e2⟩
  obtain⟨q1,q2⟩:=h6 _ hm
  exact⟨q1,List.contains_iff_mem.mp q2⟩
noncomputable def eM (ti:RA) (k:Nat) (ix:List Nat) (g:RG) (te:RE):RA:=λρ Q=>ti ρ λxs=>Sz xs.length/\dO g te xs (kE ρ k ix) [] Q
section
variable {X:Cx} {scope:Scope} {elt target iter:Expr} {pos:Pos} {g:RG} {te:RE} {ti:RA}
theorem pF {pins:List (Addr × Obj)} {σ:St} {H H':Hp} {s s':Shared} {C:Addr} {h':Heap} {t':Nat} (I2:Inv X pins σ H s) {σ':St} (I':Inv X pins σ' H' s') (hC:s.heap.objs.size<=C) (hn:H' C=none) (hs:Heap.SameBut C s'.heap h') :
  Inv X pins σ' H' { s' with heap:=h',toks:=t' } :=
 I'.turned (λb o hb e=>(hs.2 b hb).trans e) hn (Nat.ne_of_gt (Nat.lt_of_lt_of_le I2.lt hC)) (.inr (Nat.le_trans I2.sz hC)) (λx c e z=>by
  obtain⟨v,hv⟩:=I2.cell x c e
  exact absurd (Nat.lt_of_lt_of_le hv.lt (by rw[z];exact hC)) (Nat.lt_irrefl _)) λp hp z=>absurd (Nat.lt_of_lt_of_le (Heap.lt_size (I2.pin p hp).1) (by rw[z];exact hC)) (Nat.lt_irrefl _)
theorem vA (N:List Str) (k:Nat) (ix:List Nat) (hi:DI X target iter ti) (hg:∀cl C s H fp,DG (iA X scope N cl C s H fp) target g) (he:∀cl C s H fp,DE (iA X scope N cl C s H fp) elt te)
  (hc:X.calm=true:=by rfl) (hB:AT X scope N k ix=true:=by rfl) (hs:∀x,foldedSetIterable iter X.env x=pure x:=by intro _;rfl):DO X (.ListComp elt [⟨target,iter,[],0⟩] scope pos) (eM ti k ix g te):=by
 intro pins s σ H Q I hh_0
 obtain⟨ρ,P,so,q,kk⟩:=hh_0
 have F:=wG hB
 obtain⟨cl,hclos,hcl,hall⟩:=qU (scope:=scope) (env:=X.env) λy hy hf=>I.ok.has _ (F.sc.frees y hy hf)
 rw[eval_ListComp]
 refine wpAny_comprehension_free (use:=none) rfl hs hclos F.sc.kind F.sc.locs (thn (hi pins s σ H (λJ H'=>∃xs,Same H H'/\yN X J xs H'/\xs.length<=sizeLine/\dO g te xs (kE ρ k ix) [] P) I ⟨ρ,_,so,q,λxs J H' hx s1 ok=>⟨xs,s1,ok,hx.1.ok,hx.2⟩⟩) λv s1 h1=>thn h1 λitv s2 h2=>?_)
 obtain⟨it,fp,tn,J,H',rfl,I2,T,st,hf,xs,s01,ok,hz,hD⟩:=h2
 refine tO (RR:=λacc C=>compPost (model X.prog X.w) X.A X.xe none (EP X pins σ Q) acc C) hc F.sc hcl hall F.hN rfl F.hix F.hiy F.hkind (hg cl) (he cl) I2 (so.ext s01) T st hf ok hz hD ?_
 intro ds vs its n C s' H2 hP s12 hn rr rv hl e I' ⟨m,hns⟩ hltC hnC
 refine⟨m,hns,λh' hs'=>?_⟩
 have I3:Inv X pins σ H2 { s' with heap:=h' }:=pF (t':=s'.toks) I2 I' (Nat.le_of_lt hltC) hnC hs'
 have e3:h'.get? s2.heap.objs.size=some { cls:=.type "list",data:=.seq its.toArray n }:=(hs'.2 _ (Nat.ne_of_lt hltC)).trans e
 exact⟨.ref s2.heap.objs.size,_,I2.track I3 (Nat.le_refl _) hn e3 rv hl,rfl,kk ds _ vs H2 hP (s01.trans s12) hn rr⟩
theorem qL {i:Nat} {y:Str} {pos' spos:Pos} (N:List Str) (k:Nat) (ix:List Nat) (hN:X.N.Nodup) (hi:DI X target iter ti) (hg:∀cl C s H fp,DG (iA X scope N cl C s H fp) target g) (he:∀cl C s H fp,DE (iA X scope N cl C s H fp) elt te)
  (hy:X.N[i]? = some y:=by rfl) (hx:X.env.scope.names.lookup y=some .local:=by rfl) (hc:X.calm=true:=by rfl) (hB:AT X scope N k ix=true:=by rfl) (hs:∀x,foldedSetIterable iter X.env x=pure x:=by intro _;rfl)
  (hsw:swapsWith (.ListComp elt [⟨target,iter,[],0⟩] scope pos) (some (.Name y pos')) spos.line X.env=pure true:=by rfl) :
  DS X (.Assign [.Name y pos'] (.ListComp elt [⟨target,iter,[],0⟩] scope pos) spos) (cK i (eM ti k ix g te)):=by
 intro pins s σ H De I hh_0
 obtain⟨ρ,E,so,q,nn,rt,bk,ct⟩:=hh_0
 have F:=wG hB
 obtain⟨cl,hclos,hcl,hall⟩:=qU (scope:=scope) (env:=X.env) λy hy hf=>I.ok.has _ (F.sc.frees y hy hf)
 rw[exec_Assign_Name_used _ _ _ _ hsw]
 refine wpAny_bind (wpAny_standAt (wpAny_bind ?_))
 show wpAny _ X.A (do let _ <-comprehension (.ListComp elt [⟨target,iter,[],0⟩] scope pos) scope X.env _ (newList []) false (eval iter X.env) (some (assign (.Name y pos') X.env))) _ _ s
 refine wpAny_bind (wpAny_mono (wpAny_comprehension_free (use:=some (assign (.Name y pos') X.env)) (Q:=λ_ s'=>SP X pins De .next s') rfl hs hclos F.sc.kind F.sc.locs
  (thn (hi pins s σ H (λJ H'=>∃xs,Same H H'/\yN X J xs H'/\xs.length<=sizeLine/\dO g te xs (kE ρ k ix) [] (λds=>E.nx (ρ.set i (some (.own ds))))) I ⟨ρ,_,so,q,λxs J H' hx s1 ok=>⟨xs,s1,ok,hx.1.ok,hx.2⟩⟩) λv s1 h1=>thn h1 λitv s2 h2=>?_)) (λ_ s' hq=>wpAny_pure (wpAny_pure hq)) λ_ _ e=>e)
 obtain⟨it,fp,tn,J,H',rfl,I2,T,st,hf,xs,s01,ok,hz,hD⟩:=h2
 refine tO (RR:=λacc C=>compPost (model X.prog X.w) X.A X.xe (some (assign (.Name y pos') X.env)) (λ_ s'=>SP X pins De .next s') acc C) hc F.sc hcl hall F.hN rfl F.hix F.hiy F.hkind (hg cl) (he cl) I2 (so.ext s01) T st hf ok hz hD ?_
 intro ds vs its n C s' H2 hP s12 hn rr rv hl e I' ⟨m,hns⟩ hltC hnC
 have I3:=I2.track I' (Nat.le_refl _) hn e rv hl
 have hneC:s2.heap.objs.size≠C:=Nat.ne_of_lt hltC
 have so3:StOk X (ρ.set i (some (.own ds))) (σ.set i (some (.ref s2.heap.objs.size))) (upd H2 s2.heap.objs.size (.lst vs)):=(so.ext (s01.trans s12)).set_own hn rr
 have k3:Keep H (upd H2 s2.heap.objs.size (.lst vs)):=(Keep.of (s01.trans s12)).trans (.of λb o h=>by rw[aI (aQ h hn)];exact h)
 show wpAny (model X.prog X.w) X.A (assign (.Name y pos') X.env (.ref s2.heap.objs.size)) _ _ s'
 refine wpAny_assign_Name (uI I3 hN hy (.inl hx) (v:=.ref s2.heap.objs.size) rfl (λs4 I4 ⟨a,sb,ha⟩=>?_) (.inr hx))
 have hCa:C≠a:=by
  rcases ha with rfl | ha
  ·exact Nat.ne_of_gt (Nat.lt_trans I2.lt hltC)
  ·obtain⟨v,hv⟩:=I2.cell _ a ha
   exact Nat.ne_of_gt (Nat.lt_trans hv.lt hltC)
 refine⟨m,hns.sameBut sb hCa,λh' hs'=>⟨_,_,pF (t':=s4.toks) I2 I4 (Nat.le_of_lt hltC) (by rw[aI (Ne.symm hneC)];exact hnC) hs',nn _ _ _ hP k3 so3⟩⟩
end
section
variable {X:Cx} {e a b:Expr} {pos apos cpos npos:Pos} {te:RE} {x:Str}
noncomputable def eY (i:Nat) (te:RE):RS:=λE ρ=>match ρ[i]? with
 | some (some (.own xs))=>te ρ λd=>Sz (xs.length+1)/\E.nx (ρ.set i (some (.own (xs++[d]))))
 | _=>False
theorem cS (i:Nat) (he:DE X e te) (hN:X.N[i]? = some x:=by rfl) (hv:Vis X.env.scope x:=by walk_at "vis") (hd:(x == ("__debug__":Str))=false:=by decide) (hcd:(x == ("__classdict__":Str))=false:=by decide)
  (hbase:attributeBase (.Name x npos) "append" X.env (eval (.Name x npos) X.env)=eval (.Name x npos) X.env:=by rfl)
  (hfew:((backTo cpos (starEach [e] X.env)).all (λx=>!x.1) && (backToKw cpos (keywordEach [] X.env)).all (λx=>x.1.isSome) && decide (([e]:List Expr).length+([]:List Keyword).length+(if ([]:List Keyword).isEmpty then 0 else 1)<30))=true:=by rfl)
  (hline:(apos.endLine == cpos.line)=true:=by rfl) (hs:starEach [e] X.env=[(false,eval e X.env)]:=by rfl) (hn:starEach [] X.env=[]:=by rfl) (hsw:swapsWith (.Call (.Attribute (.Name x npos) "append" apos) [e] [] cpos) none pos.line X.env=pure false:=by rfl) :
  DS X (.Expr (.Call (.Attribute (.Name x npos) "append" apos) [e] [] cpos) pos) (eY i te):=by
 refine PS.mono (vN (BE PySem.F.plainAttrs_list PySem.F.slot_list_append PySem.F.type_list_append tX (pv i hN hv hd hcd) (iC he hs hn) hbase hfew hline (by rw[hs,hn]) (by rw[hn];rfl)) hsw) λDe σ H hh=>eI hh λρ E so q n r bk ct=>?_
 unfold eY at q
 split at q
 ·rename_i xs ex
  obtain⟨v,h1,p,vs,ev,hp,h0,rr⟩:=so.rel i _ ex
  subst ev
  refine⟨.ref p,h1,.inl ⟨rfl,vs,SqL.of hp⟩,ρ,_,so,q,λd v H1 hd s1 rd=>?_⟩
  have hp1:=s1 _ _ hp
  obtain⟨so2,k2⟩:=(so.ext s1).upd_own ex h1 hp1 h0 ((rr.keep (.of s1)).append (.cons rd .nil))
  have hsz:xs.length+1<=sizeLine:=hd.1.ok
  exact⟨p,vs,v,rfl,rfl,hp1,by rw[<-rr.length];omega,n _ _ _ hd.2 ((Keep.of s1).trans k2) so2⟩
 ·exact q.elim
noncomputable def tZ (i:Nat):RS:=λE ρ=>match ρ[i]? with
 | some (some (.own xs))=>xs≠[]/\E.nx (ρ.set i (some (.own xs.dropLast)))
 | _=>False
noncomputable def kO (i:Nat) (te tk:RE):RS:=λE ρ=>match ρ[i]? with
 | some (some (.own xs))=>te ρ λd=>tk ρ λkd=>match kd with
  | .int k=>match ixN xs.length k with
   | some j=>E.nx (ρ.set i (some (.own (xs.set j d))))
   | none=>False
  | _=>False
 | _=>False
end
section
variable {X:Cx} {e a b:Expr} {pos p:Pos}
theorem IX:OpR X (binaryOp .Add) (λx y H Q=>∃l b xs zs,x = .ref l/\y = .ref b/\SqL X.K H l xs/\SqL X.K H b zs/\xs.length+zs.length<=sizeLine/\∀p,H p=none->Q (.ref p) (upd H p (.lst (xs++zs)))):=by
 intro pins s σ H x y v u Q I rx ry h
 obtain⟨l,b,xs,zs,rfl,rfl,hH,hB,hz,q⟩:=h
 cases rx
 cases ry
 obtain⟨its,r,⟨o,n,e,hc,hd,hs⟩,hl⟩:=I.list hH
 obtain⟨its2,r2,⟨o2,n2,e2,hc2,hd2,hs2⟩,hl2⟩:=I.list hB
 obtain⟨c,d,dt,sl⟩:=o
 obtain⟨c2,d2,dt2,sl2⟩:=o2
 dsimp only at hc hs hd hc2 hs2 hd2
 subst hc hs hd hc2 hs2 hd2
 have hl1:=r.length
 have hl2:=r2.length
 refine concat_meets (T:="list") (id:="list.__add__") ⟨_,e,rfl⟩ ⟨_,e2,rfl⟩ (by kernel_rfl) (by kernel_rfl) PySem.F.slot_list_add PySem.F.entry_list_add (PySem.F.args_list_add_2 _ _)
  (list_addW l b its.toArray its2.toArray n n2 none none sl sl2 (by rw[List.size_toArray,List.size_toArray];omega)) ⟨e,e2,?_⟩
 have ea:its.toArray++its2.toArray=(its++its2).toArray:=by simp
 rw[ea]
 exact⟨.ref _,_,I.lnew (t':=s.toks) (r.append r2) (by rw[List.length_append];omega),rfl,q _ I.fresh⟩
noncomputable def FzQ (X:Cx) (Q:VK):VK:=λv H'=>Q v H'\/∃p vs H1,v = .ref p/\H'=upd H1 p (.lst vs)/\H1 p=none/\∀H2,Same H1 H2->FzL X.K H2 p vs->Q v H2
theorem JX {pins:List (Addr × Obj)} {σ:St} {Q:VK} {u:Value} {s:Shared} (h:EP X pins σ (FzQ X Q) u s):EP X pins σ Q u s:=by
 obtain⟨v,H',I,rv,q | ⟨p,vs,H1,rfl,rfl,hn,q⟩⟩:=h
 ·exact⟨v,H',I,rv,q⟩
 ·obtain⟨o,I2⟩:=Inv.freeze I (a:=p) (xs:=vs) aX
  exact⟨.ref p,_,I2,rv,q _ (λb u e=>by rw[aI (aQ e hn),aI (aQ e hn)];exact e) (.inl ⟨o,aX⟩)⟩
theorem PE.frz {t:TE} (h:PE X e t):PE X e (λσ H Q=>t σ H (FzQ X Q)):=λpins s σ H Q I q=>thn (h pins s σ H _ I q) λ_ _=>JX
theorem OpR.frz {f:Value->Value->Sem Value} {r:R2} (h:OpR X f r):OpR X f (λx y H Q=>r x y H (FzQ X Q)):=λpins s σ H x y v u Q I rx ry q=>thn (h pins s σ H x y v u _ I rx ry q) λ_ _=>JX
noncomputable def fG:R22:=λx y Q=>match x,y with
 | .int i,.int j=>Q (.int (i+j))
 | .lst xs,.lst ys=>Sz (xs.length+ys.length)/\Q (.lst (xs++ys))
 | .tup xs,.tup ys=>xs≠[]/\Sz (xs.length+ys.length)/\Q (.tup (xs++ys))
 | _,_=>False
theorem upd_new {H:Hp} {p:Addr} {o:HO} (hp:H p=none):Same H (upd H p o):=λb u e=>by rw[aI (aQ e hp)];exact e
theorem lE:OpD X (binaryOp .Add) fG:=by
 intro pins s σ H x y v u Q I rx ry hh_0
 obtain⟨d,e,P,r1,r2,q,k⟩:=hh_0
 unfold fG at q;split at q
 ·exact bM pins s σ H x y v u Q I rx ry ⟨_,_,P,r1,r2,q,k⟩
 ·rename_i xs ys
  obtain⟨a,vs,rfl,ha,ra⟩:=r1.lst
  obtain⟨b,ws,rfl,hb,rb⟩:=r2.lst
  have hsz:xs.length+ys.length<=sizeLine:=q.1.ok
  refine OpR.frz IX pins s σ H _ _ v u Q I rx ry ⟨a,b,vs,ws,rfl,rfl,ha,hb,by rw[<-ra.length,<-rb.length];exact hsz,λp hp=>.inr ⟨p,_,H,rfl,rfl,hp,λH2 s2 fz=>k _ _ H2 q.2 s2 (.lst fz ((ra.append rb).keep (.of s2)))⟩⟩
 ·rename_i xs ys
  obtain⟨a,vs,rfl,ha,ra⟩:=r1.tup
  obtain⟨b,ws,rfl,hb,rb⟩:=r2.tup
  have hsz:xs.length+ys.length<=sizeLine:=q.2.1.ok
  have hl:=ra.length
  refine IY pins s σ H _ _ v u Q I rx ry ⟨a,b,vs,ws,rfl,rfl,SqT.of ha,SqT.of hb,λz=>q.1 (List.length_eq_zero_iff.mp (by rw[hl,z];rfl)),by rw[<-ra.length,<-rb.length];exact hsz,λz=>?_,λz p hp=>?_⟩
  ·subst z
   cases rb
   have:=k _ (.ref a) H q.2.2 (Same.refl H)
   rw[List.append_nil] at this
   exact this (.tup ha ra)
  ·exact k _ _ _ q.2.2 (upd_new hp) (.tup aX ((ra.append rb).keep (.of (upd_new hp))))
 ·exact q.elim
noncomputable def jG (te:RE) (tl th:RO):RE:=λρ Q=>te ρ λx=>tl ρ λl=>th ρ λu=>match x with
 | .lst ds=>Q (.lst (eX ds l u))
 | .tup ds=>¬(HT.sIx ds.length 0 l=0/\HT.sIx ds.length ds.length u=ds.length)/\Q (.tup (eX ds l u))
 | _=>False
theorem wM {K:PySem.W.Frag} {H:Hp} {ds:List D} {vs:List V} (l u:Option Int) (rr:Reps K H ds vs):Reps K H (eX ds l u) (wL vs l u):=by
 unfold eX wL
 rw[<-rr.length]
 exact (rr.drop _).take _
theorem fK {lo hi:Option Expr} {te:RE} {tl th:RO} {p2:Pos} (he:DB X e te) (hl:DP X lo tl) (hu:DP X hi th):DE X (.Subscript e (.Slice lo hi none p2) pos) (jG te tl th):=by
 refine PE.mono (PE.frz (GE (JM.or MP) he hl hu)) λσ H Q hh=>bX hh λρ P st q k=>?_
 refine⟨ρ,_,st,q,λd v H1 hd s1 r1=>⟨ρ,_,st.ext s1,hd,λl H2 h2 s2=>⟨ρ,_,(st.ext s1).ext s2,h2,λu H3 h3 s3=>?_⟩⟩⟩
 have s03:=(s1.trans s2).trans s3
 cases d with
 | lst ds =>
  obtain⟨p,vs,rfl,hq,rr⟩:=(r1.same (s2.trans s3)).lst
  exact .inl ⟨p,vs,rfl,hq,λp' hp'=>.inr ⟨p',_,H3,rfl,rfl,hp',λH4 s4 fz=>k _ _ H4 h3 (s03.trans s4) (.lst fz ((wM l u rr).keep (.of s4)))⟩⟩
 | tup ds =>
  obtain⟨p,vs,rfl,hq,rr⟩:=(r1.same (s2.trans s3)).tup
  refine .inr ⟨p,vs,rfl,SqT.of hq,by rw[<-rr.length];exact h3.1,λp' hp'=>.inl ?_⟩
  exact k _ _ _ h3.2 (s03.trans (upd_new hp')) (.tup aX ((wM l u rr).keep (.of (upd_new hp'))))
 | _=>exact h3.elim
variable {te:RE}
noncomputable def fW:D->(D->Prop)->Prop:=λd Q=>match d with
 | .lst ds=>Q (.lst ds)
 | .tup ds=>Q (.lst ds)
 | _=>False
theorem nW:bootBuiltins "list" = some (.type "list"):=by decide +kernel
theorem yU:bootBuiltins "tuple" = some (.type "tuple"):=by decide +kernel
theorem BZ (hm:X.mg "list" = none) (h:DB X e te) (hg:Gl X "list":=by rfl) (hs:starEach [e] X.env=[(false,eval e X.env)]:=by rfl) (hn:starEach [] X.env=[]:=by rfl):DE X (.Call (.Name "list" p) [e] [] pos) (r1 fW te):=by
 refine PE.mono (PE.frz (oK uT hg hm nW (iC h hs hn) (by decide) (by decide) (by rw[hs,hn]) (by rw[hn];rfl))) λσ H Q hh=>bX hh λρ P st q k=>⟨ρ,_,st,q,λd v H1 hd s1 r=>?_⟩
 unfold fW at hd;split at hd
 ·obtain⟨p,vs,rfl,hq,rr⟩:=r.lst
  exact⟨p,vs,rfl,.inl hq,λp' hp'=>.inr ⟨p',_,H1,rfl,rfl,hp',λH4 s4 fz=>k _ _ H4 hd (s1.trans s4) (.lst fz (rr.keep (.of s4)))⟩⟩
 ·obtain⟨p,vs,rfl,hq,rr⟩:=r.tup
  exact⟨p,vs,rfl,.inr (SqT.of hq),λp' hp'=>.inr ⟨p',_,H1,rfl,rfl,hp',λH4 s4 fz=>k _ _ H4 hd (s1.trans s4) (.lst fz (rr.keep (.of s4)))⟩⟩
 ·exact hd.elim
noncomputable def iY:D->(D->Prop)->Prop:=λd Q=>match d with
 | .lst ds=>Q (.tup ds)
 | .tup ds=>Q (.tup ds)
 | _=>False
theorem EQ (hm:X.mg "tuple" = none) (h:DB X e te) (hg:Gl X "tuple":=by rfl) (hs:starEach [e] X.env=[(false,eval e X.env)]:=by rfl) (hn:starEach [] X.env=[]:=by rfl):DE X (.Call (.Name "tuple" p) [e] [] pos) (r1 iY te):=by
 refine PE.mono (oK sR hg hm yU (iC h hs hn) (by decide) (by decide) (by rw[hs,hn]) (by rw[hn];rfl)) λσ H Q hh=>bX hh λρ P st q k=>⟨ρ,_,st,q,λd v H1 hd s1 r=>?_⟩
 unfold iY at hd;split at hd
 ·obtain⟨p,vs,rfl,hq,rr⟩:=r.lst
  exact⟨p,vs,rfl,.inl ⟨hq,λp' hp'=>k _ _ _ hd (s1.trans (upd_new hp')) (.tup aX (rr.keep (.of (upd_new hp'))))⟩⟩
 ·obtain⟨p,vs,rfl,hq,rr⟩:=r.tup
  exact⟨p,vs,rfl,.inr ⟨SqT.of hq,k _ _ H1 hd s1 (.tup hq rr)⟩⟩
 ·exact hd.elim
noncomputable def BW:D->(D->Prop)->Prop:=λd Q=>match d with
 | .lst ds=>∃ns:List Int,ds=ns.map D.int/\Q (.int ns.sum)
 | _=>False
noncomputable def NE:D->(D->Prop)->Prop:=λd Q=>match d with
 | .lst ds=>∃ns:List Int,ds=ns.map D.int/\ns≠[]/\∀M,M∈ns->(∀a∈ns,a<=M)->Q (.int M)
 | _=>False
noncomputable def dMinL:D->(D->Prop)->Prop:=λd Q=>match d with
 | .lst ds=>∃ns:List Int,ds=ns.map D.int/\ns≠[]/\∀M,M∈ns->(∀a∈ns,M<=a)->Q (.int M)
 | _=>False
end
section
variable {X:Cx} {tg e:Expr} {te:RE} {pos p:Pos}
noncomputable def sF (te:RE):RA:=λρ Q=>te ρ λd=>match d with
 | .lst ds=>Q ds.reverse
 | _=>False
theorem lM:bootBuiltins "reversed" = some (.type "reversed"):=by decide +kernel
end
section
variable {prog:Program} {w:World} {A:Around} {E:Value->Shared->Prop} {s:Shared}
end
section
variable {prog:Program} {w:World} {A:Around} {E:Value->Shared->Prop} {s:Shared} {z TI TO i1 i2 a1 a2:Addr} {vs us:List Value} {T1 T2:Nat->Heap->Prop}
end
section
variable {prog:Program} {w:World} {A:Around} {E:Value->Shared->Prop} {s:Shared}
theorem FC {R:Result->Shared->Prop} {S I:Addr} {n:Nat} {J F:List Value->Heap->Prop} {s0:Shared} (res:Value) (hn:n<=sizeLine)
  (stay:∀acc h h',J acc h->(∃o,h.get? S=some o/\o.cls = .type "list")->h'.objs.size=h.objs.size->(∀b o,b≠S->h.get? b=some o->h'.get? b=some o)->J acc h')
  (item:∀acc (s:Shared) (o:Obj) (Q:Option Value->Shared->Prop) (E:Value->Shared->Prop),acc.length<n->J acc s.heap->s.heap.get? S=some o->(∀v h',J (acc++[v]) h'->h'.get? S=some o->Q (some v) { s with heap:=h' })->wpAny (model prog w) A.in1 (pyNext (.ref I)) Q E s)
  (done:∀acc (s:Shared) (o:Obj) (Q:Option Value->Shared->Prop) (E:Value->Shared->Prop),acc.length=n->J acc s.heap->s.heap.get? S=some o->(∀h',F acc h'->h'.get? S=some o->Q none { s with heap:=h' })->wpAny (model prog w) A.in1 (pyNext (.ref I)) Q E s)
  (hR:∀h' acc c,acc.size=n->F acc.toList h'->h'.get? S=some { cls:=.type "list",dict:=none,data:=.seq acc c,slots:=#[] }->R (.ok (.ret res)) { s0 with heap:=h' }) :
  ∀(k:Nat) (acc:Array Value) (h:Heap) (c:Nat),k=n-acc.size->acc.size<=n->J acc.toList h->h.get? S=some { cls:=.type "list",dict:=none,data:=.seq acc c,slots:=#[] } ->
   codeAny (model prog w) A (.builtin "list.extend.loop" ⟨[.ref S,.ref I,res],[]⟩) R { s0 with heap:=h }:=by
 intro k
 induction k with
 | zero =>
  intro acc h c hk hle hJ hS
  refine codeAny_builtin PySem.F.entry_extend_loop ?_
  rw[Around.under_plainId PySem.F.plain_extend_loop _]
  show wpAny _ A.in1 (pyNext (.ref I) >>= _) _ _ _
  apply wpAny_bind;refine done acc.toList { s0 with heap:=h } _ _ _ (by simp;omega) hJ hS λh' hF hS'=>?_
  exact wpAny_pure (hR h' acc c (by omega) hF hS')
 | succ k ih =>
  intro acc h c hk hle hJ hS
  refine codeAny_builtin PySem.F.entry_extend_loop ?_
  rw[Around.under_plainId PySem.F.plain_extend_loop _]
  show wpAny _ A.in1 (pyNext (.ref I) >>= _) _ _ _
  apply wpAny_bind;refine item acc.toList { s0 with heap:=h } _ _ _ (by simp;omega) hJ hS λv h' hJ' hS'=>?_
  show wpAny _ A.in1 (updateSeq S (·.push v) >>= _) _ _ _
  have hs2:acc.size<n:=by omega
  have e1:(acc.push v).size=acc.size+1:=Array.size_push ..
  apply wpAny_bind;refine wpAny_updateSeq hS' rfl ?_ (by omega) (by show (acc.push v).size<=sizeLine+1;omega)
  apply wpAny_pure;refine⟨plainId_quiet PySem.F.plain_extend_loop _,?_⟩
  refine ih (acc.push v) _ _ (by omega) (by omega) (stay _ _ _ (by simpa using hJ') ⟨_,hS',rfl⟩ (Heap.SameBut.update ..).1 λb o hb e=>(Heap.get?_update_other _ _ (Ne.symm hb)).trans e) (Heap.get?_update_self _ hS' rfl)
end
section
variable {prog:Program} {w:World} {A:Around} {E:Value->Shared->Prop} {s:Shared} {z TI TO i1 i2 a1 a2:Addr} {vs us:List Value} {T1 T2:Nat->Heap->Prop}
end
section
variable {X:Cx} {pins:List (Addr × Obj)} {σ:St}
theorem _root_.L2.Inv.trackO {s s':Shared} {H H':Hp} {a:Addr} {w:HO} (I:Inv X pins σ H s) (I':Inv X pins σ H' s') (ha:s.heap.objs.size<=a) (hn:H' a=none) (new:ObjOk X.prog X.w (upd H' a w) s'.heap a w):Inv X pins σ (upd H' a w) s':=by
 have nL:X.env.locals≠a:=Nat.ne_of_lt (Nat.lt_of_lt_of_le I.lt ha)
 have nC:∀x c,X.env.cells.lookup x=some c->c≠a:=λx c q z=>by
  obtain⟨v,hv⟩:=I.cell x c q
  exact absurd (Nat.lt_of_lt_of_le hv.lt (by rw[z];exact ha)) (Nat.lt_irrefl _)
 have n0:∀{b:Addr} {o:Obj},X.s₀.heap.get? b=some o->b≠a:=λ{b o} q=>Nat.ne_of_lt (Nat.lt_of_lt_of_le (Heap.lt_size q) (Nat.le_trans I.sz ha))
 refine⟨I'.ok,I'.os,I'.bare,⟨I'.base.keep,I'.base.slot,λb o q n hx=>by rw[aI (n0 q)];exact I'.base.free b o q n hx,I'.base.there,λb ys q=>by rw[aI (aQ (I'.base.tups b ys q) hn)];exact I'.base.tups b ys q,λb o u q=>by rw[aI (aQ (I'.base.frzs b o u q) hn)];exact I'.base.frzs b o u q,λb ps q=>?_⟩,I'.loc,I'.cell,by rw[aI nL];exact I'.free,λx c q=>by rw[aI (nC x c q)];exact I'.freeC x c q,λp hp=>?_,λb u q=>?_,I'.len⟩
 ·obtain⟨m,q2⟩:=I'.base.tbls b ps q
  exact⟨m,by rw[aI (aQ q2 hn)];exact q2⟩
 ·obtain⟨q1,q2,q3,q4,q5⟩:=I'.pin p hp
  have hp1:p.1≠a:=Nat.ne_of_lt (Nat.lt_of_lt_of_le (Heap.lt_size (I.pin p hp).1) ha)
  exact⟨q1,by rw[aI hp1];exact q2,q3,q4,q5⟩
 ·by_cases hb:b=a
  ·subst hb
   rw[aX] at q;cases q
   exact new
  ·rw[aI hb] at q
   exact (I'.hok b u q).stay (λc v _ w=>w) (λc w=>by rw[aI (aQ w hn)];exact w) λc ys w=>by rw[aI (aQ w hn)];exact w
end
noncomputable def tF:D->Option (List D)
 | .lst xs=>some xs
 | .tup xs=>some xs
 | _=>none
noncomputable def DD (ta tb:RE):RA:=λρ Q=>ta ρ λx=>tb ρ λy=>∃xs ys,tF x=some xs/\tF y=some ys/\xs.length=ys.length/\Q (xs.zipWith (λa b=>D.tup [a,b]) ys)
theorem EF:bootBuiltins "zip" = some (.type "zip"):=by decide +kernel
section
variable {X:Cx} {a b:Expr} {ta tb:RE} {p pz pos posz:Pos}
end
noncomputable def Itz (K:PySem.W.Frag) (l m:Addr):It :=
 ⟨λi H=>∃xs ys x y,SqL K H l xs/\SqL K H m ys/\xs[i]? = some x/\ys[i]? = some y,λi H x H'=>∃p a b,H p=none/\x = .ref p/\H'=upd H p (.tup [a,b])/\(∀xs,SqL K H l xs->xs[i]? = some a)/\∀ys,SqL K H m ys->ys[i]? = some b,
  λi H=>∃xs ys,SqL K H l xs/\SqL K H m ys/\(xs.length<=i\/ys.length<=i)⟩
noncomputable def ZSt (z TI TO i1 i2 l m:Addr) (i:Nat) (h:Heap):Prop:=IsZip h z TI TO .none/\IsPair h TI (.ref i1) (.ref i2)/\(∃a b,IsPair h TO a b)/\h.IsListIter i1 l i/\h.IsListIter i2 m i
theorem GY {P:Program} {w:World} {K:PySem.W.Frag} {elts:List Expr} {k:Nat} {pos:Pos} (z TI TO i1 i2 l m:Addr) (D:ZipApart z TI TO i1 i2 l m) :
  Turn P w K (.Tuple elts k pos) (Itz K l m) [z,TI,TO,i1,i2] z (ZSt z TI TO i1 i2 l m) where
 mem:=by simp
 obj:=λi h st b hb=>by
  obtain⟨hz,hI,⟨a,c,hO⟩,⟨o1,e1,c1,d1⟩,o2,e2,c2,d2⟩:=st
  simp only[List.mem_cons,List.not_mem_nil,or_false] at hb
  rcases hb with rfl | rfl | rfl | rfl | rfl
  ·exact⟨_,hz,λv z=>by cases z⟩
  ·exact⟨_,hI,λv z=>by cases z⟩
  ·exact⟨_,hO,λv z=>by cases z⟩
  ·exact⟨o1,e1,λv z=>by rw[d1] at z;cases z⟩
  ·exact⟨o2,e2,λv z=>by rw[d2] at z;cases z⟩
 keep:=λi h h' st kk=>by
  obtain⟨hz,hI,⟨a,c,hO⟩,h1,h2⟩:=st
  exact⟨kk z (by simp) _ hz,kk TI (by simp) _ hI,⟨a,c,kk TO (by simp) _ hO⟩,h1.at λo x=>kk i1 (by simp) o x,h2.at λo x=>kk i2 (by simp) o x⟩
 item:=by
  intro X hP hw hK hc i pins s σ H E I hf st hg
  subst hP hw hK
  obtain⟨xs,ys,x,y,hq,hr,hx,hy⟩:=hg
  obtain⟨its,rv,p,hzl⟩:=I.list hq
  obtain⟨jts,rw',p',hzm⟩:=I.list hr
  obtain⟨u,hu,ru⟩:=rv.get hx
  obtain⟨u',hu',ru'⟩:=rw'.get hy
  have W:=WalksT.zip2 (prog:=X.prog) (w:=X.w) (A:=X.A) (I.ok.hd hc) z TI TO i1 i2 l m D its.toArray jts.toArray
  have hlt:i<min its.toArray.size jts.toArray.size:=by
   have a1:=(List.getElem?_eq_some_iff.mp hu).1
   have a2:=(List.getElem?_eq_some_iff.mp hu').1
   simp;omega
  obtain⟨g1,g2,g3,g4,g5⟩:=id st
  refine W.item i s _ _ hlt ⟨g1,g2,g3,g4,g5,p.isList,p'.isList⟩ λT vals h1 tk hv hT ht hm kk=>?_
  obtain⟨v1,v2,e1,e2,rfl⟩:=hv
  have q1:v1=u:=by
   have:its.toArray[i]? = some u:=by simpa using hu
   rw[e1] at this;exact Option.some.inj this
  have q2:v2=u':=by
   have:jts.toArray[i]? = some u':=by simpa using hu'
   rw[e2] at this;exact Option.some.inj this
  subst q1 q2
  refine⟨_,rfl,?_⟩
  have sub:∀{b:Addr},b ∉ [z,TI,TO,i1,i2]->b ∉ [z,TO,i1,i2]:=λh h'=>h (by simp at h' ⊢;rcases h' with a | a | a | a <;> simp[a])
  have I1:Inv X pins σ (upd H T (.tup [x,y])) { s with heap:=h1,toks:=tk } :=
   I.turnedT (its:=[v1,v2]) (ch:=[z,TI,TO,i1,i2]) (λb o hb e=>kk b o (sub hb) e) hf hT (by simpa using ht) (.cons ru (.cons ru' .nil)) (by show 2<=sizeLine;decide)
  have hn:H T=none:=I.hok.fresh hT
  refine W.go elts k pos i T _ _ _ hm λh2 st2 kk2=>?_
  have hf1:∀b∈[z,TI,TO,i1,i2],nT X pins (upd H T (.tup [x,y])) b:=λb hb=>by
   obtain⟨f0,f1⟩:=hf b hb
   have:∃o,s.heap.get? b=some o:=by
    obtain⟨hz,hI,⟨a,c,hO⟩,⟨o1,w1,c1,d1⟩,o2,w2,c2,d2⟩:=st
    simp only[List.mem_cons,List.not_mem_nil,or_false] at hb
    rcases hb with rfl | rfl | rfl | rfl | rfl
    ·exact⟨_,hz⟩
    ·exact⟨_,hI⟩
    ·exact⟨_,hO⟩
    ·exact⟨_,w1⟩
    ·exact⟨_,w2⟩
   obtain⟨o,ho⟩:=this
   exact⟨by rw[aI (Nat.ne_of_lt (Nat.lt_of_lt_of_le (Heap.lt_size ho) hT))];exact f0,f1⟩
  refine⟨.ref T,_,I1.turnedL (ch:=[z,TI,TO,i1,i2]) (t':=tk) (λb o hb e=>kk2 b o (sub hb) e) hf1,rfl,⟨T,x,y,hn,rfl,rfl,λys' h'=>by rw[I.list_inj h' hq];exact hx,λys' h'=>by rw[I.list_inj h' hr];exact hy⟩,⟨st2.1,st2.2.1,st2.2.2.1,st2.2.2.2.1,st2.2.2.2.2.1⟩,λb hb=>(hf1 b hb).1⟩
 done:=by
  intro X hP hw hK hc i pins s σ H E I hf st hg
  subst hP hw hK
  obtain⟨xs,ys,hq,hr,hx⟩:=hg
  obtain⟨its,rv,p,hzl⟩:=I.list hq
  obtain⟨jts,rw',p',hzm⟩:=I.list hr
  obtain⟨g1,g2,⟨a,b,g3⟩,g4,g5⟩:=st
  have l1:=rv.length
  have l2:=rw'.length
  refine wpAny_pyNext_zip_end (I.ok.hd hc) D g1 g2 g3 g4 g5 p.isList p'.isList ?_ λh1 kk=>⟨rfl,I.turnedL (ch:=[z,TI,TO,i1,i2]) (t':=s.toks) (λb o hb q=>kk b o (λe=>hb (by simp[e])) (λe=>hb (by simp[e])) (λe=>hb (by simp[e])) (λe=>hb (by simp[e])) q) hf⟩
  rcases hx with hx | hx
  ·exact .inl (by rw[List.getElem?_toArray];exact List.getElem?_eq_none (by omega))
  ·exact .inr (by rw[List.getElem?_toArray];exact List.getElem?_eq_none (by omega))
 self:=λ_ _ _ _ _ st h=>wpAny_pyIter_zip st.1 h
section
variable {X:Cx} {a b:Expr} {ta tb:RE} {pos p:Pos} {elts:List Expr} {k:Nat} {tp:Pos}
noncomputable def gK (ta tb:RE):RA:=λρ Q=>ta ρ λx=>tb ρ λy=>match x,y with
 | .lst xs,.lst ys=>Q (xs.zipWith (λa b=>D.tup [a,b]) ys)
 | _,_=>False
theorem yY (hm:X.mg "zip" = none) (ha:DE X a ta) (hb:DE X b tb) (hg:Gl X "zip":=by rfl) (h2:starEach [a,b] X.env=(false,eval a X.env)::starEach [b] X.env:=by rfl) (h1:starEach [b] X.env=[(false,eval b X.env)]:=by rfl) (hn:starEach [] X.env=[]:=by rfl) :
  DI X (.Tuple elts k tp) (.Call (.Name "zip" p) [a,b] [] pos) (gK ta tb):=by
 intro pins s σ H R I hh_0
 obtain⟨ρ,P,st,q,kk⟩:=hh_0
 refine Call_ (eC I hg hm EF (PyProof.Rows.callWith_type1 (thn (gY ha (gY hb oJ (by rw[h1,hn])) h2 pos pins s σ H (λvs H1=>∃l m xs ys us ws,vs=[V.ref l,V.ref m]/\Same H H1/\P (xs.zipWith (λa b=>D.tup [a,b]) ys)/\FzL X.K H1 l us/\Reps X.K H1 xs us/\FzL X.K H1 m ws/\Reps X.K H1 ys ws) I
  ⟨ρ,_,st,q,λx v H1 hx s1 r1=>⟨ρ,_,st.ext s1,hx,λy u H2 hy s2 r2=>?_⟩⟩) λus s1 ⟨vs,H1,I1,r1,q1⟩=>?_) h2 (by rw[h1];rfl)))
 ·cases x with
  | lst xs =>
   cases y with
   | lst ys =>
    cases r1 with
    | @lst l us _ z1 t1 =>
     cases r2 with
     | @lst m ws _ z2 t2=>exact⟨l,m,xs,ys,us,ws,rfl,s1.trans s2,hy,z1.keep (.of s2),t1.keep (.of s2),z2,t2⟩
   | _=>exact hy.elim
  | _=>exact hy.elim
 obtain⟨l,m,xs,ys,us,ws,rfl,s01,hp,z1,t1,z2,t2⟩:=q1
 obtain⟨w1,w2,rfl,rv,ru⟩:=GZ r1
 cases rv;cases ru
 obtain⟨its,rv,pl,hzz⟩:=I1.list z1.sq
 obtain⟨jts,rv',pl',hzz'⟩:=I1.list z2.sq
 have lt1:l<s1.heap.objs.size:=by obtain⟨o,n,e,_⟩:=pl;exact Heap.lt_size e
 have lt2:m<s1.heap.objs.size:=by obtain⟨o,n,e,_⟩:=pl';exact Heap.lt_size e
 refine call_zip_2 pl.isList pl'.isList λh' hz hTI hTO hi1 hi2 hsz kk'=>?_
 have I2:Inv X pins σ H1 { s1 with heap:=h' }:=I1.kept (t':=s1.toks) kk'
 refine wpAny_pyIter_zip hz ⟨s1.heap.objs.size+4,[s1.heap.objs.size+4,s1.heap.objs.size+2,s1.heap.objs.size+3,s1.heap.objs.size,s1.heap.objs.size+1],_,_,H1,rfl,I2,GY (s1.heap.objs.size+4) (s1.heap.objs.size+2) (s1.heap.objs.size+3) s1.heap.objs.size (s1.heap.objs.size+1) l m (zipApart_new lt1 lt2),⟨hz,hTI,⟨_,_,hTO⟩,hi1,hi2⟩,λb hb=>?_,?_⟩
 ·have:s1.heap.objs.size<=b:=by
   simp only[List.mem_cons,List.not_mem_nil,or_false] at hb
   rcases hb with rfl | rfl | rfl | rfl | rfl <;> simp
  exact I1.fpOk this (I1.hok.fresh this)
 ·refine kk _ _ H1 hp s01 λi H2 kp=>⟨λd ed=>?_,λhl=>⟨us,ws,(z1.keep kp).sq,(z2.keep kp).sq,by rw[<-t1.length,<-t2.length];simp at hl;omega⟩⟩
  rw[List.getElem?_zipWith] at ed
  cases e1:xs[i]? with
  | none=>rw[e1] at ed;cases ed
  | some d1 =>
   cases e2:ys[i]? with
   | none=>rw[e1,e2] at ed;cases ed
   | some d2 =>
    rw[e1,e2] at ed
    cases ed
    obtain⟨v,f1,f2⟩:=(t1.keep kp).get e1
    obtain⟨u,f3,f4⟩:=(t2.keep kp).get e2
    refine⟨⟨us,ws,v,u,(z1.keep kp).sq,(z2.keep kp).sq,f1,f3⟩,λx H' y=>?_⟩
    obtain⟨pp,y1,y2,hn,rfl,rfl,ha',hb'⟩:=y
    have e3:=ha' us (z1.keep kp).sq
    have e4:=hb' ws (z2.keep kp).sq
    rw[f1] at e3;rw[f3] at e4;cases e3;cases e4
    have sm:Same H2 (upd H2 pp (.tup [v,u])):=λb o e=>by rw[aI (aQ e hn)];exact e
    exact⟨sm,.tup aX (.cons (f2.keep (.of sm)) (.cons (f4.keep (.of sm)) .nil))⟩
end
section
variable {prog:Program} {w:World} {A:Around} {E:Value->Shared->Prop} {s:Shared}
end
noncomputable abbrev gR (ns:List Int):D:=.tup (ns.map .int)
theorem Reps.tupI_inv {K:PySem.W.Frag} {H:Hp} {ns:List Int} {v:V} (r:Rep K H (gR ns) v):∃a,v = .ref a/\H a=some (.tup (ns.map V.int)):=by
 cases r with
 | tup h rr=>rw[rr.ints_inv] at h;exact⟨_,rfl,h⟩
section
variable {X:Cx} {e a b:Expr} {te ta tb:RE} {p pos:Pos}
noncomputable def dLtT:R22:=λx y Q=>∃ns ms:List Int,x=gR ns/\y=gR ms/\Q (.bl (HT.lexLt ns ms))
noncomputable def dMinT:D->(D->Prop)->Prop:=λd Q=>match d with
 | .lst ds=>∃nss:List (List Int),ds=nss.map gR/\nss≠[]/\∀M,M∈nss->(∀x∈nss,HT.lexLt x M=false)->Q (gR M)
 | .tup ds=>∃nss:List (List Int),ds=nss.map gR/\nss≠[]/\∀M,M∈nss->(∀x∈nss,HT.lexLt x M=false)->Q (gR M)
 | _=>False
noncomputable def dNe:R22:=λx y Q=>match x,y with
 | .int i,.int j=>Q (.bl !(decide (i=j)))
 | .bl i,.bl j=>Q (.bl !(decide (i=j)))
 | .tup xs,.tup ys=>match eqL (eqF 5) xs ys with
  | some b=>Q (.bl !b)
  | none=>False
 | .non,.non=>Q (.bl false)
 | _,_=>False
theorem FY {k:Nat} (hr:Room k X.A):OpD X (compareOp .NotEq) dNe:=by
 intro pins s σ H x y v u Q I rx ry hh_0
 obtain⟨d,e,P,r1,r2,q,kk⟩:=hh_0
 have hu:=hr.un
 unfold dNe at q
 split at q
 ·rename_i i j
  rw[r1.int_inv] at rx;rw[r2.int_inv] at ry
  obtain⟨t,rfl⟩:=rx
  obtain⟨t',rfl⟩:=ry
  have e:(!(decide (i=j))) = !(i == j):=by rw[Bool.beq_eq_decide_eq]
  rw[e] at q
  exact SeqAt.RcNeAt.int_int i t j t' _ _ _ _ ⟨.bl _,H,I,rfl,kk _ _ H q (Same.refl H) (.bl _)⟩
 ·rename_i i j
  rw[r1.bl_inv] at rx;rw[r2.bl_inv] at ry
  cases rx;cases ry
  have e:(!(decide (i=j))) = !(i == j):=by rw[Bool.beq_eq_decide_eq]
  rw[e] at q
  exact SeqAt.RcNeAt.bool_bool i j _ _ _ _ ⟨.bl _,H,I,rfl,kk _ _ H q (Same.refl H) (.bl _)⟩
 ·rename_i xs ys
  split at q
  ·rename_i b h
   obtain⟨a,vs,rfl,h1,q1⟩:=r1.tup
   obtain⟨c,ws,rfl,h2,q2⟩:=r2.tup
   cases rx;cases ry
   obtain⟨its,rv,ht,_⟩:=I.tuple (SqT.of h1)
   obtain⟨its2,rv2,ht2,_⟩:=I.tuple (SqT.of h2)
   have l1:xs.length=its.length:=q1.length.trans rv.length
   have l2:ys.length=its2.length:=q2.length.trans rv2.length
   have rc:SeqAt.RcNeAt X.A s (.ref a) (.ref c) (!b):=by
    have:=SeqAt.RcNeAt.tuples (A:=X.A) (s:=s) (e:=λj=>match xs[j]?,ys[j]? with | some x,some y=>(eqF 5 x y).getD false | _,_=>false) ht ht2 (by omega) (λj g1 g2=>?_)
    ·simp only[List.size_toArray,<-l1,<-l2] at this
     have al:=lD h
     rw[<-al]
     exact this
    ·simp only[List.size_toArray] at g1 g2
     have e1:xs[j]? = some (xs[j]'(by omega)):=List.getElem?_eq_getElem _
     have e2:ys[j]? = some (ys[j]'(by omega)):=List.getElem?_eq_getElem _
     obtain⟨k,hk⟩:=nA h j _ _ e1 e2
     rw[e1,e2]
     simp only[hk,Option.getD_some]
     obtain⟨v1,f1,f2⟩:=q1.get e1
     obtain⟨v2,f3,f4⟩:=q2.get e2
     obtain⟨u1,g3,g4⟩:=rv.get f1
     obtain⟨u2,g5,g6⟩:=rv2.get f3
     have a1:its.toArray[j]=u1:=by
      have:=List.getElem?_eq_getElem g1
      rw[this] at g3
      simpa using Option.some.inj g3
     have a2:its2.toArray[j]=u2:=by
      have:=List.getElem?_eq_getElem g2
      rw[this] at g5
      simpa using Option.some.inj g5
     rw[a1,a2]
     exact (vB I 5 hk f2 f4 g4 g6 (by show X.A.units+1+5<cLine;omega)).2
   exact rc _ _ _ _ ⟨.bl _,H,I,rfl,kk _ _ H q (Same.refl H) (.bl _)⟩
  ·exact q.elim
 ·have non:∀{v:V},RepB X.K H .non v->v = .non:=λr=>by
   rcases r with r | ⟨_,_,_,e,_⟩
   ·cases r;rfl
   ·cases e
  rw[non r1] at rx;rw[non r2] at ry
  cases rx;cases ry
  exact SeqAt.RcNeAt.none_none _ _ _ _ ⟨.bl _,H,I,rfl,kk _ _ H q (Same.refl H) (.bl _)⟩
 ·exact q.elim
noncomputable def KU:R22:=λx y Q=>match x with
 | .lst xs=>∃j:Nat,(∃d,xs[j]? = some d/\eqF 6 d y=some true)/\(∀(i:Nat) d,i<j->xs[i]? = some d->eqF 6 d y=some false)/\(∀d∈xs,∃b,eqF 6 d y=some b)/\Q (.int (j:Int))
 | _=>False
end
section
variable {X:Cx} {pins:List (Addr × Obj)} {σ:St} {H:Hp} {s:Shared}
end
section
variable {X:Cx} {e a b:Expr} {te ta tb:RE} {p pos:Pos}
noncomputable def oR (ta tb:RE):RE:=λρ Q=>ta ρ λx=>(∃xs,x = .lst xs)/\tb ρ λy=>KU x y Q
end
end L2.R2
set_option Elab.async false
set_option linter.all false
set_option maxRecDepth 100000
set_option maxHeartbeats 1000000
namespace L2.R2
open PySem PySem.SetTable
section
variable {prog:Program} {w:World} {A:Around} {E:Value->Shared->Prop} {s:Shared}
end
end L2.R2
set_option Elab.async false
set_option linter.all false
set_option maxRecDepth 100000
set_option maxHeartbeats 3200000
namespace L2.R2
open PySem PySem.SetTable PyProof.Rows
section
variable {prog:Program} {w:World} {A:Around} {E:Value->Shared->Prop} {s:Shared}
end
section
variable {prog:Program} {w:World} {A:Around} {E:Value->Shared->Prop} {s:Shared}
end
section
variable {prog:Program} {w:World} {A:Around} {E:Value->Shared->Prop} {s:Shared}
end
end L2.R2
set_option Elab.async false
set_option linter.all false
set_option maxRecDepth 100000
set_option maxHeartbeats 1000000
namespace L2.R2
open PySem PySem.W PyProof.Rows
noncomputable def bG {α:Type} (lt:Nat->Nat->Bool):KasT α->α
 | .ret a=>a
 | .ask i j k=>bG lt (k (lt i j))
theorem gD {α β:Type} {lt:Nat->Nat->Bool} {f:α->KasT β}:∀t:KasT α,bG lt (t.bind f)=bG lt (f (bG lt t))
 | .ret _=>rfl
 | .ask i j k=>gD (k (lt i j))
noncomputable def kIn {α:Type} (lt:Nat->Nat->Bool) (n:Nat):KasT α->Prop
 | .ret _=>True
 | .ask i j k=>i<n/\j<n/\kIn lt n (k (lt i j))
theorem dF {α β:Type} {lt:Nat->Nat->Bool} {n:Nat} {f:α->KasT β}:∀t:KasT α,kIn lt n t->kIn lt n (f (bG lt t))->kIn lt n (t.bind f)
 | .ret _,_,h=>h
 | .ask i j k,⟨h1,h2,h3⟩,h=>⟨h1,h2,dF (k (lt i j)) h3 h⟩
theorem rG {α:Type} {cmp:Nat->Nat->(Bool->Shared->Prop)->Shared->Prop} {lt:Nat->Nat->Bool} {n:Nat} {s:Shared} {Q:α->Shared->Prop} (hc:∀i j (C:Bool->Shared->Prop),i<n->j<n->C (lt i j) s->cmp i j C s) :
  ∀t:KasT α,kIn lt n t->Q (bG lt t) s->t.kasWp cmp Q s
 | .ret _,_,h=>h
 | .ask i j k,⟨h1,h2,h3⟩,h=>hc i j _ h1 h2 (rG hc (k (lt i j)) h3 h)
section
variable {O:KeyOrd} {key:Nat->O.α} {N:Nat}
noncomputable def ltK (O:KeyOrd) (key:Nat->O.α) (i j:Nat):Bool:=O.blt (key i) (key j)
noncomputable def kk (O:KeyOrd) (key:Nat->O.α) (p:Array Nat) (i:Nat):O.α:=key (p.getD i 0)
noncomputable def Up (O:KeyOrd) (key:Nat->O.α) (p:Array Nat) (n:Nat):Prop:=∀i j,i<=j->j<n->O.kle (kk O key p i) (kk O key p j)
noncomputable def Dn (O:KeyOrd) (key:Nat->O.α) (p:Array Nat) (n:Nat):Prop:=∀i j,i<=j->j<n->O.kle (kk O key p j) (kk O key p i)
noncomputable def Lo (p:Array Nat) (N:Nat):Prop:=∀i,p.getD i 0<N
theorem jC {p q:Array Nat} (h:p.Perm q) (hq:Lo q N):Lo p N:=by
 intro i
 by_cases hi:i<p.size
 ·have m:p[i]∈p:=Array.getElem_mem hi
  have m2:p[i]∈q:=h.mem_iff.mp m
  obtain⟨j,hj,e⟩:=Array.getElem_of_mem m2
  have:=hq j
  simp[Array.getD,hj] at this
  simp[Array.getD,hi]
  rw[<-e];exact this
 ·have h0:=hq q.size
  simp[Array.getD] at h0
  simp[Array.getD,hi];exact h0
theorem kK {p q:Array Nat} {i j:Nat} (h:p[i]? = q[j]?):kk O key p i=kk O key q j:=by
 unfold kk;rw[Array.getD_eq_getD_getElem?,Array.getD_eq_getD_getElem?,h]
theorem zE {p:Array Nat} {i j:Nat} (hj:j<=p.size) (k:Nat):kk O key (kas_rev p i j) k=if i<=k/\k<j then kk O key p (i+j-1-k) else kk O key p k:=by
 have e:=getElem?_mirror_all (i:=i) hj k
 unfold kas_rev
 by_cases h1:i<=k/\k<j
 ·rw[if_pos h1] at e ⊢;exact kK e
 ·rw[if_neg h1] at e ⊢;exact kK e
theorem oF {p:Array Nat} {i j:Nat} (hj:j<=p.size) (h:∀k,i<=k->k<j->kk O key p k=kk O key p (j-1)) (k:Nat):kk O key (kas_rev p i j) k=kk O key p k:=by
 rw[zE hj]
 split
 ·rw[h _ (by omega) (by omega),h k (by omega) (by omega)]
 ·rfl
theorem CL {p:Array Nat} {src d:Nat} (hs:src<p.size) (hd:d<=src) (k:Nat) :
  kk O key (bubble p src d) k=if k=src-d then kk O key p src else if src-d<k/\k<=src then kk O key p (k-1) else kk O key p k:=by
 have e:=getElem?_bubble hs d hd k
 by_cases h1:k=src-d
 ·rw[if_pos h1] at e ⊢;exact kK e
 ·rw[if_neg h1] at e ⊢
  by_cases h2:src-d<k/\k<=src
  ·rw[if_pos h2] at e ⊢;exact kK e
  ·rw[if_neg h2] at e ⊢;exact kK e
theorem kQ (p:Array Nat) (i j:Nat):(kas_rev p i j).Perm p:=mirror_perm _ _ _ _
theorem JR {p:Array Nat} {n:Nat} (h1:1<=n) (h:Up O key p n) (hl:O.kle (kk O key p (n-1)) (kk O key p n)):Up O key p (n+1):=by
 intro i j hij hj
 by_cases hjx:j<n
 ·exact h i j hij hjx
 ·have hj':j=n:=by omega
  subst hj'
  by_cases hi':i=j
  ·subst hi';exact KeyOrd.kle_refl _
  ·exact KeyOrd.kle_trans (h i (j-1) (by omega) (by omega)) hl
theorem uZ {p:Array Nat} {n:Nat} (h1:1<=n) (h:Dn O key p n) (hl:O.kle (kk O key p n) (kk O key p (n-1))):Dn O key p (n+1):=by
 intro i j hij hj
 by_cases hjx:j<n
 ·exact h i j hij hjx
 ·have hj':j=n:=by omega
  subst hj'
  by_cases hi':i=j
  ·subst hi';exact KeyOrd.kle_refl _
  ·exact KeyOrd.kle_trans hl (h i (j-1) (by omega) (by omega))
theorem yQ {p:Array Nat} (lo:Lo p N):∀(f n:Nat),1<=n->Up O key p n->kIn (ltK O key) N (kas_asc p f n)/\n<=bG (ltK O key) (kas_asc p f n)/\bG (ltK O key) (kas_asc p f n)<=n+f/\Up O key p (bG (ltK O key) (kas_asc p f n)) /\
  (bG (ltK O key) (kas_asc p f n)=n+f\/O.klt (kk O key p (bG (ltK O key) (kas_asc p f n))) (kk O key p (bG (ltK O key) (kas_asc p f n)-1)))
 | 0,n,_,h=>⟨trivial,Nat.le_refl _,Nat.le_refl _,h,Or.inl rfl⟩
 | f+1,n,h1,h=>by
  simp only[kas_asc,bG,kIn]
  cases hb:ltK O key (p.getD n 0) (p.getD (n-1) 0) with
  | true =>
   simp only[if_true]
   exact⟨⟨lo _,lo _,trivial⟩,Nat.le_refl _,by simp only[bG];omega,h,Or.inr hb⟩
  | false =>
   simp only[Bool.false_eq_true,if_false]
   obtain⟨i1,i2,i3,i4,i5⟩:=yQ lo f (n+1) (by omega) (JR h1 h hb)
   refine⟨⟨lo _,lo _,i1⟩,by omega,by omega,i4,?_⟩
   rcases i5 with e | e
   ·exact Or.inl (by omega)
   ·exact Or.inr e
theorem yE {p:Array Nat} (lo:Lo p N) {n nrem:Nat} (h1:1<=n) (hn:n<=nrem) (hz:nrem<=p.size) (h:Dn O key p n) :
  kIn (ltK O key) N (kas_tail3 n nrem p)/\1<=(bG (ltK O key) (kas_tail3 n nrem p)).1/\(bG (ltK O key) (kas_tail3 n nrem p)).1<=nrem/\(bG (ltK O key) (kas_tail3 n nrem p)).2.Perm p/\Up O key (bG (ltK O key) (kas_tail3 n nrem p)).2 (bG (ltK O key) (kas_tail3 n nrem p)).1:=by
 unfold kas_tail3
 have up:Up O key (kas_rev p 0 n) n:=by
  intro i j hij hj
  rw[zE (by omega),zE (by omega),if_pos (by omega),if_pos (by omega)]
  exact h _ _ (by omega) (by omega)
 obtain⟨i1,i2,i3,i4,_⟩:=yQ (jC (kQ p 0 n) lo) (nrem-n) n h1 up
 rw[gD]
 refine⟨dF _ i1 trivial,?_,?_,kQ p 0 n,i4⟩
 ·show 1<=_;simp only[bG];omega
 ·simp only[bG];omega
theorem qJ:∀(f:Nat) (p:Array Nat) (n q:Nat),Lo p N->1<=n->n+f<=p.size->Dn O key p n->q+1<=n->(∀i,n-(q+1)<=i->i<n->kk O key p i=kk O key p (n-1)) ->
  kIn (ltK O key) N (kas_desc f p n q)/\(bG (ltK O key) (kas_desc f p n q)).1.Perm p/\n<=(bG (ltK O key) (kas_desc f p n q)).2.1/\(bG (ltK O key) (kas_desc f p n q)).2.1<=n+f /\
  Dn O key (bG (ltK O key) (kas_desc f p n q)).1 (bG (ltK O key) (kas_desc f p n q)).2.1/\(bG (ltK O key) (kas_desc f p n q)).2.2+1<=(bG (ltK O key) (kas_desc f p n q)).2.1 /\
  (∀i,(bG (ltK O key) (kas_desc f p n q)).2.1-((bG (ltK O key) (kas_desc f p n q)).2.2+1)<=i->i<(bG (ltK O key) (kas_desc f p n q)).2.1->kk O key (bG (ltK O key) (kas_desc f p n q)).1 i=kk O key (bG (ltK O key) (kas_desc f p n q)).1 ((bG (ltK O key) (kas_desc f p n q)).2.1-1))
 | 0,p,n,q,lo,h1,hz,h,hq,he=>⟨trivial,Array.Perm.refl _,Nat.le_refl _,Nat.le_refl _,h,hq,he⟩
 | f+1,p,n,q,lo,h1,hz,h,hq,he=>by
  simp only[kas_desc,bG,kIn]
  cases hb:ltK O key (p.getD n 0) (p.getD (n-1) 0) with
  | true =>
   simp only[if_true]
   by_cases h0:q > 0
   ·simp only[if_pos h0]
    have hk:=oF (O:=O) (key:=key) (p:=p) (i:=n-(q+1)) (j:=n) (by omega) he
    have pm:=kQ p (n-(q+1)) n
    have dn:Dn O key (kas_rev p (n-(q+1)) n) (n+1):=by
     have d0:=uZ h1 h (KeyOrd.kle_of_klt hb)
     intro i j hij hj
     rw[hk,hk];exact d0 i j hij hj
    obtain⟨i1,i2,i3,i4,i5,i6,i7⟩:=qJ f (kas_rev p (n-(q+1)) n) (n+1) 0 (jC pm lo) (by omega) (by rw[pm.size_eq];omega) dn (by omega) (λi a b=>by congr 1;omega)
    exact⟨⟨lo _,lo _,i1⟩,i2.trans pm,by omega,by omega,i5,i6,i7⟩
   ·simp only[if_neg h0]
    obtain⟨i1,i2,i3,i4,i5,i6,i7⟩:=qJ f p (n+1) 0 lo (by omega) (by omega) (uZ h1 h (KeyOrd.kle_of_klt hb)) (by omega) (λi a b=>by congr 1;omega)
    exact⟨⟨lo _,lo _,i1⟩,i2,by omega,by omega,i5,i6,i7⟩
  | false =>
   simp only[Bool.false_eq_true,if_false,bG,kIn]
   cases hc:ltK O key (p.getD (n-1) 0) (p.getD n 0) with
   | true =>
    simp only[if_true]
    exact⟨⟨lo _,lo _,lo _,lo _,trivial⟩,Array.Perm.refl _,Nat.le_refl _,by simp only[bG];omega,h,hq,he⟩
   | false =>
    simp only[Bool.false_eq_true,if_false]
    have e:kk O key p n=kk O key p (n-1):=KeyOrd.kle_antisymm hc hb
    obtain⟨i1,i2,i3,i4,i5,i6,i7⟩:=qJ f p (n+1) (q+1) lo (by omega) (by omega) (uZ h1 h (by rw[e];exact KeyOrd.kle_refl _)) (by omega) (λi a b=>by
     rw[show n+1-1=n by omega]
     by_cases hi:i=n
     ·subst hi;rfl
     ·rw[e];exact he i (by omega) (by omega))
    exact⟨⟨lo _,lo _,lo _,lo _,i1⟩,i2,by omega,by omega,i5,i6,i7⟩
theorem pC {p:Array Nat} (lo:Lo p N) {n nrem:Nat} (hn:n+1<=nrem) (hz:nrem<=p.size) (h:Dn O key p (n+1)) :
  kIn (ltK O key) N (kas_descPart n nrem p)/\1<=(bG (ltK O key) (kas_descPart n nrem p)).1/\(bG (ltK O key) (kas_descPart n nrem p)).1<=nrem/\(bG (ltK O key) (kas_descPart n nrem p)).2.Perm p/\Up O key (bG (ltK O key) (kas_descPart n nrem p)).2 (bG (ltK O key) (kas_descPart n nrem p)).1:=by
 unfold kas_descPart
 obtain⟨i1,i2,i3,i4,i5,i6,i7⟩:=qJ (N:=N) (nrem-(n+1)) p (n+1) 0 lo (by omega) (by omega) h (by omega) (λi a b=>by congr 1;omega)
 rw[gD]
 generalize hr:bG (ltK O key) (kas_desc (nrem-(n+1)) p (n+1) 0)=r at *
 by_cases h0:r.2.2 > 0
 ·have sz:r.1.size=p.size:=i2.size_eq
  have hk:=oF (O:=O) (key:=key) (p:=r.1) (i:=r.2.1-(r.2.2+1)) (j:=r.2.1) (by omega) i7
  have pm:=(kQ r.1 (r.2.1-(r.2.2+1)) r.2.1).trans i2
  have t:=yE (O:=O) (key:=key) (N:=N) (jC pm lo) (n:=r.2.1) (nrem:=nrem) (by omega) (by omega) (by rw[pm.size_eq];omega) (λi j hij hj=>by rw[hk,hk];exact i5 i j hij hj)
  rw[if_pos h0]
  refine⟨dF _ i1 ?_,t.2.1,t.2.2.1,t.2.2.2.1.trans pm,t.2.2.2.2⟩
  rw[hr,if_pos h0];exact t.1
 ·have t:=yE (O:=O) (key:=key) (N:=N) (jC i2 lo) (n:=r.2.1) (nrem:=nrem) (by omega) (by omega) (by rw[i2.size_eq];omega) i5
  rw[if_neg h0]
  refine⟨dF _ i1 ?_,t.2.1,t.2.2.1,t.2.2.2.1.trans i2,t.2.2.2.2⟩
  rw[hr,if_neg h0];exact t.1
theorem EJ {p:Array Nat} (lo:Lo p N) {nrem:Nat} (h1:1<=nrem) (hz:nrem<=p.size) :
  kIn (ltK O key) N (kas_count nrem p)/\1<=(bG (ltK O key) (kas_count nrem p)).1/\(bG (ltK O key) (kas_count nrem p)).1<=nrem/\(bG (ltK O key) (kas_count nrem p)).2.Perm p/\Up O key (bG (ltK O key) (kas_count nrem p)).2 (bG (ltK O key) (kas_count nrem p)).1:=by
 unfold kas_count
 obtain⟨i1,i2,i3,i4,i5⟩:=yQ (O:=O) (key:=key) lo (nrem-1) 1 (Nat.le_refl _) (λi j hij hj=>by have:i=j:=(by omega);subst this;exact KeyOrd.kle_refl _)
 rw[gD]
 generalize hr:bG (ltK O key) (kas_asc p (nrem-1) 1)=n at *
 by_cases hn:n=nrem
 ·rw[if_pos (by simpa using hn)]
  exact⟨dF _ i1 (by rw[hr,if_pos (by simpa using hn)];trivial),i2,by show n<=nrem;omega,Array.Perm.refl _,i4⟩
 ·rw[if_neg (by simpa using hn)]
  have hlt:O.klt (kk O key p n) (kk O key p (n-1)):=i5.resolve_left (by omega)
  by_cases hg:n > 1
  ·rw[if_pos hg]
   simp only[bG]
   cases hb:ltK O key (p.getD 0 0) (p.getD (n-1) 0) with
   | true =>
    simp only[if_true]
    exact⟨dF _ i1 (by rw[hr,if_neg (by simpa using hn),if_pos hg];exact⟨lo _,lo _,by rw[hb];trivial⟩),by show 1<=n;omega,by show n<=nrem;omega,Array.Perm.refl _,i4⟩
   | false =>
    simp only[Bool.false_eq_true,if_false]
    have hall:∀k,0<=k->k<n->kk O key p k=kk O key p (n-1):=by
     intro k _ hk
     have a1:=i4 0 k (by omega) hk
     have a2:=i4 k (n-1) (by omega) (by omega)
     exact KeyOrd.kle_antisymm a2 (KeyOrd.kle_trans hb a1)
    have hk:=oF (O:=O) (key:=key) (p:=p) (i:=0) (j:=n) (by omega) hall
    have pm:=kQ p 0 n
    have t:=pC (O:=O) (key:=key) (N:=N) (jC pm lo) (n:=n) (nrem:=nrem) (by omega) (by rw[pm.size_eq];omega) (λi j hij hj=>by
     rw[hk,hk]
     by_cases hjn:j<n
     ·rw[hall i (by omega) (by omega),hall j (by omega) hjn];exact KeyOrd.kle_refl _
     ·have hj':j=n:=by omega
      subst hj'
      by_cases hi':i=j
      ·subst hi';exact KeyOrd.kle_refl _
      ·rw[hall i (by omega) (by omega)];exact KeyOrd.kle_of_klt hlt)
    exact⟨dF _ i1 (by rw[hr,if_neg (by simpa using hn),if_pos hg];exact⟨lo _,lo _,by rw[hb];exact t.1⟩),t.2.1,t.2.2.1,t.2.2.2.1.trans pm,t.2.2.2.2⟩
  ·rw[if_neg hg]
   have n1:n=1:=by omega
   have t:=pC (O:=O) (key:=key) (N:=N) lo (n:=n) (nrem:=nrem) (by omega) hz (λi j hij hj=>by
    by_cases hi':i=j
    ·subst hi';exact KeyOrd.kle_refl _
    ·have e1:i=n-1:=by omega
     have e2:j=n:=by omega
     rw[e1,e2];exact KeyOrd.kle_of_klt hlt)
   exact⟨dF _ i1 (by rw[hr,if_neg (by simpa using hn),if_neg hg];exact t.1),t.2⟩
theorem rS {p:Array Nat} (lo:Lo p N) {k:Nat} (hs:Up O key p k):∀(f l r:Nat),l<=r->r<=k->r-l<=f->(∀i,i<l->O.kle (kk O key p i) (kk O key p k))->(∀i,r<=i->i<k->O.klt (kk O key p k) (kk O key p i)) ->
  kIn (ltK O key) N (kas_place p k f l r)/\bG (ltK O key) (kas_place p k f l r)<=k/\(∀i,i<bG (ltK O key) (kas_place p k f l r)->O.kle (kk O key p i) (kk O key p k))/\(∀i,bG (ltK O key) (kas_place p k f l r)<=i->i<k->O.klt (kk O key p k) (kk O key p i))
 | 0,l,r,hlr,hrk,hf,a,b=>by
  have:l=r:=by omega
  subst this
  exact⟨trivial,hrk,a,b⟩
 | f+1,l,r,hlr,hrk,hf,a,b=>by
  simp only[kas_place]
  by_cases hge:l ≥ r
  ·have:l=r:=by omega
   subst this
   rw[if_pos hge]
   exact⟨trivial,hrk,a,b⟩
  ·rw[if_neg hge]
   simp only[bG,kIn]
   cases hb:ltK O key (p.getD k 0) (p.getD ((l+r) / 2) 0) with
   | true =>
    simp only[if_true]
    have t:=rS lo hs f l ((l+r) / 2) (by omega) (by omega) (by omega) a (λi h1 h2=>KeyOrd.klt_of_klt_of_kle hb (hs _ _ h1 h2))
    exact⟨⟨lo _,lo _,t.1⟩,t.2⟩
   | false =>
    simp only[Bool.false_eq_true,if_false]
    have t:=rS lo hs f ((l+r) / 2+1) r (by omega) hrk (by omega) (λi h1=>KeyOrd.kle_trans (hs i ((l+r) / 2) (by omega) (by omega)) hb) b
    exact⟨⟨lo _,lo _,t.1⟩,t.2⟩
theorem EE:∀(f:Nat) (p:Array Nat) (k:Nat),Lo p N->k+f<=p.size->Up O key p k->kIn (ltK O key) N (kas_bin f p k)/\(bG (ltK O key) (kas_bin f p k)).Perm p/\Up O key (bG (ltK O key) (kas_bin f p k)) (k+f)
 | 0,p,k,lo,hz,h=>⟨trivial,Array.Perm.refl _,h⟩
 | f+1,p,k,lo,hz,h=>by
  simp only[kas_bin]
  obtain⟨i1,i2,i3,i4⟩:=rS lo h k 0 k (by omega) (by omega) (by omega) (λi hi=>absurd hi (by omega)) (λi h1 h2=>absurd h2 (by omega))
  rw[gD]
  generalize hr:bG (ltK O key) (kas_place p k k 0 k)=l at *
  have pm:=bubble_perm p k (k-l)
  have hb:=λi=>CL (O:=O) (key:=key) (p:=p) (src:=k) (d:=k-l) (by omega) (by omega) i
  have up:Up O key (bubble p k (k-l)) (k+1):=by
   intro i j hij hj
   rw[hb,hb,show k-(k-l)=l by omega]
   by_cases e1:i=l
   ·rw[if_pos e1]
    by_cases e2:j=l
    ·rw[if_pos e2];exact KeyOrd.kle_refl _
    ·rw[if_neg e2,if_pos (by omega)];exact KeyOrd.kle_of_klt (i4 _ (by omega) (by omega))
   ·rw[if_neg e1]
    by_cases e2:j=l
    ·rw[if_pos e2,if_neg (by omega)];exact i3 _ (by omega)
    ·rw[if_neg e2]
     by_cases e3:l<i/\i<=k
     ·rw[if_pos e3,if_pos (by omega)];exact h _ _ (by omega) (by omega)
     ·rw[if_neg e3]
      by_cases e4:l<j/\j<=k
      ·rw[if_pos e4];exact h _ _ (by omega) (by omega)
      ·rw[if_neg e4];exact h _ _ (by omega) (by omega)
  obtain⟨t1,t2,t3⟩:=EE f (bubble p k (k-l)) (k+1) (jC pm lo) (by rw[pm.size_eq];omega) up
  refine⟨dF _ i1 (by rw[hr];exact t1),t2.trans pm,?_⟩
  rw[show k+(f+1)=k+1+f by omega];exact t3
theorem JN {n:Nat} (h1:1<=n):kIn (ltK O key) n (kas_sort n)/\(bG (ltK O key) (kas_sort n)).Perm (List.toArray (List.range n))/\Up O key (bG (ltK O key) (kas_sort n)) n:=by
 have lo:Lo (List.toArray (List.range n)) n:=by
  intro i
  by_cases hi:i<n
  ·simp[Array.getD,hi]
  ·simp[Array.getD,hi];omega
 unfold kas_sort
 obtain⟨i1,i2,i3,i4,i5⟩:=EJ (O:=O) (key:=key) lo (nrem:=n) h1 (by simp)
 rw[gD]
 generalize hr:bG (ltK O key) (kas_count n (List.toArray (List.range n)))=r at *
 have sz:r.2.size=n:=by rw[i4.size_eq];simp
 by_cases h:r.1<n
 ·have t:=EE (O:=O) (key:=key) (N:=n) (n-max r.1 1) r.2 (max r.1 1) (jC i4 lo) (by omega) (by rw[show max r.1 1=r.1 by omega];exact i5)
  rw[if_pos h]
  refine⟨dF _ i1 (by rw[hr,if_pos h];exact t.1),t.2.1.trans i4,?_⟩
  have:=t.2.2
  rwa [show max r.1 1+(n-max r.1 1)=n by omega] at this
 ·rw[if_neg h]
  refine⟨dF _ i1 (by rw[hr,if_neg h];trivial),i4,?_⟩
  rw[show n=r.1 by omega];exact i5
end
end L2.R2
set_option Elab.async false
set_option linter.all false
set_option maxRecDepth 100000
set_option maxHeartbeats 3200000
namespace L2.R2
open PySem PySem.W PySem.SetTable PyProof.Rows
noncomputable def dP:List Int->List Int->Bool
 | [],[]=>false
 | [],_::_=>true
 | _::_,[]=>false
 | a::as,b::bs=>if a=b then dP as bs else decide (a<b)
theorem xB:∀a,dP a a=false
 | []=>rfl
 | a::as=>by simp only[dP,if_true];exact xB as
theorem mC:∀a b c,dP a b=true->dP b c=true->dP a c=true
 | [],[],c,h,_=>by simp[dP] at h
 | [],_::_,[],_,h=>by simp[dP] at h
 | [],_::_,_::_,_,_=>rfl
 | _::_,[],_,h,_=>by simp[dP] at h
 | _::_,_::_,[],_,h=>by simp[dP] at h
 | a::as,b::bs,c::cs,h,k=>by
  simp only[dP] at h k ⊢
  by_cases e1:a=b
  ·subst e1
   rw[if_pos rfl] at h
   by_cases e2:a=c
   ·subst e2;rw[if_pos rfl] at k ⊢;exact mC as bs cs h k
   ·rw[if_neg e2] at k ⊢;exact k
  ·rw[if_neg e1] at h
   by_cases e2:b=c
   ·subst e2;rw[if_neg e1];exact h
   ·rw[if_neg e2] at k
    simp only[decide_eq_true_eq] at h k
    rw[if_neg (by omega)]
    simp only[decide_eq_true_eq];omega
theorem mB:∀a b,dP a b=false->dP b a=false->a=b
 | [],[],_,_=>rfl
 | [],_::_,h,_=>by simp[dP] at h
 | _::_,[],_,h=>by simp[dP] at h
 | a::as,b::bs,h,k=>by
  simp only[dP] at h k
  by_cases e:a=b
  ·subst e;rw[if_pos rfl] at h k;rw[mB as bs h k]
  ·rw[if_neg e] at h;rw[if_neg (Ne.symm e)] at k
   simp only[decide_eq_false_iff_not] at h k;omega
theorem FP (a b c:List Int) (h:dP a c=true):dP a b=true\/dP b c=true:=by
 cases h1:dP a b with
 | true=>exact Or.inl rfl
 | false =>
  right
  cases h2:dP b a with
  | true=>exact mC b a c h2 h
  | false=>rw[<-mB a b h1 h2];exact h
noncomputable def IR:KeyOrd:=⟨List Int,dP,xB,mC,FP,mB⟩
section
variable {prog:Program} {w:World} {A:Around} {E:Value->Shared->Prop} {s:Shared}
theorem int_inv {k:Int} {v:Value} (h:(intKind prog w).is k v=true):∃t,v = .int k t:=by
 cases v <;> simp[intKind,Value.isInt] at h
 exact⟨_,by rw[h]⟩
theorem IS {fin:Bool} {Q:Bool->Shared->Prop}:∀(ns ms:List Int) (vs us:List Value) (i:Nat),ItemsAre (intKind prog w) ns vs->ItemsAre (intKind prog w) ms us->fin=decide (vs.length<us.length)->Q (dP ns ms) s->KatLex prog w A true fin Q (vs.zip us) i s:=by
 intro ns
 induction ns with
 | nil =>
  intro ms vs us i h1 h2 hf q
  cases h1
  cases h2 with
  | nil=>simp at hf;subst hf;exact kat_nil q
  | cons _ _=>simp at hf;subst hf;exact kat_nil q
 | cons n ns ih =>
  intro ms vs us i h1 h2 hf q
  cases h1 with
  | cons h1 t1 =>
   cases h2 with
   | nil=>simp at hf;subst hf;exact kat_nil q
   | @cons m u ms us h2 t2 =>
    rw[List.zip_cons_cons]
    refine kat_cons ((intKind prog w).eqBool h1 h2 ?_)
    by_cases e:n=m
    ·subst e
     rw[decide_eq_true rfl]
     exact kat_yes (ih ms _ us (i+1) t1 t2 (by simpa using hf) (by simpa [dP] using q))
    ·rw[decide_eq_false e]
     obtain⟨tn,rfl⟩:=int_inv h1
     obtain⟨tm,rfl⟩:=int_inv h2
     have q':Q (decide (n<m)) s:=by simpa [dP,e] using q
     refine kat_no ?_
     cases hi:(i == 0) with
     | true=>exact oneLt_int q'
     | false=>exact kat_one _ _ (PySem.wpAny_lt_int (by exact q'))
noncomputable def KeysAt (prog:Program) (w:World) (h:Heap) (vs:List Value) (nss:List (List Int)):Prop:=vs.length=nss.length/\∀i v,vs[i]? = some v->∃a,v = .ref a/\IsTupleKey (intKind prog w) h (nss.getD i []) a
theorem rH {h:Heap}:∀(vs:List Value) (nss:List (List Int)),KeysAt prog w h vs nss->(∀ns∈nss,ns≠[])->∃fs:List Value,KatTups h vs fs/\fs.length=vs.length/\∀f∈fs,∃k t,f = .int k t
 | [],nss,_,_=>⟨[],trivial,rfl,λf hf=>by cases hf⟩
 | v::vs,nss,H,hn=>by
  match nss,H with
  | [],H=>exact absurd H.1 (by simp)
  | ns::nss,H =>
   obtain⟨a,rfl,o,items,n,ho,hc,hd,hi⟩:=H.2 0 v rfl
   obtain⟨fs,f1,f2,f3⟩:=rH vs nss ⟨by have:=H.1;simpa using this,λi v e=>H.2 (i+1) v e⟩ λms hm=>hn ms (List.mem_cons_of_mem _ hm)
   simp only[List.getD_cons_zero] at hi
   match ns,hi,hn ns (List.mem_cons_self ..) with
   | [],_,h=>exact absurd rfl h
   | k::ks,hi,_ =>
    generalize e:items.toList=its at hi
    cases hi with
    | cons h1 h2 =>
     obtain⟨t,rfl⟩:=int_inv h1
     refine⟨.int k t::fs,⟨⟨a,o,items,n,rfl,ho,hc,hd,?_⟩,f1⟩,by simp[f2],λf hf=>?_⟩
     ·rw[<-Array.getElem?_toList,e];rfl
     ·rcases List.mem_cons.mp hf with rfl | hf
      ·exact⟨k,t,rfl⟩
      ·exact f3 f hf
theorem KeysAt.other {h h':Heap} {vs:List Value} {nss:List (List Int)} {a:Addr} {xs:Array Value} {n:Nat} (K:KeysAt prog w h vs nss) (ho:h.get? a=some (seqObj "list" xs n)) (up:∀b o,b≠a->h.get? b=some o->h'.get? b=some o):KeysAt prog w h' vs nss:=by
 refine⟨K.1,λi v e=>?_⟩
 obtain⟨b,rfl,o,its,m,h1,h2,h3,h4⟩:=K.2 i v e
 refine⟨b,rfl,o,its,m,up b o ?_ h1,h2,h3,h4⟩
 rintro rfl
 rw[ho] at h1;cases h1
 exact absurd h2 (by simp[seqObj])
theorem AA {α:Type} (d:α) (xs:List α):(List.range xs.length).map (λi=>xs.getD i d)=xs:=by
 apply List.ext_getElem (by simp)
 intro i h1 h2
 simp[h2]
theorem DU {a:Addr} {vs:List Value} {nss:List (List Int)} {n:Nat} {P:PySem.Fin->Shared->Prop} (ho:s.heap.get? a=some (seqObj "list" vs.toArray n)) (K:KeysAt prog w s.heap vs nss) (hn:∀ns∈nss,ns≠[]) (h64:vs.length<64)
  (q:∀h' out mss c,h'.get? a=some (seqObj "list" (List.toArray out) c)->KeysAt prog w h' out mss->(∀v∈out,v∈vs)->mss.Perm nss->mss.Pairwise (λx y=>dP y x=false)->(∀b o,b≠a->s.heap.get? b=some o->h'.get? b=some o)->P (.done (.ret .none)) { s with heap:=h' }) :
  wpAny (model prog w) A (Builtin.«list.sort» ⟨[.ref a],[]⟩) P E s:=by
 have lt:a<s.heap.objs.size:=Heap.lt_size ho
 rw[list_sort_plain]
 apply wpAny_bind;refine listItems_at ho rfl ?_
 apply wpAny_bind;refine listUpdate_at ho rfl ?_ (by rw[List.size_toArray,sizeLine_eq];omega) (Nat.zero_le _)
 obtain⟨e1,ho1⟩:∃e1,(s.heap.update a (Obj.mapSeq λ_=>(#[]:Array Value))).get? a=some (seqObj "list" #[] e1):=⟨_,get?_update_seq ho λ_=>#[]⟩
 have up1:∀b o,b≠a->s.heap.get? b=some o->(s.heap.update a (Obj.mapSeq λ_=>(#[]:Array Value))).get? b=some o:=λb o hb e=>(Heap.get?_update_other _ _ (Ne.symm hb)).trans e
 generalize s.heap.update a (Obj.mapSeq λ_=>(#[]:Array Value))=h1 at ho1 up1
 apply wpAny_bind;refine seqEpoch_at ho1 rfl ?_
 apply wpAny_bind;refine wpAny_newTuple ?_ (by show vs.length<=_;rw[sizeLine_eq];omega)
 apply wpAny_bind;refine wpAny_newList ?_ (Nat.zero_le _)
 apply wpAny_holding
 show wpAny (model prog w) A _ P E { s with heap:=(h1.push (seqObj "tuple" vs.toArray 0)).push (seqObj "list" #[] 0) }
 have up2:∀b o,b≠a->s.heap.get? b=some o->((h1.push (seqObj "tuple" vs.toArray 0)).push (seqObj "list" #[] 0)).get? b=some o:=λb o hb e=>Heap.get?_push_of_some _ (Heap.get?_push_of_some _ (up1 b o hb e))
 have ho2:((h1.push (seqObj "tuple" vs.toArray 0)).push (seqObj "list" #[] 0)).get? a=some (seqObj "list" #[] e1):=Heap.get?_push_of_some _ (Heap.get?_push_of_some _ ho1)
 generalize (h1.push (seqObj "tuple" vs.toArray 0)).push (seqObj "list" #[] 0)=h2 at up2 ho2
 have K2:=K.other ho up2
 have fin:∀(out:List Value) (mss:List (List Int)) (st':SortSt),(arrOf st').map (·.2)=out.toArray->failedOf st'=none->KeysAt prog w h2 out mss->(∀v∈out,v∈vs)->mss.Perm nss->mss.Pairwise (λx y=>dP y x=false)->out.length<=64 ->
   wpAny (model prog w) A (do
    let sorted:=(arrOf st').map (·.2)
    let touched:=(<-seqEpoch a) != e1
    Builtin.List.listUpdate (.ref a) λ_=>sorted
    if let some e:=failedOf st' then rule "list.sort.comparison-raised";throw e
    if touched then rule "list.sort.modified";raiseError "ValueError" "list modified during sort"
    ret .none) P E { s with heap:=h2 }:=by
  intro out mss st' h1 hf KO hv hp hs hlen
  dsimp only
  apply wpAny_bind;refine seqEpoch_at (s:={ s with heap:=h2 }) ho2 rfl ?_
  rw[h1]
  apply wpAny_bind;refine listUpdate_at (s:={ s with heap:=h2 }) ho2 rfl ?_ (Nat.zero_le _) (by show out.toArray.size<=_;rw[List.size_toArray,sizeLine_eq];omega)
  obtain⟨c,hc⟩:∃c,(h2.update a (Obj.mapSeq λ_=>out.toArray)).get? a=some (seqObj "list" out.toArray c):=⟨_,get?_update_seq ho2 λ_=>out.toArray⟩
  have up3:∀b o,b≠a->h2.get? b=some o->(h2.update a (Obj.mapSeq λ_=>out.toArray)).get? b=some o:=λb o hb e=>(Heap.get?_update_other _ _ (Ne.symm hb)).trans e
  generalize h2.update a (Obj.mapSeq λ_=>out.toArray)=h3 at hc up3
  rw[hf]
  simp only[bne_self_eq_false,Bool.false_eq_true,if_false]
  exact wpAny_pure (q h3 out mss c hc (KO.other ho2 up3) hv hp hs λb o hb e=>up3 b o hb (up2 b o hb e))
 have ln:=K.1
 dsimp only
 by_cases h2':vs.length<2
 ·have c2:vs.toArray.size<2:=by rw[List.size_toArray];exact h2'
  rw[if_pos c2,if_pos c2]
  apply wpAny_bind;apply wpAny_pure
  apply wpAny_bind
  show wpAny _ _ (pure ((),SortSt.mk' general' (vs.toArray.zip vs.toArray) #[] 7 none)) _ _ _
  apply wpAny_pure
  refine fin vs nss _ ?_ rfl K2 (λ_ h=>h) (List.Perm.refl _) ?_ (by omega)
  ·show (vs.toArray.zip vs.toArray).map (·.2)=vs.toArray
   apply Array.toList_inj.mp
   simp[List.map_snd_zip]
  ·match nss,ln with
   | [],_=>exact List.Pairwise.nil
   | [x],_=>exact List.pairwise_singleton _ _
   | _::_::_,ln=>simp at ln;omega
 ·have c2:¬vs.toArray.size<2:=by rw[List.size_toArray];exact h2'
  rw[if_neg c2,if_neg c2]
  obtain⟨fs,f1,f2,f3⟩:=rH vs nss K2 hn
  apply wpAny_bind
  refine kat_kind (s:={ s with heap:=h2 }) (T:=.type "int") f1 (by omega) (λv hv=>?_) (by decide) ?_
  ·obtain⟨k,t,rfl⟩:=f3 v hv
   exact Looks.now
  have hT:(Value.type "int" != Value.type "tuple")=true:=by decide
  rw[hT]
  obtain⟨i1,i2,i3⟩:=JN (O:=IR) (key:=λi=>nss.getD i []) (n:=vs.length) (by omega)
  have psz:(bG (ltK IR λi=>nss.getD i []) (kas_sort vs.length)).size=vs.length:=by rw[i2.size_eq];simp
  generalize hp:bG (ltK IR λi=>nss.getD i []) (kas_sort vs.length)=p at i2 i3 psz
  apply wpAny_bind
  refine wpAny_mono (kat_run (ks:=vs) (vs:=vs) (Q:=λst' s'=>s' = { s with heap:=h2 }/\arrOf st'=p.map (kas_item (vs.toArray.zip vs.toArray))/\failedOf st'=none) (G:=λp' s'=>p'=p/\s' = { s with heap:=h2 }) rfl (by omega) h64 (λp' st' s' a1 a2 a3 a4=>⟨a4.2,by rw[a2,a4.1],a3⟩) ?_) ?_ λ_ _ e=>e
  ·refine rG (lt:=ltK IR λi=>nss.getD i []) (n:=vs.length) (s:={ s with heap:=h2 }) (λi j C hi hj c=>?_) _ i1 ⟨hp,rfl⟩
   unfold kas_ask
   obtain⟨x,ex,ox,xs,nx,hx1,hx2,hx3,hx4⟩:=K2.2 i (vs.getD i Value.none) (by simp[hi])
   obtain⟨y,ey,oy,ys,ny,hy1,hy2,hy3,hy4⟩:=K2.2 j (vs.getD j Value.none) (by simp[hj])
   rw[ex,ey]
   refine kat_lt (s:={ s with heap:=h2 }) hx1 hx3 hy1 hy3 (IS _ _ _ _ 0 hx4 hy4 (by simp) ?_)
   exact c
  ·rintro⟨⟨⟩,st'⟩ s' ⟨rfl,har,hf⟩
   have hout:=kat_snds (ks:=vs) (vs:=vs) rfl har
   refine fin (p.toList.map λi=>vs.getD i Value.none) (p.toList.map λi=>nss.getD i []) st' hout hf ⟨by simp,λi v e=>?_⟩ (λv hv=>?_) ?_ ?_ (by simp[psz];omega)
   ·rw[List.getElem?_map] at e
    cases e2:p.toList[i]? with
    | none=>rw[e2] at e;simp at e
    | some j =>
     rw[e2] at e
     simp only[Option.map_some,Option.some.injEq] at e
     have hj:j<vs.length:=by
      have m:j∈p.toList:=List.mem_of_getElem? e2
      have:=(Array.Perm.mem_iff i2).mp (Array.mem_toList_iff.mp m)
      simpa using this
     obtain⟨b,hb1,hb2⟩:=K2.2 j v (by rw[<-e];simp[hj])
     refine⟨b,hb1,?_⟩
     have g:(p.toList.map λi=>nss.getD i []).getD i []=nss.getD j []:=by
      rw[List.getD_eq_getElem?_getD,List.getElem?_map,e2];rfl
     rw[g];exact hb2
   ·obtain⟨j,m,rfl⟩:=List.mem_map.mp hv
    have hj:j<vs.length:=by
     have:=(Array.Perm.mem_iff i2).mp (Array.mem_toList_iff.mp m)
     simpa using this
    simp[hj]
   ·have pl:p.toList.Perm (List.range vs.length):=by simpa using i2.toList
    refine (pl.map _).trans ?_
    rw[ln,AA]
   ·refine List.pairwise_map.mpr (List.pairwise_iff_getElem.mpr λi j hi hj hij=>?_)
    have:=i3 i j (by omega) (by simp at hj;omega)
    unfold kk at this
    simp only[Array.length_toList] at hi hj
    have e1:p.getD i 0=p[i]:=by simp[Array.getD,hi]
    have e2:p.getD j 0=p[j]:=by simp[Array.getD,hj]
    rw[e1,e2] at this
    exact this
end
end L2.R2
set_option Elab.async false
set_option linter.all false
set_option maxRecDepth 100000
set_option maxHeartbeats 3200000
namespace L2.R2
open PySem PySem.W PyProof.Rows
theorem zL:typeLookup (.type "list_reverseiterator") "__len__" = pure none:=by rw[typeLookup_type,builtinLookup_eq_fast];kernel_rfl
theorem FT:typeLookup (.type "list_reverseiterator") "__length_hint__" = pure (some (.builtin "list_reverseiterator.__length_hint__")):=by rw[typeLookup_type,builtinLookup_eq_fast];kernel_rfl
theorem vV:isSubtype (.type "list_reverseiterator") (.type "list_reverseiterator")=pure true:=by rw[isSubtype_type];kernel_rfl
section
variable {prog:Program} {w:World} {A:Around} {E:Value->Shared->Prop} {s:Shared}
theorem GP {I:Addr} {Q:Bool->Shared->Prop} (ty:s.TypeIs (.ref I) "list_reverseiterator") (q:Q false s):wpAny (model prog w) A (Builtin.List.listLengthHint (.ref I)) Q E s:=by
 unfold Builtin.List.listLengthHint
 apply wpAny_bind;refine wpAny_specialOf ty zL ?_
 show wpAny _ _ (specialOf (Value.ref I) (Str.ofString "__length_hint__") >>= _) _ _ _
 apply wpAny_bind;refine wpAny_specialOf ty FT ?_
 dsimp only
 have sp:splitId "list_reverseiterator.__length_hint__" = some ("list_reverseiterator","__length_hint__"):=by decide +kernel
 rw[sp]
 dsimp only
 apply wpAny_bind;refine wpAny_isInstance (b:=true) ty vV ?_
 simp only[Bool.not_true,Bool.false_eq_true,if_false]
 have key:∀(c:Bool) (X Y:Sem Bool),c=true->wpAny (model prog w) A X Q E s->wpAny (model prog w) A (if c=true then X else Y) Q E s:=λc X Y hc h=>by rw[if_pos hc];exact h
 refine key _ _ _ (by decide +kernel) ?_
 rw[if_neg (by decide +kernel)]
 exact wpAny_pure q
theorem sQ {I l:Addr} {items:Array Value} {Q:Value->Shared->Prop} (hh:A.handled=none) (ne:l≠I) (hz:items.size<=sizeLine) (hi:s.heap.IsRevIter I l ((items.size:Int)-1)) (hl:s.heap.IsList l items)
  (q:∀h' c,h'.get? s.heap.objs.size=some (seqObj "list" items.toList.reverse.toArray c)->(∀b o,b≠I->s.heap.get? b=some o->h'.get? b=some o)->Q (.ref s.heap.objs.size) { s with heap:=h' }) :
  wpAny (model prog w) A (call (.type "list") [.ref I]) Q E s:=by
 have ltI:I<s.heap.objs.size:=by obtain⟨o,e,_⟩:=hi;exact Heap.lt_size e
 have ltl:l<s.heap.objs.size:=by obtain⟨o,e,_⟩:=hl;exact Heap.lt_size e
 refine callType_codes (Q₁:=λobj s₁=>obj = .ref s.heap.objs.size/\s₁ = { s with heap:=s.heap.push { cls:=.type "list",data:=.seq #[] } }) F.called_list (F.typeCall_list_1 _) F.entry_list_init (code_list_new _ ⟨rfl,rfl⟩) λobj s₁ h₁=>?_
 obtain⟨rfl,rfl⟩:=h₁
 have hS:(s.heap.push { cls:=.type "list",data:=.seq #[] }).get? s.heap.objs.size=some { cls:=.type "list",data:=.seq #[] }:=Heap.get?_push_size _ rfl
 refine⟨⟨_,hS,rfl⟩,F.args_list_init_2 _ _,?_⟩
 show wpAny _ _ (do let old <-Builtin.List.listItems (.ref s.heap.objs.size);Builtin.List.listUpdate (.ref s.heap.objs.size) (λ_=>#[]);letGo old.toList.reverse;Builtin.List.listExtendWith (.ref s.heap.objs.size) (.ref I) .none) _ _ _
 apply wpAny_bind;unfold Builtin.List.listItems
 apply wpAny_bind;apply wpAny_seqItems hS rfl;apply wpAny_pure
 show wpAny _ _ (updateSeq s.heap.objs.size (λ_=>#[]) >>= λ_=>letGo (#[]:Array Value).toList.reverse >>= λ_=>Builtin.List.listExtendWith (.ref s.heap.objs.size) (.ref I) .none) _ _ _
 apply wpAny_bind;refine wpAny_updateSeq hS rfl ?_
 have hS2:=Heap.get?_update_self (Obj.mapSeq (λ_=>(#[]:Array Value))) hS rfl
 have up2:∀b o,b≠s.heap.objs.size->s.heap.get? b=some o->((s.heap.push { cls:=.type "list",data:=.seq #[] }).update s.heap.objs.size (Obj.mapSeq (λ_=>(#[]:Array Value)))).get? b=some o :=
  λb o hb e=>(Heap.get?_update_other _ _ (Ne.symm hb)).trans (Heap.get?_push_of_some _ e)
 generalize (s.heap.push { cls:=.type "list",data:=.seq #[] }).update s.heap.objs.size (Obj.mapSeq (λ_=>(#[]:Array Value)))=h2 at hS2 up2
 apply wpAny_bind;apply wpAny_letGo
 have neI:I≠s.heap.objs.size:=Nat.ne_of_lt ltI
 have nel:l≠s.heap.objs.size:=Nat.ne_of_lt ltl
 have hi2:h2.IsRevIter I l ((items.size:Int)-1):=hi.at λo e=>up2 _ o neI e
 have hl2:h2.IsList l items:=hl.at λo e=>up2 _ o nel e
 unfold Builtin.List.listExtendWith
 apply wpAny_bind;refine wpAny_typeOf (T:="list_reverseiterator") hi2.typeIs ?_
 have g1:Builtin.List.listSameRef (.ref s.heap.objs.size) (.ref I)=false:=by simp[Builtin.List.listSameRef,Nat.ne_of_gt ltI]
 have g2:(Value.type "list_reverseiterator" == Value.type "list")=false:=by decide
 have g3:(Value.type "list_reverseiterator" == Value.type "tuple")=false:=by decide
 simp only[g1,g2,g3,Bool.or_false,Bool.false_eq_true,if_false]
 apply wpAny_bind;refine wpAny_pyIter_revIter hi2 ?_
 apply wpAny_bind;apply wpAny_holding;refine GP hi2.typeIs ?_
 have key:∀(c:Bool) (X Y:Sem Fin) {Q':Fin->Shared->Prop} {E':Value->Shared->Prop} {s':Shared} {A':Around},c=false->wpAny (model prog w) A' Y Q' E' s'->wpAny (model prog w) A' (if c=true then X else Y) Q' E' s':=λc X Y _ _ _ _ hc h=>by rw[hc,if_neg Bool.false_ne_true];exact h
 refine key _ _ _ (by decide +kernel) ?_
 apply wpAny_pure;refine⟨plainId_quiet PySem.F.plain_extend_loop _,?_⟩
 refine FC (s0:=s) (n:=items.size) (J:=λacc h=>h.IsRevIter I l ((items.size:Int)-1-(acc.length:Int))/\h.IsList l items/\acc=items.toList.reverse.take acc.length/\∀b o,b≠I->b≠s.heap.objs.size->s.heap.get? b=some o->h.get? b=some o)
  (F:=λacc h=>acc=items.toList.reverse/\∀b o,b≠I->b≠s.heap.objs.size->s.heap.get? b=some o->h.get? b=some o) .none hz ?_ ?_ ?_ (λh' acc c hsz hF hS'=>⟨rfl,?_⟩) items.size #[] h2 _ rfl (Nat.zero_le _) ?_ hS2
 ·rintro acc h h' ⟨J1,J2,J3,J4⟩ hSo hz up
  exact⟨J1.at λo e=>up _ o neI e,J2.at λo e=>up _ o nel e,J3,λb o n1 n2 e=>up b o n2 (J4 b o n1 n2 e)⟩
 ·rintro acc s' o Q' E' hlt ⟨J1,J2,J3,J4⟩ hSo k
  have e:items[items.size-1-acc.length]? = some (items[items.size-1-acc.length]'(by omega)):=Array.getElem?_eq_getElem _
  refine wpAny_pyNext_rev_item (i:=items.size-1-acc.length) (by rw[show ((items.size-1-acc.length:Nat):Int)=(items.size:Int)-1-(acc.length:Int) by omega];exact J1) J2 e λh' it' sb=>k _ h' ⟨?_,J2.at λo e=>?_,?_,λb o n1 n2 e=>?_⟩ ?_
  ·rw[show ((items.size-1-acc.length:Nat):Int)-1=(items.size:Int)-1-((acc++[items[items.size-1-acc.length]'(by omega)]).length:Int) by simp;omega] at it'
   exact it'
  ·rw[sb.2 _ ne];exact e
  ·rw[List.length_append,List.length_singleton,List.take_succ,<-J3]
   congr 1
   rw[List.getElem?_eq_getElem (by simp;omega),List.getElem_reverse]
   simp
  ·rw[sb.2 b n1];exact J4 b o n1 n2 e
  ·rw[sb.2 _ (Ne.symm neI)];exact hSo
 ·rintro acc s' o Q' E' hlen ⟨J1,J2,J3,J4⟩ hSo k
  rw[hlen] at J3
  refine wpAny_pyNext_rev_end (l:=l) (by simp[hh]) (by rw[show (-1:Int)=(items.size:Int)-1-(acc.length:Int) by omega];exact J1) λh' eb=>k h' ⟨?_,λb o n1 n2 e=>eb b o n1 (J4 b o n1 n2 e)⟩ (eb _ _ (Ne.symm neI) hSo)
  rw[J3,List.take_of_length_le]
  simp
 ·exact⟨by simpa using hi2,hl2,rfl,λb o _ n2 e=>up2 b o n2 e⟩
 ·refine q h' c ?_ λb o n1 e=>hF.2 b o n1 (Nat.ne_of_lt (Heap.lt_size e)) e
  rw[hS',<-hF.1]
end
end L2.R2
set_option Elab.async false
set_option linter.all false
set_option maxRecDepth 100000
set_option maxHeartbeats 1000000
namespace L2.R2
open PySem PySem.Spec PyProof.Rows L2
theorem oV:bootBuiltins "sorted" = some (.builtin "sorted"):=by decide +kernel
theorem wS {prog:Program} {w:World}:∀{ns:List Int} {us:List Value},Vals (ns.map V.int) us->ItemsAre (intKind prog w) ns us
 | [],_,h=>by cases h;exact .nil
 | n::ns,_,h=>by
  cases h with
  | cons h1 t =>
   obtain⟨t',rfl⟩:=h1
   exact .cons (intKind_is _ _ _ _) (wS t)
noncomputable def sC (te:RE):RA:=λρ Q=>te ρ λx=>∃ds:List D,x = .lst ds/\Q ds.reverse
theorem xX {K:PySem.W.Frag} {H:Hp}:∀(out:List Value) (mss:List (List Int)),out.length=mss.length->(∀(i:Nat) (v:Value),out[i]? = some v->∃a,v = .ref a/\H a=some (.tup ((mss.getD i []).map V.int)))->∃ws:List V,Vals ws out/\Reps K H (mss.map gR) ws
 | [],[],_,_=>⟨[],.nil,.nil⟩
 | [],_::_,h,_=>by simp at h
 | _::_,[],h,_=>by simp at h
 | v::out,ms::mss,h,k=>by
  obtain⟨ws,h1,h2⟩:=xX (K:=K) (H:=H) out mss (by simpa using h) λi v e=>k (i+1) v (by simpa using e)
  obtain⟨a,rfl,ha⟩:=k 0 v rfl
  exact⟨.ref a::ws,.cons rfl h1,.cons (.tup ha Reps.ints) h2⟩
section
variable {X:Cx} {e:Expr} {te:RE} {p pz pos posz:Pos}
theorem yZ (hml:X.mg "list" = none) (hmz:X.mg "reversed" = none) (hc:X.calm=true) (h:DB X e te) (hgl:Gl X "list":=by rfl) (hgz:Gl X "reversed":=by rfl)
  (hs:starEach [.Call (.Name "reversed" pz) [e] [] posz] X.env=[(false,eval (.Call (.Name "reversed" pz) [e] [] posz) X.env)]:=by rfl) (hn:starEach [] X.env=[]:=by rfl) (h1:starEach [e] X.env=[(false,eval e X.env)]:=by rfl) :
  DO X (.Call (.Name "list" p) [.Call (.Name "reversed" pz) [e] [] posz] [] pos) (sC te):=by
 intro pins s σ H Q I hh_0
 obtain⟨ρ,P,st,q,kq⟩:=hh_0
 refine wpAny_Call_Name_kw (eC I hgl hml nW ?_)
 refine PyProof.Rows.callWith_type1 ?_ (by rw[hs,hn]) (by rw[hn];rfl)
 rw[hs]
 show wpAny _ _ (spliced ((false,eval (.Call (.Name "reversed" pz) [e] [] posz) X.env)::backTo pos [])) _ _ s
 refine Calls.spliced_cons (wpAny_Call_Name_kw (eC I hgz hmz lM ?_))
 refine PyProof.Rows.callWith_type1 (thn (iC h h1 hn posz pins s σ H (λvs H1=>∃(ds:List D) (v:V),vs=[v]/\Same H H1/\RepB X.K H1 (.lst ds) v/\P ds.reverse) I
  ⟨ρ,_,st,q,λx v H1 hx s1 r1=>?_⟩) λus s1 ⟨vs,H1,I1,r1,q1⟩=>?_) (by rw[h1,hn]) (by rw[hn];rfl)
 ·obtain⟨ds,rfl,a1⟩:=hx
  exact⟨ds,v,rfl,s1,r1,a1⟩
 obtain⟨ds,v,rfl,s01,rb,hP⟩:=q1
 obtain⟨l,vs,rfl,hq,rr⟩:=rb.lst
 obtain⟨u,rfl,rx⟩:=kW r1
 cases rx
 obtain⟨its,rv,pl,hz⟩:=I1.list hq
 have l1:=rr.length
 have l2:=rv.length
 have lt:l<s1.heap.objs.size:=by obtain⟨o,e,_⟩:=pl.isList;exact Heap.lt_size e
 refine call_reversed_list pl.isList ?_
 refine Calls.spliced_nil ?_
 have g0:(s1.heap.push (revObj l ((its.toArray.size:Int)-1))).get? s1.heap.objs.size=some (revObj l ((its.toArray.size:Int)-1)):=Heap.get?_push_size _ rfl
 have k1:∀b o,s1.heap.get? b=some o->(s1.heap.push (revObj l ((its.toArray.size:Int)-1))).get? b=some o:=λb o e=>Heap.get?_push_of_some _ e
 have z1:(s1.heap.push (revObj l ((its.toArray.size:Int)-1))).objs.size=s1.heap.objs.size+1:=Heap.size_push ..
 generalize s1.heap.push (revObj l ((its.toArray.size:Int)-1))=h2 at g0 k1 z1
 refine sQ (s:={ s1 with heap:=h2 }) (A:=X.A) (l:=l) (I1.ok.hd hc) (Nat.ne_of_lt lt) (by simp;omega) ⟨_,g0,rfl,rfl⟩ (pl.isList.at λo e=>k1 _ o e) λh3 c g1 up=>?_
 show EP X pins σ Q (.ref h2.objs.size) _
 rw[show (Shared.heap { s1 with heap:=h2 }).objs.size=s1.heap.objs.size+1 from z1] at g1
 rw[z1]
 have kp:∀b o,s1.heap.get? b=some o->h3.get? b=some o:=λb o e=>up b o (Nat.ne_of_lt (Heap.lt_size e)) (k1 b o e)
 have I3:Inv X pins σ H1 { s1 with heap:=h3 }:=I1.kept (t':=s1.toks) kp
 have hS0:H1 (s1.heap.objs.size+1)=none:=I1.hok.fresh (Nat.le_succ _)
 have VV:Vals vs.reverse its.reverse:=by
  clear hq pl hz l1 l2 rr g1 g0
  induction rv with
  | nil=>exact .nil
  | cons r t ih =>
   simp only[List.reverse_cons]
   exact Vals.append ih (.cons r .nil)
 have I4:=I1.trackO (a:=s1.heap.objs.size+1) (w:=.lst vs.reverse) I3 (Nat.le_succ _) hS0 ⟨by simp;omega,its.reverse,c,VV,by simpa using g1⟩
 exact⟨.ref (s1.heap.objs.size+1),_,I4,rfl,kq _ _ _ H1 hP s01 hS0 rr.reverse⟩
end
noncomputable def HF (lo:Int) (n:Nat):It:=⟨λi _=>i<n,λi H x H'=>H'=H/\x = .int (lo+i*2),λi _=>n<=i⟩
theorem yF {P:Program} {w:World} {K:PySem.W.Frag} {tg:Expr} (it:Addr) (lo:Int) (n:Nat):Turn P w K tg (HF lo n) [it] it (λi h=>IsRangeIter h it (lo+(i:Nat)*2) ((n:Int)-(i:Nat)) 2) where
 mem:=by simp
 obj:=λi h st b hb=>by
  have e:b=it:=by simpa using hb
  subst e
  exact⟨_,st,λv z=>by have z':Data.fields _=Data.cell v:=z;cases z'⟩
 keep:=λi h h' st k=>k it (by simp) _ st
 item:=by
  intro X hP hw hK hc i pins s σ H E I hf st hg
  subst hP hw hK
  obtain⟨f0,f1,f2,f3,f4,f5⟩:=hf it (by simp)
  have W:=Walks.range (prog:=X.prog) (w:=X.w) (I.ok.hd hc) it lo 2 n
  refine W.item i s _ _ hg st λv h' tk hv st' kk=>?_
  obtain⟨t,rfl⟩:=hv
  have I1:Inv X pins σ H { s with heap:=h',toks:=tk }:=I.turned (λb o hb e=>kk b o (by simpa using hb) e) f0 f1 f3 f4 f5
  exact⟨_,rfl,tR (s:={ s with heap:=h',toks:=tk }) (n:="range_iterator") st' rfl rfl (by decide) ⟨.int (lo+i*2),H,I1,⟨t,rfl⟩,⟨rfl,rfl⟩,st',λb hb=>(hf b hb).1⟩⟩
 done:=by
  intro X hP hw hK hc i pins s σ H E I hf st hg
  subst hP hw hK
  obtain⟨f0,f1,f2,f3,f4,f5⟩:=hf it (by simp)
  exact wpAny_pyNext_range_end (I.ok.hd hc) st (by have:n<=i:=hg;omega) λh' eb=>⟨rfl,I.turned (t':=s.toks) (λb o hb e=>eb b o hb e) f0 f1 f3 f4 f5⟩
 self:=λ_ _ _ _ _ st h=>wpAny_pyIter_rangeiter st h
theorem GT (a b:Int):Builtin.Range.rangeSize a b 2=if a<b then (b-a-1) / 2+1 else 0:=by
 unfold Builtin.Range.rangeSize
 simp only[show (2:Int) > 0 by decide,if_true]
theorem MQ {a b:Int} (ha:-(2 ^ 60)<=a) (ha':a<2 ^ 60) (hb:-(2 ^ 60)<=b) (hb':b<2 ^ 60):Builtin.Range.small a b 2=true:=by
 unfold Builtin.Range.small
 rw[GT]
 simp only[Builtin.Range.rangeFitsLong,Bool.and_eq_true,Bool.or_eq_true,decide_eq_true_eq,beq_iff_eq,show (2:Int) > 0 by decide,if_true]
 split <;> omega
section
variable {X:Cx} {tg:Expr}
theorem DF {pins:List (Addr × Obj)} {σ:St} {H:Hp} {s:Shared} {R:It->Hp->Prop} {E:Value->Shared->Prop} {lo hi:Int} {t u v:Tok} {tk:Nat} (I:Inv X pins σ H s) (h1:-(2 ^ 60)<=lo) (h2:lo<2 ^ 60) (h3:-(2 ^ 60)<=hi) (h4:hi<2 ^ 60)
  (q:R (HF lo ((hi-lo+1) / 2).toNat) H):wpAny (model X.prog X.w) X.A (pyIter (.ref s.heap.objs.size)) (PIE X pins σ tg R) E { s with heap:=s.heap.push { cls:=.type "range",data:=.fields #[.int lo t,.int hi u,.int 2 v] },toks:=tk }:=by
 refine wpAny_pyIter_range (IsRange.new ..) (MQ h1 h2 h3 h4) ?_
 have I1:Inv X pins σ H { s with heap:=s.heap.push { cls:=.type "range",data:=.fields #[.int lo t,.int hi u,.int 2 v] },toks:=tk }:=I.kept λb o e=>Heap.get?_push_of_some _ e
 have e1:lo+((0:Nat):Int)*2=lo:=by simp
 have e2:((((hi-lo+1) / 2).toNat:Nat):Int)-((0:Nat):Int)=Builtin.Range.rangeSize lo hi 2:=by rw[GT];split <;> omega
 generalize hh:s.heap.push { cls:=.type "range",data:=.fields #[.int lo t,.int hi u,.int 2 v] } = h1 at I1
 refine⟨h1.objs.size,[h1.objs.size],_,_,H,rfl,I1.kept (t':=tk) λb o e=>Heap.get?_push_of_some _ e,yF _ lo ((hi-lo+1) / 2).toNat,?_,λb hb=>?_,q⟩
 ·show IsRangeIter _ _ (lo+((0:Nat):Int)*2) (((((hi-lo+1) / 2).toNat:Nat):Int)-((0:Nat):Int)) 2
  rw[e1,e2]
  exact Heap.get?_push_size _ rfl
 ·have e:b=h1.objs.size:=by simpa using hb
  subst e
  exact I1.fpOk (Nat.le_refl _) (I1.hok.fresh (Nat.le_refl _))
noncomputable def nP (lo:Int) (n:Nat):List D:=(List.range n).map λk:Nat=>D.int (lo+(k:Int)*2)
theorem IF {H0:Hp} (lo:Int) (n:Nat):yN X (HF lo n) (nP lo n) H0:=λi H kp=>by
 refine⟨λd e=>?_,λhl=>by show n<=i;simpa [nP] using hl⟩
 unfold nP at e
 rw[List.getElem?_map] at e
 by_cases hi:i<n
 ·rw[List.getElem?_range hi] at e
  cases e
  exact⟨hi,λx H' y=>by obtain⟨rfl,rfl⟩:=y;exact⟨Same.refl _,.int _⟩⟩
 ·rw[List.getElem?_eq_none (by simpa using hi)] at e;cases e
structure StpOk (j:Int):Prop where
 lo:-(2 ^ 60)<=j
 hi:j<2 ^ 60
noncomputable def kR (t:RA):RA:=λρ Q=>t ρ λds=>match ds with
 | [.int i,.int j,.int c]=>(StpOk i/\StpOk j/\c=2)/\Q (nP i ((j-i+1) / 2).toNat)
 | _=>False
noncomputable def NN (ta:TA):TI:=λσ H R=>ta σ H λvs H1=>∃i j:Int,vs=[.int i,.int j,.int 2]/\(-(2 ^ 60)<=i/\i<2 ^ 60/\-(2 ^ 60)<=j/\j<2 ^ 60)/\R (HF i ((j-i+1) / 2).toNat) H1
theorem JF {a b c:Expr} {ta:TA} {p pos:Pos} (hg:Gl X "range") (hm:X.mg "range" = none) (ha:PA X [a,b,c] ta) (hs:starEach [a,b,c] X.env=(false,eval a X.env)::starEach [b,c] X.env) (hs2:(backTo pos (starEach [b,c] X.env)).any (·.1)=false) :
  PI X tg (.Call (.Name "range" p) [a,b,c] [] pos) (NN ta):=by
 intro pins s σ H R I h
 refine Call_ (eC I hg hm boot_range (PyProof.Rows.callWith_type1 (thn (ha pos pins s σ H _ I h) λus s1 ⟨vs,H1,I1,r1,q1⟩=>?_) hs hs2))
 obtain⟨i,j,e,⟨q1,q2,q3,q4⟩,q⟩:=q1
 subst e
 cases r1 with
 | cons r rr =>
  cases rr with
  | cons r' rr =>
   cases rr with
   | cons r'' rr =>
    cases rr
    obtain⟨t,rfl⟩:=r
    obtain⟨t',rfl⟩:=r'
    obtain⟨t'',rfl⟩:=r''
    exact call_range_3 (by decide) (DF I1 q1 q2 q3 q4 q) (Or.inl (BL.noPy (show BL 9000 2 from (by exact Nat.lt_of_lt_of_le (show 2<2 ^ 2 by decide) (Nat.pow_le_pow_right (by decide) (by decide))))))
theorem HU {a b c:Expr} {t:RA} {p pos:Pos} (hm:X.mg "range" = none) (ha:DA X [a,b,c] t) (hg:Gl X "range":=by rfl)
  (hs:starEach [a,b,c] X.env=(false,eval a X.env)::starEach [b,c] X.env:=by rfl) (hs2:(backTo pos (starEach [b,c] X.env)).any (·.1)=false:=by rfl):DI X tg (.Call (.Name "range" p) [a,b,c] [] pos) (kR t):=by
 refine PI.mono (JF hg hm ha hs hs2) λσ H R hh=>bX hh λρ P st q k=>⟨ρ,_,st,q,λds vs H1 hd s1 r=>?_⟩
 split at hd
 ·rename_i i j c
  rw[Reps.ints_inv (ns:=[i,j,c]) r,hd.1.2.2]
  exact⟨i,j,rfl,⟨hd.1.1.lo,hd.1.1.hi,hd.1.2.1.lo,hd.1.2.1.hi⟩,k _ _ H1 hd.2 s1 (IF i _)⟩
 ·exact hd.elim
end
end L2.R2
set_option Elab.async false
set_option linter.all false
set_option maxRecDepth 100000
namespace L2
open PySem PySem.Spec PyProof.Rows
section
variable {κ:Type} [DecidableEq κ]
noncomputable def gP (kvs:List (κ × V)) (k:κ):Option V:=(kvs.find? λkv=>decide (kv.1=k)).map (·.2)
noncomputable def JJ (kvs:List (κ × V)) (k:κ) (v:V):List (κ × V) :=
 if (kvs.any λkv=>decide (kv.1=k))=true then kvs.map (λkv=>if kv.1=k then (kv.1,v) else kv) else kvs++[(k,v)]
theorem fS {p:κ × V} {r:List (κ × V)} {k:κ} (e:p.1=k):gP (p::r) k=some p.2:=by simp[gP,List.find?_cons,e]
theorem eV {p:κ × V} {r:List (κ × V)} {k:κ} (e:¬p.1=k):gP (p::r) k=gP r k:=by simp[gP,List.find?_cons,e]
theorem yI (k:κ):∀kvs:List (κ × V),(kvs.any λkv=>decide (kv.1=k))=(gP kvs k).isSome
 | []=>rfl
 | p::r=>by
  rw[List.any_cons]
  by_cases e:p.1=k
  ·simp only[fS e,decide_eq_true e,Bool.true_or,Option.isSome_some]
  ·rw[eV e,decide_eq_false e,Bool.false_or];exact yI k r
theorem GM {kvs:List (κ × V)} {k:κ} (v:V) (h:gP kvs k=none):JJ kvs k v=kvs++[(k,v)]:=by
 unfold JJ
 rw[yI,h]
 exact if_neg (by decide)
theorem RelO.getD {o:Option V} {u:Option Value} {d:V} {d':Value} (r:RelO o u) (rd:RelV d d'):RelV (o.getD d) (u.getD d'):=by
 cases o with
 | none=>cases u with
  | none=>exact rd
  | some _=>exact (show False from r).elim
 | some _=>cases u with
  | none=>exact (show False from r).elim
  | some _=>exact r
theorem KV.val {kvs:List (κ × V)} {vs:List (κ × Value)} (r:KV kvs vs) (k:κ):RelO (gP kvs k) (valueAt vs k):=by
 unfold KV at r
 induction r with
 | nil=>exact True.intro
 | @cons p q ps qs h t ih =>
  obtain⟨h1,h2⟩:=h
  by_cases e:p.1=k
  ·have e':q.1=k:=h1.symm.trans e
   have b:valueAt (q::qs) k=some q.2:=by simp[valueAt,List.find?_cons,e']
   rw[fS e,b];exact h2
  ·have e':¬q.1=k:=λz=>e (h1.trans z)
   have b:valueAt (q::qs) k=valueAt qs k:=by simp[valueAt,List.find?_cons,e']
   rw[eV e,b];exact ih
theorem KV.any {kvs:List (κ × V)} {vs:List (κ × Value)} (r:KV kvs vs) (k:κ):(kvs.any λkv=>decide (kv.1=k))=vs.any λkv=>decide (kv.1=k):=by
 unfold KV at r
 induction r with
 | nil=>rfl
 | cons h t ih=>rw[List.any_cons,List.any_cons,ih,h.1]
theorem KV.repl {kvs:List (κ × V)} {vs:List (κ × Value)} (r:KV kvs vs) (k:κ) {y:V} {u:Value} (ry:RelV y u) :
  KV (kvs.map λkv=>if kv.1=k then (kv.1,y) else kv) (vs.map λkv=>if kv.1=k then (kv.1,u) else kv):=by
 unfold KV at r ⊢
 induction r with
 | nil=>exact .nil
 | @cons p q ps qs h t ih =>
  rw[List.map_cons,List.map_cons]
  refine .cons ?_ ih
  obtain⟨h1,h2⟩:=h
  by_cases e:p.1=k
  ·rw[if_pos e,if_pos (h1.symm.trans e)];exact⟨h1,ry⟩
  ·rw[if_neg e,if_neg (λz=>e (h1.trans z))];exact⟨h1,h2⟩
theorem KV.put {kvs:List (κ × V)} {vs:List (κ × Value)} (r:KV kvs vs) (k:κ) {y:V} {u:Value} (ry:RelV y u):KV (JJ kvs k y) (stored vs k u):=by
 unfold JJ stored
 rw[r.any k]
 by_cases e:(vs.any λkv=>decide (kv.1=k))=true
 ·rw[if_pos e,if_pos e];exact r.repl k ry
 ·rw[if_neg e,if_neg e];exact Paired.snoc r ⟨rfl,ry⟩
theorem KV.length {kvs:List (κ × V)} {vs:List (κ × Value)} (r:KV kvs vs):kvs.length=vs.length:=Paired.length r
end
theorem FH {P:Program} {w:World} {k:Key} {u:Value} (r:RelV (kV k) u):(cN P w).is k u=true:=by
 cases k with
 | inl i=>obtain⟨t,e⟩:=(show ∃t,u=Value.int i t from r);subst e;exact xE P w i t
 | inr x=>obtain⟨t,e⟩:=(show ∃t,u=Value.str x t from r);subst e;exact xF P w x t
theorem tS {P:Program} {w:World}:∀{ks:List Key} {us:List Value},Vals (ks.map kV) us->ItemsAre (cN P w) ks us
 | [],_,r=>by rw[List.map_nil] at r;cases r;exact .nil
 | k::ks,_,r=>by
  rw[List.map_cons] at r
  cases r with
  | cons h t=>exact .cons (FH h) (tS t)
noncomputable abbrev KT (H:Hp):List (List Key × V)->List (List Key × Addr × Value)->Prop:=Paired λp q=>p.1=q.1/\H q.2.1=some (.tup (p.1.map kV))/\RelV p.2 q.2.2
theorem KT.val {H:Hp} {kvs:List (List Key × V)} {xs:List (List Key × Addr × Value)} (r:KT H kvs xs) (k:List Key):RelO (gP kvs k) ((atKey xs k).map (·.2)):=by
 induction r with
 | nil=>exact True.intro
 | @cons p q ps qs h t ih =>
  obtain⟨h1,_,h2⟩:=h
  by_cases e:p.1=k
  ·have e':q.1=k:=h1.symm.trans e
   have b:atKey (q::qs) k=some q.2:=by simp[atKey,List.find?_cons,e']
   rw[fS e,b];exact h2
  ·have e':¬q.1=k:=λz=>e (h1.trans z)
   have b:atKey (q::qs) k=atKey qs k:=by simp[atKey,List.find?_cons,e']
   rw[eV e,b];exact ih
section
variable {P:Program} {w:World} {H:Hp} {h:Heap} {a:Addr}
theorem KJ {u:HO} (ok:HOk P w H h) (e:Rd H a u):ObjOk P w H h a u:=e.ok ok
theorem AX {kvs:List (Key × V)} (ok:HOk P w H h) (e:Rd H a (.dK kvs)):kvs.length<=sizeLine/\(a == sysModules)=false/\∃vs,KV kvs vs/\h.DictOf (cN P w) a vs :=
 show ObjOk P w H h a (.dK kvs) from KJ ok e
theorem NF {kvs:List (Key × V)} (ok:HOk P w H h) (e:H a=some (.dK kvs)):kvs.length<=sizeLine/\(a == sysModules)=false/\∃vs,KV kvs vs/\h.DictOf (cN P w) a vs:=AX ok (.inl e)
theorem FJ {ks:List Key} (ok:HOk P w H h) (e:H a=some (.tup (ks.map kV))):(tupleKind (cN P w)).is h ks a:=by
 obtain⟨_,its,r,o,h1,h2,n,h3⟩:=(show ObjOk P w H h a (.tup (ks.map kV)) from ok a _ e)
 exact⟨o,its.toArray,n,h1,h2,h3,by simpa using tS r⟩
theorem JW {kvs:List (List Key × V)} (ok:HOk P w H h) (e:Rd H a (.dT kvs)):kvs.length<=sizeLine/\(a == sysModules)=false /\
  ∃xs,KT H kvs xs/\h.DictOfH (tupleKind (cN P w)) a xs:=by
 obtain⟨z,y,xs,r,o,es,ep,h1,h2,h3,h4,h5⟩:=(show ObjOk P w H h a (.dT kvs) from KJ ok e)
 refine⟨z,y,xs,r,o,es,ep,h1,h2,h3,h4,λx hx=>?_,h5⟩
 have all:∀{l:List (List Key × V)} {m:List (List Key × Addr × Value)},KT H l m->∀x∈m,(tupleKind (cN P w)).is h x.1 x.2.1:=by
  intro l m q
  induction q with
  | nil=>intro x hx;exact nomatch hx
  | @cons p q ps qs hq t ih =>
   intro x hx
   rcases List.mem_cons.mp hx with e | hx
   ·subst e
    exact FJ ok (by rw[<-hq.1];exact hq.2.1)
   ·exact ih x hx
 exact all r x hx
end
noncomputable def KK (H:Hp) (a:Addr) (y:V) (r:Option V):Prop :=
 (∃kvs k,Rd H a (.dK kvs)/\y=kV k/\r=gP kvs k)\/∃kvs k b,Rd H a (.dT kvs)/\y = .ref b/\H b=some (.tup (k.map kV))/\r=gP kvs k
section
variable {X:Cx} {pins:List (Addr × Obj)} {σ:St} {H:Hp} {s:Shared} {a:Addr} {y v:V} {u r:Value} {o:Option V} {A:Around} {E:Value->Shared->Prop}
theorem Inv.big (I:Inv X pins σ H s):sysModules<s.heap.objs.size:=by
 have h:mainGlobals<s.heap.objs.size:=(I.mod.glob.keeps I.bk).lt
 exact Nat.lt_trans (by decide) h
theorem BX {Q:Value->Shared->Prop} (hu:A.units+1<cLine) (I:Inv X pins σ H s) (g:KK H a y (some v)) (ry:RelV y u) (h:∀w' s',Inv X pins σ H s'->RelV v w'->Q w' s') :
  wpAny (model X.prog X.w) A (getItem (.ref a) u) Q E s:=by
 rcases g with ⟨kvs,k,e,ey,l⟩ | ⟨kvs,k,b,e,ey,eb,l⟩
 ·subst ey
  obtain⟨z,hd,vs,rel,dd⟩:=AX I.hok e
  obtain⟨w',hw,rw'⟩:=RelO.some_of (v:=v) (o:=valueAt vs k) (by rw[l];exact rel.val k)
  exact wpAny_getItem_of (FH ry) dd.mapOf hw (h w' _ (I.tok _) rw')
 ·subst ey
  cases (show u=Value.ref b from ry)
  obtain⟨z,hd,xs,rel,dd⟩:=JW I.hok e
  obtain⟨w',hw,rw'⟩:=RelO.some_of (v:=v) (o:=(atKey xs k).map (·.2)) (by rw[l];exact rel.val k)
  obtain⟨p,hp,hp2⟩:=Option.map_eq_some_iff.mp hw
  refine wpAny_getItem_heap (tupleKind_room_in1 hu) (FJ I.hok eb) dd hp ?_
  rw[hp2]
  exact h w' _ (I.tok _) rw'
theorem HQ {h':Heap} {t':Nat} {ob:HO} (I:Inv X pins σ H s) (mu:Mut (H a)) (hs:Heap.SameBut a s.heap h') (he:∃q,h'.get? a=some q) (new:ObjOk X.prog X.w (upd H a ob) h' a ob) :
  Inv X pins σ (upd H a ob) { s with heap:=h',toks:=t' } :=
 I.write (x:=a) (e:=a) mu (.inl rfl) (λb q hb z=>(hs.2 b hb).trans z) he new
theorem LA {P:Program} {w:World} {H':Hp} {h':Heap} {kvs:List (Key × V)} {vs:List (Key × Value)} (z:kvs.length<=sizeLine) (hd:(a == sysModules)=false) (rel:KV kvs vs) (dd:h'.DictOf (cN P w) a vs) :
  ObjOk P w H' h' a (.dK kvs):=⟨z,hd,vs,rel,dd⟩
end
section
variable {X:Cx} {pins:List (Addr × Obj)} {σ:St} {H:Hp} {s:Shared} {a:Addr} {kvs:List (Key × V)} {k:Key} {u:Value} {A:Around} {E:Value->Shared->Prop}
end
noncomputable def KM (i:Expr):Prop:=∀ov iv,subscripted i false ov iv=operate [ov,iv] (getItem ov iv)
theorem JO {prog:Program} {w:World} {A:Around} {E:Value->Shared->Prop} {s:Shared} {env:Env} {value slice:Expr} {pos:Pos} {T id:String} {Q:Value->Shared->Prop}
  (hl:typeLookup (.type T) "__getitem__" = pure (some (.builtin id))) (hs:KM slice)
  (h:wpAny (model prog w) A (eval value env) (λo s₁=>wpAny (model prog w) A (eval slice env) (λi s₂=>s₂.TypeIs o T/\wpAny (model prog w) A (getItem o i) Q E s₂) E s₁) E s) :
  wpAny (model prog w) A (eval (.Subscript value slice pos) env) Q E s:=by
 refine Subscript_ (wpAny_mono h (λo s₁ h₁=>wpAny_mono h₁ (λi s₂ h₂=>?_) λ_ _ x=>x) λ_ _ x=>x)
 obtain⟨hT,h₂⟩:=h₂
 unfold subscriptTail
 refine wpAny_bind ?_
 rw[getitemInPython_of_ne hT.not_modules]
 refine wpAny_bind (wpAny_specialOf hT hl ?_)
 have fin:wpAny (model prog w) A (subscripted slice false o i) (λr s₃=>wpAny (model prog w) A (letTemporaryGo value o r >>= λ_=>pure r) Q E s₃) E s₂:=by
  rw[hs o i]
  exact wpAny_operating (wpAny_mono h₂ (λr s₃ h₃=>wpAny_bind (wpAny_letTemporaryGo (wpAny_pure h₃))) λ_ _ x=>x)
 first
  | exact wpAny_pure (wpAny_bind fin)
  | exact wpAny_bind (wpAny_pure (wpAny_bind fin))
  | exact wpAny_bind fin
theorem wO {X:Cx} {pins:List (Addr × Obj)} {σ:St} {H:Hp} {s:Shared} {a:Addr} {y:V} {o:Option V} (I:Inv X pins σ H s) (g:KK H a y o):s.TypeIs (.ref a) "dict":=by
 rcases g with ⟨kvs,k,e,_,_⟩ | ⟨kvs,k,b,e,_,_,_⟩
 ·obtain⟨_,_,vs,_,dd⟩:=AX I.hok e
  exact dd.typeIs
 ·obtain⟨_,_,xs,_,dd⟩:=JW I.hok e
  exact dd.typeIs
noncomputable def OO (td ty:TE):TE:=λσ H Q=>td σ H λx H1=>ty σ H1 λy H2=>∃a v,x = .ref a/\KK H2 a y (some v)/\Q v H2
section
variable {X:Cx} {o i e value:Expr} {pos pos' tpos:Pos} {td ty tv:TE}
theorem JB (hu:X.A.units+1<cLine) (ho:PE X o td) (hi:PE X i ty) (hs:KM i):PE X (.Subscript o i pos) (OO td ty):=by
 intro pins s σ H Q I h
 refine JO PySem.F.slot_dict_getitem.lookup hs (thn (ho pins s σ H _ I h) λu s1 ⟨x,H1,I1,rx,q1⟩=>thn (hi pins s1 σ H1 _ I1 q1) λiv s2 ⟨y,H2,I2,ry,a,v,ex,g,q2⟩=>?_)
 subst ex
 obtain rfl:u=Value.ref a:=rx
 exact⟨wO I2 g,BX hu I2 g ry λw' s3 I3 rw'=>⟨v,H2,I3,rw',q2⟩⟩
end
theorem EU {P:Program} {w:World} {H:Hp} (h:Heap) (hb:sysModules<h.objs.size):ObjOk P w H (h.push { cls:=.type "dict",data:=.dict #[] }) h.objs.size (.dK []) :=
 ⟨Nat.zero_le _,beq_eq_false_iff_ne.mpr (Ne.symm (Nat.ne_of_lt hb)),[],.nil,Heap.DictOf.new h⟩
noncomputable def MS:TE:=λ_ H Q=>∀p,H p=none->Q (.ref p) (upd H p (.dK []))
section
variable {X:Cx} {pos:Pos}
theorem GC:PE X (.Dict [] [] pos) MS:=λpins s σ H Q I h =>
 wpAny_Dict_empty ⟨.ref s.heap.objs.size,_,I.laid (a:=s.heap.objs.size) (o:=.dK []) (t':=s.toks) (λ_ _ q=>Heap.get?_push_of_some _ q) (Nat.le_refl _) (EU s.heap I.big),rfl,h _ (I.hok.fresh (Nat.le_refl _))⟩
end
noncomputable abbrev VV:List (V × V)->List (Value × Value)->Prop:=Paired λp q=>RelV p.1 q.1/\RelV p.2 q.2
section
variable {X:Cx} {pins:List (Addr × Obj)} {σ:St} {H:Hp} {s:Shared} {a:Addr} {y d:V} {u r:Value} {o:Option V} {A:Around} {E:Value->Shared->Prop}
end
section
variable {X:Cx} {o e f:Expr} {apos cpos:Pos} {td ty tx:TE}
end
section
variable {X:Cx} {pins:List (Addr × Obj)} {σ:St} {H:Hp} {s:Shared} {a:Addr} {kvs:List (Key × V)} {A:Around} {E:Value->Shared->Prop}
end
section
variable {X:Cx} {pins:List (Addr × Obj)} {σ:St} {H:Hp} {s:Shared} {a:Addr} {y:V} {u:Value} {A:Around} {E:Value->Shared->Prop}
end
end L2
set_option Elab.async false
set_option linter.all false
set_option maxRecDepth 100000
namespace L2.R2
open PySem PySem.Spec PyProof.Rows L2
noncomputable def JL:V->List V->Hp->VK->Prop:=λx vs H Q=>∃a kvs k y,x = .ref a/\vs=[kV k,y]/\H a=some (.dK kvs)/\kvs.length<sizeLine /\
 (∀v,gP kvs k=some v->Q v H)/\(gP kvs k=none->Q y (upd H a (.dK (kvs++[(k,y)]))))
section
variable {X:Cx}
theorem CQ:MtR X "dict.setdefault" JL:=by
 intro pins s σ H x vs v us Q I rx rv h
 obtain⟨a,kvs,k,y,rfl,rfl,hH,hz,h1,h2⟩:=h
 cases rx
 obtain⟨u,w,rfl,ru,rw'⟩:=rv.two
 obtain⟨z,hd,ws,rel,dd⟩:=NF I.hok hH
 have val:=rel.val k
 refine call_meetsIn PySem.F.slot_dict_setdefault dd.typeIs PySem.F.entry_dict_setdefault (PySem.F.args_dict_setdefault_3 _ _ _) (kt_meets_setdefault (cN X.prog X.w) a (FH ru) hd w)
  ⟨ws,dd,by rw[<-rel.length];exact z,λv hv=>?_,λhn h' dd' hs=>?_⟩
 ·rw[hv] at val
  cases e:gP kvs k with
  | none=>rw[e] at val;exact (show False from val).elim
  | some v'=>rw[e] at val;exact⟨v',H,I.tok _,val,h1 v' e⟩
 ·rw[hn] at val
  cases e:gP kvs k with
  | some _=>rw[e] at val;exact (show False from val).elim
  | none =>
   have he:∃q,h'.get? a=some q:=let ⟨q,_,_,hq,_⟩:=dd';⟨q,hq⟩
   have r2:=rel.put k rw'
   rw[GM y e] at r2
   exact⟨y,_,HQ I (by rw[hH];exact True.intro) hs he (LA (by rw[List.length_append];exact hz) hd r2 dd'),rw',h2 e⟩
end
noncomputable def jY:List (Int × List D)->Int->List (Int × List D)
 | [],k=>[(k,[])]
 | (k',ds)::r,k=>if k'=k then (k',ds)::r else (k',ds)::jY r k
noncomputable def fP:List (Int × List D)->Int->D->List (Int × List D)
 | [],k,d=>[(k,[d])]
 | (k',ds)::r,k,d=>if k'=k then (k',ds++[d])::r else (k',ds)::fP r k d
section
variable {K:PySem.W.Frag} {H₀ H H':Hp} {kvs:List (Int × List D)} {kws:List (Key × V)} {as:List Addr} {k:Int}
theorem zX {v:V} (t:Dcl K H₀ H kvs kws as) (e:gP kws (Sum.inl k)=some v):jY kvs k=kvs:=by
 induction t with
 | nil=>cases e
 | @cons k' b vs ds kvs kws as h h0 r n t ih =>
  unfold jY
  by_cases hk:k'=k
  ·rw[if_pos hk]
  ·rw[if_neg hk,ih (by rw[eV (λz=>hk (by cases z;rfl))] at e;exact e)]
theorem Dcl.there {v:V} (t:Dcl K H₀ H kvs kws as) (e:gP kws (Sum.inl k)=some v):∃b vs ds,v = .ref b/\b∈as/\H b=some (.lst vs)/\Reps K H ds vs/\(∃p∈kvs,p.2=ds) /\
  ∀(H':Hp) (d:D) (w:V),Keep H H'->H' b=some (.lst (vs++[w]))->(∀a o,a∈as->a≠b->H a=some o->H' a=some o)->Rep K H' d w->Dcl K H₀ H' (fP kvs k d) kws as:=by
 induction t with
 | nil=>cases e
 | @cons k' b vs ds kvs kws as h h0 r n t ih =>
  by_cases hk:k'=k
  ·subst hk
   rw[fS rfl] at e
   cases e
   refine⟨b,vs,ds,rfl,.head _,h,r,⟨_,.head _,rfl⟩,λH' d w kp hb ho rd=>?_⟩
   unfold fP
   rw[if_pos rfl]
   exact .cons hb h0 ((r.keep kp).append (.cons rd .nil)) n (t.keep kp λa m o e=>ho a o (.tail _ m) (by rintro rfl;exact n m) e)
  ·rw[eV (λz=>hk (by cases z;rfl))] at e
   obtain⟨c,us,es,e1,m,g1,g2,⟨p,pm,pe⟩,g3⟩:=ih e
   refine⟨c,us,es,e1,.tail _ m,g1,g2,⟨p,.tail _ pm,pe⟩,λH' d w kp hb ho rd=>?_⟩
   unfold fP
   rw[if_neg hk]
   exact .cons (ho b _ (.head _) (by rintro rfl;exact n m) h) h0 (r.keep kp) n (g3 H' d w kp hb (λa o q=>ho a o (.tail _ q)) rd)
theorem Dcl.fresh {p:Addr} (t:Dcl K H₀ H kvs kws as) (e:gP kws (Sum.inl k)=none) (kp:Keep H H') (ho:∀a o,a∈as->H a=some o->H' a=some o) (hp:H' p=some (.lst [])) (h0:H₀ p=none) (np:p ∉ as) :
  Dcl K H₀ H' (jY kvs k) (kws++[(Sum.inl k,.ref p)]) (as++[p]):=by
 induction t with
 | nil=>exact .cons hp h0 .nil (by simp) .nil
 | @cons k' b vs ds kvs kws as h h1 r n t ih =>
  have hk:¬k'=k:=λz=>by rw[fS (by rw[z])] at e;cases e
  rw[eV (λz=>hk (by cases z;rfl))] at e
  unfold jY
  rw[if_neg hk]
  rw[List.mem_cons,not_or] at np
  exact .cons (ho b _ (.head _) h) h1 (r.keep kp) (λz=>(List.mem_append.mp (show b∈as++[p] from z)).elim n λz=>np.1 (List.mem_singleton.mp z).symm) (ih e (λa o q=>ho a o (.tail _ q)) np.2)
theorem EA {p:V} (t:Dcl K H₀ H kvs kws as) (e:gP kws (Sum.inl k)=none):gP (kws++[(Sum.inl k,p)]) (Sum.inl k)=some p:=by
 induction t with
 | nil=>exact fS rfl
 | @cons k' b vs ds kvs kws as h h1 r n t ih =>
  have hk:¬(Sum.inl k':Key)=Sum.inl k:=λz=>by rw[fS z] at e;cases e
  rw[eV hk] at e
  rw[List.cons_append,eV hk]
  exact ih e
theorem GN:∀(kvs:List (Int × List D)) (k:Int) (d:D),fP (jY kvs k) k d=fP kvs k d
 | [],k,d=>by simp[jY,fP]
 | (k',ds)::r,k,d=>by
  unfold jY
  by_cases hk:k'=k
  ·rw[if_pos hk]
  ·rw[if_neg hk];simp only[fP,if_neg hk];rw[GN r k d]
theorem xO:∀(kvs:List (Int × List D)) (k:Int) {p:Int × List D},p∈jY kvs k->p∈kvs\/p.2=[]
 | [],k,p,h=>by rw[jY,List.mem_singleton] at h;subst h;exact .inr rfl
 | (k',ds)::r,k,p,h=>by
  unfold jY at h
  by_cases hk:k'=k
  ·rw[if_pos hk] at h;exact .inl h
  ·rw[if_neg hk] at h
   rcases List.mem_cons.mp h with h | h
   ·exact .inl (h ▸ .head _)
   ·exact (xO r k h).imp (.tail _) id
theorem Dcl.len (t:Dcl K H₀ H kvs kws as):kvs.length=kws.length:=by
 induction t with
 | nil=>rfl
 | cons _ _ _ _ _ ih=>simp[ih]
end
section
variable {X:Cx} {e k:Expr} {pos pos' p apos cpos npos spos dpos lpos:Pos} {te tk:RE} {x:Str}
noncomputable def xS (i:Nat):RS:=λE ρ=>E.nx (ρ.set i (some (.dcl [])))
theorem HY {i:Nat} (hN:X.N.Nodup) (hi:X.N[i]? = some x:=by rfl) (hx:Loc X.env.scope x:=by walk_at "vis") (hs:swapsWith (.Dict [] [] p) (some (.Name x pos')) pos.line X.env=pure false:=by rfl)
  (hf:X.fn x=true\/X.env.scope.names.lookup x=some .local:=by walk_at "loc"):DS X (.Assign [.Name x pos'] (.Dict [] [] p) pos) (xS i) :=
 PS.mono (zV hN hi hx GC hs hf) λDe σ H hh=>eI hh λρ E st q n r b c=>λa ha=>by
  have sm:Same H (upd H a (.dK [])):=λb o h=>by rw[aI (aQ h ha)];exact h
  refine n _ _ _ q (.of sm) (st.put sm ⟨a,[],[],rfl,aX,st.same.free ha,.nil⟩ λc o=>?_)
  obtain⟨p,kws,e1,e2,e3⟩:=o
  cases e1
  rw[aX] at e2;cases e2
  rcases e3 with rfl | ⟨_,z⟩
  ·exact ha
  ·cases z
noncomputable def xR (i:Nat) (tk te:RE):RS:=λE ρ=>match ρ[i]? with
 | some (some (.dcl kvs))=>tk ρ λkd=>match kd with
  | .int k=>Sz (kvs.length+1)/\te (ρ.set i (some (.dcl (jY kvs k)))) λd=>(∀p∈kvs,Sz (p.2.length+1))/\E.nx (ρ.set i (some (.dcl (fP kvs k d))))
  | _=>False
 | _=>False
theorem HX (i:Nat) (hk:DE X k tk) (he:DE X e te) (hN:X.N[i]? = some x:=by rfl) (hv:Vis X.env.scope x:=by walk_at "vis") (hd:(x == ("__debug__":Str))=false:=by decide) (hcd:(x == ("__classdict__":Str))=false:=by decide)
  (hbase:attributeBase (.Name x npos) "setdefault" X.env (eval (.Name x npos) X.env)=eval (.Name x npos) X.env:=by rfl)
  (hfew:((backTo dpos (starEach [k,.List [] lpos] X.env)).all (λx=>!x.1) && (backToKw dpos (keywordEach [] X.env)).all (λx=>x.1.isSome) && decide (([k,.List [] lpos]:List Expr).length+([]:List Keyword).length+(if ([]:List Keyword).isEmpty then 0 else 1)<30))=true:=by rfl)
  (hline:(spos.endLine == dpos.line)=true:=by rfl) (hs1:starEach [k,.List [] lpos] X.env=(false,eval k X.env)::starEach [.List [] lpos] X.env:=by rfl) (hs2:starEach [.List [] lpos] X.env=(false,eval (.List [] lpos) X.env)::starEach [] X.env:=by rfl)
  (hpl:(backTo dpos (starEach [.List [] lpos] X.env)).any (·.1)=false:=by rfl)
  (hbase':attributeBase (.Call (.Attribute (.Name x npos) "setdefault" spos) [k,.List [] lpos] [] dpos) "append" X.env (eval (.Call (.Attribute (.Name x npos) "setdefault" spos) [k,.List [] lpos] [] dpos) X.env)=eval (.Call (.Attribute (.Name x npos) "setdefault" spos) [k,.List [] lpos] [] dpos) X.env:=by rfl)
  (hfew':((backTo cpos (starEach [e] X.env)).all (λx=>!x.1) && (backToKw cpos (keywordEach [] X.env)).all (λx=>x.1.isSome) && decide (([e]:List Expr).length+([]:List Keyword).length+(if ([]:List Keyword).isEmpty then 0 else 1)<30))=true:=by rfl)
  (hline':(apos.endLine == cpos.line)=true:=by rfl) (hs:starEach [e] X.env=[(false,eval e X.env)]:=by rfl) (hn:starEach [] X.env=[]:=by rfl)
  (hsw:swapsWith (.Call (.Attribute (.Call (.Attribute (.Name x npos) "setdefault" spos) [k,.List [] lpos] [] dpos) "append" apos) [e] [] cpos) none pos.line X.env=pure false:=by rfl) :
  DS X (.Expr (.Call (.Attribute (.Call (.Attribute (.Name x npos) "setdefault" spos) [k,.List [] lpos] [] dpos) "append" apos) [e] [] cpos) pos) (xR i tk te):=by
 have inner:=BE (apos:=spos) (cpos:=dpos) PySem.F.plainAttrs_dict PySem.F.slot_dict_setdefault PySem.F.type_dict_setdefault CQ (pv (pos:=npos) i hN hv hd hcd) (gY hk (gY (GD (pos:=lpos) oJ) oJ hs2) hs1) hbase hfew hline hs1 hpl
 refine PS.mono (vN (BE PySem.F.plainAttrs_list PySem.F.slot_list_append PySem.F.type_list_append tX inner (iC he hs hn) hbase' hfew' hline' (by rw[hs,hn]) (by rw[hn];rfl)) hsw) λDe σ H hh=>eI hh λρ E so q n r bk ct=>?_
 unfold xR at q
 split at q
 ·rename_i kvs ex
  obtain⟨v,h1,a,kws,as,ev,ha,h0,t⟩:=so.rel i _ ex
  subst ev
  refine⟨.ref a,h1,.inr (.inr (.inl ⟨rfl,.inl ⟨kws,ha⟩⟩)),ρ,_,so,q,λkd kv H1 hkd s1 rk=>?_⟩
  cases kd with
  | int k =>
   obtain⟨z1,q1⟩:=hkd
   have z1:kvs.length+1<=sizeLine:=z1.ok
   rw[rk.int_inv]
   have so1:=so.ext s1
   have ha1:=s1 _ _ ha
   have t1:Dcl X.K X.H₀ H1 kvs kws as:=t.keep (.of s1) λc _ o=>s1 c o
   refine⟨Nat.zero_le _,λp hp=>?_⟩
   have sm2:Same H1 (upd H1 p (.lst [])):=λb o h=>by rw[aI (aQ h hp)];exact h
   have kl:=t1.len
   have go:∀(b:Addr) (H2:Hp) (kws2:List (Key × V)),StOk X (ρ.set i (some (.dcl (jY kvs k)))) σ H2->H2 a=some (.dK kws2)->gP kws2 (Sum.inl k)=some (.ref b)->Keep H H2 ->
     tyV X.K "list" (.ref b) H2/\FS X te σ H2 λw H3=>BJ (.ref b) [w] H3 λ_ H4=>De.nx σ H4:=λb H2 kws2 so2 ha2 hv2 kp2=>by
    have e2:(ρ.set i (some (.dcl (jY kvs k))))[i]? = some (some (.dcl (jY kvs k))):=List.getElem?_set_self (List.getElem?_eq_some_iff.mp ex).1
    obtain⟨v2,g1,a',kws',as2,ev2,ha',g0,t2⟩:=so2.rel i _ e2
    rw[h1] at g1;cases g1;cases ev2
    rw[ha2] at ha';cases ha'
    obtain⟨b',us,ds',eb,_,hb,_,_,_⟩:=t2.there hv2
    cases eb
    refine⟨.inl ⟨rfl,us,SqL.of hb⟩,_,_,so2,q1,λd w H3 ⟨z2,hd⟩ s3 rd=>?_⟩
    have t3:Dcl X.K X.H₀ H3 (jY kvs k) kws2 as2:=t2.keep (.of s3) λc _ o=>s3 c o
    obtain⟨b',us3,ds3,eb,mb,hb3,rb3,⟨pp,pm,pe⟩,fin⟩:=t3.there hv2
    cases eb
    have ha3:=s3 _ _ ha2
    have ne:a≠b:=by rintro rfl;rw[ha3] at hb3;cases hb3
    have sz:us3.length<sizeLine:=by
     rw[<-rb3.length,<-pe]
     rcases xO kvs k pm with h | h
     ·exact (z2 pp h).ok
     ·rw[h];exact Nat.lt_of_lt_of_le (Nat.succ_pos _) z1
    refine⟨b,us3,w,rfl,rfl,hb3,sz,?_⟩
    have kpU:Keep H3 (upd H3 b (.lst (us3++[w]))):=⟨λc ys h=>by rw[aI (jP h hb3 (by intro z;cases z))];exact h,λc o u h=>by rw[aI (jP h hb3 (by intro z;cases z))];exact h⟩
    have ow:∀c,Ow H3 (.dcl (jY kvs k)) (.ref a) c↔(c=a\/∃k,(k,V.ref c)∈kws2):=λc=>⟨λ⟨p',kw',e1,e2,e3⟩=>by cases e1;rw[ha3] at e2;cases e2;exact e3,λh=>⟨a,kws2,rfl,ha3,h⟩⟩
    have haU:upd H3 b (.lst (us3++[w])) a=some (.dK kws2):=by rw[aI ne];exact ha3
    obtain⟨so4,k4⟩:=(so2.ext s3).updW (x':=.dcl (fP kvs k d)) (v':=.ref a) e2 h1 (H':=upd H3 b (.lst (us3++[w])))
     (λc o h w'=>by rw[aI (by rintro rfl;exact w' ((ow _).mpr (.inr (t3.mem.mp mb))))];exact h)
     ⟨a,kws2,as2,rfl,haU,h0,by
      rw[<-GN]
      exact fin _ d w kpU aX (λc o _ nc h=>by rw[aI nc];exact h) (rd.keep kpU)⟩
     (λc o=>.inl ((ow c).mpr (by
      obtain⟨p',kw',e1,e2,e3⟩:=o
      cases e1;rw[haU] at e2;cases e2;exact e3)))
    rw[fR h1,List.set_set] at so4
    exact n _ _ _ hd ((kp2.trans (.of s3)).trans k4) so4
   refine⟨a,kws,Sum.inl k,.ref p,rfl,rfl,sm2 _ _ ha1,by omega,λv hv=>?_,λhv=>?_⟩
   ·obtain⟨b,_,_,eb,_⟩:=t1.there hv
    subst eb
    refine go b _ kws ?_ (sm2 _ _ ha1) hv (.of (s1.trans sm2))
    rw[zX t1 hv,fR ex]
    exact so1.ext sm2
   ·have pa:p≠a:=by rintro rfl;rw[hp] at ha1;cases ha1
    have np:p ∉ as:=λm=>by obtain⟨_,us,q'⟩:=t1.at m;rw[hp] at q';cases q'
    have ow:∀c,Ow H1 (.dcl kvs) (.ref a) c↔(c=a\/∃k,(k,V.ref c)∈kws):=λc=>⟨λ⟨p',kw',e1,e2,e3⟩=>by cases e1;rw[ha1] at e2;cases e2;exact e3,λh=>⟨a,kws,rfl,ha1,h⟩⟩
    have st1:∀c o,c≠a->H1 c=some o->upd (upd H1 p (.lst [])) a (.dK (kws++[(Sum.inl k,.ref p)])) c=some o:=λc o nc h=>by rw[aI nc];exact sm2 c o h
    have kpU:Keep H1 (upd (upd H1 p (.lst [])) a (.dK (kws++[(Sum.inl k,.ref p)]))):=⟨λc ys h=>st1 c _ (by rintro rfl;rw[ha1] at h;cases h) h,λc o u h=>st1 c _ (by rintro rfl;rw[ha1] at h;cases h) h⟩
    obtain⟨so2,k2⟩:=so1.updW (x':=.dcl (jY kvs k)) (v':=.ref a) ex h1 (H':=upd (upd H1 p (.lst [])) a (.dK (kws++[(Sum.inl k,.ref p)])))
     (λc o h w'=>st1 c o (by rintro rfl;exact w' ((ow _).mpr (.inl rfl))) h)
     ⟨a,_,_,rfl,aX,h0,t1.fresh hv kpU (λc o m h=>st1 c o (by rintro rfl;obtain⟨_,us,q'⟩:=t1.at m;rw[ha1] at q';cases q') h) (by rw[aI pa];exact aX) (so1.same.free hp) np⟩
     (λc o=>by
      obtain⟨p',kw',e1,e2,e3⟩:=o
      cases e1;rw[aX] at e2;cases e2
      rcases e3 with rfl | ⟨k',m⟩
      ·exact .inl ((ow _).mpr (.inl rfl))
      ·rcases List.mem_append.mp m with m | m
       ·exact .inl ((ow _).mpr (.inr ⟨k',m⟩))
       ·rw[List.mem_singleton] at m;cases m;exact .inr hp)
    rw[fR h1] at so2
    exact go p _ _ so2 aX (EA t1 hv) ((Keep.of s1).trans k2)
  | _=>exact hkd.elim
 ·exact q.elim
noncomputable def mW:List Int->List D->Int->Option D
 | k'::ks,d::ds,k=>if k'=k then some d else mW ks ds k
 | _,_,_=>none
noncomputable def BV:R22:=λx y Q=>match x,y with
 | .dct ks ds,.int k=>∃d,mW ks ds k=some d/\Q d
 | _,_=>False
theorem EM {K:PySem.W.Frag} {H:Hp} {k:Int}:∀{ks:List Int} {ds:List D} {vs:List V} {d:D},Reps K H ds vs->mW ks ds k=some d->∃v,gP (tU ks vs) (Sum.inl k)=some v/\Rep K H d v
 | [],_,_,_,_,e=>by simp[mW] at e
 | k'::ks,_,_,_,.nil,e=>by simp[mW] at e
 | k'::ks,_,_,d,.cons (v:=v) (vs:=vs) h t,e=>by
  unfold mW at e
  by_cases hk:k'=k
  ·rw[if_pos hk] at e;cases e
   exact⟨v,fS (by rw[hk]),h⟩
  ·rw[if_neg hk] at e
   obtain⟨u,g1,g2⟩:=EM t e
   exact⟨u,by show gP ((Sum.inl k',v)::tU ks vs) _=_;rw[eV (λz=>hk (by cases z;rfl))];exact g1,g2⟩
theorem KW {kk:Nat} {a b:Expr} {ta tb:RE} (hr:Room kk X.A) (ha:DE X a ta) (hb:DE X b tb) (hs:KM b:=by intro _ _;rfl):DE X (.Subscript a b pos) (r2 BV ta tb):=by
 refine PE.mono (JB (by have:=hr.un;omega) ha hb hs) λσ H Q h=>?_
 obtain⟨ρ,P,st,ht,hP⟩:=h
 refine⟨ρ,_,st,ht,λx v H1 h1 s1 r1=>⟨ρ,_,st.ext s1,h1,λy u H2 h2 s2 r2=>?_⟩⟩
 unfold BV at h2
 split at h2
 ·rename_i ks ds k
  obtain⟨d,e,h2⟩:=h2
  rw[r2.int_inv]
  have r1':=Rep.keep (.of s2) r1
  cases r1' with
  | @dct a vs _ _ o hh hl rr =>
   obtain⟨w,g1,g2⟩:=EM rr e
   exact⟨a,w,rfl,.inl ⟨_,Sum.inl k,.inr ⟨o,hh⟩,rfl,g1.symm⟩,hP d w H2 h2 (s1.trans s2) g2⟩
 ·exact h2.elim
end
end L2.R2
set_option Elab.async false
set_option linter.all false
set_option maxRecDepth 100000
set_option maxHeartbeats 1000000
namespace L2.R2
open PySem PySem.Spec PyProof.Rows L2 PySem.W
theorem iW:∀{ns:List Int} {us:List Value},IntsAre us ns->Vals (ns.map V.int) us
 | [],[],_=>.nil
 | n::ns,u::us,h=>by
  cases h with
  | cons _ t h=>exact .cons ⟨_,rfl⟩ (iW h)
theorem CK (ks:List Int) (vs:List V):(tU ks vs).length=min ks.length vs.length:=List.length_zipWith
theorem uL {P:Program} {w:World}:∀(ks:List Int) (vs:List V) (ws:List (Key × Value)),ks.length=vs.length->KV (tU ks vs) ws->∀us:List Value,us.length=ks.length ->
  (∀(j:Nat) (v:Value),us[j]? = some v->∃k x,ws[j]? = some (k,x)/\(cN P w).is k v=true)->Vals (ks.map V.int) us
 | [],_,_,_,_,us,h,_=>by rw[List.length_eq_zero_iff.mp h];exact .nil
 | k::ks,[],_,h,_,_,_,_=>by cases h
 | k::ks,v::vs,ws,hl,r,us,h,q=>by
  cases us with
  | nil=>cases h
  | cons u us =>
   cases r with
   | @cons _ b _ bs h1 t =>
    refine .cons ?_ (uL ks vs bs (by simpa using hl) t us (by simpa using h) λj v e=>q (j+1) v (by simpa using e))
    obtain⟨k',x,e,i⟩:=q 0 u rfl
    cases e
    rw[<-show (Sum.inl k:Key)=k' from h1.1] at i
    rcases cA (show rJ (Sum.inl k) u=true from i) with ⟨i',t',e1,e2⟩ | ⟨y,t',e1,e2⟩
    ·cases e1;exact⟨t',e2⟩
    ·cases e1
noncomputable def sD (te:RE):RA:=λρ Q=>te ρ λx=>∃ns:List Int,x = .lst (ns.map .int)/\ns.length<64/\∀ms:List Int,ms.Perm ns->ms.Pairwise (·<=·)->Q (ms.map .int)
noncomputable def vO (te:RE):RA:=λρ Q=>te ρ λx=>∃nss:List (List Int),x = .lst (nss.map gR)/\nss.length<64/\(∀ns∈nss,ns≠[])/\∀mss:List (List Int),mss.Perm nss->mss.Pairwise (λx y=>dP y x=false)->Q (mss.map gR)
noncomputable def sA (te:RE):RA:=λρ Q=>te ρ λx=>∃(ks:List Int) (ds:List D),x = .dct ks ds/\ks.length=ds.length/\Q (ks.map .int)
section
variable {X:Cx} {e:Expr} {te:RE} {p pos:Pos}
theorem EX (hms:X.mg "sorted" = none) (h:DB X e te) (hgs:Gl X "sorted":=by rfl) (hs:starEach [e] X.env=[(false,eval e X.env)]:=by rfl) (hn:starEach [] X.env=[]:=by rfl) :
  DO X (.Call (.Name "sorted" p) [e] [] pos) (sD te):=by
 intro pins s σ H Q I hh_0
 obtain⟨ρ,P,st,q,kq⟩:=hh_0
 refine wpAny_Call_Name_kw (eC I hgs hms oV ?_)
 refine PyProof.Rows.callWith_builtin1 (thn (iC h hs hn pos pins s σ H (λvs H1=>∃(ns:List Int) (v:V),vs=[v]/\Same H H1/\RepB X.K H1 (.lst (ns.map .int)) v/\ns.length<64/\∀ms:List Int,ms.Perm ns->ms.Pairwise (·<=·)->P (ms.map .int)) I
  ⟨ρ,_,st,q,λx v H1 hx s1 r1=>?_⟩) λus s1 ⟨vs,H1,I1,r1,q1⟩=>?_) (by rw[hs,hn]) (by rw[hn];rfl)
 ·obtain⟨ns,rfl,a1,a2⟩:=hx
  exact⟨ns,v,rfl,s1,r1,a1,a2⟩
 obtain⟨ns,v,rfl,s01,rb,h64,hP⟩:=q1
 obtain⟨l,vs,rfl,hq,rr⟩:=rb.lst
 obtain⟨u,rfl,rx⟩:=kW r1
 cases rx
 obtain⟨its,rv,pl,hz⟩:=I1.list hq
 have l2:=rv.length
 rw[rr.ints_inv] at rv l2
 rw[List.length_map] at l2
 refine sorted_ints pl.isList (zB rv) (by omega) λout ms a1 a2 a3=>?_
 obtain⟨c,he⟩:=sortedAll_at s1.heap its out
 have VV:=iW a1
 have lw:ms.length=ns.length:=a2.length_eq
 have I4:=I1.laid (a:=s1.heap.objs.size+1) (o:=.lst (ms.map V.int)) (h':=sortedAll s1.heap its out) (t':=s1.toks) (λb o=>sortedAll_old) (Nat.le_succ _) ⟨by rw[List.length_map,sizeLine_eq];omega,out.toList,c,VV,by simpa using he⟩
 exact⟨.ref (s1.heap.objs.size+1),_,I4,rfl,kq _ _ _ H1 (hP ms a2 a3) s01 (I1.hok.fresh (Nat.le_succ _)) Reps.ints⟩
theorem EY (hms:X.mg "sorted" = none) (h:DB X e te) (hgs:Gl X "sorted":=by rfl) (hs:starEach [e] X.env=[(false,eval e X.env)]:=by rfl) (hn:starEach [] X.env=[]:=by rfl) :
  DO X (.Call (.Name "sorted" p) [e] [] pos) (vO te):=by
 intro pins s σ H Q I hh_0
 obtain⟨ρ,P,st,q,kq⟩:=hh_0
 refine wpAny_Call_Name_kw (eC I hgs hms oV ?_)
 refine PyProof.Rows.callWith_builtin1 (thn (iC h hs hn pos pins s σ H (λvs H1=>∃(nss:List (List Int)) (v:V),vs=[v]/\Same H H1/\RepB X.K H1 (.lst (nss.map gR)) v/\nss.length<64/\(∀ns∈nss,ns≠[])/\∀mss:List (List Int),mss.Perm nss->mss.Pairwise (λx y=>dP y x=false)->P (mss.map gR)) I
  ⟨ρ,_,st,q,λx v H1 hx s1 r1=>?_⟩) λus s1 ⟨vs,H1,I1,r1,q1⟩=>?_) (by rw[hs,hn]) (by rw[hn];rfl)
 ·obtain⟨nss,rfl,a1,a2,a3⟩:=hx
  exact⟨nss,v,rfl,s1,r1,a1,a2,a3⟩
 obtain⟨nss,v,rfl,s01,rb,h64,hne,hP⟩:=q1
 obtain⟨l,vs,rfl,hq,rr⟩:=rb.lst
 obtain⟨u,rfl,rx⟩:=kW r1
 cases rx
 obtain⟨its,rv,pl,hz⟩:=I1.list hq
 have l1:=rr.length
 have l2:=rv.length
 rw[List.length_map] at l1
 have each:∀(i:Nat) (u:Value),its[i]? = some u->∃ns a,nss[i]? = some ns/\vs[i]? = some (.ref a)/\u = .ref a/\H1 a=some (.tup (ns.map V.int))/\IsTupleKey (intKind X.prog X.w) s1.heap ns a:=λi u e=>by
  have hi:i<nss.length:=by have:=(List.getElem?_eq_some_iff.mp e).1;omega
  obtain⟨v,e1,e2⟩:=rr.get (i:=i) (d:=gR nss[i]) (by rw[List.getElem?_map,List.getElem?_eq_getElem hi];rfl)
  obtain⟨a,rfl,ha⟩:=Reps.tupI_inv e2
  obtain⟨u',f1,f2⟩:=rv.get e1
  rw[e] at f1;cases f1
  cases f2
  obtain⟨ts,g1,g2,_⟩:=I1.tuple (SqT.of (K:=X.K) ha)
  obtain⟨o,go,gc,n,gd⟩:=g2
  exact⟨_,a,List.getElem?_eq_getElem hi,e1,rfl,ha,o,ts.toArray,n,go,gc,gd,by simpa using wS g1⟩
 refine Calls.call_function_entry kind_sorted plain_sorted entry_sorted (args_sorted1 _) ?_
 unfold Builtin.«sorted»
 refine wpAny_bind (m:=checkCount "sorted" 1 1 _) (wpAny_pure ?_)
 apply wpAny_bind;refine collect_list pl.isList ?_ (by rw[sizeLine_eq];omega)
 apply wpAny_bind;refine wpAny_newList ?_ (by rw[sizeLine_eq];omega)
 generalize hh1:(s1.heap.push (seqObj "list" #[] 0)).update s1.heap.objs.size (Obj.mapSeq (· ++ its.toArray))=h1
 have k1:∀b o,s1.heap.get? b=some o->h1.get? b=some o:=λb o e=>by rw[<-hh1,Heap.get?_update_ne _ _ _ _ (Nat.ne_of_lt (Heap.lt_size e))];exact Heap.get?_push_of_some _ e
 have big:s1.heap.objs.size<=h1.objs.size:=by rw[<-hh1,Heap.size_update,size_push'];exact Nat.le_succ _
 show wpAny _ _ _ _ _ { s1 with heap:=h1.push (seqObj "list" its.toArray 0) }
 have hL:(h1.push (seqObj "list" its.toArray 0)).get? h1.objs.size=some (seqObj "list" its.toArray 0):=Heap.get?_push_size _ rfl
 have k2:∀b o,s1.heap.get? b=some o->(h1.push (seqObj "list" its.toArray 0)).get? b=some o:=λb o e=>Heap.get?_push_of_some _ (k1 b o e)
 generalize h1.push (seqObj "list" its.toArray 0)=h2 at hL k2
 have KA:KeysAt X.prog X.w h2 its nss:=by
  refine⟨by omega,λi v e=>?_⟩
  obtain⟨ns,a,n1,n2,n3,_,o,jts,m,g1,g2⟩:=each i v e
  have:nss.getD i []=ns:=by rw[List.getD_eq_getElem?_getD,n1];rfl
  rw[this]
  exact⟨a,n3,o,jts,m,k2 _ _ g1,g2⟩
 refine wpAny_bind (wpAny_holding (wpAny_call_entry slot_list_sort ⟨_,hL,rfl⟩ entry_list_sort ?body (args_list_sort _)))
 case body =>
  refine DU (s:={ s1 with heap:=h2 }) hL KA hne (by omega) λh3 out mss c g1 g2 g3 g4 g5 g6=>?_
  have kp:∀b o,s1.heap.get? b=some o->h3.get? b=some o:=λb o e=>g6 b o (Nat.ne_of_lt (Nat.lt_of_lt_of_le (Heap.lt_size e) big)) (k2 b o e)
  obtain⟨ws,VV,RR⟩:=xX (K:=X.K) (H:=H1) out mss g2.1 λi v e=>by
   obtain⟨j,hj,ej⟩:=List.getElem_of_mem (g3 v (List.mem_of_getElem? e))
   obtain⟨ns,a,n1,n2,n3,ha,hk⟩:=each j v (by rw[List.getElem?_eq_getElem hj,ej])
   obtain⟨b,eb,hb⟩:=g2.2 i v e
   rw[n3] at eb;cases eb
   refine⟨a,n3,?_⟩
   have hk3:IsTupleKey (intKind X.prog X.w) h3 ns a:=by obtain⟨o,jts,n,q1,q2⟩:=hk;exact⟨o,jts,n,kp _ _ q1,q2⟩
   rw[hb.inj hk3]
   exact ha
  have lw:=VV.length
  have lo:out.length<64:=by rw[g2.1,g4.length_eq];exact h64
  have I4:=I1.laid (a:=h1.objs.size) (o:=.lst ws) (h':=h3) (t':=s1.toks) kp big ⟨by rw[sizeLine_eq];omega,out,c,VV,g1⟩
  exact⟨_,rfl,wpAny_pure ⟨_,rfl,.ref h1.objs.size,_,I4,rfl,kq _ _ _ H1 (hP mss g4 g5) s01 (I1.hok.fresh big) RR⟩⟩
theorem EW (hml:X.mg "list" = none) (hc:X.calm=true) (h:DE X e te) (hgl:Gl X "list":=by rfl) (hs:starEach [e] X.env=[(false,eval e X.env)]:=by rfl) (hn:starEach [] X.env=[]:=by rfl) :
  DO X (.Call (.Name "list" p) [e] [] pos) (sA te):=by
 intro pins s σ H Q I hh_0
 obtain⟨ρ,P,st,q,kq⟩:=hh_0
 refine wpAny_Call_Name_kw (eC I hgl hml nW ?_)
 refine PyProof.Rows.callWith_type1 (thn (iC h hs hn pos pins s σ H (λvs H1=>∃(ks:List Int) (ds:List D) (v:V),vs=[v]/\Same H H1/\Rep X.K H1 (.dct ks ds) v/\P (ks.map .int)) I
  ⟨ρ,_,st,q,λx v H1 hx s1 r1=>?_⟩) λus s1 ⟨vs,H1,I1,r1,q1⟩=>?_) (by rw[hs,hn]) (by rw[hn];rfl)
 ·obtain⟨ks,ds,rfl,a1,a2⟩:=hx
  exact⟨ks,ds,v,rfl,s1,r1,a2⟩
 obtain⟨ks,ds,v,rfl,s01,rd,hP⟩:=q1
 obtain⟨u,rfl,rx⟩:=kW r1
 cases rd with
 | @dct a vs _ _ o ha hl rr =>
  cases rx
  obtain⟨z,hd,ws,rel,dd⟩:=AX I1.hok (.inr ⟨o,ha⟩)
  have le:=rel.length
  obtain⟨ep,da⟩:=dd.dictAt
  refine kdl_call (kdl_dict (knd:=cN X.prog X.w) (kvs:=ws) (ep:=ep) hd) (I1.ok.hd hc) da (by rw[<-le];exact z) λh' tk acc c kp g1 it=>?_
  have lk:ks.length=ws.length:=by rw[<-le,CK,<-hl,Nat.min_self]
  have VV:Vals (ks.map V.int) acc.toList:=uL ks vs ws hl rel acc.toList (by rw[Array.length_toList,it.1];exact lk.symm) λj v e=>it.2 j v (by simpa using e)
  have I4:=I1.laid (a:=s1.heap.objs.size) (o:=.lst (ks.map V.int)) (h':=h') (t':=tk) kp (Nat.le_refl _) ⟨by rw[List.length_map,lk,<-le];exact z,acc.toList,c,VV,by simpa using g1⟩
  exact⟨.ref s1.heap.objs.size,_,I4,rfl,kq _ _ _ H1 hP s01 (I1.hok.fresh (Nat.le_refl _)) Reps.ints⟩
end
end L2.R2
set_option Elab.async false
set_option linter.all false
set_option maxRecDepth 100000
set_option maxHeartbeats 1000000
namespace L2.R2
open PySem PySem.Spec PyProof.Rows L2
theorem pT (l:Addr) (items:Array Value) (n:Nat) (b:Addr) (items2:Array Value) (n2:Nat) (sl:Array (Option Value)) (hc0:¬(!items.isEmpty && Builtin.List.listTooLong (items.size+items2.size))=true) (hc1:items.size<=sizeLine) (hs2:items.size+items2.size<=sizeLine+1) :
  Meets (Builtin.«list.extend» ⟨[.ref l,.ref b],[]⟩) (λ_ R s=>s.heap.get? l=some { cls:=.type "list",dict:=none,data:=.seq items n,slots:=#[] }/\s.heap.get? b=some { cls:=.type "list",dict:=none,data:=.seq items2 n2,slots:=sl }/\R (.ok (.ret Value.none)) { s with heap:=s.heap.update l (Obj.mapSeq λx=>x++items2),toks:=s.toks }) :=
 .of_wp λprog w A R s h=>by
  obtain⟨hp,g,d,tk,os⟩:=s;obtain⟨hl,hb,h⟩:=h
  have hz':(items++items2).size<=sizeLine+1:=by rw[Array.size_append];exact hs2
  wp_walk using (wpAny_updateSeq hl rfl (hz:=hc1) (_hz':=hz')),wpAny_loadPart' hl,wpAny_loadPart' hb;exact⟨_,rfl,h⟩
noncomputable def GO (K:PySem.W.Frag):V->List V->Hp->VK->Prop:=λx vs H Q=>∃l b xs zs,x = .ref l/\vs=[.ref b]/\H l=some (.lst xs)/\SqL K H b zs/\xs.length+zs.length<=sizeLine/\Q .non (upd H l (.lst (xs++zs)))
section
variable {X:Cx} {e:Expr} {pos apos cpos npos p2 p3 p4:Pos} {te:RE} {x:Str}
theorem zN:MtM X "list.extend" (GO X.K):=by
 intro pins s σ H x vs v us Q I rx rv h
 obtain⟨l,b,xs,zs,rfl,rfl,hH,hB,hz,q⟩:=h
 cases rx
 obtain⟨u,rfl,ru⟩:=rv.one
 cases ru
 obtain⟨z,its,n,r,hl,e⟩:=I.lstM hH
 obtain⟨its2,r2,pl,z2⟩:=I.list hB
 have hl2:=r2.length
 obtain⟨o,n2,e2,c1,c2,c3⟩:=pl
 obtain⟨oc,od,oda,osl⟩:=o
 dsimp only at c1 c2 c3
 subst c1 c2 c3
 have hsz:its.toArray.size+its2.toArray.size<=sizeLine:=by rw[List.size_toArray,List.size_toArray];omega
 have hlong:¬(!its.toArray.isEmpty && Builtin.List.listTooLong (its.toArray.size+its2.toArray.size))=true:=by
  rw[FW hsz,Bool.and_false]
  exact Bool.false_ne_true
 refine call_meets F.slot_list_extend ⟨_,e,rfl⟩ F.entry_list_extend (F.args_list_extend_2 _ _)
  (pT l its.toArray n b its2.toArray n2 osl hlong (by rw[List.size_toArray];omega) (by omega)) ⟨e,e2,?_⟩
 refine⟨.non,_,I.lset (its':=its++its2) hH e (by simp) (r.append r2) ?_,rfl,q⟩
 rw[List.length_append]
 omega
noncomputable def nH (i:Nat) (te:RE):RS:=λE ρ=>match ρ[i]? with
 | some (some (.own xs))=>te ρ λd=>match d with
  | .lst ys=>Sz (xs.length+ys.length)/\E.nx (ρ.set i (some (.own (xs++ys))))
  | _=>False
 | _=>False
theorem CB (i:Nat) (he:DE X e te) (hN:X.N[i]? = some x:=by rfl) (hv:Vis X.env.scope x:=by walk_at "vis") (hd:(x == ("__debug__":Str))=false:=by decide) (hcd:(x == ("__classdict__":Str))=false:=by decide)
  (hbase:attributeBase (.Name x npos) "extend" X.env (eval (.Name x npos) X.env)=eval (.Name x npos) X.env:=by rfl)
  (hfew:((backTo cpos (starEach [e] X.env)).all (λx=>!x.1) && (backToKw cpos (keywordEach [] X.env)).all (λx=>x.1.isSome) && decide (([e]:List Expr).length+([]:List Keyword).length+(if ([]:List Keyword).isEmpty then 0 else 1)<30))=true:=by rfl)
  (hline:(apos.endLine == cpos.line)=true:=by rfl) (hs:starEach [e] X.env=[(false,eval e X.env)]:=by rfl) (hn:starEach [] X.env=[]:=by rfl) (hsw:swapsWith (.Call (.Attribute (.Name x npos) "extend" apos) [e] [] cpos) none pos.line X.env=pure false:=by rfl) :
  DS X (.Expr (.Call (.Attribute (.Name x npos) "extend" apos) [e] [] cpos) pos) (nH i te):=by
 refine PS.mono (vN (BE PySem.F.plainAttrs_list PySem.F.slot_list_extend PySem.F.type_list_extend zN (pv i hN hv hd hcd) (iC he hs hn) hbase hfew hline (by rw[hs,hn]) (by rw[hn];rfl)) hsw) λDe σ H hh=>eI hh λρ E so q n r bk ct=>?_
 unfold nH at q
 split at q
 ·rename_i xs ex
  obtain⟨v,h1,p,vs,ev,hp,h0,rr⟩:=so.rel i _ ex
  subst ev
  refine⟨.ref p,h1,.inl ⟨rfl,vs,SqL.of hp⟩,ρ,_,so,q,λd v H1 hd s1 rd=>?_⟩
  have hp1:=s1 _ _ hp
  cases d with
  | lst ys =>
   cases rd with
   | @lst b us _ hz rd =>
    obtain⟨so2,k2⟩:=(so.ext s1).upd_own ex h1 hp1 h0 ((rr.keep (.of s1)).append rd)
    have hsz:xs.length+ys.length<=sizeLine:=hd.1.ok
    exact⟨p,b,vs,us,rfl,rfl,hp1,hz.sq,by rw[<-rr.length,<-rd.length];exact hsz,n _ _ _ hd.2 ((Keep.of s1).trans k2) so2⟩
  | _=>exact hd.elim
 ·exact q.elim
noncomputable def alt {α:Type}:List α->List α
 | []=>[]
 | [x]=>[x]
 | x::_::r=>x::alt r
theorem AO {α:Type}:∀(l:List α) (i:Nat),(alt l)[i]? = l[2*i]?
 | [],i=>by simp[alt]
 | [x],0=>rfl
 | [x],i+1=>by simp[alt]
 | x::y::r,0=>rfl
 | x::y::r,i+1=>by
  rw[alt,List.getElem?_cons_succ,AO r i,show 2*(i+1)=2*i+1+1 by omega,List.getElem?_cons_succ,List.getElem?_cons_succ]
theorem qH {α:Type}:∀(l:List α),(alt l).length=(l.length+1) / 2
 | []=>by simp[alt]
 | [x]=>by simp[alt]
 | x::y::r=>by rw[alt,List.length_cons,qH r];simp only[List.length_cons];omega
theorem KN {α:Type} (l:List α):(alt l).length<=l.length:=by rw[qH];omega
theorem Reps.alt {K:PySem.W.Frag} {H:Hp}:∀{ds:List D} {vs:List V},Reps K H ds vs->Reps K H (alt ds) (L2.R2.alt vs)
 | _,_,.nil=>.nil
 | _,_,.cons h .nil=>.cons h .nil
 | _,_,.cons h (.cons _ t)=>.cons h (Reps.alt t)
theorem Vals.alt:∀{vs:List V} {us:List Value},Vals vs us->Vals (alt vs) (L2.R2.alt us)
 | _,_,.nil=>.nil
 | _,_,.cons h .nil=>.cons h .nil
 | _,_,.cons h (.cons _ t)=>.cons h (Vals.alt t)
theorem GG (its:List Value) (k:Nat) (lo:Option Int) (hk:(lo=none/\k=0)\/(lo=some 1/\k=1)):slicePick its.toArray lo none (some 2)=(alt (its.drop k)).toArray:=by
 have e:(sliceBounds lo none (some 2) its.toArray.size)=(((min k its.length:Nat):Int),(its.length:Int),2):=by
  rcases hk with ⟨rfl,rfl⟩ | ⟨rfl,rfl⟩
  ·simp[sliceBounds]
  ·simp[sliceBounds];omega
 unfold slicePick
 rw[e]
 congr 1
 dsimp only
 have c:(if (2:Int) > 0 then (if ((min k its.length:Nat):Int)<(its.length:Int) then ((its.length:Int)-(min k its.length:Nat)+2-1) / 2 else 0) else (if ((min k its.length:Nat):Int) > (its.length:Int) then (((min k its.length:Nat):Int)-(its.length:Int)-2-1) / (-2) else 0)).toNat=(alt (its.drop k)).length:=by
  rw[qH,List.length_drop,if_pos (by decide)]
  split <;> omega
 unfold sliceRange
 dsimp only
 rw[c]
 refine List.ext_getElem? λi=>?_
 have key:∀(n:Nat),n<=(alt (its.drop k)).length->((List.range n).map λ(j:Nat)=>(((min k its.length:Nat):Int)+2*(j:Int)).toNat).filterMap (its.toArray[·]?)=(alt (its.drop k)).take n:=by
  intro n
  induction n with
  | zero=>intro _;rfl
  | succ n ih =>
   intro h
   have hn:n<(alt (its.drop k)).length:=h
   rw[List.range_succ,List.map_append,List.filterMap_append,ih (Nat.le_of_lt hn),List.take_succ]
   congr 1
   have hl:2*n<(its.drop k).length:=by rw[qH] at hn;omega
   rw[List.length_drop] at hl
   have:(((min k its.length:Nat):Int)+2*(n:Int)).toNat=k+2*n:=by omega
   simp only[List.map_cons,List.map_nil,this]
   rw[AO,List.getElem?_drop]
   have hh:k+2*n<its.length:=by omega
   simp[hh]
 rw[key _ (Nat.le_refl _),List.take_length]
noncomputable def zY (k:Nat) (te:RE):RA:=λρ Q=>te ρ λx=>match x with
 | .lst ds=>Q (alt (ds.drop k))
 | _=>False
theorem EV {k:Nat} {lo:Option Expr} {l:Option Int} {j:Nat} (h:DB X e te) (hl:∀(H:Hp),PO X lo (λσ H Q=>Q l H)) (hk:(l=none/\k=0)\/(l=some 1/\k=1)) :
  DO X (.Subscript e (.Slice lo none (some (.Constant (.int 2) j p3)) p2) pos) (zY k te):=by
 intro pins s σ H Q I hh
 obtain⟨ρ,P,st,q,kq⟩:=hh
 refine Subscript_ (thn (h pins s σ H (λv H1=>∃ds,Same H H1/\RepB X.K H1 (.lst ds) v/\P (alt (ds.drop k))) I ⟨ρ,_,st,q,λx v H1 hx s1 r1=>?_⟩) λv s1 ⟨x,H1,I1,r1,q1⟩=>?_)
 ·cases x with
  | lst ds=>exact⟨ds,s1,r1,hx⟩
  | _=>exact hx.elim
 obtain⟨ds,sm,rb,hP⟩:=q1
 obtain⟨a,vs,rfl,hq,rr⟩:=rb.lst
 cases r1
 refine wpAny_Slice (thn (hl H1 pins s1 σ H1 (λo H2=>o=l/\H2=H1) I1 ⟨rfl,rfl⟩) λvl s2 ⟨l',H2,I2,pl,e1,e2⟩=>?_)
 subst e1 e2
 rw[evalPart_none]
 refine wpAny_pure ?_
 refine thn (vM (zT (X:=X) (i:=2) (j:=j) (pos:=p3)) pins s2 σ H2 (λo H3=>o=some 2/\H3=H2) I2 ⟨2,rfl,rfl,rfl⟩) λvst s3 ⟨o3,H3,I3,pst,e3,e4⟩=>?_
 subst e3 e4
 have I4:Inv X pins σ H3 { s3 with heap:=s3.heap.push { cls:=.type "slice",data:=.fields #[vl,.none,vst] } }:=I3.kept (t':=s3.toks) λb ob q=>Heap.get?_push_of_some _ q
 obtain⟨its,rv,pll,hz⟩:=I4.list hq
 have hlen:=rv.length
 show wpAny (model X.prog X.w) X.A (subscriptTail e (.Slice lo none (some (.Constant (.int 2) j p3)) p2) (.ref a) (.ref s3.heap.objs.size)) (EP X pins σ Q) X.xe { s3 with heap:=s3.heap.push { cls:=.type "slice",data:=.fields #[vl,.none,vst] } }
 refine tail_any (ops:=[.ref a,.ref s3.heap.objs.size]) pll.isList.typeIs PySem.slot_list_getitem.lookup ?_ (by with_unfolding_all rfl)
 refine wpAny_getItem_list_slice pll.isList (Heap.IsSliceOf.new ..) pl .none pst (by decide) ?_ (by rw[List.size_toArray,<-hlen];exact hz)
 rw[GG its k l' hk]
 have VV:Vals (alt (vs.drop k)) (alt (its.drop k)):=Vals.alt (Vals.drop k rv)
 have I5:=I4.lnew (t':=s3.toks) VV (Nat.le_trans (KN _) (by rw[List.length_drop];omega))
 exact⟨.ref _,_,I5,rfl,kq _ _ _ H3 hP sm I4.fresh (Reps.alt (rr.drop k))⟩
theorem HV {j:Nat} (h:DB X e te):DO X (.Subscript e (.Slice none none (some (.Constant (.int 2) j p3)) p2) pos) (zY 0 te) :=
 EV h (λH pins s σ H' Q I q=>BG pins s σ H' Q I q) (.inl ⟨rfl,rfl⟩)
theorem HW {j j':Nat} (h:DB X e te):DO X (.Subscript e (.Slice (some (.Constant (.int 1) j' p4)) none (some (.Constant (.int 2) j p3)) p2) pos) (zY 1 te) :=
 EV h (λH pins s σ H' Q I q=>vM (zT (X:=X) (i:=1) (j:=j') (pos:=p4)) pins s σ H' Q I ⟨1,rfl,q⟩) (.inr ⟨rfl,rfl⟩)
end
theorem DZ {P:Program} {w:World} {K:PySem.W.Frag} {tg:Expr} (it:Addr) (lo:Int) (n:Nat):Turn P w K tg (Itr lo n) [it] it (λi h=>IsLongIter h it (lo+(i:Nat)*1) ((n:Int)-(i:Nat)) 1) where
 mem:=by simp
 obj:=λi h st b hb=>by
  have e:b=it:=by simpa using hb
  subst e
  exact⟨_,st,λv z=>by have z':Data.fields _=Data.cell v:=z;cases z'⟩
 keep:=λi h h' st k=>k it (by simp) _ st
 item:=by
  intro X hP hw hK hc i pins s σ H E I hf st hg
  subst hP hw hK
  obtain⟨f0,f1,f2,f3,f4,f5⟩:=hf it (by simp)
  have W:=Walks.longrange (prog:=X.prog) (w:=X.w) (I.ok.hd hc) it lo 1 n
  refine W.item i s _ _ hg st λv h' tk hv st' kk=>?_
  obtain⟨t,rfl⟩:=hv
  have I1:Inv X pins σ H { s with heap:=h',toks:=tk }:=I.turned (λb o hb e=>kk b o (by simpa using hb) e) f0 f1 f3 f4 f5
  exact⟨_,rfl,tR (s:={ s with heap:=h',toks:=tk }) (n:="longrange_iterator") st' rfl rfl (by decide) ⟨.int (lo+i),H,I1,⟨t,by rw[Int.mul_one]⟩,⟨rfl,rfl⟩,st',λb hb=>(hf b hb).1⟩⟩
 done:=by
  intro X hP hw hK hc i pins s σ H E I hf st hg
  subst hP hw hK
  obtain⟨f0,f1,f2,f3,f4,f5⟩:=hf it (by simp)
  exact wpAny_pyNext_long_end (I.ok.hd hc) st (by have:n<=i:=hg;omega) λh' eb=>⟨rfl,I.turned (t':=s.toks) (λb o hb e=>eb b o hb e) f0 f1 f3 f4 f5⟩
 self:=λ_ _ _ _ _ st h=>wpAny_pyIter_longiter st h
theorem GS (a b:Int):Builtin.Range.rangeSize a b 1=((b-a).toNat:Int):=by
 unfold Builtin.Range.rangeSize
 simp only[show (1:Int) > 0 by decide,if_true]
 split <;> omega
section
variable {X:Cx} {tg:Expr}
theorem IT {pins:List (Addr × Obj)} {σ:St} {H:Hp} {s:Shared} {R:It->Hp->Prop} {E:Value->Shared->Prop} {lo hi:Int} {t u v:Tok} {tk:Nat} (I:Inv X pins σ H s) (hs:Builtin.Range.small lo hi 1=false)
  (q:R (Itr lo (hi-lo).toNat) H):wpAny (model X.prog X.w) X.A (pyIter (.ref s.heap.objs.size)) (PIE X pins σ tg R) E { s with heap:=s.heap.push { cls:=.type "range",data:=.fields #[.int lo t,.int hi u,.int 1 v] },toks:=tk }:=by
 refine wpAny_pyIter_longrange (IsRange.new ..) hs ?_
 have I1:Inv X pins σ H { s with heap:=s.heap.push { cls:=.type "range",data:=.fields #[.int lo t,.int hi u,.int 1 v] },toks:=tk }:=I.kept λb o e=>Heap.get?_push_of_some _ e
 have e1:lo+((0:Nat):Int)*1=lo:=by simp
 have e2:(((hi-lo).toNat:Nat):Int)-((0:Nat):Int)=Builtin.Range.rangeSize lo hi 1:=by rw[GS];simp
 generalize hh:s.heap.push { cls:=.type "range",data:=.fields #[.int lo t,.int hi u,.int 1 v] } = h1 at I1
 refine⟨h1.objs.size,[h1.objs.size],_,_,H,rfl,I1.kept (t':=tk) λb o e=>Heap.get?_push_of_some _ e,DZ _ lo (hi-lo).toNat,?_,λb hb=>?_,q⟩
 ·show IsLongIter _ _ (lo+((0:Nat):Int)*1) ((((hi-lo).toNat:Nat):Int)-((0:Nat):Int)) 1
  rw[e1,e2]
  exact Heap.get?_push_size _ rfl
 ·have e:b=h1.objs.size:=by simpa using hb
  subst e
  exact I1.fpOk (Nat.le_refl _) (I1.hok.fresh (Nat.le_refl _))
theorem LG {pins:List (Addr × Obj)} {σ:St} {H:Hp} {s:Shared} {R:It->Hp->Prop} {E:Value->Shared->Prop} {lo hi:Int} {t u v:Tok} {tk:Nat} (I:Inv X pins σ H s)
  (q:R (Itr lo (hi-lo).toNat) H):wpAny (model X.prog X.w) X.A (pyIter (.ref s.heap.objs.size)) (PIE X pins σ tg R) E { s with heap:=s.heap.push { cls:=.type "range",data:=.fields #[.int lo t,.int hi u,.int 1 v] },toks:=tk }:=by
 cases hs:Builtin.Range.small lo hi 1 with
 | false=>exact IT I hs q
 | true =>
  refine wpAny_pyIter_range (IsRange.new ..) hs ?_
  have I1:Inv X pins σ H { s with heap:=s.heap.push { cls:=.type "range",data:=.fields #[.int lo t,.int hi u,.int 1 v] },toks:=tk }:=I.kept λb o e=>Heap.get?_push_of_some _ e
  have e1:lo+((0:Nat):Int)*1=lo:=by simp
  have e2:(((hi-lo).toNat:Nat):Int)-((0:Nat):Int)=Builtin.Range.rangeSize lo hi 1:=by rw[GS];simp
  generalize hh:s.heap.push { cls:=.type "range",data:=.fields #[.int lo t,.int hi u,.int 1 v] } = h1 at I1
  refine⟨h1.objs.size,[h1.objs.size],_,_,H,rfl,I1.kept (t':=tk) λb o e=>Heap.get?_push_of_some _ e,sI _ lo (hi-lo).toNat,?_,λb hb=>?_,q⟩
  ·show IsRangeIter _ _ (lo+((0:Nat):Int)*1) ((((hi-lo).toNat:Nat):Int)-((0:Nat):Int)) 1
   rw[e1,e2]
   exact Heap.get?_push_size _ rfl
  ·have e:b=h1.objs.size:=by simpa using hb
   subst e
   exact I1.fpOk (Nat.le_refl _) (I1.hok.fresh (Nat.le_refl _))
noncomputable def BM (t:RA):RA:=λρ Q=>t ρ λds=>match ds with
 | [.int i,.int j]=>Q (cD i (j-i).toNat)
 | _=>False
theorem KZ {a b:Expr} {t:RA} {p pos:Pos} (hm:X.mg "range" = none) (ha:DA X [a,b] t) (hg:Gl X "range":=by rfl) (hs:starEach [a,b] X.env=[(false,eval a X.env),(false,eval b X.env)]:=by rfl) (hs2:starEach [b] X.env=[(false,eval b X.env)]:=by rfl) :
  DI X tg (.Call (.Name "range" p) [a,b] [] pos) (BM t):=by
 intro pins s σ H R I hh
 obtain⟨ρ,P,st,q,k⟩:=hh
 refine Call_ (eC I hg hm boot_range (PyProof.Rows.callWith_type1 (thn (ha pos pins s σ H (λvs H1=>∃i j:Int,vs=[.int i,.int j]/\Same H H1/\P (cD i (j-i).toNat)) I ⟨ρ,_,st,q,λds vs H1 hd s1 r=>?_⟩) λus s1 ⟨vs,H1,I1,r1,q1⟩=>?_) (by rw[hs,hs2]) (by rw[hs2];rfl)))
 ·split at hd
  ·rename_i i j
   rw[Reps.ints_inv (ns:=[i,j]) r]
   exact⟨i,j,rfl,s1,hd⟩
  ·exact hd.elim
 obtain⟨i,j,e,sm,q⟩:=q1
 subst e
 cases r1 with
 | cons r rr =>
  cases rr with
  | cons r' rr =>
   cases rr
   obtain⟨t,rfl⟩:=r
   obtain⟨t',rfl⟩:=r'
   exact call_range_2 (LG I1 (k _ _ H1 q sm (zD i _)))
noncomputable def EL:R22:=λx y Q=>match x,y with
 | .bl a,.bl b=>Q (.int ((if a then 1 else 0)-(if b then 1 else 0)))
 | _,_=>False
end
end L2.R2
set_option Elab.async false
set_option linter.all false
set_option maxRecDepth 100000
set_option maxHeartbeats 1000000
namespace HT
open PySem PyProof.Rows
section
open PySem.SeqAt
open PySem.AutoSeq1 (wpAny_loadPart')
open PySem.MeetsSeq PySem.MeetsSeq2 PySem.MeetsSeq3
end
section
variable {prog:Program} {w:World} {A:Around} {E:Value->Shared->Prop} {s:Shared}
end
end HT
namespace L2.R2
open PySem PySem.Spec PyProof.Rows L2
section
variable {prog:Program} {w:World} {A:Around} {E:Value->Shared->Prop} {s:Shared}
end
section
variable {X:Cx}
noncomputable def OY:List D->(D->Prop)->Prop:=λds Q=>∃ns ms,ds=[gR ns,gR ms]/\Q (gR (if HT.lexLt ms ns=true then ms else ns))
noncomputable def OX:List D->(D->Prop)->Prop:=λds Q=>∃ns ms,ds=[gR ns,gR ms]/\Q (gR (if HT.lexLt ns ms=true then ms else ns))
end
section
variable {X:Cx} {pins:List (Addr × Obj)} {σ:St} {H:Hp} {s:Shared}
theorem Inv.thaw {a:Addr} {xs:List V} {o:Obj} (I:Inv X pins σ H s) (h:H a=some (.frz o (.lst xs))) (h0:X.H₀ a=none):Inv X pins σ (upd H a (.lst xs)) s:=by
 have nn:∀b,H b=none->upd H a (.lst xs) b=none:=λb q=>by rw[aI (by rintro rfl;rw[h] at q;cases q)];exact q
 have ne0:∀b u,X.H₀ b=some u->b≠a:=λb u q z=>by subst z;rw[h0] at q;cases q
 refine⟨I.ok,I.os,I.bare,⟨I.base.keep,I.base.slot,λb o q n x=>nn b (I.base.free b o q n x),I.base.there,λb ys q=>?_,λb o u q=>?_,λb ps q=>?_⟩,I.loc,I.cell,nn _ I.free,λx c e=>nn _ (I.freeC x c e),λp hp=>?_,λb u q=>?_,I.len⟩
 ·rw[aI (ne0 b _ q)];exact I.base.tups b ys q
 ·rw[aI (ne0 b _ q)];exact I.base.frzs b o u q
 ·rw[aI (ne0 b _ q)];exact I.base.tbls b ps q
 ·obtain⟨p1,p2,p3⟩:=I.pin p hp
  exact⟨p1,nn _ p2,p3⟩
 ·have st:∀{b:Addr} {u:HO},ObjOk X.prog X.w H s.heap b u->ObjOk X.prog X.w (upd H a (.lst xs)) s.heap b u:=λ{b u} q =>
   q.stay (λc v _ w=>w) (λc w=>by rw[aI (by rintro rfl;rw[h] at w;cases w)];exact w) λc ys w=>by rw[aI (by rintro rfl;rw[h] at w;cases w)];exact w
  by_cases hb:b=a
  ·subst hb
   rw[aX] at q;cases q
   exact st (show ObjOk X.prog X.w H s.heap b (.frz o (.lst xs)) from I.hok b _ h).2
  ·rw[aI hb] at q
   exact st (I.hok b u q)
end
section
variable {X:Cx} {e:Expr} {t:RT}
noncomputable def FO (i:Nat) (ρ:En):En:=match ρ[i]? with
 | some (some (.own ds))=>ρ.set i (some (.d (.lst ds)))
 | _=>ρ
theorem LE (i:Nat) (h:DT X e t):DT X e (λρ Q=>t (FO i ρ) Q):=by
 intro pins s σ H Q I ⟨ρ,P,so,q,k⟩
 have q:t (FO i ρ) P:=q
 unfold FO at q
 split at q
 ·rename_i ds ex
  obtain⟨v,h1,p,vs,rfl,hp,h0,rr⟩:=so.rel i _ ex
  obtain⟨o,I2⟩:=Inv.freeze I hp
  have kp:Keep H (upd H p (.frz o (.lst vs))):=⟨λc ys q=>by rw[aI (jP q hp (by intro z;cases z))];exact q,λc o u q=>by rw[aI (jP q hp (by intro z;cases z))];exact q⟩
  obtain⟨so2,k2⟩:=so.updW (x':=.d (.lst ds)) (v':=.ref p) ex h1 (H':=upd H p (.frz o (.lst vs))) (λb o h w=>by rw[aI (by rintro rfl;exact w rfl)];exact h) (.lst (.inl ⟨o,aX⟩) (rr.keep kp)) λa o=>o.elim
  rw[fR h1] at so2
  refine thn (h pins s σ _ (λb H3=>P b/\Same (upd H p (.frz o (.lst vs))) H3) I2 ⟨_,P,so2,q,λb H3 hb s3=>⟨hb,s3⟩⟩) λb s1 ⟨H3,I3,hb,s3⟩=>?_
  have h3:=s3 _ _ (aX (H:=H) (a:=p) (o:=.frz o (.lst vs)))
  refine⟨upd H3 p (.lst vs),Inv.thaw I3 h3 h0,k b _ hb λc u hc=>?_⟩
  by_cases hcp:c=p
  ·subst hcp;rw[hp] at hc;cases hc;exact aX
  ·rw[aI hcp];exact s3 c u (by rw[aI hcp];exact hc)
 ·exact h pins s σ H Q I ⟨ρ,P,so,q,k⟩
end
noncomputable def rM (X:Cx) (t:RS):TS:=λDe σ H=>∃ρ E,StOk X ρ σ H/\t E ρ/\(∀ρ,¬E.nx ρ)/\(∀xs p vs H',E.rt (.lst xs)->Keep H H'->Same X.H₀ H'->X.H₀ p=none->H' p=some (.lst vs)->Reps X.K H' xs vs->De.rt (.ref p) H')
noncomputable def xU (t u:RS):RS:=λE ρ=>t { nx:=u E,rt:=λ_=>False } ρ
noncomputable def BK (i:Nat):RS:=λE ρ=>match ρ[i]? with
 | some (some (.own xs))=>E.rt (.lst xs)
 | _=>False
section
variable {X:Cx} {st:Stmt} {rest:List Stmt} {t u:RS} {x:Str} {p pos:Pos}
theorem nY (h1:DS X st t) (h2:PSs X rest (rM X u)):PSs X (st::rest) (rM X (xU t u)) :=
 PSs.mono (xM h1 h2) λDe σ H ⟨ρ,E,so,q,n,r⟩=>by
  refine⟨ρ,_,so,q,λρ' σ' H' hq k s'=>⟨ρ',E,s',hq,n,λxs p vs H2 e k2 s2=>r xs p vs H2 e (k.trans k2) s2⟩,λ_ _ _ z=>z.elim,λ_ _ _ z=>z.elim,λ_ _ _ z=>z.elim⟩
theorem CC (i:Nat) (hN:X.N[i]? = some x:=by rfl) (hv:Vis X.env.scope x:=by walk_at "vis") (hd:(x == ("__debug__":Str))=false:=by decide)
  (hcd:(x == ("__classdict__":Str))=false:=by decide):PSs X [.Return (some (.Name x p)) pos] (rM X (BK i)) :=
 PSs.mono (BH (GJ (pv i hN hv hd hcd))) λDe σ H ⟨ρ,E,so,q,n,r⟩=>by
  unfold BK at q
  split at q
  ·rename_i xs ex
   obtain⟨v,h1,a,vs,rfl,ha,h0,rr⟩:=so.rel i _ ex
   exact⟨_,h1,r xs a vs H q (Keep.refl H) so.same h0 ha rr⟩
  ·exact q.elim
end
noncomputable def spO (K:PySem.W.Frag) (F:FD):Sp:=λvs H Q _=>∃ds P,Reps K H ds vs/\F ds P/\∀xs p us H1,P (.lst xs)->Same H H1->H1 p=none->Reps K H1 xs us->Q (.ref p) (upd H1 p (.lst us))
structure FnAtO (P:Program) (w:World) (K:PySem.W.Frag) (mg:Str->Option Value) (base:Heap) (x:Str) (ps:List Str) (k:Nat) (F:FD):Prop where
 ex:∃f fd,FnOk P w K mg base CX0 k f fd ps (spO K F)/\Binds K fd ps []/\PySem.W.keepIn K (.ref f)=true/\mg x=some (.ref f)
section
variable {P:Program} {w:World} {K:PySem.W.Frag} {mg:Str->Option Value} {base:Heap}
theorem DefAt.okO {x:Str} {st:Stmt} {N ps:List Str} {k:Nat} {F:FD} {t:RS} (Z:DefAt K mg x st ps) (Sc:FnScope N ps (aC st))
  (hbody:∀{f:Addr} (cdv:Value) (A:Around) (outer:List Env) (s:Shared) (H:Hp) (E:XK),Room k (A.deeper (envOfC x (aC st) s.heap.objs.size f cdv)) ->
   PSs (cJ CX0 P w K mg base N x (aC st) f cdv A outer s H E).nox (aN st) (rM (cJ CX0 P w K mg base N x (aC st) f cdv A outer s H E).nox t))
  (len:∀ds Q,F ds Q->ds.length=ps.length) (pure:∀ds Q,F ds Q->t { nx:=λ_=>False,rt:=Q } (aO N ds)):FnAtO P w K mg base x ps (k+1) F:=by
 obtain⟨f,fd,a,b,c⟩:=Z.ex
 refine⟨f,fd,?_,.all c,a.kp,b⟩
 refine a.ok Sc (λvs H Q E ⟨ds,P',r,h,_⟩=>by rw[<-r.length];exact len ds P' h) λcdv A outer s H vs Q E hr ⟨ds,P',r,h,kk⟩=>⟨_,hbody cdv A outer s H E hr,?_⟩
 refine⟨aO N ds,_,yD (X:=(cJ CX0 P w K mg base N x (aC st) f cdv A outer s H E).nox) r,pure ds P' h,λ_ z=>z,λxs p us H' hq kp sm h0 hp rr=>?_⟩
 have e:H'=upd (λa=>if a=p then none else H' a) p (.lst us):=by
  funext a
  by_cases ha:a=p
  ·subst ha;rw[aX,hp]
  ·rw[aI ha,if_neg ha]
 have kp2:Keep H' (λa=>if a=p then none else H' a):=⟨λb ys q=>by rw[if_neg (by rintro rfl;rw[hp] at q;cases q)];exact q,λb o u q=>by rw[if_neg (by rintro rfl;rw[hp] at q;cases q)];exact q⟩
 have sm':Same H H':=sm
 have h0':H p=none:=h0
 have:=kk xs p us (λa=>if a=p then none else H' a) hq (λb u q=>(if_neg (by rintro rfl;rw[h0'] at q;cases q)).trans (sm' b u q)) (if_pos rfl) (rr.keep kp2)
 rw[<-e] at this
 exact this
end
noncomputable def mL (F:FD) (t:RA):RA:=λρ Q=>t ρ λds=>F ds λd=>match d with
 | .lst xs=>Q xs
 | _=>False
section
variable {X:Cx} {k:Nat} {ps:List Str} {F:FD} {x:Str} {p pos:Pos} {e:Expr} {es:List Expr} {t:RA}
theorem qY (C:FnAtO X.prog X.w X.K X.mg X.base x ps k F) (hr:Room k X.A) (ha:DA X (e::es) t) (hg:Gl X x:=by rfl)
  (hdb:(x == ("__debug__":Str))=false:=by decide) (he:starEach (e::es) X.env=(false,eval e X.env)::starEach es X.env:=by rfl) (hpl:(backTo pos (starEach es X.env)).any (·.1)=false:=by rfl) :
  DO X (.Call (.Name x p) (e::es) [] pos) (mL F t):=by
 obtain⟨f,fd,G,hb,hk,hm⟩:=C.ex
 exact PE.mono (BF (E:=E0) G hr hg hm hk hb .nil KI ha hdb he hpl) λσ H Q hh=>bX hh λρ P st q kk=>⟨ρ,_,st,q,λds vs H1 hd s1 r=>by
  show spO X.K F (vs++[]) H1 Q E0
  rw[List.append_nil]
  exact⟨ds,_,r,hd,λxs p us H2 hp s2 hn rr=>kk xs p us H2 hp (s1.trans s2) hn rr⟩⟩
end
theorem qG:isSubtype (.type "range_iterator") (.type "reversed")=pure false:=by rw[isSubtype_type];kernel_rfl
theorem qF (r:Addr) (a b c:Int) (t u v:Tok) (hc0:¬(!(Builtin.Range.rangeFitsLong a && Builtin.Range.rangeFitsLong b && Builtin.Range.rangeFitsLong c && Builtin.Range.rangeFitsLong (-c) && Builtin.Range.rangeFitsLong (a-c) && Builtin.Range.rangeFitsLong (Builtin.Range.rangeSize a b c)))=true) :
  Meets (Builtin.«range.__reversed__» ⟨[.ref r],[]⟩) (λ_ R s=>IsRange s.heap r a b c t u v/\R (.ok (.ret (Value.ref s.heap.objs.size))) { s with heap:=s.heap.push { cls:=Value.type (if (Builtin.Range.rangeFitsLong a && Builtin.Range.rangeFitsLong b && Builtin.Range.rangeFitsLong c && Builtin.Range.rangeFitsLong (-c) && Builtin.Range.rangeFitsLong (a-c) && Builtin.Range.rangeFitsLong (Builtin.Range.rangeSize a b c))=true then "range_iterator" else "longrange_iterator"),data:=Data.fields #[rawInt (a+(Builtin.Range.rangeSize a b c-1)*c),rawInt (Builtin.Range.rangeSize a b c),rawInt (-c)] } }) :=
 .of_wp λprog w A R s h=>by obtain⟨hp,g,d,tk,os⟩:=s;obtain⟨hl,h⟩:=h;wp_walk;exact⟨_,rfl,h⟩
section
variable {prog:Program} {w:World} {A:Around} {E:Value->Shared->Prop} {s:Shared}
noncomputable def mM (n:Int):Obj:={ cls:=.type "range_iterator",data:=.fields #[rawInt (n-1),rawInt n,rawInt (-1)] }
theorem LH {n:Int} (h1:-(2 ^ 62)<=n) (h2:n<2 ^ 62):Builtin.Range.rangeFitsLong n=true:=by
 unfold Builtin.Range.rangeFitsLong
 simp only[Bool.and_eq_true,decide_eq_true_eq]
 omega
theorem lF {r:Addr} {n:Int} {t u v:Tok} {Q:Value->Shared->Prop} (h0:0<=n) (h2:n<2 ^ 62) (hr:IsRange s.heap r 0 n 1 t u v)
  (h:Q (.ref s.heap.objs.size) { s with heap:=s.heap.push (mM n) }):wpAny (model prog w) A (call (.builtin "range.__reversed__") [.ref r]) Q E s:=by
 have hT:s.TypeIs (.ref r) "range":=⟨_,hr,rfl⟩
 have sz:Builtin.Range.rangeSize 0 n 1=n:=by rw[rangeSize_one];split <;> omega
 have fit:(Builtin.Range.rangeFitsLong 0 && Builtin.Range.rangeFitsLong n && Builtin.Range.rangeFitsLong 1 && Builtin.Range.rangeFitsLong (-1) && Builtin.Range.rangeFitsLong (0-1) && Builtin.Range.rangeFitsLong (Builtin.Range.rangeSize 0 n 1))=true:=by
  rw[sz,LH (n:=n) (by omega) h2];decide
 refine call_meets F.slot_range_reversed hT F.entry_range_reversed (F.args_range_reversed_1 _) (qF r 0 n 1 t u v (by rw[fit];decide)) ⟨hr,?_⟩
 rw[fit,sz]
 have e:(0:Int)+(n-1)*1=n-1:=by omega
 rw[e]
 exact h
theorem lZ {r:Addr} {n:Int} {t u v:Tok} {Q₁:Value->Shared->Prop} (h0:0<=n) (h2:n<2 ^ 62) (hr:IsRange s.heap r 0 n 1 t u v)
  (h:Q₁ (.ref s.heap.objs.size) { s with heap:=s.heap.push (mM n) }) :
  codeAny (model prog w) A (.call (.builtin "reversed.__new__") ⟨[.type "reversed",.ref r],[]⟩) (wants Q₁ E) s:=by
 have hT:s.TypeIs (.ref r) "range":=⟨_,hr,rfl⟩
 refine codeAny_of_tree ?_
 show wpAny _ A.in1 (do checkBuiltinCall "reversed.__new__" ⟨[.type "reversed",.ref r],[]⟩;again (.builtin "reversed.__new__" ⟨[.type "reversed",.ref r],[]⟩)) _ _ s
 refine wpAny_bind (wpAny_of_eq (F.newCall_reversed_1 _) (wpAny_pure ⟨plainId_quiet F.plain_reversed_new _,codeAny_builtin F.entry_reversed_new ?_⟩))
 rw[Around.under_plainId F.plain_reversed_new _]
 unfold Builtin.«reversed.__new__»
 refine wpAny_bind (wpAny_of_eq (newClass_reversed _) ?_)
 try dsimp only
 refine wpAny_bind (wpAny_of_eq (a:=()) (by first | rfl | kernel_rfl) ?_)
 refine wpAny_bind (wpAny_of_eq (a:=()) (by first | rfl | kernel_rfl) ?_)
 try dsimp only
 refine wpAny_bind (wpAny_specialOf hT F.slot_range_reversed.lookup ?_)
 try dsimp only
 refine wpAny_bind (wpAny_of_eq (F.slot_range_reversed.bind _) ?_)
 try dsimp only
 first
 | rw[if_neg (show ¬((Value.builtin "range.__reversed__" == Value.none)=true) from Bool.false_ne_true)]
 | (show wpAny _ _ (if (Value.builtin "range.__reversed__" == Value.none)=true then _ else _) _ _ _;rw[if_neg (show ¬((Value.builtin "range.__reversed__" == Value.none)=true) from Bool.false_ne_true)])
 refine wpAny_bind (wpAny_rule ?_)
 refine wpAny_bind (m:=runValue (.call (.builtin "range.__reversed__") ⟨[.ref r],[]⟩)) (show wpAny _ _ (call (.builtin "range.__reversed__") [.ref r]) _ _ _ from lF h0 h2 hr ?_)
 first
 | exact wpAny_pure h
 | exact wpAny_bind (wpAny_pure (wpAny_pure h))
theorem lG {r:Addr} {n:Int} {t u v:Tok} {Q:Value->Shared->Prop} (h0:0<=n) (h2:n<2 ^ 62) (hr:IsRange s.heap r 0 n 1 t u v)
  (h:Q (.ref s.heap.objs.size) { s with heap:=s.heap.push (mM n) }):wpAny (model prog w) A (call (.type "reversed") [.ref r]) Q E s:=by
 refine callType_other (U:="range_iterator") (Q₁:=λobj s₁=>obj = .ref s.heap.objs.size/\s₁ = { s with heap:=s.heap.push (mM n) }) (by decide +kernel) F.create_reversed ⟨_,_,F.mro_reversed⟩ F.made_reversed qG (F.typeCall_reversed_1 _) (lZ h0 h2 hr ⟨rfl,rfl⟩) ?_
 rintro obj s₁ ⟨rfl,rfl⟩
 exact⟨⟨_,Heap.get?_push_size _ rfl,rfl⟩,h⟩
end
noncomputable def MX (n:Nat):It:=⟨λi _=>i<n,λi H x H'=>H'=H/\x = .int ((n:Int)-1+i*(-1)),λi _=>n<=i⟩
theorem yG {P:Program} {w:World} {K:PySem.W.Frag} {tg:Expr} (it:Addr) (n:Nat):Turn P w K tg (MX n) [it] it (λi h=>IsRangeIter h it ((n:Int)-1+(i:Nat)*(-1)) ((n:Int)-(i:Nat)) (-1)) where
 mem:=by simp
 obj:=λi h st b hb=>by
  have e:b=it:=by simpa using hb
  subst e
  exact⟨_,st,λv z=>by have z':Data.fields _=Data.cell v:=z;cases z'⟩
 keep:=λi h h' st k=>k it (by simp) _ st
 item:=by
  intro X hP hw hK hc i pins s σ H E I hf st hg
  subst hP hw hK
  obtain⟨f0,f1,f2,f3,f4,f5⟩:=hf it (by simp)
  have W:=Walks.range (prog:=X.prog) (w:=X.w) (I.ok.hd hc) it ((n:Int)-1) (-1) n
  refine W.item i s _ _ hg st λv h' tk hv st' kk=>?_
  obtain⟨t,rfl⟩:=hv
  have I1:Inv X pins σ H { s with heap:=h',toks:=tk }:=I.turned (λb o hb e=>kk b o (by simpa using hb) e) f0 f1 f3 f4 f5
  exact⟨_,rfl,tR (s:={ s with heap:=h',toks:=tk }) (n:="range_iterator") st' rfl rfl (by decide) ⟨.int ((n:Int)-1+i*(-1)),H,I1,⟨t,rfl⟩,⟨rfl,rfl⟩,st',λb hb=>(hf b hb).1⟩⟩
 done:=by
  intro X hP hw hK hc i pins s σ H E I hf st hg
  subst hP hw hK
  obtain⟨f0,f1,f2,f3,f4,f5⟩:=hf it (by simp)
  exact wpAny_pyNext_range_end (I.ok.hd hc) st (by have:n<=i:=hg;omega) λh' eb=>⟨rfl,I.turned (t':=s.toks) (λb o hb e=>eb b o hb e) f0 f1 f3 f4 f5⟩
 self:=λ_ _ _ _ _ st h=>wpAny_pyIter_rangeiter st h
section
variable {X:Cx} {tg a:Expr} {t:RA} {pos p pos2 p2:Pos}
theorem IG {H0:Hp} (n:Nat):yN X (MX n) (cD 0 n).reverse H0:=λi H kp=>by
 have hl:(cD 0 n).length=n:=by simp[cD]
 refine⟨λd e=>?_,λhl2=>by show n<=i;rw[List.length_reverse,hl] at hl2;exact hl2⟩
 by_cases hi:i<n
 ·rw[List.getElem?_reverse (by omega),hl] at e
  unfold cD at e
  rw[List.getElem?_map,List.getElem?_range (by omega)] at e
  cases e
  refine⟨hi,λx H' y=>by
   obtain⟨rfl,rfl⟩:=y
   refine⟨Same.refl _,?_⟩
   rw[show (n:Int)-1+(i:Int)*(-1)=0+((n-1-i:Nat):Int) by omega]
   exact .int _⟩
 ·rw[List.getElem?_eq_none (by rw[List.length_reverse,hl];omega)] at e;cases e
structure RvOk (j:Int):Prop where
 lo:0<=j
 hi:j<2 ^ 62
noncomputable def AF (t:RA):RA:=λρ Q=>t ρ λds=>match ds with
 | [.int j]=>RvOk j/\Q (cD 0 j.toNat).reverse
 | _=>False
theorem HS (hm:X.mg "reversed" = none) (hm2:X.mg "range" = none) (ha:DA X [a] t) (hg:Gl X "reversed":=by rfl) (hg2:Gl X "range":=by rfl) (hs2:starEach [a] X.env=[(false,eval a X.env)]:=by rfl)
  (hs:starEach [.Call (.Name "range" p2) [a] [] pos2] X.env=[(false,eval (.Call (.Name "range" p2) [a] [] pos2) X.env)]:=by rfl) (hn:starEach [] X.env=[]:=by rfl) :
  DI X tg (.Call (.Name "reversed" p) [.Call (.Name "range" p2) [a] [] pos2] [] pos) (AF t):=by
 intro pins s σ H R I hh_0
 obtain⟨ρ,P,st,q,kk⟩:=hh_0
 refine Call_ (eC I hg hm lM (PyProof.Rows.callWith_type1 ?_ (by rw[hs,hn]) (by rw[hn];rfl)))
 rw[hs]
 show wpAny _ _ (spliced ((false,eval (.Call (.Name "range" p2) [a] [] pos2) X.env)::backTo pos [])) _ _ s
 refine Calls.spliced_cons (wpAny_Call_Name_kw (eC I hg2 hm2 boot_range ?_))
 refine PyProof.Rows.callWith_type1 (thn (ha pos2 pins s σ H (λvs H1=>∃j:Int,vs=[.int j]/\Same H H1/\RvOk j/\P (cD 0 j.toNat).reverse) I ⟨ρ,_,st,q,λds vs H1 hd s1 r=>?_⟩) λus s1 ⟨vs,H1,I1,r1,q1⟩=>?_) hs2 (by rfl)
 ·split at hd
  ·rename_i j
   rw[Reps.ints_inv (ns:=[j]) r]
   exact⟨j,rfl,s1,hd.1,hd.2⟩
  ·exact hd.elim
 obtain⟨j,rfl,s01,hj,hp⟩:=q1
 obtain⟨u,rfl,⟨tk,rfl⟩⟩:=kW r1
 refine call_range_1 (Calls.spliced_nil ?_)
 have I2:Inv X pins σ H1 { s1 with heap:=s1.heap.push { cls:=.type "range",data:=.fields #[.int 0 s1.toks,.int j tk,.int 1 (s1.toks+1)] },toks:=s1.toks+1+1 }:=I1.kept λb o e=>Heap.get?_push_of_some _ e
 have hR:IsRange (s1.heap.push { cls:=.type "range",data:=.fields #[.int 0 s1.toks,.int j tk,.int 1 (s1.toks+1)] }) s1.heap.objs.size 0 j 1 s1.toks tk (s1.toks+1):=IsRange.new ..
 generalize hh:s1.heap.push { cls:=.type "range",data:=.fields #[.int 0 s1.toks,.int j tk,.int 1 (s1.toks+1)] } = h1 at I2 hR
 refine lG hj.lo hj.hi hR ?_
 have hit:({ s1 with heap:=h1.push (mM j),toks:=s1.toks+1+1 }:Shared).heap.get? h1.objs.size=some (mM j):=Heap.get?_push_size _ rfl
 have en:((j.toNat:Nat):Int)=j:=Int.toNat_of_nonneg hj.lo
 have hit2:IsRangeIter ({ s1 with heap:=h1.push (mM j),toks:=s1.toks+1+1 }:Shared).heap h1.objs.size (((j.toNat:Nat):Int)-1+((0:Nat):Int)*(-1)) (((j.toNat:Nat):Int)-((0:Nat):Int)) (-1):=by
  rw[en,show j-1+((0:Nat):Int)*(-1)=j-1 by omega,show j-((0:Nat):Int)=j by omega]
  exact hit
 refine wpAny_pyIter_rangeiter hit2 ⟨h1.objs.size,[h1.objs.size],_,_,H1,rfl,I2.kept (t':=s1.toks+1+1) λb o e=>Heap.get?_push_of_some _ e,yG _ j.toNat,hit2,λb hb=>?_,kk _ _ H1 hp s01 (IG _)⟩
 rw[List.mem_singleton.mp hb];exact I2.fpOk (Nat.le_refl _) (I2.hok.fresh (Nat.le_refl _))
end
noncomputable def yW:R22:=λx y Q=>match x,y with
 | .lst xs,.lst ys=>xs.length=ys.length/\match eqL (eqF 5) xs ys with
  | some b=>Q (.bl !b)
  | none=>False
 | _,_=>False
section
variable {X:Cx}
theorem zQ {k:Nat} (hr:Room k X.A):OpD X (compareOp .NotEq) yW:=by
 intro pins s σ H x y v u Q I rx ry hh_0
 obtain⟨d,e,P,r1,r2,q,kk⟩:=hh_0
 have hu:=hr.un
 unfold yW at q
 split at q
 ·rename_i xs ys
  obtain⟨hl,q⟩:=q
  split at q
  ·rename_i b h
   obtain⟨a,vs,rfl,h1,q1⟩:=r1.lst
   obtain⟨c,ws,rfl,h2,q2⟩:=r2.lst
   cases rx;cases ry
   obtain⟨its,rv,ht,_⟩:=I.list h1
   obtain⟨its2,rv2,ht2,_⟩:=I.list h2
   have l1:xs.length=its.length:=q1.length.trans rv.length
   have l2:ys.length=its2.length:=q2.length.trans rv2.length
   have rc:SeqAt.RcNeAt X.A s (.ref a) (.ref c) (!b):=by
    have:=SeqAt.RcNeAt.lists (A:=X.A) (s:=s) (e:=λj=>match xs[j]?,ys[j]? with | some x,some y=>(eqF 5 x y).getD false | _,_=>false) ht.isList ht2.isList (by simp;omega) (by omega) (λj g1 g2=>?_)
    ·have al:=lD h
     simp only[List.size_toArray,<-l1] at this
     rw[<-hl,Nat.min_self,beq_self_eq_true,Bool.and_true] at al
     rw[<-al]
     exact this
    ·simp only[List.size_toArray] at g1 g2
     have e1:xs[j]? = some (xs[j]'(by omega)):=List.getElem?_eq_getElem _
     have e2:ys[j]? = some (ys[j]'(by omega)):=List.getElem?_eq_getElem _
     obtain⟨k,hk⟩:=nA h j _ _ e1 e2
     rw[e1,e2]
     simp only[hk,Option.getD_some]
     obtain⟨v1,f1,f2⟩:=q1.get e1
     obtain⟨v2,f3,f4⟩:=q2.get e2
     obtain⟨u1,g3,g4⟩:=rv.get f1
     obtain⟨u2,g5,g6⟩:=rv2.get f3
     have a1:its.toArray[j]=u1:=by
      have:=List.getElem?_eq_getElem g1
      rw[this] at g3
      simpa using Option.some.inj g3
     have a2:its2.toArray[j]=u2:=by
      have:=List.getElem?_eq_getElem g2
      rw[this] at g5
      simpa using Option.some.inj g5
     rw[a1,a2]
     exact (vB I 5 hk f2 f4 g4 g6 (by show X.A.units+1+5<cLine;omega)).2
   exact rc _ _ _ _ ⟨.bl _,H,I,rfl,kk _ _ H q (Same.refl H) (.bl _)⟩
  ·exact q.elim
 ·exact q.elim
end
noncomputable def dG:RS :=
 aV (bC 4 (r2 bU (aD 2) (aD 3)))
 (aV (bC 2 (aK 3))
 (bC 3 (aK 4)))
noncomputable def dB:RS :=
 aV (bC 2 (rCB pR (aA (aK 0) (aG))))
 (aV (bC 3 (rCB pR (aA (aK 1) (aG))))
 (aV (sE (bD (r2 (fH true) (aD 3) (rC (.int 0)))) (dG))
 (bN (aK 2))))
noncomputable def nJ (F_shared_divisor:FD):RS :=
 aV (cU (bD (r2 (fH false) (aD 1) (rC (.int 0)))) ((λ_ _=>False)) (bS))
 (aV (bC 2 (aU F_shared_divisor (aA (aK 0) (aA (aK 1) (aG)))))
 (aV (cU (bD (r2 (iB λi j=>decide (i<j)) (aD 1) (rC (.int 0)))) (bC 2 (r1 qW (aD 2))) (bS))
 (bN (fV (aA (r2 cH (aD 0) (aD 2)) (aA (r2 cH (aD 1) (aD 2)) (aG)))))))
noncomputable def dR:RS :=
 aV (cU (bD (r2 (iB λi j=>decide (i<j)) (aD 1) (r1 eZ (aD 0)))) (bN (r2 dIx (aD 0) (aD 1))) (bS))
 (bN (rC (.int 0)))
noncomputable def fF:RS :=
 bN (nG (r1 (mV "int") (aK 0)) (pH (r1 (mV "bool") (aK 0))))
noncomputable def eD:RS :=
 xT 0 1 (aA (aK 1) (aA (r2 bU (aD 0) (aD 1)) (aG)))
noncomputable def dS:RS :=
 aV (bC 0 (rCB pR (aA (aK 0) (aG))))
 (aV (bC 1 (rCB pR (aA (aK 1) (aG))))
 (aV (sE (bD (r2 (iB λi j=>decide (j<i)) (aD 1) (rC (.int 0)))) (eD))
 (bN (aK 0))))
noncomputable def eP (QD:FD):RS :=
 aV (bC 2 (aU QD (aA (aK 0) (aA (aK 1) (aG)))))
 (bN (fV (aA (r2 cH (aD 0) (aD 2)) (aA (r2 cH (aD 1) (aD 2)) (aG)))))
noncomputable def cP (F_shared_divisor:FD):RS :=
 bN (r2 cT (aD 0) (r2 cH (aD 1) (aU F_shared_divisor (aA (aK 0) (aA (aK 1) (aG))))))
noncomputable def gH:RS :=
 aV (bC 4 (rC (.int 0)))
 (aV (cU (bD (r2 (iB λi j=>decide (j<i)) (r1 eZ (aD 0)) (rC (.int 0)))) (bC 4 (r2 bU (r2 dIx (aD 0) (r2 bU (aD 3) (rCB kG (aA (r1 eZ (aD 0)) (aA (rC (.int 63)) (aG)))))) (r2 bK (r2 jW (rC (.int 10)) (rC (.int 60))) (rC (.int 7))))) (bS))
 (aV (bC 5 (r2 bU (aD 3) (aD 1)))
 (kO 2 (r2 bU (r2 bK (r2 bK (r2 cT (r2 dIx (aD 2) (aD 5)) (rC (.int 48271))) (aD 4)) (r2 cT (aD 3) (aD 3))) (r2 bK (r2 jW (rC (.int 10)) (rC (.int 60))) (rC (.int 7)))) (aK 5))))
noncomputable def nI (RX:FD):RS :=
 aV (bC 2 (aU RX (aA (r2 cH (r2 dIx (aD 0) (rC (.int 0))) (rC (.int 4))) (aA (r2 dIx ((λρ Q=>(dM (aA (r2 bK (rC (.int 2)) (r2 bU (r2 dIx (aD 0) (rC (.int 0))) (rC (.int 3)))) (aA (r2 bK (rC (.int 2)) (r2 bU (r2 dIx (aD 0) (rC (.int 0))) (rC (.int 20)))) (aG)))) ρ λds=>Q (.lst ds))) (r2 cH (r2 bU (r2 cH (r2 dIx (aD 0) (rC (.int 2))) (rC (.int 9))) (rC (.int 4))) (rC (.int 3)))) (aG)))))
 (aV (bC 3 (aU RX (aA (r2 cH (r2 dIx (aD 0) (rC (.int 1))) (rC (.int 4))) (aA (r2 bK (rC (.int 1)) (r2 bU (r2 dIx (aD 0) (rC (.int 1))) (rC (.int 3)))) (aG)))))
 (aV (bC 4 (r2 bK (r2 bK (r2 cT (rC (.int 2)) (r1 NE ((λρ Q=>(eM (riL (r2 fG (aD 2) (aD 3))) 1 [] (aR 0) (r2 cT (aD 0) (aD 0))) ρ λds=>Q (.lst ds))))) (rC (.int 1))) (r2 bU (r2 dIx (aD 0) (rC (.int 2))) (rC (.int 9)))))
 (aV (bC 5 (r2 fG ((λρ Q=>(eM (riL (aK 2)) 1 [] (aR 0) (fV (aA (aK 0) (aA (r2 cT (aD 0) (aD 0)) (aG))))) ρ λds=>Q (.lst ds))) ((λρ Q=>(eM (sF (aK 3)) 1 [4] (aR 0) (fV (aA (aK 0) (aA (r2 fA (aD 1) (r2 cT (aD 0) (aD 0))) (aG))))) ρ λds=>Q (.lst ds)))))
 (aV (bC 6 (r2 bK (rC (.int 1)) (r2 bU (r2 dIx (aD 0) (rC (.int 3))) (rC (.int 3)))))
 (aV (bC 7 (r2 fA (r2 bU (r2 cH (r2 dIx (aD 0) (rC (.int 3))) (rC (.int 3))) (rC (.int 7))) (rC (.int 3))))
 (aV (bC 8 (r2 fA (r2 bU (r2 dIx (aD 0) (rC (.int 4))) (rC (.int 7))) (rC (.int 3))))
 (aV (bC 9 (r2 bK (r2 bK (r2 cH (r2 cT (aD 7) (aD 8)) (aD 6)) (rC (.int 1))) (r2 bU (r2 cH (r2 dIx (aD 0) (rC (.int 4))) (rC (.int 7))) (rC (.int 3)))))
 (aV (bC 10 (fV (aA (r2 fA (r2 bU (r2 dIx (aD 0) (rC (.int 5))) (r2 bK (r2 cT (rC (.int 2)) (aD 1)) (rC (.int 1)))) (aD 1)) (aA (r2 fA (r2 bU (r2 dIx (aD 0) (rC (.int 6))) (r2 bK (r2 cT (rC (.int 2)) (aD 1)) (rC (.int 1)))) (aD 1)) (aG)))))
 (bN ((λρ Q=>(eM (riL (aK 5)) 2 [6,7,10,8,9] (hX 2 (cQ (aR 0) (cQ (aR 1) (hV)))) (fV (aA (r2 bK (r2 bK (r2 cT (aD 2) (aD 0)) (r2 cT (aD 3) (aD 1))) (r2 dIx (aD 4) (rC (.int 0)))) (aA (r2 bK (r2 bK (r2 cT (aD 5) (aD 0)) (r2 cT (aD 6) (aD 1))) (r2 dIx (aD 4) (rC (.int 1)))) (aG))))) ρ λds=>Q (.lst ds))))))))))))
noncomputable def fD:RS :=
 aV (bC 2 (rC (.int 0)))
 (aV (cU (bD (r2 (iB λi j=>decide (j<i)) (r1 eZ (aD 0)) (rC (.int 0)))) (bC 2 (r2 dIx (aD 0) (r2 bU (aD 1) (rCB kG (aA (rC (.int 63)) (aA (r1 eZ (aD 0)) (aG))))))) (bS))
 (aV (bC 3 (r2 bK (r2 bU (aD 2) (r2 jW (rC (.int 10)) (rC (.int 18)))) (r2 cT (rC (.int 48271)) (r2 bK (aD 1) (rC (.int 1))))))
 (bN (r2 bU (r2 cT (aD 3) (aD 3)) (rC (.int 2147483647))))))
noncomputable def gJ (QA:FD) (PZ:FD):RS :=
 aV (bC 3 (r2 bK (rC (.int 1)) (r2 bU (aU PZ (aA (aK 0) (aA (r2 bK (rC (.int 100)) (aD 2)) (aG)))) (rC (.int 3)))))
 (aV (cU (xP (bD (r2 (fH false) (aD 2) (rC (.int 0)))) (bD (r2 (fH false) (r2 bU (aU QA (aA (aK 0) (aA (rC (.int 2)) (aG)))) (rC (.int 8))) (rC (.int 1))))) (bC 3 (r2 bK (rC (.int 1)) (r2 bU (r2 cH (aU QA (aA (aK 0) (aA (rC (.int 2)) (aG)))) (rC (.int 8))) (rC (.int 40))))) (bS))
 (eY 1 (r2 bK (r2 dIx (aD 1) (r1 qW (rC (.int 1)))) (aD 3))))
noncomputable def dY (QA:FD) (PZ:FD):RS :=
 aV (cK 1 (dM (aA (r2 fA (r2 bU (aU QA (aA (aK 0) (aA (rC (.int 0)) (aG)))) (rC (.int 2001))) (rC (.int 1000))) (aG))))
 (aV (cU (bD (r2 (fH false) (r2 bU (r2 cH (aU QA (aA (aK 0) (aA (rC (.int 1)) (aG)))) (rC (.int 4))) (rC (.int 4))) (rC (.int 1)))) (cK 1 (dM (aA (r2 fA (r2 bU (aU QA (aA (aK 0) (aA (rC (.int 0)) (aG)))) (r2 cT (rC (.int 2)) (r2 jW (rC (.int 10)) (rC (.int 50))))) (r2 jW (rC (.int 10)) (rC (.int 50)))) (aG)))) (bS))
 (aV (cI (oS (aA (r2 bK (rC (.int 1)) (r2 bU (aU QA (aA (aK 0) (aA (rC (.int 1)) (aG)))) (rC (.int 4)))) (aG))) (aR 2) (gJ QA PZ))
 ((λE ρ=>(bN (aK 1)) E (eF 1 ρ)))))
noncomputable def gF (PZ:FD):RS :=
 aV (bC 4 (aU PZ (aA (aK 0) (aA (r2 bK (r2 cT (rC (.int 9)) (aD 2)) (aD 6)) (aG)))))
 (aV (bC 7 (r2 dIx ((λρ Q=>(dM (aA (rC (.int 0)) (aA (rC (.int 1)) (aA (r2 bU (r2 cH (aD 4) (rC (.int 4))) (rC (.int 5))) (aA (r2 bU (r2 cH (aD 4) (rC (.int 4))) (r2 jW (rC (.int 10)) (rC (.int 8)))) (aG)))))) ρ λds=>Q (.lst ds))) (r2 bU (aD 4) (rC (.int 4)))))
 (eY 5 (r2 bK (r2 dIx (aD 5) (r1 qW (rC (.int 1)))) (aD 7))))
noncomputable def dU (QA:FD) (PZ:FD):RS :=
 aV (bC 3 (aU QA (aA (aK 0) (aA (r2 bK (rC (.int 5)) (aD 2)) (aG)))))
 (aV (bC 4 (r2 fA (r2 bU (aD 3) (rC (.int 41))) (rC (.int 20))))
 (aV (cU (bD (r2 (fH false) (r2 bU (aU QA (aA (aK 0) (aA (rC (.int 3)) (aG)))) (rC (.int 4))) (rC (.int 1)))) (bC 4 (r2 fA (r2 bU (aD 3) (r2 cT (rC (.int 2)) (r2 jW (rC (.int 10)) (rC (.int 58))))) (r2 jW (rC (.int 10)) (rC (.int 58))))) (bS))
 (aV (cK 5 (dM (aA (aK 4) (aG))))
 (aV (cI (xY (aA (rC (.int 1)) (aA (aK 1) (aG)))) (aR 6) (gF PZ))
 ((λE ρ=>(bN (aK 5)) E (eF 5 ρ)))))))
noncomputable def eO (QA:FD) (QL:FD) (QM:FD):RS :=
 aV (bC 1 (aU QM (aA (aK 0) (aG))))
 (aV (bC 2 (r2 bK (rC (.int 2)) (r2 cT (rC (.int 2)) (r2 bU (aU QA (aA (aK 0) (aA (rC (.int 4)) (aG)))) (rC (.int 3))))))
 (bN (fV (aA (aK 1) (aA ((λρ Q=>(eM (oS (aA (r1 eZ (aD 1)) (aG))) 1 [0,2] (aR 0) (aU QL (aA (aK 1) (aA (aK 2) (aA (aK 0) (aG)))))) ρ λds=>Q (.lst ds))) (aG))))))
noncomputable def jH (QT:FD):RS :=
 aV (bC 5 (r2 fA (r2 dIx (aD 0) (r2 bK (aD 2) (rC (.int 1)))) (r2 dIx (aD 0) (aD 2))))
 (aV (bC 6 (r2 dIx (r2 dIx (aD 1) (aD 2)) (aD 4)))
 (bN (aU QT (aA (r2 bK (r2 cT (aD 6) (r2 fA (aD 5) (aD 3))) (r2 cT (r2 dIx (r2 dIx (aD 1) (r2 bK (aD 2) (rC (.int 1)))) (aD 4)) (aD 3))) (aA (aK 5) (aG))))))
noncomputable def fB (QK:FD):RS :=
 aV (eY 6 (aU QK (aA (aK 0) (aA (aK 1) (aA (aK 3) (aA (aK 4) (aA (aK 7) (aG))))))))
 (eY 6 (aU QK (aA (aK 0) (aA (aK 1) (aA (aK 3) (aA (r2 bK (aD 4) (rC (.int 1))) (aA (aK 7) (aG))))))))
noncomputable def iR (QK:FD):RS :=
 aV (cK 6 (dM (aA (r2 bK (r2 dIx (aD 0) (aD 3)) (aD 4)) (aG))))
 (aV (cI (riL ((λρ Q=>(dM (aA (aK 5) (aA (r2 bK (aD 5) (rC (.int 1))) (aG)))) ρ λds=>Q (.lst ds)))) (aR 7) (fB QK))
 (cU (rOr (bD (r2 (dNe) (r2 dIx (aD 6) (rC (.int 1))) (r2 dIx (aD 6) (rC (.int 3))))) (bD (r2 (dNe) (r2 dIx (aD 6) (rC (.int 2))) (r2 dIx (aD 6) (rC (.int 4)))))) (eY 2 (r1 iY (aD 6))) (bS)))
noncomputable def iS (QK:FD):RS :=
 cI (kR (aA (rC (.int 0)) (aA (r1 eZ (r2 dIx (aD 1) (rC (.int 0)))) (aA (rC (.int 2)) (aG))))) (aR 5) (iR QK)
noncomputable def iT (QK:FD):RS :=
 cI (oS (aA (r2 fA (r2 dIx (aD 0) (r2 bK (aD 3) (rC (.int 1)))) (r2 dIx (aD 0) (aD 3))) (aG))) (aR 4) (iS QK)
noncomputable def fC (QK:FD):RS :=
 aV (cK 2 (dM (aG)))
 (aV (cI (oS (aA (r2 fA (r1 eZ (aD 0)) (rC (.int 1))) (aG))) (aR 3) (iT QK))
 ((λE ρ=>(bN (aK 2)) E (eF 2 ρ))))
noncomputable def cV (F_shared_multiple:FD):RS :=
 bC 1 (aU F_shared_multiple (aA (aK 1) (aA (aK 2) (aG))))
noncomputable def bO (F_shared_multiple:FD):RS :=
 aV (bC 1 (rC (.int 1)))
 (aV (cI (riL (aK 0)) (aR 2) (cV F_shared_multiple))
 (bN (aK 1)))
noncomputable def kP:RS :=
 aV (cU (bD (r2 (iB λi j=>decide (i<j)) (r2 dIx (aD 2) (rC (.int 0))) (r2 dIx (aD 3) (rC (.int 0))))) (eY 1 (fV (aA (aK 2) (aA (aK 3) (aG))))) (bS))
 (cU (bD (r2 (iB λi j=>decide (i<j)) (r2 dIx (aD 3) (rC (.int 0))) (r2 dIx (aD 2) (rC (.int 0))))) (eY 1 (fV (aA (aK 3) (aA (aK 2) (aG))))) (bS))
noncomputable def hE:RS :=
 aV (cK 1 (dM (aG)))
 (aV (cI (gK (aK 0) (r2 fG (jG (aD 0) (eN (rC (.int 1))) (bZ)) (jG (aD 0) (bZ) (eN (rC (.int 1)))))) (hX 2 (cQ (aR 2) (cQ (aR 3) (hV)))) (kP))
 ((λE ρ=>(bN (aK 1)) E (eF 1 ρ))))
noncomputable def cX:RS :=
 xR 1 (aK 4) (aK 3)
noncomputable def cY:RS :=
 cI (BM (aA (r2 dIx (r2 dIx (aD 3) (rC (.int 0))) (rC (.int 0))) (aA (r2 dIx (r2 dIx (aD 3) (rC (.int 1))) (rC (.int 0))) (aG)))) (aR 4) (cX)
noncomputable def cZ (F_sides_of:FD):RS :=
 cI (riL (aU F_sides_of (aA (aK 2) (aG)))) (aR 3) (cY)
noncomputable def bQ (F_sides_of:FD):RS :=
 aV (xS 1)
 (aV (cI (riL (aK 0)) (aR 2) (cZ F_sides_of))
 ((λE ρ=>(bN (aK 1)) E (eF 1 ρ))))
noncomputable def hU:RS :=
 bN (r2 fA (r2 dIx (r2 dIx (aD 0) (rC (.int 1))) (rC (.int 0))) (r2 dIx (r2 dIx (aD 0) (rC (.int 0))) (rC (.int 0))))
noncomputable def dH (F_width_of:FD):RS :=
 aV (bC 3 (r2 dIx (aD 0) (rC (.int 0))))
 (aV (bC 4 (aU F_width_of (aA (aK 0) (aG))))
 (aV (bC 5 (r2 cT (r2 fA (r2 dIx (r2 dIx (aD 0) (rC (.int 1))) (rC (.int 1))) (r2 dIx (aD 3) (rC (.int 1)))) (r2 fA (aD 1) (r2 dIx (aD 3) (rC (.int 0))))))
 (bN (r2 cT (r2 bK (r2 cT (r2 dIx (aD 3) (rC (.int 1))) (aD 4)) (aD 5)) (r2 cH (aD 2) (aD 4))))))
noncomputable def cW:RS :=
 cU (bD (r2 (iB λi j=>decide (i<j)) (r2 dIx (aD 5) (rC (.int 1))) (r2 dIx (aD 4) (rC (.int 1))))) ((λ_ _=>False)) (bS)
noncomputable def bP (F_height_at:FD):RS :=
 aV (cK 3 (eM (riL (aK 0)) 1 [1,2] (aR 0) (fV (aA (aU F_height_at (aA (aK 0) (aA (aK 1) (aA (aK 2) (aG))))) (aA (aU F_height_at (aA (aK 0) (aA (r2 bK (aD 1) (rC (.int 1))) (aA (aK 2) (aG))))) (aG))))))
 (aV (cK 3 (vO (aD 3)))
 (aV ((λE ρ=>(cI (gK (aK 3) (jG (aD 3) (eN (rC (.int 1))) (bZ))) (hX 2 (cQ (aR 4) (cQ (aR 5) (hV)))) (cW)) E (eF 3 ρ)))
 ((λE ρ=>(bN (aK 3)) E (eF 3 ρ)))))
noncomputable def eE (cM:FD):RS :=
 cU (bD (r2 (dNe) (aD 5) (aD 6))) (aV (cK 7 (eM (riT (r2 fG (aD 5) (aD 6))) 1 [2] (aR 0) (aU cM (aA (aK 0) (aA (aK 1) (aG))))))
 (eY 4 (fV (aA (aK 1) (aA (r2 dIx (aD 7) (rC (.int 0))) (aA (r2 dIx (aD 7) (rC (.int 1))) (aA (r2 dIx (aD 7) (rC (.int 2))) (aA (r2 dIx (aD 7) (rC (.int 3))) (aG))))))))) (bS)
noncomputable def cF (F_lowest_multiple:FD) (F_ordered_heights:FD) (cM:FD) (F_width_of:FD):RS :=
 aV (bC 2 (aU F_lowest_multiple (aA ((λρ Q=>(eM (riL (aK 0)) 1 [] (aR 0) (aU F_width_of (aA (aK 0) (aG)))) ρ λds=>Q (.lst ds))) (aG))))
 (aV (bC 3 (aU F_ordered_heights (aA (aK 0) (aA (aK 1) (aA (aK 2) (aG))))))
 (aV (cK 4 (dM (aG)))
 (aV (cI (gK ((λρ Q=>(zY 0 (aD 3)) ρ λds=>Q (.lst ds))) ((λρ Q=>(zY 1 (aD 3)) ρ λds=>Q (.lst ds)))) (hX 2 (cQ (aR 5) (cQ (aR 6) (hV)))) (eE cM))
 ((λE ρ=>(bN (aK 4)) E (eF 4 ρ))))))
noncomputable def eQ:RS :=
 aV (cK 5 (eM (oS (aA (r1 eZ (aD 0)) (aG))) 1 [0,1,2] (aR 0) (fV (aA (r2 dIx (aD 1) (aD 0)) (aA (r2 dIx (r2 dIx (aD 2) (aD 0)) (aD 3)) (aG))))))
 (aV (bC 5 (r2 fG (aD 5) ((λρ Q=>(eM (AF (aA (r1 eZ (aD 0)) (aG))) 1 [0,1,3] (aR 0) (fV (aA (r2 dIx (aD 1) (aD 0)) (aA (r2 dIx (r2 dIx (aD 2) (aD 0)) (aD 3)) (aG))))) ρ λds=>Q (.lst ds)))))
 (aV (cU (bD (r2 (fH false) (r2 bU (aD 4) (rC (.int 2))) (rC (.int 1)))) (cK 5 (sC (aD 5))) (bS))
 (aV (bC 6 (r2 bU (r2 cH (aD 4) (rC (.int 2))) (r1 eZ (aD 5))))
 (bN (r2 fG (jG (aD 5) (eN (aK 6)) (bZ)) (jG (aD 5) (bZ) (eN (aK 6))))))))
noncomputable def iU (PZ:FD) (QU:FD):RS :=
 aV (bC 7 (r2 dIx ((λρ Q=>(dM (aA (fV (aA (r2 cT (rC (.int 2)) (aD 6)) (aA (r2 bK (r2 cT (rC (.int 2)) (aD 6)) (rC (.int 1))) (aG)))) (aA (fV (aA (aK 6) (aA (r2 fA (r2 fA (aD 3) (rC (.int 1))) (aD 6)) (aG)))) (aG)))) ρ λds=>Q (.lst ds))) (rCB uX (aA (aK 4) (aG)))))
 (eY 5 (aU QU (aA (aK 1) (aA (aK 2) (aA (r2 dIx (aD 7) (rC (.int 0))) (aA (r2 dIx (aD 7) (rC (.int 1))) (aA (aU PZ (aA (aK 0) (aA (r2 bK (rC (.int 201)) (aD 6)) (aG)))) (aG))))))))
noncomputable def fE (PZ:FD) (QU:FD):RS :=
 aV (bC 3 (r1 eZ (r2 dIx (aD 2) (rC (.int 0)))))
 (aV (bC 4 (r2 (fH false) (r2 bU (aU PZ (aA (aK 0) (aA (rC (.int 200)) (aG)))) (rC (.int 2))) (rC (.int 1))))
 (aV (cK 5 (dM (aG)))
 (aV (cI (oS (aA (r2 cH (aD 3) (rC (.int 2))) (aG))) (aR 6) (iU PZ QU))
 ((λE ρ=>(bN (aK 5)) E (eF 5 ρ))))))
noncomputable def cO (QD:FD) (QE:FD):RS :=
 aV (cU (rOr (jF (bD (r1 (mV "tuple") (aK 0)))) (rOr (bD (r2 (fH true) (r1 eZ (aD 0)) (rC (.int 2)))) (rOr (jF (bD (aU QE (aA (r2 dIx (aD 0) (rC (.int 0))) (aG))))) (jF (bD (aU QE (aA (r2 dIx (aD 0) (rC (.int 1))) (aG)))))))) (bN (rC (.bl false))) (bS))
 (bN (nG (r2 (iB λi j=>decide (j<i)) (r2 dIx (aD 0) (rC (.int 1))) (rC (.int 0))) (r2 (fH false) (aU QD (aA (r2 dIx (aD 0) (rC (.int 0))) (aA (r2 dIx (aD 0) (rC (.int 1))) (aG)))) (rC (.int 1)))))
noncomputable def gG (QH:FD):RS :=
 cU (jF (bD (aU QH (aA (aK 1) (aG))))) (bN (rC (.bl false))) (bS)
noncomputable def dW (QH:FD) (QE:FD):RS :=
 aV (cU (rOr (jF (bD (r1 (mV "tuple") (aK 0)))) (rOr (bD (r2 (fH true) (r1 eZ (aD 0)) (rC (.int 5)))) (jF (bD (aU QE (aA (r2 dIx (aD 0) (rC (.int 0))) (aG))))))) (bN (rC (.bl false))) (bS))
 (aV (cI (riT (jG (aD 0) (eN (rC (.int 1))) (bZ))) (aR 1) (gG QH))
 (bN (rC (.bl true))))
noncomputable def fY (PZ:FD):RS :=
 aV (bC 3 (aU PZ (aA (aK 0) (aA (rC (.int 210)) (aG)))))
 (aV (bC 4 (r2 bU (r2 cH (aD 3) (rC (.int 8))) (r2 fA (r1 eZ (aD 1)) (rC (.int 1)))))
 (aV (bC 5 (r2 bU (r2 cH (aD 3) (rC (.int 64))) (r1 eZ (r2 dIx (aD 2) (rC (.int 0))))))
 (aV (bC 6 (fV (aA (r2 dIx (aD 1) (aD 4)) (aA (r2 dIx (r2 dIx (aD 2) (aD 4)) (aD 5)) (aG)))))
 (aV (bC 7 (r2 bU (aD 3) (rC (.int 8))))
 (aV (cU (bD (r2 (fH false) (aD 7) (rC (.int 0)))) (bN ((λρ Q=>(dM (aA ((λρ Q=>(dM (aG)) ρ λds=>Q (.lst ds))) (aG))) ρ λds=>Q (.lst ds)))) (bS))
 (aV (cU (bD (r2 (fH false) (aD 7) (rC (.int 1)))) (bN ((λρ Q=>(dM (aA ((λρ Q=>(dM (aA (aK 6) (aG))) ρ λds=>Q (.lst ds))) (aG))) ρ λds=>Q (.lst ds)))) (bS))
 (aV (cU (bD (r2 (fH false) (aD 7) (rC (.int 2)))) (bN ((λρ Q=>(dM (aA ((λρ Q=>(dM (aA (aK 6) (aA (fV (aA (r2 dIx (aD 6) (rC (.int 0))) (aA (r2 bK (r2 dIx (aD 6) (rC (.int 1))) (aD 3)) (aG)))) (aG)))) ρ λds=>Q (.lst ds))) (aG))) ρ λds=>Q (.lst ds)))) (bS))
 (aV (cU (bD (r2 (fH false) (aD 7) (rC (.int 3)))) (bN ((λρ Q=>(dM (aA ((λρ Q=>(dM (aA (aK 6) (aA (fV (aA (r2 dIx (aD 1) (r2 bK (aD 4) (rC (.int 1)))) (aA (r2 dIx (r2 dIx (aD 2) (r2 bK (aD 4) (rC (.int 1)))) (aD 5)) (aG)))) (aG)))) ρ λds=>Q (.lst ds))) (aG))) ρ λds=>Q (.lst ds)))) (bS))
 (bN ((λρ Q=>(dM (aG)) ρ λds=>Q (.lst ds))))))))))))
noncomputable def gI (QI:FD):RS :=
 cU (jF (bD (aU QI (aA (aK 2) (aG))))) (bN (rC (.bl false))) (bS)
noncomputable def dX (QI:FD):RS :=
 aV (cU (rOr (jF (bD (r1 (mV "list") (aK 0)))) (bD (r2 (yW) (aD 0) (aD 1)))) (bN (rC (.bl false))) (bS))
 (aV (cI (riL (aK 0)) (aR 2) (gI QI))
 (bN (rC (.bl true))))
noncomputable def pI (F_column_bands:FD):RS :=
 nH 2 (aU F_column_bands (aA (r2 BV (aK 1) (aK 3)) (aA (aK 3) (aG))))
noncomputable def xW (F_column_bands:FD) (F_sides_by_column:FD):RS :=
 aV (bC 1 (aU F_sides_by_column (aA (aK 0) (aG))))
 (aV (cK 2 (dM (aG)))
 (aV (cI (riL ((λρ Q=>(sD ((λρ Q=>(sA (aK 1)) ρ λds=>Q (.lst ds)))) ρ λds=>Q (.lst ds)))) (aR 3) (pI F_column_bands))
 ((λE ρ=>(bN (aK 2)) E (eF 2 ρ)))))
noncomputable def lP (F_column_bands:FD):RS :=
 nH 2 (aU F_column_bands (aA (r2 BV (aK 1) (aK 3)) (aA (aK 3) (aG))))
noncomputable def jI (F_column_bands:FD) (F_sides_by_column:FD):RS :=
 xU (bC 1 (aU F_sides_by_column (aA (aK 0) (aG))))
 (xU (cK 2 (dM (aG)))
 (xU (cI (riL ((λρ Q=>(sD ((λρ Q=>(sA (aK 1)) ρ λds=>Q (.lst ds)))) ρ λds=>Q (.lst ds)))) (aR 3) (lP F_column_bands))
 (BK 2)))
noncomputable def jJ (QX:FD) (QS:FD) (RH:FD) (PZ:FD) (QR:FD) (QY:FD) (cG:FD):RS :=
 aV (xQ (aU QS (aA (aK 0) (aG))) (hX 2 (cQ (aR 1) (cQ (aR 2) (hV)))))
 (aV (bC 3 (aU QX (aA (aK 1) (aA (aK 2) (aG)))))
 (aV (bC 4 (aU QY (aA (aK 0) (aA (aK 1) (aA (aK 2) (aG))))))
 (aV (bC 5 (r2 bU (aU PZ (aA (aK 0) (aA (rC (.int 211)) (aG)))) (r2 bK (r1 eZ (aD 4)) (rC (.int 1)))))
 (aV (bC 4 (r2 fG (r2 fG (jG (aD 4) (bZ) (eN (aK 5))) (aU RH (aA (aK 0) (aA (aK 1) (aA (aK 2) (aG)))))) (jG (aD 4) (eN (aK 5)) (bZ))))
 (aV (cK 6 (eM (riL (aK 4)) 1 [] (aR 0) (r1 fW (aD 0))))
 (aV ((λE ρ=>(cK 7 (mL cG (aA (aK 6) (aG)))) E (eF 6 ρ)))
 (aV (cU ((λρ Q=>(rOr (jF (bD (aU QR (aA (aK 7) (aA (aK 3) (aG)))))) (rOr (bD (r2 (yW) (aD 6) (aD 4))) (bD (r2 (yW) ((λρ Q=>(mL cG (aA ((λρ Q=>(dM (aG)) ρ λds=>Q (.lst ds))) (aG))) ρ λds=>Q (.lst ds))) ((λρ Q=>(dM (aG)) ρ λds=>Q (.lst ds))))))) (FO 7 ρ) Q)) (bN (rC (.bl false))) (bS))
 (aV (eY 7 (rC (.int 0)))
 ((λE ρ=>(bN (aU QR (aA ((λρ Q=>(mL cG (aA (aK 6) (aG))) ρ λds=>Q (.lst ds))) (aA (aK 3) (aG))))) E (eF 6 ρ)))))))))))
theorem MZ {α:Type} (x:α) (xs:List α):atI (x::xs) 0=some x:=by
 unfold atI ixN;simp
theorem NA {α:Type} (x y:α) (xs:List α):atI (x::y::xs) 1=some y:=by
 unfold atI ixN
 rw[if_pos (by decide),if_pos (by simp only[List.length_cons];omega)];rfl
theorem NB {α:Type} (x y z:α) (xs:List α):atI (x::y::z::xs) 2=some z:=by
 unfold atI ixN
 rw[if_pos (by decide),if_pos (by simp only[List.length_cons];omega)];rfl
theorem EB {α:Type} {xs:List α} {i:Int} {j:Nat} {x:α} (h:i=(j:Int)) (e:xs[j]? = some x):atI xs i=some x:=by
 subst h;exact lB e
theorem nX {x y:D} {Q:D->Prop}:dEq x y Q=(match eqF 6 x y with | some b=>Q (.bl b) | none=>False):=rfl
theorem BL.const {n:Nat} {i:Int} (h:i.natAbs<2 ^ n:=by decide):BL n i:=h
theorem mK {i j:Int} (h:0<=j/\j<=1000000/\i.natAbs<2 ^ 64:=by decide):PowOk i j:=⟨h⟩
theorem dL {j:Int} (h:j≠0:=by decide):ModOk j:=⟨h⟩
theorem fI {x:D} {xs:List D} {Q:D->Prop}:dIx (.tup (x::xs)) (.int 0) Q=Q x:=by simp only[dIx,MZ]
theorem fJ {x y:D} {xs:List D} {Q:D->Prop}:dIx (.tup (x::y::xs)) (.int 1) Q=Q y:=by simp only[dIx,NA]
theorem iO {x y z:D} {xs:List D} {Q:D->Prop}:dIx (.tup (x::y::z::xs)) (.int 2) Q=Q z:=by simp only[dIx,NB]
theorem iX {xs:List D} {i:Int} {Q:D->Prop} {x:D} (e:atI xs i=some x) (h:Q x):dIx (.lst xs) (.int i) Q:=by simp only[dIx,e];exact h
theorem qI {xs:List D} {i:Int} {Q:D->Prop} (h0:0<=i) (h1:i<xs.length) (h:∀x,x∈xs->Q x):dIx (.lst xs) (.int i) Q:=by
 have hj:i.toNat<xs.length:=by omega
 exact iX (EB (j:=i.toNat) (by omega) (List.getElem?_eq_getElem hj)) (h _ (List.getElem_mem hj))
theorem fT {xs:List D} {k:Nat} {x:D} {Q:D->Prop} (e:xs[k]? = some x):dIx (.lst xs) (.int (k:Int)) Q=Q x:=by simp only[dIx,lB e]
theorem iE {a0:D} {r:List D} {Q:D->Prop}:dIx (.lst (a0::r)) (.int 0) Q=Q a0:=fT (k:=0) rfl
theorem iF {a0 a1:D} {r:List D} {Q:D->Prop}:dIx (.lst (a0::a1::r)) (.int 1) Q=Q a1:=fT (k:=1) rfl
theorem iG {a0 a1 a2:D} {r:List D} {Q:D->Prop}:dIx (.lst (a0::a1::a2::r)) (.int 2) Q=Q a2:=fT (k:=2) rfl
theorem iH {a0 a1 a2 a3:D} {r:List D} {Q:D->Prop}:dIx (.lst (a0::a1::a2::a3::r)) (.int 3) Q=Q a3:=fT (k:=3) rfl
theorem iI {a0 a1 a2 a3 a4:D} {r:List D} {Q:D->Prop}:dIx (.lst (a0::a1::a2::a3::a4::r)) (.int 4) Q=Q a4:=fT (k:=4) rfl
theorem iJ {a0 a1 a2 a3 a4 a5:D} {r:List D} {Q:D->Prop}:dIx (.lst (a0::a1::a2::a3::a4::a5::r)) (.int 5) Q=Q a5:=fT (k:=5) rfl
theorem iK {a0 a1 a2 a3 a4 a5 a6:D} {r:List D} {Q:D->Prop}:dIx (.lst (a0::a1::a2::a3::a4::a5::a6::r)) (.int 6) Q=Q a6:=fT (k:=6) rfl
theorem iL {a0 a1 a2 a3 a4 a5 a6 a7:D} {r:List D} {Q:D->Prop}:dIx (.lst (a0::a1::a2::a3::a4::a5::a6::a7::r)) (.int 7) Q=Q a7:=fT (k:=7) rfl
theorem iM {a0 a1 a2 a3 a4 a5 a6 a7 a8:D} {r:List D} {Q:D->Prop}:dIx (.lst (a0::a1::a2::a3::a4::a5::a6::a7::a8::r)) (.int 8) Q=Q a8:=fT (k:=8) rfl
theorem iN {a0 a1 a2 a3 a4 a5 a6 a7 a8 a9:D} {r:List D} {Q:D->Prop}:dIx (.lst (a0::a1::a2::a3::a4::a5::a6::a7::a8::a9::r)) (.int 9) Q=Q a9:=fT (k:=9) rfl
theorem gA {a0 a1 a2 a3 a4 a5 a6 a7 a8 a9 a10:D} {r:List D} {Q:D->Prop}:dIx (.lst (a0::a1::a2::a3::a4::a5::a6::a7::a8::a9::a10::r)) (.int 10) Q=Q a10:=fT (k:=10) rfl
theorem gB {a0 a1 a2 a3 a4 a5 a6 a7 a8 a9 a10 a11:D} {r:List D} {Q:D->Prop}:dIx (.lst (a0::a1::a2::a3::a4::a5::a6::a7::a8::a9::a10::a11::r)) (.int 11) Q=Q a11:=fT (k:=11) rfl
noncomputable def cE (n:Nat) (ds:List D):En:=ds.map (λd=>some (.d d))++List.replicate n none
theorem aT {N:List Str} {ds:List D} (n:Nat) (h:N.length=ds.length+n):aO N ds=cE n ds:=by
 unfold aO cE;rw[h,Nat.add_sub_cancel_left]
theorem oD {i:Int}:zC "int" (.int i)=some true:=rfl
theorem oB {i:Int}:zC "bool" (.int i)=some false:=rfl
theorem oC {i:Bool}:zC "int" (.bl i)=some true:=rfl
theorem oA {i:Bool}:zC "bool" (.bl i)=some true:=rfl
theorem oE {xs:List D}:zC "tuple" (.tup xs)=some true:=rfl
theorem DH {α:Type} {x:α}:List.replicate 0 x=[]:=rfl
theorem AB {α:Type} {x:α}:List.replicate 1 x=[x]:=rfl
theorem tE {α:Type} {x:α}:List.replicate 2 x=[x,x]:=rfl
theorem vP {α:Type} {x:α}:List.replicate 3 x=[x,x,x]:=rfl
theorem DJ {α:Type} {x:α}:List.replicate 4 x=[x,x,x,x]:=rfl
theorem vQ {α:Type} {x:α}:List.replicate 5 x=[x,x,x,x,x]:=rfl
theorem AC {α:Type} {x:α}:List.replicate 6 x=[x,x,x,x,x,x]:=rfl
theorem AD {α:Type} {x:α}:List.replicate 7 x=[x,x,x,x,x,x,x]:=rfl
theorem DK {α:Type} {x:α}:List.replicate 8 x=[x,x,x,x,x,x,x,x]:=rfl
theorem AE {α:Type} {x:α}:List.replicate 9 x=[x,x,x,x,x,x,x,x,x]:=rfl
theorem uB {α:Type} {x:α}:List.replicate 10 x=[x,x,x,x,x,x,x,x,x,x]:=rfl
theorem uC {α:Type} {x:α}:List.replicate 11 x=[x,x,x,x,x,x,x,x,x,x,x]:=rfl
theorem uD {α:Type} {x:α}:List.replicate 12 x=[x,x,x,x,x,x,x,x,x,x,x,x]:=rfl
theorem sz2:Sz (0+1+1):=⟨by decide⟩
theorem sz3:Sz (0+1+1+1):=⟨by decide⟩
theorem sz4:Sz (0+1+1+1+1):=⟨by decide⟩
theorem sz1:Sz (0+1):=⟨by decide⟩
theorem sz0:Sz 0:=⟨by decide⟩
local macro_rules | `(tactic| walk_at "rd")=>do
 let a <- ("aV bS bN tY cU bC cK xT xQ aR hX cQ hV aK aD rC r2 r1 bD xP rOr jF nG DC pH rIf aG aA fV dM aU rCB bZ eN uA cI DL riL riT oS xY kR eM dO kE qT eF eY tZ kO DD tF jG fG fW iY BW dNe oR sF gK bK fA cT cH bU jW qW iB fH BU nX pG fI fJ iO iE iF iG iH iI iJ iK iL iM iN gA gB pR uX tP kG eZ mV oD oB oC oA oE S.val cE DH AB tE vP DJ vQ AC AD DK AE uB uC uD List.map_cons List.map_nil List.cons_append List.nil_append List.length_cons List.length_nil List.getElem?_cons_zero List.getElem?_cons_succ List.set_cons_zero List.set_cons_succ List.append_nil Bool.or_false Bool.or_true Bool.false_or Bool.true_or Bool.not_true Bool.not_false if_true if_false Bool.false_eq_true sz0 sz1 sz2 sz3 sz4 true_and decide_eq_true_eq Int.reduceToNat Int.reducePow Int.reduceMul Int.reduceSub Int.reduceAdd Int.reduceNeg".splitOn " ").toArray.mapM λx=>`(Lean.Parser.Tactic.simpLemma| $(Lean.mkIdent x.toName):term)
 `(tactic| simp only[$a,*])
local macro_rules | `(tactic| walk_at "side")=>`(tactic| first | exact mK | exact dL | exact (BL.const (n:=9000) (by decide)).divOk (by decide) | exact (BL.const (n:=300) (by decide)).mulOk (BL.const (n:=300) (by decide)))
local macro_rules | `(tactic| walk_at "sides")=>`(tactic| repeat (refine And.intro (by walk_at "side") ?_))
theorem mT (i:Int):(if i<0 then -i else i)=((i.natAbs:Nat):Int):=by split <;> omega
theorem tQ (x y:Nat):((x:Nat):Int).fmod (y:Nat)=((x % y:Nat):Int):=by
 rw[Int.fmod_eq_emod_of_nonneg _ (Int.natCast_nonneg y)];exact (Int.natCast_emod x y).symm
noncomputable def mO:FD:=λds Q=>∃a b:Int,ds=[.int a,.int b]/\Q (.int (Int.gcd a b:Nat))
theorem BB:∀ds Q,mO ds Q->ds.length=2:=by rintro ds Q ⟨a,b,rfl,_⟩;rfl
theorem oG (E:DEnds):∀(y x:Nat),E.nx [some (.d (.int (Nat.gcd x y:Nat))),some (.d (.int (0:Nat)))] ->
  sE (bD (r2 (iB λi j=>decide (j<i)) (aD 1) (rC (.int 0)))) eD E [some (.d (.int (x:Nat))),some (.d (.int (y:Nat)))]:=by
 intro y
 induction y using Nat.strongRecOn with
 | ind y ih =>
  intro x h
  cases Nat.eq_zero_or_pos y with
  | inl hy =>
   subst hy
   refine⟨1,?_⟩
   unfold jK
   walk_at "rd"
   rw[if_neg (by decide)]
   rw[Nat.gcd_zero_right] at h
   exact h
  | inr hy =>
   have h2:=ih (x % y) (Nat.mod_lt x hy) y (by
    rw[Nat.gcd_comm y,<-Nat.gcd_rec,Nat.gcd_comm];exact h)
   obtain⟨n,hn⟩:=h2
   refine⟨n+1,?_⟩
   unfold jK eD
   walk_at "rd"
   rw[if_pos (by omega)]
   refine⟨⟨by omega⟩,?_⟩
   rw[tQ]
   exact hn
theorem oN:∀ds Q,mO ds Q->dS { nx:=λ_=>Q .non,rt:=Q } (aO ["_law_one","_law_other"] ds):=by
 rintro ds Q ⟨a,b,rfl,q⟩
 rw[aT 0 rfl]
 unfold dS
 walk_at "rd"
 rw[mT,mT]
 refine oG _ _ _ ?_
 walk_at "rd"
 exact q
theorem lH (E:DEnds) (u v:Option S):∀(y x:Nat) (r:Option S),(∀r,E.nx [u,v,some (.d (.int (Nat.gcd x y:Nat))),some (.d (.int (0:Nat))),r]) ->
  sE (bD (r2 (fH true) (aD 3) (rC (.int 0)))) dG E [u,v,some (.d (.int (x:Nat))),some (.d (.int (y:Nat))),r]:=by
 intro y
 induction y using Nat.strongRecOn with
 | ind y ih =>
  intro x r h
  cases Nat.eq_zero_or_pos y with
  | inl hy =>
   subst hy
   refine⟨1,?_⟩
   unfold jK
   walk_at "rd"
   rw[if_neg (by simp)]
   rw[Nat.gcd_zero_right] at h
   exact h r
  | inr hy =>
   obtain⟨n,hn⟩:=ih (x % y) (Nat.mod_lt x hy) y (some (.d (.int ((x % y:Nat))))) (by
    rw[Nat.gcd_comm y,<-Nat.gcd_rec,Nat.gcd_comm];exact h)
   refine⟨n+1,?_⟩
   unfold jK dG
   walk_at "rd"
   rw[if_pos (by simp;omega)]
   refine⟨⟨by omega⟩,?_⟩
   rw[tQ]
   exact hn
theorem lJ:∀ds Q,mO ds Q->dB { nx:=λ_=>Q .non,rt:=Q } (aO ["one","other","larger","smaller","rest"] ds):=by
 rintro ds Q ⟨a,b,rfl,q⟩
 rw[aT 3 rfl]
 unfold dB
 walk_at "rd"
 rw[mT,mT]
 refine lH _ _ _ _ _ _ λr=>?_
 walk_at "rd"
 exact q
noncomputable abbrev fr (a b:Int):D:=.tup [.int a,.int b]
theorem qM {a b:Int} (h:b≠0):0<(Int.gcd a b:Int):=by
 have:0<Int.gcd a b:=Int.gcd_pos_of_ne_zero_right a h
 omega
theorem BL.gcd {n:Nat} {a b:Int} (hb:b≠0) (h:BL n b):BL n (Int.gcd a b:Int):=by
 refine h.le ?_
 rw[Int.natAbs_natCast]
 exact Nat.le_of_dvd (by omega) (Int.gcd_dvd_natAbs_right a b)
structure Low (a b p q:Int):Prop where
 pos:0<q
 cop:Int.gcd p q=1
 worth:p*b=a*q
 lea:p.natAbs<=a.natAbs
 leb:q.natAbs<=b.natAbs
theorem vH {a b:Int} (hb:0<b):Low a b (a.fdiv (Int.gcd a b:Nat)) (b.fdiv (Int.gcd a b:Nat)):=by
 have hg:0<(Int.gcd a b:Int):=qM (by omega)
 have ea:((Int.gcd a b:Nat):Int)∣a:=Int.gcd_dvd_left ..
 have eb:((Int.gcd a b:Nat):Int)∣b:=Int.gcd_dvd_right ..
 rw[Int.fdiv_eq_ediv_of_nonneg _ (by omega),Int.fdiv_eq_ediv_of_nonneg _ (by omega)]
 have e1:a / (Int.gcd a b:Int)*(Int.gcd a b:Int)=a:=Int.ediv_mul_cancel ea
 have e2:b / (Int.gcd a b:Int)*(Int.gcd a b:Int)=b:=Int.ediv_mul_cancel eb
 have hc:Int.gcd (a / (Int.gcd a b:Int)) (b / (Int.gcd a b:Int))=1:=Int.gcd_ediv_gcd_ediv_gcd (by omega)
 generalize (Int.gcd a b:Int)=g at *
 generalize a / g=p at *
 generalize b / g=q at *
 subst e1 e2
 refine⟨?_,hc,by rw[Int.mul_assoc,Int.mul_comm q g],?_,?_⟩
 ·exact Int.pos_of_mul_pos_left hb (by omega)
 ·rw[Int.natAbs_mul];exact Nat.le_mul_of_pos_right _ (by omega)
 ·rw[Int.natAbs_mul];exact Nat.le_mul_of_pos_right _ (by omega)
theorem IV {a b:Int} (hb:b<0):Low a b (a.fdiv (-(Int.gcd a b:Nat))) (b.fdiv (-(Int.gcd a b:Nat))):=by
 have h:=vH (a:=-a) (b:=-b) (by omega)
 have e:Int.gcd (-a) (-b)=Int.gcd a b:=by rw[Int.neg_gcd,Int.gcd_neg]
 rw[e] at h
 have f:∀x g:Int,(-x).fdiv g=x.fdiv (-g):=λx g=>by
  have:=Int.neg_fdiv_neg (-x) g
  rw[Int.neg_neg] at this
  exact this.symm
 rw[f,f] at h
 refine⟨h.pos,h.cop,?_,by have:=h.lea;omega,by have:=h.leb;omega⟩
 have w:=h.worth
 rw[Int.mul_neg,Int.neg_mul] at w
 exact Int.neg_inj.mp w
noncomputable def cM:FD:=λds Q=>∃a b:Int,ds=[.int a,.int b]/\(b≠0/\BL 9000 b)/\∀p q,Low a b p q->Q (fr p q)
theorem CN:∀ds Q,cM ds Q->ds.length=2:=by rintro ds Q ⟨a,b,rfl,_⟩;rfl
theorem zW:∀ds Q,cM ds Q->nJ mO { nx:=λ_=>Q .non,rt:=Q } (aO ["top","bottom","divisor"] ds):=by
 rintro ds Q ⟨a,b,rfl,⟨h0,hb⟩,q⟩
 rw[aT 1 rfl]
 unfold nJ
 walk_at "rd"
 rw[if_neg h0]
 refine⟨a,b,rfl,?_⟩
 have hg:=qM (a:=a) h0
 have bg:=BL.gcd (a:=a) h0 hb
 walk_at "rd"
 split
 ·rename_i hlt
  refine⟨bg.neg.divOk (by omega),bg.neg.divOk (by omega),q _ _ (IV hlt)⟩
 ·rename_i hlt
  refine⟨bg.divOk (by omega),bg.divOk (by omega),q _ _ (vH (by omega))⟩
noncomputable def AK:FD:=λds Q=>∃a b:Int,ds=[.int a,.int b]/\(0<b/\BL 9000 b)/\∀p q,Low a b p q->Q (fr p q)
theorem IM:∀ds Q,AK ds Q->ds.length=2:=by rintro ds Q ⟨a,b,rfl,_⟩;rfl
theorem qE:∀ds Q,AK ds Q->eP mO { nx:=λ_=>Q .non,rt:=Q } (aO ["_law_top","_law_bottom","_law_by"] ds):=by
 rintro ds Q ⟨a,b,rfl,⟨h0,hb⟩,q⟩
 rw[aT 1 rfl]
 unfold eP
 walk_at "rd"
 refine⟨a,b,rfl,?_⟩
 have hg:=qM (a:=a) (b:=b) (by omega)
 have bg:=BL.gcd (a:=a) (b:=b) (by omega) hb
 walk_at "rd"
 exact⟨bg.divOk (by omega),bg.divOk (by omega),q _ _ (vH h0)⟩
noncomputable def mS:FD:=λds Q=>∃a:Int,ds=[.int a]/\Q (.bl true)
theorem CO:∀ds Q,mS ds Q->ds.length=1:=by rintro ds Q ⟨a,rfl,_⟩;rfl
theorem rZ:∀ds Q,mS ds Q->fF { nx:=λ_=>Q .non,rt:=Q } (aO ["_law_found"] ds):=by
 rintro ds Q ⟨a,rfl,q⟩
 rw[aT 0 rfl]
 unfold fF
 walk_at "rd"
 exact q
noncomputable def nS:FD:=λds Q=>∃(ns:List Int) (k:Int),ds=[.lst (ns.map .int),.int k]/\0<=k/\∀c,Q (.int c)
theorem FL:∀ds Q,nS ds Q->ds.length=2:=by rintro ds Q ⟨a,b,rfl,_⟩;rfl
theorem oM:∀ds Q,nS ds Q->dR { nx:=λ_=>Q .non,rt:=Q } (aO ["_law_script","_law_k"] ds):=by
 rintro ds Q ⟨ns,k,rfl,hk,q⟩
 rw[aT 0 rfl]
 unfold dR
 walk_at "rd"
 split
 ·rename_i hlt
  refine qI hk hlt ?_
  intro x hx
  obtain⟨c,_,rfl⟩:=List.mem_map.mp hx
  exact q c
 ·exact q 0
theorem aS {a b:Int} (h:0<b):0<=a.fmod b/\a.fmod b<b:=⟨Int.fmod_nonneg_of_pos a h,Int.fmod_lt_of_pos a h⟩
theorem IK:∀ds Q,BP 63 ds Q->ds.length=1:=by rintro ds Q ⟨a,rfl,_⟩;rfl
theorem bY {g:RG} {t:RS} {E:DEnds} (J:List D->En->Prop)
  (step:∀x xs ρ,J (x::xs) ρ->∀F:DEnds,F.rt=E.rt->F.bk=E.nx->(∀ρ',J xs ρ'->F.nx ρ')->(∀ρ',J xs ρ'->F.ct ρ')->g x ρ λρ1=>t F ρ1) (last:∀ρ,J [] ρ->E.nx ρ):∀xs ρ,J xs ρ->sS g t xs E ρ
 | [],ρ,h=>last ρ h
 | x::xs,ρ,h=>step x xs ρ h _ rfl rfl (λρ' h'=>bY J step last xs ρ' h') λρ' h'=>bY J step last xs ρ' h'
theorem wH {α:Type} {g:RG} {te:RE} (R:En->Prop) (enc f:α->D):∀(src:List α) {Q:List D->Prop},(∀a∈src,∀ρ,R ρ->∀K:En->D->Prop,(∀ρ1,R ρ1->K ρ1 (f a))->g (enc a) ρ λρ1=>te ρ1 λd=>K ρ1 d) ->
  ∀(ρ:En) (acc:List D),R ρ->Q (acc++src.map f)->dO g te (src.map enc) ρ acc Q
 | [],Q,_,ρ,acc,_,q=>by
  show Q acc
  simpa using q
 | a::src,Q,step,ρ,acc,h,q=>by
  show g (enc a) ρ λρ'=>te ρ' λd=>dO g te (src.map enc) ρ' (acc++[d]) Q
  refine step a List.mem_cons_self ρ h (λρ1 d=>dO g te (src.map enc) ρ1 (acc++[d]) Q) λρ1 h1=>?_
  exact wH R enc f src (λb hb=>step b (List.mem_cons_of_mem _ hb)) ρ1 _ h1 (by simpa using q)
theorem dC {α:Type} {g:RG} {te:RE} (R:En->Prop) (enc f:α->D) (src:List α) {Q:List D->Prop} {ρ:En} (step:∀a∈src,∀ρ,R ρ->∀K:En->D->Prop,(∀ρ1,R ρ1->K ρ1 (f a))->g (enc a) ρ λρ1=>te ρ1 λd=>K ρ1 d)
  (h:R ρ) (q:Q (src.map f)):dO g te (src.map enc) ρ [] Q:=wH R enc f src step ρ [] h (by simpa using q)
noncomputable abbrev il (ns:List Int):D:=.lst (ns.map .int)
noncomputable abbrev pt (p:Int × Int):D:=.tup [.int p.1,.int p.2]
noncomputable abbrev pts (ps:List (Int × Int)):D:=.lst (ps.map pt)
theorem EK {ns:List Int} {i:Int} {Q:D->Prop} (h0:0<=i) (h1:i<ns.length) (q:∀n∈ns,Q (.int n)):dIx (il ns) (.int i) Q:=by
 refine qI h0 (by simpa using h1) λx hx=>?_
 obtain⟨n,hn,rfl⟩:=List.mem_map.mp hx
 exact q n hn
theorem bL {n:Nat} (h:n<=100000):Sz n:=⟨Nat.le_trans h (by decide)⟩
theorem LK {n:Nat} {i:Int} (h0:0<=i) (h1:i<n):ixN n i=some i.toNat:=by
 unfold ixN
 rw[if_pos h0,if_pos (by omega)]
noncomputable abbrev big:Int:=1000000000000000000000000000000000000000000000000000000000007
structure Drawn (m:Nat) (xs:List Int):Prop where
 len:xs.length=m
 lo:∀x∈xs,0<=x
 hi:∀x∈xs,x<big
theorem Drawn.bl {m:Nat} {xs:List Int} (h:Drawn m xs) {x:Int} (hx:x∈xs):BL 200 x:=by
 have h0:=h.lo x hx
 have h1:=h.hi x hx
 have e:big<((2 ^ 200:Nat):Int):=by decide
 exact BL.of_lt (by omega) (by omega)
noncomputable def jE:RS:=aV (bC 5 (r2 bU (aD 3) (aD 1)))
 (kO 2 (r2 bU (r2 bK (r2 bK (r2 cT (r2 dIx (aD 2) (aD 5)) (rC (.int 48271))) (aD 4)) (r2 cT (aD 3) (aD 3))) (r2 bK (r2 jW (rC (.int 10)) (rC (.int 60))) (rC (.int 7)))) (aK 5))
theorem zP:gH=aV (bC 4 (rC (.int 0)))
 (aV (cU (bD (r2 (iB λi j=>decide (j<i)) (r1 eZ (aD 0)) (rC (.int 0)))) (bC 4 (r2 bU (r2 dIx (aD 0) (r2 bU (aD 3) (rCB kG (aA (r1 eZ (aD 0)) (aA (rC (.int 63)) (aG)))))) (r2 bK (r2 jW (rC (.int 10)) (rC (.int 60))) (rC (.int 7))))) (bS)) jE):=rfl
theorem IU {ns:List Int} {m:Nat} (hm:1<=m/\m<=100) {E:DEnds} (q:∀xs a b c,Drawn m xs->E.nx [some (.d (il ns)),some (.d (.int m)),some (.own (xs.map .int)),a,b,c]) (xs:List D) (ρ:En)
  (hx:∀x∈xs,∃j:Int,x = .int j/\0<=j/\j<=1000) (hρ:∃ys a b c,ρ=[some (.d (il ns)),some (.d (.int m)),some (.own (ys.map .int)),a,b,c]/\Drawn m ys):sS (aR 3) gH xs E ρ:=by
 refine bY (λxs ρ=>(∀x∈xs,∃j:Int,x = .int j/\0<=j/\j<=1000)/\∃ys a b c,ρ=[some (.d (il ns)),some (.d (.int m)),some (.own (ys.map .int)),a,b,c]/\Drawn m ys) ?_ ?_ xs ρ ⟨hx,hρ⟩
 ·rintro x xs ρ ⟨hx,ys,a,b,c,rfl,hd⟩ F _ _ hn _
  obtain⟨j,rfl,j0,j1⟩:=hx x List.mem_cons_self
  have hx':∀x∈xs,∃j:Int,x = .int j/\0<=j/\j<=1000:=λx h=>hx x (List.mem_cons_of_mem _ h)
  have done:∀cell:Int,jE F [some (.d (il ns)),some (.d (.int m)),some (.own (ys.map .int)),some (.d (.int j)),some (.d (.int cell)),c]:=λcell=>by
   unfold jE
   walk_at "rd"
   have hm':(0:Int)<m:=by omega
   obtain⟨a0,a1⟩:=aS (a:=j) hm'
   refine⟨⟨by omega⟩,?_⟩
   refine EK a0 (by rw[hd.len];exact a1) λy hy=>?_
   have by':=hd.bl hy
   refine⟨by'.mulOk (BL.const (n:=20)),(BL.of_lt (m:=20) (by omega) (by omega)).mulOk (BL.of_lt (m:=20) (by omega) (by omega)),?_⟩
   walk_at "sides"
   obtain⟨e0,e1⟩:=aS (a:=y*48271+cell+j*j) (b:=big) (by decide)
   generalize (y*48271+cell+j*j).fmod big=z at *
   generalize j.fmod m=i at *
   rw[LK a0 (by simpa [hd.len] using a1)]
   refine hn _ ⟨hx',ys.set i.toNat z,_,_,_,by rw[<-List.map_set],⟨by simpa using hd.len,λx hx=>?_,λx hx=>?_⟩⟩
   ·rcases List.mem_or_eq_of_mem_set hx with h | rfl
    ·exact hd.lo x h
    ·exact e0
   ·rcases List.mem_or_eq_of_mem_set hx with h | rfl
    ·exact hd.hi x h
    ·exact e1
  rw[zP]
  walk_at "rd"
  split
  ·rename_i hl
   have hl':0<ns.length:=by simpa using hl
   have hpos:(0:Int)<(if (63:Int)<((ns.map D.int).length:Int) then 63 else ((ns.map D.int).length:Int)):=by split <;> simp <;> omega
   obtain⟨a0,a1⟩:=aS (a:=j) hpos
   have a2:(if (63:Int)<((ns.map D.int).length:Int) then 63 else ((ns.map D.int).length:Int))<=ns.length:=by split <;> simp at * <;> omega
   exact⟨⟨Int.ne_of_gt hpos⟩,EK a0 (Int.lt_of_lt_of_le a1 a2) λy _=>⟨mK,dL,done _⟩⟩
  ·exact done 0
 ·rintro ρ ⟨_,ys,a,b,c,rfl,hd⟩
  exact q ys a b c hd
theorem zM {lo:Int} {n:Nat} {x:D} (h:x∈cD lo n):∃j:Int,x = .int j/\lo<=j/\j<lo+n:=by
 unfold cD at h
 obtain⟨k,hk,rfl⟩:=List.mem_map.mp h
 have:=List.mem_range.mp hk
 exact⟨_,rfl,by omega,by omega⟩
theorem gE {lo:Int} {n:Nat}:(cD lo n).length=n:=by simp[cD]
structure Rises (xs:List Int):Prop where
 first:∀a,xs[0]? = some a->-4<=a/\a<=-1
 step:∀(i:Nat) a b,xs[i]? = some a->xs[i+1]? = some b->a+1<=b/\b<=a+3
theorem Rises.bound {xs:List Int} (h:Rises xs):∀(i:Nat) a,xs[i]? = some a->-4<=a/\a<=3*(i:Int)-1
 | 0,a,e=>by have:=h.first a e;omega
 | i+1,a,e=>by
  have hi:i<xs.length:=by have:=(List.getElem?_eq_some_iff.mp e).1;omega
  have e1:xs[i]? = some xs[i]:=List.getElem?_eq_getElem hi
  have b:=Rises.bound h i _ e1
  have c:=h.step i _ _ e1 e
  omega
noncomputable def HB:FD:=λds Q=>∃n m:Int,ds=[.int n,.int m]/\(1<=m/\m<=40)/\∀xs,Rises xs->(xs.length:Int)=m->Q (il xs)
noncomputable abbrev aff (p q r s ox oy:Int) (z:Int × Int):Int × Int:=(p*z.1+q*z.2+ox,r*z.1+s*z.2+oy)
noncomputable def jM (lows highs:List Int) (top:Int):List (Int × Int):=lows.map (λx=>(x,x*x))++highs.reverse.map λx=>(x,top-x*x)
structure RingForm (lows highs:List Int) (top p q r s ox oy:Int):Prop where
 lowsR:Rises lows
 highsR:Rises highs
 lowsN:2<=lows.length/\lows.length<=21
 highsN:1<=highs.length/\highs.length<=3
 topL:∀x∈lows++highs,2*(x*x)+1<=top
 topH:top<=10000
 pB:1<=p/\p<=3
 qB:-3<=q/\q<=3
 rB:-3<=r/\r<=3
 sB:-9<=s/\s<=12
 det:0<p*s-q*r
 oxB:BL 202 ox
 oyB:BL 202 oy
noncomputable abbrev GQ (lows highs:List Int) (top p q r s ox oy:Int):List (Int × Int):=(jM lows highs top).map (aff p q r s ox oy)
theorem aJ {t u:RS} {E:DEnds} {ρ:En} (I:En->Prop) (h1:∀K:En->Prop,(∀ρ',I ρ'->K ρ')->t { E with nx:=K } ρ) (h2:∀ρ',I ρ'->u E ρ'):aV t u E ρ:=h1 (u E) h2
noncomputable def KL:FD:=λds Q=>∃(h0 h1 h2 h3 h4 h5 h6:Int) (rest:List D) (far:Int),ds=[.lst (.int h0 :: .int h1 :: .int h2 :: .int h3 :: .int h4 :: .int h5 :: .int h6::rest),.int far]/\(0<=far/\BL 200 far) /\
 ∀lows highs top p q r s ox oy,RingForm lows highs top p q r s ox oy->Q (pts (GQ lows highs top p q r s ox oy))
theorem OI (x:Int):0<=x*x:=by
 rcases Int.le_total 0 x with h | h
 ·exact Int.mul_nonneg h h
 ·have:=Int.mul_nonneg (Int.neg_nonneg.mpr h) (Int.neg_nonneg.mpr h)
  rwa [Int.neg_mul_neg] at this
theorem FZ {a far:Int} (h0:0<=far) (h:BL 200 far):BL 202 (a.fmod (2*far+1)-far):=by
 obtain⟨a0,a1⟩:=aS (a:=a) (b:=2*far+1) (by omega)
 have:far.natAbs<2 ^ 200:=h
 refine BL.of_lt (m:=202) ?_ ?_
 ·have:(far.natAbs:Int)<((2 ^ 200:Nat):Int):=by exact_mod_cast this
  have e:((2 ^ 200:Nat):Int)<((2 ^ 202:Nat):Int):=by decide
  omega
 ·have:(far.natAbs:Int)<((2 ^ 200:Nat):Int):=by exact_mod_cast this
  have e:((2 ^ 200:Nat):Int)<((2 ^ 202:Nat):Int):=by decide
  omega
theorem lO:∀ds Q,KL ds Q->nI HB { nx:=λ_=>Q .non,rt:=Q } (aO ["_law_head","_law_far","_law_lows","_law_highs","_law_top","_law_ring_here","_law_p","_law_q","_law_r","_law_s","_law_off"] ds):=by
 rintro ds Q ⟨h0,h1,h2,h3,h4,h5,h6,rest,far,rfl,⟨hf0,hf1⟩,hQ⟩
 rw[aT 9 rfl]
 unfold nI
 generalize hH:D.lst (.int h0 :: .int h1 :: .int h2 :: .int h3 :: .int h4 :: .int h5 :: .int h6::rest)=HD
 simp only[cE,AE,List.map_cons,List.map_nil,List.cons_append,List.nil_append]
 refine aJ (λρ=>∃lows,Rises lows/\(2<=lows.length/\lows.length<=21)/\ρ=[some (.d HD),some (.d (.int far)),some (.d (il lows)),none,none,none,none,none,none,none,none]) (λK hK=>?_) ?_
 ·rw[<-hH] at hK ⊢
  walk_at "rd"
  walk_at "sides"
  obtain⟨a0,a1⟩:=aS (a:=h0) (b:=3) (by decide)
  obtain⟨b0,b1⟩:=aS (a:=h0) (b:=20) (by decide)
  obtain⟨c0,c1⟩:=aS (a:=h2.fdiv 9) (b:=4) (by decide)
  have c2:0<=((h2.fdiv 9).fmod 4).fdiv 3/\((h2.fdiv 9).fmod 4).fdiv 3<2:=by
   rw[Int.fdiv_eq_ediv_of_nonneg _ (by decide)];omega
  refine qI c2.1 (by simpa using c2.2) λx hx=>?_
  have:∃t:Int,x = .int t/\2<=t/\t<=21:=by
   simp only[List.mem_cons,List.not_mem_nil,or_false] at hx
   rcases hx with rfl | rfl
   ·exact⟨_,rfl,by omega,by omega⟩
   ·exact⟨_,rfl,by omega,by omega⟩
  obtain⟨t,rfl,t0,t1⟩:=this
  exact⟨_,_,rfl,⟨by omega,by omega⟩,λxs hr hl=>hK _ ⟨xs,hr,⟨by omega,by omega⟩,rfl⟩⟩
 rintro ρ ⟨lows,hlr,hln,rfl⟩
 refine aJ (λρ=>∃highs,Rises highs/\(1<=highs.length/\highs.length<=3)/\ρ=[some (.d HD),some (.d (.int far)),some (.d (il lows)),some (.d (il highs)),none,none,none,none,none,none,none]) (λK hK=>?_) ?_
 ·rw[<-hH] at hK ⊢
  walk_at "rd"
  walk_at "sides"
  obtain⟨a0,a1⟩:=aS (a:=h1) (b:=3) (by decide)
  exact⟨_,_,rfl,⟨by omega,by omega⟩,λxs hr hl=>hK _ ⟨xs,hr,⟨by omega,by omega⟩,rfl⟩⟩
 rintro ρ ⟨highs,hhr,hhn,rfl⟩
 have small:∀x∈lows++highs,-4<=x/\x<=60:=λx hx=>by
  rcases List.mem_append.mp hx with h | h
  ·obtain⟨i,hi,rfl⟩:=List.getElem_of_mem h
   have:=hlr.bound i _ (List.getElem?_eq_getElem hi)
   omega
  ·obtain⟨i,hi,rfl⟩:=List.getElem_of_mem h
   have:=hhr.bound i _ (List.getElem?_eq_getElem hi)
   omega
 have sq:∀x∈lows++highs,0<=x*x/\x*x<=3600:=λx hx=>by
  have:=small x hx
  constructor
  ·exact OI x
  ·by_cases h:0<=x
   ·exact Int.le_trans (Int.mul_le_mul this.2 this.2 h (by decide)) (by decide)
   ·have:x = -4\/x = -3\/x = -2\/x = -1:=by omega
    rcases this with rfl | rfl | rfl | rfl <;> decide
 refine aJ (λρ=>∃top,(∀x∈lows++highs,2*(x*x)+1<=top)/\top<=10000/\ρ=[some (.d HD),some (.d (.int far)),some (.d (il lows)),some (.d (il highs)),some (.d (.int top)),none,none,none,none,none,none]) (λK hK=>?_) ?_
 ·rw[<-hH] at hK ⊢
  walk_at "rd"
  refine⟨bL (by simp;omega),bL (by simp;omega),?_⟩
  rw[<-List.map_append]
  refine dC (λρ=>∃a,ρ=[a]) D.int (λx=>D.int (x*x)) (lows++highs) ?_ ⟨_,rfl⟩ ?_
  ·rintro x hx ρ ⟨b,rfl⟩ K' hK'
   walk_at "rd"
   have:=small x hx
   exact⟨(BL.of_lt (m:=20) (i:=x) (by omega) (by omega)).mulOk (BL.of_lt (m:=20) (i:=x) (by omega) (by omega)),hK' _ ⟨_,rfl⟩⟩
  ·refine⟨(lows++highs).map λx=>x*x,by rw[List.map_map];rfl,by intro e;simp at e;rw[e.1] at hln;simp at hln,λM hM hmax=>?_⟩
   obtain⟨x0,hx0,rfl⟩:=List.mem_map.mp hM
   have s0:=sq x0 hx0
   walk_at "rd"
   generalize x0*x0=M at *
   refine⟨(BL.const (n:=20)).mulOk (BL.of_lt (m:=20) (i:=M) (by omega) (by omega)),dL,?_⟩
   obtain⟨d0,d1⟩:=aS (a:=h2) (b:=9) (by decide)
   refine hK _ ⟨_,λx hx=>?_,?_,rfl⟩
   ·have:=hmax (x*x) (List.mem_map.mpr ⟨x,hx,rfl⟩)
    omega
   ·omega
 rintro ρ ⟨top,topL,topH,rfl⟩
 have topB:1<=top:=by
  have hne:lows++highs≠[]:=by intro e;simp at e;rw[e.1] at hln;simp at hln
  obtain⟨x,hx⟩:=List.exists_mem_of_ne_nil _ hne
  have:=topL x hx
  have:=sq x hx
  omega
 refine aJ (λρ=>ρ=[some (.d HD),some (.d (.int far)),some (.d (il lows)),some (.d (il highs)),some (.d (.int top)),some (.d (pts (jM lows highs top))),none,none,none,none,none]) (λK hK=>?_) ?_
 ·walk_at "rd"
  refine⟨bL (by simp;omega),?_⟩
  refine dC (λρ=>∃a,ρ=[a]) D.int (λx=>pt (x,x*x)) lows ?_ ⟨_,rfl⟩ ?_
  ·rintro x hx ρ ⟨b,rfl⟩ K' hK'
   walk_at "rd"
   have:=small x (List.mem_append_left _ hx)
   exact⟨(BL.of_lt (m:=20) (i:=x) (by omega) (by omega)).mulOk (BL.of_lt (m:=20) (i:=x) (by omega) (by omega)),hK' _ ⟨_,rfl⟩⟩
  ·refine⟨bL (by simp;omega),?_⟩
   rw[<-List.map_reverse]
   refine dC (λρ=>∃a,ρ=[a,some (.d (.int top))]) D.int (λx=>pt (x,top-x*x)) highs.reverse ?_ ⟨_,rfl⟩ ?_
   ·rintro x hx ρ ⟨b,rfl⟩ K' hK'
    walk_at "rd"
    have:=small x (List.mem_append_right _ (List.mem_reverse.mp hx))
    exact⟨(BL.of_lt (m:=20) (i:=x) (by omega) (by omega)).mulOk (BL.of_lt (m:=20) (i:=x) (by omega) (by omega)),hK' _ ⟨_,rfl⟩⟩
   ·refine⟨bL (by simp;omega),hK _ ?_⟩
    unfold jM pts
    simp only[List.map_append,List.map_map]
    rfl
 rintro ρ rfl
 refine aJ (λρ=>∃p,(1<=p/\p<=3)/\ρ=[some (.d HD),some (.d (.int far)),some (.d (il lows)),some (.d (il highs)),some (.d (.int top)),some (.d (pts (jM lows highs top))),some (.d (.int p)),none,none,none,none]) (λK hK=>?_) ?_
 ·rw[<-hH] at hK ⊢
  walk_at "rd"
  walk_at "sides"
  obtain⟨d0,d1⟩:=aS (a:=h3) (b:=3) (by decide)
  exact hK _ ⟨_,⟨by omega,by omega⟩,rfl⟩
 rintro ρ ⟨p,hp,rfl⟩
 refine aJ (λρ=>∃q,(-3<=q/\q<=3)/\ρ=[some (.d HD),some (.d (.int far)),some (.d (il lows)),some (.d (il highs)),some (.d (.int top)),some (.d (pts (jM lows highs top))),some (.d (.int p)),some (.d (.int q)),none,none,none]) (λK hK=>?_) ?_
 ·rw[<-hH] at hK ⊢
  walk_at "rd"
  walk_at "sides"
  obtain⟨d0,d1⟩:=aS (a:=h3.fdiv 3) (b:=7) (by decide)
  exact hK _ ⟨_,⟨by omega,by omega⟩,rfl⟩
 rintro ρ ⟨q,hq,rfl⟩
 refine aJ (λρ=>∃r,(-3<=r/\r<=3)/\ρ=[some (.d HD),some (.d (.int far)),some (.d (il lows)),some (.d (il highs)),some (.d (.int top)),some (.d (pts (jM lows highs top))),some (.d (.int p)),some (.d (.int q)),some (.d (.int r)),none,none]) (λK hK=>?_) ?_
 ·rw[<-hH] at hK ⊢
  walk_at "rd"
  walk_at "sides"
  obtain⟨d0,d1⟩:=aS (a:=h4) (b:=7) (by decide)
  exact hK _ ⟨_,⟨by omega,by omega⟩,rfl⟩
 rintro ρ ⟨r,hr,rfl⟩
 have qr:-9<=q*r/\q*r<=9:=by
  have hq':q = -3\/q = -2\/q = -1\/q=0\/q=1\/q=2\/q=3:=by omega
  rcases hq' with rfl | rfl | rfl | rfl | rfl | rfl | rfl <;> omega
 refine aJ (λρ=>∃s,(-9<=s/\s<=12)/\0<p*s-q*r/\ρ=[some (.d HD),some (.d (.int far)),some (.d (il lows)),some (.d (il highs)),some (.d (.int top)),some (.d (pts (jM lows highs top))),some (.d (.int p)),some (.d (.int q)),some (.d (.int r)),some (.d (.int s)),none]) (λK hK=>?_) ?_
 ·rw[<-hH] at hK ⊢
  walk_at "rd"
  obtain⟨d0,d1⟩:=aS (a:=h4.fdiv 7) (b:=3) (by decide)
  refine⟨(BL.of_lt (m:=20) (i:=q) (by omega) (by omega)).mulOk (BL.of_lt (m:=20) (i:=r) (by omega) (by omega)),((BL.of_lt (m:=20) (i:=p) (by omega) (by omega)).mono (by decide)).divOk (by omega),?_⟩
  walk_at "sides"
  generalize (h4.fdiv 7).fmod 3=z at *
  have e:(q*r).fdiv p=(q*r) / p:=Int.fdiv_eq_ediv_of_nonneg _ (by omega)
  rw[e]
  generalize q*r=m at *
  have hp':p=1\/p=2\/p=3:=by omega
  refine hK _ ⟨_,?_,?_,rfl⟩
  ·rcases hp' with rfl | rfl | rfl <;> omega
  ·rcases hp' with rfl | rfl | rfl <;> omega
 rintro ρ ⟨s,hs,det,rfl⟩
 refine aJ (λρ=>∃ox oy,BL 202 ox/\BL 202 oy/\ρ=[some (.d HD),some (.d (.int far)),some (.d (il lows)),some (.d (il highs)),some (.d (.int top)),some (.d (pts (jM lows highs top))),some (.d (.int p)),some (.d (.int q)),some (.d (.int r)),some (.d (.int s)),some (.d (pt (ox,oy)))]) (λK hK=>?_) ?_
 ·rw[<-hH] at hK ⊢
  walk_at "rd"
  refine⟨(BL.const (n:=20)).mulOk hf1,⟨by omega⟩,(BL.const (n:=20)).mulOk hf1,⟨by omega⟩,?_⟩
  exact hK _ ⟨_,_,FZ hf0 hf1,FZ hf0 hf1,rfl⟩
 rintro ρ ⟨ox,oy,hox,hoy,rfl⟩
 have RF:RingForm lows highs top p q r s ox oy:=⟨hlr,hhr,hln,hhn,topL,topH,hp,hq,hr,hs,det,hox,hoy⟩
 have bow:∀z∈jM lows highs top,BL 20 z.1/\BL 20 z.2:=λz hz=>by
  unfold jM at hz
  rcases List.mem_append.mp hz with h | h
  ·obtain⟨x,hx,rfl⟩:=List.mem_map.mp h
   have:=small x (List.mem_append_left _ hx)
   have:=sq x (List.mem_append_left _ hx)
   exact⟨BL.of_lt (by simp;omega) (by simp;omega),BL.of_lt (by simp;omega) (by simp;omega)⟩
  ·obtain⟨x,hx,rfl⟩:=List.mem_map.mp h
   have hx:=List.mem_reverse.mp hx
   have:=small x (List.mem_append_right _ hx)
   have:=sq x (List.mem_append_right _ hx)
   exact⟨BL.of_lt (by simp;omega) (by simp;omega),BL.of_lt (by simp;omega) (by simp;omega)⟩
 walk_at "rd"
 refine⟨bL (by unfold jM;simp;omega),?_⟩
 refine dC (λρ=>∃a b,ρ=[a,b,some (.d (.int p)),some (.d (.int q)),some (.d (pt (ox,oy))),some (.d (.int r)),some (.d (.int s))]) pt (λz=>pt (aff p q r s ox oy z)) (jM lows highs top) ?_ ⟨_,_,rfl⟩ ?_
 ·rintro z hz ρ ⟨a,b,rfl⟩ K' hK'
  obtain⟨b1,b2⟩:=bow z hz
  walk_at "rd"
  have cp:BL 20 p:=BL.of_lt (by omega) (by omega)
  have cq:BL 20 q:=BL.of_lt (by omega) (by omega)
  have cr:BL 20 r:=BL.of_lt (by omega) (by omega)
  have cs:BL 20 s:=BL.of_lt (by omega) (by omega)
  exact⟨cp.mulOk b1,cq.mulOk b2,cr.mulOk b1,cs.mulOk b2,hK' _ ⟨_,_,rfl⟩⟩
 ·have:=hQ lows highs top p q r s ox oy RF
  unfold pts GQ at this
  rw[List.map_map] at this
  exact this
theorem fZ {xs:List D} {j:Nat} (h:j<=xs.length):eX xs (some (j:Int)) none=xs.drop j:=by
 unfold eX
 rw[HT.sIx_nat,HT.sIx_none,Nat.min_eq_left h,List.take_of_length_le (by simp)]
theorem uW {xs:List D} {j:Nat} (h:j<=xs.length):eX xs none (some (j:Int))=xs.take j:=by
 unfold eX
 rw[HT.sIx_nat,HT.sIx_none,Nat.min_eq_left h];simp
theorem zA (z w:Int × Int):eqF 6 (pt z) (pt w)=some (decide (z=w)):=by
 obtain⟨a,b⟩:=z
 obtain⟨c,d⟩:=w
 simp only[eqF,eqL]
 congr 1
 by_cases h1:a=c <;> by_cases h2:b=d <;> simp[h1,h2]
noncomputable abbrev scl (k:Int) (z:Pt):Pt:=(k*z.1,k*z.2)
noncomputable def vY:FD:=λds Q=>∃a b:Int,ds=[.int a,.int b]/\(0<a/\0<b)/\(BL 8000 a/\BL 8000 b)/\∀l,0<l->a∣l->b∣l->l<=a*b->Q (.int l)
theorem IL:∀ds Q,vY ds Q->ds.length=2:=by rintro ds Q ⟨_,_,rfl,_⟩;rfl
theorem kN:∀ds Q,vY ds Q->cP mO { nx:=λ_=>Q .non,rt:=Q } (aO ["one","other"] ds):=by
 rintro ds Q ⟨a,b,rfl,⟨ha,hb⟩,⟨ba,bb⟩,q⟩
 rw[aT 0 rfl]
 unfold cP
 walk_at "rd"
 refine⟨a,b,rfl,?_⟩
 have hg:=qM (a:=a) (b:=b) (by omega)
 have bg:=BL.gcd (a:=a) (b:=b) (by omega) bb
 walk_at "rd"
 have b2:BL 8000 (b.fdiv (Int.gcd a b:Nat)):=bb.fdiv
 refine⟨(bg.mono (by decide)).divOk (by omega),ba.mulOk b2,?_⟩
 obtain⟨c,ec⟩:((Int.gcd a b:Nat):Int)∣b:=Int.gcd_dvd_right ..
 obtain⟨d,ed⟩:((Int.gcd a b:Nat):Int)∣a:=Int.gcd_dvd_left ..
 have e1:b.fdiv (Int.gcd a b:Nat)=c:=by
  rw[Int.fdiv_eq_ediv_of_nonneg _ (by omega)]
  have:b / ((Int.gcd a b:Nat):Int)=(((Int.gcd a b:Nat):Int)*c) / ((Int.gcd a b:Nat):Int):=congrArg (· / ((Int.gcd a b:Nat):Int)) ec
  rw[this,Int.mul_ediv_cancel_left _ (by omega)]
 rw[e1]
 generalize hG:((Int.gcd a b:Nat):Int)=g at *
 have pc:0<c:=by
  apply Int.not_le.mp
  intro hn
  have:g*c<=0:=Int.mul_nonpos_of_nonneg_of_nonpos (by omega) hn
  omega
 refine q _ (Int.mul_pos ha pc) (Int.dvd_mul_right ..) ⟨d,by rw[ed,ec];grind⟩ ?_
 rw[ec]
 have:0<=a*((g-1)*c):=Int.mul_nonneg (by omega) (Int.mul_nonneg (by omega) (by omega))
 have e:a*(g*c)=a*c+a*((g-1)*c):=by grind
 omega
local macro_rules | `(tactic| walk_at "rd")=>do
 let a <- ("S.fz xS nH EL aV bS bN tY cU bC cK xT xQ aR hX cQ hV aK aD rC r2 r1 bD xP rOr jF nG DC pH rIf aG aA fV dM aU rCB bZ eN uA cI DL riL riT oS xY kR eM dO kE qT eF eY tZ kO DD tF jG fG fW iY BW dNe oR sF gK bK fA cT cH bU jW qW iB fH BU nX pG fI fJ iO iE iF iG iH iI iJ iK iL iM iN gA gB pR uX tP kG eZ mV oD oB oC oA oE S.val cE DH AB tE vP DJ vQ AC AD DK AE uB uC uD List.map_cons List.map_nil List.cons_append List.nil_append List.length_cons List.length_nil List.getElem?_cons_zero List.getElem?_cons_succ List.set_cons_zero List.set_cons_succ List.append_nil Bool.or_false Bool.or_true Bool.false_or Bool.true_or Bool.not_true Bool.not_false if_true if_false Bool.false_eq_true sz0 sz1 sz2 sz3 sz4 true_and decide_eq_true_eq Int.reduceToNat Int.reducePow Int.reduceMul Int.reduceSub Int.reduceAdd Int.reduceNeg".splitOn " ").toArray.mapM λx=>`(Lean.Parser.Tactic.simpLemma| $(Lean.mkIdent x.toName):term)
 `(tactic| simp only[$a,*])
noncomputable abbrev sdD (s:bT):D:=.tup [pt s.1,pt s.2]
noncomputable abbrev fQ (S:List bT):D:=.lst (S.map sdD)
noncomputable abbrev dI (R:List (List Pt)):D:=.lst (R.map pts)
noncomputable def rO:Pt->List Pt->List (Pt × Pt)
 | _,[]=>[]
 | a,b::r=>(a,b)::rO b r
theorem uM:∀(a:Pt) (l:List Pt),cC a l=((rO a l).map λp=>sd p.1 p.2).flatten
 | _,[]=>rfl
 | a,b::r=>by rw[cC,rO,List.map_cons,List.flatten_cons,uM b r]
theorem yM:∀(a z:Pt) (r:List Pt),List.zipWith (λu v=>D.tup [u,v]) ((a::r).map pt) ((r++[z]).map pt)=(rO a (r++[z])).map λp=>D.tup [pt p.1,pt p.2]
 | a,z,[]=>rfl
 | a,z,b::r=>by
  have ih:=yM b z r
  show D.tup [pt a,pt b]::List.zipWith (λu v=>D.tup [u,v]) ((b::r).map pt) ((r++[z]).map pt)=_
  rw[ih];rfl
theorem xG:∀(a:Pt) (l:List Pt),(rO a l).length=l.length
 | _,[]=>rfl
 | a,b::r=>by rw[rO,List.length_cons,xG b r,List.length_cons]
theorem GV (a b:Pt):(sd a b).length<=1:=by unfold sd;split <;> (try split) <;> simp
theorem yJ:∀(l:List Pt) (a:Pt),(cC a l).length<=l.length
 | [],_=>Nat.le_refl _
 | b::r,a=>by
  have h1:=GV a b
  have h2:=yJ r b
  rw[cC,List.length_append,List.length_cons];omega
theorem uE:∀g:List Pt,(bR g).length<=g.length
 | []=>Nat.le_refl _
 | a::r=>by have:=yJ (r++[a]) a;rw[bR];simpa using this
noncomputable def iD:FD:=λds Q=>∃g:List Pt,ds=[pts g]/\g.length<=100/\Q (fQ (bR g))
theorem wZ:∀ds Q,iD ds Q->ds.length=1:=by rintro ds Q ⟨_,rfl,_⟩;rfl
theorem sZ:∀ds Q,iD ds Q->hE { nx:=λ_=>Q .non,rt:=Q } (aO ["ring","sides","one","other"] ds):=by
 rintro ds Q ⟨g,rfl,hl,q⟩
 rw[aT 3 rfl]
 unfold hE
 refine aJ (λρ=>ρ=[some (.d (pts g)),some (.own []),none,none]) (λK hK=>?_) ?_
 ·walk_at "rd"
  exact hK _ rfl
 rintro ρ rfl
 refine aJ (λρ=>∃u v,ρ=[some (.d (pts g)),some (.own ((bR g).map sdD)),u,v]) (λK hK=>?_) ?_
 ·have zz:∃ps:List (Pt × Pt),List.zipWith (λu v=>D.tup [u,v]) (g.map pt) (eX (g.map pt) (some 1) none++eX (g.map pt) none (some 1))=ps.map (λp=>D.tup [pt p.1,pt p.2])/\(ps.map λp=>sd p.1 p.2).flatten=bR g/\ps.length<=100:=by
   cases g with
   | nil=>exact⟨[],rfl,rfl,Nat.zero_le _⟩
   | cons a r =>
    refine⟨rO a (r++[a]),?_,(uM a (r++[a])).symm,by rw[xG];simpa using hl⟩
    have c1:eX ((a::r).map pt) (some 1) none=r.map pt:=fZ (j:=1) (by simp)
    have c2:eX ((a::r).map pt) none (some 1)=[pt a]:=uW (j:=1) (by simp)
    rw[c1,c2,<-yM a a r]
    simp
  obtain⟨ps,e1,e2,e3⟩:=zz
  simp only[cI,gK,aK,aD,r2,jG,eN,bZ,rC,fG,List.getElem?_cons_zero]
  have cl:∀l u:Option Int,(eX (g.map pt) l u).length<=100:=λl u=>by unfold eX;rw[List.length_take,List.length_drop,List.length_map];omega
  refine⟨bL (by have:=cl (some 1) none;have:=cl none (some 1);omega),?_⟩
  rw[e1]
  refine bY (λxs ρ=>∃done todo:List (Pt × Pt),ps=done++todo/\xs=todo.map (λp=>D.tup [pt p.1,pt p.2])/\∃u v,ρ=[some (.d (pts g)),some (.own (((done.map λp=>sd p.1 p.2).flatten).map sdD)),u,v]) ?_ ?_ _ _ ⟨[],ps,rfl,rfl,_,_,rfl⟩
  ·rintro x xs ρ ⟨done,todo,eps,exs,u,v,rfl⟩ F hr hb hn hc
   cases todo with
   | nil=>cases exs
   | cons p todo =>
    rw[List.map_cons] at exs
    injection exs with ex exs
    subst ex exs
    have dl:((done.map λp=>sd p.1 p.2).flatten).length+1<=101:=by
     have h1:done.length<=100:=by rw[eps] at e3;simp at e3;omega
     have:((done.map λp=>sd p.1 p.2).flatten).length<=done.length:=by
      clear eps h1
      induction done with
      | nil=>exact Nat.le_refl _
      | cons z done ih=>have:=GV z.1 z.2;rw[List.map_cons,List.flatten_cons,List.length_append,List.length_cons];omega
     omega
    have go:∀w,w=sd p.1 p.2->F.nx [some (.d (pts g)),some (.own (((done.map λp=>sd p.1 p.2).flatten).map sdD++w.map sdD)),some (.d (pt p.1)),some (.d (pt p.2))]:=λw hw=>by
     refine hn _ ⟨done++[p],todo,by rw[eps];simp,rfl,some (.d (pt p.1)),some (.d (pt p.2)),?_⟩
     rw[hw,<-List.map_append]
     congr 4
     simp
    unfold kP
    walk_at "rd"
    by_cases h1:p.1.1<p.2.1
    ·have h2:¬p.2.1<p.1.1:=by omega
     simp only[h1,h2,decide_true,decide_false,if_true,if_false,Bool.false_eq_true]
     refine⟨bL (by rw[List.length_map];omega),?_⟩
     exact go [p] (by unfold sd;rw[if_pos h1])
    ·by_cases h2:p.2.1<p.1.1
     ·simp only[h1,h2,decide_true,decide_false,if_true,if_false,Bool.false_eq_true]
      refine⟨bL (by rw[List.length_map];omega),?_⟩
      exact go [(p.2,p.1)] (by unfold sd;rw[if_neg h1,if_pos h2])
     ·simp only[h1,h2,decide_false,if_false,Bool.false_eq_true]
      have:=go [] (by unfold sd;rw[if_neg h1,if_neg h2])
      simpa using this
  ·rintro ρ ⟨done,todo,eps,exs,u,v,rfl⟩
   have:todo=[]:=by cases todo with | nil=>rfl | cons _ _=>cases exs
   subst this
   rw[List.append_nil] at eps
   refine hK _ ⟨u,v,?_⟩
   rw[<-eps,e2]
 rintro ρ ⟨u,v,rfl⟩
 walk_at "rd"
 exact q
noncomputable def kL:List (Int × List D)->Int->List D
 | [],_=>[]
 | (k',ds)::r,k=>if k'=k then ds else kL r k
theorem xD:∀(kvs:List (Int × List D)) (k:Int) (d:D) (c:Int),kL (fP kvs k d) c=if k=c then kL kvs c++[d] else kL kvs c
 | [],k,d,c=>by simp only[fP,kL];split <;> rfl
 | (k',ds)::r,k,d,c=>by
  have ih:=xD r k d c
  unfold fP
  by_cases h:k'=k
  ·rw[if_pos h];subst h
   simp only[kL]
   by_cases hc:k'=c
   ·rw[if_pos hc,if_pos hc,if_pos hc]
   ·rw[if_neg hc,if_neg hc,if_neg hc]
  ·rw[if_neg h]
   simp only[kL]
   by_cases hc:k=c
   ·have:¬k'=c:=λe=>h (e.trans hc.symm)
    rw[if_neg this,if_pos hc,ih,if_pos hc,if_neg this]
   ·rw[if_neg hc,ih,if_neg hc]
theorem rK:∀(kvs:List (Int × List D)) (k:Int) (d:D),(fP kvs k d).map (·.1)=if k∈kvs.map (·.1) then kvs.map (·.1) else kvs.map (·.1)++[k]
 | [],k,d=>by simp[fP]
 | (k',ds)::r,k,d=>by
  have ih:=rK r k d
  unfold fP
  by_cases h:k'=k
  ·rw[if_pos h];subst h;simp
  ·rw[if_neg h,List.map_cons,ih]
   have h':¬k=k':=λe=>h e.symm
   by_cases hm:k∈r.map (·.1)
   ·rw[if_pos hm,if_pos (by rw[List.map_cons];exact .tail _ hm)];rfl
   ·rw[if_neg hm,if_neg (by rw[List.map_cons,List.mem_cons];exact λz=>z.elim h' hm)];rfl
theorem wN:∀(kvs:List (Int × List D)) (c:Int),c∈kvs.map (·.1)->mW (kvs.map (·.1)) (kvs.map λp=>.lst p.2) c=some (.lst (kL kvs c))
 | [],_,h=>by cases h
 | (k',ds)::r,c,h=>by
  simp only[List.map_cons,mW,kL]
  by_cases hc:k'=c
  ·rw[if_pos hc,if_pos hc]
  ·rw[if_neg hc,if_neg hc]
   rw[List.map_cons,List.mem_cons] at h
   exact wN r c (h.resolve_left λe=>hc e.symm)
theorem BI:∀(kvs:List (Int × List D)) (k:Int) (d:D) (n:Nat),kvs.length<=n->(∀p∈kvs,p.2.length<=n)->(fP kvs k d).length<=n+1/\∀p∈fP kvs k d,p.2.length<=n+1
 | [],k,d,n,_,_=>⟨by simp[fP],λp hp=>by simp[fP] at hp;subst hp;simp⟩
 | (k',ds)::r,k,d,n,hl,hp=>by
  unfold fP
  have hds:=hp (k',ds) (.head _)
  by_cases h:k'=k
  ·rw[if_pos h]
   refine⟨by simpa using Nat.le_succ_of_le hl,λp h'=>?_⟩
   rcases List.mem_cons.mp h' with rfl | h'
   ·simp;exact hds
   ·exact Nat.le_succ_of_le (hp p (.tail _ h'))
  ·rw[if_neg h]
   rw[List.length_cons] at hl
   have n1:n=(n-1)+1:=by omega
   obtain⟨i1,i2⟩:=BI r k d n (by omega) λp h'=>hp p (.tail _ h')
   have i3:(fP r k d).length<=r.length+1:=by
    clear i1 i2 hp hds hl
    induction r with
    | nil=>simp[fP]
    | cons z r ih=>unfold fP;split <;> simp <;> omega
   refine⟨by rw[List.length_cons];omega,λp h'=>?_⟩
   rcases List.mem_cons.mp h' with rfl | h'
   ·exact Nat.le_succ_of_le hds
   ·exact i2 p h'
noncomputable abbrev Ev:=Int × bT
noncomputable def evs (s:bT):List Ev:=(List.range (wid s).toNat).map λk:Nat=>(s.1.1+(k:Int),s)
noncomputable def cR (E:List Ev):List (Int × List D):=E.foldl (λm e=>fP m e.1 (sdD e.2)) []
theorem rL (E:List Ev) (e:Ev):cR (E++[e])=fP (cR E) e.1 (sdD e.2):=by unfold cR;rw[List.foldl_append];rfl
theorem zF (E:List Ev):((cR E).length<=E.length/\∀p∈cR E,p.2.length<=E.length)/\((cR E).map (·.1)).Nodup/\(∀c,c∈(cR E).map (·.1)↔∃e∈E,e.1=c)/\∀c,kL (cR E) c=(E.filter λe=>decide (e.1=c)).map λe=>sdD e.2:=by
 refine snoc_ind (P:=λE=>((cR E).length<=E.length/\∀p∈cR E,p.2.length<=E.length)/\((cR E).map (·.1)).Nodup/\(∀c,c∈(cR E).map (·.1)↔∃e∈E,e.1=c)/\∀c,kL (cR E) c=(E.filter λe=>decide (e.1=c)).map λe=>sdD e.2) ?_ ?_ E
 ·exact⟨⟨Nat.le_refl _,λp h=>by cases h⟩,List.nodup_nil,λc=>⟨λh=>(by cases h),λ⟨e,h,_⟩=>(by cases h)⟩,λc=>rfl⟩
 ·rintro E e ⟨⟨h1,h2⟩,h3,h4,h5⟩
  rw[rL]
  refine⟨by rw[List.length_append];exact BI _ _ _ _ h1 h2,?_,λc=>?_,λc=>?_⟩
  ·rw[rK]
   split
   ·exact h3
   ·rename_i n
    exact List.nodup_append.mpr ⟨h3,List.pairwise_singleton _ _,λa ha b hb e'=>n (by rw[List.mem_singleton.mp hb] at e';exact e' ▸ ha)⟩
  ·rw[rK]
   split
   ·rename_i m
    rw[h4 c]
    constructor
    ·rintro⟨x,hx,rfl⟩;exact⟨x,List.mem_append_left _ hx,rfl⟩
    ·rintro⟨x,hx,rfl⟩
     rcases List.mem_append.mp hx with hx | hx
     ·exact⟨x,hx,rfl⟩
     ·rw[List.mem_singleton.mp hx];exact (h4 _).mp m
   ·rw[List.mem_append,h4 c,List.mem_singleton]
    constructor
    ·rintro (⟨x,hx,rfl⟩ | rfl)
     ·exact⟨x,List.mem_append_left _ hx,rfl⟩
     ·exact⟨e,List.mem_append_right _ (.head _),rfl⟩
    ·rintro⟨x,hx,rfl⟩
     rcases List.mem_append.mp hx with hx | hx
     ·exact .inl ⟨x,hx,rfl⟩
     ·rw[List.mem_singleton.mp hx];exact .inr rfl
  ·rw[xD,h5 c,List.filter_append,List.map_append]
   by_cases hc:e.1=c
   ·rw[if_pos hc];simp[hc]
   ·rw[if_neg hc];simp[hc]
where
 snoc_ind {α:Type} {P:List α->Prop} (h0:P []) (hs:∀E e,P E->P (E++[e])) (E:List α):P E:=by
  have:∀(n:Nat) (E:List α),E.length=n->P E:=by
   intro n
   induction n with
   | zero=>intro E h;rw[List.length_eq_zero_iff.mp h];exact h0
   | succ n ih =>
    intro E h
    rcases List.eq_nil_or_concat E with rfl | ⟨E',e,rfl⟩
    ·cases h
    ·rw[List.concat_eq_append] at h ⊢
     exact hs E' e (ih E' (by simpa using h))
  exact this _ E rfl
theorem IB (c:Int) (s:bT) (hw:0<wid s):((evs s).filter λe=>decide (e.1=c)).map (·.2)=if cov c s=true then [s] else []:=by
 have key:∀n:Nat,(((List.range n).map λk:Nat=>((s.1.1+(k:Int),s):Ev)).filter λe=>decide (e.1=c)).map (·.2)=if s.1.1<=c/\c<s.1.1+n then [s] else []:=by
  intro n
  induction n with
  | zero=>rw[if_neg (by omega)];rfl
  | succ n ih =>
   rw[List.range_succ,List.map_append,List.filter_append,List.map_append,ih]
   by_cases h1:s.1.1<=c/\c<s.1.1+n
   ·rw[if_pos h1,if_pos (by omega)]
    have:¬s.1.1+(n:Int)=c:=by omega
    simp[this]
   ·by_cases h2:s.1.1+(n:Int)=c
    ·rw[if_neg h1,if_pos (by omega)];simp[h2]
    ·rw[if_neg h1,if_neg (by omega)];simp[h2]
 unfold evs
 rw[key]
 by_cases h:cov c s=true
 ·have:=gU.mp h
  rw[if_pos h,if_pos (by unfold wid at *;omega)]
 ·rw[if_neg h,if_neg λk=>h (gU.mpr (by unfold wid at *;omega))]
theorem vC (c:Int):∀(S:List bT),(∀s∈S,0<wid s)->(((S.map evs).flatten).filter λe=>decide (e.1=c)).map (·.2)=S.filter (cov c)
 | [],_=>rfl
 | s::S,h=>by
  rw[List.map_cons,List.flatten_cons,List.filter_append,List.map_append,vC c S λx hx=>h x (.tail _ hx),IB c s (h s (.head _)),List.filter_cons]
  split <;> rfl
structure ColOf (S:List bT) (ks:List Int) (xs:List D):Prop where
 len:ks.length=xs.length
 nodup:ks.Nodup
 mem:∀c,c∈ks↔∃s∈S,cov c s=true
 here:∀c∈ks,mW ks xs c=some (fQ (S.filter (cov c)))
theorem JV (S:List bT) (h:∀s∈S,0<wid s):ColOf S ((cR (S.map evs).flatten).map (·.1)) ((cR (S.map evs).flatten).map λp=>.lst p.2):=by
 obtain⟨_,h3,h4,h5⟩:=zF (S.map evs).flatten
 refine⟨by simp,h3,λc=>?_,λc hc=>?_⟩
 ·rw[h4 c]
  have e:=vC c S h
  constructor
  ·rintro⟨x,hx,rfl⟩
   have:x.2∈(((S.map evs).flatten).filter λe=>decide (e.1=x.1)).map (·.2):=List.mem_map_of_mem (f:=(·.2)) (List.mem_filter.mpr ⟨hx,decide_eq_true rfl⟩)
   rw[e] at this
   exact⟨x.2,(List.mem_filter.mp this).1,(List.mem_filter.mp this).2⟩
  ·rintro⟨s,hs,k⟩
   have:s∈S.filter (cov c):=List.mem_filter.mpr ⟨hs,k⟩
   rw[<-e] at this
   obtain⟨x,hx,_⟩:=List.mem_map.mp this
   exact⟨x,(List.mem_filter.mp hx).1,by simpa using (List.mem_filter.mp hx).2⟩
 ·rw[wN _ c hc,h5 c]
  congr 2
  rw[<-vC c S h,List.map_map];rfl
local macro_rules | `(tactic| walk_at "rd")=>do
 let a <- ("aV bS bN tY cU bC cK xT xQ aR hX cQ hV aK aD rC r2 r1 bD xP rOr jF nG DC pH rIf aG aA fV dM aU rCB bZ eN uA cI DL riL riT oS xY kR eM dO kE qT eF eY tZ kO DD tF jG fG fW iY BW dNe oR sF gK bK fA cT cH bU jW qW iB fH BU nX pG fI fJ iO iE iF iG iH iI iJ iK iL iM iN gA gB pR uX tP kG eZ mV oD oB oC oA oE S.val cE DH AB tE vP DJ vQ AC AD DK AE uB uC uD List.map_cons List.map_nil List.cons_append List.nil_append List.length_cons List.length_nil List.getElem?_cons_zero List.getElem?_cons_succ List.set_cons_zero List.set_cons_succ List.append_nil Bool.or_false Bool.or_true Bool.false_or Bool.true_or Bool.not_true Bool.not_false if_true if_false Bool.false_eq_true sz0 sz1 sz2 sz3 sz4 true_and decide_eq_true_eq Int.reduceToNat Int.reducePow Int.reduceMul Int.reduceSub Int.reduceAdd Int.reduceNeg".splitOn " ").toArray.mapM λx=>`(Lean.Parser.Tactic.simpLemma| $(Lean.mkIdent x.toName):term)
 `(tactic| simp only[$a,*])
noncomputable abbrev cr (a b:Int × Int):Int:=a.1*b.2-a.2*b.1
namespace K12
theorem AY {q p r:Int} (h:Int.gcd q p=1) (d:q∣p*r):q∣r:=by
 have h1:q.natAbs∣p.natAbs*r.natAbs:=by rw[<-Int.natAbs_mul];exact Int.natAbs_dvd_natAbs.mpr d
 exact Int.natAbs_dvd_natAbs.mp (Nat.Coprime.dvd_of_dvd_mul_left h h1)
theorem low_eq {a b p q p' q':Int} (hb:0<b) (h:Low a b p q) (h':Low a b p' q'):p=p'/\q=q':=by
 have e:p*q'=p'*q:=by
  have h1:=h.worth
  have h2:=h'.worth
  have:(p*q')*b=(p'*q)*b:=by grind
  exact Int.eq_of_mul_eq_mul_right (by omega) this
 have d1:q∣q':=by
  have:q∣p*q':=by rw[e];exact Int.dvd_mul_left ..
  exact AY (by rw[Int.gcd_comm];exact h.cop) this
 have d2:q'∣q:=by
  have:q'∣p'*q:=by rw[<-e];exact Int.dvd_mul_left ..
  exact AY (by rw[Int.gcd_comm];exact h'.cop) this
 have l1:=Int.le_of_dvd h'.pos d1
 have l2:=Int.le_of_dvd h.pos d2
 have eq:q=q':=by omega
 subst eq
 exact⟨Int.eq_of_mul_eq_mul_right (by have:=h.pos;omega) e,rfl⟩
end K12
theorem nB {g:RG} {t:RS} {E:DEnds} (xs:List D) (J:Nat->En->Prop) (step:∀i x ρ,xs[i]? = some x->J i ρ->∀F:DEnds,F.rt=E.rt->F.bk=E.nx->(∀ρ',J (i+1) ρ'->F.nx ρ')->(∀ρ',J (i+1) ρ'->F.ct ρ')->g x ρ λρ1=>t F ρ1)
  (last:∀ρ,J xs.length ρ->E.nx ρ) (ρ:En) (h:J 0 ρ):sS g t xs E ρ:=by
 refine bY (λys ρ=>∃i,i<=xs.length/\ys=xs.drop i/\J i ρ) ?_ ?_ xs ρ ⟨0,Nat.zero_le _,rfl,h⟩
 ·rintro x ys ρ ⟨i,hi,e,hJ⟩ F f1 f2 f3 f4
  have hlt:i<xs.length:=by
   apply Nat.not_le.mp
   intro hn
   rw[List.drop_of_length_le hn] at e;cases e
  rw[List.drop_eq_getElem_cons hlt] at e
  cases e
  exact step i _ ρ (List.getElem?_eq_getElem hlt) hJ F f1 f2 (λρ' h=>f3 ρ' ⟨i+1,by omega,rfl,h⟩) λρ' h=>f4 ρ' ⟨i+1,by omega,rfl,h⟩
 ·rintro ρ ⟨i,hi,e,hJ⟩
  have:i=xs.length:=by
   have:=congrArg List.length e
   simp at this;omega
  subst this
  exact last ρ hJ
theorem zZ {lo:Int} {n i:Nat} {x:D} (h:(cD lo n)[i]? = some x):x = .int (lo+i)/\i<n:=by
 unfold cD at h
 rw[List.getElem?_map] at h
 by_cases hi:i<n
 ·rw[List.getElem?_range hi] at h;cases h;exact⟨rfl,hi⟩
 ·rw[List.getElem?_eq_none (by simpa using hi)] at h;cases h
theorem DV {lo:Int} {n i:Nat} {x:D} (h:(nP lo n)[i]? = some x):x = .int (lo+i*2)/\i<n:=by
 unfold nP at h
 rw[List.getElem?_map] at h
 by_cases hi:i<n
 ·rw[List.getElem?_range hi] at h;cases h;exact⟨rfl,hi⟩
 ·rw[List.getElem?_eq_none (by simpa using hi)] at h;cases h
theorem DX {lo:Int} {n:Nat}:(nP lo n).length=n:=by simp[nP]
theorem jB {g:RG} {t:RS} {E:DEnds} (lo:Int) (n:Nat) (J:Nat->En->Prop) (step:∀i ρ,i<n->J i ρ->∀F:DEnds,F.rt=E.rt->F.bk=E.nx->(∀ρ',J (i+1) ρ'->F.nx ρ')->(∀ρ',J (i+1) ρ'->F.ct ρ')->g (.int (lo+i)) ρ λρ1=>t F ρ1)
  (last:∀ρ,J n ρ->E.nx ρ) (ρ:En) (h:J 0 ρ):sS g t (cD lo n) E ρ:=by
 refine nB _ J (λi x ρ e hJ=>?_) (λρ h=>last ρ (by rwa [gE] at h)) ρ h
 obtain⟨rfl,hi⟩:=zZ e
 exact step i ρ hi hJ
theorem IC {g:RG} {t:RS} {E:DEnds} (lo:Int) (n:Nat) (J:Nat->En->Prop) (step:∀i ρ,i<n->J i ρ->∀F:DEnds,F.rt=E.rt->F.bk=E.nx->(∀ρ',J (i+1) ρ'->F.nx ρ')->(∀ρ',J (i+1) ρ'->F.ct ρ')->g (.int (lo+i*2)) ρ λρ1=>t F ρ1)
  (last:∀ρ,J n ρ->E.nx ρ) (ρ:En) (h:J 0 ρ):sS g t (nP lo n) E ρ:=by
 refine nB _ J (λi x ρ e hJ=>?_) (λρ h=>last ρ (by rwa [DX] at h)) ρ h
 obtain⟨rfl,hi⟩:=DV e
 exact step i ρ hi hJ
theorem NO {ns:List Int} {i:Int} {Q:D->Prop} (h0:0<=i) (h1:i<ns.length) (q:∀v,ns[i.toNat]? = some v->Q (.int v)):dIx (il ns) (.int i) Q:=by
 have hj:i.toNat<ns.length:=by omega
 exact iX (EB (j:=i.toNat) (by omega) (by rw[List.getElem?_map,List.getElem?_eq_getElem hj];rfl)) (q _ (List.getElem?_eq_getElem hj))
theorem FG {ns:List Int} (hne:ns≠[]) {Q:D->Prop} (q:∀v l,ns=l++[v]->Q (.int v)):dIx (.lst (ns.map D.int)) (.int (-1)) Q:=by
 rcases List.eq_nil_or_concat ns with h | ⟨l,v,h⟩
 ·exact absurd h hne
 ·have e:ns=l++[v]:=by simpa using h
  have:ns.map D.int=l.map D.int++[D.int v]:=by rw[e];simp
  rw[this]
  refine iX ?_ (q v l e)
  unfold atI ixN
  rw[if_neg (by decide),if_pos (by simp;omega)]
  have:((-1:Int)+((l.map D.int++[D.int v]).length:Nat)).toNat=l.length:=by simp;omega
  simp only[this,Option.bind_some]
  simp
noncomputable def gT:FD:=λds Q=>∃(ns:List Int) (k:Int),ds=[il ns,.int k]/\(0<=k/\k<=100000)/\∀v,0<=v->v<2147483647->Q (.int v)
theorem CM:∀ds Q,gT ds Q->ds.length=2:=by rintro ds Q ⟨_,_,rfl,_⟩;rfl
theorem rW:∀ds Q,gT ds Q->fD { nx:=λ_=>Q .non,rt:=Q } (aO ["_law_script","_law_k","_law_cell","_law_number"] ds):=by
 rintro ds Q ⟨ns,k,rfl,⟨k0,k1⟩,q⟩
 rw[aT 2 rfl]
 unfold fD
 simp only[cE,tE,List.map_cons,List.map_nil,List.cons_append,List.nil_append]
 refine aJ (λρ=>ρ=[some (.d (il ns)),some (.d (.int k)),some (.d (.int 0)),none]) (λK hK=>?_) ?_
 ·walk_at "rd"
  exact hK _ rfl
 rintro ρ rfl
 refine aJ (λρ=>∃c:Int,ρ=[some (.d (il ns)),some (.d (.int k)),some (.d (.int c)),none]) (λK hK=>?_) ?_
 ·walk_at "rd"
  split
  ·rename_i h
   have hl:0<ns.length:=by simp at h;exact h
   have hm:∃m:Int,(if (((ns.map D.int).length:Nat):Int)<63 then (((ns.map D.int).length:Nat):Int) else 63)=m/\0<m/\m<=ns.length:=by
    refine⟨_,rfl,?_,?_⟩ <;> (simp;split <;> omega)
   obtain⟨m,em,m0,m1⟩:=hm
   rw[em]
   obtain⟨a0,a1⟩:=aS (a:=k) (b:=m) m0
   exact⟨⟨by omega⟩,NO a0 (by omega) λv _=>hK _ ⟨v,rfl⟩⟩
  ·exact hK _ ⟨_,rfl⟩
 rintro ρ ⟨c,rfl⟩
 walk_at "rd"
 obtain⟨a0,a1⟩:=aS (a:=c) (b:=1000000000000000000) (by decide)
 have b1:BL 100 (c.fmod 1000000000000000000+48271*(k+1)):=BL.of_lt (by omega) (by
  have:((2 ^ 100:Nat):Int)=1267650600228229401496703205376:=by decide
  omega)
 obtain⟨c0,c1⟩:=aS (a:=(c.fmod 1000000000000000000+48271*(k+1))*(c.fmod 1000000000000000000+48271*(k+1))) (b:=2147483647) (by decide)
 exact⟨mK,dL,(BL.const (n:=20) (by decide)).mulOk (n:=20) (BL.of_lt (by omega) (by omega)),b1.mulOk b1,dL,q _ c0 c1⟩
structure Thr (ts:List Int):Prop where
 len:2<=ts.length/\ts.length<=5
 bl:∀x∈ts,BL 200 x
 step:∀(i:Nat) a b,ts[i]? = some a->ts[i+1]? = some b->1<=b-a/\b-a<=40
 wide:∀x∈ts,∀y∈ts,y-x<=60
noncomputable abbrev jN:Int:=100000000000000000000000000000000000000000000000000
noncomputable def lA:FD:=λds Q=>∃ns:List Int,ds=[il ns]/\∀ts,Thr ts->Q (il ts)
theorem xA:∀ds Q,lA ds Q->ds.length=1:=by rintro ds Q ⟨_,rfl,_⟩;rfl
theorem oQ:∀ds Q,lA ds Q->dY nS gT { nx:=λ_=>Q .non,rt:=Q } (aO ["_law_script","_law_found","_law_k","_law_wide"] ds):=by
 rintro ds Q ⟨ns,rfl,q⟩
 rw[aT 3 rfl]
 unfold dY
 simp only[cE,vP,List.map_cons,List.map_nil,List.cons_append,List.nil_append]
 refine aJ (λρ=>∃a:Int,(-jN<=a/\a<=jN)/\ρ=[some (.d (il ns)),some (.own [.int a]),none,none]) (λK hK=>?_) ?_
 ·walk_at "rd"
  refine⟨ns,0,rfl,by decide,λc=>?_⟩
  walk_at "rd"
  obtain⟨a0,a1⟩:=aS (a:=c) (b:=2001) (by decide)
  exact⟨dL,hK _ ⟨_,⟨by unfold jN;omega,by unfold jN;omega⟩,rfl⟩⟩
 rintro ρ ⟨a,ha,rfl⟩
 refine aJ (λρ=>∃a:Int,(-jN<=a/\a<=jN)/\ρ=[some (.d (il ns)),some (.own [.int a]),none,none]) (λK hK=>?_) ?_
 ·walk_at "rd"
  refine⟨ns,1,rfl,by decide,λc=>?_⟩
  walk_at "rd"
  walk_at "sides"
  split
  ·refine⟨ns,0,rfl,by decide,λc=>?_⟩
   walk_at "rd"
   obtain⟨a0,a1⟩:=aS (a:=c) (b:=200000000000000000000000000000000000000000000000000) (by decide)
   refine⟨mK,(BL.const (n:=300) (by decide)).mulOk (BL.const (n:=300) (by decide)),dL,mK,hK _ ⟨_,⟨by unfold jN;omega,by unfold jN;omega⟩,rfl⟩⟩
  ·exact hK _ ⟨a,ha,rfl⟩
 rintro ρ ⟨a,ha,rfl⟩
 refine aJ (λρ=>∃(ts:List Int) (x y:Option S),Thr ts/\ρ=[some (.d (il ns)),some (.own (ts.map D.int)),x,y]) (λK hK=>?_) ?_
 ·walk_at "rd"
  refine⟨ns,1,rfl,by decide,λc=>?_⟩
  walk_at "rd"
  obtain⟨a0,a1⟩:=aS (a:=c) (b:=4) (by decide)
  refine⟨dL,⟨by omega,by omega⟩,?_⟩
  have hn:((1+c.fmod 4).toNat:Int)=1+c.fmod 4:=by omega
  generalize (1+c.fmod 4).toNat=n at hn
  refine jB 0 n (λi ρ=>∃(ts:List Int) (x y:Option S),(ts.length=i+1/\(∀z∈ts,-jN<=z/\z<=jN+40*i)/\∀(i:Nat) a b,ts[i]? = some a->ts[i+1]? = some b->1<=b-a/\b-a<=40)/\(∀z∈ts,a<=z/\z<=a+37+3*i/\(i=0->z<=a))/\ρ=[some (.d (il ns)),some (.own (ts.map D.int)),x,y]) ?_ ?_ _ ⟨[a],none,none,⟨rfl,(λz hz=>by simp at hz;subst hz;unfold jN at *;omega),λi a b e1 e2=>by simp at e2⟩,(λz hz=>by simp at hz;subst hz;omega),rfl⟩
  ·rintro i ρ hi ⟨ts,x,y,⟨l1,l2,l3⟩,l4,rfl⟩ F _ _ hn' _
   unfold gJ
   simp only[aR,List.set_cons_zero,List.set_cons_succ]
   refine aJ (λρ=>∃w:Int,(1<=w/\w<=40/\(i≠0->w<=3))/\ρ=[some (.d (il ns)),some (.own (ts.map D.int)),some (.d (.int (0+i))),some (.d (.int w))]) (λK hK=>?_) ?_
   ·walk_at "rd"
    refine⟨ns,100+(0+(i:Int)),rfl,⟨by omega,by omega⟩,λv v0 v1=>?_⟩
    walk_at "rd"
    obtain⟨a0,a1⟩:=aS (a:=v) (b:=3) (by decide)
    exact⟨dL,hK _ ⟨_,⟨by omega,by omega,by omega⟩,rfl⟩⟩
   rintro ρ ⟨w,hw,rfl⟩
   refine aJ (λρ=>∃w:Int,(1<=w/\w<=40/\(i≠0->w<=3))/\ρ=[some (.d (il ns)),some (.own (ts.map D.int)),some (.d (.int (0+i))),some (.d (.int w))]) (λK hK=>?_) ?_
   ·walk_at "rd"
    split
    ·rename_i hi0
     refine⟨ns,2,rfl,by decide,λc=>?_⟩
     walk_at "rd"
     walk_at "sides"
     split
     ·refine⟨ns,2,rfl,by decide,λc=>?_⟩
      walk_at "rd"
      walk_at "sides"
      obtain⟨a0,a1⟩:=aS (a:=c.fdiv 8) (b:=40) (by decide)
      exact hK _ ⟨_,⟨by omega,by omega,by simp at hi0;omega⟩,rfl⟩
     ·exact hK _ ⟨w,hw,rfl⟩
    ·exact hK _ ⟨w,hw,rfl⟩
   rintro ρ ⟨w,hw,rfl⟩
   walk_at "rd"
   refine FG (by intro e;rw[e] at l1;simp at l1) λv l e=>?_
   walk_at "rd"
   refine⟨bL (by simp;omega),hn' _ ⟨ts++[v+w],some (.d (.int (0+(i:Int)))),some (.d (.int w)),⟨by simp[l1],λz hz=>?_,λj p r e1 e2=>?_⟩,(λz hz=>?_),by rw[List.map_append];rfl⟩⟩
   ·rcases List.mem_append.mp hz with h | h
    ·have:=l2 z h;omega
    ·have:=l2 v (by rw[e];simp)
     simp at h;subst h;omega
   rotate_left
   ·rcases List.mem_append.mp hz with h | h
    ·have:=l4 z h;omega
    ·have:=l4 v (by rw[e];simp)
     simp at h;subst h;omega
   ·by_cases hj:j+1<ts.length
    ·rw[List.getElem?_append_left (by omega)] at e1
     rw[List.getElem?_append_left hj] at e2
     exact l3 j p r e1 e2
    ·have h2:j+1<(ts++[v+w]).length:=(List.getElem?_eq_some_iff.mp e2).1
     simp at h2
     have hjl:j+1=ts.length:=by omega
     rw[List.getElem?_append_right (by omega),hjl,Nat.sub_self] at e2
     simp at e2
     rw[List.getElem?_append_left (by omega),e] at e1
     have:j=l.length:=by have:=congrArg List.length e;simp at this;omega
     rw[this,List.getElem?_append_right (Nat.le_refl _)] at e1
     simp at e1
     omega
  ·rintro ρ ⟨ts,x,y,⟨l1,l2,l3⟩,l4,rfl⟩
   refine hK _ ⟨ts,x,y,⟨⟨by omega,by omega⟩,λz hz=>?_,l3,λu hu v hv=>by have:=l4 u hu;have:=l4 v hv;omega⟩,rfl⟩
   have:=l2 z hz
   have e:jN+1000<((2 ^ 200:Nat):Int):=by decide
   exact BL.of_lt (by omega) (by omega)
 rintro ρ ⟨ts,x,y,T,rfl⟩
 walk_at "rd"
 exact q ts T
noncomputable abbrev HC (hs:List Int):Prop:=(∀x∈hs,BL 210 x)/\hs.Pairwise (·<=·)
noncomputable def kX:FD:=λds Q=>∃(ns:List Int) (m p:Int),ds=[il ns,.int m,.int p]/\(1<=m/\m<=20/\0<=p/\p<=20)/\∀hs:List Int,(hs.length:Int)=m->HC hs->Q (il hs)
theorem wU:∀ds Q,kX ds Q->ds.length=3:=by rintro ds Q ⟨_,_,_,rfl,_⟩;rfl
noncomputable abbrev jO:Int:=10000000000000000000000000000000000000000000000000000000000
theorem oO:∀ds Q,kX ds Q->dU nS gT { nx:=λ_=>Q .non,rt:=Q } (aO ["_law_script","_law_many","_law_place","_law_cell","_law_number","_law_found","_law_k","_law_step"] ds):=by
 rintro ds Q ⟨ns,m,p,rfl,⟨m0,m1,p0,p1⟩,q⟩
 rw[aT 5 rfl]
 unfold dU
 simp only[cE,vQ,List.map_cons,List.map_nil,List.cons_append,List.nil_append]
 refine aJ (λρ=>∃c:Int,ρ=[some (.d (il ns)),some (.d (.int m)),some (.d (.int p)),some (.d (.int c)),none,none,none,none]) (λK hK=>?_) ?_
 ·walk_at "rd"
  exact⟨ns,5+p,rfl,by omega,λc=>hK _ ⟨c,rfl⟩⟩
 rintro ρ ⟨c,rfl⟩
 refine aJ (λρ=>∃a:Int,(-jO<=a/\a<=jO)/\ρ=[some (.d (il ns)),some (.d (.int m)),some (.d (.int p)),some (.d (.int c)),some (.d (.int a)),none,none,none]) (λK hK=>?_) ?_
 ·walk_at "rd"
  obtain⟨a0,a1⟩:=aS (a:=c) (b:=41) (by decide)
  exact⟨dL,hK _ ⟨_,⟨by unfold jO;omega,by unfold jO;omega⟩,rfl⟩⟩
 rintro ρ ⟨a,ha,rfl⟩
 refine aJ (λρ=>∃a:Int,(-jO<=a/\a<=jO)/\ρ=[some (.d (il ns)),some (.d (.int m)),some (.d (.int p)),some (.d (.int c)),some (.d (.int a)),none,none,none]) (λK hK=>?_) ?_
 ·walk_at "rd"
  refine⟨ns,3,rfl,by decide,λc'=>?_⟩
  walk_at "rd"
  refine⟨dL,?_⟩
  split
  ·obtain⟨a0,a1⟩:=aS (a:=c) (b:=20000000000000000000000000000000000000000000000000000000000) (by decide)
   exact⟨mK,(BL.const (n:=300) (by decide)).mulOk (BL.const (n:=300) (by decide)),dL,mK,hK _ ⟨_,⟨by unfold jO;omega,by unfold jO;omega⟩,rfl⟩⟩
  ·exact hK _ ⟨a,ha,rfl⟩
 rintro ρ ⟨a,ha,rfl⟩
 refine aJ (λρ=>ρ=[some (.d (il ns)),some (.d (.int m)),some (.d (.int p)),some (.d (.int c)),some (.d (.int a)),some (.own [.int a]),none,none]) (λK hK=>?_) ?_
 ·walk_at "rd"
  exact hK _ rfl
 rintro ρ rfl
 refine aJ (λρ=>∃(hs:List Int) (u v w:Option S),((hs.length:Int)=m/\HC hs)/\ρ=[some (.d (il ns)),some (.d (.int m)),some (.d (.int p)),some (.d (.int c)),u,some (.own (hs.map D.int)),v,w]) (λK hK=>?_) ?_
 ·walk_at "rd"
  refine⟨⟨⟨by decide,by decide⟩,⟨by omega,by omega⟩⟩,?_⟩
  have hn:((m-1).toNat:Int)=m-1:=by omega
  generalize (m-1).toNat=n at hn
  refine jB 1 n (λi ρ=>∃(hs:List Int) (u v w:Option S),(hs.length=i+1/\(∀z∈hs,-jO<=z/\z<=jO+100000000*i)/\hs.Pairwise (·<=·))/\ρ=[some (.d (il ns)),some (.d (.int m)),some (.d (.int p)),some (.d (.int c)),u,some (.own (hs.map D.int)),v,w]) ?_ ?_ _ ⟨[a],some (.d (.int a)),none,none,⟨rfl,(λz hz=>by simp at hz;subst hz;unfold jO at *;omega),List.pairwise_singleton _ _⟩,rfl⟩
  ·rintro i ρ hi ⟨hs,u,v,w,⟨l1,l2,l3⟩,rfl⟩ F _ _ hn' _
   unfold gF
   simp only[aR,List.set_cons_zero,List.set_cons_succ]
   refine aJ (λρ=>∃x:Int,(0<=x/\x<2147483647)/\ρ=[some (.d (il ns)),some (.d (.int m)),some (.d (.int p)),some (.d (.int c)),some (.d (.int x)),some (.own (hs.map D.int)),some (.d (.int (1+i))),w]) (λK hK=>?_) ?_
   ·walk_at "rd"
    exact⟨(BL.const (n:=20) (by decide)).mulOk (n:=20) (BL.of_lt (by omega) (by omega)),ns,9*p+(1+(i:Int)),rfl,⟨by omega,by omega⟩,λx x0 x1=>hK _ ⟨x,⟨x0,x1⟩,rfl⟩⟩
   rintro ρ ⟨x,⟨x0,x1⟩,rfl⟩
   refine aJ (λρ=>∃y:Int,(0<=y/\y<100000000)/\ρ=[some (.d (il ns)),some (.d (.int m)),some (.d (.int p)),some (.d (.int c)),some (.d (.int x)),some (.own (hs.map D.int)),some (.d (.int (1+i))),some (.d (.int y))]) (λK hK=>?_) ?_
   ·walk_at "rd"
    obtain⟨b0,b1⟩:=aS (a:=x.fdiv 4) (b:=5) (by decide)
    obtain⟨c0,c1⟩:=aS (a:=x.fdiv 4) (b:=100000000) (by decide)
    obtain⟨a0,a1⟩:=aS (a:=x) (b:=4) (by decide)
    walk_at "sides"
    refine qI a0 (by simpa using a1) λz hz=>?_
    simp only[List.mem_cons,List.not_mem_nil,or_false] at hz
    rcases hz with rfl | rfl | rfl | rfl
    ·exact hK _ ⟨0,by decide,rfl⟩
    ·exact hK _ ⟨1,by decide,rfl⟩
    ·exact hK _ ⟨_,⟨by omega,by omega⟩,rfl⟩
    ·exact hK _ ⟨_,⟨by omega,by omega⟩,rfl⟩
   rintro ρ ⟨y,hy,rfl⟩
   walk_at "rd"
   refine FG (by intro e;rw[e] at l1;simp at l1) λt l e=>?_
   walk_at "rd"
   refine⟨bL (by simp;omega),hn' _ ⟨hs++[t+y],some (.d (.int x)),some (.d (.int (1+(i:Int)))),some (.d (.int y)),⟨by simp[l1],λz hz=>?_,List.pairwise_append.mpr ⟨l3,List.pairwise_singleton _ _,λx hx y hy=>?_⟩⟩,by rw[List.map_append];rfl⟩⟩
   ·rcases List.mem_append.mp hz with h | h
    ·have:=l2 z h;omega
    ·have:=l2 t (by rw[e];simp)
     simp at h;subst h;omega
   ·rw[e] at hx l3
    have hxt:x<=t:=by
     rcases List.mem_append.mp hx with h | h
     ·exact (List.pairwise_append.mp l3).2.2 x h t (.head _)
     ·rw[List.mem_singleton.mp h];exact Int.le_refl _
    rw[List.mem_singleton.mp hy];omega
  ·rintro ρ ⟨hs,u,v,w,⟨l1,l2,l3⟩,rfl⟩
   refine hK _ ⟨hs,u,v,w,⟨by omega,(λz hz=>?_),l3⟩,rfl⟩
   have:=l2 z hz
   have e:jO+100000000*30<((2 ^ 210:Nat):Int):=by decide
   exact BL.of_lt (by omega) (by omega)
 rintro ρ ⟨hs,u,v,w,⟨l1,l2⟩,rfl⟩
 walk_at "rd"
 exact q hs l1 l2
structure Curves (ts:List Int) (hss:List (List Int)) (n:Nat):Prop where
 thr:Thr ts
 len:hss.length=ts.length
 n1:1<=n/\n<=3
 each:∀hs∈hss,hs.length=2*n
 bl:∀hs∈hss,∀x∈hs,BL 210 x
 up:∀hs∈hss,hs.Pairwise (·<=·)
noncomputable abbrev ill (hss:List (List Int)):D:=.lst (hss.map il)
noncomputable def mN:FD:=λds Q=>∃ns:List Int,ds=[il ns]/\∀ts hss n,Curves ts hss n->Q (.tup [il ts,ill hss])
theorem zG:∀ds Q,mN ds Q->ds.length=1:=by rintro ds Q ⟨_,rfl,_⟩;rfl
theorem wI {g:RG} {te:RE} {R:En->Prop} {P:D->Prop}:∀(src:List D) {Q:List D->Prop} (ρ:En) (acc:List D),R ρ->(∀a∈src,∀ρ,R ρ->∀K:En->D->Prop,(∀ρ1 d,R ρ1->P d->K ρ1 d)->g a ρ λρ1=>te ρ1 λd=>K ρ1 d) ->
  (∀out:List D,out.length=src.length->(∀d∈out,P d)->Q (acc++out))->dO g te src ρ acc Q
 | [],Q,ρ,acc,_,_,q=>by
  show Q acc
  simpa using q [] rfl (by simp)
 | a::src,Q,ρ,acc,h,step,q=>by
  show g a ρ λρ'=>te ρ' λd=>dO g te src ρ' (acc++[d]) Q
  refine step a List.mem_cons_self ρ h (λρ1 d=>dO g te src ρ1 (acc++[d]) Q) λρ1 d h1 hd=>?_
  refine wI src ρ1 _ h1 (λb hb=>step b (List.mem_cons_of_mem _ hb)) λout hl hp=>?_
  have:=q (d::out) (by simp[hl]) λx hx=>by
   rcases List.mem_cons.mp hx with rfl | hx
   ·exact hd
   ·exact hp x hx
  simpa using this
theorem qD:∀ds Q,mN ds Q->eO nS kX lA { nx:=λ_=>Q .non,rt:=Q } (aO ["_law_script","_law_threads_here","_law_many"] ds):=by
 rintro ds Q ⟨ns,rfl,q⟩
 rw[aT 2 rfl]
 unfold eO
 simp only[cE,tE,List.map_cons,List.map_nil,List.cons_append,List.nil_append]
 refine aJ (λρ=>∃ts,Thr ts/\ρ=[some (.d (il ns)),some (.d (il ts)),none]) (λK hK=>?_) ?_
 ·walk_at "rd"
  exact⟨ns,rfl,λts T=>hK _ ⟨ts,T,rfl⟩⟩
 rintro ρ ⟨ts,T,rfl⟩
 refine aJ (λρ=>∃n:Nat,(1<=n/\n<=3)/\ρ=[some (.d (il ns)),some (.d (il ts)),some (.d (.int (2*n)))]) (λK hK=>?_) ?_
 ·walk_at "rd"
  refine⟨ns,4,rfl,by decide,λc=>?_⟩
  walk_at "rd"
  obtain⟨a0,a1⟩:=aS (a:=c) (b:=3) (by decide)
  refine⟨dL,(BL.const (n:=20) (by decide)).mulOk (n:=20) (BL.of_lt (by omega) (by omega)),hK _ ⟨(1+c.fmod 3).toNat,⟨by omega,by omega⟩,?_⟩⟩
  have:((1+c.fmod 3).toNat:Int)=1+c.fmod 3:=by omega
  rw[this,show (2:Int)*(1+c.fmod 3)=2+2*c.fmod 3 by omega]
 rintro ρ ⟨n,hn,rfl⟩
 have tl:=T.len
 walk_at "rd"
 refine⟨⟨by rw[List.length_map];omega,by rw[List.length_map];omega⟩,bL (by rw[gE];simp;omega),?_⟩
 refine wI (R:=λρ=>∃a,ρ=[a,some (.d (il ns)),some (.d (.int (2*n)))]) (P:=λd=>∃hs:List Int,d=il hs/\hs.length=2*n/\HC hs) _ _ _ ⟨_,rfl⟩ ?_ ?_
 ·rintro a ha ρ ⟨b,rfl⟩ K hK
  obtain⟨j,rfl,j0,j1⟩:=zM ha
  simp at j1
  walk_at "rd"
  exact⟨ns,2*n,j,rfl,⟨by omega,by omega,by omega,by omega⟩,λhs l1 l2=>hK _ _ ⟨_,rfl⟩ ⟨hs,rfl,by omega,l2⟩⟩
 ·intro out hl hp
  obtain⟨hss,e,h1⟩:∃hss:List (List Int),out=hss.map il/\∀hs∈hss,hs.length=2*n/\HC hs:=by
   clear hl
   induction out with
   | nil=>exact⟨[],rfl,by simp⟩
   | cons d out ih =>
    obtain⟨hss,e,h1⟩:=ih λd hd=>hp d (by simp[hd])
    obtain⟨hs,rfl,h2⟩:=hp d (by simp)
    refine⟨hs::hss,by rw[e];rfl,λx hx=>?_⟩
    rcases List.mem_cons.mp hx with rfl | hx
    ·exact h2
    ·exact h1 x hx
  subst e
  simp only[List.nil_append]
  refine q ts hss n ⟨T,?_,hn,λhs h=>(h1 hs h).1,λhs h=>(h1 hs h).2.1,λhs h=>(h1 hs h).2.2⟩
  rw[gE] at hl
  simpa using hl
noncomputable abbrev lin (w k a b:Int):Int:=a*(w-k)+b*k
noncomputable def HA:FD:=λds Q=>∃(ts:List Int) (hss:List (List Int)) (n z:Nat) (k:Int) (c:Nat) (t0 t1:Int) (as bs:List Int) (a b:Int),ds=[il ts,ill hss,.int z,.int k,.int c]/\Curves ts hss n /\
 (ts[z]? = some t0/\ts[z+1]? = some t1/\hss[z]? = some as/\hss[z+1]? = some bs/\as[c]? = some a/\bs[c]? = some b/\0<=k/\k<=40)/\∀p q,Low (lin (t1-t0) k a b) (t1-t0) p q->Q (fr p q)
theorem LS:∀ds Q,HA ds Q->ds.length=5:=by rintro ds Q ⟨_,_,_,_,_,_,_,_,_,_,_,_,rfl,_⟩;rfl
theorem iQ {ns:List Int} {i:Nat} {v:Int} {Q:D->Prop} (e:ns[i]? = some v) (q:Q (.int v)):dIx (il ns) (.int (i:Int)) Q:=iX (lB (by rw[List.getElem?_map,e];rfl)) q
theorem rF {hss:List (List Int)} {i:Nat} {hs:List Int} {Q:D->Prop} (e:hss[i]? = some hs) (q:Q (il hs)):dIx (ill hss) (.int (i:Int)) Q:=iX (lB (by rw[List.getElem?_map,e];rfl)) q
theorem xN:∀ds Q,HA ds Q->jH AK { nx:=λ_=>Q .non,rt:=Q } (aO ["_law_threads_here","_law_heights_here","_law_zone","_law_k","_law_curve","_law_wide","_law_left"] ds):=by
 rintro ds Q ⟨ts,hss,n,z,k,c,t0,t1,as,bs,a,b,rfl,C,⟨e0,e1,e2,e3,e4,e5,k0,k1⟩,q⟩
 rw[aT 2 rfl]
 unfold jH
 simp only[cE,tE,List.map_cons,List.map_nil,List.cons_append,List.nil_append]
 have ez:((z:Int)+1)=((z+1:Nat):Int):=by omega
 have w:=C.thr.step z t0 t1 e0 e1
 have ba:=C.bl as (List.mem_of_getElem? e2) a (List.mem_of_getElem? e4)
 have bb:=C.bl bs (List.mem_of_getElem? e3) b (List.mem_of_getElem? e5)
 refine aJ (λρ=>ρ=[some (.d (il ts)),some (.d (ill hss)),some (.d (.int z)),some (.d (.int k)),some (.d (.int c)),some (.d (.int (t1-t0))),none]) (λK hK=>?_) ?_
 ·walk_at "rd"
  rw[ez]
  refine iQ e1 ?_
  refine iQ e0 ?_
  walk_at "rd"
  exact hK _ rfl
 rintro ρ rfl
 refine aJ (λρ=>ρ=[some (.d (il ts)),some (.d (ill hss)),some (.d (.int z)),some (.d (.int k)),some (.d (.int c)),some (.d (.int (t1-t0))),some (.d (.int a))]) (λK hK=>?_) ?_
 ·walk_at "rd"
  refine rF e2 ?_
  refine iQ e4 ?_
  exact hK _ rfl
 rintro ρ rfl
 walk_at "rd"
 refine⟨ba.mulOk (n:=10) (BL.of_lt (by omega) (by omega)),?_⟩
 rw[ez]
 refine rF e3 ?_
 refine iQ e5 ?_
 walk_at "rd"
 refine⟨bb.mulOk (n:=10) (BL.of_lt (by omega) (by omega)),_,_,rfl,⟨by omega,(BL.of_lt (m:=10) (by omega) (by omega)).mono (by decide)⟩,q⟩
local macro_rules | `(tactic| walk_at "rd")=>do
 let a <- ("S.fz xS nH EL aV bS bN tY cU bC cK xT xQ aR hX cQ hV aK aD rC r2 r1 bD xP rOr jF nG DC pH rIf aG aA fV dM aU rCB bZ eN uA cI DL riL riT oS xY kR eM dO kE qT eF eY tZ kO DD tF jG fG fW iY BW dNe oR sF gK bK fA cT cH bU jW qW iB fH BU nX pG fI fJ iO iE iF iG iH iI iJ iK iL iM iN gA gB pR uX tP kG eZ mV oD oB oC oA oE S.val cE DH AB tE vP DJ vQ AC AD DK AE uB uC uD List.map_cons List.map_nil List.cons_append List.nil_append List.length_cons List.length_nil List.getElem?_cons_zero List.getElem?_cons_succ List.set_cons_zero List.set_cons_succ List.append_nil Bool.or_false Bool.or_true Bool.false_or Bool.true_or Bool.not_true Bool.not_false if_true if_false Bool.false_eq_true sz0 sz1 sz2 sz3 sz4 true_and decide_eq_true_eq Int.reduceToNat Int.reducePow Int.reduceMul Int.reduceSub Int.reduceAdd Int.reduceNeg".splitOn " ").toArray.mapM λx=>`(Lean.Parser.Tactic.simpLemma| $(Lean.mkIdent x.toName):term)
 `(tactic| simp only[$a,*])
noncomputable abbrev aZ (R:List (List Pt)):List bT:=(R.map bR).flatten
structure RgsOk (R:List (List Pt)):Prop where
 len:R.length<=3
 each:∀g∈R,g.length<=5
 wide:∀s∈aZ R,wid s<=5
theorem RgsOk.pos {R:List (List Pt)}:∀s∈aZ R,0<wid s:=λs hs=>by
 obtain⟨l,hl,hs⟩:=List.mem_flatten.mp hs
 obtain⟨g,hg,rfl⟩:=List.mem_map.mp hl
 exact (uF hs).2
theorem kJ {α β:Type} (f:α->List β) (n:Nat):∀(l:List α),(∀x∈l,(f x).length<=n)->((l.map f).flatten).length<=n*l.length
 | [],_=>Nat.zero_le _
 | x::l,h=>by
  have h1:=h x (.head _)
  have h2:=kJ f n l λy hy=>h y (.tail _ hy)
  rw[List.map_cons,List.flatten_cons,List.length_append,List.length_cons,Nat.mul_succ];omega
theorem RgsOk.slen {R:List (List Pt)} (o:RgsOk R):(aZ R).length<=15:=by
 have:=kJ bR 5 R λg hg=>Nat.le_trans (uE g) (o.each g hg)
 have:=o.len
 show ((R.map bR).flatten).length<=15
 omega
theorem vD {s:bT} (h:wid s<=5):(evs s).length<=5:=by unfold evs;rw[List.length_map,List.length_range];omega
noncomputable def gS:FD:=λds Q=>∃R:List (List Pt),ds=[dI R]/\RgsOk R/\∀ks xs,ColOf (aZ R) ks xs->Q (.dct ks xs)
theorem tW:∀ds Q,gS ds Q->ds.length=1:=by rintro ds Q ⟨_,rfl,_⟩;rfl
theorem fO:∀ds Q,gS ds Q->bQ iD { nx:=λ_=>Q .non,rt:=Q } (aO ["rings","columns","ring","side","column"] ds):=by
 rintro ds Q ⟨R,rfl,ok,q⟩
 rw[aT 4 rfl]
 unfold bQ
 have fits:∀E:List Ev,(∃E',(((aZ R).map evs).flatten)=E++E')->E.length<=75:=λE ⟨E',e⟩=>by
  have h1:=kJ evs 5 (aZ R) λs hs=>vD (ok.wide s hs)
  have h2:=ok.slen
  have h3:=Nat.mul_le_mul_left 5 h2
  rw[e,List.length_append] at h1;omega
 refine aJ (λρ=>ρ=[some (.d (dI R)),some (.dcl (cR [])),none,none,none]) (λK hK=>?_) ?_
 ·walk_at "rd"
  exact hK _ rfl
 rintro ρ rfl
 refine aJ (λρ=>∃u v w,ρ=[some (.d (dI R)),some (.dcl (cR (((aZ R).map evs).flatten))),u,v,w]) (λK hK=>?_) ?_
 ·simp only[cI,riL,aK,List.getElem?_cons_zero]
  refine bY (λxs ρ=>∃done todo:List (List Pt),R=done++todo/\xs=todo.map pts/\∃u v w,ρ=[some (.d (dI R)),some (.dcl (cR (((aZ done).map evs).flatten))),u,v,w]) ?_ ?_ _ _ ⟨[],R,rfl,rfl,_,_,_,rfl⟩
  ·rintro x xs ρ ⟨done,todo,eR,exs,u,v,w,rfl⟩ F hr hb hn hc
   cases todo with
   | nil=>cases exs
   | cons g todo =>
    rw[List.map_cons] at exs
    injection exs with ex exs
    subst ex exs
    have hg:g∈R:=by rw[eR];exact List.mem_append_right _ (.head _)
    unfold cZ
    simp only[aR,cI,riL,aU,aA,aG,aK,List.getElem?_cons_zero,List.getElem?_cons_succ,List.set_cons_zero,List.set_cons_succ]
    refine⟨g,rfl,Nat.le_trans (ok.each g hg) (by decide),?_⟩
    dsimp only
    have eA:aZ R=(aZ done++bR g)++aZ todo:=by rw[eR];simp[aZ]
    refine bY (λxs ρ=>∃d2 t2:List bT,bR g=d2++t2/\xs=t2.map sdD/\∃v w,ρ=[some (.d (dI R)),some (.dcl (cR (((aZ done++d2).map evs).flatten))),some (.d (pts g)),v,w]) ?_ ?_ _ _ ⟨[],bR g,rfl,rfl,v,w,by rw[List.append_nil]⟩
    ·rintro x xs ρ ⟨d2,t2,eS,exs,v,w,rfl⟩ F2 hr2 hb2 hn2 hc2
     cases t2 with
     | nil=>cases exs
     | cons s t2 =>
      rw[List.map_cons] at exs
      injection exs with ex exs
      subst ex exs
      unfold cY
      simp only[aR,cI,BM,aA,aG,r2,aD,rC,fI,fJ,List.getElem?_cons_zero,List.getElem?_cons_succ,List.set_cons_zero,List.set_cons_succ]
      have eW:(s.2.1-s.1.1).toNat=(wid s).toNat:=rfl
      rw[eW]
      refine jB s.1.1 (wid s).toNat (λi ρ=>∃w,ρ=[some (.d (dI R)),some (.dcl (cR (((aZ done++d2).map evs).flatten++(evs s).take i))),some (.d (pts g)),some (.d (sdD s)),w]) ?_ ?_ _ ⟨w,by rw[List.take_zero,List.append_nil]⟩
      ·rintro i ρ hi ⟨w,rfl⟩ F3 hr3 hb3 hn3 hc3
       have ei:(evs s)[i]? = some (s.1.1+(i:Int),s):=by unfold evs;rw[List.getElem?_map,List.getElem?_range hi];rfl
       have et:(evs s).take (i+1)=(evs s).take i++[(s.1.1+(i:Int),s)]:=by rw[List.take_succ,ei];rfl
       obtain⟨⟨k1,k2⟩,_⟩:=zF (((aZ done++d2).map evs).flatten++(evs s).take i)
       have fit:=fits (((aZ done++d2).map evs).flatten++(evs s).take i) ⟨(evs s).drop i++(t2.map evs).flatten++((aZ todo).map evs).flatten,by
        rw[eA,eS];simp only[List.map_append,List.map_cons,List.flatten_append,List.flatten_cons,List.append_assoc]
        rw[<-List.append_assoc ((evs s).take i),List.take_append_drop]⟩
       unfold cX
       simp only[aR,xR,aK,List.getElem?_cons_zero,List.getElem?_cons_succ,List.set_cons_zero,List.set_cons_succ]
       refine⟨bL (by omega),λp hp=>bL (by have:=k2 p hp;omega),?_⟩
       refine hn3 _ ⟨some (.d (.int (s.1.1+(i:Int)))),?_⟩
       rw[et,<-List.append_assoc,rL]
      ·rintro ρ ⟨w,rfl⟩
       refine hn2 _ ⟨d2++[s],t2,by rw[eS];simp,rfl,some (.d (sdD s)),w,?_⟩
       have:(evs s).take (wid s).toNat=evs s:=List.take_of_length_le (by unfold evs;simp)
       rw[this,<-List.append_assoc,List.map_append,List.flatten_append]
       simp
    ·rintro ρ ⟨d2,t2,eS,exs,v,w,rfl⟩
     have:t2=[]:=by cases t2 with | nil=>rfl | cons _ _=>cases exs
     subst this
     rw[List.append_nil] at eS
     refine hn _ ⟨done++[g],todo,by rw[eR];simp,rfl,some (.d (pts g)),v,w,?_⟩
     rw[<-eS];simp[aZ]
  ·rintro ρ ⟨done,todo,eR,exs,u,v,w,rfl⟩
   have:todo=[]:=by cases todo with | nil=>rfl | cons _ _=>cases exs
   subst this
   rw[List.append_nil] at eR
   rw[<-eR]
   exact hK _ ⟨u,v,w,rfl⟩
 rintro ρ ⟨u,v,w,rfl⟩
 simp only[eF,S.fz,bN,aK,List.getElem?_cons_zero,List.getElem?_cons_succ,List.set_cons_zero,List.set_cons_succ]
 exact q _ _ (JV (aZ R) RgsOk.pos)
noncomputable def kA:FD:=λds Q=>∃ws:List Int,ds=[il ws]/\ws.length<=15/\(∀w∈ws,0<w/\w<=5)/\∀B,0<B->(∀w∈ws,w∣B)->BL 50 B->Q (.int B)
theorem wV:∀ds Q,kA ds Q->ds.length=1:=by rintro ds Q ⟨_,rfl,_⟩;rfl
theorem fM:∀ds Q,kA ds Q->bO vY { nx:=λ_=>Q .non,rt:=Q } (aO ["numbers","multiple","number"] ds):=by
 rintro ds Q ⟨ws,rfl,hl,hw,q⟩
 rw[aT 2 rfl]
 unfold bO
 refine aJ (λρ=>ρ=[some (.d (il ws)),some (.d (.int 1)),none]) (λK hK=>?_) ?_
 ·walk_at "rd"
  exact hK _ rfl
 rintro ρ rfl
 refine aJ (λρ=>∃(B:Int) (u:Option S),(0<B/\(∀w∈ws,w∣B)/\B<=((5 ^ 15:Nat):Int))/\ρ=[some (.d (il ws)),some (.d (.int B)),u]) (λK hK=>?_) ?_
 ·simp only[cI,riL,aK,List.getElem?_cons_zero]
  refine bY (λxs ρ=>∃done todo:List Int,ws=done++todo/\xs=todo.map .int/\∃(B:Int) (u:Option S),(0<B/\(∀w∈done,w∣B)/\B<=((5 ^ done.length:Nat):Int))/\ρ=[some (.d (il ws)),some (.d (.int B)),u]) ?_ ?_ _ _ ⟨[],ws,rfl,rfl,1,none,⟨by decide,(λw h=>by cases h),by decide⟩,rfl⟩
  ·rintro x xs ρ ⟨done,todo,e,exs,B,u,⟨h1,h2,h3⟩,rfl⟩ F hr hb hn hc
   cases todo with
   | nil=>cases exs
   | cons w todo =>
    rw[List.map_cons] at exs
    injection exs with ex exs
    subst ex exs
    obtain⟨w0,w5⟩:=hw w (by rw[e];exact List.mem_append_right _ (.head _))
    have dl:done.length<=14:=by rw[e] at hl;simp at hl;omega
    have pw:((5 ^ done.length:Nat):Int)<=((5 ^ 14:Nat):Int):=Int.ofNat_le.mpr (Nat.pow_le_pow_right (by decide) dl)
    have bB:BL 50 B:=BL.of_lt (by omega) (Int.lt_of_le_of_lt (Int.le_trans h3 pw) (by decide))
    have bw:BL 50 w:=BL.of_lt (by omega) (Int.lt_of_le_of_lt w5 (by decide))
    unfold cV
    simp only[aR,bC,aU,aA,aG,aK,List.getElem?_cons_zero,List.getElem?_cons_succ,List.set_cons_zero,List.set_cons_succ]
    refine⟨B,w,rfl,⟨h1,w0⟩,⟨bB.mono (by decide),bw.mono (by decide)⟩,λl l0 d1 d2 le=>?_⟩
    refine hn _ ⟨done++[w],todo,by rw[e];simp,rfl,l,some (.d (.int w)),⟨l0,λv hv=>?_,?_⟩,rfl⟩
    ·rcases List.mem_append.mp hv with hv | hv
     ·exact Int.dvd_trans (h2 v hv) d1
     ·rw[List.mem_singleton.mp hv];exact d2
    ·rw[List.length_append,List.length_singleton,Nat.pow_succ,Int.natCast_mul]
     have k1:=Int.mul_le_mul_of_nonneg_right h3 (Int.le_of_lt w0)
     have k2:=Int.mul_le_mul_of_nonneg_left w5 (Int.natCast_nonneg (5 ^ done.length))
     exact Int.le_trans le (Int.le_trans k1 k2)
  ·rintro ρ ⟨done,todo,e,exs,B,u,⟨h1,h2,h3⟩,rfl⟩
   have:todo=[]:=by cases todo with | nil=>rfl | cons _ _=>cases exs
   subst this
   rw[List.append_nil] at e
   subst e
   exact hK _ ⟨B,u,⟨h1,h2,Int.le_trans h3 (Int.ofNat_le.mpr (Nat.pow_le_pow_right (by decide) hl))⟩,rfl⟩
 rintro ρ ⟨B,u,⟨h1,h2,h3⟩,rfl⟩
 walk_at "rd"
 exact q B h1 h2 (BL.of_lt (by omega) (Int.lt_of_le_of_lt h3 (by decide)))
noncomputable def qP:FD:=λds Q=>∃s:bT,ds=[sdD s]/\Q (.int (wid s))
theorem IN:∀ds Q,qP ds Q->ds.length=1:=by rintro ds Q ⟨_,rfl,_⟩;rfl
theorem tD:∀ds Q,qP ds Q->hU { nx:=λ_=>Q .non,rt:=Q } (aO ["side"] ds):=by
 rintro ds Q ⟨s,rfl,q⟩
 rw[aT 0 rfl]
 unfold hU
 walk_at "rd"
 exact q
structure SdB (s:bT):Prop where
 x1:BL 200 s.1.1
 y1:BL 200 s.1.2
 x2:BL 200 s.2.1
 y2:BL 200 s.2.2
noncomputable def oU:FD:=λds Q=>∃(s:bT) (t B:Int),ds=[sdD s,.int t,.int B]/\(SdB s/\wid s≠0/\BL 202 t/\BL 50 B)/\Q (.int (hB B s t))
theorem BC:∀ds Q,oU ds Q->ds.length=3:=by rintro ds Q ⟨_,_,_,rfl,_⟩;rfl
theorem kM:∀ds Q,oU ds Q->dH qP { nx:=λ_=>Q .non,rt:=Q } (aO ["side","thread","bottom","left","width","climb"] ds):=by
 rintro ds Q ⟨s,t,B,rfl,⟨b,w0,bt,bB⟩,q⟩
 rw[aT 3 rfl]
 unfold dH
 have bw:BL 201 (wid s):=b.x2.sub b.x1
 refine aJ (λρ=>ρ=[some (.d (sdD s)),some (.d (.int t)),some (.d (.int B)),some (.d (pt s.1)),none,none]) (λK hK=>?_) ?_
 ·walk_at "rd"
  exact hK _ rfl
 rintro ρ rfl
 refine aJ (λρ=>ρ=[some (.d (sdD s)),some (.d (.int t)),some (.d (.int B)),some (.d (pt s.1)),some (.d (.int (wid s))),none]) (λK hK=>?_) ?_
 ·simp only[bC,aU,aA,aG,aK,List.getElem?_cons_zero,List.getElem?_cons_succ,List.set_cons_zero,List.set_cons_succ]
  exact⟨s,rfl,hK _ rfl⟩
 rintro ρ rfl
 walk_at "rd"
 refine⟨(b.y2.sub b.y1).mulOk (bt.sub b.x1),b.y1.mulOk bw,(bw.mono (by decide)).divOk w0,?_,q⟩
 exact ((b.y1.mul bw).add ((b.y2.sub b.y1).mul (bt.sub b.x1))).mulOk (bB.fdiv)
theorem IQ (z w:Pt):dP [z.1,z.2] [w.1,w.2]=decide (ltP z w):=by
 unfold ltP
 simp only[dP]
 by_cases h:z.1=w.1
 ·rw[if_pos h]
  by_cases h2:z.2=w.2
  ·rw[if_pos h2];simp[h,h2]
  ·rw[if_neg h2];simp[h]
 ·rw[if_neg h];simp[h]
structure SdsOk (S:List bT) (c B:Int):Prop where
 len:S.length<=15
 bd:∀s∈S,SdB s
 ok:∀s∈S,SdOk s
 cb:BL 200 c
 pos:0<B
 dv:∀s∈S,wid s∣B
 bB:BL 50 B
noncomputable def kB:FD:=λds Q=>∃(S:List bT) (c B:Int),ds=[fQ S,.int c,.int B]/\SdsOk S c B/\(∀x∈S.map (prB B c),∀y∈S.map (prB B c),x.1<y.1->x.2<=y.2)/\∀M:List IP,M.Perm (S.map (prB B c))->dN M->Q (pts M)
theorem wW:∀ds Q,kB ds Q->ds.length=3:=by rintro ds Q ⟨_,_,_,rfl,_⟩;rfl
theorem yC {L:List IP} {mss:List (List Int)} (p:mss.Perm (L.map λz=>[z.1,z.2])) (h:mss.Pairwise λx y=>dP y x=false):∃M:List IP,M.Perm L/\mss.map gR=M.map pt/\M.Pairwise λx y=>¬ltP y x:=by
 have e1:∀ms∈mss,[ms.getD 0 0,ms.getD 1 0]=ms:=λms hm=>by
  obtain⟨z,_,rfl⟩:=List.mem_map.mp (p.mem_iff.mp hm);rfl
 refine⟨mss.map λl=>(l.getD 0 0,l.getD 1 0),?_,?_,?_⟩
 ·have:=p.map λl:List Int=>(l.getD 0 0,l.getD 1 0)
  rw[List.map_map] at this
  have e:((λl:List Int=>((l.getD 0 0,l.getD 1 0):IP)) ∘ λz:IP=>[z.1,z.2])=id:=by funext z;rfl
  rw[e,List.map_id] at this
  exact this
 ·rw[List.map_map]
  refine List.map_congr_left λms hm=>?_
  show D.tup (ms.map .int)=D.tup [.int (ms.getD 0 0),.int (ms.getD 1 0)]
  conv=>lhs;rw[<-e1 ms hm]
  rfl
 ·rw[List.pairwise_map]
  refine h.imp_of_mem λ{x y} hx hy k=>?_
  rw[<-e1 x hx,<-e1 y hy] at k
  have:=IQ (y.getD 0 0,y.getD 1 0) (x.getD 0 0,x.getD 1 0)
  rw[k] at this
  exact of_decide_eq_false this.symm
theorem fN:∀ds Q,kB ds Q->bP oU { nx:=λ_=>Q .non,rt:=Q } (aO ["sides","column","bottom","heights","lower","upper"] ds):=by
 rintro ds Q ⟨Sd,c,B,rfl,ok,unc,q⟩
 rw[aT 3 rfl]
 unfold bP
 refine aJ (λρ=>ρ=[some (.d (fQ Sd)),some (.d (.int c)),some (.d (.int B)),some (.own ((Sd.map (prB B c)).map pt)),none,none]) (λK hK=>?_) ?_
 ·walk_at "rd"
  refine⟨bL (by rw[List.length_map];have:=ok.len;omega),?_⟩
  refine dC (λρ=>∃a,ρ=[a,some (.d (.int c)),some (.d (.int B))]) sdD (λs=>pt (prB B c s)) Sd ?_ ⟨_,rfl⟩ ?_
  ·rintro s hs ρ ⟨a,rfl⟩ K' hK'
   walk_at "rd"
   have w0:=(ok.ok s hs).pos
   refine⟨s,c,B,rfl,⟨ok.bd s hs,by omega,ok.cb.mono (by decide),ok.bB⟩,s,c+1,B,rfl,⟨ok.bd s hs,by omega,((ok.cb.add (BL.const (n:=1) (i:=1))).mono (by decide)),ok.bB⟩,?_⟩
   walk_at "rd"
   exact hK' _ ⟨_,rfl⟩
  ·have e:Sd.map (λs=>pt (prB B c s))=(Sd.map (prB B c)).map pt:=by rw[List.map_map];rfl
   rw[e]
   exact hK _ rfl
 rintro ρ rfl
 refine aJ (λρ=>∃M:List IP,(M.Perm (Sd.map (prB B c))/\dN M)/\ρ=[some (.d (fQ Sd)),some (.d (.int c)),some (.d (.int B)),some (.own (M.map pt)),none,none]) (λK hK=>?_) ?_
 ·simp only[cK,vO,aD,List.getElem?_cons_zero,List.getElem?_cons_succ,List.set_cons_zero,List.set_cons_succ]
  refine⟨(Sd.map (prB B c)).map λz=>[z.1,z.2],by rw[List.map_map (g:=gR)];rfl,by rw[List.length_map,List.length_map];have:=ok.len;omega,λns h=>?_,λmss pm ps=>?_⟩
  ·obtain⟨z,_,rfl⟩:=List.mem_map.mp h
   exact λe=>by cases e
  ·obtain⟨M,h1,h2,h3⟩:=yC pm ps
   rw[h2]
   exact hK _ ⟨M,⟨h1,xZ h3 λx hx y hy=>unc x (h1.mem_iff.mp hx) y (h1.mem_iff.mp hy)⟩,rfl⟩
 rintro ρ ⟨M,⟨pm,up⟩,rfl⟩
 refine aJ (λρ=>∃u v,ρ=[some (.d (fQ Sd)),some (.d (.int c)),some (.d (.int B)),some (.d (pts M)),u,v]) (λK hK=>?_) ?_
 ·simp only[eF,L2.R2.S.fz,cI,gK,aK,aD,jG,eN,bZ,rC,List.getElem?_cons_zero,List.getElem?_cons_succ,List.set_cons_zero,List.set_cons_succ]
  have zz:∃ps:List (IP × IP),List.zipWith (λa b=>D.tup [a,b]) (M.map pt) (eX (M.map pt) (some 1) none)=ps.map (λp=>D.tup [pt p.1,pt p.2])/\∀p∈ps,p.1.2<=p.2.2:=by
   have c1:eX (M.map pt) (some 1) none=(M.drop 1).map pt:=by
    cases M with
    | nil=>rfl
    | cons a r=>exact fZ (j:=1) (by simp)
   rw[c1]
   clear c1 pm hK
   induction M with
   | nil=>exact⟨[],rfl,λp h=>(by cases h)⟩
   | cons a r ih =>
    cases r with
    | nil=>exact⟨[],rfl,λp h=>(by cases h)⟩
    | cons b r =>
     obtain⟨ps,h1,h2⟩:=ih (List.pairwise_cons.mp up).2
     refine⟨(a,b)::ps,?_,λp hp=>?_⟩
     ·show D.tup [pt a,pt b]::List.zipWith (λa b=>D.tup [a,b]) ((b::r).map pt) (((b::r).drop 1).map pt)=_
      rw[h1];rfl
     ·rcases List.mem_cons.mp hp with rfl | hp
      ·exact ((List.pairwise_cons.mp up).1 b (.head _)).2
      ·exact h2 p hp
  obtain⟨ps,e1,e2⟩:=zz
  rw[e1]
  refine bY (λxs ρ=>∃todo:List (IP × IP),(∀p∈todo,p.1.2<=p.2.2)/\xs=todo.map (λp=>D.tup [pt p.1,pt p.2])/\∃u v,ρ=[some (.d (fQ Sd)),some (.d (.int c)),some (.d (.int B)),some (.d (pts M)),u,v]) ?_ ?_ _ _ ⟨ps,e2,rfl,_,_,rfl⟩
  ·rintro x xs ρ ⟨todo,ht,exs,u,v,rfl⟩ F hr hb hn hc
   cases todo with
   | nil=>cases exs
   | cons p todo =>
    rw[List.map_cons] at exs
    injection exs with ex exs
    subst ex exs
    have le:=ht p (.head _)
    unfold cW
    walk_at "rd"
    have:¬p.2.2<p.1.2:=by omega
    simp only[this,decide_false,if_false,Bool.false_eq_true]
    exact hn _ ⟨todo,λz hz=>ht z (.tail _ hz),rfl,_,_,rfl⟩
  ·rintro ρ ⟨todo,ht,exs,u,v,rfl⟩
   exact hK _ ⟨u,v,rfl⟩
 rintro ρ ⟨u,v,rfl⟩
 simp only[eF,L2.R2.S.fz,bN,aK,List.getElem?_cons_zero,List.getElem?_cons_succ,List.set_cons_zero,List.set_cons_succ]
 exact q M pm up
theorem vW:∀(M:List IP),List.zipWith (λa b=>D.tup [a,b]) (alt ((M.map pt).drop 0)) (alt ((M.map pt).drop 1))=(eU M).map λz=>D.tup [pt z.1,pt z.2]
 | []=>by simp[alt,eU]
 | [x]=>by simp[alt,eU]
 | x::y::r=>by
  have ih:=vW r
  simp only[List.drop_zero] at ih ⊢
  have e:alt (((x::y::r).map pt).drop 1)=pt y::alt ((r.map pt).drop 1):=by
   cases r with
   | nil=>simp[alt]
   | cons w r=>simp[alt]
  have e0:alt ((x::y::r).map pt)=pt x::alt (r.map pt):=by simp[alt]
  rw[e,e0,List.zipWith_cons_cons,ih];rfl
theorem EZ (n:Nat) (z w:IP):eqL (eqF (n+1)) [.int z.1,.int z.2] [.int w.1,.int w.2]=some (decide (z=w)):=by
 obtain⟨a,b⟩:=z
 obtain⟨c,d⟩:=w
 simp only[eqF,eqL]
 congr 1
 by_cases h1:a=c <;> by_cases h2:b=d <;> simp[h1,h2]
noncomputable def JT (B c:Int) (z:IP × IP) (d:D):Prop:=∃p1 q1 p2 q2 p3 q3 p4 q4,(Low z.1.1 B p1 q1/\Low z.1.2 B p2 q2/\Low z.2.1 B p3 q3/\Low z.2.2 B p4 q4)/\d = .tup [.int c,fr p1 q1,fr p2 q2,fr p3 q3,fr p4 q4]
inductive RowsOf (B c:Int):List (IP × IP)->List D->Prop
 | nil:RowsOf B c [] []
 | cons {z:IP × IP} {d:D} {zs:List (IP × IP)} {ds:List D} (h:JT B c z d) (t:RowsOf B c zs ds):RowsOf B c (z::zs) (d::ds)
theorem RowsOf.snoc {B c:Int} {zs:List (IP × IP)} {ds:List D} (t:RowsOf B c zs ds) {z:IP × IP} {d:D} (h:JT B c z d):RowsOf B c (zs++[z]) (ds++[d]):=by
 induction t with
 | nil=>exact .cons h .nil
 | cons h' _ ih=>exact .cons h' ih
theorem RowsOf.length {B c:Int} {zs:List (IP × IP)} {ds:List D} (t:RowsOf B c zs ds):zs.length=ds.length:=by
 induction t with
 | nil=>rfl
 | cons _ _ ih=>rw[List.length_cons,List.length_cons,ih]
noncomputable abbrev kept (M:List IP):List (IP × IP):=(eU M).filter λz=>decide (z.1≠z.2)
theorem nR {α:Type}:∀L:List α,(eU L).length<=L.length
 | []=>Nat.le_refl _
 | [x]=>Nat.zero_le _
 | x::y::r=>by have:=nR r;rw[eU,List.length_cons,List.length_cons,List.length_cons];omega
structure ColIn (S:List bT) (c:Int):Prop where
 len:S.length<=15
 bd:∀s∈S,SdB s
 ok:∀s∈S,SdOk s
 five:∀s∈S,wid s<=5
 cb:BL 200 c
 cv:∀s∈S,cov c s=true
 unc:kC S c
structure ColB (S:List bT) (c:Int) (B:Int) (M:List IP) (rows:List D):Prop where
 pos:0<B
 dv:∀s∈S,wid s∣B
 bB:BL 50 B
 perm:M.Perm (S.map (prB B c))
 up:dN M
 rows:RowsOf B c (kept M) rows
noncomputable def jZ:FD:=λds Q=>∃(S:List bT) (c:Int),ds=[fQ S,.int c]/\ColIn S c/\∀B M rows,ColB S c B M rows->Q (.lst rows)
theorem wT:∀ds Q,jZ ds Q->ds.length=2:=by rintro ds Q ⟨_,_,rfl,_⟩;rfl
theorem gZ:∀ds Q,jZ ds Q->cF kA kB cM qP { nx:=λ_=>Q .non,rt:=Q } (aO ["sides","column","bottom","heights","rows","low","up","edges"] ds):=by
 rintro ds Q ⟨Sd,c,rfl,ok,q⟩
 rw[aT 6 rfl]
 unfold cF
 refine aJ (λρ=>∃B,(0<B/\(∀s∈Sd,wid s∣B)/\BL 50 B)/\ρ=[some (.d (fQ Sd)),some (.d (.int c)),some (.d (.int B)),none,none,none,none,none]) (λK hK=>?_) ?_
 ·walk_at "rd"
  refine⟨bL (by rw[List.length_map];have:=ok.len;omega),?_⟩
  refine dC (λρ=>∃a,ρ=[a]) sdD (λs=>.int (wid s)) Sd ?_ ⟨_,rfl⟩ ?_
  ·rintro s hs ρ ⟨a,rfl⟩ K' hK'
   simp only[aR,aU,aA,aG,aK,List.getElem?_cons_zero,List.set_cons_zero]
   exact⟨s,rfl,hK' _ ⟨_,rfl⟩⟩
  ·refine⟨Sd.map wid,by show _=[D.lst ((Sd.map wid).map .int)];rw[List.map_map];rfl,by rw[List.length_map];exact ok.len,λw hw=>?_,λB h1 h2 h3=>?_⟩
   ·obtain⟨s,hs,rfl⟩:=List.mem_map.mp hw
    exact⟨(ok.ok s hs).pos,ok.five s hs⟩
   ·exact hK _ ⟨B,⟨h1,λs hs=>h2 _ (List.mem_map_of_mem hs),h3⟩,rfl⟩
 rintro ρ ⟨B,⟨hB0,hdv,bB⟩,rfl⟩
 refine aJ (λρ=>∃M:List IP,(M.Perm (Sd.map (prB B c))/\dN M)/\ρ=[some (.d (fQ Sd)),some (.d (.int c)),some (.d (.int B)),some (.d (pts M)),none,none,none,none]) (λK hK=>?_) ?_
 ·simp only[bC,aU,aA,aG,aK,List.getElem?_cons_zero,List.getElem?_cons_succ,List.set_cons_zero,List.set_cons_succ]
  exact⟨Sd,c,B,rfl,⟨ok.len,ok.bd,ok.ok,ok.cb,hB0,hdv,bB⟩,HK hB0 ok.ok hdv ok.cv ok.unc,λM pm up=>hK _ ⟨M,⟨pm,up⟩,rfl⟩⟩
 rintro ρ ⟨M,⟨pm,up⟩,rfl⟩
 have ml:M.length<=15:=by rw[pm.length_eq,List.length_map];exact ok.len
 refine aJ (λρ=>ρ=[some (.d (fQ Sd)),some (.d (.int c)),some (.d (.int B)),some (.d (pts M)),some (.own []),none,none,none]) (λK hK=>?_) ?_
 ·walk_at "rd"
  exact hK _ rfl
 rintro ρ rfl
 refine aJ (λρ=>∃rows u v w,RowsOf B c (kept M) rows/\ρ=[some (.d (fQ Sd)),some (.d (.int c)),some (.d (.int B)),some (.d (pts M)),some (.own rows),u,v,w]) (λK hK=>?_) ?_
 ·simp only[cI,gK,zY,aD,List.getElem?_cons_zero,List.getElem?_cons_succ]
  rw[vW M]
  have tl:(eU M).length<=15:=Nat.le_trans (nR M) ml
  generalize hT:eU M=T at tl
  refine bY (λxs ρ=>∃done todo:List (IP × IP),T=done++todo/\xs=todo.map (λz=>D.tup [pt z.1,pt z.2])/\∃rows u v w,RowsOf B c (done.filter λz=>decide (z.1≠z.2)) rows/\ρ=[some (.d (fQ Sd)),some (.d (.int c)),some (.d (.int B)),some (.d (pts M)),some (.own rows),u,v,w]) ?_ ?_ _ _ ⟨[],T,rfl,rfl,[],none,none,none,.nil,rfl⟩
  ·rintro x xs ρ ⟨done,todo,eT,exs,rows,u,v,w,hR,rfl⟩ F hr hb hn hc
   cases todo with
   | nil=>cases exs
   | cons z todo =>
    rw[List.map_cons] at exs
    injection exs with ex exs
    subst ex exs
    have rl:rows.length<=15:=by
     rw[<-hR.length]
     have h1:=List.length_filter_le (λz:IP × IP=>decide (z.1≠z.2)) done
     rw[eT] at tl;simp at tl;omega
    unfold eE
    simp only[hX,cQ,aR,hV,tF,List.set_cons_zero,List.set_cons_succ,List.length_cons,List.length_nil,true_and]
    simp only[cU,bD,r2,aD,dNe,List.getElem?_cons_zero,List.getElem?_cons_succ,EZ,true_and]
    by_cases hz:z.1=z.2
    ·simp only[hz,decide_true,Bool.not_true,Bool.false_eq_true,if_false,bS]
     refine hn _ ⟨done++[z],todo,by rw[eT];simp,rfl,rows,some (.d (pt z.2)),some (.d (pt z.2)),w,?_,rfl⟩
     rw[List.filter_append]
     simpa [hz] using hR
    ·simp only[hz,decide_false,Bool.not_false,if_true]
     refine aJ (λρ=>∃p1 q1 p2 q2 p3 q3 p4 q4,(Low z.1.1 B p1 q1/\Low z.1.2 B p2 q2/\Low z.2.1 B p3 q3/\Low z.2.2 B p4 q4)/\ρ=[some (.d (fQ Sd)),some (.d (.int c)),some (.d (.int B)),some (.d (pts M)),some (.own rows),some (.d (pt z.1)),some (.d (pt z.2)),some (.own [fr p1 q1,fr p2 q2,fr p3 q3,fr p4 q4])]) (λK' hK'=>?_) ?_
     ·have bb:B≠0/\BL 9000 B:=⟨by omega,bB.mono (by decide)⟩
      walk_at "rd"
      refine⟨by simp,?_⟩
      refine⟨_,_,rfl,bb,λp1 q1 l1=>⟨_,_,rfl,bb,λp2 q2 l2=>⟨_,_,rfl,bb,λp3 q3 l3=>⟨_,_,rfl,bb,λp4 q4 l4=>?_⟩⟩⟩⟩
      exact hK' _ ⟨p1,q1,p2,q2,p3,q3,p4,q4,⟨l1,l2,l3,l4⟩,rfl⟩
     rintro ρ ⟨p1,q1,p2,q2,p3,q3,p4,q4,⟨l1,l2,l3,l4⟩,rfl⟩
     walk_at "rd"
     refine⟨bL (by decide),bL (by omega),?_⟩
     refine hn _ ⟨done++[z],todo,by rw[eT];simp,rfl,rows++[.tup [.int c,fr p1 q1,fr p2 q2,fr p3 q3,fr p4 q4]],some (.d (pt z.1)),some (.d (pt z.2)),some (.own [fr p1 q1,fr p2 q2,fr p3 q3,fr p4 q4]),?_,rfl⟩
     rw[List.filter_append]
     have e:[z].filter (λz:IP × IP=>decide (z.1≠z.2))=[z]:=by simp[hz]
     rw[e]
     exact hR.snoc ⟨p1,q1,p2,q2,p3,q3,p4,q4,⟨l1,l2,l3,l4⟩,rfl⟩
  ·rintro ρ ⟨done,todo,eT,exs,rows,u,v,w,hR,rfl⟩
   have:todo=[]:=by cases todo with | nil=>rfl | cons _ _=>cases exs
   subst this
   rw[List.append_nil] at eT
   refine hK _ ⟨rows,u,v,w,?_,rfl⟩
   show RowsOf B c ((eU M).filter λz=>decide (z.1≠z.2)) rows
   rw[hT,eT];exact hR
 rintro ρ ⟨rows,u,v,w,hR,rfl⟩
 simp only[eF,L2.R2.S.fz,bN,aK,List.getElem?_cons_zero,List.getElem?_cons_succ,List.set_cons_zero,List.set_cons_succ]
 exact q B M rows ⟨hB0,hdv,bB,pm,up,hR⟩
structure BandsIn (R:List (List Pt)) (o:Int):Prop where
 len:R.length<=3
 each:∀g∈R,g.length<=5
 near:∀s∈aZ R,o<=s.1.1/\s.2.1<=o+5
 bd:∀s∈aZ R,SdB s
 unc:∀c,kC (aZ R) c
theorem BandsIn.five {R:List (List Pt)} {o:Int} (h:BandsIn R o):∀s∈aZ R,wid s<=5:=λs hs=>by
 have:=h.near s hs;unfold wid;omega
theorem BandsIn.rgs {R:List (List Pt)} {o:Int} (h:BandsIn R o):RgsOk R:=⟨h.len,h.each,h.five⟩
theorem NG {w:Int} (h0:0<w) (h5:w<=5):w∣60:=by
 have:w=1\/w=2\/w=3\/w=4\/w=5:=by omega
 rcases this with rfl | rfl | rfl | rfl | rfl <;> decide
theorem BandsIn.ok {R:List (List Pt)} {o:Int} (h:BandsIn R o):∀s∈aZ R,SdOk s:=λs hs=>⟨RgsOk.pos s hs,NG (RgsOk.pos s hs) (h.five s hs)⟩
inductive AllB (Sd:List bT):List Int->List D->Prop
 | nil:AllB Sd [] []
 | cons {c B:Int} {M:List IP} {r rows:List D} {cs:List Int} (h:ColB (Sd.filter (cov c)) c B M r) (t:AllB Sd cs rows):AllB Sd (c::cs) (r++rows)
theorem AllB.snoc {Sd:List bT} {cs:List Int} {rows:List D} (t:AllB Sd cs rows) {c B:Int} {M:List IP} {r:List D} (h:ColB (Sd.filter (cov c)) c B M r):AllB Sd (cs++[c]) (rows++r):=by
 induction t with
 | nil=>have:=AllB.cons h .nil;simpa using this
 | cons h' _ ih=>rw[List.append_assoc];exact .cons h' ih
theorem ColB.rlen {Sd:List bT} {c B:Int} {M:List IP} {r:List D} (h:ColB Sd c B M r):r.length<=Sd.length:=by
 rw[<-h.rows.length]
 have h1:=List.length_filter_le (λz:IP × IP=>decide (z.1≠z.2)) (eU M)
 have h2:=nR M
 have h3:=h.perm.length_eq
 rw[List.length_map] at h3
 show ((eU M).filter λz=>decide (z.1≠z.2)).length<=_
 omega
theorem AllB.rlen {Sd:List bT} {cs:List Int} {rows:List D} (t:AllB Sd cs rows):rows.length<=cs.length*Sd.length:=by
 induction t with
 | nil=>exact Nat.zero_le _
 | @cons c B M r rows cs h t ih =>
  have h1:=h.rlen
  have h2:=List.length_filter_le (cov c) Sd
  rw[List.length_append,List.length_cons,Nat.succ_mul];omega
theorem BandsIn.col {R:List (List Pt)} {o:Int} (h:BandsIn R o) {c:Int} (hc:∃s∈aZ R,cov c s=true):ColIn ((aZ R).filter (cov c)) c:=by
 refine⟨?_,λs hs=>h.bd s (List.mem_filter.mp hs).1,λs hs=>h.ok s (List.mem_filter.mp hs).1,λs hs=>h.five s (List.mem_filter.mp hs).1,?_,λs hs=>(List.mem_filter.mp hs).2,λs hs t ht=>h.unc c s (List.mem_filter.mp hs).1 t (List.mem_filter.mp ht).1⟩
 ·have h1:=List.length_filter_le (cov c) (aZ R)
  have h2:=h.rgs.slen
  omega
 ·obtain⟨s,hs,k⟩:=hc
  have b1:=(h.bd s hs).x1
  have b2:=(h.bd s hs).x2
  have k':=gU.mp k
  unfold BL at *
  omega
noncomputable def cG:FD:=λds Q=>∃(R:List (List Pt)) (o:Int),ds=[dI R]/\BandsIn R o/\∀cs rows,cs.Pairwise (· < ·)->(∀c,c∈cs↔∃s∈aZ R,cov c s=true)->AllB (aZ R) cs rows->cs.length<=5->Q (.lst rows)
theorem tV:∀ds Q,cG ds Q->ds.length=1:=by rintro ds Q ⟨_,_,rfl,_⟩;rfl
theorem zO {ks:List Int} {o:Int} (hn:ks.Nodup) (h:∀c∈ks,o<=c/\c<o+5):ks.length<=5:=by
 have:∀(l m:List Int),l.Nodup->(∀x∈l,x∈m)->l.length<=m.length:=by
  intro l
  induction l with
  | nil=>intro m _ _;exact Nat.zero_le _
  | cons x l ih =>
   intro m hn hs
   have hx:=hs x (.head _)
   have hn':=List.nodup_cons.mp hn
   have:=ih (m.erase x) hn'.2 λy hy=>(List.mem_erase_of_ne λ(e:y=x)=>hn'.1 (e ▸ hy)).mpr (hs y (.tail _ hy))
   rw[List.length_erase_of_mem hx] at this
   exact Nat.le_trans (Nat.succ_le_succ this) (Nat.le_of_eq (Nat.succ_pred_eq_of_pos (List.length_pos_of_mem hx)))
 have:=this ks [o,o+1,o+2,o+3,o+4] hn λx hx=>by
  have:=h x hx
  simp;omega
 simpa using this
theorem rT:∀ds Q,cG ds Q->xW jZ gS { nx:=λ_=>Q .non,rt:=Q } (aO ["rings","columns","rows","column"] ds):=by
 rintro ds Q ⟨R,o,rfl,ok,q⟩
 rw[aT 3 rfl]
 unfold xW
 refine aJ (λρ=>∃ks xs,ColOf (aZ R) ks xs/\ρ=[some (.d (dI R)),some (.d (.dct ks xs)),none,none]) (λK hK=>?_) ?_
 ·simp only[bC,aU,aA,aG,aK,cE,vP,List.map_cons,List.map_nil,List.cons_append,List.nil_append,List.getElem?_cons_zero,List.getElem?_cons_succ,List.set_cons_zero,List.set_cons_succ]
  exact⟨R,rfl,ok.rgs,λks xs h=>hK _ ⟨ks,xs,h,rfl⟩⟩
 rintro ρ ⟨ks,xs,co,rfl⟩
 have kl:ks.length<=5:=zO (o:=o) co.nodup λc hc=>by
  obtain⟨s,hs,k⟩:=(co.mem c).mp hc
  have:=ok.near s hs
  have:=gU.mp k
  omega
 refine aJ (λρ=>ρ=[some (.d (dI R)),some (.d (.dct ks xs)),some (.own []),none]) (λK hK=>?_) ?_
 ·walk_at "rd"
  exact hK _ rfl
 rintro ρ rfl
 refine aJ (λρ=>∃cs rows u,(cs.Perm ks/\cs.Pairwise (·<=·))/\AllB (aZ R) cs rows/\ρ=[some (.d (dI R)),some (.d (.dct ks xs)),some (.own rows),u]) (λK hK=>?_) ?_
 ·simp only[cI,riL,sD,sA,aK,List.getElem?_cons_zero,List.getElem?_cons_succ]
  refine⟨ks,xs,rfl,co.len,ks,rfl,by omega,λcs pm srt=>?_⟩
  refine bY (λys ρ=>∃done todo:List Int,cs=done++todo/\ys=todo.map .int/\∃rows u,AllB (aZ R) done rows/\ρ=[some (.d (dI R)),some (.d (.dct ks xs)),some (.own rows),u]) ?_ ?_ _ _ ⟨[],cs,rfl,rfl,[],none,.nil,rfl⟩
  ·rintro x ys ρ ⟨done,todo,ec,exs,rows,u,hR,rfl⟩ F hr hb hn hc
   cases todo with
   | nil=>cases exs
   | cons c todo =>
    rw[List.map_cons] at exs
    injection exs with ex exs
    subst ex exs
    have hc:c∈ks:=pm.mem_iff.mp (by rw[ec];exact List.mem_append_right _ (.head _))
    have dl:done.length<=4:=by have:=pm.length_eq;rw[ec] at this;simp at this;omega
    have sl:=ok.rgs.slen
    have rl:=hR.rlen
    have rl2:done.length*(aZ R).length<=4*15:=Nat.mul_le_mul dl sl
    unfold pI
    simp only[aR,nH,aU,aA,aG,r2,BV,aK,List.getElem?_cons_zero,List.getElem?_cons_succ,List.set_cons_zero,List.set_cons_succ]
    refine⟨_,co.here c hc,_,c,rfl,ok.col ((co.mem c).mp hc),λB M r hB=>?_⟩
    have fl:=hB.rlen
    have f2:=List.length_filter_le (cov c) (aZ R)
    dsimp only
    exact⟨bL (by omega),hn _ ⟨done++[c],todo,by rw[ec];simp,rfl,rows++r,some (.d (.int c)),hR.snoc hB,rfl⟩⟩
  ·rintro ρ ⟨done,todo,ec,exs,rows,u,hR,rfl⟩
   have:todo=[]:=by cases todo with | nil=>rfl | cons _ _=>cases exs
   subst this
   rw[List.append_nil] at ec
   subst ec
   exact hK _ ⟨cs,rows,u,⟨pm,srt⟩,hR,rfl⟩
 rintro ρ ⟨cs,rows,u,⟨pm,srt⟩,hR,rfl⟩
 simp only[eF,L2.R2.S.fz,bN,aK,List.getElem?_cons_zero,List.getElem?_cons_succ,List.set_cons_zero,List.set_cons_succ]
 have nd:cs.Nodup:=pm.nodup_iff.mpr co.nodup
 refine q cs rows ?_ (λc=>pm.mem_iff.trans (co.mem c)) hR (by rw[pm.length_eq];exact kl)
 exact (srt.and nd).imp λh=>Int.lt_iff_le_and_ne.mpr h
local macro_rules | `(tactic| walk_at "rd")=>do
 let a <- ("aV bS bN tY cU bC cK xT xQ aR hX cQ hV aK aD rC r2 r1 bD xP rOr jF nG DC pH rIf aG aA fV dM aU rCB bZ eN uA cI DL riL riT oS xY kR eM dO kE qT eF eY tZ kO DD tF jG fG fW iY BW dNe oR sF gK bK fA cT cH bU jW qW iB fH BU nX pG fI fJ iO iE iF iG iH iI iJ iK iL iM iN gA gB pR uX tP kG eZ mV oD oB oC oA oE S.val cE DH AB tE vP DJ vQ AC AD DK AE uB uC uD List.map_cons List.map_nil List.cons_append List.nil_append List.length_cons List.length_nil List.getElem?_cons_zero List.getElem?_cons_succ List.set_cons_zero List.set_cons_succ List.append_nil Bool.or_false Bool.or_true Bool.false_or Bool.true_or Bool.not_true Bool.not_false if_true if_false Bool.false_eq_true sz0 sz1 sz2 sz3 sz4 true_and decide_eq_true_eq Int.reduceToNat Int.reducePow Int.reduceMul Int.reduceSub Int.reduceAdd Int.reduceNeg".splitOn " ").toArray.mapM λx=>`(Lean.Parser.Tactic.simpLemma| $(Lean.mkIdent x.toName):term)
 `(tactic| simp only[$a,*])
theorem LV {v M p q:Int} (hM:0<M) (hq:0<q) (cop:Int.gcd p q=1) (w:p*M=v*q):Low v M p q:=by
 have dq:q∣M:=by
  have d:q.natAbs∣p.natAbs*M.natAbs:=by
   rw[<-Int.natAbs_mul,w,Int.natAbs_mul];exact Nat.dvd_mul_left ..
  exact Int.natAbs_dvd_natAbs.mp (Nat.Coprime.dvd_of_dvd_mul_left (show Nat.Coprime q.natAbs p.natAbs from by
   have:Nat.gcd p.natAbs q.natAbs=1:=cop
   rw[Nat.Coprime,Nat.gcd_comm];exact this) d)
 have lq:q<=M:=Int.le_of_dvd hM dq
 refine⟨hq,cop,w,?_,by omega⟩
 have e:p.natAbs*M.natAbs=v.natAbs*q.natAbs:=by rw[<-Int.natAbs_mul,w,Int.natAbs_mul]
 have lq':q.natAbs<=M.natAbs:=by omega
 have M0:0<M.natAbs:=by omega
 apply Nat.le_of_mul_le_mul_right (c:=M.natAbs) ?_ M0
 rw[e]
 exact Nat.mul_le_mul_left _ lq'
theorem Low.scale {a b p q:Int} (h:Low a b p q) {k:Int} (hk:0<k) (hb:0<b):Low (a*k) (b*k) p q :=
 LV (Int.mul_pos hb hk) h.pos h.cop (by rw[<-Int.mul_assoc,h.worth];grind)
structure Row where
 x:Int
 l0:Int × Int
 l1:Int × Int
 u0:Int × Int
 u1:Int × Int
noncomputable abbrev OG (r:Row):D:=.tup [.int r.x,fr r.l0.1 r.l0.2,fr r.l1.1 r.l1.2,fr r.u0.1 r.u0.2,fr r.u1.1 r.u1.2]
structure RowV (M:Int) (r:Row) (a b c d:Int):Prop where
 l0:Low a M r.l0.1 r.l0.2
 l1:Low b M r.l1.1 r.l1.2
 u0:Low c M r.u0.1 r.u0.2
 u1:Low d M r.u1.1 r.u1.2
 ba:BL 400 a
 bb:BL 400 b
 bc:BL 400 c
 bd:BL 400 d
inductive Tot (M:Int):List Row->Int->Prop
 | nil:Tot M [] 0
 | snoc {rs:List Row} {r:Row} {N a b c d:Int} (t:Tot M rs N) (h:RowV M r a b c d):Tot M (rs++[r]) (N+(c-a+(d-b)))
theorem Tot.mono {M N N':Int} {rs:List Row} (h:Tot M rs N) (e:N=N'):Tot M rs N':=e ▸ h
local macro_rules | `(tactic| walk_at "rd")=>do
 let a <- ("S.fz xS nH EL aV bS bN tY cU bC cK xT xQ aR hX cQ hV aK aD rC r2 r1 bD xP rOr jF nG DC pH rIf aG aA fV dM aU rCB bZ eN uA cI DL riL riT oS xY kR eM dO kE qT eF eY tZ kO DD tF jG fG fW iY BW dNe oR sF gK bK fA cT cH bU jW qW iB fH BU nX pG fI fJ iO iE iF iG iH iI iJ iK iL iM iN gA gB pR uX tP kG eZ mV oD oB oC oA oE S.val cE DH AB tE vP DJ vQ AC AD DK AE uB uC uD List.map_cons List.map_nil List.cons_append List.nil_append List.length_cons List.length_nil List.getElem?_cons_zero List.getElem?_cons_succ List.set_cons_zero List.set_cons_succ List.append_nil Bool.or_false Bool.or_true Bool.false_or Bool.true_or Bool.not_true Bool.not_false if_true if_false Bool.false_eq_true sz0 sz1 sz2 sz3 sz4 true_and decide_eq_true_eq Int.reduceToNat Int.reducePow Int.reduceMul Int.reduceSub Int.reduceAdd Int.reduceNeg".splitOn " ").toArray.mapM λx=>`(Lean.Parser.Tactic.simpLemma| $(Lean.mkIdent x.toName):term)
 `(tactic| simp only[$a,*])
namespace K23
structure RgsOk (R:List (List Pt)):Prop where
 len:R.length<=4
 each:∀g∈R,g.length<=10
 wide:∀s∈aZ R,wid s<=40
theorem RgsOk.pos {R:List (List Pt)}:∀s∈aZ R,0<wid s:=λs hs=>by
 obtain⟨l,hl,hs⟩:=List.mem_flatten.mp hs
 obtain⟨g,hg,rfl⟩:=List.mem_map.mp hl
 exact (uF hs).2
theorem RgsOk.slen {R:List (List Pt)} (o:RgsOk R):(aZ R).length<=40:=by
 have:=kJ bR 10 R λg hg=>Nat.le_trans (uE g) (o.each g hg)
 have:=o.len
 show ((R.map bR).flatten).length<=40
 omega
theorem vD {s:bT} (h:wid s<=40):(evs s).length<=40:=by unfold evs;rw[List.length_map,List.length_range];omega
noncomputable def gS:FD:=λds Q=>∃R:List (List Pt),ds=[dI R]/\RgsOk R/\∀ks xs,ColOf (aZ R) ks xs->Q (.dct ks xs)
theorem tW:∀ds Q,gS ds Q->ds.length=1:=by rintro ds Q ⟨_,rfl,_⟩;rfl
theorem fO:∀ds Q,gS ds Q->bQ iD { nx:=λ_=>Q .non,rt:=Q } (aO ["rings","columns","ring","side","column"] ds):=by
 rintro ds Q ⟨R,rfl,ok,q⟩
 rw[aT 4 rfl]
 unfold bQ
 have fits:∀E:List Ev,(∃E',(((aZ R).map evs).flatten)=E++E')->E.length<=1600:=λE ⟨E',e⟩=>by
  have h1:=kJ evs 40 (aZ R) λs hs=>vD (ok.wide s hs)
  have h2:=ok.slen
  have h3:=Nat.mul_le_mul_left 40 h2
  rw[e,List.length_append] at h1;omega
 refine aJ (λρ=>ρ=[some (.d (dI R)),some (.dcl (cR [])),none,none,none]) (λK hK=>?_) ?_
 ·walk_at "rd"
  exact hK _ rfl
 rintro ρ rfl
 refine aJ (λρ=>∃u v w,ρ=[some (.d (dI R)),some (.dcl (cR (((aZ R).map evs).flatten))),u,v,w]) (λK hK=>?_) ?_
 ·simp only[cI,riL,aK,List.getElem?_cons_zero]
  refine bY (λxs ρ=>∃done todo:List (List Pt),R=done++todo/\xs=todo.map pts/\∃u v w,ρ=[some (.d (dI R)),some (.dcl (cR (((aZ done).map evs).flatten))),u,v,w]) ?_ ?_ _ _ ⟨[],R,rfl,rfl,_,_,_,rfl⟩
  ·rintro x xs ρ ⟨done,todo,eR,exs,u,v,w,rfl⟩ F hr hb hn hc
   cases todo with
   | nil=>cases exs
   | cons g todo =>
    rw[List.map_cons] at exs
    injection exs with ex exs
    subst ex exs
    have hg:g∈R:=by rw[eR];exact List.mem_append_right _ (.head _)
    unfold cZ
    simp only[aR,cI,riL,aU,aA,aG,aK,List.getElem?_cons_zero,List.getElem?_cons_succ,List.set_cons_zero,List.set_cons_succ]
    refine⟨g,rfl,Nat.le_trans (ok.each g hg) (by decide),?_⟩
    dsimp only
    have eA:aZ R=(aZ done++bR g)++aZ todo:=by rw[eR];simp[aZ]
    refine bY (λxs ρ=>∃d2 t2:List bT,bR g=d2++t2/\xs=t2.map sdD/\∃v w,ρ=[some (.d (dI R)),some (.dcl (cR (((aZ done++d2).map evs).flatten))),some (.d (pts g)),v,w]) ?_ ?_ _ _ ⟨[],bR g,rfl,rfl,v,w,by rw[List.append_nil]⟩
    ·rintro x xs ρ ⟨d2,t2,eS,exs,v,w,rfl⟩ F2 hr2 hb2 hn2 hc2
     cases t2 with
     | nil=>cases exs
     | cons s t2 =>
      rw[List.map_cons] at exs
      injection exs with ex exs
      subst ex exs
      unfold cY
      simp only[aR,cI,BM,aA,aG,r2,aD,rC,fI,fJ,List.getElem?_cons_zero,List.getElem?_cons_succ,List.set_cons_zero,List.set_cons_succ]
      have eW:(s.2.1-s.1.1).toNat=(wid s).toNat:=rfl
      rw[eW]
      refine jB s.1.1 (wid s).toNat (λi ρ=>∃w,ρ=[some (.d (dI R)),some (.dcl (cR (((aZ done++d2).map evs).flatten++(evs s).take i))),some (.d (pts g)),some (.d (sdD s)),w]) ?_ ?_ _ ⟨w,by rw[List.take_zero,List.append_nil]⟩
      ·rintro i ρ hi ⟨w,rfl⟩ F3 hr3 hb3 hn3 hc3
       have ei:(evs s)[i]? = some (s.1.1+(i:Int),s):=by unfold evs;rw[List.getElem?_map,List.getElem?_range hi];rfl
       have et:(evs s).take (i+1)=(evs s).take i++[(s.1.1+(i:Int),s)]:=by rw[List.take_succ,ei];rfl
       obtain⟨⟨k1,k2⟩,_⟩:=zF (((aZ done++d2).map evs).flatten++(evs s).take i)
       have fit:=fits (((aZ done++d2).map evs).flatten++(evs s).take i) ⟨(evs s).drop i++(t2.map evs).flatten++((aZ todo).map evs).flatten,by
        rw[eA,eS];simp only[List.map_append,List.map_cons,List.flatten_append,List.flatten_cons,List.append_assoc]
        rw[<-List.append_assoc ((evs s).take i),List.take_append_drop]⟩
       unfold cX
       simp only[aR,xR,aK,List.getElem?_cons_zero,List.getElem?_cons_succ,List.set_cons_zero,List.set_cons_succ]
       refine⟨bL (by omega),λp hp=>bL (by have:=k2 p hp;omega),?_⟩
       refine hn3 _ ⟨some (.d (.int (s.1.1+(i:Int)))),?_⟩
       rw[et,<-List.append_assoc,rL]
      ·rintro ρ ⟨w,rfl⟩
       refine hn2 _ ⟨d2++[s],t2,by rw[eS];simp,rfl,some (.d (sdD s)),w,?_⟩
       have:(evs s).take (wid s).toNat=evs s:=List.take_of_length_le (by unfold evs;simp)
       rw[this,<-List.append_assoc,List.map_append,List.flatten_append]
       simp
    ·rintro ρ ⟨d2,t2,eS,exs,v,w,rfl⟩
     have:t2=[]:=by cases t2 with | nil=>rfl | cons _ _=>cases exs
     subst this
     rw[List.append_nil] at eS
     refine hn _ ⟨done++[g],todo,by rw[eR];simp,rfl,some (.d (pts g)),v,w,?_⟩
     rw[<-eS];simp[aZ]
  ·rintro ρ ⟨done,todo,eR,exs,u,v,w,rfl⟩
   have:todo=[]:=by cases todo with | nil=>rfl | cons _ _=>cases exs
   subst this
   rw[List.append_nil] at eR
   rw[<-eR]
   exact hK _ ⟨u,v,w,rfl⟩
 rintro ρ ⟨u,v,w,rfl⟩
 simp only[eF,S.fz,bN,aK,List.getElem?_cons_zero,List.getElem?_cons_succ,List.set_cons_zero,List.set_cons_succ]
 exact q _ _ (JV (aZ R) RgsOk.pos)
noncomputable def kA:FD:=λds Q=>∃ws:List Int,ds=[il ws]/\ws.length<=8/\(∀w∈ws,0<w/\w<=40)/\∀B,0<B->(∀w∈ws,w∣B)->BL 50 B->Q (.int B)
theorem wV:∀ds Q,kA ds Q->ds.length=1:=by rintro ds Q ⟨_,rfl,_⟩;rfl
theorem fM:∀ds Q,kA ds Q->bO vY { nx:=λ_=>Q .non,rt:=Q } (aO ["numbers","multiple","number"] ds):=by
 rintro ds Q ⟨ws,rfl,hl,hw,q⟩
 rw[aT 2 rfl]
 unfold bO
 refine aJ (λρ=>ρ=[some (.d (il ws)),some (.d (.int 1)),none]) (λK hK=>?_) ?_
 ·walk_at "rd"
  exact hK _ rfl
 rintro ρ rfl
 refine aJ (λρ=>∃(B:Int) (u:Option S),(0<B/\(∀w∈ws,w∣B)/\B<=((40 ^ 8:Nat):Int))/\ρ=[some (.d (il ws)),some (.d (.int B)),u]) (λK hK=>?_) ?_
 ·simp only[cI,riL,aK,List.getElem?_cons_zero]
  refine bY (λxs ρ=>∃done todo:List Int,ws=done++todo/\xs=todo.map .int/\∃(B:Int) (u:Option S),(0<B/\(∀w∈done,w∣B)/\B<=((40 ^ done.length:Nat):Int))/\ρ=[some (.d (il ws)),some (.d (.int B)),u]) ?_ ?_ _ _ ⟨[],ws,rfl,rfl,1,none,⟨by decide,(λw h=>by cases h),by decide⟩,rfl⟩
  ·rintro x xs ρ ⟨done,todo,e,exs,B,u,⟨h1,h2,h3⟩,rfl⟩ F hr hb hn hc
   cases todo with
   | nil=>cases exs
   | cons w todo =>
    rw[List.map_cons] at exs
    injection exs with ex exs
    subst ex exs
    obtain⟨w0,w5⟩:=hw w (by rw[e];exact List.mem_append_right _ (.head _))
    have dl:done.length<=7:=by rw[e] at hl;simp at hl;omega
    have pw:((40 ^ done.length:Nat):Int)<=((40 ^ 7:Nat):Int):=Int.ofNat_le.mpr (Nat.pow_le_pow_right (by decide) dl)
    have bB:BL 50 B:=BL.of_lt (by omega) (Int.lt_of_le_of_lt (Int.le_trans h3 pw) (by decide))
    have bw:BL 50 w:=BL.of_lt (by omega) (Int.lt_of_le_of_lt w5 (by decide))
    unfold cV
    simp only[aR,bC,aU,aA,aG,aK,List.getElem?_cons_zero,List.getElem?_cons_succ,List.set_cons_zero,List.set_cons_succ]
    refine⟨B,w,rfl,⟨h1,w0⟩,⟨bB.mono (by decide),bw.mono (by decide)⟩,λl l0 d1 d2 le=>?_⟩
    refine hn _ ⟨done++[w],todo,by rw[e];simp,rfl,l,some (.d (.int w)),⟨l0,λv hv=>?_,?_⟩,rfl⟩
    ·rcases List.mem_append.mp hv with hv | hv
     ·exact Int.dvd_trans (h2 v hv) d1
     ·rw[List.mem_singleton.mp hv];exact d2
    ·rw[List.length_append,List.length_singleton,Nat.pow_succ,Int.natCast_mul]
     have k1:=Int.mul_le_mul_of_nonneg_right h3 (Int.le_of_lt w0)
     have k2:=Int.mul_le_mul_of_nonneg_left w5 (Int.natCast_nonneg (40 ^ done.length))
     exact Int.le_trans le (Int.le_trans k1 k2)
  ·rintro ρ ⟨done,todo,e,exs,B,u,⟨h1,h2,h3⟩,rfl⟩
   have:todo=[]:=by cases todo with | nil=>rfl | cons _ _=>cases exs
   subst this
   rw[List.append_nil] at e
   subst e
   exact hK _ ⟨B,u,⟨h1,h2,Int.le_trans h3 (Int.ofNat_le.mpr (Nat.pow_le_pow_right (by decide) hl))⟩,rfl⟩
 rintro ρ ⟨B,u,⟨h1,h2,h3⟩,rfl⟩
 walk_at "rd"
 exact q B h1 h2 (BL.of_lt (by omega) (Int.lt_of_le_of_lt h3 (by decide)))
structure SdB (s:bT):Prop where
 x1:BL 210 s.1.1
 y1:BL 210 s.1.2
 x2:BL 210 s.2.1
 y2:BL 210 s.2.2
noncomputable def oU:FD:=λds Q=>∃(s:bT) (t B:Int),ds=[sdD s,.int t,.int B]/\(SdB s/\wid s≠0/\BL 212 t/\BL 50 B)/\Q (.int (hB B s t))
theorem BC:∀ds Q,oU ds Q->ds.length=3:=by rintro ds Q ⟨_,_,_,rfl,_⟩;rfl
theorem kM:∀ds Q,oU ds Q->dH qP { nx:=λ_=>Q .non,rt:=Q } (aO ["side","thread","bottom","left","width","climb"] ds):=by
 rintro ds Q ⟨s,t,B,rfl,⟨b,w0,bt,bB⟩,q⟩
 rw[aT 3 rfl]
 unfold dH
 have bw:BL 211 (wid s):=b.x2.sub b.x1
 refine aJ (λρ=>ρ=[some (.d (sdD s)),some (.d (.int t)),some (.d (.int B)),some (.d (pt s.1)),none,none]) (λK hK=>?_) ?_
 ·walk_at "rd"
  exact hK _ rfl
 rintro ρ rfl
 refine aJ (λρ=>ρ=[some (.d (sdD s)),some (.d (.int t)),some (.d (.int B)),some (.d (pt s.1)),some (.d (.int (wid s))),none]) (λK hK=>?_) ?_
 ·simp only[bC,aU,aA,aG,aK,List.getElem?_cons_zero,List.getElem?_cons_succ,List.set_cons_zero,List.set_cons_succ]
  exact⟨s,rfl,hK _ rfl⟩
 rintro ρ rfl
 walk_at "rd"
 refine⟨(b.y2.sub b.y1).mulOk (bt.sub b.x1),b.y1.mulOk bw,(bw.mono (by decide)).divOk w0,?_,q⟩
 exact ((b.y1.mul bw).add ((b.y2.sub b.y1).mul (bt.sub b.x1))).mulOk (bB.fdiv)
structure SdsOk (S:List bT) (c B:Int):Prop where
 len:S.length<=8
 bd:∀s∈S,SdB s
 ok:∀s∈S,0<wid s
 cb:BL 210 c
 pos:0<B
 dv:∀s∈S,wid s∣B
 bB:BL 50 B
noncomputable def kB:FD:=λds Q=>∃(S:List bT) (c B:Int),ds=[fQ S,.int c,.int B]/\SdsOk S c B/\(∀x∈S.map (prB B c),∀y∈S.map (prB B c),x.1<y.1->x.2<=y.2)/\∀M:List IP,M.Perm (S.map (prB B c))->dN M->Q (pts M)
theorem wW:∀ds Q,kB ds Q->ds.length=3:=by rintro ds Q ⟨_,_,_,rfl,_⟩;rfl
theorem fN:∀ds Q,kB ds Q->bP oU { nx:=λ_=>Q .non,rt:=Q } (aO ["sides","column","bottom","heights","lower","upper"] ds):=by
 rintro ds Q ⟨Sd,c,B,rfl,ok,unc,q⟩
 rw[aT 3 rfl]
 unfold bP
 refine aJ (λρ=>ρ=[some (.d (fQ Sd)),some (.d (.int c)),some (.d (.int B)),some (.own ((Sd.map (prB B c)).map pt)),none,none]) (λK hK=>?_) ?_
 ·walk_at "rd"
  refine⟨bL (by rw[List.length_map];have:=ok.len;omega),?_⟩
  refine dC (λρ=>∃a,ρ=[a,some (.d (.int c)),some (.d (.int B))]) sdD (λs=>pt (prB B c s)) Sd ?_ ⟨_,rfl⟩ ?_
  ·rintro s hs ρ ⟨a,rfl⟩ K' hK'
   walk_at "rd"
   have w0:=ok.ok s hs
   refine⟨s,c,B,rfl,⟨ok.bd s hs,by omega,ok.cb.mono (by decide),ok.bB⟩,s,c+1,B,rfl,⟨ok.bd s hs,by omega,((ok.cb.add (BL.const (n:=1) (i:=1))).mono (by decide)),ok.bB⟩,?_⟩
   walk_at "rd"
   exact hK' _ ⟨_,rfl⟩
  ·have e:Sd.map (λs=>pt (prB B c s))=(Sd.map (prB B c)).map pt:=by rw[List.map_map];rfl
   rw[e]
   exact hK _ rfl
 rintro ρ rfl
 refine aJ (λρ=>∃M:List IP,(M.Perm (Sd.map (prB B c))/\dN M)/\ρ=[some (.d (fQ Sd)),some (.d (.int c)),some (.d (.int B)),some (.own (M.map pt)),none,none]) (λK hK=>?_) ?_
 ·simp only[cK,vO,aD,List.getElem?_cons_zero,List.getElem?_cons_succ,List.set_cons_zero,List.set_cons_succ]
  refine⟨(Sd.map (prB B c)).map λz=>[z.1,z.2],by rw[List.map_map (g:=gR)];rfl,by rw[List.length_map,List.length_map];have:=ok.len;omega,λns h=>?_,λmss pm ps=>?_⟩
  ·obtain⟨z,_,rfl⟩:=List.mem_map.mp h
   exact λe=>by cases e
  ·obtain⟨M,h1,h2,h3⟩:=yC pm ps
   rw[h2]
   exact hK _ ⟨M,⟨h1,xZ h3 λx hx y hy=>unc x (h1.mem_iff.mp hx) y (h1.mem_iff.mp hy)⟩,rfl⟩
 rintro ρ ⟨M,⟨pm,up⟩,rfl⟩
 refine aJ (λρ=>∃u v,ρ=[some (.d (fQ Sd)),some (.d (.int c)),some (.d (.int B)),some (.d (pts M)),u,v]) (λK hK=>?_) ?_
 ·simp only[eF,L2.R2.S.fz,cI,gK,aK,aD,jG,eN,bZ,rC,List.getElem?_cons_zero,List.getElem?_cons_succ,List.set_cons_zero,List.set_cons_succ]
  have zz:∃ps:List (IP × IP),List.zipWith (λa b=>D.tup [a,b]) (M.map pt) (eX (M.map pt) (some 1) none)=ps.map (λp=>D.tup [pt p.1,pt p.2])/\∀p∈ps,p.1.2<=p.2.2:=by
   have c1:eX (M.map pt) (some 1) none=(M.drop 1).map pt:=by
    cases M with
    | nil=>rfl
    | cons a r=>exact fZ (j:=1) (by simp)
   rw[c1]
   clear c1 pm hK
   induction M with
   | nil=>exact⟨[],rfl,λp h=>(by cases h)⟩
   | cons a r ih =>
    cases r with
    | nil=>exact⟨[],rfl,λp h=>(by cases h)⟩
    | cons b r =>
     obtain⟨ps,h1,h2⟩:=ih (List.pairwise_cons.mp up).2
     refine⟨(a,b)::ps,?_,λp hp=>?_⟩
     ·show D.tup [pt a,pt b]::List.zipWith (λa b=>D.tup [a,b]) ((b::r).map pt) (((b::r).drop 1).map pt)=_
      rw[h1];rfl
     ·rcases List.mem_cons.mp hp with rfl | hp
      ·exact ((List.pairwise_cons.mp up).1 b (.head _)).2
      ·exact h2 p hp
  obtain⟨ps,e1,e2⟩:=zz
  rw[e1]
  refine bY (λxs ρ=>∃todo:List (IP × IP),(∀p∈todo,p.1.2<=p.2.2)/\xs=todo.map (λp=>D.tup [pt p.1,pt p.2])/\∃u v,ρ=[some (.d (fQ Sd)),some (.d (.int c)),some (.d (.int B)),some (.d (pts M)),u,v]) ?_ ?_ _ _ ⟨ps,e2,rfl,_,_,rfl⟩
  ·rintro x xs ρ ⟨todo,ht,exs,u,v,rfl⟩ F hr hb hn hc
   cases todo with
   | nil=>cases exs
   | cons p todo =>
    rw[List.map_cons] at exs
    injection exs with ex exs
    subst ex exs
    have le:=ht p (.head _)
    unfold cW
    walk_at "rd"
    have:¬p.2.2<p.1.2:=by omega
    simp only[this,decide_false,if_false,Bool.false_eq_true]
    exact hn _ ⟨todo,λz hz=>ht z (.tail _ hz),rfl,_,_,rfl⟩
  ·rintro ρ ⟨todo,ht,exs,u,v,rfl⟩
   exact hK _ ⟨u,v,rfl⟩
 rintro ρ ⟨u,v,rfl⟩
 simp only[eF,L2.R2.S.fz,bN,aK,List.getElem?_cons_zero,List.getElem?_cons_succ,List.set_cons_zero,List.set_cons_succ]
 exact q M pm up
structure ColIn (S:List bT) (c:Int):Prop where
 len:S.length<=8
 bd:∀s∈S,SdB s
 ok:∀s∈S,0<wid s
 wide:∀s∈S,wid s<=40
 cb:BL 210 c
 unc:∀B,0<B->(∀s∈S,wid s∣B)->∀x∈S.map (prB B c),∀y∈S.map (prB B c),x.1<y.1->x.2<=y.2
noncomputable def jZ:FD:=λds Q=>∃(S:List bT) (c:Int),ds=[fQ S,.int c]/\ColIn S c/\∀B M rows,ColB S c B M rows->Q (.lst rows)
theorem wT:∀ds Q,jZ ds Q->ds.length=2:=by rintro ds Q ⟨_,_,rfl,_⟩;rfl
theorem gZ:∀ds Q,jZ ds Q->cF kA kB cM qP { nx:=λ_=>Q .non,rt:=Q } (aO ["sides","column","bottom","heights","rows","low","up","edges"] ds):=by
 rintro ds Q ⟨Sd,c,rfl,ok,q⟩
 rw[aT 6 rfl]
 unfold cF
 refine aJ (λρ=>∃B,(0<B/\(∀s∈Sd,wid s∣B)/\BL 50 B)/\ρ=[some (.d (fQ Sd)),some (.d (.int c)),some (.d (.int B)),none,none,none,none,none]) (λK hK=>?_) ?_
 ·walk_at "rd"
  refine⟨bL (by rw[List.length_map];have:=ok.len;omega),?_⟩
  refine dC (λρ=>∃a,ρ=[a]) sdD (λs=>.int (wid s)) Sd ?_ ⟨_,rfl⟩ ?_
  ·rintro s hs ρ ⟨a,rfl⟩ K' hK'
   simp only[aR,aU,aA,aG,aK,List.getElem?_cons_zero,List.set_cons_zero]
   exact⟨s,rfl,hK' _ ⟨_,rfl⟩⟩
  ·refine⟨Sd.map wid,by show _=[D.lst ((Sd.map wid).map .int)];rw[List.map_map];rfl,by rw[List.length_map];exact ok.len,λw hw=>?_,λB h1 h2 h3=>?_⟩
   ·obtain⟨s,hs,rfl⟩:=List.mem_map.mp hw
    exact⟨ok.ok s hs,ok.wide s hs⟩
   ·exact hK _ ⟨B,⟨h1,λs hs=>h2 _ (List.mem_map_of_mem hs),h3⟩,rfl⟩
 rintro ρ ⟨B,⟨hB0,hdv,bB⟩,rfl⟩
 refine aJ (λρ=>∃M:List IP,(M.Perm (Sd.map (prB B c))/\dN M)/\ρ=[some (.d (fQ Sd)),some (.d (.int c)),some (.d (.int B)),some (.d (pts M)),none,none,none,none]) (λK hK=>?_) ?_
 ·simp only[bC,aU,aA,aG,aK,List.getElem?_cons_zero,List.getElem?_cons_succ,List.set_cons_zero,List.set_cons_succ]
  exact⟨Sd,c,B,rfl,⟨ok.len,ok.bd,ok.ok,ok.cb,hB0,hdv,bB⟩,ok.unc B hB0 hdv,λM pm up=>hK _ ⟨M,⟨pm,up⟩,rfl⟩⟩
 rintro ρ ⟨M,⟨pm,up⟩,rfl⟩
 have ml:M.length<=8:=by rw[pm.length_eq,List.length_map];exact ok.len
 refine aJ (λρ=>ρ=[some (.d (fQ Sd)),some (.d (.int c)),some (.d (.int B)),some (.d (pts M)),some (.own []),none,none,none]) (λK hK=>?_) ?_
 ·walk_at "rd"
  exact hK _ rfl
 rintro ρ rfl
 refine aJ (λρ=>∃rows u v w,RowsOf B c (kept M) rows/\ρ=[some (.d (fQ Sd)),some (.d (.int c)),some (.d (.int B)),some (.d (pts M)),some (.own rows),u,v,w]) (λK hK=>?_) ?_
 ·simp only[cI,gK,zY,aD,List.getElem?_cons_zero,List.getElem?_cons_succ]
  rw[vW M]
  have tl:(eU M).length<=8:=Nat.le_trans (nR M) ml
  generalize hT:eU M=T at tl
  refine bY (λxs ρ=>∃done todo:List (IP × IP),T=done++todo/\xs=todo.map (λz=>D.tup [pt z.1,pt z.2])/\∃rows u v w,RowsOf B c (done.filter λz=>decide (z.1≠z.2)) rows/\ρ=[some (.d (fQ Sd)),some (.d (.int c)),some (.d (.int B)),some (.d (pts M)),some (.own rows),u,v,w]) ?_ ?_ _ _ ⟨[],T,rfl,rfl,[],none,none,none,.nil,rfl⟩
  ·rintro x xs ρ ⟨done,todo,eT,exs,rows,u,v,w,hR,rfl⟩ F hr hb hn hc
   cases todo with
   | nil=>cases exs
   | cons z todo =>
    rw[List.map_cons] at exs
    injection exs with ex exs
    subst ex exs
    have rl:rows.length<=8:=by
     rw[<-hR.length]
     have h1:=List.length_filter_le (λz:IP × IP=>decide (z.1≠z.2)) done
     rw[eT] at tl;simp at tl;omega
    unfold eE
    simp only[hX,cQ,aR,hV,tF,List.set_cons_zero,List.set_cons_succ,List.length_cons,List.length_nil,true_and]
    simp only[cU,bD,r2,aD,dNe,List.getElem?_cons_zero,List.getElem?_cons_succ,EZ,true_and]
    by_cases hz:z.1=z.2
    ·simp only[hz,decide_true,Bool.not_true,Bool.false_eq_true,if_false,bS]
     refine hn _ ⟨done++[z],todo,by rw[eT];simp,rfl,rows,some (.d (pt z.2)),some (.d (pt z.2)),w,?_,rfl⟩
     rw[List.filter_append]
     simpa [hz] using hR
    ·simp only[hz,decide_false,Bool.not_false,if_true]
     refine aJ (λρ=>∃p1 q1 p2 q2 p3 q3 p4 q4,(Low z.1.1 B p1 q1/\Low z.1.2 B p2 q2/\Low z.2.1 B p3 q3/\Low z.2.2 B p4 q4)/\ρ=[some (.d (fQ Sd)),some (.d (.int c)),some (.d (.int B)),some (.d (pts M)),some (.own rows),some (.d (pt z.1)),some (.d (pt z.2)),some (.own [fr p1 q1,fr p2 q2,fr p3 q3,fr p4 q4])]) (λK' hK'=>?_) ?_
     ·have bb:B≠0/\BL 9000 B:=⟨by omega,bB.mono (by decide)⟩
      walk_at "rd"
      refine⟨by simp,?_⟩
      refine⟨_,_,rfl,bb,λp1 q1 l1=>⟨_,_,rfl,bb,λp2 q2 l2=>⟨_,_,rfl,bb,λp3 q3 l3=>⟨_,_,rfl,bb,λp4 q4 l4=>?_⟩⟩⟩⟩
      exact hK' _ ⟨p1,q1,p2,q2,p3,q3,p4,q4,⟨l1,l2,l3,l4⟩,rfl⟩
     rintro ρ ⟨p1,q1,p2,q2,p3,q3,p4,q4,⟨l1,l2,l3,l4⟩,rfl⟩
     walk_at "rd"
     refine⟨bL (by decide),bL (by omega),?_⟩
     refine hn _ ⟨done++[z],todo,by rw[eT];simp,rfl,rows++[.tup [.int c,fr p1 q1,fr p2 q2,fr p3 q3,fr p4 q4]],some (.d (pt z.1)),some (.d (pt z.2)),some (.own [fr p1 q1,fr p2 q2,fr p3 q3,fr p4 q4]),?_,rfl⟩
     rw[List.filter_append]
     have e:[z].filter (λz:IP × IP=>decide (z.1≠z.2))=[z]:=by simp[hz]
     rw[e]
     exact hR.snoc ⟨p1,q1,p2,q2,p3,q3,p4,q4,⟨l1,l2,l3,l4⟩,rfl⟩
  ·rintro ρ ⟨done,todo,eT,exs,rows,u,v,w,hR,rfl⟩
   have:todo=[]:=by cases todo with | nil=>rfl | cons _ _=>cases exs
   subst this
   rw[List.append_nil] at eT
   refine hK _ ⟨rows,u,v,w,?_,rfl⟩
   show RowsOf B c ((eU M).filter λz=>decide (z.1≠z.2)) rows
   rw[hT,eT];exact hR
 rintro ρ ⟨rows,u,v,w,hR,rfl⟩
 simp only[eF,L2.R2.S.fz,bN,aK,List.getElem?_cons_zero,List.getElem?_cons_succ,List.set_cons_zero,List.set_cons_succ]
 exact q B M rows ⟨hB0,hdv,bB,pm,up,hR⟩
end K23
namespace K23
theorem gQ:∀(x y:List Pt) (a:Pt),cC a (x++y)=cC a x++cC (mY a x) y
 | [],y,a=>rfl
 | b::x,y,a=>by
  show sd a b++cC b (x++y)=(sd a b++cC b x)++cC (mY b x) y
  rw[gQ x y b,List.append_assoc]
theorem vR (a b:Pt):sd a b=sd b a:=by
 unfold sd
 rcases Int.lt_trichotomy a.1 b.1 with h | h | h
 ·rw[if_pos h,if_neg (by omega),if_pos h]
 ·rw[if_neg (by omega),if_neg (by omega),if_neg (by omega),if_neg (by omega)]
 ·rw[if_neg (by omega),if_pos h,if_pos h]
theorem nO {a b:Pt} (h:a.1=b.1):sd a b=[]:=by unfold sd;rw[if_neg (by omega),if_neg (by omega)]
theorem sK:∀(r:List Pt) (a z:Pt),(cC a (r++[z])).Perm (cC z (r.reverse++[a]))
 | [],a,z=>by
  show (sd a z++[]).Perm (sd z a++[])
  rw[vR]
 | b::r,a,z=>by
  rw[List.reverse_cons,gQ (r.reverse++[b]) [a],iP]
  show (sd a b++cC b (r++[z])).Perm (_++(sd b a++[]))
  rw[List.append_nil,vR b a]
  exact (List.Perm.append_left _ (sK r b z)).trans List.perm_append_comm
theorem uH (a b:Pt) (r1 r2:List Pt):bR ((a::r1)++(b::r2))=cC a (r1++[b])++cC b (r2++[a]):=by
 show cC a ((r1++b::r2)++[a])=_
 rw[show (r1++b::r2)++[a]=(r1++[b])++(r2++[a]) by simp,gQ,iP]
theorem uG (l1 l2:List Pt):(bR (l1++l2)).Perm (bR (l2++l1)):=by
 cases l1 with
 | nil=>rw[List.append_nil];exact .refl _
 | cons a r1 =>
  cases l2 with
  | nil=>rw[List.append_nil];exact .refl _
  | cons b r2=>rw[uH,uH];exact List.perm_append_comm
theorem DR (l:List Pt):(bR l.reverse).Perm (bR l):=by
 cases l with
 | nil=>exact .refl _
 | cons a r =>
  rw[List.reverse_cons]
  refine (uG r.reverse [a]).trans ?_
  exact (sK r a a).symm
theorem AH {u d:Pt} {us ds:List Pt} (h0:u.1=d.1) (h1:(mY u us).1=(mY d ds).1):(bR ((u::us)++(d::ds).reverse)).Perm (cC u us++cC d ds):=by
 have e:bR ((u::us)++(d::ds).reverse)=cC u us++(cC (mY u us) (ds.reverse++[d])++cC d [u]):=by
  show cC u ((us++(d::ds).reverse)++[u])=_
  rw[List.reverse_cons,List.append_assoc,gQ us,gQ (ds.reverse++[d]) [u],iP]
 rw[e,show cC d [u]=sd d u++[] from rfl,nO h0.symm,List.append_nil,List.append_nil]
 refine List.Perm.append_left _ ((sK ds d (mY u us)).symm.trans ?_)
 rw[gQ ds [mY u us],show cC (mY d ds) [mY u us]=sd (mY d ds) (mY u us)++[] from rfl,nO h1.symm,List.append_nil,List.append_nil]
noncomputable def T (ts:List Int) (i:Nat):Int:=ts.getD i 0
noncomputable def Hh (hss:List (List Int)) (z j:Nat):Int:=(hss.getD z []).getD j 0
noncomputable def cL (ts:List Int) (hss:List (List Int)) (j z:Nat):Pt:=(T ts z,Hh hss z j)
noncomputable def crv (ts:List Int) (hss:List (List Int)) (j:Nat):List Pt:=(List.range ts.length).map (cL ts hss j)
noncomputable def sdz (ts:List Int) (hss:List (List Int)) (z j:Nat):bT:=(cL ts hss j z,cL ts hss j (z+1))
noncomputable def csd (ts:List Int) (hss:List (List Int)) (j:Nat):List bT:=(List.range (ts.length-1)).map λz=>sdz ts hss z j
theorem rA (f:Nat->Pt):∀m:Nat,mY (f 0) ((List.range m).map λk=>f (k+1))=f m
 | 0=>rfl
 | m+1=>by rw[List.range_succ,List.map_append];exact iP _ _ _
theorem yK (f:Nat->Pt):∀m:Nat,(∀k,k<m->(f k).1<(f (k+1)).1)->cC (f 0) ((List.range m).map λk=>f (k+1))=(List.range m).map λk=>(f k,f (k+1))
 | 0,_=>rfl
 | m+1,h=>by
  rw[List.range_succ,List.map_append,List.map_append,gQ,yK f m (λk hk=>h k (by omega)),rA]
  show _++(sd (f m) (f (m+1))++[])=_
  unfold sd
  rw[if_pos (h m (by omega))];rfl
theorem lL {ts:List Int} {i:Nat} (h:i<ts.length):ts[i]? = some (T ts i):=by unfold T;rw[List.getD_eq_getElem?_getD,List.getElem?_eq_getElem h];rfl
theorem vU {ts:List Int} (h:Thr ts) {i:Nat} (hi:i+1<ts.length):1<=T ts (i+1)-T ts i/\T ts (i+1)-T ts i<=40 :=
 h.step i _ _ (lL (by omega)) (lL hi)
theorem mD {ts:List Int} (h:Thr ts) {i:Nat}:∀{j:Nat},i<=j->j<ts.length->T ts i<=T ts j
 | 0,h1,_=>by rw[show i=0 by omega];exact Int.le_refl _
 | j+1,h1,h2=>by
  by_cases e:i=j+1
  ·rw[e];exact Int.le_refl _
  ·have:=mD h (i:=i) (j:=j) (by omega) (by omega)
   have:=vU h h2
   omega
theorem wJ {ts:List Int} {hss:List (List Int)} {j:Nat} (h:2<=ts.length):crv ts hss j=cL ts hss j 0::(List.range (ts.length-1)).map λk=>cL ts hss j (k+1):=by
 unfold crv
 obtain⟨m,hm⟩:∃m,ts.length=m+1:=⟨ts.length-1,by omega⟩
 rw[hm,List.range_succ_eq_map,List.map_cons,List.map_map];rfl
theorem AG {ts:List Int} {hss:List (List Int)} (h:Thr ts) (a b:Nat):(bR (crv ts hss a++(crv ts hss b).reverse)).Perm (csd ts hss a++csd ts hss b):=by
 have hl:=h.len
 rw[wJ (j:=a) hl.1,wJ (j:=b) hl.1]
 refine (AH (u:=cL ts hss a 0) (d:=cL ts hss b 0) (show T ts 0=T ts 0 from rfl) ?_).trans ?_
 ·rw[rA (cL ts hss a),rA (cL ts hss b)];rfl
 ·have k:∀j,cC (cL ts hss j 0) ((List.range (ts.length-1)).map λk=>cL ts hss j (k+1))=csd ts hss j:=λj =>
   yK (cL ts hss j) _ λk hk=>by have:=vU h (i:=k) (by omega);show T ts k<T ts (k+1);omega
  rw[k a,k b]
theorem rE (z:Nat):∀m:Nat,z<m->(List.range m).filter (λk=>decide (k=z))=[z]
 | 0,h=>by omega
 | m+1,h=>by
  rw[List.range_succ,List.filter_append]
  by_cases e:z<m
  ·rw[rE z m e]
   have:¬m=z:=by omega
   simp[this]
  ·have e2:m=z:=by omega
   have e3:(List.range m).filter (λk=>decide (k=z))=[]:=List.filter_eq_nil_iff.mpr λk hk=>by
    have:=List.mem_range.mp hk
    simp;omega
   rw[e3];simp[e2]
structure Zn (ts:List Int) (c:Int) (z:Nat):Prop where
 z1:z+1<ts.length
 lo:T ts z<=c
 hi:c<T ts (z+1)
theorem HM {ts:List Int} {hss:List (List Int)} {c:Int} {z:Nat} (h:Thr ts) (Z:Zn ts c z) (j:Nat):(csd ts hss j).filter (cov c)=[sdz ts hss z j]:=by
 unfold csd
 rw[List.filter_map]
 have e:∀k∈List.range (ts.length-1),((cov c) ∘ λz=>sdz ts hss z j) k=decide (k=z):=λk hk=>by
  have hk:=List.mem_range.mp hk
  have hz:=Z.z1
  have z2:=Z.lo
  have z3:=Z.hi
  show (decide (T ts k<=c) && decide (c<T ts (k+1)))=_
  by_cases e:k=z
  ·subst e;rw[decide_eq_true z2,decide_eq_true z3,decide_eq_true rfl];rfl
  ·rw[decide_eq_false e]
   by_cases l:k<z
   ·have:=mD h (i:=k+1) (j:=z) (by omega) (by omega)
    rw[decide_eq_false (show ¬c<T ts (k+1) by omega),Bool.and_false]
   ·have:=mD h (i:=z+1) (j:=k) (by omega) (by omega)
    rw[decide_eq_false (show ¬T ts k<=c by omega),Bool.false_and]
 rw[List.filter_congr e,rE z _ (by have:=Z.z1;omega)];rfl
theorem pD {α:Type} (p:α->Bool):∀L:List (List α),(L.flatten).filter p=(L.map λl=>l.filter p).flatten
 | []=>rfl
 | l::L=>by rw[List.flatten_cons,List.filter_append,pD p L];rfl
theorem pE {α β:Type} (f:α->β):∀L:List α,(L.map λx=>[f x]).flatten=L.map f
 | []=>rfl
 | x::L=>by rw[List.map_cons,List.flatten_cons,pE f L];rfl
theorem EH {ts:List Int} {hss:List (List Int)} {c:Int} {z:Nat} (h:Thr ts) (Z:Zn ts c z) (L:List Nat):((L.map (csd ts hss)).flatten).filter (cov c)=L.map λj=>sdz ts hss z j:=by
 rw[pD,List.map_map]
 have:((λl:List bT=>l.filter (cov c)) ∘ csd ts hss)=λj=>[sdz ts hss z j]:=funext λj=>HM h Z j
 rw[this,pE]
end K23
namespace K23
noncomputable def Wd (ts:List Int) (z:Nat):Int:=T ts (z+1)-T ts z
noncomputable def hp (ts:List Int) (hss:List (List Int)) (z:Nat) (k:Int) (j:Nat):IP:=(lin (Wd ts z) k (Hh hss z j) (Hh hss (z+1) j),lin (Wd ts z) (k+1) (Hh hss z j) (Hh hss (z+1) j))
noncomputable def LL (ts:List Int) (hss:List (List Int)) (n z:Nat) (k:Int):List IP:=(List.range (2*n)).map (hp ts hss z k)
noncomputable def scl (f:Int) (z:IP):IP:=(z.1*f,z.2*f)
theorem JG {ts:List Int} {hss:List (List Int)} (B c:Int) (z j:Nat):prB B c (sdz ts hss z j)=scl (B.fdiv (Wd ts z)) (hp ts hss z (c-T ts z) j):=by
 unfold prB hB scl hp sdz wid cL Wd lin
 dsimp only
 congr 1
 ·congr 1;grind
 ·congr 1;grind
theorem AL {ts:List Int} {hss:List (List Int)} {n:Nat} (C:Curves ts hss n) {z i j:Nat} (hz:z<ts.length) (hij:i<j) (hj:j<2*n):Hh hss z i<=Hh hss z j:=by
 have hl:=C.len
 have e:hss[z]? = some (hss.getD z []):=by rw[List.getD_eq_getElem?_getD,List.getElem?_eq_getElem (by omega)];rfl
 unfold Hh
 obtain⟨A,eA⟩:∃A,hss.getD z []=A:=⟨_,rfl⟩
 rw[eA] at e ⊢
 have hm:=List.mem_of_getElem? e
 have l:=C.each _ hm
 have:=List.pairwise_iff_getElem.mp (C.up _ hm) i j (by omega) (by omega) hij
 rw[List.getD_eq_getElem?_getD,List.getElem?_eq_getElem (show i<A.length by omega),List.getD_eq_getElem?_getD,List.getElem?_eq_getElem (show j<A.length by omega)]
 exact this
theorem xC {W k a b a' b':Int} (h0:0<=k) (h1:k<=W) (ha:a<=a') (hb:b<=b'):lin W k a b<=lin W k a' b':=by
 unfold lin
 have k1:=Int.mul_le_mul_of_nonneg_right ha (show 0<=W-k by omega)
 have k2:=Int.mul_le_mul_of_nonneg_right hb h0
 omega
theorem MY {ts:List Int} {hss:List (List Int)} {n z:Nat} {k:Int} (C:Curves ts hss n) (hz:z+1<ts.length) (k0:0<=k) (k1:k+1<=Wd ts z):dN (LL ts hss n z k):=by
 unfold LL dN
 rw[List.pairwise_map]
 refine (List.pairwise_lt_range (n:=2*n)).imp_of_mem λ{i j} hi hj hij=>?_
 have hj:=List.mem_range.mp hj
 have m0:=AL C (show z<ts.length by omega) hij hj
 have m1:=AL C hz hij hj
 exact⟨xC k0 (by omega) m0 m1,xC (by omega) k1 m0 m1⟩
theorem MM {L:List IP} {f:Int} (hf:0<=f) (h:dN L):dN (L.map (scl f)):=by
 unfold dN
 rw[List.pairwise_map]
 exact h.imp λ{x y} e=>⟨Int.mul_le_mul_of_nonneg_right e.1 hf,Int.mul_le_mul_of_nonneg_right e.2 hf⟩
theorem BN {M X:List IP} (p:M.Perm X) (h1:dN M) (h2:dN X):M=X :=
 List.Perm.eq_of_pairwise (λa b _ _ h h'=>Prod.ext (Int.le_antisymm h.1 h'.1) (Int.le_antisymm h.2 h'.2)) h1 h2 p
theorem GR {L:List IP} (h:dN L):∀x∈L,∀y∈L,x.1<y.1->x.2<=y.2:=by
 induction L with
 | nil=>intro x hx;cases hx
 | cons a L ih =>
  obtain⟨h1,h2⟩:=List.pairwise_cons.mp h
  intro x hx y hy l
  rcases List.mem_cons.mp hx with rfl | _
  ·rcases List.mem_cons.mp hy with rfl | hy
   ·omega
   ·exact (h1 y hy).2
  ·rename_i hx'
   rcases List.mem_cons.mp hy with e | hy'
   ·have:=(h1 x hx').1;rw[e] at l;omega
   ·exact ih h2 x hx' y hy' l
theorem tT (x:IP) (Y:List IP):∀X:List IP,kept (X++x::x::x::Y)=kept (X++x::Y)
 | []=>by
  unfold kept
  cases Y with
  | nil=>simp[eU]
  | cons y Y=>simp[eU]
 | [a]=>by
  unfold kept
  simp only[List.cons_append,List.nil_append,eU,List.filter_cons]
  simp
 | a::b::X=>by
  have ih:=tT x Y X
  unfold kept at *
  simp only[List.cons_append,eU,List.filter_cons]
  rw[ih]
theorem DM {x:IP} {X Y:List IP} (h:dN (X++x::Y)):dN (X++x::x::x::Y):=by
 obtain⟨h1,h2,h3⟩:=List.pairwise_append.mp h
 obtain⟨h4,h5⟩:=List.pairwise_cons.mp h2
 have r:x.1<=x.1/\x.2<=x.2:=⟨Int.le_refl _,Int.le_refl _⟩
 refine List.pairwise_append.mpr ⟨h1,?_,λa ha b hb=>?_⟩
 ·refine List.pairwise_cons.mpr ⟨λb hb=>?_,List.pairwise_cons.mpr ⟨λb hb=>?_,h2⟩⟩
  ·rcases List.mem_cons.mp hb with rfl | hb
   ·exact r
   ·rcases List.mem_cons.mp hb with rfl | hb
    ·exact r
    ·exact h4 b hb
  ·rcases List.mem_cons.mp hb with rfl | hb
   ·exact r
   ·exact h4 b hb
 ·refine h3 a ha b ?_
  rcases List.mem_cons.mp hb with rfl | hb
  ·exact .head _
  ·rcases List.mem_cons.mp hb with rfl | hb
   ·exact .head _
   ·exact hb
theorem CH {M L:List IP} (h1:dN M) (h2:dN L) (p:M.Perm L\/∃x∈L,M.Perm (L++[x,x])):kept M=kept L:=by
 rcases p with p | ⟨x,hx,p⟩
 ·rw[BN p h1 h2]
 ·obtain⟨X,Y,e⟩:=List.append_of_mem hx
  subst e
  have q:((X++x::Y)++[x,x]).Perm (X++x::x::x::Y):=by
   rw[List.append_assoc]
   refine List.Perm.append_left _ ?_
   show (x::(Y++[x,x])).Perm (x::x::x::Y)
   exact .cons _ (List.perm_append_comm (l₁:=Y) (l₂:=[x,x]))
  rw[BN (p.trans q) h1 (DM h2),tT]
theorem yH {α β:Type} (f:α->β):∀L:List α,eU (L.map f)=(eU L).map λz=>(f z.1,f z.2)
 | []=>rfl
 | [x]=>rfl
 | x::y::r=>by rw[List.map_cons,List.map_cons,eU,eU,yH f r];rfl
theorem FI {f:Int} (hf:0<f) (L:List IP):kept (L.map (scl f))=(kept L).map λz=>(scl f z.1,scl f z.2):=by
 unfold kept
 rw[yH,List.filter_map]
 congr 1
 refine List.filter_congr λz _=>?_
 show decide (scl f z.1≠scl f z.2)=decide (z.1≠z.2)
 have:scl f z.1=scl f z.2↔z.1=z.2:=by
  constructor
  ·intro e
   have e1:=congrArg Prod.fst e
   have e2:=congrArg Prod.snd e
   exact Prod.ext (Int.eq_of_mul_eq_mul_right (by omega) e1) (Int.eq_of_mul_eq_mul_right (by omega) e2)
  ·intro e;rw[e]
 simp[this]
theorem qN {a W f p q p' q':Int} (hW:0<W) (hf:0<f) (h:Low a W p q) (h':Low (a*f) (W*f) p' q'):p'=p/\q'=q :=
 K12.low_eq (Int.mul_pos hW hf) h' (h.scale hf hW)
theorem BO {W f c:Int} (hW:0<W) (hf:0<f):∀{zs:List (IP × IP)} {r r':List D},RowsOf W c zs r->RowsOf (W*f) c (zs.map λz=>(scl f z.1,scl f z.2)) r'->r'=r
 | [],_,_,h,h'=>by cases h;cases h';rfl
 | z::zs,_,_,h,h'=>by
  cases h with
  | cons h t =>
   cases h' with
   | cons h' t' =>
    obtain⟨p1,q1,p2,q2,p3,q3,p4,q4,⟨l1,l2,l3,l4⟩,rfl⟩:=h
    obtain⟨p1',q1',p2',q2',p3',q3',p4',q4',⟨m1,m2,m3,m4⟩,rfl⟩:=h'
    obtain⟨rfl,rfl⟩:=qN hW hf l1 m1
    obtain⟨rfl,rfl⟩:=qN hW hf l2 m2
    obtain⟨rfl,rfl⟩:=qN hW hf l3 m3
    obtain⟨rfl,rfl⟩:=qN hW hf l4 m4
    rw[BO hW hf t t']
end K23
namespace K23
theorem vS {t u:RS} {E:DEnds} {ρ:En} (I:En->Prop) (h1:∀K:En->Prop,(∀ρ',I ρ'->K ρ')->t { nx:=K,rt:=λ_=>False } ρ) (h2:∀ρ',I ρ'->u E ρ'):xU t u E ρ:=h1 (u E) h2
structure BandsIn (R:List (List Pt)) (o:Int):Prop where
 rgs:RgsOk R
 near:∀s∈aZ R,o<=s.1.1/\s.2.1<=o+60
 col:∀c,(∃s∈aZ R,cov c s=true)->ColIn ((aZ R).filter (cov c)) c
noncomputable def cG:FD:=λds Q=>∃(R:List (List Pt)) (o:Int),ds=[dI R]/\BandsIn R o/\∀cs rows,cs.Pairwise (· < ·)->(∀c,c∈cs↔∃s∈aZ R,cov c s=true)->AllB (aZ R) cs rows->Q (.lst rows)
theorem tV:∀ds Q,cG ds Q->ds.length=1:=by rintro ds Q ⟨_,_,rfl,_⟩;rfl
theorem xI:∀(l m:List Int),l.Nodup->(∀x∈l,x∈m)->l.length<=m.length
 | [],m,_,_=>Nat.zero_le _
 | x::l,m,hn,hs=>by
  have hx:=hs x (.head _)
  have hn':=List.nodup_cons.mp hn
  have:=xI l (m.erase x) hn'.2 λy hy=>(List.mem_erase_of_ne λ(e:y=x)=>hn'.1 (e ▸ hy)).mpr (hs y (.tail _ hy))
  rw[List.length_erase_of_mem hx] at this
  exact Nat.le_trans (Nat.succ_le_succ this) (Nat.le_of_eq (Nat.succ_pred_eq_of_pos (List.length_pos_of_mem hx)))
theorem FU {ks:List Int} {o:Int} (hn:ks.Nodup) (h:∀c∈ks,o<=c/\c<o+60):ks.length<=60:=by
 have:=xI ks ((List.range 60).map λk:Nat=>o+(k:Int)) hn λx hx=>by
  have:=h x hx
  exact List.mem_map.mpr ⟨(x-o).toNat,List.mem_range.mpr (by omega),by omega⟩
 rw[List.length_map,List.length_range] at this
 exact this
theorem rT:∀ds Q,cG ds Q->jI jZ gS { nx:=λ_=>False,rt:=Q } (aO ["rings","columns","rows","column"] ds):=by
 rintro ds Q ⟨R,o,rfl,ok,q⟩
 rw[aT 3 rfl]
 unfold jI
 refine vS (λρ=>∃ks xs,ColOf (aZ R) ks xs/\ρ=[some (.d (dI R)),some (.d (.dct ks xs)),none,none]) (λK hK=>?_) ?_
 ·simp only[bC,aU,aA,aG,aK,cE,vP,List.map_cons,List.map_nil,List.cons_append,List.nil_append,List.getElem?_cons_zero,List.getElem?_cons_succ,List.set_cons_zero,List.set_cons_succ]
  exact⟨R,rfl,ok.rgs,λks xs h=>hK _ ⟨ks,xs,h,rfl⟩⟩
 rintro ρ ⟨ks,xs,co,rfl⟩
 have kl:ks.length<=60:=FU (o:=o) co.nodup λc hc=>by
  obtain⟨s,hs,k⟩:=(co.mem c).mp hc
  have:=ok.near s hs
  have:=gU.mp k
  omega
 refine vS (λρ=>ρ=[some (.d (dI R)),some (.d (.dct ks xs)),some (.own []),none]) (λK hK=>?_) ?_
 ·walk_at "rd"
  exact hK _ rfl
 rintro ρ rfl
 refine vS (λρ=>∃cs rows u,(cs.Perm ks/\cs.Pairwise (·<=·))/\AllB (aZ R) cs rows/\ρ=[some (.d (dI R)),some (.d (.dct ks xs)),some (.own rows),u]) (λK hK=>?_) ?_
 ·simp only[cI,riL,sD,sA,aK,List.getElem?_cons_zero,List.getElem?_cons_succ]
  refine⟨ks,xs,rfl,co.len,ks,rfl,by omega,λcs pm srt=>?_⟩
  refine bY (λys ρ=>∃done todo:List Int,cs=done++todo/\ys=todo.map .int/\∃rows u,AllB (aZ R) done rows/\ρ=[some (.d (dI R)),some (.d (.dct ks xs)),some (.own rows),u]) ?_ ?_ _ _ ⟨[],cs,rfl,rfl,[],none,.nil,rfl⟩
  ·rintro x ys ρ ⟨done,todo,ec,exs,rows,u,hR,rfl⟩ F hr hb hn hc
   cases todo with
   | nil=>cases exs
   | cons c todo =>
    rw[List.map_cons] at exs
    injection exs with ex exs
    subst ex exs
    have hc:c∈ks:=pm.mem_iff.mp (by rw[ec];exact List.mem_append_right _ (.head _))
    have dl:done.length<=59:=by have:=pm.length_eq;rw[ec] at this;simp at this;omega
    have sl:=ok.rgs.slen
    have rl:=hR.rlen
    have rl2:done.length*(aZ R).length<=59*40:=Nat.mul_le_mul dl sl
    unfold lP
    simp only[aR,nH,aU,aA,aG,r2,BV,aK,List.getElem?_cons_zero,List.getElem?_cons_succ,List.set_cons_zero,List.set_cons_succ]
    refine⟨_,co.here c hc,_,c,rfl,ok.col c ((co.mem c).mp hc),λB M r hB=>?_⟩
    have fl:=hB.rlen
    have f2:=List.length_filter_le (cov c) (aZ R)
    dsimp only
    exact⟨bL (by omega),hn _ ⟨done++[c],todo,by rw[ec];simp,rfl,rows++r,some (.d (.int c)),hR.snoc hB,rfl⟩⟩
  ·rintro ρ ⟨done,todo,ec,exs,rows,u,hR,rfl⟩
   have:todo=[]:=by cases todo with | nil=>rfl | cons _ _=>cases exs
   subst this
   rw[List.append_nil] at ec
   subst ec
   exact hK _ ⟨cs,rows,u,⟨pm,srt⟩,hR,rfl⟩
 rintro ρ ⟨cs,rows,u,⟨pm,srt⟩,hR,rfl⟩
 simp only[BK,List.getElem?_cons_zero,List.getElem?_cons_succ]
 have nd:cs.Nodup:=pm.nodup_iff.mpr co.nodup
 refine q cs rows ?_ (λc=>pm.mem_iff.trans (co.mem c)) hR
 exact (srt.and nd).imp λh=>Int.lt_iff_le_and_ne.mpr h
end K23
namespace K23
structure Cloth (ts:List Int) (hss:List (List Int)) (n:Nat) (R:List (List Pt)):Prop where
 len:R.length<=4
 each:∀g∈R,g.length<=10
 sides:∃I:List bT,(aZ R).Perm (((List.range (2*n)).map (csd ts hss)).flatten++I)/\(I=[]\/∃z j,(z+1<ts.length/\j<2*n)/\I=[sdz ts hss z j,sdz ts hss z j])
section
variable {ts:List Int} {hss:List (List Int)} {n:Nat} {R:List (List Pt)}
theorem HN {j:Nat} {s:bT} (h:s∈csd ts hss j):∃z,z+1<ts.length/\s=sdz ts hss z j:=by
 obtain⟨z,hz,rfl⟩:=List.mem_map.mp h
 have:=List.mem_range.mp hz
 exact⟨z,by omega,rfl⟩
theorem Cloth.mem (K:Cloth ts hss n R) {s:bT} (hs:s∈aZ R):∃z j,(z+1<ts.length/\j<2*n)/\s=sdz ts hss z j:=by
 obtain⟨I,p,hI⟩:=K.sides
 rcases List.mem_append.mp (p.mem_iff.mp hs) with h | h
 ·obtain⟨l,hl,h⟩:=List.mem_flatten.mp h
  obtain⟨j,hj,rfl⟩:=List.mem_map.mp hl
  obtain⟨z,hz,rfl⟩:=HN h
  exact⟨z,j,⟨hz,List.mem_range.mp hj⟩,rfl⟩
 ·rcases hI with rfl | ⟨z,j,hzj,rfl⟩
  ·cases h
  ·refine⟨z,j,hzj,?_⟩
   rcases List.mem_cons.mp h with rfl | h
   ·rfl
   ·exact List.mem_singleton.mp h
theorem Cloth.has (K:Cloth ts hss n R) {z j:Nat} (hz:z+1<ts.length) (hj:j<2*n):sdz ts hss z j∈aZ R:=by
 obtain⟨I,p,hI⟩:=K.sides
 refine p.mem_iff.mpr (List.mem_append_left _ (List.mem_flatten.mpr ⟨csd ts hss j,List.mem_map_of_mem (List.mem_range.mpr hj),?_⟩))
 exact List.mem_map.mpr ⟨z,List.mem_range.mpr (by omega),rfl⟩
theorem HI (C:Curves ts hss n) {z:Nat} (hz:z<ts.length):BL 210 (T ts z):=(C.thr.bl _ (List.mem_of_getElem? (lL hz))).mono (by decide)
theorem ND (C:Curves ts hss n) {z j:Nat} (hz:z<ts.length) (hj:j<2*n):BL 210 (Hh hss z j):=by
 have hl:=C.len
 have e:hss[z]? = some (hss.getD z []):=by rw[List.getD_eq_getElem?_getD,List.getElem?_eq_getElem (by omega)];rfl
 have hm:=List.mem_of_getElem? e
 refine C.bl _ hm _ ?_
 have:=C.each _ hm
 unfold Hh
 rw[List.getD_eq_getElem?_getD (l:=hss.getD z []),List.getElem?_eq_getElem (by omega)]
 exact List.getElem_mem _
theorem MO (C:Curves ts hss n) {z j:Nat} (hz:z+1<ts.length) (hj:j<2*n):SdB (sdz ts hss z j) :=
 ⟨HI C (by omega),ND C (by omega) hj,HI C hz,ND C hz hj⟩
theorem nU (C:Curves ts hss n) {z:Nat} (hz:z+1<ts.length):0<Wd ts z/\Wd ts z<=40:=by
 have:=vU C.thr hz
 unfold Wd
 omega
theorem Zn.uniq {c:Int} {z z':Nat} (h:Thr ts) (a:Zn ts c z) (b:Zn ts c z'):z=z':=by
 have a1:=a.z1;have a2:=a.lo;have a3:=a.hi
 have b1:=b.z1;have b2:=b.lo;have b3:=b.hi
 apply Nat.le_antisymm
 ·apply Nat.not_lt.mp
  intro l
  have:=mD h (i:=z'+1) (j:=z) (by omega) (by omega)
  omega
 ·apply Nat.not_lt.mp
  intro l
  have:=mD h (i:=z+1) (j:=z') (by omega) (by omega)
  omega
theorem Zn.of {c:Int} {z j:Nat} (hz:z+1<ts.length) (k:cov c (sdz ts hss z j)=true):Zn ts c z:=⟨hz,(gU.mp k).1,(gU.mp k).2⟩
theorem Zn.cov {c:Int} {z:Nat} (Z:Zn ts c z) (j:Nat):cov c (sdz ts hss z j)=true:=gU.mpr ⟨Z.lo,Z.hi⟩
theorem Cloth.col (C:Curves ts hss n) (K:Cloth ts hss n R) {c:Int} {z:Nat} (Z:Zn ts c z):∃I:List bT,((aZ R).filter (cov c)).Perm ((List.range (2*n)).map (λj=>sdz ts hss z j)++I)/\(I=[]\/∃j,j<2*n/\I=[sdz ts hss z j,sdz ts hss z j]):=by
 obtain⟨I,p,hI⟩:=K.sides
 have q:=p.filter (cov c)
 rw[List.filter_append,EH C.thr Z] at q
 refine⟨I.filter (cov c),q,?_⟩
 rcases hI with rfl | ⟨z',j,⟨hz',hj⟩,rfl⟩
 ·exact .inl rfl
 ·by_cases k:L2.R2.cov c (sdz ts hss z' j)=true
  ·have e:=(Zn.of hz' k).uniq C.thr Z
   subst e
   exact .inr ⟨j,hj,by simp[k]⟩
  ·exact .inl (by simp[k])
noncomputable def Hs (ts:List Int) (hss:List (List Int)) (n:Nat) (B c:Int) (z:Nat):List IP:=(LL ts hss n z (c-T ts z)).map (scl (B.fdiv (Wd ts z)))
theorem Cloth.heights (C:Curves ts hss n) (K:Cloth ts hss n R) {c:Int} {z:Nat} (Z:Zn ts c z) (B:Int):(((aZ R).filter (cov c)).map (prB B c)).Perm (Hs ts hss n B c z)\/∃x∈Hs ts hss n B c z,(((aZ R).filter (cov c)).map (prB B c)).Perm (Hs ts hss n B c z++[x,x]):=by
 obtain⟨I,p,hI⟩:=K.col C Z
 have q:=p.map (prB B c)
 have e:((List.range (2*n)).map λj=>sdz ts hss z j).map (prB B c)=Hs ts hss n B c z:=by
  unfold Hs LL
  rw[List.map_map,List.map_map]
  exact List.map_congr_left λj _=>JG B c z j
 rw[List.map_append,e] at q
 rcases hI with rfl | ⟨j,hj,rfl⟩
 ·rw[List.map_nil,List.append_nil] at q;exact .inl q
 ·refine .inr ⟨prB B c (sdz ts hss z j),?_,q⟩
  rw[<-e]
  exact List.mem_map_of_mem (List.mem_map.mpr ⟨j,List.mem_range.mpr hj,rfl⟩)
theorem JS (C:Curves ts hss n) {c:Int} {z:Nat} (Z:Zn ts c z) {B:Int} (hf:0<=B.fdiv (Wd ts z)):dN (Hs ts hss n B c z):=by
 have z1:=Z.z1;have z2:=Z.lo;have z3:=Z.hi
 exact MM hf (MY C z1 (by omega) (by unfold Wd;omega))
theorem bottom (C:Curves ts hss n) {z:Nat} (hz:z+1<ts.length) {B:Int} (h0:0<B) (hd:Wd ts z∣B):∃f,B.fdiv (Wd ts z)=f/\0<f/\B=Wd ts z*f:=by
 obtain⟨w0,_⟩:=nU C hz
 obtain⟨q,e1,e2⟩:=vF w0 hd
 refine⟨q,e2,?_,e1⟩
 apply Int.not_le.mp
 intro l
 have:=Int.mul_nonpos_of_nonneg_of_nonpos (Int.le_of_lt w0) l
 omega
theorem Cloth.bands (C:Curves ts hss n) (K:Cloth ts hss n R):BandsIn R (T ts 0):=by
 have tl:=C.thr.len
 have nn:=C.n1
 refine⟨⟨K.len,K.each,λs hs=>?_⟩,λs hs=>?_,λc hc=>?_⟩
 ·obtain⟨z,j,⟨hz,hj⟩,rfl⟩:=K.mem hs
  exact (nU C hz).2
 ·obtain⟨z,j,⟨hz,hj⟩,rfl⟩:=K.mem hs
  refine⟨mD C.thr (Nat.zero_le z) (by omega),?_⟩
  have:=C.thr.wide _ (List.mem_of_getElem? (lL (show 0<ts.length by omega))) _ (List.mem_of_getElem? (lL hz))
  show T ts (z+1)<=_
  omega
 ·obtain⟨s,hs,k⟩:=hc
  obtain⟨z,j,⟨hz,hj⟩,rfl⟩:=K.mem hs
  have Z:=Zn.of hz k
  obtain⟨I,p,hI⟩:=K.col C Z
  refine⟨?_,λs hs=>?_,λs hs=>?_,λs hs=>?_,?_,λB h0 hd=>?_⟩
  ·rw[p.length_eq,List.length_append,List.length_map,List.length_range]
   rcases hI with rfl | ⟨j,_,rfl⟩
   ·simp;omega
   ·simp;omega
  ·obtain⟨z,j,⟨hz,hj⟩,rfl⟩:=K.mem (List.mem_filter.mp hs).1
   exact MO C hz hj
  ·obtain⟨z,j,⟨hz,hj⟩,rfl⟩:=K.mem (List.mem_filter.mp hs).1
   exact (nU C hz).1
  ·obtain⟨z,j,⟨hz,hj⟩,rfl⟩:=K.mem (List.mem_filter.mp hs).1
   exact (nU C hz).2
  ·have b1:=HI C (show z<ts.length by omega)
   have b2:=HI C hz
   have z2:=Z.lo
   have z3:=Z.hi
   unfold BL at *
   omega
  ·obtain⟨f,e,f0,_⟩:=bottom C hz h0 (hd _ (List.mem_filter.mpr ⟨K.has hz hj,k⟩))
   have up:=JS (hss:=hss) (n:=n) C Z (B:=B) (by rw[e];omega)
   have sub:∀x∈((aZ R).filter (cov c)).map (prB B c),x∈Hs ts hss n B c z:=λx hx=>by
    rcases K.heights C Z B with q | ⟨y,hy,q⟩
    ·exact q.mem_iff.mp hx
    ·rcases List.mem_append.mp (q.mem_iff.mp hx) with h | h
     ·exact h
     ·have:x=y:=by simpa using h
      rw[this];exact hy
   exact λx hx y hy=>GR up x (sub x hx) y (sub y hy)
inductive LB (ts:List Int) (hss:List (List Int)) (n:Nat):List (Int × Nat)->List D->Prop
 | nil:LB ts hss n [] []
 | cons {c:Int} {z:Nat} {r rows:List D} {cs:List (Int × Nat)} (h:RowsOf (Wd ts z) c (kept (LL ts hss n z (c-T ts z))) r) (t:LB ts hss n cs rows):LB ts hss n ((c,z)::cs) (r++rows)
theorem LB.snoc {cs:List (Int × Nat)} {rows:List D} (t:LB ts hss n cs rows) {c:Int} {z:Nat} {r:List D} (h:RowsOf (Wd ts z) c (kept (LL ts hss n z (c-T ts z))) r):LB ts hss n (cs++[(c,z)]) (rows++r):=by
 induction t with
 | nil=>have:=LB.cons h .nil;simpa using this
 | cons h' _ ih=>rw[List.append_assoc];exact .cons h' ih
theorem DN (C:Curves ts hss n) (K:Cloth ts hss n R) {cols:List (Int × Nat)} {rows:List D} (h:LB ts hss n cols rows):∀{rows':List D},(∀p∈cols,Zn ts p.1 p.2)->AllB (aZ R) (cols.map (·.1)) rows'->rows'=rows:=by
 have nn:=C.n1
 induction h with
 | nil=>intro rows' _ h';cases h';rfl
 | @cons c z r rows cs h t ih =>
  intro rows' hz h'
  rw[List.map_cons] at h'
  cases h' with
  | @cons _ B M r' rows2 _ hB t' =>
   have Z:=hz (c,z) (.head _)
   have e2:=ih (λp hp=>hz p (.tail _ hp)) t'
   obtain⟨f,e,f0,eB⟩:=bottom C Z.z1 hB.pos (hB.dv (sdz ts hss z 0) (List.mem_filter.mpr ⟨K.has Z.z1 (by omega),Z.cov 0⟩))
   have up:=JS (hss:=hss) (n:=n) C Z (B:=B) (by rw[e];omega)
   have ek:kept M=kept (Hs ts hss n B c z):=CH hB.up up (by
    rcases K.heights C Z B with q | ⟨y,hy,q⟩
    ·exact .inl (hB.perm.trans q)
    ·exact .inr ⟨y,hy,hB.perm.trans q⟩)
   have hr:=hB.rows
   rw[ek] at hr
   unfold Hs at hr
   rw[e,FI f0,eB] at hr
   have e1:=BO (nU C Z.z1).1 f0 h hr
   rw[e1,e2]
noncomputable def oY (ts:List Int) (z m:Nat):List (Int × Nat):=(List.range m).map λk:Nat=>(T ts z+(k:Int),z)
noncomputable def dJ (ts:List Int) (m:Nat):List (Int × Nat):=((List.range m).map λz=>oY ts z (Wd ts z).toNat).flatten
theorem yV (z m:Nat):oY ts z (m+1)=oY ts z m++[(T ts z+(m:Int),z)]:=by unfold oY;rw[List.range_succ,List.map_append];rfl
theorem oX (m:Nat):dJ ts (m+1)=dJ ts m++oY ts m (Wd ts m).toNat:=by unfold dJ;rw[List.range_succ,List.map_append,List.flatten_append];simp
theorem qV {m:Nat} {p:Int × Nat}:p∈dJ ts m↔p.2<m/\T ts p.2<=p.1/\p.1<T ts (p.2+1):=by
 obtain⟨c,z⟩:=p
 unfold dJ
 rw[List.mem_flatten]
 constructor
 ·rintro⟨l,hl,h⟩
  obtain⟨z',hz',rfl⟩:=List.mem_map.mp hl
  obtain⟨k,hk,e⟩:=List.mem_map.mp h
  have hk:=List.mem_range.mp hk
  cases e
  unfold Wd at hk
  exact⟨List.mem_range.mp hz',(by show T ts z<=T ts z+(k:Int);omega),(by show T ts z+(k:Int)<T ts (z+1);omega)⟩
 ·rintro⟨h1,h2,h3⟩
  dsimp only at h1 h2 h3
  refine⟨_,List.mem_map_of_mem (List.mem_range.mpr h1),List.mem_map.mpr ⟨(c-T ts z).toNat,List.mem_range.mpr (by unfold Wd;omega),?_⟩⟩
  exact Prod.ext (by show T ts z+(((c-T ts z).toNat:Nat):Int)=c;omega) rfl
theorem AS (h:Thr ts):∀m:Nat,m<ts.length->(dJ ts m).Pairwise λp q=>p.1<q.1
 | 0,_=>List.Pairwise.nil
 | m+1,hm=>by
  rw[oX]
  refine List.pairwise_append.mpr ⟨AS h m (by omega),?_,λp hp q hq=>?_⟩
  ·unfold oY
   rw[List.pairwise_map]
   exact (List.pairwise_lt_range (n:=(Wd ts m).toNat)).imp λ{a b} (hab:a<b)=>by show T ts m+(a:Int)<T ts m+(b:Int);omega
  ·have h1:=qV.mp hp
   obtain⟨k,_,rfl⟩:=List.mem_map.mp hq
   have:=mD h (i:=p.2+1) (j:=m) (by omega) (by omega)
   show p.1<T ts m+(k:Int)
   omega
theorem wC (C:Curves ts hss n) (K:Cloth ts hss n R) {cs:List Int} {rows rows':List D} (h1:cs.Pairwise (· < ·)) (h2:∀c,c∈cs↔∃s∈aZ R,cov c s=true) (h3:AllB (aZ R) cs rows') (h4:LB ts hss n (dJ ts (ts.length-1)) rows):rows'=rows:=by
 have tl:=C.thr.len
 have nn:=C.n1
 have hz:∀p∈dJ ts (ts.length-1),Zn ts p.1 p.2:=λp hp=>by
  have:=qV.mp hp
  exact⟨by omega,this.2.1,this.2.2⟩
 have up:((dJ ts (ts.length-1)).map (·.1)).Pairwise (· < ·):=by
  rw[List.pairwise_map];exact AS C.thr _ (by omega)
 have hm:∀c,c∈cs↔c∈(dJ ts (ts.length-1)).map (·.1):=λc=>by
  rw[h2 c,List.mem_map]
  constructor
  ·rintro⟨s,hs,k⟩
   obtain⟨z,j,⟨hz,hj⟩,rfl⟩:=K.mem hs
   have Z:=Zn.of hz k
   exact⟨(c,z),qV.mpr ⟨by have:=Z.z1;show z<_;omega,Z.lo,Z.hi⟩,rfl⟩
  ·rintro⟨p,hp,rfl⟩
   have Z:=hz p hp
   exact⟨sdz ts hss p.2 0,K.has Z.z1 (by omega),Z.cov 0⟩
 have nd:∀{l:List Int},l.Pairwise (· < ·)->l.Nodup:=λh=>h.imp λ{a b} (l:a<b)=>Int.ne_of_lt l
 have e:cs=(dJ ts (ts.length-1)).map (·.1) :=
  List.Perm.eq_of_pairwise (le:=(· < ·)) (λa b _ _ (l:a<b) (l':b<a)=>by omega) h1 up ((List.perm_ext_iff_of_nodup (nd h1) (nd up)).mpr hm)
 rw[e] at h3
 exact DN C K h4 hz h3
end
end K23
namespace K23
theorem uK {α:Type} (a b:α):∀L:List α,L.length % 2=0->eU (L++[a,b])=eU L++[(a,b)]
 | [],_=>rfl
 | [x],h=>by simp at h
 | x::y::r,h=>by
  show (x,y)::eU (r++[a,b])=(x,y)::(eU r++[(a,b)])
  rw[uK a b r (by simp at h;omega)]
theorem sJ {α:Type} (f:Nat->α):∀n:Nat,eU ((List.range (2*n)).map f)=(List.range n).map λi=>(f (2*i),f (2*i+1))
 | 0=>rfl
 | n+1=>by
  rw[show 2*(n+1)=(2*n+1)+1 by omega,List.range_succ,List.range_succ,List.range_succ,List.map_append,List.map_append,List.map_append,List.append_assoc]
  show eU ((List.range (2*n)).map f++[f (2*n),f (2*n+1)])=_
  rw[uK _ _ _ (by simp),sJ f n];rfl
theorem vZ {hss:List (List Int)} {z:Nat} (h:z<hss.length):hss[z]? = some (hss.getD z []):=by rw[List.getD_eq_getElem?_getD,List.getElem?_eq_getElem h];rfl
theorem qQ {ts:List Int} {hss:List (List Int)} {n:Nat} (C:Curves ts hss n) {z j:Nat} (hz:z<ts.length) (hj:j<2*n):(hss.getD z [])[j]? = some (Hh hss z j):=by
 have hl:=C.len
 have:=C.each _ (List.mem_of_getElem? (vZ (hss:=hss) (z:=z) (by omega)))
 unfold Hh
 rw[List.getD_eq_getElem?_getD (l:=hss.getD z []),List.getElem?_eq_getElem (by omega)];rfl
noncomputable def pr2 (ts:List Int) (hss:List (List Int)) (z:Nat) (k:Int) (i:Nat):IP × IP:=(hp ts hss z k (2*i),hp ts hss z k (2*i+1))
noncomputable def kp (ts:List Int) (hss:List (List Int)) (z:Nat) (k:Int) (i:Nat):List (IP × IP):=((List.range i).map (pr2 ts hss z k)).filter λz=>decide (z.1≠z.2)
theorem LR (ts:List Int) (hss:List (List Int)) (z:Nat) (k:Int) (n:Nat):kept (LL ts hss n z k)=kp ts hss z k n:=by
 unfold kept LL kp
 rw[sJ];rfl
theorem BA (ts:List Int) (hss:List (List Int)) (z:Nat) (k:Int) (i:Nat):kp ts hss z k (i+1)=kp ts hss z k i++[pr2 ts hss z k i].filter λz=>decide (z.1≠z.2):=by
 unfold kp
 rw[List.range_succ,List.map_append,List.filter_append];rfl
noncomputable def mQ:FD:=λds Q=>∃(ts:List Int) (hss:List (List Int)) (n:Nat),ds=[il ts,ill hss]/\Curves ts hss n/\∀rows:List D,rows.length<=1000->LB ts hss n (dJ ts (ts.length-1)) rows->Q (.lst rows)
theorem zI:∀ds Q,mQ ds Q->ds.length=2:=by rintro ds Q ⟨_,_,_,rfl,_⟩;rfl
theorem FB (n:Nat) (p q p' q':Int):eqL (eqF (n+1)) [.int p,.int q] [.int p',.int q']=some (decide (p=p'/\q=q')):=by
 simp only[eqL,eqF]
 by_cases h1:p=p' <;> by_cases h2:q=q' <;> simp[h1,h2]
theorem BD {a b W p q:Int} (h:Low a W p q) (h':Low b W p q):a=b:=Int.eq_of_mul_eq_mul_right (by have:=h.pos;omega) (h.worth.symm.trans h'.worth)
theorem rV:∀ds Q,mQ ds Q->fC HA { nx:=λ_=>Q .non,rt:=Q } (aO ["_law_threads_here","_law_heights_here","_law_found","_law_zone","_law_k","_law_low","_law_band","_law_curve"] ds):=by
 rintro ds Q ⟨ts,hss,n,rfl,C,q⟩
 rw[aT 6 rfl]
 unfold fC
 simp only[cE,AC,List.map_cons,List.map_nil,List.cons_append,List.nil_append]
 have tl:=C.thr.len
 have hl:=C.len
 have nn:=C.n1
 refine aJ (λρ=>ρ=[some (.d (il ts)),some (.d (ill hss)),some (.own []),none,none,none,none,none]) (λK hK=>?_) ?_
 ·walk_at "rd"
  exact hK _ rfl
 rintro ρ rfl
 refine aJ (λρ=>∃(rs:List D) (a b c d e:Option S),(rs.length<=1000/\LB ts hss n (dJ ts (ts.length-1)) rs)/\ρ=[some (.d (il ts)),some (.d (ill hss)),some (.own rs),a,b,c,d,e]) (λK hK=>?_) ?_
 ·walk_at "rd"
  refine⟨⟨by rw[List.length_map];omega,by rw[List.length_map];omega⟩,?_⟩
  rw[List.length_map,show ((ts.length:Int)-1).toNat=ts.length-1 by omega]
  refine jB 0 (ts.length-1) (λz ρ=>∃(rs:List D) (a b c d e:Option S),(rs.length<=120*z/\LB ts hss n (dJ ts z) rs)/\ρ=[some (.d (il ts)),some (.d (ill hss)),some (.own rs),a,b,c,d,e]) ?_ ?_ _ ⟨[],none,none,none,none,none,⟨Nat.zero_le _,.nil⟩,rfl⟩
  ·rintro z ρ hz ⟨rs0,a,b,c,d,e,⟨rl,T0⟩,rfl⟩ F _ _ hn _
   have e0:=lL (ts:=ts) (i:=z) (by omega)
   have e1:=lL (ts:=ts) (i:=z+1) (by omega)
   have g0:=vZ (hss:=hss) (z:=z) (by omega)
   have g1:=vZ (hss:=hss) (z:=z+1) (by omega)
   obtain⟨w0,w1⟩:=nU C (z:=z) (by omega)
   have hW:T ts (z+1)-T ts z=Wd ts z:=rfl
   unfold iT
   simp only[aR,List.set_cons_zero,List.set_cons_succ]
   walk_at "rd"
   have ez:((0:Int)+(z:Int)+1)=((z+1:Nat):Int):=by omega
   have ez0:((0:Int)+(z:Int))=(z:Int):=by omega
   rw[ez,ez0]
   refine iQ e1 (iQ e0 ?_)
   walk_at "rd"
   rw[hW]
   refine⟨⟨by omega,by omega⟩,?_⟩
   have hWn:(((Wd ts z).toNat:Nat):Int)=Wd ts z:=by omega
   refine jB 0 (Wd ts z).toNat (λk ρ=>∃(rs:List D) (b c d e:Option S),(rs.length<=120*z+3*k/\LB ts hss n (dJ ts z++oY ts z k) rs)/\ρ=[some (.d (il ts)),some (.d (ill hss)),some (.own rs),some (.d (.int z)),b,c,d,e]) ?_ ?_ _ ⟨rs0,b,c,d,e,⟨by omega,by rw[show oY ts z 0=[] from rfl,List.append_nil];exact T0⟩,rfl⟩
   ·rintro k ρ hk ⟨rs1,b,c,d,e,⟨rl1,T1⟩,rfl⟩ F' _ _ hn' _
    unfold iS
    simp only[aR,List.set_cons_zero,List.set_cons_succ]
    walk_at "rd"
    have i0:=vZ (hss:=hss) (z:=0) (by omega)
    refine iX (x:=il (hss.getD 0 [])) (lB (j:=0) (by rw[List.getElem?_map,i0];rfl)) ?_
    have l0:=C.each _ (List.mem_of_getElem? i0)
    walk_at "rd"
    refine⟨⟨⟨by decide,by decide⟩,⟨by rw[List.length_map];omega,by rw[List.length_map];omega⟩,trivial⟩,?_⟩
    rw[List.length_map,l0,show (((2*n:Nat):Int)-0+1) / 2=(n:Int) by omega,Int.toNat_natCast]
    have ek:((0:Int)+(k:Int))=(k:Int):=by omega
    rw[ek]
    refine IC 0 n (λi ρ=>∃(r:List D) (c d e:Option S),(r.length<=i/\RowsOf (Wd ts z) (T ts z+k) (kp ts hss z k i) r)/\ρ=[some (.d (il ts)),some (.d (ill hss)),some (.own (rs1++r)),some (.d (.int z)),some (.d (.int k)),c,d,e]) ?_ ?_ _ ⟨[],c,d,e,⟨Nat.zero_le _,.nil⟩,by rw[List.append_nil]⟩
    ·rintro i ρ hi ⟨rs2,c,d,e,⟨rl2,T2⟩,rfl⟩ F'' _ _ hn'' _
     have a0:=qQ C (z:=z) (j:=2*i) (by omega) (by omega)
     have a1:=qQ C (z:=z) (j:=2*i+1) (by omega) (by omega)
     have b0:=qQ C (z:=z+1) (j:=2*i) (by omega) (by omega)
     have b1:=qQ C (z:=z+1) (j:=2*i+1) (by omega) (by omega)
     have h1:(pr2 ts hss z k i).1=(lin (Wd ts z) k (Hh hss z (2*i)) (Hh hss (z+1) (2*i)),lin (Wd ts z) (k+1) (Hh hss z (2*i)) (Hh hss (z+1) (2*i))):=rfl
     have h2:(pr2 ts hss z k i).2=(lin (Wd ts z) k (Hh hss z (2*i+1)) (Hh hss (z+1) (2*i+1)),lin (Wd ts z) (k+1) (Hh hss z (2*i+1)) (Hh hss (z+1) (2*i+1))):=rfl
     generalize hLa:Hh hss z (2*i)=La at a0 h1
     generalize hUa:Hh hss z (2*i+1)=Ua at a1 h2
     generalize hLb:Hh hss (z+1) (2*i)=Lb at b0 h1
     generalize hUb:Hh hss (z+1) (2*i+1)=Ub at b1 h2
     generalize hGW:Wd ts z=W at *
     generalize hGt:T ts z=t0 at *
     unfold iR
     simp only[aR,List.set_cons_zero,List.set_cons_succ]
     have ei:((0:Int)+(i:Int)*2)=((2*i:Nat):Int):=by omega
     rw[ei]
     refine aJ (λρ=>ρ=[some (.d (il ts)),some (.d (ill hss)),some (.own (rs1++rs2)),some (.d (.int z)),some (.d (.int k)),some (.d (.int ((2*i:Nat):Int))),some (.own [.int (t0+k)]),e]) (λK hK=>?_) ?_
     ·walk_at "rd"
      refine iQ e0 ?_
      walk_at "rd"
      exact hK _ rfl
     rintro ρ rfl
     refine aJ (λρ=>∃(r:Row) (x:Option S),(r.x=t0+k/\Low (lin W k La Lb) W r.l0.1 r.l0.2/\Low (lin W (k+1) La Lb) W r.l1.1 r.l1.2/\Low (lin W k Ua Ub) W r.u0.1 r.u0.2/\Low (lin W (k+1) Ua Ub) W r.u1.1 r.u1.2)/\ρ=[some (.d (il ts)),some (.d (ill hss)),some (.own (rs1++rs2)),some (.d (.int z)),some (.d (.int k)),some (.d (.int ((2*i:Nat):Int))),some (.own [.int r.x,fr r.l0.1 r.l0.2,fr r.l1.1 r.l1.2,fr r.u0.1 r.u0.2,fr r.u1.1 r.u1.2]),x]) (λK hK=>?_) ?_
     ·walk_at "rd"
      refine nB _ (λj ρ=>(j=0/\∃x:Option S,ρ=[some (.d (il ts)),some (.d (ill hss)),some (.own (rs1++rs2)),some (.d (.int z)),some (.d (.int k)),some (.d (.int ((2*i:Nat):Int))),some (.own [.int (t0+k)]),x]) \/
        (j=1/\∃(p0 q0 p1 q1:Int) (x:Option S),(Low (lin W k La Lb) W p0 q0/\Low (lin W (k+1) La Lb) W p1 q1)/\ρ=[some (.d (il ts)),some (.d (ill hss)),some (.own (rs1++rs2)),some (.d (.int z)),some (.d (.int k)),some (.d (.int ((2*i:Nat):Int))),some (.own [.int (t0+k),fr p0 q0,fr p1 q1]),x]) \/
        (j=2/\∃(r:Row) (x:Option S),(r.x=t0+k/\Low (lin W k La Lb) W r.l0.1 r.l0.2/\Low (lin W (k+1) La Lb) W r.l1.1 r.l1.2/\Low (lin W k Ua Ub) W r.u0.1 r.u0.2/\Low (lin W (k+1) Ua Ub) W r.u1.1 r.u1.2)/\ρ=[some (.d (il ts)),some (.d (ill hss)),some (.own (rs1++rs2)),some (.d (.int z)),some (.d (.int k)),some (.d (.int ((2*i:Nat):Int))),some (.own [.int r.x,fr r.l0.1 r.l0.2,fr r.l1.1 r.l1.2,fr r.u0.1 r.u0.2,fr r.u1.1 r.u1.2]),x])) ?_ ?_ _ (Or.inl ⟨rfl,e,rfl⟩)
      ·rintro j x ρ ex (⟨rfl,u,rfl⟩ | ⟨rfl,p0,q0,p1,q1,u,⟨L0,L1⟩,rfl⟩ | ⟨rfl,_⟩) G _ _ hG _
       ·simp at ex
        subst ex
        unfold fB
        simp only[aR,List.set_cons_zero,List.set_cons_succ]
        walk_at "rd"
        refine⟨ts,hss,n,z,k,2*i,t0,_,_,_,La,Lb,rfl,C,⟨e0,e1,g0,g1,a0,b0,by omega,by omega⟩,λp q' L=>?_⟩
        refine⟨ts,hss,n,z,(k:Int)+1,2*i,t0,_,_,_,La,Lb,rfl,C,⟨e0,e1,g0,g1,a0,b0,by omega,by omega⟩,λp1 q1 L1=>?_⟩
        rw[hW] at L L1
        exact hG _ (Or.inr (Or.inl ⟨rfl,p,q',p1,q1,some (.d (.int (2*(i:Int)))),⟨L,L1⟩,rfl⟩))
       ·simp at ex
        subst ex
        unfold fB
        simp only[aR,List.set_cons_zero,List.set_cons_succ]
        walk_at "rd"
        have e2i:(2*(i:Int)+1)=((2*i+1:Nat):Int):=by omega
        refine⟨ts,hss,n,z,k,2*i+1,t0,_,_,_,Ua,Ub,rfl,C,⟨e0,e1,g0,g1,a1,b1,by omega,by omega⟩,λp2 q2 L2=>?_⟩
        refine⟨ts,hss,n,z,(k:Int)+1,2*i+1,t0,_,_,_,Ua,Ub,rfl,C,⟨e0,e1,g0,g1,a1,b1,by omega,by omega⟩,λp3 q3 L3=>?_⟩
        rw[hW] at L2 L3
        exact⟨bL (by decide),hG _ (Or.inr (Or.inr ⟨rfl,⟨t0+k,(p0,q0),(p1,q1),(p2,q2),(p3,q3)⟩,some (.d (.int (2*(i:Int)+1))),⟨rfl,L0,L1,L2,L3⟩,rfl⟩))⟩
       ·simp at ex
      ·rintro ρ (⟨h,_⟩ | ⟨h,_⟩ | ⟨_,r,x,h,rfl⟩)
       ·simp at h
       ·simp at h
       ·exact hK _ ⟨r,x,h,rfl⟩
     rintro ρ ⟨r,x,⟨hx,L0,L1,U0,U1⟩,rfl⟩
     have app:¬((r.l0.1=r.u0.1/\r.l0.2=r.u0.2)/\(r.l1.1=r.u1.1/\r.l1.2=r.u1.2))->F''.nx [some (.d (il ts)),some (.d (ill hss)),some (.own (rs1++rs2++[OG r])),some (.d (.int z)),some (.d (.int k)),some (.d (.int ((2*i:Nat):Int))),some (.own [.int r.x,fr r.l0.1 r.l0.2,fr r.l1.1 r.l1.2,fr r.u0.1 r.u0.2,fr r.u1.1 r.u1.2]),x]:=λne=>by
      refine hn'' _ ⟨rs2++[OG r],some (.d (.int ((2*i:Nat):Int))),some (.own [.int r.x,fr r.l0.1 r.l0.2,fr r.l1.1 r.l1.2,fr r.u0.1 r.u0.2,fr r.u1.1 r.u1.2]),x,⟨by simp;omega,?_⟩,by rw[List.append_assoc]⟩
      rw[BA]
      have hne:(pr2 ts hss z k i).1≠(pr2 ts hss z k i).2:=λee=>ne (by
       rw[h1,h2] at ee
       have f1:=congrArg Prod.fst ee
       have f2:=congrArg Prod.snd ee
       dsimp only at f1 f2
       rw[f1] at L0
       rw[f2] at L1
       exact⟨K12.low_eq w0 L0 U0,K12.low_eq w0 L1 U1⟩)
      rw[show [pr2 ts hss z k i].filter (λz=>decide (z.1≠z.2))=[pr2 ts hss z k i] by simp[hne]]
      refine T2.snoc ⟨_,_,_,_,_,_,_,_,⟨?_,?_,?_,?_⟩,by rw[<-hx]⟩
      ·rw[h1];exact L0
      ·rw[h1];exact L1
      ·rw[h2];exact U0
      ·rw[h2];exact U1
     walk_at "rd"
     have hsz:Sz ((rs1++rs2).length+1):=bL (by rw[List.length_append];omega)
     rw[FB 4]
     by_cases k0:r.l0.1=r.u0.1/\r.l0.2=r.u0.2
     ·rw[decide_eq_true k0]
      simp only[Bool.not_true,Bool.false_eq_true,if_false]
      rw[FB 4]
      by_cases k1:r.l1.1=r.u1.1/\r.l1.2=r.u1.2
      ·rw[decide_eq_true k1]
       simp only[Bool.not_true,Bool.false_eq_true,if_false]
       refine hn'' _ ⟨rs2,_,_,x,⟨by omega,?_⟩,rfl⟩
       rw[BA]
       have heq:(pr2 ts hss z k i).1=(pr2 ts hss z k i).2:=by
        rw[<-k0.1,<-k0.2] at U0
        rw[<-k1.1,<-k1.2] at U1
        rw[h1,h2]
        exact Prod.ext (BD L0 U0) (BD L1 U1)
       rw[show [pr2 ts hss z k i].filter (λz=>decide (z.1≠z.2))=[] by simp[heq],List.append_nil]
       exact T2
      ·rw[decide_eq_false k1]
       simp only[Bool.not_false,if_true]
       exact⟨hsz,app λh=>k1 h.2⟩
     ·rw[decide_eq_false k0]
      simp only[Bool.not_false,if_true]
      exact⟨hsz,app λh=>k0 h.1⟩
    ·rintro ρ ⟨r,c,d,e,⟨rl2,T2⟩,rfl⟩
     refine hn' _ ⟨rs1++r,_,c,d,e,⟨by rw[List.length_append];omega,?_⟩,rfl⟩
     rw[yV,<-List.append_assoc]
     refine T1.snoc ?_
     rw[show T ts z+(k:Int)-T ts z=(k:Int) by omega,LR]
     exact T2
   ·rintro ρ ⟨rs1,b,c,d,e,⟨rl1,T1⟩,rfl⟩
    refine hn _ ⟨rs1,_,b,c,d,e,⟨by omega,by rw[oX];exact T1⟩,rfl⟩
  ·rintro ρ ⟨rs,a,b,c,d,e,⟨rl,T⟩,rfl⟩
   exact hK _ ⟨rs,a,b,c,d,e,⟨by omega,T⟩,rfl⟩
 rintro ρ ⟨rs,a,b,c,d,e,⟨rl,T⟩,rfl⟩
 walk_at "rd"
 exact q rs rl T
end K23
namespace K23
noncomputable def mR:FD:=λds Q=>∃(ts:List Int) (hss:List (List Int)) (n a b:Nat) (num:Int),ds=[il ts,ill hss,.int a,.int b,.int num]/\Curves ts hss n/\(a<2*n/\b<2*n)/\∀g:List Pt,g.length<=10->(bR g).Perm (csd ts hss a++csd ts hss b)->Q (pts g)
theorem zJ:∀ds Q,mR ds Q->ds.length=5:=by rintro ds Q ⟨_,_,_,_,_,_,rfl,_⟩;rfl
theorem HP {g:List Pt} {st:Nat} (h:st<=g.length):eX (g.map pt) (some (st:Int)) none++eX (g.map pt) none (some (st:Int))=(g.drop st++g.take st).map pt:=by
 rw[fZ (by simpa using h),uW (by simpa using h),List.map_append,List.map_drop,List.map_take]
theorem wK {ts:List Int} {hss:List (List Int)} {n j k:Nat} (C:Curves ts hss n) (hj:j<2*n) (hk:k<ts.length) {Q:D->Prop} (q:Q (pt (cL ts hss j k))) :
  dIx (il ts) (.int (0+(k:Int))) λd=>dIx (ill hss) (.int (0+(k:Int))) λd1=>dIx d1 (.int (j:Int)) λd2=>Q (.tup [d,d2]):=by
 have e:(0:Int)+(k:Int)=(k:Int):=by omega
 have hl:=C.len
 rw[e]
 exact iQ (lL hk) (rF (vZ (by omega)) (iQ (qQ C hk hj) q))
theorem lO:∀ds Q,mR ds Q->eQ { nx:=λ_=>Q .non,rt:=Q } (aO ["_law_threads_here","_law_heights_here","_law_one","_law_other","_law_number","_law_ring_here","_law_start"] ds):=by
 rintro ds Q ⟨ts,hss,n,a,b,num,rfl,C,⟨ha,hb⟩,q⟩
 rw[aT 2 rfl]
 unfold eQ
 simp only[cE,tE,List.map_cons,List.map_nil,List.cons_append,List.nil_append]
 have tl:=C.thr.len
 refine aJ (λρ=>ρ=[some (.d (il ts)),some (.d (ill hss)),some (.d (.int a)),some (.d (.int b)),some (.d (.int num)),some (.own ((crv ts hss a).map pt)),none]) (λK hK=>?_) ?_
 ·walk_at "rd"
  refine⟨⟨by rw[List.length_map];omega,by rw[List.length_map];omega⟩,bL (by rw[gE,List.length_map];omega),?_⟩
  rw[List.length_map,Int.toNat_natCast]
  unfold cD
  refine dC (λρ=>∃u,ρ=[u,some (.d (il ts)),some (.d (ill hss)),some (.d (.int a))]) (λk:Nat=>D.int (0+(k:Int))) (λk=>pt (cL ts hss a k)) (List.range ts.length) ?_ ⟨_,rfl⟩ ?_
  ·rintro k hk ρ ⟨u,rfl⟩ K' hK'
   walk_at "rd"
   exact wK C ha (List.mem_range.mp hk) (Q:=λd=>K' _ d) (hK' _ ⟨_,rfl⟩)
  ·have e:(List.range ts.length).map (λk=>pt (cL ts hss a k))=(crv ts hss a).map pt:=by unfold crv;rw[List.map_map];rfl
   rw[e]
   exact hK _ rfl
 rintro ρ rfl
 refine aJ (λρ=>ρ=[some (.d (il ts)),some (.d (ill hss)),some (.d (.int a)),some (.d (.int b)),some (.d (.int num)),some (.d (pts (crv ts hss a++(crv ts hss b).reverse))),none]) (λK hK=>?_) ?_
 ·walk_at "rd"
  simp only[AF]
  refine⟨⟨by omega,by rw[List.length_map];omega⟩,bL (by rw[List.length_reverse,gE,List.length_map];omega),?_⟩
  rw[List.length_map,Int.toNat_natCast]
  unfold cD
  rw[<-List.map_reverse]
  refine dC (λρ=>∃u,ρ=[u,some (.d (il ts)),some (.d (ill hss)),some (.d (.int b))]) (λk:Nat=>D.int (0+(k:Int))) (λk=>pt (cL ts hss b k)) (List.range ts.length).reverse ?_ ⟨_,rfl⟩ ?_
  ·rintro k hk ρ ⟨u,rfl⟩ K' hK'
   walk_at "rd"
   exact wK C hb (List.mem_range.mp (List.mem_reverse.mp hk)) (Q:=λd=>K' _ d) (hK' _ ⟨_,rfl⟩)
  ·have e:(List.range ts.length).reverse.map (λk=>pt (cL ts hss b k))=((crv ts hss b).reverse).map pt:=by unfold crv;rw[<-List.map_reverse,List.map_map];rfl
   rw[e]
   refine⟨bL (by simp[crv];omega),?_⟩
   rw[<-List.map_append]
   exact hK _ rfl
 rintro ρ rfl
 have gl0:(crv ts hss a++(crv ts hss b).reverse).length=2*ts.length:=by simp[crv];omega
 have gp0:=AG (hss:=hss) C.thr a b
 generalize crv ts hss a++(crv ts hss b).reverse=g0 at gl0 gp0
 refine aJ (λρ=>∃(g:List Pt) (x:S),(g.length=2*ts.length/\(bR g).Perm (csd ts hss a++csd ts hss b))/\(x = .d (pts g)\/x = .own (g.map pt))/\ρ=[some (.d (il ts)),some (.d (ill hss)),some (.d (.int a)),some (.d (.int b)),some (.d (.int num)),some x,none]) (λK hK=>?_) ?_
 ·walk_at "rd"
  refine⟨dL,?_⟩
  split
  ·simp only[sC]
   refine⟨g0.map pt,rfl,?_⟩
   refine hK _ ⟨g0.reverse,.own (g0.reverse.map pt),⟨by rw[List.length_reverse];exact gl0,(DR g0).trans gp0⟩,.inr rfl,?_⟩
   rw[List.map_reverse]
  ·exact hK _ ⟨g0,.d (pts g0),⟨gl0,gp0⟩,.inl rfl,rfl⟩
 rintro ρ ⟨g,x,⟨gl,gp⟩,hx,rfl⟩
 have xv:x.val = .lst (g.map pt):=by rcases hx with rfl | rfl <;> rfl
 refine aJ (λρ=>∃st:Nat,st<=g.length/\ρ=[some (.d (il ts)),some (.d (ill hss)),some (.d (.int a)),some (.d (.int b)),some (.d (.int num)),some x,some (.d (.int st))]) (λK hK=>?_) ?_
 ·obtain⟨m0,m1⟩:=aS (a:=num.fdiv 2) (b:=(g.length:Int)) (by omega)
  have e:(((num.fdiv 2).fmod (g.length:Int)).toNat:Int)=(num.fdiv 2).fmod (g.length:Int):=by omega
  have fin:K [some (.d (il ts)),some (.d (ill hss)),some (.d (.int a)),some (.d (.int b)),some (.d (.int num)),some x,some (.d (.int ((num.fdiv 2).fmod (g.length:Int))))]:=hK _ ⟨((num.fdiv 2).fmod (g.length:Int)).toNat,by omega,by rw[e]⟩
  rcases hx with rfl | rfl
  all_goals
   walk_at "rd"
   walk_at "sides"
   rw[List.length_map]
   exact⟨⟨by omega⟩,fin⟩
 rintro ρ ⟨st,hst,rfl⟩
 have fin:Q (.lst ((g.drop st++g.take st).map pt)):=by
  refine q _ (by rw[List.length_append,List.length_drop,List.length_take];omega) ((uG _ _).trans ?_)
  rw[List.take_append_drop]
  exact gp
 have cl:∀l u:Option Int,(eX (g.map pt) l u).length<=100:=λl u=>by unfold eX;rw[List.length_take,List.length_drop,List.length_map];omega
 have sz:Sz ((eX (g.map pt) (some (st:Int)) none).length+(eX (g.map pt) none (some (st:Int))).length):=bL (by have:=cl (some (st:Int)) none;have:=cl none (some (st:Int));omega)
 rw[<-HP hst] at fin
 rcases hx with rfl | rfl
 all_goals
  walk_at "rd"
  exact⟨sz,fin⟩
end K23
namespace K23
noncomputable def idx (nb:Bool) (n k:Nat):List Nat:=((List.range k).map λi=>if nb then [i,2*n-1-i] else [2*i,2*i+1]).flatten
theorem FF (nb:Bool) (n k:Nat):idx nb n (k+1)=idx nb n k++(if nb then [k,2*n-1-k] else [2*k,2*k+1]):=by
 unfold idx
 rw[List.range_succ,List.map_append,List.flatten_append];simp
theorem ID (nb:Bool) {n:Nat} (h:1<=n/\n<=3):(idx nb n n).Perm (List.range (2*n)):=by
 have:n=1\/n=2\/n=3:=by omega
 cases nb <;> rcases this with rfl | rfl | rfl <;> decide
noncomputable def kZ:FD:=λds Q=>∃(ns ts:List Int) (hss:List (List Int)) (n:Nat),ds=[il ns,il ts,ill hss]/\Curves ts hss n/\∀R:List (List Pt),R.length=n->(∀g∈R,g.length<=10)->(aZ R).Perm (((List.range (2*n)).map (csd ts hss)).flatten)->Q (dI R)
theorem wY:∀ds Q,kZ ds Q->ds.length=3:=by rintro ds Q ⟨_,_,_,_,rfl,_⟩;rfl
theorem AZ {ts:List Int} {hss:List (List Int)} {n:Nat} (C:Curves ts hss n) {Q:D->Prop} (q:∀A:List Int,A.length=2*n->Q (il A)):dIx (ill hss) (.int 0) Q:=by
 have tl:=C.thr.len
 have hl:=C.len
 have i0:=vZ (hss:=hss) (z:=0) (by omega)
 exact iX (x:=il (hss.getD 0 [])) (lB (j:=0) (by rw[List.getElem?_map,i0];rfl)) (q _ (C.each _ (List.mem_of_getElem? i0)))
theorem rY:∀ds Q,kZ ds Q->fE gT mR { nx:=λ_=>Q .non,rt:=Q } (aO ["_law_script","_law_threads_here","_law_heights_here","_law_many","_law_nested","_law_rings_here","_law_k","_law_pair"] ds):=by
 rintro ds Q ⟨ns,ts,hss,n,rfl,C,q⟩
 rw[aT 5 rfl]
 unfold fE
 simp only[cE,vQ,List.map_cons,List.map_nil,List.cons_append,List.nil_append]
 have nn:=C.n1
 refine aJ (λρ=>ρ=[some (.d (il ns)),some (.d (il ts)),some (.d (ill hss)),some (.d (.int ((2*n:Nat):Int))),none,none,none,none]) (λK hK=>?_) ?_
 ·walk_at "rd"
  refine AZ C λA hA=>?_
  walk_at "rd"
  rw[List.length_map,hA]
  exact hK _ rfl
 rintro ρ rfl
 refine aJ (λρ=>∃nb:Bool,ρ=[some (.d (il ns)),some (.d (il ts)),some (.d (ill hss)),some (.d (.int ((2*n:Nat):Int))),some (.d (.bl nb)),none,none,none]) (λK hK=>?_) ?_
 ·walk_at "rd"
  refine⟨ns,200,rfl,by decide,λv v0 v1=>?_⟩
  walk_at "rd"
  exact⟨dL,hK _ ⟨_,rfl⟩⟩
 rintro ρ ⟨nb,rfl⟩
 refine aJ (λρ=>ρ=[some (.d (il ns)),some (.d (il ts)),some (.d (ill hss)),some (.d (.int ((2*n:Nat):Int))),some (.d (.bl nb)),some (.own []),none,none]) (λK hK=>?_) ?_
 ·walk_at "rd"
  exact hK _ rfl
 rintro ρ rfl
 refine aJ (λρ=>∃(R:List (List Pt)) (u v:Option S),(R.length=n/\(∀g∈R,g.length<=10)/\(aZ R).Perm (((idx nb n n).map (csd ts hss)).flatten))/\ρ=[some (.d (il ns)),some (.d (il ts)),some (.d (ill hss)),some (.d (.int ((2*n:Nat):Int))),some (.d (.bl nb)),some (.own (R.map pts)),u,v]) (λK hK=>?_) ?_
 ·walk_at "rd"
  walk_at "sides"
  have e2:(((2*n:Nat):Int)).fdiv 2=(n:Int):=by
   rw[show ((2*n:Nat):Int)=(n:Int)*2 by omega];exact Int.mul_fdiv_cancel _ (by decide)
  rw[e2]
  refine⟨⟨by omega,by omega⟩,?_⟩
  rw[Int.toNat_natCast]
  refine jB 0 n (λk ρ=>∃(R:List (List Pt)) (u v:Option S),(R.length=k/\(∀g∈R,g.length<=10)/\(aZ R).Perm (((idx nb n k).map (csd ts hss)).flatten))/\ρ=[some (.d (il ns)),some (.d (il ts)),some (.d (ill hss)),some (.d (.int ((2*n:Nat):Int))),some (.d (.bl nb)),some (.own (R.map pts)),u,v]) ?_ ?_ _ ⟨[],none,none,⟨rfl,(λg h=>by cases h),.refl _⟩,rfl⟩
  ·rintro k ρ hk ⟨R,u,v,⟨r1,r2,r3⟩,rfl⟩ F _ _ hn _
   have e0:(0:Int)+(k:Int)=(k:Int):=by omega
   unfold iU
   simp only[aR,List.set_cons_zero,List.set_cons_succ]
   rw[e0]
   refine aJ (λρ=>∃a b:Nat,((a<2*n/\b<2*n)/\(if nb then [k,2*n-1-k] else [2*k,2*k+1])=[a,b])/\ρ=[some (.d (il ns)),some (.d (il ts)),some (.d (ill hss)),some (.d (.int ((2*n:Nat):Int))),some (.d (.bl nb)),some (.own (R.map pts)),some (.d (.int k)),some (.d (.tup [.int a,.int b]))]) (λK' hK'=>?_) ?_
   ·have mo:∀{P:Prop},P->(MulOk 2 (k:Int)/\P):=λp=>⟨(BL.const (n:=20) (by decide)).mulOk (n:=20) (BL.of_lt (by omega) (by omega)),p⟩
    cases nb with
    | false =>
     walk_at "rd"
     refine mo (mo ?_)
     refine hK' _ ⟨2*k,2*k+1,⟨⟨by omega,by omega⟩,rfl⟩,?_⟩
     rw[show ((2*k:Nat):Int)=2*(k:Int) by omega,show ((2*k+1:Nat):Int)=2*(k:Int)+1 by omega]
    | true =>
     walk_at "rd"
     refine mo (mo ?_)
     refine hK' _ ⟨k,2*n-1-k,⟨⟨by omega,by omega⟩,rfl⟩,?_⟩
     rw[show ((2*n-1-k:Nat):Int)=((2*n:Nat):Int)-1-(k:Int) by omega]
   rintro ρ ⟨a,b,⟨⟨ha,hb⟩,eab⟩,rfl⟩
   walk_at "rd"
   refine⟨ns,201+(k:Int),rfl,⟨by omega,by omega⟩,λv v0 v1=>?_⟩
   refine⟨ts,hss,n,a,b,v,rfl,C,⟨ha,hb⟩,λg g1 g2=>?_⟩
   refine⟨bL (by rw[List.length_map];omega),hn _ ⟨R++[g],some (.d (.int k)),some (.d (.tup [.int a,.int b])),⟨by simp[r1],λx hx=>?_,?_⟩,by rw[List.map_append];rfl⟩⟩
   ·rcases List.mem_append.mp hx with h | h
    ·exact r2 x h
    ·rw[List.mem_singleton.mp h];exact g1
   ·rw[FF,eab]
    simp only[aZ,List.map_append,List.flatten_append,List.map_cons,List.map_nil,List.flatten_cons,List.flatten_nil,List.append_nil]
    exact List.Perm.append r3 g2
  ·rintro ρ ⟨R,u,v,h,rfl⟩
   exact hK _ ⟨R,u,v,h,rfl⟩
 rintro ρ ⟨R,u,v,⟨r1,r2,r3⟩,rfl⟩
 walk_at "rd"
 exact q R r1 r2 (r3.trans ((ID nb nn).map (csd ts hss)).flatten)
noncomputable def uN:FD:=λds Q=>∃(ns ts:List Int) (hss:List (List Int)) (n:Nat),ds=[il ns,il ts,ill hss]/\Curves ts hss n/\∀I:List (List Pt),I.length<=1->(∀g∈I,g.length<=10)->(aZ I=[]\/∃z j,(z+1<ts.length/\j<2*n)/\aZ I=[sdz ts hss z j,sdz ts hss z j])->Q (dI I)
theorem FM:∀ds Q,uN ds Q->ds.length=3:=by rintro ds Q ⟨_,_,_,_,rfl,_⟩;rfl
theorem AN (p q:Pt):aZ [[p,q]]=sd p q++sd q p:=by
 show (sd p q++(sd q p++[]))++[]=_
 rw[List.append_nil,List.append_nil]
theorem sY:∀ds Q,uN ds Q->fY gT { nx:=λ_=>Q .non,rt:=Q } (aO ["_law_script","_law_threads_here","_law_heights_here","_law_number","_law_zone","_law_curve","_law_spot","_law_way"] ds):=by
 rintro ds Q ⟨ns,ts,hss,n,rfl,C,q⟩
 rw[aT 5 rfl]
 unfold fY
 simp only[cE,vQ,List.map_cons,List.map_nil,List.cons_append,List.nil_append]
 have nn:=C.n1
 have tl:=C.thr.len
 have hl:=C.len
 refine aJ (λρ=>∃v:Int,ρ=[some (.d (il ns)),some (.d (il ts)),some (.d (ill hss)),some (.d (.int v)),none,none,none,none]) (λK hK=>?_) ?_
 ·walk_at "rd"
  exact⟨ns,210,rfl,by decide,λv v0 v1=>hK _ ⟨v,rfl⟩⟩
 rintro ρ ⟨v,rfl⟩
 refine aJ (λρ=>∃z:Nat,z+1<ts.length/\ρ=[some (.d (il ns)),some (.d (il ts)),some (.d (ill hss)),some (.d (.int v)),some (.d (.int z)),none,none,none]) (λK hK=>?_) ?_
 ·walk_at "rd"
  walk_at "sides"
  rw[List.length_map]
  obtain⟨m0,m1⟩:=aS (a:=v.fdiv 8) (b:=(ts.length:Int)-1) (by omega)
  refine⟨⟨by omega⟩,hK _ ⟨((v.fdiv 8).fmod ((ts.length:Int)-1)).toNat,by omega,?_⟩⟩
  rw[Int.toNat_of_nonneg m0]
 rintro ρ ⟨z,hz,rfl⟩
 refine aJ (λρ=>∃j:Nat,j<2*n/\ρ=[some (.d (il ns)),some (.d (il ts)),some (.d (ill hss)),some (.d (.int v)),some (.d (.int z)),some (.d (.int j)),none,none]) (λK hK=>?_) ?_
 ·walk_at "rd"
  walk_at "sides"
  refine AZ C λA hA=>?_
  walk_at "rd"
  rw[List.length_map,hA]
  obtain⟨m0,m1⟩:=aS (a:=v.fdiv 64) (b:=((2*n:Nat):Int)) (by omega)
  refine⟨⟨by omega⟩,hK _ ⟨((v.fdiv 64).fmod ((2*n:Nat):Int)).toNat,by omega,?_⟩⟩
  rw[Int.toNat_of_nonneg m0]
 rintro ρ ⟨j,hj,rfl⟩
 refine aJ (λρ=>ρ=[some (.d (il ns)),some (.d (il ts)),some (.d (ill hss)),some (.d (.int v)),some (.d (.int z)),some (.d (.int j)),some (.d (pt (cL ts hss j z))),none]) (λK hK=>?_) ?_
 ·walk_at "rd"
  refine iQ (lL (by omega)) (rF (vZ (by omega)) (iQ (qQ C (by omega) hj) ?_))
  exact hK _ rfl
 rintro ρ rfl
 refine aJ (λρ=>∃w:Int,ρ=[some (.d (il ns)),some (.d (il ts)),some (.d (ill hss)),some (.d (.int v)),some (.d (.int z)),some (.d (.int j)),some (.d (pt (cL ts hss j z))),some (.d (.int w))]) (λK hK=>?_) ?_
 ·walk_at "rd"
  exact⟨dL,hK _ ⟨_,rfl⟩⟩
 rintro ρ ⟨w,rfl⟩
 refine aJ (λρ=>ρ=[some (.d (il ns)),some (.d (il ts)),some (.d (ill hss)),some (.d (.int v)),some (.d (.int z)),some (.d (.int j)),some (.d (pt (cL ts hss j z))),some (.d (.int w))]) (λK hK=>?_) ?_
 ·walk_at "rd"
  split
  ·exact q [[]] (by decide) (by simp) (.inl rfl)
  ·exact hK _ rfl
 rintro ρ rfl
 refine aJ (λρ=>ρ=[some (.d (il ns)),some (.d (il ts)),some (.d (ill hss)),some (.d (.int v)),some (.d (.int z)),some (.d (.int j)),some (.d (pt (cL ts hss j z))),some (.d (.int w))]) (λK hK=>?_) ?_
 ·walk_at "rd"
  split
  ·refine q [[cL ts hss j z]] (Nat.le_refl 1) (by simp) (.inl ?_)
   show (sd (cL ts hss j z) (cL ts hss j z)++[])++[]=[]
   rw[nO rfl];rfl
  ·exact hK _ rfl
 rintro ρ rfl
 refine aJ (λρ=>ρ=[some (.d (il ns)),some (.d (il ts)),some (.d (ill hss)),some (.d (.int v)),some (.d (.int z)),some (.d (.int j)),some (.d (pt (cL ts hss j z))),some (.d (.int w))]) (λK hK=>?_) ?_
 ·walk_at "rd"
  split
  ·refine q [[cL ts hss j z,((cL ts hss j z).1,(cL ts hss j z).2+v)]] (Nat.le_refl 1) (by simp) (.inl ?_)
   rw[AN,nO (show (cL ts hss j z).1=((cL ts hss j z).1,(cL ts hss j z).2+v).1 from rfl),nO (show ((cL ts hss j z).1,(cL ts hss j z).2+v).1=(cL ts hss j z).1 from rfl)];rfl
  ·exact hK _ rfl
 rintro ρ rfl
 refine aJ (λρ=>ρ=[some (.d (il ns)),some (.d (il ts)),some (.d (ill hss)),some (.d (.int v)),some (.d (.int z)),some (.d (.int j)),some (.d (pt (cL ts hss j z))),some (.d (.int w))]) (λK hK=>?_) ?_
 ·walk_at "rd"
  split
  ·rw[show (z:Int)+1=((z+1:Nat):Int) by omega]
   refine iQ (lL hz) (rF (vZ (by omega)) (iQ (qQ C hz hj) ?_))
   refine q [[cL ts hss j z,cL ts hss j (z+1)]] (Nat.le_refl 1) (by simp) (.inr ⟨z,j,⟨hz,hj⟩,?_⟩)
   have lt:(cL ts hss j z).1<(cL ts hss j (z+1)).1:=by have:=vU C.thr hz;show T ts z<T ts (z+1);omega
   rw[AN,vR (cL ts hss j (z+1))]
   unfold sd
   rw[if_pos lt];rfl
  ·exact hK _ rfl
 rintro ρ rfl
 walk_at "rd"
 exact q [] (by decide) (by simp) (.inl rfl)
end K23
namespace K23
theorem nZ {f:D->D->Option Bool}:∀(xs:List D),(∀x∈xs,f x x=some true)->eqL f xs xs=some true
 | [],_=>rfl
 | x::xs,h=>by
  simp only[eqL,h x (by simp),nZ xs λy hy=>h y (by simp[hy])]
  rfl
theorem JY (n:Nat) (i:Int):eqF (n+1) (.int i) (.int i)=some true:=by simp[eqF]
theorem zA (n:Nat) (p:Pt):eqF (n+2) (pt p) (pt p)=some true:=by
 show eqL (eqF (n+1)) _ _=_
 refine nZ _ λx hx=>?_
 simp only[List.mem_cons,List.not_mem_nil,or_false] at hx
 rcases hx with rfl | rfl <;> exact JY n _
theorem IA (n:Nat) (g:List Pt):eqF (n+3) (pts g) (pts g)=some true:=by
 show eqL (eqF (n+2)) _ _=_
 refine nZ _ λx hx=>?_
 obtain⟨p,_,rfl⟩:=List.mem_map.mp hx
 exact zA n p
noncomputable def BandRow (d:D):Prop:=∃(c:Int) (a1 a2 a3 a4:IP),d = .tup [.int c,pt a1,pt a2,pt a3,pt a4]/\∀a∈[a1,a2,a3,a4],0<a.2/\Int.gcd a.1 a.2=1
theorem BandRow.eq {d:D} (h:BandRow d) (n:Nat):eqF (n+3) d d=some true:=by
 obtain⟨c,a1,a2,a3,a4,rfl,_⟩:=h
 show eqL (eqF (n+2)) _ _=_
 refine nZ _ λx hx=>?_
 simp only[List.mem_cons,List.not_mem_nil,or_false] at hx
 rcases hx with rfl | rfl | rfl | rfl | rfl
 ·exact JY _ _
 all_goals exact zA n _
theorem RowsOf.band {B c:Int} {zs:List (IP × IP)} {r:List D} (h:RowsOf B c zs r):∀d∈r,BandRow d:=by
 induction h with
 | nil=>intro d hd;cases hd
 | cons h t ih =>
  intro d hd
  rcases List.mem_cons.mp hd with rfl | hd
  ·obtain⟨p1,q1,p2,q2,p3,q3,p4,q4,⟨l1,l2,l3,l4⟩,rfl⟩:=h
   refine⟨c,(p1,q1),(p2,q2),(p3,q3),(p4,q4),rfl,λa ha=>?_⟩
   simp only[List.mem_cons,List.not_mem_nil,or_false] at ha
   rcases ha with rfl | rfl | rfl | rfl
   ·exact⟨l1.pos,l1.cop⟩
   ·exact⟨l2.pos,l2.cop⟩
   ·exact⟨l3.pos,l3.cop⟩
   ·exact⟨l4.pos,l4.cop⟩
  ·exact ih d hd
theorem LB.band {ts:List Int} {hss:List (List Int)} {n:Nat} {cs:List (Int × Nat)} {rows:List D} (h:LB ts hss n cs rows):∀d∈rows,BandRow d:=by
 induction h with
 | nil=>intro d hd;cases hd
 | cons h t ih =>
  intro d hd
  rcases List.mem_append.mp hd with hd | hd
  ·exact RowsOf.band h d hd
  ·exact ih d hd
noncomputable def uO:FD:=λds Q=>∃p q:Int,ds=[fr p q]/\(0<q/\Int.gcd p q=1)/\Q (.bl true)
theorem FN:∀ds Q,uO ds Q->ds.length=1:=by rintro ds Q ⟨_,_,rfl,_⟩;rfl
theorem lI:∀ds Q,uO ds Q->cO mO mS { nx:=λ_=>Q .non,rt:=Q } (aO ["_law_found"] ds):=by
 rintro ds Q ⟨p,qq,rfl,⟨h0,h1⟩,q⟩
 rw[aT 0 rfl]
 unfold cO
 walk_at "rd"
 refine⟨p,rfl,?_⟩
 walk_at "rd"
 refine⟨qq,rfl,?_⟩
 walk_at "rd"
 simp only[h0,decide_true,if_true]
 refine⟨p,qq,rfl,?_⟩
 walk_at "rd"
 rw[h1]
 exact q
noncomputable def mP:FD:=λds Q=>∃(c:Int) (a1 a2 a3 a4:IP),ds=[.tup [.int c,pt a1,pt a2,pt a3,pt a4]]/\(∀a∈[a1,a2,a3,a4],0<a.2/\Int.gcd a.1 a.2=1)/\Q (.bl true)
theorem zH:∀ds Q,mP ds Q->ds.length=1:=by rintro ds Q ⟨_,_,_,_,_,rfl,_⟩;rfl
theorem oP:∀ds Q,mP ds Q->dW uO mS { nx:=λ_=>Q .non,rt:=Q } (aO ["_law_found","_law_one"] ds):=by
 rintro ds Q ⟨c,a1,a2,a3,a4,rfl,h,q⟩
 rw[aT 1 rfl]
 unfold dW
 refine aJ (λρ=>ρ=[some (.d (.tup [.int c,pt a1,pt a2,pt a3,pt a4])),none]) (λK hK=>?_) ?_
 ·walk_at "rd"
  refine⟨c,rfl,?_⟩
  walk_at "rd"
  exact hK _ rfl
 rintro ρ rfl
 refine aJ (λρ=>True) (λK hK=>?_) ?_
 ·have c1:eX [.int c,pt a1,pt a2,pt a3,pt a4] (some 1) none=[a1,a2,a3,a4].map pt:=fZ (j:=1) (by simp)
  simp only[cI,riT,jG,aD,eN,bZ,rC,List.getElem?_cons_zero]
  refine⟨λk=>absurd k.1 (by rw[show (some (1:Int))=some ((1:Nat):Int) from rfl,HT.sIx_nat];simp),?_⟩
  rw[c1]
  generalize hL:[a1,a2,a3,a4]=L at h
  refine bY (λxs ρ=>∃todo:List IP,(∀a∈todo,0<a.2/\Int.gcd a.1 a.2=1)/\xs=todo.map pt/\∃x u,ρ=[x,u]) ?_ ?_ _ _ ⟨L,h,rfl,_,_,rfl⟩
  ·rintro y xs ρ ⟨todo,ht,exs,x,u,rfl⟩ F hr hb hn hc
   cases todo with
   | nil=>cases exs
   | cons a todo =>
    rw[List.map_cons] at exs
    injection exs with ex exs
    subst ex exs
    unfold gG
    simp only[aR,cU,jF,bD,aU,aA,aG,aK,List.getElem?_cons_zero,List.getElem?_cons_succ,List.set_cons_zero,List.set_cons_succ]
    refine⟨a.1,a.2,rfl,ht a (.head _),?_⟩
    simp only[Bool.not_true,Bool.false_eq_true,if_false,bS]
    exact hn _ ⟨todo,λb hb=>ht b (.tail _ hb),rfl,_,_,rfl⟩
  ·rintro ρ ⟨todo,ht,exs,x,u,rfl⟩
   exact hK _ trivial
 intro ρ _
 walk_at "rd"
 exact q
theorem LJ {xs:List D}:zC "list" (.lst xs)=some true:=rfl
noncomputable def kY:FD:=λds Q=>∃rows:List D,ds=[.lst rows,.lst rows]/\(∀d∈rows,BandRow d)/\Q (.bl true)
theorem wX:∀ds Q,kY ds Q->ds.length=2:=by rintro ds Q ⟨_,rfl,_⟩;rfl
theorem rN {xs:List D} {Q:D->Prop} (h:eqL (eqF 5) xs xs=some true) (q:Q (.bl false)):yW (.lst xs) (.lst xs) Q:=by
 unfold yW
 simp only[h]
 exact⟨trivial,q⟩
theorem rX:∀ds Q,kY ds Q->dX mP { nx:=λ_=>Q .non,rt:=Q } (aO ["_law_found","_law_rows","_law_band"] ds):=by
 rintro ds Q ⟨rows,rfl,hb,q⟩
 rw[aT 1 rfl]
 unfold dX
 simp only[cE,AB,List.map_cons,List.map_nil,List.cons_append,List.nil_append]
 have er:eqL (eqF 5) rows rows=some true:=nZ _ λd hd=>(hb d hd).eq 2
 refine aJ (λρ=>ρ=[some (.d (.lst rows)),some (.d (.lst rows)),none]) (λK hK=>?_) ?_
 ·walk_at "rd"
  simp only[LJ,Bool.not_true,Bool.false_eq_true,if_false]
  refine rN er ?_
  walk_at "rd"
  exact hK _ rfl
 rintro ρ rfl
 refine aJ (λρ=>∃u,ρ=[some (.d (.lst rows)),some (.d (.lst rows)),u]) (λK hK=>?_) ?_
 ·simp only[cI,riL,aK,List.getElem?_cons_zero]
  refine bY (λxs ρ=>(∀d∈xs,BandRow d)/\∃u,ρ=[some (.d (.lst rows)),some (.d (.lst rows)),u]) ?_ ?_ _ _ ⟨hb,none,rfl⟩
  ·rintro x xs ρ ⟨hx,u,rfl⟩ F hr hbk hn hc
   obtain⟨c,a1,a2,a3,a4,rfl,ha⟩:=hx x (.head _)
   unfold gI
   simp only[aR,cU,jF,bD,aU,aA,aG,aK,List.getElem?_cons_zero,List.getElem?_cons_succ,List.set_cons_zero,List.set_cons_succ]
   refine⟨c,a1,a2,a3,a4,rfl,ha,?_⟩
   walk_at "rd"
   exact hn _ ⟨λd hd=>hx d (.tail _ hd),some (.d (.tup [.int c,pt a1,pt a2,pt a3,pt a4])),rfl⟩
  ·rintro ρ ⟨_,u,rfl⟩
   exact hK _ ⟨u,rfl⟩
 rintro ρ ⟨u,rfl⟩
 walk_at "rd"
 exact q
theorem wB:BandsIn [] 0:=⟨⟨by decide,(λg h=>by cases h),(λs h=>by cases h)⟩,(λs h=>by cases h),λc hc=>by obtain⟨s,h,_⟩:=hc;cases h⟩
theorem BQ {cs:List Int} {rows:List D} (h2:∀c,c∈cs↔∃s∈aZ [],cov c s=true) (h3:AllB (aZ []) cs rows):rows=[]:=by
 cases h3 with
 | nil=>rfl
 | @cons c B M r rows cs h t =>
  obtain⟨s,hs,_⟩:=(h2 c).mp (.head _)
  cases hs
theorem CZ {ts:List Int} {hss:List (List Int)} {n:Nat} {R I:List (List Pt)} (k:Nat) (hn:n<=3) (r1:R.length=n) (r2:∀g∈R,g.length<=10) (r3:(aZ R).Perm (((List.range (2*n)).map (csd ts hss)).flatten))
  (i1:I.length<=1) (i2:∀g∈I,g.length<=10) (i3:aZ I=[]\/∃z j,(z+1<ts.length/\j<2*n)/\aZ I=[sdz ts hss z j,sdz ts hss z j]):Cloth ts hss n (R.take k++I++R.drop k):=by
 refine⟨?_,λg hg=>?_,aZ I,?_,i3⟩
 ·rw[List.length_append,List.length_append,List.length_take,List.length_drop];omega
 ·rcases List.mem_append.mp hg with h | h
  ·rcases List.mem_append.mp h with h | h
   ·exact r2 g (List.mem_of_mem_take h)
   ·exact i2 g h
  ·exact r2 g (List.mem_of_mem_drop h)
 ·refine List.Perm.trans ?_ (List.Perm.append_right (aZ I) r3)
  have e:∀A B:List (List Pt),aZ (A++B)=aZ A++aZ B:=λA B=>by simp[aZ]
  rw[e,e,List.append_assoc]
  refine (List.Perm.append_left _ List.perm_append_comm).trans ?_
  rw[<-List.append_assoc,<-e,List.take_append_drop]
end K23
namespace K23
theorem GL:∀ds Q,BP 63 ds Q->jJ mQ mN uN gT kY kZ cG { nx:=λ_=>Q .non,rt:=Q } (aO ["_law_script","_law_threads_here","_law_heights_here","_law_rows","_law_rings_here","_law_at_here","_law_handed","_law_found"] ds):=by
 rintro ds Q ⟨ns,rfl,hn,Qt⟩
 rw[aT 7 rfl]
 unfold jJ
 simp only[cE,AD,List.map_cons,List.map_nil,List.cons_append,List.nil_append]
 refine aJ (λρ=>∃ts hss n,Curves ts hss n/\ρ=[some (.d (il ns)),some (.d (il ts)),some (.d (ill hss)),none,none,none,none,none]) (λK hK=>?_) ?_
 ·walk_at "rd"
  refine⟨ns,rfl,λts hss n C=>?_⟩
  walk_at "rd"
  exact hK _ ⟨ts,hss,n,C,rfl⟩
 rintro ρ ⟨ts,hss,n,C,rfl⟩
 have nn:=C.n1
 refine aJ (λρ=>∃rows:List D,(rows.length<=1000/\LB ts hss n (dJ ts (ts.length-1)) rows)/\ρ=[some (.d (il ns)),some (.d (il ts)),some (.d (ill hss)),some (.d (.lst rows)),none,none,none,none]) (λK hK=>?_) ?_
 ·simp only[bC,aU,aA,aG,aK,List.getElem?_cons_zero,List.getElem?_cons_succ,List.set_cons_zero,List.set_cons_succ]
  exact⟨ts,hss,n,rfl,C,λrows l h=>hK _ ⟨rows,⟨l,h⟩,rfl⟩⟩
 rintro ρ ⟨rows,⟨rl,hL⟩,rfl⟩
 have hb:=LB.band hL
 refine aJ (λρ=>∃R:List (List Pt),(R.length=n/\(∀g∈R,g.length<=10)/\(aZ R).Perm (((List.range (2*n)).map (csd ts hss)).flatten))/\ρ=[some (.d (il ns)),some (.d (il ts)),some (.d (ill hss)),some (.d (.lst rows)),some (.d (dI R)),none,none,none]) (λK hK=>?_) ?_
 ·simp only[bC,aU,aA,aG,aK,List.getElem?_cons_zero,List.getElem?_cons_succ,List.set_cons_zero,List.set_cons_succ]
  exact⟨ns,ts,hss,n,rfl,C,λR ra rb rc=>hK _ ⟨R,⟨ra,rb,rc⟩,rfl⟩⟩
 rintro ρ ⟨R,⟨ra,rb,rc⟩,rfl⟩
 refine aJ (λρ=>∃k:Nat,k<=R.length/\ρ=[some (.d (il ns)),some (.d (il ts)),some (.d (ill hss)),some (.d (.lst rows)),some (.d (dI R)),some (.d (.int k)),none,none]) (λK hK=>?_) ?_
 ·walk_at "rd"
  refine⟨ns,211,rfl,by decide,λv v0 v1=>?_⟩
  walk_at "rd"
  rw[List.length_map]
  obtain⟨m0,m1⟩:=aS (a:=v) (b:=(R.length:Int)+1) (by omega)
  refine⟨⟨by omega⟩,hK _ ⟨(v.fmod ((R.length:Int)+1)).toNat,by omega,?_⟩⟩
  rw[Int.toNat_of_nonneg m0]
 rintro ρ ⟨k,hk,rfl⟩
 refine aJ (λρ=>∃Rr:List (List Pt),Cloth ts hss n Rr/\ρ=[some (.d (il ns)),some (.d (il ts)),some (.d (ill hss)),some (.d (.lst rows)),some (.d (dI Rr)),some (.d (.int k)),none,none]) (λK hK=>?_) ?_
 ·walk_at "rd"
  refine⟨ns,ts,hss,n,rfl,C,λI i1 i2 i3=>?_⟩
  have c1:eX (R.map pts) none (some (k:Int))=(R.take k).map pts:=by rw[uW (by simpa using hk),List.map_take]
  have c2:eX (R.map pts) (some (k:Int)) none=(R.drop k).map pts:=by rw[fZ (by simpa using hk),List.map_drop]
  rw[c1,c2]
  walk_at "rd"
  refine⟨bL (by simp;omega),bL (by simp;omega),?_⟩
  rw[<-List.map_append,<-List.map_append]
  exact hK _ ⟨_,CZ k nn.2 ra rb rc i1 i2 i3,rfl⟩
 rintro ρ ⟨Rr,K0,rfl⟩
 have bi:=K0.bands C
 have eR:eqL (eqF 5) (Rr.map pts) (Rr.map pts)=some true:=nZ _ λd hd=>by
  obtain⟨g,_,rfl⟩:=List.mem_map.mp hd
  exact IA 2 g
 refine aJ (λρ=>ρ=[some (.d (il ns)),some (.d (il ts)),some (.d (ill hss)),some (.d (.lst rows)),some (.d (dI Rr)),some (.d (.int k)),some (.own (Rr.map pts)),none]) (λK hK=>?_) ?_
 ·walk_at "rd"
  refine⟨bL (by rw[List.length_map];have:=K0.len;omega),?_⟩
  refine dC (λρ=>∃u,ρ=[u]) pts pts Rr ?_ ⟨_,rfl⟩ (hK _ rfl)
  rintro g hg ρ ⟨u,rfl⟩ K' hK'
  walk_at "rd"
  exact hK' _ ⟨_,rfl⟩
 rintro ρ rfl
 refine aJ (λρ=>ρ=[some (.d (il ns)),some (.d (il ts)),some (.d (ill hss)),some (.d (.lst rows)),some (.d (dI Rr)),some (.d (.int k)),some (.d (dI Rr)),some (.own rows)]) (λK hK=>?_) ?_
 ·walk_at "rd"
  simp only[mL,aA,aG,aK,List.getElem?_cons_zero,List.getElem?_cons_succ]
  refine⟨Rr,_,rfl,bi,λcs rows' h1 h2 h3=>?_⟩
  dsimp only
  rw[wC C K0 h1 h2 h3 hL]
  exact hK _ rfl
 rintro ρ rfl
 refine aJ (λρ=>ρ=[some (.d (il ns)),some (.d (il ts)),some (.d (ill hss)),some (.d (.lst rows)),some (.d (dI Rr)),some (.d (.int k)),some (.d (dI Rr)),some (.own rows)]) (λK hK=>?_) ?_
 ·simp only[cU,FO,rOr,jF,bD,aU,mL,dM,aA,aG,aK,aD,r2,bS,bN,rC,L2.R2.S.val,List.getElem?_cons_zero,List.getElem?_cons_succ,List.set_cons_zero,List.set_cons_succ]
  refine⟨rows,rfl,hb,?_⟩
  simp only[Bool.not_true,Bool.false_eq_true,if_false]
  refine rN eR ?_
  simp only[Bool.false_eq_true,if_false]
  refine⟨sz0,?_⟩
  refine⟨[],0,rfl,wB,λcs rows' h1 h2 h3=>?_⟩
  rw[BQ h2 h3]
  dsimp only
  refine⟨sz0,?_⟩
  refine rN rfl ?_
  simp only[Bool.false_eq_true,if_false]
  exact hK _ rfl
 rintro ρ rfl
 refine aJ (λρ=>ρ=[some (.d (il ns)),some (.d (il ts)),some (.d (ill hss)),some (.d (.lst rows)),some (.d (dI Rr)),some (.d (.int k)),some (.d (dI Rr)),some (.own (rows++[.int 0]))]) (λK hK=>?_) ?_
 ·walk_at "rd"
  exact⟨bL (by omega),hK _ rfl⟩
 rintro ρ rfl
 walk_at "rd"
 simp only[mL,aA,aG,aK,List.getElem?_cons_zero,List.getElem?_cons_succ]
 refine⟨Rr,_,rfl,bi,λcs rows' h1 h2 h3=>?_⟩
 dsimp only
 rw[wC C K0 h1 h2 h3 hL]
 exact⟨rows,rfl,hb,Qt⟩
end K23
namespace K23
set_option maxHeartbeats 4000000
noncomputable def top (i:Nat):Stmt:=PySem.Challenge.pw_recut_k23_bands_of_curves.main.body.getD i (.Pass ⟨0,0,0,0⟩)
noncomputable abbrev s__law_divisor:Stmt:=top 20
noncomputable abbrev s__law_lowest:Stmt:=top 21
noncomputable abbrev s__law_at:Stmt:=top 26
noncomputable abbrev s__law_bands:Stmt:=top 27
noncomputable abbrev s__law_cell_at:Stmt:=top 18
noncomputable abbrev s__law_mixed:Stmt:=top 22
noncomputable abbrev s__law_heights:Stmt:=top 24
noncomputable abbrev s__law_threads:Stmt:=top 23
noncomputable abbrev s__law_curves:Stmt:=top 25
noncomputable abbrev s__law_idle:Stmt:=top 32
noncomputable abbrev s__law_whole:Stmt:=top 19
noncomputable abbrev s__law_fraction:Stmt:=top 30
noncomputable abbrev s__law_is_band:Stmt:=top 31
noncomputable abbrev s__law_right:Stmt:=top 33
noncomputable abbrev s__law_ring:Stmt:=top 28
noncomputable abbrev s__law_rings:Stmt:=top 29
noncomputable abbrev s_shared_divisor:Stmt:=top 5
noncomputable abbrev s_shared_multiple:Stmt:=top 6
noncomputable abbrev s_lowest_multiple:Stmt:=top 8
noncomputable abbrev s_width_of:Stmt:=top 12
noncomputable abbrev s_height_at:Stmt:=top 13
noncomputable abbrev s_ordered_heights:Stmt:=top 14
noncomputable abbrev s_ratio:Stmt:=top 7
noncomputable abbrev s_column_bands:Stmt:=top 15
noncomputable abbrev s_sides_of:Stmt:=top 10
noncomputable abbrev s_sides_by_column:Stmt:=top 11
noncomputable abbrev s_bands:Stmt:=top 16
noncomputable abbrev s_law:Stmt:=top 34
section
variable {P:Program} {w:World} {K:PySem.W.Frag} {mg:Str->Option Value} {base:Heap}
theorem jR:FnScope ["_law_one","_law_other"] ["_law_one","_law_other"] (aC s__law_divisor):=⟨rfl,rfl,rfl,by decide +kernel,rfl,by decide +kernel,by decide +kernel⟩
theorem pM {f:Addr} {cdv:Value} {A:Around} {outer:List Env} {s:Shared} {H:Hp} {E:XK} (m_abs:mg "abs" = none) (hr:Room 0 (A.deeper (envOfC "_law_divisor" (aC s__law_divisor) s.heap.objs.size f cdv))) :
  DSs (cJ CX0 P w K mg base ["_law_one","_law_other"] "_law_divisor" (aC s__law_divisor) f cdv A outer s H E).nox (aN s__law_divisor) (dS) :=
 have nd:=jR.nd
 aF (aY nd (kH uV m_abs lC (aB (dv 0) (aH))))
 (aF (aY nd (kH uV m_abs lC (aB (dv 1) (aH))))
 (aF (wQ PassesOwn.never (bV FX (dvb 1) (DE.bor (aE))) (aL (LD rfl nd (aB (dv 1) (aB (aM bW (dvb 0) (dvb 1)) (aH))))))
 (aL (bE (dv 0)))))
theorem pX (Z:DefAt K mg "_law_divisor" s__law_divisor ["_law_one","_law_other"]) (m_abs:mg "abs" = none) {F:FD} (len:∀ds Q,F ds Q->ds.length=2) (pure:∀ds Q,F ds Q->dS { nx:=λ_=>Q .non,rt:=Q } (aO ["_law_one","_law_other"] ds)):FnAt P w K mg base "_law_divisor" ["_law_one","_law_other"] 1 F :=
 Z.ok jR (λcdv A outer s H E hr=>pM m_abs hr) len pure
theorem kT:FnScope ["_law_top","_law_bottom","_law_by"] ["_law_top","_law_bottom"] (aC s__law_lowest):=⟨rfl,rfl,rfl,by decide +kernel,rfl,by decide +kernel,by decide +kernel⟩
theorem qS {f:Addr} {cdv:Value} {A:Around} {outer:List Env} {s:Shared} {H:Hp} {E:XK} {QD:FD} (QG:FnAt P w K mg base "_law_divisor" ["_law_one","_law_other"] 1 QD) (hr:Room 1 (A.deeper (envOfC "_law_lowest" (aC s__law_lowest) s.heap.objs.size f cdv))) :
  DSs (cJ CX0 P w K mg base ["_law_top","_law_bottom","_law_by"] "_law_lowest" (aC s__law_lowest) f cdv A outer s H E).nox (aN s__law_lowest) (eP QD) :=
 have nd:=kT.nd
 aF (aY nd (aP QG (hr.mono (by decide)) (aB (dv 0) (aB (dv 1) (aH)))))
 (aL (bE (eG (aB (aM dA (dvb 0) (dvb 2)) (aB (aM dA (dvb 1) (dvb 2)) (aH))))))
theorem rQ (Z:DefAt K mg "_law_lowest" s__law_lowest ["_law_top","_law_bottom"]) {QD:FD} (QG:FnAt P w K mg base "_law_divisor" ["_law_one","_law_other"] 1 QD) {F:FD} (len:∀ds Q,F ds Q->ds.length=2) (pure:∀ds Q,F ds Q->eP QD { nx:=λ_=>Q .non,rt:=Q } (aO ["_law_top","_law_bottom","_law_by"] ds)):FnAt P w K mg base "_law_lowest" ["_law_top","_law_bottom"] 2 F :=
 Z.ok kT (λcdv A outer s H E hr=>qS QG hr) len pure
theorem sG:FnScope ["_law_threads_here","_law_heights_here","_law_zone","_law_k","_law_curve","_law_wide","_law_left"] ["_law_threads_here","_law_heights_here","_law_zone","_law_k","_law_curve"] (aC s__law_at):=⟨rfl,rfl,rfl,by decide +kernel,rfl,by decide +kernel,by decide +kernel⟩
theorem yR {f:Addr} {cdv:Value} {A:Around} {outer:List Env} {s:Shared} {H:Hp} {E:XK} {QT:FD} (RK:FnAt P w K mg base "_law_lowest" ["_law_top","_law_bottom"] 2 QT) (hr:Room 2 (A.deeper (envOfC "_law_at" (aC s__law_at) s.heap.objs.size f cdv))) :
  DSs (cJ CX0 P w K mg base ["_law_threads_here","_law_heights_here","_law_zone","_law_k","_law_curve","_law_wide","_law_left"] "_law_at" (aC s__law_at) f cdv A outer s H E).nox (aN s__law_at) (jH QT) :=
 have nd:=sG.nd
 aF (aY nd (aM eL (DE.bor (aW (dvb 0) (DE.bor (aM bM (dvb 2) (DE.bor (aE)))))) (DE.bor (aW (dvb 0) (dvb 2)))))
 (aF (aY nd (aW (DE.bor (aW (dvb 1) (dvb 2))) (dvb 4)))
 (aL (bE (aP RK (hr.mono (by decide)) (aB (aM bM (DE.bor (aM eK (dvb 6) (DE.bor (aM eL (dvb 5) (dvb 3))))) (DE.bor (aM eK (DE.bor (aW (DE.bor (aW (dvb 1) (DE.bor (aM bM (dvb 2) (DE.bor (aE)))))) (dvb 4))) (dvb 3)))) (aB (dv 5) (aH)))))))
theorem zS (Z:DefAt K mg "_law_at" s__law_at ["_law_threads_here","_law_heights_here","_law_zone","_law_k","_law_curve"]) {QT:FD} (RK:FnAt P w K mg base "_law_lowest" ["_law_top","_law_bottom"] 2 QT) {F:FD} (len:∀ds Q,F ds Q->ds.length=5) (pure:∀ds Q,F ds Q->jH QT { nx:=λ_=>Q .non,rt:=Q } (aO ["_law_threads_here","_law_heights_here","_law_zone","_law_k","_law_curve","_law_wide","_law_left"] ds)):FnAt P w K mg base "_law_at" ["_law_threads_here","_law_heights_here","_law_zone","_law_k","_law_curve"] 3 F :=
 Z.ok sG (λcdv A outer s H E hr=>yR RK hr) len pure
theorem lQ:FnScope ["_law_threads_here","_law_heights_here","_law_found","_law_zone","_law_k","_law_low","_law_band","_law_curve"] ["_law_threads_here","_law_heights_here"] (aC s__law_bands):=⟨rfl,rfl,rfl,by decide +kernel,rfl,by decide +kernel,by decide +kernel⟩
theorem sL {f:Addr} {cdv:Value} {A:Around} {outer:List Env} {s:Shared} {H:Hp} {E:XK} {QK:FD} (RU:FnAt P w K mg base "_law_at" ["_law_threads_here","_law_heights_here","_law_zone","_law_k","_law_curve"] 3 QK) (m_len:mg "len" = none) (m_range:mg "range" = none) (m_tuple:mg "tuple" = none) (hr:Room 3 (A.deeper (envOfC "_law_bands" (aC s__law_bands) s.heap.objs.size f cdv))) :
  DSs (cJ CX0 P w K mg base ["_law_threads_here","_law_heights_here","_law_found","_law_zone","_law_k","_law_low","_law_band","_law_curve"] "_law_bands" (aC s__law_bands) f cdv A outer s H E).nox (aN s__law_bands) (fC QK) :=
 have nd:=lQ.nd
 aF (dQ nd (cB (aH)))
 (aF (dD PassesOwn.never rfl (gC m_range (aB (aM eL (DE.bor (dZ m_len (dvb 0))) (DE.bor (aE))) (aH))) (bF nd) (aL (dD PassesOwn.never rfl (gC m_range (aB (aM eL (DE.bor (aW (dvb 0) (DE.bor (aM bM (dvb 3) (DE.bor (aE)))))) (DE.bor (aW (dvb 0) (dvb 3)))) (aH))) (bF nd) (aL (dD PassesOwn.never rfl (HU m_range (aB (aE) (aB (dZ m_len (DE.bor (aW (dvb 1) (DE.bor (aE))))) (aB (aE) (aH))))) (bF nd) (aF (dQ nd (cB (aB (aM bM (DE.bor (aW (dvb 0) (dvb 3))) (dvb 4)) (aH))))
 (aF (dD PassesOwn.never rfl (fX (DO.val (cB (aB (dv 5) (aB (aM bM (dvb 5) (DE.bor (aE))) (aH)))))) (bF nd) (aF (cS 6 (aP RU (hr.mono (by decide)) (aB (dv 0) (aB (dv 1) (aB (dv 3) (aB (dv 4) (aB (dv 7) (aH))))))))
 (aL (cS 6 (aP RU (hr.mono (by decide)) (aB (dv 0) (aB (dv 1) (aB (dv 3) (aB (aM bM (dvb 4) (DE.bor (aE))) (aB (dv 7) (aH)))))))))))
 (aL (dE (DW.tst (mX (bV (FY hr) (DE.bor (aW (dvb 6) (DE.bor (aE)))) (DE.bor (aW (dvb 6) (DE.bor (aE))))) (qZ (bV (FY hr) (DE.bor (aW (dvb 6) (DE.bor (aE)))) (DE.bor (aW (dvb 6) (DE.bor (aE)))))))) (aL (cS 2 (EQ m_tuple (dvb 6)))) (bI))))))))))
 (aL (kI 2 (bE (dv 2)))))
theorem sT (Z:DefAt K mg "_law_bands" s__law_bands ["_law_threads_here","_law_heights_here"]) {QK:FD} (RU:FnAt P w K mg base "_law_at" ["_law_threads_here","_law_heights_here","_law_zone","_law_k","_law_curve"] 3 QK) (m_len:mg "len" = none) (m_range:mg "range" = none) (m_tuple:mg "tuple" = none) {F:FD} (len:∀ds Q,F ds Q->ds.length=2) (pure:∀ds Q,F ds Q->fC QK { nx:=λ_=>Q .non,rt:=Q } (aO ["_law_threads_here","_law_heights_here","_law_found","_law_zone","_law_k","_law_low","_law_band","_law_curve"] ds)):FnAt P w K mg base "_law_bands" ["_law_threads_here","_law_heights_here"] 4 F :=
 Z.ok lQ (λcdv A outer s H E hr=>sL RU m_len m_range m_tuple hr) len pure
theorem jQ:FnScope ["_law_script","_law_k"] ["_law_script","_law_k"] (aC s__law_cell_at):=⟨rfl,rfl,rfl,by decide +kernel,rfl,by decide +kernel,by decide +kernel⟩
theorem pL {f:Addr} {cdv:Value} {A:Around} {outer:List Env} {s:Shared} {H:Hp} {E:XK} (m_len:mg "len" = none) (hr:Room 0 (A.deeper (envOfC "_law_cell_at" (aC s__law_cell_at) s.heap.objs.size f cdv))) :
  DSs (cJ CX0 P w K mg base ["_law_script","_law_k"] "_law_cell_at" (aC s__law_cell_at) f cdv A outer s H E).nox (aN s__law_cell_at) (dR) :=
 have nd:=jQ.nd
 aF (dE (bV xJ (dvb 1) (DE.bor (dZ m_len (dvb 0)))) (aL (bE (aW (dvb 0) (dvb 1)))) (bI))
 (aL (bE (aE)))
theorem pW (Z:DefAt K mg "_law_cell_at" s__law_cell_at ["_law_script","_law_k"]) (m_len:mg "len" = none) {F:FD} (len:∀ds Q,F ds Q->ds.length=2) (pure:∀ds Q,F ds Q->dR { nx:=λ_=>Q .non,rt:=Q } (aO ["_law_script","_law_k"] ds)):FnAt P w K mg base "_law_cell_at" ["_law_script","_law_k"] 1 F :=
 Z.ok jQ (λcdv A outer s H E hr=>pL m_len hr) len pure
theorem lR:FnScope ["_law_script","_law_k","_law_cell","_law_number"] ["_law_script","_law_k"] (aC s__law_mixed):=⟨rfl,rfl,rfl,by decide +kernel,rfl,by decide +kernel,by decide +kernel⟩
theorem sM {f:Addr} {cdv:Value} {A:Around} {outer:List Env} {s:Shared} {H:Hp} {E:XK} (m_len:mg "len" = none) (m_min:mg "min" = none) (hr:Room 0 (A.deeper (envOfC "_law_mixed" (aC s__law_mixed) s.heap.objs.size f cdv))) :
  DSs (cJ CX0 P w K mg base ["_law_script","_law_k","_law_cell","_law_number"] "_law_mixed" (aC s__law_mixed) f cdv A outer s H E).nox (aN s__law_mixed) (fD) :=
 have nd:=lR.nd
 aF (aY nd (aE))
 (aF (dE (bV FX (DE.bor (dZ m_len (dvb 0))) (DE.bor (aE))) (aL (aY nd (aW (dvb 0) (DE.bor (aM bW (dvb 1) (DE.bor (kH (HJ rfl) m_min BR (aB (aE) (aB (dZ m_len (dvb 0)) (aH)))))))))) (bI))
 (aF (aY nd (aM bM (DE.bor (aM bW (dvb 2) (DE.bor (aM oH (DE.bor (aE)) (DE.bor (aE)))))) (DE.bor (aM eK (DE.bor (aE)) (DE.bor (aM bM (dvb 1) (DE.bor (aE))))))))
 (aL (bE (aM bW (DE.bor (aM eK (dvb 3) (dvb 3))) (DE.bor (aE)))))))
theorem sU (Z:DefAt K mg "_law_mixed" s__law_mixed ["_law_script","_law_k"]) (m_len:mg "len" = none) (m_min:mg "min" = none) {F:FD} (len:∀ds Q,F ds Q->ds.length=2) (pure:∀ds Q,F ds Q->fD { nx:=λ_=>Q .non,rt:=Q } (aO ["_law_script","_law_k","_law_cell","_law_number"] ds)):FnAt P w K mg base "_law_mixed" ["_law_script","_law_k"] 1 F :=
 Z.ok lR (λcdv A outer s H E hr=>sM m_len m_min hr) len pure
theorem jS:FnScope ["_law_script","_law_many","_law_place","_law_cell","_law_number","_law_found","_law_k","_law_step"] ["_law_script","_law_many","_law_place"] (aC s__law_heights):=⟨rfl,rfl,rfl,by decide +kernel,rfl,by decide +kernel,by decide +kernel⟩
theorem pN {f:Addr} {cdv:Value} {A:Around} {outer:List Env} {s:Shared} {H:Hp} {E:XK} {QA:FD} (QC:FnAt P w K mg base "_law_cell_at" ["_law_script","_law_k"] 1 QA) {PZ:FD} (QB:FnAt P w K mg base "_law_mixed" ["_law_script","_law_k"] 1 PZ) (m_range:mg "range" = none) (hr:Room 1 (A.deeper (envOfC "_law_heights" (aC s__law_heights) s.heap.objs.size f cdv))) :
  DSs (cJ CX0 P w K mg base ["_law_script","_law_many","_law_place","_law_cell","_law_number","_law_found","_law_k","_law_step"] "_law_heights" (aC s__law_heights) f cdv A outer s H E).nox (aN s__law_heights) (dU QA PZ) :=
 have nd:=jS.nd
 aF (aY nd (aP QC (hr.mono (by decide)) (aB (dv 0) (aB (aM bM (DE.bor (aE)) (dvb 2)) (aH)))))
 (aF (aY nd (aM eL (DE.bor (aM bW (dvb 3) (DE.bor (aE)))) (DE.bor (aE))))
 (aF (dE (bV fU (DE.bor (aM bW (DE.bor (aP QC (hr.mono (by decide)) (aB (dv 0) (aB (aE) (aH))))) (DE.bor (aE)))) (DE.bor (aE))) (aL (aY nd (aM eL (DE.bor (aM bW (dvb 3) (DE.bor (aM eK (DE.bor (aE)) (DE.bor (aM oH (DE.bor (aE)) (DE.bor (aE)))))))) (DE.bor (aM oH (DE.bor (aE)) (DE.bor (aE))))))) (bI))
 (aF (dQ nd (cB (aB (dv 4) (aH))))
 (aF (dD PassesOwn.never rfl (CA m_range (aB (aE) (aB (dv 1) (aH)))) (bF nd) (aF (aY nd (aP QB (hr.mono (by decide)) (aB (dv 0) (aB (aM bM (DE.bor (aM eK (DE.bor (aE)) (dvb 2))) (dvb 6)) (aH)))))
 (aF (aY nd (aW (DE.bor (DO.val (cB (aB (aE) (aB (aE) (aB (aM bW (DE.bor (aM dA (dvb 4) (DE.bor (aE)))) (DE.bor (aE))) (aB (aM bW (DE.bor (aM dA (dvb 4) (DE.bor (aE)))) (DE.bor (aM oH (DE.bor (aE)) (DE.bor (aE))))) (aH)))))))) (DE.bor (aM bW (dvb 4) (DE.bor (aE))))))
 (aL (cS 5 (aM bM (DE.bor (aW (dvb 5) (DE.bor (ER AJ (DE.bor (aE)))))) (dvb 7)))))))
 (aL (kI 5 (bE (dv 5))))))))
theorem pY (Z:DefAt K mg "_law_heights" s__law_heights ["_law_script","_law_many","_law_place"]) {QA:FD} (QC:FnAt P w K mg base "_law_cell_at" ["_law_script","_law_k"] 1 QA) {PZ:FD} (QB:FnAt P w K mg base "_law_mixed" ["_law_script","_law_k"] 1 PZ) (m_range:mg "range" = none) {F:FD} (len:∀ds Q,F ds Q->ds.length=3) (pure:∀ds Q,F ds Q->dU QA PZ { nx:=λ_=>Q .non,rt:=Q } (aO ["_law_script","_law_many","_law_place","_law_cell","_law_number","_law_found","_law_k","_law_step"] ds)):FnAt P w K mg base "_law_heights" ["_law_script","_law_many","_law_place"] 2 F :=
 Z.ok jS (λcdv A outer s H E hr=>pN QC QB m_range hr) len pure
theorem jU:FnScope ["_law_script","_law_found","_law_k","_law_wide"] ["_law_script"] (aC s__law_threads):=⟨rfl,rfl,rfl,by decide +kernel,rfl,by decide +kernel,by decide +kernel⟩
theorem pP {f:Addr} {cdv:Value} {A:Around} {outer:List Env} {s:Shared} {H:Hp} {E:XK} {QA:FD} (QC:FnAt P w K mg base "_law_cell_at" ["_law_script","_law_k"] 1 QA) {PZ:FD} (QB:FnAt P w K mg base "_law_mixed" ["_law_script","_law_k"] 1 PZ) (m_range:mg "range" = none) (hr:Room 1 (A.deeper (envOfC "_law_threads" (aC s__law_threads) s.heap.objs.size f cdv))) :
  DSs (cJ CX0 P w K mg base ["_law_script","_law_found","_law_k","_law_wide"] "_law_threads" (aC s__law_threads) f cdv A outer s H E).nox (aN s__law_threads) (dY QA PZ) :=
 have nd:=jU.nd
 aF (dQ nd (cB (aB (aM eL (DE.bor (aM bW (DE.bor (aP QC (hr.mono (by decide)) (aB (dv 0) (aB (aE) (aH))))) (DE.bor (aE)))) (DE.bor (aE))) (aH))))
 (aF (dE (bV fU (DE.bor (aM bW (DE.bor (aM dA (DE.bor (aP QC (hr.mono (by decide)) (aB (dv 0) (aB (aE) (aH))))) (DE.bor (aE)))) (DE.bor (aE)))) (DE.bor (aE))) (aL (dQ nd (cB (aB (aM eL (DE.bor (aM bW (DE.bor (aP QC (hr.mono (by decide)) (aB (dv 0) (aB (aE) (aH))))) (DE.bor (aM eK (DE.bor (aE)) (DE.bor (aM oH (DE.bor (aE)) (DE.bor (aE)))))))) (DE.bor (aM oH (DE.bor (aE)) (DE.bor (aE))))) (aH))))) (bI))
 (aF (dD PassesOwn.never rfl (gC m_range (aB (aM bM (DE.bor (aE)) (DE.bor (aM bW (DE.bor (aP QC (hr.mono (by decide)) (aB (dv 0) (aB (aE) (aH))))) (DE.bor (aE))))) (aH))) (bF nd) (aF (aY nd (aM bM (DE.bor (aE)) (DE.bor (aM bW (DE.bor (aP QB (hr.mono (by decide)) (aB (dv 0) (aB (aM bM (DE.bor (aE)) (dvb 2)) (aH))))) (DE.bor (aE))))))
 (aF (dE (DW.tst (LF (bV fU (dvb 2) (DE.bor (aE))) (HZ (bV fU (DE.bor (aM bW (DE.bor (aP QC (hr.mono (by decide)) (aB (dv 0) (aB (aE) (aH))))) (DE.bor (aE)))) (DE.bor (aE)))))) (aL (aY nd (aM bM (DE.bor (aE)) (DE.bor (aM bW (DE.bor (aM dA (DE.bor (aP QC (hr.mono (by decide)) (aB (dv 0) (aB (aE) (aH))))) (DE.bor (aE)))) (DE.bor (aE))))))) (bI))
 (aL (cS 1 (aM bM (DE.bor (aW (dvb 1) (DE.bor (ER AJ (DE.bor (aE)))))) (dvb 3)))))))
 (aL (kI 1 (bE (dv 1))))))
theorem qA (Z:DefAt K mg "_law_threads" s__law_threads ["_law_script"]) {QA:FD} (QC:FnAt P w K mg base "_law_cell_at" ["_law_script","_law_k"] 1 QA) {PZ:FD} (QB:FnAt P w K mg base "_law_mixed" ["_law_script","_law_k"] 1 PZ) (m_range:mg "range" = none) {F:FD} (len:∀ds Q,F ds Q->ds.length=1) (pure:∀ds Q,F ds Q->dY QA PZ { nx:=λ_=>Q .non,rt:=Q } (aO ["_law_script","_law_found","_law_k","_law_wide"] ds)):FnAt P w K mg base "_law_threads" ["_law_script"] 2 F :=
 Z.ok jU (λcdv A outer s H E hr=>pP QC QB m_range hr) len pure
theorem kS:FnScope ["_law_script","_law_threads_here","_law_many"] ["_law_script"] (aC s__law_curves):=⟨rfl,rfl,rfl,by decide +kernel,rfl,by decide +kernel,by decide +kernel⟩
theorem nE:List.Nodup (["_law_place","_law_script","_law_many"]:List Str):=by decide +kernel
theorem qR {f:Addr} {cdv:Value} {A:Around} {outer:List Env} {s:Shared} {H:Hp} {E:XK} {QA:FD} (QC:FnAt P w K mg base "_law_cell_at" ["_law_script","_law_k"] 1 QA) {QL:FD} (QZ:FnAt P w K mg base "_law_heights" ["_law_script","_law_many","_law_place"] 2 QL) {QM:FD} (RC:FnAt P w K mg base "_law_threads" ["_law_script"] 2 QM) (m_len:mg "len" = none) (m_range:mg "range" = none) (hr:Room 2 (A.deeper (envOfC "_law_curves" (aC s__law_curves) s.heap.objs.size f cdv))) :
  DSs (cJ CX0 P w K mg base ["_law_script","_law_threads_here","_law_many"] "_law_curves" (aC s__law_curves) f cdv A outer s H E).nox (aN s__law_curves) (eO QA QL QM) :=
 have nd:=kS.nd
 aF (aY nd (aP RC (hr.mono (by decide)) (aB (dv 0) (aH))))
 (aF (aY nd (aM bM (DE.bor (aE)) (DE.bor (aM eK (DE.bor (aE)) (DE.bor (aM bW (DE.bor (aP QC (hr.mono (by decide)) (aB (dv 0) (aB (aE) (aH))))) (DE.bor (aE))))))))
 (aL (bE (eG (aB (dv 1) (aB (DO.val (vA ["_law_place","_law_script","_law_many"] 1 [0,2] (gC m_range (aB (dZ m_len (dvb 1)) (aH))) (λcl C s H fp=>bF nE) (λcl C s H fp=>aP QZ (hr.mono (by decide)) (aB (dv 1) (aB (dv 2) (aB (dv 0) (aH))))))) (aH)))))))
theorem rP (Z:DefAt K mg "_law_curves" s__law_curves ["_law_script"]) {QA:FD} (QC:FnAt P w K mg base "_law_cell_at" ["_law_script","_law_k"] 1 QA) {QL:FD} (QZ:FnAt P w K mg base "_law_heights" ["_law_script","_law_many","_law_place"] 2 QL) {QM:FD} (RC:FnAt P w K mg base "_law_threads" ["_law_script"] 2 QM) (m_len:mg "len" = none) (m_range:mg "range" = none) {F:FD} (len:∀ds Q,F ds Q->ds.length=1) (pure:∀ds Q,F ds Q->eO QA QL QM { nx:=λ_=>Q .non,rt:=Q } (aO ["_law_script","_law_threads_here","_law_many"] ds)):FnAt P w K mg base "_law_curves" ["_law_script"] 3 F :=
 Z.ok kS (λcdv A outer s H E hr=>qR QC QZ RC m_len m_range hr) len pure
theorem nK:FnScope ["_law_script","_law_threads_here","_law_heights_here","_law_number","_law_zone","_law_curve","_law_spot","_law_way"] ["_law_script","_law_threads_here","_law_heights_here"] (aC s__law_idle):=⟨rfl,rfl,rfl,by decide +kernel,rfl,by decide +kernel,by decide +kernel⟩
theorem uP {f:Addr} {cdv:Value} {A:Around} {outer:List Env} {s:Shared} {H:Hp} {E:XK} {PZ:FD} (QB:FnAt P w K mg base "_law_mixed" ["_law_script","_law_k"] 1 PZ) (m_len:mg "len" = none) (hr:Room 1 (A.deeper (envOfC "_law_idle" (aC s__law_idle) s.heap.objs.size f cdv))) :
  DSs (cJ CX0 P w K mg base ["_law_script","_law_threads_here","_law_heights_here","_law_number","_law_zone","_law_curve","_law_spot","_law_way"] "_law_idle" (aC s__law_idle) f cdv A outer s H E).nox (aN s__law_idle) (fY PZ) :=
 have nd:=nK.nd
 aF (aY nd (aP QB (hr.mono (by decide)) (aB (dv 0) (aB (aE) (aH)))))
 (aF (aY nd (aM bW (DE.bor (aM dA (dvb 3) (DE.bor (aE)))) (DE.bor (aM eL (DE.bor (dZ m_len (dvb 1))) (DE.bor (aE))))))
 (aF (aY nd (aM bW (DE.bor (aM dA (dvb 3) (DE.bor (aE)))) (DE.bor (dZ m_len (DE.bor (aW (dvb 2) (DE.bor (aE))))))))
 (aF (aY nd (eG (aB (aW (dvb 1) (dvb 4)) (aB (aW (DE.bor (aW (dvb 2) (dvb 4))) (dvb 5)) (aH)))))
 (aF (aY nd (aM bW (dvb 3) (DE.bor (aE))))
 (aF (dE (bV fU (dvb 7) (DE.bor (aE))) (aL (bE (DO.val (cB (aB (DO.val (cB (aH))) (aH)))))) (bI))
 (aF (dE (bV fU (dvb 7) (DE.bor (aE))) (aL (bE (DO.val (cB (aB (DO.val (cB (aB (dv 6) (aH)))) (aH)))))) (bI))
 (aF (dE (bV fU (dvb 7) (DE.bor (aE))) (aL (bE (DO.val (cB (aB (DO.val (cB (aB (dv 6) (aB (eG (aB (aW (dvb 6) (DE.bor (aE))) (aB (aM bM (DE.bor (aW (dvb 6) (DE.bor (aE)))) (dvb 3)) (aH)))) (aH))))) (aH)))))) (bI))
 (aF (dE (bV fU (dvb 7) (DE.bor (aE))) (aL (bE (DO.val (cB (aB (DO.val (cB (aB (dv 6) (aB (eG (aB (aW (dvb 1) (DE.bor (aM bM (dvb 4) (DE.bor (aE))))) (aB (aW (DE.bor (aW (dvb 2) (DE.bor (aM bM (dvb 4) (DE.bor (aE)))))) (dvb 5)) (aH)))) (aH))))) (aH)))))) (bI))
 (aL (bE (DO.val (cB (aH)))))))))))))
theorem vI (Z:DefAt K mg "_law_idle" s__law_idle ["_law_script","_law_threads_here","_law_heights_here"]) {PZ:FD} (QB:FnAt P w K mg base "_law_mixed" ["_law_script","_law_k"] 1 PZ) (m_len:mg "len" = none) {F:FD} (len:∀ds Q,F ds Q->ds.length=3) (pure:∀ds Q,F ds Q->fY PZ { nx:=λ_=>Q .non,rt:=Q } (aO ["_law_script","_law_threads_here","_law_heights_here","_law_number","_law_zone","_law_curve","_law_spot","_law_way"] ds)):FnAt P w K mg base "_law_idle" ["_law_script","_law_threads_here","_law_heights_here"] 2 F :=
 Z.ok nK (λcdv A outer s H E hr=>uP QB m_len hr) len pure
theorem lU:FnScope ["_law_found"] ["_law_found"] (aC s__law_whole):=⟨rfl,rfl,rfl,by decide +kernel,rfl,by decide +kernel,by decide +kernel⟩
theorem sP {f:Addr} {cdv:Value} {A:Around} {outer:List Env} {s:Shared} {H:Hp} {E:XK} (m_isinstance:mg "isinstance" = none) (m_bool:mg "bool" = none) (m_int:mg "int" = none) (hr:Room 0 (A.deeper (envOfC "_law_whole" (aC s__law_whole) s.heap.objs.size f cdv))) :
  DSs (cJ CX0 P w K mg base ["_law_found"] "_law_whole" (aC s__law_whole) f cdv A outer s H E).nox (aN s__law_whole) (fF) :=
 have nd:=lU.nd
 aL (bE (EN (qX (JQ _) m_isinstance m_int tM (dv 0)) (EO (KY (qX (GW _) m_isinstance m_bool yS (dv 0))))))
theorem sX (Z:DefAt K mg "_law_whole" s__law_whole ["_law_found"]) (m_isinstance:mg "isinstance" = none) (m_bool:mg "bool" = none) (m_int:mg "int" = none) {F:FD} (len:∀ds Q,F ds Q->ds.length=1) (pure:∀ds Q,F ds Q->fF { nx:=λ_=>Q .non,rt:=Q } (aO ["_law_found"] ds)):FnAt P w K mg base "_law_whole" ["_law_found"] 1 F :=
 Z.ok lU (λcdv A outer s H E hr=>sP m_isinstance m_bool m_int hr) len pure
theorem iV:FnScope ["_law_found"] ["_law_found"] (aC s__law_fraction):=⟨rfl,rfl,rfl,by decide +kernel,rfl,by decide +kernel,by decide +kernel⟩
theorem nV {f:Addr} {cdv:Value} {A:Around} {outer:List Env} {s:Shared} {H:Hp} {E:XK} {QD:FD} (QG:FnAt P w K mg base "_law_divisor" ["_law_one","_law_other"] 1 QD) {QE:FD} (QJ:FnAt P w K mg base "_law_whole" ["_law_found"] 1 QE) (m_len:mg "len" = none) (m_isinstance:mg "isinstance" = none) (m_tuple:mg "tuple" = none) (hr:Room 1 (A.deeper (envOfC "_law_fraction" (aC s__law_fraction) s.heap.objs.size f cdv))) :
  DSs (cJ CX0 P w K mg base ["_law_found"] "_law_fraction" (aC s__law_fraction) f cdv A outer s H E).nox (aN s__law_fraction) (cO QD QE) :=
 have nd:=iV.nd
 aF (dE (DW.tst (mX (iZ (jA (qX (uJ _) m_isinstance m_tuple oW (dv 0)))) (mX (bV zR (DE.bor (dZ m_len (dvb 0))) (DE.bor (aE))) (mX (iZ (jA (aP QJ (hr.mono (by decide)) (aB (aW (dvb 0) (DE.bor (aE))) (aH))))) (qZ (iZ (jA (aP QJ (hr.mono (by decide)) (aB (aW (dvb 0) (DE.bor (aE))) (aH)))))))))) (aL (bE (pA))) (bI))
 (aL (bE (EN (yX FX (DE.bor (aW (dvb 0) (DE.bor (aE)))) (DE.bor (aE))) (EO (yX fU (DE.bor (aP QG (hr.mono (by decide)) (aB (aW (dvb 0) (DE.bor (aE))) (aB (aW (dvb 0) (DE.bor (aE))) (aH))))) (DE.bor (aE)))))))
theorem oI (Z:DefAt K mg "_law_fraction" s__law_fraction ["_law_found"]) {QD:FD} (QG:FnAt P w K mg base "_law_divisor" ["_law_one","_law_other"] 1 QD) {QE:FD} (QJ:FnAt P w K mg base "_law_whole" ["_law_found"] 1 QE) (m_len:mg "len" = none) (m_isinstance:mg "isinstance" = none) (m_tuple:mg "tuple" = none) {F:FD} (len:∀ds Q,F ds Q->ds.length=1) (pure:∀ds Q,F ds Q->cO QD QE { nx:=λ_=>Q .non,rt:=Q } (aO ["_law_found"] ds)):FnAt P w K mg base "_law_fraction" ["_law_found"] 2 F :=
 Z.ok iV (λcdv A outer s H E hr=>nV QG QJ m_len m_isinstance m_tuple hr) len pure
theorem jT:FnScope ["_law_found","_law_one"] ["_law_found"] (aC s__law_is_band):=⟨rfl,rfl,rfl,by decide +kernel,rfl,by decide +kernel,by decide +kernel⟩
theorem pO {f:Addr} {cdv:Value} {A:Around} {outer:List Env} {s:Shared} {H:Hp} {E:XK} {QH:FD} (QW:FnAt P w K mg base "_law_fraction" ["_law_found"] 2 QH) {QE:FD} (QJ:FnAt P w K mg base "_law_whole" ["_law_found"] 1 QE) (m_len:mg "len" = none) (m_isinstance:mg "isinstance" = none) (m_tuple:mg "tuple" = none) (hr:Room 2 (A.deeper (envOfC "_law_is_band" (aC s__law_is_band) s.heap.objs.size f cdv))) :
  DSs (cJ CX0 P w K mg base ["_law_found","_law_one"] "_law_is_band" (aC s__law_is_band) f cdv A outer s H E).nox (aN s__law_is_band) (dW QH QE) :=
 have nd:=jT.nd
 aF (dE (DW.tst (mX (iZ (jA (qX (uJ _) m_isinstance m_tuple oW (dv 0)))) (mX (bV zR (DE.bor (dZ m_len (dvb 0))) (DE.bor (aE))) (qZ (iZ (jA (aP QJ (hr.mono (by decide)) (aB (aW (dvb 0) (DE.bor (aE))) (aH))))))))) (aL (bE (pA))) (bI))
 (aF (dD PassesOwn.never rfl (ET (fK (dvb 0) (gX (aE)) (gW))) (bF nd) (aL (dE (iZ (jA (aP QW (hr.mono (by decide)) (aB (dv 1) (aH))))) (aL (bE (pA))) (bI))))
 (aL (bE (pA))))
theorem pZ (Z:DefAt K mg "_law_is_band" s__law_is_band ["_law_found"]) {QH:FD} (QW:FnAt P w K mg base "_law_fraction" ["_law_found"] 2 QH) {QE:FD} (QJ:FnAt P w K mg base "_law_whole" ["_law_found"] 1 QE) (m_len:mg "len" = none) (m_isinstance:mg "isinstance" = none) (m_tuple:mg "tuple" = none) {F:FD} (len:∀ds Q,F ds Q->ds.length=1) (pure:∀ds Q,F ds Q->dW QH QE { nx:=λ_=>Q .non,rt:=Q } (aO ["_law_found","_law_one"] ds)):FnAt P w K mg base "_law_is_band" ["_law_found"] 3 F :=
 Z.ok jT (λcdv A outer s H E hr=>pO QW QJ m_len m_isinstance m_tuple hr) len pure
theorem lS:FnScope ["_law_found","_law_rows","_law_band"] ["_law_found","_law_rows"] (aC s__law_right):=⟨rfl,rfl,rfl,by decide +kernel,rfl,by decide +kernel,by decide +kernel⟩
theorem sN {f:Addr} {cdv:Value} {A:Around} {outer:List Env} {s:Shared} {H:Hp} {E:XK} {QI:FD} (RB:FnAt P w K mg base "_law_is_band" ["_law_found"] 3 QI) (m_isinstance:mg "isinstance" = none) (m_list:mg "list" = none) (hr:Room 3 (A.deeper (envOfC "_law_right" (aC s__law_right) s.heap.objs.size f cdv))) :
  DSs (cJ CX0 P w K mg base ["_law_found","_law_rows","_law_band"] "_law_right" (aC s__law_right) f cdv A outer s H E).nox (aN s__law_right) (dX QI) :=
 have nd:=lS.nd
 aF (dE (DW.tst (mX (iZ (jA (qX (GX _) m_isinstance m_list yT (dv 0)))) (qZ (bV (zQ hr) (dvb 0) (dvb 1))))) (aL (bE (pA))) (bI))
 (aF (dD PassesOwn.never rfl (fX (dv 0)) (bF nd) (aL (dE (iZ (jA (aP RB (hr.mono (by decide)) (aB (dv 2) (aH))))) (aL (bE (pA))) (bI))))
 (aL (bE (pA))))
theorem sV (Z:DefAt K mg "_law_right" s__law_right ["_law_found","_law_rows"]) {QI:FD} (RB:FnAt P w K mg base "_law_is_band" ["_law_found"] 3 QI) (m_isinstance:mg "isinstance" = none) (m_list:mg "list" = none) {F:FD} (len:∀ds Q,F ds Q->ds.length=2) (pure:∀ds Q,F ds Q->dX QI { nx:=λ_=>Q .non,rt:=Q } (aO ["_law_found","_law_rows","_law_band"] ds)):FnAt P w K mg base "_law_right" ["_law_found","_law_rows"] 4 F :=
 Z.ok lS (λcdv A outer s H E hr=>sN RB m_isinstance m_list hr) len pure
theorem nM:FnScope ["_law_threads_here","_law_heights_here","_law_one","_law_other","_law_number","_law_ring_here","_law_start"] ["_law_threads_here","_law_heights_here","_law_one","_law_other","_law_number"] (aC s__law_ring):=⟨rfl,rfl,rfl,by decide +kernel,rfl,by decide +kernel,by decide +kernel⟩
theorem pU:List.Nodup (["_law_k","_law_threads_here","_law_heights_here","_law_other"]:List Str):=by decide +kernel
theorem pV:List.Nodup (["_law_k","_law_threads_here","_law_heights_here","_law_one"]:List Str):=by decide +kernel
theorem uQ {f:Addr} {cdv:Value} {A:Around} {outer:List Env} {s:Shared} {H:Hp} {E:XK} (m_len:mg "len" = none) (m_list:mg "list" = none) (m_reversed:mg "reversed" = none) (m_range:mg "range" = none) (hr:Room 0 (A.deeper (envOfC "_law_ring" (aC s__law_ring) s.heap.objs.size f cdv))) :
  DSs (cJ CX0 P w K mg base ["_law_threads_here","_law_heights_here","_law_one","_law_other","_law_number","_law_ring_here","_law_start"] "_law_ring" (aC s__law_ring) f cdv A outer s H E).nox (aN s__law_ring) (eQ) :=
 have nd:=nM.nd
 aF (qL ["_law_k","_law_threads_here","_law_heights_here","_law_one"] 1 [0,1,2] nd (gC m_range (aB (dZ m_len (dvb 0)) (aH))) (λcl C s H fp=>bF pV) (λcl C s H fp=>eG (aB (aW (dvb 1) (dvb 0)) (aB (aW (DE.bor (aW (dvb 2) (dvb 0))) (dvb 3)) (aH)))))
 (aF (aY nd (aM lE (dvb 5) (DE.bor (DO.val (vA ["_law_k","_law_threads_here","_law_heights_here","_law_other"] 1 [0,1,3] (HS m_reversed m_range (aB (dZ m_len (dvb 0)) (aH))) (λcl C s H fp=>bF pU) (λcl C s H fp=>eG (aB (aW (dvb 1) (dvb 0)) (aB (aW (DE.bor (aW (dvb 2) (dvb 0))) (dvb 3)) (aH)))))))))
 (aF (dE (bV fU (DE.bor (aM bW (dvb 4) (DE.bor (aE)))) (DE.bor (aE))) (aL (dQ nd (yZ m_list m_reversed rfl (dvb 5)))) (bI))
 (aF (aY nd (aM bW (DE.bor (aM dA (dvb 4) (DE.bor (aE)))) (DE.bor (dZ m_len (dvb 5)))))
 (aL (bE (aM lE (DE.bor (fK (dvb 5) (gX (dv 6)) (gW))) (DE.bor (fK (dvb 5) (gW) (gX (dv 6))))))))))
theorem vJ (Z:DefAt K mg "_law_ring" s__law_ring ["_law_threads_here","_law_heights_here","_law_one","_law_other","_law_number"]) (m_len:mg "len" = none) (m_list:mg "list" = none) (m_reversed:mg "reversed" = none) (m_range:mg "range" = none) {F:FD} (len:∀ds Q,F ds Q->ds.length=5) (pure:∀ds Q,F ds Q->eQ { nx:=λ_=>Q .non,rt:=Q } (aO ["_law_threads_here","_law_heights_here","_law_one","_law_other","_law_number","_law_ring_here","_law_start"] ds)):FnAt P w K mg base "_law_ring" ["_law_threads_here","_law_heights_here","_law_one","_law_other","_law_number"] 1 F :=
 Z.ok nM (λcdv A outer s H E hr=>uQ m_len m_list m_reversed m_range hr) len pure
theorem lT:FnScope ["_law_script","_law_threads_here","_law_heights_here","_law_many","_law_nested","_law_rings_here","_law_k","_law_pair"] ["_law_script","_law_threads_here","_law_heights_here"] (aC s__law_rings):=⟨rfl,rfl,rfl,by decide +kernel,rfl,by decide +kernel,by decide +kernel⟩
theorem sO {f:Addr} {cdv:Value} {A:Around} {outer:List Env} {s:Shared} {H:Hp} {E:XK} {PZ:FD} (QB:FnAt P w K mg base "_law_mixed" ["_law_script","_law_k"] 1 PZ) {QU:FD} (RQ:FnAt P w K mg base "_law_ring" ["_law_threads_here","_law_heights_here","_law_one","_law_other","_law_number"] 1 QU) (m_range:mg "range" = none) (m_int:mg "int" = none) (m_len:mg "len" = none) (hr:Room 1 (A.deeper (envOfC "_law_rings" (aC s__law_rings) s.heap.objs.size f cdv))) :
  DSs (cJ CX0 P w K mg base ["_law_script","_law_threads_here","_law_heights_here","_law_many","_law_nested","_law_rings_here","_law_k","_law_pair"] "_law_rings" (aC s__law_rings) f cdv A outer s H E).nox (aN s__law_rings) (fE PZ QU) :=
 have nd:=lT.nd
 aF (aY nd (dZ m_len (DE.bor (aW (dvb 2) (DE.bor (aE))))))
 (aF (aY nd (yX fU (DE.bor (aM bW (DE.bor (aP QB (hr.mono (by decide)) (aB (dv 0) (aB (aE) (aH))))) (DE.bor (aE)))) (DE.bor (aE))))
 (aF (dQ nd (cB (aH)))
 (aF (dD PassesOwn.never rfl (gC m_range (aB (aM dA (dvb 3) (DE.bor (aE))) (aH))) (bF nd) (aF (aY nd (aW (DE.bor (DO.val (cB (aB (eG (aB (aM eK (DE.bor (aE)) (dvb 6)) (aB (aM bM (DE.bor (aM eK (DE.bor (aE)) (dvb 6))) (DE.bor (aE))) (aH)))) (aB (eG (aB (dv 6) (aB (aM eL (DE.bor (aM eL (dvb 3) (DE.bor (aE)))) (dvb 6)) (aH)))) (aH)))))) (DE.bor (BY KS m_int tM (aB (dv 4) (aH))))))
 (aL (cS 5 (aP RQ (hr.mono (by decide)) (aB (dv 1) (aB (dv 2) (aB (aW (dvb 7) (DE.bor (aE))) (aB (aW (dvb 7) (DE.bor (aE))) (aB (aP QB (hr.mono (by decide)) (aB (dv 0) (aB (aM bM (DE.bor (aE)) (dvb 6)) (aH)))) (aH)))))))))))
 (aL (kI 5 (bE (dv 5)))))))
theorem sW (Z:DefAt K mg "_law_rings" s__law_rings ["_law_script","_law_threads_here","_law_heights_here"]) {PZ:FD} (QB:FnAt P w K mg base "_law_mixed" ["_law_script","_law_k"] 1 PZ) {QU:FD} (RQ:FnAt P w K mg base "_law_ring" ["_law_threads_here","_law_heights_here","_law_one","_law_other","_law_number"] 1 QU) (m_range:mg "range" = none) (m_int:mg "int" = none) (m_len:mg "len" = none) {F:FD} (len:∀ds Q,F ds Q->ds.length=3) (pure:∀ds Q,F ds Q->fE PZ QU { nx:=λ_=>Q .non,rt:=Q } (aO ["_law_script","_law_threads_here","_law_heights_here","_law_many","_law_nested","_law_rings_here","_law_k","_law_pair"] ds)):FnAt P w K mg base "_law_rings" ["_law_script","_law_threads_here","_law_heights_here"] 2 F :=
 Z.ok lT (λcdv A outer s H E hr=>sO QB RQ m_range m_int m_len hr) len pure
theorem hZ:FnScope ["one","other","larger","smaller","rest"] ["one","other"] (aC s_shared_divisor):=⟨rfl,rfl,rfl,by decide +kernel,rfl,by decide +kernel,by decide +kernel⟩
theorem mU {f:Addr} {cdv:Value} {A:Around} {outer:List Env} {s:Shared} {H:Hp} {E:XK} (m_abs:mg "abs" = none) (hr:Room 0 (A.deeper (envOfC "shared_divisor" (aC s_shared_divisor) s.heap.objs.size f cdv))) :
  DSs (cJ CX0 P w K mg base ["one","other","larger","smaller","rest"] "shared_divisor" (aC s_shared_divisor) f cdv A outer s H E).nox (aN s_shared_divisor) (dB) :=
 have nd:=hZ.nd
 aF (aY nd (kH uV m_abs lC (aB (dv 0) (aH))))
 (aF (aY nd (kH uV m_abs lC (aB (dv 1) (aH))))
 (aF (wQ PassesOwn.never (bV zR (dvb 3) (DE.bor (aE))) (aF (aY nd (aM bW (dvb 2) (dvb 3)))
 (aF (aY nd (dv 3))
 (aL (aY nd (dv 4))))))
 (aL (bE (dv 2)))))
theorem nF (Z:DefAt K mg "shared_divisor" s_shared_divisor ["one","other"]) (m_abs:mg "abs" = none) {F:FD} (len:∀ds Q,F ds Q->ds.length=2) (pure:∀ds Q,F ds Q->dB { nx:=λ_=>Q .non,rt:=Q } (aO ["one","other","larger","smaller","rest"] ds)):FnAt P w K mg base "shared_divisor" ["one","other"] 1 F :=
 Z.ok hZ (λcdv A outer s H E hr=>mU m_abs hr) len pure
theorem gN:FnScope ["one","other"] ["one","other"] (aC s_shared_multiple):=⟨rfl,rfl,rfl,by decide +kernel,rfl,by decide +kernel,by decide +kernel⟩
theorem lX {f:Addr} {cdv:Value} {A:Around} {outer:List Env} {s:Shared} {H:Hp} {E:XK} {F_shared_divisor:FD} (QF:FnAt P w K mg base "shared_divisor" ["one","other"] 1 F_shared_divisor) (hr:Room 1 (A.deeper (envOfC "shared_multiple" (aC s_shared_multiple) s.heap.objs.size f cdv))) :
  DSs (cJ CX0 P w K mg base ["one","other"] "shared_multiple" (aC s_shared_multiple) f cdv A outer s H E).nox (aN s_shared_multiple) (cP F_shared_divisor) :=
 have nd:=gN.nd
 aL (bE (aM eK (dvb 0) (DE.bor (aM dA (dvb 1) (DE.bor (aP QF (hr.mono (by decide)) (aB (dv 0) (aB (dv 1) (aH)))))))))
theorem mI (Z:DefAt K mg "shared_multiple" s_shared_multiple ["one","other"]) {F_shared_divisor:FD} (QF:FnAt P w K mg base "shared_divisor" ["one","other"] 1 F_shared_divisor) {F:FD} (len:∀ds Q,F ds Q->ds.length=2) (pure:∀ds Q,F ds Q->cP F_shared_divisor { nx:=λ_=>Q .non,rt:=Q } (aO ["one","other"] ds)):FnAt P w K mg base "shared_multiple" ["one","other"] 2 F :=
 Z.ok gN (λcdv A outer s H E hr=>lX QF hr) len pure
theorem gL:FnScope ["numbers","multiple","number"] ["numbers"] (aC s_lowest_multiple):=⟨rfl,rfl,rfl,by decide +kernel,rfl,by decide +kernel,by decide +kernel⟩
theorem lV {f:Addr} {cdv:Value} {A:Around} {outer:List Env} {s:Shared} {H:Hp} {E:XK} {F_shared_multiple:FD} (QP:FnAt P w K mg base "shared_multiple" ["one","other"] 2 F_shared_multiple) (hr:Room 2 (A.deeper (envOfC "lowest_multiple" (aC s_lowest_multiple) s.heap.objs.size f cdv))) :
  DSs (cJ CX0 P w K mg base ["numbers","multiple","number"] "lowest_multiple" (aC s_lowest_multiple) f cdv A outer s H E).nox (aN s_lowest_multiple) (bO F_shared_multiple) :=
 have nd:=gL.nd
 aF (aY nd (aE))
 (aF (dD PassesOwn.never rfl (fX (dv 0)) (bF nd) (aL (aY nd (aP QP (hr.mono (by decide)) (aB (dv 1) (aB (dv 2) (aH)))))))
 (aL (bE (dv 1))))
theorem mG (Z:DefAt K mg "lowest_multiple" s_lowest_multiple ["numbers"]) {F_shared_multiple:FD} (QP:FnAt P w K mg base "shared_multiple" ["one","other"] 2 F_shared_multiple) {F:FD} (len:∀ds Q,F ds Q->ds.length=1) (pure:∀ds Q,F ds Q->bO F_shared_multiple { nx:=λ_=>Q .non,rt:=Q } (aO ["numbers","multiple","number"] ds)):FnAt P w K mg base "lowest_multiple" ["numbers"] 3 F :=
 Z.ok gL (λcdv A outer s H E hr=>lV QP hr) len pure
theorem pK:FnScope ["side"] ["side"] (aC s_width_of):=⟨rfl,rfl,rfl,by decide +kernel,rfl,by decide +kernel,by decide +kernel⟩
theorem wE {f:Addr} {cdv:Value} {A:Around} {outer:List Env} {s:Shared} {H:Hp} {E:XK} (hr:Room 0 (A.deeper (envOfC "width_of" (aC s_width_of) s.heap.objs.size f cdv))) :
  DSs (cJ CX0 P w K mg base ["side"] "width_of" (aC s_width_of) f cdv A outer s H E).nox (aN s_width_of) (hU) :=
 have nd:=pK.nd
 aL (bE (aM eL (DE.bor (aW (DE.bor (aW (dvb 0) (DE.bor (aE)))) (DE.bor (aE)))) (DE.bor (aW (DE.bor (aW (dvb 0) (DE.bor (aE)))) (DE.bor (aE))))))
theorem xL (Z:DefAt K mg "width_of" s_width_of ["side"]) {F:FD} (len:∀ds Q,F ds Q->ds.length=1) (pure:∀ds Q,F ds Q->hU { nx:=λ_=>Q .non,rt:=Q } (aO ["side"] ds)):FnAt P w K mg base "width_of" ["side"] 1 F :=
 Z.ok pK (λcdv A outer s H E hr=>wE hr) len pure
theorem nN:FnScope ["side","thread","bottom","left","width","climb"] ["side","thread","bottom"] (aC s_height_at):=⟨rfl,rfl,rfl,by decide +kernel,rfl,by decide +kernel,by decide +kernel⟩
theorem uR {f:Addr} {cdv:Value} {A:Around} {outer:List Env} {s:Shared} {H:Hp} {E:XK} {F_width_of:FD} (QV:FnAt P w K mg base "width_of" ["side"] 1 F_width_of) (hr:Room 1 (A.deeper (envOfC "height_at" (aC s_height_at) s.heap.objs.size f cdv))) :
  DSs (cJ CX0 P w K mg base ["side","thread","bottom","left","width","climb"] "height_at" (aC s_height_at) f cdv A outer s H E).nox (aN s_height_at) (dH F_width_of) :=
 have nd:=nN.nd
 aF (aY nd (aW (dvb 0) (DE.bor (aE))))
 (aF (aY nd (aP QV (hr.mono (by decide)) (aB (dv 0) (aH))))
 (aF (aY nd (aM eK (DE.bor (aM eL (DE.bor (aW (DE.bor (aW (dvb 0) (DE.bor (aE)))) (DE.bor (aE)))) (DE.bor (aW (dvb 3) (DE.bor (aE)))))) (DE.bor (aM eL (dvb 1) (DE.bor (aW (dvb 3) (DE.bor (aE))))))))
 (aL (bE (aM eK (DE.bor (aM bM (DE.bor (aM eK (DE.bor (aW (dvb 3) (DE.bor (aE)))) (dvb 4))) (dvb 5))) (DE.bor (aM dA (dvb 2) (dvb 4))))))))
theorem vK (Z:DefAt K mg "height_at" s_height_at ["side","thread","bottom"]) {F_width_of:FD} (QV:FnAt P w K mg base "width_of" ["side"] 1 F_width_of) {F:FD} (len:∀ds Q,F ds Q->ds.length=3) (pure:∀ds Q,F ds Q->dH F_width_of { nx:=λ_=>Q .non,rt:=Q } (aO ["side","thread","bottom","left","width","climb"] ds)):FnAt P w K mg base "height_at" ["side","thread","bottom"] 2 F :=
 Z.ok nN (λcdv A outer s H E hr=>uR QV hr) len pure
theorem gM:FnScope ["sides","column","bottom","heights","lower","upper"] ["sides","column","bottom"] (aC s_ordered_heights):=⟨rfl,rfl,rfl,by decide +kernel,rfl,by decide +kernel,by decide +kernel⟩
theorem jX:List.Nodup (["side","column","bottom"]:List Str):=by decide +kernel
theorem lW {f:Addr} {cdv:Value} {A:Around} {outer:List Env} {s:Shared} {H:Hp} {E:XK} {F_height_at:FD} (RL:FnAt P w K mg base "height_at" ["side","thread","bottom"] 2 F_height_at) (m_zip:mg "zip" = none) (m_sorted:mg "sorted" = none) (hr:Room 2 (A.deeper (envOfC "ordered_heights" (aC s_ordered_heights) s.heap.objs.size f cdv))) :
  DSs (cJ CX0 P w K mg base ["sides","column","bottom","heights","lower","upper"] "ordered_heights" (aC s_ordered_heights) f cdv A outer s H E).nox (aN s_ordered_heights) (bP F_height_at) :=
 have nd:=gM.nd
 aF (qL ["side","column","bottom"] 1 [1,2] nd (fX (dv 0)) (λcl C s H fp=>bF jX) (λcl C s H fp=>eG (aB (aP RL (hr.mono (by decide)) (aB (dv 0) (aB (dv 1) (aB (dv 2) (aH))))) (aB (aP RL (hr.mono (by decide)) (aB (dv 0) (aB (aM bM (dvb 1) (DE.bor (aE))) (aB (dv 2) (aH))))) (aH)))))
 (aF (dQ nd (EY m_sorted (dvb 3)))
 (aF (kI 3 (dD PassesOwn.never rfl (yY m_zip (dv 3) (fK (dvb 3) (gX (aE)) (gW))) (uY rfl (fL (bF nd) (fL (bF nd) (qK)))) (aL (dE (bV xJ (DE.bor (aW (dvb 5) (DE.bor (aE)))) (DE.bor (aW (dvb 4) (DE.bor (aE))))) (aL (wP)) (bI)))))
 (aL (kI 3 (bE (dv 3))))))
theorem mH (Z:DefAt K mg "ordered_heights" s_ordered_heights ["sides","column","bottom"]) {F_height_at:FD} (RL:FnAt P w K mg base "height_at" ["side","thread","bottom"] 2 F_height_at) (m_zip:mg "zip" = none) (m_sorted:mg "sorted" = none) {F:FD} (len:∀ds Q,F ds Q->ds.length=3) (pure:∀ds Q,F ds Q->bP F_height_at { nx:=λ_=>Q .non,rt:=Q } (aO ["sides","column","bottom","heights","lower","upper"] ds)):FnAt P w K mg base "ordered_heights" ["sides","column","bottom"] 3 F :=
 Z.ok gM (λcdv A outer s H E hr=>lW RL m_zip m_sorted hr) len pure
theorem yB:FnScope ["top","bottom","divisor"] ["top","bottom"] (aC s_ratio):=⟨rfl,rfl,rfl,by decide +kernel,rfl,by decide +kernel,by decide +kernel⟩
theorem ED {f:Addr} {cdv:Value} {A:Around} {outer:List Env} {s:Shared} {H:Hp} {E:XK} {F_shared_divisor:FD} (QF:FnAt P w K mg base "shared_divisor" ["one","other"] 1 F_shared_divisor) (hr:Room 1 (A.deeper (envOfC "ratio" (aC s_ratio) s.heap.objs.size f cdv))) :
  DSs (cJ CX0 P w K mg base ["top","bottom","divisor"] "ratio" (aC s_ratio) f cdv A outer s H E).nox (aN s_ratio) (nJ F_shared_divisor) :=
 have nd:=yB.nd
 aF (dE (bV fU (dvb 1) (DE.bor (aE))) (aL (wP)) (bI))
 (aF (aY nd (aP QF (hr.mono (by decide)) (aB (dv 0) (aB (dv 1) (aH)))))
 (aF (dE (bV xJ (dvb 1) (DE.bor (aE))) (aL (aY nd (ER AJ (dvb 2)))) (bI))
 (aL (bE (eG (aB (aM dA (dvb 0) (dvb 2)) (aB (aM dA (dvb 1) (dvb 2)) (aH))))))))
theorem GB (Z:DefAt K mg "ratio" s_ratio ["top","bottom"]) {F_shared_divisor:FD} (QF:FnAt P w K mg base "shared_divisor" ["one","other"] 1 F_shared_divisor) {F:FD} (len:∀ds Q,F ds Q->ds.length=2) (pure:∀ds Q,F ds Q->nJ F_shared_divisor { nx:=λ_=>Q .non,rt:=Q } (aO ["top","bottom","divisor"] ds)):FnAt P w K mg base "ratio" ["top","bottom"] 2 F :=
 Z.ok yB (λcdv A outer s H E hr=>ED QF hr) len pure
theorem jV:FnScope ["sides","column","bottom","heights","rows","low","up","edges"] ["sides","column"] (aC s_column_bands):=⟨rfl,rfl,rfl,by decide +kernel,rfl,by decide +kernel,by decide +kernel⟩
theorem mE:List.Nodup (["height","bottom"]:List Str):=by decide +kernel
theorem mF:List.Nodup (["side"]:List Str):=by decide +kernel
theorem pQ {f:Addr} {cdv:Value} {A:Around} {outer:List Env} {s:Shared} {H:Hp} {E:XK} {F_lowest_multiple:FD} (QN:FnAt P w K mg base "lowest_multiple" ["numbers"] 3 F_lowest_multiple) {F_ordered_heights:FD} (QO:FnAt P w K mg base "ordered_heights" ["sides","column","bottom"] 3 F_ordered_heights) {cM:FD} (RY:FnAt P w K mg base "ratio" ["top","bottom"] 2 cM) {F_width_of:FD} (QV:FnAt P w K mg base "width_of" ["side"] 1 F_width_of) (m_zip:mg "zip" = none) (hr:Room 3 (A.deeper (envOfC "column_bands" (aC s_column_bands) s.heap.objs.size f cdv))) :
  DSs (cJ CX0 P w K mg base ["sides","column","bottom","heights","rows","low","up","edges"] "column_bands" (aC s_column_bands) f cdv A outer s H E).nox (aN s_column_bands) (cF F_lowest_multiple F_ordered_heights cM F_width_of) :=
 have nd:=jV.nd
 aF (aY nd (aP QN (hr.mono (by decide)) (aB (DO.val (vA ["side"] 1 [] (fX (dv 0)) (λcl C s H fp=>bF mF) (λcl C s H fp=>aP QV (hr.mono (by decide)) (aB (dv 0) (aH))))) (aH))))
 (aF (aY nd (aP QO (hr.mono (by decide)) (aB (dv 0) (aB (dv 1) (aB (dv 2) (aH))))))
 (aF (dQ nd (cB (aH)))
 (aF (dD PassesOwn.never rfl (yY m_zip (DO.val (HV (dvb 3))) (DO.val (HW (dvb 3)))) (uY rfl (fL (bF nd) (fL (bF nd) (qK)))) (aL (dE (bV (FY hr) (dvb 5) (dvb 6)) (aF (qL ["height","bottom"] 1 [2] nd (ET (aM lE (dvb 5) (dvb 6))) (λcl C s H fp=>bF mE) (λcl C s H fp=>aP RY (hr.mono (by decide)) (aB (dv 0) (aB (dv 1) (aH)))))
 (aL (cS 4 (eG (aB (dv 1) (aB (aW (dvb 7) (DE.bor (aE))) (aB (aW (dvb 7) (DE.bor (aE))) (aB (aW (dvb 7) (DE.bor (aE))) (aB (aW (dvb 7) (DE.bor (aE))) (aH)))))))))) (bI))))
 (aL (kI 4 (bE (dv 4)))))))
theorem qC (Z:DefAt K mg "column_bands" s_column_bands ["sides","column"]) {F_lowest_multiple:FD} (QN:FnAt P w K mg base "lowest_multiple" ["numbers"] 3 F_lowest_multiple) {F_ordered_heights:FD} (QO:FnAt P w K mg base "ordered_heights" ["sides","column","bottom"] 3 F_ordered_heights) {cM:FD} (RY:FnAt P w K mg base "ratio" ["top","bottom"] 2 cM) {F_width_of:FD} (QV:FnAt P w K mg base "width_of" ["side"] 1 F_width_of) (m_zip:mg "zip" = none) {F:FD} (len:∀ds Q,F ds Q->ds.length=2) (pure:∀ds Q,F ds Q->cF F_lowest_multiple F_ordered_heights cM F_width_of { nx:=λ_=>Q .non,rt:=Q } (aO ["sides","column","bottom","heights","rows","low","up","edges"] ds)):FnAt P w K mg base "column_bands" ["sides","column"] 4 F :=
 Z.ok jV (λcdv A outer s H E hr=>pQ QN QO RY QV m_zip hr) len pure
theorem pJ:FnScope ["ring","sides","one","other"] ["ring"] (aC s_sides_of):=⟨rfl,rfl,rfl,by decide +kernel,rfl,by decide +kernel,by decide +kernel⟩
theorem wD {f:Addr} {cdv:Value} {A:Around} {outer:List Env} {s:Shared} {H:Hp} {E:XK} (m_zip:mg "zip" = none) (hr:Room 0 (A.deeper (envOfC "sides_of" (aC s_sides_of) s.heap.objs.size f cdv))) :
  DSs (cJ CX0 P w K mg base ["ring","sides","one","other"] "sides_of" (aC s_sides_of) f cdv A outer s H E).nox (aN s_sides_of) (hE) :=
 have nd:=pJ.nd
 aF (dQ nd (cB (aH)))
 (aF (dD PassesOwn.never rfl (yY m_zip (dv 0) (aM lE (DE.bor (fK (dvb 0) (gX (aE)) (gW))) (DE.bor (fK (dvb 0) (gW) (gX (aE)))))) (uY rfl (fL (bF nd) (fL (bF nd) (qK)))) (aF (dE (bV xJ (DE.bor (aW (dvb 2) (DE.bor (aE)))) (DE.bor (aW (dvb 3) (DE.bor (aE))))) (aL (cS 1 (eG (aB (dv 2) (aB (dv 3) (aH)))))) (bI))
 (aL (dE (bV xJ (DE.bor (aW (dvb 3) (DE.bor (aE)))) (DE.bor (aW (dvb 2) (DE.bor (aE))))) (aL (cS 1 (eG (aB (dv 3) (aB (dv 2) (aH)))))) (bI)))))
 (aL (kI 1 (bE (dv 1)))))
theorem xK (Z:DefAt K mg "sides_of" s_sides_of ["ring"]) (m_zip:mg "zip" = none) {F:FD} (len:∀ds Q,F ds Q->ds.length=1) (pure:∀ds Q,F ds Q->hE { nx:=λ_=>Q .non,rt:=Q } (aO ["ring","sides","one","other"] ds)):FnAt P w K mg base "sides_of" ["ring"] 1 F :=
 Z.ok pJ (λcdv A outer s H E hr=>wD m_zip hr) len pure
theorem gO:FnScope ["rings","columns","ring","side","column"] ["rings"] (aC s_sides_by_column):=⟨rfl,rfl,rfl,by decide +kernel,rfl,by decide +kernel,by decide +kernel⟩
theorem lY {f:Addr} {cdv:Value} {A:Around} {outer:List Env} {s:Shared} {H:Hp} {E:XK} {F_sides_of:FD} (RV:FnAt P w K mg base "sides_of" ["ring"] 1 F_sides_of) (m_range:mg "range" = none) (hr:Room 1 (A.deeper (envOfC "sides_by_column" (aC s_sides_by_column) s.heap.objs.size f cdv))) :
  DSs (cJ CX0 P w K mg base ["rings","columns","ring","side","column"] "sides_by_column" (aC s_sides_by_column) f cdv A outer s H E).nox (aN s_sides_by_column) (bQ F_sides_of) :=
 have nd:=gO.nd
 aF (HY nd)
 (aF (dD PassesOwn.never rfl (fX (dv 0)) (bF nd) (aL (dD PassesOwn.never rfl (fX (aP RV (hr.mono (by decide)) (aB (dv 2) (aH)))) (bF nd) (aL (dD PassesOwn.never rfl (KZ m_range (aB (aW (DE.bor (aW (dvb 3) (DE.bor (aE)))) (DE.bor (aE))) (aB (aW (DE.bor (aW (dvb 3) (DE.bor (aE)))) (DE.bor (aE))) (aH)))) (bF nd) (aL (HX 1 (dv 4) (dv 3))))))))
 (aL (kI 1 (bE (dv 1)))))
theorem mJ (Z:DefAt K mg "sides_by_column" s_sides_by_column ["rings"]) {F_sides_of:FD} (RV:FnAt P w K mg base "sides_of" ["ring"] 1 F_sides_of) (m_range:mg "range" = none) {F:FD} (len:∀ds Q,F ds Q->ds.length=1) (pure:∀ds Q,F ds Q->bQ F_sides_of { nx:=λ_=>Q .non,rt:=Q } (aO ["rings","columns","ring","side","column"] ds)):FnAt P w K mg base "sides_by_column" ["rings"] 2 F :=
 Z.ok gO (λcdv A outer s H E hr=>lY RV m_range hr) len pure
theorem yA:FnScope ["rings","columns","rows","column"] ["rings"] (aC s_bands):=⟨rfl,rfl,rfl,by decide +kernel,rfl,by decide +kernel,by decide +kernel⟩
theorem EC {f:Addr} {cdv:Value} {A:Around} {outer:List Env} {s:Shared} {H:Hp} {E:XK} {F_column_bands:FD} (RD:FnAt P w K mg base "column_bands" ["sides","column"] 4 F_column_bands) {F_sides_by_column:FD} (QQ:FnAt P w K mg base "sides_by_column" ["rings"] 2 F_sides_by_column) (m_list:mg "list" = none) (m_sorted:mg "sorted" = none) (hr:Room 4 (A.deeper (envOfC "bands" (aC s_bands) s.heap.objs.size f cdv))) :
  PSs (cJ CX0 P w K mg base ["rings","columns","rows","column"] "bands" (aC s_bands) f cdv A outer s H E).nox (aN s_bands) (rM (cJ CX0 P w K mg base ["rings","columns","rows","column"] "bands" (aC s_bands) f cdv A outer s H E).nox (jI F_column_bands F_sides_by_column)) :=
 have nd:=yA.nd
 nY (aY nd (aP QQ (hr.mono (by decide)) (aB (dv 0) (aH))))
 (nY (dQ nd (cB (aH)))
 (nY (dD PassesOwn.never rfl (fX (DO.val (EX m_sorted (DE.bor (DO.val (EW m_list rfl (dv 1))))))) (bF nd) (aL (CB 2 (aP RD (hr.mono (by decide)) (aB (KW hr (dv 1) (dv 3)) (aB (dv 3) (aH)))))))
 (CC 2)))
theorem GA (Z:DefAt K mg "bands" s_bands ["rings"]) {F_column_bands:FD} (RD:FnAt P w K mg base "column_bands" ["sides","column"] 4 F_column_bands) {F_sides_by_column:FD} (QQ:FnAt P w K mg base "sides_by_column" ["rings"] 2 F_sides_by_column) (m_list:mg "list" = none) (m_sorted:mg "sorted" = none) {F:FD} (len:∀ds Q,F ds Q->ds.length=1) (pure:∀ds Q,F ds Q->jI F_column_bands F_sides_by_column { nx:=λ_=>False,rt:=Q } (aO ["rings","columns","rows","column"] ds)):FnAtO P w K mg base "bands" ["rings"] 5 F :=
 Z.okO yA (λcdv A outer s H E hr=>EC RD QQ m_list m_sorted hr) len pure
theorem GU:FnScope ["_law_script","_law_threads_here","_law_heights_here","_law_rows","_law_rings_here","_law_at_here","_law_handed","_law_found"] ["_law_script"] (aC s_law):=⟨rfl,rfl,rfl,by decide +kernel,rfl,by decide +kernel,by decide +kernel⟩
theorem CS:List.Nodup (["_law_ring_here"]:List Str):=by decide +kernel
theorem KP {f:Addr} {cdv:Value} {A:Around} {outer:List Env} {s:Shared} {H:Hp} {E:XK} {QX:FD} (RM:FnAt P w K mg base "_law_bands" ["_law_threads_here","_law_heights_here"] 4 QX) {QS:FD} (RJ:FnAt P w K mg base "_law_curves" ["_law_script"] 3 QS) {RH:FD} (RP:FnAt P w K mg base "_law_idle" ["_law_script","_law_threads_here","_law_heights_here"] 2 RH) {PZ:FD} (QB:FnAt P w K mg base "_law_mixed" ["_law_script","_law_k"] 1 PZ) {QR:FD} (RI:FnAt P w K mg base "_law_right" ["_law_found","_law_rows"] 4 QR) {QY:FD} (RN:FnAt P w K mg base "_law_rings" ["_law_script","_law_threads_here","_law_heights_here"] 2 QY) {cG:FD} (RW:FnAtO P w K mg base "bands" ["rings"] 5 cG) (m_list:mg "list" = none) (m_len:mg "len" = none) (hr:Room 5 (A.deeper (envOfC "law" (aC s_law) s.heap.objs.size f cdv))) :
  DSs (cJ CX0 P w K mg base ["_law_script","_law_threads_here","_law_heights_here","_law_rows","_law_rings_here","_law_at_here","_law_handed","_law_found"] "law" (aC s_law) f cdv A outer s H E).nox (aN s_law) (jJ QX QS RH PZ QR QY cG) :=
 have nd:=GU.nd
 aF (LC (aP RJ (hr.mono (by decide)) (aB (dv 0) (aH))) (uY rfl (fL (bF nd) (fL (bF nd) (qK)))))
 (aF (aY nd (aP RM (hr.mono (by decide)) (aB (dv 1) (aB (dv 2) (aH)))))
 (aF (aY nd (aP RN (hr.mono (by decide)) (aB (dv 0) (aB (dv 1) (aB (dv 2) (aH))))))
 (aF (aY nd (aM bW (DE.bor (aP QB (hr.mono (by decide)) (aB (dv 0) (aB (aE) (aH))))) (DE.bor (aM bM (DE.bor (dZ m_len (dvb 4))) (DE.bor (aE))))))
 (aF (aY nd (aM lE (DE.bor (aM lE (DE.bor (fK (dvb 4) (gW) (gX (dv 5)))) (DE.bor (aP RP (hr.mono (by decide)) (aB (dv 0) (aB (dv 1) (aB (dv 2) (aH)))))))) (DE.bor (fK (dvb 4) (gX (dv 5)) (gW)))))
 (aF (qL ["_law_ring_here"] 1 [] nd (fX (dv 4)) (λcl C s H fp=>bF CS) (λcl C s H fp=>BZ m_list (dvb 0)))
 (aF (kI 6 (dQ nd (qY RW (hr.mono (by decide)) (aB (dv 6) (aH)))))
 (aF (dE (LE 7 (DW.tst (mX (iZ (jA (aP RI (hr.mono (by decide)) (aB (dv 7) (aB (dv 3) (aH)))))) (mX (bV (zQ hr) (dvb 6) (dvb 4)) (qZ (bV (zQ hr) (DE.bor (DO.val (qY RW (hr.mono (by decide)) (aB (DO.val (cB (aH))) (aH))))) (DE.bor (DO.val (cB (aH)))))))))) (aL (bE (pA))) (bI))
 (aF (cS 7 (aE))
 (aL (kI 6 (bE (aP RI (hr.mono (by decide)) (aB (DO.val (qY RW (hr.mono (by decide)) (aB (dv 6) (aH)))) (aB (dv 3) (aH)))))))))))))))
theorem LI {QX:FD} (RM:FnAt P w K mg base "_law_bands" ["_law_threads_here","_law_heights_here"] 4 QX) {QS:FD} (RJ:FnAt P w K mg base "_law_curves" ["_law_script"] 3 QS) {RH:FD} (RP:FnAt P w K mg base "_law_idle" ["_law_script","_law_threads_here","_law_heights_here"] 2 RH) {PZ:FD} (QB:FnAt P w K mg base "_law_mixed" ["_law_script","_law_k"] 1 PZ) {QR:FD} (RI:FnAt P w K mg base "_law_right" ["_law_found","_law_rows"] 4 QR) {QY:FD} (RN:FnAt P w K mg base "_law_rings" ["_law_script","_law_threads_here","_law_heights_here"] 2 QY) {cG:FD} (RW:FnAtO P w K mg base "bands" ["rings"] 5 cG) (m_list:mg "list" = none) (m_len:mg "len" = none) {F:FD} {f:Addr} {fd:FuncData} (Fu:Fun K "law" "law" s_law f fd) (len:∀ds Q,F ds Q->ds.length=1) (pure:∀ds Q,F ds Q->jJ QX QS RH PZ QR QY cG { nx:=λ_=>Q .non,rt:=Q } (aO ["_law_script","_law_threads_here","_law_heights_here","_law_rows","_law_rings_here","_law_at_here","_law_handed","_law_found"] ds)):FnOk P w K mg base CX0 6 f fd ["_law_script"] (spD K F) :=
 JZ Fu GU (λcdv A outer s H E hr=>KP RM RJ RP QB RI RN RW m_list m_len hr) len pure
end
structure TopF (K:PySem.W.Frag) (mg:Str->Option Value):Prop where
 d__law_divisor:DefAt K mg "_law_divisor" s__law_divisor ["_law_one","_law_other"]
 d__law_lowest:DefAt K mg "_law_lowest" s__law_lowest ["_law_top","_law_bottom"]
 d__law_at:DefAt K mg "_law_at" s__law_at ["_law_threads_here","_law_heights_here","_law_zone","_law_k","_law_curve"]
 d__law_bands:DefAt K mg "_law_bands" s__law_bands ["_law_threads_here","_law_heights_here"]
 d__law_cell_at:DefAt K mg "_law_cell_at" s__law_cell_at ["_law_script","_law_k"]
 d__law_mixed:DefAt K mg "_law_mixed" s__law_mixed ["_law_script","_law_k"]
 d__law_heights:DefAt K mg "_law_heights" s__law_heights ["_law_script","_law_many","_law_place"]
 d__law_threads:DefAt K mg "_law_threads" s__law_threads ["_law_script"]
 d__law_curves:DefAt K mg "_law_curves" s__law_curves ["_law_script"]
 d__law_idle:DefAt K mg "_law_idle" s__law_idle ["_law_script","_law_threads_here","_law_heights_here"]
 d__law_whole:DefAt K mg "_law_whole" s__law_whole ["_law_found"]
 d__law_fraction:DefAt K mg "_law_fraction" s__law_fraction ["_law_found"]
 d__law_is_band:DefAt K mg "_law_is_band" s__law_is_band ["_law_found"]
 d__law_right:DefAt K mg "_law_right" s__law_right ["_law_found","_law_rows"]
 d__law_ring:DefAt K mg "_law_ring" s__law_ring ["_law_threads_here","_law_heights_here","_law_one","_law_other","_law_number"]
 d__law_rings:DefAt K mg "_law_rings" s__law_rings ["_law_script","_law_threads_here","_law_heights_here"]
 d_shared_divisor:DefAt K mg "shared_divisor" s_shared_divisor ["one","other"]
 d_shared_multiple:DefAt K mg "shared_multiple" s_shared_multiple ["one","other"]
 d_lowest_multiple:DefAt K mg "lowest_multiple" s_lowest_multiple ["numbers"]
 d_width_of:DefAt K mg "width_of" s_width_of ["side"]
 d_height_at:DefAt K mg "height_at" s_height_at ["side","thread","bottom"]
 d_ordered_heights:DefAt K mg "ordered_heights" s_ordered_heights ["sides","column","bottom"]
 d_ratio:DefAt K mg "ratio" s_ratio ["top","bottom"]
 d_column_bands:DefAt K mg "column_bands" s_column_bands ["sides","column"]
 d_sides_of:DefAt K mg "sides_of" s_sides_of ["ring"]
 d_sides_by_column:DefAt K mg "sides_by_column" s_sides_by_column ["rings"]
 d_bands:DefAt K mg "bands" s_bands ["rings"]
 d_law:DefAt K mg "law" s_law ["_law_script"]
 m_abs:mg "abs" = none
 m_len:mg "len" = none
 m_range:mg "range" = none
 m_tuple:mg "tuple" = none
 m_min:mg "min" = none
 m_isinstance:mg "isinstance" = none
 m_bool:mg "bool" = none
 m_int:mg "int" = none
 m_list:mg "list" = none
 m_reversed:mg "reversed" = none
 m_zip:mg "zip" = none
 m_sorted:mg "sorted" = none
theorem top_mk {K:PySem.W.Frag} {h:Heap} {mg:Str->Option Value} (X:K.In h) (G:h.Ns mainGlobals mg)
  {f0:Addr} {od0 an0:Option Addr} {sl0:Array (Option Value)} {oc0 kV0 dc0 pm0 cd0 ct0:Value}
  {f1:Addr} {od1 an1:Option Addr} {sl1:Array (Option Value)} {oc1 kV1 dc1 pm1 cd1 ct1:Value}
  {f2:Addr} {od2 an2:Option Addr} {sl2:Array (Option Value)} {oc2 kV2 dc2 pm2 cd2 ct2:Value}
  {f3:Addr} {od3 an3:Option Addr} {sl3:Array (Option Value)} {oc3 kV3 dc3 pm3 cd3 ct3:Value}
  {f4:Addr} {od4 an4:Option Addr} {sl4:Array (Option Value)} {oc4 kV4 dc4 pm4 cd4 ct4:Value}
  {f5:Addr} {od5 an5:Option Addr} {sl5:Array (Option Value)} {oc5 kV5 dc5 pm5 cd5 ct5:Value}
  {f6:Addr} {od6 an6:Option Addr} {sl6:Array (Option Value)} {oc6 kV6 dc6 pm6 cd6 ct6:Value}
  {f7:Addr} {od7 an7:Option Addr} {sl7:Array (Option Value)} {oc7 kV7 dc7 pm7 cd7 ct7:Value}
  {f8:Addr} {od8 an8:Option Addr} {sl8:Array (Option Value)} {oc8 kV8 dc8 pm8 cd8 ct8:Value}
  {f9:Addr} {od9 an9:Option Addr} {sl9:Array (Option Value)} {oc9 kV9 dc9 pm9 cd9 ct9:Value}
  {f10:Addr} {od10 an10:Option Addr} {sl10:Array (Option Value)} {oc10 kV10 dc10 pm10 cd10 ct10:Value}
  {f11:Addr} {od11 an11:Option Addr} {sl11:Array (Option Value)} {oc11 kV11 dc11 pm11 cd11 ct11:Value}
  {f12:Addr} {od12 an12:Option Addr} {sl12:Array (Option Value)} {oc12 kV12 dc12 pm12 cd12 ct12:Value}
  {f13:Addr} {od13 an13:Option Addr} {sl13:Array (Option Value)} {oc13 kV13 dc13 pm13 cd13 ct13:Value}
  {f14:Addr} {od14 an14:Option Addr} {sl14:Array (Option Value)} {oc14 kV14 dc14 pm14 cd14 ct14:Value}
  {f15:Addr} {od15 an15:Option Addr} {sl15:Array (Option Value)} {oc15 kV15 dc15 pm15 cd15 ct15:Value}
  {f16:Addr} {od16 an16:Option Addr} {sl16:Array (Option Value)} {oc16 kV16 dc16 pm16 cd16 ct16:Value}
  {f17:Addr} {od17 an17:Option Addr} {sl17:Array (Option Value)} {oc17 kV17 dc17 pm17 cd17 ct17:Value}
  {f18:Addr} {od18 an18:Option Addr} {sl18:Array (Option Value)} {oc18 kV18 dc18 pm18 cd18 ct18:Value}
  {f19:Addr} {od19 an19:Option Addr} {sl19:Array (Option Value)} {oc19 kV19 dc19 pm19 cd19 ct19:Value}
  {f20:Addr} {od20 an20:Option Addr} {sl20:Array (Option Value)} {oc20 kV20 dc20 pm20 cd20 ct20:Value}
  {f21:Addr} {od21 an21:Option Addr} {sl21:Array (Option Value)} {oc21 kV21 dc21 pm21 cd21 ct21:Value}
  {f22:Addr} {od22 an22:Option Addr} {sl22:Array (Option Value)} {oc22 kV22 dc22 pm22 cd22 ct22:Value}
  {f23:Addr} {od23 an23:Option Addr} {sl23:Array (Option Value)} {oc23 kV23 dc23 pm23 cd23 ct23:Value}
  {f24:Addr} {od24 an24:Option Addr} {sl24:Array (Option Value)} {oc24 kV24 dc24 pm24 cd24 ct24:Value}
  {f25:Addr} {od25 an25:Option Addr} {sl25:Array (Option Value)} {oc25 kV25 dc25 pm25 cd25 ct25:Value}
  {f26:Addr} {od26 an26:Option Addr} {sl26:Array (Option Value)} {oc26 kV26 dc26 pm26 cd26 ct26:Value}
  {f27:Addr} {od27 an27:Option Addr} {sl27:Array (Option Value)} {oc27 kV27 dc27 pm27 cd27 ct27:Value}
  (a0:PySem.W.nsIn K mainGlobals "_law_divisor" = some (some (.ref f0))) (l0:K.lookup f0=some ⟨oc0,od0,.func (PySem.W.fnOf "_law_divisor" "_law_divisor" (bA s__law_divisor) (aN s__law_divisor) (aC s__law_divisor) .none kV0 dc0 pm0 an0 cd0 ct0),sl0⟩) (c0:PySem.W.codeIn K cd0 "_law_divisor" = true) (k0:PySem.W.keepIn K (.ref f0)=true)
  (a1:PySem.W.nsIn K mainGlobals "_law_lowest" = some (some (.ref f1))) (l1:K.lookup f1=some ⟨oc1,od1,.func (PySem.W.fnOf "_law_lowest" "_law_lowest" (bA s__law_lowest) (aN s__law_lowest) (aC s__law_lowest) .none kV1 dc1 pm1 an1 cd1 ct1),sl1⟩) (c1:PySem.W.codeIn K cd1 "_law_lowest" = true) (k1:PySem.W.keepIn K (.ref f1)=true)
  (a2:PySem.W.nsIn K mainGlobals "_law_at" = some (some (.ref f2))) (l2:K.lookup f2=some ⟨oc2,od2,.func (PySem.W.fnOf "_law_at" "_law_at" (bA s__law_at) (aN s__law_at) (aC s__law_at) .none kV2 dc2 pm2 an2 cd2 ct2),sl2⟩) (c2:PySem.W.codeIn K cd2 "_law_at" = true) (k2:PySem.W.keepIn K (.ref f2)=true)
  (a3:PySem.W.nsIn K mainGlobals "_law_bands" = some (some (.ref f3))) (l3:K.lookup f3=some ⟨oc3,od3,.func (PySem.W.fnOf "_law_bands" "_law_bands" (bA s__law_bands) (aN s__law_bands) (aC s__law_bands) .none kV3 dc3 pm3 an3 cd3 ct3),sl3⟩) (c3:PySem.W.codeIn K cd3 "_law_bands" = true) (k3:PySem.W.keepIn K (.ref f3)=true)
  (a4:PySem.W.nsIn K mainGlobals "_law_cell_at" = some (some (.ref f4))) (l4:K.lookup f4=some ⟨oc4,od4,.func (PySem.W.fnOf "_law_cell_at" "_law_cell_at" (bA s__law_cell_at) (aN s__law_cell_at) (aC s__law_cell_at) .none kV4 dc4 pm4 an4 cd4 ct4),sl4⟩) (c4:PySem.W.codeIn K cd4 "_law_cell_at" = true) (k4:PySem.W.keepIn K (.ref f4)=true)
  (a5:PySem.W.nsIn K mainGlobals "_law_mixed" = some (some (.ref f5))) (l5:K.lookup f5=some ⟨oc5,od5,.func (PySem.W.fnOf "_law_mixed" "_law_mixed" (bA s__law_mixed) (aN s__law_mixed) (aC s__law_mixed) .none kV5 dc5 pm5 an5 cd5 ct5),sl5⟩) (c5:PySem.W.codeIn K cd5 "_law_mixed" = true) (k5:PySem.W.keepIn K (.ref f5)=true)
  (a6:PySem.W.nsIn K mainGlobals "_law_heights" = some (some (.ref f6))) (l6:K.lookup f6=some ⟨oc6,od6,.func (PySem.W.fnOf "_law_heights" "_law_heights" (bA s__law_heights) (aN s__law_heights) (aC s__law_heights) .none kV6 dc6 pm6 an6 cd6 ct6),sl6⟩) (c6:PySem.W.codeIn K cd6 "_law_heights" = true) (k6:PySem.W.keepIn K (.ref f6)=true)
  (a7:PySem.W.nsIn K mainGlobals "_law_threads" = some (some (.ref f7))) (l7:K.lookup f7=some ⟨oc7,od7,.func (PySem.W.fnOf "_law_threads" "_law_threads" (bA s__law_threads) (aN s__law_threads) (aC s__law_threads) .none kV7 dc7 pm7 an7 cd7 ct7),sl7⟩) (c7:PySem.W.codeIn K cd7 "_law_threads" = true) (k7:PySem.W.keepIn K (.ref f7)=true)
  (a8:PySem.W.nsIn K mainGlobals "_law_curves" = some (some (.ref f8))) (l8:K.lookup f8=some ⟨oc8,od8,.func (PySem.W.fnOf "_law_curves" "_law_curves" (bA s__law_curves) (aN s__law_curves) (aC s__law_curves) .none kV8 dc8 pm8 an8 cd8 ct8),sl8⟩) (c8:PySem.W.codeIn K cd8 "_law_curves" = true) (k8:PySem.W.keepIn K (.ref f8)=true)
  (a9:PySem.W.nsIn K mainGlobals "_law_idle" = some (some (.ref f9))) (l9:K.lookup f9=some ⟨oc9,od9,.func (PySem.W.fnOf "_law_idle" "_law_idle" (bA s__law_idle) (aN s__law_idle) (aC s__law_idle) .none kV9 dc9 pm9 an9 cd9 ct9),sl9⟩) (c9:PySem.W.codeIn K cd9 "_law_idle" = true) (k9:PySem.W.keepIn K (.ref f9)=true)
  (a10:PySem.W.nsIn K mainGlobals "_law_whole" = some (some (.ref f10))) (l10:K.lookup f10=some ⟨oc10,od10,.func (PySem.W.fnOf "_law_whole" "_law_whole" (bA s__law_whole) (aN s__law_whole) (aC s__law_whole) .none kV10 dc10 pm10 an10 cd10 ct10),sl10⟩) (c10:PySem.W.codeIn K cd10 "_law_whole" = true) (k10:PySem.W.keepIn K (.ref f10)=true)
  (a11:PySem.W.nsIn K mainGlobals "_law_fraction" = some (some (.ref f11))) (l11:K.lookup f11=some ⟨oc11,od11,.func (PySem.W.fnOf "_law_fraction" "_law_fraction" (bA s__law_fraction) (aN s__law_fraction) (aC s__law_fraction) .none kV11 dc11 pm11 an11 cd11 ct11),sl11⟩) (c11:PySem.W.codeIn K cd11 "_law_fraction" = true) (k11:PySem.W.keepIn K (.ref f11)=true)
  (a12:PySem.W.nsIn K mainGlobals "_law_is_band" = some (some (.ref f12))) (l12:K.lookup f12=some ⟨oc12,od12,.func (PySem.W.fnOf "_law_is_band" "_law_is_band" (bA s__law_is_band) (aN s__law_is_band) (aC s__law_is_band) .none kV12 dc12 pm12 an12 cd12 ct12),sl12⟩) (c12:PySem.W.codeIn K cd12 "_law_is_band" = true) (k12:PySem.W.keepIn K (.ref f12)=true)
  (a13:PySem.W.nsIn K mainGlobals "_law_right" = some (some (.ref f13))) (l13:K.lookup f13=some ⟨oc13,od13,.func (PySem.W.fnOf "_law_right" "_law_right" (bA s__law_right) (aN s__law_right) (aC s__law_right) .none kV13 dc13 pm13 an13 cd13 ct13),sl13⟩) (c13:PySem.W.codeIn K cd13 "_law_right" = true) (k13:PySem.W.keepIn K (.ref f13)=true)
  (a14:PySem.W.nsIn K mainGlobals "_law_ring" = some (some (.ref f14))) (l14:K.lookup f14=some ⟨oc14,od14,.func (PySem.W.fnOf "_law_ring" "_law_ring" (bA s__law_ring) (aN s__law_ring) (aC s__law_ring) .none kV14 dc14 pm14 an14 cd14 ct14),sl14⟩) (c14:PySem.W.codeIn K cd14 "_law_ring" = true) (k14:PySem.W.keepIn K (.ref f14)=true)
  (a15:PySem.W.nsIn K mainGlobals "_law_rings" = some (some (.ref f15))) (l15:K.lookup f15=some ⟨oc15,od15,.func (PySem.W.fnOf "_law_rings" "_law_rings" (bA s__law_rings) (aN s__law_rings) (aC s__law_rings) .none kV15 dc15 pm15 an15 cd15 ct15),sl15⟩) (c15:PySem.W.codeIn K cd15 "_law_rings" = true) (k15:PySem.W.keepIn K (.ref f15)=true)
  (a16:PySem.W.nsIn K mainGlobals "shared_divisor" = some (some (.ref f16))) (l16:K.lookup f16=some ⟨oc16,od16,.func (PySem.W.fnOf "shared_divisor" "shared_divisor" (bA s_shared_divisor) (aN s_shared_divisor) (aC s_shared_divisor) .none kV16 dc16 pm16 an16 cd16 ct16),sl16⟩) (c16:PySem.W.codeIn K cd16 "shared_divisor" = true) (k16:PySem.W.keepIn K (.ref f16)=true)
  (a17:PySem.W.nsIn K mainGlobals "shared_multiple" = some (some (.ref f17))) (l17:K.lookup f17=some ⟨oc17,od17,.func (PySem.W.fnOf "shared_multiple" "shared_multiple" (bA s_shared_multiple) (aN s_shared_multiple) (aC s_shared_multiple) .none kV17 dc17 pm17 an17 cd17 ct17),sl17⟩) (c17:PySem.W.codeIn K cd17 "shared_multiple" = true) (k17:PySem.W.keepIn K (.ref f17)=true)
  (a18:PySem.W.nsIn K mainGlobals "lowest_multiple" = some (some (.ref f18))) (l18:K.lookup f18=some ⟨oc18,od18,.func (PySem.W.fnOf "lowest_multiple" "lowest_multiple" (bA s_lowest_multiple) (aN s_lowest_multiple) (aC s_lowest_multiple) .none kV18 dc18 pm18 an18 cd18 ct18),sl18⟩) (c18:PySem.W.codeIn K cd18 "lowest_multiple" = true) (k18:PySem.W.keepIn K (.ref f18)=true)
  (a19:PySem.W.nsIn K mainGlobals "width_of" = some (some (.ref f19))) (l19:K.lookup f19=some ⟨oc19,od19,.func (PySem.W.fnOf "width_of" "width_of" (bA s_width_of) (aN s_width_of) (aC s_width_of) .none kV19 dc19 pm19 an19 cd19 ct19),sl19⟩) (c19:PySem.W.codeIn K cd19 "width_of" = true) (k19:PySem.W.keepIn K (.ref f19)=true)
  (a20:PySem.W.nsIn K mainGlobals "height_at" = some (some (.ref f20))) (l20:K.lookup f20=some ⟨oc20,od20,.func (PySem.W.fnOf "height_at" "height_at" (bA s_height_at) (aN s_height_at) (aC s_height_at) .none kV20 dc20 pm20 an20 cd20 ct20),sl20⟩) (c20:PySem.W.codeIn K cd20 "height_at" = true) (k20:PySem.W.keepIn K (.ref f20)=true)
  (a21:PySem.W.nsIn K mainGlobals "ordered_heights" = some (some (.ref f21))) (l21:K.lookup f21=some ⟨oc21,od21,.func (PySem.W.fnOf "ordered_heights" "ordered_heights" (bA s_ordered_heights) (aN s_ordered_heights) (aC s_ordered_heights) .none kV21 dc21 pm21 an21 cd21 ct21),sl21⟩) (c21:PySem.W.codeIn K cd21 "ordered_heights" = true) (k21:PySem.W.keepIn K (.ref f21)=true)
  (a22:PySem.W.nsIn K mainGlobals "ratio" = some (some (.ref f22))) (l22:K.lookup f22=some ⟨oc22,od22,.func (PySem.W.fnOf "ratio" "ratio" (bA s_ratio) (aN s_ratio) (aC s_ratio) .none kV22 dc22 pm22 an22 cd22 ct22),sl22⟩) (c22:PySem.W.codeIn K cd22 "ratio" = true) (k22:PySem.W.keepIn K (.ref f22)=true)
  (a23:PySem.W.nsIn K mainGlobals "column_bands" = some (some (.ref f23))) (l23:K.lookup f23=some ⟨oc23,od23,.func (PySem.W.fnOf "column_bands" "column_bands" (bA s_column_bands) (aN s_column_bands) (aC s_column_bands) .none kV23 dc23 pm23 an23 cd23 ct23),sl23⟩) (c23:PySem.W.codeIn K cd23 "column_bands" = true) (k23:PySem.W.keepIn K (.ref f23)=true)
  (a24:PySem.W.nsIn K mainGlobals "sides_of" = some (some (.ref f24))) (l24:K.lookup f24=some ⟨oc24,od24,.func (PySem.W.fnOf "sides_of" "sides_of" (bA s_sides_of) (aN s_sides_of) (aC s_sides_of) .none kV24 dc24 pm24 an24 cd24 ct24),sl24⟩) (c24:PySem.W.codeIn K cd24 "sides_of" = true) (k24:PySem.W.keepIn K (.ref f24)=true)
  (a25:PySem.W.nsIn K mainGlobals "sides_by_column" = some (some (.ref f25))) (l25:K.lookup f25=some ⟨oc25,od25,.func (PySem.W.fnOf "sides_by_column" "sides_by_column" (bA s_sides_by_column) (aN s_sides_by_column) (aC s_sides_by_column) .none kV25 dc25 pm25 an25 cd25 ct25),sl25⟩) (c25:PySem.W.codeIn K cd25 "sides_by_column" = true) (k25:PySem.W.keepIn K (.ref f25)=true)
  (a26:PySem.W.nsIn K mainGlobals "bands" = some (some (.ref f26))) (l26:K.lookup f26=some ⟨oc26,od26,.func (PySem.W.fnOf "bands" "bands" (bA s_bands) (aN s_bands) (aC s_bands) .none kV26 dc26 pm26 an26 cd26 ct26),sl26⟩) (c26:PySem.W.codeIn K cd26 "bands" = true) (k26:PySem.W.keepIn K (.ref f26)=true)
  (a27:PySem.W.nsIn K mainGlobals "law" = some (some (.ref f27))) (l27:K.lookup f27=some ⟨oc27,od27,.func (PySem.W.fnOf "law" "law" (bA s_law) (aN s_law) (aC s_law) .none kV27 dc27 pm27 an27 cd27 ct27),sl27⟩) (c27:PySem.W.codeIn K cd27 "law" = true) (k27:PySem.W.keepIn K (.ref f27)=true)
  (z0:PySem.W.nsIn K mainGlobals "abs" = some none)
  (z1:PySem.W.nsIn K mainGlobals "len" = some none)
  (z2:PySem.W.nsIn K mainGlobals "range" = some none)
  (z3:PySem.W.nsIn K mainGlobals "tuple" = some none)
  (z4:PySem.W.nsIn K mainGlobals "min" = some none)
  (z5:PySem.W.nsIn K mainGlobals "isinstance" = some none)
  (z6:PySem.W.nsIn K mainGlobals "bool" = some none)
  (z7:PySem.W.nsIn K mainGlobals "int" = some none)
  (z8:PySem.W.nsIn K mainGlobals "list" = some none)
  (z9:PySem.W.nsIn K mainGlobals "reversed" = some none)
  (z10:PySem.W.nsIn K mainGlobals "zip" = some none)
  (z11:PySem.W.nsIn K mainGlobals "sorted" = some none):TopF K mg :=
 ⟨⟨_,_,bJ (st:=s__law_divisor) l0 c0 k0,PySem.W.mg_of X G a0,kD (λ_ _=>rfl)⟩,
  ⟨_,_,bJ (st:=s__law_lowest) l1 c1 k1,PySem.W.mg_of X G a1,kD (λ_ _=>rfl)⟩,
  ⟨_,_,bJ (st:=s__law_at) l2 c2 k2,PySem.W.mg_of X G a2,JU (λ_ _ _ _ _=>rfl)⟩,
  ⟨_,_,bJ (st:=s__law_bands) l3 c3 k3,PySem.W.mg_of X G a3,kD (λ_ _=>rfl)⟩,
  ⟨_,_,bJ (st:=s__law_cell_at) l4 c4 k4,PySem.W.mg_of X G a4,kD (λ_ _=>rfl)⟩,
  ⟨_,_,bJ (st:=s__law_mixed) l5 c5 k5,PySem.W.mg_of X G a5,kD (λ_ _=>rfl)⟩,
  ⟨_,_,bJ (st:=s__law_heights) l6 c6 k6,PySem.W.mg_of X G a6,tH (λ_ _ _=>rfl)⟩,
  ⟨_,_,bJ (st:=s__law_threads) l7 c7 k7,PySem.W.mg_of X G a7,jL (λ_=>rfl)⟩,
  ⟨_,_,bJ (st:=s__law_curves) l8 c8 k8,PySem.W.mg_of X G a8,jL (λ_=>rfl)⟩,
  ⟨_,_,bJ (st:=s__law_idle) l9 c9 k9,PySem.W.mg_of X G a9,tH (λ_ _ _=>rfl)⟩,
  ⟨_,_,bJ (st:=s__law_whole) l10 c10 k10,PySem.W.mg_of X G a10,jL (λ_=>rfl)⟩,
  ⟨_,_,bJ (st:=s__law_fraction) l11 c11 k11,PySem.W.mg_of X G a11,jL (λ_=>rfl)⟩,
  ⟨_,_,bJ (st:=s__law_is_band) l12 c12 k12,PySem.W.mg_of X G a12,jL (λ_=>rfl)⟩,
  ⟨_,_,bJ (st:=s__law_right) l13 c13 k13,PySem.W.mg_of X G a13,kD (λ_ _=>rfl)⟩,
  ⟨_,_,bJ (st:=s__law_ring) l14 c14 k14,PySem.W.mg_of X G a14,JU (λ_ _ _ _ _=>rfl)⟩,
  ⟨_,_,bJ (st:=s__law_rings) l15 c15 k15,PySem.W.mg_of X G a15,tH (λ_ _ _=>rfl)⟩,
  ⟨_,_,bJ (st:=s_shared_divisor) l16 c16 k16,PySem.W.mg_of X G a16,kD (λ_ _=>rfl)⟩,
  ⟨_,_,bJ (st:=s_shared_multiple) l17 c17 k17,PySem.W.mg_of X G a17,kD (λ_ _=>rfl)⟩,
  ⟨_,_,bJ (st:=s_lowest_multiple) l18 c18 k18,PySem.W.mg_of X G a18,jL (λ_=>rfl)⟩,
  ⟨_,_,bJ (st:=s_width_of) l19 c19 k19,PySem.W.mg_of X G a19,jL (λ_=>rfl)⟩,
  ⟨_,_,bJ (st:=s_height_at) l20 c20 k20,PySem.W.mg_of X G a20,tH (λ_ _ _=>rfl)⟩,
  ⟨_,_,bJ (st:=s_ordered_heights) l21 c21 k21,PySem.W.mg_of X G a21,tH (λ_ _ _=>rfl)⟩,
  ⟨_,_,bJ (st:=s_ratio) l22 c22 k22,PySem.W.mg_of X G a22,kD (λ_ _=>rfl)⟩,
  ⟨_,_,bJ (st:=s_column_bands) l23 c23 k23,PySem.W.mg_of X G a23,kD (λ_ _=>rfl)⟩,
  ⟨_,_,bJ (st:=s_sides_of) l24 c24 k24,PySem.W.mg_of X G a24,jL (λ_=>rfl)⟩,
  ⟨_,_,bJ (st:=s_sides_by_column) l25 c25 k25,PySem.W.mg_of X G a25,jL (λ_=>rfl)⟩,
  ⟨_,_,bJ (st:=s_bands) l26 c26 k26,PySem.W.mg_of X G a26,jL (λ_=>rfl)⟩,
  ⟨_,_,bJ (st:=s_law) l27 c27 k27,PySem.W.mg_of X G a27,jL (λ_=>rfl)⟩,
  PySem.W.mg_none_of X G z0,
  PySem.W.mg_none_of X G z1,
  PySem.W.mg_none_of X G z2,
  PySem.W.mg_none_of X G z3,
  PySem.W.mg_none_of X G z4,
  PySem.W.mg_none_of X G z5,
  PySem.W.mg_none_of X G z6,
  PySem.W.mg_none_of X G z7,
  PySem.W.mg_none_of X G z8,
  PySem.W.mg_none_of X G z9,
  PySem.W.mg_none_of X G z10,
  PySem.W.mg_none_of X G z11⟩
theorem law_fn {P:Program} {w:World} {K:PySem.W.Frag} {mg:Str->Option Value} {base:Heap} {f:Addr} {fd:FuncData} (T:TopF K mg) (Fu:Fun K "law" "law" s_law f fd):FnOk P w K mg base CX0 6 f fd ["_law_script"] (spD K (BP 63)):=by
 have QG:=pX (P:=P) (w:=w) (base:=base) T.d__law_divisor T.m_abs (F:=mO) BB oN
 have RK:=rQ (P:=P) (w:=w) (base:=base) T.d__law_lowest QG (F:=AK) IM qE
 have RU:=zS (P:=P) (w:=w) (base:=base) T.d__law_at RK (F:=HA) LS xN
 have RM:=sT (P:=P) (w:=w) (base:=base) T.d__law_bands RU T.m_len T.m_range T.m_tuple (F:=mQ) zI rV
 have QC:=pW (P:=P) (w:=w) (base:=base) T.d__law_cell_at T.m_len (F:=nS) FL oM
 have QB:=sU (P:=P) (w:=w) (base:=base) T.d__law_mixed T.m_len T.m_min (F:=gT) CM rW
 have QZ:=pY (P:=P) (w:=w) (base:=base) T.d__law_heights QC QB T.m_range (F:=kX) wU oO
 have RC:=qA (P:=P) (w:=w) (base:=base) T.d__law_threads QC QB T.m_range (F:=lA) xA oQ
 have RJ:=rP (P:=P) (w:=w) (base:=base) T.d__law_curves QC QZ RC T.m_len T.m_range (F:=mN) zG qD
 have RP:=vI (P:=P) (w:=w) (base:=base) T.d__law_idle QB T.m_len (F:=uN) FM sY
 have QJ:=sX (P:=P) (w:=w) (base:=base) T.d__law_whole T.m_isinstance T.m_bool T.m_int (F:=mS) CO rZ
 have QW:=oI (P:=P) (w:=w) (base:=base) T.d__law_fraction QG QJ T.m_len T.m_isinstance T.m_tuple (F:=uO) FN lI
 have RB:=pZ (P:=P) (w:=w) (base:=base) T.d__law_is_band QW QJ T.m_len T.m_isinstance T.m_tuple (F:=mP) zH oP
 have RI:=sV (P:=P) (w:=w) (base:=base) T.d__law_right RB T.m_isinstance T.m_list (F:=kY) wX rX
 have RQ:=vJ (P:=P) (w:=w) (base:=base) T.d__law_ring T.m_len T.m_list T.m_reversed T.m_range (F:=mR) zJ lO
 have RN:=sW (P:=P) (w:=w) (base:=base) T.d__law_rings QB RQ T.m_range T.m_int T.m_len (F:=kZ) wY rY
 have QF:=nF (P:=P) (w:=w) (base:=base) T.d_shared_divisor T.m_abs (F:=mO) BB lJ
 have QP:=mI (P:=P) (w:=w) (base:=base) T.d_shared_multiple QF (F:=vY) IL kN
 have QN:=mG (P:=P) (w:=w) (base:=base) T.d_lowest_multiple QP (F:=kA) wV fM
 have QV:=xL (P:=P) (w:=w) (base:=base) T.d_width_of (F:=qP) IN tD
 have RL:=vK (P:=P) (w:=w) (base:=base) T.d_height_at QV (F:=oU) BC kM
 have QO:=mH (P:=P) (w:=w) (base:=base) T.d_ordered_heights RL T.m_zip T.m_sorted (F:=kB) wW fN
 have RY:=GB (P:=P) (w:=w) (base:=base) T.d_ratio QF (F:=cM) CN zW
 have RD:=qC (P:=P) (w:=w) (base:=base) T.d_column_bands QN QO RY QV T.m_zip (F:=jZ) wT gZ
 have RV:=xK (P:=P) (w:=w) (base:=base) T.d_sides_of T.m_zip (F:=iD) wZ sZ
 have QQ:=mJ (P:=P) (w:=w) (base:=base) T.d_sides_by_column RV T.m_range (F:=gS) tW fO
 have RW:=GA (P:=P) (w:=w) (base:=base) T.d_bands RD QQ T.m_list T.m_sorted (F:=cG) tV rT
 exact LI RM RJ RP QB RI RN RW T.m_list T.m_len (F:=BP 63) Fu IK GL
end K23
end L2.R2
open PySem PySem.W PyProof.Rows
set_option maxRecDepth 100000 in
set_option maxHeartbeats 0 in
theorem PySem.Challenge.cw_recut_k23_bands_of_curves_holds : PySem.Challenge.rw_recut_k23_bands_of_curves.Holds := by
 w_on;o_law;k_head;(case hw=>w_witness2)
 k_fill
 refine L2.R2.walk_law (l:=PySem.Challenge.rw_recut_k23_bands_of_curves) (k:=6) (x:="_law_script") rfl rfl ⟨rfl,by decide,by decide⟩ (λw h Y=>PySem.W.kIn_of Y) rfl ?F
 case F =>
  intro w mg h KX G
  have T:L2.R2.K23.TopF (L2.KOf KX) mg:=by
   dsimp only[L2.KOf]
   refine' L2.R2.K23.top_mk KX G ?a0 ?l0 ?c0 ?k0 ?a1 ?l1 ?c1 ?k1 ?a2 ?l2 ?c2 ?k2 ?a3 ?l3 ?c3 ?k3 ?a4 ?l4 ?c4 ?k4 ?a5 ?l5 ?c5 ?k5 ?a6 ?l6 ?c6 ?k6 ?a7 ?l7 ?c7 ?k7 ?a8 ?l8 ?c8 ?k8 ?a9 ?l9 ?c9 ?k9 ?a10 ?l10 ?c10 ?k10 ?a11 ?l11 ?c11 ?k11 ?a12 ?l12 ?c12 ?k12 ?a13 ?l13 ?c13 ?k13 ?a14 ?l14 ?c14 ?k14 ?a15 ?l15 ?c15 ?k15 ?a16 ?l16 ?c16 ?k16 ?a17 ?l17 ?c17 ?k17 ?a18 ?l18 ?c18 ?k18 ?a19 ?l19 ?c19 ?k19 ?a20 ?l20 ?c20 ?k20 ?a21 ?l21 ?c21 ?k21 ?a22 ?l22 ?c22 ?k22 ?a23 ?l23 ?c23 ?k23 ?a24 ?l24 ?c24 ?k24 ?a25 ?l25 ?c25 ?k25 ?a26 ?l26 ?c26 ?k26 ?a27 ?l27 ?c27 ?k27 ?z0 ?z1 ?z2 ?z3 ?z4 ?z5 ?z6 ?z7 ?z8 ?z9 ?z10 ?z11
   (case a0=>k_is);(case l0=>k_is);(case c0=>k_is);(case k0=>k_is)
   (case a1=>k_is);(case l1=>k_is);(case c1=>k_is);(case k1=>k_is)
   (case a2=>k_is);(case l2=>k_is);(case c2=>k_is);(case k2=>k_is)
   (case a3=>k_is);(case l3=>k_is);(case c3=>k_is);(case k3=>k_is)
   (case a4=>k_is);(case l4=>k_is);(case c4=>k_is);(case k4=>k_is)
   (case a5=>k_is);(case l5=>k_is);(case c5=>k_is);(case k5=>k_is)
   (case a6=>k_is);(case l6=>k_is);(case c6=>k_is);(case k6=>k_is)
   (case a7=>k_is);(case l7=>k_is);(case c7=>k_is);(case k7=>k_is)
   (case a8=>k_is);(case l8=>k_is);(case c8=>k_is);(case k8=>k_is)
   (case a9=>k_is);(case l9=>k_is);(case c9=>k_is);(case k9=>k_is)
   (case a10=>k_is);(case l10=>k_is);(case c10=>k_is);(case k10=>k_is)
   (case a11=>k_is);(case l11=>k_is);(case c11=>k_is);(case k11=>k_is)
   (case a12=>k_is);(case l12=>k_is);(case c12=>k_is);(case k12=>k_is)
   (case a13=>k_is);(case l13=>k_is);(case c13=>k_is);(case k13=>k_is)
   (case a14=>k_is);(case l14=>k_is);(case c14=>k_is);(case k14=>k_is)
   (case a15=>k_is);(case l15=>k_is);(case c15=>k_is);(case k15=>k_is)
   (case a16=>k_is);(case l16=>k_is);(case c16=>k_is);(case k16=>k_is)
   (case a17=>k_is);(case l17=>k_is);(case c17=>k_is);(case k17=>k_is)
   (case a18=>k_is);(case l18=>k_is);(case c18=>k_is);(case k18=>k_is)
   (case a19=>k_is);(case l19=>k_is);(case c19=>k_is);(case k19=>k_is)
   (case a20=>k_is);(case l20=>k_is);(case c20=>k_is);(case k20=>k_is)
   (case a21=>k_is);(case l21=>k_is);(case c21=>k_is);(case k21=>k_is)
   (case a22=>k_is);(case l22=>k_is);(case c22=>k_is);(case k22=>k_is)
   (case a23=>k_is);(case l23=>k_is);(case c23=>k_is);(case k23=>k_is)
   (case a24=>k_is);(case l24=>k_is);(case c24=>k_is);(case k24=>k_is)
   (case a25=>k_is);(case l25=>k_is);(case c25=>k_is);(case k25=>k_is)
   (case a26=>k_is);(case l26=>k_is);(case c26=>k_is);(case k26=>k_is)
   (case a27=>k_is);(case l27=>k_is);(case c27=>k_is);(case k27=>k_is)
   (case z0=>k_is)
   (case z1=>k_is)
   (case z2=>k_is)
   (case z3=>k_is)
   (case z4=>k_is)
   (case z5=>k_is)
   (case z6=>k_is)
   (case z7=>k_is)
   (case z8=>k_is)
   (case z9=>k_is)
   (case z10=>k_is)
   (case z11=>k_is)
  exact T.d_law.okL λbase f fd Fu=>L2.R2.K23.law_fn T Fu

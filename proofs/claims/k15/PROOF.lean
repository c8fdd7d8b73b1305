import PyProof.Rows.All
import Wide.All
import OpenK.AllK
import Wide.FinOn
import Lean
import PyProof.EqAt
import PyProof.EqKinds
import PyProof.TupleCall
import PySem.Challenge.RW_recut_k15_what_two_have_in_common
set_option compiler.extract_closed false
local macro_rules | `(tactic| omega)=>`(tactic| lia)
local macro_rules | `(tactic| walk_at "vis")=>`(tactic| first | exact Or.inl rfl | exact Or.inr (Or.inl rfl) | exact Or.inr (Or.inr rfl) | exact Or.inr rfl)
local macro_rules | `(tactic| walk_at "loc")=>`(tactic| first | exact .inl rfl | exact .inr rfl | assumption)
set_option Elab.async false
set_option linter.all false
set_option maxRecDepth 100000
namespace L2
open PySem PySem.Spec PyProof.Rows
noncomputable abbrev Key:=Sum Int Str
noncomputable def TR:Key->Value->Bool
 | .inl k,v=>Value.isInt k v
 | .inr x,v=>Value.isStrOf x v
noncomputable def ZU (w:World):Key->Int
 | .inl k=>hashInt k
 | .inr x=>hashStr w x
theorem cN:∀{k:Key} {v:Value},TR k v=true->(∃i t,k=Sum.inl i/\v=Value.int i t)\/(∃x t,k=Sum.inr x/\v=Value.str x t)
 | .inl i,v,h=>by
  obtain⟨t,e⟩:=Value.isInt_shape (k:=i) (v:=v) h
  exact .inl ⟨i,t,rfl,e⟩
 | .inr x,v,h=>by
  obtain⟨t,e⟩:=Value.isStrOf_shape (x:=x) (v:=v) h
  exact .inr ⟨x,t,rfl,e⟩
theorem VE (a b:Int):decide ((Sum.inl a:Key)=Sum.inl b)=(a == b):=by
 by_cases e:a=b
 ·subst e;simp
 ·have h:¬(Sum.inl a:Key)=Sum.inl b:=λq=>e (Sum.inl.inj q)
  rw[decide_eq_false h]
  exact (beq_eq_false_iff_ne.mpr e).symm
theorem VH (a b:Str):decide ((Sum.inr a:Key)=Sum.inr b)=decide (a=b):=by
 by_cases e:a=b
 ·subst e;simp
 ·have h:¬(Sum.inr a:Key)=Sum.inr b:=λq=>e (Sum.inr.inj q)
  rw[decide_eq_false h,decide_eq_false e]
theorem VF (a:Int) (b:Str):decide ((Sum.inl a:Key)=Sum.inr b)=false:=decide_eq_false (λq=>nomatch q)
theorem VG (a:Str) (b:Int):decide ((Sum.inr a:Key)=Sum.inl b)=false:=decide_eq_false (λq=>nomatch q)
noncomputable def GU (prog:Program) (w:World):PySem.KeyKind prog w Key where
 is:=TR
 hash:=ZU w
 inj:=λv a b ha hb=>by
  rcases cN ha with ⟨i,t,rfl,rfl⟩ | ⟨x,t,rfl,rfl⟩
  ·rcases cN hb with ⟨j,u,rfl,e⟩ | ⟨y,u,rfl,e⟩
   ·injection e with e1 _;rw[e1]
   ·exact nomatch e
  ·rcases cN hb with ⟨j,u,rfl,e⟩ | ⟨y,u,rfl,e⟩
   ·exact nomatch e
   ·injection e with e1 _;rw[e1]
 byValue:=λk v h=>by
  rcases cN h with ⟨i,t,rfl,rfl⟩ | ⟨x,t,rfl,rfl⟩ <;> rfl
 pyHash:=λhv h=>by
  rcases cN hv with ⟨i,t,rfl,rfl⟩ | ⟨x,t,rfl,rfl⟩
  ·exact wpAny_pyHash_int h
  ·exact wpAny_pyHash_str h
 eqBool:=λhu hv h=>by
  rcases cN hu with ⟨i,t,rfl,rfl⟩ | ⟨x,t,rfl,rfl⟩
  ·rcases cN hv with ⟨j,u,rfl,rfl⟩ | ⟨y,u,rfl,rfl⟩
   ·rw[VE] at h;exact wpAny_eqBool_int h
   ·rw[VF] at h;exact SeqAt.EqAt.int_str i t y u _ _ _ _ h
  ·rcases cN hv with ⟨j,u,rfl,rfl⟩ | ⟨y,u,rfl,rfl⟩
   ·rw[VG] at h;exact SeqAt.EqAt.str_int x t j u _ _ _ _ h
   ·rw[VH] at h;exact wpAny_eqBool_str h
 «strs»:=λk x t v h=>by
  rcases cN h with ⟨i,u,rfl,e⟩ | ⟨y,u,rfl,e⟩
  ·exact nomatch e
  ·injection e with e1 _
   subst e1
   cases v <;> rfl
end L2
namespace L2
open PySem PySem.Spec PyProof.Rows
inductive V where
 | non | bl (b:Bool) | int (i:Int) | str (x:Str) | byt (b:Array UInt8) | flt (b:UInt64) | ref (a:Addr) | ty (n:String)
 deriving DecidableEq
noncomputable def RelV:V->Value->Prop
 | .non,u=>u=Value.none
 | .bl b,u=>u=Value.bool b
 | .int i,u=>∃t,u=Value.int i t
 | .str x,u=>∃t,u=Value.str x t
 | .byt b,u=>∃t,u=Value.bytes b t
 | .flt b,u=>∃t,u=Value.float b t
 | .ref a,u=>u=Value.ref a
 | .ty n,u=>u=Value.type n
noncomputable abbrev Vals:List V->List Value->Prop:=Paired RelV
theorem Vals.length {xs:List V} {us:List Value} (r:Vals xs us):xs.length=us.length:=Paired.length r
theorem Vals.get:∀{xs:List V} {us:List Value} {i:Nat} {x:V},Vals xs us->xs[i]? = some x->∃u,us[i]? = some u/\RelV x u
 | _,_,_,_,.nil,e=>by simp at e
 | _,_,0,_,.cons r _,e=>by simp at e;subst e;exact⟨_,rfl,r⟩
 | _,_,i+1,x,.cons _ t,e=>by
  obtain⟨u,h1,h2⟩:=Vals.get (i:=i) (x:=x) t (by simpa using e)
  exact⟨u,by simpa using h1,h2⟩
theorem Vals.set {x:V} {u:Value} (r:RelV x u):∀{xs:List V} {us:List Value} (i:Nat),Vals xs us->Vals (xs.set i x) (us.set i u)
 | _,_,_,.nil=>.nil
 | _,_,0,.cons _ t=>.cons r t
 | _,_,i+1,.cons q t=>.cons q (Vals.set r i t)
theorem Vals.append:∀{xs ys:List V} {us ws:List Value},Vals xs us->Vals ys ws->Vals (xs++ys) (us++ws)
 | _,_,_,_,.nil,s=>s
 | _,_,_,_,.cons r t,s=>.cons r (Vals.append t s)
theorem Vals.take:∀{xs:List V} {us:List Value} (n:Nat),Vals xs us->Vals (xs.take n) (us.take n)
 | _,_,0,_=>.nil
 | _,_,_+1,.nil=>.nil
 | _,_,n+1,.cons r t=>.cons r (Vals.take n t)
theorem Vals.drop:∀{xs:List V} {us:List Value} (n:Nat),Vals xs us->Vals (xs.drop n) (us.drop n)
 | _,_,0,r=>r
 | _,_,_+1,.nil=>.nil
 | _,_,n+1,.cons _ t=>Vals.drop n t
noncomputable def UD:Option V->Option Value->Prop
 | some v,some u=>RelV v u
 | none,none=>True
 | _,_=>False
noncomputable def KV {κ:Type}:List (κ × V)->List (κ × Value)->Prop:=Paired λ(p:κ × V) (q:κ × Value)=>p.1=q.1/\RelV p.2 q.2
noncomputable def kV:Key->V
 | .inl i=>.int i
 | .inr x=>.str x
inductive HO where
  | lst (xs:List V)
  | tup (xs:List V)
  | dK (kvs:List (Key × V)) | dT (kvs:List (List Key × V))
  | set (S:Int->Bool) (n:Nat)
  | ins (C dx:Addr) (fs:List (Str × V))
  | own (x:Addr)
  | xd (fs:List (Str × V))
  | met (f x:Addr)
  | rng (lo hi:Int)
  | frz (o:Obj) (u:HO)
  | tbl (ps:Array Value)
  | ext (φ:Heap->Prop)
noncomputable abbrev Hp:=Addr->Option HO
noncomputable def upd (H:Hp) (a:Addr) (o:HO):Hp:=λb=>if b=a then some o else H b
theorem bQ {H:Hp} {a:Addr} {o:HO}:upd H a o a=some o:=by unfold upd;rw[if_pos rfl]
theorem aO {H:Hp} {a b:Addr} {o:HO} (h:b≠a):upd H a o b=H b:=by unfold upd;rw[if_neg h]
theorem GV {H:Hp} {a b:Addr} {o u:HO} (h:H a=some o) (h':H b=some u) (d:o≠u):a≠b:=by
 intro e;subst e;rw[h] at h';exact d (Option.some.inj h')
theorem aT {H:Hp} {a b:Addr} {o:HO} (h:H a=some o) (h':H b=none):a≠b:=by
 intro e;subst e;rw[h] at h';cases h'
section
variable (P:Program) (w:World)
noncomputable def ObjOk (H:Hp) (h:Heap) (a:Addr):HO->Prop
 | .lst xs=>xs.length<=sizeLine/\∃(its:List Value) (n:Nat),Vals xs its/\h.get? a=some { cls:=.type "list",data:=.seq its.toArray n }
 | .tup xs=>xs.length<=sizeLine/\∃its:List Value,Vals xs its/\IsTup h a its.toArray
 | .dK kvs=>kvs.length<=sizeLine/\(a == sysModules)=false/\∃vs,KV kvs vs/\h.DictOf (GU P w) a vs
 | .dT kvs=>kvs.length<=sizeLine/\(a == sysModules)=false/\∃xs:List (List Key × Addr × Value),
   Paired (λ(p:List Key × V) (q:List Key × Addr × Value)=>p.1=q.1/\H q.2.1=some (.tup (p.1.map kV))/\RelV p.2 q.2.2) kvs xs /\
   ∃o es ep,h.get? a=some o/\o.ExactDict/\o.data = .dict es ep/\es.toList=xs.map (entryOfKey (tupleKind (GU P w)))/\(xs.map (·.1)).Nodup
 | .set S n=>h.SetOf (intKind P w) a S n
 | .ins C dx fs=>H dx=some (.own a)/\fs.length<=1000/\dx≠a/\h.get? a=some (PySem.W.instObj C dx) /\
   ∃mA,h.Ns1 dx mA/\(∀f,UD (fs.lookup f) (mA f))/\PySem.Within mA (fs.map (·.1))
 | .own _=>∃o,h.get? a=some o
 | .xd fs=>∃mA,h.Ns1 a mA/\∀f,UD (fs.lookup f) (mA f)
 | .rng lo hi=>∃t u v,h.get? a=some { cls:=.type "range",data:=.fields #[.int lo t,.int hi u,.int 1 v] }
 | .frz o u=>h.get? a=some o/\ObjOk H h a u
 | .tbl ps=>h.get? a=some { cls:=.none,data:=.fields ps }
 | .met f x=>h.get? a=some (PySem.W.methodObj (.ref f) (.ref x))
 | .ext φ=>φ h/\(∃o,h.get? a=some o)/\∀h1 h2:Heap,φ h1->(∀o,h1.get? a=some o->h2.get? a=some o)->φ h2
noncomputable def HOk (H:Hp) (h:Heap):Prop:=∀a o,H a=some o->ObjOk P w H h a o
end
section
variable {P:Program} {w:World} {H H':Hp} {h h':Heap} {a:Addr} {o:HO}
theorem ObjOk.lt (x:ObjOk P w H h a o):a<h.objs.size:=by
 cases o with
 | lst xs=>obtain⟨_,_,_,_,e⟩:=x;exact Heap.lt_size e
 | tup xs=>obtain⟨_,_,_,p⟩:=x;exact p.lt
 | dK kvs=>obtain⟨_,_,_,_,o,_,_,e,_⟩:=x;exact Heap.lt_size e
 | dT kvs=>obtain⟨_,_,_,_,o,_,_,e,_⟩:=x;exact Heap.lt_size e
 | set S n=>obtain⟨o,_,_,_,e,_⟩:=x;exact Heap.lt_size e
 | ins C dx fs=>obtain⟨_,_,_,e,_⟩:=x;exact Heap.lt_size e
 | own y=>obtain⟨_,e⟩:=x;exact Heap.lt_size e
 | xd fs=>obtain⟨_,⟨_,_,_,e,_⟩,_⟩:=x;exact Heap.lt_size e
 | rng lo hi=>obtain⟨_,_,_,e⟩:=x;exact Heap.lt_size e
 | frz ob u=>obtain⟨e,_⟩:=x;exact Heap.lt_size e
 | tbl ps=>exact Heap.lt_size (show h.get? a=some _ from x)
 | met f y=>exact Heap.lt_size (show h.get? a=some _ from x)
 | ext φ=>obtain⟨_,⟨_,e⟩,_⟩:=x;exact Heap.lt_size e
theorem Paired.mapP {α β:Type} {F G:α->β->Prop}:∀{l₁:List α} {l₂:List β},Paired F l₁ l₂->(∀a b,F a b->G a b)->Paired G l₁ l₂
 | _,_,.nil,_=>.nil
 | _,_,.cons r t,f=>.cons (f _ _ r) (Paired.mapP t f)
theorem ObjOk.stay (x:ObjOk P w H h a o) (k:∀b u,(b=a\/H b=some (.own a))->h.get? b=some u->h'.get? b=some u)
  (ho:∀b,H b=some (.own a)->H' b=some (.own a)) (ht:∀b xs,H b=some (.tup xs)->H' b=some (.tup xs)):ObjOk P w H' h' a o:=by
 induction o with
 | lst xs=>obtain⟨z,its,n,r,e⟩:=x;exact⟨z,its,n,r,k _ _ (.inl rfl) e⟩
 | tup xs=>obtain⟨z,its,r,ob,e,c⟩:=x;exact⟨z,its,r,ob,k _ _ (.inl rfl) e,c⟩
 | dK kvs=>obtain⟨z,y,vs,r,ob,es,ep,e,c⟩:=x;exact⟨z,y,vs,r,ob,es,ep,k _ _ (.inl rfl) e,c⟩
 | dT kvs =>
  obtain⟨z,y,xs,r,ob,es,ep,e,c⟩:=x
  exact⟨z,y,xs,Paired.mapP r λp q z=>⟨z.1,ht _ _ z.2.1,z.2.2⟩,ob,es,ep,k _ _ (.inl rfl) e,c⟩
 | set S n=>obtain⟨ob,es,ep,t,e,c⟩:=x;exact⟨ob,es,ep,t,k _ _ (.inl rfl) e,c⟩
 | ins C dx fs =>
  obtain⟨d,z,ne,e,mA,⟨od,es,ep,e2,c⟩,r⟩:=x
  exact⟨ho _ d,z,ne,k _ _ (.inl rfl) e,mA,⟨od,es,ep,k _ _ (.inr d) e2,c⟩,r⟩
 | own y=>obtain⟨ob,e⟩:=x;exact⟨ob,k _ _ (.inl rfl) e⟩
 | xd fs=>obtain⟨mA,⟨od,es,ep,e,c⟩,r⟩:=x;exact⟨mA,⟨od,es,ep,k _ _ (.inl rfl) e,c⟩,r⟩
 | rng lo hi=>obtain⟨t,u,v,e⟩:=x;exact⟨t,u,v,k _ _ (.inl rfl) e⟩
 | frz ob u ih=>obtain⟨e,q⟩:=x;exact⟨k _ _ (.inl rfl) e,ih q⟩
 | tbl ps =>
  have e:h.get? a=some { cls:=.none,data:=.fields ps }:=x
  show h'.get? a=some { cls:=.none,data:=.fields ps }
  exact k a _ (.inl rfl) e
 | met f y =>
  have e:h.get? a=some (PySem.W.methodObj (.ref f) (.ref y)):=x
  show h'.get? a=some (PySem.W.methodObj (.ref f) (.ref y))
  exact k a _ (.inl rfl) e
 | ext φ=>obtain⟨p,⟨o,e⟩,st⟩:=x;exact⟨st _ _ p λo q=>k _ _ (.inl rfl) q,⟨o,k _ _ (.inl rfl) e⟩,st⟩
theorem HOk.lt (x:HOk P w H h) (e:H a=some o):a<h.objs.size:=(x a o e).lt
theorem HOk.fresh (x:HOk P w H h) (e:h.objs.size<=a):H a=none:=by
 cases q:H a with
 | none=>rfl
 | some u=>exact absurd (Nat.lt_of_lt_of_le (x.lt q) e) (Nat.lt_irrefl _)
theorem HOk.kept (x:HOk P w H h) (k:∀b u,h.get? b=some u->h'.get? b=some u):HOk P w H h':=λa o e =>
 (x a o e).stay (λb u _ q=>k b u q) (λ_ q=>q) λ_ _ q=>q
theorem HOk.laid (x:HOk P w H h) (k:∀b u,h.get? b=some u->h'.get? b=some u) (hp:h.objs.size<=a) (new:ObjOk P w (upd H a o) h' a o):HOk P w (upd H a o) h':=λb u e=>by
 have hn:=x.fresh hp
 by_cases hb:b=a
 ·subst hb;rw[bQ] at e;cases e;exact new
 ·rw[aO hb] at e
  exact (x b u e).stay (λc v _ q=>k c v q) (λc q=>by rw[aO (aT q hn)];exact q) λc xs q=>by rw[aO (aT q hn)];exact q
end
noncomputable def Rd (H:Hp) (a:Addr) (u:HO):Prop:=H a=some u\/∃o,H a=some (.frz o u)
theorem Rd.ok {P:Program} {w:World} {H:Hp} {h:Heap} {a:Addr} {u:HO} (r:Rd H a u) (x:HOk P w H h):ObjOk P w H h a u:=by
 rcases r with r | ⟨o,r⟩
 ·exact x a u r
 ·obtain⟨_,q⟩:=x a _ r
  exact q
noncomputable def Mut:Option HO->Prop
 | some (.lst _)=>True
 | some (.dK _)=>True
 | some (.dT _)=>True
 | some (.set _ _)=>True
 | some (.ins _ _ _)=>True
 | some (.ext _)=>True
 | _=>False
section
variable {P:Program} {w:World} {H:Hp} {h h':Heap} {x e:Addr} {o':HO}
theorem HOk.write (ok:HOk P w H h) (mu:Mut (H x)) (he:e=x\/H e=some (.own x)) (k:∀b u,b≠e->h.get? b=some u->h'.get? b=some u) (heo:∃u,h'.get? e=some u)
  (new:ObjOk P w (upd H x o') h' x o'):HOk P w (upd H x o') h':=λb u q=>by
 have nown:∀c y,H c=some (.own y)->c≠x:=λc y r z=>by subst z;rw[r] at mu;exact mu
 have ntup:∀c xs,H c=some (.tup xs)->c≠x:=λc xs r z=>by subst z;rw[r] at mu;exact mu
 by_cases hb:b=x
 ·subst hb;rw[bQ] at q;cases q;exact new
 ·rw[aO hb] at q
  by_cases hbe:b=e
  ·have q':H b=some (.own x):=by
    rcases he with z | z
    ·exact absurd (hbe.trans z) hb
    ·rw[hbe];exact z
   rw[q] at q';cases q'
   obtain⟨v,hv⟩:=heo
   exact⟨v,by rw[hbe];exact hv⟩
  ·refine (ok b u q).stay (λc v hc r=>k c v ?_ r) (λc r=>by rw[aO (nown c b r)];exact r) λc xs r=>by rw[aO (ntup c xs r)];exact r
   rcases hc with rfl | hc
   ·exact hbe
   ·rintro rfl
    rcases he with z | z
    ·exact nown c b hc z
    ·rw[hc] at z;cases z;exact hb rfl
end
structure Un (fs ex:List Addr) (H H':Hp) (h h':Heap):Prop where
 keep:∀b o,h.get? b=some o->H b=none->b ∉ fs->b ∉ ex->h'.get? b=some o
 slot:∀b o,h.get? b=some o->H b=none->b∈fs->b ∉ ex->∃sl,h'.get? b=some { o with slots:=sl }
 free:∀b o,h.get? b=some o->H b=none->b ∉ ex->H' b=none
 there:∀b o,h.get? b=some o->b ∉ ex->∃o',h'.get? b=some o'
 tups:∀b xs,H b=some (.tup xs)->H' b=some (.tup xs)
 frzs:∀b o u,H b=some (.frz o u)->H' b=some (.frz o u)
 tbls:∀b ps,H b=some (.tbl ps)->∃more,H' b=some (.tbl (ps++more))
section
variable {fs fs' ex ex':List Addr} {H H1 H2:Hp} {h h1 h2 h':Heap} {a x e:Addr} {o:HO}
theorem Un.any (u:Un fs ex H H1 h h1) {b:Addr} {ob:Obj} (q:h.get? b=some ob) (n:H b=none) (hx:b ∉ ex):∃sl,h1.get? b=some { ob with slots:=sl }:=by
 by_cases hb:b∈fs
 ·exact u.slot b ob q n hb hx
 ·exact⟨ob.slots,u.keep b ob q n hb hx⟩
theorem Un.kept (k:∀b u,h.get? b=some u->h'.get? b=some u):Un fs ex H H h h' :=
 ⟨λb ob q _ _ _=>k b ob q,λb ob q _ _ _=>⟨ob.slots,k b ob q⟩,λ_ _ _ n _=>n,λb ob q _=>⟨ob,k b ob q⟩,λ_ _ q=>q,λ_ _ _ q=>q,λ_ ps q=>⟨#[],by rw[q];simp⟩⟩
theorem Un.refl:Un fs ex H H h h:=Un.kept λ_ _ q=>q
theorem Un.laid (k:∀b u,h.get? b=some u->h'.get? b=some u) (hp:h.objs.size<=a) (hn:H a=none):Un fs ex H (upd H a o) h h' where
 keep:=λb u q _ _ _=>k b u q
 slot:=λb u q _ _ _=>⟨u.slots,k b u q⟩
 free:=λb u q n _=>by rw[aO (Nat.ne_of_lt (Nat.lt_of_lt_of_le (Heap.lt_size q) hp))];exact n
 there:=λb u q _=>⟨u,k b u q⟩
 tups:=λb xs q=>by rw[aO (aT q hn)];exact q
 frzs:=λb u xs q=>by rw[aO (aT q hn)];exact q
 tbls:=λb ps q=>⟨#[],by rw[aO (aT q hn),q];simp⟩
theorem Un.write (mu:Mut (H x)) (he:e=x\/H e=some (.own x)) (k:∀b u,b≠e->h.get? b=some u->h'.get? b=some u) (heo:∃u,h'.get? e=some u):Un fs ex H (upd H x o) h h':=by
 have hx:∀b,H b=none->b≠x:=λb n z=>by subst z;rw[n] at mu;exact mu
 have hb:∀b,H b=none->b≠e:=λb n z=>by
  subst z
  rcases he with r | r
  ·exact hx b n r
  ·rw[n] at r;cases r
 have hm:∀b u,H b=some u->¬Mut (some u)->b≠x:=λb u q nm z=>by subst z;rw[q] at mu;exact nm mu
 refine⟨λb u q n _ _=>k b u (hb b n) q,λb u q n _ _=>⟨u.slots,k b u (hb b n) q⟩,λb u q n _=>by rw[aO (hx b n)];exact n,λb u q _=>?_,
  λb xs q=>by rw[aO (hm b _ q λz=>z)];exact q,λb u xs q=>by rw[aO (hm b _ q λz=>z)];exact q,λb ps q=>⟨#[],by rw[aO (hm b _ q λz=>z),q];simp⟩⟩
 by_cases hbe:b=e
 ·subst hbe;exact heo
 ·exact⟨u,k b u hbe q⟩
theorem Un.mono (u:Un fs ex H H1 h h1) (hs:∀b∈fs,b∈fs') (hx:∀b∈ex,b∈ex'):Un fs' ex' H H1 h h1 :=
 ⟨λb ob q n hb he=>u.keep b ob q n (λz=>hb (hs b z)) λz=>he (hx b z),λ_ _ q n _ he=>u.any q n λz=>he (hx _ z),λb ob q n he=>u.free b ob q n λz=>he (hx b z),λb ob q he=>u.there b ob q λz=>he (hx b z),u.tups,u.frzs,u.tbls⟩
end
noncomputable def trk (h:Heap) (H:Hp):List Addr:=(List.range h.objs.size).filter λa=>(H a).isSome
noncomputable def yI (h:Heap) (H:Hp):Heap:=PySem.W.hideAll h (trk h H)
theorem IY (h:Heap) (H:Hp):(yI h H).objs.size=h.objs.size:=PySem.W.hideAll_size _ _
theorem MW {h:Heap} {H:Hp} {b:Addr} {o:Obj} (e:h.get? b=some o) (n:H b=none):(yI h H).get? b=some o :=
 PySem.W.hideAll_get _ e λhm=>by
  have q:(H b).isSome=true:=(List.mem_filter.mp hm).2
  rw[n] at q;simp at q
theorem QV {h:Heap} {H:Hp} {b:Addr} {o:Obj} (e:(yI h H).get? b=some o):h.get? b=some o/\H b=none:=by
 have e':h.get? b=some o:=PySem.W.of_hideAll (trk h H) e
 refine⟨e',?_⟩
 cases q:H b with
 | none=>rfl
 | some x =>
  have hm:b∈trk h H:=List.mem_filter.mpr ⟨List.mem_range.mpr (Heap.lt_size e'),by simp[q]⟩
  have z:(yI h H).get? b=none:=PySem.W.hideAll_none (trk h H) hm
  rw[z] at e;cases e
noncomputable def PR (g h:Heap) (L:Addr):List (Addr × Obj):=(List.range h.objs.size).filterMap λa=>if a=L\/(g.get? a).isSome=true then none else (h.get? a).map λo=>(a,o)
noncomputable def rest (g h:Heap) (L d:Addr):List (Addr × Obj):=(PR g h L).filter λp=>decide (p.1≠d)
end L2
namespace L2
open PySem PySem.Spec PyProof.Rows
structure Mod (K:PySem.W.Frag) (mg:Str->Option Value) (base:Heap):Prop where
 kin:K.In base
 glob:base.Ns mainGlobals mg
 blt:∃mb,base.Ns builtinsNs mb/\∀x:Str,x≠"__name__"->mb x=bootBuiltins x
 nolimit:base.NoLimit
structure Cx where
 prog:Program
 w:World
 K:PySem.W.Frag
 mg:Str->Option Value
 base:Heap
 A:Around
 N:List Str
 s₀:Shared
 H₀:Hp
 env:Env
 outer:List Env
 stack:List Env
 ex:List Addr
 fn:Str->Bool
 calm:Bool
 pn:List (Addr × Obj)
 xe:Value->Shared->Prop
noncomputable def frs (l:List Env):List Addr:=l.filterMap (·.frame)
noncomputable abbrev Cx.fs (X:Cx):List Addr:=frs X.outer
noncomputable def Vis (sc:Scope) (x:Str):Prop:=sc.names.lookup x=some .local\/sc.names.lookup x=some .cell\/sc.names.lookup x=some .free
noncomputable def Loc (sc:Scope) (x:Str):Prop:=sc.names.lookup x=some .local\/sc.names.lookup x=some .cell
noncomputable def ZL (env:Env) (h:Heap) (m:Str->Option Value) (x:Str) (u:Value):Prop :=
 (env.kindOf x=some .local/\m x=some u)\/((env.kindOf x=some .cell\/env.kindOf x=some .free)/\∃c,env.cells.lookup x=some c/\h.IsCell c (some u))
structure Cx.Ok (X:Cx):Prop where
 mod:Mod X.K X.mg X.base
 kind:X.env.scope.kind = .function
 glob:X.env.globals=mainGlobals
 blt:X.env.builtins=builtinsNs
 above:X.s₀.heap.objs.size<=X.env.locals
 inj:∀x y c,X.env.cells.lookup x=some c->X.env.cells.lookup y=some c->x=y
 has:∀x,(X.env.kindOf x=some .cell\/X.env.kindOf x=some .free)->∃c,X.env.cells.lookup x=some c
 cab:∀x c,X.fn x=true->X.env.cells.lookup x=some c->X.s₀.heap.objs.size<=c
 hd:X.calm=true->X.A.handled=none
 frames:X.A.frames=some X.stack
 stk:X.stack=X.outer\/(X.stack=X.env::X.outer/\X.env.frame=some X.env.locals)
 exf:∀b∈X.ex,b≠X.env.locals/\∀x c,X.env.cells.lookup x=some c->c≠b
 bs:∀b o,X.base.get? b=some o->X.s₀.heap.get? b=some o/\X.H₀ b=none
 bsz:X.base.objs.size<=X.s₀.heap.objs.size
 noex:∀b o,X.base.get? b=some o->b ∉ X.ex
 exfs:∀b∈X.ex,b ∉ X.fs
 funs:X.s₀.heap.FunFrames X.base X.outer
 frf:∀b∈X.fs,X.H₀ b=none
structure Inv (X:Cx) (pins:List (Addr × Obj)) (σ:List (Option V)) (H:Hp) (s:Shared):Prop where
 ok:X.Ok
 os:s.os=X.s₀.os
 bare:AllBare s.gens
 base:Un X.fs X.ex X.H₀ H X.s₀.heap s.heap
 loc:∃m,s.heap.Ns X.env.locals m/\∀(i:Nat) (x:Str) (v:V),X.N[i]? = some x->σ[i]? = some (some v)->Vis X.env.scope x->∃u,RelV v u/\ZL X.env s.heap m x u
 cell:∀x c,X.env.cells.lookup x=some c->∃v,s.heap.IsCell c v
 free:H X.env.locals=none
 freeC:∀x c,X.env.cells.lookup x=some c->H c=none
 pin:∀p∈X.pn++pins,s.heap.get? p.1=some p.2/\H p.1=none/\p.1≠X.env.locals/\p.1 ∉ X.fs/\∀v,p.2.data≠.cell v
 hok:HOk X.prog X.w H s.heap
 len:σ.length=X.N.length
section
variable {X:Cx} {pins:List (Addr × Obj)} {σ:List (Option V)} {H H':Hp} {s:Shared} {h':Heap}
theorem Cx.Ok.nofr (ok:X.Ok) {b:Addr} {o:Obj} (e:X.base.get? b=some o):b ∉ X.fs:=λhb=>by
 have:=(ok.funs.mem hb).1
 rw[e] at this;cases this
theorem Inv.bs (I:Inv X pins σ H s):∀b o,X.base.get? b=some o->s.heap.get? b=some o/\H b=none:=λb o e =>
 ⟨I.base.keep b o (I.ok.bs b o e).1 (I.ok.bs b o e).2 (I.ok.nofr e) (I.ok.noex b o e),I.base.free b o (I.ok.bs b o e).1 (I.ok.bs b o e).2 (I.ok.noex b o e)⟩
theorem Inv.bk (I:Inv X pins σ H s):∀b o,X.base.get? b=some o->s.heap.get? b=some o:=λb o e=>(I.bs b o e).1
theorem Inv.mod (I:Inv X pins σ H s):Mod X.K X.mg X.base:=I.ok.mod
theorem Inv.kIn (I:Inv X pins σ H s):X.K.In s.heap:=I.ok.mod.kin.keeps I.bk
theorem Inv.lt (I:Inv X pins σ H s):X.env.locals<s.heap.objs.size:=let ⟨_,hn,_⟩:=I.loc;hn.lt
theorem Inv.sz (I:Inv X pins σ H s):X.s₀.heap.objs.size<=s.heap.objs.size:=Nat.le_trans I.ok.above (Nat.le_of_lt I.lt)
theorem Inv.nofs (I:Inv X pins σ H s) {a:Addr} (h:s.heap.objs.size<=a):a ∉ X.fs:=λhb=>by
 obtain⟨_,o,ho,_⟩:=I.ok.funs.mem hb
 exact absurd (Nat.lt_of_lt_of_le (Heap.lt_size ho) (Nat.le_trans I.sz h)) (Nat.lt_irrefl _)
theorem Inv.cne (I:Inv X pins σ H s):∀x c,X.env.cells.lookup x=some c->c≠X.env.locals:=λx c e z=>by
 obtain⟨v,o,ho,hd⟩:=I.cell x c e
 obtain⟨m,⟨o',es,ep,ho',hd',_⟩,_⟩:=I.loc
 rw[z,ho'] at ho;cases ho;rw[hd'] at hd;cases hd
theorem Inv.funs (I:Inv X pins σ H s):s.heap.FunFrames X.base X.outer:=by
 have all:∀(l:List Env),(∀b∈frs l,b∈X.fs)->X.s₀.heap.FunFrames X.base l->s.heap.FunFrames X.base l:=by
  intro l
  induction l with
  | nil=>intro _ _;trivial
  | cons env r ih =>
   intro hs hl
   obtain⟨hk,⟨L,o,hf,hn,ho,hd⟩,hr⟩:=hl
   have hL:L∈X.fs:=hs L (by unfold frs;rw[List.filterMap_cons,hf];exact List.mem_cons_self)
   obtain⟨sl,e⟩:=I.base.slot L o ho (I.ok.frf L hL) hL λz=>I.ok.exfs L z hL
   exact⟨hk,⟨L,_,hf,hn,e,hd⟩,ih (λb hb=>hs b (by unfold frs;rw[List.filterMap_cons,hf];exact List.mem_cons_of_mem _ hb)) hr⟩
 exact all X.outer (λ_ hb=>hb) I.ok.funs
theorem Inv.stack (I:Inv X pins σ H s):s.heap.FunFrames X.base X.stack:=by
 rcases I.ok.stk with e | ⟨e,hf⟩
 ·rw[e];exact I.funs
 ·rw[e]
  obtain⟨m,hn,_⟩:=I.loc
  refine .cons (by rw[I.ok.kind];decide) hf hn ?_ I.funs
  exact Heap.get?_none_of_le (Nat.le_trans I.ok.bsz I.ok.above)
theorem Inv.stkSub (I:Inv X pins σ H s):∀b∈frs X.stack,b∈X.env.locals::X.fs:=λb hb=>by
 rcases I.ok.stk with e | ⟨e,hf⟩
 ·rw[e] at hb;exact List.mem_cons_of_mem _ hb
 ·rw[e] at hb
  unfold frs at hb
  rw[List.filterMap_cons,hf] at hb
  exact hb
theorem Inv.stkFree (I:Inv X pins σ H s):∀b∈frs X.stack,H b=none:=λb hb=>by
 rcases List.mem_cons.mp (I.stkSub b hb) with e | hb
 ·rw[e];exact I.free
 ·obtain⟨_,o,ho,_⟩:=I.ok.funs.mem hb
  exact I.base.free b o ho (I.ok.frf b hb) λz=>I.ok.exfs b z hb
theorem Inv.step {g':Array GenState} {t':Nat} {d':Drawn} {ch:List Addr} (I:Inv X pins σ H s)
  (hch:∀b∈ch,(b∈X.ex\/X.s₀.heap.objs.size<=b)/\b≠X.env.locals/\(∀x c,X.env.cells.lookup x=some c->c≠b)/\∀p∈X.pn++pins,p.1≠b)
  (keep:∀b o,b≠X.env.locals->b ∉ X.fs->b ∉ ch->s.heap.get? b=some o->H b=none->h'.get? b=some o)
  (slot:∀b o,b≠X.env.locals->b∈X.fs->b ∉ ch->s.heap.get? b=some o->H b=none->∃sl,h'.get? b=some { o with slots:=sl }) (free:∀b o,b ∉ ch->s.heap.get? b=some o->H b=none->H' b=none)
  (there:∀b o,b ∉ ch->s.heap.get? b=some o->∃o',h'.get? b=some o')
  (tups:∀b xs,H b=some (.tup xs)->H' b=some (.tup xs)) (frzs:∀b o u,H b=some (.frz o u)->H' b=some (.frz o u)) (tbls:∀b ps,H b=some (.tbl ps)->∃more,H' b=some (.tbl (ps++more)))
  (ns:∀m,s.heap.Ns X.env.locals m->h'.Ns X.env.locals m) (hok:HOk X.prog X.w H' h') (hg:AllBare g') :
  Inv X pins σ H' { s with heap:=h',gens:=g',drawn:=d',toks:=t' }:=by
 have neL:∀b o,X.s₀.heap.get? b=some o->b≠X.env.locals:=λb o e=>Nat.ne_of_lt (Nat.lt_of_lt_of_le (Heap.lt_size e) I.ok.above)
 have neC:∀b o,X.s₀.heap.get? b=some o->b ∉ X.ex->b ∉ ch:=λb o e hx hb=>by
  rcases (hch b hb).1 with z | z
  ·exact hx z
  ·exact absurd (Nat.lt_of_lt_of_le (Heap.lt_size e) z) (Nat.lt_irrefl _)
 have cellK:∀x c,X.env.cells.lookup x=some c->∀v,s.heap.IsCell c v->h'.IsCell c v:=λx c e v ⟨o,ho,hd⟩=>by
  have nch:c ∉ ch:=λz=>(hch c z).2.2.1 x c e rfl
  by_cases hc:c∈X.fs
  ·obtain⟨sl,q⟩:=slot c o (I.cne x c e) hc nch ho (I.freeC x c e)
   exact⟨_,q,hd⟩
  ·exact⟨o,keep c o (I.cne x c e) hc nch ho (I.freeC x c e),hd⟩
 refine⟨I.ok,I.os,hg,⟨λb o e n hb hx=>?_,λb o e n hb hx=>?_,λb o e n hx=>?_,λb o e hx=>?_,λb xs e=>tups b xs (I.base.tups b xs e),λb o xs e=>frzs b o xs (I.base.frzs b o xs e),λb ps e=>?_⟩,?_,λx c e=>?_,?_,λx c e=>?_,λp hp=>?_,hok,I.len⟩
 ·exact keep b o (neL b o e) hb (neC b o e hx) (I.base.keep b o e n hb hx) (I.base.free b o e n hx)
 ·obtain⟨sl,e1⟩:=I.base.slot b o e n hb hx
  obtain⟨sl',e2⟩:=slot b _ (neL b o e) hb (neC b o e hx) e1 (I.base.free b o e n hx)
  exact⟨sl',e2⟩
 ·obtain⟨o',e1⟩:=I.base.there b o e hx
  exact free b o' (neC b o e hx) e1 (I.base.free b o e n hx)
 ·obtain⟨o',e1⟩:=I.base.there b o e hx
  exact there b o' (neC b o e hx) e1
 ·obtain⟨m1,e1⟩:=I.base.tbls b ps e
  obtain⟨m2,e2⟩:=tbls b _ e1
  exact⟨m1++m2,by rw[e2,Array.append_assoc]⟩
 ·obtain⟨m,hn,hl⟩:=I.loc
  refine⟨m,ns m hn,λi x v e1 e2 e3=>?_⟩
  obtain⟨u,r,l⟩:=hl i x v e1 e2 e3
  refine⟨u,r,?_⟩
  rcases l with l | ⟨k,c,e,z⟩
  ·exact .inl l
  ·exact .inr ⟨k,c,e,cellK x c e _ z⟩
 ·obtain⟨v,z⟩:=I.cell x c e
  exact⟨v,cellK x c e v z⟩
 ·obtain⟨m,⟨o,_,_,ho,_⟩,_⟩:=I.loc
  exact free _ o (λz=>(hch _ z).2.1 rfl) ho I.free
 ·obtain⟨v,o,ho,hd⟩:=I.cell x c e
  exact free c o (λz=>(hch c z).2.2.1 x c e rfl) ho (I.freeC x c e)
 ·obtain⟨e,n,ne,nf,d⟩:=I.pin p hp
  have nch:p.1 ∉ ch:=λz=>(hch p.1 z).2.2.2 p hp rfl
  exact⟨keep p.1 p.2 ne nf nch e n,free p.1 p.2 nch e n,ne,nf,d⟩
theorem Inv.un {t':Nat} (I:Inv X pins σ H s) (u:Un X.fs [] H H' s.heap h') (hok:HOk X.prog X.w H' h'):Inv X pins σ H' { s with heap:=h',toks:=t' }:=by
 obtain⟨m,⟨o,es,ep,ho,r⟩,_⟩:=id I.loc
 obtain⟨sl,hL⟩:=u.any ho I.free (by simp)
 exact I.step (g':=s.gens) (d':=s.drawn) (ch:=[]) (λ_ z=>nomatch z) (λb o _ hb _ e n=>u.keep b o e n hb (by simp)) (λb o _ hb _ e n=>u.slot b o e n hb (by simp)) (λb o _ e n=>u.free b o e n (by simp)) (λb o _ e=>u.there b o e (by simp)) u.tups u.frzs u.tbls (λm' hm=>by
  obtain⟨o',es',ep',ho',r'⟩:=hm
  rw[ho] at ho';cases ho'
  exact⟨_,es',ep',hL,r'⟩) hok I.bare
theorem Inv.call {g':Array GenState} {t':Nat} {d':Drawn} {ch:List Addr} (I:Inv X pins σ H s) (u:Un (frs X.stack) ch H H' s.heap h') (hok:HOk X.prog X.w H' h') (hg:AllBare g')
  (hch:∀b∈ch,(b∈X.ex\/X.s₀.heap.objs.size<=b)/\b≠X.env.locals/\(∀x c,X.env.cells.lookup x=some c->c≠b)/\∀p∈X.pn++pins,p.1≠b) :
  Inv X pins σ H' { s with heap:=h',gens:=g',drawn:=d',toks:=t' }:=by
 obtain⟨m,⟨o,es,ep,ho,r⟩,_⟩:=id I.loc
 obtain⟨sl,hL⟩:=u.any ho I.free λz=>(hch _ z).2.1 rfl
 exact I.step (ch:=ch) hch (λb o hL hb hc e n=>u.keep b o e n (λz=>(List.mem_cons.mp (I.stkSub b z)).elim hL hb) hc) (λb o _ _ hc e n=>u.any e n hc) (λb o hc e n=>u.free b o e n hc) (λb o hc e=>u.there b o e hc) u.tups u.frzs u.tbls (λm' hm=>by
  obtain⟨o',es',ep',ho',r'⟩:=hm
  rw[ho] at ho';cases ho'
  exact⟨_,es',ep',hL,r'⟩) hok hg
theorem Inv.turned {t':Nat} {it:Addr} (I:Inv X pins σ H s) (k:∀b o,b≠it->s.heap.get? b=some o->h'.get? b=some o) (hn:H it=none) (hL:it≠X.env.locals)
  (h1:it∈X.ex\/X.s₀.heap.objs.size<=it) (h2:∀x c,X.env.cells.lookup x=some c->c≠it) (h3:∀p∈X.pn++pins,p.1≠it):Inv X pins σ H { s with heap:=h',toks:=t' }:=by
 have nit:∀b u,H b=some u->b≠it:=λb u e z=>by rw[z,hn] at e;cases e
 refine I.step (g':=s.gens) (d':=s.drawn) (ch:=[it]) (λb hb=>?_) (λb o _ _ hc e _=>k b o (λz=>hc (by simp[z])) e) (λb o _ _ hc e _=>⟨o.slots,k b o (λz=>hc (by simp[z])) e⟩) (λ_ _ _ _ n=>n)
  (λb o hc e=>⟨o,k b o (λz=>hc (by simp[z])) e⟩) (λ_ _ e=>e) (λ_ _ _ e=>e) (λb ps e=>⟨#[],by rw[e];simp⟩) (λm hm=>?_) (λb u e=>?_) I.bare
 ·have e:b=it:=by simpa using hb
  subst e
  exact⟨h1,hL,h2,h3⟩
 ·obtain⟨o,es,ep,ho,r⟩:=hm
  exact⟨o,es,ep,k _ o (Ne.symm hL) ho,r⟩
 ·refine (I.hok b u e).stay (λc v hc q=>k c v ?_ q) (λ_ q=>q) λ_ _ q=>q
  rcases hc with z | z
  ·rw[z];exact nit b u e
  ·exact nit c _ z
theorem Inv.tok (I:Inv X pins σ H s) (t:Nat):Inv X pins σ H { s with toks:=t }:=I.un (h':=s.heap) (t':=t) Un.refl I.hok
theorem Inv.kept {t':Nat} (I:Inv X pins σ H s) (k:∀b u,s.heap.get? b=some u->h'.get? b=some u):Inv X pins σ H { s with heap:=h',toks:=t' }:=I.un (Un.kept k) (I.hok.kept k)
theorem Inv.laid {a:Addr} {o:HO} {t':Nat} (I:Inv X pins σ H s) (k:∀b u,s.heap.get? b=some u->h'.get? b=some u) (hp:s.heap.objs.size<=a) (new:ObjOk X.prog X.w (upd H a o) h' a o) :
  Inv X pins σ (upd H a o) { s with heap:=h',toks:=t' }:=I.un (Un.laid k hp (I.hok.fresh hp)) (I.hok.laid k hp new)
theorem Inv.write {x e:Addr} {o:HO} {t':Nat} (I:Inv X pins σ H s) (mu:Mut (H x)) (he:e=x\/H e=some (.own x)) (k:∀b u,b≠e->s.heap.get? b=some u->h'.get? b=some u) (heo:∃u,h'.get? e=some u)
  (new:ObjOk X.prog X.w (upd H x o) h' x o):Inv X pins σ (upd H x o) { s with heap:=h',toks:=t' }:=I.un (Un.write mu he k heo) (I.hok.write mu he k heo new)
theorem Inv.pins_of {pins':List (Addr × Obj)} (I:Inv X pins σ H s) (h:∀p∈pins',s.heap.get? p.1=some p.2/\H p.1=none/\p.1≠X.env.locals/\p.1 ∉ X.fs/\∀v,p.2.data≠.cell v):Inv X pins' σ H s :=
 ⟨I.ok,I.os,I.bare,I.base,I.loc,I.cell,I.free,I.freeC,λp hp=>(List.mem_append.mp hp).elim (λz=>I.pin p (List.mem_append_left _ z)) (h p),I.hok,I.len⟩
theorem BI {N:List Str} (hN:N.Nodup) {i j:Nat} {x:Str} (a:N[i]? = some x) (b:N[j]? = some x):i=j:=by
 obtain⟨h1,e1⟩:=List.getElem?_eq_some_iff.mp a
 obtain⟨h2,e2⟩:=List.getElem?_eq_some_iff.mp b
 exact (List.getElem_inj hN).mp (e1.trans e2.symm)
theorem xD {M:Model} {A:Around} {E:Value->Shared->Prop} {i:Nat} {x:Str} {v:V} {u:Value} {Q:Unit->Shared->Prop} (I:Inv X pins σ H s) (hN:X.N.Nodup) (hi:X.N[i]? = some x) (hx:Loc X.env.scope x) (r:RelV v u)
  (h:∀s',Inv X pins (σ.set i (some v)) H s'->(∃a,Heap.SameBut a s.heap s'.heap/\(a=X.env.locals\/X.env.cells.lookup x=some a))->Q () s') (hf:X.fn x=true\/X.env.scope.names.lookup x=some .local:=by walk_at "loc"):wpAny M A (storeName X.env x u) Q E s:=by
 obtain⟨m,hn,hl⟩:=id I.loc
 have hcls:(X.env.scope.kind == .class || (X.env.scope.kind == .module && X.env.locals != X.env.globals))=false:=by rw[I.ok.kind];rfl
 have hiσ:i<σ.length:=by rw[I.len];exact (List.getElem?_eq_some_iff.mp hi).1
 have cne:=I.cne
 have tracked:∀{a:Addr} {h':Heap},(∃o,s.heap.get? a=some o/\H a=none)->Heap.SameBut a s.heap h'->HOk X.prog X.w H h':=λ{a h'} ha hs b ob e=>by
  obtain⟨_,_,hfree⟩:=ha
  refine (I.hok b ob e).stay (λc w' hc q=>(hs.2 c ?_).trans q) (λ_ q=>q) λ_ _ q=>q
  rintro rfl
  rcases hc with rfl | hc
  ·rw[hfree] at e;cases e
  ·rw[hfree] at hc;cases hc
 rcases hx with hk | hk
 ·refine wpAny_storeName_local hk hn (λh' hn' hs=>?_) hcls
  obtain⟨oL,_,_,hoL,_⟩:=id hn
  refine h _ ⟨I.ok,I.os,I.bare,⟨λb o e n hb hx=>?_,λb o e n hb hx=>?_,I.base.free,λb o e hx=>?_,I.base.tups,I.base.frzs,I.base.tbls⟩,⟨_,hn',λj y v' e1 e2 e3=>?_⟩,λy c e=>?_,I.free,I.freeC,λp hp=>?_,tracked ⟨oL,hoL,I.free⟩ hs,by simpa using I.len⟩ ⟨_,hs,.inl rfl⟩
  ·exact (hs.2 b (Nat.ne_of_lt (Nat.lt_of_lt_of_le (Heap.lt_size e) I.ok.above))).trans (I.base.keep b o e n hb hx)
  ·obtain⟨sl,e1⟩:=I.base.slot b o e n hb hx
   exact⟨sl,(hs.2 b (Nat.ne_of_lt (Nat.lt_of_lt_of_le (Heap.lt_size e) I.ok.above))).trans e1⟩
  ·obtain⟨o',e1⟩:=I.base.there b o e hx
   exact⟨o',(hs.2 b (Nat.ne_of_lt (Nat.lt_of_lt_of_le (Heap.lt_size e) I.ok.above))).trans e1⟩
  ·by_cases hj:j=i
   ·subst hj
    rw[hi] at e1;cases e1
    rw[List.getElem?_set_self hiσ] at e2
    cases e2
    exact⟨u,r,.inl ⟨hk,by simp⟩⟩
   ·rw[List.getElem?_set_ne (Ne.symm hj)] at e2
    obtain⟨u',r',q⟩:=hl j y v' e1 e2 e3
    refine⟨u',r',?_⟩
    rcases q with ⟨k,e⟩ | ⟨k,c,e,z⟩
    ·refine .inl ⟨k,?_⟩
     have:y≠x:=λe=>hj (BI hN e1 (e ▸ hi))
     simp[this,e]
    ·exact .inr ⟨k,c,e,z.sameBut hs (cne y c e)⟩
  ·obtain⟨w',z⟩:=I.cell y c e
   exact⟨w',z.sameBut hs (cne y c e)⟩
  ·obtain⟨e,n,ne,nf,d⟩:=I.pin p hp
   exact⟨(hs.2 p.1 ne).trans e,n,ne,nf,d⟩
 ·have hfn:X.fn x=true:=by
   rcases hf with z | z
   ·exact z
   ·rw[z] at hk;cases hk
  obtain⟨c,hc⟩:=I.ok.has x (.inl hk)
  obtain⟨w',z⟩:=I.cell x c hc
  refine wpAny_storeName_cell I.ok.kind hk hc z (λh' hc' hs=>?_)
  obtain⟨oc,hoc,hocd⟩:=id z
  refine h { s with heap:=h' } ⟨I.ok,I.os,I.bare,⟨λb o e n hb hx=>?_,λb o e n hb hx=>?_,I.base.free,λb o e hx=>?_,I.base.tups,I.base.frzs,I.base.tbls⟩,⟨m,hn.sameBut hs (Ne.symm (cne x c hc)),λj y v' e1 e2 e3=>?_⟩,λy c' e=>?_,I.free,I.freeC,λp hp=>?_,tracked ⟨oc,hoc,I.freeC x c hc⟩ hs,by simpa using I.len⟩ ⟨c,hs,.inr hc⟩
  ·exact (hs.2 b (Nat.ne_of_lt (Nat.lt_of_lt_of_le (Heap.lt_size e) (I.ok.cab x c hfn hc)))).trans (I.base.keep b o e n hb hx)
  ·obtain⟨sl,e1⟩:=I.base.slot b o e n hb hx
   exact⟨sl,(hs.2 b (Nat.ne_of_lt (Nat.lt_of_lt_of_le (Heap.lt_size e) (I.ok.cab x c hfn hc)))).trans e1⟩
  ·obtain⟨o',e1⟩:=I.base.there b o e hx
   exact⟨o',(hs.2 b (Nat.ne_of_lt (Nat.lt_of_lt_of_le (Heap.lt_size e) (I.ok.cab x c hfn hc)))).trans e1⟩
  ·by_cases hj:j=i
   ·subst hj
    rw[hi] at e1;cases e1
    rw[List.getElem?_set_self hiσ] at e2
    cases e2
    exact⟨u,r,.inr ⟨.inl hk,c,hc,hc'⟩⟩
   ·rw[List.getElem?_set_ne (Ne.symm hj)] at e2
    obtain⟨u',r',q⟩:=hl j y v' e1 e2 e3
    refine⟨u',r',?_⟩
    rcases q with q | ⟨k,c',e,z'⟩
    ·exact .inl q
    ·refine .inr ⟨k,c',e,z'.sameBut hs ?_⟩
     rintro rfl
     exact hj (BI hN e1 (I.ok.inj _ _ _ e hc ▸ hi))
  ·by_cases hcc:c'=c
   ·subst hcc;exact⟨_,hc'⟩
   ·obtain⟨w2,z2⟩:=I.cell y c' e
    exact⟨w2,z2.sameBut hs hcc⟩
  ·obtain⟨e,n,ne,nf,d⟩:=I.pin p hp
   refine⟨(hs.2 p.1 ?_).trans e,n,ne,nf,d⟩
   intro q
   rw[q,hoc] at e
   have q':oc=p.2:=Option.some.inj e
   exact d w' (by rw[<-q'];exact hocd)
theorem oZ {M:Model} {A:Around} {E:Value->Shared->Prop} {i:Nat} {x:Str} {v:V} {u:Value} {Q:Unit->Shared->Prop} (I:Inv X pins σ H s) (hN:X.N.Nodup) (hi:X.N[i]? = some x) (hx:Loc X.env.scope x) (r:RelV v u)
  (h:∀s',Inv X pins (σ.set i (some v)) H s'->Q () s') (hf:X.fn x=true\/X.env.scope.names.lookup x=some .local:=by walk_at "loc"):wpAny M A (storeName X.env x u) Q E s :=
 xD I hN hi hx r (λs' I' _=>h s' I') hf
theorem Inv.call' {s':Shared} {ch:List Addr} (I:Inv X pins σ H s) (ho:s'.os=s.os) (u:Un (frs X.stack) ch H H' s.heap s'.heap) (hok:HOk X.prog X.w H' s'.heap) (hg:AllBare s'.gens)
  (hch:∀b∈ch,(b∈X.ex\/X.s₀.heap.objs.size<=b)/\b≠X.env.locals/\(∀x c,X.env.cells.lookup x=some c->c≠b)/\∀p∈X.pn++pins,p.1≠b):Inv X pins σ H' s':=by
 obtain⟨h',g',d',t',o'⟩:=s'
 have e:o'=s.os:=ho
 subst e
 exact I.call (g':=g') (t':=t') (d':=d') u hok hg hch
end
noncomputable abbrev XK:=Value->Option Addr->Hp->Prop
noncomputable abbrev St:=List (Option V)
noncomputable abbrev VK:=V->Hp->Prop
noncomputable abbrev TE:=St->Hp->VK->Prop
noncomputable abbrev TT:=St->Hp->(Bool->Hp->Prop)->Prop
noncomputable abbrev TA:=St->Hp->(List V->Hp->Prop)->Prop
structure Ends where
 nx:St->Hp->Prop
 rt:VK
 bk:St->Hp->Prop:=λ_ _=>False
 ct:St->Hp->Prop:=λ_ _=>False
noncomputable abbrev TS:=Ends->St->Hp->Prop
noncomputable def EP (X:Cx) (pins:List (Addr × Obj)) (σ:St) (Q:VK) (u:Value) (s':Shared):Prop:=∃v H',Inv X pins σ H' s'/\RelV v u/\Q v H'
noncomputable def TP (X:Cx) (pins:List (Addr × Obj)) (σ:St) (Q:Bool->Hp->Prop) (b:Bool) (s':Shared):Prop:=∃H',Inv X pins σ H' s'/\Q b H'
noncomputable def AP (X:Cx) (pins:List (Addr × Obj)) (σ:St) (Q:List V->Hp->Prop) (us:List Value) (s':Shared):Prop:=∃vs H',Inv X pins σ H' s'/\Vals vs us/\Q vs H'
noncomputable def SP (X:Cx) (pins:List (Addr × Obj)) (D:Ends) (f:Flow) (s':Shared):Prop :=
 match f with
 | .next=>∃σ' H',Inv X pins σ' H' s'/\D.nx σ' H'
 | .brk=>∃σ' H',Inv X pins σ' H' s'/\D.bk σ' H'
 | .cont=>∃σ' H',Inv X pins σ' H' s'/\D.ct σ' H'
 | .ret u=>∃v σ' H',Inv X pins σ' H' s'/\RelV v u/\D.rt v H'
noncomputable def PE (X:Cx) (e:Expr) (t:TE):Prop :=
 ∀(pins:List (Addr × Obj)) (s:Shared) (σ:St) (H:Hp) (Q:VK),Inv X pins σ H s->t σ H Q->wpAny (model X.prog X.w) X.A (eval e X.env) (EP X pins σ Q) X.xe s
noncomputable def PT (X:Cx) (e:Expr) (t:TT):Prop :=
 ∀(pins:List (Addr × Obj)) (s:Shared) (σ:St) (H:Hp) (Q:Bool->Hp->Prop),Inv X pins σ H s->t σ H Q->wpAny (model X.prog X.w) X.A (isTrue e X.env (eval e X.env)) (TP X pins σ Q) X.xe s
noncomputable def PW (X:Cx) (e:Expr) (t:TT):Prop :=
 ∀(whole:Sem Value) (pins:List (Addr × Obj)) (s:Shared) (σ:St) (H:Hp) (Q:Bool->Hp->Prop),Inv X pins σ H s->t σ H Q->wpAny (model X.prog X.w) X.A (isTrue e X.env whole) (TP X pins σ Q) X.xe s
theorem PW.pt {X:Cx} {e:Expr} {t:TT} (h:PW X e t):PT X e t:=h _
noncomputable def PA (X:Cx) (es:List Expr) (t:TA):Prop :=
 ∀(pos:Pos) (pins:List (Addr × Obj)) (s:Shared) (σ:St) (H:Hp) (Q:List V->Hp->Prop),Inv X pins σ H s->t σ H Q->wpAny (model X.prog X.w) X.A (spliced (backTo pos (starEach es X.env))) (AP X pins σ Q) X.xe s
noncomputable def PS (X:Cx) (st:Stmt) (t:TS):Prop :=
 ∀(pins:List (Addr × Obj)) (s:Shared) (σ:St) (H:Hp) (D:Ends),Inv X pins σ H s->t D σ H->wpAny (model X.prog X.w) X.A (exec st X.env) (SP X pins D) X.xe s
noncomputable def PSs (X:Cx) (st:List Stmt) (t:TS):Prop :=
 ∀(pins:List (Addr × Obj)) (s:Shared) (σ:St) (H:Hp) (D:Ends),Inv X pins σ H s->t D σ H->wpAny (model X.prog X.w) X.A (execs st X.env) (SP X pins D) X.xe s
theorem thn {α:Type} {t:Sem α} {Q Q':α->Shared->Prop} {M:Model} {A:Around} {E:Value->Shared->Prop} {s:Shared} (h:wpAny M A t Q E s) (hQ:∀a s,Q a s->Q' a s):wpAny M A t Q' E s:=wpAny_mono h hQ λ_ _ x=>x
end L2
namespace L2
open PySem PySem.Spec PyProof.Rows
section
variable {X:Cx}
noncomputable def ZJ (i:Nat):TE:=λσ H Q=>∃v,σ[i]? = some (some v)/\Q v H
noncomputable def tC (v:V):TE:=λ_ H Q=>Q v H
theorem VY {i:Nat} {x:Str} {pos:Pos} (hN:X.N[i]? = some x) (hv:Vis X.env.scope x) (hd:(x == ("__debug__":Str))=false:=by decide) (hcd:(x == ("__classdict__":Str))=false:=by decide):PE X (.Name x pos) (ZJ i):=by
 intro pins s σ H Q I h
 obtain⟨v,e,h⟩:=h
 obtain⟨m,hn,hl⟩:=I.loc
 obtain⟨u,r,l⟩:=hl i x v hN e hv
 have fin:EP X pins σ Q u s:=⟨v,H,I,r,h⟩
 rcases l with ⟨hk,hm⟩ | ⟨hk,c,hc,hcell⟩
 ·exact wpAny_Name (wpAny_loadName_local I.ok.kind hk hn hm fin) hd
 ·rcases hk with hk | hk
  ·exact wpAny_Name (wpAny_loadName_cell I.ok.kind hk hc hcell fin) hd
  ·exact wpAny_Name (wpAny_loadName_free I.ok.kind hk hc hcell fin hcd) hd
theorem VR {i j pos}:PE X (.Constant (.int i) j pos) (tC (.int i)):=λ_ _ _ H _ I h=>wpAny_Constant_int ⟨.int i,H,I.tok _,⟨_,rfl⟩,h⟩
theorem YG {b j pos}:PE X (.Constant (.bool b) j pos) (tC (.bl b)):=λ_ _ _ H _ I h=>Constant_bool ⟨.bl b,H,I,rfl,h⟩
theorem VT {j pos}:PE X (.Constant .none j pos) (tC .non):=λ_ _ _ H _ I h=>Constant_none ⟨.non,H,I,rfl,h⟩
noncomputable def Gl (X:Cx) (x:Str):Prop:=X.env.kindOf x=some .globalImplicit
theorem QM {E:Value->Shared->Prop} {pins:List (Addr × Obj)} {s:Shared} {σ:St} {H:Hp} {x:Str} {u:Value} {pos:Pos} {Q:Value->Shared->Prop} (I:Inv X pins σ H s) (hg:Gl X x) (hm:X.mg x=some u) (h:Q u s)
  (hd:(x == ("__debug__":Str))=false:=by decide):wpAny (model X.prog X.w) X.A (eval (.Name x pos) X.env) Q E s :=
 Calls.Name_function_global I.ok.kind hg (Calls.loadGlobal_global (by rw[I.ok.glob];exact I.mod.glob.keeps I.bk) hm h) hd
theorem fY {E:Value->Shared->Prop} {pins:List (Addr × Obj)} {s:Shared} {σ:St} {H:Hp} {x:Str} {u:Value} {pos:Pos} {Q:Value->Shared->Prop} (I:Inv X pins σ H s) (hg:Gl X x) (hm:X.mg x=none) (hv:bootBuiltins x=some u) (h:Q u s)
  (hn:x≠"__name__":=by decide) (hd:(x == ("__debug__":Str))=false:=by decide):wpAny (model X.prog X.w) X.A (eval (.Name x pos) X.env) Q E s:=by
 obtain⟨mb,h1,h2⟩:=I.mod.blt
 exact Calls.Name_function_global I.ok.kind hg (Calls.loadGlobal_builtin (by rw[I.ok.glob];exact I.mod.glob.keeps I.bk) hm (by rw[I.ok.blt];exact h1.keeps I.bk) ((h2 x hn).trans hv) h) hd
theorem RD {x:Str} {v:V} {u:Value} {pos:Pos} (hg:Gl X x) (hm:X.mg x=none) (hv:bootBuiltins x=some u) (r:RelV v u) (hn:x≠"__name__":=by decide) (hd:(x == ("__debug__":Str))=false:=by decide):PE X (.Name x pos) (tC v) :=
 λ_ _ _ H _ I h=>fY I hg hm hv ⟨v,H,I,r,h⟩ hn hd
variable {a b:Expr} {ta tb:TE} {pos:Pos}
noncomputable def tB (t:TE):TT:=λσ H Q=>t σ H λx H1=>∃c,x = .bl c/\Q c H1
theorem WG {e:Expr} {t:TE} (h:PE X e t) (he:∀whole,isTrue e X.env whole=(do let v <-whole;standAt e.pos;holding [v] (truthy v)):=by intro _;rfl):PT X e (tB t):=by
 intro pins s σ H Q I hw
 refine isTrue_plain (thn (h pins s σ H _ I hw) λv s1 ⟨x,H1,I1,r1,q1⟩=>?_) (he _)
 obtain⟨d,rfl,q⟩:=q1
 cases r1
 exact wpAny_truthy_bool ⟨H1,I1,q⟩
variable {tA tB':TT} {rest:List Expr}
noncomputable def Ah (t u:TT):TT:=λσ H Q=>t σ H λc H1=>if c=true then u σ H1 Q else Q false H1
noncomputable def tOr (t u:TT):TT:=λσ H Q=>t σ H λc H1=>if c=true then Q true H1 else u σ H1 Q
noncomputable def An (t:TT):TT:=λσ H Q=>t σ H λc H1=>Q (!c) H1
theorem RZ (ha:PT X a tA):PW X (.BoolOp .And [a] pos) tA:=by
 intro wh pins s σ H Q I h
 refine isTrue_and (thn (ha pins s σ H Q I h) λc s1 e=>?_)
 cases c with
 | true=>exact isTrue_and_nil e
 | false=>exact e
theorem WJ (ha:PT X a tA):PW X (.BoolOp .Or [a] pos) tA:=by
 intro wh pins s σ H Q I h
 refine isTrue_or (thn (ha pins s σ H Q I h) λc s1 e=>?_)
 cases c with
 | false=>exact isTrue_or_nil e
 | true=>exact e
theorem WI (ha:PT X a tA) (hb:PW X (.BoolOp .And (b::rest) pos) tB'):PW X (.BoolOp .And (a::b::rest) pos) (Ah tA tB'):=by
 intro wh pins s σ H Q I h
 refine isTrue_and (thn (ha pins s σ H _ I h) λc s1 ⟨H1,I1,q1⟩=>?_)
 cases c with
 | true=>exact hb wh pins s1 σ H1 Q I1 q1
 | false=>exact⟨H1,I1,q1⟩
theorem YM (ha:PT X a tA) (hb:PW X (.BoolOp .Or (b::rest) pos) tB'):PW X (.BoolOp .Or (a::b::rest) pos) (tOr tA tB'):=by
 intro wh pins s σ H Q I h
 refine isTrue_or (thn (ha pins s σ H _ I h) λc s1 ⟨H1,I1,q1⟩=>?_)
 cases c with
 | true=>exact⟨H1,I1,q1⟩
 | false=>exact hb wh pins s1 σ H1 Q I1 q1
theorem WF (ha:PT X a tA):PT X (.UnaryOp .Not a pos) (An tA):=by
 intro pins s σ H Q I h
 exact isTrue_not (ha pins s σ H (λc H1=>Q (!c) H1) I h)
noncomputable def ZA (ta tb:TE):TE:=λσ H Q=>ta σ H λx H1=>∃c,x = .bl c/\if c=true then tb σ H1 Q else Q (.bl false) H1
noncomputable def ZG (ta:TE):TE:=λσ H Q=>ta σ H λx H1=>∃c,x = .bl c/\Q (.bl (!c)) H1
theorem VW {op} {t:TE} (h:PE X a t):PE X (.BoolOp op [a] pos) t:=λpins s σ H Q I hw=>BoolOp_one (h pins s σ H Q I hw)
theorem VP (ha:PE X a ta) (hb:PE X (.BoolOp .And (b::rest) pos) tb):PE X (.BoolOp .And (a::b::rest) pos) (ZA ta tb):=by
 intro pins s σ H Q I h
 refine BoolOp_and (thn (ha pins s σ H _ I h) λv s1 ⟨x,H1,I1,r1,q1⟩=>?_)
 obtain⟨c,rfl,q1⟩:=q1
 cases r1
 refine wpAny_truthy_bool ?_
 cases c with
 | true=>exact hb pins s1 σ H1 Q I1 q1
 | false=>exact⟨.bl false,H1,I1,rfl,q1⟩
theorem VU (ha:PE X a ta):PE X (.UnaryOp .Not a pos) (ZG ta):=by
 intro pins s σ H Q I h
 refine UnaryOp_ (thn (ha pins s σ H _ I h) λv s1 ⟨x,H1,I1,r1,q1⟩=>?_)
 obtain⟨c,rfl,q1⟩:=q1
 cases r1
 exact not_of (wpAny_truthy_bool ⟨.bl (!c),H1,I1,rfl,q1⟩)
end
end L2
namespace L2
open PySem PySem.Spec PyProof.Rows
noncomputable def SqL (K:PySem.W.Frag) (H:Hp) (a:Addr) (xs:List V):Prop :=
 Rd H a (.lst xs) \/
  ∃(o:Obj) (its:Array Value) (n:Nat),K.lookup a=some o/\o.cls = .type "list"/\o.dict=none/\o.data = .seq its n/\its.size<=sizeLine/\Vals xs its.toList
noncomputable def SqT (K:PySem.W.Frag) (H:Hp) (a:Addr) (xs:List V):Prop :=
 Rd H a (.tup xs) \/
  ∃(o:Obj) (its:Array Value) (n:Nat),K.lookup a=some o/\o.cls = .type "tuple"/\o.data = .seq its n/\its.size<=sizeLine/\Vals xs its.toList
noncomputable def ZN:Value->Option V
 | .none=>some .non
 | .bool b=>some (.bl b)
 | .int i _=>some (.int i)
 | .str x _=>some (.str x)
 | .bytes b _=>some (.byt b)
 | .float b _=>some (.flt b)
 | .ref a=>some (.ref a)
 | .type n=>some (.ty n)
 | _=>none
theorem RelV.abs {x:V} {u:Value} (r:RelV x u):ZN u=some x:=by
 cases x with
 | non=>cases r;rfl
 | bl _=>cases r;rfl
 | int _=>obtain⟨t,rfl⟩:=r;rfl
 | str _=>obtain⟨t,rfl⟩:=r;rfl
 | byt _=>obtain⟨t,rfl⟩:=r;rfl
 | flt _=>obtain⟨t,rfl⟩:=r;rfl
 | ref _=>cases r;rfl
 | ty _=>cases r;rfl
theorem RelV.inj {x y:V} {u:Value} (r:RelV x u) (q:RelV y u):x=y:=Option.some.inj (r.abs.symm.trans q.abs)
theorem Vals.inj:∀{xs ys:List V} {us:List Value},Vals xs us->Vals ys us->xs=ys
 | _,_,_,.nil,.nil=>rfl
 | _,_,_,.cons r t,.cons r' t'=>by rw[r.inj r',Vals.inj t t']
section
variable {X:Cx} {pins:List (Addr × Obj)} {σ:St} {H:Hp} {s:Shared} {a:Addr} {xs ys:List V}
theorem SqL.of {K:PySem.W.Frag} (h:H a=some (.lst xs)):SqL K H a xs:=.inl (.inl h)
theorem SqT.of {K:PySem.W.Frag} (h:H a=some (.tup xs)):SqT K H a xs:=.inl (.inl h)
theorem Inv.list (I:Inv X pins σ H s) (h:SqL X.K H a xs):∃its:List Value,Vals xs its/\PlainL s.heap a its.toArray/\xs.length<=sizeLine:=by
 rcases h with h | ⟨o,its,n,hk,hc,hd,hs,hz,r⟩
 ·obtain⟨z,its,n,r,e⟩:=h.ok I.hok
  exact⟨its,r,⟨_,n,e,rfl,rfl,rfl⟩,z⟩
 ·refine⟨its.toList,r,⟨o,n,I.kIn a o hk,hc,hd,by simpa using hs⟩,?_⟩
  have e:=r.length
  simp only[Array.length_toList] at e
  omega
theorem Inv.tuple (I:Inv X pins σ H s) (h:SqT X.K H a xs):∃its:List Value,Vals xs its/\IsTup s.heap a its.toArray/\xs.length<=sizeLine:=by
 rcases h with h | ⟨o,its,n,hk,hc,hs,hz,r⟩
 ·obtain⟨z,its,r,p⟩:=h.ok I.hok
  exact⟨its,r,p,z⟩
 ·refine⟨its.toList,r,⟨o,I.kIn a o hk,hc,n,by simpa using hs⟩,?_⟩
  have e:=r.length
  simp only[Array.length_toList] at e
  omega
theorem Inv.list_inj (I:Inv X pins σ H s) (h:SqL X.K H a xs) (h':SqL X.K H a ys):xs=ys:=by
 obtain⟨its,r,⟨o,n,e,_,_,d⟩,_⟩:=I.list h
 obtain⟨its',r',⟨o',n',e',_,_,d'⟩,_⟩:=I.list h'
 rw[e] at e';cases e'
 rw[d] at d'
 injection d' with d1 _
 have:its=its':=by simpa using congrArg Array.toList d1
 subst this
 exact r.inj r'
theorem Inv.tuple_inj (I:Inv X pins σ H s) (h:SqT X.K H a xs) (h':SqT X.K H a ys):xs=ys:=by
 obtain⟨its,r,⟨o,e,_,n,d⟩,_⟩:=I.tuple h
 obtain⟨its',r',⟨o',e',_,n',d'⟩,_⟩:=I.tuple h'
 rw[e] at e';cases e'
 rw[d] at d'
 injection d' with d1 _
 have:its=its':=by simpa using congrArg Array.toList d1
 subst this
 exact r.inj r'
end
noncomputable abbrev Cx.wish (X:Cx) (E:Value->Shared->Prop):Cx:={ X with xe:=E }
noncomputable abbrev Cx.nox (X:Cx):Cx:=X.wish λ_ _=>False
theorem Cx.Ok.wish {X:Cx} (ok:X.Ok) (E:Value->Shared->Prop):(X.wish E).Ok :=
 ⟨ok.mod,ok.kind,ok.glob,ok.blt,ok.above,ok.inj,ok.has,ok.cab,ok.hd,ok.frames,ok.stk,ok.exf,ok.bs,ok.bsz,ok.noex,ok.exfs,ok.funs,ok.frf⟩
theorem Cx.Ok.unwish {X:Cx} {E:Value->Shared->Prop} (ok:(X.wish E).Ok):X.Ok :=
 ⟨ok.mod,ok.kind,ok.glob,ok.blt,ok.above,ok.inj,ok.has,ok.cab,ok.hd,ok.frames,ok.stk,ok.exf,ok.bs,ok.bsz,ok.noex,ok.exfs,ok.funs,ok.frf⟩
section
variable {X:Cx} {pins:List (Addr × Obj)} {σ:St} {H:Hp} {s:Shared} {E:Value->Shared->Prop}
theorem Inv.wish (I:Inv X pins σ H s) (E:Value->Shared->Prop):Inv (X.wish E) pins σ H s:=⟨I.ok.wish E,I.os,I.bare,I.base,I.loc,I.cell,I.free,I.freeC,I.pin,I.hok,I.len⟩
theorem Inv.unwish (I:Inv (X.wish E) pins σ H s):Inv X pins σ H s:=⟨I.ok.unwish,I.os,I.bare,I.base,I.loc,I.cell,I.free,I.freeC,I.pin,I.hok,I.len⟩
theorem SP.unwish {D:Ends} {f:Flow} {s':Shared} (h:SP (X.wish E) pins D f s'):SP X pins D f s':=by
 cases f with
 | next=>obtain⟨σ',H',I,q⟩:=h;exact⟨σ',H',I.unwish,q⟩
 | brk=>obtain⟨σ',H',I,q⟩:=h;exact⟨σ',H',I.unwish,q⟩
 | cont=>obtain⟨σ',H',I,q⟩:=h;exact⟨σ',H',I.unwish,q⟩
 | ret u=>obtain⟨v,σ',H',I,r,q⟩:=h;exact⟨v,σ',H',I.unwish,r,q⟩
theorem PE.nox {e:Expr} {t:TE} (h:PE X.nox e t):PE X e t:=λpins s σ H Q I hw =>
 wpAny_mono (h pins s σ H Q (I.wish _) hw) (λ_ _ ⟨v,H',I',r,q⟩=>⟨v,H',I'.unwish,r,q⟩) λ_ _ z=>False.elim z
theorem PT.nox {e:Expr} {t:TT} (h:PT X.nox e t):PT X e t:=λpins s σ H Q I hw =>
 wpAny_mono (h pins s σ H Q (I.wish _) hw) (λ_ _ ⟨H',I',q⟩=>⟨H',I'.unwish,q⟩) λ_ _ z=>False.elim z
theorem PSs.nox {st:List Stmt} {t:TS} (h:PSs X.nox st t):PSs X st t:=λpins s σ H D I hw =>
 wpAny_mono (h pins s σ H D (I.wish _) hw) (λ_ _ q=>q.unwish) λ_ _ z=>False.elim z
end
section
variable {X:Cx} {st:Stmt} {rest:List Stmt} {t u:TS} {e:Expr} {te:TE} {pos:Pos}
noncomputable def ZF:TS:=λD σ H=>D.nx σ H
noncomputable def Aq (t u:TS):TS:=λD σ H=>t { D with nx:=u D } σ H
theorem RV:PSs X [] ZF:=λ_ _ σ H _ I h=>wpAny_execs_nil ⟨σ,H,I,h⟩
theorem OC (h1:PS X st t) (h2:PSs X rest u):PSs X (st::rest) (Aq t u):=by
 intro pins s σ H D I h
 refine wpAny_execs_cons (thn (h1 pins s σ H { D with nx:=u D } I h) λf s1 q=>?_)
 cases f with
 | next =>
  obtain⟨σ',H',I',q⟩:=q
  exact h2 pins s1 σ' H' D I' q
 | ret v=>exact q
 | brk=>exact q
 | cont=>exact q
theorem RW (h1:PS X st t):PSs X [st] t:=by
 intro pins s σ H D I h
 refine wpAny_execs_cons (thn (h1 pins s σ H D I h) λf s1 q=>?_)
 cases f with
 | next=>exact wpAny_execs_nil q
 | ret v=>exact q
 | brk=>exact q
 | cont=>exact q
theorem Inv.quiet {pins:List (Addr × Obj)} {σ:St} {H:Hp} {s:Shared} (I:Inv X pins σ H s):interactive X.env=false:=by simp[interactive,I.ok.kind]
noncomputable def ZE (te:TE):TS:=λD σ H=>te σ H λ_ H1=>D.nx σ H1
theorem HF (he:PE X e te) (hs:swapsWith e none pos.line X.env=pure false:=by rfl):PS X (.Expr e pos) (ZE te):=by
 intro pins s σ H D I h
 exact wpAny_Expr_any (thn (he pins s σ H _ I h) λv s1 ⟨x,H1,I1,r1,q1⟩=>⟨σ,H1,I1,q1⟩) I.quiet hs
noncomputable def Ap (te:TE):TS:=λD σ H=>te σ H D.rt
theorem WE (he:PE X e te):PS X (.Return (some e) pos) (Ap te):=by
 intro pins s σ H D I h
 exact wpAny_Return_some (thn (he pins s σ H _ I h) λv s1 ⟨x,H1,I1,r1,q1⟩=>⟨x,σ,H1,I1,r1,q1⟩)
noncomputable def Ak (c:TT) (t u:TS):TS:=λD σ H=>c σ H λb H1=>if b=true then t D σ H1 else u D σ H1
theorem YL {c:Expr} {a b:List Stmt} {tc:TT} (hc:PT X c tc) (ha:PSs X a t) (hb:PSs X b u):PS X (.If c a b pos) (Ak tc t u):=by
 intro pins s σ H D I h
 refine wpAny_If (thn (hc pins s σ H _ I h) λd s1 ⟨H1,I1,q1⟩=>?_)
 cases d with
 | true=>exact ha pins s1 σ H1 D I1 q1
 | false=>exact hb pins s1 σ H1 D I1 q1
end
noncomputable abbrev TG:=V->St->Hp->(St->Hp->Prop)->Prop
noncomputable abbrev TGs:=List V->St->Hp->(St->Hp->Prop)->Prop
noncomputable def PG (X:Cx) (target:Expr) (t:TG):Prop :=
 ∀(pins:List (Addr × Obj)) (s:Shared) (σ:St) (H:Hp) (v:V) (u:Value) (Q:St->Hp->Prop),Inv X pins σ H s->RelV v u->t v σ H Q ->
  wpAny (model X.prog X.w) X.A (assign target X.env u) (λ_ s'=>∃σ' H',Inv X pins σ' H' s'/\Q σ' H') X.xe s
noncomputable def PGs (X:Cx) (ts:List Expr) (t:TGs):Prop :=
 ∀(pins:List (Addr × Obj)) (s:Shared) (σ:St) (H:Hp) (vs:List V) (us:List Value) (Q:St->Hp->Prop),Inv X pins σ H s->Vals vs us->t vs σ H Q ->
  wpAny (model X.prog X.w) X.A (assignInOrder ((assignEach ts X.env).map (·.2)) us) (λ_ s'=>∃σ' H',Inv X pins σ' H' s'/\Q σ' H') X.xe s
noncomputable abbrev UE:=V->V->V->Hp->(Hp->Prop)->Prop
noncomputable def XC (X:Cx) (t:UE):Prop :=
 ∀(pins:List (Addr × Obj)) (s:Shared) (σ:St) (H:Hp) (o i v:V) (ov iv u:Value) (Q:Hp->Prop),Inv X pins σ H s->RelV o ov->RelV i iv->RelV v u->t o i v H Q ->
  wpAny (model X.prog X.w) X.A (setItem ov iv u) (λ_ s'=>∃H',Inv X pins σ H' s'/\Q H') X.xe s
section
variable {X:Cx} {pos:Pos}
noncomputable def TQ (i:Nat):TG:=λv σ H Q=>Q (σ.set i (some v)) H
theorem RJ {i:Nat} {x:Str} (hN:X.N.Nodup) (hi:X.N[i]? = some x) (hx:Loc X.env.scope x) (hf:X.fn x=true\/X.env.scope.names.lookup x=some .local:=by walk_at "loc"):PG X (.Name x pos) (TQ i):=by
 intro pins s σ H v u Q I r h
 exact wpAny_assign_Name (oZ I hN hi hx r (λs' I'=>⟨_,H,I',h⟩) hf)
noncomputable def ZQ:TGs:=λvs σ H Q=>vs=[]/\Q σ H
noncomputable def XO (t:TG) (u:TGs):TGs:=λvs σ H Q=>∃v r,vs=v::r/\t v σ H λσ' H'=>u r σ' H' Q
theorem RK:PGs X [] ZQ:=by
 intro pins s σ H vs us Q I r h
 obtain⟨e,h⟩:=h
 subst e
 cases r
 exact assignInOrder_nil ⟨σ,H,I,h⟩
theorem NW {e:Expr} {es:List Expr} {t:TG} {u:TGs} (h1:PG X e t) (h2:PGs X es u)
  (hs:(assignEach (e::es) X.env).map (·.2)=assign e X.env::(assignEach es X.env).map (·.2):=by rfl):PGs X (e::es) (XO t u):=by
 intro pins s σ H vs us Q I r h
 obtain⟨v,vr,e1,h⟩:=h
 subst e1
 cases r with
 | cons r rr =>
  rw[hs]
  refine assignInOrder_cons (thn (h1 pins s σ H _ _ _ I r h) λ_ s1 ⟨σ1,H1,I1,q1⟩=>?_)
  exact h2 pins s1 σ1 H1 _ _ Q I1 rr q1
noncomputable def ZS (K:PySem.W.Frag) (n:Nat) (t:TGs):TG:=λv σ H Q=>∃a xs,v = .ref a/\SqT K H a xs/\xs.length=n/\t xs σ H Q
theorem WA {es:List Expr} {k:Nat} {t:TGs} {n:Nat} (hc:X.calm=true) (h:PGs X es t)
  (hn:(assignEach es X.env).length=n:=by rfl) (hst:(assignEach es X.env).findIdx? (·.1)=none:=by rfl):PG X (.Tuple es k pos) (ZS X.K n t):=by
 intro pins s σ H v u Q I r hw
 obtain⟨a,xs,e1,hq,hl,hw⟩:=hw
 subst e1
 cases r
 obtain⟨its,rv,ht,hz⟩:=I.tuple hq
 refine assign_Tuple_tuple (I.ok.hd hc) ht (by simp[hn,<-hl,rv.length]) hst λh' hx=>?_
 have I1:Inv X pins σ H { s with heap:=h' }:=I.kept (t':=s.toks) λb o e=>hx b o (Nat.ne_of_lt (Heap.lt_size e)) e
 exact h pins _ σ H xs _ Q I1 (by simpa using rv) hw
noncomputable def ZR (to ti:TE) (t:UE):TG:=λv σ H Q=>to σ H λo H1=>ti σ H1 λi H2=>t o i v H2 λH3=>Q σ H3
theorem VZ {o i:Expr} {to ti:TE} {t:UE} (ho:PE X o to) (hi:PE X i ti) (hs:XC X t)
  (ha:∀v,assign (.Subscript o i pos) X.env v=(do
   let ov <-holding [v] (eval o X.env)
   let iv <-holding [v,ov] (eval i X.env)
   standAt pos
   holding [v,ov,iv] (setItem ov iv v)
   release [v,ov,iv] []):=by intro _;rfl):PG X (.Subscript o i pos) (ZR to ti t):=by
 intro pins s σ H v u Q I r h
 rw[ha]
 refine wpAny_bind (wpAny_holding (thn (ho pins s σ H _ I h) λov s1 ⟨x,H1,I1,r1,q1⟩=>?_))
 refine wpAny_bind (wpAny_holding (thn (hi pins s1 σ H1 _ I1 q1) λiv s2 ⟨y,H2,I2,r2,q2⟩=>?_))
 refine wpAny_bind (wpAny_standAt (wpAny_bind (wpAny_holding (thn (hs pins s2 σ H2 x y v ov iv u _ I2 r1 r2 r q2) λ_ s3 ⟨H3,I3,q3⟩=>?_))))
 exact wpAny_release ⟨σ,H3,I3,q3⟩
noncomputable def ZB (te:TE) (g:TG):TS:=λD σ H=>te σ H λx H1=>g x σ H1 D.nx
theorem NZ {tg e:Expr} {te:TE} {g:TG} (he:PE X e te) (hg:PG X tg g) (hs:swapsWithSole [tg] e pos.line X.env=pure false:=by rfl) (hw:swappedStores [tg] e X.env=pure none:=by rfl)
  (h1:(assignEach [tg] X.env).map (·.2)=[assign tg X.env]:=by rfl):PS X (.Assign [tg] e pos) (ZB te g):=by
 intro pins s σ H D I h
 refine wpAny_Assign_stores (thn (he pins s σ H _ I h) λv s1 ⟨x,H1,I1,r1,q1⟩=>?_) hs hw
 rw[h1]
 exact thn (hg pins s1 σ H1 x v _ I1 r1 q1) λ_ s2 q=>q
theorem OA {i:Nat} {x:Str} {e:Expr} {te:TE} {pos':Pos} (hN:X.N.Nodup) (hi:X.N[i]? = some x) (hx:Loc X.env.scope x) (he:PE X e te) (hs:swapsWith e (some (.Name x pos')) pos.line X.env=pure false:=by rfl) (hf:X.fn x=true\/X.env.scope.names.lookup x=some .local:=by walk_at "loc") :
  PS X (.Assign [.Name x pos'] e pos) (ZB te (TQ i)):=by
 intro pins s σ H D I h
 refine wpAny_Assign_Name (thn (he pins s σ H _ I h) λv s1 ⟨y,H1,I1,r1,q1⟩=>?_) hs
 exact oZ I1 hN hi hx r1 (λs2 I2=>⟨_,H1,I2,q1⟩) hf
noncomputable def Ao (i j:Nat) (ta:TA):TS:=λD σ H=>ta σ H λvs H1=>∃v w,vs=[v,w]/\D.nx ((σ.set i (some v)).set j (some w)) H1
theorem WD {i j:Nat} {x y:Str} {a b:Expr} {ta:TA} {px py pt:Pos} {kt k2 pt2} (hc:X.calm=true) (hN:X.N.Nodup) (hi:X.N[i]? = some x) (hj:X.N[j]? = some y) (hij:i≠j)
  (hx:X.env.scope.names.lookup x=some .local) (hy:X.env.scope.names.lookup y=some .local) (ha:PA X [a,b] ta)
  (hw:swappedStores [.Tuple [.Name x px,.Name y py] kt pt] (.Tuple [a,b] k2 pt2) X.env=pure (some [x,y]))
  (hs:swapsWithSole [.Tuple [.Name x px,.Name y py] kt pt] (.Tuple [a,b] k2 pt2) pos.line X.env=pure false:=by rfl) :
  PS X (.Assign [.Tuple [.Name x px,.Name y py] kt pt] (.Tuple [a,b] k2 pt2) pos) (Ao i j ta):=by
 intro pins s σ H D I h
 rw[exec_Assign_arm]
 refine wpAny_bind (wpAny_standAt ?_)
 rw[hs]
 refine wpAny_bind (wpAny_pure ?_)
 rw[if_neg (by decide)]
 refine wpAny_bind (Tuple_ (thn (ha _ pins s σ H _ I h) λus s1 ⟨vs,H1,I1,r1,q1⟩=>?_))
 obtain⟨v,w,e1,q1⟩:=q1
 subst e1
 obtain⟨u1,u2,rfl,rv,rw'⟩:∃u1 u2,us=[u1,u2]/\RelV v u1/\RelV w u2:=by
  cases r1 with
  | cons p q =>
   cases q with
   | cons p' q' =>
    cases q'
    exact⟨_,_,rfl,p,p'⟩
 refine wpAny_newObj_type ?_ (by show 2<=sizeLine;decide)
 have I2:Inv X pins σ H1 { s1 with heap:=s1.heap.push { cls:=.type "tuple",data:=.seq [u1,u2].toArray } }:=I1.kept (t':=s1.toks) λb o e=>Heap.get?_push_of_some _ e
 rw[hw]
 refine wpAny_bind (wpAny_pure ?_)
 show wpAny (model X.prog X.w) X.A (do rule "assign.swapped-stores";let items <-unpackItems (.ref s1.heap.objs.size) 2 none;assignInOrder [λv=>bindName X.env y v,λv=>bindName X.env x v] items.reverse;pure Flow.next) _ _ _
 refine wpAny_bind (wpAny_rule (wpAny_bind (unpackItems_tuple (items:=#[u1,u2]) (I.ok.hd hc) (IsTup.new s1.heap _) λh' hx'=>?_)))
 have I3:=I2.kept (h':=h') (t':=s1.toks) λb o e=>hx' b o (Nat.ne_of_lt (Heap.lt_size e)) e
 show wpAny _ _ (assignInOrder [λv=>bindName X.env y v,λv=>bindName X.env x v] [u2,u1] >>= λ_=>pure Flow.next) _ _ _
 refine wpAny_bind (assignInOrder_cons (wpAny_bindName (oZ I3 hN hj (.inl hy) rw' (λs2 I4=>?_) (.inr hy))))
 refine assignInOrder_cons (wpAny_bindName (oZ I4 hN hi (.inl hx) rv (λs3 I5=>assignInOrder_nil (wpAny_pure ?_)) (.inr hx)))
 rw[List.set_comm _ _ (Ne.symm hij)] at I5
 exact⟨_,H1,I5,q1⟩
end
section
variable {X:Cx} {pos:Pos}
noncomputable def XA (c:TT) (tb:TS):TS:=λD σ H=>∃W:Nat->St->Hp->Prop,(∃m,W m σ H)/\∀m σ H,W m σ H ->
 c σ H λb H1=>if b=true then ∃N:St->Hp->Prop,(∀σ' H',N σ' H'->∃m',m'<m/\W m' σ' H')/\tb { D with nx:=N,ct:=N,bk:=D.nx } σ H1 else D.nx σ H1
theorem OB {c:Expr} {body:List Stmt} {tc:TT} {tb:TS} (hp:PassesOwn (model X.prog X.w) X.A X.env X.xe) (hc:PT X c tc) (hb:PSs X body tb):PS X (.While c body [] pos) (XA tc tb):=by
 intro pins s σ H D I h
 obtain⟨W,⟨m0,w0⟩,turn⟩:=h
 refine wpAny_While (codeAny_whileLoop (λn s'=>∃σ' H',Inv X pins σ' H' s'/\W n σ' H') ?_ m0 ⟨σ,H,I,w0⟩)
 rintro n s1 ⟨σ1,H1,I1,w1⟩
 refine wpAny_passesOwn hp (thn (hc pins s1 σ1 H1 _ I1 (turn n σ1 H1 w1)) λb s2 ⟨H2,I2,q2⟩=>?_)
 cases b with
 | true =>
  obtain⟨N,hN,q2⟩:=q2
  rw[if_pos rfl]
  refine wpAny_passesOwn hp (thn (hb pins s2 σ1 H2 _ I2 q2) λf s3 q3=>?_)
  cases f with
  | next =>
   obtain⟨σ3,H3,I3,n3⟩:=q3
   obtain⟨m',hm,w3⟩:=hN σ3 H3 n3
   exact⟨m',hm,σ3,H3,I3,w3⟩
  | cont =>
   obtain⟨σ3,H3,I3,n3⟩:=q3
   obtain⟨m',hm,w3⟩:=hN σ3 H3 n3
   exact⟨m',hm,σ3,H3,I3,w3⟩
  | brk=>exact q3
  | ret v=>exact q3
 | false =>
  rw[if_neg Bool.false_ne_true]
  exact wpAny_execs_nil ⟨σ1,H2,I2,q2⟩
end
structure It where
 go:Nat->Hp->Prop
 yld:Nat->Hp->V->Hp->Prop
 stop:Nat->Hp->Prop
noncomputable def pD (X:Cx) (pins:List (Addr × Obj)) (H:Hp) (b:Addr):Prop :=
 H b=none/\b≠X.env.locals/\b ∉ X.fs/\(b∈X.ex\/X.s₀.heap.objs.size<=b)/\(∀x c,X.env.cells.lookup x=some c->c≠b)/\∀p∈X.pn++pins,p.1≠b
theorem Inv.fpOk {X:Cx} {pins:List (Addr × Obj)} {σ:St} {H H':Hp} {s:Shared} {b:Addr} (I:Inv X pins σ H s) (hb:s.heap.objs.size<=b) (hn:H' b=none):pD X pins H' b:=by
 refine⟨hn,Nat.ne_of_gt (Nat.lt_of_lt_of_le I.lt hb),I.nofs hb,.inr (Nat.le_trans I.sz hb),λx c e z=>?_,λp hp z=>?_⟩
 ·obtain⟨v,q⟩:=I.cell x c e
  exact absurd (Nat.lt_of_lt_of_le q.lt (by rw[z];exact hb)) (Nat.lt_irrefl _)
 ·exact absurd (Nat.lt_of_lt_of_le (Heap.lt_size (I.pin p hp).1) (by rw[z];exact hb)) (Nat.lt_irrefl _)
structure Turn (P:Program) (w:World) (K:PySem.W.Frag) (tg:Expr) (J:It) (fp:List Addr) (it:Addr) (tn:Nat->Heap->Prop):Prop where
 mem:it∈fp
 obj:∀i h,tn i h->∀b∈fp,∃o,h.get? b=some o/\∀v,o.data≠.cell v
 keep:∀i h h',tn i h->(∀b∈fp,∀o,h.get? b=some o->h'.get? b=some o)->tn i h'
 item:∀(X:Cx),X.prog=P->X.w=w->X.K=K->X.calm=true->∀(i:Nat) (pins:List (Addr × Obj)) (s:Shared) (σ:St) (H:Hp) (E:Value->Shared->Prop),Inv X pins σ H s->(∀b∈fp,pD X pins H b)->tn i s.heap->J.go i H ->
  wpAny (model P w) X.A (pyNext (.ref it)) (λr s1=>∃u,r=some u /\
   wpAny (model P w) X.A (letOwnedTupleGo tg (.ref it) u) (λ_ s2=>∃x H',Inv X pins σ H' s2/\RelV x u/\J.yld i H x H'/\tn (i+1) s2.heap/\∀b∈fp,H' b=none) E s1) E s
 done:∀(X:Cx),X.prog=P->X.w=w->X.K=K->X.calm=true->∀(i:Nat) (pins:List (Addr × Obj)) (s:Shared) (σ:St) (H:Hp) (E:Value->Shared->Prop),Inv X pins σ H s->(∀b∈fp,pD X pins H b)->tn i s.heap->J.stop i H ->
  wpAny (model P w) X.A (pyNext (.ref it)) (λr s1=>r=none/\Inv X pins σ H s1) E s
 self:∀(A:Around) (i:Nat) (s:Shared) (Q:Value->Shared->Prop) (E:Value->Shared->Prop),tn i s.heap->Q (.ref it) s->wpAny (model P w) A (pyIter (.ref it)) Q E s
noncomputable abbrev TI:=St->Hp->(It->Hp->Prop)->Prop
noncomputable def PIE (X:Cx) (pins:List (Addr × Obj)) (σ:St) (tg:Expr) (R:It->Hp->Prop) (itv:Value) (s2:Shared):Prop :=
 ∃(it:Addr) (fp:List Addr) (tn:Nat->Heap->Prop) (J:It) (H':Hp),itv = .ref it/\Inv X pins σ H' s2/\Turn X.prog X.w X.K tg J fp it tn/\tn 0 s2.heap/\(∀b∈fp,pD X pins H' b)/\R J H'
noncomputable def PI (X:Cx) (tg iter:Expr) (wi:TI):Prop :=
 ∀(pins:List (Addr × Obj)) (s:Shared) (σ:St) (H:Hp) (R:It->Hp->Prop),Inv X pins σ H s->wi σ H R ->
  wpAny (model X.prog X.w) X.A (eval iter X.env) (λv s1=>wpAny (model X.prog X.w) X.A (pyIter v) (PIE X pins σ tg R) X.xe s1) X.xe s
theorem GP {M:Model} {A:Around} {E:Value->Shared->Prop} {s:Shared} {tg:Expr} {it:Addr} {u:Value} {o:Obj} {n:String} {vs:Array Value} {Q:Unit->Shared->Prop} (ho:s.heap.get? it=some o) (hc:o.cls = .type n) (hd:o.data = .fields vs)
  (hn:["enumerate","zip","dict_itemiterator","dict_reverseitemiterator","odict_iterator","itertools.zip_longest","itertools.pairwise"].contains n=false) (hQ:Q () s):wpAny M A (letOwnedTupleGo tg (.ref it) u) Q E s:=by
 unfold letOwnedTupleGo
 cases tg <;> first
  | exact wpAny_pure hQ
  | (cases u <;> first
    | exact wpAny_pure hQ
    | (refine wpAny_bind (wpAny_load ho ?_);rw[hc,hd];show wpAny M A (if (["enumerate","zip","dict_itemiterator","dict_reverseitemiterator","odict_iterator","itertools.zip_longest","itertools.pairwise"].contains n && vs[0]? == some (rawInt _))=true then _ else _) Q E s;rw[if_neg (by intro h;rw[hn,Bool.false_and] at h;cases h)];exact wpAny_pure hQ))
noncomputable def Itl (K:PySem.W.Frag) (a:Addr):It :=
 ⟨λi H=>∃xs x,SqL K H a xs/\xs[i]? = some x,λi H x H'=>H'=H/\∀xs,SqL K H a xs->xs[i]? = some x,λi H=>∃xs,SqL K H a xs/\xs.length<=i⟩
noncomputable def Itt (K:PySem.W.Frag) (a:Addr):It :=
 ⟨λi H=>∃xs x,SqT K H a xs/\xs[i]? = some x,λi H x H'=>H'=H/\∀xs,SqT K H a xs->xs[i]? = some x,λi H=>∃xs,SqT K H a xs/\xs.length<=i⟩
noncomputable def Itr (lo:Int) (n:Nat):It:=⟨λi _=>i<n,λi H x H'=>H'=H/\x = .int (lo+i),λi _=>n<=i⟩
theorem KN {P:Program} {w:World} {K:PySem.W.Frag} {tg:Expr} (a it:Addr):Turn P w K tg (Itl K a) [it] it (λi h=>h.IsListIter it a i) where
 mem:=by simp
 obj:=λi h st b hb=>by
  have e:b=it:=by simpa using hb
  subst e
  obtain⟨o,e,c,d⟩:=st
  exact⟨o,e,λv z=>by rw[d] at z;cases z⟩
 keep:=λi h h' st k=>st.at λo e=>k it (by simp) o e
 item:=by
  intro X hP hw hK hc i pins s σ H E I hf st hg
  subst hP hw hK
  obtain⟨xs,x,hq,hx⟩:=hg
  obtain⟨its,rv,p,hz⟩:=I.list hq
  obtain⟨u,hu,ru⟩:=rv.get hx
  obtain⟨f0,f1,f2,f3,f4,f5⟩:=hf it (by simp)
  refine wpAny_pyNext_list_item st p.isList (x:=u) (by simpa using hu) λh' st' sb=>?_
  have I1:Inv X pins σ H { s with heap:=h' }:=I.turned (t':=s.toks) (λb o hb e=>(sb.2 b hb).trans e) f0 f1 f3 f4 f5
  obtain⟨o,e,c,d⟩:=id st'
  exact⟨u,rfl,GP (s:={ s with heap:=h' }) e c d (by decide) ⟨x,H,I1,ru,⟨rfl,λys hy=>by rw[I.list_inj hy hq];exact hx⟩,st',λb hb=>(hf b hb).1⟩⟩
 done:=by
  intro X hP hw hK hc i pins s σ H E I hf st hg
  subst hP hw hK
  obtain⟨xs,hq,hx⟩:=hg
  obtain⟨its,rv,p,hz⟩:=I.list hq
  obtain⟨f0,f1,f2,f3,f4,f5⟩:=hf it (by simp)
  have hl:=rv.length
  exact wpAny_pyNext_list_end (I.ok.hd hc) st p.isList (by simp;omega) λh' eb=>⟨rfl,I.turned (t':=s.toks) (λb o hb e=>eb b o hb e) f0 f1 f3 f4 f5⟩
 self:=λ_ _ _ _ _ st h=>wpAny_pyIter_listiter st h
theorem FM {P:Program} {w:World} {K:PySem.W.Frag} {tg:Expr} (a it:Addr):Turn P w K tg (Itt K a) [it] it (λi h=>h.IsTupleIter it a i) where
 mem:=by simp
 obj:=λi h st b hb=>by
  have e:b=it:=by simpa using hb
  subst e
  obtain⟨o,e,c,d⟩:=st
  exact⟨o,e,λv z=>by rw[d] at z;cases z⟩
 keep:=λi h h' st k=>st.at λo e=>k it (by simp) o e
 item:=by
  intro X hP hw hK hc i pins s σ H E I hf st hg
  subst hP hw hK
  obtain⟨xs,x,hq,hx⟩:=hg
  obtain⟨its,rv,p,hz⟩:=I.tuple hq
  obtain⟨u,hu,ru⟩:=rv.get hx
  obtain⟨f0,f1,f2,f3,f4,f5⟩:=hf it (by simp)
  refine wpAny_pyNext_tuple_item st (show s.heap.IsTuple a its.toArray from p) (x:=u) (by simpa using hu) λh' st' sb=>?_
  have I1:Inv X pins σ H { s with heap:=h' }:=I.turned (t':=s.toks) (λb o hb e=>(sb.2 b hb).trans e) f0 f1 f3 f4 f5
  obtain⟨o,e,c,d⟩:=id st'
  exact⟨u,rfl,GP (s:={ s with heap:=h' }) e c d (by decide) ⟨x,H,I1,ru,⟨rfl,λys hy=>by rw[I.tuple_inj hy hq];exact hx⟩,st',λb hb=>(hf b hb).1⟩⟩
 done:=by
  intro X hP hw hK hc i pins s σ H E I hf st hg
  subst hP hw hK
  obtain⟨xs,hq,hx⟩:=hg
  obtain⟨its,rv,p,hz⟩:=I.tuple hq
  obtain⟨f0,f1,f2,f3,f4,f5⟩:=hf it (by simp)
  have hl:=rv.length
  exact wpAny_pyNext_tuple_end (I.ok.hd hc) st (show s.heap.IsTuple a its.toArray from p) (by simp;omega) λh' eb=>⟨rfl,I.turned (t':=s.toks) (λb o hb e=>eb b o hb e) f0 f1 f3 f4 f5⟩
 self:=λ_ _ _ _ _ st h=>wpAny_pyIter_tupleiter st h
theorem FL {P:Program} {w:World} {K:PySem.W.Frag} {tg:Expr} (it:Addr) (lo:Int) (n:Nat):Turn P w K tg (Itr lo n) [it] it (λi h=>IsRangeIter h it (lo+(i:Nat)*1) ((n:Int)-(i:Nat)) 1) where
 mem:=by simp
 obj:=λi h st b hb=>by
  have e:b=it:=by simpa using hb
  subst e
  exact⟨_,st,λv z=>by
   have z':Data.fields _=Data.cell v:=z
   cases z'⟩
 keep:=λi h h' st k=>k it (by simp) _ st
 item:=by
  intro X hP hw hK hc i pins s σ H E I hf st hg
  subst hP hw hK
  obtain⟨f0,f1,f2,f3,f4,f5⟩:=hf it (by simp)
  have W:=Walks.range (prog:=X.prog) (w:=X.w) (I.ok.hd hc) it lo 1 n
  refine W.item i s _ _ hg st λv h' tk hv st' kk=>?_
  obtain⟨t,rfl⟩:=hv
  have I1:Inv X pins σ H { s with heap:=h',toks:=tk }:=I.turned (λb o hb e=>kk b o (by simpa using hb) e) f0 f1 f3 f4 f5
  refine⟨_,rfl,GP (s:={ s with heap:=h',toks:=tk }) (n:="range_iterator") st' rfl rfl (by decide) ⟨.int (lo+i),H,I1,⟨t,?_⟩,⟨rfl,rfl⟩,st',λb hb=>(hf b hb).1⟩⟩
  rw[Int.mul_one]
 done:=by
  intro X hP hw hK hc i pins s σ H E I hf st hg
  subst hP hw hK
  obtain⟨f0,f1,f2,f3,f4,f5⟩:=hf it (by simp)
  exact wpAny_pyNext_range_end (I.ok.hd hc) st (by have:n<=i:=hg;omega) λh' eb=>⟨rfl,I.turned (t':=s.toks) (λb o hb e=>eb b o hb e) f0 f1 f3 f4 f5⟩
 self:=λ_ _ _ _ _ st h=>wpAny_pyIter_rangeiter st h
end L2
namespace L2
open PySem PySem.Spec PyProof.Rows
section
variable {X:Cx} {tg:Expr}
noncomputable def XQ (K:PySem.W.Frag) (tl:TE):TI:=λσ H R=>tl σ H λx H1=>∃a,x = .ref a/\(∃xs,SqL K H1 a xs)/\R (Itl K a) H1
noncomputable def ZT (K:PySem.W.Frag) (tl:TE):TI:=λσ H R=>tl σ H λx H1=>∃a,x = .ref a/\(∃xs,SqT K H1 a xs)/\R (Itt K a) H1
theorem RL {l:Expr} {tl:TE} (hl:PE X l tl):PI X tg l (XQ X.K tl):=by
 intro pins s σ H R I h
 refine thn (hl pins s σ H _ I h) λv s1 ⟨x,H1,I1,r1,q1⟩=>?_
 obtain⟨a,e,⟨xs,hq⟩,q⟩:=q1
 subst e
 cases r1
 obtain⟨its,rv,p,hz⟩:=I1.list hq
 refine wpAny_pyIter_list p.isList ?_
 refine⟨s1.heap.objs.size,[s1.heap.objs.size],_,_,H1,rfl,I1.kept (t':=s1.toks) λb o e=>Heap.get?_push_of_some _ e,KN a _,⟨_,Heap.get?_push_size _ rfl,rfl,rfl⟩,λb hb=>?_,q⟩
 have e:b=s1.heap.objs.size:=by simpa using hb
 subst e
 exact I1.fpOk (Nat.le_refl _) (I1.hok.fresh (Nat.le_refl _))
theorem WB {l:Expr} {tl:TE} (hl:PE X l tl):PI X tg l (ZT X.K tl):=by
 intro pins s σ H R I h
 refine thn (hl pins s σ H _ I h) λv s1 ⟨x,H1,I1,r1,q1⟩=>?_
 obtain⟨a,e,⟨xs,hq⟩,q⟩:=q1
 subst e
 cases r1
 obtain⟨its,rv,p,hz⟩:=I1.tuple hq
 refine wpAny_pyIter_tuple (show s1.heap.IsTuple a its.toArray from p) ?_
 refine⟨s1.heap.objs.size,[s1.heap.objs.size],_,_,H1,rfl,I1.kept (t':=s1.toks) λb o e=>Heap.get?_push_of_some _ e,FM a _,⟨_,Heap.get?_push_size _ rfl,rfl,rfl⟩,λb hb=>?_,q⟩
 have e:b=s1.heap.objs.size:=by simpa using hb
 subst e
 exact I1.fpOk (Nat.le_refl _) (I1.hok.fresh (Nat.le_refl _))
theorem OF {pins:List (Addr × Obj)} {σ:St} {H:Hp} {s:Shared} {R:It->Hp->Prop} {E:Value->Shared->Prop} {lo hi:Int} {t u v:Tok} {tk:Nat} (I:Inv X pins σ H s) (h1:-(2 ^ 62)<=lo) (h2:lo<2 ^ 62) (h3:-(2 ^ 62)<=hi) (h4:hi<2 ^ 62)
  (q:R (Itr lo (hi-lo).toNat) H):wpAny (model X.prog X.w) X.A (pyIter (.ref s.heap.objs.size)) (PIE X pins σ tg R) E { s with heap:=s.heap.push { cls:=.type "range",data:=.fields #[.int lo t,.int hi u,.int 1 v] },toks:=tk }:=by
 refine wpAny_pyIter_range (IsRange.new ..) (small_one h1 h2 h3 h4) ?_
 have I1:Inv X pins σ H { s with heap:=s.heap.push { cls:=.type "range",data:=.fields #[.int lo t,.int hi u,.int 1 v] },toks:=tk }:=I.kept λb o e=>Heap.get?_push_of_some _ e
 refine⟨(s.heap.push { cls:=.type "range",data:=.fields #[.int lo t,.int hi u,.int 1 v] }).objs.size,[(s.heap.push { cls:=.type "range",data:=.fields #[.int lo t,.int hi u,.int 1 v] }).objs.size],_,_,H,rfl,
  I1.kept (t':=tk) λb o e=>Heap.get?_push_of_some _ e,FL _ lo (hi-lo).toNat,?_,λb hb=>?_,q⟩
 ·have e1:lo+((0:Nat):Int)*1=lo:=by simp
  have e2:(((hi-lo).toNat:Nat):Int)-((0:Nat):Int)=Builtin.Range.rangeSize lo hi 1:=by rw[rangeSize_one];split <;> omega
  show IsRangeIter _ _ (lo+((0:Nat):Int)*1) ((((hi-lo).toNat:Nat):Int)-((0:Nat):Int)) 1
  rw[e1,e2]
  exact Heap.get?_push_size _ rfl
 ·have e:b=(s.heap.push { cls:=.type "range",data:=.fields #[.int lo t,.int hi u,.int 1 v] }).objs.size:=by simpa using hb
  subst e
  exact I1.fpOk (Nat.le_refl _) (I1.hok.fresh (Nat.le_refl _))
noncomputable def XR (ta:TA):TI:=λσ H R=>ta σ H λvs H1=>∃j:Int,vs=[.int j]/\-(2 ^ 62)<=j/\j<2 ^ 62/\R (Itr 0 j.toNat) H1
theorem JX {a:Expr} {ta:TA} {p pos:Pos} (hg:Gl X "range") (hm:X.mg "range" = none) (ha:PA X [a] ta) (hs:starEach [a] X.env=[(false,eval a X.env)]:=by rfl):PI X tg (.Call (.Name "range" p) [a] [] pos) (XR ta):=by
 intro pins s σ H R I h
 refine Call_ (fY I hg hm boot_range (PyProof.Rows.callWith_type1 (thn (ha pos pins s σ H _ I h) λus s1 ⟨vs,H1,I1,r1,q1⟩=>?_) hs rfl))
 obtain⟨j,e,q1,q2,q⟩:=q1
 subst e
 cases r1 with
 | cons r rr =>
  cases rr
  obtain⟨t,rfl⟩:=r
  exact call_range_1 (OF I1 (by omega) (by omega) q1 q2 (by simpa using q))
noncomputable def Aj (wi:TI) (g:TG) (tb:TS):TS:=λD σ H=>wi σ H λJ H1=>∃W:Nat->Nat->St->Hp->Prop,(∃m,W 0 m σ H1)/\∀i m σ H,W i m σ H ->
 (J.stop i H/\D.nx σ H)\/(J.go i H/\∃N:St->Hp->Prop,(∀σ' H',N σ' H'->∃m',m'<m/\W (i+1) m' σ' H')/\∀x H',J.yld i H x H'->g x σ H' λσ2 H2=>tb { D with nx:=N,ct:=N,bk:=D.nx } σ2 H2)
noncomputable def yX (fp:List Addr) (h:Heap):List (Addr × Obj):=fp.filterMap λb=>(h.get? b).map λo=>(b,o)
theorem jU {fp:List Addr} {h:Heap} {b:Addr} {o:Obj} (hb:b∈fp) (e:h.get? b=some o):(b,o)∈yX fp h:=List.mem_filterMap.mpr ⟨b,hb,by rw[e];rfl⟩
theorem JS {fp:List Addr} {h:Heap} {p:Addr × Obj} (hp:p∈yX fp h):p.1∈fp/\h.get? p.1=some p.2:=by
 obtain⟨b,hb,e⟩:=List.mem_filterMap.mp hp
 cases q:h.get? b with
 | none=>rw[q] at e;cases e
 | some o =>
  rw[q] at e
  have e':(b,o)=p:=Option.some.inj e
  subst e'
  exact⟨hb,q⟩
theorem Inv.pinned {pins:List (Addr × Obj)} {σ:St} {H:Hp} {s:Shared} {fp:List Addr} (I:Inv X pins σ H s) (hf:∀b∈fp,pD X pins H b) (ho:∀b∈fp,∃o,s.heap.get? b=some o/\∀v,o.data≠.cell v):Inv X (pins++yX fp s.heap) σ H s :=
 I.pins_of λp hp=>(List.mem_append.mp hp).elim (λz=>I.pin p (List.mem_append_right _ z)) λz=>by
  obtain⟨hb,e⟩:=JS z
  obtain⟨f0,f1,f2,_⟩:=hf p.1 hb
  obtain⟨o,e',d⟩:=ho p.1 hb
  rw[e] at e';cases e'
  exact⟨e,f0,f1,f2,d⟩
theorem Inv.unpinned {pins pl:List (Addr × Obj)} {σ:St} {H:Hp} {s:Shared} (I:Inv X (pins++pl) σ H s):Inv X pins σ H s:=I.pins_of λp hp=>I.pin p (List.mem_append_right _ (List.mem_append_left _ hp))
theorem WC {iter:Expr} {body:List Stmt} {wi:TI} {g:TG} {tb:TS} {pos:Pos} (hp:PassesOwn (model X.prog X.w) X.A X.env X.xe) (hc:X.calm=true) (hi:PI X tg iter wi) (hg:PG X tg g) (hb:PSs X body tb)
  (hs:∀x,foldedSetIterable iter X.env x=pure x:=by intro _;rfl):PS X (.For tg iter body [] pos) (Aj wi g tb):=by
 intro pins s σ H D I h
 refine wpAny_For (thn (hi pins s σ H _ I h) λv s1 h1=>thn h1 λitv s2 h2=>?_) hs
 obtain⟨it,fp,tn,J,H2,e,I2,T,st2,f2,W,⟨m0,w0⟩,turn⟩:=h2
 subst e
 have stat:∀{H':Hp},(∀b∈fp,H' b=none)->∀b∈fp,pD X pins H' b:=λhn b hb=>⟨hn b hb,(f2 b hb).2⟩
 refine codeAny_forLoop_any (λn s'=>∃i σ' H',Inv X pins σ' H' s'/\tn i s'.heap/\(∀b∈fp,H' b=none)/\W i n σ' H') ?_ m0 ⟨0,σ,H2,I2,st2,λb hb=>(f2 b hb).1,w0⟩
 rintro n s3 ⟨i,σ3,H3,I3,st3,fr3,w3⟩
 rcases turn i n σ3 H3 w3 with ⟨stop,qn⟩ | ⟨go,N,hN,step⟩
 ·refine wpAny_passesOwn hp (thn (T.done X rfl rfl rfl hc i pins s3 σ3 H3 X.xe I3 (stat fr3) st3 stop) λr s4 ⟨hr,I4⟩=>?_)
  subst hr
  exact wpAny_execs_nil ⟨σ3,H3,I4,qn⟩
 ·refine wpAny_passesOwn hp (thn (T.item X rfl rfl rfl hc i pins s3 σ3 H3 X.xe I3 (stat fr3) st3 go) λr s4 ⟨u,hr,h4⟩=>?_)
  subst hr
  refine wpAny_passesOwn hp (thn h4 λ_ s5 ⟨x,H5,I5,r5,y5,st5,fr5⟩=>?_)
  have I5':=I5.pinned (stat fr5) (T.obj _ _ st5)
  refine wpAny_passesOwn hp (thn (hg _ s5 σ3 H5 x u _ I5' r5 (step x H5 y5)) λ_ s6 ⟨σ6,H6,I6,q6⟩=>?_)
  refine wpAny_passesOwn hp (thn (hb _ s6 σ6 H6 _ I6 q6) λf s7 q7=>?_)
  have again:∀{σ7:St} {H7:Hp},Inv X (pins++yX fp s5.heap) σ7 H7 s7->N σ7 H7->∃m,m<n/\∃i σ' H',Inv X pins σ' H' s7/\tn i s7.heap/\(∀b∈fp,H' b=none)/\W i m σ' H':=λ{σ7 H7} I7 n7=>by
   obtain⟨m',hm,w7⟩:=hN σ7 H7 n7
   refine⟨m',hm,i+1,σ7,H7,I7.unpinned,T.keep _ _ _ st5 λb hb o e=>(I7.pin (b,o) (List.mem_append_right _ (List.mem_append_right _ (jU hb e)))).1,λb hb=>?_,w7⟩
   obtain⟨o,e,d⟩:=T.obj _ _ st5 b hb
   exact (I7.pin (b,o) (List.mem_append_right _ (List.mem_append_right _ (jU hb e)))).2.1
  cases f with
  | next=>obtain⟨σ7,H7,I7,n7⟩:=q7;exact again I7 n7
  | cont=>obtain⟨σ7,H7,I7,n7⟩:=q7;exact again I7 n7
  | brk=>obtain⟨σ7,H7,I7,q7⟩:=q7;exact⟨σ7,H7,I7.unpinned,q7⟩
  | ret v=>obtain⟨x7,σ7,H7,I7,r7,q7⟩:=q7;exact⟨x7,σ7,H7,I7.unpinned,r7,q7⟩
end
theorem AR {K:PySem.W.Frag} {a:Addr} {xs:List V} {g:TG} {tb:TS} {D:Ends} {σ:St} {H:Hp} (Pv:Nat->St->Hp->Prop) (h0:Pv 0 σ H) (hl:∀i σ H,i<=xs.length->Pv i σ H->SqL K H a xs)
  (hs:∀i x σ H,xs[i]? = some x->Pv i σ H->g x σ H λσ2 H2=>tb { D with nx:=Pv (i+1),ct:=Pv (i+1),bk:=D.nx } σ2 H2) (hd:∀σ H,Pv xs.length σ H->D.nx σ H) :
  ∃W:Nat->Nat->St->Hp->Prop,(∃m,W 0 m σ H)/\∀i m σ H,W i m σ H ->
   ((Itl K a).stop i H/\D.nx σ H)\/((Itl K a).go i H/\∃N:St->Hp->Prop,(∀σ' H',N σ' H'->∃m',m'<m/\W (i+1) m' σ' H')/\∀x H',(Itl K a).yld i H x H'->g x σ H' λσ2 H2=>tb { D with nx:=N,ct:=N,bk:=D.nx } σ2 H2):=by
 refine⟨λi m σ H=>m=xs.length-i/\i<=xs.length/\Pv i σ H,⟨xs.length,by simp,Nat.zero_le _,h0⟩,?_⟩
 rintro i m σ H ⟨rfl,hi,p⟩
 have q:=hl i σ H hi p
 by_cases hlt:i<xs.length
 ·refine .inr ⟨⟨xs,xs[i],q,by simp[hlt]⟩,Pv (i+1),λσ' H' p'=>⟨xs.length-(i+1),by omega,rfl,hlt,p'⟩,λx H' y=>?_⟩
  obtain⟨e,y⟩:=y
  subst e
  exact hs i x σ _ (y xs q) p
 ·have e:i=xs.length:=by omega
  subst e
  exact .inl ⟨⟨xs,q,Nat.le_refl _⟩,hd σ H p⟩
end L2
namespace L2
open PySem PySem.Spec PyProof.Rows
noncomputable abbrev R2:=V->V->Hp->VK->Prop
noncomputable def OpR (X:Cx) (f:Value->Value->Sem Value) (r:R2):Prop :=
 ∀(pins:List (Addr × Obj)) (s:Shared) (σ:St) (H:Hp) (x y:V) (v u:Value) (Q:VK),Inv X pins σ H s->RelV x v->RelV y u->r x y H Q ->
  wpAny (model X.prog X.w) X.A (f v u) (EP X pins σ Q) X.xe s
noncomputable def UnR (X:Cx) (f:Value->Sem Value) (r:V->Hp->VK->Prop):Prop :=
 ∀(pins:List (Addr × Obj)) (s:Shared) (σ:St) (H:Hp) (x:V) (v:Value) (Q:VK),Inv X pins σ H s->RelV x v->r x H Q ->
  wpAny (model X.prog X.w) X.A (f v) (EP X pins σ Q) X.xe s
noncomputable def gS (X:Cx) (f:Value) (r:List V->Hp->VK->Prop):Prop :=
 ∀(pins:List (Addr × Obj)) (s:Shared) (σ:St) (H:Hp) (xs:List V) (us:List Value) (Q:VK),Inv X pins σ H s->Vals xs us->r xs H Q ->
  wpAny (model X.prog X.w) X.A (call f us) (EP X pins σ Q) X.xe s
noncomputable def tOp (r:R2) (ta tb:TE):TE:=λσ H Q=>ta σ H λx H1=>tb σ H1 λy H2=>r x y H2 Q
noncomputable def tUn (r:V->Hp->VK->Prop) (ta:TE):TE:=λσ H Q=>ta σ H λx H1=>r x H1 Q
noncomputable def rI (C:Int->Int->Prop) (g:Int->Int->V):R2:=λx y H Q=>∃i j,x = .int i/\y = .int j/\C i j/\Q (g i j) H
noncomputable def rI0 (g:Int->Int->V):R2:=λx y H Q=>∃i j,x = .int i/\y = .int j/\Q (g i j) H
noncomputable def rU (g:Int->V):V->Hp->VK->Prop:=λx H Q=>∃i,x = .int i/\Q (g i) H
section
variable {X:Cx} {a b c:Expr} {ta tb tc:TE} {pos:Pos}
theorem UJ (ha:PE X a ta) (hb:PE X b tb) {pins:List (Addr × Obj)} {s:Shared} {σ:St} {H:Hp} {R:V->V->Hp->Prop} (I:Inv X pins σ H s)
  (h:ta σ H λx H1=>tb σ H1 λy H2=>R x y H2) {Q:Value->Shared->Prop} {f:Value->Value->Sem Value}
  (hf:∀v u s2 x y H2,Inv X pins σ H2 s2->RelV x v->RelV y u->R x y H2->wpAny (model X.prog X.w) X.A (f v u) Q X.xe s2) :
  wpAny (model X.prog X.w) X.A (eval a X.env) (λv s₁=>wpAny (model X.prog X.w) X.A (eval b X.env) (λu s₂=>wpAny (model X.prog X.w) X.A (f v u) Q X.xe s₂) X.xe s₁) X.xe s:=by
 refine thn (ha pins s σ H _ I h) λv s1 ⟨x,H1,I1,r1,q1⟩=>?_
 refine thn (hb pins s1 σ H1 _ I1 q1) λu s2 ⟨y,H2,I2,r2,q2⟩=>?_
 exact hf v u s2 x y H2 I2 r1 r2 q2
theorem YI {op:Operator} {r:R2} (ho:OpR X (binaryOp op) r) (ha:PE X a ta) (hb:PE X b tb):PE X (.BinOp a op b pos) (tOp r ta tb):=by
 intro pins s σ H Q I h
 exact wpAny_BinOp (UJ ha hb I h λv u s2 x y H2 I2 rx ry q=>ho pins s2 σ H2 x y v u Q I2 rx ry q)
theorem YJ {op:UnaryOp} {r:V->Hp->VK->Prop} (ho:UnR X (unaryOp op) r) (ha:PE X a ta):PE X (.UnaryOp op a pos) (tUn r ta):=by
 intro pins s σ H Q I h
 exact UnaryOp_ (thn (ha pins s σ H _ I h) λv s1 ⟨x,H1,I1,r1,q1⟩=>ho pins s1 σ H1 x v Q I1 r1 q1)
theorem opI {f:Value->Value->Sem Value} {C:Int->Int->Prop} {g:Int->Int->Int}
  (rule:∀(i j:Int) (t u:Tok) (s:Shared) (Q:Value->Shared->Prop) (E:Value->Shared->Prop),C i j->Q (.int (g i j) s.toks) { s with toks:=s.toks+1 }->wpAny (model X.prog X.w) X.A (f (.int i t) (.int j u)) Q E s) :
  OpR X f (rI C λi j=>.int (g i j)):=by
 intro pins s σ H x y v u Q I rx ry h
 obtain⟨i,j,rfl,rfl,hc,q⟩:=h
 obtain⟨t,rfl⟩:=rx
 obtain⟨t',rfl⟩:=ry
 exact rule i j t t' s _ _ hc ⟨.int (g i j),H,I.tok _,⟨_,rfl⟩,q⟩
theorem QY {f:Value->Value->Sem Value} {g:Int->Int->Bool}
  (rule:∀(i j:Int) (t u:Tok) (s:Shared) (Q:Value->Shared->Prop) (E:Value->Shared->Prop),Q (.bool (g i j)) s->wpAny (model X.prog X.w) X.A (f (.int i t) (.int j u)) Q E s) :
  OpR X f (rI0 λi j=>.bl (g i j)):=by
 intro pins s σ H x y v u Q I rx ry h
 obtain⟨i,j,rfl,rfl,q⟩:=h
 obtain⟨t,rfl⟩:=rx
 obtain⟨t',rfl⟩:=ry
 exact rule i j t t' s _ _ ⟨.bl (g i j),H,I,rfl,q⟩
noncomputable def CMul (i j:Int):Prop:=(-(2 ^ 64)<i/\i<2 ^ 64)\/(-(2 ^ 64)<j/\j<2 ^ 64)
theorem CMul.ok {i j:Int} (h:CMul i j):IntMulOk i j:=by
 rcases h with ⟨h1,h2⟩ | ⟨h1,h2⟩
 ·exact .of_left (intBits_le_64 h1 h2)
 ·exact .of_right (intBits_le_64 h1 h2)
theorem unI {f:Value->Sem Value} {g:Int->Int}
  (rule:∀(i:Int) (t:Tok) (s:Shared) (Q:Value->Shared->Prop) (E:Value->Shared->Prop),Q (.int (g i) s.toks) { s with toks:=s.toks+1 }->wpAny (model X.prog X.w) X.A (f (.int i t)) Q E s) :
  UnR X f (rU λi=>.int (g i)):=by
 intro pins s σ H x v Q I rx h
 obtain⟨i,rfl,q⟩:=h
 obtain⟨t,rfl⟩:=rx
 exact rule i t s _ _ ⟨.int (g i),H,I.tok _,⟨_,rfl⟩,q⟩
theorem XB:UnR X (unaryOp .USub) (rU λi=>.int (-i)):=unI λ_ _ _ _ _ q=>neg_int q
end
noncomputable def YV:V->V->Bool
 | .non,.non=>true | .non,.int _=>true | .int _,.non=>true | .non,.bl _=>true | .bl _,.non=>true | .non,.str _=>true | .str _,.non=>true
 | .int _,.int _=>true | .bl _,.bl _=>true | .str _,.str _=>true | .byt _,.byt _=>true
 | .int _,.str _=>true | .str _,.int _=>true | .bl _,.str _=>true | .str _,.bl _=>true
 | _,_=>false
noncomputable def rEq:R2:=λx y H Q=>YV x y=true/\Q (.bl (decide (x=y))) H
noncomputable def rNe:R2:=λx y H Q=>YV x y=true/\Q (.bl (!decide (x=y))) H
theorem GH {i j:Int}:decide (V.int i=V.int j)=(i == j):=by
 rw[Bool.eq_iff_iff]
 simp
theorem MN {i j:Bool}:decide (V.bl i=V.bl j)=(i == j):=by
 rw[Bool.eq_iff_iff]
 simp
theorem GI {i j:Str}:decide (V.str i=V.str j)=(i == j):=by
 rw[Bool.eq_iff_iff]
 simp
theorem GG {i j:Array UInt8}:decide (V.byt i=V.byt j)=(i.toList == j.toList):=by
 rw[Bool.eq_iff_iff]
 cases i
 cases j
 simp
section
variable {X:Cx} {a b c:Expr} {ta tb tc:TE} {pos:Pos}
theorem bJ {pins:List (Addr × Obj)} {σ:St} {H:Hp} {s:Shared} {Q:VK} {k k':Bool} (I:Inv X pins σ H s) (q:Q (.bl k) H) (e:k=k'):EP X pins σ Q (.bool k') s:=by
 subst e
 exact⟨.bl k,H,I,rfl,q⟩
theorem TZ:OpR X (compareOp .Eq) rEq:=by
 intro pins s σ H x y v u Q I rx ry h
 obtain⟨hs,q⟩:=h
 cases x with
 | non =>
  cases rx
  cases y with
  | non=>cases ry;exact PySem.EqNone.eq_none_none (bJ I q (by simp))
  | bl j=>cases ry;exact PySem.EqNone.eq_none_bool (bJ I q (by simp))
  | int j=>obtain⟨t',rfl⟩:=ry;exact PySem.EqNone.eq_none_int (bJ I q (by simp))
  | str j=>obtain⟨t',rfl⟩:=ry;exact PySem.EqNone.eq_none_str (bJ I q (by simp))
  | _=>exact absurd (show false=true from hs) Bool.false_ne_true
 | bl i =>
  cases rx
  cases y with
  | non=>cases ry;exact PySem.EqNone.eq_bool_none (bJ I q (by simp))
  | bl j=>cases ry;exact eq_bool (bJ I q MN)
  | str j=>obtain⟨t',rfl⟩:=ry;exact PySem.EqMixed.eq_bool_str (bJ I q (by simp))
  | _=>exact absurd (show false=true from hs) Bool.false_ne_true
 | int i =>
  obtain⟨t,rfl⟩:=rx
  cases y with
  | non=>cases ry;exact PySem.EqNone.eq_int_none (bJ I q (by simp))
  | int j=>obtain⟨t',rfl⟩:=ry;exact eq_int (bJ I q GH)
  | str j=>obtain⟨t',rfl⟩:=ry;exact PySem.EqMixed.eq_int_str (bJ I q (by simp))
  | _=>exact absurd (show false=true from hs) Bool.false_ne_true
 | str i =>
  obtain⟨t,rfl⟩:=rx
  cases y with
  | non=>cases ry;exact PySem.EqNone.eq_str_none (bJ I q (by simp))
  | bl j=>cases ry;exact PySem.EqMixed.eq_str_bool (bJ I q (by simp))
  | int j=>obtain⟨t',rfl⟩:=ry;exact PySem.EqMixed.eq_str_int (bJ I q (by simp))
  | str j=>obtain⟨t',rfl⟩:=ry;exact eq_str (bJ I q GI)
  | _=>exact absurd (show false=true from hs) Bool.false_ne_true
 | byt i =>
  obtain⟨t,rfl⟩:=rx
  cases y with
  | byt j=>obtain⟨t',rfl⟩:=ry;exact PySem.W.eq_bytes (bJ I q GG)
  | _=>exact absurd (show false=true from hs) Bool.false_ne_true
 | _=>cases y <;> exact absurd (show false=true from hs) Bool.false_ne_true
theorem UA:OpR X (compareOp .NotEq) rNe:=by
 intro pins s σ H x y v u Q I rx ry h
 obtain⟨hs,q⟩:=h
 cases x with
 | non =>
  cases rx
  cases y with
  | non=>cases ry;exact PySem.EqNone.ne_none_none (bJ I q (by simp))
  | bl j=>cases ry;exact PySem.EqNone.ne_none_bool (bJ I q (by simp))
  | int j=>obtain⟨t',rfl⟩:=ry;exact PySem.EqNone.ne_none_int (bJ I q (by simp))
  | str j=>obtain⟨t',rfl⟩:=ry;exact PySem.EqNone.ne_none_str (bJ I q (by simp))
  | _=>exact absurd (show false=true from hs) Bool.false_ne_true
 | bl i =>
  cases rx
  cases y with
  | non=>cases ry;exact PySem.EqNone.ne_bool_none (bJ I q (by simp))
  | bl j=>cases ry;exact ne_bool (bJ I q (congrArg not MN))
  | str j=>obtain⟨t',rfl⟩:=ry;exact PySem.EqMixed.ne_bool_str (bJ I q (by simp))
  | _=>exact absurd (show false=true from hs) Bool.false_ne_true
 | int i =>
  obtain⟨t,rfl⟩:=rx
  cases y with
  | non=>cases ry;exact PySem.EqNone.ne_int_none (bJ I q (by simp))
  | int j=>obtain⟨t',rfl⟩:=ry;exact ne_int (bJ I q (congrArg not GH))
  | str j=>obtain⟨t',rfl⟩:=ry;exact PySem.EqMixed.ne_int_str (bJ I q (by simp))
  | _=>exact absurd (show false=true from hs) Bool.false_ne_true
 | str i =>
  obtain⟨t,rfl⟩:=rx
  cases y with
  | non=>cases ry;exact PySem.EqNone.ne_str_none (bJ I q (by simp))
  | bl j=>cases ry;exact PySem.EqMixed.ne_str_bool (bJ I q (by simp))
  | int j=>obtain⟨t',rfl⟩:=ry;exact PySem.EqMixed.ne_str_int (bJ I q (by simp))
  | str j=>obtain⟨t',rfl⟩:=ry;exact ne_str (bJ I q (congrArg not GI))
  | _=>exact absurd (show false=true from hs) Bool.false_ne_true
 | byt i =>
  obtain⟨t,rfl⟩:=rx
  cases y with
  | byt j=>obtain⟨t',rfl⟩:=ry;exact PySem.W.ne_bytes (bJ I q (congrArg not GG))
  | _=>exact absurd (show false=true from hs) Bool.false_ne_true
 | _=>cases y <;> exact absurd (show false=true from hs) Bool.false_ne_true
theorem YE:OpR X (compareOp .Lt) (rI0 λi j=>.bl (decide (i<j))):=QY λ_ _ _ _ _ _ _ q=>lt_int q
theorem YD:OpR X (compareOp .LtE) (rI0 λi j=>.bl (decide (i<=j))):=QY λ_ _ _ _ _ _ _ q=>le_int q
theorem YC:OpR X (compareOp .Gt) (rI0 λi j=>.bl (decide (j<i))):=QY λ_ _ _ _ _ _ _ q=>gt_int q
theorem YB:OpR X (compareOp .GtE) (rI0 λi j=>.bl (decide (j<=i))):=QY λ_ _ _ _ _ _ _ q=>ge_int q
theorem VN:OpR X (compareOp .Is) (λx y H Q=>y = .non/\Q (.bl (decide (x = .non))) H):=by
 intro pins s σ H x y v u Q I rx ry h
 obtain⟨rfl,q⟩:=h
 cases ry
 refine is_none_gen (bJ I q ?_)
 cases x <;> first
  | (cases rx;rfl)
  | (obtain⟨t,rfl⟩:=rx;rfl)
theorem NO (b:Expr) {op:CmpOp} (h:op≠.In:=by decide) (h2:op≠.NotIn:=by decide):behindInMarks op b=false:=by
 have e1:(op == CmpOp.In)=false:=by cases op <;> first | rfl | exact absurd rfl h
 have e2:(op == CmpOp.NotIn)=false:=by cases op <;> first | rfl | exact absurd rfl h2
 cases b <;> simp[behindInMarks,e1,e2]
theorem RI {op:CmpOp} {r:R2} (ho:OpR X (compareOp op) r) (ha:PE X a ta) (hb:PE X b tb) (hm:behindInMarks op b=false):PE X (.Compare a [op] [b] pos) (tOp r ta tb):=by
 intro pins s σ H Q I h
 exact wpAny_Compare1 (UJ ha hb I h λv u s2 x y H2 I2 rx ry q=>ho pins s2 σ H2 x y v u Q I2 rx ry q) hm
noncomputable def ZI (t:TE):TT:=λσ H Q=>t σ H λx H'=>∃k,x = .bl k/\Q k H'
theorem RX {op:CmpOp} {r:R2} (ho:OpR X (compareOp op) r) (ha:PE X a ta) (hb:PE X b tb) (hm:behindInMarks op b=false):PT X (.Compare a [op] [b] pos) (ZI (tOp r ta tb)):=by
 intro pins s σ H Q I h
 refine wpAny_isTrue_Compare1 (thn (ha pins s σ H _ I h) λv s1 ⟨x,H1,I1,r1,q1⟩=>thn (hb pins s1 σ H1 _ I1 q1) λu s2 ⟨y,H2,I2,r2,q2⟩ =>
  thn (ho pins s2 σ H2 x y v u _ I2 r1 r2 q2) λc s3 ⟨z,H3,I3,r3,k,e,q3⟩=>?_) hm
 subst e
 cases r3
 exact wpAny_truthy_bool ⟨H3,I3,q3⟩
theorem yM:(sizeLine:Nat)<2 ^ 63:=by rw[sizeLine_eq];decide
theorem iU {x:V} {us:List Value} (r:Vals [x] us):∃u,us=[u]/\RelV x u:=by
 cases r with
 | cons r1 r2=>cases r2;exact⟨_,rfl,r1⟩
theorem CP {x y:V} {us:List Value} (r:Vals [x,y] us):∃u w',us=[u,w']/\RelV x u/\RelV y w':=by
 cases r with
 | cons r1 r2 =>
  cases r2 with
  | cons r3 r4=>cases r4;exact⟨_,_,rfl,r1,r3⟩
theorem LN:gS X (.builtin "abs") (λxs H Q=>∃i,xs=[.int i]/\Q (.int (if i<0 then -i else i)) H):=by
 intro pins s σ H xs us Q I r h
 obtain⟨i,rfl,q⟩:=h
 obtain⟨u,rfl,t,rfl⟩:=iU r
 exact call_abs_int λu tk=>⟨.int (if i<0 then -i else i),H,I.tok _,⟨_,rfl⟩,q⟩
theorem IG (hc:X.calm=true):gS X (.builtin "max") (λxs H Q=>∃i j,xs=[.int i,.int j]/\Q (.int (if j > i then j else i)) H):=by
 intro pins s σ H xs us Q I r h
 obtain⟨i,j,rfl,q⟩:=h
 obtain⟨u,w',rfl,⟨t,rfl⟩,⟨t',rfl⟩⟩:=CP r
 refine max_two_ints (I.ok.hd hc) λh' tk k=>⟨_,H,I.kept k,?_,q⟩
 by_cases hj:j > i
 ·rw[if_pos hj,if_pos hj];exact⟨_,rfl⟩
 ·rw[if_neg hj,if_neg hj];exact⟨_,rfl⟩
theorem II (hc:X.calm=true):gS X (.builtin "min") (λxs H Q=>∃i j,xs=[.int i,.int j]/\Q (.int (if j<i then j else i)) H):=by
 intro pins s σ H xs us Q I r h
 obtain⟨i,j,rfl,q⟩:=h
 obtain⟨u,w',rfl,⟨t,rfl⟩,⟨t',rfl⟩⟩:=CP r
 refine min_two_ints (I.ok.hd hc) λh' tk k=>⟨_,H,I.kept k,?_,q⟩
 by_cases hj:j<i
 ·rw[if_pos hj,if_pos hj];exact⟨_,rfl⟩
 ·rw[if_neg hj,if_neg hj];exact⟨_,rfl⟩
theorem wH:gS X (.type "int") (λxs H Q=>(∃i,xs=[.int i]/\Q (.int i) H)\/∃k,xs=[.bl k]/\Q (.int (if k then 1 else 0)) H):=by
 intro pins s σ H xs us Q I r h
 rcases h with ⟨i,rfl,q⟩ | ⟨k,rfl,q⟩
 ·obtain⟨u,rfl,t,rfl⟩:=iU r
  exact call_int_int ⟨.int i,H,I,⟨_,rfl⟩,q⟩
 ·obtain⟨u,rfl,r1⟩:=iU r
  cases r1
  exact call_int_bool ⟨.int (if k then 1 else 0),H,I.tok _,⟨_,rfl⟩,q⟩
end
end L2
namespace L2
open PySem PySem.Spec PyProof.Rows
structure ObjM (h:Heap) (x dx C:Addr) (mA:Str->Option Value):Prop where
 obj:h.get? x=some (PySem.W.instObj C dx)
 ns:h.Ns1 dx mA
 ne:dx≠x
theorem JM {h:Heap} {dx:Addr} {mA:Str->Option Value} (n:h.Ns1 dx mA):∃od,h.get? dx=some od/\∀name,PySem.W.lookIn name od=some (mA name):=by
 obtain⟨o,es,ep,ho,hd,hk,_,hm⟩:=n
 refine⟨o,ho,λname=>?_⟩
 have e:=hm name
 unfold nsFind findBy at e
 rw[<-Array.find?_toList] at e
 unfold PySem.W.lookIn
 rw[hd]
 dsimp only
 split
 ·rename_i y q
  rw[q] at e
  exact congrArg some e
 ·rename_i q
  rw[q] at e
  have a:es.toList.any (·.refKey)=false:=by
   rw[List.any_eq_false]
   intro y hy
   obtain⟨z,t,hkey⟩:=hk y (Array.mem_toList_iff.mp hy)
   simp[DictEntry.refKey,hkey]
  have a':¬es.toList.any (·.refKey)=true:=by rw[a];exact Bool.false_ne_true
  rw[if_neg a']
  exact congrArg some e
theorem ObjM.look {h:Heap} {x dx C:Addr} {mA:Str->Option Value} (I:ObjM h x dx C mA):∃od,PySem.W.InstAt h x (PySem.W.instObj C dx) C (some od)/\∀name,PySem.W.lookIn name od=some (mA name) :=
 let ⟨od,ho,hl⟩:=JM I.ns
 ⟨od,⟨I.obj,rfl,rfl,ho⟩,hl⟩
section
variable {prog:Program} {w:World} {A:Around} {E:Value->Shared->Prop} {s:Shared} {K:PySem.W.Frag} {x dx C f:Addr} {mA:Str->Option Value} {name:Str} {v:Value}
end
section
variable {P:Program} {w:World} {H H':Hp} {h h':Heap} {a C dx:Addr} {fs fs':List (Str × V)}
theorem QJ (hok:HOk P w H h) (e:H a=some (.ins C dx fs)):∃mA,ObjM h a dx C mA/\(∀f,UD (fs.lookup f) (mA f))/\PySem.Within mA (fs.map (·.1))/\fs.length<=1000/\H dx=some (.own a):=by
 obtain⟨d,z,ne,ob,mA,n,r,q⟩:=(show ObjOk P w H h a (.ins C dx fs) from hok a _ e)
 exact⟨mA,⟨ob,n,ne⟩,r,q,z,d⟩
end
structure Cls (K:PySem.W.Frag) (C:Addr):Prop where
 pg:PySem.W.plainGet K C Str.empty=true
 hd:PySem.W.hasDictIn K C=true
 po:PySem.W.plainOver K C=true
 sa:PySem.W.findIn K (.ref C) "__setattr__" = some (some (.builtin "object.__setattr__"))
theorem Cls.get {K:PySem.W.Frag} {C:Addr} (c:Cls K C) (f:Str):PySem.W.plainGet K C f=true:=c.pg
section
variable {X:Cx} {pins:List (Addr × Obj)} {σ:St} {H:Hp} {s:Shared} {a C dx:Addr} {fs:List (Str × V)} {f:Str} {v:V} {A:Around} {E:Value->Shared->Prop}
end
section
variable {X:Cx} {o e value:Expr} {f:Str} {pos pos' tpos:Pos} {ta tv:TE}
end
section
variable {X:Cx} {pins:List (Addr × Obj)} {σ:St} {H:Hp} {s:Shared} {A:Around} {E:Value->Shared->Prop} {Q:Value->Shared->Prop} {c:Value} {b:Bool}
inductive TyOf (K:PySem.W.Frag) (H:Hp):V->Value->Prop where
 | non:TyOf K H .non (.type "NoneType")
 | bl (x:Bool):TyOf K H (.bl x) (.type "bool")
 | int (i:Int):TyOf K H (.int i) (.type "int")
 | str (x:Str):TyOf K H (.str x) (.type "str")
 | flt (x:UInt64):TyOf K H (.flt x) (.type "float")
 | lst {a:Addr} {xs:List V} (e:H a=some (.lst xs)):TyOf K H (.ref a) (.type "list")
 | frz {a:Addr} {o:Obj} {xs:List V} (e:H a=some (.frz o (.lst xs))):TyOf K H (.ref a) (.type "list")
 | tup {a:Addr} {xs:List V} (e:H a=some (.tup xs)):TyOf K H (.ref a) (.type "tuple")
 | dK {a:Addr} {kvs:List (Key × V)} (e:H a=some (.dK kvs)):TyOf K H (.ref a) (.type "dict")
 | dT {a:Addr} {kvs:List (List Key × V)} (e:H a=some (.dT kvs)):TyOf K H (.ref a) (.type "dict")
 | ins {a C dx:Addr} {fs:List (Str × V)} (e:H a=some (.ins C dx fs)) (cl:Cls K C) (ha:PySem.W.findIn K (.ref C) "__class__" = some (some (.builtin "object.__class__")))
   (hn:PySem.W.specialIn K (.builtin "object.__class__") "__get__" = some (some (.builtin "getset_descriptor.__get__"))) (htk:PySem.W.takesIn K (.builtin "object.__class__")=some true)
   (hm:PySem.W.mroIn K C (.type "object")=some true):TyOf K H (.ref a) (.ref C)
theorem JC {x:V} {u t:Value} (I:Inv X pins σ H s) (rx:RelV x u) (ty:TyOf X.K H x t) (e:PySem.W.kitOne X.K t c=some b) (h:∀tk,Q (.bool b) { s with toks:=tk }) :
  wpAny (model X.prog X.w) A (call (.builtin "isinstance") [u,c]) Q E s:=by
 cases ty with
 | non=>cases (show u=Value.none from rx);exact PySem.W.kia_one PySem.W.kitx_none I.kIn True.intro e (λz=>nomatch z) h
 | bl y=>cases (show u=Value.bool y from rx);exact PySem.W.kia_one PySem.W.kitx_bool I.kIn True.intro e (λz=>nomatch z) h
 | int i=>obtain⟨t,q⟩:=(show ∃t,u=Value.int i t from rx);cases q;exact PySem.W.kia_one PySem.W.kitx_int I.kIn True.intro e (λz=>nomatch z) h
 | str y=>obtain⟨t,q⟩:=(show ∃t,u=Value.str y t from rx);cases q;exact PySem.W.kia_one PySem.W.kitx_str I.kIn True.intro e (λz=>nomatch z) h
 | flt y=>obtain⟨t,q⟩:=(show ∃t,u=Value.float y t from rx);cases q;exact PySem.W.kia_one PySem.W.kitx_float I.kIn True.intro e (λz=>nomatch z) h
 | @lst a xs ea =>
  cases (show u=Value.ref a from rx)
  obtain⟨_,_,n,_,h1⟩:=(show ObjOk X.prog X.w H s.heap a (.lst xs) from I.hok a _ ea)
  exact PySem.W.kia_one PySem.W.kitx_list I.kIn ⟨_,h1,rfl⟩ e (λz=>nomatch z) h
 | @frz a ob xs ea =>
  cases (show u=Value.ref a from rx)
  obtain⟨_,_,_,n,_,h1⟩:=(show ObjOk X.prog X.w H s.heap a (.frz ob (.lst xs)) from I.hok a _ ea)
  exact PySem.W.kia_one PySem.W.kitx_list I.kIn ⟨_,h1,rfl⟩ e (λz=>nomatch z) h
 | @tup a xs ea =>
  cases (show u=Value.ref a from rx)
  obtain⟨_,_,_,p⟩:=(show ObjOk X.prog X.w H s.heap a (.tup xs) from I.hok a _ ea)
  obtain⟨o,h1,h2,_⟩:=p
  exact PySem.W.kia_one PySem.W.kitx_tuple I.kIn ⟨o,h1,h2⟩ e (λz=>nomatch z) h
 | @dK a kvs ea =>
  cases (show u=Value.ref a from rx)
  obtain⟨_,_,vs,_,p⟩:=(show ObjOk X.prog X.w H s.heap a (.dK kvs) from I.hok a _ ea)
  obtain⟨o,es,ep,h1,h2,_⟩:=p
  exact PySem.W.kia_one PySem.W.kitx_dict I.kIn ⟨o,h1,h2.1⟩ e (λz=>nomatch z) h
 | @dT a kvs ea =>
  cases (show u=Value.ref a from rx)
  obtain⟨_,_,xs,_,o,es,ep,h1,h2,_⟩:=(show ObjOk X.prog X.w H s.heap a (.dT kvs) from I.hok a _ ea)
  exact PySem.W.kia_one PySem.W.kitx_dict I.kIn ⟨o,h1,h2.1⟩ e (λz=>nomatch z) h
 | @ins a C dx fs ea cl ha hn htk hm =>
  cases (show u=Value.ref a from rx)
  obtain⟨mA,O,_⟩:=QJ I.hok ea
  obtain⟨od,J,_⟩:=O.look
  exact PySem.W.kia_one (PySem.W.kitx_own (cl.get _) cl.hd ha hn htk hm) I.kIn J e (λz=>nomatch z) h
end
end L2
namespace L2
open PySem PySem.Spec PyProof.Rows
structure Room (k:Nat) (A:Around):Prop where
 hd:A.handled=none
 dp:A.depth+3*k+5<recursionLimit
 un:A.units+16*k+200<cLine
theorem Room.mono {j k:Nat} {A:Around} (r:Room k A) (h:j<=k):Room j A:=⟨r.hd,by have:=r.dp;omega,by have:=r.un;omega⟩
theorem Room.deeper {k:Nat} {A:Around} (r:Room (k+1) A) (env:Env):Room k (A.deeper env) :=
 ⟨r.hd,by have:=r.dp;show A.depth+1+3*k+5<_;omega,by have:=r.un;show A.units+3+16*k+200<_;omega⟩
theorem Room.depth {k:Nat} {A:Around} (r:Room k A):A.depth<recursionLimit:=by have:=r.dp;omega
theorem Room.units {k:Nat} {A:Around} (r:Room k A):A.units+64<cLine:=by have:=r.un;omega
noncomputable def Am:TA:=λ_ H Q=>Q [] H
noncomputable def ZD (ta:TE) (tr:TA):TA:=λσ H Q=>ta σ H λx H1=>tr σ H1 λxs H2=>Q (x::xs) H2
section
variable {X:Cx} {e:Expr} {es:List Expr} {te:TE} {t:TA} {pos:Pos}
theorem tZ:PA X [] Am:=λ_ _ _ _ H Q I h=>Calls.spliced_nil ⟨[],H,I,.nil,h⟩
theorem iM (ha:PE X e te) (hr:PA X es t) (hs:starEach (e::es) X.env=(false,eval e X.env)::starEach es X.env:=by rfl):PA X (e::es) (ZD te t):=by
 intro pos pins s σ H Q I h
 rw[hs]
 show wpAny _ _ (spliced ((false,eval e X.env)::backTo pos (starEach es X.env))) _ _ s
 refine Calls.spliced_cons (thn (ha pins s σ H _ I h) λu s1 ⟨x,H1,I1,r1,q1⟩=>?_)
 exact thn (hr pos pins s1 σ H1 _ I1 q1) λus s2 ⟨xs,H2,I2,r2,q2⟩=>⟨x::xs,H2,I2,.cons r1 r2,q2⟩
noncomputable def Ar (t:TA):TE:=λσ H Q=>t σ H λxs H1=>xs.length<=sizeLine/\∀p,H1 p=none->Q (.ref p) (upd H1 p (.tup xs))
noncomputable def Al (t:TA):TE:=λσ H Q=>t σ H λxs H1=>xs.length<=sizeLine/\∀p,H1 p=none->Q (.ref p) (upd H1 p (.lst xs))
theorem VX {x1} (h:PA X es t):PE X (.Tuple es x1 pos) (Ar t):=by
 intro pins s σ H Q I hq
 refine wpAny_Tuple_spliced (thn (h pos pins s σ H _ I hq) λus s1 ⟨xs,H1,I1,r,z,q⟩=>⟨by rw[<-r.length];exact z,?_⟩)
 have hf:H1 s1.heap.objs.size=none:=I1.hok.fresh (Nat.le_refl _)
 refine⟨.ref s1.heap.objs.size,upd H1 s1.heap.objs.size (.tup xs),I1.laid (t':=s1.toks) (λb u e=>Heap.get?_push_of_some _ e) (Nat.le_refl _) ?_,rfl,q _ hf⟩
 exact⟨z,us,r,⟨_,Heap.get?_push_size _ rfl,rfl,_,rfl⟩⟩
theorem VS (h:PA X es t):PE X (.List es pos) (Al t):=by
 intro pins s σ H Q I hq
 refine wpAny_List_spliced (thn (h pos pins s σ H _ I hq) λus s1 ⟨xs,H1,I1,r,z,q⟩=>⟨by rw[<-r.length];exact z,?_⟩)
 have hf:H1 s1.heap.objs.size=none:=I1.hok.fresh (Nat.le_refl _)
 refine⟨.ref s1.heap.objs.size,upd H1 s1.heap.objs.size (.lst xs),I1.laid (t':=s1.toks) (λb u e=>Heap.get?_push_of_some _ e) (Nat.le_refl _) ?_,rfl,q _ hf⟩
 exact⟨z,us,0,r,Heap.get?_push_size _ rfl⟩
end
noncomputable abbrev Sp:=List V->Hp->VK->XK->Prop
noncomputable abbrev CXT:=List Env->Hp->Shared->XK->Value->Shared->Prop
structure Env0 (P:Program) (w:World) (K:PySem.W.Frag) (mg:Str->Option Value) (base:Heap) (A:Around) (outer:List Env) (s:Shared) (H:Hp):Prop where
 frames:A.frames=some outer
 mod:Mod K mg base
 bs:∀b o,base.get? b=some o->s.heap.get? b=some o/\H b=none
 bsz:base.objs.size<=s.heap.objs.size
 funs:s.heap.FunFrames base outer
 frf:∀b∈frs outer,H b=none
 hok:HOk P w H s.heap
 bare:AllBare s.gens
noncomputable def CE (outer:List Env) (P:Program) (w:World) (H:Hp) (s:Shared) (Q:VK) (u:Value) (s':Shared):Prop :=
 ∃v H',s'.os=s.os/\AllBare s'.gens/\Un (frs outer) [] H H' s.heap s'.heap/\HOk P w H' s'.heap/\RelV v u/\Q v H'
noncomputable def CR (CX:CXT) (outer:List Env) (P:Program) (w:World) (H:Hp) (s:Shared) (Q:VK) (E:XK) (r:Result) (s':Shared):Prop :=
 match r with
 | .ok (.ret u)=>CE outer P w H s Q u s'
 | .ok _=>False
 | .error e=>CX outer H s E e s'
structure FnOk (P:Program) (w:World) (K:PySem.W.Frag) (mg:Str->Option Value) (base:Heap) (CX:CXT) (k:Nat) (f:Addr) (fd:FuncData) (ps:List Str) (sp:Sp):Prop where
 len:∀vs H Q E,sp vs H Q E->vs.length=ps.length
 run:∀(A:Around) (outer:List Env) (s:Shared) (H:Hp) (args:Args) (us:List Value) (vs:List V) (Q:VK) (E:XK),Room k A->Env0 P w K mg base A outer s H->BindsTo s fd args (ps.zip us)->Vals vs us->sp vs H Q E ->
  codeAny (model P w) A (.call (.ref f) args) (CR CX outer P w H s Q E) s
theorem FnOk.mono {P:Program} {w:World} {K:PySem.W.Frag} {mg:Str->Option Value} {base:Heap} {CX:CXT} {j k:Nat} {f:Addr} {fd:FuncData} {ps:List Str} {sp:Sp} (F:FnOk P w K mg base CX j f fd ps sp) (h:j<=k) :
  FnOk P w K mg base CX k f fd ps sp:=⟨F.len,λA outer s H args us vs Q E hr=>F.run A outer s H args us vs Q E (hr.mono h)⟩
section
variable {X:Cx} {pins:List (Addr × Obj)} {σ:St} {H:Hp} {s s':Shared}
theorem Inv.env0 (I:Inv X pins σ H s):Env0 X.prog X.w X.K X.mg X.base X.A X.stack s H :=
 ⟨I.ok.frames,I.ok.mod,I.bs,Nat.le_trans I.ok.bsz I.sz,I.stack,I.stkFree,I.hok,I.bare⟩
theorem Inv.after {Q:VK} {u:Value} (I:Inv X pins σ H s) (h:CE X.stack X.prog X.w H s Q u s'):EP X pins σ Q u s':=by
 obtain⟨v,H',os,bare,un,hok,r,q⟩:=h
 obtain⟨hh,g,d,t,os'⟩:=s'
 obtain rfl:os'=s.os:=os
 exact⟨v,H',I.call (h':=hh) (g':=g) (d':=d) (t':=t) (ch:=[]) un hok bare (λb z=>absurd z (by simp)),r,q⟩
end
noncomputable def ZC (sp:Sp) (dvs:List V) (E:XK) (t:TA):TE:=λσ H Q=>t σ H λvs H1=>sp (vs++dvs) H1 Q E
noncomputable def Binds (K:PySem.W.Frag) (fd:FuncData) (ps:List Str) (ds:List Value):Prop :=
 ∀(s:Shared) (us:List Value),K.In s.heap->(us++ds).length=ps.length->BindsTo s fd ⟨us,[]⟩ (ps.zip (us++ds))
theorem Binds.all {K:PySem.W.Frag} {fd:FuncData} {ps:List Str} (h:∀us:List Value,us.length=ps.length->bindArgs fd ⟨us,[]⟩=pure (ps.zip us)):Binds K fd ps []:=λs us _ hl=>by
 rw[List.append_nil] at hl ⊢
 exact .of_eq (h us hl)
noncomputable def CW (CX:CXT) (X:Cx) (E:XK):Prop:=∀(pins:List (Addr × Obj)) (σ:St) (H:Hp) (s:Shared) (e:Value) (s':Shared),Inv X pins σ H s->CX X.stack H s E e s'->X.xe e s'
section
variable {X:Cx} {CX:CXT} {k:Nat} {f C:Addr} {fd:FuncData} {ps:List Str} {sp:Sp} {dvs:List V} {ds:List Value} {E:XK} {x m:Str} {p pos apos:Pos} {e o:Expr} {es:List Expr} {ta:TE} {t:TA}
theorem WS {pins:List (Addr × Obj)} {σ:St} {H:Hp} {s:Shared} {Q:VK} {us:List Value} {vs:List V} (F:FnOk X.prog X.w X.K X.mg X.base CX k f fd ps sp) (hr:Room k X.A) (hb:Binds X.K fd ps ds) (hd:Vals dvs ds) (hx:CW CX X E)
  (I:Inv X pins σ H s) (r:Vals vs us) (h:sp (vs++dvs) H Q E):wpAny (model X.prog X.w) X.A (call (.ref f) us) (EP X pins σ Q) X.xe s:=by
 have r2:Vals (vs++dvs) (us++ds):=r.append hd
 have hl:(us++ds).length=ps.length:=by rw[<-r2.length];exact F.len _ _ _ _ h
 refine wpAny_call (codeAny_mono (F.run X.A X.stack s H ⟨us,[]⟩ (us++ds) (vs++dvs) Q E hr I.env0 (hb s us I.kIn hl) r2 h) λr s' hq=>?_)
 cases r with
 | error e=>exact hx pins σ H s e s' I hq
 | ok fl =>
  cases fl with
  | ret u=>exact I.after hq
  | next=>exact False.elim hq
  | brk=>exact False.elim hq
  | cont=>exact False.elim hq
theorem RH (F:FnOk X.prog X.w X.K X.mg X.base CX k f fd ps sp) (hr:Room k X.A) (hg:Gl X x) (hm:X.mg x=some (.ref f)) (hk:PySem.W.keepIn X.K (.ref f)=true) (hb:Binds X.K fd ps ds) (hd:Vals dvs ds) (hx:CW CX X E)
  (ha:PA X (e::es) t) (hdb:(x == ("__debug__":Str))=false:=by decide) (he:starEach (e::es) X.env=(false,eval e X.env)::starEach es X.env:=by rfl) (hpl:(backTo pos (starEach es X.env)).any (·.1)=false:=by rfl) :
  PE X (.Call (.Name x p) (e::es) [] pos) (ZC sp dvs E t):=by
 intro pins s σ H Q I h
 refine wpAny_Call_Name_kw (QM I hg hm ?_ hdb)
 refine PySem.W.callWith_K (h₀:=X.base) I.ok.mod.kin hk (thn (ha pos pins s σ H _ I h) λus s1 ⟨vs,H1,I1,r,q⟩=>⟨I1.kIn,?_⟩) he hpl
 exact WS F hr hb hd hx I1 r q
end
section
variable {X:Cx} {CX:CXT} {k:Nat} {f C:Addr} {fd:FuncData} {ps ks:List Str} {sp:Sp} {E:XK} {x m:Str} {p pos apos kpos:Pos} {e o:Expr} {es:List Expr} {kws:List Keyword} {te ta:TE} {t tk:TA} {nm:Option Str}
variable {g:List Value->List Value->List Value} {gV:List V->List V->List V}
end
structure FnScope (N P:List Str) (sc:Scope):Prop where
 kind:sc.kind = .function
 co:sc.isCoroutine=false
 gen:sc.isGenerator=false
 nd:N.Nodup
 pre:N.take P.length=P
 par:∀x∈P,sc.names.lookup x=some .local\/sc.names.lookup x=some .cell
 nofree:∀y∈sc.names,y.2≠.free
theorem wF {kindOf:Str->Option NameKind} {x:Str}:∀{binds:List (Str × Value)} {m:Str->Option Value},(∀v,(x,v) ∉ binds)->bindL kindOf binds m x=m x
 | [],_,_=>rfl
 | (n,v)::r,m,h=>by
  unfold bindL
  rw[wF λw hw=>h w (List.mem_cons_of_mem _ hw)]
  split
  ·have:x≠n:=by rintro rfl;exact h v List.mem_cons_self
   simp[this]
  ·rfl
theorem wD {kindOf:Str->Option NameKind} {x:Str}:∀{binds:List (Str × Value)} {m:Str->Option Value},(∀v,(x,v) ∉ binds)->bindC kindOf binds m x=m x
 | [],_,_=>rfl
 | (n,v)::r,m,h=>by
  unfold bindC
  rw[wD λw hw=>h w (List.mem_cons_of_mem _ hw)]
  split
  ·rfl
  ·have:x≠n:=by rintro rfl;exact h v List.mem_cons_self
   simp[this]
theorem wE {kindOf:Str->Option NameKind} {x:Str} {v:Value}:∀{P:List Str} {vs:List Value} {i:Nat} {m:Str->Option Value},P.Nodup->P[i]? = some x->vs[i]? = some v->kindOf x=some .local ->
  bindL kindOf (P.zip vs) m x=some v
 | [],_,_,_,_,h,_,_=>by simp at h
 | _::_,[],_,_,_,_,h,_=>by simp at h
 | p::P,w::vs,0,m,nd,h1,h2,hk=>by
  simp at h1 h2;subst h1;subst h2
  show bindL kindOf ((p,w)::P.zip vs) m p=_
  unfold bindL
  rw[wF λv hv=>(List.nodup_cons.mp nd).1 (List.of_mem_zip hv).1,if_pos hk]
  simp
 | p::P,w::vs,i+1,m,nd,h1,h2,hk=>by
  show bindL kindOf ((p,w)::P.zip vs) m x=_
  unfold bindL
  exact wE (i:=i) (List.nodup_cons.mp nd).2 (by simpa using h1) (by simpa using h2) hk
theorem wC {kindOf:Str->Option NameKind} {x:Str} {v:Value}:∀{P:List Str} {vs:List Value} {i:Nat} {m:Str->Option Value},P.Nodup->P[i]? = some x->vs[i]? = some v->kindOf x≠some .local ->
  bindC kindOf (P.zip vs) m x=some v
 | [],_,_,_,_,h,_,_=>by simp at h
 | _::_,[],_,_,_,_,h,_=>by simp at h
 | p::P,w::vs,0,m,nd,h1,h2,hk=>by
  simp at h1 h2;subst h1;subst h2
  show bindC kindOf ((p,w)::P.zip vs) m p=_
  unfold bindC
  rw[wD λv hv=>(List.nodup_cons.mp nd).1 (List.of_mem_zip hv).1,if_neg hk]
  simp
 | p::P,w::vs,i+1,m,nd,h1,h2,hk=>by
  show bindC kindOf ((p,w)::P.zip vs) m x=_
  unfold bindC
  exact wC (i:=i) (List.nodup_cons.mp nd).2 (by simpa using h1) (by simpa using h2) hk
noncomputable def start (N:List Str) (vs:List V):St:=vs.map some++List.replicate (N.length-vs.length) none
noncomputable def dA (CX:CXT) (P:Program) (w:World) (K:PySem.W.Frag) (mg:Str->Option Value) (base:Heap) (N:List Str) (qual:Str) (scope:Scope) (f:Addr) (cd:Value) (A:Around) (outer:List Env) (s:Shared) (H:Hp) (E:XK):Cx where
 prog:=P
 w:=w
 K:=K
 mg:=mg
 base:=base
 A:=A.deeper (envOfC qual scope s.heap.objs.size f cd)
 N:=N
 s₀:=s
 H₀:=H
 env:=envOfC qual scope s.heap.objs.size f cd
 outer:=outer
 stack:=envOfC qual scope s.heap.objs.size f cd::outer
 ex:=[]
 calm:=true
 fn:=λ_=>true
 pn:=[]
 xe:=λe s'=>wpAny (model P w) (A.deeper (envOfC qual scope s.heap.objs.size f cd)) (leaving (envOfC qual scope s.heap.objs.size f cd) e) (λ_ s''=>CX outer H s E e s'') (λe' s''=>CX outer H s E e' s'') s'
theorem zW {sc:Scope} {n:Nat} {x:Str} (h:sc.names.lookup x=some .cell):∃c,(cellsFrom n sc.names []).lookup x=some c:=by
 have q:=PySem.W.cellsFrom_some sc.names n [] (.inl h)
 exact Option.isSome_iff_exists.mp q
theorem JA {CX:CXT} {P:Program} {w:World} {K:PySem.W.Frag} {mg:Str->Option Value} {base:Heap} {N ps:List Str} {qual:Str} {scope:Scope} {f:Addr} {cd:Value} {A:Around} {outer:List Env} {s s1:Shared} {H:Hp} {E:XK} {us:List Value} {vs:List V}
  (S:FnScope N ps scope) (hd:A.handled=none) (e0:Env0 P w K mg base A outer s H) (hl:vs.length=ps.length) (r:Vals vs us)
  (x:InCallC s s.heap.objs.size (bindL (envOfC qual scope s.heap.objs.size f cd).kindOf (ps.zip us) λ_=>none) (cellsFrom (s.heap.objs.size+1) scope.names []) (bindC (envOfC qual scope s.heap.objs.size f cd).kindOf (ps.zip us) λ_=>none) s1) :
  Inv (dA CX P w K mg base N qual scope f cd A outer s H E) [] (start N vs) H s1:=by
 have hpl:ps.length<=N.length:=by have:=congrArg List.length S.pre;rw[List.length_take] at this;omega
 obtain⟨h1,tk,rfl,hk⟩:=x.done
 have noA:∀b:Addr,b ∉ (dA CX P w K mg base N qual scope f cd A outer s H E).ex:=λb z=>absurd (show b∈([]:List Addr) from z) (by simp)
 refine⟨⟨e0.mod,S.kind,rfl,rfl,Nat.le_refl _,λy z c h1 h2=>?_,λy hy=>?_,λy c _ h=>?_,λ_=>hd,Around.frames_deeper e0.frames,.inr ⟨rfl,rfl⟩,λb z=>absurd z (noA b),e0.bs,e0.bsz,λb _ _=>noA b,λb z=>absurd z (noA b),e0.funs,e0.frf⟩,
  rfl,e0.bare,Un.kept hk,⟨_,x.toInCall.ns,λi y v h1 h2 h3=>?_⟩,λy c h=>⟨_,x.cell y c h⟩,e0.hok.fresh (Nat.le_refl _),λy c h=>?_,λp hp=>absurd (show p∈([]:List (Addr × Obj)) from hp) (by simp),e0.hok.kept hk,?_⟩
 ·exact name_of_addr x.apart (PySem.mem_of_lookup h1) (PySem.mem_of_lookup h2)
 ·have hy:scope.names.lookup y=some .cell\/scope.names.lookup y=some .free:=hy
  rcases hy with hy | hy
  ·exact zW hy
  ·exact absurd rfl (S.nofree _ (PySem.mem_of_lookup hy))
 ·exact Nat.le_of_lt (x.above y c (PySem.mem_of_lookup h))
 ·have hi:i<vs.length:=by
   unfold start at h2
   by_cases hi:i<vs.length
   ·exact hi
   ·rw[List.getElem?_append_right (by simpa using hi)] at h2
    rw[List.getElem?_replicate] at h2
    split at h2 <;> cases h2
  have ha:vs[i]? = some v:=by
   unfold start at h2
   rw[List.getElem?_append_left (by simpa using hi),List.getElem?_map] at h2
   cases e:vs[i]? with
   | none=>rw[e] at h2;cases h2
   | some a=>rw[e] at h2;cases h2;rfl
  obtain⟨u,hu,rv⟩:=r.get ha
  have hp:ps[i]? = some y:=by
   rw[<-S.pre,List.getElem?_take_of_lt (by omega)];exact h1
  have ndP:ps.Nodup:=by rw[<-S.pre];exact S.nd.sublist (List.take_sublist _ _)
  refine⟨u,rv,?_⟩
  rcases S.par y (List.mem_of_getElem? hp) with k | k
  ·exact .inl ⟨k,wE ndP hp hu k⟩
  ·obtain⟨c,e⟩:=zW (n:=s.heap.objs.size+1) k
   refine .inr ⟨.inl k,c,e,?_⟩
   have q:=x.cell y c e
   rw[wC ndP hp hu (by show scope.names.lookup y≠_;rw[k];decide)] at q
   exact q
 ·exact e0.hok.fresh (Nat.le_of_lt (x.above y c (PySem.mem_of_lookup h)))
 ·unfold start
  show _=N.length
  rw[List.length_append,List.length_map,List.length_replicate]
  omega
theorem XN {CX:CXT} {P:Program} {w:World} {K:PySem.W.Frag} {mg:Str->Option Value} {base:Heap} {k:Nat} {f:Addr} {name qual:Str} {params:Arguments} {body:List Stmt} {scope:Scope} {dV kV doc pm cdv ct oc:Value} {an od:Option Addr}
  {osl:Array (Option Value)} {N ps:List Str} {sp:Sp} (lk:K.lookup f=some ⟨oc,od,.func (PySem.W.fnOf name qual params body scope dV kV doc pm an cdv ct),osl⟩) (hcd:PySem.W.codeIn K cdv qual=true) (S:FnScope N ps scope)
  (len:∀vs H Q E,sp vs H Q E->vs.length=ps.length)
  (hbody:∀(A:Around) (outer:List Env) (s:Shared) (H:Hp) (vs:List V) (Q:VK) (E:XK),Room k (A.deeper (envOfC qual scope s.heap.objs.size f cdv))->sp vs H Q E ->
   ∃t,PSs (dA CX P w K mg base N qual scope f cdv A outer s H E) body t/\t { nx:=λ_ H'=>Q .non H',rt:=Q } (start N vs) H) :
  FnOk P w K mg base CX (k+1) f (PySem.W.fnOf name qual params body scope dV kV doc pm an cdv ct) ps sp:=by
 refine⟨len,λA outer s H args us vs Q E hr e0 hb r hsp=>?_⟩
 have hl:=len _ _ _ _ hsp
 have KX:K.In s.heap:=e0.mod.kin.keeps λb o e=>(e0.bs b o e).1
 have lim:s.heap.NoLimit:=e0.mod.nolimit.keeps λb o e=>(e0.bs b o e).1
 have hkind:∀y∈ps.zip us,scope.names.lookup y.1=some .local\/(scope.names.lookup y.1=some .cell/\((cellsFrom (s.heap.objs.size+1) scope.names []).lookup y.1).isSome=true):=λ⟨n,v⟩ hy=>by
  rcases S.par n (List.of_mem_zip hy).1 with q | q
  ·exact .inl q
  ·exact .inr ⟨q,PySem.W.cellsFrom_some _ _ _ (.inl q)⟩
 refine codeAny_call_function hr.depth (KX _ _ lk) rfl S.co S.gen rfl (PySem.W.codeRec_of KX hcd) (hb _ _ _ _ ?_)
 refine wpAny_newFunctionEnv_cells S.kind hkind λenv he s1 x=>?_
 subst he
 refine⟨lim.keeps x.toInCall.keep,codeAny_func ?_⟩
 obtain⟨t,ht,hq⟩:=hbody A outer s H vs Q E (hr.deeper _) hsp
 have I:Inv (dA CX P w K mg base N qual scope f cdv A outer s H E) [] (start N vs) H s1:=JA S hr.hd e0 hl r x
 refine wpAny_mono (ht [] s1 (start N vs) H _ I hq) (λfl s' hs=>?_) λe s' hs=>hs
 have fin:∀{σ':St} {H':Hp} {v:V} {u:Value},Inv (dA CX P w K mg base N qual scope f cdv A outer s H E) [] σ' H' s'->RelV v u->Q v H'->CE outer P w H s Q u s' :=
  λ{σ' H' v u} J rv q=>⟨v,H',J.os,J.bare,J.base,J.hok,rv,q⟩
 cases fl with
 | ret u =>
  obtain⟨v,σ',H',J,rv,q⟩:=hs
  exact fin J rv q
 | next =>
  obtain⟨σ',H',J,q⟩:=hs
  exact fin (v:=V.non) (u:=Value.none) J rfl q
 | brk =>
  obtain⟨_,_,_,q⟩:=hs
  exact False.elim q
 | cont =>
  obtain⟨_,_,_,q⟩:=hs
  exact False.elim q
end L2
namespace L2
open PySem PySem.Spec PyProof.Rows
section
variable {X:Cx} {x:Str} {p pos:Pos} {e:Expr} {es:List Expr} {t:TA} {id T:String} {r:List V->Hp->VK->Prop}
noncomputable def tCB (r:List V->Hp->VK->Prop) (t:TA):TE:=λσ H Q=>t σ H λvs H1=>r vs H1 Q
theorem gX (hc:gS X (.builtin id) r) (hg:Gl X x) (hm:X.mg x=none) (hv:bootBuiltins x=some (.builtin id)) (ha:PA X (e::es) t) (hn:x≠"__name__":=by decide) (hdb:(x == ("__debug__":Str))=false:=by decide)
  (he:starEach (e::es) X.env=(false,eval e X.env)::starEach es X.env:=by rfl) (hpl:(backTo pos (starEach es X.env)).any (·.1)=false:=by rfl):PE X (.Call (.Name x p) (e::es) [] pos) (tCB r t):=by
 intro pins s σ H Q I h
 refine wpAny_Call_Name_kw (fY I hg hm hv ?_ hn hdb)
 exact PyProof.Rows.callWith_builtin1 (thn (ha pos pins s σ H _ I h) λus s1 ⟨vs,H1,I1,r1,q1⟩=>hc pins s1 σ H1 vs us Q I1 r1 q1) he hpl
theorem qC (hc:gS X (.type T) r) (hg:Gl X x) (hm:X.mg x=none) (hv:bootBuiltins x=some (.type T)) (ha:PA X (e::es) t) (hn:x≠"__name__":=by decide) (hdb:(x == ("__debug__":Str))=false:=by decide)
  (he:starEach (e::es) X.env=(false,eval e X.env)::starEach es X.env:=by rfl) (hpl:(backTo pos (starEach es X.env)).any (·.1)=false:=by rfl):PE X (.Call (.Name x p) (e::es) [] pos) (tCB r t):=by
 intro pins s σ H Q I h
 refine wpAny_Call_Name_kw (fY I hg hm hv ?_ hn hdb)
 exact PyProof.Rows.callWith_type1 (thn (ha pos pins s σ H _ I h) λus s1 ⟨vs,H1,I1,r1,q1⟩=>hc pins s1 σ H1 vs us Q I1 r1 q1) he hpl
end
end L2
namespace HT
open PySem PyProof.Rows
noncomputable def lexLt:List Int->List Int->Bool
 | [],[]=>false
 | [],_::_=>true
 | _::_,[]=>false
 | x::xs,y::ys=>if x=y then lexLt xs ys else decide (x<y)
theorem lexLt_cons (x y:Int) (xs ys:List Int):lexLt (x::xs) (y::ys)=if x=y then lexLt xs ys else decide (x<y):=rfl
theorem vM:lexLt [] []=false:=rfl
theorem tR (y:Int) (ys:List Int):lexLt [] (y::ys)=true:=rfl
theorem tQ (x:Int) (xs:List Int):lexLt (x::xs) []=false:=rfl
theorem MS (A:Around) (s:Shared) (a:Int) (t:Tok) (c:Int) (u:Tok):∃e,SeqAt.EqAt A s (.int a t) (.int c u) e/\(e=true↔a=c) :=
 ⟨(a == c),SeqAt.EqAt.int_int a t c u,by simp⟩
theorem OG (A:Around) (s:Shared) (a:Int) (t:Tok) (c:Int) (u:Tok) (prog:Program) (w:World) (E:Value->Shared->Prop) (Q:Value->Shared->Prop) (h:Q (.bool (decide (a<c))) s) :
  wpAny (model prog w) A (richCompare .Lt (.int a t) (.int c u)) Q E s :=
 (PyProof.Rows.lt_int h:wpAny (model prog w) A (compareOp .Lt (.int a t) (.int c u)) Q E s)
section
open PySem.SeqAt
open PySem.AutoSeq1 (wpAny_loadPart')
open PySem.MeetsSeq PySem.MeetsSeq2 PySem.MeetsSeq3
theorem vY (l b:Addr) (items items2:Array Value) (n n2:Nat) (dd dd2:Option Addr) (sl sl2:Array (Option Value)) (ns ms:List Int) (hi:IntsAre items.toList ns) (hj:IntsAre items2.toList ms) :
  Meets (Builtin.«tuple.__lt__» ⟨[.ref l,.ref b],[]⟩)
   (λ_ R s=>s.heap.get? l=some { cls:=.type "tuple",dict:=dd,data:=.seq items n,slots:=sl }/\s.heap.get? b=some { cls:=.type "tuple",dict:=dd2,data:=.seq items2 n2,slots:=sl2 } /\
    R (.ok (.ret (.bool (lexLt ns ms)))) s) :=
 .of_wp λprog w A R s h=>by
  obtain⟨hp,g,d,tk,os⟩:=s;obtain⟨hl,hb,h⟩:=h
  have f2:=AutoSeq1.sub_tuple_tuple
  have z1:items.size=ns.length:=by rw[<-hi.length];simp
  have z2:items2.size=ms.length:=by rw[<-hj.length];simp
  wp_walk using wpAny_loadPart' hl,wpAny_loadPart' hb,wpAny_forIn_list _ (λrest b s'=>b.1=none/\s'=⟨hp,g,d,tk,os⟩/\∃(vs ws:List Value) (ns' ms':List Int),rest=vs.zip ws /\
   IntsAre vs ns'/\IntsAre ws ms'/\ns'.length+items2.size=ms'.length+items.size/\R (.ok (.ret (.bool (lexLt ns' ms')))) ⟨hp,g,d,tk,os⟩) _
  case turn =>
   rintro⟨y,x⟩ rest b s' ⟨hb',rfl,vs,ws,ns',ms',hz,hvi,hwi,hlen,hR⟩
   cases hvi with
   | nil=>rw[List.zip_nil_left] at hz;cases hz
   | cons a t hvi' =>
    cases hwi with
    | nil=>rw[List.zip_nil_right] at hz;cases hz
    | cons c u hwi' =>
     rw[List.zip_cons_cons] at hz
     injection hz with hyx hrest
     injection hyx with hy hx
     subst hy hx
     rw[lexLt_cons] at hR
     simp only[List.length_cons] at hlen
     obtain⟨e,he,hiff⟩:=MS A.in1 ⟨hp,g,d,tk,os⟩ a t c u
     refine wpAny_bind (he prog w _ _ ?_)
     cases e with
     | true =>
      rw[if_pos (hiff.mp rfl)] at hR
      wp_walk
      exact⟨rfl,rfl,_,_,_,_,hrest,hvi',hwi',by omega,hR⟩
     | false =>
      rw[if_neg (λq=>absurd (hiff.mpr q) Bool.false_ne_true)] at hR
      have hri:=OG A.in1 ⟨hp,g,d,tk,os⟩ a t c u prog w
      wp_walk using hri
      exact⟨_,rfl,by simpa using hR⟩
  case fin =>
   rintro⟨b1,b2⟩ s' ⟨hb',rfl,vs,ws,ns',ms',hz,hvi,hwi,hlen,hR⟩
   simp only at hb'
   subst hb'
   have hv:lexLt ns' ms'=decide (items.size<items2.size):=by
    cases hvi with
    | nil =>
     cases hwi with
     | nil =>
      simp only[List.length_nil] at hlen
      rw[vM]
      exact (decide_eq_false (by omega)).symm
     | cons c u hw =>
      simp only[List.length_nil,List.length_cons] at hlen
      rw[tR]
      exact (decide_eq_true (by omega)).symm
    | cons a t hv =>
     cases hwi with
     | nil =>
      simp only[List.length_nil,List.length_cons] at hlen
      rw[tQ]
      exact (decide_eq_false (by omega)).symm
     | cons c u hw =>
      rw[List.zip_cons_cons] at hz
      cases hz
   rw[hv] at hR
   wp_walk
   exact⟨_,rfl,by simpa [Builtin.Tuple.tupleCompareSizes] using hR⟩
  case h =>
   exact⟨rfl,rfl,items.toList,items2.toList,ns,ms,rfl,hi,hj,by omega,h⟩
end
section
variable {prog:Program} {w:World} {A:Around} {E:Value->Shared->Prop} {s:Shared}
theorem lt_tupInts {l b:Addr} {items items2:Array Value} {ns ms:List Int} {Q:Value->Shared->Prop} (hl:IsTup s.heap l items) (hb:IsTup s.heap b items2) (hi:IntsAre items.toList ns) (hj:IntsAre items2.toList ms)
  (hu:A.units<cLine) (h:Q (.bool (lexLt ns ms)) s):wpAny (model prog w) A (compareOp .Lt (.ref l) (.ref b)) Q E s:=by
 obtain⟨⟨cls,dd,data,sl⟩,ho,hc,n,hd⟩:=id hl
 obtain⟨⟨cls2,dd2,data2,sl2⟩,ho2,hc2,n2,hd2⟩:=id hb
 simp only at hc hd hc2 hd2
 subst hc hd hc2 hd2
 exact richCompare_meets_room (op:=.Lt) ⟨_,ho,rfl⟩ ⟨_,ho2,rfl⟩ PySem.F.slot_tuple_lt PySem.F.entry_tuple_lt (PySem.F.args_tuple_lt_2 _ _) (vY l b items items2 n n2 dd dd2 sl sl2 ns ms hi hj)
  ⟨ho,ho2,show Value.bool (lexLt ns ms)≠Value.notImplemented/\Q (.bool (lexLt ns ms)) s from ⟨(λx=>nomatch x),h⟩⟩ hu
theorem cat_tup {t b:Addr} {vs ws:List Value} {Q:Value->Shared->Prop} (ht:IsTup s.heap t vs.toArray) (hb:IsTup s.heap b ws.toArray) (hv:vs≠[])
  (h1:ws=[]->Q (.ref t) s) (h2:ws≠[]->Q (.ref s.heap.objs.size) { s with heap:=s.heap.push { cls:=.type "tuple",data:=.seq (vs++ws).toArray } })
  (hsz:vs.length+ws.length<=sizeLine):wpAny (model prog w) A (binaryOp .Add (.ref t) (.ref b)) Q E s:=by
 obtain⟨⟨cls,dd,data,sl⟩,ho,hc,n,hd⟩:=id ht
 obtain⟨⟨cls2,dd2,data2,sl2⟩,ho2,hc2,n2,hd2⟩:=id hb
 simp only at hc hd hc2 hd2
 subst hc hd hc2 hd2
 have e:vs.toArray++ws.toArray=(vs++ws).toArray:=by simp
 by_cases hw:ws=[]
 ·exact concat_meets ⟨_,ho,rfl⟩ ⟨_,ho2,rfl⟩ noFill_tuple_add seq_tuple_add PySem.F.slot_tuple_add PySem.F.entry_tuple_add (PySem.F.args_tuple_add_2 _ _)
   (tuple_addW1 t b vs.toArray ws.toArray n n2 dd dd2 sl sl2 (by simpa using hv) (by simp[hw])) ⟨ho,ho2,h1 hw⟩
 ·refine concat_meets ⟨_,ho,rfl⟩ ⟨_,ho2,rfl⟩ noFill_tuple_add seq_tuple_add PySem.F.slot_tuple_add PySem.F.entry_tuple_add (PySem.F.args_tuple_add_2 _ _)
   (tuple_addW2 t b vs.toArray ws.toArray n n2 dd dd2 sl sl2 (by simpa using hv) (by simpa using hw) (by rw[List.size_toArray,List.size_toArray];exact hsz)) ⟨ho,ho2,?_⟩
  rw[e]
  exact h2 hw
noncomputable def sIx (n d:Nat):Option Int->Nat
 | none=>d
 | some v=>if v<0 then (v+(n:Int)).toNat else min v.toNat n
theorem sIx_none (n d:Nat):sIx n d none=d:=rfl
theorem sIx_nat (n d k:Nat):sIx n d (some (k:Int))=min k n:=by
 show (if (k:Int)<0 then ((k:Int)+(n:Int)).toNat else min (k:Int).toNat n)=min k n
 rw[if_neg (by omega),Int.toNat_natCast]
theorem WT (n d:Nat) (hd:d<=n) (o:Option Int):sIx n d o<=n:=by
 cases o with
 | none=>exact hd
 | some v =>
  show (if v<0 then (v+(n:Int)).toNat else min v.toNat n)<=n
  by_cases hv:v<0
  ·rw[if_pos hv];omega
  ·rw[if_neg hv];exact Nat.min_le_right _ _
theorem FX (v:Int) (n d:Nat):(if v<0 then max (v+(n:Int)) 0 else min v (n:Int))=((sIx n d (some v):Nat):Int):=by
 show (if v<0 then max (v+(n:Int)) 0 else min v (n:Int))=(((if v<0 then (v+(n:Int)).toNat else min v.toNat n):Nat):Int)
 by_cases hv:v<0
 ·simp only[if_pos hv];omega
 ·simp only[if_neg hv];omega
theorem DC (lo hi:Option Int) (n:Nat):Builtin.Slice.sliceAdjust lo hi 1 (n:Int)=(((sIx n 0 lo:Nat):Int),((sIx n n hi:Nat):Int)):=by
 have h1:¬((1:Int)<0):=by omega
 unfold Builtin.Slice.sliceAdjust
 simp only[h1,if_false]
 refine Prod.ext ?_ ?_
 ·cases lo with
  | none=>rfl
  | some v=>exact FX v n 0
 ·cases hi with
  | none=>rfl
  | some v=>exact FX v n n
theorem EZ (i j:Nat):Builtin.Slice.slicePlaces (i:Int) (j:Int) 1=j-i:=by
 unfold Builtin.Slice.slicePlaces
 have h1:(1:Int) > 0:=by omega
 simp only[h1,if_true,Int.ediv_one]
 split <;> omega
theorem uQ {v:Value} {o:Option Int} {Q:Option Int->Shared->Prop} (p:IsPart v o) (h:Q o s):wpAny (model prog w) A (Builtin.Slice.slicePartIndex v) Q E s:=by
 cases p with
 | none=>exact slicePart_none h
 | int i t=>exact slicePart_int h
theorem qJ {sl:Addr} {vl vu:Value} {lo hi:Option Int} {n:Nat} {Q:Int × Int × Nat->Shared->Prop} (hs:s.heap.IsSliceOf sl vl vu .none) (pl:IsPart vl lo) (pu:IsPart vu hi)
  (h:Q (((sIx n 0 lo:Nat):Int),1,sIx n n hi-sIx n 0 lo) s):wpAny (model prog w) A (Builtin.Slice.sliceApplied (.ref sl) (pure (n:Int))) Q E s:=by
 obtain⟨os,hos,hcs,hds⟩:=id hs
 unfold Builtin.Slice.sliceApplied Builtin.Slice.sliceFields
 refine wpAny_bind (wpAny_bind (wpAny_field hos hds (x:=vl) rfl (wpAny_bind (wpAny_field hos hds (x:=vu) rfl (wpAny_bind (wpAny_field hos hds (x:=.none) rfl (wpAny_pure ?_)))))))
 refine wpAny_bind (slicePart_none ?_)
 show wpAny _ _ (if ((1:Int) == 0)=true then _ else _) _ _ s
 rw[if_neg (by decide)]
 refine wpAny_bind (uQ pl (wpAny_bind (uQ pu (wpAny_bind (wpAny_pure ?_)))))
 show wpAny _ _ (match Builtin.Slice.sliceAdjust lo hi 1 (n:Int) with | (lo,hi)=>pure (lo,(1:Int),Builtin.Slice.slicePlaces lo hi 1)) _ _ s
 rw[DC lo hi n]
 show wpAny _ _ (pure (((sIx n 0 lo:Nat):Int),(1:Int),Builtin.Slice.slicePlaces ((sIx n 0 lo:Nat):Int) ((sIx n n hi:Nat):Int) 1)) _ _ s
 rw[EZ]
 exact wpAny_pure h
theorem NY (xs:Array Value) (i k:Nat):((List.range k).filterMap λ(m:Nat)=>xs[((i:Int)+(m:Int)*1).toNat]?).toArray=((xs.toList.drop i).take k).toArray:=by
 have e:(λ(m:Nat)=>xs[((i:Int)+(m:Int)*1).toNat]?)=λm=>xs[i+m]?:=by
  funext m
  have:((i:Int)+(m:Int)*1).toNat=i+m:=by omega
  rw[this]
 rw[e]
 have:=pick_run xs i k
 rw[List.filterMap_map] at this
 have e2:((λx=>xs[x]?) ∘ λx=>i+x)=λm=>xs[i+m]?:=rfl
 rw[e2] at this
 rw[this]
theorem getItem_tuple_cut {t sl:Addr} {items:Array Value} {vl vu:Value} {lo hi:Option Int} {Q:Value->Shared->Prop} (ht:IsTup s.heap t items) (hs:s.heap.IsSliceOf sl vl vu .none) (pl:IsPart vl lo) (pu:IsPart vu hi)
  (hw:¬(sIx items.size 0 lo=0/\sIx items.size items.size hi=items.size))
  (h:Q (.ref s.heap.objs.size) { s with heap:=s.heap.push { cls:=.type "tuple",data:=.seq ((items.toList.drop (sIx items.size 0 lo)).take (sIx items.size items.size hi-sIx items.size 0 lo)).toArray } })
  (hsz:items.size<=sizeLine):wpAny (model prog w) A (getItem (.ref t) (.ref sl)) Q E s:=by
 have htake:sizeOk (.seq ((items.toList.drop (sIx items.size 0 lo)).take (sIx items.size items.size hi-sIx items.size 0 lo)).toArray):=by
  show ((items.toList.drop (sIx items.size 0 lo)).take (sIx items.size items.size hi-sIx items.size 0 lo)).toArray.size<=sizeLine
  rw[List.size_toArray,List.length_take,List.length_drop,Array.length_toList]
  omega
 have hj:sIx items.size items.size hi<=items.size:=WT _ _ (Nat.le_refl _) hi
 obtain⟨os,hos,hcs,hds⟩:=id hs
 have hTs:s.TypeIs (.ref sl) "slice":=⟨os,hos,hcs⟩
 unfold getItem
 try with_reducible refine wpAny_holding ?_
 first | refine wpAny_bind (wpAny_pure ?_) | skip
 refine wpAny_bind (wpAny_sequenceKey ht.typeIs (by decide) ?_)
 refine wpAny_bind (wpAny_callSpecial?_slot (name:=Str.ofString "__getitem__") ht.typeIs PyProof.Rows.slot_tuple_getitem
  (wpAny_call_entry PyProof.Rows.slot_tuple_getitem ht.typeIs entry_tuple_getitem ?_ (args_tuple_getitem _ _)))
 show wpAny _ _ (Builtin.Tuple.tupleItemsOf (.ref t) >>= _) _ _ s
 refine wpAny_bind (tupleItemsOf_ ht ?_)
 refine wpAny_bind (wpAny_typeOf hTs ?_)
 rw[if_pos (by decide)]
 refine wpAny_bind (qJ hs pl pu ?_)
 have hno:¬((((sIx items.size 0 lo:Nat):Int) == 0 && (1:Int) == 1 && (sIx items.size items.size hi-sIx items.size 0 lo) == items.size)=true):=by
  intro q
  rw[Bool.and_eq_true,Bool.and_eq_true] at q
  have q1:((sIx items.size 0 lo:Nat):Int)=0:=eq_of_beq q.1.1
  have q2:sIx items.size items.size hi-sIx items.size 0 lo=items.size:=eq_of_beq q.2
  exact hw ⟨by omega,by omega⟩
 show wpAny _ _ (if (((sIx items.size 0 lo:Nat):Int) == 0 && (1:Int) == 1 && (sIx items.size items.size hi-sIx items.size 0 lo) == items.size)=true then _ else _) _ _ s
 rw[if_neg hno,NY]
 first
  | exact wpAny_bind (m:=Builtin.Tuple.tupleExact _) (wpAny_newObj_type (wpAny_pure ⟨_,rfl,wpAny_pure h⟩) htake)
  | exact wpAny_bind (m:=Builtin.Tuple.tupleExact _) (wpAny_newObj_type (wpAny_bind (wpAny_pure (wpAny_pure ⟨_,rfl,wpAny_pure h⟩))) htake)
  | exact wpAny_bind (wpAny_bind (m:=Builtin.Tuple.tupleExact _) (wpAny_newObj_type (wpAny_pure (wpAny_pure ⟨_,rfl,wpAny_pure h⟩)) htake))
  | exact wpAny_bind (wpAny_bind (m:=Builtin.Tuple.tupleExact _) (wpAny_newObj_type (wpAny_pure ⟨_,rfl,wpAny_pure h⟩) htake))
end
end HT
namespace L2
open PySem PySem.Spec PyProof.Rows
noncomputable abbrev TO:=St->Hp->(Option Int->Hp->Prop)->Prop
noncomputable def PO (X:Cx) (e:Option Expr) (t:TO):Prop :=
 ∀(pins:List (Addr × Obj)) (s:Shared) (σ:St) (H:Hp) (Q:Option Int->Hp->Prop),Inv X pins σ H s->t σ H Q ->
  wpAny (model X.prog X.w) X.A (evalPart e X.env) (λu s'=>∃o H',Inv X pins σ H' s'/\IsPart u o/\Q o H') X.xe s
noncomputable def SN:TO:=λ_ H Q=>Q none H
noncomputable def ZH (t:TE):TO:=λσ H Q=>t σ H λx H1=>∃i,x = .int i/\Q (some i) H1
theorem fK {ns:List Int}:∀{us:List Value},Vals (ns.map V.int) us->IntsAre us ns:=by
 induction ns with
 | nil=>intro us r;rw[List.map_nil] at r;cases r;exact .nil
 | cons n ns ih =>
  intro us r
  rw[List.map_cons] at r
  cases r with
  | cons r1 r2 =>
   obtain⟨t,e⟩:=r1
   subst e
   exact .cons n t (ih r2)
section
variable {X:Cx} {e:Expr} {te:TE} {lo hi:Option Expr} {tl th:TO} {pos p2:Pos}
theorem RQ:PO X none SN:=by
 intro pins s σ H Q I h
 rw[evalPart_none]
 exact wpAny_pure ⟨none,H,I,.none,h⟩
theorem RU (h:PE X e te):PO X (some e) (ZH te):=by
 intro pins s σ H Q I hw
 rw[evalPart_some]
 refine thn (h pins s σ H _ I hw) λu s1 ⟨x,H1,I1,r1,q1⟩=>?_
 obtain⟨i,rfl,q⟩:=q1
 obtain⟨t,rfl⟩:=r1
 exact⟨some i,H1,I1,.int i t,q⟩
noncomputable def SlR (X:Cx) (r:V->Option Int->Option Int->Hp->VK->Prop):Prop :=
 ∀(pins:List (Addr × Obj)) (s:Shared) (σ:St) (H:Hp) (x:V) (v vl vu:Value) (lo hi:Option Int) (sl:Addr) (Q:VK),Inv X pins σ H s->RelV x v->s.heap.IsSliceOf sl vl vu .none->IsPart vl lo->IsPart vu hi->r x lo hi H Q ->
  ∃T id,typeLookup (.type T) "__getitem__" = pure (some (.builtin id))/\s.TypeIs v T/\wpAny (model X.prog X.w) X.A (getItem v (.ref sl)) (EP X pins σ Q) X.xe s
theorem SlR.or {r r':V->Option Int->Option Int->Hp->VK->Prop} (h:SlR X r) (h':SlR X r'):SlR X (λx lo hi H Q=>r x lo hi H Q\/r' x lo hi H Q):=by
 intro pins s σ H x v vl vu lo hi sl Q I rx hs pl pu q
 rcases q with q | q
 ·exact h pins s σ H x v vl vu lo hi sl Q I rx hs pl pu q
 ·exact h' pins s σ H x v vl vu lo hi sl Q I rx hs pl pu q
noncomputable def tSl (r:V->Option Int->Option Int->Hp->VK->Prop) (te:TE) (tl th:TO):TE:=λσ H Q=>te σ H λx H1=>tl σ H1 λl H2=>th σ H2 λu H3=>r x l u H3 Q
theorem BS {r:V->Option Int->Option Int->Hp->VK->Prop} (hr:SlR X r) (he:PE X e te) (hl:PO X lo tl) (hu:PO X hi th):PE X (.Subscript e (.Slice lo hi none p2) pos) (tSl r te tl th):=by
 intro pins s σ H Q I h
 refine Subscript_ (thn (he pins s σ H _ I h) λv s1 ⟨x,H1,I1,r1,q1⟩=>?_)
 refine wpAny_Slice (thn (hl pins s1 σ H1 _ I1 q1) λvl s2 ⟨l,H2,I2,pl,q2⟩=>thn (hu pins s2 σ H2 _ I2 q2) λvu s3 ⟨u,H3,I3,pu,q3⟩=>?_)
 rw[evalPart_none]
 refine wpAny_pure ?_
 have I4:Inv X pins σ H3 { s3 with heap:=s3.heap.push { cls:=.type "slice",data:=.fields #[vl,vu,.none] } }:=I3.kept (t':=s3.toks) λb ob q=>Heap.get?_push_of_some _ q
 obtain⟨T,id,hT,ht,hg⟩:=hr pins { s3 with heap:=s3.heap.push { cls:=.type "slice",data:=.fields #[vl,vu,.none] } } σ H3 x v vl vu l u s3.heap.objs.size Q I4 r1 (Heap.IsSliceOf.new ..) pl pu q3
 show wpAny (model X.prog X.w) X.A (subscriptTail e (.Slice lo hi none p2) v (.ref s3.heap.objs.size)) (EP X pins σ Q) X.xe { s3 with heap:=s3.heap.push { cls:=.type "slice",data:=.fields #[vl,vu,.none] } }
 exact tail_any (ops:=[.ref s3.heap.objs.size,v]) ht hT hg (by with_unfolding_all rfl)
noncomputable def vL (xs:List V) (lo hi:Option Int):List V:=(xs.drop (HT.sIx xs.length 0 lo)).take (HT.sIx xs.length xs.length hi-HT.sIx xs.length 0 lo)
theorem qO (xs:List V) (lo hi:Option Int):(vL xs lo hi).length<=xs.length:=by
 unfold vL
 rw[List.length_take,List.length_drop]
 omega
noncomputable def Ab (K:PySem.W.Frag):V->Option Int->Option Int->Hp->VK->Prop:=λx lo hi H Q=>∃a xs,x = .ref a/\SqT K H a xs /\
 ¬(HT.sIx xs.length 0 lo=0/\HT.sIx xs.length xs.length hi=xs.length)/\∀p,H p=none->Q (.ref p) (upd H p (.tup (vL xs lo hi)))
theorem WW:SlR X (Ab X.K):=by
 intro pins s σ H x v vl vu lo hi sl Q I rx hs pl pu h
 obtain⟨a,xs,rfl,hx,hw,q⟩:=h
 cases rx
 obtain⟨its,r,ht,hz⟩:=I.tuple hx
 have hlen:its.toArray.size=xs.length:=by rw[List.size_toArray];exact r.length.symm
 refine⟨"tuple",_,PyProof.Rows.slot_tuple_getitem.lookup,ht.typeIs,?_⟩
 refine HT.getItem_tuple_cut ht hs pl pu (by rw[hlen];exact hw) ?_ (by rw[hlen];exact hz)
 rw[hlen]
 refine⟨.ref s.heap.objs.size,_,I.laid (t':=s.toks) (o:=.tup (vL xs lo hi)) (λb ob q=>Heap.get?_push_of_some _ q) (Nat.le_refl _) ?_,rfl,q _ (I.hok.fresh (Nat.le_refl _))⟩
 exact⟨Nat.le_trans (qO xs lo hi) hz,_,(r.drop (HT.sIx xs.length 0 lo)).take (HT.sIx xs.length xs.length hi-HT.sIx xs.length 0 lo),IsTup.new _ _⟩
noncomputable def ZX (K:PySem.W.Frag):R2:=λx y H Q=>∃a b ns ms,x = .ref a/\y = .ref b/\SqT K H a (ns.map V.int)/\SqT K H b (ms.map V.int)/\Q (.bl (HT.lexLt ns ms)) H
theorem VO (hu:X.A.units<cLine):OpR X (compareOp .Lt) (ZX X.K):=by
 intro pins s σ H x y v u Q I rx ry h
 obtain⟨a,b,ns,ms,rfl,rfl,ha,hb,q⟩:=h
 cases rx
 cases ry
 obtain⟨its,r1,p1,_⟩:=I.tuple ha
 obtain⟨its2,r2,p2,_⟩:=I.tuple hb
 have i1:IntsAre its.toArray.toList ns:=fK r1
 have i2:IntsAre its2.toArray.toList ms:=fK r2
 exact HT.lt_tupInts p1 p2 i1 i2 hu ⟨.bl (HT.lexLt ns ms),H,I,rfl,q⟩
noncomputable def YN (K:PySem.W.Frag):R2:=λx y H Q=>∃a b xs ys,x = .ref a/\y = .ref b/\SqT K H a xs/\SqT K H b ys/\xs≠[]/\xs.length+ys.length<=sizeLine /\
 (ys=[]->Q (.ref a) H)/\(ys≠[]->∀p,H p=none->Q (.ref p) (upd H p (.tup (xs++ys))))
theorem Vals.nil_iff {xs:List V} {us:List Value} (r:Vals xs us):us=[]↔xs=[]:=by
 cases r with
 | nil=>simp
 | cons _ _=>simp
theorem RC:OpR X (binaryOp .Add) (YN X.K):=by
 intro pins s σ H x y v u Q I rx ry h
 obtain⟨a,b,xs,ys,rfl,rfl,ha,hb,hx,hz,q1,q2⟩:=h
 cases rx
 cases ry
 obtain⟨its,r1,p1,_⟩:=I.tuple ha
 obtain⟨its2,r2,p2,_⟩:=I.tuple hb
 refine HT.cat_tup p1 p2 (λz=>hx (r1.nil_iff.mp z)) (λz=>⟨.ref a,H,I,rfl,q1 (r2.nil_iff.mp z)⟩) (λz=>?_) (by rw[<-r1.length,<-r2.length];exact hz)
 refine⟨.ref s.heap.objs.size,_,I.laid (t':=s.toks) (o:=.tup (xs++ys)) (λb ob q=>Heap.get?_push_of_some _ q) (Nat.le_refl _) ?_,rfl,q2 (λw=>z (r2.nil_iff.mpr w)) _ (I.hok.fresh (Nat.le_refl _))⟩
 exact⟨by rw[List.length_append];exact hz,_,r1.append r2,IsTup.new _ _⟩
end
end L2
namespace L2
open PySem PySem.Spec PyProof.Rows
noncomputable def ixN (n:Nat) (i:Int):Option Nat:=if 0<=i then (if i<n then some i.toNat else none) else if -(n:Int)<=i then some (i+n).toNat else none
noncomputable def atI {α:Type} (xs:List α) (i:Int):Option α:=(ixN xs.length i).bind λj=>xs[j]?
theorem GQ {n:Nat} {i:Int} {j:Nat} (h:ixN n i=some j):seqIndex? i n=some j/\j<n/\-(n:Int)<=i/\i<n:=by
 unfold ixN at h
 by_cases h0:0<=i
 ·rw[if_pos h0] at h
  by_cases h1:i<n
  ·rw[if_pos h1] at h
   have e:i.toNat=j:=Option.some.inj h
   exact⟨by rw[seqIndex_of h0 h1,e],by omega,by omega,h1⟩
  ·rw[if_neg h1] at h;cases h
 ·rw[if_neg h0] at h
  by_cases h1:-(n:Int)<=i
  ·rw[if_pos h1] at h
   have e:(i+n).toNat=j:=Option.some.inj h
   exact⟨by rw[seqIndex_neg (by omega) h1,e],by omega,h1,by omega⟩
  ·rw[if_neg h1] at h;cases h
theorem FT {α:Type} {xs:List α} {i:Int} {v:α} (h:atI xs i=some v):∃j,seqIndex? i xs.length=some j/\xs[j]? = some v/\j<xs.length/\-(xs.length:Int)<=i/\i<xs.length:=by
 unfold atI at h
 cases e:ixN xs.length i with
 | none=>rw[e] at h;cases h
 | some j =>
  rw[e] at h
  obtain⟨h1,h2,h3,h4⟩:=GQ e
  exact⟨j,h1,h,h2,h3,h4⟩
theorem nZ {α:Type} {xs:List α} {j:Nat} {v:α} (h:xs[j]? = some v):atI xs (j:Int)=some v:=by
 have hj:j<xs.length:=(List.getElem?_eq_some_iff.mp h).1
 have e:ixN xs.length (j:Int)=some j:=by
  unfold ixN
  rw[if_pos (by omega),if_pos (by omega)];simp
 unfold atI;rw[e];exact h
theorem zL {α:Type} (xs:List α) (v:α):atI (xs++[v]) (-1)=some v:=by
 have hl:(xs++[v]).length=xs.length+1:=by simp
 have e:ixN (xs++[v]).length (-1)=some xs.length:=by
  unfold ixN
  rw[hl,if_neg (by decide),if_pos (by omega)]
  congr 1
  omega
 unfold atI
 rw[e]
 show (xs++[v])[xs.length]? = some v
 simp
noncomputable def FS (b:Expr):Prop:=∀o i,subscripted b false o i=operate [o,i] (getItem o i)
noncomputable def IxR (X:Cx) (r:R2):Prop :=
 ∀(value slice:Expr) (pins:List (Addr × Obj)) (s:Shared) (σ:St) (H:Hp) (x y:V) (v u:Value) (Q:VK),Inv X pins σ H s->RelV x v->RelV y u->r x y H Q ->
  subscripted slice false v u=operate [v,u] (getItem v u)->wpAny (model X.prog X.w) X.A (subscriptTail value slice v u) (EP X pins σ Q) X.xe s
noncomputable def MtR (X:Cx) (id:String) (r:V->List V->Hp->VK->Prop):Prop :=
 ∀(pins:List (Addr × Obj)) (s:Shared) (σ:St) (H:Hp) (x:V) (xs:List V) (v:Value) (us:List Value) (Q:VK),Inv X pins σ H s->RelV x v->Vals xs us->r x xs H Q ->
  wpAny (model X.prog X.w) X.A (call (.builtin id) (v::us)) (EP X pins σ Q) X.xe s
section
variable {X:Cx} {a b:Expr} {ta tb:TE} {pos:Pos}
theorem IxR.or {r r':R2} (h:IxR X r) (h':IxR X r'):IxR X (λx y H Q=>r x y H Q\/r' x y H Q):=by
 intro value slice pins s σ H x y v u Q I rx ry q hs
 rcases q with q | q
 ·exact h value slice pins s σ H x y v u Q I rx ry q hs
 ·exact h' value slice pins s σ H x y v u Q I rx ry q hs
theorem YH {r:R2} (hr:IxR X r) (ha:PE X a ta) (hb:PE X b tb) (hs:FS b):PE X (.Subscript a b pos) (tOp r ta tb):=by
 intro pins s σ H Q I h
 exact Subscript_ (UJ ha hb I h λv u s2 x y H2 I2 rx ry q=>hr a b pins s2 σ H2 x y v u Q I2 rx ry q (hs _ _))
noncomputable def ZV (K:PySem.W.Frag):R2:=λx y H Q=>∃p xs i v,x = .ref p/\y = .int i/\SqL K H p xs/\atI xs i=some v/\Q v H
noncomputable def ZW (K:PySem.W.Frag):R2:=λx y H Q=>∃p xs i v,x = .ref p/\y = .int i/\SqT K H p xs/\atI xs i=some v/\Q v H
theorem QK:IxR X (ZV X.K):=by
 intro value slice pins s σ H x y v u Q I rx ry h hs
 obtain⟨p,xs,i,z,rfl,rfl,hq,he,q⟩:=h
 cases rx
 obtain⟨t,rfl⟩:=ry
 obtain⟨its,r,pl,hz⟩:=I.list hq
 obtain⟨j,h1,h2,h3,h4,h5⟩:=FT he
 obtain⟨w,ew,rw'⟩:=r.get h2
 have hl:=r.length
 have hn:=yM
 have fin:EP X pins σ Q w s:=⟨z,H,I,rw',q⟩
 by_cases h0:0<=i
 ·have hj:i.toNat=j:=by
   rw[seqIndex_of h0 h5] at h1
   exact Option.some.inj h1
  exact item_listR pl.isList h0 (by omega) (by rw[hj];simpa using ew) fin hs
 ·have hj:(i+(its.toArray.size:Int)).toNat=j:=by
   rw[seqIndex_neg (by omega) h4] at h1
   rw[List.size_toArray,<-hl]
   exact Option.some.inj h1
  exact subscriptTail_builtinR (x:=w) pl.isList.typeIs slot_list_getitem.lookup
   (wpAny_getItem_list_neg (Q:=λr s'=>r=w/\EP X pins σ Q r s') pl.isList (by omega) (by rw[List.size_toArray] <;> omega) (by omega) (by rw[hj];simpa using ew) ⟨rfl,fin⟩) hs
theorem VD:IxR X (ZW X.K):=by
 intro value slice pins s σ H x y v u Q I rx ry h hs
 obtain⟨p,xs,i,z,rfl,rfl,hq,he,q⟩:=h
 cases rx
 obtain⟨t,rfl⟩:=ry
 obtain⟨its,r,pl,hz⟩:=I.tuple hq
 obtain⟨j,h1,h2,h3,h4,h5⟩:=FT he
 obtain⟨w,ew,rw'⟩:=r.get h2
 have hl:=r.length
 have hn:=yM
 have fin:EP X pins σ Q w s:=⟨z,H,I,rw',q⟩
 exact subscriptTail_builtinR (x:=w) pl.typeIs slot_tuple_getitem.lookup
  (getItem_tuple (j:=j) (Q:=λr s'=>r=w/\EP X pins σ Q r s') pl (by omega) (by omega) (by rw[List.size_toArray,<-hl];exact h1) (by simpa using ew) ⟨rfl,fin⟩) hs
theorem EQ (its:List Value) (n j:Nat) (u:Value):Obj.mapSeq (·.setIfInBounds j u) { cls:=.type "list",data:=.seq its.toArray n } = { cls:=.type "list",data:=.seq (its.set j u).toArray n }:=by
 simp[Obj.mapSeq]
theorem Inv.lst {pins:List (Addr × Obj)} {σ:St} {H:Hp} {s:Shared} {p:Addr} {xs:List V} (I:Inv X pins σ H s) (h:H p=some (.lst xs)) :
  ∃(its:List Value) (n:Nat),Vals xs its/\s.heap.get? p=some { cls:=.type "list",data:=.seq its.toArray n }/\xs.length<=sizeLine:=by
 obtain⟨z,its,n,r,e⟩:=I.hok p _ h
 exact⟨its,n,r,e,z⟩
theorem Inv.lstUpd {pins:List (Addr × Obj)} {σ:St} {H:Hp} {s:Shared} {p:Addr} {xs ys:List V} {its its':List Value} {n n':Nat} {f:Obj->Obj} (I:Inv X pins σ H s) (h:H p=some (.lst xs))
  (ho:s.heap.get? p=some { cls:=.type "list",data:=.seq its.toArray n }) (hf:f { cls:=.type "list",data:=.seq its.toArray n } = { cls:=.type "list",data:=.seq its'.toArray n' }) (r:Vals ys its') (hz:ys.length<=sizeLine) (t:Nat) :
  Inv X pins σ (upd H p (.lst ys)) { s with heap:=s.heap.update p f,toks:=t }:=by
 have e:(s.heap.update p f).get? p=some { cls:=.type "list",data:=.seq its'.toArray n' }:=by
  rw[Heap.get?_update_self f ho (by rw[hf] <;> rfl),hf]
 refine I.write (x:=p) (e:=p) (by rw[h];trivial) (.inl rfl) (λb u hb q=>(Heap.get?_update_other _ _ (Ne.symm hb)).trans q) ⟨_,e⟩ ?_
 exact⟨hz,its',n',r,e⟩
noncomputable def YQ:V->V->V->Hp->(Hp->Prop)->Prop:=λo i v H Q=>∃p xs k j,o = .ref p/\i = .int k/\H p=some (.lst xs)/\ixN xs.length k=some j/\Q (upd H p (.lst (xs.set j v)))
theorem OP:XC X YQ:=by
 intro pins s σ H o i v ov iv u Q I ro ri rv h
 obtain⟨p,xs,k,j,rfl,rfl,hp,hj,q⟩:=h
 cases ro
 obtain⟨t,rfl⟩:=ri
 obtain⟨its,n,r,ho,hz⟩:=I.lst hp
 obtain⟨h1,h2,h3,h4⟩:=GQ hj
 have hl:=r.length
 have hn:=yM
 have I':Inv X pins σ (upd H p (.lst (xs.set j v))) { s with heap:=s.heap.update p (Obj.mapSeq (·.setIfInBounds j u)) } :=
  I.lstUpd hp ho (EQ its n j u) (r.set rv j) (by rw[List.length_set];exact hz) s.toks
 by_cases h0:0<=k
 ·have hk:k.toNat=j:=by
   rw[seqIndex_of h0 h4] at h1
   exact Option.some.inj h1
  exact PySem.W.ki_setAt ho h0 (by omega) (by rw[List.size_toArray,<-hl];exact h4) (by rw[hk];exact⟨_,I',q⟩)
 ·have hk:(k+(its.toArray.size:Int)).toNat=j:=by
   rw[seqIndex_neg (by omega) h3] at h1
   rw[List.size_toArray,<-hl]
   exact Option.some.inj h1
  exact PySem.W.ki_setBack ho (by omega) (by rw[List.size_toArray,<-hl];exact h3) (by omega) (by rw[hk];exact⟨_,I',q⟩)
theorem zE (lo hi:Option Int) (n:Nat):(sliceBounds lo hi none n).1=((HT.sIx n 0 lo:Nat):Int)/\(sliceBounds lo hi none n).2.1=((HT.sIx n n hi:Nat):Int)/\(sliceBounds lo hi none n).2.2=1:=by
 refine⟨?_,?_,rfl⟩
 ·cases lo with
  | none=>simp[sliceBounds,HT.sIx]
  | some i =>
   simp only[sliceBounds,HT.sIx,Option.getD_none,show (1:Int) > 0 by decide,if_true]
   by_cases h:i<0
   ·simp only[h,if_true] <;> omega
   ·simp only[h,if_false] <;> omega
 ·cases hi with
  | none=>simp[sliceBounds,HT.sIx]
  | some i =>
   simp only[sliceBounds,HT.sIx,Option.getD_none,show (1:Int) > 0 by decide,if_true]
   by_cases h:i<0
   ·simp only[h,if_true] <;> omega
   ·simp only[h,if_false] <;> omega
theorem vX (its:List Value) (lo hi:Option Int):slicePick its.toArray lo hi none=((its.drop (HT.sIx its.length 0 lo)).take (HT.sIx its.length its.length hi-HT.sIx its.length 0 lo)).toArray:=by
 obtain⟨h1,h2,h3⟩:=zE lo hi its.toArray.size
 unfold slicePick
 rw[h1,h2,h3]
 simp only[sliceRange_one,pick_run,List.size_toArray] <;> rfl
noncomputable def Aa (K:PySem.W.Frag):V->Option Int->Option Int->Hp->VK->Prop:=λx lo hi H Q=>∃a xs,x = .ref a/\SqL K H a xs/\∀p,H p=none->Q (.ref p) (upd H p (.lst (vL xs lo hi)))
theorem HR:SlR X (Aa X.K):=by
 intro pins s σ H x v vl vu lo hi sl Q I rx hs pl pu h
 obtain⟨a,xs,rfl,hx,q⟩:=h
 cases rx
 obtain⟨its,r,ht,hz⟩:=I.list hx
 have hlen:=r.length
 refine⟨"list",_,slot_list_getitem.lookup,ht.isList.typeIs,?_⟩
 refine wpAny_getItem_list_slice ht.isList hs pl pu .none (by simp) ?_ (by rw[List.size_toArray] <;> omega)
 rw[vX,<-hlen]
 refine⟨.ref s.heap.objs.size,_,I.laid (t':=s.toks) (o:=.lst (vL xs lo hi)) (λb ob q=>Heap.get?_push_of_some _ q) (Nat.le_refl _) ?_,rfl,q _ (I.hok.fresh (Nat.le_refl _))⟩
 exact⟨Nat.le_trans (qO xs lo hi) hz,_,0,(r.drop (HT.sIx xs.length 0 lo)).take (HT.sIx xs.length xs.length hi-HT.sIx xs.length 0 lo),Heap.get?_push_size _ rfl⟩
theorem xR:gS X (.builtin "len") (λxs H Q=>∃p ys,xs=[.ref p]/\(SqL X.K H p ys\/SqT X.K H p ys)/\Q (.int ys.length) H):=by
 intro pins s σ H xs us Q I r h
 obtain⟨p,ys,rfl,hq,q⟩:=h
 obtain⟨u,rfl,rx⟩:=iU r
 cases rx
 have hn:=yM
 rcases hq with hq | hq
 ·obtain⟨its,r',pl,hz⟩:=I.list hq
  have hlen:=r'.length
  exact Calls.call_len_list pl.isList (by simp only[List.size_toArray] <;> omega) ⟨.int ys.length,H,I.tok _,⟨s.toks+1,by rw[List.size_toArray,hlen]⟩,q⟩
 ·obtain⟨its,r',pl,hz⟩:=I.tuple hq
  have hlen:=r'.length
  exact len_tuple pl (by simp only[List.size_toArray] <;> omega) ⟨.int ys.length,H,I.tok _,⟨s.toks+1,by rw[List.size_toArray,hlen]⟩,q⟩
theorem xS:gS X (.type "list") (λxs H Q=>∃p ys,xs=[.ref p]/\(SqL X.K H p ys\/SqT X.K H p ys)/\∀l,H l=none->Q (.ref l) (upd H l (.lst ys))):=by
 intro pins s σ H xs us Q I r h
 obtain⟨p,ys,rfl,hq,q⟩:=h
 obtain⟨u,rfl,rx⟩:=iU r
 cases rx
 have fin:∀(its:List Value),Vals ys its->ys.length<=sizeLine->∀(h':Heap) (c':Nat),(∀b o',s.heap.get? b=some o'->h'.get? b=some o') ->
   h'.get? s.heap.objs.size=some { cls:=.type "list",dict:=none,data:=.seq its.toArray c',slots:=#[] }->EP X pins σ Q (.ref s.heap.objs.size) { s with heap:=h' }:=λits r' hz h' c' kp e =>
  ⟨.ref s.heap.objs.size,_,I.laid (t':=s.toks) kp (Nat.le_refl _) (show ObjOk X.prog X.w _ h' _ (.lst ys) from ⟨hz,its,c',r',e⟩),rfl,q _ (I.hok.fresh (Nat.le_refl _))⟩
 rcases hq with hq | hq
 ·obtain⟨its,r',pl,hz⟩:=I.list hq
  have hlen:=r'.length
  obtain⟨o,ho,hc,n,hd⟩:=pl.isList
  exact call_list_seq p (.inl rfl) ho hc hd (λh' c' kp e=>fin its r' hz h' c' kp e) (by simp only[List.size_toArray] <;> omega)
 ·obtain⟨its,r',pl,hz⟩:=I.tuple hq
  have hlen:=r'.length
  obtain⟨o,ho,hc,n,hd⟩:=pl
  exact call_list_seq p (.inr rfl) ho hc hd (λh' c' kp e=>fin its r' hz h' c' kp e) (by simp only[List.size_toArray] <;> omega)
theorem vK:gS X (.type "tuple") (λxs H Q=>∃p ys,xs=[.ref p]/\((SqL X.K H p ys/\∀l,H l=none->Q (.ref l) (upd H l (.tup ys)))\/(SqT X.K H p ys/\Q (.ref p) H))):=by
 intro pins s σ H xs us Q I r h
 obtain⟨p,ys,rfl,h⟩:=h
 obtain⟨u,rfl,rx⟩:=iU r
 cases rx
 rcases h with ⟨hq,q⟩ | ⟨hq,q⟩
 ·obtain⟨its,r',pl,hz⟩:=I.list hq
  have hlen:=r'.length
  refine call_tuple_list pl.isList (λh' kp=>?_) (by simp only[List.size_toArray] <;> omega)
  have I1:Inv X pins σ H { s with heap:=h' }:=I.kept (t':=s.toks) kp
  have I2:Inv X pins σ (upd H h'.objs.size (.tup ys)) { s with heap:=h'.push { cls:=.type "tuple",data:=.seq its.toArray } } :=
   I1.laid (t':=s.toks) (λb o e=>Heap.get?_push_of_some _ e) (Nat.le_refl _) (show ObjOk X.prog X.w _ _ _ (.tup ys) from ⟨hz,its,r',IsTup.new _ _⟩)
  exact⟨.ref h'.objs.size,_,I2,rfl,q _ (I1.hok.fresh (Nat.le_refl _))⟩
 ·obtain⟨its,r',pl,hz⟩:=I.tuple hq
  exact call_tuple_same pl ⟨.ref p,H,I,rfl,q⟩
noncomputable def tyV (K:PySem.W.Frag) (T:String) (x:V) (H:Hp):Prop:=match x with
 | .str _=>T = "str"
 | .int _=>T = "int"
 | .ref p=>(T = "list"/\∃xs,SqL K H p xs)\/(T = "tuple"/\∃o,K.lookup p=some o/\o.cls = .type "tuple"/\o.dict=none) \/
   (T = "dict"/\((∃kvs,H p=some (.dK kvs))\/∃kvs,H p=some (.dT kvs)))\/(T = "set"/\∃S n,H p=some (.set S n))
 | _=>False
theorem PJ {pins:List (Addr × Obj)} {σ:St} {H:Hp} {s:Shared} {T:String} {x:V} {v:Value} (I:Inv X pins σ H s) (r:RelV x v) (ty:tyV X.K T x H) :
  s.TypeIs v T/\∀a,v = .ref a->∃ob,s.heap.get? a=some ob/\ob.dict=none:=by
 cases x with
 | str z =>
  obtain⟨t,rfl⟩:=r
  cases (show T = "str" from ty)
  exact⟨typeIs_str s z t,λ_ e=>nomatch e⟩
 | int i =>
  obtain⟨t,rfl⟩:=r
  cases (show T = "int" from ty)
  exact⟨typeIs_int s i t,λ_ e=>nomatch e⟩
 | ref p =>
  cases r
  rcases ty with ⟨rfl,xs,hq⟩ | ⟨rfl,o,hk,hc,hd⟩ | ⟨rfl,hk⟩ | ⟨rfl,S,n,hk⟩
  ·obtain⟨its,_,pl,_⟩:=I.list hq
   refine⟨pl.isList.typeIs,λa e=>?_⟩
   cases e
   obtain⟨o,n,e,c,hd,_⟩:=pl
   exact⟨o,e,hd⟩
  ·refine⟨⟨o,I.kIn p o hk,hc⟩,λa e=>?_⟩
   cases e
   exact⟨o,I.kIn _ o hk,hd⟩
  ·have z:∃o,s.heap.get? p=some o/\o.ExactDict:=by
    rcases hk with ⟨kvs,hk⟩ | ⟨kvs,hk⟩
    ·obtain⟨_,_,_,_,o,_,_,e,ex,_⟩:=I.hok p _ hk
     exact⟨o,e,ex⟩
    ·obtain⟨_,_,_,_,o,_,_,e,ex,_⟩:=I.hok p _ hk
     exact⟨o,e,ex⟩
   obtain⟨o,e,ex⟩:=z
   refine⟨⟨o,e,ex.1⟩,λa e2=>?_⟩
   cases e2
   exact⟨o,e,ex.2.1⟩
  ·obtain⟨o,_,_,_,e,ex,_⟩:=I.hok p _ hk
   refine⟨⟨o,e,ex.1⟩,λa e2=>?_⟩
   cases e2
   exact⟨o,e,ex.2.1⟩
 | _=>exact False.elim ty
noncomputable def Ai (K:PySem.W.Frag) (T:String) (r:V->List V->Hp->VK->Prop) (to:TE):TE:=λσ H Q=>to σ H λx H1=>tyV K T x H1/\r x [] H1 Q
noncomputable def tBM (K:PySem.W.Frag) (T:String) (r:V->List V->Hp->VK->Prop) (to:TE) (t:TA):TE:=λσ H Q=>to σ H λx H1=>tyV K T x H1/\t σ H1 λxs H2=>r x xs H2 Q
variable {o e:Expr} {es:List Expr} {to:TE} {t:TA} {name:Str} {apos cpos:Pos} {T id:String} {r:V->List V->Hp->VK->Prop}
theorem VQ (pa:PlainAttrs T) (slot:Slot T name id) (hty:typeOf (.builtin id)=pure (.type "method_descriptor")) (hm:MtR X id r) (ho:PE X o to)
  (hbase:attributeBase o name X.env (eval o X.env)=eval o X.env:=by rfl) (hline:(apos.endLine == cpos.line)=true:=by rfl):PE X (.Call (.Attribute o name apos) [] [] cpos) (Ai X.K T r to):=by
 intro pins s σ H Q I h
 refine wpAny_Call_method0_late hbase hline (thn (ho pins s σ H _ I h) λv s1 ⟨x,H1,I1,r1,ty,q1⟩=>?_)
 obtain⟨h1,h2⟩:=PJ I1 r1 ty
 exact⟨T,id,pa,slot,hty,h1,h2,Calls.callWith_builtin rfl (PySem.evalArgs_none (hm pins s1 σ H1 x [] v [] Q I1 r1 .nil q1))⟩
theorem UB (pa:PlainAttrs T) (slot:Slot T name id) (hty:typeOf (.builtin id)=pure (.type "method_descriptor")) (hm:MtR X id r) (ho:PE X o to) (ha:PA X (e::es) t)
  (hbase:attributeBase o name X.env (eval o X.env)=eval o X.env:=by rfl)
  (hfew:((backTo cpos (starEach (e::es) X.env)).all (λx=>!x.1) && (backToKw cpos (keywordEach [] X.env)).all (λx=>x.1.isSome)
   && decide ((e::es).length+([]:List Keyword).length+(if ([]:List Keyword).isEmpty then 0 else 1)<30))=true:=by rfl)
  (hline:(apos.endLine == cpos.line)=true:=by rfl) (hs:starEach (e::es) X.env=(false,eval e X.env)::starEach es X.env:=by rfl) (hplain:(backTo cpos (starEach es X.env)).any (·.1)=false:=by rfl) :
  PE X (.Call (.Attribute o name apos) (e::es) [] cpos) (tBM X.K T r to t):=by
 intro pins s σ H Q I h
 refine wpAny_Call_method_late hbase hfew hline rfl (thn (ho pins s σ H _ I h) λv s1 ⟨x,H1,I1,r1,ty,q1⟩=>?_)
 obtain⟨h1,h2⟩:=PJ I1 r1 ty
 refine⟨T,id,pa,slot,hty,h1,h2,?_⟩
 have hA:=ha cpos pins s1 σ H1 _ I1 q1
 rw[hs] at hA ⊢
 refine Calls.callWith_builtin (by show (false || (backTo cpos (starEach es X.env)).any (·.1))=false;rw[hplain] <;> rfl) (Calls.evalArgs_plain ?_)
 exact thn hA λus s2 ⟨vs,H2,I2,r2,q2⟩=>hm pins s2 σ H2 x vs v us Q I2 r1 r2 q2
end
end L2
namespace L2
open PySem PySem.Spec PyProof.Rows
noncomputable def MtM (X:Cx) (id:String) (r:V->List V->Hp->VK->Prop):Prop :=
 ∀(pins:List (Addr × Obj)) (s:Shared) (σ:St) (H:Hp) (x:V) (xs:List V) (v:Value) (us:List Value) (Q:VK),Inv X pins σ H s->RelV x v->Vals xs us->r x xs H Q ->
  wpAny (model X.prog X.w) X.A (call (.builtin id) (v::us)) (EP X pins σ Q) X.xe s
theorem Vals.one:∀{x:V} {us:List Value},Vals [x] us->∃u,us=[u]/\RelV x u
 | _,_,.cons r .nil=>⟨_,rfl,r⟩
theorem Vals.zero:∀{us:List Value},Vals [] us->us=[]
 | _,.nil=>rfl
theorem Vals.dropLast {xs:List V} {us:List Value} (h:Vals xs us):Vals xs.dropLast us.dropLast:=by
 induction h with
 | nil=>exact .nil
 | cons r t ih =>
  cases t with
  | nil=>exact .nil
  | cons q t'=>exact .cons r ih
theorem EA {α:Type} (l:List α):l.eraseIdx (l.length-1)=l.dropLast:=by
 induction l with
 | nil=>rfl
 | cons a r ih =>
  cases r with
  | nil=>rfl
  | cons b r =>
   have e:(a::b::r).length-1=((b::r).length-1)+1:=by
    have h1:(a::b::r).length=r.length+2:=rfl
    have h2:(b::r).length=r.length+1:=rfl
    omega
   rw[e,List.eraseIdx_cons_succ,ih]
   all_goals rfl
section
variable {X:Cx} {pins:List (Addr × Obj)} {σ:St} {H:Hp} {s:Shared} {l b:Addr} {xs ys zs:List V}
theorem Inv.lset {its its':List Value} {n:Nat} {f:Array Value->Array Value} {t':Nat} (I:Inv X pins σ H s) (hH:H l=some (.lst xs))
  (e:s.heap.get? l=some { cls:=.type "list",data:=.seq its.toArray n }) (hf:f its.toArray=its'.toArray) (hv:Vals ys its') (hz:ys.length<=sizeLine) :
  Inv X pins σ (upd H l (.lst ys)) { s with heap:=s.heap.update l (Obj.mapSeq f),toks:=t' }:=by
 have q:=PySem.IsL.update e f
 rw[hf] at q
 refine I.write (x:=l) (e:=l) (by rw[hH];exact trivial) (.inl rfl) (λb' u hb hu=>(Heap.get?_update_other s.heap (Obj.mapSeq f) (Ne.symm hb)).trans hu) ⟨_,q⟩ ?_
 exact⟨hz,its',_,hv,q⟩
theorem Inv.lnew {its:List Value} {t':Nat} (I:Inv X pins σ H s) (hv:Vals ys its) (hz:ys.length<=sizeLine) :
  Inv X pins σ (upd H s.heap.objs.size (.lst ys)) { s with heap:=s.heap.push { cls:=.type "list",data:=.seq its.toArray },toks:=t' } :=
 I.laid (λ_ _ q=>Heap.get?_push_of_some _ q) (Nat.le_refl _) ⟨hz,its,0,hv,Heap.get?_push_size _ rfl⟩
theorem Inv.fresh (I:Inv X pins σ H s):H s.heap.objs.size=none:=I.hok.fresh (Nat.le_refl _)
theorem Inv.lstM (I:Inv X pins σ H s) (hH:H l=some (.lst xs)):xs.length<=sizeLine/\∃(its:List Value) (n:Nat),Vals xs its/\xs.length=its.length/\s.heap.get? l=some { cls:=.type "list",data:=.seq its.toArray n }:=by
 obtain⟨z,its,n,r,e⟩:=I.hok l _ hH
 exact⟨z,its,n,r,r.length,e⟩
end
section
variable {X:Cx}
noncomputable def SA:V->List V->Hp->VK->Prop:=λx vs H Q=>∃l xs y,x = .ref l/\vs=[y]/\H l=some (.lst xs)/\xs.length<sizeLine/\Q .non (upd H l (.lst (xs++[y])))
theorem JO:MtM X "list.append" SA:=by
 intro pins s σ H x vs v us Q I rx rv h
 obtain⟨l,xs,y,rfl,rfl,hH,hz,q⟩:=h
 cases rx
 obtain⟨u,rfl,ru⟩:=rv.one
 obtain⟨z,its,n,r,hl,e⟩:=I.lstM hH
 refine call_meets F.slot_list_append ⟨_,e,rfl⟩ F.entry_list_append (F.args_list_append_2 _ _) (PySem.list_append l its.toArray n u (by rw[List.size_toArray];omega)) ⟨e,?_⟩
 refine⟨.non,_,I.lset (its':=its++[u]) hH e (by simp) (r.append (.cons ru .nil)) ?_,rfl,q⟩
 rw[List.length_append,List.length_singleton]
 omega
noncomputable def ZZ:V->List V->Hp->VK->Prop:=λx vs H Q=>∃l xs y,x = .ref l/\vs=[]/\H l=some (.lst xs)/\xs[xs.length-1]? = some y/\Q y (upd H l (.lst xs.dropLast))
theorem VL:MtM X "list.pop" ZZ:=by
 intro pins s σ H x vs v us Q I rx rv h
 obtain⟨l,xs,y,rfl,rfl,hH,hy,q⟩:=h
 cases rx
 have hus:=rv.zero
 subst hus
 obtain⟨z,its,n,r,hl,e⟩:=I.lstM hH
 obtain⟨u,hu,ru⟩:=r.get hy
 have hy':its.toArray[its.toArray.size-1]? = some u:=by
  show its.toArray[its.length-1]? = some u
  rw[<-Array.getElem?_toList,<-hl]
  exact hu
 refine call_meets F.slot_list_pop ⟨_,e,rfl⟩ F.entry_list_pop (F.args_list_pop_1 _) (MeetsSeq.list_pop_last l its.toArray n u hy' (by rw[List.size_toArray];omega)) ⟨e,?_⟩
 refine⟨y,_,I.lset (its':=its.dropLast) hH e ?_ r.dropLast ?_,ru,q⟩
 ·show its.toArray.eraseIdxIfInBounds (its.toArray.size-1)=its.dropLast.toArray
  rw[List.size_toArray,List.eraseIdxIfInBounds_toArray,EA]
 ·rw[List.length_dropLast]
  omega
end
section
variable {prog:Program} {w:World} {A:Around} {E:Value->Shared->Prop} {s:Shared}
end
section
variable {X:Cx}
end
end L2
namespace Att
open PySem PySem.W PySem.Calls PyProof.Rows
theorem rF {P:Params} {h:Heap}:∀(ns:List Int) (vs:List Value),WellAll P h vs (ns.map WData.int)->IntsAre vs ns:=by
 intro ns
 induction ns with
 | nil =>
  intro vs w
  rw[List.map_nil] at w
  cases w
  exact .nil
 | cons n ns ih =>
  intro vs w
  rw[List.map_cons] at w
  cases w with
  | cons a b =>
   cases a
   exact .cons _ _ (ih _ b)
theorem KE {l:OpenLaw} {n:Nat} (hn:l.most=some n) {P:Params} {h:Heap} {args:List WData} {vals:List Value}
  (hpre:l.row.toRowW.claim.pre args=true) (hwl:WellAll P h vals args) :
  ∃a vs ns,vals=[Value.ref a]/\args=[WData.list (ns.map WData.int)]/\h.get? a=some { cls:=.type "list",data:=.seq vs.toArray }/\IntsAre vs ns/\ns.length<=n:=by
 have hsh:WShape.hasAll [] args [.list .int]=true:=(pre_splitW hpre).1
 have hc:l.pre.holds [] { args:=args } = true:=(pre_splitW hpre).2
 obtain⟨d,r,rfl,h1,h2⟩:=hasAllW_cons hsh
 obtain rfl:=hasAllW_nil h2
 obtain⟨xs,rfl,h3⟩:=hasW_list h1
 obtain⟨ns,rfl⟩:=items_int h3
 have hlen:ns.length<=n:=by
  unfold OpenLaw.pre at hc
  have h4:(WTm.not (.lt (.lit (.int (n:Int))) (.len (.arg 0)))).holds [] { args:=[.list (ns.map .int)] } = true:=by
   have h4:=(holds_andW hc).1
   rw[hn] at h4
   exact h4
  have h5:=condW_of h4 (w_not (w_lt w_lit (w_len_list (w_arg rfl))))
  rw[List.length_map] at h5
  refine Nat.le_of_not_lt λq=>?_
  have q':(n:Int)<((ns.length:Nat):Int):=by omega
  first
   | (rw[decide_eq_true q'] at h5;exact absurd h5 (by decide))
   | (simp at h5;omega)
 cases hwl with
 | cons w1 w2 =>
  cases w2
  cases w1 with
  | list ho hall=>exact⟨_,_,ns,rfl,rfl,ho,rF ns _ hall,hlen⟩
theorem JZ (l:OpenLaw) (args:List WData):l.row.toRowW.claim.post args (.bool true) args=true :=
 postW_of (r:=l.row.toRowW) (X:=(true == true))
  (show WShape.has [] (.bool true) .bool=true by first | rfl | decide | simp[WShape.has,WShape.arms,WShape.armsAll])
  (show (WTm.eq .res (.lit (.bool true))).value [] { args:=args,res:=some (.bool true),after:=args } = some (.bool (true == true)) from w_eq_bool (w_res rfl) w_lit) rfl
theorem attach_call {l:OpenLaw} {n:Nat} {q:Program} {loose:List Str} {XP:(Str->Option Value)->Heap->Prop} {YP:World->Heap->Prop} {d:DefRec}
  (hn:l.most=some n) (hdf:d.params.defaults=[])
  (call:∀(w:World) (s₀ s₁:Shared) (mg mb:Str->Option Value) (fa:Addr) (o:Obj) (pm cd doc:Value) (a:Addr) (vs:List Value) (ns:List Int),
   Ground q loose [] XP w s₀ mg mb s₁.heap->YP w s₁.heap ->
   s₁.heap.get? fa=some o->o.data = .func (docDef d.name d.params d.body d.scope pm cd doc)->s₁.heap.CodeRec cd d.name->mg d.name=some (.ref fa) ->
   s₁.heap.get? a=some { cls:=.type "list",data:=.seq vs.toArray }->IntsAre vs ns->ns.length<=n->s₁.gens = #[] ->
   codeAny (model l.prog w) callerA (.call (.ref fa) ⟨[.ref a],[]⟩) (λr s'=>r = .ok (.ret (.bool true))/\OldK s₁.heap s'.heap/\s'.os=s₁.os/\AllBare s'.gens) s₁) :
  WalkO q loose XP YP l.row.toRowW d [] (λf vs=>PySem.call f vs):=by
 intro w s₀ s₁ mg mb G Y fa o pm cd doc dV kV ho hd hcd hD hmg hg args vals as hpre hlay hrd hwl hlo
 obtain rfl:dV = .none:=Dflts.none hD hdf
 obtain rfl:kV = .none:=Dflts.noKw hD
 obtain⟨a,vs,ns,rfl,rfl,hobj,hints,hlen⟩:=KE hn hpre hwl
 refine enter_call (codeAny_mono (call w s₀ s₁ mg mb fa o pm cd doc a vs ns G Y ho (fd_plain hd) hcd hmg hobj hints hlen hg) λr s' hq=>?_)
 obtain⟨rfl,h2,h3,h4⟩:=hq
 exact⟨.inl ⟨.bool true,.bool true,[],rfl,λ_=>rfl,.bool true,JZ l _,λ_=>⟨List.Pairwise.nil,λ_ hm=>(nomatch hm)⟩⟩,h2,h3,h4⟩
section
variable {prog:Program} {w:World} {A:Around} {E:Value->Shared->Prop} {s:Shared} {K:Frag}
end
end Att
namespace L2
open PySem PySem.Spec PyProof.Rows
theorem xG:∀{vs:List Value} {ns:List Int},IntsAre vs ns->Vals (ns.map V.int) vs
 | _,_,.nil=>.nil
 | _,_,.cons n t h=>.cons ⟨t,rfl⟩ (xG h)
noncomputable def PP (H:Hp):Prop:=∀b,H b=none\/∃o xs,H b=some (.frz o (.lst xs))
theorem NE {P:Program} {w:World} {K:PySem.W.Frag} {mg mb:Str->Option Value} {CX:CXT} {k:Nat} {fa a:Addr} {fd:FuncData} {x:Str} {sp:Sp} {s₁:Shared} {vs:List Value} {ns:List Int}
  (KX:K.In s₁.heap) (hns:s₁.heap.Ns mainGlobals mg) (hb:s₁.heap.Ns builtinsNs mb) (hbb:∀x:Str,x≠"__name__"->mb x=bootBuiltins x) (hlim:s₁.heap.NoLimit) (hg:s₁.gens = #[])
  (ha:s₁.heap.get? a=some { cls:=.type "list",data:=.seq vs.toArray }) (hi:IntsAre vs ns) (hl:ns.length<=sizeLine) (hr:Room k callerA)
  (F:∀base:Heap,K.In base->base.Ns mainGlobals mg->FnOk P w K mg base CX k fa fd [x] sp) (hbind:∀(s:Shared) (u:Value),BindsTo s fd ⟨[u],[]⟩ [(x,u)])
  (hsp:∀H:Hp,PP H->SqL K H a (ns.map V.int)->sp [.ref a] H (λv _=>v = .bl true) λ_ _ _=>False)
  (hCX:∀H e s',CX [] H s₁ (λ_ _ _=>False) e s'->False) :
  codeAny (model P w) callerA (.call (.ref fa) ⟨[.ref a],[]⟩) (λr s'=>r = .ok (.ret (.bool true))/\OldK s₁.heap s'.heap/\s'.os=s₁.os/\AllBare s'.gens) s₁:=by
 have rv:=xG hi
 have lenV:=hi.length
 have core:∀H:Hp,PP H->SqL K H a (ns.map V.int)->HOk P w H s₁.heap->(∀b,H b≠none->b=a)->(H a≠none->K.lookup a=none) ->
   codeAny (model P w) callerA (.call (.ref fa) ⟨[.ref a],[]⟩) (λr s'=>r = .ok (.ret (.bool true))/\OldK s₁.heap s'.heap/\s'.os=s₁.os/\AllBare s'.gens) s₁:=by
  intro H hO hS hok hA hK
  have base_of:∀{b:Addr} {o:Obj},s₁.heap.get? b=some o->H b=none->(yI s₁.heap H).get? b=some o:=λe n=>MW e n
  have noA:∀{b:Addr} {o:Obj} {es:Array DictEntry} {ep:Nat},s₁.heap.get? b=some o->o.data = .dict es ep->H b=none:=λ{b o es ep} e d=>by
   cases q:H b with
   | none=>rfl
   | some u =>
    have e':b=a:=hA b (by rw[q];simp)
    subst e'
    rw[ha] at e;cases e
    have d':Data.seq vs.toArray _=Data.dict es ep:=d
    cases d'
  have nsK:∀{b:Addr} {m:Str->Option Value},s₁.heap.Ns b m->(yI s₁.heap H).Ns b m:=λ{b m} ⟨o,es,ep,e,d,r⟩=>⟨o,es,ep,base_of e (noA e d),d,r⟩
  have hKb:K.In (yI s₁.heap H):=λb o e=>base_of (KX b o e) (by
   cases q:H b with
   | none=>rfl
   | some u =>
    have e':b=a:=hA b (by rw[q];simp)
    subst e'
    rw[hK (by rw[q];simp)] at e;cases e)
  have hM:Mod K mg (yI s₁.heap H):=⟨hKb,nsK hns,⟨mb,nsK hb,hbb⟩,let ⟨mc,h1,h2⟩:=hlim;⟨mc,nsK h1,h2⟩⟩
  have e0:Env0 P w K mg (yI s₁.heap H) callerA [] s₁ H:=⟨rfl,hM,λb o e=>QV e,Nat.le_of_eq (IY _ _),trivial,λb hb=>absurd (show b∈([]:List Addr) from hb) (by simp),hok,.of_eq hg⟩
  refine codeAny_mono ((F _ hKb (nsK hns)).run callerA [] s₁ H ⟨[.ref a],[]⟩ [.ref a] [.ref a] _ _ hr e0 (hbind s₁ (.ref a)) (.cons rfl .nil) (hsp H hO hS)) λr s' h=>?_
  cases r with
  | error e=>exact (hCX H e s' h).elim
  | ok fl =>
   cases fl with
   | next=>exact False.elim h
   | brk=>exact False.elim h
   | cont=>exact False.elim h
   | ret u =>
    obtain⟨v,H',os,bare,un,hok',r',q⟩:=h
    have q':v = .bl true:=q
    subst q'
    obtain rfl:u=Value.bool true:=r'
    refine⟨rfl,OldK.of_keep λb o e=>?_,os,bare⟩
    cases q:H b with
    | none=>exact un.keep b o e q (by intro z;exact absurd (show b∈([]:List Addr) from z) (by simp)) (by simp)
    | some u =>
     rcases hO b with z | ⟨ob,xs,z⟩
     ·rw[q] at z;cases z
     ·have z2:=un.frzs b ob _ z
      obtain⟨e1,_⟩:=hok b _ z
      obtain⟨e2,_⟩:=hok' b _ z2
      rw[e] at e1;cases e1
      exact e2
 cases hk:K.lookup a with
 | some o =>
  have e:=KX a o hk
  rw[ha] at e
  cases e
  refine core (λ_=>none) (λ_=>.inl rfl) (.inr ⟨_,vs.toArray,_,hk,rfl,rfl,rfl,by rw[List.size_toArray,lenV];exact hl,by simpa using rv⟩) (λb u z=>by have z':(none:Option HO)=some u:=z;cases z') (λb z=>absurd rfl z) λz=>absurd rfl z
 | none =>
  refine core (λb=>if b=a then some (.frz { cls:=.type "list",data:=.seq vs.toArray } (.lst (ns.map V.int))) else none) (λb=>?_) (.inl (.inr ⟨{ cls:=.type "list",data:=.seq vs.toArray },if_pos rfl⟩)) (λb u z=>?_) (λb z=>?_) λ_=>hk
  ·by_cases hb:b=a
   ·exact .inr ⟨_,_,if_pos hb⟩
   ·exact .inl (if_neg hb)
  ·by_cases hb:b=a
   ·have z':=(if_pos hb).symm.trans z
    cases z'
    subst hb
    exact⟨ha,by rw[List.length_map];exact hl,vs,_,rv,ha⟩
   ·have z':=(if_neg hb).symm.trans z
    cases z'
  ·by_cases hb:b=a
   ·exact hb
   ·exact absurd (if_neg hb) z
end L2
namespace L2
open PySem PySem.Spec PyProof.Rows
noncomputable abbrev KOf {K:PySem.W.Frag} {h:Heap} (_:K.In h):PySem.W.Frag:=K
theorem walk_of {l:PySem.W.OpenLaw} {n k:Nat} {q:Program} {loose:List Str} {XP:(Str->Option Value)->Heap->Prop} {YP:World->Heap->Prop} {d:DefRec} {K:Params->PySem.W.Frag} {CX:World->CXT} {sp:World->Sp} {x:Str}
  (hn:l.most=some n) (hn2:n<=sizeLine) (hdf:d.params.defaults=[]) (hr:Room k callerA)
  (hY:∀(w:World) (h:Heap),YP w h->(K w.params).In h)
  (F:∀(w:World) (mg:Str->Option Value) (fa:Addr) (h:Heap),(K w.params).In h->h.Ns mainGlobals mg->mg d.name=some (.ref fa) ->
   ∃fd:FuncData,(∀(s:Shared) (u:Value),BindsTo s fd ⟨[u],[]⟩ [(x,u)]) /\
    ∀base:Heap,(K w.params).In base->base.Ns mainGlobals mg->FnOk l.prog w (K w.params) mg base (CX w) k fa fd [x] (sp w))
  (hsp:∀(w:World) (H:Hp) (a:Addr) (ns:List Int),ns.length<=n->PP H->SqL (K w.params) H a (ns.map V.int)->sp w [.ref a] H (λv _=>v = .bl true) λ_ _ _=>False)
  (hCX:∀(w:World) (H:Hp) (s:Shared) (e:Value) (s':Shared),CX w [] H s (λ_ _ _=>False) e s'->False) :
  PySem.W.WalkO q loose XP YP l.row.toRowW d [] (λf vs=>PySem.call f vs):=by
 refine Att.attach_call hn hdf λw s₀ s₁ mg mb fa o pm cd doc a vs ns G Y ho hd hcd hmg hobj hints hlen hg=>?_
 have KX:=hY w _ Y
 obtain⟨fd,hb,hF⟩:=F w mg fa _ KX G.T.g hmg
 exact NE KX G.T.g G.T.b G.T.builtins G.T.nolimit hg hobj hints (Nat.le_trans hlen hn2) hr hF hb (λH hO hS=>hsp w H a ns hlen hO hS) λH e s'=>hCX w H s₁ e s'
end L2
namespace L2
open PySem PySem.Spec PyProof.Rows
noncomputable def bG (s:Stmt):Arguments:=match s with
 | .FunctionDef _ a _ _ _ _ _ _ _ _=>a
 | _=>{ posonlyargs:=[],args:=[],vararg:=none,kwonlyargs:=[],kw_defaults:=[],kwarg:=none,defaults:=[] }
noncomputable def aM (s:Stmt):List Stmt:=match s with
 | .FunctionDef _ _ b _ _ _ _ _ _ _=>b
 | _=>[]
noncomputable def aE (s:Stmt):Scope:=match s with
 | .FunctionDef _ _ _ _ _ _ sc _ _ _=>sc
 | _=>{ kind:=.function,names:=[],isGenerator:=false,isCoroutine:=false }
noncomputable abbrev CX0:CXT:=λ_ _ _ _ _ _=>False
noncomputable abbrev E0:XK:=λ_ _ _=>False
theorem YF {X:Cx}:CW CX0 X E0:=λ_ _ _ _ _ _ _ h=>h.elim
structure Fun (K:PySem.W.Frag) (x qual:Str) (st:Stmt) (f:Addr) (fd:FuncData):Prop where
 ex:∃(oc:Value) (od:Option Addr) (kV doc pm:Value) (an:Option Addr) (cdv ct:Value) (osl:Array (Option Value)),
  fd=PySem.W.fnOf x qual (bG st) (aM st) (aE st) .none kV doc pm an cdv ct/\K.lookup f=some ⟨oc,od,.func fd,osl⟩/\PySem.W.codeIn K cdv qual=true
 kp:PySem.W.keepIn K (.ref f)=true
section
variable {P:Program} {w:World} {K:PySem.W.Frag} {mg:Str->Option Value} {base:Heap}
theorem Fun.ok {x qual:Str} {st:Stmt} {f:Addr} {fd:FuncData} {N ps:List Str} {k:Nat} {sp:Sp} (F:Fun K x qual st f fd) (S:FnScope N ps (aE st)) (len:∀vs H Q E,sp vs H Q E->vs.length=ps.length)
  (hbody:∀(cdv:Value) (A:Around) (outer:List Env) (s:Shared) (H:Hp) (vs:List V) (Q:VK) (E:XK),Room k (A.deeper (envOfC qual (aE st) s.heap.objs.size f cdv))->sp vs H Q E ->
   ∃t,PSs (dA CX0 P w K mg base N qual (aE st) f cdv A outer s H E).nox (aM st) t/\t { nx:=λ_ H'=>Q .non H',rt:=Q } (start N vs) H):FnOk P w K mg base CX0 (k+1) f fd ps sp:=by
 obtain⟨oc,od,kV,doc,pm,an,cdv,ct,osl,rfl,lk,hcd⟩:=F.ex
 refine XN lk hcd S len λA outer s H vs Q E hr hsp=>?_
 obtain⟨t,h,q⟩:=hbody cdv A outer s H vs Q E hr hsp
 exact⟨t,h.nox,q⟩
theorem bR {x qual:Str} {st:Stmt} {f:Addr} {oc:Value} {od an:Option Addr} {osl:Array (Option Value)} {kV doc pm cdv ct:Value} (l:K.lookup f=some ⟨oc,od,.func (PySem.W.fnOf x qual (bG st) (aM st) (aE st) .none kV doc pm an cdv ct),osl⟩)
  (c:PySem.W.codeIn K cdv qual=true) (k:PySem.W.keepIn K (.ref f)=true):Fun K x qual st f (PySem.W.fnOf x qual (bG st) (aM st) (aE st) .none kV doc pm an cdv ct):=⟨⟨oc,od,kV,doc,pm,an,cdv,ct,osl,rfl,l,c⟩,k⟩
end
section
variable {X:Cx}
theorem pv (i:Nat) {x:Str} {pos:Pos} (hN:X.N[i]? = some x:=by rfl) (hv:Vis X.env.scope x:=by walk_at "vis") (hd:(x == ("__debug__":Str))=false:=by decide)
  (hcd:(x == ("__classdict__":Str))=false:=by decide):PE X (.Name x pos) (ZJ i):=VY hN hv hd hcd
end
noncomputable def Same (H H':Hp):Prop:=∀b o,H b=some o->H' b=some o
theorem Same.refl (H:Hp):Same H H:=λ_ _ h=>h
theorem Same.trans {H H1 H2:Hp} (a:Same H H1) (b:Same H1 H2):Same H H2:=λc o h=>b c o (a c o h)
theorem Same.free {H H':Hp} (e:Same H H') {l:Addr} (h:H' l=Option.none):H l=Option.none:=by
 cases q:H l with
 | none=>rfl
 | some o =>
  rw[e l o q] at h
  cases h
end L2
set_option linter.all false
namespace L2.R2
noncomputable abbrev Pt:=Int × Int
noncomputable def aG (a b c:Pt):Int:=(b.1-a.1)*(c.2-a.2)-(b.2-a.2)*(c.1-a.1)
noncomputable def ltP (a b:Pt):Prop:=a.1<b.1\/(a.1=b.1/\a.2<b.2)
instance (a b:Pt):Decidable (ltP a b):=by unfold ltP;infer_instance
theorem gH {a:Pt}:¬ltP a a:=λh=>h.elim (Int.lt_irrefl _) λh=>Int.lt_irrefl _ h.2
theorem eI {a b c:Pt} (h:ltP a b) (k:ltP b c):ltP a c:=by
 rcases h with h | ⟨h,h'⟩
 ·exact Or.inl (k.elim (Int.lt_trans h) λk=>k.1 ▸ h)
 ·exact k.elim (λk=>Or.inl (h ▸ k)) λk=>Or.inr ⟨h.trans k.1,Int.lt_trans h' k.2⟩
theorem eT (a b:Pt):ltP a b\/a=b\/ltP b a:=by
 rcases Int.lt_trichotomy a.1 b.1 with h | h | h
 ·exact Or.inl (Or.inl h)
 ·rcases Int.lt_trichotomy a.2 b.2 with k | k | k
  ·exact Or.inl (Or.inr ⟨h,k⟩)
  ·exact Or.inr (Or.inl (Prod.ext h k))
  ·exact Or.inr (Or.inr (Or.inr ⟨h.symm,k⟩))
 ·exact Or.inr (Or.inr (Or.inl h))
theorem gQ {a b:Pt} (h:ltP a b):¬ltP b a:=λk=>gH (eI h k)
noncomputable def LP (x y:Int):Prop:=0<x\/(x=0/\0<y)
theorem eO {a b:Pt} (h:ltP a b):LP (b.1-a.1) (b.2-a.2):=h.elim (λh=>Or.inl (Int.sub_pos_of_lt h)) λh=>Or.inr ⟨by rw[h.1,Int.sub_self],Int.sub_pos_of_lt h.2⟩
theorem sO {x y x' y':Int} (h:LP x y) (k:LP x' y'):LP (x+x') (y+y'):=by
 rcases h with h | ⟨rfl,h'⟩ <;> rcases k with k | ⟨rfl,k'⟩
 ·exact Or.inl (Int.add_pos h k)
 ·exact Or.inl (by rw[Int.add_zero];exact h)
 ·exact Or.inl (by rw[Int.zero_add];exact k)
 ·exact Or.inr ⟨rfl,Int.add_pos h' k'⟩
theorem gG {k x y:Int} (hk:0<k) (h:LP x y):LP (k*x) (k*y):=by
 unfold LP at *
 rcases h with h | ⟨h,h'⟩
 ·exact Or.inl (Int.mul_pos hk h)
 ·exact Or.inr ⟨by rw[h,Int.mul_zero],Int.mul_pos hk h'⟩
theorem FQ {k x y z w:Int} (hk:0<=k) (h:LP x y) (h0:LP z w):LP (z+k*x) (w+k*y):=by
 rcases Int.lt_or_eq_of_le hk with h' | rfl
 ·exact sO h0 (gG h' h)
 ·rw[Int.zero_mul,Int.zero_mul,Int.add_zero,Int.add_zero];exact h0
theorem TK (h:LP 0 0):False:=h.elim (Int.lt_irrefl _) λh=>Int.lt_irrefl _ h.2
theorem CV {k x y:Int} (h:LP x y) (hk:LP (k*x) (k*y)):0<k:=by
 unfold LP at *
 rcases h with h | ⟨h,h'⟩
 ·rcases hk with hk | ⟨hk,_⟩
  ·exact Int.pos_of_mul_pos_left hk h |> λh=>h
  ·rcases Int.mul_eq_zero.mp hk with e | e
   ·subst e;simp at *;
   ·omega
 ·subst h
  rcases hk with hk | ⟨_,hk⟩
  ·simp at hk
  ·exact Int.pos_of_mul_pos_left hk h'
theorem xK {ux uy vx vy wx wy:Int} (hu:LP ux uy) (hv:LP vx vy) (hw:LP wx wy) (h:0<ux*vy-uy*vx) (k:0<vx*wy-vy*wx) :
  0<ux*(vy+wy)-uy*(vx+wx)/\0<(ux+vx)*wy-(uy+vy)*wx:=by
 constructor
 ·refine CV hv (?_:LP _ _)
  have:=sO (gG h (sO hv hw)) (gG k hu)
  have e1:(ux*(vy+wy)-uy*(vx+wx))*vx=(ux*vy-uy*vx)*(vx+wx)+(vx*wy-vy*wx)*ux:=by grind
  have e2:(ux*(vy+wy)-uy*(vx+wx))*vy=(ux*vy-uy*vx)*(vy+wy)+(vx*wy-vy*wx)*uy:=by grind
  rw[e1,e2];exact this
 ·refine CV hv (?_:LP _ _)
  have:=sO (gG h hw) (gG k (sO hu hv))
  have e1:((ux+vx)*wy-(uy+vy)*wx)*vx=(ux*vy-uy*vx)*wx+(vx*wy-vy*wx)*(ux+vx):=by grind
  have e2:((ux+vx)*wy-(uy+vy)*wx)*vy=(ux*vy-uy*vx)*wy+(vx*wy-vy*wx)*(uy+vy):=by grind
  rw[e1,e2];exact this
theorem CO {a b c d:Pt} (ab:ltP a b) (bc:ltP b c) (cd:ltP c d) (h:0<aG a b c) (k:0<aG b c d):0<aG a b d/\0<aG a c d:=by
 have:=xK (eO ab) (eO bc) (eO cd) (by unfold aG at h;grind) (by unfold aG at k;grind)
 unfold aG
 constructor
 ·have:=this.1;grind
 ·have:=this.2;grind
theorem SV {ux uy vx vy ax ay px py:Int} (A:LP ax ay) (P:LP px py) (V:LP vx vy) (hc:0<ux*vy-uy*vx) (m0:0<=-(ux*ay-uy*ax)) (x0:0<=ax*vy-ay*vx) (y0:0<=ux*py-uy*px) (n0:0<=vx*py-vy*px):0<ax*py-ay*px:=by
 have CA:=gG hc A
 have S:=FQ m0 V CA
 rw[show (ux*vy-uy*vx)*ax + -(ux*ay-uy*ax)*vx=(ax*vy-ay*vx)*ux by grind,show (ux*vy-uy*vx)*ay + -(ux*ay-uy*ax)*vy=(ax*vy-ay*vx)*uy by grind] at S
 have hx:0<ax*vy-ay*vx:=by
  rcases Int.lt_or_eq_of_le x0 with h | h
  ·exact h
  ·rw[<-h,Int.zero_mul,Int.zero_mul] at S;exact (TK S).elim
 have T:=FQ n0 CA (gG hx (gG hc P))
 rw[show (ax*vy-ay*vx)*((ux*vy-uy*vx)*px)+(vx*py-vy*px)*((ux*vy-uy*vx)*ax)=((ax*py-ay*px)*(ux*vy-uy*vx))*vx by grind,show (ax*vy-ay*vx)*((ux*vy-uy*vx)*py)+(vx*py-vy*px)*((ux*vy-uy*vx)*ay)=((ax*py-ay*px)*(ux*vy-uy*vx))*vy by grind] at T
 exact Int.pos_of_mul_pos_left (CV V T) hc
theorem CQ {a0 b c0 a p:Pt} (h0:ltP b c0) (ha:ltP a b) (hp:ltP b p) (hc:0<aG a0 b c0) (h1:0<=aG a0 b a) (h2:0<=aG b c0 a) (h3:0<=aG a0 b p) (h4:0<=aG b c0 p):0<aG a b p:=by
 have A:=eO ha;have P:=eO hp;have U2:=eO h0
 have hc':0<(b.1-a0.1)*(c0.2-b.2)-(b.2-a0.2)*(c0.1-b.1):=by
  have e:aG a0 b c0=(b.1-a0.1)*(c0.2-b.2)-(b.2-a0.2)*(c0.1-b.1):=by { unfold aG;grind }
  rw[<-e];exact hc
 have m0:0<=-((b.1-a0.1)*(b.2-a.2)-(b.2-a0.2)*(b.1-a.1)):=by
  have e:aG a0 b a = -((b.1-a0.1)*(b.2-a.2)-(b.2-a0.2)*(b.1-a.1)):=by unfold aG;grind
  rw[<-e];exact h1
 have x0:0<=(b.1-a.1)*(c0.2-b.2)-(b.2-a.2)*(c0.1-b.1):=by
  have e:aG b c0 a=(b.1-a.1)*(c0.2-b.2)-(b.2-a.2)*(c0.1-b.1):=by unfold aG;grind
  rw[<-e];exact h2
 have y0:0<=(b.1-a0.1)*(p.2-b.2)-(b.2-a0.2)*(p.1-b.1):=by
  have e:aG a0 b p=(b.1-a0.1)*(p.2-b.2)-(b.2-a0.2)*(p.1-b.1):=by unfold aG;grind
  rw[<-e];exact h3
 have n0:0<=(c0.1-b.1)*(p.2-b.2)-(c0.2-b.2)*(p.1-b.1):=by
  have e:aG b c0 p=(c0.1-b.1)*(p.2-b.2)-(c0.2-b.2)*(p.1-b.1):=by unfold aG;grind
  rw[<-e];exact h4
 have goal:aG a b p=(b.1-a.1)*(p.2-b.2)-(b.2-a.2)*(p.1-b.1):=by unfold aG;grind
 rw[goal]
 exact SV A P U2 hc' m0 x0 y0 n0
noncomputable def cB (p:Pt):List Pt->List Pt
 | b::a::r=>if aG a b p<=0 then cB p (a::r) else b::a::r
 | s=>s
noncomputable def cG (L:List Pt):List Pt:=L.foldl (λs p=>p::cB p s) []
noncomputable def Dec (s:List Pt):Prop:=s.Pairwise λx y=>ltP y x
noncomputable def Inc (s:List Pt):Prop:=s.Pairwise ltP
noncomputable def Tri (s:List Pt):Prop:=∀c b a,[c,b,a].Sublist s->0<aG a b c
noncomputable def XD (p:Pt) (s:List Pt):Prop:=∀b a,[b,a].Sublist s->0<aG a b p
theorem qU (p:Pt):∀s,∃l,s=l++cB p s
 | []=>⟨[],rfl⟩
 | [_]=>⟨[],rfl⟩
 | b::a::r=>by
  unfold cB
  split
  ·obtain⟨l,e⟩:=qU p (a::r)
   exact⟨b::l,by rw[List.cons_append,<-e]⟩
  ·exact⟨[],rfl⟩
theorem jI (p:Pt) (s:List Pt):(cB p s).Sublist s:=by
 obtain⟨l,e⟩:=qU p s
 conv=>rhs;rw[e]
 exact List.sublist_append_right _ _
theorem HC (p:Pt):∀s,s≠[]->cB p s≠[]
 | [],h=>h
 | [_],_=>by simp[cB]
 | b::a::r,_=>by
  unfold cB
  split
  ·exact HC p (a::r) (by simp)
  ·simp
theorem BV (p:Pt):∀s b a r,cB p s=b::a::r->0<aG a b p
 | [],_,_,_,h=>by simp[cB] at h
 | [_],_,_,_,h=>by simp[cB] at h
 | b'::a'::r',b,a,r,h=>by
  unfold cB at h
  split at h
  ·exact BV p (a'::r') b a r h
  ·rename_i hn
   cases h
   omega
theorem Dec.mem {s:List Pt} {b:Pt} {r:List Pt} (h:Dec (b::r)) {a:Pt} (ha:a∈r):ltP a b:=(List.pairwise_cons.mp h).1 a ha
theorem Ag {α:Type} {b a b0:α} {r:List α} (h:[b,a].Sublist (b0::r)):(b=b0/\a∈r)\/[b,a].Sublist r:=by
 cases h with
 | cons _ h=>exact Or.inr h
 | cons_cons _ h=>exact Or.inl ⟨rfl,by simpa using h⟩
theorem CH {p b0 a0:Pt} {r:List Pt} (d:Dec (b0::a0::r)) (t:Tri (b0::a0::r)) (hp:ltP b0 p) (h:0<aG a0 b0 p):XD p (b0::a0::r):=by
 have top:∀a,a∈a0::r->0<aG a b0 p:=by
  intro a ha
  rcases List.mem_cons.mp ha with rfl | ha
  ·exact h
  ·have t1:0<aG a a0 b0:=t b0 a0 a (by simpa using ha)
   exact (CO (Dec.mem (s:=[]) (List.pairwise_cons.mp d).2 ha) (Dec.mem (s:=[]) d (by simp)) hp t1 h).2
 intro b a hs
 rcases Ag hs with ⟨rfl,ha⟩ | hs
 ·exact top a ha
 ·have hb:b∈a0::r:=hs.subset (by simp)
  have t1:0<aG a b b0:=t b0 b a (hs.cons_cons b0)
  have hab:ltP a b:=by
   have d':Dec [b,a]:=List.Pairwise.sublist hs (List.pairwise_cons.mp d).2
   exact (List.pairwise_cons.mp d').1 a (by simp)
  exact (CO hab (Dec.mem (s:=[]) d hb) hp t1 (top b hb)).1
theorem SK {p:Pt} {s:List Pt} (d:Dec s) (t:Tri s) (hp:∀q∈s,ltP q p):Dec (p::cB p s)/\Tri (p::cB p s):=by
 have hs:=jI p s
 have d':Dec (cB p s):=List.Pairwise.sublist hs d
 have t':Tri (cB p s):=λc b a h=>t c b a (h.trans hs)
 have hp':∀q∈cB p s,ltP q p:=λq hq=>hp q (hs.subset hq)
 have sn:XD p (cB p s):=by
  generalize e:cB p s=u at *
  match u,e with
  | [],_=>intro b a h;cases h
  | [x],_=>intro b a h;have:=h.length_le;simp at this
  | b::a::r,e=>exact CH d' t' (hp' b (by simp)) (BV p s b a r e)
 refine⟨List.pairwise_cons.mpr ⟨hp',d'⟩,?_⟩
 intro c b a h
 cases h with
 | cons _ h=>exact t' c b a h
 | cons_cons _ h=>exact sn b a h
structure LowChain (L C:List Pt):Prop where
 inc:Inc C
 mem:∀q∈C,q∈L
 first:∀q∈L,∀c r,C=c::r->¬ltP q c
 last:∀q∈L,∀c l,C=l++[c]->¬ltP c q
 side:∀l a b r,C=l++a::b::r->∀q∈L,0<=aG a b q
 bend:∀l a b c r,C=l++a::b::c::r->0<aG a b c
theorem LowChain.vertex {L C:List Pt} (H:LowChain L C) {a b p:Pt} (hb:b∈C) (ha:a∈L) (hp:p∈L) (ab:ltP a b) (bp:ltP b p):0<aG a b p:=by
 obtain⟨l,r,e⟩:=List.append_of_mem hb
 rcases List.eq_nil_or_concat l with rfl | ⟨l',a0,rfl⟩
 ·exact absurd ab (H.first a ha b r e)
 ·match r with
  | []=>exact absurd bp (H.last p hp b _ e)
  | c0::r' =>
   have e1:C=l'++a0::b::c0::r':=by simpa using e
   have e2:C=(l'++[a0])++b::c0::r':=by simpa using e
   have i:=H.inc
   rw[e2] at i
   have bc:ltP b c0:=(List.pairwise_cons.mp (List.pairwise_append.mp i).2.1).1 c0 (by simp)
   exact CQ bc ab bp (H.bend _ _ _ _ _ e1) (H.side _ _ _ _ e1 a ha) (H.side _ _ _ _ e2 a ha) (H.side _ _ _ _ e1 p hp) (H.side _ _ _ _ e2 p hp)
theorem wX {L C:List Pt} (H:LowChain L C) {p:Pt} (hp:p∈L):∀s,Dec s->(∀q∈s,q∈L)->(∀q∈s,ltP q p)->∀c∈C,c∈s->c∈cB p s
 | [],_,_,_,_,_,h=>h
 | [_],_,_,_,_,_,h=>h
 | b::a::r,d,m,lt,c,hc,h=>by
  unfold cB
  split
  ·rename_i ht
   rcases List.mem_cons.mp h with rfl | h
   ·exact absurd (H.vertex hc (m a (by simp)) hp (Dec.mem (s:=[]) d (by simp)) (lt _ (by simp))) (by omega)
   ·exact wX H hp (a::r) (List.pairwise_cons.mp d).2 (λq hq=>m q (List.mem_cons_of_mem _ hq)) (λq hq=>lt q (List.mem_cons_of_mem _ hq)) c hc h
  ·exact h
theorem HW {L C:List Pt} (H:LowChain L C):∀(R:List Pt) (s:List Pt),(∀q∈R,q∈L)->Inc R->Dec s->Tri s->(∀q∈s,q∈L)->(∀q∈s,∀p∈R,ltP q p)->(∀c∈C,c∈s\/c∈R) ->
  let S:=R.foldl (λs p=>p::cB p s) s
  Dec S/\Tri S/\(∀q∈S,q∈L)/\(∀c∈C,c∈S)
 | [],s,_,_,d,t,m,_,hc=>⟨d,t,m,λc h=>by simpa using hc c h⟩
 | p::R,s,hR,i,d,t,m,lt,hc=>by
  have ok:=SK d t (p:=p) (λq hq=>lt q hq p (by simp))
  refine HW H R (p::cB p s) (λq hq=>hR q (List.mem_cons_of_mem _ hq)) (List.pairwise_cons.mp i).2 ok.1 ok.2 ?_ ?_ ?_
  ·intro q hq
   rcases List.mem_cons.mp hq with rfl | hq
   ·exact hR _ (by simp)
   ·exact m q ((jI p s).subset hq)
  ·intro q hq r hr
   rcases List.mem_cons.mp hq with rfl | hq
   ·exact (List.pairwise_cons.mp i).1 r hr
   ·exact lt q ((jI p s).subset hq) r (List.mem_cons_of_mem _ hr)
  ·intro c hcc
   rcases hc c hcc with h | h
   ·exact Or.inl (List.mem_cons_of_mem _ (wX H (hR p (by simp)) s d m (λq hq=>lt q hq p (by simp)) c hcc h))
   ·rcases List.mem_cons.mp h with rfl | h
    ·exact Or.inl (by simp)
    ·exact Or.inr h
theorem FU:∀(C:List Pt) (t:Pt),t ∉ C->(∃c∈C,ltP c t)->(∃d∈C,ltP t d)->Inc C->∃l c d r,C=l++c::d::r/\ltP c t/\ltP t d
 | [],_,_,⟨_,h,_⟩,_,_=>by cases h
 | [x],t,_,⟨c,hc,h⟩,⟨d,hd,k⟩,_=>by
  simp at hc hd;subst hc;subst hd;exact absurd k (gQ h)
 | x::y::r,t,ht,⟨c,hc,h⟩,⟨d,hd,k⟩,i=>by
  have hxt:ltP x t:=by
   rcases List.mem_cons.mp hc with rfl | hc
   ·exact h
   ·exact eI ((List.pairwise_cons.mp i).1 c hc) h
  rcases eT y t with hy | rfl | hy
  ·have hd':d∈y::r:=by
    rcases List.mem_cons.mp hd with rfl | hd
    ·exact absurd k (gQ hxt)
    ·exact hd
   obtain⟨l,c',d',r',e,h1,h2⟩:=FU (y::r) t (λh=>ht (List.mem_cons_of_mem _ h)) ⟨y,by simp,hy⟩ ⟨d,hd',k⟩ (List.pairwise_cons.mp i).2
   exact⟨x::l,c',d',r',by rw[e];rfl,h1,h2⟩
  ·simp at ht
  ·exact⟨[],x,y,r,rfl,hxt,hy⟩
theorem yK:∀(A B:List Pt),Inc A->Inc B->(∀q,q∈A↔q∈B)->A=B
 | [],[],_,_,_=>rfl
 | [],b::B,_,_,h=>absurd ((h b).mpr (by simp)) (by simp)
 | a::A,[],_,_,h=>absurd ((h a).mp (by simp)) (by simp)
 | a::A,b::B,ia,ib,h=>by
  have ia':=List.pairwise_cons.mp ia;have ib':=List.pairwise_cons.mp ib
  have e:a=b:=by
   rcases List.mem_cons.mp ((h a).mp (by simp)) with e | ha
   ·exact e
   ·rcases List.mem_cons.mp ((h b).mpr (by simp)) with e | hb
    ·exact e.symm
    ·exact absurd (ib'.1 a ha) (gQ (ia'.1 b hb))
  subst e
  congr 1
  refine yK A B ia'.2 ib'.2 λq=>⟨λhq=>?_,λhq=>?_⟩
  ·rcases List.mem_cons.mp ((h q).mp (List.mem_cons_of_mem _ hq)) with rfl | h'
   ·exact absurd (ia'.1 q hq) gH
   ·exact h'
  ·rcases List.mem_cons.mp ((h q).mpr (List.mem_cons_of_mem _ hq)) with rfl | h'
   ·exact absurd (ib'.1 q hq) gH
   ·exact h'
theorem QI (A B:List Pt) (ia:Inc A) (ib:Inc B) (h:∀x∈A,x∈B):A.Sublist B:=by
 induction B generalizing A with
 | nil =>
  cases A with
  | nil=>exact List.Sublist.refl _
  | cons a A=>cases h a (.head _)
 | cons b B ih =>
  cases A with
  | nil=>exact List.nil_sublist _
  | cons a A =>
   have ia':=List.pairwise_cons.mp ia
   have ib':=List.pairwise_cons.mp ib
   rcases List.mem_cons.mp (h a (.head _)) with rfl | ha
   ·exact (ih A ia'.2 ib'.2 λx hx=>(List.mem_cons.mp (h x (.tail _ hx))).resolve_left λe=>gH (e ▸ ia'.1 x hx)).cons_cons a
   ·refine (ih (a::A) ia ib'.2 λx hx=>(List.mem_cons.mp (h x hx)).resolve_left λe=>?_).cons b
    rcases List.mem_cons.mp hx with k | hx
    ·exact gH (k ▸ e ▸ ib'.1 a ha)
    ·exact gQ (ia'.1 x hx) (e ▸ ib'.1 a ha)
theorem AT {L C:List Pt} (iL:Inc L) (H:LowChain L C) (hne:C≠[]):(cG L).reverse=C:=by
 obtain⟨d,t,m,k⟩:=HW H L [] (λ_ h=>h) iL List.Pairwise.nil (λ_ _ _ h=>by cases h) (λ_ h=>by cases h) (λ_ h=>by cases h) (λc hc=>Or.inr (H.mem c hc))
 have inc:Inc (cG L).reverse:=List.pairwise_reverse.mpr d
 refine yK _ _ inc H.inc λq=>⟨λhq=>?_,λhq=>List.mem_reverse.mpr (k q hq)⟩
 apply Decidable.byContradiction
 intro hn
 have hq':q∈cG L:=List.mem_reverse.mp hq
 have hL:=m q hq'
 have h1:∃c∈C,ltP c q:=by
  match C,hne with
  | c::r,_ =>
   refine⟨c,by simp,?_⟩
   rcases eT c q with h | rfl | h
   ·exact h
   ·simp at hn
   ·exact absurd h (H.first q hL c r rfl)
 have h2:∃d∈C,ltP q d:=by
  rcases List.eq_nil_or_concat C with e | ⟨l,c,e⟩
  ·exact absurd e hne
  ·refine⟨c,by simp[e],?_⟩
   rcases eT q c with h | rfl | h
   ·exact h
   ·simp[e] at hn
   ·exact absurd h (H.last q hL c l (by simpa using e))
 obtain⟨l,c,e,r,eC,hc,he⟩:=FU C q hn h1 h2 H.inc
 have hs:[e,q,c].Sublist (cG L):=by
  have i3:Inc [c,q,e]:=by
   exact .cons (λx hx=>(List.mem_cons.mp hx).elim (λe=>e ▸ hc) λh=>List.mem_singleton.mp h ▸ eI hc he) (.cons (λx hx=>List.mem_singleton.mp hx ▸ he) (.cons (λx hx=>by cases hx) .nil))
  have:[c,q,e].Sublist (cG L).reverse:=by
   refine QI _ _ i3 inc λx hx=>?_
   rw[List.mem_reverse]
   rcases List.mem_cons.mp hx with rfl | hx
   ·exact k _ (eC ▸ List.mem_append_right _ (.head _))
   ·rcases List.mem_cons.mp hx with rfl | hx
    ·exact hq'
    ·exact k _ (List.mem_singleton.mp hx ▸ eC ▸ List.mem_append_right _ (.tail _ (.head _)))
  simpa using this.reverse
 have t1:=t e q c hs
 have t2:=H.side l c e r eC q hL
 have:aG c e q = - aG c q e:=by unfold aG;grind
 omega
end L2.R2
set_option linter.all false
namespace L2.R2
noncomputable def bZ (p:Pt):Pt:=(-p.1,-p.2)
theorem lI (p:Pt):bZ (bZ p)=p:=by unfold bZ;simp
theorem gR (a b c:Pt):aG (bZ a) (bZ b) (bZ c)=aG a b c:=by unfold aG bZ;grind
theorem jT {a b:Pt}:ltP (bZ a) (bZ b)↔ltP b a:=or_congr Int.neg_lt_neg_iff (and_congr (Int.neg_inj.trans eq_comm) Int.neg_lt_neg_iff)
theorem BU (p:Pt):∀s,cB (bZ p) (s.map bZ)=(cB p s).map bZ
 | []=>rfl
 | [_]=>rfl
 | b::a::r=>by
  have ih:=BU p (a::r)
  simp only[List.map_cons] at ih ⊢
  rw[cB,cB,gR]
  split
  ·exact ih
  ·rfl
theorem CS:∀(L s:List Pt),(L.map bZ).foldl (λs p=>p::cB p s) (s.map bZ)=(L.foldl (λs p=>p::cB p s) s).map bZ
 | [],_=>rfl
 | p::L,s=>by
  simp only[List.map_cons,List.foldl_cons]
  rw[BU,<-List.map_cons]
  exact CS L (p::cB p s)
theorem tM (L:List Pt):cG (L.map bZ)=(cG L).map bZ:=CS L []
theorem nD {L:List Pt} (h:Dec L):Inc (L.map bZ):=by
 unfold Inc;rw[List.pairwise_map]
 exact h.imp λk=>jT.mpr k
theorem QH {L C:List Pt} (iL:Inc L) (H:LowChain (L.map bZ) (C.map bZ)) (hne:C≠[]):(cG L.reverse).reverse=C:=by
 have i1:Inc (L.reverse.map bZ):=nD (List.pairwise_reverse.mpr iL)
 have H':LowChain (L.reverse.map bZ) (C.map bZ):=by
  have m:∀q,q∈L.reverse.map bZ↔q∈L.map bZ:=by intro q;simp
  exact⟨H.inc,λq h=>(m q).mpr (H.mem q h),λq h=>H.first q ((m q).mp h),λq h=>H.last q ((m q).mp h),λl a b r e q h=>H.side l a b r e q ((m q).mp h),H.bend⟩
 have:=AT i1 H' (by simpa using hne)
 rw[tM,<-List.map_reverse] at this
 have k:=congrArg (List.map bZ) this
 rw[List.map_map,List.map_map] at k
 have e:bZ ∘ bZ=id:=by funext p;exact lI p
 rwa [e,List.map_id,List.map_id] at k
theorem QT {ax ay vx vy ux uy:Int} (A:LP ax ay) (V:LP vx vy) (U:LP ux uy) (hc:0<ux*vy-uy*vx) (k1:0<=vx*ay-vy*ax) (k2:0<=-(ux*ay-uy*ax)):False:=by
 have S:=FQ k2 V (FQ k1 U (gG hc A))
 rw[show (ux*vy-uy*vx)*ax+(vx*ay-vy*ax)*ux + -(ux*ay-uy*ax)*vx=0 by grind,show (ux*vy-uy*vx)*ay+(vx*ay-vy*ax)*uy + -(ux*ay-uy*ax)*vy=0 by grind] at S
 exact TK S
theorem pV {a b c q:Pt} (ba:ltP b a) (bc:ltP b c) (h:0<aG a b c) (h1:0<=aG a b q) (h2:0<=aG b c q):¬ltP q b:=by
 intro hq
 have A:=eO hq;have V:=eO ba;have U:=eO bc
 have hc:0<(c.1-b.1)*(a.2-b.2)-(c.2-b.2)*(a.1-b.1):=by
  have e:aG a b c=(c.1-b.1)*(a.2-b.2)-(c.2-b.2)*(a.1-b.1):=by unfold aG;grind
  rw[<-e];exact h
 have k1:0<=(a.1-b.1)*(b.2-q.2)-(a.2-b.2)*(b.1-q.1):=by
  have e:aG a b q=(a.1-b.1)*(b.2-q.2)-(a.2-b.2)*(b.1-q.1):=by unfold aG;grind
  rw[<-e];exact h1
 have k2:0<=-((c.1-b.1)*(b.2-q.2)-(c.2-b.2)*(b.1-q.1)):=by
  have e:aG b c q = -((c.1-b.1)*(b.2-q.2)-(c.2-b.2)*(b.1-q.1)):=by unfold aG;grind
  rw[<-e];exact h2
 exact QT A V U hc k1 k2
theorem JL {a b c q:Pt} (ab:ltP a b) (cb:ltP c b) (h:0<aG a b c) (h1:0<=aG a b q) (h2:0<=aG b c q):¬ltP b q:=λhq =>
 pV (jT.mpr ab) (jT.mpr cb) (by rw[gR];exact h) (by rw[gR];exact h1) (by rw[gR];exact h2) (jT.mpr hq)
noncomputable def KW (R:List Pt):Prop:=∀l a b c s,R=l++a::b::c::s->¬(ltP b a/\ltP b c)
noncomputable def KY (R:List Pt):Prop:=∀l a b s,R=l++a::b::s->a≠b
theorem AH:∀(s:List Pt) (a b:Pt),ltP b a->KW (a::b::s)->KY (a::b::s)->Dec (a::b::s)
 | [],a,b,h,_,_=>by simp only[Dec,List.pairwise_cons,List.mem_cons,List.not_mem_nil,or_false];exact⟨λx e=>e ▸ h,by simp⟩
 | c::s,a,b,h,nd,nr=>by
  have hc:ltP c b:=by
   rcases eT c b with h' | h' | h'
   ·exact h'
   ·exact absurd h'.symm (nr [a] b c s rfl)
   ·exact absurd ⟨h,h'⟩ (nd [] a b c s rfl)
  have ih:=AH s b c hc (λl x y z w e=>nd (a::l) x y z w (by rw[e];rfl)) (λl x y w e=>nr (a::l) x y w (by rw[e];rfl))
  refine List.pairwise_cons.mpr ⟨λq hq=>?_,ih⟩
  rcases List.mem_cons.mp hq with rfl | hq
  ·exact h
  ·exact eI ((List.pairwise_cons.mp ih).1 q hq) h
theorem BH:∀(R:List Pt),R≠[]->KW R->KY R->∃A m B,R=A++m::B/\Inc (A++[m])/\Dec (m::B)
 | [],h,_,_=>absurd rfl h
 | [x],_,_,_=>⟨[],x,[],rfl,by simp[Inc],by simp[Dec]⟩
 | a::b::s,_,nd,nr=>by
  rcases eT a b with h | h | h
  ·obtain⟨A,m,B,e,i,d⟩:=BH (b::s) (by simp) (λl x y z w e=>nd (a::l) x y z w (by rw[e];rfl)) (λl x y w e=>nr (a::l) x y w (by rw[e];rfl))
   refine⟨a::A,m,B,by rw[e];rfl,?_,d⟩
   refine List.pairwise_cons.mpr ⟨λq hq=>?_,i⟩
   have hb:q=b\/ltP b q:=by
    match A,e,i,hq with
    | [],e,i,hq=>simp at hq;simp at e;exact Or.inl (hq.trans e.1.symm)
    | x::A,e,i,hq =>
     simp at e
     obtain⟨rfl,e⟩:=e
     rcases List.mem_cons.mp hq with rfl | hq
     ·exact Or.inl rfl
     ·exact Or.inr ((List.pairwise_cons.mp i).1 q hq)
   rcases hb with rfl | hb
   ·exact h
   ·exact eI h hb
  ·exact absurd h (nr [] a b s rfl)
  ·exact⟨[],a,b::s,rfl,by simp[Inc],AH s a b h nd nr⟩
structure RingAbout (L:List Pt) (z y:Pt) (t:List Pt):Prop where
 mem:∀q∈z::y::t,q∈L
 least:∀q∈y::t,ltP z q
 side:∀l a b r,(z::y::t)++[z]=l++a::b::r->∀q∈L,0<=aG a b q
 bend:∀l a b c r,(z::y::t)++[z,y]=l++a::b::c::r->0<aG a b c
theorem HV {a b c:Pt} (h:0<aG a b c):a≠b/\b≠c:=by
 constructor <;> rintro rfl <;> unfold aG at h <;> grind
noncomputable def gA (L:List Pt):List Pt:=(cG L).reverse.dropLast
theorem IZ {z b a c:Pt} {T l s:List Pt} (e:(z::T)++[z]=l++a::b::c::s):b∈T:=by
 have h:((z::T)++[z]).dropLast=(l++a::b::c::s).dropLast:=congrArg List.dropLast e
 have h2:(l++a::b::c::s).dropLast=(l++[a])++(b::(c::s).dropLast):=by
  have:l++a::b::c::s=(l++[a,b])++(c::s):=by simp
  rw[this,List.dropLast_append_of_ne_nil (by simp)];simp
 rw[List.dropLast_concat,h2] at h
 cases l with
 | nil=>simp at h;rw[h.2];simp
 | cons l0 l=>simp at h;rw[h.2];simp
theorem KD {L:List Pt} {z y:Pt} {t:List Pt} (iL:Inc L) (H:RingAbout L z y t):gA L++gA L.reverse=z::y::t:=by
 have zlty:ltP z y:=H.least y (by simp)
 have bendR:∀l a b c s,(z::y::t)++[z]=l++a::b::c::s->0<aG a b c:=by
  intro l a b c s e
  refine H.bend l a b c (s++[y]) ?_
  have:(z::y::t)++[z,y]=((z::y::t)++[z])++[y]:=by simp
  rw[this,e];simp
 have rep:KY ((z::y::t)++[z]):=by
  intro l a b s e
  match s with
  | c::s=>exact (HV (bendR l a b c s e)).1
  | [] =>
   have:(z::y::t)++[z,y]=l++a::b::[y]:=by
    have:(z::y::t)++[z,y]=((z::y::t)++[z])++[y]:=by simp
    rw[this,e];simp
   exact (HV (H.bend l a b y [] this)).1
 have memR:∀q∈(z::y::t)++[z],q∈L:=by
  intro q hq
  rcases List.mem_append.mp hq with h | h
  ·exact H.mem q h
  ·simp at h;subst h;exact H.mem _ (by simp)
 have hz:z∈L:=H.mem z (by simp)
 have dip:KW ((z::y::t)++[z]):=by
  intro l a b c s e ⟨h1,h2⟩
  have nb:=pV h1 h2 (bendR l a b c s e) (H.side l a b (c::s) e z hz) (H.side (l++[a]) b c s (by rw[e];simp) z hz)
  exact nb (H.least b (IZ e))
 obtain⟨A,m,B,e,iA,dB⟩:=BH _ (by simp) dip rep
 have hA:∃A',A=z::A':=by
  match A,e with
  | [],e =>
   exfalso
   simp at e
   obtain⟨rfl,e5⟩:=e
   have hy:y∈B:=by rw[<-e5];simp
   exact gQ zlty ((List.pairwise_cons.mp dB).1 y hy)
  | x::A',e=>simp at e;exact⟨A',by rw[e.1]⟩
 obtain⟨A',rfl⟩:=hA
 have hB:∃B',B=B'++[z]:=by
  rcases List.eq_nil_or_concat B with rfl | ⟨B',x,rfl⟩
  ·exfalso
   have e':(z::y::t)++[z]=(z::A')++[m]:=e
   have:=List.append_inj_right' e' rfl
   simp at this
   subst this
   exact gH ((List.pairwise_cons.mp iA).1 z (by simp))
  ·have e':(z::y::t)++[z]=(z::A'++m::B')++[x]:=by rw[e];simp
   have:=List.append_inj_right' e' rfl
   simp at this
   exact⟨B',by rw[this];simp⟩
 obtain⟨B',rfl⟩:=hB
 have e2:(z::y::t)++[z]=(z::A'++m::B')++[z]:=by rw[e];simp
 have er:z::y::t=z::A'++m::B':=List.append_inj_left' e2 rfl
 have minL:∀q∈L,¬ltP q z:=by
  intro q hq
  rcases List.eq_nil_or_concat (y::t) with h | ⟨u,x,hu⟩
  ·simp at h
  ·have e3:(z::y::t)++[z,y]=(z::u)++x::z::y::[]:=by rw[hu];simp
   have hx:ltP z x:=H.least x (by rw[hu];simp)
   exact pV hx zlty (H.bend _ _ _ _ _ e3) (H.side (z::u) x z [] (by rw[hu];simp) q hq) (H.side [] z y (t++[z]) (by simp) q hq)
 have maxL:∀q∈L,¬ltP m q:=by
  intro q hq
  rcases List.eq_nil_or_concat (z::A') with h | ⟨u,x,hu⟩
  ·simp at h
  ·have hxm:ltP x m:=by
    have iA':=iA
    rw[hu] at iA'
    exact (List.pairwise_append.mp iA').2.2 x (by simp) m (by simp)
   match hB':B'++[z],dB with
   | [],_=>simp at hB'
   | c::s,dB =>
    have e3:(z::y::t)++[z]=u++x::m::c::s:=by rw[e,<-hB',hu];simp
    have hcm:ltP c m:=by
     exact (List.pairwise_cons.mp dB).1 c (by simp)
    exact JL hxm hcm (bendR _ _ _ _ _ e3) (H.side _ _ _ _ e3 q hq) (H.side (u++[x]) m c s (by rw[e3];simp) q hq)
 have low:LowChain L (z::A'++[m]):=by
  refine⟨iA,λq hq=>memR q ?_,λq hq c r ec=>?_,λq hq c l ec=>?_,λl a b r ec q hq=>?_,λl a b c r ec=>?_⟩
  ·rw[e];simp at hq ⊢;rcases hq with h | h | h <;> simp[h]
  ·simp at ec;rw[<-ec.1];exact minL q hq
  ·have:=List.append_inj_right' ec rfl
   simp at this;rw[<-this];exact maxL q hq
  ·refine H.side l a b (r++(B'++[z])) ?_ q hq
   have:z::A'++m::(B'++[z])=(z::A'++[m])++(B'++[z]):=by simp
   rw[e,this,ec];simp
  ·refine bendR l a b c (r++(B'++[z])) ?_
   have:z::A'++m::(B'++[z])=(z::A'++[m])++(B'++[z]):=by simp
   rw[e,this,ec];simp
 have negmem:∀q∈L.map bZ,∃p∈L,q=bZ p:=by
  intro q hq
  obtain⟨p,hp,rfl⟩:=List.mem_map.mp hq
  exact⟨p,hp,rfl⟩
 have eN:∀(X Y:List Pt),X.map bZ=Y->X=Y.map bZ:=by
  rintro X Y rfl
  rw[List.map_map]
  have e:bZ ∘ bZ=id:=by funext p;exact lI p
  rw[e,List.map_id]
 have up:LowChain (L.map bZ) ((m::(B'++[z])).map bZ):=by
  refine⟨nD dB,λq hq=>?_,λq hq c r ec=>?_,λq hq c l ec=>?_,λl a b r ec q hq=>?_,λl a b c r ec=>?_⟩
  ·obtain⟨p,hp,rfl⟩:=List.mem_map.mp hq
   refine List.mem_map_of_mem (memR p ?_)
   rw[e]
   exact List.mem_append_right _ hp
  ·obtain⟨p,hp,rfl⟩:=negmem q hq
   simp at ec
   rw[<-ec.1,jT]
   exact maxL p hp
  ·obtain⟨p,hp,rfl⟩:=negmem q hq
   have ec':(m::B').map bZ++[bZ z]=l++[c]:=by simpa using ec
   have:=List.append_inj_right' ec' rfl
   simp at this
   rw[<-this,jT]
   exact minL p hp
  ·obtain⟨p,hp,rfl⟩:=negmem q hq
   have ec':=eN _ _ ec
   simp only[List.map_append,List.map_cons] at ec'
   have:=H.side (z::A'++l.map bZ) (bZ a) (bZ b) (r.map bZ) (by rw[e,ec'];simp) p hp
   rw[<-gR,lI,lI] at this
   exact this
  ·have ec':=eN _ _ ec
   simp only[List.map_append,List.map_cons] at ec'
   have:=bendR (z::A'++l.map bZ) (bZ a) (bZ b) (bZ c) (r.map bZ) (by rw[e,ec'];simp)
   rw[gR] at this
   exact this
 have h1:=AT iL low (by simp)
 have h2:=QH iL up (by simp)
 unfold gA
 rw[h1,h2,er]
 have:m::(B'++[z])=(m::B')++[z]:=by simp
 rw[this,List.dropLast_concat,List.dropLast_concat]
end L2.R2
set_option linter.all false
namespace L2.R2
noncomputable def CY (L:List Pt):Prop:=L.Pairwise λx y=>¬ltP y x
theorem wW (p:Pt):∀s,cB p (cB p s)=cB p s
 | []=>rfl
 | [_]=>rfl
 | b::a::r=>by
  by_cases h:aG a b p<=0
  ·rw[cB,if_pos h];exact wW p (a::r)
  ·have e:cB p (b::a::r)=b::a::r:=by rw[cB,if_neg h]
   rw[e,e]
theorem KP (a p:Pt):aG a p p<=0:=by
 unfold aG
 have:(p.1-a.1)*(p.2-a.2)-(p.2-a.2)*(p.1-a.1)=0:=by grind
 omega
theorem uU (a p:Pt):aG a a p<=0:=by
 unfold aG
 have:(a.1-a.1)*(p.2-a.2)-(a.2-a.2)*(p.1-a.1)=0:=by grind
 omega
theorem fJ (L:List Pt) (p:Pt):cG (L++[p])=p::cB p (cG L):=by unfold cG;rw[List.foldl_append];rfl
theorem MX:∀(L:List Pt),(cG L).length<=L.length:=by
 have sub:∀(L s:List Pt),(L.foldl (λs p=>p::cB p s) s).length<=L.length+s.length:=by
  intro L
  induction L with
  | nil=>intro s;simp
  | cons y L ih =>
   intro s
   have i2:=ih (y::cB y s)
   have:=(jI y s).length_le
   simp only[List.foldl_cons,List.length_cons] at i2 ⊢
   omega
 intro L;simpa [cG] using sub L []
structure DupOk (L D:List Pt):Prop where
 inc:Inc D
 mem:∀z,z∈D↔z∈L
 many:2<=D.length->cG L=cG D
 one:∀c,D=[c]->cG L=[c]\/cG L=[c,c]
 none:D=[]->cG L=[]
theorem SE {α:Type} {P:List α->Prop} (h0:P []) (h1:∀l x,P l->P (l++[x])):∀l,P l:=by
 intro l
 have:∀m:List α,P m.reverse:=by
  intro m
  induction m with
  | nil=>exact h0
  | cons x m ih=>rw[List.reverse_cons];exact h1 _ _ ih
 have:=this l.reverse
 rwa [List.reverse_reverse] at this
theorem MR:∀(L:List Pt),CY L->∃D,DupOk L D:=by
 refine SE ?_ ?_
 ·intro _
  exact⟨[],List.Pairwise.nil,λz=>Iff.rfl,λh=>absurd h (by simp),λc h=>by simp at h,λ_=>rfl⟩
 ·intro L p ih hw
  have hw':=List.pairwise_append.mp hw
  obtain⟨D,H⟩:=ih hw'.1
  have top:∀z∈L,¬ltP p z:=λz hz=>hw'.2.2 z hz p (by simp)
  rcases List.eq_nil_or_concat D with hD | ⟨D',c,hD⟩
  ·-- nothing so far
   have hL:L=[]:=by
    apply List.eq_nil_iff_forall_not_mem.mpr
    intro z hz
    have:=(H.mem z).mpr hz
    rw[hD] at this;cases this
   subst hL
   refine⟨[p],by simp[Inc],λz=>by simp,λh=>absurd h (by simp),λc h=>?_,λh=>by simp at h⟩
   simp at h;subst h
   exact Or.inl rfl
  ·have hD:D=D'++[c]:=by simpa using hD
   subst hD
   have hcL:c∈L:=(H.mem c).mp (by simp)
   have cl:∀z∈D'++[c],z=c\/ltP z c:=by
    intro z hz
    rcases List.mem_append.mp hz with h | h
    ·exact Or.inr ((List.pairwise_append.mp H.inc).2.2 z h c (by simp))
    ·exact Or.inl (by simpa using h)
   by_cases hpc:p=c
   ·subst hpc
    refine⟨D'++[p],H.inc,λz=>?_,λh2=>?_,λc hc=>?_,λh=>by simp at h⟩
    ·rw[H.mem z];simp only[List.mem_append,List.mem_singleton]
     exact⟨Or.inl,λh=>h.elim id λe=>e ▸ hcL⟩
    ·rw[fJ,H.many h2,fJ]
     have hne:cG D'≠[]:=by
      rcases List.eq_nil_or_concat D' with h | ⟨D'',d,h⟩
      ·rw[h] at h2;simp at h2
      ·have:D'=D''++[d]:=by simpa using h
       rw[this,fJ];simp
     have hne2:=HC p _ hne
     generalize hu:cB p (cG D')=u at hne2
     cases u with
     | nil=>exact absurd rfl hne2
     | cons a r =>
      rw[cB,if_pos (KP a p)]
      congr 1
      rw[<-hu,wW]
    ·have hD':D'=[]/\p=c:=by
      cases D' with
      | nil=>simp at hc;exact⟨rfl,hc⟩
      | cons x D'=>simp at hc
     obtain⟨rfl,rfl⟩:=hD'
     rw[fJ]
     rcases H.one p rfl with e | e
     ·rw[e];exact Or.inr rfl
     ·rw[e,cB,if_pos (uU p p)];exact Or.inr rfl
   ·have ltcp:ltP c p:=by
     rcases eT c p with h | h | h
     ·exact h
     ·exact absurd h.symm hpc
     ·exact absurd h (top c hcL)
    have inc2:Inc ((D'++[c])++[p]):=by
     refine List.pairwise_append.mpr ⟨H.inc,by simp,λz hz w hw=>?_⟩
     have:w=p:=by simpa using hw
     subst this
     rcases cl z hz with rfl | h
     ·exact ltcp
     ·exact eI h ltcp
    refine⟨(D'++[c])++[p],inc2,λz=>?_,λ_=>?_,λd hd=>by have:=congrArg List.length hd;simp at this,λh=>by simp at h⟩
    ·rw[List.mem_append,H.mem z,List.mem_append]
    ·rw[fJ,fJ (D'++[c])]
     by_cases h2:2<=(D'++[c]).length
     ·rw[H.many h2]
     ·have:D'=[]:=by
       cases D' with
       | nil=>rfl
       | cons x D'=>simp at h2
      subst this
      rcases H.one c rfl with e | e
      ·rw[e];rfl
      ·rw[e,cB,if_pos (uU c p)];rfl
theorem AJ {L D:List Pt} (hw:CY L) (iD:Inc D) (hm:∀z,z∈D↔z∈L):(2<=D.length->cG L=cG D)/\(D.length<=1->(cG L).length<=2):=by
 obtain⟨D1,H⟩:=MR L hw
 have:D1=D:=yK _ _ H.inc iD λq=>(H.mem q).trans (hm q).symm
 subst this
 refine⟨H.many,λh=>?_⟩
 match D1,H,h with
 | [],H,_=>rw[H.none rfl];simp
 | [c],H,_=>rcases H.one c rfl with e | e <;> rw[e] <;> simp
 | _::_::_,_,h=>simp at h
noncomputable def mP (L:List Pt):List Pt:=gA L++gA L.reverse
theorem AK {L D:List Pt} (hw:CY L) (iD:Inc D) (hm:∀z,z∈D↔z∈L):(2<=D.length->mP L=mP D)/\(D.length<=1->(mP L).length<3):=by
 have a:=AJ hw iD hm
 have wn:CY (L.reverse.map bZ):=by
  unfold CY
  rw[List.pairwise_map,List.pairwise_reverse]
  exact hw.imp λh k=>h (jT.mp k)
 have iN:Inc (D.reverse.map bZ):=nD (List.pairwise_reverse.mpr iD)
 have b:=AJ wn iN λz=>by simp only[List.mem_map,List.mem_reverse];constructor <;> (rintro⟨w,h1,h2⟩;exact⟨w,by first | exact (hm w).mp h1 | exact (hm w).mpr h1,h2⟩)
 rw[tM,tM] at b
 simp only[List.length_map,List.length_reverse] at b
 have inj:∀(X Y:List Pt),X.map bZ=Y.map bZ->X=Y:=by
  intro X Y h
  have:=congrArg (List.map bZ) h
  rw[List.map_map,List.map_map] at this
  have e:bZ ∘ bZ=id:=by funext p;exact lI p
  rwa [e,List.map_id,List.map_id] at this
 constructor
 ·intro h
  unfold mP gA
  rw[a.1 h,inj _ _ (b.1 h)]
 ·intro h
  have h1:=a.2 h
  have h2:=b.2 h
  unfold mP gA
  simp only[List.length_append,List.length_dropLast,List.length_reverse]
  exact Nat.lt_of_le_of_lt (Nat.add_le_add (Nat.sub_le_sub_right h1 1) (Nat.sub_le_sub_right h2 1)) (by decide)
end L2.R2
set_option linter.all false
namespace L2.R2
noncomputable def Nxt (L:List Pt) (a b:Pt):Prop:=∃l r,L=l++a::b::r
theorem Nxt.cons {L:List Pt} {a b:Pt} (x:Pt) (h:Nxt L a b):Nxt (x::L) a b:=by
 obtain⟨l,r,rfl⟩:=h;exact⟨x::l,r,rfl⟩
theorem Nxt.left {A:List Pt} {a b:Pt} (B:List Pt) (h:Nxt A a b):Nxt (A++B) a b:=by
 obtain⟨l,r,rfl⟩:=h;exact⟨l,r++B,by simp⟩
theorem Nxt.right {B:List Pt} {a b:Pt} (A:List Pt) (h:Nxt B a b):Nxt (A++B) a b:=by
 obtain⟨l,r,rfl⟩:=h;exact⟨A++l,r,by simp⟩
theorem jW:∀(A B:List Pt) (a b:Pt),Nxt (A++B) a b->Nxt A a b\/((∃A',A=A'++[a])/\∃B',B=b::B')\/Nxt B a b
 | [],B,a,b,h=>Or.inr (Or.inr h)
 | [x],B,a,b,⟨l,r,e⟩=>by
  cases l with
  | nil =>
   simp at e
   obtain⟨rfl,e⟩:=e
   exact Or.inr (Or.inl ⟨⟨[],rfl⟩,r,e⟩)
  | cons y l=>simp at e;exact Or.inr (Or.inr ⟨l,r,e.2⟩)
 | x::y::A,B,a,b,⟨l,r,e⟩=>by
  cases l with
  | nil =>
   simp at e
   obtain⟨rfl,rfl,e⟩:=e
   exact Or.inl ⟨[],A,rfl⟩
  | cons u l =>
   simp at e
   obtain⟨rfl,e⟩:=e
   rcases jW (y::A) B a b ⟨l,r,by simpa using e⟩ with h | ⟨⟨A',h1⟩,h2⟩ | h
   ·exact Or.inl (h.cons x)
   ·exact Or.inr (Or.inl ⟨⟨x::A',by rw[h1];rfl⟩,h2⟩)
   ·exact Or.inr (Or.inr h)
theorem yQ {f:Pt->Pt} {L:List Pt} {a b:Pt} (h:Nxt (L.map f) a b):∃x y,Nxt L x y/\a=f x/\b=f y:=by
 obtain⟨l,r,e⟩:=h
 obtain⟨l1,l2,rfl,rfl,e2⟩:=List.map_eq_append_iff.mp e
 obtain⟨x,l3,rfl,rfl,e3⟩:=List.map_eq_cons_iff.mp e2
 obtain⟨y,l4,rfl,rfl,e4⟩:=List.map_eq_cons_iff.mp e3
 exact⟨x,y,⟨l1,l4,rfl⟩,rfl,rfl⟩
theorem Nxt.mem {L:List Pt} {a b:Pt} (h:Nxt L a b):a∈L/\b∈L:=by
 obtain⟨l,r,rfl⟩:=h;simp
noncomputable def Cyc (cs:List Pt) (a b:Pt):Prop:=Nxt (cs++cs.take 1) a b
structure Cvx (cs:List Pt):Prop where
 len:3<=cs.length
 nodup:cs.Nodup
 strict:∀a b,Cyc cs a b->∀q∈cs,q≠a->q≠b->0<aG a b q
theorem FK (a b:Pt):aG a b a=0:=by unfold aG;grind
theorem PC (a b:Pt):aG a b b=0:=by unfold aG;grind
theorem Cvx.side {cs:List Pt} (h:Cvx cs) {a b:Pt} (hab:Cyc cs a b) {q:Pt} (hq:q∈cs):0<=aG a b q:=by
 by_cases h1:q=a
 ·subst h1;rw[FK];decide
 ·by_cases h2:q=b
  ·subst h2;rw[PC];decide
  ·exact Int.le_of_lt (h.strict a b hab q hq h1 h2)
theorem Cvx.map {cs:List Pt} (h:Cvx cs) {f:Pt->Pt} {k:Int} (hk:0<k) (hf:∀a b c,aG (f a) (f b) (f c)=k*aG a b c) (inj:∀a b,f a=f b->a=b):Cvx (cs.map f):=by
 refine⟨by simpa using h.len,?_,λa b hab q hq n1 n2=>?_⟩
 ·exact List.Pairwise.map f (λa b hn e=>hn (inj a b e)) h.nodup
 ·unfold Cyc at hab
  rw[<-List.map_take,<-List.map_append] at hab
  obtain⟨x,y,hxy,rfl,rfl⟩:=yQ hab
  obtain⟨p,hp,rfl⟩:=List.mem_map.mp hq
  rw[hf]
  exact Int.mul_pos hk (h.strict x y hxy p hp (λe=>n1 (by rw[e])) λe=>n2 (by rw[e]))
theorem oD {X Y:List Pt} {a b:Pt} (h:Cyc (Y++X) a b):Cyc (X++Y) a b:=by
 unfold Cyc at *
 cases Y with
 | nil=>simpa using h
 | cons y Y =>
  cases X with
  | nil=>simpa using h
  | cons x X =>
   simp only[List.cons_append,List.take_succ_cons,List.take_zero] at h ⊢
   have e:y::(Y++x::X++[y])=(y::Y)++((x::X)++[y]):=by simp
   rw[e] at h
   have goal1:∀{a b},Nxt ((x::X)++[y]) a b->Nxt (x::(X++y::Y++[x])) a b:=by
    intro a b h
    have:=h.left (Y++[x])
    simpa using this
   have goal2:∀{a b},Nxt ((y::Y)++[x]) a b->Nxt (x::(X++y::Y++[x])) a b:=by
    intro a b h
    have:=h.right (x::X)
    simpa using this
   rcases jW _ _ a b h with h | ⟨⟨A',h1⟩,B',h2⟩ | h
   ·exact goal2 (h.left _)
   ·simp at h2
    refine goal2 ?_
    rw[h1,<-h2.1]
    exact⟨A',[],by simp⟩
   ·exact goal1 h
theorem Cvx.swap {X Y:List Pt} (h:Cvx (X++Y)):Cvx (Y++X):=by
 refine⟨by have:=h.len;simp at this ⊢;omega,?_,λa b hab q hq=>h.strict a b (oD hab) q (by simp at hq ⊢;exact hq.symm)⟩
 have:=h.nodup
 rw[List.nodup_append] at this ⊢
 exact⟨this.2.1,this.1,λa ha b hb e=>this.2.2 b hb a ha e.symm⟩
theorem Cyc.mem {cs:List Pt} {a b:Pt} (h:Cyc cs a b):a∈cs/\b∈cs:=by
 have k:∀x,x∈cs++cs.take 1->x∈cs:=λx hx=>(List.mem_append.mp hx).elim id List.mem_of_mem_take
 exact⟨k a (Nxt.mem h).1,k b (Nxt.mem h).2⟩
theorem lW {α:Type} [DecidableEq α]:∀(l m:List α),l.Nodup->(∀x∈l,x∈m)->l.length<=m.length
 | [],_,_,_=>Nat.zero_le _
 | x::l,m,hn,hs=>by
  have hx:=hs x (.head _)
  have hn':=List.nodup_cons.mp hn
  have:=lW l (m.erase x) hn'.2 λy hy=>(List.mem_erase_of_ne λ(e:y=x)=>hn'.1 (e ▸ hy)).mpr (hs y (.tail _ hy))
  rw[List.length_erase_of_mem hx] at this
  exact Nat.le_trans (Nat.succ_le_succ this) (Nat.le_of_eq (Nat.succ_pred_eq_of_pos (List.length_pos_of_mem hx)))
theorem Cvx.third {cs:List Pt} (c:Cvx cs) (u v:Pt):∃w∈cs,w≠u/\w≠v:=by
 apply Classical.byContradiction
 intro hn
 have:=lW cs [u,v] c.nodup λw hw=>by
  by_cases h1:w=u
  ·exact h1 ▸ .head _
  ·by_cases h2:w=v
   ·exact h2 ▸ .tail _ (.head _)
   ·exact absurd ⟨w,hw,h1,h2⟩ hn
 exact absurd (Nat.le_trans c.len this) (show ¬ 3<=2 by decide)
theorem Cvx.ne {cs:List Pt} (c:Cvx cs) {u v:Pt} (h:Cyc cs u v):u≠v:=by
 obtain⟨w,hw,n1,n2⟩:=c.third u v
 rintro rfl
 have:=c.strict u u h w hw n1 n2
 rw[show aG u u w=0 by unfold aG;grind] at this
 exact Int.lt_irrefl _ this
theorem yP {cs:List Pt} (c:Cvx cs) {u v:Pt} (h:Cyc cs u v) (h':Cyc cs v u):False:=by
 obtain⟨w,hw,w1,w2⟩:=c.third u v
 have t1:=c.strict _ _ h w hw w1 w2
 rw[show aG u v w = - aG v u w by unfold aG;grind] at t1
 exact Int.lt_asymm (c.strict _ _ h' w hw w2 w1) (Int.neg_pos.mp t1)
theorem Cvx.bend {R:List Pt} (h:Cvx R) {l r:List Pt} {a b c:Pt} (e:R++R.take 2=l++a::b::c::r):0<aG a b c:=by
 obtain⟨x,y,R',eR⟩:∃x y R',R=x::y::R':=by
  match R,h.len with
  | x::y::R',_=>exact⟨x,y,R',rfl⟩
 have t1:R.take 1=[x]:=by rw[eR];rfl
 have t2:R++R.take 2=(R++R.take 1)++[y]:=by rw[t1,List.append_assoc,eR];rfl
 rw[t2] at e
 have ⟨ab,bc⟩:Cyc R a b/\Cyc R b c:=by
  rcases List.eq_nil_or_concat r with rfl | ⟨r',w,rfl⟩
  ·have e':(R++R.take 1)++[y]=(l++[a,b])++[c]:=by rw[e,List.append_assoc];rfl
   have k:=List.append_inj_left' e' rfl
   have ec:=List.append_inj_right' e' rfl
   injection ec with ec _
   refine⟨⟨l,[],k⟩,?_⟩
   have k':R++[x]=(l++[a])++[b]:=by rw[<-t1,k,List.append_assoc];rfl
   have eb:=List.append_inj_right' k' rfl
   injection eb with eb _
   rw[<-eb,<-ec]
   exact⟨[],R'++[x],by rw[t1,eR];rfl⟩
  ·have e':(R++R.take 1)++[y]=(l++a::b::c::r')++[w]:=by rw[e,List.append_assoc,List.concat_eq_append];rfl
   have k:=List.append_inj_left' e' rfl
   exact⟨⟨l,c::r',k⟩,l++[a],r',by rw[k,List.append_assoc];rfl⟩
 exact h.strict a b ab c bc.mem.2 (λhc=>yP h ab (hc ▸ bc)) λhc=>h.ne bc hc.symm
theorem kE {L D:List Pt} {z:Pt} {T:List Pt} (iD:Inc D) (h:Cvx (z::T)) (least:∀q∈T,¬ltP q z) (mem:∀q∈z::T,q∈D) (left:∀a b,Cyc (z::T) a b->∀q∈D,0<=aG a b q):mP D=z::T:=by
 obtain⟨y,t,rfl⟩:∃y t,T=y::t:=by
  have:=h.len
  cases T with
  | nil=>simp at this
  | cons y t=>exact⟨y,t,rfl⟩
 refine KD iD ⟨mem,λq hq=>?_,λl a b r e=>left a b ⟨l,r,e⟩,λl a b c r e=>h.bend (l:=l) (r:=r) e⟩
 rcases eT z q with h' | h' | h'
 ·exact h'
 ·subst h';exact absurd hq (List.nodup_cons.mp h.nodup).1
 ·exact absurd h' (least q hq)
end L2.R2
set_option Elab.async false
set_option linter.all false
namespace L2.R2
noncomputable abbrev H3:=Int × Int × Int
noncomputable def aZ (p q r:H3):Int:=p.1*(q.2.1*r.2.2-q.2.2*r.2.1)-p.2.1*(q.1*r.2.2-q.2.2*r.1)+p.2.2*(q.1*r.2.1-q.2.1*r.1)
noncomputable abbrev up3 (z:Pt):H3:=(z.1,z.2,1)
noncomputable abbrev jB (α:Int) (p:H3) (β:Int) (q:H3):H3:=(α*p.1+β*q.1,α*p.2.1+β*q.2.1,α*p.2.2+β*q.2.2)
theorem pO (a b c:Pt):aZ (up3 a) (up3 b) (up3 c)=aG a b c:=by unfold aZ aG up3;dsimp only;grind
theorem pN (p q u v:H3) (α β:Int):aZ p q (jB α u β v)=α*aZ p q u+β*aZ p q v:=by unfold aZ jB;dsimp only;grind
structure CLine where
 a:Int
 b:Int
 k:Int
section
variable (L:CLine)
noncomputable def cxc (z:Pt):Int:=L.a*z.1+L.b*z.2-L.k
noncomputable def Exc (p:H3):Int:=L.a*p.1+L.b*p.2.1-L.k*p.2.2
theorem cZ (z:Pt):Exc L (up3 z)=cxc L z:=by unfold Exc cxc up3;dsimp only;omega
theorem KS (α β:Int) (p q:H3):Exc L (jB α p β q)=α*Exc L p+β*Exc L q:=by unfold Exc jB;dsimp only;grind
theorem UU (v1 v2 v3 v4:H3):Exc L v1*aZ v2 v3 v4-Exc L v2*aZ v1 v3 v4+Exc L v3*aZ v1 v2 v4-Exc L v4*aZ v1 v2 v3=0:=by unfold Exc aZ;grind
noncomputable def cJ (u v:Pt):H3:=jB (cxc L v).natAbs (up3 u) (cxc L u).natAbs (up3 v)
noncomputable def blk (u v:Pt):List H3:=(if cxc L u<=0 then [up3 u] else [])++(if cxc L u*cxc L v<0 then [cJ L u v] else [])
noncomputable def Pl:List Pt->List H3
 | []=>[]
 | [_]=>[]
 | u::v::r=>blk L u v++Pl (v::r)
end
section
variable {L:CLine} {cs:List Pt}
theorem opp {x y:Int} (h:x*y<0):(x<0/\0<y)\/(0<x/\y<0):=by
 rcases Int.lt_trichotomy x 0 with hx | rfl | hx
 ·exact Or.inl ⟨hx,Int.not_le.mp λhy=>Int.not_le.mpr h (Int.mul_nonneg_of_nonpos_of_nonpos (Int.le_of_lt hx) hy)⟩
 ·rw[Int.zero_mul] at h;exact absurd h (Int.lt_irrefl _)
 ·exact Or.inr ⟨hx,Int.not_le.mp λhy=>Int.not_le.mpr h (Int.mul_nonneg (Int.le_of_lt hx) hy)⟩
theorem eV {x y:Int} (h:(x<0/\0<y)\/(0<x/\y<0)):x*y<0:=by
 rcases h with ⟨h1,h2⟩ | ⟨h1,h2⟩
 ·exact Int.mul_neg_of_neg_of_pos h1 h2
 ·exact Int.mul_neg_of_pos_of_neg h1 h2
theorem nR {u v:Pt} (h:cxc L u*cxc L v<0):Exc L (cJ L u v)=0:=by
 unfold cJ
 rw[KS,cZ,cZ]
 rcases opp h with ⟨h1,h2⟩ | ⟨h1,h2⟩
 ·rw[Int.natAbs_of_nonneg (Int.le_of_lt h2),Int.ofNat_natAbs_of_nonpos (Int.le_of_lt h1)];grind
 ·rw[Int.natAbs_of_nonneg (Int.le_of_lt h1),Int.ofNat_natAbs_of_nonpos (Int.le_of_lt h2)];grind
theorem fO {u v:Pt} (h:cxc L u*cxc L v<0):(0:Int)<(cxc L v).natAbs/\(0:Int)<(cxc L u).natAbs:=by
 have k {x:Int} (n:x≠0):(0:Int)<x.natAbs:=Int.natCast_pos.mpr (Int.natAbs_pos.mpr n)
 rcases opp h with ⟨h1,h2⟩ | ⟨h1,h2⟩
 ·exact⟨k (Int.ne_of_gt h2),k (Int.ne_of_lt h1)⟩
 ·exact⟨k (Int.ne_of_lt h2),k (Int.ne_of_gt h1)⟩
theorem nP {u v:Pt} (h:cxc L u*cxc L v<0):2<=(cJ L u v).2.2:=by
 show 1+1<=((cxc L v).natAbs:Int)*1+((cxc L u).natAbs:Int)*1
 rw[Int.mul_one,Int.mul_one]
 exact Int.add_le_add (fO h).1 (fO h).2
inductive Pm (L:CLine) (cs:List Pt):H3->Prop
 | corner {u:Pt} (hu:u∈cs) (h:cxc L u<=0):Pm L cs (up3 u)
 | cross {u v:Pt} (hc:Cyc cs u v) (h:cxc L u*cxc L v<0):Pm L cs (cJ L u v)
theorem HA (c:Cvx cs) {u v w:Pt} (h:Cyc cs u v) (hw:w∈cs) (k:aG u v w=0):w=u\/w=v:=by
 by_cases h1:w=u
 ·exact Or.inl h1
 ·by_cases h2:w=v
  ·exact Or.inr h2
  ·exact absurd k (Int.ne_of_gt (c.strict u v h w hw h1 h2))
theorem AG (u v:Pt):aZ (up3 u) (up3 v) (cJ L u v)=0:=by unfold cJ;rw[pN];unfold aZ;grind
theorem tV (c:Cvx cs) {u v u' v':Pt} (h:Cyc cs u v) (hc:Cyc cs u' v') (hx:cxc L u'*cxc L v'<0):(u'=u/\v'=v)\/0<aZ (up3 u) (up3 v) (cJ L u' v'):=by
 obtain⟨f1,f2⟩:=fO hx
 have m:=hc.mem
 have s1:0<=aG u v u':=c.side h m.1
 have s2:0<=aG u v v':=c.side h m.2
 unfold cJ
 rw[pN,pO,pO]
 rcases Int.lt_or_eq_of_le s1 with k1 | k1
 ·exact Or.inr (Int.add_pos_of_pos_of_nonneg (Int.mul_pos f1 k1) (Int.mul_nonneg (Int.le_of_lt f2) s2))
 ·rcases Int.lt_or_eq_of_le s2 with k2 | k2
  ·exact Or.inr (Int.add_pos_of_nonneg_of_pos (Int.mul_nonneg (Int.le_of_lt f1) s1) (Int.mul_pos f2 k2))
  ·have ne:=c.ne hc
   rcases HA c h m.1 k1.symm with rfl | rfl <;> rcases HA c h m.2 k2.symm with rfl | rfl
   ·exact absurd rfl ne
   ·exact Or.inl ⟨rfl,rfl⟩
   ·exact (yP c h hc).elim
   ·exact absurd rfl ne
theorem fW (c:Cvx cs) {u v:Pt} (h:Cyc cs u v) {r:H3} (hr:Pm L cs r) (n1:r≠up3 u) (n2:r≠up3 v) (n3:r≠cJ L u v\/¬cxc L u*cxc L v<0):0<aZ (up3 u) (up3 v) r:=by
 cases hr with
 | @corner w hw he =>
  rw[pO]
  exact c.strict u v h w hw (λe=>n1 (by rw[e])) λe=>n2 (by rw[e])
 | @cross u' v' hc hx =>
  exact (tV c h hc hx).resolve_left λk=>n3.elim (λn=>n (by rw[k.1,k.2])) λn=>n (k.1 ▸ k.2 ▸ hx)
noncomputable def Exit (L:CLine) (cs:List Pt) (p:H3):Prop:=∃u v,Cyc cs u v/\0<cxc L v/\((cxc L u<0/\p=cJ L u v)\/(cxc L u=0/\p=up3 u))
noncomputable def Entry (L:CLine) (cs:List Pt) (q:H3):Prop:=∃u v,Cyc cs u v/\0<cxc L u/\((cxc L v<0/\q=cJ L u v)\/(cxc L v=0/\q=up3 v))
theorem Exit.pm {p:H3} (h:Exit L cs p):Pm L cs p/\Exc L p=0:=by
 obtain⟨u,v,hc,hv,⟨hu,rfl⟩ | ⟨hu,rfl⟩⟩:=h
 ·have hx:=eV (Or.inl ⟨hu,hv⟩)
  exact⟨.cross hc hx,nR hx⟩
 ·exact⟨.corner hc.mem.1 (by omega),by rw[cZ];exact hu⟩
theorem Entry.pm {p:H3} (h:Entry L cs p):Pm L cs p/\Exc L p=0:=by
 obtain⟨u,v,hc,hv,⟨hu,rfl⟩ | ⟨hu,rfl⟩⟩:=h
 ·have hx:=eV (Or.inr ⟨hv,hu⟩)
  exact⟨.cross hc hx,nR hx⟩
 ·exact⟨.corner hc.mem.2 (by omega),by rw[cZ];exact hu⟩
theorem Pm.exc_le {r:H3} (h:Pm L cs r):Exc L r<=0:=by
 cases h with
 | corner hu he=>rw[cZ];exact he
 | cross hc hx=>rw[nR hx];exact Int.le_refl _
theorem pQ (c:Cvx cs) {p q:H3} {u v:Pt} (hc:Cyc cs u v) (hv:0<cxc L v) (hp:(cxc L u<0/\p=cJ L u v)\/(cxc L u=0/\p=up3 u)) (hq:Pm L cs q) (h0:Exc L q=0) (ne:q≠p):aZ (up3 v) p q<0:=by
 have s:0<aZ (up3 u) (up3 v) q:=by
  refine fW c hc hq ?_ ?_ ?_
  ·rintro rfl
   rw[cZ] at h0
   rcases hp with ⟨h,_⟩ | ⟨_,rfl⟩
   ·omega
   ·exact ne rfl
  ·rintro rfl
   rw[cZ] at h0;omega
  ·rcases hp with ⟨h,rfl⟩ | ⟨h,_⟩
   ·exact Or.inl ne
   ·right;rw[h];simp
 obtain⟨α,β,ha,rfl⟩:∃α β:Int,0<α/\p=jB α (up3 u) β (up3 v):=by
  rcases hp with ⟨h,rfl⟩ | ⟨h,rfl⟩
  ·exact⟨_,_,(fO (eV (Or.inl ⟨h,hv⟩))).1,rfl⟩
  ·refine⟨1,0,by decide,?_⟩
   simp[jB,up3]
 have e:aZ (up3 v) (jB α (up3 u) β (up3 v)) q = -(α*aZ (up3 u) (up3 v) q):=by unfold aZ jB;grind
 rw[e]
 have:=Int.mul_pos ha s
 omega
theorem AO (c:Cvx cs) {p p':H3} (h:Exit L cs p) (h':Exit L cs p'):p=p':=by
 apply Classical.byContradiction
 intro ne
 have z:=h.pm
 have z':=h'.pm
 obtain⟨u,v,hc,hv,hp⟩:=h
 obtain⟨u',v',hc',hv',hp'⟩:=h'
 have t1:=pQ c hc hv hp z'.1 z'.2 (Ne.symm ne)
 have t2:=pQ c hc' hv' hp' z.1 z.2 ne
 have f:=UU L (up3 v) p p' (up3 v')
 rw[z.2,z'.2,cZ,cZ] at f
 have e:aZ p p' (up3 v') = - aZ (up3 v') p' p:=by unfold aZ;grind
 have k1:cxc L v*aZ p p' (up3 v') > 0:=by rw[e];exact Int.mul_pos hv (by omega)
 have k2:cxc L v'*aZ (up3 v) p p'<0:=Int.mul_neg_of_pos_of_neg hv' t1
 omega
theorem tH (c:Cvx cs) {p q:H3} {u v:Pt} (hc:Cyc cs u v) (hu:0<cxc L u) (hp:(cxc L v<0/\p=cJ L u v)\/(cxc L v=0/\p=up3 v)) (hq:Pm L cs q) (h0:Exc L q=0) (ne:q≠p):0<aZ (up3 u) p q:=by
 have s:0<aZ (up3 u) (up3 v) q:=by
  refine fW c hc hq ?_ ?_ ?_
  ·rintro rfl
   rw[cZ] at h0;omega
  ·rintro rfl
   rw[cZ] at h0
   rcases hp with ⟨h,_⟩ | ⟨_,rfl⟩
   ·omega
   ·exact ne rfl
  ·rcases hp with ⟨h,rfl⟩ | ⟨h,_⟩
   ·exact Or.inl ne
   ·right;rw[h];simp
 obtain⟨α,β,hb,rfl⟩:∃α β:Int,0<β/\p=jB α (up3 u) β (up3 v):=by
  rcases hp with ⟨h,rfl⟩ | ⟨h,rfl⟩
  ·exact⟨_,_,(fO (eV (Or.inr ⟨hu,h⟩))).2,rfl⟩
  ·refine⟨0,1,by decide,?_⟩
   simp[jB,up3]
 have e:aZ (up3 u) (jB α (up3 u) β (up3 v)) q=β*aZ (up3 u) (up3 v) q:=by unfold aZ jB;grind
 rw[e]
 exact Int.mul_pos hb s
theorem wP (c:Cvx cs) {p p':H3} (h:Entry L cs p) (h':Entry L cs p'):p=p':=by
 apply Classical.byContradiction
 intro ne
 have z:=h.pm
 have z':=h'.pm
 obtain⟨u,v,hc,hv,hp⟩:=h
 obtain⟨u',v',hc',hv',hp'⟩:=h'
 have t1:=tH c hc hv hp z'.1 z'.2 (Ne.symm ne)
 have t2:=tH c hc' hv' hp' z.1 z.2 ne
 have f:=UU L (up3 u) p p' (up3 u')
 rw[z.2,z'.2,cZ,cZ] at f
 have e:aZ p p' (up3 u') = - aZ (up3 u') p' p:=by unfold aZ;grind
 have k1:cxc L u*aZ p p' (up3 u')<0:=by rw[e];exact Int.mul_neg_of_pos_of_neg hv (by omega)
 have k2:0<cxc L u'*aZ (up3 u) p p':=Int.mul_pos hv' t1
 omega
theorem pU (c:Cvx cs) {p q:H3} (hp:Exit L cs p) (hq:Entry L cs q) (ne:q≠p):∃k m:Int,0<k/\0<m/\∀r:H3,k*aZ p q r = -(m*Exc L r):=by
 have z:=hp.pm
 have z':=hq.pm
 obtain⟨u,v,hc,hv,h⟩:=hp
 have t:=pQ c hc hv h z'.1 z'.2 ne
 refine⟨cxc L v,-aZ (up3 v) p q,hv,by omega,λr=>?_⟩
 have f:=UU L (up3 v) p q r
 rw[z.2,z'.2,cZ] at f
 grind
theorem wT (c:Cvx cs) {t u v:Pt} (h1:Cyc cs t u) (h2:Cyc cs u v) (nt:t≠v) (e1:cxc L t<=cxc L u) (e2:cxc L v<=cxc L u):∀w∈cs,cxc L w<=cxc L u:=by
 intro w hw
 have D:0<aG t u v:=c.strict t u h1 v h2.mem.2 (Ne.symm nt) (Ne.symm (c.ne h2))
 have C:=c.side h1 hw
 have A:=c.side h2 hw
 have key:aG t u v*cxc L w=aG t u v*cxc L u-aG u v w*(cxc L u-cxc L t)-aG t u w*(cxc L u-cxc L v):=by
  unfold aG cxc;grind
 apply Int.not_lt.mp
 intro hn
 have k1:0<aG t u v*(cxc L w-cxc L u):=Int.mul_pos D (by omega)
 have k2:=Int.mul_nonneg A (show 0<=cxc L u-cxc L t by omega)
 have k3:=Int.mul_nonneg C (show 0<=cxc L u-cxc L v by omega)
 have e:aG t u v*(cxc L w-cxc L u)=aG t u v*cxc L w-aG t u v*cxc L u:=by grind
 omega
theorem wS (c:Cvx cs) {t u v:Pt} (h1:Cyc cs t u) (h2:Cyc cs u v) (nt:t≠v) (e1:cxc L u<=cxc L t) (e2:cxc L u<=cxc L v):∀w∈cs,cxc L u<=cxc L w:=by
 intro w hw
 have:=wT (L:=⟨-L.a,-L.b,-L.k⟩) c h1 h2 nt (by unfold cxc at *;dsimp only at *;grind) (by unfold cxc at *;dsimp only at *;grind) w hw
 unfold cxc at *
 dsimp only at *
 grind
end
end L2.R2
set_option Elab.async false
set_option linter.all false
namespace L2.R2
section
variable {L:CLine} {cs:List Pt}
theorem sZ (c:Cvx cs) {u:Pt} (hu:u∈cs):∃t v,Cyc cs t u/\Cyc cs u v/\t≠v:=by
 obtain⟨X,Y,rfl⟩:=List.append_of_mem hu
 have c2:Cvx ((u::Y)++X):=c.swap
 have len:=c2.len
 have nd:=c2.nodup
 have bk:∀{a b},Cyc ((u::Y)++X) a b->Cyc (X++u::Y) a b:=λh=>oD h
 rw[List.cons_append] at len nd bk
 generalize Y++X=Z at len nd bk
 obtain⟨v,Z1,hv⟩:∃v Z1,Z=v::Z1:=by
  cases Z with
  | nil=>simp at len
  | cons v Z1=>exact⟨v,Z1,rfl⟩
 obtain⟨t,Z2,ht⟩:∃t Z2,Z=Z2++[t]:=by
  rcases List.eq_nil_or_concat Z with h | ⟨Z2,t,h⟩
  ·rw[h] at len;simp at len
  ·exact⟨t,Z2,by simpa using h⟩
 refine⟨t,v,bk ⟨u::Z2,[],by rw[ht];simp⟩,bk ⟨[],Z1++[u],by rw[hv];simp⟩,?_⟩
 rintro rfl
 have nd':=(List.nodup_cons.mp nd).2
 rw[hv] at nd'
 cases Z1 with
 | nil=>rw[hv] at len;simp at len
 | cons x Z1 =>
  have:t∈x::Z1:=by
   have e:t::x::Z1=Z2++[t]:=by rw[<-hv,ht]
   cases Z2 with
   | nil=>simp at e
   | cons y Z2 =>
    simp at e
    rw[e.2];simp
  exact (List.nodup_cons.mp nd').1 this
theorem xH (c:Cvx cs) (hpos:∃w∈cs,0<cxc L w) {r:H3} (hr:Pm L cs r) (h0:Exc L r=0):Exit L cs r\/Entry L cs r:=by
 cases hr with
 | @corner u hu he =>
  rw[cZ] at h0
  obtain⟨t,v,h1,h2,ne⟩:=sZ c hu
  by_cases hv:0<cxc L v
  ·exact Or.inl ⟨u,v,h2,hv,Or.inr ⟨h0,rfl⟩⟩
  ·by_cases ht:0<cxc L t
   ·exact Or.inr ⟨t,u,h1,ht,Or.inr ⟨h0,rfl⟩⟩
   ·exfalso
    obtain⟨w,hw,hwp⟩:=hpos
    have:=wT (L:=L) c h1 h2 ne (h0 ▸ Int.not_lt.mp ht) (h0 ▸ Int.not_lt.mp hv) w hw
    rw[h0] at this
    exact absurd this (Int.not_le.mpr hwp)
 | @cross u v hc hx =>
  rcases opp hx with ⟨h1,h2⟩ | ⟨h1,h2⟩
  ·exact Or.inl ⟨u,v,hc,h2,Or.inl ⟨h1,rfl⟩⟩
  ·exact Or.inr ⟨u,v,hc,h1,Or.inl ⟨h2,rfl⟩⟩
theorem fN (c:Cvx cs) (hneg:∃w∈cs,cxc L w<0) {p q:H3} (hp:Exit L cs p) (hq:Entry L cs q):q≠p:=by
 rintro rfl
 obtain⟨u,v,hc,hv,h⟩:=hp
 obtain⟨u',v',hc',hu',h'⟩:=hq
 rcases h with ⟨h,rfl⟩ | ⟨h,rfl⟩ <;> rcases h' with ⟨h',e⟩ | ⟨h',e⟩
 ·rcases tV c hc hc' (eV (Or.inr ⟨hu',h'⟩)) with ⟨rfl,_⟩ | k
  ·exact Int.lt_asymm h hu'
  ·rw[<-e,AG] at k
   exact Int.lt_irrefl _ k
 ·have:=nP (eV (Or.inl ⟨h,hv⟩));rw[e] at this;simp at this
 ·have:=nP (eV (Or.inr ⟨hu',h'⟩));rw[<-e] at this;simp at this
 ·have euv:u=v':=by
   simp only[up3,Prod.mk.injEq] at e
   exact Prod.ext e.1 e.2.1
  subst euv
  obtain⟨w,hw,hwn⟩:=hneg
  have ne:u'≠v:=λe=>yP c hc (e ▸ hc')
  have:=wS (L:=L) c hc' hc ne (by omega) (by omega) w hw
  omega
inductive Adj (L:CLine) (cs:List Pt):H3->H3->Prop
 | full {u v:Pt} (h:Cyc cs u v) (h1:cxc L u<=0) (h2:cxc L v<=0):Adj L cs (up3 u) (up3 v)
 | out {u v:Pt} (h:Cyc cs u v) (h1:cxc L u<0) (h2:0<cxc L v):Adj L cs (up3 u) (cJ L u v)
 | inn {u v:Pt} (h:Cyc cs u v) (h1:0<cxc L u) (h2:cxc L v<0):Adj L cs (cJ L u v) (up3 v)
 | line {p q:H3} (hp:Exit L cs p) (hq:Entry L cs q):Adj L cs p q
noncomputable def StC (L:CLine) (cs:List Pt) (l:H3) (u w:Pt):Prop:=Cyc cs u w/\((cxc L w<0/\((cxc L u<=0/\l=up3 u)\/(0<cxc L u/\l=cJ L u w)))\/(cxc L w=0/\((cxc L u<=0/\l=up3 u)\/(0<cxc L u/\Exit L cs l)))\/(0<cxc L w/\Exit L cs l))
noncomputable def Run {α:Type} (R:α->α->Prop):α->List α->Prop
 | _,[]=>True
 | a,b::r=>R a b/\Run R b r
noncomputable def cO {α:Type} (a:α):List α->α
 | []=>a
 | b::r=>cO b r
theorem uM {α:Type} {R:α->α->Prop}:∀(a:α) (X Y:List α),Run R a X->Run R (cO a X) Y->Run R a (X++Y)
 | _,[],_,_,h=>h
 | _,b::X,Y,⟨h1,h2⟩,h=>⟨h1,uM b X Y h2 h⟩
theorem mK {α:Type}:∀(a:α) (X Y:List α),cO a (X++Y)=cO (cO a X) Y
 | _,[],_=>rfl
 | _,b::X,Y=>mK b X Y
theorem uA:∀(W:List Pt) (l:H3) (u w:Pt),StC L cs l u w->Run (Cyc cs) w W->Run (Adj L cs) l (Pl L (w::W))/\(∀v,W≠[]->cO w W=v->∃t,(cO u (w::W.dropLast)=t)/\StC L cs (cO l (Pl L (w::W))) t v)
 | [],l,u,w,_,_=>⟨trivial,λv h=>absurd rfl h⟩
 | v::W,l,u,w,⟨hc,hs⟩,⟨hv,hr⟩=>by
  have step:Run (Adj L cs) l (blk L w v)/\StC L cs (cO l (blk L w v)) w v:=by
   by_cases hw:cxc L w<=0
   ·have first:Adj L cs l (up3 w):=by
     rcases hs with ⟨h0,⟨h1,rfl⟩ | ⟨h1,rfl⟩⟩ | ⟨h0,⟨h1,rfl⟩ | ⟨h1,h2⟩⟩ | ⟨h0,_⟩
     ·exact .full hc h1 hw
     ·exact .inn hc h1 h0
     ·exact .full hc h1 hw
     ·exact .line h2 ⟨u,w,hc,h1,Or.inr ⟨h0,rfl⟩⟩
     ·exact absurd hw (Int.not_le.mpr h0)
    by_cases hx:cxc L w*cxc L v<0
    ·have e:blk L w v=[up3 w,cJ L w v]:=by unfold blk;rw[if_pos hw,if_pos hx];rfl
     rw[e]
     rcases opp hx with ⟨h1,h2⟩ | ⟨h1,h2⟩
     ·exact⟨⟨first,.out hv h1 h2,trivial⟩,hv,Or.inr (Or.inr ⟨h2,w,v,hv,h2,Or.inl ⟨h1,rfl⟩⟩)⟩
     ·exact absurd hw (Int.not_le.mpr h1)
    ·have e:blk L w v=[up3 w]:=by unfold blk;rw[if_pos hw,if_neg hx];rfl
     rw[e]
     refine⟨⟨first,trivial⟩,hv,?_⟩
     show (cxc L v<0/\((cxc L w<=0/\up3 w=up3 w)\/_))\/_
     rcases Int.lt_trichotomy (cxc L v) 0 with k | k | k
     ·exact Or.inl ⟨k,Or.inl ⟨hw,rfl⟩⟩
     ·exact Or.inr (Or.inl ⟨k,Or.inl ⟨hw,rfl⟩⟩)
     ·have w0:cxc L w=0:=by
       rcases Int.lt_or_eq_of_le hw with h | h
       ·exact absurd (eV (Or.inl ⟨h,k⟩)) hx
       ·exact h
      exact Or.inr (Or.inr ⟨k,w,v,hv,k,Or.inr ⟨w0,rfl⟩⟩)
   ·have ex:Exit L cs l:=by
     rcases hs with ⟨h0,_⟩ | ⟨h0,_⟩ | ⟨_,h⟩
     ·exact absurd (Int.le_of_lt h0) hw
     ·exact absurd (Int.le_of_eq h0) hw
     ·exact h
    by_cases hx:cxc L w*cxc L v<0
    ·have e:blk L w v=[cJ L w v]:=by unfold blk;rw[if_neg hw,if_pos hx];rfl
     rw[e]
     rcases opp hx with ⟨h1,h2⟩ | ⟨h1,h2⟩
     ·exact absurd (Int.le_of_lt h1) hw
     ·exact⟨⟨.line ex ⟨w,v,hv,h1,Or.inl ⟨h2,rfl⟩⟩,trivial⟩,hv,Or.inl ⟨h2,Or.inr ⟨h1,rfl⟩⟩⟩
    ·have e:blk L w v=[]:=by unfold blk;rw[if_neg hw,if_neg hx];rfl
     rw[e]
     refine⟨trivial,hv,?_⟩
     rcases Int.lt_trichotomy (cxc L v) 0 with k | k | k
     ·exact absurd (eV (Or.inr ⟨Int.not_le.mp hw,k⟩)) hx
     ·exact Or.inr (Or.inl ⟨k,Or.inr ⟨Int.not_le.mp hw,ex⟩⟩)
     ·exact Or.inr (Or.inr ⟨k,ex⟩)
  have e:Pl L (w::v::W)=blk L w v++Pl L (v::W):=rfl
  obtain⟨i1,i2⟩:=uA W (cO l (blk L w v)) w v step.2 hr
  refine⟨by rw[e];exact uM _ _ _ step.1 i1,λx _ hx=>?_⟩
  rw[e,mK]
  cases W with
  | nil =>
   have:x=v:=hx.symm
   subst this
   exact⟨w,rfl,step.2⟩
  | cons y W =>
   obtain⟨t,ht,hst⟩:=i2 x (by simp) hx
   exact⟨t,ht,hst⟩
end
end L2.R2
set_option Elab.async false
set_option linter.all false
namespace L2.R2
section
variable {L:CLine} {cs:List Pt}
theorem xL (L:CLine):∀(A:List Pt) (x:Pt) (B:List Pt),Pl L (A++x::B)=Pl L (A++[x])++Pl L (x::B)
 | [],x,B=>by simp[Pl]
 | [a],x,B=>by simp[Pl]
 | a::b::A,x,B=>by
  have ih:=xL L (b::A) x B
  simp only[List.cons_append] at ih ⊢
  rw[Pl,ih,Pl,List.append_assoc]
theorem OM {R:Pt->Pt->Prop}:∀(x:Pt) (l:List Pt),(∀a b,Nxt (x::l) a b->R a b)->Run R x l
 | _,[],_=>trivial
 | x,y::l,h=>⟨h x y ⟨[],l,rfl⟩,OM y l λa b hn=>h a b (hn.cons x)⟩
theorem dJ {α:Type}:∀(a:α) (X:List α) (b:α),cO a (X++[b])=b
 | _,[],_=>rfl
 | _,x::X,b=>dJ x X b
noncomputable def mZ (l:List H3) (p q:H3):Prop:=∃a b,l=a++p::q::b
theorem HM {R:H3->H3->Prop}:∀(a:H3) (l:List H3),Run R a l->∀p q,mZ (a::l) p q->R p q
 | a,[],_,p,q,⟨x,y,e⟩=>by
  have:=congrArg List.length e
  simp at this;omega
 | a,b::l,⟨h1,h2⟩,p,q,⟨x,y,e⟩=>by
  cases x with
  | nil=>simp at e;obtain⟨rfl,rfl,_⟩:=e;exact h1
  | cons z x=>simp at e;exact HM b l h2 p q ⟨x,y,by simpa using e.2⟩
theorem LA {c0:Pt}:∀(W:List Pt) (x:Pt),Run (Cyc cs) x W->∀r∈Pl L (x::W),Pm L cs r
 | [],x,_,r,hr=>by simp[Pl] at hr
 | y::W,x,⟨h1,h2⟩,r,hr=>by
  rw[Pl] at hr
  rcases List.mem_append.mp hr with h | h
  ·unfold blk at h
   rcases List.mem_append.mp h with h | h
   ·split at h
    ·rename_i he
     simp at h;subst h
     exact .corner h1.mem.1 he
    ·simp at h
   ·split at h
    ·rename_i he
     simp at h;subst h
     exact .cross h1 he
    ·simp at h
  ·exact LA (c0:=c0) W y h2 r h
theorem zJ (c:Cvx cs):∀(W:List Pt) (x:Pt),Run (Cyc cs) x W->(x::W).dropLast.Nodup->(Pl L (x::W)).Nodup/\∀r∈Pl L (x::W),(∃u∈(x::W).dropLast,r=up3 u)\/(∃u v,u∈(x::W).dropLast/\Cyc cs u v/\cxc L u*cxc L v<0/\r=cJ L u v)
 | [],x,_,_=>by simp[Pl]
 | y::W,x,⟨h1,h2⟩,hn=>by
  have ed:(x::y::W).dropLast=x::(y::W).dropLast:=rfl
  rw[ed] at hn ⊢
  obtain⟨n1,n2⟩:=List.nodup_cons.mp hn
  obtain⟨i1,i2⟩:=zJ c W y h2 n2
  have mb:∀r∈blk L x y,r=up3 x\/(cxc L x*cxc L y<0/\r=cJ L x y):=by
   intro r hr
   unfold blk at hr
   rcases List.mem_append.mp hr with h | h
   ·split at h
    ·simp at h;exact Or.inl h
    ·simp at h
   ·split at h
    ·rename_i hx;simp at h;exact Or.inr ⟨hx,h⟩
    ·simp at h
  refine⟨?_,?_⟩
  ·rw[Pl,List.nodup_append]
   refine⟨?_,i1,?_⟩
   ·unfold blk
    by_cases ha:cxc L x<=0 <;> by_cases hb:cxc L x*cxc L y<0
    ·rw[if_pos ha,if_pos hb]
     simp
     intro e
     have:=nP hb
     rw[<-e] at this;simp at this
    all_goals simp[ha,hb]
   ·intro a ha b hb e
    subst e
    rcases mb a ha with rfl | ⟨hx,rfl⟩ <;> rcases i2 _ hb with ⟨u,hu,e⟩ | ⟨u,v,hu,hc,hx',e⟩
    ·have:x=u:=by simp only[up3,Prod.mk.injEq] at e;exact Prod.ext e.1 e.2.1
     subst this;exact n1 hu
    ·have:=nP hx';rw[<-e] at this;simp at this
    ·have:=nP hx;rw[e] at this;simp at this
    ·have nu:u≠x:=λe=>n1 (e ▸ hu)
     have z1:=AG (L:=L) x y
     rw[e] at z1
     exact (tV c h1 hc hx').elim (λk=>nu k.1) λk=>Int.lt_irrefl 0 (z1 ▸ k)
  ·intro r hr
   rw[Pl] at hr
   rcases List.mem_append.mp hr with h | h
   ·rcases mb r h with rfl | ⟨hx,rfl⟩
    ·exact Or.inl ⟨x,by simp,rfl⟩
    ·exact Or.inr ⟨x,y,by simp,h1,hx,rfl⟩
   ·rcases i2 r h with ⟨u,hu,e⟩ | ⟨u,v,hu,hc,hx',e⟩
    ·exact Or.inl ⟨u,by simp[hu],e⟩
    ·exact Or.inr ⟨u,v,by simp[hu],hc,hx',e⟩
theorem yB (u v:Pt) (r:H3):aZ (up3 u) (cJ L u v) r=((cxc L u).natAbs:Int)*aZ (up3 u) (up3 v) r:=by unfold cJ aZ jB;grind
theorem yA (u v:Pt) (r:H3):aZ (cJ L u v) (up3 v) r=((cxc L v).natAbs:Int)*aZ (up3 u) (up3 v) r:=by unfold cJ aZ jB;grind
theorem nA (c:Cvx cs) (hpos:∃w∈cs,0<cxc L w) (hneg:∃w∈cs,cxc L w<0) {p q r:H3} (h:Adj L cs p q) (hr:Pm L cs r) (n1:r≠p) (n2:r≠q):0<aZ p q r:=by
 cases h with
 | @full u v hc h1 h2 =>
  refine fW c hc hr n1 n2 (Or.inr λhx=>?_)
  exact (opp hx).elim (λh=>Int.not_le.mpr h.2 h2) λh=>Int.not_le.mpr h.1 h1
 | @out u v hc h1 h2 =>
  have hx:=eV (Or.inl ⟨h1,h2⟩)
  have nv:r≠up3 v:=by rintro rfl;have:=hr.exc_le;rw[cZ] at this;first | exact Int.not_le.mpr h1 this | exact Int.not_le.mpr h2 this
  have s:=fW c hc hr n1 nv (Or.inl n2)
  rw[yB];exact Int.mul_pos (fO hx).2 s
 | @inn u v hc h1 h2 =>
  have hx:=eV (Or.inr ⟨h1,h2⟩)
  have nu:r≠up3 u:=by rintro rfl;have:=hr.exc_le;rw[cZ] at this;first | exact Int.not_le.mpr h1 this | exact Int.not_le.mpr h2 this
  have s:=fW c hc hr nu n2 (Or.inl n1)
  rw[yA];exact Int.mul_pos (fO hx).1 s
 | line hp hq =>
  obtain⟨k,m,k0,m0,f⟩:=pU c hp hq (fN c hneg hp hq)
  have le:=hr.exc_le
  have lt:Exc L r<0:=by
   rcases Int.lt_or_eq_of_le le with h | h
   ·exact h
   ·exfalso
    rcases xH c hpos hr h with h' | h'
    ·exact n1 (AO c h' hp)
    ·exact n2 (wP c h' hq)
  have e:=f r
  have:0<k*aZ p q r:=by rw[e];exact Int.neg_pos_of_neg (Int.mul_neg_of_pos_of_neg m0 lt)
  exact Int.pos_of_mul_pos_left (by rw[Int.mul_comm];exact this) k0
theorem LC (c:Cvx cs) (hneg:∃w∈cs,cxc L w<0) {p q r:H3} (h:Adj L cs p q) (hr:∀u v,Cyc cs u v->0<=aZ (up3 u) (up3 v) r) (he:Exc L r<=0):0<=aZ p q r:=by
 cases h with
 | @full u v hc h1 h2=>exact hr u v hc
 | @out u v hc h1 h2 =>
  rw[yB];exact Int.mul_nonneg (Int.natCast_nonneg _) (hr u v hc)
 | @inn u v hc h1 h2 =>
  rw[yA];exact Int.mul_nonneg (Int.natCast_nonneg _) (hr u v hc)
 | line hp hq =>
  obtain⟨k,m,k0,m0,f⟩:=pU c hp hq (fN c hneg hp hq)
  have e:=f r
  refine Int.not_lt.mp λhn=>Int.not_le.mpr (Int.mul_neg_of_pos_of_neg k0 hn) ?_
  rw[e]
  exact Int.neg_nonneg_of_nonpos (Int.mul_nonpos_of_nonneg_of_nonpos (Int.le_of_lt m0) he)
theorem CZ (c:Cvx cs) (hneg:∃w∈cs,cxc L w<0) {p q r:H3} (h:Adj L cs p q) (hr:∀u v,Cyc cs u v->0<aZ (up3 u) (up3 v) r) (he:Exc L r<0):0<aZ p q r:=by
 cases h with
 | @full u v hc h1 h2=>exact hr u v hc
 | @out u v hc h1 h2 =>
  rw[yB];exact Int.mul_pos (fO (eV (Or.inl ⟨h1,h2⟩))).2 (hr u v hc)
 | @inn u v hc h1 h2 =>
  rw[yA];exact Int.mul_pos (fO (eV (Or.inr ⟨h1,h2⟩))).1 (hr u v hc)
 | line hp hq =>
  obtain⟨k,m,k0,m0,f⟩:=pU c hp hq (fN c hneg hp hq)
  have e:=f r
  have:0<k*aZ p q r:=by rw[e];exact Int.neg_pos_of_neg (Int.mul_neg_of_pos_of_neg m0 he)
  exact Int.pos_of_mul_pos_left (by rw[Int.mul_comm];exact this) k0
theorem RP (c:Cvx cs) {r:H3} (hr:Pm L cs r) {u v:Pt} (h:Cyc cs u v):0<=aZ (up3 u) (up3 v) r:=by
 cases hr with
 | corner hw _=>rw[pO];exact c.side h hw
 | cross hc hx =>
  unfold cJ
  rw[pN,pO,pO]
  obtain⟨f1,f2⟩:=fO hx
  exact Int.add_nonneg (Int.mul_nonneg (Int.le_of_lt f1) (c.side h hc.mem.1)) (Int.mul_nonneg (Int.le_of_lt f2) (c.side h hc.mem.2))
end
end L2.R2
set_option Elab.async false
set_option linter.all false
namespace L2.R2
section
variable {L:CLine} {cs:List Pt}
theorem JQ {l:H3} {X Y:List H3} {p q:H3} (h:mZ (cO l X::Y) p q):mZ (l::(X++Y)) p q:=by
 induction X generalizing l with
 | nil=>exact h
 | cons x X ih =>
  obtain⟨a,b,e⟩:=ih (l:=x) h
  exact⟨l::a,b,by simp at e ⊢;exact e⟩
theorem sW {l:H3} {u w v:Pt} (hs:StC L cs l u w) (hv:Cyc cs w v):StC L cs (cO l (blk L w v)) w v:=by
 obtain⟨h1,h2⟩:=uA [v] l u w hs ⟨hv,trivial⟩
 obtain⟨t,ht,hst⟩:=h2 v (by simp) rfl
 have e:Pl L [w,v]=blk L w v:=by simp[Pl]
 have ht':t=w:=ht.symm
 rw[e,ht'] at hst
 exact hst
theorem lG {c0:Pt} (hc0:cxc L c0<0):∀(W:List Pt) (l:H3) (u w:Pt),StC L cs l u w->Run (Cyc cs) w W->0<cxc L w->cO w W=c0->∃p q,Exit L cs p/\Entry L cs q/\mZ (l::Pl L (w::W)) p q
 | [],l,u,w,hs,_,hw,e=>by
  exact absurd hw (Int.lt_asymm (show cxc L w<0 from (show w=c0 from e) ▸ hc0))
 | v::W,l,u,w,hs,⟨hv,hr⟩,hw,e=>by
  have ex:Exit L cs l:=by
   rcases hs.2 with ⟨h0,_⟩ | ⟨h0,_⟩ | ⟨_,h⟩
   ·exact absurd hw (Int.lt_asymm h0)
   ·exact absurd h0 (Int.ne_of_gt hw)
   ·exact h
  have st:=sW hs hv
  have eP:Pl L (w::v::W)=blk L w v++Pl L (v::W):=rfl
  rcases Int.lt_trichotomy (cxc L v) 0 with k | k | k
  ·have hx:=eV (Or.inr ⟨hw,k⟩)
   have eb:blk L w v=[cJ L w v]:=by unfold blk;rw[if_neg (Int.not_le.mpr hw),if_pos hx];rfl
   refine⟨l,cJ L w v,ex,⟨w,v,hv,hw,Or.inl ⟨k,rfl⟩⟩,[],Pl L (v::W),?_⟩
   rw[eP,eb];rfl
  ·have eb:blk L w v=[]:=by unfold blk;rw[if_neg (Int.not_le.mpr hw),k];simp
   cases W with
   | nil=>exact absurd k (Int.ne_of_lt (show cxc L v<0 from (show v=c0 from e) ▸ hc0))
   | cons y W =>
    refine⟨l,up3 v,ex,⟨w,v,hv,hw,Or.inr ⟨k,rfl⟩⟩,[],(if cxc L v*cxc L y<0 then [cJ L v y] else [])++Pl L (y::W),?_⟩
    rw[eP,eb,Pl]
    unfold blk
    rw[if_pos (Int.le_of_eq k)]
    simp
  ·have eb:blk L w v=[]:=by
    unfold blk
    have:¬cxc L w*cxc L v<0:=λh=>(opp h).elim (λh=>Int.lt_asymm h.1 hw) λh=>Int.lt_asymm h.2 k
    rw[if_neg (Int.not_le.mpr hw),if_neg this];rfl
   rw[eb] at st
   obtain⟨p,q,hp,hq,hn⟩:=lG hc0 W l w v st hr k e
   exact⟨p,q,hp,hq,by rw[eP,eb];exact hn⟩
theorem EN {c0:Pt} (hc0:cxc L c0<0) (W:List Pt):∀(l:H3) (u w:Pt),StC L cs l u w->Run (Cyc cs) w W->(∃x∈w::W,0<cxc L x)->cO w W=c0->∃p q,Exit L cs p/\Entry L cs q/\mZ (l::Pl L (w::W)) p q:=by
 induction W with
 | nil =>
  intro l u w hs hr hx e
  obtain⟨x,hx,hp⟩:=hx
  rw[List.mem_singleton.mp hx] at hp
  exact lG hc0 [] l u w hs hr hp e
 | cons v W ih =>
  intro l u w hs hr hx e
  by_cases hw:0<cxc L w
  ·exact lG hc0 _ l u w hs hr hw e
  ·obtain⟨x,hx,hp⟩:=hx
   obtain⟨p,q,h1,h2,h3⟩:=ih _ _ _ (sW hs hr.1) hr.2 ⟨x,(List.mem_cons.mp hx).resolve_left λe=>hw (e ▸ hp),hp⟩ e
   exact⟨p,q,h1,h2,JQ h3⟩
theorem JR {P P2 P3:List H3} {h l a b:H3} (e1:P=h::P2) (e2:P=P3++[l]) (hn:mZ (l::P) a b):mZ (P++P.take 1) a b:=by
 have t1:P.take 1=[h]:=by rw[e1];rfl
 rw[t1]
 obtain⟨x,y,e⟩:=hn
 cases x with
 | nil =>
  have e':l::P=a::b::y:=e
  rw[e1] at e'
  injection e' with k1 k2
  injection k2 with k2 _
  rw[<-k1,<-k2,e2,List.append_assoc]
  exact⟨P3,[],rfl⟩
 | cons z x =>
  injection e with _ e
  exact⟨x,y++[h],by rw[show P=x++a::b::y from e,List.append_assoc];rfl⟩
theorem NQ {P P2 P3:List H3} {h l a b:H3} (e1:P=h::P2) (e2:P=P3++[l]) (hn:mZ (P++P.take 1) a b):mZ (l::P) a b:=by
 have t1:P.take 1=[h]:=by rw[e1];rfl
 rw[t1] at hn
 obtain⟨x,y,e⟩:=hn
 rcases List.eq_nil_or_concat y with rfl | ⟨y',w,rfl⟩
 ·have e':P++[h]=(x++[a])++[b]:=by rw[e,List.append_assoc];rfl
  have k1:=List.append_inj_left' e' rfl
  have k2:=List.append_inj_right' (e2.symm.trans k1) rfl
  injection k2 with k2 _
  have k3:=List.append_inj_right' e' rfl
  injection k3 with k3 _
  rw[e1,k2,k3]
  exact⟨[],P2,rfl⟩
 ·have e':P++[h]=(x++a::b::y')++[w]:=by rw[e,List.append_assoc];simp only[List.concat_eq_append];rfl
  exact⟨l::x,y',by rw[List.append_inj_left' e' rfl];rfl⟩
theorem QU {P P2:List H3} {h a b:H3} (e1:P=h::P2) (hn:mZ (P++P.take 1) a b):a∈P/\b∈P:=by
 have t1:P.take 1=[h]:=by rw[e1];rfl
 have k:∀x∈P++P.take 1,x∈P:=λx hx=>(List.mem_append.mp hx).elim id λh=>List.mem_of_mem_take h
 obtain⟨x,y,e⟩:=hn
 have m:∀z,z∈a::b::y->z∈P:=λz hz=>k z (e ▸ List.mem_append_right x hz)
 exact⟨m _ (.head _),m _ (.tail _ (.head _))⟩
noncomputable def ZM (A B:List H3):Prop:=∃X Y,A=X++Y/\B=Y++X
structure CutOf (L:CLine) (cs:List Pt) (P:List H3):Prop where
 nodup:P.Nodup
 pm:∀r∈P,Pm L cs r
 adj:∀p q,mZ (P++P.take 1) p q->Adj L cs p q
 len:3<=P.length
 line:∃p q,Exit L cs p/\Entry L cs q/\mZ (P++P.take 1) p q
noncomputable def pth {α:Type} (f:α->α->Int):α->List α->Int
 | _,[]=>0
 | a,b::l=>f a b+pth f b l
theorem gY {α:Type} (f:α->α->Int):∀(a:α) (X Y:List α),pth f a (X++Y)=pth f a X+pth f (cO a X) Y
 | a,[],Y=>by simp[pth,cO]
 | a,b::X,Y=>by
  show f a b+pth f b (X++Y)=f a b+pth f b X+pth f (cO b X) Y
  rw[gY f b X Y];omega
noncomputable def kZ {α:Type} (f:α->α->Int):List α->Int
 | []=>0
 | z::T=>pth f z (T++[z])
theorem wR {α:Type}:∀(h:α) (T X:List α) (l:α),h::T=X++[l]->cO h T=l
 | h,[],X,l,e=>by
  cases X with
  | nil=>simp at e;exact e
  | cons x X=>simp at e
 | h,y::T,X,l,e=>by
  cases X with
  | nil=>simp at e
  | cons x X=>simp at e;exact wR y T X l (by simpa using e.2)
theorem IQ {α:Type} (f:α->α->Int) {P X:List α} {l:α} (e:P=X++[l]):pth f l P=kZ f P:=by
 cases P with
 | nil=>simp at e
 | cons h P2 =>
  show f l h+pth f h P2=pth f h (P2++[h])
  rw[gY,wR h P2 X l e]
  simp only[pth];omega
theorem AC {α:Type} (f:α->α->Int) (X Y:List α):kZ f (X++Y)=kZ f (Y++X):=by
 cases X with
 | nil=>simp
 | cons x X =>
  cases Y with
  | nil=>simp
  | cons y Y =>
   show pth f x ((X++y::Y)++[x])=pth f y ((Y++x::X)++[y])
   rw[show (X++y::Y)++[x]=(X++[y])++(Y++[x]) by simp,show (Y++x::X)++[y]=(Y++[x])++(X++[y]) by simp,gY,gY f y,dJ,dJ]
   omega
noncomputable def dl (d:Pt->Pt->Int):Pt->Pt->List Pt->Int
 | u,w,[]=>d u w
 | _,w,v::W=>dl d w v W
theorem GK (d:Pt->Pt->Int):∀(A:List Pt) (u w x y:Pt),dl d u w (A++[x,y])=d x y
 | [],_,_,_,_=>rfl
 | a::A,u,w,x,y=>GK d A w a x y
theorem BR {f:H3->H3->Int} {d e:Pt->Pt->Int} (hf:∀l u w v,StC L cs l u w->Cyc cs w v->pth f l (blk L w v)=d u w+e w v):∀(W:List Pt) (l:H3) (u w:Pt),StC L cs l u w->Run (Cyc cs) w W->pth f l (Pl L (w::W))+dl d u w W=d u w+pth (λa b=>d a b+e a b) w W
 | [],l,u,w,hs,_=>by simp[Pl,pth,dl]
 | v::W,l,u,w,hs,hr=>by
  have ih:=BR hf W (cO l (blk L w v)) w v (sW hs hr.1) hr.2
  show pth f l (blk L w v++Pl L (v::W))+dl d w v W=d u w+((d w v+e w v)+pth (λa b=>d a b+e a b) v W)
  rw[gY,hf l u w v hs hr.1]
  omega
theorem WY {u0 c0:Pt} (cu0:Cyc cs u0 c0) (hc0:cxc L c0<0):∃l0,StC L cs l0 u0 c0/\∀l,StC L cs l u0 c0->l=l0:=by
 have first {l:H3} (hl:StC L cs l u0 c0):=hl.2.resolve_right λh=>h.elim (λk=>absurd k.1 (Int.ne_of_lt hc0)) λk=>Int.lt_asymm k.1 hc0
 by_cases h:cxc L u0<=0
 ·exact⟨up3 u0,⟨cu0,Or.inl ⟨hc0,Or.inl ⟨h,rfl⟩⟩⟩,λl hl=>(first hl).2.elim (·.2) λk=>absurd h (Int.not_le.mpr k.1)⟩
 ·exact⟨cJ L u0 c0,⟨cu0,Or.inl ⟨hc0,Or.inr ⟨Int.not_le.mp h,rfl⟩⟩⟩,λl hl=>(first hl).2.elim (λk=>absurd k.1 h) (·.2)⟩
theorem KZ {c0:Pt} (hc0:cxc L c0<0) (Z:List Pt):up3 c0∈Pl L (c0::(Z++[c0])):=by
 cases hz:Z++[c0] with
 | nil=>simp at hz
 | cons y r=>rw[Pl];unfold blk;rw[if_pos (Int.le_of_lt hc0)];exact .head _
theorem AA (c:Cvx cs) (hpos:∃w∈cs,0<cxc L w) (hneg:∃w∈cs,cxc L w<0):∃P',ZM (Pl L (cs++cs.take 1)) P'/\CutOf L cs P'/\∀(f:H3->H3->Int) (d e:Pt->Pt->Int),(∀l u w v,StC L cs l u w->Cyc cs w v->pth f l (blk L w v)=d u w+e w v)->kZ f P'=kZ (λa b=>d a b+e a b) cs:=by
 obtain⟨c0,hc0m,hc0⟩:=hneg
 have hneg:∃w∈cs,cxc L w<0:=⟨c0,hc0m,hc0⟩
 obtain⟨X,Y,ecs⟩:=List.append_of_mem hc0m
 have c2:Cvx ((c0::Y)++X):=by rw[ecs] at c;exact c.swap
 have toC:∀{a b},Cyc ((c0::Y)++X) a b->Cyc cs a b:=λh=>by rw[ecs];exact oD h
 rw[List.cons_append] at c2 toC
 obtain⟨Z,hZ⟩:∃Z,Z=Y++X:=⟨_,rfl⟩
 rw[<-hZ] at c2 toC
 have runs:Run (Cyc cs) c0 (Z++[c0]):=OM _ _ λa b h=>toC (by show Nxt ((c0::Z)++[c0]) a b;exact h)
 obtain⟨u0,Z2,eZ⟩:∃t Z2,Z=Z2++[t]:=by
  rcases List.eq_nil_or_concat Z with h | ⟨Z2,t,h⟩
  ·have:=c2.len;rw[h] at this;simp at this
  ·exact⟨t,Z2,by simpa using h⟩
 have cu0:Cyc cs u0 c0:=toC ⟨c0::Z2,[],by rw[eZ];simp⟩
 obtain⟨l0,hl0⟩:=WY cu0 hc0
 obtain⟨hst,huniq⟩:=hl0
 obtain⟨r1,r2⟩:=uA (Z++[c0]) l0 u0 c0 hst runs
 obtain⟨t,ht,hst'⟩:=r2 c0 (by simp) (dJ _ _ _)
 rw[<-ht,List.dropLast_concat,eZ,show cO u0 (c0::(Z2++[u0]))=u0 from dJ _ (c0::Z2) _,<-eZ] at hst'
 have el:=huniq _ hst'
 have top:=KZ (L:=L) hc0 Z
 have ePz:Pl L (c0::(Z++[c0]))≠[]:=λe=>by rw[e] at top;cases top
 have mem:=LA (L:=L) (c0:=c0) (Z++[c0]) c0 runs
 have nd:=(zJ (L:=L) c (Z++[c0]) c0 runs (by
  show (c0::(Z++[c0])).dropLast.Nodup
  rw[<-List.cons_append,List.dropLast_concat];exact c2.nodup)).1
 obtain⟨p,q,hp,hq,hn⟩:=EN hc0 (Z++[c0]) l0 u0 c0 hst runs (by
  obtain⟨w,hw,hwp⟩:=hpos
  refine⟨w,?_,hwp⟩
  rw[ecs] at hw
  rcases List.mem_append.mp hw with h | h
  ·exact .tail _ (List.mem_append_left _ (hZ ▸ List.mem_append_right _ h))
  ·exact (List.mem_cons.mp h).elim (λe=>e ▸ .head _) λh=>.tail _ (List.mem_append_left _ (hZ ▸ List.mem_append_left _ h))) (dJ _ _ _)
 obtain⟨P,hP⟩:∃P,Pl L (c0::(Z++[c0]))=P:=⟨_,rfl⟩
 rw[hP] at r1 el ePz top mem nd hn
 obtain⟨h,P2,eP⟩:∃h P2,P=h::P2:=by
  cases P with
  | nil=>exact absurd rfl ePz
  | cons h P2=>exact⟨h,P2,rfl⟩
 obtain⟨P3,eP3⟩:∃P3,P=P3++[l0]:=by
  rcases List.eq_nil_or_concat P with h | ⟨P3,x,h⟩
  ·exact absurd h ePz
  ·have e:P=P3++[x]:=by simpa using h
   rw[e,dJ] at el
   exact⟨P3,by rw[e,el]⟩
 have hn:=JR eP eP3 hn
 obtain⟨memp,memq⟩:=QU eP hn
 have ne1:q≠p:=fN c hneg hp hq
 have n0:∀z:H3,Exc L z=0->up3 c0≠z:=λz hz e=>by rw[<-e,cZ] at hz;omega
 refine⟨P,?_,⟨nd,mem,λa b hab=>HM l0 P r1 a b (NQ eP eP3 hab),?_,p,q,hp,hq,hn⟩,λf d e hf=>?_⟩
 ·-- turned about
  rw[<-hP,ecs,hZ]
  cases X with
  | nil=>exact⟨Pl L (c0::(Y++[c0])),[],by simp,by simp⟩
  | cons x X =>
   have e1:(x::X++c0::Y)++(x::X++c0::Y).take 1=(x::X)++c0::(Y++[x]):=by simp
   have e2:c0::(Y++x::X++[c0])=(c0::Y)++x::(X++[c0]):=by simp
   rw[e1,e2,xL L (x::X) c0 (Y++[x]),xL L (c0::Y) x (X++[c0])]
   exact⟨_,_,rfl,by simp⟩
 ·exact lW [up3 c0,p,q] P (List.nodup_cons.mpr ⟨λh=>(List.mem_cons.mp h).elim (n0 p hp.pm.2) λh=>n0 q hq.pm.2 (List.mem_singleton.mp h),List.nodup_cons.mpr ⟨λh=>ne1 (List.mem_singleton.mp h).symm,List.pairwise_singleton _ q⟩⟩) λx hx=>(List.mem_cons.mp hx).elim (λe=>e ▸ top) λhx=>(List.mem_cons.mp hx).elim (λe=>e ▸ memp) λhx=>List.mem_singleton.mp hx ▸ memq
 ·have ps:=BR hf (Z++[c0]) l0 u0 c0 hst runs
  rw[hP,IQ f eP3] at ps
  have e1:dl d u0 c0 (Z++[c0])=d u0 c0:=by rw[eZ,List.append_assoc];exact GK d Z2 u0 c0 u0 c0
  rw[e1] at ps
  have e2:pth (λa b=>d a b+e a b) c0 (Z++[c0])=kZ (λa b=>d a b+e a b) cs:=by
   show kZ (λa b=>d a b+e a b) (c0::Z)=_
   rw[hZ,ecs,AC _ X (c0::Y)];rfl
  omega
end
end L2.R2
set_option Elab.async false
set_option linter.all false
namespace L2.R2
theorem RN (L:CLine) (t1 t2 r q:H3):aZ t1 t2 q*Exc L r=aZ r t2 q*Exc L t1+aZ t1 r q*Exc L t2+aZ t1 t2 r*Exc L q:=by unfold aZ Exc;grind
theorem QX {L:CLine} {t1 t2 r q:H3} (h1:Exc L t1=0) (h2:Exc L t2=0) (d1:aZ t1 t2 r=0) (d2:aZ t1 t2 q≠0):Exc L r=0:=by
 have e:=RN L t1 t2 r q
 rw[h1,h2,d1,Int.mul_zero,Int.mul_zero,Int.zero_mul] at e
 rcases Int.mul_eq_zero.mp (show aZ t1 t2 q*Exc L r=0 by omega) with z | z
 ·exact (d2 z).elim
 ·exact z
theorem fM (L:CLine) (u:Pt):Exc L (up3 u)=cxc L u:=by unfold Exc cxc;dsimp only;omega
theorem AM (L:CLine) (α β:Int) (p q:H3):Exc L (jB α p β q)=α*Exc L p+β*Exc L q:=by unfold Exc;dsimp only;grind
theorem AN {L M:CLine} {u v:Pt} (h1:cxc M u=0) (h2:cxc M v=0):Exc M (cJ L u v)=0:=by
 unfold cJ
 rw[AM,fM,fM,h1,h2,Int.mul_zero,Int.mul_zero];rfl
theorem wQ {L:CLine} {u v:Pt} (h:cxc L u*cxc L v<0):Exc L (cJ L u v)=0:=by
 unfold cJ
 rw[AM,fM,fM]
 rcases Int.lt_or_le (cxc L u) 0 with h1 | h1
 ·have h2:0<cxc L v:=by
   rcases Int.lt_or_le 0 (cxc L v) with k | k
   ·exact k
   ·have:=Int.mul_nonneg_of_nonpos_of_nonpos (Int.le_of_lt h1) k;omega
  rw[Int.ofNat_natAbs_of_nonneg (Int.le_of_lt h2),show ((cxc L u).natAbs:Int) = -(cxc L u) by omega]
  grind
 ·have h2:cxc L v<0:=by
   rcases Int.lt_or_le (cxc L v) 0 with k | k
   ·exact k
   ·have:=Int.mul_nonneg h1 k;omega
  rw[Int.natAbs_of_nonneg h1,show ((cxc L v).natAbs:Int) = -(cxc L v) by omega]
  grind
theorem IW {L:CLine} {cs:List Pt} {p:H3} (h:Exit L cs p):Exc L p=0:=by
 obtain⟨u,v,_,hv,⟨h1,rfl⟩ | ⟨h1,rfl⟩⟩:=h
 ·exact wQ (Int.mul_neg_of_neg_of_pos h1 hv)
 ·rw[fM,h1]
theorem DZ {L:CLine} {cs:List Pt} {p:H3} (h:Entry L cs p):Exc L p=0:=by
 obtain⟨u,v,_,hv,⟨h1,rfl⟩ | ⟨h1,rfl⟩⟩:=h
 ·exact wQ (Int.mul_neg_of_pos_of_neg hv h1)
 ·rw[fM,h1]
theorem UG {L:CLine} {cs:List Pt} {R:CLine->Prop} (hs:∀u v,Cyc cs u v->∃M,R M/\cxc M u=0/\cxc M v=0) (hL:R L) {p q:H3} (h:Adj L cs p q):∃M,R M/\Exc M p=0/\Exc M q=0:=by
 cases h with
 | full h _ _=>obtain⟨M,r,a,b⟩:=hs _ _ h;exact⟨M,r,by rw[fM,a],by rw[fM,b]⟩
 | out h _ _=>obtain⟨M,r,a,b⟩:=hs _ _ h;exact⟨M,r,by rw[fM,a],AN a b⟩
 | inn h _ _=>obtain⟨M,r,a,b⟩:=hs _ _ h;exact⟨M,r,AN a b,by rw[fM,b]⟩
 | line hp hq=>exact⟨L,hL,IW hp,DZ hq⟩
theorem KQ {a1 b1 c1 a2 b2 c2 s:Int} {t z v:Pt} (n1:a1≠0\/b1≠0) (n2:a2≠0\/b2≠0) (h1:a1*t.1+b1*t.2=c1*s) (h2:a1*z.1+b1*z.2=c1*s) (h3:a2*z.1+b2*z.2=c2*s) (h4:a2*v.1+b2*v.2=c2*s) (ht:0<aG t z v) :
  a1*b2-a2*b1≠0/\(a1*b2-a2*b1)*z.1=s*(c1*b2-c2*b1)/\(a1*b2-a2*b1)*z.2=s*(a1*c2-a2*c1):=by
 refine⟨λd=>?_,by grind,by grind⟩
 have e1:a1*(z.1-t.1)+b1*(z.2-t.2)=0:=by grind
 have e2:a2*(v.1-z.1)+b2*(v.2-z.2)=0:=by grind
 have e3:a1*(v.1-z.1)+b1*(v.2-z.2)=0:=by
  rcases n2 with k | k
  ·refine (Int.mul_eq_zero.mp (show a2*(a1*(v.1-z.1)+b1*(v.2-z.2))=0 by grind)).resolve_left k
  ·refine (Int.mul_eq_zero.mp (show b2*(a1*(v.1-z.1)+b1*(v.2-z.2))=0 by grind)).resolve_left k
 have e4:aG t z v=0:=by
  rcases n1 with k | k
  ·refine (Int.mul_eq_zero.mp (show a1*aG t z v=0 by unfold aG;grind)).resolve_left k
  ·refine (Int.mul_eq_zero.mp (show b1*aG t z v=0 by unfold aG;grind)).resolve_left k
 omega
theorem oQ {n:Nat} {s:Int}:∀(l:List Pt),(∀z∈l,∃d x y:Int,d≠0/\d.natAbs<2 ^ n/\d*z.1=s*x/\d*z.2=s*y) ->
  ∃P:Int,P≠0/\P.natAbs<=(2 ^ n) ^ l.length/\∀z∈l,s∣P*z.1/\s∣P*z.2
 | [],_=>⟨1,by decide,by simp,by simp⟩
 | z::l,h=>by
  obtain⟨P,p0,pb,pd⟩:=oQ l λw hw=>h w (List.mem_cons_of_mem _ hw)
  obtain⟨d,x,y,d0,db,ex,ey⟩:=h z List.mem_cons_self
  refine⟨d*P,Int.mul_ne_zero d0 p0,?_,λw hw=>?_⟩
  ·rw[Int.natAbs_mul,List.length_cons,Nat.pow_succ,Nat.mul_comm]
   exact Nat.mul_le_mul pb (Nat.le_of_lt db)
  ·rcases List.mem_cons.mp hw with rfl | hw
   ·exact⟨⟨P*x,by grind⟩,⟨P*y,by grind⟩⟩
   ·obtain⟨⟨u,eu⟩,⟨v,ev⟩⟩:=pd w hw
    exact⟨⟨d*u,by grind⟩,⟨d*v,by grind⟩⟩
theorem KG {s P:Int} {zs:List Pt} (s0:0<s) (cop:∀d:Nat,(d:Int)∣s->(∀z∈zs,(d:Int)∣z.1/\(d:Int)∣z.2)->d=1) (h:∀z∈zs,s∣P*z.1/\s∣P*z.2):s∣P:=by
 have g0:0<Int.gcd s P:=Int.gcd_pos_of_ne_zero_left P (by omega)
 have e1:s / (Int.gcd s P:Int)*(Int.gcd s P:Int)=s:=Int.ediv_mul_cancel (Int.gcd_dvd_left ..)
 have e2:P / (Int.gcd s P:Int)*(Int.gcd s P:Int)=P:=Int.ediv_mul_cancel (Int.gcd_dvd_right ..)
 have hc:Int.gcd (s / (Int.gcd s P:Int)) (P / (Int.gcd s P:Int))=1:=Int.gcd_ediv_gcd_ediv_gcd (by omega)
 have gz:((Int.gcd s P:Nat):Int)≠0:=by omega
 have dv:∀x,s∣P*x->s / (Int.gcd s P:Int)∣x:=λx k=>by
  obtain⟨c,e⟩:=k
  have e3:P / (Int.gcd s P:Int)*x=s / (Int.gcd s P:Int)*c:=by
   refine Int.eq_of_mul_eq_mul_right gz ?_
   grind
  have e5:(s / (Int.gcd s P:Int)).natAbs∣(P / (Int.gcd s P:Int)).natAbs*x.natAbs:=by rw[<-Int.natAbs_mul,e3,Int.natAbs_mul];exact Nat.dvd_mul_right ..
  exact Int.natAbs_dvd_natAbs.mp (Nat.Coprime.dvd_of_dvd_mul_left hc e5)
 have one:=cop (s / (Int.gcd s P:Int)).natAbs (by rw[Int.natAbs_dvd];exact⟨_,e1.symm⟩) λz hz=>⟨by rw[Int.natAbs_dvd];exact dv _ (h z hz).1,by rw[Int.natAbs_dvd];exact dv _ (h z hz).2⟩
 have pos:0<s / (Int.gcd s P:Int):=by
  rcases Int.lt_or_le 0 (s / (Int.gcd s P:Int)) with k | k
  ·exact k
  ·have:=Int.mul_nonneg_of_nonpos_of_nonpos k (show -(Int.gcd s P:Int)<=0 by omega);grind
 have e4:s / (Int.gcd s P:Int)=1:=by omega
 rw[e4,Int.one_mul] at e1
 rw[<-e1]
 exact Int.gcd_dvd_right ..
end L2.R2
set_option Elab.async false
set_option linter.all false
set_option maxRecDepth 100000
namespace L2.R2
open PySem PySem.Spec PyProof.Rows L2
inductive D where
 | non | bl (b:Bool) | int (i:Int) | str (x:Str) | tup (xs:List D) | lst (xs:List D)
noncomputable def FzL (K:PySem.W.Frag) (H:Hp) (a:Addr) (vs:List V):Prop :=
 (∃o,H a=some (.frz o (.lst vs))) \/
  ∃(o:Obj) (its:Array Value) (n:Nat),K.lookup a=some o/\o.cls = .type "list"/\o.dict=none/\o.data = .seq its n/\its.size<=sizeLine/\Vals vs its.toList
theorem FzL.sq {K:PySem.W.Frag} {H:Hp} {a:Addr} {vs:List V}:FzL K H a vs->SqL K H a vs
 | .inl ⟨o,h⟩=>.inl (.inr ⟨o,h⟩)
 | .inr h=>.inr h
structure Keep (H H':Hp):Prop where
 tups:∀b xs,H b=some (.tup xs)->H' b=some (.tup xs)
 frzs:∀b o u,H b=some (.frz o u)->H' b=some (.frz o u)
theorem Keep.refl (H:Hp):Keep H H:=⟨λ_ _ h=>h,λ_ _ _ h=>h⟩
theorem Keep.trans {H H1 H2:Hp} (a:Keep H H1) (b:Keep H1 H2):Keep H H2 :=
 ⟨λc xs h=>b.tups c xs (a.tups c xs h),λc o u h=>b.frzs c o u (a.frzs c o u h)⟩
theorem Keep.of {H H':Hp} (s:Same H H'):Keep H H':=⟨λb xs h=>s b _ h,λb o u h=>s b _ h⟩
mutual
inductive Rep (K:PySem.W.Frag) (H:Hp):D->V->Prop
 | non:Rep K H .non .non
 | bl (b:Bool):Rep K H (.bl b) (.bl b)
 | int (i:Int):Rep K H (.int i) (.int i)
 | str (x:Str):Rep K H (.str x) (.str x)
 | tup {a:Addr} {vs:List V} {ds:List D} (h:H a=some (.tup vs)) (r:Reps K H ds vs):Rep K H (.tup ds) (.ref a)
 | lst {a:Addr} {vs:List V} {ds:List D} (h:FzL K H a vs) (r:Reps K H ds vs):Rep K H (.lst ds) (.ref a)
inductive Reps (K:PySem.W.Frag) (H:Hp):List D->List V->Prop
 | nil:Reps K H [] []
 | cons {d:D} {v:V} {ds:List D} {vs:List V} (h:Rep K H d v) (t:Reps K H ds vs):Reps K H (d::ds) (v::vs)
end
section
variable {K:PySem.W.Frag} {H H':Hp}
theorem FzL.keep {a:Addr} {vs:List V} (k:Keep H H') (h:FzL K H a vs):FzL K H' a vs:=by
 rcases h with ⟨o,h⟩ | h
 ·exact .inl ⟨o,k.frzs _ _ _ h⟩
 ·exact .inr h
mutual
theorem Rep.keep (k:Keep H H'):∀{d:D} {v:V},Rep K H d v->Rep K H' d v
 | _,_,.non=>.non
 | _,_,.bl b=>.bl b
 | _,_,.int i=>.int i
 | _,_,.str x=>.str x
 | _,_,.tup h r=>.tup (k.tups _ _ h) (Reps.keep k r)
 | _,_,.lst h r=>.lst (FzL.keep k h) (Reps.keep k r)
theorem Reps.keep (k:Keep H H'):∀{ds:List D} {vs:List V},Reps K H ds vs->Reps K H' ds vs
 | _,_,.nil=>.nil
 | _,_,.cons h t=>.cons (Rep.keep k h) (Reps.keep k t)
end
theorem Reps.length:∀{ds:List D} {vs:List V},Reps K H ds vs->ds.length=vs.length
 | _,_,.nil=>rfl
 | _,_,.cons _ t=>by simp[Reps.length t]
theorem Reps.get:∀{ds:List D} {vs:List V} {i:Nat} {d:D},Reps K H ds vs->ds[i]? = some d->∃v,vs[i]? = some v/\Rep K H d v
 | _,_,_,_,.nil,e=>by simp at e
 | _,_,0,_,.cons h _,e=>by simp at e;subst e;exact⟨_,rfl,h⟩
 | _,_,i+1,d,.cons _ t,e=>by
  obtain⟨v,h1,h2⟩:=Reps.get (i:=i) (d:=d) t (by simpa using e)
  exact⟨v,by simpa using h1,h2⟩
theorem Reps.append:∀{ds es:List D} {vs us:List V},Reps K H ds vs->Reps K H es us->Reps K H (ds++es) (vs++us)
 | _,_,_,_,.nil,s=>s
 | _,_,_,_,.cons h t,s=>.cons h (Reps.append t s)
theorem Reps.take:∀{ds:List D} {vs:List V} (n:Nat),Reps K H ds vs->Reps K H (ds.take n) (vs.take n)
 | _,_,0,_=>.nil
 | _,_,_+1,.nil=>.nil
 | _,_,n+1,.cons r t=>.cons r (Reps.take n t)
theorem Reps.drop:∀{ds:List D} {vs:List V} (n:Nat),Reps K H ds vs->Reps K H (ds.drop n) (vs.drop n)
 | _,_,0,r=>r
 | _,_,_+1,.nil=>.nil
 | _,_,n+1,.cons _ t=>Reps.drop n t
theorem Reps.set {d:D} {v:V} (r:Rep K H d v):∀{ds:List D} {vs:List V} (i:Nat),Reps K H ds vs->Reps K H (ds.set i d) (vs.set i v)
 | _,_,_,.nil=>.nil
 | _,_,0,.cons _ t=>.cons r t
 | _,_,i+1,.cons q t=>.cons q (Reps.set r i t)
theorem Reps.dropLast:∀{ds:List D} {vs:List V},Reps K H ds vs->Reps K H ds.dropLast vs.dropLast
 | _,_,.nil=>.nil
 | _,_,.cons _ .nil=>.nil
 | _,_,.cons r (.cons r2 t)=>by
  simp only[List.dropLast]
  exact .cons r (Reps.dropLast (.cons r2 t))
theorem Reps.reverse:∀{ds:List D} {vs:List V},Reps K H ds vs->Reps K H ds.reverse vs.reverse
 | _,_,.nil=>.nil
 | _,_,.cons r t=>by
  simp only[List.reverse_cons]
  exact (Reps.reverse t).append (.cons r .nil)
theorem Rep.int_inv {i:Int} {v:V} (h:Rep K H (.int i) v):v = .int i:=by cases h;rfl
theorem Rep.bl_inv {b:Bool} {v:V} (h:Rep K H (.bl b) v):v = .bl b:=by cases h;rfl
theorem Reps.ints:∀{ns:List Int},Reps K H (ns.map D.int) (ns.map V.int)
 | []=>.nil
 | _::_=>.cons (.int _) Reps.ints
theorem Reps.ints_inv:∀{ns:List Int} {vs:List V},Reps K H (ns.map D.int) vs->vs=ns.map V.int
 | [],_,h=>by cases h;rfl
 | n::ns,_,h=>by
  cases h with
  | cons h t=>rw[h.int_inv,Reps.ints_inv t];rfl
end
noncomputable def RepB (K:PySem.W.Frag) (H:Hp) (d:D) (v:V):Prop :=
 Rep K H d v\/∃ds a vs,d = .lst ds/\v = .ref a/\H a=some (.lst vs)/\Reps K H ds vs
theorem RepB.same {K:PySem.W.Frag} {H H':Hp} {d:D} {v:V} (s:Same H H') (h:RepB K H d v):RepB K H' d v:=by
 rcases h with h | ⟨ds,a,vs,e1,e2,e3,r⟩
 ·exact .inl (h.keep (.of s))
 ·exact .inr ⟨ds,a,vs,e1,e2,s _ _ e3,r.keep (.of s)⟩
theorem RepB.lst {K:PySem.W.Frag} {H:Hp} {ds:List D} {v:V} (h:RepB K H (.lst ds) v):∃a vs,v = .ref a/\SqL K H a vs/\Reps K H ds vs:=by
 rcases h with h | ⟨ds',a,vs,e1,e2,e3,r⟩
 ·cases h with
  | lst h r=>exact⟨_,_,rfl,h.sq,r⟩
 ·cases e1;exact⟨a,vs,e2,SqL.of e3,r⟩
theorem RepB.tup {K:PySem.W.Frag} {H:Hp} {ds:List D} {v:V} (h:RepB K H (.tup ds) v):∃a vs,v = .ref a/\H a=some (.tup vs)/\Reps K H ds vs:=by
 rcases h with h | ⟨ds',a,vs,e1,e2,e3,r⟩
 ·cases h with
  | tup h r=>exact⟨_,_,rfl,h,r⟩
 ·cases e1
inductive S where
 | d (x:D) | own (xs:List D)
noncomputable def S.val:S->D
 | .d x=>x
 | .own xs=>.lst xs
noncomputable abbrev En:=List (Option S)
noncomputable def RelS (K:PySem.W.Frag) (H₀ H:Hp):S->V->Prop
 | .d x,v=>Rep K H x v
 | .own xs,v=>∃a vs,v = .ref a/\H a=some (.lst vs)/\H₀ a=none/\Reps K H xs vs
structure StOk (X:Cx) (ρ:En) (σ:St) (H:Hp):Prop where
 len:ρ.length=σ.length
 same:Same X.H₀ H
 rel:∀(i:Nat) (x:S),ρ[i]? = some (some x)->∃v,σ[i]? = some (some v)/\RelS X.K X.H₀ H x v
 sep:∀(i j:Nat) (xs ys:List D) (a:Addr),ρ[i]? = some (some (.own xs))->ρ[j]? = some (some (.own ys))->σ[i]? = some (some (.ref a))->σ[j]? = some (some (.ref a))->i=j
section
variable {X:Cx} {ρ:En} {σ:St} {H H':Hp}
theorem RelS.same {K:PySem.W.Frag} {H₀ H H':Hp} {x:S} {v:V} (s:Same H H') (h:RelS K H₀ H x v):RelS K H₀ H' x v:=by
 cases x with
 | d x=>exact Rep.keep (.of s) h
 | own xs =>
  obtain⟨a,vs,e1,e2,e3,r⟩:=h
  exact⟨a,vs,e1,s _ _ e2,e3,r.keep (.of s)⟩
theorem StOk.ext (st:StOk X ρ σ H) (s:Same H H'):StOk X ρ σ H' :=
 ⟨st.len,st.same.trans s,λi x e=>let ⟨v,h1,h2⟩:=st.rel i x e;⟨v,h1,h2.same s⟩,st.sep⟩
theorem StOk.set_d (st:StOk X ρ σ H) {i:Nat} {d:D} {v:V} (r:Rep X.K H d v):StOk X (ρ.set i (some (.d d))) (σ.set i (some v)) H:=by
 refine⟨by simp[st.len],st.same,λj x e=>?_,λj k xs ys a e1 e2 e3 e4=>?_⟩
 ·by_cases hj:i=j
  ·subst hj
   have hi:i<ρ.length:=by
    by_cases h:i<ρ.length
    ·exact h
    ·rw[List.set_eq_of_length_le (by omega)] at e
     rw[List.getElem?_eq_none (by omega)] at e;cases e
   rw[List.getElem?_set_self hi] at e
   cases e
   exact⟨v,by rw[List.getElem?_set_self (by rw[<-st.len];exact hi)],r⟩
  ·rw[List.getElem?_set_ne hj] at e ⊢
   exact st.rel j x e
 ·have ne:∀{j:Nat} {zs:List D},(ρ.set i (some (.d d)))[j]? = some (some (.own zs))->i≠j:=λ{j zs} e q=>by
   subst q
   by_cases h:i<ρ.length
   ·rw[List.getElem?_set_self h] at e;cases e
   ·rw[List.set_eq_of_length_le (by omega),List.getElem?_eq_none (by omega)] at e;cases e
  have n1:=ne e1
  have n2:=ne e2
  rw[List.getElem?_set_ne n1] at e1 e3
  rw[List.getElem?_set_ne n2] at e2 e4
  exact st.sep j k xs ys a e1 e2 e3 e4
theorem StOk.set_own (st:StOk X ρ σ H) {i:Nat} {ds:List D} {p:Addr} {vs:List V} (hp:H p=none) (r:Reps X.K H ds vs) :
  StOk X (ρ.set i (some (.own ds))) (σ.set i (some (.ref p))) (upd H p (.lst vs)):=by
 have sm:Same H (upd H p (.lst vs)):=λb o h=>by rw[aO (aT h hp)];exact h
 have st':=st.ext sm
 have oldne:∀{j:Nat} {zs:List D},i≠j->ρ[j]? = some (some (.own zs))->σ[j]?≠some (some (.ref p)):=λ{j zs} hj e z=>by
  obtain⟨v,h1,a,vs',e1,e2,_⟩:=st.rel j _ e
  rw[h1] at z;cases z;cases e1
  rw[hp] at e2;cases e2
 refine⟨by simp[st.len],st'.same,λj x e=>?_,λj k xs ys a e1 e2 e3 e4=>?_⟩
 ·by_cases hj:i=j
  ·subst hj
   have hi:i<ρ.length:=by
    by_cases h:i<ρ.length
    ·exact h
    ·rw[List.set_eq_of_length_le (by omega),List.getElem?_eq_none (by omega)] at e;cases e
   rw[List.getElem?_set_self hi] at e
   cases e
   exact⟨.ref p,by rw[List.getElem?_set_self (by rw[<-st.len];exact hi)],p,vs,rfl,bQ,st.same.free hp,r.keep (.of sm)⟩
  ·rw[List.getElem?_set_ne hj] at e ⊢
   exact st'.rel j x e
 ·by_cases hj:i=j
  ·by_cases hk:i=k
   ·exact hj.symm.trans hk
   ·exfalso
    subst hj
    rw[List.getElem?_set_ne hk] at e2 e4
    have hi:i<σ.length:=by
     by_cases h:i<σ.length
     ·exact h
     ·rw[List.set_eq_of_length_le (by omega),List.getElem?_eq_none (by omega)] at e3;cases e3
    rw[List.getElem?_set_self hi] at e3
    cases e3
    exact oldne hk e2 e4
  ·by_cases hk:i=k
   ·exfalso
    subst hk
    rw[List.getElem?_set_ne hj] at e1 e3
    have hi:i<σ.length:=by
     by_cases h:i<σ.length
     ·exact h
     ·rw[List.set_eq_of_length_le (by omega),List.getElem?_eq_none (by omega)] at e4;cases e4
    rw[List.getElem?_set_self hi] at e4
    cases e4
    exact oldne hj e1 e3
   ·rw[List.getElem?_set_ne hj] at e1 e3
    rw[List.getElem?_set_ne hk] at e2 e4
    exact st.sep j k xs ys a e1 e2 e3 e4
theorem StOk.upd_own (st:StOk X ρ σ H) {i:Nat} {xs ds:List D} {p:Addr} {us vs:List V} (e:ρ[i]? = some (some (.own xs))) (es:σ[i]? = some (some (.ref p))) (hp:H p=some (.lst us)) (h0:X.H₀ p=none)
  (r:Reps X.K H ds vs):StOk X (ρ.set i (some (.own ds))) σ (upd H p (.lst vs))/\Keep H (upd H p (.lst vs)):=by
 have kp:Keep H (upd H p (.lst vs)):=⟨λb ys h=>by
   rw[aO (GV h hp (by intro z;cases z))];exact h,λb o u h=>by rw[aO (GV h hp (by intro z;cases z))];exact h⟩
 have hi:i<ρ.length:=(List.getElem?_eq_some_iff.mp e).1
 refine⟨⟨by simp[st.len],λb o h=>?_,λj x ej=>?_,λj k xs' ys a e1 e2 e3 e4=>?_⟩,kp⟩
 ·rw[aO (by rintro rfl;rw[h0] at h;cases h)]
  exact st.same b o h
 ·by_cases hj:i=j
  ·subst hj
   rw[List.getElem?_set_self hi] at ej
   cases ej
   exact⟨.ref p,es,p,vs,rfl,bQ,h0,r.keep kp⟩
  ·rw[List.getElem?_set_ne hj] at ej
   obtain⟨v,h1,h2⟩:=st.rel j x ej
   refine⟨v,h1,?_⟩
   cases x with
   | d x=>exact Rep.keep kp h2
   | own zs =>
    obtain⟨a,vs',e1,e2,e3,r'⟩:=h2
    refine⟨a,vs',e1,?_,e3,r'.keep kp⟩
    rw[aO]
    ·exact e2
    ·rintro rfl
     subst e1
     exact hj (st.sep i j _ _ _ e ej es h1)
 ·have back:∀{j:Nat} {zs:List D},(ρ.set i (some (.own ds)))[j]? = some (some (.own zs))->∃zs',ρ[j]? = some (some (.own zs')):=λ{j zs} q=>by
   by_cases hj:i=j
   ·subst hj;exact⟨_,e⟩
   ·rw[List.getElem?_set_ne hj] at q;exact⟨_,q⟩
  obtain⟨_,q1⟩:=back e1
  obtain⟨_,q2⟩:=back e2
  exact st.sep j k _ _ a q1 q2 e3 e4
end
section
variable {X:Cx} {pins:List (Addr × Obj)} {σ:St} {H:Hp} {s:Shared}
theorem Inv.freeze {a:Addr} {xs:List V} (I:Inv X pins σ H s) (h:H a=some (.lst xs)):∃o,Inv X pins σ (upd H a (.frz o (.lst xs))) s:=by
 have ok:=I.hok a _ h
 obtain⟨z,its,n,r,e⟩:=id ok
 refine⟨{ cls:=.type "list",data:=.seq its.toArray n },?_⟩
 have ntup:∀b u,H b=some u->u≠.lst xs->b≠a:=λb u q d z=>by subst z;rw[h] at q;cases q;exact d rfl
 refine I.un (t':=s.toks) (h':=s.heap) ⟨λb o q _ _ _=>q,λb o q _ _ _=>⟨o.slots,q⟩,λb o q n _=>?_,λb o q _=>⟨o,q⟩,λb ys q=>?_,λb o u q=>?_,λb ps q=>⟨#[],?_⟩⟩ λb u q=>?_
 ·rw[aO (λz=>by subst z;rw[h] at n;cases n)];exact n
 ·rw[aO (ntup b _ q (by intro z;cases z))];exact q
 ·rw[aO (ntup b _ q (by intro z;cases z))];exact q
 ·rw[aO (ntup b _ q (by intro z;cases z)),q];simp
 ·by_cases hb:b=a
  ·subst hb
   rw[bQ] at q;cases q
   exact⟨e,z,its,n,r,e⟩
  ·rw[aO hb] at q
   exact (I.hok b u q).stay (λc v _ w=>w) (λc w=>by rw[aO (ntup c _ w (by intro z;cases z))];exact w) λc ys w=>by rw[aO (ntup c _ w (by intro z;cases z))];exact w
theorem Same.upd_new {a:Addr} {o:HO} {H H1:Hp} (s:Same H H1) (n:H a=none):Same H (upd H1 a o):=λb u h=>by
 rw[aO (aT h n)];exact s b u h
end
structure Sz (n:Nat):Prop where
 ok:n<=sizeLine
noncomputable abbrev RE:=En->(D->Prop)->Prop
noncomputable abbrev RT:=En->(Bool->Prop)->Prop
noncomputable abbrev RA:=En->(List D->Prop)->Prop
structure DEnds where
 nx:En->Prop
 rt:D->Prop
 bk:En->Prop:=λ_=>False
 ct:En->Prop:=λ_=>False
noncomputable abbrev RS:=DEnds->En->Prop
noncomputable abbrev RG:=D->En->(En->Prop)->Prop
noncomputable def TU (X:Cx) (t:RE):TE:=λσ H Q=>∃ρ P,StOk X ρ σ H/\t ρ P/\∀d v H',P d->Same H H'->Rep X.K H' d v->Q v H'
noncomputable def NL (X:Cx) (t:RE):TE:=λσ H Q=>∃ρ P,StOk X ρ σ H/\t ρ P/\∀d v H',P d->Same H H'->RepB X.K H' d v->Q v H'
noncomputable def XV (X:Cx) (t:RA):TE:=λσ H Q=>∃ρ P,StOk X ρ σ H/\t ρ P/\∀ds p vs H1,P ds->Same H H1->H1 p=none->Reps X.K H1 ds vs->Q (.ref p) (upd H1 p (.lst vs))
noncomputable def TX (X:Cx) (t:RT):TT:=λσ H Q=>∃ρ P,StOk X ρ σ H/\t ρ P/\∀b H',P b->Same H H'->Q b H'
noncomputable def XS (X:Cx) (t:RA):TA:=λσ H Q=>∃ρ P,StOk X ρ σ H/\t ρ P/\∀ds vs H',P ds->Same H H'->Reps X.K H' ds vs->Q vs H'
noncomputable def TW (X:Cx) (t:RS):TS:=λDe σ H=>∃ρ E,StOk X ρ σ H/\t E ρ/\(∀ρ' σ' H',E.nx ρ'->Keep H H'->StOk X ρ' σ' H'->De.nx σ' H')/\(∀d v H',E.rt d->Keep H H'->Same X.H₀ H'->Rep X.K H' d v->De.rt v H') /\
 (∀ρ' σ' H',E.bk ρ'->Keep H H'->StOk X ρ' σ' H'->De.bk σ' H')/\∀ρ' σ' H',E.ct ρ'->Keep H H'->StOk X ρ' σ' H'->De.ct σ' H'
noncomputable def XT (X:Cx) (g:RG):TG:=λv σ H Q=>∃d ρ P,Rep X.K H d v/\StOk X ρ σ H/\g d ρ P/\∀ρ' σ' H',P ρ'->Keep H H'->StOk X ρ' σ' H'->Q σ' H'
theorem bT {α β:Type} {A B C:α->β->Prop} {R:Prop} (h:∃ρ P,A ρ P/\B ρ P/\C ρ P) (k:∀ρ P,A ρ P->B ρ P->C ρ P->R):R:=let ⟨ρ,P,a,b,c⟩:=h;k ρ P a b c
theorem yG {α β γ:Type} {A B C E:γ->α->β->Prop} {R:Prop} (h:∃d ρ P,A d ρ P/\B d ρ P/\C d ρ P/\E d ρ P) (k:∀d ρ P,A d ρ P->B d ρ P->C d ρ P->E d ρ P->R):R:=let ⟨d,ρ,P,a,b,c,e⟩:=h;k d ρ P a b c e
theorem fI {α β:Type} {A B C E F G:α->β->Prop} {R:Prop} (h:∃ρ P,A ρ P/\B ρ P/\C ρ P/\E ρ P/\F ρ P/\G ρ P) (k:∀ρ P,A ρ P->B ρ P->C ρ P->E ρ P->F ρ P->G ρ P->R):R:=let ⟨ρ,P,a,b,c,e,f,g⟩:=h;k ρ P a b c e f g
noncomputable def DE (X:Cx) (e:Expr) (t:RE):Prop:=PE X e (TU X t)
noncomputable def DB (X:Cx) (e:Expr) (t:RE):Prop:=PE X e (NL X t)
noncomputable def DO (X:Cx) (e:Expr) (t:RA):Prop:=PE X e (XV X t)
noncomputable def DT (X:Cx) (e:Expr) (t:RT):Prop:=PT X e (TX X t)
noncomputable def DW (X:Cx) (e:Expr) (t:RT):Prop:=PW X e (TX X t)
noncomputable def DA (X:Cx) (es:List Expr) (t:RA):Prop:=PA X es (XS X t)
noncomputable def DS (X:Cx) (st:Stmt) (t:RS):Prop:=PS X st (TW X t)
noncomputable def DSs (X:Cx) (sts:List Stmt) (t:RS):Prop:=PSs X sts (TW X t)
noncomputable def DG (X:Cx) (tg:Expr) (g:RG):Prop:=PG X tg (XT X g)
theorem PE.mono {X:Cx} {e:Expr} {t t':TE} (h:PE X e t) (m:∀σ H Q,t' σ H Q->t σ H Q):PE X e t':=λpins s σ H Q I q=>h pins s σ H Q I (m σ H Q q)
theorem PT.mono {X:Cx} {e:Expr} {t t':TT} (h:PT X e t) (m:∀σ H Q,t' σ H Q->t σ H Q):PT X e t':=λpins s σ H Q I q=>h pins s σ H Q I (m σ H Q q)
theorem PW.mono {X:Cx} {e:Expr} {t t':TT} (h:PW X e t) (m:∀σ H Q,t' σ H Q->t σ H Q):PW X e t':=λwh pins s σ H Q I q=>h wh pins s σ H Q I (m σ H Q q)
theorem PA.mono {X:Cx} {e:List Expr} {t t':TA} (h:PA X e t) (m:∀σ H Q,t' σ H Q->t σ H Q):PA X e t':=λpos pins s σ H Q I q=>h pos pins s σ H Q I (m σ H Q q)
theorem PS.mono {X:Cx} {e:Stmt} {t t':TS} (h:PS X e t) (m:∀D σ H,t' D σ H->t D σ H):PS X e t':=λpins s σ H D I q=>h pins s σ H D I (m D σ H q)
theorem PSs.mono {X:Cx} {e:List Stmt} {t t':TS} (h:PSs X e t) (m:∀D σ H,t' D σ H->t D σ H):PSs X e t':=λpins s σ H D I q=>h pins s σ H D I (m D σ H q)
theorem PG.mono {X:Cx} {e:Expr} {t t':TG} (h:PG X e t) (m:∀v σ H Q,t' v σ H Q->t v σ H Q):PG X e t':=λpins s σ H v u Q I r q=>h pins s σ H v u Q I r (m v σ H Q q)
section
variable {X:Cx} {e a b c:Expr} {pos:Pos}
theorem DE.bor {t:RE} (h:DE X e t):DB X e t:=PE.mono h λσ H Q hh=>bT hh λρ P st q k=>⟨ρ,P,st,q,λd v H' p s r=>k d v H' p s (.inl r)⟩
theorem DO.val {t:RA} (h:DO X e t):DE X e (λρ Q=>t ρ λds=>Q (.lst ds)):=by
 intro pins s σ H Q I hh_0
 obtain⟨ρ,P,st,q,k⟩:=hh_0
 refine thn (h pins s σ H (λv H'=>∃ds p vs H1,v = .ref p/\H'=upd H1 p (.lst vs)/\P (.lst ds)/\Same H H1/\H1 p=none/\Reps X.K H1 ds vs) I ⟨ρ,_,st,q,λds p vs H1 hp s1 hn r=>⟨ds,p,vs,H1,rfl,rfl,hp,s1,hn,r⟩⟩) λu s1 ⟨v,H',I',rv,ds,p,vs,H1,ev,eH,hp,sm,hn,r⟩=>?_
 subst ev eH
 obtain⟨o,I2⟩:=Inv.freeze I' (a:=p) (xs:=vs) bQ
 have sm2:Same H1 (upd (upd H1 p (.lst vs)) p (.frz o (.lst vs))):=λb u e=>by rw[aO (aT e hn),aO (aT e hn)];exact e
 exact⟨.ref p,_,I2,rv,k (.lst ds) (.ref p) _ hp (sm.trans sm2) (.lst (.inl ⟨o,bQ⟩) (r.keep (.of sm2)))⟩
theorem DO.bor {t:RA} (h:DO X e t):DB X e (λρ Q=>t ρ λds=>Q (.lst ds)):=h.val.bor
noncomputable def aR (i:Nat):RE:=λρ Q=>match ρ[i]? with
 | some (some (.d d))=>Q d
 | _=>False
noncomputable def aA (i:Nat):RE:=λρ Q=>match ρ[i]? with
 | some (some x)=>Q x.val
 | _=>False
theorem dv (i:Nat) {x:Str} (hN:X.N[i]? = some x:=by rfl) (hv:Vis X.env.scope x:=by walk_at "vis") (hd:(x == ("__debug__":Str))=false:=by decide)
  (hcd:(x == ("__classdict__":Str))=false:=by decide):DE X (.Name x pos) (aR i):=by
 refine PE.mono (pv i hN hv hd hcd) λσ H Q hh=>bT hh λρ P st q k=>?_
 unfold aR at q
 split at q
 ·rename_i d e
  obtain⟨v,h1,h2⟩:=st.rel i _ e
  exact⟨v,h1,k d v H q (Same.refl H) h2⟩
 ·exact q.elim
theorem dvb (i:Nat) {x:Str} (hN:X.N[i]? = some x:=by rfl) (hv:Vis X.env.scope x:=by walk_at "vis") (hd:(x == ("__debug__":Str))=false:=by decide)
  (hcd:(x == ("__classdict__":Str))=false:=by decide):DB X (.Name x pos) (aA i):=by
 refine PE.mono (pv i hN hv hd hcd) λσ H Q hh=>bT hh λρ P st q k=>?_
 unfold aA at q
 split at q
 ·rename_i d e
  obtain⟨v,h1,h2⟩:=st.rel i _ e
  refine⟨v,h1,k _ v H q (Same.refl H) ?_⟩
  cases d with
  | d x=>exact .inl h2
  | own xs =>
   obtain⟨a,vs,e1,e2,_,r⟩:=h2
   exact .inr ⟨xs,a,vs,rfl,e1,e2,r⟩
 ·exact q.elim
noncomputable def rC (d:D):RE:=λ_ Q=>Q d
theorem aB {i:Int} {j:Nat}:DE X (.Constant (.int i) j pos) (rC (.int i)):=PE.mono VR λσ H Q hh=>bT hh λρ P st q k=>k _ _ H q (Same.refl H) (.int i)
theorem iG {i:Bool} {j:Nat}:DE X (.Constant (.bool i) j pos) (rC (.bl i)):=PE.mono YG λσ H Q hh=>bT hh λρ P st q k=>k _ _ H q (Same.refl H) (.bl i)
theorem lB {j:Nat}:DE X (.Constant .none j pos) (rC .non):=PE.mono VT λσ H Q hh=>bT hh λρ P st q k=>k _ _ H q (Same.refl H) .non
noncomputable abbrev R22:=D->D->(D->Prop)->Prop
noncomputable def TV (X:Cx) (r:R22):R2:=λx y H Q=>∃d e P,RepB X.K H d x/\RepB X.K H e y/\r d e P/\∀z v H',P z->Same H H'->Rep X.K H' z v->Q v H'
noncomputable def OpD (X:Cx) (f:Value->Value->Sem Value) (r:R22):Prop:=OpR X f (TV X r)
noncomputable def r2 (r:R22) (ta tb:RE):RE:=λρ Q=>ta ρ λx=>tb ρ λy=>r x y Q
variable {ta tb tc:RE}
theorem NK {r:R22} {σ:St} {H:Hp} {Q:VK} (h:TU X (r2 r ta tb) σ H Q):tOp (TV X r) (NL X ta) (NL X tb) σ H Q:=by
 obtain⟨ρ,P,st,ht,hP⟩:=h
 exact⟨ρ,_,st,ht,λx v H1 h1 s1 r1=>⟨ρ,_,st.ext s1,h1,λy u H2 h2 s2 r2=>⟨x,y,P,r1.same s2,r2,h2,λz w H' hz s3 r3=>hP z w H' hz ((s1.trans s2).trans s3) r3⟩⟩⟩
theorem aH {op:Operator} {r:R22} (ho:OpD X (binaryOp op) r) (ha:DB X a ta) (hb:DB X b tb):DE X (.BinOp a op b pos) (r2 r ta tb):=PE.mono (YI ho ha hb) λσ H Q h=>NK h
theorem nB {op:CmpOp} {r:R22} (ho:OpD X (compareOp op) r) (ha:DB X a ta) (hb:DB X b tb) (hm:behindInMarks op b=false:=by exact NO _):DE X (.Compare a [op] [b] pos) (r2 r ta tb):=PE.mono (RI ho ha hb hm) λσ H Q h=>NK h
noncomputable def bF (t:RE):RT:=λρ Q=>t ρ λd=>match d with
 | .bl k=>Q k
 | _=>False
theorem bP {op:CmpOp} {r:R22} (ho:OpD X (compareOp op) r) (ha:DB X a ta) (hb:DB X b tb) (hm:behindInMarks op b=false:=by exact NO _):DT X (.Compare a [op] [b] pos) (bF (r2 r ta tb)):=by
 refine PT.mono (RX ho ha hb hm) λσ H Q hh=>bT hh λρ P st q k=>?_
 refine NK (Q:=λx H'=>∃k,x = .bl k/\Q k H') ⟨ρ,_,st,q,λd v H' hd s r=>?_⟩
 cases d with
 | bl b=>exact⟨b,r.bl_inv,k b H' hd s⟩
 | _=>exact hd.elim
theorem iW (h:DE X e ta) (he:∀whole,isTrue e X.env whole=(do let v <-whole;standAt e.pos;holding [v] (truthy v)):=by intro _;rfl):DT X e (bF ta):=by
 refine PT.mono (WG h he) λσ H Q hh=>bT hh λρ P st q k=>?_
 refine⟨ρ,_,st,q,λd v H' hd s r=>?_⟩
 cases d with
 | bl b=>exact⟨b,r.bl_inv,k b H' hd s⟩
 | _=>exact hd.elim
noncomputable def BZ (t u:RT):RT:=λρ Q=>t ρ λc=>if c=true then u ρ Q else Q false
noncomputable def rOr (t u:RT):RT:=λρ Q=>t ρ λc=>if c=true then Q true else u ρ Q
noncomputable def qH (t:RT):RT:=λρ Q=>t ρ λc=>Q (!c)
variable {tA tB:RT} {rest:List Expr}
theorem yD (ha:DT X a tA):DW X (.BoolOp .And [a] pos) tA:=RZ ha
theorem lD (ha:DT X a tA):DW X (.BoolOp .Or [a] pos) tA:=WJ ha
theorem DY (ha:DT X a tA) (hb:DW X (.BoolOp .And (b::rest) pos) tB):DW X (.BoolOp .And (a::b::rest) pos) (BZ tA tB) :=
 PW.mono (WI ha hb) λσ H Q hh=>bT hh λρ P st q k=>⟨ρ,_,st,q,λc H1 hc s1=>by
  cases c with
  | true=>rw[if_pos rfl] at hc ⊢;exact⟨ρ,P,st.ext s1,hc,λd H2 hd s2=>k d H2 hd (s1.trans s2)⟩
  | false=>rw[if_neg Bool.false_ne_true] at hc ⊢;exact k false H1 hc s1⟩
theorem lC (ha:DT X a tA) (hb:DW X (.BoolOp .Or (b::rest) pos) tB):DW X (.BoolOp .Or (a::b::rest) pos) (rOr tA tB) :=
 PW.mono (YM ha hb) λσ H Q hh=>bT hh λρ P st q k=>⟨ρ,_,st,q,λc H1 hc s1=>by
  cases c with
  | false=>rw[if_neg Bool.false_ne_true] at hc ⊢;exact⟨ρ,P,st.ext s1,hc,λd H2 hd s2=>k d H2 hd (s1.trans s2)⟩
  | true=>rw[if_pos rfl] at hc ⊢;exact k true H1 hc s1⟩
theorem DW.tst (h:DW X e tA):DT X e tA:=PW.pt h
theorem jR (ha:DT X a tA):DT X (.UnaryOp .Not a pos) (qH tA):=PT.mono (WF ha) λσ H Q hh=>bT hh λρ P st q k=>⟨ρ,_,st,q,λc H1 hc s1=>k _ H1 hc s1⟩
noncomputable def uG (ta tb:RE):RE:=λρ Q=>ta ρ λd=>match d with
 | .bl k=>if k=true then tb ρ Q else Q (.bl false)
 | _=>False
noncomputable def ZY (ta tb:RE):RE:=λρ Q=>ta ρ λd=>match d with
 | .bl k=>if k=true then Q (.bl true) else tb ρ Q
 | _=>False
noncomputable def OE (ta:RE):RE:=λρ Q=>ta ρ λd=>match d with
 | .bl k=>Q (.bl (!k))
 | _=>False
theorem DR {op} (h:DE X a ta):DE X (.BoolOp op [a] pos) ta:=VW h
theorem xY (ha:DE X a ta) (hb:DE X (.BoolOp .And (b::rest) pos) tb):DE X (.BoolOp .And (a::b::rest) pos) (uG ta tb) :=
 PE.mono (VP ha hb) λσ H Q hh=>bT hh λρ P st q k=>⟨ρ,_,st,q,λd v H1 hd s1 r=>by
  cases d with
  | bl c =>
   refine⟨c,r.bl_inv,?_⟩
   cases c with
   | true=>exact⟨ρ,P,st.ext s1,hd,λd v H2 hd s2=>k d v H2 hd (s1.trans s2)⟩
   | false=>exact k (.bl false) (.bl false) H1 hd s1 (.bl false)
  | _=>exact hd.elim⟩
theorem UN (ha:DE X a ta):DE X (.UnaryOp .Not a pos) (OE ta) :=
 PE.mono (VU ha) λσ H Q hh=>bT hh λρ P st q k=>⟨ρ,_,st,q,λd v H1 hd s1 r=>by
  cases d with
  | bl c=>exact⟨c,r.bl_inv,k (.bl !c) (.bl !c) H1 hd s1 (.bl _)⟩
  | _=>exact hd.elim⟩
noncomputable def rIf (t:RT) (ta tb:RE):RE:=λρ Q=>t ρ λc=>if c=true then ta ρ Q else tb ρ Q
noncomputable def XX (X:Cx) (r:D->(D->Prop)->Prop):V->Hp->VK->Prop:=λx H Q=>∃d P,RepB X.K H d x/\r d P/\∀z v H',P z->Same H H'->Rep X.K H' z v->Q v H'
noncomputable def UnD (X:Cx) (f:Value->Sem Value) (r:D->(D->Prop)->Prop):Prop:=UnR X f (XX X r)
noncomputable def r1 (r:D->(D->Prop)->Prop) (ta:RE):RE:=λρ Q=>ta ρ λx=>r x Q
theorem wO {op:UnaryOp} {r:D->(D->Prop)->Prop} (ho:UnD X (unaryOp op) r) (ha:DB X a ta):DE X (.UnaryOp op a pos) (r1 r ta) :=
 PE.mono (YJ ho ha) λσ H Q hh=>bT hh λρ P st q k=>⟨ρ,_,st,q,λd v H1 hd s1 rr=>⟨d,P,rr,hd,λz v H2 hz s2 r2=>k z v H2 hz (s1.trans s2) r2⟩⟩
noncomputable def aK:RA:=λ_ Q=>Q []
noncomputable def aD (t:RE) (u:RA):RA:=λρ Q=>t ρ λx=>u ρ λxs=>Q (x::xs)
variable {es:List Expr} {t:RA}
theorem aJ:DA X [] aK:=PA.mono tZ λσ H Q hh=>bT hh λρ P st q k=>k [] [] H q (Same.refl H) .nil
theorem aC (ha:DE X e ta) (hr:DA X es t) (hs:starEach (e::es) X.env=(false,eval e X.env)::starEach es X.env:=by rfl):DA X (e::es) (aD ta t) :=
 PA.mono (iM ha hr hs) λσ H Q hh=>bT hh λρ P st q k=>⟨ρ,_,st,q,λd v H1 hd s1 r1=>⟨ρ,_,st.ext s1,hd,λds vs H2 hds s2 r2=>k (d::ds) (v::vs) H2 hds (s1.trans s2) (.cons (r1.keep (.of s2)) r2)⟩⟩
noncomputable def iC (t:RA):RE:=λρ Q=>t ρ λds=>Sz ds.length/\Q (.tup ds)
theorem cV {x1} (h:DA X es t):DE X (.Tuple es x1 pos) (iC t) :=
 PE.mono (VX h) λσ H Q hh=>bT hh λρ P st q k=>⟨ρ,_,st,q,λds vs H1 hd s1 r=>⟨by rw[<-r.length];exact hd.1.ok,λp hp=>k (.tup ds) (.ref p) _ hd.2 (Same.upd_new s1 (s1.free hp)) (by
  have sm:Same H1 (upd H1 p (.tup vs)):=λb u e=>by rw[aO (aT e hp)];exact e
  exact .tup bQ (r.keep (.of sm)))⟩⟩
noncomputable def nK (t:RA):RA:=λρ Q=>t ρ λds=>Sz ds.length/\Q ds
theorem jQ (h:DA X es t):DO X (.List es pos) (nK t) :=
 PE.mono (VS h) λσ H Q hh=>bT hh λρ P st q k=>⟨ρ,_,st,q,λds vs H1 hd s1 r=>⟨by rw[<-r.length];exact hd.1.ok,λp hp=>k ds p vs H1 hd.2 s1 hp r⟩⟩
end
section
variable {X:Cx} {e a b c:Expr} {pos:Pos} {st:Stmt} {rest:List Stmt} {t u:RS} {te:RE} {tA:RT}
noncomputable def aU (t u:RS):RS:=λE ρ=>t { E with nx:=u E } ρ
noncomputable def cS:RS:=λE ρ=>E.nx ρ
theorem bS:DSs X [] cS:=PSs.mono RV λDe σ H hh=>fI hh λρ E st q n r b c=>n ρ σ H q (Keep.refl H) st
theorem aL (h:DS X st t):DSs X [st] t:=RW h
theorem aF (h1:DS X st t) (h2:DSs X rest u):DSs X (st::rest) (aU t u) :=
 PSs.mono (OC h1 h2) λDe σ H hh=>fI hh λρ E st q n r b c=>⟨ρ,_,st,q,λρ' σ' H' h k s=>⟨ρ',E,s,h,λρ2 σ2 H2 x k2=>n ρ2 σ2 H2 x (k.trans k2),λd v H2 x k2=>r d v H2 x (k.trans k2),λρ2 σ2 H2 x k2=>b ρ2 σ2 H2 x (k.trans k2),λρ2 σ2 H2 x k2=>c ρ2 σ2 H2 x (k.trans k2)⟩,r,b,c⟩
noncomputable def cC (te:RE):RS:=λE ρ=>te ρ E.rt
theorem bC (h:DE X e te):DS X (.Return (some e) pos) (cC te) :=
 PS.mono (WE h) λDe σ H hh=>fI hh λρ E st q n r b c=>⟨ρ,_,st,q,λd v H1 hd s1 rr=>r d v H1 hd (.of s1) (st.same.trans s1) rr⟩
noncomputable def YO (te:RE):RS:=λE ρ=>te ρ λ_=>E.nx ρ
noncomputable def eK (c:RT) (t u:RS):RS:=λE ρ=>c ρ λk=>if k=true then t E ρ else u E ρ
theorem dQ {sa sb:List Stmt} (hc:DT X c tA) (ha:DSs X sa t) (hb:DSs X sb u):DS X (.If c sa sb pos) (eK tA t u) :=
 PS.mono (YL hc ha hb) λDe σ H hh=>fI hh λρ E st q n r b c=>⟨ρ,_,st,q,λk H1 hk s1=>by
  cases k with
  | true=>rw[if_pos rfl] at hk ⊢;exact⟨ρ,E,st.ext s1,hk,λρ2 σ2 H2 x k2=>n ρ2 σ2 H2 x ((Keep.of s1).trans k2),λd v H2 x k2=>r d v H2 x ((Keep.of s1).trans k2),λρ2 σ2 H2 x k2=>b ρ2 σ2 H2 x ((Keep.of s1).trans k2),λρ2 σ2 H2 x k2=>c ρ2 σ2 H2 x ((Keep.of s1).trans k2)⟩
  | false=>rw[if_neg Bool.false_ne_true] at hk ⊢;exact⟨ρ,E,st.ext s1,hk,λρ2 σ2 H2 x k2=>n ρ2 σ2 H2 x ((Keep.of s1).trans k2),λd v H2 x k2=>r d v H2 x ((Keep.of s1).trans k2),λρ2 σ2 H2 x k2=>b ρ2 σ2 H2 x ((Keep.of s1).trans k2),λρ2 σ2 H2 x k2=>c ρ2 σ2 H2 x ((Keep.of s1).trans k2)⟩⟩
noncomputable def aW (i:Nat):RG:=λd ρ Q=>Q (ρ.set i (some (.d d)))
theorem aV {i:Nat} {x:Str} (hN:X.N.Nodup) (hi:X.N[i]? = some x:=by rfl) (hx:Loc X.env.scope x:=by walk_at "vis") (hf:X.fn x=true\/X.env.scope.names.lookup x=some .local:=by walk_at "loc"):DG X (.Name x pos) (aW i) :=
 PG.mono (RJ hN hi hx hf) λv σ H Q hh=>yG hh λd ρ P r st q k=>k _ _ H q (Keep.refl H) (st.set_d r)
noncomputable abbrev RGs:=List D->En->(En->Prop)->Prop
noncomputable def VJ (X:Cx) (g:RGs):TGs:=λvs σ H Q=>∃ds ρ P,Reps X.K H ds vs/\StOk X ρ σ H/\g ds ρ P/\∀ρ' σ' H',P ρ'->Keep H H'->StOk X ρ' σ' H'->Q σ' H'
noncomputable def DGs (X:Cx) (ts:List Expr) (g:RGs):Prop:=PGs X ts (VJ X g)
theorem PGs.mono {X:Cx} {e:List Expr} {t t':TGs} (h:PGs X e t) (m:∀v σ H Q,t' v σ H Q->t v σ H Q):PGs X e t':=λpins s σ H v u Q I r q=>h pins s σ H v u Q I r (m v σ H Q q)
noncomputable def gD:RGs:=λds ρ Q=>match ds with
 | []=>Q ρ
 | _=>False
noncomputable def bK (g:RG) (u:RGs):RGs:=λds ρ Q=>match ds with
 | []=>False
 | d::r=>g d ρ λρ'=>u r ρ' Q
theorem dD:DGs X [] gD:=PGs.mono RK λvs σ H Q hh=>yG hh λds ρ P r st q k=>by
 cases r with
 | nil=>exact⟨rfl,k ρ σ H q (Keep.refl H) st⟩
 | cons _ _=>exact q.elim
theorem bE {es:List Expr} {g:RG} {u:RGs} (h1:DG X e g) (h2:DGs X es u) (hs:(assignEach (e::es) X.env).map (·.2)=assign e X.env::(assignEach es X.env).map (·.2):=by rfl):DGs X (e::es) (bK g u) :=
 PGs.mono (NW h1 h2 hs) λvs σ H Q hh=>yG hh λds ρ P r st q k=>by
  cases r with
  | nil=>exact q.elim
  | cons r rs =>
   refine⟨_,_,rfl,_,ρ,_,r,st,q,λρ' σ' H' hq k1 st1=>⟨_,ρ',P,rs.keep k1,st1,hq,λρ2 σ2 H2 p k2 s2=>k ρ2 σ2 H2 p (k1.trans k2) s2⟩⟩
noncomputable def gE (n:Nat) (g:RGs):RG:=λd ρ Q=>match d with
 | .tup ds=>ds.length=n/\g ds ρ Q
 | _=>False
theorem eQ {es:List Expr} {k:Nat} {g:RGs} {n:Nat} (hc:X.calm=true) (h:DGs X es g) (hn:(assignEach es X.env).length=n:=by rfl) (hst:(assignEach es X.env).findIdx? (·.1)=none:=by rfl):DG X (.Tuple es k pos) (gE n g) :=
 PG.mono (WA hc h hn hst) λv σ H Q hh=>yG hh λd ρ P r st q kk=>by
  cases d with
  | tup ds =>
   cases r with
   | tup h r=>exact⟨_,_,rfl,SqT.of h,by rw[<-r.length];exact q.1,ds,ρ,P,r,st,q.2,kk⟩
  | _=>exact q.elim
noncomputable def SB (te:RE) (g:RG):RS:=λE ρ=>te ρ λd=>g d ρ E.nx
theorem MQ {tg:Expr} {g:RG} (he:DE X e te) (hg:DG X tg g) (hs:swapsWithSole [tg] e pos.line X.env=pure false:=by rfl) (hw:swappedStores [tg] e X.env=pure none:=by rfl)
  (h1:(assignEach [tg] X.env).map (·.2)=[assign tg X.env]:=by rfl):DS X (.Assign [tg] e pos) (SB te g) :=
 PS.mono (NZ he hg hs hw h1) λDe σ H hh=>fI hh λρ E st q n r b c=>⟨ρ,_,st,q,λd v H1 hd s1 rr=>⟨d,ρ,_,rr,st.ext s1,hd,λρ2 σ2 H2 x k2 s2=>n ρ2 σ2 H2 x ((Keep.of s1).trans k2) s2⟩⟩
noncomputable def bD (i:Nat) (te:RE):RS:=λE ρ=>te ρ λd=>E.nx (ρ.set i (some (.d d)))
theorem aP {i:Nat} {x:Str} {pos':Pos} (hN:X.N.Nodup) (he:DE X e te) (hi:X.N[i]? = some x:=by rfl) (hx:Loc X.env.scope x:=by walk_at "vis") (hs:swapsWith e (some (.Name x pos')) pos.line X.env=pure false:=by rfl)
  (hf:X.fn x=true\/X.env.scope.names.lookup x=some .local:=by walk_at "loc"):DS X (.Assign [.Name x pos'] e pos) (bD i te) :=
 PS.mono (OA hN hi hx he hs hf) λDe σ H hh=>fI hh λρ E st q n r b c=>⟨ρ,_,st,q,λd v H1 hd s1 rr=>n _ _ H1 hd (.of s1) ((st.ext s1).set_d rr)⟩
noncomputable def iO (i:Nat) (t:RA):RS:=λE ρ=>t ρ λds=>E.nx (ρ.set i (some (.own ds)))
theorem oE {i:Nat} {x:Str} {pos':Pos} {t:RA} (hN:X.N.Nodup) (he:DO X e t) (hi:X.N[i]? = some x:=by rfl) (hx:Loc X.env.scope x:=by walk_at "vis") (hs:swapsWith e (some (.Name x pos')) pos.line X.env=pure false:=by rfl)
  (hf:X.fn x=true\/X.env.scope.names.lookup x=some .local:=by walk_at "loc"):DS X (.Assign [.Name x pos'] e pos) (iO i t) :=
 PS.mono (OA hN hi hx he hs hf) λDe σ H hh=>fI hh λρ E st q n r b c=>⟨ρ,_,st,q,λds p vs H1 hd s1 hp rr=>n _ _ _ hd ((Keep.of s1).trans (.of λb o h=>by rw[aO (aT h hp)];exact h)) ((st.ext s1).set_own hp rr)⟩
noncomputable def WK (i j:Nat) (t:RA):RS:=λE ρ=>t ρ λds=>match ds with
 | [x,y]=>E.nx ((ρ.set i (some (.d x))).set j (some (.d y)))
 | _=>False
theorem UP {i j:Nat} {x y:Str} {t:RA} {px py pt:Pos} {kt k2 pt2} (hc:X.calm=true) (hN:X.N.Nodup) (ha:DA X [a,b] t) (hi:X.N[i]? = some x:=by rfl) (hj:X.N[j]? = some y:=by rfl) (hij:i≠j:=by decide)
  (hx:X.env.scope.names.lookup x=some .local:=by rfl) (hy:X.env.scope.names.lookup y=some .local:=by rfl)
  (hw:swappedStores [.Tuple [.Name x px,.Name y py] kt pt] (.Tuple [a,b] k2 pt2) X.env=pure (some [x,y]):=by rfl)
  (hs:swapsWithSole [.Tuple [.Name x px,.Name y py] kt pt] (.Tuple [a,b] k2 pt2) pos.line X.env=pure false:=by rfl) :
  DS X (.Assign [.Tuple [.Name x px,.Name y py] kt pt] (.Tuple [a,b] k2 pt2) pos) (WK i j t) :=
 PS.mono (WD hc hN hi hj hij hx hy ha hw hs) λDe σ H hh=>fI hh λρ E st q n r b c=>⟨ρ,_,st,q,λds vs H1 hd s1 rr=>by
  cases rr with
  | nil=>exact hd.elim
  | cons r1 t1 =>
   cases t1 with
   | nil=>exact hd.elim
   | cons r2 t2 =>
    cases t2 with
    | nil=>exact⟨_,_,rfl,n _ _ H1 hd (.of s1) (((st.ext s1).set_d r1).set_d r2)⟩
    | cons _ _=>exact hd.elim⟩
noncomputable def rE (i:Nat) (ρ:En):En:=match ρ[i]? with
 | some (some (.own ds))=>ρ.set i (some (.d (.lst ds)))
 | _=>ρ
theorem qQ (i:Nat) (h:DS X st t):DS X st (λE ρ=>t E (rE i ρ)):=by
 intro pins s σ H De I ⟨ρ,E,so,q,n,r,b,c⟩
 have q:t E (rE i ρ):=q
 unfold rE at q
 split at q
 ·rename_i ds e
  obtain⟨v,h1,p,vs,ev,hp,h0,rr⟩:=so.rel i _ e
  subst ev
  obtain⟨o,I2⟩:=Inv.freeze I hp
  have kp:Keep H (upd H p (.frz o (.lst vs))):=⟨λb ys h=>by rw[aO (GV h hp (by intro z;cases z))];exact h,λb o u h=>by rw[aO (GV h hp (by intro z;cases z))];exact h⟩
  have hi:i<ρ.length:=(List.getElem?_eq_some_iff.mp e).1
  have so2:StOk X (ρ.set i (some (.d (.lst ds)))) σ (upd H p (.frz o (.lst vs))):=by
   refine⟨by simp[so.len],λb u h=>?_,λj x ej=>?_,λj k xs ys a e1 e2 e3 e4=>?_⟩
   ·rw[aO (by rintro rfl;rw[h0] at h;cases h)];exact so.same b u h
   ·by_cases hj:i=j
    ·subst hj
     rw[List.getElem?_set_self hi] at ej
     cases ej
     exact⟨.ref p,h1,.lst (.inl ⟨o,bQ⟩) (rr.keep kp)⟩
    ·rw[List.getElem?_set_ne hj] at ej
     obtain⟨v,g1,g2⟩:=so.rel j x ej
     refine⟨v,g1,?_⟩
     cases x with
     | d x=>exact Rep.keep kp g2
     | own zs =>
      obtain⟨a,vs',e1,e2,e3,r'⟩:=g2
      refine⟨a,vs',e1,?_,e3,r'.keep kp⟩
      rw[aO]
      ·exact e2
      ·rintro rfl
       subst e1
       exact hj (so.sep i j _ _ _ e ej h1 g1)
   ·have back:∀{j:Nat} {zs:List D},(ρ.set i (some (.d (.lst ds))))[j]? = some (some (.own zs))->ρ[j]? = some (some (.own zs)):=λ{j zs} q=>by
     by_cases hj:i=j
     ·subst hj;rw[List.getElem?_set_self hi] at q;cases q
     ·rw[List.getElem?_set_ne hj] at q;exact q
    exact so.sep j k _ _ a (back e1) (back e2) e3 e4
  exact h pins s σ _ De I2 ⟨_,E,so2,q,λρ2 σ2 H2 x k2=>n ρ2 σ2 H2 x (kp.trans k2),λd v H2 x k2=>r d v H2 x (kp.trans k2),λρ2 σ2 H2 x k2=>b ρ2 σ2 H2 x (kp.trans k2),λρ2 σ2 H2 x k2=>c ρ2 σ2 H2 x (kp.trans k2)⟩
 ·exact h pins s σ H De I ⟨ρ,E,so,q,n,r,b,c⟩
noncomputable def fE (c:RT) (t:RS):Nat->RS
 | 0,_,_=>False
 | n+1,E,ρ=>c ρ λk=>if k=true then t { E with nx:=fE c t n E,ct:=fE c t n E,bk:=E.nx } ρ else E.nx ρ
noncomputable def nM (c:RT) (t:RS):RS:=λE ρ=>∃n,fE c t n E ρ
theorem tG {body:List Stmt} (hp:PassesOwn (model X.prog X.w) X.A X.env X.xe) (hc:DT X c tA) (hb:DSs X body t):DS X (.While c body [] pos) (nM tA t) :=
 PS.mono (OB hp hc hb) λDe σ H hh=>fI hh λρ E st mq n r b c=>by
  obtain⟨m,q⟩:=mq
  refine⟨λm σ' H'=>∃ρ',StOk X ρ' σ' H'/\Keep H H'/\fE tA t m E ρ',⟨m,ρ,st,Keep.refl H,q⟩,?_⟩
  rintro m σ' H' ⟨ρ',st',kp,hw⟩
  cases m with
  | zero=>exact hw.elim
  | succ m =>
   refine⟨ρ',_,st',hw,λk H1 hk s1=>?_⟩
   have kp1:=kp.trans (.of s1)
   cases k with
   | true =>
    dsimp only at hk ⊢
    rw[if_pos rfl] at hk ⊢
    refine⟨λσ2 H2=>∃ρ2,StOk X ρ2 σ2 H2/\Keep H H2/\fE tA t m E ρ2,λσ2 H2 ⟨ρ2,a1,a2,a3⟩=>⟨m,Nat.lt_succ_self m,ρ2,a1,a2,a3⟩,?_⟩
    exact⟨ρ',_,st'.ext s1,hk,λρ2 σ2 H2 x k2 s2=>⟨ρ2,s2,kp1.trans k2,x⟩,λd v H2 x k2=>r d v H2 x (kp1.trans k2),λρ2 σ2 H2 x k2=>n ρ2 σ2 H2 x (kp1.trans k2),λρ2 σ2 H2 x k2 s2=>⟨ρ2,s2,kp1.trans k2,x⟩⟩
   | false =>
    dsimp only at hk ⊢
    rw[if_neg Bool.false_ne_true] at hk ⊢
    exact n ρ' σ' H1 hk kp1 (st'.ext s1)
noncomputable def KU (X:Cx) (J:It) (xs:List D) (H0:Hp):Prop:=∀i H,Keep H0 H ->
 (∀d,xs[i]? = some d->J.go i H/\∀x H',J.yld i H x H'->Same H H'/\Rep X.K H' d x)/\(xs.length<=i->J.stop i H)
noncomputable def XU (X:Cx) (t:RA):TI:=λσ H R=>∃ρ P,StOk X ρ σ H/\t ρ P/\∀xs J H',P xs->Same H H'->KU X J xs H'->R J H'
noncomputable def DI (X:Cx) (tg iter:Expr) (t:RA):Prop:=PI X tg iter (XU X t)
theorem PI.mono {X:Cx} {tg e:Expr} {t t':TI} (h:PI X tg e t) (m:∀σ H Q,t' σ H Q->t σ H Q):PI X tg e t':=λpins s σ H Q I q=>h pins s σ H Q I (m σ H Q q)
noncomputable def rD (g:RG) (t:RS):List D->RS
 | [],E,ρ=>E.nx ρ
 | x::xs,E,ρ=>g x ρ λρ1=>t { E with nx:=rD g t xs E,ct:=rD g t xs E,bk:=E.nx } ρ1
noncomputable def iB (ti:RA) (g:RG) (t:RS):RS:=λE ρ=>ti ρ λxs=>rD g t xs E ρ
theorem dX {tg iter:Expr} {body:List Stmt} {ti:RA} {g:RG} (hp:PassesOwn (model X.prog X.w) X.A X.env X.xe) (hc:X.calm=true) (hi:DI X tg iter ti) (hg:DG X tg g) (hb:DSs X body t)
  (hs:∀x,foldedSetIterable iter X.env x=pure x:=by intro _;rfl):DS X (.For tg iter body [] pos) (iB ti g t) :=
 PS.mono (WC hp hc hi hg hb hs) λDe σ H hh=>fI hh λρ E st q n r b c=>by
  refine⟨ρ,_,st,q,λxs J H1 hx s1 ok=>?_⟩
  refine⟨λi m σ' H'=>m=xs.length-i/\i<=xs.length/\∃ρ',StOk X ρ' σ' H'/\Keep H1 H'/\rD g t (xs.drop i) E ρ',⟨xs.length,by simp,Nat.zero_le _,ρ,st.ext s1,Keep.refl H1,by simpa using hx⟩,?_⟩
  rintro i m σ' H' ⟨rfl,hi,ρ',st',kp,hf⟩
  obtain⟨o1,o2⟩:=ok i H' kp
  have kp1:Keep H H':=(Keep.of s1).trans kp
  by_cases hlt:i<xs.length
  ·have e:xs.drop i=xs[i]::xs.drop (i+1):=List.drop_eq_getElem_cons hlt
   rw[e] at hf
   obtain⟨go,yl⟩:=o1 xs[i] (List.getElem?_eq_getElem hlt)
   refine .inr ⟨go,λσ2 H2=>∃ρ2,StOk X ρ2 σ2 H2/\Keep H1 H2/\rD g t (xs.drop (i+1)) E ρ2,λσ2 H2 hh=>⟨xs.length-(i+1),by omega,rfl,hlt,hh⟩,λx H2 y=>?_⟩
   obtain⟨s2,rx⟩:=yl x H2 y
   refine⟨xs[i],ρ',_,rx,st'.ext s2,hf,λρ3 σ3 H3 h3 k3 s3=>?_⟩
   have k13:Keep H1 H3:=(kp.trans (.of s2)).trans k3
   have k03:Keep H H3:=(kp1.trans (.of s2)).trans k3
   exact⟨ρ3,_,s3,h3,λρ4 σ4 H4 x4 k4 s4=>⟨ρ4,s4,k13.trans k4,x4⟩,λd v H4 x4 k4=>r d v H4 x4 (k03.trans k4),λρ4 σ4 H4 x4 k4=>n ρ4 σ4 H4 x4 (k03.trans k4),λρ4 σ4 H4 x4 k4 s4=>⟨ρ4,s4,k13.trans k4,x4⟩⟩
  ·have e:i=xs.length:=by omega
   subst e
   rw[List.drop_length] at hf
   exact .inl ⟨o2 (Nat.le_refl _),n ρ' σ' H' hf kp1 st'⟩
end
section
variable {X:Cx} {tg e:Expr} {te:RE} {pos p:Pos}
noncomputable def riL (te:RE):RA:=λρ Q=>te ρ λd=>match d with
 | .lst ds=>Q ds
 | _=>False
theorem cW (h:DE X e te):DI X tg e (riL te):=by
 refine PI.mono (RL h) λσ H R hh=>bT hh λρ P st q k=>⟨ρ,_,st,q,λd v H1 hd s1 r=>?_⟩
 cases d with
 | lst ds =>
  cases r with
  | @lst a vs _ hz r =>
   refine⟨a,rfl,⟨vs,hz.sq⟩,k ds _ H1 hd s1 λi H2 kp=>⟨λd e=>?_,λhl=>⟨vs,(hz.keep kp).sq,by rw[<-r.length];exact hl⟩⟩⟩
   obtain⟨v,h1,h2⟩:=(r.keep kp).get e
   refine⟨⟨vs,v,(hz.keep kp).sq,h1⟩,λx H' y=>?_⟩
   obtain⟨e1,e2⟩:=y
   subst e1
   have e3:=e2 vs (hz.keep kp).sq
   rw[h1] at e3;cases e3
   exact⟨Same.refl _,h2⟩
 | _=>exact hd.elim
noncomputable def riT (te:RE):RA:=λρ Q=>te ρ λd=>match d with
 | .tup ds=>Q ds
 | _=>False
theorem DU (h:DE X e te):DI X tg e (riT te):=by
 refine PI.mono (WB h) λσ H R hh=>bT hh λρ P st q k=>⟨ρ,_,st,q,λd v H1 hd s1 r=>?_⟩
 cases d with
 | tup ds =>
  cases r with
  | @tup a vs _ hz r =>
   refine⟨a,rfl,⟨vs,SqT.of hz⟩,k ds _ H1 hd s1 λi H2 kp=>⟨λd e=>?_,λhl=>⟨vs,SqT.of (kp.tups _ _ hz),by rw[<-r.length];exact hl⟩⟩⟩
   obtain⟨v,h1,h2⟩:=(r.keep kp).get e
   refine⟨⟨vs,v,SqT.of (kp.tups _ _ hz),h1⟩,λx H' y=>?_⟩
   obtain⟨e1,e2⟩:=y
   subst e1
   have e3:=e2 vs (SqT.of (kp.tups _ _ hz))
   rw[h1] at e3;cases e3
   exact⟨Same.refl _,h2⟩
 | _=>exact hd.elim
noncomputable def fL (lo:Int) (n:Nat):List D:=(List.range n).map λk:Nat=>D.int (lo+(k:Int))
theorem VC {H0:Hp} (lo:Int) (n:Nat):KU X (Itr lo n) (fL lo n) H0:=λi H kp=>by
 refine⟨λd e=>?_,λhl=>by show n<=i;simpa [fL] using hl⟩
 unfold fL at e
 rw[List.getElem?_map] at e
 by_cases hi:i<n
 ·rw[List.getElem?_range hi] at e
  cases e
  exact⟨hi,λx H' y=>by obtain⟨rfl,rfl⟩:=y;exact⟨Same.refl _,.int _⟩⟩
 ·rw[List.getElem?_eq_none (by simpa using hi)] at e;cases e
structure RngOk (j:Int):Prop where
 lo:-(2 ^ 62)<=j
 hi:j<2 ^ 62
noncomputable def uK (t:RA):RA:=λρ Q=>t ρ λds=>match ds with
 | [.int j]=>RngOk j/\Q (fL 0 j.toNat)
 | _=>False
noncomputable def Af (t:RA):RA:=λρ Q=>t ρ λds=>match ds with
 | [.int i,.int j]=>(RngOk i/\RngOk j)/\Q (fL i (j-i).toNat)
 | _=>False
theorem fH {a:Expr} {t:RA} (hm:X.mg "range" = none) (ha:DA X [a] t) (hg:Gl X "range":=by rfl) (hs:starEach [a] X.env=[(false,eval a X.env)]:=by rfl):DI X tg (.Call (.Name "range" p) [a] [] pos) (uK t):=by
 refine PI.mono (JX hg hm ha hs) λσ H R hh=>bT hh λρ P st q k=>⟨ρ,_,st,q,λds vs H1 hd s1 r=>?_⟩
 split at hd
 ·rename_i j
  rw[Reps.ints_inv (ns:=[j]) r]
  exact⟨j,rfl,hd.1.lo,hd.1.hi,k _ _ H1 hd.2 s1 (VC 0 _)⟩
 ·exact hd.elim
end
noncomputable abbrev FD:=List D->(D->Prop)->Prop
noncomputable def spD (K:PySem.W.Frag) (F:FD):Sp:=λvs H Q _=>∃ds P,Reps K H ds vs/\F ds P/\∀d v H',P d->Same H H'->Rep K H' d v->Q v H'
noncomputable def aY (F:FD) (t:RA):RE:=λρ Q=>t ρ λds=>F ds Q
section
variable {X:Cx} {k:Nat} {f:Addr} {fd:FuncData} {ps:List Str} {F:FD} {x:Str} {p pos:Pos} {e:Expr} {es:List Expr} {t:RA}
theorem QC (G:FnOk X.prog X.w X.K X.mg X.base CX0 k f fd ps (spD X.K F)) (hr:Room k X.A) (hm:X.mg x=some (.ref f)) (hk:PySem.W.keepIn X.K (.ref f)=true) (hb:Binds X.K fd ps []) (ha:DA X (e::es) t) (hg:Gl X x:=by rfl)
  (hdb:(x == ("__debug__":Str))=false:=by decide) (he:starEach (e::es) X.env=(false,eval e X.env)::starEach es X.env:=by rfl) (hpl:(backTo pos (starEach es X.env)).any (·.1)=false:=by rfl) :
  DE X (.Call (.Name x p) (e::es) [] pos) (aY F t) :=
 PE.mono (RH (E:=E0) G hr hg hm hk hb .nil YF ha hdb he hpl) λσ H Q hh=>bT hh λρ P st q kk=>⟨ρ,_,st,q,λds vs H1 hd s1 r=>by
  show spD X.K F (vs++[]) H1 Q E0
  rw[List.append_nil]
  exact⟨ds,P,r,hd,λd v H2 hp s2 r2=>kk d v H2 hp (s1.trans s2) r2⟩⟩
end
noncomputable def aS (N:List Str) (ds:List D):En:=ds.map (λd=>some (.d d))++List.replicate (N.length-ds.length) none
section
variable {P:Program} {w:World} {K:PySem.W.Frag} {mg:Str->Option Value} {base:Heap}
theorem OU {X:Cx} {N:List Str} {ds:List D} {vs:List V} (r:Reps X.K X.H₀ ds vs):StOk X (aS N ds) (start N vs) X.H₀:=by
 have hl:=r.length
 have own:∀(i:Nat) (xs:List D),(aS N ds)[i]?≠some (some (S.own xs)):=λi xs e=>by
  unfold aS at e
  by_cases hi:i<ds.length
  ·rw[List.getElem?_append_left (by simpa using hi),List.getElem?_map,List.getElem?_eq_getElem hi] at e
   cases e
  ·rw[List.getElem?_append_right (by simpa using hi),List.getElem?_replicate] at e
   split at e <;> cases e
 refine⟨by simp[aS,start,hl],Same.refl _,λi x e=>?_,λi j xs ys a e1 _ _ _=>absurd e1 (own i xs)⟩
 unfold aS at e
 by_cases hi:i<ds.length
 ·rw[List.getElem?_append_left (by simpa using hi),List.getElem?_map,List.getElem?_eq_getElem hi] at e
  cases e
  obtain⟨v,h1,h2⟩:=r.get (List.getElem?_eq_getElem hi)
  refine⟨v,?_,h2⟩
  unfold start
  rw[List.getElem?_append_left (by simpa [<-hl] using hi),List.getElem?_map,h1];rfl
 ·rw[List.getElem?_append_right (by simpa using hi),List.getElem?_replicate] at e
  split at e <;> cases e
theorem TN {x qual:Str} {st:Stmt} {f:Addr} {fd:FuncData} {N ps:List Str} {k:Nat} {F:FD} {t:RS} (Fu:Fun K x qual st f fd) (Sc:FnScope N ps (aE st))
  (hbody:∀(cdv:Value) (A:Around) (outer:List Env) (s:Shared) (H:Hp) (E:XK),Room k (A.deeper (envOfC qual (aE st) s.heap.objs.size f cdv)) ->
   DSs (dA CX0 P w K mg base N qual (aE st) f cdv A outer s H E).nox (aM st) t)
  (len:∀ds Q,F ds Q->ds.length=ps.length) (pure:∀ds Q,F ds Q->t { nx:=λ_=>Q .non,rt:=Q } (aS N ds)):FnOk P w K mg base CX0 (k+1) f fd ps (spD K F):=by
 refine Fu.ok Sc (λvs H Q E ⟨ds,P,r,h,_⟩=>by rw[<-r.length];exact len ds P h) λcdv A outer s H vs Q E hr ⟨ds,P',r,h,kk⟩=>⟨_,hbody cdv A outer s H E hr,?_⟩
 exact⟨aS N ds,_,OU (X:=(dA CX0 P w K mg base N qual (aE st) f cdv A outer s H E).nox) r,pure ds P' h,λρ' σ' H' hq k s'=>kk .non .non H' hq s'.same .non,λd v H' hq k sm rv=>kk d v H' hq sm rv,λ_ _ _ z=>z.elim,λ_ _ _ z=>z.elim⟩
end
noncomputable def BL (n:Nat) (i:Int):Prop:=i.natAbs<2 ^ n
theorem BL.bits {n:Nat} {i:Int} (h:BL n i):Builtin.Int.intBits i<=n:=intBits_le_iff.mpr h
theorem BL.of {n:Nat} {i:Int} (h:Builtin.Int.intBits i<=n):BL n i:=intBits_le_iff.mp h
theorem BL.mono {m n:Nat} {i:Int} (h:BL m i) (l:m<=n):BL n i:=BL.of (Nat.le_trans h.bits l)
theorem BL.add {m n:Nat} {i j:Int} (a:BL m i) (b:BL n j):BL (max m n+1) (i+j):=BL.of (intBits_add_le a.bits b.bits)
theorem BL.sub {m n:Nat} {i j:Int} (a:BL m i) (b:BL n j):BL (max m n+1) (i-j):=BL.of (intBits_sub_le a.bits b.bits)
theorem BL.mul {m n:Nat} {i j:Int} (a:BL m i) (b:BL n j):BL (m+n) (i*j):=BL.of (intBits_mul_le a.bits b.bits)
theorem BL.neg {m:Nat} {i:Int} (a:BL m i):BL m (-i):=BL.of (intBits_neg_le a.bits)
theorem BL.fdiv {m:Nat} {i j:Int} (a:BL m i):BL m (i.fdiv j):=BL.of (intBits_fdiv_le a.bits)
theorem BL.le {m:Nat} {i j:Int} (a:BL m j) (h:i.natAbs<=j.natAbs):BL m i:=Nat.lt_of_le_of_lt h a
theorem BL.of_lt {m:Nat} {i:Int} (h1:-(2 ^ m:Nat)<i) (h2:i<(2 ^ m:Nat)):BL m i:=by unfold BL;omega
theorem BL.intMulOk {m n:Nat} {i j:Int} (a:BL m i) (b:BL n j) (h:m+n<=134217728):IntMulOk i j:=IntMulOk.of_le a.bits b.bits h
theorem BL.noPy {i j:Int} (h:BL 9000 j):Builtin.divisionGoesByPylong i j=false:=by
 refine PyProof.noPylong_of_log2 ?_
 by_cases h0:j.natAbs=0
 ·rw[h0];decide +kernel
 ·exact (Nat.log2_lt h0).mpr h
section
variable {X:Cx} {e a b c:Expr} {pos:Pos}
theorem RepB.int_inv {K:PySem.W.Frag} {H:Hp} {i:Int} {v:V} (h:RepB K H (.int i) v):v = .int i:=by
 rcases h with h | ⟨ds,a,vs,e1,_⟩
 ·exact h.int_inv
 ·cases e1
theorem RepB.bl_inv {K:PySem.W.Frag} {H:Hp} {i:Bool} {v:V} (h:RepB K H (.bl i) v):v = .bl i:=by
 rcases h with h | ⟨ds,a,vs,e1,_⟩
 ·exact h.bl_inv
 ·cases e1
theorem RepB.non_inv {K:PySem.W.Frag} {H:Hp} {v:V} (h:RepB K H .non v):v = .non:=by
 rcases h with h | ⟨ds,a,vs,e1,_⟩
 ·cases h;rfl
 ·cases e1
theorem RepB.is_non {K:PySem.W.Frag} {H:Hp} {d:D} {v:V} (h:RepB K H d v):decide (v = .non)=(match d with | .non=>true | _=>false):=by
 rcases h with h | ⟨ds,a,vs,e1,e2,_⟩
 ·cases h <;> simp
 ·subst e1 e2;simp
structure MulOk (i j:Int):Prop where
 ok:IntMulOk i j
structure DivOk (i j:Int):Prop where
 nz:j≠0
 np:Builtin.divisionGoesByPylong i j=false
structure ModOk (j:Int):Prop where
 nz:j≠0
structure PowOk (i j:Int):Prop where
 ok:0<=j/\j<=1000000/\i.natAbs<2 ^ 64
theorem BL.mulOk {m n:Nat} {i j:Int} (a:BL m i) (b:BL n j) (h:m+n<=134217728:=by decide):MulOk i j:=⟨a.intMulOk b h⟩
theorem BL.divOk {i j:Int} (h:BL 9000 j) (nz:j≠0):DivOk i j:=⟨nz,h.noPy⟩
noncomputable def cF:R22:=λx y Q=>match x,y with
 | .int i,.int j=>Q (.int (i+j))
 | _,_=>False
noncomputable def cI:R22:=λx y Q=>match x,y with
 | .int i,.int j=>Q (.int (i-j))
 | _,_=>False
noncomputable def bV:R22:=λx y Q=>match x,y with
 | .int i,.int j=>MulOk i j/\Q (.int (i*j))
 | _,_=>False
noncomputable def cR:R22:=λx y Q=>match x,y with
 | .int i,.int j=>DivOk i j/\Q (.int (i.fdiv j))
 | _,_=>False
noncomputable def cH:R22:=λx y Q=>match x,y with
 | .int i,.int j=>ModOk j/\Q (.int (i.fmod j))
 | _,_=>False
noncomputable def pM:R22:=λx y Q=>match x,y with
 | .int i,.int j=>PowOk i j/\Q (.int (i ^ j.toNat))
 | _,_=>False
theorem JV {f:Value->Value->Sem Value} {C:Int->Int->Prop} {g:Int->Int->Int} {r:R22} (h:OpR X f (rI C λi j=>.int (g i j)))
  (hr:∀x y Q,r x y Q->∃i j,x = .int i/\y = .int j/\C i j/\Q (.int (g i j))):OpD X f r:=by
 intro pins s σ H x y v u Q I rx ry hh_0
 obtain⟨d,e,P,r1,r2,q,k⟩:=hh_0
 obtain⟨i,j,rfl,rfl,hc,q⟩:=hr _ _ _ q
 exact h pins s σ H x y v u Q I rx ry ⟨i,j,r1.int_inv,r2.int_inv,hc,k _ _ H q (Same.refl H) (.int _)⟩
theorem bI:OpD X (binaryOp .Add) cF:=JV (C:=λ_ _=>True) (g:=λi j=>i+j) (opI λ_ _ _ _ _ _ _ _ q=>add_int q) λx y Q q=>by
 unfold cF at q;split at q
 ·exact⟨_,_,rfl,rfl,trivial,q⟩
 ·exact q.elim
theorem bH:OpD X (binaryOp .Sub) cI:=JV (C:=λ_ _=>True) (g:=λi j=>i-j) (opI λ_ _ _ _ _ _ _ _ q=>sub_int q) λx y Q q=>by
 unfold cI at q;split at q
 ·exact⟨_,_,rfl,rfl,trivial,q⟩
 ·exact q.elim
theorem bB:OpD X (binaryOp .Mult) bV:=JV (C:=λi j=>IntMulOk i j) (g:=λi j=>i*j) (opI λ_ _ _ _ _ _ _ hc q=>mul_int q hc) λx y Q q=>by
 unfold bV at q;split at q
 ·exact⟨_,_,rfl,rfl,q.1.ok,q.2⟩
 ·exact q.elim
theorem cD:OpD X (binaryOp .FloorDiv) cR:=JV (C:=λi j=>j≠0/\Builtin.divisionGoesByPylong i j=false) (g:=λi j=>i.fdiv j) (opI λ_ _ _ _ _ _ _ hc q=>floordiv_int hc.1 q (.inl hc.2)) λx y Q q=>by
 unfold cR at q;split at q
 ·exact⟨_,_,rfl,rfl,⟨q.1.nz,q.1.np⟩,q.2⟩
 ·exact q.elim
theorem bN:OpD X (binaryOp .Mod) cH:=JV (C:=λ_ j=>j≠0) (g:=λi j=>i.fmod j) (opI λ_ _ _ _ _ _ _ hc q=>mod_int' hc q) λx y Q q=>by
 unfold cH at q;split at q
 ·exact⟨_,_,rfl,rfl,q.1.nz,q.2⟩
 ·exact q.elim
theorem tU:OpD X (binaryOp .Pow) pM:=JV (C:=λi j=>0<=j/\j<=1000000/\i.natAbs<2 ^ 64) (g:=λi j=>i ^ j.toNat) (opI λ_ _ _ _ _ _ _ hc q=>pow_int_small hc.1 hc.2.1 hc.2.2 q) λx y Q q=>by
 unfold pM at q;split at q
 ·exact⟨_,_,rfl,rfl,q.1.ok,q.2⟩
 ·exact q.elim
noncomputable def pL:D->(D->Prop)->Prop:=λx Q=>match x with
 | .int i=>Q (.int (-i))
 | _=>False
theorem qL:UnD X (unaryOp .USub) pL:=by
 intro pins s σ H x v Q I rx hh_0
 obtain⟨d,P,r,q,k⟩:=hh_0
 unfold pL at q;split at q
 ·rename_i i
  exact XB pins s σ H x v Q I rx ⟨i,r.int_inv,k _ _ H q (Same.refl H) (.int _)⟩
 ·exact q.elim
noncomputable def eJ (p:Int->Int->Bool):R22:=λx y Q=>match x,y with
 | .int i,.int j=>Q (.bl (p i j))
 | _,_=>False
theorem QZ {f:Value->Value->Sem Value} {p:Int->Int->Bool} (h:OpR X f (rI0 λi j=>.bl (p i j))):OpD X f (eJ p):=by
 intro pins s σ H x y v u Q I rx ry hh_0
 obtain⟨d,e,P,r1,r2,q,k⟩:=hh_0
 unfold eJ at q;split at q
 ·rename_i i j
  exact h pins s σ H x y v u Q I rx ry ⟨i,j,r1.int_inv,r2.int_inv,k _ _ H q (Same.refl H) (.bl _)⟩
 ·exact q.elim
theorem qT:OpD X (compareOp .Lt) (eJ λi j=>decide (i<j)):=QZ YE
theorem GZ:OpD X (compareOp .LtE) (eJ λi j=>decide (i<=j)):=QZ YD
theorem GY:OpD X (compareOp .Gt) (eJ λi j=>decide (j<i)):=QZ YC
theorem YA:OpD X (compareOp .GtE) (eJ λi j=>decide (j<=i)):=QZ YB
noncomputable def jE (neg:Bool):R22:=λx y Q=>match x,y with
 | .int i,.int j=>Q (.bl (if neg then !decide (i=j) else decide (i=j)))
 | .bl i,.bl j=>Q (.bl (if neg then !decide (i=j) else decide (i=j)))
 | _,_=>False
theorem pY:OpD X (compareOp .Eq) (jE false):=by
 intro pins s σ H x y v u Q I rx ry hh_0
 obtain⟨d,e,P,r1,r2,q,k⟩:=hh_0
 unfold jE at q;split at q
 ·rename_i i j
  rw[r1.int_inv] at rx;rw[r2.int_inv] at ry
  exact TZ pins s σ H _ _ v u Q I rx ry ⟨rfl,by
   have e:decide (V.int i=V.int j)=decide (i=j):=by simp
   rw[e];exact k _ _ H q (Same.refl H) (.bl _)⟩
 ·rename_i i j
  rw[r1.bl_inv] at rx;rw[r2.bl_inv] at ry
  exact TZ pins s σ H _ _ v u Q I rx ry ⟨rfl,by
   have e:decide (V.bl i=V.bl j)=decide (i=j):=by simp
   rw[e];exact k _ _ H q (Same.refl H) (.bl _)⟩
 ·exact q.elim
theorem yS:OpD X (compareOp .NotEq) (jE true):=by
 intro pins s σ H x y v u Q I rx ry hh_0
 obtain⟨d,e,P,r1,r2,q,k⟩:=hh_0
 unfold jE at q;split at q
 ·rename_i i j
  rw[r1.int_inv] at rx;rw[r2.int_inv] at ry
  exact UA pins s σ H _ _ v u Q I rx ry ⟨rfl,by
   have e:decide (V.int i=V.int j)=decide (i=j):=by simp
   rw[e];exact k _ _ H q (Same.refl H) (.bl _)⟩
 ·rename_i i j
  rw[r1.bl_inv] at rx;rw[r2.bl_inv] at ry
  exact UA pins s σ H _ _ v u Q I rx ry ⟨rfl,by
   have e:decide (V.bl i=V.bl j)=decide (i=j):=by simp
   rw[e];exact k _ _ H q (Same.refl H) (.bl _)⟩
 ·exact q.elim
noncomputable def AU:D->Bool
 | .non=>true
 | _=>false
noncomputable def AE (neg:Bool):R22:=λx y Q=>match y with
 | .non=>Q (.bl (if neg then !AU x else AU x))
 | _=>False
theorem NA {K:PySem.W.Frag} {H:Hp} {d:D} {v:V} (h:RepB K H d v):decide (v = .non)=AU d:=by
 rw[h.is_non];cases d <;> rfl
theorem yR:OpD X (compareOp .Is) (AE false):=by
 intro pins s σ H x y v u Q I rx ry hh_0
 obtain⟨d,e,P,r1,r2,q,k⟩:=hh_0
 unfold AE at q;split at q
 ·exact VN pins s σ H x y v u Q I rx ry ⟨r2.non_inv,by rw[NA r1];exact k _ _ H q (Same.refl H) (.bl _)⟩
 ·exact q.elim
noncomputable def dIx:R22:=λx y Q=>match x,y with
 | .lst ds,.int i=>match atI ds i with
  | some d=>Q d
  | none=>False
 | .tup ds,.int i=>match atI ds i with
  | some d=>Q d
  | none=>False
 | _,_=>False
theorem zM {K:PySem.W.Frag} {H:Hp} {ds:List D} {vs:List V} {i:Int} {d:D} (r:Reps K H ds vs) (h:atI ds i=some d):∃v,atI vs i=some v/\Rep K H d v:=by
 unfold atI at h ⊢
 rw[<-r.length]
 cases e:ixN ds.length i with
 | none=>rw[e] at h;cases h
 | some j =>
  rw[e] at h
  exact r.get h
theorem aI {ta tb:RE} (ha:DB X a ta) (hb:DB X b tb) (hs:FS b:=by intro _ _;rfl):DE X (.Subscript a b pos) (r2 dIx ta tb):=by
 refine PE.mono (YH (QK.or VD) ha hb hs) λσ H Q h=>?_
 obtain⟨ρ,P,st,ht,hP⟩:=h
 refine⟨ρ,_,st,ht,λx v H1 h1 s1 r1=>⟨ρ,_,st.ext s1,h1,λy u H2 h2 s2 r2=>?_⟩⟩
 have r1':=r1.same s2
 unfold dIx at h2;split at h2
 ·rename_i ds i
  split at h2
  ·rename_i d e
   obtain⟨p,vs,rfl,hq,rr⟩:=r1'.lst
   obtain⟨w',e',rw'⟩:=zM rr e
   exact .inl ⟨p,vs,i,w',rfl,r2.int_inv,hq,e',hP d w' H2 h2 (s1.trans s2) rw'⟩
  ·exact h2.elim
 ·rename_i ds i
  split at h2
  ·rename_i d e
   obtain⟨p,vs,rfl,hq,rr⟩:=r1'.tup
   obtain⟨w',e',rw'⟩:=zM rr e
   exact .inr ⟨p,vs,i,w',rfl,r2.int_inv,SqT.of hq,e',hP d w' H2 h2 (s1.trans s2) rw'⟩
  ·exact h2.elim
 ·exact h2.elim
noncomputable abbrev RO:=En->(Option Int->Prop)->Prop
noncomputable def XW (X:Cx) (t:RO):TO:=λσ H Q=>∃ρ P,StOk X ρ σ H/\t ρ P/\∀o H',P o->Same H H'->Q o H'
noncomputable def DP (X:Cx) (e:Option Expr) (t:RO):Prop:=PO X e (XW X t)
noncomputable def eW:RO:=λ_ Q=>Q none
noncomputable def gZ (t:RE):RO:=λρ Q=>t ρ λd=>match d with
 | .int i=>Q (some i)
 | _=>False
theorem lV:DP X none eW:=λpins s σ H Q I hh=>bT hh λρ P st q k=>RQ pins s σ H Q I (k none H q (Same.refl H))
theorem iI {t:RE} (h:DE X e t):DP X (some e) (gZ t):=λpins s σ H Q I hh=>bT hh λρ P st q k=>RU h pins s σ H Q I ⟨ρ,_,st,q,λd v H1 hd s1 r=>by
 cases d with
 | int i=>exact⟨i,r.int_inv,k (some i) H1 hd s1⟩
 | _=>exact hd.elim⟩
noncomputable def jD (xs:List D) (lo hi:Option Int):List D:=(xs.drop (HT.sIx xs.length 0 lo)).take (HT.sIx xs.length xs.length hi-HT.sIx xs.length 0 lo)
noncomputable def HJ (te:RE) (tl th:RO):RA:=λρ Q=>te ρ λx=>tl ρ λl=>th ρ λu=>match x with
 | .lst ds=>Q (jD ds l u)
 | _=>False
theorem MP {lo hi:Option Expr} {te:RE} {tl th:RO} {p2:Pos} (he:DB X e te) (hl:DP X lo tl) (hu:DP X hi th):DO X (.Subscript e (.Slice lo hi none p2) pos) (HJ te tl th):=by
 refine PE.mono (BS HR he hl hu) λσ H Q hh=>bT hh λρ P st q k=>?_
 refine⟨ρ,_,st,q,λd v H1 hd s1 r1=>⟨ρ,_,st.ext s1,hd,λl H2 h2 s2=>⟨ρ,_,(st.ext s1).ext s2,h2,λu H3 h3 s3=>?_⟩⟩⟩
 cases d with
 | lst ds =>
  obtain⟨p,vs,rfl,hq,rr⟩:=(r1.same (s2.trans s3)).lst
  refine⟨p,vs,rfl,hq,λp' hp'=>k (jD ds l u) p' (vL vs l u) H3 h3 ((s1.trans s2).trans s3) hp' ?_⟩
  unfold jD vL
  rw[<-rr.length]
  exact (rr.drop _).take _
 | _=>exact h3.elim
noncomputable def VI (X:Cx) (r:List D->(D->Prop)->Prop):List V->Hp->VK->Prop:=λxs H Q=>∃ds P,Reps X.K H ds xs/\r ds P/\∀z v H',P z->Same H H'->Rep X.K H' z v->Q v H'
noncomputable def vZ (X:Cx) (f:Value) (r:List D->(D->Prop)->Prop):Prop:=gS X f (VI X r)
noncomputable def rCB (r:List D->(D->Prop)->Prop) (t:RA):RE:=λρ Q=>t ρ λds=>r ds Q
variable {x:Str} {p:Pos} {es:List Expr} {t:RA} {id T:String} {r:List D->(D->Prop)->Prop}
theorem dH (hc:vZ X (.builtin id) r) (hm:X.mg x=none) (hv:bootBuiltins x=some (.builtin id)) (ha:DA X (e::es) t) (hg:Gl X x:=by rfl) (hn:x≠"__name__":=by decide) (hdb:(x == ("__debug__":Str))=false:=by decide)
  (he:starEach (e::es) X.env=(false,eval e X.env)::starEach es X.env:=by rfl) (hpl:(backTo pos (starEach es X.env)).any (·.1)=false:=by rfl):DE X (.Call (.Name x p) (e::es) [] pos) (rCB r t) :=
 PE.mono (gX hc hg hm hv ha hn hdb he hpl) λσ H Q hh=>bT hh λρ P st q k=>⟨ρ,_,st,q,λds vs H1 hd s1 rr=>⟨ds,P,rr,hd,λz v H2 hz s2 r2=>k z v H2 hz (s1.trans s2) r2⟩⟩
theorem wN (hc:vZ X (.type T) r) (hm:X.mg x=none) (hv:bootBuiltins x=some (.type T)) (ha:DA X (e::es) t) (hg:Gl X x:=by rfl) (hn:x≠"__name__":=by decide) (hdb:(x == ("__debug__":Str))=false:=by decide)
  (he:starEach (e::es) X.env=(false,eval e X.env)::starEach es X.env:=by rfl) (hpl:(backTo pos (starEach es X.env)).any (·.1)=false:=by rfl):DE X (.Call (.Name x p) (e::es) [] pos) (rCB r t) :=
 PE.mono (qC hc hg hm hv ha hn hdb he hpl) λσ H Q hh=>bT hh λρ P st q k=>⟨ρ,_,st,q,λds vs H1 hd s1 rr=>⟨ds,P,rr,hd,λz v H2 hz s2 r2=>k z v H2 hz (s1.trans s2) r2⟩⟩
noncomputable def xW:List D->(D->Prop)->Prop:=λds Q=>match ds with
 | [.int i]=>Q (.int (if i<0 then -i else i))
 | _=>False
theorem pK:vZ X (.builtin "abs") xW:=by
 intro pins s σ H xs us Q I rv hh_0
 obtain⟨ds,P,r,q,k⟩:=hh_0
 unfold xW at q;split at q
 ·rename_i i
  cases r with
  | cons r1 r2 =>
   cases r2
   rw[r1.int_inv] at rv
   exact LN pins s σ H _ us Q I rv ⟨i,rfl,k _ _ H q (Same.refl H) (.int _)⟩
 ·exact q.elim
noncomputable def LY:List D->(D->Prop)->Prop:=λds Q=>match ds with
 | [.bl b]=>Q (.int (if b then 1 else 0))
 | [.int i]=>Q (.int i)
 | _=>False
theorem LO:vZ X (.type "int") LY:=by
 intro pins s σ H xs us Q I rv hh_0
 obtain⟨ds,P,r,q,k⟩:=hh_0
 unfold LY at q;split at q
 ·rename_i i
  cases r with
  | cons r1 r2 =>
   cases r2
   rw[r1.bl_inv] at rv
   exact wH pins s σ H _ us Q I rv (.inr ⟨i,rfl,k _ _ H q (Same.refl H) (.int _)⟩)
 ·rename_i i
  cases r with
  | cons r1 r2 =>
   cases r2
   rw[r1.int_inv] at rv
   exact wH pins s σ H _ us Q I rv (.inl ⟨i,rfl,k _ _ H q (Same.refl H) (.int _)⟩)
 ·exact q.elim
noncomputable def wK:List D->(D->Prop)->Prop:=λds Q=>match ds with
 | [.int i,.int j]=>Q (.int (if j > i then j else i))
 | _=>False
noncomputable def wM:List D->(D->Prop)->Prop:=λds Q=>match ds with
 | [.int i,.int j]=>Q (.int (if j<i then j else i))
 | _=>False
theorem xU (hc:X.calm=true:=by rfl):vZ X (.builtin "max") wK:=by
 intro pins s σ H xs us Q I rv hh_0
 obtain⟨ds,P,r,q,k⟩:=hh_0
 unfold wK at q;split at q
 ·rename_i i j
  ·rw[Reps.ints_inv (ns:=[i,j]) r] at rv
   exact IG hc pins s σ H _ us Q I rv ⟨i,j,rfl,k _ _ H q (Same.refl H) (.int _)⟩
 ·exact q.elim
theorem FW (hc:X.calm=true:=by rfl):vZ X (.builtin "min") wM:=by
 intro pins s σ H xs us Q I rv hh_0
 obtain⟨ds,P,r,q,k⟩:=hh_0
 unfold wM at q;split at q
 ·rename_i i j
  ·rw[Reps.ints_inv (ns:=[i,j]) r] at rv
   exact II hc pins s σ H _ us Q I rv ⟨i,j,rfl,k _ _ H q (Same.refl H) (.int _)⟩
 ·exact q.elim
noncomputable def dU:D->(D->Prop)->Prop:=λd Q=>match d with
 | .lst ds=>Q (.int ds.length)
 | .tup ds=>Q (.int ds.length)
 | _=>False
theorem fZ {t:TE} (h:PE X e t) (hs:starEach [e] X.env=[(false,eval e X.env)]:=by rfl) (hn:starEach [] X.env=[]:=by rfl):PA X [e] (λσ H Q=>t σ H λv H'=>Q [v] H') :=
 PA.mono (iM h tZ (by rw[hs,hn])) λσ H Q q=>q
theorem dW {te:RE} (hm:X.mg "len" = none) (h:DB X e te) (hg:Gl X "len":=by rfl) (hs:starEach [e] X.env=[(false,eval e X.env)]:=by rfl) (hn:starEach [] X.env=[]:=by rfl):DE X (.Call (.Name "len" p) [e] [] pos) (r1 dU te):=by
 refine PE.mono (gX xR hg hm PySem.boot_len (fZ h hs hn) (by decide) (by decide) (by rw[hs,hn]) (by rw[hn];rfl)) λσ H Q hh=>bT hh λρ P st q k=>⟨ρ,_,st,q,λd v H1 hd s1 r=>?_⟩
 unfold dU at hd;split at hd
 ·obtain⟨p,vs,rfl,hq,rr⟩:=r.lst
  exact⟨p,vs,rfl,.inl hq,by rw[<-rr.length];exact k _ _ H1 hd s1 (.int _)⟩
 ·obtain⟨p,vs,rfl,hq,rr⟩:=r.tup
  exact⟨p,vs,rfl,.inr (SqT.of hq),by rw[<-rr.length];exact k _ _ H1 hd s1 (.int _)⟩
 ·exact hd.elim
end
section
variable {X:Cx} {pins:List (Addr × Obj)} {σ:St} {H:Hp} {s:Shared} {h':Heap}
theorem _root_.L2.Inv.turnedL {t':Nat} {ch:List Addr} (I:Inv X pins σ H s) (k:∀b o,b ∉ ch->s.heap.get? b=some o->h'.get? b=some o) (f:∀b∈ch,pD X pins H b):Inv X pins σ H { s with heap:=h',toks:=t' }:=by
 have nit:∀b u,H b=some u->b ∉ ch:=λb u e z=>by rw[(f b z).1] at e;cases e
 refine I.step (g':=s.gens) (d':=s.drawn) (ch:=ch) (λb hb=>⟨(f b hb).2.2.2.1,(f b hb).2.1,(f b hb).2.2.2.2.1,(f b hb).2.2.2.2.2⟩) (λb o _ _ hc e _=>k b o hc e) (λb o _ _ hc e _=>⟨o.slots,k b o hc e⟩) (λ_ _ _ _ n=>n)
  (λb o hc e=>⟨o,k b o hc e⟩) (λ_ _ e=>e) (λ_ _ _ e=>e) (λb ps e=>⟨#[],by rw[e];simp⟩) (λm hm=>?_) (λb u e=>?_) I.bare
 ·obtain⟨o,es,ep,ho,r⟩:=hm
  exact⟨o,es,ep,k _ o (λz=>(f _ z).2.1 rfl) ho,r⟩
 ·refine (I.hok b u e).stay (λc v hc q=>k c v ?_ q) (λ_ q=>q) λ_ _ q=>q
  rcases hc with z | z
  ·rw[z];exact nit b u e
  ·exact nit c _ z
theorem _root_.L2.Inv.turnedT {t':Nat} {ch:List Addr} {T:Addr} {xs:List V} {its:List Value} (I:Inv X pins σ H s) (k:∀b o,b ∉ ch->s.heap.get? b=some o->h'.get? b=some o) (f:∀b∈ch,pD X pins H b)
  (hT:s.heap.objs.size<=T) (ht:h'.IsTuple T its.toArray) (rv:Vals xs its) (hz:xs.length<=sizeLine):Inv X pins σ (upd H T (.tup xs)) { s with heap:=h',toks:=t' }:=by
 have nit:∀b u,H b=some u->b ∉ ch:=λb u e z=>by rw[(f b z).1] at e;cases e
 have hn:H T=none:=I.hok.fresh hT
 have ne:∀{b:Addr} {o:Obj},s.heap.get? b=some o->b≠T:=λe=>Nat.ne_of_lt (Nat.lt_of_lt_of_le (Heap.lt_size e) hT)
 refine I.step (g':=s.gens) (d':=s.drawn) (ch:=ch) (λb hb=>⟨(f b hb).2.2.2.1,(f b hb).2.1,(f b hb).2.2.2.2.1,(f b hb).2.2.2.2.2⟩) (λb o _ _ hc e _=>k b o hc e) (λb o _ _ hc e _=>⟨o.slots,k b o hc e⟩) (λb o _ e n=>by rw[aO (ne e)];exact n)
  (λb o hc e=>⟨o,k b o hc e⟩) (λb ys e=>by rw[aO (aT e hn)];exact e) (λb o u e=>by rw[aO (aT e hn)];exact e) (λb ps e=>⟨#[],by rw[aO (aT e hn),e];simp⟩) (λm hm=>?_) (λb u e=>?_) I.bare
 ·obtain⟨o,es,ep,ho,r⟩:=hm
  exact⟨o,es,ep,k _ o (λz=>(f _ z).2.1 rfl) ho,r⟩
 ·by_cases hb:b=T
  ·subst hb
   rw[bQ] at e;cases e
   exact⟨hz,its,rv,ht⟩
  ·rw[aO hb] at e
   refine (I.hok b u e).stay (λc v hc q=>k c v ?_ q) (λc q=>by rw[aO (aT q hn)];exact q) λc ys q=>by rw[aO (aT q hn)];exact q
   rcases hc with z | z
   ·rw[z];exact nit b u e
   ·exact nit c _ z
end
noncomputable def XL (ds:List D):List D:=ds.zipIdx.map λp=>D.tup [.int (p.2:Int),p.1]
section
variable {X:Cx} {e:Expr} {te:RE} {pos p:Pos} {elts:List Expr} {k:Nat} {tp:Pos}
noncomputable def Ae (te:RE):RA:=λρ Q=>te ρ λd=>match d with
 | .lst ds=>Q (XL ds)
 | _=>False
end
noncomputable def JB (T:String):D->Option Bool
 | .non=>some (T == "NoneType")
 | .bl _=>some (T == "bool" || T == "int")
 | .int _=>some (T == "int")
 | .str _=>some (T == "str")
 | .tup _=>some (T == "tuple")
 | .lst _=>none
noncomputable def xX (T:String):D->(D->Prop)->Prop:=λd Q=>match JB T d with
 | some b=>Q (.bl b)
 | none=>False
structure TyTab (K:PySem.W.Frag) (T:String):Prop where
 non:PySem.W.kitOne K (.type "NoneType") (.type T)=some (T == "NoneType")
 bl:PySem.W.kitOne K (.type "bool") (.type T)=some (T == "bool" || T == "int")
 int:PySem.W.kitOne K (.type "int") (.type T)=some (T == "int")
 str:PySem.W.kitOne K (.type "str") (.type T)=some (T == "str")
 tup:PySem.W.kitOne K (.type "tuple") (.type T)=some (T == "tuple")
section
variable {X:Cx} {e:Expr} {te:RE} {pos p p2:Pos} {T:String} {x:Str}
theorem tE (tab:TyTab X.K T) (hm:X.mg "isinstance" = none) (hT:X.mg x=none) (hb:bootBuiltins x=some (.type T)) (h:DE X e te) (hg:Gl X "isinstance":=by rfl) (hgT:Gl X x:=by rfl) (hn:x≠"__name__":=by decide) (hd:(x == ("__debug__":Str))=false:=by decide)
  (hs:starEach [e,.Name x p2] X.env=(false,eval e X.env)::starEach [.Name x p2] X.env:=by rfl) (hs2:starEach [.Name x p2] X.env=(false,eval (.Name x p2) X.env)::starEach [] X.env:=by rfl) (hpl:(backTo pos (starEach [.Name x p2] X.env)).any (·.1)=false:=by rfl) :
  DE X (.Call (.Name "isinstance" p) [e,.Name x p2] [] pos) (r1 (xX T) te):=by
 have hc:gS X (.builtin "isinstance") (λxs H Q=>∃d v P,xs=[v,.ty T]/\Rep X.K H d v/\xX T d P/\∀b,P (.bl b)->Q (.bl b) H):=by
  intro pins s σ H xs us Q I r hh_0
  obtain⟨d,v,P,ex,rd,q,k⟩:=hh_0
  subst ex
  obtain⟨u,w',rfl,r1,r2⟩:=CP r
  cases r2
  unfold xX at q
  split at q
  ·rename_i b eb
   have fin:∀{t:Value},TyOf X.K H v t->PySem.W.kitOne X.K t (.type T)=some b->wpAny (model X.prog X.w) X.A (call (.builtin "isinstance") [u,.type T]) (EP X pins σ Q) X.xe s:=λty e=>JC I r1 ty e λtk=>⟨.bl b,H,I.tok tk,rfl,k b q⟩
   cases rd with
   | non=>cases eb;exact fin .non tab.non
   | bl _=>cases eb;exact fin (.bl _) tab.bl
   | int _=>cases eb;exact fin (.int _) tab.int
   | str _=>cases eb;exact fin (.str _) tab.str
   | tup h _=>cases eb;exact fin (.tup h) tab.tup
   | lst _ _=>cases eb
  ·exact q.elim
 refine PE.mono (gX hc hg hm PyProof.Rows.boot_isinstance (iM h (iM (RD (v:=.ty T) hgT hT hb rfl hn hd) tZ hs2) hs) (by decide) (by decide) hs hpl) λσ H Q hh=>bT hh λρ P st q k=>?_
 refine⟨ρ,_,st,q,λd v H1 hd s1 r=>⟨d,v,P,rfl,r,hd,λb hb=>k _ _ H1 hb s1 (.bl b)⟩⟩
end
theorem gM:bootBuiltins "abs" = some (.builtin "abs"):=by decide +kernel
theorem pJ:bootBuiltins "max" = some (.builtin "max"):=by decide +kernel
theorem wG:bootBuiltins "min" = some (.builtin "min"):=by decide +kernel
theorem pH:bootBuiltins "int" = some (.type "int"):=by decide +kernel
theorem DJ:bootBuiltins "bool" = some (.type "bool"):=by decide +kernel
theorem kX:bootBuiltins "tuple" = some (.type "tuple"):=by decide +kernel
theorem SO (K:PySem.W.Frag):TyTab K "int":=⟨by rfl,by rfl,by rfl,by rfl,by rfl⟩
theorem OZ (K:PySem.W.Frag):TyTab K "bool":=⟨by rfl,by rfl,by rfl,by rfl,by rfl⟩
theorem qK (K:PySem.W.Frag):TyTab K "tuple":=⟨by rfl,by rfl,by rfl,by rfl,by rfl⟩
theorem oB {P:List Value->Prop} (h:∀a,P [a]):∀us:List Value,us.length=1->P us
 | [a],_=>h a
theorem iE {P:List Value->Prop} (h:∀a b,P [a,b]) (us:List Value) (hl:us.length=2):P us:=by
 cases us with
 | nil=>cases hl
 | cons a us=>exact oB (P:=λus=>P (a::us)) (h a) us (Nat.succ.inj hl)
theorem sU {P:List Value->Prop} (h:∀a b c,P [a,b,c]) (us:List Value) (hl:us.length=3):P us:=by
 cases us with
 | nil=>cases hl
 | cons a us=>exact iE (P:=λus=>P (a::us)) (h a) us (Nat.succ.inj hl)
theorem XH {P:List Value->Prop} (h:∀a b c d,P [a,b,c,d]) (us:List Value) (hl:us.length=4):P us:=by
 cases us with
 | nil=>cases hl
 | cons a us=>exact sU (P:=λus=>P (a::us)) (h a) us (Nat.succ.inj hl)
structure FnAt (P:Program) (w:World) (K:PySem.W.Frag) (mg:Str->Option Value) (base:Heap) (x:Str) (ps:List Str) (k:Nat) (F:FD):Prop where
 ex:∃f fd,FnOk P w K mg base CX0 k f fd ps (spD K F)/\Binds K fd ps []/\PySem.W.keepIn K (.ref f)=true/\mg x=some (.ref f)
structure DefAt (K:PySem.W.Frag) (mg:Str->Option Value) (x:Str) (st:Stmt) (ps:List Str):Prop where
 ex:∃f fd,Fun K x x st f fd/\mg x=some (.ref f)/\∀us:List Value,us.length=ps.length->bindArgs fd ⟨us,[]⟩=pure (ps.zip us)
section
variable {P:Program} {w:World} {K:PySem.W.Frag} {mg:Str->Option Value} {base:Heap}
theorem DefAt.ok {x:Str} {st:Stmt} {N ps:List Str} {k:Nat} {F:FD} {t:RS} (Z:DefAt K mg x st ps) (Sc:FnScope N ps (aE st))
  (hbody:∀{f:Addr} (cdv:Value) (A:Around) (outer:List Env) (s:Shared) (H:Hp) (E:XK),Room k (A.deeper (envOfC x (aE st) s.heap.objs.size f cdv)) ->
   DSs (dA CX0 P w K mg base N x (aE st) f cdv A outer s H E).nox (aM st) t)
  (len:∀ds Q,F ds Q->ds.length=ps.length) (pure:∀ds Q,F ds Q->t { nx:=λ_=>Q .non,rt:=Q } (aS N ds)):FnAt P w K mg base x ps (k+1) F:=by
 obtain⟨f,fd,a,b,c⟩:=Z.ex
 exact⟨f,fd,TN a Sc (λcdv A outer s H E hr=>hbody cdv A outer s H E hr) len pure,.all c,a.kp,b⟩
theorem DefAt.okL {x:Str} {st:Stmt} {ps:List Str} {k:Nat} {F:FD} (Z:DefAt K mg x st ps) (h:∀(base:Heap) (f:Addr) (fd:FuncData),Fun K x x st f fd->FnOk P w K mg base CX0 k f fd ps (spD K F)) :
  ∃f fd,mg x=some (.ref f)/\(∀us:List Value,us.length=ps.length->bindArgs fd ⟨us,[]⟩=pure (ps.zip us))/\∀base,FnOk P w K mg base CX0 k f fd ps (spD K F):=by
 obtain⟨f,fd,a,b,c⟩:=Z.ex
 exact⟨f,fd,b,c,λbase=>h base f fd a⟩
end
section
variable {X:Cx} {k:Nat} {ps:List Str} {F:FD} {x:Str} {p pos:Pos} {e:Expr} {es:List Expr} {t:RA}
theorem aQ (C:FnAt X.prog X.w X.K X.mg X.base x ps k F) (hr:Room k X.A) (ha:DA X (e::es) t) (hg:Gl X x:=by rfl)
  (hdb:(x == ("__debug__":Str))=false:=by decide) (he:starEach (e::es) X.env=(false,eval e X.env)::starEach es X.env:=by rfl) (hpl:(backTo pos (starEach es X.env)).any (·.1)=false:=by rfl) :
  DE X (.Call (.Name x p) (e::es) [] pos) (aY F t):=by
 obtain⟨f,fd,G,hb,hk,hm⟩:=C.ex
 exact QC G hr hm hk hb ha hg hdb he hpl
end
noncomputable def HZ (n:Nat):FD:=λds Q=>∃ns:List Int,ds=[.lst (ns.map .int)]/\ns.length<=n/\Q (.bl true)
theorem WX {K:PySem.W.Frag} {H:Hp} {a:Addr} {vs:List V} (hO:PP H) (h:SqL K H a vs):FzL K H a vs:=by
 rcases h with (h | ⟨o,h⟩) | h
 ·rcases hO a with z | ⟨o,xs,z⟩
  ·rw[z] at h;cases h
  ·rw[z] at h;cases h
 ·exact .inl ⟨o,h⟩
 ·exact .inr h
theorem walk_law {l:PySem.W.OpenLaw} {q:Program} {loose:List Str} {XP:(Str->Option Value)->Heap->Prop} {YP:World->Heap->Prop} {d:DefRec} {K:Params->PySem.W.Frag} {x:Str} {k:Nat}
  (hn:l.most=some 63) (hdf:d.params.defaults=[]) (hr:Room k callerA)
  (hY:∀(w:World) (h:Heap),YP w h->(K w.params).In h) (hd:d.name = "law")
  (F:∀(w:World) (mg:Str->Option Value) (h:Heap),(K w.params).In h->h.Ns mainGlobals mg ->
   ∃f fd,mg "law" = some (.ref f)/\(∀us:List Value,us.length=[x].length->bindArgs fd ⟨us,[]⟩=pure ([x].zip us))/\∀base,FnOk l.prog w (K w.params) mg base CX0 k f fd [x] (spD (K w.params) (HZ 63))) :
  PySem.W.WalkO q loose XP YP l.row.toRowW d [] (λf vs=>PySem.call f vs):=by
 refine L2.walk_of (n:=63) (k:=k) (x:=x) (CX:=λ_=>CX0) (sp:=λw=>spD (K w.params) (HZ 63)) hn (by decide) hdf hr hY ?_ ?_ λ_ _ _ _ _ z=>z
 ·intro w mg fa h KX G hmg
  rw[hd] at hmg
  obtain⟨f,fd,hm,hb,hF⟩:=F w mg h KX G
  rw[hmg] at hm;cases hm
  exact⟨fd,λs u=>.of_eq (hb [u] rfl),λbase _ _=>hF base⟩
 ·intro w H a ns hl hO hS
  exact⟨[.lst (ns.map .int)],λd=>d = .bl true,.cons (.lst (WX hO hS) .ints) .nil,⟨ns,rfl,hl,rfl⟩,λd v H' e _ r=>by subst e;exact r.bl_inv⟩
noncomputable def eqL (f:D->D->Option Bool):List D->List D->Option Bool
 | [],[]=>some true
 | [],_::_=>some false
 | _::_,[]=>some false
 | x::xs,y::ys=>match f x y,eqL f xs ys with
  | some a,some b=>some (a && b)
  | _,_=>none
noncomputable def eqF:Nat->D->D->Option Bool
 | 0,_,_=>none
 | n+1,d,e=>match d,e with
  | .int a,.int b=>some (decide (a=b))
  | .bl a,.bl b=>some (decide (a=b))
  | .non,.non=>some true
  | .non,.tup _=>some false
  | .tup _,.non=>some false
  | .tup xs,.tup ys=>eqL (eqF n) xs ys
  | .lst xs,.lst ys=>eqL (eqF n) xs ys
  | _,_=>none
theorem sI {f:D->D->Option Bool}:∀{xs ys:List D} {b:Bool},eqL f xs ys=some b->∀(j:Nat) (x y:D),xs[j]? = some x->ys[j]? = some y->∃c,f x y=some c
 | [],_,_,_,j,x,y,e,_=>by simp at e
 | _::_,[],_,_,j,x,y,_,e=>by simp at e
 | a::xs,c::ys,b,h,j,x,y,e1,e2=>by
  unfold eqL at h
  split at h
  ·rename_i p q hp hq
   cases j with
   | zero=>simp at e1 e2;subst e1 e2;exact⟨p,hp⟩
   | succ j=>exact sI hq j x y (by simpa using e1) (by simpa using e2)
  ·cases h
theorem oG {f:D->D->Option Bool}:∀{xs ys:List D} {b:Bool},eqL f xs ys=some b ->
  ((List.range (min xs.length ys.length)).all (λj=>match xs[j]?,ys[j]? with | some x,some y=>(f x y).getD false | _,_=>false) && xs.length == ys.length)=b
 | [],[],b,h=>by cases h;rfl
 | [],_::_,b,h=>by cases h;rfl
 | _::_,[],b,h=>by cases h;rfl
 | x::xs,y::ys,b,h=>by
  unfold eqL at h
  split at h
  ·rename_i p q hp hq
   cases h
   have ih:=oG hq
   rw[<-ih]
   simp only[List.length_cons,Nat.succ_min_succ,List.range_succ_eq_map,List.all_cons,List.getElem?_cons_zero,hp,Option.getD_some,List.all_map]
   rw[Bool.and_assoc]
   congr 1
   congr 1
   rw[Bool.eq_iff_iff];simp
  ·cases h
section
variable {X:Cx} {pins:List (Addr × Obj)} {σ:St} {H:Hp} {s:Shared}
theorem tI {f:D->D->Option Bool} (hf:∀{d e:D} {v:V} {b:Bool},f d e=some b->Rep X.K H d v->Rep X.K H e v->b=true):∀{xs ys:List D} {vs:List V} {b:Bool},eqL f xs ys=some b->Reps X.K H xs vs->Reps X.K H ys vs->b=true:=by
 intro xs
 induction xs with
 | nil=>intro ys vs b h q1 q2;cases q1;cases q2;cases h;rfl
 | cons x xs ih =>
  intro ys vs b h q1 q2
  cases q1 with
  | cons r t =>
   cases q2 with
   | cons r' t' =>
    unfold eqL at h
    split at h
    ·rename_i p q hp hq
     cases h
     rw[hf hp r r',ih hq t t'];rfl
    ·cases h
theorem oF (I:Inv X pins σ H s):∀(n:Nat) {d e:D} {v:V} {b:Bool},eqF n d e=some b->Rep X.K H d v->Rep X.K H e v->b=true
 | 0,_,_,_,_,h,_,_=>by cases h
 | n+1,d,e,v,b,h,r1,r2=>by
  unfold eqF at h
  split at h
  ·rw[r1.int_inv] at r2;cases r2;cases h;simp
  ·rw[r1.bl_inv] at r2;cases r2;cases h;simp
  ·cases h;rfl
  ·cases r1;cases r2
  ·cases r2;cases r1
  ·rename_i xs ys
   cases r1 with
   | @tup a vs _ h1 q1 =>
    cases r2 with
    | @tup _ ws _ h2 q2 =>
     rw[h1] at h2;cases h2
     exact tI (λ{d e v b}=>oF I n) h q1 q2
  ·rename_i xs ys
   cases r1 with
   | @lst a vs _ h1 q1 =>
    cases r2 with
    | @lst _ ws _ h2 q2 =>
     rw[I.list_inj h2.sq h1.sq] at q2
     exact tI (λ{d e v b}=>oF I n) h q1 q2
  ·cases h
theorem AL (I:Inv X pins σ H s) {n:Nat} {xs ys:List D} {a c:Addr} {vs ws:List V} {b:Bool} {A:Around} (h:eqL (eqF n) xs ys=some b) (h1:SqL X.K H a vs) (q1:Reps X.K H xs vs) (h2:SqL X.K H c ws) (q2:Reps X.K H ys ws) (hu:A.units<cLine)
  (at':∀{d e:D} {v u:V} {x y:Value} {b:Bool},eqF n d e=some b->Rep X.K H d v->Rep X.K H e u->RelV v x->RelV u y->SeqAt.EqAt A.in1 s x y b):SeqAt.RcAt A s (.ref a) (.ref c) b/\SeqAt.EqAt A s (.ref a) (.ref c) b:=by
 obtain⟨its,rv,ht,_⟩:=I.list h1
 obtain⟨its2,rv2,ht2,_⟩:=I.list h2
 have l1:xs.length=its.length:=q1.length.trans rv.length
 have l2:ys.length=its2.length:=q2.length.trans rv2.length
 have rc:SeqAt.RcAt A s (.ref a) (.ref c) b:=by
  by_cases hl:xs.length=ys.length
  ·have:=SeqAt.RcAt.lists (A:=A) (s:=s) (e:=λj=>match xs[j]?,ys[j]? with | some x,some y=>(eqF n x y).getD false | _,_=>false) ht.isList ht2.isList (by simp;omega) hu (λj g1 g2=>?_)
   ·have al:=oG h
    simp only[List.size_toArray,<-l1] at this
    rw[<-hl,Nat.min_self,beq_self_eq_true,Bool.and_true] at al
    rw[al] at this
    exact this
   ·simp only[List.size_toArray] at g1 g2
    have e1:xs[j]? = some (xs[j]'(by omega)):=List.getElem?_eq_getElem _
    have e2:ys[j]? = some (ys[j]'(by omega)):=List.getElem?_eq_getElem _
    obtain⟨k,hk⟩:=sI h j _ _ e1 e2
    rw[e1,e2]
    simp only[hk,Option.getD_some]
    obtain⟨v1,f1,f2⟩:=q1.get e1
    obtain⟨v2,f3,f4⟩:=q2.get e2
    obtain⟨u1,g3,g4⟩:=rv.get f1
    obtain⟨u2,g5,g6⟩:=rv2.get f3
    have a1:its.toArray[j]=u1:=by
     have:=List.getElem?_eq_getElem g1
     rw[this] at g3
     simpa using Option.some.inj g3
    have a2:its2.toArray[j]=u2:=by
     have:=List.getElem?_eq_getElem g2
     rw[this] at g5
     simpa using Option.some.inj g5
    rw[a1,a2]
    exact at' hk f2 f4 g4 g6
  ·have al:=oG h
   have:(xs.length == ys.length)=false:=by simpa using hl
   rw[this,Bool.and_false] at al
   rw[<-al]
   exact SeqAt.RcAt.lists_lengths ht.isList ht2.isList (by simp;omega) hu
 refine⟨rc,?_⟩
 by_cases hac:a=c
 ·subst hac
  rw[I.list_inj h2 h1] at q2
  rw[tI (λ{d e v b}=>oF I n) h q1 q2]
  exact SeqAt.EqAt.same _
 ·exact SeqAt.EqAt.of_refs hac rc
theorem pP (I:Inv X pins σ H s):∀(n:Nat) {d e:D} {v u:V} {x y:Value} {b:Bool} {A:Around},eqF n d e=some b->Rep X.K H d v->Rep X.K H e u->RelV v x->RelV u y->A.units+n<cLine ->
  SeqAt.RcAt A s x y b/\SeqAt.EqAt A s x y b
 | 0,_,_,_,_,_,_,_,_,h,_,_,_,_,_=>by cases h
 | n+1,d,e,v,u,x,y,b,A,h,r1,r2,rx,ry,hu=>by
  have same:=λ(hvu:v=u)=>oF I (n+1) h r1 (hvu ▸ r2)
  unfold eqF at h
  split at h
  ·rename_i i j
   rw[r1.int_inv] at rx;rw[r2.int_inv] at ry
   obtain⟨t,rfl⟩:=rx
   obtain⟨t',rfl⟩:=ry
   cases h
   have e:decide (i=j)=(i == j):=by rw[Bool.beq_eq_decide_eq]
   rw[e]
   exact⟨SeqAt.RcAt.int_int _ _ _ _,SeqAt.EqAt.int_int _ _ _ _⟩
  ·rename_i i j
   rw[r1.bl_inv] at rx;rw[r2.bl_inv] at ry
   cases rx;cases ry
   cases h
   have e:decide (i=j)=(i == j):=by rw[Bool.beq_eq_decide_eq]
   rw[e]
   exact⟨SeqAt.RcAt.bool_bool _ _,SeqAt.EqAt.bool_bool _ _⟩
  ·cases r1;cases r2;cases rx;cases ry;cases h
   exact⟨SeqAt.RcAt.none_none,SeqAt.EqAt.same _⟩
  ·cases r1
   cases r2 with
   | tup h2 q2 =>
    cases rx;cases ry;cases h
    obtain⟨its,rv,ht,_⟩:=I.tuple (SqT.of h2)
    exact⟨SeqAt.RcAt.none_tuple ht (by omega),SeqAt.EqAt.none_tuple ht (by omega)⟩
  ·cases r2
   cases r1 with
   | tup h2 q2 =>
    cases rx;cases ry;cases h
    obtain⟨its,rv,ht,_⟩:=I.tuple (SqT.of h2)
    exact⟨SeqAt.RcAt.tuple_none ht (by omega),SeqAt.EqAt.tuple_none ht (by omega)⟩
  ·rename_i xs ys
   cases r1 with
   | @tup a vs _ h1 q1 =>
    cases r2 with
    | @tup c ws _ h2 q2 =>
     cases rx;cases ry
     obtain⟨its,rv,ht,_⟩:=I.tuple (SqT.of h1)
     obtain⟨its2,rv2,ht2,_⟩:=I.tuple (SqT.of h2)
     have l1:xs.length=its.length:=q1.length.trans rv.length
     have l2:ys.length=its2.length:=q2.length.trans rv2.length
     have rc:SeqAt.RcAt A s (.ref a) (.ref c) b:=by
      have:=SeqAt.RcAt.tuples (A:=A) (s:=s) (e:=λj=>match xs[j]?,ys[j]? with | some x,some y=>(eqF n x y).getD false | _,_=>false) ht ht2 (by omega) (λj g1 g2=>?_)
      ·simp only[List.size_toArray,<-l1,<-l2] at this
       rw[oG h] at this
       exact this
      ·simp only[List.size_toArray] at g1 g2
       have e1:xs[j]? = some (xs[j]'(by omega)):=List.getElem?_eq_getElem _
       have e2:ys[j]? = some (ys[j]'(by omega)):=List.getElem?_eq_getElem _
       obtain⟨k,hk⟩:=sI h j _ _ e1 e2
       rw[e1,e2]
       simp only[hk,Option.getD_some]
       obtain⟨v1,f1,f2⟩:=q1.get e1
       obtain⟨v2,f3,f4⟩:=q2.get e2
       obtain⟨u1,g3,g4⟩:=rv.get f1
       obtain⟨u2,g5,g6⟩:=rv2.get f3
       have a1:its.toArray[j]=u1:=by
        have:=List.getElem?_eq_getElem g1
        rw[this] at g3
        simpa using Option.some.inj g3
       have a2:its2.toArray[j]=u2:=by
        have:=List.getElem?_eq_getElem g2
        rw[this] at g5
        simpa using Option.some.inj g5
       rw[a1,a2]
       exact (pP I n hk f2 f4 g4 g6 (by show A.units+1+n<cLine;omega)).2
     refine⟨rc,?_⟩
     by_cases hac:a=c
     ·subst hac
      rw[same rfl]
      exact SeqAt.EqAt.same _
     ·exact SeqAt.EqAt.of_refs hac rc
  ·rename_i xs ys
   cases r1 with
   | @lst a vs _ h1 q1 =>
    cases r2 with
    | @lst c ws _ h2 q2 =>
     cases rx;cases ry
     exact AL I h h1.sq q1 h2.sq q2 (by omega) λ{d e v u x y b} hk f2 f4 g4 g6=>(pP I n hk f2 f4 g4 g6 (by show A.units+1+n<cLine;omega)).2
  ·cases h
end
noncomputable def dEq:R22:=λx y Q=>match eqF 6 x y with
 | some b=>Q (.bl b)
 | none=>False
section
variable {X:Cx}
theorem UR {X:Cx} {pins:List (Addr × Obj)} {σ:St} {H:Hp} {s:Shared} (I:Inv X pins σ H s) {d e:D} {v u:V} {x y:Value} {b:Bool} {A:Around} (h:eqF 6 d e=some b) (r1:RepB X.K H d v) (r2:RepB X.K H e u) (rx:RelV v x) (ry:RelV u y) (hu:A.units+6<cLine):SeqAt.RcAt A s x y b:=by
 by_cases hl:∃xs ys,d = .lst xs/\e = .lst ys
 ·obtain⟨xs,ys,rfl,rfl⟩:=hl
  obtain⟨a,vs,rfl,h1,q1⟩:=r1.lst
  obtain⟨c,ws,rfl,h2,q2⟩:=r2.lst
  cases rx;cases ry
  exact (AL I (n:=5) h h1 q1 h2 q2 (by omega) λ{d e v u x y b} hk f2 f4 g4 g6=>(pP I 5 hk f2 f4 g4 g6 (by show A.units+1+5<cLine;omega)).2).1
 ·have p1:Rep X.K H d v:=by
   rcases r1 with r | ⟨ds,a,vs,e1,_⟩
   ·exact r
   ·subst e1;cases e <;> first | (cases h;done) | exact absurd ⟨_,_,rfl,rfl⟩ hl
  have p2:Rep X.K H e u:=by
   rcases r2 with r | ⟨ds,a,vs,e1,_⟩
   ·exact r
   ·subst e1;cases d <;> first | (cases h;done) | exact absurd ⟨_,_,rfl,rfl⟩ hl
  exact (pP I 6 h p1 p2 rx ry hu).1
theorem XZ {k:Nat} (hr:Room k X.A):OpD X (compareOp .Eq) dEq:=by
 intro pins s σ H x y v u Q I rx ry hh_0
 obtain⟨d,e,P,r1,r2,q,kk⟩:=hh_0
 unfold dEq at q
 split at q
 ·rename_i b hb
  have hu:=hr.units
  exact UR I (A:=X.A) hb r1 r2 rx ry (by omega) _ _ _ _ ⟨.bl b,H,I,rfl,kk _ _ H q (Same.refl H) (.bl b)⟩
 ·exact q.elim
end
theorem kY (env:Env):∀(names:List (Str × NameKind)) (acc:List (Str × Addr)),(∀y∈names,y.2 = .free->∃c,env.cells.lookup y.1=some c) ->
  ∃cl:List (Str × Addr),(do
   let mut cs:=acc
   for (name,kind) in names do
    if kind == .free then cs:=(name,<-cellOf env name)::cs
   return cs:Sem (List (Str × Addr)))=pure cl/\(∀p∈cl,p∈acc\/env.cells.lookup p.1=some p.2)/\(∀p∈acc,p∈cl)/\∀y∈names,y.2 = .free->∃c,(y.1,c)∈cl
 | [],acc,_=>⟨acc,by simp,λp h=>.inl h,λp h=>h,λy h=>by simp at h⟩
 | (n,k)::r,acc,h=>by
  by_cases hk:k = .free
  ·subst hk
   obtain⟨c,hc⟩:=h _ List.mem_cons_self rfl
   obtain⟨cl,e,h1,h2,h3⟩:=kY env r ((n,c)::acc) λy hy=>h y (List.mem_cons_of_mem _ hy)
   refine⟨cl,?_,λp hp=>?_,λp hp=>h2 p (List.mem_cons_of_mem _ hp),λy hy hf=>?_⟩
   ·rw[<-e]
    have hcell:cellOf env n=pure c:=by unfold cellOf;rw[hc]
    simp only[List.forIn_cons,hcell,beq_self_eq_true,if_true,pure_bind]
   ·rcases h1 p hp with q | q
    ·rcases List.mem_cons.mp q with rfl | q
     ·exact .inr hc
     ·exact .inl q
    ·exact .inr q
   ·rcases List.mem_cons.mp hy with rfl | hy
    ·exact⟨c,h2 _ List.mem_cons_self⟩
    ·exact h3 y hy hf
  ·obtain⟨cl,e,h1,h2,h3⟩:=kY env r acc λy hy=>h y (List.mem_cons_of_mem _ hy)
   refine⟨cl,?_,h1,h2,λy hy hf=>?_⟩
   ·rw[<-e]
    have hb:(k == NameKind.free)=false:=by simpa using hk
    simp only[List.forIn_cons,hb,Bool.false_eq_true,if_false,pure_bind]
   ·rcases List.mem_cons.mp hy with rfl | hy
    ·exact absurd hf hk
    ·exact h3 y hy hf
theorem mL {α:Type}:∀{l:List (Str × α)} {x:Str} {c:α},(x,c)∈l->∃c',l.lookup x=some c'
 | [],_,_,h=>by simp at h
 | (y,d)::r,x,c,h=>by
  rw[List.lookup_cons]
  cases e:x == y with
  | true=>exact⟨d,rfl⟩
  | false =>
   rcases List.mem_cons.mp h with q | q
   ·cases q;rw[beq_self_eq_true] at e;cases e
   ·exact mL q
theorem sX {scope:Scope} {env:Env} (h:∀y∈scope.names,y.2 = .free->∃c,env.cells.lookup y.1=some c) :
  ∃cl,closureFor scope env=pure cl/\(∀x c,cl.lookup x=some c->env.cells.lookup x=some c)/\∀y∈scope.names,y.2 = .free->∃c,cl.lookup y.1=some c:=by
 obtain⟨cl,e,h1,_,h3⟩:=kY env scope.names [] h
 refine⟨cl,e,λx c hx=>?_,λy hy hf=>?_⟩
 ·rcases h1 _ (PySem.mem_of_lookup hx) with q | q
  ·simp at q
  ·exact q
 ·obtain⟨c,hc⟩:=h3 y hy hf
  exact mL hc
noncomputable def iV (X:Cx) (scope:Scope) (N:List Str) (cl:List (Str × Addr)) (C:Addr) (s:Shared) (H:Hp) (fp:List Addr):Cx where
 prog:=X.prog
 w:=X.w
 K:=X.K
 mg:=X.mg
 base:=X.base
 A:=X.A
 N:=N
 s₀:=s
 H₀:=H
 env:=compEnvC scope cl C X.env
 outer:=X.stack
 stack:=X.stack
 ex:=fp
 fn:=λ_=>false
 calm:=X.calm
 pn:=[]
 xe:=λ_ _=>False
structure CScope (X:Cx) (scope:Scope):Prop where
 kind:scope.kind = .function
 nocell:∀y∈scope.names,y.2≠.cell
 locs:∀y∈scope.names,y.2 = .local->scope.names.lookup y.1=some .local
 frees:∀y∈scope.names,y.2 = .free->X.env.kindOf y.1=some .cell\/X.env.kindOf y.1=some .free
theorem eS {env:Env}:∀{names:List (Str × NameKind)} {x:Str} {k:NameKind},(names.map λ(n,k)=>if (k == NameKind.free && env.scope.kind == .function && env.kindOf n == some .cell) then (n,NameKind.cell) else (n,k)).lookup x=some k ->
  (k = .cell\/k = .free)->(∀y∈names,y.2≠.cell)->(x,.free)∈names
 | [],_,_,h,_,_=>by simp at h
 | (n,j)::r,x,k,h,hk,hn=>by
  have h:List.lookup x ((if (j == NameKind.free && env.scope.kind == .function && env.kindOf n == some .cell)=true then (n,NameKind.cell) else (n,j))::r.map λ(n,k)=>if (k == NameKind.free && env.scope.kind == .function && env.kindOf n == some .cell) then (n,NameKind.cell) else (n,k))=some k:=h
  have hn':∀y∈r,y.2≠.cell:=λy hy=>hn y (List.mem_cons_of_mem _ hy)
  cases hx:x == n with
  | true =>
   have e:x=n:=eq_of_beq hx
   subst e
   by_cases hc:(j == NameKind.free && env.scope.kind == .function && env.kindOf x == some .cell)=true
   ·have hj:j = .free:=by
     rw[Bool.and_eq_true,Bool.and_eq_true] at hc
     exact eq_of_beq hc.1.1
    subst hj
    exact List.mem_cons_self
   ·rw[if_neg hc,List.lookup_cons,beq_self_eq_true] at h
    cases h
    rcases hk with rfl | rfl
    ·exact absurd rfl (hn _ List.mem_cons_self)
    ·exact List.mem_cons_self
  | false =>
   by_cases hc:(j == NameKind.free && env.scope.kind == .function && env.kindOf n == some .cell)=true
   ·rw[if_pos hc,List.lookup_cons,hx] at h
    exact List.mem_cons_of_mem _ (eS h hk hn')
   ·rw[if_neg hc,List.lookup_cons,hx] at h
    exact List.mem_cons_of_mem _ (eS h hk hn')
section
variable {X:Cx} {pins:List (Addr × Obj)} {σ:St} {H:Hp} {s:Shared} {scope:Scope} {N:List Str} {cl:List (Str × Addr)} {C:Addr} {fp:List Addr}
theorem PY (I:Inv X pins σ H s) (Sc:CScope X scope) (hcl:∀x c,cl.lookup x=some c->X.env.cells.lookup x=some c) (hall:∀y∈scope.names,y.2 = .free->∃c,cl.lookup y.1=some c)
  (hC:s.heap.objs.size<=C) (hf:∀b∈fp,pD X pins H b) (hlt:∀b∈fp,b<s.heap.objs.size):(iV X scope N cl C s H fp).Ok:=by
 refine⟨I.ok.mod,Sc.kind,I.ok.glob,I.ok.blt,hC,λx y c h1 h2=>I.ok.inj x y c (hcl x c h1) (hcl y c h2),λx hx=>?_,λx c hx=>absurd (show false=true from hx) Bool.false_ne_true,I.ok.hd,I.ok.frames,.inl rfl,λb hb=>?_,I.bs,Nat.le_trans I.ok.bsz I.sz,λb o e hb=>?_,λb hb hfs=>?_,I.stack,I.stkFree⟩
 ·have hx:(scope.names.map λ(n,k)=>if (k == NameKind.free && X.env.scope.kind == .function && X.env.kindOf n == some .cell) then (n,NameKind.cell) else (n,k)).lookup x=some .cell\/(scope.names.map λ(n,k)=>if (k == NameKind.free && X.env.scope.kind == .function && X.env.kindOf n == some .cell) then (n,NameKind.cell) else (n,k)).lookup x=some .free:=hx
  have:(x,NameKind.free)∈scope.names:=by
   rcases hx with hx | hx
   ·exact eS hx (.inl rfl) Sc.nocell
   ·exact eS hx (.inr rfl) Sc.nocell
  exact hall _ this rfl
 ·obtain⟨f0,f1,f2,f3,f4,f5⟩:=hf b hb
  exact⟨Nat.ne_of_lt (Nat.lt_of_lt_of_le (hlt b hb) hC),λx c e=>f4 x c (hcl x c e)⟩
 ·obtain⟨f0,f1,f2,f3,f4,f5⟩:=hf b hb
  rcases f3 with z | z
  ·exact I.ok.noex b o e z
  ·have h1:=(Heap.lt_size e)
   have h2:=I.ok.bsz
   exact absurd (Nat.lt_of_lt_of_le h1 (Nat.le_trans h2 z)) (Nat.lt_irrefl _)
 ·obtain⟨f0,f1,f2,f3,f4,f5⟩:=hf b hb
  rcases List.mem_cons.mp (I.stkSub b hfs) with e | e
  ·exact f1 e
  ·exact f2 e
noncomputable def xT (σ:St) (k:Nat) (ix:List Nat):St:=List.replicate k none++ix.map λi=>(σ[i]?).join
theorem LR (I:Inv X pins σ H s) (Sc:CScope X scope) (hcl:∀x c,cl.lookup x=some c->X.env.cells.lookup x=some c) (hall:∀y∈scope.names,y.2 = .free->∃c,cl.lookup y.1=some c)
  {s4:Shared} {m:Str->Option Value} {k:Nat} {ix:List Nat} {ys:List Str} (hC:s.heap.objs.size<=C) (hf:∀b∈fp,pD X pins H b) (hlt:∀b∈fp,b<s.heap.objs.size)
  (hk4:∀b o,s.heap.get? b=some o->s4.heap.get? b=some o) (hos:s4.os=s.os) (hb:AllBare s4.gens) (hns:s4.heap.Ns C m)
  (hN:N.length=k+ys.length) (hdrop:N.drop k=ys) (hix:ix.length=ys.length) (hiy:∀(j:Nat) (y:Str) (i:Nat),ys[j]? = some y->ix[j]? = some i->X.N[i]? = some y/\(y,NameKind.free)∈scope.names)
  (hkind:∀y∈ys,(relabel scope X.env).names.lookup y=some .cell\/(relabel scope X.env).names.lookup y=some .free) :
  Inv (iV X scope N cl C s H fp) [] (xT σ k ix) H s4:=by
 have hfr:H C=none:=I.hok.fresh hC
 refine⟨PY I Sc hcl hall hC hf hlt,hos,hb,Un.kept hk4,⟨m,hns,λi x v e1 e2 e3=>?_⟩,λx c e=>?_,hfr,λx c e=>I.freeC x c (hcl x c e),λp hp=>absurd (show p∈([]:List (Addr × Obj)) from hp) (by simp),I.hok.kept hk4,?_⟩
 ·unfold xT at e2
  by_cases hik:i<k
  ·rw[List.getElem?_append_left (by simpa using hik),List.getElem?_replicate,if_pos hik] at e2
   cases e2
  ·rw[List.getElem?_append_right (by simpa using hik),List.length_replicate,List.getElem?_map] at e2
   cases eo:ix[i-k]? with
   | none=>rw[eo] at e2;cases e2
   | some o =>
    rw[eo] at e2
    have e2:some ((σ[o]?).join)=some (some v):=e2
    have e2':σ[o]? = some (some v):=by
     cases q:σ[o]? with
     | none=>rw[q] at e2;cases e2
     | some z=>rw[q] at e2;cases e2;rfl
    have ey:ys[i-k]? = some x:=by
     rw[<-hdrop,List.getElem?_drop]
     rw[show k+(i-k)=i by omega]
     exact e1
    obtain⟨h1,h2⟩:=hiy _ _ _ ey eo
    have hv:Vis X.env.scope x:=by
     rcases Sc.frees _ h2 rfl with q | q
     ·exact .inr (.inl q)
     ·exact .inr (.inr q)
    obtain⟨m0,hn0,hl0⟩:=I.loc
    obtain⟨u,ru,lu⟩:=hl0 o x v h1 e2' hv
    refine⟨u,ru,.inr ⟨hkind x (List.mem_of_getElem? ey),?_⟩⟩
    obtain⟨c,hc⟩:=hall _ h2 rfl
    refine⟨c,hc,?_⟩
    rcases lu with ⟨q,_⟩ | ⟨_,c',hc',hcell⟩
    ·rcases Sc.frees _ h2 rfl with z | z
     ·rw[z] at q;cases q
     ·rw[z] at q;cases q
    ·have:=hcl x c hc
     rw[this] at hc';cases hc'
     obtain⟨oc,ho,hd⟩:=hcell
     exact⟨oc,hk4 _ _ ho,hd⟩
 ·obtain⟨v,oc,ho,hd⟩:=I.cell x c (hcl x c e)
  exact⟨v,oc,hk4 _ _ ho,hd⟩
 ·unfold xT
  show _=N.length
  rw[List.length_append,List.length_replicate,List.length_map,hix,hN]
end
theorem IN {prog:Program} {w:World} {A:Around} {R:Result->Shared->Prop} {s:Shared} {elt target iter:Expr} {scope:Scope} {pos:Pos} {it acc:Value} {env:Env} (I:Nat->Shared->Prop)
  (turn:∀n s,I n s->∀E:Value->Shared->Prop,wpAny (model prog w) A (pyNext it) (λr s₁=>match r with
   | none=>R (.ok .next) s₁
   | some v=>wpAny (model prog w) A (letOwnedTupleGo target it v) (λ_ s₁=>wpAny (model prog w) A (assign target env v) (λ_ s₂=>wpAny (model prog w) A (eval elt env) (λx s₃ =>
     wpAny (model prog w) A (call (.builtin "list.append") [acc,x]) (λ_ s₄=>∃m,m<n/\I m s₄) E s₃) E s₂) E s₁) E s₁) E s)
  (n:Nat) (h:I n s):codeAny (model prog w) A (.compLoop (.ListComp elt [⟨target,iter,[],0⟩] scope pos) 0 it acc env) R s:=by
 refine codeAny_loop rfl I (λn s hI=>?_) n h
 show wpAny _ _ ((compTurn (.ListComp elt [⟨target,iter,[],0⟩] scope pos) 0 it acc env).onRaise (λx=>do noteFrame x env;theTreesLotGoes x)) _ _ s
 refine wpAny_noted ?_
 rw[compTurn_list1]
 refine wpAny_bind (wpAny_standAt (wpAny_bind (wpAny_mono (turn n s hI _) (λr s₁ h₁=>?_) λ_ _ h'=>h')))
 cases r with
 | none=>exact wpAny_pure h₁
 | some v =>
  refine wpAny_bind (wpAny_mono h₁ (λ_ s₁' h₁'=>?_) λ_ _ h'=>h')
  exact wpAny_bind (wpAny_mono h₁' (λ_ s₂ h₂=>wpAny_bind (wpAny_bind (wpAny_mono h₂ (λx s₃ h₃=>wpAny_bind (wpAny_mono h₃
   (λ_ s₄ h₄=>wpAny_pure (wpAny_pure ⟨rfl,h₄⟩)) λ_ _ h'=>h')) λ_ _ h'=>h'))) λ_ _ h'=>h')
noncomputable def jC (g:RG) (te:RE):List D->En->List D->(List D->Prop)->Prop
 | [],_,acc,Q=>Q acc
 | x::xs,ρ,acc,Q=>g x ρ λρ'=>te ρ' λd=>jC g te xs ρ' (acc++[d]) Q
noncomputable def zV (ρ:En) (i:Nat):Option S:=match ρ[i]? with
 | some (some (.d d))=>some (.d d)
 | _=>none
noncomputable def oC (ρ:En) (k:Nat) (ix:List Nat):En:=List.replicate k none++ix.map (zV ρ)
theorem UK {X X':Cx} {ρ:En} {σ:St} {H:Hp} {k:Nat} {ix:List Nat} (so:StOk X ρ σ H) (hK:X'.K=X.K) (hH:X'.H₀=H):StOk X' (oC ρ k ix) (xT σ k ix) H:=by
 have own:∀(i:Nat) (xs:List D),(oC ρ k ix)[i]?≠some (some (S.own xs)):=λi xs e=>by
  unfold oC at e
  by_cases hik:i<k
  ·rw[List.getElem?_append_left (by simpa using hik),List.getElem?_replicate,if_pos hik] at e;cases e
  ·rw[List.getElem?_append_right (by simpa using hik),List.getElem?_map] at e
   cases eo:ix[i-(List.replicate k (none:Option S)).length]? with
   | none=>rw[eo] at e;cases e
   | some o =>
    rw[eo] at e
    have e:some (zV ρ o)=some (some (S.own xs)):=e
    have e:=Option.some.inj e
    unfold zV at e
    split at e <;> cases e
 refine⟨by simp[oC,xT],by rw[hH];exact Same.refl H,λi x e=>?_,λi j xs ys a e1 _ _ _=>absurd e1 (own i xs)⟩
 unfold oC at e
 by_cases hik:i<k
 ·rw[List.getElem?_append_left (by simpa using hik),List.getElem?_replicate,if_pos hik] at e;cases e
 ·rw[List.getElem?_append_right (by simpa using hik),List.getElem?_map,List.length_replicate] at e
  cases eo:ix[i-k]? with
  | none=>rw[eo] at e;cases e
  | some o =>
   rw[eo] at e
   have e:some (zV ρ o)=some (some x):=e
   have e:=Option.some.inj e
   unfold zV at e
   split at e
   ·rename_i d ed
    cases e
    obtain⟨v,h1,h2⟩:=so.rel o _ ed
    refine⟨v,?_,by rw[hK];exact h2⟩
    unfold xT
    rw[List.getElem?_append_right (by simpa using hik),List.getElem?_map,List.length_replicate,eo,Option.map_some,h1];rfl
   ·cases e
section
variable {X:Cx} {pins:List (Addr × Obj)} {σ:St} {H:Hp} {s2:Shared} {scope:Scope} {N:List Str} {cl:List (Str × Addr)} {fp:List Addr} {it:Addr} {tn:Nat->Heap->Prop} {J:It} {xs:List D} {ρ:En}
 {elt target iter:Expr} {pos:Pos} {g:RG} {te:RE} {k:Nat} {ix:List Nat} {ys:List Str} {P:List D->Prop}
theorem _root_.L2.Inv.track {s s':Shared} {H H':Hp} {a:Addr} {vs:List V} {its:List Value} {n:Nat} (I:Inv X pins σ H s) (I':Inv X pins σ H' s') (ha:s.heap.objs.size<=a) (hn:H' a=none)
  (e:s'.heap.get? a=some { cls:=.type "list",data:=.seq its.toArray n }) (rv:Vals vs its) (hz:vs.length<=sizeLine):Inv X pins σ (upd H' a (.lst vs)) s':=by
 have hL:X.env.locals≠a:=Nat.ne_of_lt (Nat.lt_of_lt_of_le I.lt ha)
 have hcell:∀x c,X.env.cells.lookup x=some c->c≠a:=λx c q z=>by
  obtain⟨v,hv⟩:=I.cell x c q
  exact absurd (Nat.lt_of_lt_of_le hv.lt (by rw[z];exact ha)) (Nat.lt_irrefl _)
 have hs0:∀{b:Addr} {o:Obj},X.s₀.heap.get? b=some o->b≠a:=λ{b o} q=>Nat.ne_of_lt (Nat.lt_of_lt_of_le (Heap.lt_size q) (Nat.le_trans I.sz ha))
 refine⟨I'.ok,I'.os,I'.bare,⟨I'.base.keep,I'.base.slot,λb o q n hx=>?_,I'.base.there,λb ys q=>?_,λb o u q=>?_,λb ps q=>?_⟩,I'.loc,I'.cell,?_,λx c q=>?_,λp hp=>?_,λb u q=>?_,I'.len⟩
 ·rw[aO (hs0 q)];exact I'.base.free b o q n hx
 ·rw[aO (aT (I'.base.tups b ys q) hn)];exact I'.base.tups b ys q
 ·rw[aO (aT (I'.base.frzs b o u q) hn)];exact I'.base.frzs b o u q
 ·obtain⟨m,q2⟩:=I'.base.tbls b ps q
  exact⟨m,by rw[aO (aT q2 hn)];exact q2⟩
 ·rw[aO hL];exact I'.free
 ·rw[aO (hcell x c q)];exact I'.freeC x c q
 ·obtain⟨q1,q2,q3,q4,q5⟩:=I'.pin p hp
  have hp1:p.1≠a:=Nat.ne_of_lt (Nat.lt_of_lt_of_le (Heap.lt_size (I.pin p hp).1) ha)
  exact⟨q1,by rw[aO hp1];exact q2,q3,q4,q5⟩
 ·by_cases hb:b=a
  ·subst hb
   rw[bQ] at q;cases q
   exact⟨hz,its,n,rv,e⟩
  ·rw[aO hb] at q
   exact (I'.hok b u q).stay (λc v _ w=>w) (λc w=>by rw[aO (aT w hn)];exact w) λc ys w=>by rw[aO (aT w hn)];exact w
theorem wI (hc:X.calm=true) (Sc:CScope X scope) (hcl:∀x c,cl.lookup x=some c->X.env.cells.lookup x=some c) (hall:∀y∈scope.names,y.2 = .free->∃c,cl.lookup y.1=some c)
  (hN:N.length=k+ys.length) (hdrop:N.drop k=ys) (hix:ix.length=ys.length) (hiy:∀(j:Nat) (y:Str) (i:Nat),ys[j]? = some y->ix[j]? = some i->X.N[i]? = some y/\(y,NameKind.free)∈scope.names)
  (hkind:∀y∈ys,(relabel scope X.env).names.lookup y=some .cell\/(relabel scope X.env).names.lookup y=some .free)
  (hg:∀C s H fp,DG (iV X scope N cl C s H fp) target g) (he:∀C s H fp,DE (iV X scope N cl C s H fp) elt te)
  (I2:Inv X pins σ H s2) (so:StOk X ρ σ H) (T:Turn X.prog X.w X.K target J fp it tn) (st:tn 0 s2.heap) (hf:∀b∈fp,pD X pins H b) (ok:KU X J xs H) (hz:xs.length<=sizeLine)
  (hP:jC g te xs (oC ρ k ix) [] P) {RR:Value->Addr->Result->Shared->Prop} {E:Value->Shared->Prop}
  (post:∀(ds:List D) (vs:List V) (its:List Value) (n:Nat) (C:Addr) (s':Shared) (H':Hp),P ds->Same H H'->H' s2.heap.objs.size=none->Reps X.K H' ds vs->Vals vs its->vs.length<=sizeLine ->
   s'.heap.get? s2.heap.objs.size=some { cls:=.type "list",data:=.seq its.toArray n }->Inv X pins σ H' s'->(∃m,s'.heap.Ns C m)->s2.heap.objs.size<C->H' C=none->RR (.ref s2.heap.objs.size) C (.ok .next) s') :
  wpAny (model X.prog X.w) X.A (newList []) (λacc s₃=>wpAny (model X.prog X.w) X.A (newFunctionEnv scope X.env.globals cl [] X.env.qual none .none (some X.env)) (λcenv s₄ =>
   codeAny (model X.prog X.w) X.A (.compStart (.ListComp elt [⟨target,iter,[],0⟩] scope pos) 0 (.ref it) acc { cenv with scope:=relabel scope X.env }) (RR acc cenv.locals) s₄) E s₃) E s2:=by
 refine wpAny_newObj_type (wpAny_newFunctionEnv Sc.nocell (by intro y hy;simp at hy) (λh₁ hns₁ hsb₁=>?_) Sc.kind)
 dsimp only at hns₁ hsb₁ ⊢
 generalize hH2:s2.heap.push { cls:=.type "list",dict:=none,data:=.seq ([]:List Value).toArray } = HP2 at hns₁ hsb₁ ⊢
 have hCs:HP2.objs.size=s2.heap.objs.size+1:=by rw[<-hH2,Heap.size_push]
 have hltC:s2.heap.objs.size<HP2.objs.size:=by rw[hCs];exact Nat.lt_succ_self _
 have hlt:∀b∈fp,b<s2.heap.objs.size:=λb hb=>by
  obtain⟨o,ho,_⟩:=T.obj 0 _ st b hb
  exact Heap.lt_size ho
 have old:∀b o,s2.heap.get? b=some o->h₁.get? b=some o:=λb o e =>
  hsb₁.extBut b o (Nat.ne_of_lt (Nat.lt_trans (Heap.lt_size e) hltC)) (Heap.get?_push_of_some _ (hH2 ▸ Heap.get?_push_of_some _ e))
 have hacc:h₁.get? s2.heap.objs.size=some { cls:=.type "list",data:=.seq ([]:List Value).toArray 0 } :=
  hsb₁.extBut _ _ (Nat.ne_of_lt hltC) (Heap.get?_push_of_some _ (hH2 ▸ Heap.get?_push_size _ rfl))
 have hfr:H s2.heap.objs.size=none:=I2.hok.fresh (Nat.le_refl _)
 let X':=iV X scope N cl HP2.objs.size s2 H fp
 have J0:Inv X' [] (xT σ k ix) H { s2 with heap:=h₁,toks:=s2.toks+([]:List (Str × Value)).length } :=
  LR I2 Sc hcl hall (Nat.le_of_lt hltC) hf hlt old rfl I2.bare hns₁ hN hdrop hix hiy hkind
 have S0:StOk X' (oC ρ k ix) (xT σ k ix) H:=UK so rfl rfl
 have hD0fs:s2.heap.objs.size ∉ X'.fs:=λhb=>by
  have hb:s2.heap.objs.size∈frs X.stack:=hb
  rcases List.mem_cons.mp (I2.stkSub _ hb) with e | e
  ·exact absurd (show X.env.locals<X.env.locals from Nat.lt_of_lt_of_eq I2.lt e) (Nat.lt_irrefl _)
  ·exact I2.nofs (Nat.le_refl _) e
 have fpok:∀{H':Hp} {o:Obj},(∀b∈fp,H' b=none)->∀b∈fp,pD X' [(s2.heap.objs.size,o)] H' b:=λ{H' o} hn b hb=>by
  obtain⟨f0,f1,f2,f3,f4,f5⟩:=hf b hb
  refine⟨hn b hb,Nat.ne_of_lt (Nat.lt_trans (hlt b hb) hltC),λhfs=>?_,.inl hb,λx c e=>f4 x c (hcl x c e),λp hp=>?_⟩
  ·rcases List.mem_cons.mp (I2.stkSub b hfs) with e | e
   ·exact f1 e
   ·exact f2 e
  ·have:p=(s2.heap.objs.size,o):=by simpa [X',iV] using hp
   subst this
   exact Nat.ne_of_gt (hlt b hb)
 have pinD:∀{σ':St} {H':Hp} {s':Shared} {its:List Value} {n:Nat},Inv X' [] σ' H' s'->H' s2.heap.objs.size=none->s'.heap.get? s2.heap.objs.size=some { cls:=.type "list",data:=.seq its.toArray n }->Inv X' [(s2.heap.objs.size,{ cls:=.type "list",data:=.seq its.toArray n })] σ' H' s':=λI' hn e =>
  I'.pins_of λp hp=>by
   have:=List.mem_singleton.mp hp
   subst this
   exact⟨e,hn,Nat.ne_of_lt hltC,hD0fs,λv z=>by cases z⟩
 have loop:∀s₃:Shared,s₃ = { s2 with heap:=h₁,toks:=s2.toks+([]:List (Str × Value)).length } ->
   codeAny (model X.prog X.w) X.A (.compLoop (.ListComp elt [⟨target,iter,[],0⟩] scope pos) 0 (.ref it) (.ref s2.heap.objs.size) (compEnvC scope cl HP2.objs.size X.env)) (RR (.ref s2.heap.objs.size) HP2.objs.size) s₃:=by
  rintro s₃ rfl
  refine IN (λm s'=>∃(i:Nat) (ρ':En) (σ':St) (H':Hp) (ds:List D) (vs:List V) (its:List Value) (n:Nat),m=xs.length-i/\i<=xs.length/\Inv X' [] σ' H' s'/\StOk X' ρ' σ' H'/\tn i s'.heap/\(∀b∈fp,H' b=none) /\
   H' s2.heap.objs.size=none/\s'.heap.get? s2.heap.objs.size=some { cls:=.type "list",data:=.seq its.toArray n }/\Reps X.K H' ds vs/\Vals vs its/\vs.length=i/\jC g te (xs.drop i) ρ' ds P) ?_ xs.length
   ⟨0,oC ρ k ix,xT σ k ix,H,[],[],[],0,rfl,Nat.zero_le _,J0,S0,T.keep _ _ _ st (λb hb o e=>old b o e),λb hb=>(hf b hb).1,hfr,hacc,.nil,.nil,rfl,by simpa using hP⟩
  rintro m s' ⟨i,ρ',σ',H',ds,vs,its,n,rfl,hi,I',S',st',fr',hn',e',rr,rv,hl,hD⟩ E'
  obtain⟨o1,o2⟩:=ok i H' (.of S'.same)
  have I1:=pinD I' hn' e'
  by_cases hlt':i<xs.length
  ·have e:xs.drop i=xs[i]::xs.drop (i+1):=List.drop_eq_getElem_cons hlt'
   rw[e] at hD
   obtain⟨go,yl⟩:=o1 xs[i] (List.getElem?_eq_getElem hlt')
   refine thn (T.item X' rfl rfl rfl hc i _ s' σ' H' E' I1 (fpok fr') st' go) λr s4 ⟨u,hr,h4⟩=>?_
   subst hr
   refine thn h4 λ_ s5 ⟨x,H5,I5,r5,y5,st5,fr5⟩=>?_
   obtain⟨s45,rx5⟩:=yl x H5 y5
   have I5':=I5.pinned (fpok fr5) (T.obj _ _ st5)
   refine wpAny_mono (hg _ _ _ _ _ s5 σ' H5 x u (λσ6 H6=>∃ρ6,te ρ6 (λd=>jC g te (xs.drop (i+1)) ρ6 (ds++[d]) P)/\Keep H5 H6/\StOk X' ρ6 σ6 H6) I5' r5 ⟨xs[i],ρ',_,rx5,S'.ext s45,hD,λρ6 σ6 H6 q6 k6 s6=>⟨ρ6,q6,k6,s6⟩⟩) (λ_ s6 ⟨σ6,H6,I6,ρ6,q6,k6,S6⟩=>?_) λ_ _ z=>z.elim
   refine wpAny_mono (he _ _ _ _ _ s6 σ6 H6 (λv H7=>∃d,jC g te (xs.drop (i+1)) ρ6 (ds++[d]) P/\Same H6 H7/\Rep X.K H7 d v) I6 ⟨ρ6,_,S6,q6,λd v H7 q7 s7 r7=>⟨d,q7,s7,r7⟩⟩) (λu7 s7 ⟨v7,H7,I7,rv7,d,q7,s67,r7⟩=>?_) λ_ _ z=>z.elim
   obtain⟨e7,n7,_,_,_⟩:=I7.pin (s2.heap.objs.size,_) (List.mem_append_right _ (List.mem_append_left _ List.mem_cons_self))
   have hsz:its.toArray.size+1<=sizeLine:=by
    rw[List.size_toArray,<-rv.length,hl]
    omega
   refine call_meets F.slot_list_append ⟨_,e7,rfl⟩ F.entry_list_append (F.args_list_append_2 _ _) (PySem.list_append s2.heap.objs.size its.toArray n u7 (by omega)) ⟨e7,?_⟩
   have e8:=PySem.IsL.update e7 (λa=>a.push u7)
   have I8:Inv X' [] σ6 H7 s7:=I7.pins_of λp hp=>absurd hp (by simp)
   have upd8:∀b o,b≠s2.heap.objs.size->s7.heap.get? b=some o->(s7.heap.update s2.heap.objs.size (Obj.mapSeq λa=>a.push u7)).get? b=some o:=λb o hb q=>(Heap.get?_update_other s7.heap _ (Ne.symm hb)).trans q
   have I9:Inv X' [] σ6 H7 { s7 with heap:=s7.heap.update s2.heap.objs.size (Obj.mapSeq λa=>a.push u7) } :=
    I8.turned (t':=s7.toks) upd8 n7 (Nat.ne_of_lt hltC) (.inr (Nat.le_refl _)) (λx c q z=>by
     obtain⟨v,hv⟩:=I2.cell x c (hcl x c q)
     exact absurd hv.lt (by rw[z];exact Nat.lt_irrefl _)) (λp hp=>absurd (show p∈([]:List (Addr × Obj)) from hp) (by simp))
   have k57:Keep H5 H7:=k6.trans (.of s67)
   have k':Keep H' H7:=(Keep.of s45).trans k57
   refine⟨xs.length-(i+1),by omega,i+1,ρ6,σ6,H7,ds++[d],vs++[v7],its++[u7],_,rfl,hlt',I9,S6.ext s67,?_,λb hb=>?_,n7,by simpa using e8,(rr.keep k').append (.cons r7 .nil),rv.append (.cons rv7 .nil),by rw[List.length_append,hl];rfl,q7⟩
   ·refine T.keep _ _ _ st5 λb hb o q=>?_
    have q7':=(I7.pin (b,o) (List.mem_append_right _ (List.mem_append_right _ (jU hb q)))).1
    exact upd8 b o (Nat.ne_of_lt (hlt b hb)) q7'
   ·obtain⟨o,q,_⟩:=T.obj _ _ st5 b hb
    exact (I7.pin (b,o) (List.mem_append_right _ (List.mem_append_right _ (jU hb q)))).2.1
  ·have hie:i=xs.length:=by omega
   subst hie
   rw[List.drop_length] at hD
   refine thn (T.done X' rfl rfl rfl hc _ _ s' σ' H' E' I1 (fpok fr') st' (o2 (Nat.le_refl _))) λr s4 ⟨hr,I4⟩=>?_
   subst hr
   obtain⟨e4,n4,_,_,_⟩:=I4.pin (s2.heap.objs.size,_) (List.mem_append_right _ List.mem_cons_self)
   obtain⟨m4,hn4,_⟩:=I4.loc
   have I5:Inv X pins σ H' s4:=I2.call' (ch:=fp) I4.os I4.base I4.hok I4.bare λb hb=>by
    obtain⟨f0,f1,f2,f3,f4,f5⟩:=hf b hb
    exact⟨f3,f1,f4,f5⟩
   exact post ds vs its n HP2.objs.size s4 H' hD S'.same n4 rr rv (by rw[hl];exact hz) e4 I5 ⟨m4,hn4⟩ hltC I4.free
 exact codeAny_compStart_list (loop _ rfl) (T.self X.A 0 _ _ _ (T.keep _ _ _ st λb hb o e=>old b o e) (loop _ rfl))
end
noncomputable def FY (X:Cx) (scope:Scope) (N:List Str) (k:Nat) (ix:List Nat):Bool :=
 scope.kind == .function && scope.names.all (λy=>y.2 != .cell) && scope.names.all (λy=>y.2 != .local || scope.names.lookup y.1 == some .local) &&
 scope.names.all (λy=>y.2 != .free || X.env.kindOf y.1 == some .cell || X.env.kindOf y.1 == some .free) &&
 N.length == k+ix.length && ((N.drop k).zip ix).all (λp=>X.N[p.2]? == some p.1 && scope.names.contains (p.1,.free)) &&
 (N.drop k).all (λy=>(relabel scope X.env).names.lookup y == some .cell || (relabel scope X.env).names.lookup y == some .free)
structure CompF (X:Cx) (scope:Scope) (N:List Str) (k:Nat) (ix:List Nat):Prop where
 sc:CScope X scope
 hN:N.length=k+(N.drop k).length
 hix:ix.length=(N.drop k).length
 hiy:∀(j:Nat) (y:Str) (i:Nat),(N.drop k)[j]? = some y->ix[j]? = some i->X.N[i]? = some y/\(y,NameKind.free)∈scope.names
 hkind:∀y∈N.drop k,(relabel scope X.env).names.lookup y=some .cell\/(relabel scope X.env).names.lookup y=some .free
theorem zY {X:Cx} {scope:Scope} {N:List Str} {k:Nat} {ix:List Nat} (h:FY X scope N k ix=true):CompF X scope N k ix:=by
 unfold FY at h
 simp only[Bool.and_eq_true,List.all_eq_true,bne_iff_ne,ne_eq,Bool.or_eq_true,beq_iff_eq] at h
 obtain⟨⟨⟨⟨⟨⟨h1,h2⟩,h3⟩,h4⟩,h5⟩,h6⟩,h7⟩:=h
 have hl:(N.drop k).length=ix.length:=by rw[List.length_drop];omega
 refine⟨⟨h1,h2,λy hy e=>?_,λy hy e=>?_⟩,by omega,hl.symm,λj y i e1 e2=>?_,h7⟩
 ·rcases h3 y hy with q | q
  ·exact absurd e q
  ·exact q
 ·rcases h4 y hy with (q | q) | q
  ·exact absurd e q
  ·exact .inl q
  ·exact .inr q
 ·have hm:(y,i)∈(N.drop k).zip ix:=by
   refine List.mem_of_getElem? (i:=j) ?_
   rw[List.getElem?_zip_eq_some]
   exact⟨e1,e2⟩
  obtain⟨q1,q2⟩:=h6 _ hm
  exact⟨q1,List.contains_iff_mem.mp q2⟩
noncomputable def fV (ti:RA) (k:Nat) (ix:List Nat) (g:RG) (te:RE):RA:=λρ Q=>ti ρ λxs=>Sz xs.length/\jC g te xs (oC ρ k ix) [] Q
section
variable {X:Cx} {scope:Scope} {elt target iter:Expr} {pos:Pos} {g:RG} {te:RE} {ti:RA}
theorem qR {pins:List (Addr × Obj)} {σ:St} {H H':Hp} {s s':Shared} {C:Addr} {h':Heap} {t':Nat} (I2:Inv X pins σ H s) {σ':St} (I':Inv X pins σ' H' s') (hC:s.heap.objs.size<=C) (hn:H' C=none) (hs:Heap.SameBut C s'.heap h') :
  Inv X pins σ' H' { s' with heap:=h',toks:=t' } :=
 I'.turned (λb o hb e=>(hs.2 b hb).trans e) hn (Nat.ne_of_gt (Nat.lt_of_lt_of_le I2.lt hC)) (.inr (Nat.le_trans I2.sz hC)) (λx c e z=>by
  obtain⟨v,hv⟩:=I2.cell x c e
  exact absurd (Nat.lt_of_lt_of_le hv.lt (by rw[z];exact hC)) (Nat.lt_irrefl _)) λp hp z=>absurd (Nat.lt_of_lt_of_le (Heap.lt_size (I2.pin p hp).1) (by rw[z];exact hC)) (Nat.lt_irrefl _)
theorem iH (N:List Str) (k:Nat) (ix:List Nat) (hi:DI X target iter ti) (hg:∀cl C s H fp,DG (iV X scope N cl C s H fp) target g) (he:∀cl C s H fp,DE (iV X scope N cl C s H fp) elt te)
  (hc:X.calm=true:=by rfl) (hB:FY X scope N k ix=true:=by rfl) (hs:∀x,foldedSetIterable iter X.env x=pure x:=by intro _;rfl):DO X (.ListComp elt [⟨target,iter,[],0⟩] scope pos) (fV ti k ix g te):=by
 intro pins s σ H Q I hh_0
 obtain⟨ρ,P,so,q,kk⟩:=hh_0
 have F:=zY hB
 obtain⟨cl,hclos,hcl,hall⟩:=sX (scope:=scope) (env:=X.env) λy hy hf=>I.ok.has _ (F.sc.frees y hy hf)
 rw[eval_ListComp]
 refine wpAny_comprehension_free (use:=none) rfl hs hclos F.sc.kind F.sc.locs (thn (hi pins s σ H (λJ H'=>∃xs,Same H H'/\KU X J xs H'/\xs.length<=sizeLine/\jC g te xs (oC ρ k ix) [] P) I ⟨ρ,_,so,q,λxs J H' hx s1 ok=>⟨xs,s1,ok,hx.1.ok,hx.2⟩⟩) λv s1 h1=>thn h1 λitv s2 h2=>?_)
 obtain⟨it,fp,tn,J,H',rfl,I2,T,st,hf,xs,s01,ok,hz,hD⟩:=h2
 refine wI (RR:=λacc C=>compPost (model X.prog X.w) X.A X.xe none (EP X pins σ Q) acc C) hc F.sc hcl hall F.hN rfl F.hix F.hiy F.hkind (hg cl) (he cl) I2 (so.ext s01) T st hf ok hz hD ?_
 intro ds vs its n C s' H2 hP s12 hn rr rv hl e I' ⟨m,hns⟩ hltC hnC
 refine⟨m,hns,λh' hs'=>?_⟩
 have I3:Inv X pins σ H2 { s' with heap:=h' }:=qR (t':=s'.toks) I2 I' (Nat.le_of_lt hltC) hnC hs'
 have e3:h'.get? s2.heap.objs.size=some { cls:=.type "list",data:=.seq its.toArray n }:=(hs'.2 _ (Nat.ne_of_lt hltC)).trans e
 exact⟨.ref s2.heap.objs.size,_,I2.track I3 (Nat.le_refl _) hn e3 rv hl,rfl,kk ds _ vs H2 hP (s01.trans s12) hn rr⟩
theorem sG {i:Nat} {y:Str} {pos' spos:Pos} (N:List Str) (k:Nat) (ix:List Nat) (hN:X.N.Nodup) (hi:DI X target iter ti) (hg:∀cl C s H fp,DG (iV X scope N cl C s H fp) target g) (he:∀cl C s H fp,DE (iV X scope N cl C s H fp) elt te)
  (hy:X.N[i]? = some y:=by rfl) (hx:X.env.scope.names.lookup y=some .local:=by rfl) (hc:X.calm=true:=by rfl) (hB:FY X scope N k ix=true:=by rfl) (hs:∀x,foldedSetIterable iter X.env x=pure x:=by intro _;rfl)
  (hsw:swapsWith (.ListComp elt [⟨target,iter,[],0⟩] scope pos) (some (.Name y pos')) spos.line X.env=pure true:=by rfl) :
  DS X (.Assign [.Name y pos'] (.ListComp elt [⟨target,iter,[],0⟩] scope pos) spos) (iO i (fV ti k ix g te)):=by
 intro pins s σ H De I hh_0
 obtain⟨ρ,E,so,q,nn,rt,bk,ct⟩:=hh_0
 have F:=zY hB
 obtain⟨cl,hclos,hcl,hall⟩:=sX (scope:=scope) (env:=X.env) λy hy hf=>I.ok.has _ (F.sc.frees y hy hf)
 rw[exec_Assign_Name_used _ _ _ _ hsw]
 refine wpAny_bind (wpAny_standAt (wpAny_bind ?_))
 show wpAny _ X.A (do let _ <-comprehension (.ListComp elt [⟨target,iter,[],0⟩] scope pos) scope X.env _ (newList []) false (eval iter X.env) (some (assign (.Name y pos') X.env))) _ _ s
 refine wpAny_bind (wpAny_mono (wpAny_comprehension_free (use:=some (assign (.Name y pos') X.env)) (Q:=λ_ s'=>SP X pins De .next s') rfl hs hclos F.sc.kind F.sc.locs
  (thn (hi pins s σ H (λJ H'=>∃xs,Same H H'/\KU X J xs H'/\xs.length<=sizeLine/\jC g te xs (oC ρ k ix) [] (λds=>E.nx (ρ.set i (some (.own ds))))) I ⟨ρ,_,so,q,λxs J H' hx s1 ok=>⟨xs,s1,ok,hx.1.ok,hx.2⟩⟩) λv s1 h1=>thn h1 λitv s2 h2=>?_)) (λ_ s' hq=>wpAny_pure (wpAny_pure hq)) λ_ _ e=>e)
 obtain⟨it,fp,tn,J,H',rfl,I2,T,st,hf,xs,s01,ok,hz,hD⟩:=h2
 refine wI (RR:=λacc C=>compPost (model X.prog X.w) X.A X.xe (some (assign (.Name y pos') X.env)) (λ_ s'=>SP X pins De .next s') acc C) hc F.sc hcl hall F.hN rfl F.hix F.hiy F.hkind (hg cl) (he cl) I2 (so.ext s01) T st hf ok hz hD ?_
 intro ds vs its n C s' H2 hP s12 hn rr rv hl e I' ⟨m,hns⟩ hltC hnC
 have I3:=I2.track I' (Nat.le_refl _) hn e rv hl
 have hneC:s2.heap.objs.size≠C:=Nat.ne_of_lt hltC
 have so3:StOk X (ρ.set i (some (.own ds))) (σ.set i (some (.ref s2.heap.objs.size))) (upd H2 s2.heap.objs.size (.lst vs)):=(so.ext (s01.trans s12)).set_own hn rr
 have k3:Keep H (upd H2 s2.heap.objs.size (.lst vs)):=(Keep.of (s01.trans s12)).trans (.of λb o h=>by rw[aO (aT h hn)];exact h)
 show wpAny (model X.prog X.w) X.A (assign (.Name y pos') X.env (.ref s2.heap.objs.size)) _ _ s'
 refine wpAny_assign_Name (xD I3 hN hy (.inl hx) (v:=.ref s2.heap.objs.size) rfl (λs4 I4 ⟨a,sb,ha⟩=>?_) (.inr hx))
 have hCa:C≠a:=by
  rcases ha with rfl | ha
  ·exact Nat.ne_of_gt (Nat.lt_trans I2.lt hltC)
  ·obtain⟨v,hv⟩:=I2.cell _ a ha
   exact Nat.ne_of_gt (Nat.lt_trans hv.lt hltC)
 refine⟨m,hns.sameBut sb hCa,λh' hs'=>⟨_,_,qR (t':=s4.toks) I2 I4 (Nat.le_of_lt hltC) (by rw[aO (Ne.symm hneC)];exact hnC) hs',nn _ _ _ hP k3 so3⟩⟩
end
section
variable {X:Cx} {e a b:Expr} {pos apos cpos npos:Pos} {te:RE} {x:Str}
noncomputable def oS (i:Nat) (te:RE):RS:=λE ρ=>match ρ[i]? with
 | some (some (.own xs))=>te ρ λd=>Sz (xs.length+1)/\E.nx (ρ.set i (some (.own (xs++[d]))))
 | _=>False
theorem gO (i:Nat) (he:DE X e te) (hN:X.N[i]? = some x:=by rfl) (hv:Vis X.env.scope x:=by walk_at "vis") (hd:(x == ("__debug__":Str))=false:=by decide) (hcd:(x == ("__classdict__":Str))=false:=by decide)
  (hbase:attributeBase (.Name x npos) "append" X.env (eval (.Name x npos) X.env)=eval (.Name x npos) X.env:=by rfl)
  (hfew:((backTo cpos (starEach [e] X.env)).all (λx=>!x.1) && (backToKw cpos (keywordEach [] X.env)).all (λx=>x.1.isSome) && decide (([e]:List Expr).length+([]:List Keyword).length+(if ([]:List Keyword).isEmpty then 0 else 1)<30))=true:=by rfl)
  (hline:(apos.endLine == cpos.line)=true:=by rfl) (hs:starEach [e] X.env=[(false,eval e X.env)]:=by rfl) (hn:starEach [] X.env=[]:=by rfl) (hsw:swapsWith (.Call (.Attribute (.Name x npos) "append" apos) [e] [] cpos) none pos.line X.env=pure false:=by rfl) :
  DS X (.Expr (.Call (.Attribute (.Name x npos) "append" apos) [e] [] cpos) pos) (oS i te):=by
 refine PS.mono (HF (UB PySem.F.plainAttrs_list PySem.F.slot_list_append PySem.F.type_list_append JO (pv i hN hv hd hcd) (fZ he hs hn) hbase hfew hline (by rw[hs,hn]) (by rw[hn];rfl)) hsw) λDe σ H hh=>fI hh λρ E so q n r bk ct=>?_
 unfold oS at q
 split at q
 ·rename_i xs ex
  obtain⟨v,h1,p,vs,ev,hp,h0,rr⟩:=so.rel i _ ex
  subst ev
  refine⟨.ref p,h1,.inl ⟨rfl,vs,SqL.of hp⟩,ρ,_,so,q,λd v H1 hd s1 rd=>?_⟩
  have hp1:=s1 _ _ hp
  obtain⟨so2,k2⟩:=(so.ext s1).upd_own ex h1 hp1 h0 ((rr.keep (.of s1)).append (.cons rd .nil))
  have hsz:xs.length+1<=sizeLine:=hd.1.ok
  exact⟨p,vs,v,rfl,rfl,hp1,by rw[<-rr.length];omega,n _ _ _ hd.2 ((Keep.of s1).trans k2) so2⟩
 ·exact q.elim
noncomputable def HI (i:Nat):RS:=λE ρ=>match ρ[i]? with
 | some (some (.own xs))=>xs≠[]/\E.nx (ρ.set i (some (.own xs.dropLast)))
 | _=>False
theorem UQ (i:Nat) (hN:X.N[i]? = some x:=by rfl) (hv:Vis X.env.scope x:=by walk_at "vis") (hd:(x == ("__debug__":Str))=false:=by decide) (hcd:(x == ("__classdict__":Str))=false:=by decide)
  (hbase:attributeBase (.Name x npos) "pop" X.env (eval (.Name x npos) X.env)=eval (.Name x npos) X.env:=by rfl)
  (hline:(apos.endLine == cpos.line)=true:=by rfl) (hsw:swapsWith (.Call (.Attribute (.Name x npos) "pop" apos) [] [] cpos) none pos.line X.env=pure false:=by rfl) :
  DS X (.Expr (.Call (.Attribute (.Name x npos) "pop" apos) [] [] cpos) pos) (HI i):=by
 refine PS.mono (HF (VQ PySem.F.plainAttrs_list PySem.F.slot_list_pop PySem.F.type_list_pop VL (pv i hN hv hd hcd) hbase hline) hsw) λDe σ H hh=>fI hh λρ E so q n r bk ct=>?_
 unfold HI at q
 split at q
 ·rename_i xs ex
  obtain⟨v,h1,p,vs,ev,hp,h0,rr⟩:=so.rel i _ ex
  subst ev
  have hl:=rr.length
  have hne:0<xs.length:=List.length_pos_iff.mpr q.1
  have hg:vs[vs.length-1]? = some (vs[vs.length-1]'(by omega)):=List.getElem?_eq_getElem _
  obtain⟨so2,k2⟩:=so.upd_own ex h1 hp h0 rr.dropLast
  exact⟨.ref p,h1,.inl ⟨rfl,vs,SqL.of hp⟩,p,vs,_,rfl,rfl,hp,hg,n _ _ _ q.2 k2 so2⟩
 ·exact q.elim
noncomputable def qI (i:Nat) (te tk:RE):RS:=λE ρ=>match ρ[i]? with
 | some (some (.own xs))=>te ρ λd=>tk ρ λkd=>match kd with
  | .int k=>match ixN xs.length k with
   | some j=>E.nx (ρ.set i (some (.own (xs.set j d))))
   | none=>False
  | _=>False
 | _=>False
theorem AI {k:Expr} {tk:RE} {spos:Pos} (i:Nat) (he:DE X e te) (hk:DE X k tk) (hN:X.N[i]? = some x:=by rfl) (hv:Vis X.env.scope x:=by walk_at "vis") (hd:(x == ("__debug__":Str))=false:=by decide) (hcd:(x == ("__classdict__":Str))=false:=by decide)
  (ha:∀v,assign (.Subscript (.Name x npos) k spos) X.env v=(do
   let ov <-holding [v] (eval (.Name x npos) X.env)
   let iv <-holding [v,ov] (eval k X.env)
   standAt spos
   holding [v,ov,iv] (setItem ov iv v)
   release [v,ov,iv] []):=by intro _;rfl)
  (hs:swapsWithSole [.Subscript (.Name x npos) k spos] e pos.line X.env=pure false:=by rfl) (hw:swappedStores [.Subscript (.Name x npos) k spos] e X.env=pure none:=by rfl)
  (h1:(assignEach [.Subscript (.Name x npos) k spos] X.env).map (·.2)=[assign (.Subscript (.Name x npos) k spos) X.env]:=by rfl) :
  DS X (.Assign [.Subscript (.Name x npos) k spos] e pos) (qI i te tk):=by
 refine PS.mono (NZ he (VZ (pv i hN hv hd hcd) hk OP ha) hs hw h1) λDe σ H hh=>fI hh λρ E so q n r bk ct=>?_
 unfold qI at q
 split at q
 ·rename_i xs ex
  obtain⟨w',h1,p,vs,ev,hp,h0,rr⟩:=so.rel i _ ex
  subst ev
  refine⟨ρ,_,so,q,λd v H1 q1 s1 rd=>⟨.ref p,h1,ρ,_,so.ext s1,q1,λkd u H2 q2 s2 rk=>?_⟩⟩
  cases kd with
  | int k =>
   dsimp only at q2
   split at q2
   ·rename_i j hj
    have hp2:=(s1.trans s2) _ _ hp
    obtain⟨so2,k2⟩:=((so.ext s1).ext s2).upd_own ex h1 hp2 h0 ((rr.keep (.of (s1.trans s2))).set (rd.keep (.of s2)) j)
    exact⟨p,vs,k,j,rfl,rk.int_inv,hp2,by rw[<-rr.length];exact hj,n _ _ _ q2 ((Keep.of (s1.trans s2)).trans k2) so2⟩
   ·exact q2.elim
  | _=>exact q2.elim
 ·exact q.elim
end
section
variable {X:Cx} {e a b:Expr} {pos p:Pos}
theorem RB:OpR X (binaryOp .Add) (λx y H Q=>∃l b xs zs,x = .ref l/\y = .ref b/\SqL X.K H l xs/\SqL X.K H b zs/\xs.length+zs.length<=sizeLine/\∀p,H p=none->Q (.ref p) (upd H p (.lst (xs++zs)))):=by
 intro pins s σ H x y v u Q I rx ry h
 obtain⟨l,b,xs,zs,rfl,rfl,hH,hB,hz,q⟩:=h
 cases rx
 cases ry
 obtain⟨its,r,⟨o,n,e,hc,hd,hs⟩,hl⟩:=I.list hH
 obtain⟨its2,r2,⟨o2,n2,e2,hc2,hd2,hs2⟩,hl2⟩:=I.list hB
 obtain⟨c,d,dt,sl⟩:=o
 obtain⟨c2,d2,dt2,sl2⟩:=o2
 dsimp only at hc hs hd hc2 hs2 hd2
 subst hc hs hd hc2 hs2 hd2
 have hl1:=r.length
 have hl2:=r2.length
 refine concat_meets (T:="list") (id:="list.__add__") ⟨_,e,rfl⟩ ⟨_,e2,rfl⟩ (by kernel_rfl) (by kernel_rfl) PySem.F.slot_list_add PySem.F.entry_list_add (PySem.F.args_list_add_2 _ _)
  (list_addW l b its.toArray its2.toArray n n2 none none sl sl2 (by rw[List.size_toArray,List.size_toArray];omega)) ⟨e,e2,?_⟩
 have ea:its.toArray++its2.toArray=(its++its2).toArray:=by simp
 rw[ea]
 exact⟨.ref _,_,I.lnew (t':=s.toks) (r.append r2) (by rw[List.length_append];omega),rfl,q _ I.fresh⟩
noncomputable def FzQ (X:Cx) (Q:VK):VK:=λv H'=>Q v H'\/∃p vs H1,v = .ref p/\H'=upd H1 p (.lst vs)/\H1 p=none/\∀H2,Same H1 H2->FzL X.K H2 p vs->Q v H2
theorem TL {pins:List (Addr × Obj)} {σ:St} {Q:VK} {u:Value} {s:Shared} (h:EP X pins σ (FzQ X Q) u s):EP X pins σ Q u s:=by
 obtain⟨v,H',I,rv,q | ⟨p,vs,H1,rfl,rfl,hn,q⟩⟩:=h
 ·exact⟨v,H',I,rv,q⟩
 ·obtain⟨o,I2⟩:=Inv.freeze I (a:=p) (xs:=vs) bQ
  exact⟨.ref p,_,I2,rv,q _ (λb u e=>by rw[aO (aT e hn),aO (aT e hn)];exact e) (.inl ⟨o,bQ⟩)⟩
theorem PE.frz {t:TE} (h:PE X e t):PE X e (λσ H Q=>t σ H (FzQ X Q)):=λpins s σ H Q I q=>thn (h pins s σ H _ I q) λ_ _=>TL
theorem OpR.frz {f:Value->Value->Sem Value} {r:R2} (h:OpR X f r):OpR X f (λx y H Q=>r x y H (FzQ X Q)):=λpins s σ H x y v u Q I rx ry q=>thn (h pins s σ H x y v u _ I rx ry q) λ_ _=>TL
noncomputable def kG:R22:=λx y Q=>match x,y with
 | .int i,.int j=>Q (.int (i+j))
 | .lst xs,.lst ys=>Sz (xs.length+ys.length)/\Q (.lst (xs++ys))
 | .tup xs,.tup ys=>xs≠[]/\Sz (xs.length+ys.length)/\Q (.tup (xs++ys))
 | _,_=>False
theorem upd_new {H:Hp} {p:Addr} {o:HO} (hp:H p=none):Same H (upd H p o):=λb u e=>by rw[aO (aT e hp)];exact e
theorem lY:OpD X (binaryOp .Add) kG:=by
 intro pins s σ H x y v u Q I rx ry hh_0
 obtain⟨d,e,P,r1,r2,q,k⟩:=hh_0
 unfold kG at q;split at q
 ·exact bI pins s σ H x y v u Q I rx ry ⟨_,_,P,r1,r2,q,k⟩
 ·rename_i xs ys
  obtain⟨a,vs,rfl,ha,ra⟩:=r1.lst
  obtain⟨b,ws,rfl,hb,rb⟩:=r2.lst
  have hsz:xs.length+ys.length<=sizeLine:=q.1.ok
  refine OpR.frz RB pins s σ H _ _ v u Q I rx ry ⟨a,b,vs,ws,rfl,rfl,ha,hb,by rw[<-ra.length,<-rb.length];exact hsz,λp hp=>.inr ⟨p,_,H,rfl,rfl,hp,λH2 s2 fz=>k _ _ H2 q.2 s2 (.lst fz ((ra.append rb).keep (.of s2)))⟩⟩
 ·rename_i xs ys
  obtain⟨a,vs,rfl,ha,ra⟩:=r1.tup
  obtain⟨b,ws,rfl,hb,rb⟩:=r2.tup
  have hsz:xs.length+ys.length<=sizeLine:=q.2.1.ok
  have hl:=ra.length
  refine RC pins s σ H _ _ v u Q I rx ry ⟨a,b,vs,ws,rfl,rfl,SqT.of ha,SqT.of hb,λz=>q.1 (List.length_eq_zero_iff.mp (by rw[hl,z];rfl)),by rw[<-ra.length,<-rb.length];exact hsz,λz=>?_,λz p hp=>?_⟩
  ·subst z
   cases rb
   have:=k _ (.ref a) H q.2.2 (Same.refl H)
   rw[List.append_nil] at this
   exact this (.tup ha ra)
  ·exact k _ _ _ q.2.2 (upd_new hp) (.tup bQ ((ra.append rb).keep (.of (upd_new hp))))
 ·exact q.elim
noncomputable def uI (te:RE) (tl th:RO):RE:=λρ Q=>te ρ λx=>tl ρ λl=>th ρ λu=>match x with
 | .lst ds=>Q (.lst (jD ds l u))
 | .tup ds=>¬(HT.sIx ds.length 0 l=0/\HT.sIx ds.length ds.length u=ds.length)/\Q (.tup (jD ds l u))
 | _=>False
theorem AB {K:PySem.W.Frag} {H:Hp} {ds:List D} {vs:List V} (l u:Option Int) (rr:Reps K H ds vs):Reps K H (jD ds l u) (vL vs l u):=by
 unfold jD vL
 rw[<-rr.length]
 exact (rr.drop _).take _
theorem jF {lo hi:Option Expr} {te:RE} {tl th:RO} {p2:Pos} (he:DB X e te) (hl:DP X lo tl) (hu:DP X hi th):DE X (.Subscript e (.Slice lo hi none p2) pos) (uI te tl th):=by
 refine PE.mono (PE.frz (BS (HR.or WW) he hl hu)) λσ H Q hh=>bT hh λρ P st q k=>?_
 refine⟨ρ,_,st,q,λd v H1 hd s1 r1=>⟨ρ,_,st.ext s1,hd,λl H2 h2 s2=>⟨ρ,_,(st.ext s1).ext s2,h2,λu H3 h3 s3=>?_⟩⟩⟩
 have s03:=(s1.trans s2).trans s3
 cases d with
 | lst ds =>
  obtain⟨p,vs,rfl,hq,rr⟩:=(r1.same (s2.trans s3)).lst
  exact .inl ⟨p,vs,rfl,hq,λp' hp'=>.inr ⟨p',_,H3,rfl,rfl,hp',λH4 s4 fz=>k _ _ H4 h3 (s03.trans s4) (.lst fz ((AB l u rr).keep (.of s4)))⟩⟩
 | tup ds =>
  obtain⟨p,vs,rfl,hq,rr⟩:=(r1.same (s2.trans s3)).tup
  refine .inr ⟨p,vs,rfl,SqT.of hq,by rw[<-rr.length];exact h3.1,λp' hp'=>.inl ?_⟩
  exact k _ _ _ h3.2 (s03.trans (upd_new hp')) (.tup bQ ((AB l u rr).keep (.of (upd_new hp'))))
 | _=>exact h3.elim
variable {te:RE}
noncomputable def sD:D->(D->Prop)->Prop:=λd Q=>match d with
 | .lst ds=>Q (.lst ds)
 | .tup ds=>Q (.lst ds)
 | _=>False
theorem pI:bootBuiltins "list" = some (.type "list"):=by decide +kernel
theorem DK:bootBuiltins "tuple" = some (.type "tuple"):=by decide +kernel
theorem IT (hm:X.mg "list" = none) (h:DB X e te) (hg:Gl X "list":=by rfl) (hs:starEach [e] X.env=[(false,eval e X.env)]:=by rfl) (hn:starEach [] X.env=[]:=by rfl):DE X (.Call (.Name "list" p) [e] [] pos) (r1 sD te):=by
 refine PE.mono (PE.frz (qC xS hg hm pI (fZ h hs hn) (by decide) (by decide) (by rw[hs,hn]) (by rw[hn];rfl))) λσ H Q hh=>bT hh λρ P st q k=>⟨ρ,_,st,q,λd v H1 hd s1 r=>?_⟩
 unfold sD at hd;split at hd
 ·obtain⟨p,vs,rfl,hq,rr⟩:=r.lst
  exact⟨p,vs,rfl,.inl hq,λp' hp'=>.inr ⟨p',_,H1,rfl,rfl,hp',λH4 s4 fz=>k _ _ H4 hd (s1.trans s4) (.lst fz (rr.keep (.of s4)))⟩⟩
 ·obtain⟨p,vs,rfl,hq,rr⟩:=r.tup
  exact⟨p,vs,rfl,.inr (SqT.of hq),λp' hp'=>.inr ⟨p',_,H1,rfl,rfl,hp',λH4 s4 fz=>k _ _ H4 hd (s1.trans s4) (.lst fz (rr.keep (.of s4)))⟩⟩
 ·exact hd.elim
noncomputable def tD:D->(D->Prop)->Prop:=λd Q=>match d with
 | .lst ds=>Q (.tup ds)
 | .tup ds=>Q (.tup ds)
 | _=>False
theorem AF (hm:X.mg "tuple" = none) (h:DB X e te) (hg:Gl X "tuple":=by rfl) (hs:starEach [e] X.env=[(false,eval e X.env)]:=by rfl) (hn:starEach [] X.env=[]:=by rfl):DE X (.Call (.Name "tuple" p) [e] [] pos) (r1 tD te):=by
 refine PE.mono (qC vK hg hm DK (fZ h hs hn) (by decide) (by decide) (by rw[hs,hn]) (by rw[hn];rfl)) λσ H Q hh=>bT hh λρ P st q k=>⟨ρ,_,st,q,λd v H1 hd s1 r=>?_⟩
 unfold tD at hd;split at hd
 ·obtain⟨p,vs,rfl,hq,rr⟩:=r.lst
  exact⟨p,vs,rfl,.inl ⟨hq,λp' hp'=>k _ _ _ hd (s1.trans (upd_new hp')) (.tup bQ (rr.keep (.of (upd_new hp'))))⟩⟩
 ·obtain⟨p,vs,rfl,hq,rr⟩:=r.tup
  exact⟨p,vs,rfl,.inr ⟨SqT.of hq,k _ _ H1 hd s1 (.tup hq rr)⟩⟩
 ·exact hd.elim
theorem iJ:∀{ns:List Int} {its:List Value},Vals (ns.map V.int) its->∃xs:List (Int × Tok),its.toArray=intItems xs.toArray/\xs.map Prod.fst=ns
 | [],_,.nil=>⟨[],by simp[intItems],rfl⟩
 | n::ns,_,.cons ⟨t,rfl⟩ r=>by
  obtain⟨xs,h1,h2⟩:=iJ r
  refine⟨(n,t)::xs,?_,by simp[h2]⟩
  have h3:=congrArg Array.toList h1
  simp[intItems] at h3 ⊢
  exact h3
theorem IL (hc:X.calm=true):gS X (.builtin "sum") (λxs H Q=>∃(p:Addr) (ns:List Int),xs=[.ref p]/\SqL X.K H p (ns.map V.int)/\Q (.int ns.sum) H):=by
 intro pins s σ H xs us Q I r h
 obtain⟨p,ns,rfl,hq,q⟩:=h
 obtain⟨u,rfl,rx⟩:=iU r
 cases rx
 obtain⟨its,r',pl,hz⟩:=I.list hq
 obtain⟨ys,h1,h2⟩:=iJ r'
 rw[h1] at pl
 refine sum_intListG (I.ok.hd hc) pl.isList λh' tk t' hk=>⟨.int ns.sum,H,I.kept hk,⟨t',?_⟩,q⟩
 rw[preSum_eq,List.take_of_length_le (by simp),<-h2]
theorem lX {ys:List (Int × Tok)} {ns:List Int} (h:ys.map Prod.fst=ns) {i:Nat} (hi:i<ns.length):numAt ys.toArray i=ns[i]:=by
 subst h
 have hi':i<ys.length:=by simpa using hi
 simp[numAt,hi']
theorem IH (hc:X.calm=true):gS X (.builtin "max") (λxs H Q=>∃(p:Addr) (ns:List Int),xs=[.ref p]/\SqL X.K H p (ns.map V.int)/\ns≠[]/\∀M,M∈ns->(∀a∈ns,a<=M)->Q (.int M) H):=by
 intro pins s σ H xs us Q I r h
 obtain⟨p,ns,rfl,hq,hne,q⟩:=h
 obtain⟨u,rfl,rx⟩:=iU r
 cases rx
 obtain⟨its,r',pl,hz⟩:=I.list hq
 obtain⟨ys,h1,h2⟩:=iJ r'
 rw[h1] at pl
 have hl:ys.length=ns.length:=by rw[<-h2];simp
 have hp:0<ns.length:=List.length_pos_iff.mpr hne
 refine max_intList (I.ok.hd hc) pl.isList (by simpa [hl] using hp) λv h' tk hv hk=>?_
 obtain⟨t,rfl⟩:=intItems_at hv
 obtain⟨g1,g2⟩:=argBest_gt (numAt ys.toArray) (ys.toArray.size-1)
 have g3:argBest (λi j=>decide (numAt ys.toArray i > numAt ys.toArray j)) (ys.toArray.size-1)<ns.length:=by rw[<-hl];simp at g1 ⊢;omega
 refine⟨.int _,H,I.kept hk,⟨t,rfl⟩,q _ ?_ λa ha=>?_⟩
 ·rw[lX h2 g3];exact List.getElem_mem g3
 ·obtain⟨j,hj,rfl⟩:=List.getElem_of_mem ha
  rw[<-lX h2 hj]
  exact g2 j (by simp[hl];omega)
theorem IK (hc:X.calm=true):gS X (.builtin "min") (λxs H Q=>∃(p:Addr) (ns:List Int),xs=[.ref p]/\SqL X.K H p (ns.map V.int)/\ns≠[]/\∀M,M∈ns->(∀a∈ns,M<=a)->Q (.int M) H):=by
 intro pins s σ H xs us Q I r h
 obtain⟨p,ns,rfl,hq,hne,q⟩:=h
 obtain⟨u,rfl,rx⟩:=iU r
 cases rx
 obtain⟨its,r',pl,hz⟩:=I.list hq
 obtain⟨ys,h1,h2⟩:=iJ r'
 rw[h1] at pl
 have hl:ys.length=ns.length:=by rw[<-h2];simp
 have hp:0<ns.length:=List.length_pos_iff.mpr hne
 refine min_intList (I.ok.hd hc) pl.isList (by simpa [hl] using hp) λv h' tk hv hk=>?_
 obtain⟨t,rfl⟩:=intItems_at hv
 obtain⟨g1,g2⟩:=argBest_lt (numAt ys.toArray) (ys.toArray.size-1)
 have g3:argBest (λi j=>decide (numAt ys.toArray i<numAt ys.toArray j)) (ys.toArray.size-1)<ns.length:=by rw[<-hl];simp at g1 ⊢;omega
 refine⟨.int _,H,I.kept hk,⟨t,rfl⟩,q _ ?_ λa ha=>?_⟩
 ·rw[lX h2 g3];exact List.getElem_mem g3
 ·obtain⟨j,hj,rfl⟩:=List.getElem_of_mem ha
  rw[<-lX h2 hj]
  exact g2 j (by simp[hl];omega)
noncomputable def DQ:D->(D->Prop)->Prop:=λd Q=>match d with
 | .lst ds=>∃ns:List Int,ds=ns.map D.int/\Q (.int ns.sum)
 | _=>False
noncomputable def GC:D->(D->Prop)->Prop:=λd Q=>match d with
 | .lst ds=>∃ns:List Int,ds=ns.map D.int/\ns≠[]/\∀M,M∈ns->(∀a∈ns,a<=M)->Q (.int M)
 | _=>False
noncomputable def ML:D->(D->Prop)->Prop:=λd Q=>match d with
 | .lst ds=>∃ns:List Int,ds=ns.map D.int/\ns≠[]/\∀M,M∈ns->(∀a∈ns,M<=a)->Q (.int M)
 | _=>False
theorem LM:bootBuiltins "sum" = some (.builtin "sum"):=by decide +kernel
theorem LK:bootBuiltins "max" = some (.builtin "max"):=by decide +kernel
theorem zR:bootBuiltins "min" = some (.builtin "min"):=by decide +kernel
theorem xZ (hm:X.mg "sum" = none) (hc:X.calm=true) (h:DB X e te) (hg:Gl X "sum":=by rfl) (hs:starEach [e] X.env=[(false,eval e X.env)]:=by rfl) (hn:starEach [] X.env=[]:=by rfl):DE X (.Call (.Name "sum" p) [e] [] pos) (r1 DQ te):=by
 refine PE.mono (gX (IL hc) hg hm LM (fZ h hs hn) (by decide) (by decide) (by rw[hs,hn]) (by rw[hn];rfl)) λσ H Q hh=>bT hh λρ P st q k=>⟨ρ,_,st,q,λd v H1 hd s1 r=>?_⟩
 unfold DQ at hd;split at hd
 ·obtain⟨ns,rfl,hd⟩:=hd
  obtain⟨p,vs,rfl,hq,rr⟩:=r.lst
  rw[rr.ints_inv] at hq
  exact⟨p,ns,rfl,hq,k _ _ H1 hd s1 (.int _)⟩
 ·exact hd.elim
theorem GE (hm:X.mg "max" = none) (hc:X.calm=true) (h:DB X e te) (hg:Gl X "max":=by rfl) (hs:starEach [e] X.env=[(false,eval e X.env)]:=by rfl) (hn:starEach [] X.env=[]:=by rfl):DE X (.Call (.Name "max" p) [e] [] pos) (r1 GC te):=by
 refine PE.mono (gX (IH hc) hg hm LK (fZ h hs hn) (by decide) (by decide) (by rw[hs,hn]) (by rw[hn];rfl)) λσ H Q hh=>bT hh λρ P st q k=>⟨ρ,_,st,q,λd v H1 hd s1 r=>?_⟩
 unfold GC at hd;split at hd
 ·obtain⟨ns,rfl,hne,hd⟩:=hd
  obtain⟨p,vs,rfl,hq,rr⟩:=r.lst
  rw[rr.ints_inv] at hq
  exact⟨p,ns,rfl,hq,hne,λM m1 m2=>k _ _ H1 (hd M m1 m2) s1 (.int _)⟩
 ·exact hd.elim
theorem QD (hm:X.mg "min" = none) (hc:X.calm=true) (h:DB X e te) (hg:Gl X "min":=by rfl) (hs:starEach [e] X.env=[(false,eval e X.env)]:=by rfl) (hn:starEach [] X.env=[]:=by rfl):DE X (.Call (.Name "min" p) [e] [] pos) (r1 ML te):=by
 refine PE.mono (gX (IK hc) hg hm zR (fZ h hs hn) (by decide) (by decide) (by rw[hs,hn]) (by rw[hn];rfl)) λσ H Q hh=>bT hh λρ P st q k=>⟨ρ,_,st,q,λd v H1 hd s1 r=>?_⟩
 unfold ML at hd;split at hd
 ·obtain⟨ns,rfl,hne,hd⟩:=hd
  obtain⟨p,vs,rfl,hq,rr⟩:=r.lst
  rw[rr.ints_inv] at hq
  exact⟨p,ns,rfl,hq,hne,λM m1 m2=>k _ _ H1 (hd M m1 m2) s1 (.int _)⟩
 ·exact hd.elim
end
noncomputable def Itv (K:PySem.W.Frag) (a:Addr) (n:Nat):It :=
 ⟨λi H=>∃xs x,SqL K H a xs/\xs.length=n/\xs.reverse[i]? = some x,λi H x H'=>H'=H/\∀xs,SqL K H a xs->xs.reverse[i]? = some x,λi H=>∃xs,SqL K H a xs/\xs.length=n/\n<=i⟩
theorem PF {P:Program} {w:World} {K:PySem.W.Frag} {tg:Expr} (a it:Addr) (n:Nat):Turn P w K tg (Itv K a n) [it] it (λi h=>i<=n/\h.IsRevIter it a ((n:Int)-1-(i:Int))) where
 mem:=by simp
 obj:=λi h st b hb=>by
  have e:b=it:=by simpa using hb
  subst e
  obtain⟨_,o,e,c,d⟩:=st
  exact⟨o,e,λv z=>by rw[d] at z;cases z⟩
 keep:=λi h h' st k=>⟨st.1,st.2.at λo e=>k it (by simp) o e⟩
 item:=by
  intro X hP hw hK hc i pins s σ H E I hf st hg
  subst hP hw hK
  obtain⟨hi,st⟩:=st
  obtain⟨xs,x,hq,hn,hx⟩:=hg
  obtain⟨its,rv,p,hz⟩:=I.list hq
  have hlt:i<n:=by
   have:=(List.getElem?_eq_some_iff.mp hx).1
   simpa [hn] using this
  have hx2:xs[n-1-i]? = some x:=by
   rw[List.getElem?_reverse (by omega)] at hx
   rw[<-hx,hn]
  obtain⟨u,hu,ru⟩:=rv.get hx2
  obtain⟨f0,f1,f2,f3,f4,f5⟩:=hf it (by simp)
  have ei:(n:Int)-1-(i:Int)=((n-1-i:Nat):Int):=by omega
  rw[ei] at st
  refine wpAny_pyNext_rev_item st p.isList (x:=u) (by simpa using hu) λh' st' sb=>?_
  have e2:((n-1-i:Nat):Int)-1=(n:Int)-1-((i+1:Nat):Int):=by omega
  rw[e2] at st'
  have I1:Inv X pins σ H { s with heap:=h' }:=I.turned (t':=s.toks) (λb o hb e=>(sb.2 b hb).trans e) f0 f1 f3 f4 f5
  obtain⟨o,e,c,d⟩:=id st'
  exact⟨u,rfl,GP (s:={ s with heap:=h' }) e c d (by decide) ⟨x,H,I1,ru,⟨rfl,λys hy=>by rw[I.list_inj hy hq];exact hx⟩,⟨hlt,st'⟩,λb hb=>(hf b hb).1⟩⟩
 done:=by
  intro X hP hw hK hc i pins s σ H E I hf st hg
  subst hP hw hK
  obtain⟨hi,st⟩:=st
  obtain⟨xs,hq,hn,hx⟩:=hg
  obtain⟨f0,f1,f2,f3,f4,f5⟩:=hf it (by simp)
  have e:i=n:=by omega
  subst e
  have ei:(i:Int)-1-(i:Int) = -1:=by omega
  rw[ei] at st
  exact wpAny_pyNext_rev_end (I.ok.hd hc) st λh' eb=>⟨rfl,I.turned (t':=s.toks) (λb o hb e=>eb b o hb e) f0 f1 f3 f4 f5⟩
 self:=λ_ _ _ _ _ st h=>wpAny_pyIter_revIter st.2 h
section
variable {X:Cx} {tg e:Expr} {te:RE} {pos p:Pos}
noncomputable def OJ (te:RE):RA:=λρ Q=>te ρ λd=>match d with
 | .lst ds=>Q ds.reverse
 | _=>False
theorem mG:bootBuiltins "reversed" = some (.type "reversed"):=by decide +kernel
theorem UO (hm:X.mg "reversed" = none) (h:DE X e te) (hg:Gl X "reversed":=by rfl) (hs:starEach [e] X.env=[(false,eval e X.env)]:=by rfl) (hn:starEach [] X.env=[]:=by rfl) :
  DI X tg (.Call (.Name "reversed" p) [e] [] pos) (OJ te):=by
 intro pins s σ H R I hh_0
 obtain⟨ρ,P,st,q,kk⟩:=hh_0
 refine Call_ (fY I hg hm mG (PyProof.Rows.callWith_type1 (thn (fZ h hs hn pos pins s σ H (λvs H1=>∃a ds us,vs=[V.ref a]/\Same H H1/\P ds.reverse/\FzL X.K H1 a us/\Reps X.K H1 ds us) I ⟨ρ,_,st,q,λd v H1 hd s1 r=>?_⟩) λus s1 ⟨vs,H1,I1,r1,q1⟩=>?_) (by rw[hs,hn]) (by rw[hn];rfl)))
 ·cases d with
  | lst ds =>
   cases r with
   | @lst a vs _ hz rr=>exact⟨a,ds,vs,rfl,s1,hd,hz,rr⟩
  | _=>exact hd.elim
 obtain⟨a,ds,ws,rfl,s01,hp,hz,rr⟩:=q1
 obtain⟨u,rfl,ru⟩:=iU r1
 cases ru
 obtain⟨its,rv,pl,hzz⟩:=I1.list hz.sq
 have hl:=rv.length
 refine call_reversed_list pl.isList ?_
 have hit:({ s1 with heap:=s1.heap.push (revObj a ((its.toArray.size:Int)-1)) }:Shared).heap.IsRevIter s1.heap.objs.size a ((ws.length:Int)-1-((0:Nat):Int)):=⟨_,Heap.get?_push_size _ rfl,rfl,by simp[revObj,hl]⟩
 refine wpAny_pyIter_revIter hit ⟨s1.heap.objs.size,[s1.heap.objs.size],_,_,H1,rfl,I1.kept (t':=s1.toks) λb o e=>Heap.get?_push_of_some _ e,PF a _ ws.length,⟨Nat.zero_le _,hit⟩,λb hb=>?_,?_⟩
 ·rw[List.mem_singleton.mp hb];exact (I1.fpOk (Nat.le_refl _) (I1.hok.fresh (Nat.le_refl _)))
 ·refine kk ds.reverse _ H1 hp s01 λi H2 kp=>⟨λd ed=>?_,λhl=>⟨ws,(hz.keep kp).sq,rfl,by rw[<-rr.length];simpa using hl⟩⟩
  obtain⟨v,h1,h2⟩:=(rr.reverse.keep kp).get ed
  refine⟨⟨ws,v,(hz.keep kp).sq,rfl,h1⟩,λx H' y=>?_⟩
  obtain⟨rfl,hy⟩:=y
  have e3:=hy ws (hz.keep kp).sq
  rw[h1] at e3;cases e3
  exact⟨Same.refl _,h2⟩
end
structure Sub (prog:Program) (w:World) (I a:Addr) (vs:List Value) (T:Nat->Heap->Prop):Prop where
 stay:∀{k:Nat} {h h':Heap},T k h->(∀o,h.get? I=some o->h'.get? I=some o)->(∀o,h.get? a=some o->h'.get? a=some o)->T k h'
 lt:∀{k:Nat} {h:Heap},T k h->I<h.objs.size/\a<h.objs.size
 item:∀{A:Around} {E:Value->Shared->Prop} {s:Shared} {k:Nat} {x:Value} {Q:Value->Shared->Prop},T k s.heap->vs[k]? = some x->(∀h',T (k+1) h'->Heap.SameBut I s.heap h'->Q x { s with heap:=h' }) ->
  wpAny (model prog w) A (Builtin.SmallTypes.nextOf (.ref I)) Q E s
 done:∀{A:Around} {E:Value->Shared->Prop} {s:Shared} {k:Nat} {Q:Value->Shared->Prop},A.handled=none->T k s.heap->vs[k]? = none ->
  (∀h' e,Heap.ExtBut I s.heap h'->(∃o,h'.get? e=some o/\o.cls = .type "StopIteration")->E (.ref e) { s with heap:=h' })->wpAny (model prog w) A (Builtin.SmallTypes.nextOf (.ref I)) Q E s
theorem OV {prog:Program} {w:World} {I a:Addr} {vs:List Value} (ne:a≠I):Sub prog w I a vs (λk h=>h.IsListIter I a k/\h.IsList a vs.toArray) where
 stay:=λt e1 e2=>⟨t.1.at e1,t.2.at e2⟩
 lt:=λt=>by
  obtain⟨⟨o,e,_⟩,o2,e2,_⟩:=t
  exact⟨Heap.lt_size e,Heap.lt_size e2⟩
 item:=λt e q=>wpAny_nextOf_list_item t.1 t.2 (by simpa using e) λh' t' sb=>q h' ⟨t',t.2.extBut sb.extBut ne⟩ sb
 done:=λhh t e q=>wpAny_nextOf_list_end hh t.1 t.2 (by simpa using e) q
section
variable {prog:Program} {w:World} {A:Around} {E:Value->Shared->Prop} {s:Shared}
theorem ET {I a:Addr} {k:Nat} {vs:List Value} {x:Value} {Q:Value->Shared->Prop} (hi:s.heap.IsTupleIter I a k) (ht:s.heap.IsTuple a vs.toArray) (hx:vs[k]? = some x)
  (q:∀h',h'.IsTupleIter I a (k+1)->Heap.SameBut I s.heap h'->Q x { s with heap:=h' }):wpAny (model prog w) A (Builtin.SmallTypes.nextOf (.ref I)) Q E s:=by
 obtain⟨o,eo,co,dO⟩:=id hi
 obtain⟨t,et,_,nt,dT⟩:=ht
 unfold Builtin.SmallTypes.nextOf
 apply wpAny_bind;apply wpAny_callSpecial?_slot (name:=Str.ofString "__next__") hi.typeIs F.slot_tuple_iterator_next;apply wpAny_call_entry F.slot_tuple_iterator_next hi.typeIs F.entry_tuple_iterator_next ?_ (F.args_tuple_iterator_next_1 _)
 show wpAny _ _ (field (.ref I) 0 >>= _) _ _ s
 apply wpAny_bind;apply wpAny_field eo dO (x:=.ref a) rfl
 show wpAny _ _ (if (Value.ref a == Value.none)=true then _ else _) _ _ s
 rw[if_neg (by exact Bool.false_ne_true)]
 show wpAny _ _ (field (.ref I) 1 >>= _) _ _ s
 apply wpAny_bind;apply wpAny_field eo dO (x:=.int k 0) rfl
 show wpAny _ _ (seqItems? (.ref a) >>= _) _ _ s
 have hx':vs.toArray[k]? = some x:=by simpa using hx
 apply wpAny_bind;apply wpAny_seqItems et dT;simp only[Int.toNat_natCast,hx']
 apply wpAny_bind;apply wpAny_setField eo dO (by simp);apply wpAny_pure
 refine⟨x,rfl,wpAny_pure (q _ ⟨_,Heap.get?_update_self _ eo (Obj.isFreed_of_fields (Obj.data_mapFields dO _)),(Obj.cls_mapFields ..).trans co,?_⟩ (Heap.SameBut.update ..))⟩
 rw[Obj.data_mapFields dO];simp[rawInt]
theorem tT {I a:Addr} {k:Nat} {vs:List Value} {Q:Value->Shared->Prop} (hh:A.handled=none) (hi:s.heap.IsTupleIter I a k) (ht:s.heap.IsTuple a vs.toArray) (hx:vs[k]? = none)
  (q:∀h' e,Heap.ExtBut I s.heap h'->(∃o,h'.get? e=some o/\o.cls = .type "StopIteration")->E (.ref e) { s with heap:=h' }):wpAny (model prog w) A (Builtin.SmallTypes.nextOf (.ref I)) Q E s:=by
 obtain⟨o,eo,co,dO⟩:=id hi
 obtain⟨t,et,_,nt,dT⟩:=ht
 unfold Builtin.SmallTypes.nextOf
 apply wpAny_bind;apply wpAny_callSpecial?_slot (name:=Str.ofString "__next__") hi.typeIs F.slot_tuple_iterator_next;apply wpAny_call_entry F.slot_tuple_iterator_next hi.typeIs F.entry_tuple_iterator_next ?_ (F.args_tuple_iterator_next_1 _)
 show wpAny _ _ (field (.ref I) 0 >>= _) _ _ s
 apply wpAny_bind;apply wpAny_field eo dO (x:=.ref a) rfl
 show wpAny _ _ (if (Value.ref a == Value.none)=true then _ else _) _ _ s
 rw[if_neg (by exact Bool.false_ne_true)]
 show wpAny _ _ (field (.ref I) 1 >>= _) _ _ s
 apply wpAny_bind;apply wpAny_field eo dO (x:=.int k 0) rfl
 show wpAny _ _ (seqItems? (.ref a) >>= _) _ _ s
 have hx':vs.toArray[k]? = none:=by simpa using hx
 apply wpAny_bind;apply wpAny_seqItems et dT;simp only[Int.toNat_natCast,hx']
 apply wpAny_bind;apply wpAny_rule;apply wpAny_bind;apply wpAny_setField eo dO (by simp)
 show wpAny _ _ (newExc (.type "StopIteration") [] >>= _) _ _ _
 apply wpAny_bind;simp only[newExc,newTuple]
 apply wpAny_bind;refine wpAny_newObj_type ?_ (by size_fits)
 refine wpAny_bind (m:=firstArgMember _ _) ?_
 refine wpAny_of_eq (a:=Value.none) (by first | rfl | (simp only[firstArgMember];rfl)) ?_
 refine wpAny_newObj_type ?_ (by size_fits)
 simp only[raiseNew]
 apply wpAny_bind;apply wpAny_handled
 first | rw[show A.in1.handled=none from hh] | rw[hh]
 apply wpAny_throw
 exact q _ _ (((Heap.SameBut.update ..).extBut.push _).push _) ⟨_,Heap.get?_push_size _ rfl,rfl⟩
end
theorem SL {prog:Program} {w:World} {I a:Addr} {vs:List Value} (ne:a≠I):Sub prog w I a vs (λk h=>h.IsTupleIter I a k/\h.IsTuple a vs.toArray) where
 stay:=λt e1 e2=>⟨t.1.at e1,t.2.at e2⟩
 lt:=λt=>by
  obtain⟨⟨o,e,_⟩,o2,e2,_⟩:=t
  exact⟨Heap.lt_size e,Heap.lt_size e2⟩
 item:=λt e q=>ET t.1 t.2 e λh' t' sb=>q h' ⟨t',t.2.at λo x=>sb.extBut _ o ne x⟩ sb
 done:=λhh t e q=>tT hh t.1 t.2 e q
noncomputable abbrev dS (h:Heap) (z TI TO:Addr) (f0 f1:Value):Prop:=h.get? z=some { cls:=.type "zip",dict:=none,data:=.fields #[f0,f1,.bool false,.ref TI,.ref TO],slots:=#[] }
noncomputable def UF (h:Heap) (z TI TO i1 i2:Addr):Prop:=dS h z TI TO .none (.bool false)\/∃(T:Addr) (b:Bool) (o:Obj),dS h z TI TO (rawInt T) (.bool b)/\(h.get? T=some o/\o.cls = .type "tuple")/\T≠z/\T≠i1/\T≠i2
structure ZipAp (z TI TO i1 i2 a1 a2:Addr):Prop where
 TIz:TI≠z
 TOz:TO≠z
 i1z:i1≠z
 i2z:i2≠z
 a1z:a1≠z
 a2z:a2≠z
 IO:TI≠TO
 I1:TI≠i1
 I2:TI≠i2
 O1:TO≠i1
 O2:TO≠i2
 i12:i1≠i2
 a1O:a1≠TO
 a2O:a2≠TO
 a1i1:a1≠i1
 a1i2:a1≠i2
 a2i1:a2≠i1
 a2i2:a2≠i2
section
variable {prog:Program} {w:World} {A:Around} {E:Value->Shared->Prop} {s:Shared} {z TI TO i1 i2 a1 a2:Addr} {vs us:List Value} {T1 T2:Nat->Heap->Prop}
structure ZipSt (z TI TO i1 i2:Addr) (T1 T2:Nat->Heap->Prop) (k:Nat) (h:Heap):Prop where
 out:UF h z TI TO i1 i2
 its:IsPair h TI (.ref i1) (.ref i2)
 own:∃a b,IsPair h TO a b
 one:T1 k h
 two:T2 k h
theorem uX (D:ZipAp z TI TO i1 i2 a1 a2) (S1:Sub prog w i1 a1 vs T1) (S2:Sub prog w i2 a2 us T2) {k:Nat} {x y a b:Value} {Q:Value->Shared->Prop} (hz:dS s.heap z TI TO .none (.bool false)) (hI:IsPair s.heap TI (.ref i1) (.ref i2)) (hO:IsPair s.heap TO a b)
  (t1:T1 k s.heap) (t2:T2 k s.heap) (ex:vs[k]? = some x) (ey:us[k]? = some y)
  (q:∀h',ZipSt z TI TO i1 i2 T1 T2 (k+1) h'->IsPair h' s.heap.objs.size x y->h'.objs.size=s.heap.objs.size+1->(∀c o,c≠z->c≠TO->c≠i1->c≠i2->s.heap.get? c=some o->h'.get? c=some o)->Q (.ref s.heap.objs.size) { s with heap:=h' }) :
  wpAny (model prog w) A (Builtin.«zip.__next__» ⟨[.ref z],[]⟩) (λfin s'=>∃v,fin = .done (.ret v)/\Q v s') E s:=by
 show wpAny _ _ (field (.ref z) 2 >>= _) _ _ _
 apply wpAny_bind;apply wpAny_field hz rfl (x:=.bool false) rfl
 show wpAny _ _ (field (.ref z) 3 >>= _) _ _ _
 apply wpAny_bind;apply wpAny_field hz rfl (x:=.ref TI) rfl;apply wpAny_bind;apply wpAny_seqItems hI rfl
 show wpAny _ _ (Builtin.SmallTypes.ownedTupleIsFree (.ref z) >>= _) _ _ _
 apply wpAny_bind;unfold Builtin.SmallTypes.ownedTupleIsFree
 apply wpAny_bind;apply wpAny_field hz rfl (x:=.none) rfl;apply wpAny_pure
 simp only[if_true]
 apply wpAny_bind;apply wpAny_rule;apply wpAny_bind;apply wpAny_field hz rfl (x:=.ref TO) rfl
 apply wpAny_bind;refine wpAny_setField_rec hz (by simp) λh₁ hz1 sb1=>?_
 replace hz1:dS h₁ z TI TO .ellipsis (.bool false):=hz1
 apply wpAny_bind;simp only[List.zipIdx_cons,List.zipIdx_nil,List.forIn_cons,List.forIn_nil]
 apply wpAny_bind;apply wpAny_bind;apply wpAny_onRaise
 show wpAny _ _ (Builtin.SmallTypes.nextOf (.ref i1) >>= _) _ _ _
 apply wpAny_bind;refine S1.item (S1.stay t1 (λo e=>sb1.extBut _ o D.i1z e) λo e=>sb1.extBut _ o D.a1z e) ex λh₂ t12 sb2=>wpAny_pure ?_
 have hO2:IsPair h₂ TO a b:=sb2.extBut _ _ D.O1 (sb1.extBut _ _ D.TOz hO)
 apply wpAny_bind;apply wpAny_seqItems hO2 rfl;apply wpAny_bind;refine wpAny_updateSeq_pair hO2 λh₃ hO3 sb3=>?_
 replace hO3:IsPair h₃ TO x b:=hO3
 apply wpAny_bind;apply wpAny_letGo;apply wpAny_pure
 apply wpAny_bind;apply wpAny_bind;apply wpAny_onRaise
 show wpAny _ _ (Builtin.SmallTypes.nextOf (.ref i2) >>= _) _ _ _
 have keep3:∀c o,c≠z->c≠i1->c≠TO->s.heap.get? c=some o->h₃.get? c=some o:=λc o c1 c2 c3 e=>sb3.extBut _ _ c3 (sb2.extBut _ _ c2 (sb1.extBut _ _ c1 e))
 apply wpAny_bind;refine S2.item (S2.stay t2 (λo e=>keep3 _ o D.i2z D.i12.symm D.O2.symm e) λo e=>keep3 _ o D.a2z D.a2i1 D.a2O e) ey λh₄ t24 sb4=>wpAny_pure ?_
 have hO4:IsPair h₄ TO x b:=sb4.extBut _ _ D.O2 hO3
 apply wpAny_bind;apply wpAny_seqItems hO4 rfl;apply wpAny_bind;refine wpAny_updateSeq_pair hO4 λh₅ hO5 sb5=>?_
 replace hO5:IsPair h₅ TO x y:=hO5
 apply wpAny_bind;apply wpAny_letGo;apply wpAny_pure;apply wpAny_pure
 apply wpAny_bind;apply wpAny_seqItems hO5 rfl;apply wpAny_bind;refine wpAny_newTuple ?_
 have z5:h₅.objs.size=s.heap.objs.size:=by rw[sb5.1,sb4.1,sb3.1,sb2.1,sb1.1]
 have hz5:dS h₅ z TI TO .ellipsis (.bool false):=sb5.extBut _ _ D.TOz.symm (sb4.extBut _ _ D.i2z.symm (sb3.extBut _ _ D.TOz.symm (sb2.extBut _ _ D.i1z.symm hz1)))
 have keep5:∀c o,c≠z->c≠TO->c≠i1->c≠i2->s.heap.get? c=some o->h₅.get? c=some o:=λc o c1 c2 c3 c4 e=>sb5.extBut _ _ c2 (sb4.extBut _ _ c4 (keep3 c o c1 c3 c2 e))
 have t15:T1 (k+1) h₅:=S1.stay t12 (λo e=>sb5.extBut _ _ D.O1.symm (sb4.extBut _ _ D.i12 (sb3.extBut _ _ D.O1.symm e))) λo e=>sb5.extBut _ _ D.a1O (sb4.extBut _ _ D.a1i2 (sb3.extBut _ _ D.a1O e))
 have t25:T2 (k+1) h₅:=S2.stay t24 (λo e=>sb5.extBut _ _ D.O2.symm e) λo e=>sb5.extBut _ _ D.a2O e
 have zl:z<h₅.objs.size:=Heap.lt_size hz5
 show wpAny _ _ (Builtin.SmallTypes.ownedTupleHandOut (.ref z) (.ref h₅.objs.size) >>= _) _ _ _
 apply wpAny_bind;unfold Builtin.SmallTypes.ownedTupleHandOut
 have hz6:dS (h₅.push { cls:=.type "tuple",data:=.seq #[x,y] }) z TI TO .ellipsis (.bool false):=Heap.get?_push_of_some _ hz5
 apply wpAny_bind;refine wpAny_setField_rec hz6 (by simp) λh₇ hz7 sb7=>?_
 replace hz7:dS h₇ z TI TO (rawInt h₅.objs.size) (.bool false):=hz7
 refine wpAny_setField_rec hz7 (by simp) λh₈ hz8 sb8=>?_
 replace hz8:dS h₈ z TI TO (rawInt h₅.objs.size) (.bool false):=hz8
 have up:∀c o,c≠z->h₅.get? c=some o->h₈.get? c=some o:=λc o c1 e=>sb8.extBut _ _ c1 (sb7.extBut _ _ c1 (Heap.get?_push_of_some _ e))
 have hT8:IsPair h₈ h₅.objs.size x y:=sb8.extBut _ _ (Nat.ne_of_gt zl) (sb7.extBut _ _ (Nat.ne_of_gt zl) (Heap.get?_push_size _ rfl))
 have s8:h₈.objs.size=h₅.objs.size+1:=by rw[sb8.1,sb7.1,Heap.size_push]
 apply wpAny_pure;refine⟨_,rfl,?_⟩
 show Q (.ref h₅.objs.size) _
 rw[z5] at hT8 s8 hz8 ⊢
 exact q h₈ ⟨.inr ⟨_,_,_,hz8,⟨hT8,rfl⟩,Nat.ne_of_gt (Heap.lt_size hz),Nat.ne_of_gt (S1.lt t1).1,Nat.ne_of_gt (S2.lt t2).1⟩,up _ _ D.TIz (keep5 _ _ D.TIz D.IO D.I1 D.I2 hI),⟨_,_,up _ _ D.TOz hO5⟩,S1.stay t15 (λo e=>up _ o D.i1z e) (λo e=>up _ o D.a1z e),S2.stay t25 (λo e=>up _ o D.i2z e) λo e=>up _ o D.a2z e⟩ hT8 s8 λc o c1 c2 c3 c4 e=>up c o c1 (keep5 c o c1 c2 c3 c4 e)
theorem UH {a:Addr} {o:Obj} {Q:Option Obj->Shared->Prop} (e:s.heap.get? a=some o) (q:Q (some o) s):wpAny (model prog w) A (loadIfAlive a) Q E s:=by
 have q':Q (s.heap.get? a) s:=e ▸ q
 exact λ_ _ _=>q'
theorem xI {T:Addr} {b:Bool} {o:Obj} {Q:Bool->Shared->Prop} (hz:dS s.heap z TI TO (rawInt T) (.bool b)) (hT:s.heap.get? T=some o)
  (q:∀h',dS h' z TI TO (rawInt T) (.bool true)->Heap.SameBut z s.heap h'->Q false { s with heap:=h' }):wpAny (model prog w) A (Builtin.SmallTypes.ownedTupleIsFree (.ref z)) Q E s:=by
 unfold Builtin.SmallTypes.ownedTupleIsFree
 apply wpAny_bind;apply wpAny_field hz rfl (x:=rawInt T) rfl
 show wpAny _ _ (loadIfAlive ((T:Int).toNat) >>= _) _ _ _
 apply wpAny_bind;refine UH (a:=((T:Int).toNat)) (o:=o) (by simpa using hT) ?_
 show wpAny _ _ (field (.ref z) 1 >>= _) _ _ _
 apply wpAny_bind;apply wpAny_field hz rfl (x:=.bool b) rfl
 cases b with
 | false =>
  show wpAny _ _ (setField (.ref z) 1 (.bool true) >>= _) _ _ _
  apply wpAny_bind;refine wpAny_setField_rec hz (by simp) λh₁ hz1 sb1=>wpAny_pure (q h₁ hz1 sb1)
 | true =>
  show wpAny _ _ (pure false) _ _ _
  exact wpAny_pure (q s.heap hz ⟨rfl,λ_ _=>rfl⟩)
theorem uY (D:ZipAp z TI TO i1 i2 a1 a2) (S1:Sub prog w i1 a1 vs T1) (S2:Sub prog w i2 a2 us T2) {k:Nat} {T:Addr} {f:Bool} {o:Obj} {x y a b:Value} {Q:Value->Shared->Prop} (hz:dS s.heap z TI TO (rawInt T) (.bool f)) (hT:s.heap.get? T=some o/\o.cls = .type "tuple")
  (hTz:T≠z) (hT1:T≠i1) (hT2:T≠i2) (hI:IsPair s.heap TI (.ref i1) (.ref i2)) (hO:IsPair s.heap TO a b) (t1:T1 k s.heap) (t2:T2 k s.heap) (ex:vs[k]? = some x) (ey:us[k]? = some y)
  (q:∀h',ZipSt z TI TO i1 i2 T1 T2 (k+1) h'->IsPair h' s.heap.objs.size x y->h'.objs.size=s.heap.objs.size+1->(∀c o,c≠z->c≠TO->c≠i1->c≠i2->s.heap.get? c=some o->h'.get? c=some o)->Q (.ref s.heap.objs.size) { s with heap:=h' }) :
  wpAny (model prog w) A (Builtin.«zip.__next__» ⟨[.ref z],[]⟩) (λfin s'=>∃v,fin = .done (.ret v)/\Q v s') E s:=by
 show wpAny _ _ (field (.ref z) 2 >>= _) _ _ _
 apply wpAny_bind;apply wpAny_field hz rfl (x:=.bool false) rfl
 show wpAny _ _ (field (.ref z) 3 >>= _) _ _ _
 apply wpAny_bind;apply wpAny_field hz rfl (x:=.ref TI) rfl;apply wpAny_bind;apply wpAny_seqItems hI rfl
 show wpAny _ _ (Builtin.SmallTypes.ownedTupleIsFree (.ref z) >>= _) _ _ _
 apply wpAny_bind;refine xI hz hT.1 λh₁ hz1 sb1=>?_
 simp only[Bool.false_eq_true,if_false]
 rw[<-Array.forIn_toList]
 apply wpAny_bind;simp only[List.forIn_cons,List.forIn_nil]
 apply wpAny_bind;apply wpAny_bind;apply wpAny_holding
 show wpAny _ _ (Builtin.SmallTypes.nextOf (.ref i1) >>= _) _ _ _
 apply wpAny_bind;refine S1.item (S1.stay t1 (λo e=>sb1.extBut _ o D.i1z e) λo e=>sb1.extBut _ o D.a1z e) ex λh₂ t12 sb2=>wpAny_pure ?_
 apply wpAny_pure
 apply wpAny_bind;apply wpAny_bind;apply wpAny_holding
 show wpAny _ _ (Builtin.SmallTypes.nextOf (.ref i2) >>= _) _ _ _
 have keep2:∀c o,c≠z->c≠i1->s.heap.get? c=some o->h₂.get? c=some o:=λc o c1 c2 e=>sb2.extBut _ _ c2 (sb1.extBut _ _ c1 e)
 apply wpAny_bind;refine S2.item (S2.stay t2 (λo e=>keep2 _ o D.i2z D.i12.symm e) λo e=>keep2 _ o D.a2z D.a2i1 e) ey λh₃ t23 sb3=>wpAny_pure ?_
 apply wpAny_pure;apply wpAny_pure
 have keep3:∀c o,c≠z->c≠i1->c≠i2->s.heap.get? c=some o->h₃.get? c=some o:=λc o c1 c2 c3 e=>sb3.extBut _ _ c3 (keep2 c o c1 c2 e)
 have z3:h₃.objs.size=s.heap.objs.size:=by rw[sb3.1,sb2.1,sb1.1]
 have hz3:dS h₃ z TI TO (rawInt T) (.bool true):=sb3.extBut _ _ D.i2z.symm (sb2.extBut _ _ D.i1z.symm hz1)
 show wpAny _ _ (newTuple [x,y] >>= _) _ _ _
 apply wpAny_bind;refine wpAny_newTuple ?_
 apply wpAny_pure;refine⟨_,rfl,?_⟩
 show Q (.ref h₃.objs.size) _
 have up:∀c o,h₃.get? c=some o->(h₃.push { cls:=.type "tuple",data:=.seq #[x,y] }).get? c=some o:=λc o e=>Heap.get?_push_of_some _ e
 have hp:IsPair (h₃.push { cls:=.type "tuple",data:=.seq #[x,y] }) h₃.objs.size x y:=Heap.get?_push_size _ rfl
 have sz:(h₃.push { cls:=.type "tuple",data:=.seq #[x,y] }).objs.size=h₃.objs.size+1:=Heap.size_push ..
 have zs:ZipSt z TI TO i1 i2 T1 T2 (k+1) (h₃.push { cls:=.type "tuple",data:=.seq #[x,y] }):=⟨.inr ⟨T,true,o,up _ _ hz3,⟨up _ _ (keep3 _ _ hTz hT1 hT2 hT.1),hT.2⟩,hTz,hT1,hT2⟩,up _ _ (keep3 _ _ D.TIz D.I1 D.I2 hI),⟨_,_,up _ _ (keep3 _ _ D.TOz D.O1 D.O2 hO)⟩,
  S1.stay t12 (λo e=>up _ o (sb3.extBut _ _ D.i12 e)) (λo e=>up _ o (sb3.extBut _ _ D.a1i2 e)),S2.stay t23 (λo e=>up _ o e) λo e=>up _ o e⟩
 rw[z3] at hp sz ⊢
 exact q _ zs hp sz λc o c1 c2 c3 c4 e=>up c o (keep3 c o c1 c3 c4 e)
theorem PK (D:ZipAp z TI TO i1 i2 a1 a2) (S1:Sub prog w i1 a1 vs T1) (S2:Sub prog w i2 a2 us T2) {k:Nat} {x y:Value} {Q:Option Value->Shared->Prop} (st:ZipSt z TI TO i1 i2 T1 T2 k s.heap) (ex:vs[k]? = some x) (ey:us[k]? = some y)
  (q:∀h',ZipSt z TI TO i1 i2 T1 T2 (k+1) h'->IsPair h' s.heap.objs.size x y->h'.objs.size=s.heap.objs.size+1->(∀c o,c≠z->c≠TO->c≠i1->c≠i2->s.heap.get? c=some o->h'.get? c=some o)->Q (some (.ref s.heap.objs.size)) { s with heap:=h' }) :
  wpAny (model prog w) A (pyNext (.ref z)) Q E s:=by
 obtain⟨a,b,hO⟩:=st.own
 have ty:s.TypeIs (.ref z) "zip":=by rcases st.out with hz | ⟨T,f,o,hz,_⟩ <;> exact⟨_,hz,rfl⟩
 unfold pyNext
 apply wpAny_bind;apply wpAny_attempt;apply wpAny_callSpecial?_slot (name:=Str.ofString "__next__") ty F.slot_zip_next;refine wpAny_call_entry F.slot_zip_next ty F.entry_zip_next ?_ (F.args_zip_next_1 _)
 rcases st.out with hz | ⟨T,f,o,hz,hT,n1,n2,n3⟩
 ·exact uX D S1 S2 hz st.its hO st.one st.two ex ey λh' b1 b2 b3 b4=>wpAny_pure (q h' b1 b2 b3 b4)
 ·exact uY D S1 S2 hz hT n1 n2 n3 st.its hO st.one st.two ex ey λh' b1 b2 b3 b4=>wpAny_pure (q h' b1 b2 b3 b4)
theorem PM (hh:A.handled=none) (D:ZipAp z TI TO i1 i2 a1 a2) (S1:Sub prog w i1 a1 vs T1) (S2:Sub prog w i2 a2 us T2) {k:Nat} {Q:Fin->Shared->Prop} (st:ZipSt z TI TO i1 i2 T1 T2 k s.heap) (ee:vs[k]? = none\/us[k]? = none)
  (q:∀h' e,(∀c o,c≠z->c≠TO->c≠i1->c≠i2->s.heap.get? c=some o->h'.get? c=some o)->(∃o,h'.get? e=some o/\o.cls = .type "StopIteration")->E (.ref e) { s with heap:=h' }) :
  wpAny (model prog w) A (Builtin.«zip.__next__» ⟨[.ref z],[]⟩) Q E s:=by
 obtain⟨a,b,hO⟩:=st.own
 have t1:=st.one
 have t2:=st.two
 have hI:=st.its
 rcases st.out with hz | ⟨T,f,o,hz,hT,n1,n2,n3⟩
 ·show wpAny _ _ (field (.ref z) 2 >>= _) _ _ _
  apply wpAny_bind;apply wpAny_field hz rfl (x:=.bool false) rfl
  show wpAny _ _ (field (.ref z) 3 >>= _) _ _ _
  apply wpAny_bind;apply wpAny_field hz rfl (x:=.ref TI) rfl;apply wpAny_bind;apply wpAny_seqItems hI rfl
  show wpAny _ _ (Builtin.SmallTypes.ownedTupleIsFree (.ref z) >>= _) _ _ _
  apply wpAny_bind;unfold Builtin.SmallTypes.ownedTupleIsFree
  apply wpAny_bind;apply wpAny_field hz rfl (x:=.none) rfl;apply wpAny_pure
  simp only[if_true]
  apply wpAny_bind;apply wpAny_rule;apply wpAny_bind;apply wpAny_field hz rfl (x:=.ref TO) rfl
  apply wpAny_bind;refine wpAny_setField_rec hz (by simp) λh₁ hz1 sb1=>?_
  replace hz1:dS h₁ z TI TO .ellipsis (.bool false):=hz1
  apply wpAny_bind;simp only[List.zipIdx_cons,List.zipIdx_nil,List.forIn_cons,List.forIn_nil]
  apply wpAny_bind;apply wpAny_bind;apply wpAny_onRaise
  show wpAny _ _ (Builtin.SmallTypes.nextOf (.ref i1) >>= _) _ _ _
  have t11:=S1.stay t1 (λo e=>sb1.extBut _ o D.i1z e) λo e=>sb1.extBut _ o D.a1z e
  cases ex:vs[k]? with
  | none =>
   apply wpAny_bind;refine S1.done (s:={ s with heap:=h₁ }) hh t11 ex λh₂ e xb he=>?_
   obtain⟨oe,h2,ce⟩:=he
   have hz2:dS h₂ z TI TO .ellipsis (.bool false):=xb _ _ D.i1z.symm hz1
   have nez:e≠z:=λy=>by subst y;rw[hz2] at h2;cases h2;simp at ce
   refine wpAny_setField_rec hz2 (by simp) λh₃ _ sb3=>q h₃ e (λc o c1 _ c3 _ y=>sb3.extBut _ _ c1 (xb _ _ c3 (sb1.extBut _ _ c1 y))) ⟨oe,sb3.extBut _ _ nez h2,ce⟩
  | some x =>
   have ey:us[k]? = none:=by rcases ee with h | h;rw[ex] at h;cases h;exact h
   apply wpAny_bind;refine S1.item t11 ex λh₂ t12 sb2=>wpAny_pure ?_
   have hO2:IsPair h₂ TO a b:=sb2.extBut _ _ D.O1 (sb1.extBut _ _ D.TOz hO)
   apply wpAny_bind;apply wpAny_seqItems hO2 rfl;apply wpAny_bind;refine wpAny_updateSeq_pair hO2 λh₃ hO3 sb3=>?_
   apply wpAny_bind;apply wpAny_letGo;apply wpAny_pure
   apply wpAny_bind;apply wpAny_bind;apply wpAny_onRaise
   show wpAny _ _ (Builtin.SmallTypes.nextOf (.ref i2) >>= _) _ _ _
   have keep3:∀c o,c≠z->c≠i1->c≠TO->s.heap.get? c=some o->h₃.get? c=some o:=λc o c1 c2 c3 e=>sb3.extBut _ _ c3 (sb2.extBut _ _ c2 (sb1.extBut _ _ c1 e))
   apply wpAny_bind;refine S2.done (s:={ s with heap:=h₃ }) hh (S2.stay t2 (λo e=>keep3 _ o D.i2z D.i12.symm D.O2.symm e) λo e=>keep3 _ o D.a2z D.a2i1 D.a2O e) ey λh₄ e xb he=>?_
   obtain⟨oe,h2,ce⟩:=he
   have hz4:dS h₄ z TI TO .ellipsis (.bool false):=xb _ _ D.i2z.symm (sb3.extBut _ _ D.TOz.symm (sb2.extBut _ _ D.i1z.symm hz1))
   have nez:e≠z:=λy=>by subst y;rw[hz4] at h2;cases h2;simp at ce
   refine wpAny_setField_rec hz4 (by simp) λh₅ _ sb5=>q h₅ e (λc o c1 c2 c3 c4 y=>sb5.extBut _ _ c1 (xb _ _ c4 (keep3 c o c1 c3 c2 y))) ⟨oe,sb5.extBut _ _ nez h2,ce⟩
 ·show wpAny _ _ (field (.ref z) 2 >>= _) _ _ _
  apply wpAny_bind;apply wpAny_field hz rfl (x:=.bool false) rfl
  show wpAny _ _ (field (.ref z) 3 >>= _) _ _ _
  apply wpAny_bind;apply wpAny_field hz rfl (x:=.ref TI) rfl;apply wpAny_bind;apply wpAny_seqItems hI rfl
  show wpAny _ _ (Builtin.SmallTypes.ownedTupleIsFree (.ref z) >>= _) _ _ _
  apply wpAny_bind;refine xI hz hT.1 λh₁ hz1 sb1=>?_
  simp only[Bool.false_eq_true,if_false]
  rw[<-Array.forIn_toList]
  apply wpAny_bind;simp only[List.forIn_cons,List.forIn_nil]
  apply wpAny_bind;apply wpAny_bind;apply wpAny_holding
  show wpAny _ _ (Builtin.SmallTypes.nextOf (.ref i1) >>= _) _ _ _
  have t11:=S1.stay t1 (λo e=>sb1.extBut _ o D.i1z e) λo e=>sb1.extBut _ o D.a1z e
  cases ex:vs[k]? with
  | none =>
   apply wpAny_bind;exact S1.done (s:={ s with heap:=h₁ }) hh t11 ex λh₂ e xb he=>q h₂ e (λc o c1 _ c3 _ y=>xb _ _ c3 (sb1.extBut _ _ c1 y)) he
  | some x =>
   have ey:us[k]? = none:=by rcases ee with h | h;rw[ex] at h;cases h;exact h
   apply wpAny_bind;refine S1.item t11 ex λh₂ t12 sb2=>wpAny_pure ?_
   apply wpAny_pure
   apply wpAny_bind;apply wpAny_bind;apply wpAny_holding
   show wpAny _ _ (Builtin.SmallTypes.nextOf (.ref i2) >>= _) _ _ _
   have keep2:∀c o,c≠z->c≠i1->s.heap.get? c=some o->h₂.get? c=some o:=λc o c1 c2 e=>sb2.extBut _ _ c2 (sb1.extBut _ _ c1 e)
   apply wpAny_bind;exact S2.done (s:={ s with heap:=h₂ }) hh (S2.stay t2 (λo e=>keep2 _ o D.i2z D.i12.symm e) λo e=>keep2 _ o D.a2z D.a2i1 e) ey λh₃ e xb he=>q h₃ e (λc o c1 c2 c3 c4 y=>xb _ _ c4 (keep2 c o c1 c3 y)) he
theorem SZ (hh:A.handled=none) (D:ZipAp z TI TO i1 i2 a1 a2) (S1:Sub prog w i1 a1 vs T1) (S2:Sub prog w i2 a2 us T2) {k:Nat} {Q:Option Value->Shared->Prop} (st:ZipSt z TI TO i1 i2 T1 T2 k s.heap) (ee:vs[k]? = none\/us[k]? = none)
  (q:∀h',(∀c o,c≠z->c≠TO->c≠i1->c≠i2->s.heap.get? c=some o->h'.get? c=some o)->Q none { s with heap:=h' }):wpAny (model prog w) A (pyNext (.ref z)) Q E s:=by
 have ty:s.TypeIs (.ref z) "zip":=by rcases st.out with hz | ⟨T,f,o,hz,_⟩ <;> exact⟨_,hz,rfl⟩
 unfold pyNext
 apply wpAny_bind;apply wpAny_attempt;apply wpAny_callSpecial?_slot (name:=Str.ofString "__next__") ty F.slot_zip_next;refine wpAny_call_entry F.slot_zip_next ty F.entry_zip_next ?_ (F.args_zip_next_1 _)
 refine PM (A:=A.in1) hh D S1 S2 st ee λh' e kp he=>?_
 obtain⟨o,ho,hc⟩:=he
 apply wpAny_bind;refine wpAny_isInstance (T:="StopIteration") (b:=true) ⟨o,ho,hc⟩ isSubtype_stop ?_
 exact wpAny_pure (q h' kp)
end
noncomputable abbrev jG (c:String) (l:Addr):Obj:={ cls:=.type c,data:=.fields #[.ref l,.int 0 0] }
noncomputable abbrev zH1 (c:String) (h:Heap) (l:Addr):Heap:=h.push (jG c l)
noncomputable abbrev zH2 (c d:String) (h:Heap) (l m:Addr):Heap:=(zH1 c h l).push (jG d m)
noncomputable abbrev zH3 (c d:String) (h:Heap) (l m:Addr):Heap:=(zH2 c d h l m).push { cls:=.type "tuple",data:=.seq #[.ref h.objs.size,.ref (zH1 c h l).objs.size] }
noncomputable abbrev zH4 (c d:String) (h:Heap) (l m:Addr):Heap:=(zH3 c d h l m).push { cls:=.type "tuple",data:=.seq #[.none,.none] }
noncomputable abbrev zH5 (c d:String) (h:Heap) (l m:Addr):Heap:=(zH4 c d h l m).push { cls:=.type "zip",data:=.fields #[.none,.bool false,.bool false,.ref (zH2 c d h l m).objs.size,.ref (zH3 c d h l m).objs.size] }
noncomputable abbrev IA (c d:String) (l m:Addr) (P:Heap->Prop):Prop:=Meets (Builtin.«zip.__new__» ⟨[.type "zip",.ref l,.ref m],[]⟩) (λ_ R s=>P s.heap/\R (.ok (.ret (.ref (zH4 c d s.heap l m).objs.size))) { s with heap:=zH5 c d s.heap l m })
theorem TC (l m:Addr) (xs ys:Array Value):IA "list_iterator" "list_iterator" l m (λh=>h.IsList l xs/\h.IsList m ys) :=
 .of_wp λprog w A R s h=>by
  obtain⟨hp,g,d,tk,os⟩:=s;obtain⟨⟨e1,e2⟩,h⟩:=h
  have sz:=sub_zip
  have f1:Heap.IsList (Shared.heap ⟨hp,g,d,tk,os⟩) l xs:=e1
  have f2:Heap.IsList (Shared.heap ⟨hp.push (jG "list_iterator" l),g,d,tk,os⟩) m ys:=e2.at λo e=>Heap.get?_push_of_some _ e
  wp_walk using wpAny_pyIter_list f1,wpAny_pyIter_list f2
  exact⟨_,rfl,h⟩
theorem TJ (l m:Addr) (xs ys:Array Value):IA "tuple_iterator" "tuple_iterator" l m (λh=>h.IsTuple l xs/\h.IsTuple m ys) :=
 .of_wp λprog w A R s h=>by
  obtain⟨hp,g,d,tk,os⟩:=s;obtain⟨⟨e1,e2⟩,h⟩:=h
  have sz:=sub_zip
  have f1:Heap.IsTuple (Shared.heap ⟨hp,g,d,tk,os⟩) l xs:=e1
  have f2:Heap.IsTuple (Shared.heap ⟨hp.push (jG "tuple_iterator" l),g,d,tk,os⟩) m ys:=e2.at λo e=>Heap.get?_push_of_some _ e
  wp_walk using wpAny_pyIter_tuple f1,wpAny_pyIter_tuple f2
  exact⟨_,rfl,h⟩
theorem TH (l m:Addr) (xs ys:Array Value):IA "tuple_iterator" "list_iterator" l m (λh=>h.IsTuple l xs/\h.IsList m ys) :=
 .of_wp λprog w A R s h=>by
  obtain⟨hp,g,d,tk,os⟩:=s;obtain⟨⟨e1,e2⟩,h⟩:=h
  have sz:=sub_zip
  have f1:Heap.IsTuple (Shared.heap ⟨hp,g,d,tk,os⟩) l xs:=e1
  have f2:Heap.IsList (Shared.heap ⟨hp.push (jG "tuple_iterator" l),g,d,tk,os⟩) m ys:=e2.at λo e=>Heap.get?_push_of_some _ e
  wp_walk using wpAny_pyIter_tuple f1,wpAny_pyIter_list f2
  exact⟨_,rfl,h⟩
theorem TF (l m:Addr) (xs ys:Array Value):IA "list_iterator" "tuple_iterator" l m (λh=>h.IsList l xs/\h.IsTuple m ys) :=
 .of_wp λprog w A R s h=>by
  obtain⟨hp,g,d,tk,os⟩:=s;obtain⟨⟨e1,e2⟩,h⟩:=h
  have sz:=sub_zip
  have f1:Heap.IsList (Shared.heap ⟨hp,g,d,tk,os⟩) l xs:=e1
  have f2:Heap.IsTuple (Shared.heap ⟨hp.push (jG "list_iterator" l),g,d,tk,os⟩) m ys:=e2.at λo e=>Heap.get?_push_of_some _ e
  wp_walk using wpAny_pyIter_list f1,wpAny_pyIter_tuple f2
  exact⟨_,rfl,h⟩
theorem KR {n l m:Addr} (h1:l<n) (h2:m<n):ZipAp (n+4) (n+2) (n+3) n (n+1) l m:=by
 constructor <;> (intro e;first | omega | (simp only[Addr] at *;omega))
section
variable {prog:Program} {w:World} {A:Around} {E:Value->Shared->Prop} {s:Shared}
theorem IM {c d:String} {l m:Addr} {P:Heap->Prop} {Q:Value->Shared->Prop} (Z:IA c d l m P) (hP:P s.heap)
  (q:∀h',dS h' (s.heap.objs.size+4) (s.heap.objs.size+2) (s.heap.objs.size+3) .none (.bool false)->IsPair h' (s.heap.objs.size+2) (.ref s.heap.objs.size) (.ref (s.heap.objs.size+1))->IsPair h' (s.heap.objs.size+3) .none .none ->
   h'.get? s.heap.objs.size=some (jG c l)->h'.get? (s.heap.objs.size+1)=some (jG d m)->h'.objs.size=s.heap.objs.size+5->(∀b o,s.heap.get? b=some o->h'.get? b=some o)->Q (.ref (s.heap.objs.size+4)) { s with heap:=h' }) :
  wpAny (model prog w) A (call (.type "zip") [.ref l,.ref m]) Q E s:=by
 refine callType_new F.called_zip (by decide) (F.typeCall_zip_2 _ _) (F.newCall_zip_2 _ _) (λobj=>F.args_object_init_3 obj _ _) F.entry_zip_new Z ⟨hP,?_⟩
 have z1:(zH1 c s.heap l).objs.size=s.heap.objs.size+1:=Heap.size_push ..
 have z2:(zH2 c d s.heap l m).objs.size=s.heap.objs.size+2:=by rw[Heap.size_push,z1]
 have z3:(zH3 c d s.heap l m).objs.size=s.heap.objs.size+3:=by rw[Heap.size_push,z2]
 have z4:(zH4 c d s.heap l m).objs.size=s.heap.objs.size+4:=by rw[Heap.size_push,z3]
 have z5:(zH5 c d s.heap l m).objs.size=s.heap.objs.size+5:=by rw[Heap.size_push,z4]
 have up:∀{h:Heap} {o:Obj} {b:Addr} {u:Obj},h.get? b=some u->(h.push o).get? b=some u:=λe=>Heap.get?_push_of_some _ e
 have g5:(zH5 c d s.heap l m).get? (zH4 c d s.heap l m).objs.size=some _:=Heap.get?_push_size _ rfl
 have g4:(zH5 c d s.heap l m).get? (zH3 c d s.heap l m).objs.size=some _:=up (Heap.get?_push_size _ rfl)
 have g3:(zH5 c d s.heap l m).get? (zH2 c d s.heap l m).objs.size=some _:=up (up (Heap.get?_push_size _ rfl))
 have g2:(zH5 c d s.heap l m).get? (zH1 c s.heap l).objs.size=some _:=up (up (up (Heap.get?_push_size _ rfl)))
 have g1:(zH5 c d s.heap l m).get? s.heap.objs.size=some _:=up (up (up (up (Heap.get?_push_size _ rfl))))
 show _/\_
 rw[z2,z3,z4] at g5
 rw[z1,z2] at g3
 rw[z3] at g4
 rw[z1] at g2
 rw[z4]
 exact⟨⟨_,g5,rfl⟩,q _ g5 g3 g4 g1 g2 z5 λb o x=>up (up (up (up (up x))))⟩
theorem tJ {R:Result->Shared->Prop} {S I:Addr} {n:Nat} {J F:List Value->Heap->Prop} {s0:Shared} (res:Value) (hn:n<=sizeLine)
  (stay:∀acc h h',J acc h->(∃o,h.get? S=some o/\o.cls = .type "list")->h'.objs.size=h.objs.size->(∀b o,b≠S->h.get? b=some o->h'.get? b=some o)->J acc h')
  (item:∀acc (s:Shared) (o:Obj) (Q:Option Value->Shared->Prop) (E:Value->Shared->Prop),acc.length<n->J acc s.heap->s.heap.get? S=some o->(∀v h',J (acc++[v]) h'->h'.get? S=some o->Q (some v) { s with heap:=h' })->wpAny (model prog w) A.in1 (pyNext (.ref I)) Q E s)
  (done:∀acc (s:Shared) (o:Obj) (Q:Option Value->Shared->Prop) (E:Value->Shared->Prop),acc.length=n->J acc s.heap->s.heap.get? S=some o->(∀h',F acc h'->h'.get? S=some o->Q none { s with heap:=h' })->wpAny (model prog w) A.in1 (pyNext (.ref I)) Q E s)
  (hR:∀h' acc c,acc.size=n->F acc.toList h'->h'.get? S=some { cls:=.type "list",dict:=none,data:=.seq acc c,slots:=#[] }->R (.ok (.ret res)) { s0 with heap:=h' }) :
  ∀(k:Nat) (acc:Array Value) (h:Heap) (c:Nat),k=n-acc.size->acc.size<=n->J acc.toList h->h.get? S=some { cls:=.type "list",dict:=none,data:=.seq acc c,slots:=#[] } ->
   codeAny (model prog w) A (.builtin "list.extend.loop" ⟨[.ref S,.ref I,res],[]⟩) R { s0 with heap:=h }:=by
 intro k
 induction k with
 | zero =>
  intro acc h c hk hle hJ hS
  refine codeAny_builtin PySem.F.entry_extend_loop ?_
  rw[Around.under_plainId PySem.F.plain_extend_loop _]
  show wpAny _ A.in1 (pyNext (.ref I) >>= _) _ _ _
  apply wpAny_bind;refine done acc.toList { s0 with heap:=h } _ _ _ (by simp;omega) hJ hS λh' hF hS'=>?_
  exact wpAny_pure (hR h' acc c (by omega) hF hS')
 | succ k ih =>
  intro acc h c hk hle hJ hS
  refine codeAny_builtin PySem.F.entry_extend_loop ?_
  rw[Around.under_plainId PySem.F.plain_extend_loop _]
  show wpAny _ A.in1 (pyNext (.ref I) >>= _) _ _ _
  apply wpAny_bind;refine item acc.toList { s0 with heap:=h } _ _ _ (by simp;omega) hJ hS λv h' hJ' hS'=>?_
  show wpAny _ A.in1 (updateSeq S (·.push v) >>= _) _ _ _
  have hs2:acc.size<n:=by omega
  have e1:(acc.push v).size=acc.size+1:=Array.size_push ..
  apply wpAny_bind;refine wpAny_updateSeq hS' rfl ?_ (by omega) (by show (acc.push v).size<=sizeLine+1;omega)
  apply wpAny_pure;refine⟨plainId_quiet PySem.F.plain_extend_loop _,?_⟩
  refine ih (acc.push v) _ _ (by omega) (by omega) (stay _ _ _ (by simpa using hJ') ⟨_,hS',rfl⟩ (Heap.SameBut.update ..).1 λb o hb e=>(Heap.get?_update_other _ _ (Ne.symm hb)).trans e) (Heap.get?_update_self _ hS' rfl)
end
theorem FO:typeLookup (.type "zip") "__len__" = pure none:=by rw[typeLookup_type,builtinLookup_eq_fast];kernel_rfl
theorem CT:typeLookup (.type "zip") "__length_hint__" = pure none:=by rw[typeLookup_type,builtinLookup_eq_fast];kernel_rfl
section
variable {prog:Program} {w:World} {A:Around} {E:Value->Shared->Prop} {s:Shared} {z TI TO i1 i2 a1 a2:Addr} {vs us:List Value} {T1 T2:Nat->Heap->Prop}
structure ZipGot (z TI TO i1 i2:Addr) (T1 T2:Nat->Heap->Prop) (vs us:List Value) (N:Nat) (fixed:Heap) (S:Addr) (acc:List Value) (h:Heap):Prop where
 st:ZipSt z TI TO i1 i2 T1 T2 acc.length h
 size:h.objs.size=N+acc.length
 refs:∀j,j<acc.length->acc[j]? = some (.ref (N+j))
 got:∀j,j<acc.length->∀x y,vs[j]? = some x->us[j]? = some y->IsPair h (N+j) x y
 kept:∀b o,b≠z->b≠TO->b≠i1->b≠i2->b≠S->fixed.get? b=some o->h.get? b=some o
structure ZipHad (z TO i1 i2:Addr) (vs us:List Value) (N:Nat) (fixed:Heap) (S:Addr) (acc:List Value) (h:Heap):Prop where
 refs:∀j,j<acc.length->acc[j]? = some (.ref (N+j))
 got:∀j,j<acc.length->∀x y,vs[j]? = some x->us[j]? = some y->IsPair h (N+j) x y
 kept:∀b o,b≠z->b≠TO->b≠i1->b≠i2->b≠S->fixed.get? b=some o->h.get? b=some o
theorem vI (hh:A.handled=none) (D:ZipAp z TI TO i1 i2 a1 a2) (S1:∀{prog w},Sub prog w i1 a1 vs T1) (S2:∀{prog w},Sub prog w i2 a2 us T2) (hl:vs.length=us.length) (hn:vs.length<=sizeLine) (st:ZipSt z TI TO i1 i2 T1 T2 0 s.heap) {Q:Value->Shared->Prop}
  (q:∀h' acc c,acc.size=vs.length->ZipHad z TO i1 i2 vs us (s.heap.objs.size+1) s.heap s.heap.objs.size acc.toList h'->h'.get? s.heap.objs.size=some { cls:=.type "list",dict:=none,data:=.seq acc c,slots:=#[] }->Q (.ref s.heap.objs.size) { s with heap:=h' }) :
  wpAny (model prog w) A (call (.type "list") [.ref z]) Q E s:=by
 have zl:z<s.heap.objs.size:=by rcases st.out with hz | ⟨T,f,o,hz,_⟩ <;> exact Heap.lt_size hz
 have TIl:TI<s.heap.objs.size:=Heap.lt_size st.its
 have TOl:TO<s.heap.objs.size:=by obtain⟨a,b,h⟩:=st.own;exact Heap.lt_size h
 obtain⟨i1l,a1l⟩:=(S1 (prog:=prog) (w:=w)).lt st.one
 obtain⟨i2l,a2l⟩:=(S2 (prog:=prog) (w:=w)).lt st.two
 refine callType_codes (Q₁:=λobj s₁=>obj = .ref s.heap.objs.size/\s₁ = { s with heap:=s.heap.push { cls:=.type "list",data:=.seq #[] } }) F.called_list (F.typeCall_list_1 _) F.entry_list_init (code_list_new _ ⟨rfl,rfl⟩) λobj s₁ h₁=>?_
 obtain⟨rfl,rfl⟩:=h₁
 have hS:(s.heap.push { cls:=.type "list",data:=.seq #[] }).get? s.heap.objs.size=some { cls:=.type "list",data:=.seq #[] }:=Heap.get?_push_size _ rfl
 refine⟨⟨_,hS,rfl⟩,F.args_list_init_2 _ _,?_⟩
 show wpAny _ _ (do let old <-Builtin.List.listItems (.ref s.heap.objs.size);Builtin.List.listUpdate (.ref s.heap.objs.size) (λ_=>#[]);letGo old.toList.reverse;Builtin.List.listExtendWith (.ref s.heap.objs.size) (.ref z) .none) _ _ _
 apply wpAny_bind;unfold Builtin.List.listItems
 apply wpAny_bind;apply wpAny_seqItems hS rfl;apply wpAny_pure
 show wpAny _ _ (updateSeq s.heap.objs.size (λ_=>#[]) >>= λ_=>letGo (#[]:Array Value).toList.reverse >>= λ_=>Builtin.List.listExtendWith (.ref s.heap.objs.size) (.ref z) .none) _ _ _
 apply wpAny_bind;refine wpAny_updateSeq hS rfl ?_
 have hS2:=Heap.get?_update_self (Obj.mapSeq (λ_=>(#[]:Array Value))) hS rfl
 have up2:∀b o,b≠s.heap.objs.size->s.heap.get? b=some o->((s.heap.push { cls:=.type "list",data:=.seq #[] }).update s.heap.objs.size (Obj.mapSeq (λ_=>(#[]:Array Value)))).get? b=some o :=
  λb o hb e=>(Heap.get?_update_other _ _ (Ne.symm hb)).trans (Heap.get?_push_of_some _ e)
 have z2:((s.heap.push { cls:=.type "list",data:=.seq #[] }).update s.heap.objs.size (Obj.mapSeq (λ_=>(#[]:Array Value)))).objs.size=s.heap.objs.size+1:=by rw[(Heap.SameBut.update ..).1,Heap.size_push]
 generalize (s.heap.push { cls:=.type "list",data:=.seq #[] }).update s.heap.objs.size (Obj.mapSeq (λ_=>(#[]:Array Value)))=h2 at hS2 up2 z2
 apply wpAny_bind;apply wpAny_letGo
 have move:∀{h3:Heap},(∀b o,b≠s.heap.objs.size->s.heap.get? b=some o->h3.get? b=some o)->ZipSt z TI TO i1 i2 T1 T2 0 h3:=λ{h3} up=>by
  have ne:∀{b:Addr},b<s.heap.objs.size->b≠s.heap.objs.size:=λh=>Nat.ne_of_lt h
  obtain⟨a,b,hO⟩:=st.own
  refine⟨?_,up _ _ (ne TIl) st.its,⟨a,b,up _ _ (ne TOl) hO⟩,(S1 (prog:=prog) (w:=w)).stay st.one (λo e=>up _ o (ne i1l) e) (λo e=>up _ o (ne a1l) e),(S2 (prog:=prog) (w:=w)).stay st.two (λo e=>up _ o (ne i2l) e) λo e=>up _ o (ne a2l) e⟩
  rcases st.out with hz | ⟨T,f,o,hz,hT,n1,n2,n3⟩
  ·exact .inl (up _ _ (ne zl) hz)
  ·exact .inr ⟨T,f,o,up _ _ (ne zl) hz,⟨up _ _ (ne (Heap.lt_size hT.1)) hT.1,hT.2⟩,n1,n2,n3⟩
 have ty2:∀{h3:Heap} {g d t os},(∀b o,b≠s.heap.objs.size->s.heap.get? b=some o->h3.get? b=some o)->Shared.TypeIs ⟨h3,g,d,t,os⟩ (.ref z) "zip":=λ{h3 g d t os} up=>by
  rcases (move up).out with hz | ⟨T,f,o,hz,_⟩ <;> exact⟨_,hz,rfl⟩
 unfold Builtin.List.listExtendWith
 apply wpAny_bind;refine wpAny_typeOf (T:="zip") (ty2 up2) ?_
 have g1:Builtin.List.listSameRef (.ref s.heap.objs.size) (.ref z)=false:=by simp[Builtin.List.listSameRef,Nat.ne_of_gt zl]
 have g2:(Value.type "zip" == Value.type "list")=false:=by decide
 have g3:(Value.type "zip" == Value.type "tuple")=false:=by decide
 simp only[g1,g2,g3,Bool.or_false,Bool.false_eq_true,if_false]
 have self:∀{s':Shared} {Q':Value->Shared->Prop} {E':Value->Shared->Prop} {A':Around},s'.TypeIs (.ref z) "zip"->Q' (.ref z) s'->wpAny (model prog w) A' (pyIter (.ref z)) Q' E' s':=λ{s' Q' E' A'} ty h=>by
  refine wpAny_pyIter_slot ty F.slot_zip_iter (wpAny_call_entry F.slot_zip_iter ty F.entry_zip_iter ?_ (F.args_zip_iter_1 _))
  show wpAny _ _ (ret (.ref z)) _ _ s'
  exact wpAny_pure ⟨_,rfl,"zip",_,ty,F.slot_zip_next.lookup,h⟩
 apply wpAny_bind;refine self (ty2 up2) ?_
 apply wpAny_bind;apply wpAny_holding;unfold Builtin.List.listLengthHint
 apply wpAny_bind;refine wpAny_specialOf (ty2 up2) FO ?_
 show wpAny _ _ (specialOf (Value.ref z) (Str.ofString "__length_hint__") >>= _) _ _ _
 apply wpAny_bind;refine wpAny_specialOf (ty2 up2) CT ?_
 apply wpAny_pure
 show wpAny _ _ (rule "list.extend.makes-room" >>= λ_=>Builtin.List.listTouch (.ref s.heap.objs.size) >>= λ_=>again (.builtin "list.extend.loop" ⟨[.ref s.heap.objs.size,.ref z,.none],[]⟩)) _ _ _
 apply wpAny_bind;apply wpAny_rule;apply wpAny_bind
 show wpAny _ _ (updateSeq s.heap.objs.size (·.push .none) >>= λ_=>updateSeq s.heap.objs.size (·.pop)) _ _ _
 apply wpAny_bind;refine wpAny_updateSeq hS2 rfl ?_
 have hS3:=Heap.get?_update_self (Obj.mapSeq (·.push Value.none)) hS2 rfl
 refine wpAny_updateSeq (hz:=by seq_fits) hS3 rfl ?_
 have hS4:=Heap.get?_update_self (Obj.mapSeq (·.pop)) hS3 rfl
 have up4:∀b o,b≠s.heap.objs.size->s.heap.get? b=some o->((h2.update s.heap.objs.size (Obj.mapSeq (·.push Value.none))).update s.heap.objs.size (Obj.mapSeq (·.pop))).get? b=some o :=
  λb o hb e=>(Heap.get?_update_other _ _ (Ne.symm hb)).trans ((Heap.get?_update_other _ _ (Ne.symm hb)).trans (up2 b o hb e))
 have z4:((h2.update s.heap.objs.size (Obj.mapSeq (·.push Value.none))).update s.heap.objs.size (Obj.mapSeq (·.pop))).objs.size=s.heap.objs.size+1:=by rw[(Heap.SameBut.update ..).1,(Heap.SameBut.update ..).1,z2]
 generalize (h2.update s.heap.objs.size (Obj.mapSeq (·.push Value.none))).update s.heap.objs.size (Obj.mapSeq (·.pop))=h4 at hS4 up4 z4
 apply wpAny_pure;refine⟨plainId_quiet PySem.F.plain_extend_loop _,?_⟩
 refine tJ (n:=vs.length) (J:=ZipGot z TI TO i1 i2 T1 T2 vs us (s.heap.objs.size+1) s.heap s.heap.objs.size) (F:=ZipHad z TO i1 i2 vs us (s.heap.objs.size+1) s.heap s.heap.objs.size) .none hn ?_ ?_ ?_ (λh' acc c hsz hF hS'=>⟨rfl,q h' acc c hsz hF hS'⟩) vs.length #[] h4 _ rfl (Nat.zero_le _) ?_ hS4
 ·intro acc h h' J hSo hz up
  have ne:∀{b:Addr},b<s.heap.objs.size->b≠s.heap.objs.size:=λh=>Nat.ne_of_lt h
  obtain⟨a,b,hO⟩:=J.st.own
  refine⟨⟨?_,up _ _ (ne TIl) J.st.its,⟨a,b,up _ _ (ne TOl) hO⟩,(S1 (prog:=prog) (w:=w)).stay J.st.one (λo e=>up _ o (ne i1l) e) (λo e=>up _ o (ne a1l) e),(S2 (prog:=prog) (w:=w)).stay J.st.two (λo e=>up _ o (ne i2l) e) λo e=>up _ o (ne a2l) e⟩,hz.trans J.size,J.refs,λj hj x y e1 e2=>up _ _ (by intro e;simp only[Addr] at *;omega) (J.got j hj x y e1 e2),λb o n1 n2 n3 n4 n5 e=>up b o n5 (J.kept b o n1 n2 n3 n4 n5 e)⟩
  rcases J.st.out with hz | ⟨T,f,o,hz,hT,n1,n2,n3⟩
  ·exact .inl (up _ _ (ne zl) hz)
  ·have hTS:T≠s.heap.objs.size:=λe=>by
    obtain⟨u,hu,cu⟩:=hSo
    rw[<-e,hT.1] at hu;cases hu
    rw[hT.2] at cu;simp at cu
   exact .inr ⟨T,f,o,up _ _ (ne zl) hz,⟨up _ _ hTS hT.1,hT.2⟩,n1,n2,n3⟩
 ·intro acc s' o Q' E' hlt J hSo k
  have e1:vs[acc.length]? = some (vs[acc.length]'hlt):=List.getElem?_eq_getElem _
  have e2:us[acc.length]? = some (us[acc.length]'(by omega)):=List.getElem?_eq_getElem _
  refine PK D S1 S2 J.st e1 e2 λh' st' hp hz kp=>?_
  have hz':=J.size
  refine k _ h' ⟨by simpa using st',by simp;omega,λj hj=>?_,λj hj x y f1 f2=>?_,λb o n1 n2 n3 n4 n5 e=>kp b o n1 n2 n3 n4 (J.kept b o n1 n2 n3 n4 n5 e)⟩ (kp _ _ (Nat.ne_of_gt zl) (Nat.ne_of_gt TOl) (Nat.ne_of_gt i1l) (Nat.ne_of_gt i2l) hSo)
  ·simp only[List.length_append,List.length_cons,List.length_nil] at hj
   by_cases h:j<acc.length
   ·rw[List.getElem?_append_left h];exact J.refs j h
   ·have:j=acc.length:=by omega
    subst this
    rw[List.getElem?_append_right (Nat.le_refl _),hz'];simp
  ·simp only[List.length_append,List.length_cons,List.length_nil] at hj
   by_cases h:j<acc.length
   ·refine kp _ _ ?_ ?_ ?_ ?_ (J.got j h x y f1 f2) <;> (intro e;simp only[Addr] at *;omega)
   ·have:j=acc.length:=by omega
    subst this
    rw[e1] at f1;rw[e2] at f2;cases f1;cases f2
    rw[<-hz'];exact hp
 ·intro acc s' o Q' E' hlen J hSo k
  refine SZ (A:=A.in1.in1) hh D S1 S2 J.st (.inl (List.getElem?_eq_none (by omega))) λh' kp=>?_
  refine k h' ⟨J.refs,λj hj x y f1 f2=>kp _ _ ?_ ?_ ?_ ?_ (J.got j hj x y f1 f2),λb o n1 n2 n3 n4 n5 e=>kp b o n1 n2 n3 n4 (J.kept b o n1 n2 n3 n4 n5 e)⟩ (kp _ _ (Nat.ne_of_gt zl) (Nat.ne_of_gt TOl) (Nat.ne_of_gt i1l) (Nat.ne_of_gt i2l) hSo) <;> (intro e;simp only[Addr] at *;omega)
 ·exact⟨move up4,by simpa using z4,by simp,by simp,λb o n1 n2 n3 n4 n5 e=>up4 b o n5 e⟩
end
section
variable {X:Cx} {pins:List (Addr × Obj)} {σ:St}
theorem _root_.L2.Inv.trackO {s s':Shared} {H H':Hp} {a:Addr} {w:HO} (I:Inv X pins σ H s) (I':Inv X pins σ H' s') (ha:s.heap.objs.size<=a) (hn:H' a=none) (new:ObjOk X.prog X.w (upd H' a w) s'.heap a w):Inv X pins σ (upd H' a w) s':=by
 have nL:X.env.locals≠a:=Nat.ne_of_lt (Nat.lt_of_lt_of_le I.lt ha)
 have nC:∀x c,X.env.cells.lookup x=some c->c≠a:=λx c q z=>by
  obtain⟨v,hv⟩:=I.cell x c q
  exact absurd (Nat.lt_of_lt_of_le hv.lt (by rw[z];exact ha)) (Nat.lt_irrefl _)
 have n0:∀{b:Addr} {o:Obj},X.s₀.heap.get? b=some o->b≠a:=λ{b o} q=>Nat.ne_of_lt (Nat.lt_of_lt_of_le (Heap.lt_size q) (Nat.le_trans I.sz ha))
 refine⟨I'.ok,I'.os,I'.bare,⟨I'.base.keep,I'.base.slot,λb o q n hx=>by rw[aO (n0 q)];exact I'.base.free b o q n hx,I'.base.there,λb ys q=>by rw[aO (aT (I'.base.tups b ys q) hn)];exact I'.base.tups b ys q,λb o u q=>by rw[aO (aT (I'.base.frzs b o u q) hn)];exact I'.base.frzs b o u q,λb ps q=>?_⟩,I'.loc,I'.cell,by rw[aO nL];exact I'.free,λx c q=>by rw[aO (nC x c q)];exact I'.freeC x c q,λp hp=>?_,λb u q=>?_,I'.len⟩
 ·obtain⟨m,q2⟩:=I'.base.tbls b ps q
  exact⟨m,by rw[aO (aT q2 hn)];exact q2⟩
 ·obtain⟨q1,q2,q3,q4,q5⟩:=I'.pin p hp
  have hp1:p.1≠a:=Nat.ne_of_lt (Nat.lt_of_lt_of_le (Heap.lt_size (I.pin p hp).1) ha)
  exact⟨q1,by rw[aO hp1];exact q2,q3,q4,q5⟩
 ·by_cases hb:b=a
  ·subst hb
   rw[bQ] at q;cases q
   exact new
  ·rw[aO hb] at q
   exact (I'.hok b u q).stay (λc v _ w=>w) (λc w=>by rw[aO (aT w hn)];exact w) λc ys w=>by rw[aO (aT w hn)];exact w
noncomputable def qS (H:Hp):Nat->List (V × V)->Hp
 | _,[]=>H
 | N,p::ps=>qS (upd H N (.tup [p.1,p.2])) (N+1) ps
theorem tP:∀(ps:List (V × V)) (H:Hp) (N:Nat),(∀a,N<=a->H a=none)->Same H (qS H N ps)/\(∀a,N+ps.length<=a->qS H N ps a=none)/\∀j p,ps[j]? = some p->qS H N ps (N+j)=some (.tup [p.1,p.2])
 | [],H,N,hn=>⟨Same.refl H,λa ha=>hn a (by simpa using ha),λj p e=>by simp at e⟩
 | p::ps,H,N,hn=>by
  have hn':∀a,N+1<=a->upd H N (.tup [p.1,p.2]) a=none:=λa ha=>by rw[aO (Nat.ne_of_gt ha)];exact hn a (Nat.le_of_succ_le ha)
  obtain⟨s1,s2,s3⟩:=tP ps (upd H N (.tup [p.1,p.2])) (N+1) hn'
  refine⟨λb o e=>s1 b o (by rw[aO (aT e (hn N (Nat.le_refl _)))];exact e),λa ha=>s2 a (by simp at ha;omega),λj q e=>?_⟩
  cases j with
  | zero=>simp at e;subst e;exact s1 _ _ bQ
  | succ j =>
   have:=s3 j q (by simpa using e)
   rw[show N+(j+1)=N+1+j by omega];exact this
theorem _root_.L2.Inv.lays {s s':Shared} {H:Hp} (I:Inv X pins σ H s):∀(ps:List (V × V)) (us:List (Value × Value)) (H':Hp) (N:Nat),Inv X pins σ H' s'->s.heap.objs.size<=N->(∀a,N<=a->H' a=none)->ps.length=us.length ->
  (∀j p u,ps[j]? = some p->us[j]? = some u->RelV p.1 u.1/\RelV p.2 u.2/\IsPair s'.heap (N+j) u.1 u.2)->Inv X pins σ (qS H' N ps) s'
 | [],_,H',N,I',_,_,_,_=>I'
 | p::ps,[],H',N,I',_,_,hl,_=>by simp at hl
 | p::ps,u::us,H',N,I',hN,hn,hl,hh=>by
  obtain⟨r1,r2,hp⟩:=hh 0 p u rfl rfl
  have I2:Inv X pins σ (upd H' N (.tup [p.1,p.2])) s':=I.trackO I' hN (hn N (Nat.le_refl _)) ⟨by show 2<=sizeLine;decide,[u.1,u.2],.cons r1 (.cons r2 .nil),⟨_,hp,rfl,_,rfl⟩⟩
  refine Inv.lays I ps us _ (N+1) I2 (by omega) (λa ha=>by rw[aO (Nat.ne_of_gt ha)];exact hn a (Nat.le_of_succ_le ha)) (by simpa using hl) λj q v e1 e2=>?_
  obtain⟨q1,q2,q3⟩:=hh (j+1) q v (by simpa using e1) (by simpa using e2)
  exact⟨q1,q2,by rw[show N+1+j=N+(j+1) by omega];exact q3⟩
end
noncomputable def KF:D->Option (List D)
 | .lst xs=>some xs
 | .tup xs=>some xs
 | _=>none
noncomputable def FB (ta tb:RE):RA:=λρ Q=>ta ρ λx=>tb ρ λy=>∃xs ys,KF x=some xs/\KF y=some ys/\xs.length=ys.length/\Q (xs.zipWith (λa b=>D.tup [a,b]) ys)
theorem SX {K:PySem.W.Frag} {H:Hp} {N:Nat}:∀{xs ys:List D} {vs us:List V} {ps:List (V × V)} (n:Nat),ps=vs.zip us->Reps K H xs vs->Reps K H ys us->xs.length=ys.length->(∀j p,ps[j]? = some p->H (N+(n+j))=some (.tup [p.1,p.2])) ->
  Reps K H (xs.zipWith (λa b=>D.tup [a,b]) ys) ((List.range ps.length).map λj=>V.ref (N+(n+j))):=by
 intro xs
 induction xs with
 | nil =>
  intro ys vs us ps n e r1 r2 hl _
  cases r1
  cases r2 with
  | nil=>subst e;exact .nil
  | cons _ _=>simp at hl
 | cons x xs ih =>
  intro ys vs us ps n e r1 r2 hl hh
  cases r1 with
  | @cons _ v _ vs r1 t1 =>
   cases r2 with
   | nil=>simp at hl
   | @cons y u ys us r2 t2 =>
    subst e
    have h0:=hh 0 (v,u) rfl
    have ih:=ih (n:=n+1) (ps:=vs.zip us) rfl t1 t2 (by simpa using hl) λj p e=>by
     have:=hh (j+1) p (by simpa using e)
     rw[show n+1+j=n+(j+1) by omega];exact this
    simp only[List.zip_cons_cons,List.length_cons,List.range_succ_eq_map,List.map_cons,List.map_map,List.zipWith_cons_cons]
    refine .cons (.tup h0 (.cons r1 (.cons r2 .nil))) ?_
    have e2:((λj=>V.ref (N+(n+j))) ∘ Nat.succ)=λj=>V.ref (N+(n+1+j)):=by
     funext j;simp only[Function.comp,Nat.succ_eq_add_one];congr 2;omega
    rw[e2];exact ih
theorem zU:bootBuiltins "zip" = some (.type "zip"):=by decide +kernel
structure Src (h:Heap) (a:Addr) (its:List Value) (c:String) (P:Heap->Prop) (T:Addr->Nat->Heap->Prop):Prop where
 here:P h
 lt:a<h.objs.size
 stay:∀{h1 h2:Heap},P h1->(∀o,h1.get? a=some o->h2.get? a=some o)->P h2
 sub:∀{prog:Program} {w:World} {I:Addr},a≠I->Sub prog w I a its (T I)
 start:∀{h1:Heap} {I:Addr},h1.get? I=some (jG c a)->P h1->T I 0 h1
theorem oY {h:Heap} {a:Addr} {its:List Value} (p:h.IsList a its.toArray):Src h a its "list_iterator" (λh=>h.IsList a its.toArray) (λI k h=>h.IsListIter I a k/\h.IsList a its.toArray) :=
 ⟨p,by obtain⟨o,e,_⟩:=p;exact Heap.lt_size e,λq e=>q.at e,λne=>OV ne,λe q=>⟨⟨_,e,rfl,rfl⟩,q⟩⟩
theorem sL {h:Heap} {a:Addr} {its:List Value} (p:h.IsTuple a its.toArray):Src h a its "tuple_iterator" (λh=>h.IsTuple a its.toArray) (λI k h=>h.IsTupleIter I a k/\h.IsTuple a its.toArray) :=
 ⟨p,by obtain⟨o,e,_⟩:=p;exact Heap.lt_size e,λq e=>q.at e,λne=>SL ne,λe q=>⟨⟨_,e,rfl,rfl⟩,q⟩⟩
section
variable {X:Cx} {a b:Expr} {ta tb:RE} {p pz pos posz:Pos}
theorem tF (hml:X.mg "list" = none) (hmz:X.mg "zip" = none) (hc:X.calm=true) (ha:DB X a ta) (hb:DB X b tb) (hgl:Gl X "list":=by rfl) (hgz:Gl X "zip":=by rfl)
  (hs:starEach [.Call (.Name "zip" pz) [a,b] [] posz] X.env=[(false,eval (.Call (.Name "zip" pz) [a,b] [] posz) X.env)]:=by rfl) (hn:starEach [] X.env=[]:=by rfl) (h2:starEach [a,b] X.env=(false,eval a X.env)::starEach [b] X.env:=by rfl) (h1:starEach [b] X.env=[(false,eval b X.env)]:=by rfl) :
  DO X (.Call (.Name "list" p) [.Call (.Name "zip" pz) [a,b] [] posz] [] pos) (FB ta tb):=by
 intro pins s σ H Q I hh_0
 obtain⟨ρ,P,st,q,k⟩:=hh_0
 refine wpAny_Call_Name_kw (fY I hgl hml pI ?_)
 refine PyProof.Rows.callWith_type1 ?_ (by rw[hs,hn]) (by rw[hn];rfl)
 rw[hs]
 show wpAny _ _ (spliced ((false,eval (.Call (.Name "zip" pz) [a,b] [] posz) X.env)::backTo pos [])) _ _ s
 refine Calls.spliced_cons (wpAny_Call_Name_kw (fY I hgz hmz zU ?_))
 refine PyProof.Rows.callWith_type1 (thn (iM ha (iM hb tZ (by rw[h1,hn])) h2 posz pins s σ H (λvs H1=>∃x y xs ys v u,vs=[v,u]/\Same H H1/\RepB X.K H1 x v/\RepB X.K H1 y u/\KF x=some xs/\KF y=some ys/\xs.length=ys.length/\P (xs.zipWith (λa b=>D.tup [a,b]) ys)) I
  ⟨ρ,_,st,q,λx v H1 hx s1 r1=>⟨ρ,_,st.ext s1,hx,λy u H2 hy s2 r2=>?_⟩⟩) λus s1 ⟨vs,H1,I1,r1,q1⟩=>?_) h2 (by rw[h1];rfl)
 ·obtain⟨xs,ys,e1,e2,e3,e4⟩:=hy
  exact⟨x,y,xs,ys,v,u,rfl,s1.trans s2,r1.same s2,r2,e1,e2,e3,e4⟩
 obtain⟨x,y,xs,ys,v,u,rfl,s01,rx,ry,ex,ey,hl,hP⟩:=q1
 obtain⟨w1,w2,rfl,rv,ru⟩:=CP r1
 have src:∀{x:D} {xs:List D} {v:V} {u:Value},RepB X.K H1 x v->KF x=some xs->RelV v u->∃(l:Addr) (vs:List V) (its:List Value),u = .ref l/\Reps X.K H1 xs vs/\Vals vs its/\vs.length<=sizeLine/\(s1.heap.IsList l its.toArray\/s1.heap.IsTuple l its.toArray):=λ{x xs v u} r e rv=>by
  cases x with
  | lst ds =>
   cases e
   obtain⟨l,vs,rfl,hq,rr⟩:=r.lst
   cases rv
   obtain⟨its,rw',pl,hz⟩:=I1.list hq
   exact⟨l,vs,its,rfl,rr,rw',hz,.inl pl.isList⟩
  | tup ds =>
   cases e
   obtain⟨l,vs,rfl,hq,rr⟩:=r.tup
   cases rv
   obtain⟨its,rw',pl,hz⟩:=I1.tuple (SqT.of hq)
   exact⟨l,vs,its,rfl,rr,rw',hz,.inr pl⟩
  | _=>cases e
 obtain⟨l,vs,its,rfl,rr1,rv1,hz1,k1⟩:=src rx ex rv
 obtain⟨m,us,jts,rfl,rr2,rv2,hz2,k2⟩:=src ry ey ru
 have lv:vs.length=us.length:=by rw[<-rr1.length,<-rr2.length,hl]
 have li:=rv1.length
 have lj:=rv2.length
 have fin:∀{c d:String} {P1 P2:Heap->Prop} {T1 T2:Addr->Nat->Heap->Prop},IA c d l m (λh=>P1 h/\P2 h)->Src s1.heap l its c P1 T1->Src s1.heap m jts d P2 T2 ->
   wpAny (model X.prog X.w) X.A (call (.type "zip") [.ref l,.ref m]) (λu s₁=>wpAny (model X.prog X.w) X.A (spliced (backTo pos [])) (λvs s₂=>wpAny (model X.prog X.w) X.A (call (.type "list") (u::vs)) (EP X pins σ Q) X.xe s₂) X.xe s₁) X.xe s1:=by
  intro c d P1 P2 T1 T2 Z S1 S2
  refine IM Z ⟨S1.here,S2.here⟩ λh' hz hI hO g1 g2 hsz kp=>?_
  have lt1:=S1.lt
  have lt2:=S2.lt
  have D:=KR lt1 lt2
  refine Calls.spliced_nil ?_
  have p1:=S1.stay S1.here λo e=>kp l o e
  have p2:=S2.stay S2.here λo e=>kp m o e
  refine vI (A:=X.A) (I1.ok.hd hc) D (λ{_ _}=>S1.sub (Nat.ne_of_lt lt1)) (λ{_ _}=>S2.sub (by simp only[Addr] at *;omega)) (by omega) (by omega) ⟨.inl hz,hI,⟨_,_,hO⟩,S1.start g1 p1,S2.start g2 p2⟩ λh2 acc cc ha hd hS=>?_
  have hsz':(Shared.heap { s1 with heap:=h' }).objs.size=s1.heap.objs.size+5:=hsz
  rw[hsz'] at hd hS ⊢
  have kp2:∀b o,s1.heap.get? b=some o->h2.get? b=some o:=λb o e=>by
   have lb:=Heap.lt_size e
   refine hd.kept b o ?_ ?_ ?_ ?_ ?_ (kp b o e) <;> (intro z;simp only[Addr] at *;omega)
  have I2:Inv X pins σ H1 { s1 with heap:=h2 }:=I1.kept (t':=s1.toks) kp2
  have free:∀x,s1.heap.objs.size+5+1<=x->H1 x=none:=λx hx=>I1.hok.fresh (by omega)
  have I3:=I1.lays (s':={ s1 with heap:=h2 }) (vs.zip us) (its.zip jts) H1 (s1.heap.objs.size+5+1) I2 (by omega) free (by simp;omega) λj pp uu e1 e2=>by
   have e1':=List.getElem?_zip_eq_some.mp e1
   have e2':=List.getElem?_zip_eq_some.mp e2
   obtain⟨w1,f1,f2⟩:=rv1.get e1'.1
   obtain⟨w2,f3,f4⟩:=rv2.get e1'.2
   rw[e2'.1] at f1;rw[e2'.2] at f3;cases f1;cases f3
   refine⟨f2,f4,hd.got j ?_ _ _ e2'.1 e2'.2⟩
   have:=(List.getElem?_eq_some_iff.mp e2'.1).1
   simp;omega
  obtain⟨sm,fr,at'⟩:=tP (vs.zip us) H1 (s1.heap.objs.size+5+1) free
  generalize hH:qS H1 (s1.heap.objs.size+5+1) (vs.zip us)=H3 at I3 sm fr at'
  have hS0:H3 (s1.heap.objs.size+5)=none:=by
   rw[<-hH]
   have:∀(ps:List (V × V)) (G:Hp) (M:Nat),s1.heap.objs.size+5<M->qS G M ps (s1.heap.objs.size+5)=G (s1.heap.objs.size+5):=λps=>by
    induction ps with
    | nil=>intro G M _;rfl
    | cons p ps ih=>intro G M hM;rw[qS,ih _ _ (by omega),aO (Nat.ne_of_lt hM)]
   rw[this _ _ _ (by omega)]
   exact I1.hok.fresh (by omega)
  have accL:acc.toList=(List.range (vs.zip us).length).map λj=>Value.ref (s1.heap.objs.size+5+1+(0+j)):=by
   apply List.ext_getElem?
   intro j
   have hla:acc.toList.length=vs.length:=by simp;omega
   by_cases hj:j<vs.length
   ·rw[hd.refs j (by omega),List.getElem?_map,List.getElem?_range (by simp;omega)];simp
   ·rw[List.getElem?_eq_none (by omega),List.getElem?_eq_none (by simp;omega)]
  have RR:=SX (N:=s1.heap.objs.size+5+1) 0 rfl (rr1.keep (.of sm)) (rr2.keep (.of sm)) hl λj pp e=>by
   have:=at' j pp e
   rw[Nat.zero_add];exact this
  have VV:Vals ((List.range (vs.zip us).length).map λj=>V.ref (s1.heap.objs.size+5+1+(0+j))) acc.toList:=by
   rw[accL]
   generalize List.range (vs.zip us).length=rs
   induction rs with
   | nil=>exact .nil
   | cons r rs ih=>exact .cons rfl ih
  have I4:=I1.trackO (a:=s1.heap.objs.size+5) (w:=.lst ((List.range (vs.zip us).length).map λj=>V.ref (s1.heap.objs.size+5+1+(0+j)))) I3 (by omega) hS0 ⟨by simp;omega,acc.toList,cc,VV,by simpa using hS⟩
  exact⟨.ref (s1.heap.objs.size+5),_,I4,rfl,k _ _ _ H3 hP (s01.trans sm) hS0 RR⟩
 rcases k1 with k1 | k1 <;> rcases k2 with k2 | k2
 ·exact fin (TC l m its.toArray jts.toArray) (oY k1) (oY k2)
 ·exact fin (TF l m its.toArray jts.toArray) (oY k1) (sL k2)
 ·exact fin (TH l m its.toArray jts.toArray) (sL k1) (oY k2)
 ·exact fin (TJ l m its.toArray jts.toArray) (sL k1) (sL k2)
end
noncomputable def Itz (K:PySem.W.Frag) (l m:Addr):It :=
 ⟨λi H=>∃xs ys x y,SqL K H l xs/\SqL K H m ys/\xs[i]? = some x/\ys[i]? = some y,λi H x H'=>∃p a b,H p=none/\x = .ref p/\H'=upd H p (.tup [a,b])/\(∀xs,SqL K H l xs->xs[i]? = some a)/\∀ys,SqL K H m ys->ys[i]? = some b,
  λi H=>∃xs ys,SqL K H l xs/\SqL K H m ys/\(xs.length<=i\/ys.length<=i)⟩
noncomputable def ZSt (z TI TO i1 i2 l m:Addr) (i:Nat) (h:Heap):Prop:=IsZip h z TI TO .none/\IsPair h TI (.ref i1) (.ref i2)/\(∃a b,IsPair h TO a b)/\h.IsListIter i1 l i/\h.IsListIter i2 m i
theorem PH {P:Program} {w:World} {K:PySem.W.Frag} {elts:List Expr} {k:Nat} {pos:Pos} (z TI TO i1 i2 l m:Addr) (D:ZipApart z TI TO i1 i2 l m) :
  Turn P w K (.Tuple elts k pos) (Itz K l m) [z,TI,TO,i1,i2] z (ZSt z TI TO i1 i2 l m) where
 mem:=by simp
 obj:=λi h st b hb=>by
  obtain⟨hz,hI,⟨a,c,hO⟩,⟨o1,e1,c1,d1⟩,o2,e2,c2,d2⟩:=st
  simp only[List.mem_cons,List.not_mem_nil,or_false] at hb
  rcases hb with rfl | rfl | rfl | rfl | rfl
  ·exact⟨_,hz,λv z=>by cases z⟩
  ·exact⟨_,hI,λv z=>by cases z⟩
  ·exact⟨_,hO,λv z=>by cases z⟩
  ·exact⟨o1,e1,λv z=>by rw[d1] at z;cases z⟩
  ·exact⟨o2,e2,λv z=>by rw[d2] at z;cases z⟩
 keep:=λi h h' st kk=>by
  obtain⟨hz,hI,⟨a,c,hO⟩,h1,h2⟩:=st
  exact⟨kk z (by simp) _ hz,kk TI (by simp) _ hI,⟨a,c,kk TO (by simp) _ hO⟩,h1.at λo x=>kk i1 (by simp) o x,h2.at λo x=>kk i2 (by simp) o x⟩
 item:=by
  intro X hP hw hK hc i pins s σ H E I hf st hg
  subst hP hw hK
  obtain⟨xs,ys,x,y,hq,hr,hx,hy⟩:=hg
  obtain⟨its,rv,p,hzl⟩:=I.list hq
  obtain⟨jts,rw',p',hzm⟩:=I.list hr
  obtain⟨u,hu,ru⟩:=rv.get hx
  obtain⟨u',hu',ru'⟩:=rw'.get hy
  have W:=WalksT.zip2 (prog:=X.prog) (w:=X.w) (A:=X.A) (I.ok.hd hc) z TI TO i1 i2 l m D its.toArray jts.toArray
  have hlt:i<min its.toArray.size jts.toArray.size:=by
   have a1:=(List.getElem?_eq_some_iff.mp hu).1
   have a2:=(List.getElem?_eq_some_iff.mp hu').1
   simp;omega
  obtain⟨g1,g2,g3,g4,g5⟩:=id st
  refine W.item i s _ _ hlt ⟨g1,g2,g3,g4,g5,p.isList,p'.isList⟩ λT vals h1 tk hv hT ht hm kk=>?_
  obtain⟨v1,v2,e1,e2,rfl⟩:=hv
  have q1:v1=u:=by
   have:its.toArray[i]? = some u:=by simpa using hu
   rw[e1] at this;exact Option.some.inj this
  have q2:v2=u':=by
   have:jts.toArray[i]? = some u':=by simpa using hu'
   rw[e2] at this;exact Option.some.inj this
  subst q1 q2
  refine⟨_,rfl,?_⟩
  have sub:∀{b:Addr},b ∉ [z,TI,TO,i1,i2]->b ∉ [z,TO,i1,i2]:=λh h'=>h (by simp at h' ⊢;rcases h' with a | a | a | a <;> simp[a])
  have I1:Inv X pins σ (upd H T (.tup [x,y])) { s with heap:=h1,toks:=tk } :=
   I.turnedT (its:=[v1,v2]) (ch:=[z,TI,TO,i1,i2]) (λb o hb e=>kk b o (sub hb) e) hf hT (by simpa using ht) (.cons ru (.cons ru' .nil)) (by show 2<=sizeLine;decide)
  have hn:H T=none:=I.hok.fresh hT
  refine W.go elts k pos i T _ _ _ hm λh2 st2 kk2=>?_
  have hf1:∀b∈[z,TI,TO,i1,i2],pD X pins (upd H T (.tup [x,y])) b:=λb hb=>by
   obtain⟨f0,f1⟩:=hf b hb
   have:∃o,s.heap.get? b=some o:=by
    obtain⟨hz,hI,⟨a,c,hO⟩,⟨o1,w1,c1,d1⟩,o2,w2,c2,d2⟩:=st
    simp only[List.mem_cons,List.not_mem_nil,or_false] at hb
    rcases hb with rfl | rfl | rfl | rfl | rfl
    ·exact⟨_,hz⟩
    ·exact⟨_,hI⟩
    ·exact⟨_,hO⟩
    ·exact⟨_,w1⟩
    ·exact⟨_,w2⟩
   obtain⟨o,ho⟩:=this
   exact⟨by rw[aO (Nat.ne_of_lt (Nat.lt_of_lt_of_le (Heap.lt_size ho) hT))];exact f0,f1⟩
  refine⟨.ref T,_,I1.turnedL (ch:=[z,TI,TO,i1,i2]) (t':=tk) (λb o hb e=>kk2 b o (sub hb) e) hf1,rfl,⟨T,x,y,hn,rfl,rfl,λys' h'=>by rw[I.list_inj h' hq];exact hx,λys' h'=>by rw[I.list_inj h' hr];exact hy⟩,⟨st2.1,st2.2.1,st2.2.2.1,st2.2.2.2.1,st2.2.2.2.2.1⟩,λb hb=>(hf1 b hb).1⟩
 done:=by
  intro X hP hw hK hc i pins s σ H E I hf st hg
  subst hP hw hK
  obtain⟨xs,ys,hq,hr,hx⟩:=hg
  obtain⟨its,rv,p,hzl⟩:=I.list hq
  obtain⟨jts,rw',p',hzm⟩:=I.list hr
  obtain⟨g1,g2,⟨a,b,g3⟩,g4,g5⟩:=st
  have l1:=rv.length
  have l2:=rw'.length
  refine wpAny_pyNext_zip_end (I.ok.hd hc) D g1 g2 g3 g4 g5 p.isList p'.isList ?_ λh1 kk=>⟨rfl,I.turnedL (ch:=[z,TI,TO,i1,i2]) (t':=s.toks) (λb o hb q=>kk b o (λe=>hb (by simp[e])) (λe=>hb (by simp[e])) (λe=>hb (by simp[e])) (λe=>hb (by simp[e])) q) hf⟩
  rcases hx with hx | hx
  ·exact .inl (by rw[List.getElem?_toArray];exact List.getElem?_eq_none (by omega))
  ·exact .inr (by rw[List.getElem?_toArray];exact List.getElem?_eq_none (by omega))
 self:=λ_ _ _ _ _ st h=>wpAny_pyIter_zip st.1 h
section
variable {X:Cx} {a b:Expr} {ta tb:RE} {pos p:Pos} {elts:List Expr} {k:Nat} {tp:Pos}
noncomputable def HK (ta tb:RE):RA:=λρ Q=>ta ρ λx=>tb ρ λy=>match x,y with
 | .lst xs,.lst ys=>Q (xs.zipWith (λa b=>D.tup [a,b]) ys)
 | _,_=>False
theorem MO (hm:X.mg "zip" = none) (ha:DE X a ta) (hb:DE X b tb) (hg:Gl X "zip":=by rfl) (h2:starEach [a,b] X.env=(false,eval a X.env)::starEach [b] X.env:=by rfl) (h1:starEach [b] X.env=[(false,eval b X.env)]:=by rfl) (hn:starEach [] X.env=[]:=by rfl) :
  DI X (.Tuple elts k tp) (.Call (.Name "zip" p) [a,b] [] pos) (HK ta tb):=by
 intro pins s σ H R I hh_0
 obtain⟨ρ,P,st,q,kk⟩:=hh_0
 refine Call_ (fY I hg hm zU (PyProof.Rows.callWith_type1 (thn (iM ha (iM hb tZ (by rw[h1,hn])) h2 pos pins s σ H (λvs H1=>∃l m xs ys us ws,vs=[V.ref l,V.ref m]/\Same H H1/\P (xs.zipWith (λa b=>D.tup [a,b]) ys)/\FzL X.K H1 l us/\Reps X.K H1 xs us/\FzL X.K H1 m ws/\Reps X.K H1 ys ws) I
  ⟨ρ,_,st,q,λx v H1 hx s1 r1=>⟨ρ,_,st.ext s1,hx,λy u H2 hy s2 r2=>?_⟩⟩) λus s1 ⟨vs,H1,I1,r1,q1⟩=>?_) h2 (by rw[h1];rfl)))
 ·cases x with
  | lst xs =>
   cases y with
   | lst ys =>
    cases r1 with
    | @lst l us _ z1 t1 =>
     cases r2 with
     | @lst m ws _ z2 t2=>exact⟨l,m,xs,ys,us,ws,rfl,s1.trans s2,hy,z1.keep (.of s2),t1.keep (.of s2),z2,t2⟩
   | _=>exact hy.elim
  | _=>exact hy.elim
 obtain⟨l,m,xs,ys,us,ws,rfl,s01,hp,z1,t1,z2,t2⟩:=q1
 obtain⟨w1,w2,rfl,rv,ru⟩:=CP r1
 cases rv;cases ru
 obtain⟨its,rv,pl,hzz⟩:=I1.list z1.sq
 obtain⟨jts,rv',pl',hzz'⟩:=I1.list z2.sq
 have lt1:l<s1.heap.objs.size:=by obtain⟨o,n,e,_⟩:=pl;exact Heap.lt_size e
 have lt2:m<s1.heap.objs.size:=by obtain⟨o,n,e,_⟩:=pl';exact Heap.lt_size e
 refine call_zip_2 pl.isList pl'.isList λh' hz hTI hTO hi1 hi2 hsz kk'=>?_
 have I2:Inv X pins σ H1 { s1 with heap:=h' }:=I1.kept (t':=s1.toks) kk'
 refine wpAny_pyIter_zip hz ⟨s1.heap.objs.size+4,[s1.heap.objs.size+4,s1.heap.objs.size+2,s1.heap.objs.size+3,s1.heap.objs.size,s1.heap.objs.size+1],_,_,H1,rfl,I2,PH (s1.heap.objs.size+4) (s1.heap.objs.size+2) (s1.heap.objs.size+3) s1.heap.objs.size (s1.heap.objs.size+1) l m (zipApart_new lt1 lt2),⟨hz,hTI,⟨_,_,hTO⟩,hi1,hi2⟩,λb hb=>?_,?_⟩
 ·have:s1.heap.objs.size<=b:=by
   simp only[List.mem_cons,List.not_mem_nil,or_false] at hb
   rcases hb with rfl | rfl | rfl | rfl | rfl <;> simp
  exact I1.fpOk this (I1.hok.fresh this)
 ·refine kk _ _ H1 hp s01 λi H2 kp=>⟨λd ed=>?_,λhl=>⟨us,ws,(z1.keep kp).sq,(z2.keep kp).sq,by rw[<-t1.length,<-t2.length];simp at hl;omega⟩⟩
  rw[List.getElem?_zipWith] at ed
  cases e1:xs[i]? with
  | none=>rw[e1] at ed;cases ed
  | some d1 =>
   cases e2:ys[i]? with
   | none=>rw[e1,e2] at ed;cases ed
   | some d2 =>
    rw[e1,e2] at ed
    cases ed
    obtain⟨v,f1,f2⟩:=(t1.keep kp).get e1
    obtain⟨u,f3,f4⟩:=(t2.keep kp).get e2
    refine⟨⟨us,ws,v,u,(z1.keep kp).sq,(z2.keep kp).sq,f1,f3⟩,λx H' y=>?_⟩
    obtain⟨pp,y1,y2,hn,rfl,rfl,ha',hb'⟩:=y
    have e3:=ha' us (z1.keep kp).sq
    have e4:=hb' ws (z2.keep kp).sq
    rw[f1] at e3;rw[f3] at e4;cases e3;cases e4
    have sm:Same H2 (upd H2 pp (.tup [v,u])):=λb o e=>by rw[aO (aT e hn)];exact e
    exact⟨sm,.tup bQ (.cons (f2.keep (.of sm)) (.cons (f4.keep (.of sm)) .nil))⟩
end
section
variable {prog:Program} {w:World} {A:Around} {E:Value->Shared->Prop} {s:Shared}
theorem JN {I l S:Addr} {items:Array Value} {bt:Nat->Nat->Bool} {G:Heap->Prop} {R:Result->Shared->Prop} {os0:Shared} (hh:A.handled=none) (hl:l≠I) (hSI:S≠I) (hSl:S≠l)
  (cmp:∀(i j:Nat) (u v:Value) (s:Shared) (Q:Value->Shared->Prop) (E:Value->Shared->Prop),items[i]? = some u->items[j]? = some v->G s.heap->Q (.bool (bt i j)) s->wpAny (model prog w) A.in1 (richCompare .Lt u v) Q E s)
  (gs:∀h h',G h->(∀b o,b≠I->b≠S->h.get? b=some o->h'.get? b=some o)->G h') :
  ∀(k j:Nat) (s:Shared) (vb:Value) (c:Nat),items.size-(j+1)=k->j+1<=items.size->s.heap.IsListIter I l (j+1)->s.heap.IsList l items->items[argBest bt j]? = some vb->G s.heap ->
   s.heap.get? S=some { cls:=.type "list",dict:=none,data:=.seq #[vb,vb] c,slots:=#[] } ->
   (∀v h' tk,items[argBest bt (items.size-1)]? = some v->(∀b o,b≠I->b≠S->s.heap.get? b=some o->h'.get? b=some o)->R (.ok (.ret v)) { s with heap:=h',toks:=tk }) ->
   codeAny (model prog w) A (.builtin "min.loop" ⟨[.ref I,.none,.ref S],[]⟩) R s:=by
 have nm:(toString "min" ++ toString ".loop":String) = "min.loop":=by decide
 have W:=Walks.list (prog:=prog) (w:=w) (A:=A.in1) hh I l hl items
 have wr:∀{b:Addr},b≠I->b ∉ [I]:=λh=>by simpa using h
 intro k
 induction k with
 | zero =>
  intro j s vb c hk hj hi hL hb hG hS q
  refine codeAny_builtin F.entry_min_loop ?_;rw[Around.under_plainId F.plain_min_loop _]
  show wpAny _ A.in1 (seqItems? (.ref S) >>= _) _ _ s
  apply wpAny_bind;apply wpAny_seqItems hS rfl
  show wpAny _ A.in1 (tryCatch (pyNext (.ref I)) _ >>= _) _ _ s
  apply wpAny_bind;apply wpAny_tryCatch;refine W.done s _ _ (by rw[show items.size=j+1 by omega];exact⟨hi,hL⟩) λh' tk kp=>?_
  have hS':=kp S _ (wr hSI) hS
  show wpAny _ A.in1 (updateSeq S (λ_=>#[]) >>= _) _ _ _
  apply wpAny_bind;refine wpAny_updateSeq hS' rfl ?_;apply wpAny_bind;apply wpAny_letGo;apply wpAny_pure
  exact q vb _ tk (by rw[show items.size-1=j by omega];exact hb) λb o b1 b2 e=>(Heap.get?_update_other _ _ (Ne.symm b2)).trans (kp b o (wr b1) e)
 | succ k ih =>
  intro j s vb c hk hj hi hL hb hG hS q
  refine codeAny_builtin F.entry_min_loop ?_;rw[Around.under_plainId F.plain_min_loop _]
  show wpAny _ A.in1 (seqItems? (.ref S) >>= _) _ _ s
  apply wpAny_bind;apply wpAny_seqItems hS rfl
  show wpAny _ A.in1 (tryCatch (pyNext (.ref I)) _ >>= _) _ _ s
  apply wpAny_bind;apply wpAny_tryCatch;refine W.item (j+1) s _ _ (by omega) ⟨hi,hL⟩ λv h' tk hv st' kp=>?_
  have hS':=kp S _ (wr hSI) hS
  have hG':G h':=gs _ _ hG λb o b1 _ e=>kp b o (wr b1) e
  show wpAny _ A.in1 (tryCatch (holding [v,v] (richCompare .Lt v vb >>= _)) _ >>= _) _ _ _
  apply wpAny_bind;apply wpAny_tryCatch;apply wpAny_holding;apply wpAny_bind;refine cmp (j+1) (argBest bt j) v vb _ _ _ hv hb hG' ?_
  apply wpAny_bind;apply wpAny_holding;apply wpAny_truthy_bool;apply wpAny_bind;apply wpAny_letGo;apply wpAny_pure
  cases hbt:bt (j+1) (argBest bt j) with
  | true =>
   simp only[if_true]
   apply wpAny_bind;refine wpAny_updateSeq hS' rfl ?_;apply wpAny_bind;apply wpAny_letGo;rw[nm];apply wpAny_pure
   have up:∀b o,b≠S->h'.get? b=some o->(h'.update S (Obj.mapSeq λ_=>#[v,v])).get? b=some o:=λb o b2 e=>(Heap.get?_update_other _ _ (Ne.symm b2)).trans e
   refine⟨plainId_quiet F.plain_min_loop _,ih (j+1) _ v _ (by omega) (by omega) (st'.1.at λo e=>up _ o hSI.symm e) (st'.2.at λo e=>up _ o hSl.symm e) (by simp only[argBest,hbt,if_true];exact hv) (gs _ _ hG' λb o _ b2 e=>up b o b2 e) (Heap.get?_update_self _ hS' rfl) λv' h'' tk'' e kk=>?_⟩
   exact q v' h'' tk'' e λb o b1 b2 e=>kk b o b1 b2 (up b o b2 (kp b o (wr b1) e))
  | false =>
   simp only[Bool.false_eq_true,if_false]
   apply wpAny_bind;apply wpAny_letGo;rw[nm];apply wpAny_pure
   refine⟨plainId_quiet F.plain_min_loop _,ih (j+1) _ vb c (by omega) (by omega) st'.1 st'.2 (by simp only[argBest,hbt,Bool.false_eq_true,if_false];exact hb) hG' hS' λv' h'' tk'' e kk=>?_⟩
   exact q v' h'' tk'' e λb o b1 b2 e=>kk b o b1 b2 (kp b o (wr b1) e)
theorem IJ {l:Addr} {items:Array Value} {bt:Nat->Nat->Bool} {G:Heap->Prop} {Q:Value->Shared->Prop} (hh:A.handled=none) (hL:s.heap.IsList l items) (hne:0<items.size)
  (cmp:∀(i j:Nat) (u v:Value) (s:Shared) (Q:Value->Shared->Prop) (E:Value->Shared->Prop),items[i]? = some u->items[j]? = some v->G s.heap->Q (.bool (bt i j)) s->wpAny (model prog w) A.in1 (richCompare .Lt u v) Q E s)
  (gs:∀h',(∀b o,s.heap.get? b=some o->h'.get? b=some o)->G h') (q:∀v h' tk,items[argBest bt (items.size-1)]? = some v->(∀b o,s.heap.get? b=some o->h'.get? b=some o)->Q v { s with heap:=h',toks:=tk }) :
  wpAny (model prog w) A (call (.builtin "min") [.ref l]) Q E s:=by
 have nm:(toString "min" ++ toString ".loop":String) = "min.loop":=by decide
 have lt:l<s.heap.objs.size:=by obtain⟨_,e,_⟩:=hL;exact Heap.lt_size e
 refine call_function_tree F.kind_min F.plain_min F.entry_min (F.args_min1 _) ?_
 show wpAny _ A.in1 (Builtin.Builtins.bindParams "min" ["key","default"] 0 ⟨[],[]⟩ >>= _) _ _ s
 apply wpAny_bind;refine wpAny_of_eq (show Builtin.Builtins.bindParams "min" ["key","default"] 0 ⟨[],[]⟩=pure [none,none] from rfl) ?_
 apply wpAny_bind;apply wpAny_pure;apply wpAny_bind;refine wpAny_pyIter_list hL ?_
 apply wpAny_bind;refine wpAny_newObj_type ?_;rw[nm];apply wpAny_pure
 have sz1:(s.heap.push (jG "list_iterator" l)).objs.size=s.heap.objs.size+1:=Heap.size_push ..
 generalize hp:s.heap.push (jG "list_iterator" l)=h1 at sz1
 have hI:h1.IsListIter s.heap.objs.size l 0:=by rw[<-hp];exact⟨_,Heap.get?_push_size _ rfl,rfl,rfl⟩
 have k1:∀b o,s.heap.get? b=some o->h1.get? b=some o:=λb o e=>by rw[<-hp];exact Heap.get?_push_of_some _ e
 refine⟨plainId_quiet F.plain_min_loop _,?_⟩
 show codeAny _ A (.builtin "min.loop" ⟨[.ref s.heap.objs.size,.none,.ref h1.objs.size],[]⟩) _ { s with heap:=h1.push { cls:=.type "list",dict:=none,data:=.seq ([]:List Value).toArray } }
 rw[sz1]
 have hS:(h1.push { cls:=.type "list",dict:=none,data:=.seq ([]:List Value).toArray }).get? (s.heap.objs.size+1)=some { cls:=.type "list",dict:=none,data:=.seq #[] 0,slots:=#[] }:=by rw[<-sz1];exact Heap.get?_push_size _ rfl
 have k2:∀b o,h1.get? b=some o->(h1.push { cls:=.type "list",dict:=none,data:=.seq ([]:List Value).toArray }).get? b=some o:=λb o e=>Heap.get?_push_of_some _ e
 generalize h1.push { cls:=.type "list",dict:=none,data:=.seq ([]:List Value).toArray } = h2 at hS k2
 have neI:∀{b:Addr} {o:Obj},s.heap.get? b=some o->b≠s.heap.objs.size/\b≠s.heap.objs.size+1:=λe=>⟨Nat.ne_of_lt (Heap.lt_size e),Nat.ne_of_lt (Nat.lt_succ_of_lt (Heap.lt_size e))⟩
 have W:=Walks.list (prog:=prog) (w:=w) (A:=A.in1) hh s.heap.objs.size l (Nat.ne_of_lt lt) items
 refine codeAny_builtin F.entry_min_loop ?_;rw[Around.under_plainId F.plain_min_loop _]
 show wpAny _ A.in1 (seqItems? (.ref (s.heap.objs.size+1)) >>= _) _ _ _
 apply wpAny_bind;apply wpAny_seqItems hS rfl
 show wpAny _ A.in1 (tryCatch (pyNext (.ref s.heap.objs.size)) _ >>= _) _ _ _
 have hL2:h2.IsList l items:=hL.at λo e=>k2 _ o (k1 _ o e)
 apply wpAny_bind;apply wpAny_tryCatch;refine W.item 0 _ _ _ hne ⟨hI.at λo e=>k2 _ o e,hL2⟩ λv h' tk hv st' kp=>?_
 have wr:∀{b:Addr},b≠s.heap.objs.size->b ∉ [s.heap.objs.size]:=λh=>by simpa using h
 have hS':=kp (s.heap.objs.size+1) _ (wr (Nat.succ_ne_self _)) hS
 show wpAny _ A.in1 (updateSeq (s.heap.objs.size+1) (λ_=>#[v,v]) >>= _) _ _ _
 apply wpAny_bind;refine wpAny_updateSeq hS' rfl ?_;rw[nm];apply wpAny_pure
 have up:∀b o,b≠s.heap.objs.size+1->h'.get? b=some o->(h'.update (s.heap.objs.size+1) (Obj.mapSeq λ_=>#[v,v])).get? b=some o:=λb o b2 e=>(Heap.get?_update_other _ _ (Ne.symm b2)).trans e
 have old:∀b o,s.heap.get? b=some o->(h'.update (s.heap.objs.size+1) (Obj.mapSeq λ_=>#[v,v])).get? b=some o:=λb o e=>up b o (neI e).2 (kp b o (wr (neI e).1) (k2 b o (k1 b o e)))
 have hS'':=Heap.get?_update_self (Obj.mapSeq λ_=>#[v,v]) hS' rfl
 refine⟨plainId_quiet F.plain_min_loop _,?_⟩
 refine JN (A:=A) (G:=λh=>∀b o,s.heap.get? b=some o->h.get? b=some o) (bt:=bt) (items:=items) (I:=s.heap.objs.size) (l:=l) (S:=s.heap.objs.size+1) (os0:=s) hh (Nat.ne_of_lt lt) (Nat.succ_ne_self _) (Nat.ne_of_gt (Nat.lt_succ_of_lt lt)) (λi j u v s' Q' E' e1 e2 g c=>cmp i j u v s' Q' E' e1 e2 (gs _ g) c)
  (λh3 h4 g kk b o e=>kk b o (neI e).1 (neI e).2 (g b o e)) (items.size-1) 0 _ v _ (by omega) (by omega) (st'.1.at λo e=>up _ o (Nat.ne_of_lt (Nat.lt_succ_self _)) e) (st'.2.at λo e=>up _ o (Nat.ne_of_lt (Nat.lt_succ_of_lt lt)) e) (by simpa [argBest] using hv) old hS'' λv' h'' tk'' e kk=>?_
 exact q v' h'' tk'' e λb o e=>kk b o (neI e).1 (neI e).2 (old b o e)
theorem ER {I l S:Addr} {items:Array Value} {bt:Nat->Nat->Bool} {G:Heap->Prop} {R:Result->Shared->Prop} {os0:Shared} (hh:A.handled=none) (hl:l≠I) (hSI:S≠I) (hSl:S≠l)
  (cmp:∀(i j:Nat) (u v:Value) (s:Shared) (Q:Value->Shared->Prop) (E:Value->Shared->Prop),items[i]? = some u->items[j]? = some v->G s.heap->Q (.bool (bt i j)) s->wpAny (model prog w) A.in1 (richCompare .Lt u v) Q E s)
  (gs:∀h h',G h->(∀b o,b≠I->b≠S->h.get? b=some o->h'.get? b=some o)->G h') :
  ∀(k j:Nat) (s:Shared) (vb:Value) (c:Nat),items.size-(j+1)=k->j+1<=items.size->s.heap.IsTupleIter I l (j+1)->s.heap.IsTuple l items->items[argBest bt j]? = some vb->G s.heap ->
   s.heap.get? S=some { cls:=.type "list",dict:=none,data:=.seq #[vb,vb] c,slots:=#[] } ->
   (∀v h' tk,items[argBest bt (items.size-1)]? = some v->(∀b o,b≠I->b≠S->s.heap.get? b=some o->h'.get? b=some o)->R (.ok (.ret v)) { s with heap:=h',toks:=tk }) ->
   codeAny (model prog w) A (.builtin "min.loop" ⟨[.ref I,.none,.ref S],[]⟩) R s:=by
 have nm:(toString "min" ++ toString ".loop":String) = "min.loop":=by decide
 have W:=Walks.tuple (prog:=prog) (w:=w) (A:=A.in1) hh I l hl items
 have wr:∀{b:Addr},b≠I->b ∉ [I]:=λh=>by simpa using h
 intro k
 induction k with
 | zero =>
  intro j s vb c hk hj hi hL hb hG hS q
  refine codeAny_builtin F.entry_min_loop ?_;rw[Around.under_plainId F.plain_min_loop _]
  show wpAny _ A.in1 (seqItems? (.ref S) >>= _) _ _ s
  apply wpAny_bind;apply wpAny_seqItems hS rfl
  show wpAny _ A.in1 (tryCatch (pyNext (.ref I)) _ >>= _) _ _ s
  apply wpAny_bind;apply wpAny_tryCatch;refine W.done s _ _ (by rw[show items.size=j+1 by omega];exact⟨hi,hL⟩) λh' tk kp=>?_
  have hS':=kp S _ (wr hSI) hS
  show wpAny _ A.in1 (updateSeq S (λ_=>#[]) >>= _) _ _ _
  apply wpAny_bind;refine wpAny_updateSeq hS' rfl ?_;apply wpAny_bind;apply wpAny_letGo;apply wpAny_pure
  exact q vb _ tk (by rw[show items.size-1=j by omega];exact hb) λb o b1 b2 e=>(Heap.get?_update_other _ _ (Ne.symm b2)).trans (kp b o (wr b1) e)
 | succ k ih =>
  intro j s vb c hk hj hi hL hb hG hS q
  refine codeAny_builtin F.entry_min_loop ?_;rw[Around.under_plainId F.plain_min_loop _]
  show wpAny _ A.in1 (seqItems? (.ref S) >>= _) _ _ s
  apply wpAny_bind;apply wpAny_seqItems hS rfl
  show wpAny _ A.in1 (tryCatch (pyNext (.ref I)) _ >>= _) _ _ s
  apply wpAny_bind;apply wpAny_tryCatch;refine W.item (j+1) s _ _ (by omega) ⟨hi,hL⟩ λv h' tk hv st' kp=>?_
  have hS':=kp S _ (wr hSI) hS
  have hG':G h':=gs _ _ hG λb o b1 _ e=>kp b o (wr b1) e
  show wpAny _ A.in1 (tryCatch (holding [v,v] (richCompare .Lt v vb >>= _)) _ >>= _) _ _ _
  apply wpAny_bind;apply wpAny_tryCatch;apply wpAny_holding;apply wpAny_bind;refine cmp (j+1) (argBest bt j) v vb _ _ _ hv hb hG' ?_
  apply wpAny_bind;apply wpAny_holding;apply wpAny_truthy_bool;apply wpAny_bind;apply wpAny_letGo;apply wpAny_pure
  cases hbt:bt (j+1) (argBest bt j) with
  | true =>
   simp only[if_true]
   apply wpAny_bind;refine wpAny_updateSeq hS' rfl ?_;apply wpAny_bind;apply wpAny_letGo;rw[nm];apply wpAny_pure
   have up:∀b o,b≠S->h'.get? b=some o->(h'.update S (Obj.mapSeq λ_=>#[v,v])).get? b=some o:=λb o b2 e=>(Heap.get?_update_other _ _ (Ne.symm b2)).trans e
   refine⟨plainId_quiet F.plain_min_loop _,ih (j+1) _ v _ (by omega) (by omega) (st'.1.at λo e=>up _ o hSI.symm e) (st'.2.at λo e=>up _ o hSl.symm e) (by simp only[argBest,hbt,if_true];exact hv) (gs _ _ hG' λb o _ b2 e=>up b o b2 e) (Heap.get?_update_self _ hS' rfl) λv' h'' tk'' e kk=>?_⟩
   exact q v' h'' tk'' e λb o b1 b2 e=>kk b o b1 b2 (up b o b2 (kp b o (wr b1) e))
  | false =>
   simp only[Bool.false_eq_true,if_false]
   apply wpAny_bind;apply wpAny_letGo;rw[nm];apply wpAny_pure
   refine⟨plainId_quiet F.plain_min_loop _,ih (j+1) _ vb c (by omega) (by omega) st'.1 st'.2 (by simp only[argBest,hbt,Bool.false_eq_true,if_false];exact hb) hG' hS' λv' h'' tk'' e kk=>?_⟩
   exact q v' h'' tk'' e λb o b1 b2 e=>kk b o b1 b2 (kp b o (wr b1) e)
theorem DL {l:Addr} {items:Array Value} {bt:Nat->Nat->Bool} {G:Heap->Prop} {Q:Value->Shared->Prop} (hh:A.handled=none) (hL:s.heap.IsTuple l items) (hne:0<items.size)
  (cmp:∀(i j:Nat) (u v:Value) (s:Shared) (Q:Value->Shared->Prop) (E:Value->Shared->Prop),items[i]? = some u->items[j]? = some v->G s.heap->Q (.bool (bt i j)) s->wpAny (model prog w) A.in1 (richCompare .Lt u v) Q E s)
  (gs:∀h',(∀b o,s.heap.get? b=some o->h'.get? b=some o)->G h') (q:∀v h' tk,items[argBest bt (items.size-1)]? = some v->(∀b o,s.heap.get? b=some o->h'.get? b=some o)->Q v { s with heap:=h',toks:=tk }) :
  wpAny (model prog w) A (call (.builtin "min") [.ref l]) Q E s:=by
 have nm:(toString "min" ++ toString ".loop":String) = "min.loop":=by decide
 have lt:l<s.heap.objs.size:=by obtain⟨_,e,_⟩:=hL;exact Heap.lt_size e
 refine call_function_tree F.kind_min F.plain_min F.entry_min (F.args_min1 _) ?_
 show wpAny _ A.in1 (Builtin.Builtins.bindParams "min" ["key","default"] 0 ⟨[],[]⟩ >>= _) _ _ s
 apply wpAny_bind;refine wpAny_of_eq (show Builtin.Builtins.bindParams "min" ["key","default"] 0 ⟨[],[]⟩=pure [none,none] from rfl) ?_
 apply wpAny_bind;apply wpAny_pure;apply wpAny_bind;refine wpAny_pyIter_tuple hL ?_
 apply wpAny_bind;refine wpAny_newObj_type ?_;rw[nm];apply wpAny_pure
 have sz1:(s.heap.push (jG "tuple_iterator" l)).objs.size=s.heap.objs.size+1:=Heap.size_push ..
 generalize hp:s.heap.push (jG "tuple_iterator" l)=h1 at sz1
 have hI:h1.IsTupleIter s.heap.objs.size l 0:=by rw[<-hp];exact⟨_,Heap.get?_push_size _ rfl,rfl,rfl⟩
 have k1:∀b o,s.heap.get? b=some o->h1.get? b=some o:=λb o e=>by rw[<-hp];exact Heap.get?_push_of_some _ e
 refine⟨plainId_quiet F.plain_min_loop _,?_⟩
 show codeAny _ A (.builtin "min.loop" ⟨[.ref s.heap.objs.size,.none,.ref h1.objs.size],[]⟩) _ { s with heap:=h1.push { cls:=.type "list",dict:=none,data:=.seq ([]:List Value).toArray } }
 rw[sz1]
 have hS:(h1.push { cls:=.type "list",dict:=none,data:=.seq ([]:List Value).toArray }).get? (s.heap.objs.size+1)=some { cls:=.type "list",dict:=none,data:=.seq #[] 0,slots:=#[] }:=by rw[<-sz1];exact Heap.get?_push_size _ rfl
 have k2:∀b o,h1.get? b=some o->(h1.push { cls:=.type "list",dict:=none,data:=.seq ([]:List Value).toArray }).get? b=some o:=λb o e=>Heap.get?_push_of_some _ e
 generalize h1.push { cls:=.type "list",dict:=none,data:=.seq ([]:List Value).toArray } = h2 at hS k2
 have neI:∀{b:Addr} {o:Obj},s.heap.get? b=some o->b≠s.heap.objs.size/\b≠s.heap.objs.size+1:=λe=>⟨Nat.ne_of_lt (Heap.lt_size e),Nat.ne_of_lt (Nat.lt_succ_of_lt (Heap.lt_size e))⟩
 have W:=Walks.tuple (prog:=prog) (w:=w) (A:=A.in1) hh s.heap.objs.size l (Nat.ne_of_lt lt) items
 refine codeAny_builtin F.entry_min_loop ?_;rw[Around.under_plainId F.plain_min_loop _]
 show wpAny _ A.in1 (seqItems? (.ref (s.heap.objs.size+1)) >>= _) _ _ _
 apply wpAny_bind;apply wpAny_seqItems hS rfl
 show wpAny _ A.in1 (tryCatch (pyNext (.ref s.heap.objs.size)) _ >>= _) _ _ _
 have hL2:h2.IsTuple l items:=hL.at λo e=>k2 _ o (k1 _ o e)
 apply wpAny_bind;apply wpAny_tryCatch;refine W.item 0 _ _ _ hne ⟨hI.at λo e=>k2 _ o e,hL2⟩ λv h' tk hv st' kp=>?_
 have wr:∀{b:Addr},b≠s.heap.objs.size->b ∉ [s.heap.objs.size]:=λh=>by simpa using h
 have hS':=kp (s.heap.objs.size+1) _ (wr (Nat.succ_ne_self _)) hS
 show wpAny _ A.in1 (updateSeq (s.heap.objs.size+1) (λ_=>#[v,v]) >>= _) _ _ _
 apply wpAny_bind;refine wpAny_updateSeq hS' rfl ?_;rw[nm];apply wpAny_pure
 have up:∀b o,b≠s.heap.objs.size+1->h'.get? b=some o->(h'.update (s.heap.objs.size+1) (Obj.mapSeq λ_=>#[v,v])).get? b=some o:=λb o b2 e=>(Heap.get?_update_other _ _ (Ne.symm b2)).trans e
 have old:∀b o,s.heap.get? b=some o->(h'.update (s.heap.objs.size+1) (Obj.mapSeq λ_=>#[v,v])).get? b=some o:=λb o e=>up b o (neI e).2 (kp b o (wr (neI e).1) (k2 b o (k1 b o e)))
 have hS'':=Heap.get?_update_self (Obj.mapSeq λ_=>#[v,v]) hS' rfl
 refine⟨plainId_quiet F.plain_min_loop _,?_⟩
 refine ER (A:=A) (G:=λh=>∀b o,s.heap.get? b=some o->h.get? b=some o) (bt:=bt) (items:=items) (I:=s.heap.objs.size) (l:=l) (S:=s.heap.objs.size+1) (os0:=s) hh (Nat.ne_of_lt lt) (Nat.succ_ne_self _) (Nat.ne_of_gt (Nat.lt_succ_of_lt lt)) (λi j u v s' Q' E' e1 e2 g c=>cmp i j u v s' Q' E' e1 e2 (gs _ g) c)
  (λh3 h4 g kk b o e=>kk b o (neI e).1 (neI e).2 (g b o e)) (items.size-1) 0 _ v _ (by omega) (by omega) (st'.1.at λo e=>up _ o (Nat.ne_of_lt (Nat.lt_succ_self _)) e) (st'.2.at λo e=>up _ o (Nat.ne_of_lt (Nat.lt_succ_of_lt lt)) e) (by simpa [argBest] using hv) old hS'' λv' h'' tk'' e kk=>?_
 exact q v' h'' tk'' e λb o e=>kk b o (neI e).1 (neI e).2 (old b o e)
end
noncomputable abbrev jP (ns:List Int):D:=.tup (ns.map .int)
theorem lF:∀{a b c:List Int},HT.lexLt a b=true->HT.lexLt b c=true->HT.lexLt a c=true
 | [],[],_,h,_=>by cases h
 | [],_::_,[],_,h=>by cases h
 | [],_::_,_::_,_,_=>rfl
 | _::_,[],_,h,_=>by cases h
 | _::_,_::_,[],_,h=>by cases h
 | x::xs,y::ys,z::zs,h1,h2=>by
  rw[HT.lexLt_cons] at *
  by_cases e1:x=y
  ·subst e1
   rw[if_pos rfl] at h1
   by_cases e2:x=z
   ·rw[if_pos e2] at h2 ⊢;exact lF h1 h2
   ·rw[if_neg e2] at h2 ⊢;exact h2
  ·rw[if_neg e1] at h1
   by_cases e2:y=z
   ·subst e2;rw[if_neg e1];exact h1
   ·rw[if_neg e2] at h2
    simp only[decide_eq_true_eq] at h1 h2
    rw[if_neg (by omega)];simp only[decide_eq_true_eq];omega
theorem pT:∀(a:List Int),HT.lexLt a a=false
 | []=>rfl
 | x::xs=>by rw[HT.lexLt_cons,if_pos rfl];exact pT xs
theorem kW {bt:Nat->Nat->Bool} (tr:∀i j k,bt i j=true->bt j k=true->bt i k=true) (ir:∀i,bt i i=false):∀k,argBest bt k<=k/\∀j,j<=k->bt j (argBest bt k)=false
 | 0=>⟨Nat.le_refl _,λj hj=>by rw[Nat.le_zero.mp hj];exact ir 0⟩
 | k+1=>by
  obtain⟨h1,h2⟩:=kW tr ir k
  cases hb:bt (k+1) (argBest bt k) with
  | true =>
   simp only[argBest,hb,if_true]
   refine⟨Nat.le_refl _,λj hj=>?_⟩
   by_cases e:j=k+1
   ·subst e;exact ir _
   ·cases hc:bt j (k+1) with
    | false=>rfl
    | true =>
     have:=tr j (k+1) _ hc hb
     rw[h2 j (by omega)] at this;cases this
  | false =>
   simp only[argBest,hb,Bool.false_eq_true,if_false]
   refine⟨by omega,λj hj=>?_⟩
   by_cases e:j=k+1
   ·subst e;exact hb
   ·exact h2 j (by omega)
theorem Reps.tupI_inv {K:PySem.W.Frag} {H:Hp} {ns:List Int} {v:V} (r:Rep K H (jP ns) v):∃a,v = .ref a/\H a=some (.tup (ns.map V.int)):=by
 cases r with
 | tup h rr=>rw[rr.ints_inv] at h;exact⟨_,rfl,h⟩
section
variable {X:Cx} {e a b:Expr} {te ta tb:RE} {p pos:Pos}
noncomputable def UM:R22:=λx y Q=>∃ns ms:List Int,x=jP ns/\y=jP ms/\Q (.bl (HT.lexLt ns ms))
theorem NR {k:Nat} (hr:Room k X.A):OpD X (compareOp .Lt) UM:=by
 intro pins s σ H x y v u Q I rx ry hh_0
 obtain⟨d,e,P,r1,r2,q,kk⟩:=hh_0
 obtain⟨ns,ms,e1,e2,q⟩:=q
 subst e1 e2
 obtain⟨a,vs,rfl,h1,t1⟩:=r1.tup
 obtain⟨b,us,rfl,h2,t2⟩:=r2.tup
 rw[t1.ints_inv] at h1;rw[t2.ints_inv] at h2
 exact VO (X:=X) (by have:=hr.un;omega) pins s σ H _ _ v u Q I rx ry ⟨a,b,ns,ms,rfl,rfl,SqT.of h1,SqT.of h2,kk _ _ H q (Same.refl H) (.bl _)⟩
noncomputable def GD:D->(D->Prop)->Prop:=λd Q=>match d with
 | .lst ds=>∃nss:List (List Int),ds=nss.map jP/\nss≠[]/\∀M,M∈nss->(∀x∈nss,HT.lexLt x M=false)->Q (jP M)
 | .tup ds=>∃nss:List (List Int),ds=nss.map jP/\nss≠[]/\∀M,M∈nss->(∀x∈nss,HT.lexLt x M=false)->Q (jP M)
 | _=>False
theorem GF {k:Nat} (hr:Room k X.A) (hm:X.mg "min" = none) (hc:X.calm=true) (h:DB X e te) (hg:Gl X "min":=by rfl) (hs:starEach [e] X.env=[(false,eval e X.env)]:=by rfl) (hn:starEach [] X.env=[]:=by rfl) :
  DE X (.Call (.Name "min" p) [e] [] pos) (r1 GD te):=by
 have call:gS X (.builtin "min") (λxs H Q=>∃(d:D) (v:V) (P:D->Prop),xs=[v]/\RepB X.K H d v/\GD d P/\∀z w,P z->Rep X.K H z w->Q w H):=by
  intro pins s σ H xs us Q I rs hq
  obtain⟨d,v,P,rfl,rb,hd,kk⟩:=hq
  cases d with
  | lst ds =>
   obtain⟨nss,rfl,hne,hd⟩:=hd
   obtain⟨l,vs,rfl,hq,rr⟩:=rb.lst
   obtain⟨u,rfl,rx⟩:=iU rs
   cases rx
   obtain⟨its,rv,pl,hz⟩:=I.list hq
   have l1:=rr.length
   have l2:=rv.length
   have hpos:0<nss.length:=List.length_pos_iff.mpr hne
   rw[List.length_map] at l1
   have each:∀(i:Nat) (u:Value),its[i]? = some u->∃ns a ts,nss[i]? = some ns/\vs[i]? = some (.ref a)/\u = .ref a/\Vals (ns.map V.int) ts/\IsTup s.heap a ts.toArray:=λi u e=>by
    have hi:i<nss.length:=by have:=(List.getElem?_eq_some_iff.mp e).1;omega
    obtain⟨v,e1,e2⟩:=rr.get (i:=i) (d:=jP nss[i]) (by rw[List.getElem?_map,List.getElem?_eq_getElem hi];rfl)
    obtain⟨a,rfl,ha⟩:=Reps.tupI_inv e2
    obtain⟨u',f1,f2⟩:=rv.get e1
    rw[e] at f1;cases f1
    cases f2
    obtain⟨ts,g1,g2,_⟩:=I.tuple (SqT.of (K:=X.K) ha)
    exact⟨_,a,ts,List.getElem?_eq_getElem hi,e1,rfl,g1,g2⟩
   refine IJ (bt:=λi j=>HT.lexLt (nss.getD i []) (nss.getD j [])) (G:=λh=>∀b o,s.heap.get? b=some o->h.get? b=some o) (I.ok.hd hc) pl.isList (by simp;omega) (λi j u v s' Q' E' e1 e2 g c=>?_) (λh' g=>g) λv h' tk ev kp=>?_
   ·obtain⟨ns,a,ts,n1,_,rfl,g1,g2⟩:=each i u (by simpa using e1)
    obtain⟨ms,b,us,n2,_,rfl,g3,g4⟩:=each j v (by simpa using e2)
    have q1:nss.getD i []=ns:=by rw[List.getD_eq_getElem?_getD,n1];rfl
    have q2:nss.getD j []=ms:=by rw[List.getD_eq_getElem?_getD,n2];rfl
    rw[q1,q2] at c
    have hu:=hr.un
    have tupAt:∀{a:Addr} {xs:Array Value},IsTup s.heap a xs->IsTup s'.heap a xs:=λ⟨o,e,r⟩=>⟨o,g _ o e,r⟩
    refine HT.lt_tupInts (A:=X.A.in1) (tupAt g2) (tupAt g4) (fK g1) (fK g3) (by show X.A.units+1<cLine;omega) c
   ·obtain⟨b1,b2⟩:=kW (bt:=λi j=>HT.lexLt (nss.getD i []) (nss.getD j [])) (λ_ _ _=>lF) (λ_=>pT _) (its.toArray.size-1)
    generalize argBest (λi j=>HT.lexLt (nss.getD i []) (nss.getD j [])) (its.toArray.size-1)=m at b1 b2 ev
    obtain⟨ns,a,ts,n1,n2,rfl,g1,g2⟩:=each m v (by simpa using ev)
    have hm:m<nss.length:=(List.getElem?_eq_some_iff.mp n1).1
    refine⟨.ref a,H,I.kept kp,rfl,kk _ _ (hd ns (List.mem_of_getElem? n1) λx hx=>?_) ?_⟩
    ·obtain⟨j,hj,rfl⟩:=List.getElem_of_mem hx
     have:=b2 j (by simp;omega)
     have q1:nss.getD j []=nss[j]:=by rw[List.getD_eq_getElem?_getD,List.getElem?_eq_getElem hj];rfl
     have q2:nss.getD m []=ns:=by rw[List.getD_eq_getElem?_getD,n1];rfl
     rw[q1,q2] at this;exact this
    ·obtain⟨w,f1,f2⟩:=rr.get (i:=m) (d:=jP ns) (by rw[List.getElem?_map,n1];rfl)
     rw[n2] at f1;cases f1;exact f2
  | tup ds =>
   obtain⟨nss,rfl,hne,hd⟩:=hd
   obtain⟨l,vs,rfl,hq,rr⟩:=rb.tup
   obtain⟨u,rfl,rx⟩:=iU rs
   cases rx
   obtain⟨its,rv,pl,hz⟩:=I.tuple (SqT.of (K:=X.K) hq)
   have l1:=rr.length
   have l2:=rv.length
   have hpos:0<nss.length:=List.length_pos_iff.mpr hne
   rw[List.length_map] at l1
   have each:∀(i:Nat) (u:Value),its[i]? = some u->∃ns a ts,nss[i]? = some ns/\vs[i]? = some (.ref a)/\u = .ref a/\Vals (ns.map V.int) ts/\IsTup s.heap a ts.toArray:=λi u e=>by
    have hi:i<nss.length:=by have:=(List.getElem?_eq_some_iff.mp e).1;omega
    obtain⟨v,e1,e2⟩:=rr.get (i:=i) (d:=jP nss[i]) (by rw[List.getElem?_map,List.getElem?_eq_getElem hi];rfl)
    obtain⟨a,rfl,ha⟩:=Reps.tupI_inv e2
    obtain⟨u',f1,f2⟩:=rv.get e1
    rw[e] at f1;cases f1
    cases f2
    obtain⟨ts,g1,g2,_⟩:=I.tuple (SqT.of (K:=X.K) ha)
    exact⟨_,a,ts,List.getElem?_eq_getElem hi,e1,rfl,g1,g2⟩
   refine DL (bt:=λi j=>HT.lexLt (nss.getD i []) (nss.getD j [])) (G:=λh=>∀b o,s.heap.get? b=some o->h.get? b=some o) (I.ok.hd hc) pl (by simp;omega) (λi j u v s' Q' E' e1 e2 g c=>?_) (λh' g=>g) λv h' tk ev kp=>?_
   ·obtain⟨ns,a,ts,n1,_,rfl,g1,g2⟩:=each i u (by simpa using e1)
    obtain⟨ms,b,us,n2,_,rfl,g3,g4⟩:=each j v (by simpa using e2)
    have q1:nss.getD i []=ns:=by rw[List.getD_eq_getElem?_getD,n1];rfl
    have q2:nss.getD j []=ms:=by rw[List.getD_eq_getElem?_getD,n2];rfl
    rw[q1,q2] at c
    have hu:=hr.un
    have tupAt:∀{a:Addr} {xs:Array Value},IsTup s.heap a xs->IsTup s'.heap a xs:=λ⟨o,e,r⟩=>⟨o,g _ o e,r⟩
    refine HT.lt_tupInts (A:=X.A.in1) (tupAt g2) (tupAt g4) (fK g1) (fK g3) (by show X.A.units+1<cLine;omega) c
   ·obtain⟨b1,b2⟩:=kW (bt:=λi j=>HT.lexLt (nss.getD i []) (nss.getD j [])) (λ_ _ _=>lF) (λ_=>pT _) (its.toArray.size-1)
    generalize argBest (λi j=>HT.lexLt (nss.getD i []) (nss.getD j [])) (its.toArray.size-1)=m at b1 b2 ev
    obtain⟨ns,a,ts,n1,n2,rfl,g1,g2⟩:=each m v (by simpa using ev)
    have hm:m<nss.length:=(List.getElem?_eq_some_iff.mp n1).1
    refine⟨.ref a,H,I.kept kp,rfl,kk _ _ (hd ns (List.mem_of_getElem? n1) λx hx=>?_) ?_⟩
    ·obtain⟨j,hj,rfl⟩:=List.getElem_of_mem hx
     have:=b2 j (by simp;omega)
     have q1:nss.getD j []=nss[j]:=by rw[List.getD_eq_getElem?_getD,List.getElem?_eq_getElem hj];rfl
     have q2:nss.getD m []=ns:=by rw[List.getD_eq_getElem?_getD,n1];rfl
     rw[q1,q2] at this;exact this
    ·obtain⟨w,f1,f2⟩:=rr.get (i:=m) (d:=jP ns) (by rw[List.getElem?_map,n1];rfl)
     rw[n2] at f1;cases f1;exact f2
  | _=>exact hd.elim
 refine PE.mono (gX call hg hm zR (fZ h hs hn) (by decide) (by decide) (by rw[hs,hn]) (by rw[hn];rfl)) λσ H Q hh=>bT hh λρ P st q k=>⟨ρ,_,st,q,λd v H1 hd s1 r=>⟨d,v,P,rfl,r,hd,λz w hz rz=>k z w H1 hz s1 rz⟩⟩
noncomputable def dNe:R22:=λx y Q=>match x,y with
 | .int i,.int j=>Q (.bl !(decide (i=j)))
 | .bl i,.bl j=>Q (.bl !(decide (i=j)))
 | .tup xs,.tup ys=>match eqL (eqF 5) xs ys with
  | some b=>Q (.bl !b)
  | none=>False
 | .non,.non=>Q (.bl false)
 | _,_=>False
theorem TY {k:Nat} (hr:Room k X.A):OpD X (compareOp .NotEq) dNe:=by
 intro pins s σ H x y v u Q I rx ry hh_0
 obtain⟨d,e,P,r1,r2,q,kk⟩:=hh_0
 have hu:=hr.un
 unfold dNe at q
 split at q
 ·rename_i i j
  rw[r1.int_inv] at rx;rw[r2.int_inv] at ry
  obtain⟨t,rfl⟩:=rx
  obtain⟨t',rfl⟩:=ry
  have e:(!(decide (i=j))) = !(i == j):=by rw[Bool.beq_eq_decide_eq]
  rw[e] at q
  exact SeqAt.RcNeAt.int_int i t j t' _ _ _ _ ⟨.bl _,H,I,rfl,kk _ _ H q (Same.refl H) (.bl _)⟩
 ·rename_i i j
  rw[r1.bl_inv] at rx;rw[r2.bl_inv] at ry
  cases rx;cases ry
  have e:(!(decide (i=j))) = !(i == j):=by rw[Bool.beq_eq_decide_eq]
  rw[e] at q
  exact SeqAt.RcNeAt.bool_bool i j _ _ _ _ ⟨.bl _,H,I,rfl,kk _ _ H q (Same.refl H) (.bl _)⟩
 ·rename_i xs ys
  split at q
  ·rename_i b h
   obtain⟨a,vs,rfl,h1,q1⟩:=r1.tup
   obtain⟨c,ws,rfl,h2,q2⟩:=r2.tup
   cases rx;cases ry
   obtain⟨its,rv,ht,_⟩:=I.tuple (SqT.of h1)
   obtain⟨its2,rv2,ht2,_⟩:=I.tuple (SqT.of h2)
   have l1:xs.length=its.length:=q1.length.trans rv.length
   have l2:ys.length=its2.length:=q2.length.trans rv2.length
   have rc:SeqAt.RcNeAt X.A s (.ref a) (.ref c) (!b):=by
    have:=SeqAt.RcNeAt.tuples (A:=X.A) (s:=s) (e:=λj=>match xs[j]?,ys[j]? with | some x,some y=>(eqF 5 x y).getD false | _,_=>false) ht ht2 (by omega) (λj g1 g2=>?_)
    ·simp only[List.size_toArray,<-l1,<-l2] at this
     have al:=oG h
     rw[<-al]
     exact this
    ·simp only[List.size_toArray] at g1 g2
     have e1:xs[j]? = some (xs[j]'(by omega)):=List.getElem?_eq_getElem _
     have e2:ys[j]? = some (ys[j]'(by omega)):=List.getElem?_eq_getElem _
     obtain⟨k,hk⟩:=sI h j _ _ e1 e2
     rw[e1,e2]
     simp only[hk,Option.getD_some]
     obtain⟨v1,f1,f2⟩:=q1.get e1
     obtain⟨v2,f3,f4⟩:=q2.get e2
     obtain⟨u1,g3,g4⟩:=rv.get f1
     obtain⟨u2,g5,g6⟩:=rv2.get f3
     have a1:its.toArray[j]=u1:=by
      have:=List.getElem?_eq_getElem g1
      rw[this] at g3
      simpa using Option.some.inj g3
     have a2:its2.toArray[j]=u2:=by
      have:=List.getElem?_eq_getElem g2
      rw[this] at g5
      simpa using Option.some.inj g5
     rw[a1,a2]
     exact (pP I 5 hk f2 f4 g4 g6 (by show X.A.units+1+5<cLine;omega)).2
   exact rc _ _ _ _ ⟨.bl _,H,I,rfl,kk _ _ H q (Same.refl H) (.bl _)⟩
  ·exact q.elim
 ·have non:∀{v:V},RepB X.K H .non v->v = .non:=λr=>by
   rcases r with r | ⟨_,_,_,e,_⟩
   ·cases r;rfl
   ·cases e
  rw[non r1] at rx;rw[non r2] at ry
  cases rx;cases ry
  exact SeqAt.RcNeAt.none_none _ _ _ _ ⟨.bl _,H,I,rfl,kk _ _ H q (Same.refl H) (.bl _)⟩
 ·exact q.elim
noncomputable def LX:R22:=λx y Q=>match x with
 | .lst xs=>∃j:Nat,(∃d,xs[j]? = some d/\eqF 6 d y=some true)/\(∀(i:Nat) d,i<j->xs[i]? = some d->eqF 6 d y=some false)/\(∀d∈xs,∃b,eqF 6 d y=some b)/\Q (.int (j:Int))
 | _=>False
theorem RelV.det {v v':V} {u:Value} (h:RelV v u) (h':RelV v' u):v=v':=RelV.inj h h'
end
section
variable {X:Cx} {pins:List (Addr × Obj)} {σ:St} {H:Hp} {s:Shared}
mutual
theorem Rep.det (I:Inv X pins σ H s):∀{d d':D} {v:V},Rep X.K H d v->Rep X.K H d' v->d=d'
 | _,_,_,.non,r=>by cases r;rfl
 | _,_,_,.bl b,r=>by cases r;rfl
 | _,_,_,.int i,r=>by cases r;rfl
 | _,_,_,.str x,r=>by cases r;rfl
 | _,_,_,.tup h q,r=>by
  cases r with
  | tup h' q'=>rw[h] at h';cases h';rw[Reps.det I q q']
  | lst h' q' =>
   obtain⟨its,rv,pl,_⟩:=I.list h'.sq
   obtain⟨jts,rv',⟨o,e,c,_⟩,_⟩:=I.tuple (SqT.of (K:=X.K) h)
   obtain⟨o',e',c',_⟩:=pl.isList
   rw[e] at e';cases e';rw[c] at c';simp at c'
 | _,_,_,.lst h q,r=>by
  cases r with
  | tup h' q' =>
   obtain⟨its,rv,pl,_⟩:=I.list h.sq
   obtain⟨jts,rv',⟨o,e,c,_⟩,_⟩:=I.tuple (SqT.of (K:=X.K) h')
   obtain⟨o',e',c',_⟩:=pl.isList
   rw[e] at e';cases e';rw[c] at c';simp at c'
  | lst h' q'=>rw[I.list_inj h'.sq h.sq] at q';rw[Reps.det I q q']
theorem Reps.det (I:Inv X pins σ H s):∀{d d':List D} {v:List V},Reps X.K H d v->Reps X.K H d' v->d=d'
 | _,_,_,.nil,r=>by cases r;rfl
 | _,_,_,.cons h t,r=>by
  cases r with
  | cons h' t'=>rw[Rep.det I h h',Reps.det I t t']
end
end
section
variable {X:Cx} {e a b:Expr} {te ta tb:RE} {p pos:Pos}
noncomputable def FA (ta tb:RE):RE:=λρ Q=>ta ρ λx=>(∃xs,x = .lst xs)/\tb ρ λy=>LX x y Q
theorem MM {k:Nat} {apos cpos:Pos} (hr:Room k X.A) (ha:DB X a ta) (hb:DE X b tb) (hbase:attributeBase a "index" X.env (eval a X.env)=eval a X.env:=by rfl)
  (hfew:((backTo cpos (starEach [b] X.env)).all (λx=>!x.1) && (backToKw cpos (keywordEach [] X.env)).all (λx=>x.1.isSome) && decide (([b]:List Expr).length+([]:List Keyword).length+(if ([]:List Keyword).isEmpty then 0 else 1)<30))=true:=by rfl)
  (hline:(apos.endLine == cpos.line)=true:=by rfl) (hs:starEach [b] X.env=[(false,eval b X.env)]:=by rfl) (hn:starEach [] X.env=[]:=by rfl) :
  DE X (.Call (.Attribute a "index" apos) [b] [] cpos) (FA ta tb):=by
 have mt:MtR X "list.index" (λx vs H Q=>∃(d e:D) (u:V) (P:D->Prop),vs=[u]/\RepB X.K H d x/\Rep X.K H e u/\LX d e P/\∀z w,P z->Rep X.K H z w->Q w H):=by
  intro pins s σ H x vs v us Q I rx rv hh_0
  obtain⟨d,e,u,P,ev,rd,re,q,kk⟩:=hh_0
  subst ev
  obtain⟨u',rfl,ru⟩:=rv.one
  cases d with
  | lst xs =>
   obtain⟨j,⟨dj,ej,hj⟩,hno,hall,q⟩:=q
   obtain⟨l,vs,rfl,hq,rr⟩:=rd.lst
   cases rx
   obtain⟨its,rw',pl,hz⟩:=I.list hq
   obtain⟨⟨cls,dd,data,sl⟩,ho,hc,n,hd⟩:=pl.isList
   simp only at hc hd
   subst hc hd
   have l1:=rr.length
   have l2:=rw'.length
   have hu:=hr.un
   have hjl:j<xs.length:=(List.getElem?_eq_some_iff.mp ej).1
   let ev:Value->Bool:=λy=>(List.range xs.length).any λi=>match xs[i]?,its[i]? with
    | some d,some z=>z == y && eqF 6 d e == some true
    | _,_=>false
   have each:∀(i:Nat) (y:Value),its[i]? = some y->∃d v,xs[i]? = some d/\Rep X.K H d v/\RelV v y/\∃b,eqF 6 d e=some b:=λi y ey=>by
    have hi:i<xs.length:=by have:=(List.getElem?_eq_some_iff.mp ey).1;omega
    obtain⟨v,e1,e2⟩:=rr.get (List.getElem?_eq_getElem hi)
    obtain⟨y',f1,f2⟩:=rw'.get e1
    rw[ey] at f1;cases f1
    exact⟨_,v,List.getElem?_eq_getElem hi,e2,f2,hall _ (List.getElem_mem hi)⟩
   have evOk:∀(i:Nat) (y:Value) (d:D) (b:Bool),its[i]? = some y->xs[i]? = some d->eqF 6 d e=some b->ev y=b:=λi y d b ey ed hb=>by
    obtain⟨d',v,q1,q2,q3,_⟩:=each i y ey
    rw[ed] at q1;cases q1
    cases b with
    | true =>
     have hi:i<xs.length:=(List.getElem?_eq_some_iff.mp ed).1
     refine List.any_eq_true.mpr ⟨i,List.mem_range.mpr hi,?_⟩
     simp only[ed,ey,hb];simp
    | false =>
     refine List.any_eq_false.mpr λi' hi'=>?_
     cases ex:xs[i']? with
     | none=>simp
     | some d' =>
      cases ez:its[i']? with
      | none=>simp
      | some z =>
       simp only[Bool.and_eq_true,beq_iff_eq,not_and]
       intro hz hd'
       subst hz
       obtain⟨d2,v2,p1,p2,p3,_⟩:=each i' z ez
       rw[ex] at p1;cases p1
       have:=RelV.det q3 p3
       subst this
       rw[Rep.det I q2 p2] at hb
       rw[hb] at hd';cases hd'
   have getI:∀(i:Nat) (h:i<its.toArray.size),its[i]? = some its.toArray[i]:=λi h=>by
    have h':i<its.length:=by simpa using h
    rw[List.getElem?_eq_getElem h'];simp
   refine call_meets F.slot_list_index ⟨_,ho,rfl⟩ F.entry_list_index (F.args_list_index_2 _ _) (SeqAt.list_indexAt l its.toArray n dd sl u' ev j (by simp;omega) ?_ ?_ λm hm hlt=>?_) ⟨ho,λy hy=>?_,?_⟩
   ·have hs:(sizeLine:Int)<2 ^ 63-1:=by decide
    omega
   ·exact evOk j _ dj true (getI j _) ej hj
   ·have hm':m<xs.length:=by simp at hm;omega
    exact evOk m _ xs[m] false (getI m hm) (List.getElem?_eq_getElem hm') (hno m _ hlt (List.getElem?_eq_getElem hm'))
   ·obtain⟨i,hi,rfl⟩:=List.getElem_of_mem (List.mem_toArray.mp hy)
    obtain⟨d,v,q1,q2,q3,b,hb⟩:=each i its[i] (List.getElem?_eq_getElem hi)
    rw[evOk i _ d b (List.getElem?_eq_getElem hi) q1 hb]
    exact (pP I 6 hb q2 re q3 ru (by show X.A.units+1+6<cLine;omega)).2
   ·exact⟨.int (j:Int),H,I.tok _,⟨_,rfl⟩,kk _ _ q (.int _)⟩
  | _=>exact q.elim
 refine PE.mono (UB PySem.F.plainAttrs_list PySem.F.slot_list_index PySem.F.type_list_index mt ha (fZ hb hs hn) hbase hfew hline (by rw[hs,hn]) (by rw[hn];rfl)) λσ H Q hh=>bT hh λρ P st q k=>⟨ρ,_,st,q,λx v H1 hx s1 r1=>⟨?_,ρ,_,st.ext s1,hx.2,λy u H2 hy s2 r2=>⟨x,y,u,P,rfl,r1.same s2,r2,hy,λz w hz rz=>k z w H2 hz (s1.trans s2) rz⟩⟩⟩
 obtain⟨⟨xs,rfl⟩,_⟩:=hx
 obtain⟨l,vs,rfl,hq,_⟩:=r1.lst
 exact .inl ⟨rfl,vs,hq⟩
end
end L2.R2
set_option Elab.async false
set_option linter.all false
set_option maxRecDepth 100000
set_option maxHeartbeats 1000000
namespace L2.R2
open PySem PySem.SetTable
noncomputable def hop (N i:Nat):Nat:=(i*5+1) % N
noncomputable def yJ (N:Nat):Nat->Nat->Nat
 | 0,i=>i
 | m+1,i=>yJ N m (hop N i)
theorem oI (N:Nat):∀a b i,yJ N (a+b) i=yJ N b (yJ N a i)
 | 0,b,i=>by rw[Nat.zero_add];rfl
 | a+1,b,i=>by rw[Nat.add_right_comm];exact oI N a b (hop N i)
noncomputable def HU (N:Nat):Nat->Nat->List Nat
 | 0,_=>[]
 | m+1,i=>i::HU N m (hop N i)
theorem pX {N j:Nat}:∀{m i:Nat},j∈HU N m i->∃k,k<m/\yJ N k i=j
 | 0,_,h=>by cases h
 | m+1,i,h=>by
  rcases List.mem_cons.mp h with rfl | h
  ·exact⟨0,by omega,rfl⟩
  ·obtain⟨k,hk,e⟩:=pX h
   exact⟨k+1,by omega,e⟩
noncomputable def Round (N:Nat):Prop:=(∀j,j<N->j∈HU N N 0)/\yJ N N 0=0
theorem uL {N:Nat} (h:((List.range N).all λj=>(HU N N 0).contains j)=true) (k:yJ N N 0=0):Round N :=
 ⟨λj hj=>by have:=List.all_eq_true.mp h j (List.mem_range.mpr hj);simpa using this,k⟩
theorem WR:Round 8:=uL (by decide +kernel) (by decide +kernel)
theorem SH:Round 32:=uL (by decide +kernel) (by decide +kernel)
theorem OL:Round 128:=uL (by decide +kernel) (by decide +kernel)
theorem Round.reach {N:Nat} (h:Round N) {i j:Nat} (hi:i<N) (hj:j<N):∃k,k<N/\yJ N k i=j:=by
 obtain⟨a,ha,ea⟩:=pX (h.1 i hi)
 obtain⟨b,hb,eb⟩:=pX (h.1 j hj)
 by_cases hab:a<=b
 ·refine⟨b-a,by omega,?_⟩
  rw[<-ea,<-oI,show a+(b-a)=b by omega,eb]
 ·refine⟨b+(N-a),by omega,?_⟩
  rw[<-ea,<-oI,show a+(b+(N-a))=N+b by omega,oI,h.2,eb]
noncomputable def Em (P:Nat->Prop) (mask:Nat):Nat->Nat->Nat->Prop
 | 0,i,_=>P i
 | m+1,i,pt=>Em P mask m (leap mask i pt).1 (leap mask i pt).2
theorem FP {P:Nat->Prop} {mask:Nat}:∀m i,P (yJ (mask+1) m i)->Em P mask m i 0
 | 0,_,h=>h
 | m+1,i,h=>by
  unfold Em
  have e:leap mask i 0=(hop (mask+1) i,0):=by simp[leap,hop]
  rw[e]
  exact FP m (hop (mask+1) i) h
theorem CU {P:Nat->Prop} {mask:Nat} (R:Round (mask+1)) {j:Nat} (hj:j<=mask) (hP:P j):∀(b i pt:Nat),i<=mask->pt<32 ^ b->∃m,m<=mask+b/\Em P mask m i pt
 | 0,i,pt,hi,hp=>by
  have:pt=0:=by simpa using hp
  subst this
  obtain⟨k,hk,e⟩:=R.reach (i:=i) (j:=j) (by omega) (by omega)
  exact⟨k,by omega,FP k i (by rw[e];exact hP)⟩
 | b+1,i,pt,hi,hp=>by
  have h1:(leap mask i pt).1<=mask:=by unfold leap;exact Nat.le_of_lt_succ (Nat.mod_lt _ (by omega))
  have h2:(leap mask i pt).2<32 ^ b:=by
   unfold leap;dsimp only
   rw[Nat.pow_succ] at hp
   omega
  obtain⟨m,hm,e⟩:=CU R hj hP b _ _ h1 h2
  exact⟨m+1,by omega,e⟩
theorem FV (h:Int):bits h<32 ^ 13:=by
 unfold bits
 have:(h % (2 ^ 64:Int))<2 ^ 64:=Int.emod_lt_of_pos _ (by decide)
 have h2:0<=h % (2 ^ 64:Int):=Int.emod_nonneg _ (by decide)
 have:(h % (2 ^ 64:Int)).toNat<2 ^ 64:=by omega
 exact Nat.lt_of_lt_of_le this (by decide)
theorem iZ {α:Type} [DecidableEq α]:∀(l m:List α),l.Nodup->(∀x∈l,x∈m)->l.length<=m.length
 | [],_,_,_=>Nat.zero_le _
 | x::l,m,hn,hs=>by
  have hx:=hs x (by simp)
  have hn':=List.nodup_cons.mp hn
  have:=iZ l (m.erase x) hn'.2 λy hy=>by
   have ne:y≠x:=λe=>hn'.1 (e ▸ hy)
   exact (List.mem_erase_of_ne ne).mpr (hs y (by simp[hy]))
  rw[List.length_erase_of_mem hx] at this
  have:0<m.length:=List.length_pos_of_mem hx
  simp;omega
structure TabOk (t:SetTable) (n:Nat):Prop where
 size:t.place.size=n
 dum:t.dummies = #[]
 room:n<=t.mask
 round:Round (t.mask+1)
 ris:t.place.toList.Pairwise (· < ·)
theorem HS {t:SetTable} (hd:t.dummies = #[]) (j:Nat):t.slot j = .empty\/∃i,t.slot j = .live i/\t.place[i]? = some j:=by
 unfold slot
 dsimp only
 by_cases h:(t.place[below t.place j]? == some j)=true
 ·rw[if_pos h];exact Or.inr ⟨_,rfl,by simpa using h⟩
 ·rw[if_neg h,hd,if_neg (by simp[has])];exact Or.inl rfl
theorem FH {t:SetTable} {n:Nat} (T:TabOk t n):∃j,j<=t.mask/\t.slot j = .empty:=by
 apply Classical.byContradiction
 intro hn
 have all:∀j∈List.range (t.mask+1),j∈t.place.toList:=by
  intro j hj
  rcases HS T.dum j with h | ⟨i,h,e⟩
  ·exact absurd ⟨j,by have:=List.mem_range.mp hj;omega,h⟩ hn
  ·rw[Array.mem_toList_iff];exact Array.mem_of_getElem? e
 have:=iZ _ _ List.nodup_range all
 rw[List.length_range,Array.length_toList,T.size] at this
 have:=T.room
 omega
noncomputable def wB (t:SetTable) (p:Probe) (m:Nat):Prop:=p.dummy=none/\p.more<=9/\Em (λj=>t.slot j = .empty) t.mask m p.i p.perturb/\(m=0->p.j=p.i)
noncomputable def rM (p:Probe) (m:Nat):Nat:=p.more+10*m
theorem mC (mask i:Nat):runEnd mask i-i<=9:=by unfold runEnd;split <;> omega
theorem zK {t:SetTable} {p:Probe} {m:Nat} (h:wB t p m) (hn:t.slot p.j≠.empty):∃m',wB t (t.advance p) m'/\rM (t.advance p) m'<rM p m:=by
 obtain⟨hd,hm,he,hj⟩:=h
 have m0:m≠0:=by rintro rfl;rw[hj rfl] at hn;exact hn he
 unfold advance
 split
 ·refine⟨m,⟨hd,by dsimp only;omega,he,λe=>absurd e m0⟩,by unfold rM;dsimp only;omega⟩
 ·obtain⟨k,rfl⟩:∃k,m=k+1:=⟨m-1,by omega⟩
  refine⟨k,⟨hd,mC _ _,he,λ_=>rfl⟩,?_⟩
  unfold rM
  have:=mC t.mask (leap t.mask p.i p.perturb).1
  dsimp only
  omega
theorem BW {t:SetTable} (hd:t.dummies = #[]) (hashAt:Nat->Int) (h:Int):∀(fuel:Nat) (p:Probe) (m:Nat),wB t p m->rM p m<fuel ->
  (∃j,probe.go t hashAt h fuel p=some (.empty j none)/\t.slot j = .empty)\/(∃j i next m',probe.go t hashAt h fuel p=some (.candidate j i next)/\t.slot j = .live i/\t.place[i]? = some j/\wB t next m'/\rM next m'<rM p m)
 | 0,_,_,_,h=>absurd h (Nat.not_lt_zero _)
 | fuel+1,p,m,hi,hf=>by
  unfold probe.go
  rcases HS hd p.j with e | ⟨i,e,ep⟩
  ·rw[e];dsimp only;rw[hi.1];exact Or.inl ⟨_,rfl,e⟩
  ·rw[e];dsimp only
   obtain⟨m',hi',hl⟩:=zK hi (by rw[e];exact λx=>nomatch x)
   split
   ·exact Or.inr ⟨_,_,_,m',rfl,e,ep,hi',hl⟩
   ·rcases BW hd hashAt h fuel (t.advance p) m' hi' (by omega) with r | ⟨j,i,nx,m'',r,r2,r3,r4,r5⟩
    ·exact Or.inl r
    ·exact Or.inr ⟨j,i,nx,m'',r,r2,r3,r4,by omega⟩
theorem KJ {t:SetTable} {n:Nat} (T:TabOk t n) (h:Int):∃m,wB t (t.probeStart h) m/\rM (t.probeStart h) m<10*turns t.mask:=by
 obtain⟨j,hj,he⟩:=FH T
 obtain⟨m,hm,e⟩:=CU (P:=λj=>t.slot j = .empty) T.round hj he 13 (bits h % (t.mask+1)) (bits h) (Nat.le_of_lt_succ (Nat.mod_lt _ (by omega))) (FV h)
 refine⟨m,⟨rfl,mC _ _,e,λ_=>rfl⟩,?_⟩
 have:=mC t.mask (bits h % (t.mask+1))
 unfold rM probeStart turns
 dsimp only
 omega
theorem GO {mask:Nat} {owner:Array (Option Nat)}:∀(fuel m i pt:Nat),i<=mask->owner.size=mask+1->Em (λj=>owner.getD j (some 0)=none) mask m i pt->m<fuel->∃j,layClean.free mask owner fuel i pt=some j/\j<=mask/\owner.getD j (some 0)=none
 | 0,_,_,_,_,_,_,h=>absurd h (Nat.not_lt_zero _)
 | fuel+1,m,i,pt,hi,hs,he,hf=>by
  unfold layClean.free
  cases hq:(List.range (runEnd mask i+1-i)).find? λk=>(owner.getD (i+k) (some 0)).isNone with
  | some k =>
   have h1:=List.find?_some hq
   have h2:=List.mem_of_find?_eq_some hq
   have h3:=List.mem_range.mp h2
   refine⟨i+k,rfl,?_,by simpa using h1⟩
   have:runEnd mask i<=mask:=by unfold runEnd;split <;> omega
   omega
  | none =>
   dsimp only
   have hn:owner.getD i (some 0)≠none:=by
    have h0:=List.find?_eq_none.mp hq 0 (List.mem_range.mpr (by unfold runEnd;split <;> omega))
    simpa using h0
   obtain⟨k,rfl⟩:∃k,m=k+1:=by
    cases m with
    | zero=>exact absurd he hn
    | succ k=>exact⟨k,rfl⟩
   exact GO fuel k _ _ (by unfold leap;exact Nat.le_of_lt_succ (Nat.mod_lt _ (by omega))) hs he (by omega)
noncomputable def oO (owner:Array (Option Nat)) (n:Nat):List Nat:=(List.range n).filterMap λj=>owner.getD j none
theorem AQ {α:Type} {f g:Nat->Option α}:∀(l:List Nat),(∀a∈l,f a=g a)->l.filterMap f=l.filterMap g
 | [],_=>rfl
 | a::l,h=>by rw[List.filterMap_cons,List.filterMap_cons,h a (by simp),AQ l λb hb=>h b (by simp[hb])]
theorem mI {α:Type} {f g:Nat->Option α} {x:α} {j:Nat}:∀(l:List Nat),l.Nodup->j∈l->(∀i,i≠j->f i=g i)->f j=none->g j=some x->(l.filterMap g).Perm (x::l.filterMap f)
 | [],_,h,_,_,_=>by cases h
 | i::l,hn,hj,hfg,hf,hg=>by
  have hn':=List.nodup_cons.mp hn
  by_cases e:i=j
  ·subst e
   rw[List.filterMap_cons,List.filterMap_cons,hf,hg]
   dsimp only
   have:l.filterMap g=l.filterMap f:=by
    exact AQ l λa ha=>(hfg a (λe=>hn'.1 (e ▸ ha))).symm
   rw[this]
  ·have hj':j∈l:=by rcases List.mem_cons.mp hj with h | h;exact absurd h.symm e;exact h
   have ih:=mI l hn'.2 hj' hfg hf hg
   rw[List.filterMap_cons,List.filterMap_cons,hfg i e]
   cases g i with
   | none=>exact ih
   | some y=>exact (ih.cons y).trans (List.Perm.swap x y _)
theorem JW {owner:Array (Option Nat)} {N c:Nat} (hp:(oO owner N).Perm (List.range c)) (hs:owner.size=N) (hc:c<N):∃j,j<N/\owner.getD j (some 0)=none:=by
 apply Classical.byContradiction
 intro hn
 have key:∀(l:List Nat),(∀j∈l,∃k,owner.getD j none=some k)->(l.filterMap λj=>owner.getD j none).length=l.length:=by
  intro l
  induction l with
  | nil=>intro _;rfl
  | cons j l ih =>
   intro h
   obtain⟨k,e⟩:=h j (by simp)
   rw[List.filterMap_cons,e]
   have:=ih λj hj=>h j (by simp[hj])
   rw[List.length_cons,List.length_cons,this]
 have:=key (List.range N) (by
  intro j hj
  have hj':=List.mem_range.mp hj
  cases h:owner.getD j none with
  | some k=>exact⟨k,rfl⟩
  | none =>
   refine absurd ⟨j,hj',?_⟩ hn
   have lt:j<owner.size:=by omega
   simp[Array.getD,lt] at h ⊢
   exact h)
 have e:=hp.length_eq
 unfold oO at e
 rw[this] at e
 simp at e
 omega
theorem AX {mask:Nat} (R:Round (mask+1)):∀(hs:List Int) (owner:Array (Option Nat)) (c:Nat),owner.size=mask+1->(oO owner (mask+1)).Perm (List.range c)->c+hs.length<=mask+1 ->
  ∃owner' ,(hs.foldl (λacc h=>do
    let (owner,k) <-acc
    let j <-layClean.free mask owner (turns mask) (bits h % (mask+1)) (bits h)
    pure (owner.setIfInBounds j (some k),k+1)) (some (owner,c)))=some (owner',c+hs.length)/\owner'.size=mask+1/\(oO owner' (mask+1)).Perm (List.range (c+hs.length))
 | [],owner,c,hs,hp,_=>⟨owner,rfl,hs,hp⟩
 | h::hs,owner,c,hz,hp,hl=>by
  simp only[List.length_cons] at hl
  obtain⟨j0,hj0,e0⟩:=JW hp hz (by omega)
  obtain⟨m,hm,em⟩:=CU (P:=λj=>owner.getD j (some 0)=none) R (j:=j0) (by omega) e0 13 (bits h % (mask+1)) (bits h) (Nat.le_of_lt_succ (Nat.mod_lt _ (by omega))) (FV h)
  obtain⟨j,ej,hj,ef⟩:=GO (turns mask) m _ _ (Nat.le_of_lt_succ (Nat.mod_lt _ (by omega))) hz em (by unfold turns;omega)
  rw[List.foldl_cons]
  have step:((do
    let (owner,k) <-some (owner,c)
    let j <-layClean.free mask owner (turns mask) (bits h % (mask+1)) (bits h)
    pure (owner.setIfInBounds j (some k),k+1)):Option (Array (Option Nat) × Nat))=some (owner.setIfInBounds j (some c),c+1):=by
   show (layClean.free mask owner (turns mask) (bits h % (mask+1)) (bits h) >>= λj=>_)=_
   rw[ej];rfl
  rw[step]
  have lt:j<owner.size:=by omega
  have perm:(oO (owner.setIfInBounds j (some c)) (mask+1)).Perm (List.range (c+1)):=by
   unfold oO
   refine (mI (f:=λi=>owner.getD i none) (x:=c) (j:=j) _ List.nodup_range (List.mem_range.mpr (by omega)) ?_ ?_ ?_).trans ?_
   ·intro i hi
    simp only[Array.getD_eq_getD_getElem?]
    rw[Array.getElem?_setIfInBounds_ne (Ne.symm hi)]
   ·simp only[Array.getD_eq_getD_getElem?] at ef ⊢
    have:owner[j]? = some owner[j]:=Array.getElem?_eq_getElem lt
    rw[this] at ef ⊢
    exact ef
   ·simp only[Array.getD_eq_getD_getElem?]
    rw[Array.getElem?_setIfInBounds_self_of_lt lt];rfl
   ·rw[List.range_succ (n:=c)]
    exact (List.Perm.cons c hp).trans (List.perm_append_comm (l₁:=[c]))
  obtain⟨o',r1,r2,r3⟩:=AX R hs (owner.setIfInBounds j (some c)) (c+1) (by simp[hz]) perm (by omega)
  refine⟨o',?_,r2,?_⟩
  ·rw[r1,List.length_cons,show c+1+hs.length=c+(hs.length+1) by omega]
  ·rw[List.length_cons,show c+(hs.length+1)=c+1+hs.length by omega];exact r3
theorem QL {mask:Nat} (R:Round (mask+1)) (finger moves:Nat) (led plain:Bool) (hashes:Array Int) (hl:hashes.size<=mask) :
  ∃t order,laid mask finger moves led plain hashes=some (t,order)/\TabOk t hashes.size/\t.mask=mask/\t.led=led/\t.plain=plain/\order.toList.Perm (List.range hashes.size):=by
 obtain⟨o,e,sz,pm⟩:=AX R hashes.toList (Array.replicate (mask+1) none) 0 (by simp) (by
  have:oO (Array.replicate (mask+1) none) (mask+1)=[]:=by
   unfold oO
   rw[List.filterMap_eq_nil_iff]
   intro j hj
   have:=List.mem_range.mp hj
   simp[Array.getD_eq_getD_getElem?,this]
  rw[this];exact List.Perm.refl _) (by rw[Array.length_toList];omega)
 have el:layClean mask hashes=some o:=by
  unfold layClean
  rw[<-Array.foldl_toList]
  have e':=e
  simp only[Nat.zero_add] at e'
  rw[e']
  rfl
 unfold laid
 rw[el]
 simp only[Nat.zero_add,Array.length_toList] at pm
 have e2:∀l:List Nat,(l.filterMap λj=>(o.getD j none).map (j,·)).map (·.2)=l.filterMap λj=>o.getD j none:=by
  intro l
  induction l with
  | nil=>rfl
  | cons j l ih =>
   rw[List.filterMap_cons,List.filterMap_cons]
   cases o.getD j none with
   | none=>exact ih
   | some k=>exact congrArg (k :: ·) ih
 have e3:∀l:List Nat,((l.filterMap λj=>(o.getD j none).map (j,·)).map (·.1)).Sublist l:=by
  intro l
  induction l with
  | nil=>exact List.Sublist.refl _
  | cons j l ih =>
   rw[List.filterMap_cons]
   cases o.getD j none with
   | none=>exact ih.cons j
   | some k=>exact ih.cons_cons j
 refine⟨_,_,rfl,⟨?_,rfl,hl,R,List.Pairwise.sublist (e3 _) List.pairwise_lt_range⟩,rfl,rfl,rfl,?_⟩
 ·have h1:=congrArg List.length (e2 (List.range (mask+1)))
  have h2:=pm.length_eq
  unfold oO at h2
  simp only[List.length_map,List.length_range] at h1 h2
  simp only[List.size_toArray,List.length_map]
  omega
 ·dsimp only
  rw[e2];exact pm
theorem sT {xs:Array Nat} {j:Nat} (hr:xs.toList.Pairwise (· < ·)):∀(fuel lo hi:Nat),lo<=hi->hi<=xs.size->hi-lo<=fuel->(∀i x,i<lo->xs[i]? = some x->x<j)->(∀i x,hi<=i->xs[i]? = some x->j<=x) ->
  below.go xs j fuel lo hi<=xs.size/\(∀i x,i<below.go xs j fuel lo hi->xs[i]? = some x->x<j)/\(∀i x,below.go xs j fuel lo hi<=i->xs[i]? = some x->j<=x)
 | 0,lo,hi,h1,h2,h3,a,b=>by
  have:lo=hi:=by omega
  subst this
  exact⟨h2,a,b⟩
 | fuel+1,lo,hi,h1,h2,h3,a,b=>by
  unfold below.go
  by_cases hl:lo<hi
  ·rw[if_pos hl]
   dsimp only
   have hm:(lo+hi) / 2<xs.size:=by omega
   have em:xs[(lo+hi) / 2]? = some xs[(lo+hi) / 2]:=Array.getElem?_eq_getElem hm
   have eg:xs.getD ((lo+hi) / 2) j=xs[(lo+hi) / 2]:=by simp[Array.getD,hm]
   have mono:∀(i k x y:Nat),i<k->xs[i]? = some x->xs[k]? = some y->x<y:=by
    intro i k x y hik ex ey
    have hk:k<xs.size:=(Array.getElem?_eq_some_iff.mp ey).1
    have:=List.pairwise_iff_getElem.mp hr i k (by simp;omega) (by simpa using hk) hik
    rw[Array.getElem?_eq_getElem (by omega)] at ex
    rw[Array.getElem?_eq_getElem hk] at ey
    cases ex;cases ey
    simpa using this
   rw[eg]
   split
   ·rename_i h
    refine sT hr fuel _ _ (by omega) h2 (by omega) (λi x hq ex=>?_) b
    by_cases he:i=(lo+hi) / 2
    ·subst he;rw[em] at ex;cases ex;exact h
    ·exact Nat.lt_trans (mono i ((lo+hi) / 2) x _ (by omega) ex em) h
   ·rename_i h
    refine sT hr fuel _ _ (by omega) (by omega) (by omega) a (λi x hq ex=>?_)
    by_cases he:i=(lo+hi) / 2
    ·subst he;rw[em] at ex;cases ex;omega
    ·have:=mono ((lo+hi) / 2) i _ x (by omega) em ex
     omega
  ·rw[if_neg hl]
   have:lo=hi:=by omega
   subst this
   exact⟨h2,a,b⟩
theorem zP {xs:Array Nat} (j:Nat) (hr:xs.toList.Pairwise (· < ·)):below xs j<=xs.size/\(∀i x,i<below xs j->xs[i]? = some x->x<j)/\(∀i x,below xs j<=i->xs[i]? = some x->j<=x) :=
 sT hr xs.size 0 xs.size (Nat.zero_le _) (Nat.le_refl _) (by omega) (λi x h=>absurd h (Nat.not_lt_zero _)) λi x h e=>by
  have:=(Array.getElem?_eq_some_iff.mp e).1;omega
theorem iY {α:Type} (xs:Array α) (p:Nat) (x:α) (hp:p<=xs.size):(insertAt xs p x).toList=xs.toList.take p++x::xs.toList.drop p:=by
 unfold insertAt
 rw[Array.toList_append,Array.toList_push,Array.toList_extract,Array.toList_extract]
 simp only[List.extract_eq_drop_take,Nat.sub_zero,List.drop_zero,List.append_assoc,List.singleton_append]
 congr 2
 rw[List.take_of_length_le (by simp)]
theorem mJ {α:Type} (xs:Array α) (p:Nat) (x:α) (hp:p<=xs.size):(insertAt xs p x).size=xs.size+1:=by
 rw[<-Array.length_toList,iY xs p x hp];simp;omega
theorem yL {α:Type} (xs:Array α) (p:Nat) (x:α) (hp:p<=xs.size) (y:α):y∈(insertAt xs p x).toList↔y=x\/y∈xs.toList:=by
 rw[iY xs p x hp,List.mem_append,List.mem_cons]
 constructor
 ·rintro (h | h | h)
  ·exact Or.inr (List.mem_of_mem_take h)
  ·exact Or.inl h
  ·exact Or.inr (List.mem_of_mem_drop h)
 ·rintro (h | h)
  ·exact Or.inr (Or.inl h)
  ·rw[<-List.take_append_drop p xs.toList] at h
   rcases List.mem_append.mp h with h | h
   ·exact Or.inl h
   ·exact Or.inr (Or.inr h)
theorem WH {t:SetTable} {n j:Nat} (T:TabOk t n) (he:t.slot j = .empty) (hr:n+1<=t.mask):TabOk (t.put j).1 (n+1)/\(t.put j).2=below t.place j/\below t.place j<=n/\(t.put j).1.mask=t.mask/\(t.put j).1.led=t.led/\(t.put j).1.plain=t.plain/\(t.put j).1.moves=t.moves:=by
 obtain⟨b1,b2,b3⟩:=zP j T.ris
 have hn:t.place[below t.place j]?≠some j:=by
  intro h
  unfold slot at he
  dsimp only at he
  rw[if_pos (by simpa using h)] at he
  cases he
 have hd:(if has t.dummies j=true then eraseAt t.dummies (below t.dummies j) else t.dummies) = #[]:=by
  rw[T.dum];simp[has]
 refine⟨⟨?_,hd,hr,T.round,?_⟩,rfl,by rw[<-T.size];exact b1,rfl,rfl,rfl,rfl⟩
 ·show (insertAt t.place _ j).size=_
  rw[mJ _ _ _ b1,T.size]
 ·show (insertAt t.place _ j).toList.Pairwise _
  rw[iY _ _ _ b1]
  refine List.pairwise_append.mpr ⟨List.Pairwise.sublist (List.take_sublist _ _) T.ris,List.pairwise_cons.mpr ⟨λx hx=>?_,List.Pairwise.sublist (List.drop_sublist _ _) T.ris⟩,λx hx y hy=>?_⟩
  ·obtain⟨i,hi,e⟩:=List.getElem_of_mem hx
   simp only[List.length_drop,Array.length_toList] at hi
   rw[List.getElem_drop] at e
   have ex:t.place[below t.place j+i]? = some x:=by rw[Array.getElem?_eq_getElem (by omega),<-e];simp
   have:=b3 _ x (by omega) ex
   rcases Nat.lt_or_eq_of_le this with h | h
   ·exact h
   ·subst h
    exfalso
    cases i with
    | zero=>exact hn ex
    | succ i =>
     have hp:below t.place j<t.place.size:=by omega
     have e0:t.place[below t.place j]? = some t.place[below t.place j]:=Array.getElem?_eq_getElem hp
     have g1:=b3 _ _ (Nat.le_refl _) e0
     have g2:=List.pairwise_iff_getElem.mp T.ris (below t.place j) (below t.place j+(i+1)) (by simpa using hp) (by simp;omega) (by omega)
     rw[Array.getElem?_eq_getElem (by omega)] at ex
     injection ex with ex
     simp at g2
     omega
  ·obtain⟨i,hi,e⟩:=List.getElem_of_mem hx
   simp only[List.length_take,Array.length_toList] at hi
   rw[List.getElem_take] at e
   have ex:t.place[i]? = some x:=by rw[Array.getElem?_eq_getElem (by omega),<-e];simp
   have lx:=b2 i x (by omega) ex
   rcases List.mem_cons.mp hy with rfl | hy
   ·exact lx
   ·obtain⟨k,hk,e'⟩:=List.getElem_of_mem hy
    simp only[List.length_drop,Array.length_toList] at hk
    rw[List.getElem_drop] at e'
    have ey:t.place[below t.place j+k]? = some y:=by rw[Array.getElem?_eq_getElem (by omega),<-e'];simp
    have:=b3 _ y (by omega) ey
    omega
noncomputable def gI (t:SetTable) (k:Nat):Nat:=if k=0 then 0 else t.place.getD (k-1) 0+1
theorem EU {t:SetTable} {n k:Nat} (T:TabOk t n) (hk:k<=n):below t.place (gI t k)=k:=by
 obtain⟨b1,b2,b3⟩:=zP (gI t k) T.ris
 have mono:∀(i k x y:Nat),i<k->t.place[i]? = some x->t.place[k]? = some y->x<y:=by
  intro i k x y hik ex ey
  have hk:k<t.place.size:=(Array.getElem?_eq_some_iff.mp ey).1
  have:=List.pairwise_iff_getElem.mp T.ris i k (by simp;omega) (by simpa using hk) hik
  rw[Array.getElem?_eq_getElem (by omega)] at ex
  rw[Array.getElem?_eq_getElem hk] at ey
  cases ex;cases ey
  simpa using this
 have sz:=T.size
 have at':∀i,i<n->t.place[i]? = some (t.place.getD i 0):=by
  intro i hi
  rw[Array.getElem?_eq_getElem (by omega)]
  have:i<t.place.size:=by omega
  simp[Array.getD,this]
 rcases Nat.lt_trichotomy (below t.place (gI t k)) k with h | h | h
 ·exfalso
  have:=b3 (k-1) _ (by omega) (at' (k-1) (by omega))
  unfold gI at this
  rw[if_neg (by omega)] at this
  omega
 ·exact h
 ·exfalso
  have ek:=at' k (by omega)
  have h1:=b2 k _ h ek
  unfold gI at h1
  by_cases h0:k=0
  ·rw[if_pos h0] at h1;omega
  ·rw[if_neg h0] at h1
   have:=mono (k-1) k _ _ (by omega) (at' (k-1) (by omega)) ek
   omega
section
variable {prog:Program} {w:World} {A:Around} {E:Value->Shared->Prop} {s:Shared}
theorem CL {ks:List Int} {a:Addr} {Q:Bool->Shared->Prop} (hk:IsTupleKey (intKind prog w) s.heap ks a) (q:Q false s):wpAny (model prog w) A (ofAClassStatement 8 (.ref a)) Q E s:=by
 have hT:=hk.typeIs
 obtain⟨o,items,n,ho,_,hd,hi⟩:=hk
 unfold ofAClassStatement
 refine wpAny_bind (wpAny_typeOf hT ?_)
 dsimp only
 rw[if_pos (by decide)]
 refine wpAny_bind (wpAny_pure ?_)
 simp only[Bool.not_true,Bool.false_eq_true,if_false]
 refine wpAny_bind (wpAny_seqItems ho hd ?_)
 try dsimp only
 refine wpAny_bind ?_
 rw[<-Array.forIn_toList]
 refine wpAny_forIn_list _ (λrest r s'=>r.1=none/\s'=s/\∀v∈rest,carriedByValue v=true) _ ?_ ?_ _ _ ⟨rfl,rfl,hi.byValue⟩
 ·rintro v rest r s' ⟨hr,rfl,hall⟩
  have hv:=hall v List.mem_cons_self
  have e:ofAClassStatement 7 v=pure false:=by
   cases v with
   | ref a=>simp[carriedByValue] at hv
   | _=>first | rfl | (unfold ofAClassStatement;rfl)
  rw[e]
  refine wpAny_bind (wpAny_pure ?_)
  simp only[Bool.false_eq_true,if_false]
  exact wpAny_pure ⟨rfl,rfl,λu hu'=>hall u (List.mem_cons_of_mem _ hu')⟩
 ·rintro⟨r1,r2⟩ s' ⟨hr,rfl,_⟩
  simp only at hr
  subst hr
  exact wpAny_pure q
theorem FI {ks:List Int} {a:Addr} {Q:Bool->Shared->Prop} (hk:IsTupleKey (intKind prog w) s.heap ks a) (q:Q true s):wpAny (model prog w) A (hashByValue 8 (.ref a)) Q E s:=by
 have hT:=hk.typeIs
 obtain⟨o,items,n,ho,_,hd,hi⟩:=hk
 unfold hashByValue
 refine wpAny_bind (wpAny_specialOf hT F.slot_tuple_hash.lookup ?_)
 try dsimp only
 refine wpAny_bind (wpAny_seqItems ho hd ?_)
 try dsimp only
 refine wpAny_bind ?_
 show wpAny _ _ (forIn items _ _) _ _ s
 rw[<-Array.forIn_toList]
 refine wpAny_forIn_list _ (λrest r s'=>r.1=none/\s'=s/\∃ks',ItemsAre (intKind prog w) ks' rest) _ ?_ ?_ _ _ ⟨rfl,rfl,ks,hi⟩
 ·rintro v rest r s' ⟨hr,rfl,ks',hall⟩
  cases hall with
  | @cons k _ ks'' _ h1 h2 =>
   have e:hashByValue 7 v=pure true:=by
    obtain⟨t,rfl⟩:∃t,v = .int k t:=by
     cases v <;> simp[intKind,Value.isInt] at h1
     exact⟨_,by rw[h1]⟩
    rfl
   rw[e]
   refine wpAny_bind (wpAny_pure ?_)
   simp only[Bool.not_true,Bool.false_eq_true,if_false]
   exact wpAny_pure ⟨rfl,rfl,_,h2⟩
 ·rintro⟨r1,r2⟩ s' ⟨hr,rfl,_⟩
  simp only at hr
  subst hr
  exact wpAny_pure q
theorem SJ {ks:List Int} {a:Addr} {stored:List Value} {Q:Bool->Shared->Prop} (hk:IsTupleKey (intKind prog w) s.heap ks a) (hs:∀y∈stored,∃ks' b,y = .ref b/\IsTupleKey (intKind prog w) s.heap ks' b) (q:Q false s) :
  wpAny (model prog w) A (searchCouldBeSeen (.ref a) stored) Q E s:=by
 unfold searchCouldBeSeen
 refine wpAny_bind ?_
 refine wpAny_forIn_list _ (λrest r s'=>r.1=none/\s'=s/\∀y∈rest,y∈stored) _ ?_ ?_ _ _ ⟨rfl,rfl,λ_ h=>h⟩
 ·rintro v rest r s' ⟨hr,rfl,hall⟩
  obtain⟨ks',b,rfl,hb⟩:=hs v (hall v List.mem_cons_self)
  have hall':∀y∈rest,y∈stored:=λu hu'=>hall u (List.mem_cons_of_mem _ hu')
  dsimp only
  by_cases hv:((a == b) || (carriedByValue (Value.ref a) && carriedByValue (Value.ref b)))=true
  ·rw[if_pos hv]
   exact wpAny_pure ⟨rfl,rfl,hall'⟩
  ·rw[if_neg hv]
   refine wpAny_bind (wpAny_eqIsQuiet_tuple hk ?_)
   simp only[Bool.not_true,Bool.false_eq_true,if_false]
   refine wpAny_bind (wpAny_eqIsQuiet_tuple hb ?_)
   simp only[Bool.not_true,Bool.false_eq_true,if_false]
   refine wpAny_bind (CL hk ?_)
   simp only[Bool.false_eq_true,if_false]
   refine wpAny_bind (CL hb ?_)
   simp only[Bool.false_eq_true,if_false]
   exact wpAny_pure ⟨rfl,rfl,hall'⟩
 ·rintro⟨r1,r2⟩ s' ⟨hr,rfl,_⟩
  simp only at hr
  subst hr
  exact wpAny_pure q
noncomputable def cT (w:World):Bool:=w.params.followText "set-order"
noncomputable def UC (prog:Program) (w:World) (h:Heap) (es:Array (Int × Value)):Prop:=∀e∈es.toList,∃ks b,e=(tupleKeyHash (intKind prog w) ks,.ref b)/\IsTupleKey (intKind prog w) h ks b
noncomputable def KT (mask n:Nat):Prop:=(mask=7/\n<=4)\/(mask=31/\n<=18)\/(mask=127/\n<=76)
noncomputable def dC (es:Array (Int × Value)) (ep:Nat) (t:SetTable):Obj:={ cls:=.type "set",dict:=none,data:=.set es ep t }
theorem TabOk.fits {t:SetTable} {n:Nat} (T:TabOk t n):t.fits n=true:=by
 unfold SetTable.fits fill
 rw[T.dum,T.size]
 simp
 exact T.room
theorem MU {mask n:Nat} (h:KT mask n):(mask % 2 == 0)=false:=by
 rcases h with ⟨rfl,_⟩ | ⟨rfl,_⟩ | ⟨rfl,_⟩ <;> rfl
theorem xC {S a:Addr} {ks:List Int} {es:Array (Int × Value)} {ep:Nat} {t:SetTable} {Q:SetFound->Shared->Prop} (hu:A.units<cLine) (ho:s.heap.get? S=some (dC es ep t)) (T:TabOk t es.size) (hf:KT t.mask es.size) (he:UC prog w s.heap es)
  (hk:IsTupleKey (intKind prog w) s.heap ks a) (q1:(∃e∈es.toList,∃b,e.2 = .ref b/\IsTupleKey (intKind prog w) s.heap ks b)->Q (.there none) s) (q2:∀j,t.slot j = .empty->Q (.free j false) s) :
  ∀(fuel:Nat) (stand:Option Probe) (m:Nat),wB t (stand.getD (t.probeStart (tupleKeyHash (intKind prog w) ks))) m->rM (stand.getD (t.probeStart (tupleKeyHash (intKind prog w) ks))) m<10*turns t.mask->rM (stand.getD (t.probeStart (tupleKeyHash (intKind prog w) ks))) m<fuel ->
   wpAny (model prog w) A (setSearchFrom S (.ref a) (tupleKeyHash (intKind prog w) ks) true fuel stand) Q E s
 | 0,_,_,_,_,h=>absurd h (Nat.not_lt_zero _)
 | fuel+1,stand,m,hi,hm,hl=>by
  unfold setSearchFrom
  refine wpAny_bind (wpAny_setState_of ho rfl T.fits ?_)
  dsimp only
  rw[if_neg (by unfold SetTable.gaveWay;rw[MU hf];exact Bool.false_ne_true)]
  unfold probe
  rcases BW T.dum _ (tupleKeyHash (intKind prog w) ks) (10*turns t.mask) _ m hi hm with ⟨j,e,ej⟩ | ⟨j,i,next,m',e,ej,ep',hi',hm'⟩
  ·rw[e]
   dsimp only
   exact wpAny_pure (q2 j ej)
  ·rw[e]
   dsimp only
   have hil:i<es.size:=by
    have:=(Array.getElem?_eq_some_iff.mp ep').1
    rw[T.size] at this;exact this
   have ei:es[i]? = some es[i]:=Array.getElem?_eq_getElem hil
   have mi:es[i]∈es.toList:=by simp
   obtain⟨ks',b,ee,hb⟩:=he _ mi
   have rest:wpAny (model prog w) A (match es[i]? with
    | some (fst,y)=>do
     let equal <-holding [y] (eqBool y (Value.ref a))
     let __x <-setState S
     if (true && equal)=true then pure (SetFound.there none)
      else
       match __x.2.snd.sameMemory t.moves t.mask with
       | some same =>
        let still <-match if same=true then __x.2.snd.slot j else Slot.empty with
        | Slot.live i' =>
         match __x.fst[i']? with
         | some (fst,y')=>do pure (if <-isSame y' y then some i' else none)
         | none=>pure none
        | _=>pure none
        match still with
        | none=>do
         rule "set.search.anew"
         setSearchFrom S (Value.ref a) (tupleKeyHash (intKind prog w) ks) true fuel none
        | some i' =>
         if equal=true then pure (SetFound.there (some i'))
         else setSearchFrom S (Value.ref a) (tupleKeyHash (intKind prog w) ks) true fuel (some next)
       | _=>unsupported "set.changed-during-lookup:is-the-new-block-at-the-old-address"
    | _=>unsupported "internal:set-entry") Q E s:=by
    rw[ei,ee]
    dsimp only
    refine wpAny_bind (wpAny_holding (wpAny_eqBool_tuple hu hb hk ?_))
    refine wpAny_bind (wpAny_setState_of ho rfl T.fits ?_)
    dsimp only
    by_cases hkk:ks'=ks
    ·subst hkk
     rw[if_pos (by simp)]
     exact wpAny_pure (q1 ⟨_,mi,b,by rw[ee],hb⟩)
    ·rw[if_neg (by simp[hkk])]
     have sm:t.sameMemory t.moves t.mask=some true:=by unfold sameMemory;rw[if_pos (by simp)]
     rw[sm]
     dsimp only
     rw[if_pos rfl,ej]
     dsimp only
     rw[ei,ee]
     dsimp only
     refine wpAny_bind ?_
     have same:isSame (.ref b) (.ref b)=pure true:=by
      show (if (b == b)=true then pure true else _)=_
      rw[if_pos (by simp)]
     rw[same]
     refine wpAny_pure (wpAny_bind (wpAny_pure ?_))
     rw[if_pos rfl]
     dsimp only
     rw[if_neg (by simp[hkk])]
     exact xC hu ho T hf he hk q1 q2 fuel (some next) m' hi' (Nat.lt_trans hm' hm) (by simp only[Option.getD_some];omega)
   cases hled:t.led with
   | true =>
    simp only[Bool.not_true,Bool.false_eq_true,if_false]
    exact rest
   | false =>
    simp only[Bool.not_false,if_true]
    refine wpAny_bind (SJ hk ?_ ?_)
    ·intro y hy
     obtain⟨e0,he0,rfl⟩:=List.mem_map.mp hy
     have:=(Array.mem_filter.mp (Array.mem_toList_iff.mp he0)).1
     obtain⟨ks1,b1,e1,h1⟩:=he e0 (Array.mem_toList_iff.mpr this)
     exact⟨ks1,b1,by rw[e1],h1⟩
    ·simp only[Bool.false_eq_true,if_false]
     exact rest
structure SetTup (prog:Program) (w:World) (h:Heap) (S:Addr) (es:Array (Int × Value)):Prop where
 tab:∃ep t,h.get? S=some (dC es ep t)/\TabOk t es.size/\KT t.mask es.size/\t.led = !cT w/\t.plain=true
 els:UC prog w h es
theorem jH {h h':Heap} {ks:List Int} {S b:Addr} {es:Array (Int × Value)} {ep:Nat} {t:SetTable} (hS:h.get? S=some (dC es ep t)) (up:∀b o,b≠S->h.get? b=some o->h'.get? b=some o) (hk:IsTupleKey (intKind prog w) h ks b):IsTupleKey (intKind prog w) h' ks b:=by
 obtain⟨o,items,n,ho,hc,hd,hi⟩:=hk
 refine⟨o,items,n,up b o ?_ ho,hc,hd,hi⟩
 rintro rfl
 rw[hS] at ho;cases ho
 exact nomatch hd
theorem AS {n:Nat} (h:n<100):SetTable.grown n=n*4:=by
 unfold SetTable.grown;rw[if_neg (by omega)]
theorem FG {S a:Addr} {ks:List Int} {es:Array (Int × Value)} {Q:Bool->Shared->Prop} (hu:A.units<cLine) (H:SetTup prog w s.heap S es) (hk:IsTupleKey (intKind prog w) s.heap ks a) (hn:es.size<76)
  (q:∀b h' tk es',SetTup prog w h' S es'->(∀y∈es'.toList,y∈es.toList\/y.2 = .ref a)->(∀y∈es.toList,y∈es'.toList)->(∃y∈es'.toList,∃b,y.2 = .ref b/\IsTupleKey (intKind prog w) h' ks b)->es'.size<=es.size+1 ->
   (∀b o,b≠S->s.heap.get? b=some o->h'.get? b=some o)->h'.objs.size=s.heap.objs.size->s.toks<=tk->Q b { s with heap:=h',toks:=tk }) :
  wpAny (model prog w) A (setAdd S (.ref a)) Q E s:=by
 obtain⟨⟨ep,t,ho,T,hf,hled,hpl⟩,hels⟩:=H
 unfold setAdd
 refine wpAny_holding (wpAny_bind (wpAny_pyHash_tuple hu hk ?_))
 unfold setAddHashed
 refine wpAny_holding ?_
 unfold setAddHashedIn
 refine wpAny_bind (wpAny_setState_of (s:={ s with toks:=s.toks+(ks.length+1) }) ho rfl T.fits ?_)
 dsimp only
 have nb:byScan (.ref a) es=false:=by unfold byScan;simp[Value.scannable]
 rw[nb]
 simp only[Bool.false_eq_true,if_false]
 obtain⟨m,hi,hm⟩:=KJ T (tupleKeyHash (intKind prog w) ks)
 have hm2:rM (t.probeStart (tupleKeyHash (intKind prog w) ks)) m<100000:=by
  refine Nat.lt_of_lt_of_le hm ?_
  unfold turns
  rcases hf with ⟨e,_⟩ | ⟨e,_⟩ | ⟨e,_⟩ <;> rw[e] <;> decide
 unfold setSearch
 refine wpAny_bind (xC (s:={ s with toks:=s.toks+(ks.length+1) }) hu ho T hf hels hk ?_ ?_ 100000 none m hi hm hm2)
 ·rintro⟨e,he,b,e2,hb⟩
  dsimp only
  refine wpAny_pure ?_
  exact q false s.heap _ es ⟨⟨ep,t,ho,T,hf,hled,hpl⟩,hels⟩ (λy hy=>Or.inl hy) (λy hy=>hy) ⟨e,he,b,e2,hb⟩ (by omega) (λb o _ e=>e) rfl (by show s.toks<=s.toks+_;omega)
 ·intro j hj
  dsimp only
  refine wpAny_bind (wpAny_setState_of (s:={ s with toks:=s.toks+(ks.length+1) }) ho rfl T.fits ?_)
  dsimp only
  have room:es.size+1<=t.mask:=by rcases hf with ⟨e,h⟩ | ⟨e,h⟩ | ⟨e,h⟩ <;> omega
  obtain⟨T1,p1,p2,p3,p4,p5,p6⟩:=WH T hj room
  rw[p5,hpl]
  simp only[if_true]
  refine wpAny_bind (FI (s:={ s with toks:=s.toks+(ks.length+1) }) hk ?_)
  simp only[if_true]
  rw[p1]
  have sz:=mJ es (below t.place j) (tupleKeyHash (intKind prog w) ks,Value.ref a) p2
  have mem:=yL es (below t.place j) (tupleKeyHash (intKind prog w) ks,Value.ref a) p2
  generalize insertAt es (below t.place j) (tupleKeyHash (intKind prog w) ks,Value.ref a)=es1 at sz mem
  refine wpAny_bind (wpAny_storeSet_of (s:={ s with toks:=s.toks+(ks.length+1) }) ho rfl ?_ (by rw[sz,sizeLine_eq];omega))
  have up1:∀b o,b≠S->s.heap.get? b=some o->(s.heap.update S (Obj.putSet es1 (t.put j).1)).get? b=some o:=λb o hb e=>(Heap.get?_update_other _ _ (Ne.symm hb)).trans e
  obtain⟨ep1,g1⟩:∃ep1,(s.heap.update S (Obj.putSet es1 (t.put j).1)).get? S=some (dC es1 ep1 (t.put j).1):=⟨_,Heap.get?_update_self _ ho rfl⟩
  have z1:(s.heap.update S (Obj.putSet es1 (t.put j).1)).objs.size=s.heap.objs.size:=(Heap.SameBut.update ..).1
  generalize s.heap.update S (Obj.putSet es1 (t.put j).1)=h1 at up1 g1 z1
  have els1:UC prog w h1 es1:=by
   intro e he
   rcases (mem e).mp he with rfl | he
   ·exact⟨ks,a,rfl,jH ho up1 hk⟩
   ·obtain⟨ks',b,r1,r2⟩:=hels e he
    exact⟨ks',b,r1,jH ho up1 r2⟩
  have T1':TabOk (t.put j).1 es1.size:=by rw[sz];exact T1
  have fill1:(t.put j).1.fill=es1.size:=by unfold fill;rw[T1'.size,T1'.dum];simp
  by_cases tf:(t.put j).1.tooFull=true
  ·rw[tf]
   simp only[Bool.not_false,Bool.and_self,if_true]
   have tf':=tf
   unfold tooFull at tf'
   rw[fill1,p3,sz] at tf'
   simp only[ge_iff_le,decide_eq_true_eq] at tf'
   have cases2:(t.mask=7/\es.size=4)\/(t.mask=31/\es.size=18):=by rcases hf with ⟨e,h⟩ | ⟨e,h⟩ | ⟨e,h⟩ <;> omega
   unfold setRelay
   refine wpAny_bind (wpAny_bind (wpAny_setState_of (s:={ s with heap:=h1,toks:=s.toks+(ks.length+1) }) g1 rfl T1'.fits ?_))
   dsimp only
   have hw:SetTable.sizeAbove (grown (es.size+1))=(if t.mask=7 then 32 else 128):=by
    rw[AS (by omega)]
    rcases cases2 with ⟨e,h⟩ | ⟨e,h⟩ <;> rw[e,h] <;> decide
   rw[if_neg (by rw[hw,sizeLine_eq];split <;> decide)]
   have R:Round ((if t.mask=7 then 31 else 127)+1):=by
    split
    ·exact SH
    ·exact OL
   obtain⟨t2,order,l1,T2,l3,l4,l5,l6⟩:=QL R (t.put j).1.finger ((t.put j).1.movedTo (if t.mask=7 then 31 else 127)) (t.put j).1.led (t.put j).1.plain (es1.map (·.1)) (by rw[Array.size_map,sz];rcases cases2 with ⟨e,h⟩ | ⟨e,h⟩ <;> rw[e,h] <;> decide)
   have er:(t.put j).1.relaid (es1.map (·.1)) (grown (es.size+1))=some (t2,order):=by
    unfold relaid
    rw[hw]
    have:(if t.mask=7 then 32 else 128)-1=(if t.mask=7 then 31 else 127):=by split <;> rfl
    rw[this];exact l1
   rw[er]
   rw[Array.size_map] at T2 l6
   have esl:(order.filterMap (es1[·]?)).toList.Perm es1.toList:=by
    rw[Array.toList_filterMap]
    refine (l6.filterMap _).trans ?_
    have:(List.range es1.size).filterMap (es1[·]?)=es1.toList:=by
     apply List.ext_getElem?
     intro i
     have key:∀n,n<=es1.size->(List.range n).filterMap (es1[·]?)=es1.toList.take n:=by
      intro n
      induction n with
      | zero=>intro _;rfl
      | succ n ih =>
       intro hn
       rw[List.range_succ,List.filterMap_append,ih (by omega)]
       have:es1[n]? = some es1[n]:=Array.getElem?_eq_getElem (by omega)
       simp only[List.filterMap_cons,this,List.filterMap_nil]
       rw[List.take_succ]
       simp[show n<es1.size by omega]
     rw[key _ (Nat.le_refl _),<-Array.length_toList,List.take_length]
    rw[this]
   have es2sz:(order.filterMap (es1[·]?)).size=es1.size:=by rw[<-Array.length_toList,esl.length_eq,Array.length_toList]
   have hne:((order.filterMap (es1[·]?)).size != es1.size)=false:=by rw[es2sz];simp
   refine wpAny_bind ?_
   show wpAny _ _ (if ((order.filterMap (es1[·]?)).size != es1.size)=true then (unsupported "internal:set-table-lost-an-element" >>= λ_=>pure (order.filterMap (es1[·]?),t2)) else pure (order.filterMap (es1[·]?),t2)) _ _ _
   rw[hne]
   simp only[Bool.false_eq_true,if_false]
   refine wpAny_pure ?_
   dsimp only
   have mem2:∀y,y∈(order.filterMap (es1[·]?)).toList↔y∈es1.toList:=λy=>esl.mem_iff
   generalize order.filterMap (es1[·]?)=es2 at es2sz mem2
   refine wpAny_storeSet_of (s:={ s with heap:=h1,toks:=s.toks+(ks.length+1) }) g1 rfl ?_ (by rw[es2sz,sz,sizeLine_eq];omega)
   have up2:∀b o,b≠S->s.heap.get? b=some o->(h1.update S (Obj.putSet es2 t2)).get? b=some o:=λb o hb e=>(Heap.get?_update_other _ _ (Ne.symm hb)).trans (up1 b o hb e)
   have up12:∀b o,b≠S->h1.get? b=some o->(h1.update S (Obj.putSet es2 t2)).get? b=some o:=λb o hb e=>(Heap.get?_update_other _ _ (Ne.symm hb)).trans e
   obtain⟨ep2,g2⟩:∃ep2,(h1.update S (Obj.putSet es2 t2)).get? S=some (dC es2 ep2 t2):=⟨_,Heap.get?_update_self _ g1 rfl⟩
   have z2:(h1.update S (Obj.putSet es2 t2)).objs.size=s.heap.objs.size:=((Heap.SameBut.update ..).1).trans z1
   refine wpAny_pure (q true (h1.update S (Obj.putSet es2 t2)) _ es2 ⟨⟨ep2,t2,g2,by rw[es2sz];exact T2,?_,by rw[l4,p4];exact hled,by rw[l5,p5];exact hpl⟩,?_⟩ (λy hy=>?_) (λy hy=>(mem2 y).mpr ((mem y).mpr (Or.inr hy))) ⟨_,(mem2 _).mpr ((mem _).mpr (Or.inl rfl)),a,rfl,jH ho up2 hk⟩ (by omega) up2 z2 (by show s.toks<=s.toks+_;omega))
   ·rw[l3,es2sz,sz]
    unfold KT
    rcases cases2 with ⟨e,h⟩ | ⟨e,h⟩ <;> rw[e,h] <;> decide
   ·intro e he
    obtain⟨ks',b,r1,r2⟩:=els1 e ((mem2 e).mp he)
    exact⟨ks',b,r1,jH g1 up12 r2⟩
   ·rcases (mem y).mp ((mem2 y).mp hy) with rfl | h
    ·exact Or.inr rfl
    ·exact Or.inl h
  ·have tf0:(t.put j).1.tooFull=false:=by simpa using tf
   rw[tf0]
   simp only[Bool.and_false,Bool.false_eq_true,if_false]
   refine wpAny_pure (q true h1 _ es1 ⟨⟨ep1,_,g1,T1',?_,by rw[p4];exact hled,by rw[p5];exact hpl⟩,els1⟩ (λy hy=>?_) (λy hy=>(mem y).mpr (Or.inr hy)) ⟨_,(mem _).mpr (Or.inl rfl),a,rfl,jH ho up1 hk⟩ (by omega) up1 z1 (by show s.toks<=s.toks+_;omega))
   ·unfold tooFull at tf0
    rw[fill1,p3,sz] at tf0
    simp only[ge_iff_le,decide_eq_false_iff_not] at tf0
    rw[p3,sz]
    unfold KT
    rcases hf with ⟨e,h⟩ | ⟨e,h⟩ | ⟨e,h⟩ <;> omega
   ·rcases (mem y).mp hy with rfl | h
    ·exact Or.inr rfl
    ·exact Or.inl h
end
end L2.R2
set_option Elab.async false
set_option linter.all false
set_option maxRecDepth 100000
set_option maxHeartbeats 3200000
namespace L2.R2
open PySem PySem.SetTable PyProof.Rows
section
variable {prog:Program} {w:World} {A:Around} {E:Value->Shared->Prop} {s:Shared}
theorem SetTup.other {h h':Heap} {S:Addr} {es:Array (Int × Value)} (H:SetTup prog w h S es) (up:∀b o,h.get? b=some o->(∃e∈es.toList,e.2 = .ref b)\/b=S->h'.get? b=some o):SetTup prog w h' S es:=by
 obtain⟨⟨ep,t,ho,r⟩,els⟩:=H
 refine⟨⟨ep,t,up _ _ ho (Or.inr rfl),r⟩,λe he=>?_⟩
 obtain⟨ks,b,e1,o,items,n,h1,h2,h3,h4⟩:=els e he
 exact⟨ks,b,e1,o,items,n,up b o h1 (Or.inl ⟨e,he,by rw[e1]⟩),h2,h3,h4⟩
structure SetDone (prog:Program) (w:World) (items:Array Value) (key:Nat->List Int) (S:Addr) (i:Nat) (h:Heap):Prop where
 ex:∃es,SetTup prog w h S es/\(∀y∈es.toList,∃j,j<i/\items[j]? = some y.2)/\(∀j,j<i->∃y∈es.toList,∃b,y.2 = .ref b/\IsTupleKey (intKind prog w) h (key j) b)/\es.size<=i
theorem OQ {R:Result->Shared->Prop} {I l:Addr} {items:Array Value} {key:Nat->List Int} {h0:Heap} (hh:A.in1.handled=none) (hne:l≠I) (hu:A.in1.units<cLine) (S:Addr) (hSI:S≠I) (hSl:S≠l)
  (hi:∀i v,items[i]? = some v->∃a,v = .ref a/\IsTupleKey (intKind prog w) h0 (key i) a/\a≠S/\a≠I) (hb:items.size<=76) :
  ∀(k i:Nat) (s:Shared),items.size-i=k->i<=items.size->s.heap.IsListIter I l i/\s.heap.IsList l items->SetDone prog w items key S i s.heap ->
   (∀b o,b≠S->b≠I->h0.get? b=some o->s.heap.get? b=some o) ->
   (∀h' tk,SetDone prog w items key S items.size h'->(∀b o,b≠S->b≠I->h0.get? b=some o->h'.get? b=some o)->R (.ok (.ret .none)) { s with heap:=h',toks:=tk }) ->
   codeAny (model prog w) A (.builtin "set.update.loop" ⟨[.ref S,.ref I],[]⟩) R s:=by
 have W:=Walks.list (prog:=prog) (w:=w) (A:=A.in1) hh I l hne items
 have wr:∀{b:Addr},b≠I->b ∉ [I]:=λh=>by simpa using h
 have keyAt:∀{h:Heap} {i:Nat} {a:Addr},(∀b o,b≠S->b≠I->h0.get? b=some o->h.get? b=some o)->IsTupleKey (intKind prog w) h0 (key i) a->a≠S->a≠I->IsTupleKey (intKind prog w) h (key i) a:=by
  intro h i a up hk n1 n2
  obtain⟨o,its,n,h1,h2,h3,h4⟩:=hk
  exact⟨o,its,n,up a o n1 n2 h1,h2,h3,h4⟩
 have move:∀{h h':Heap} {i:Nat},i<=items.size->SetDone prog w items key S i h->(∀b o,b≠I->h.get? b=some o->h'.get? b=some o)->SetDone prog w items key S i h':=by
  intro h h' i hi' ⟨es,D,d1,d2,d3⟩ up
  refine⟨es,D.other λb o e hm=>up b o ?_ e,d1,λj hj=>?_,d3⟩
  ·rcases hm with ⟨y,hy,ey⟩ | rfl
   ·obtain⟨j,hj,ej⟩:=d1 y hy
    obtain⟨a,ea,_,_,na⟩:=hi j y.2 ej
    rw[ey] at ea;cases ea;exact na
   ·exact hSI
  ·obtain⟨y,hy,b,e1,o,its,n,h1,h2,h3,h4⟩:=d2 j hj
   refine⟨y,hy,b,e1,o,its,n,up b o ?_ h1,h2,h3,h4⟩
   obtain⟨j',hj',ej⟩:=d1 y hy
   obtain⟨a,ea,_,_,na⟩:=hi j' y.2 ej
   rw[e1] at ea;cases ea;exact na
 intro k
 induction k with
 | zero =>
  intro i s hk hi' st D up hR
  have hin:i=items.size:=by omega
  subst hin
  refine codeAny_builtin F.entry_set_update_loop ?_
  rw[Around.under_plainId F.plain_set_update_loop _]
  show wpAny _ A.in1 (pyNext (.ref I) >>= _) _ _ s
  refine wpAny_bind (W.done s _ _ st λh' tk kp=>?_)
  show wpAny _ A.in1 (ret Value.none) _ _ _
  exact wpAny_pure (hR h' tk (move (Nat.le_refl _) D λb o hb e=>kp b o (wr hb) e) λb o n1 n2 e=>kp b o (wr n2) (up b o n1 n2 e))
 | succ k ih =>
  intro i s hk hi' st D up hR
  have hlt:i<items.size:=by omega
  refine codeAny_builtin F.entry_set_update_loop ?_
  rw[Around.under_plainId F.plain_set_update_loop _]
  show wpAny _ A.in1 (pyNext (.ref I) >>= _) _ _ s
  refine wpAny_bind (W.item i s _ _ hlt st λv h' tk hv st' kp=>?_)
  obtain⟨a,rfl,hka,na1,na2⟩:=hi i v hv
  obtain⟨es,D1,d1,d2,d3⟩:=move hi' D (λb o hb e=>kp b o (wr hb) e)
  have up':∀b o,b≠S->b≠I->h0.get? b=some o->h'.get? b=some o:=λb o n1 n2 e=>kp b o (wr n2) (up b o n1 n2 e)
  show wpAny _ A.in1 (holding [Value.ref a] (setAdd S (.ref a)) >>= _) _ _ _
  refine wpAny_bind (wpAny_holding ?_)
  refine FG (s:={ s with heap:=h',toks:=tk }) hu D1 (keyAt up' hka na1 na2) (by omega) λ_ h2 tk2 es2 D2 m1 m2 m3 m4 up2 z2 _=>?_
  refine wpAny_pure ⟨plainId_quiet F.plain_set_update_loop _,ih (i+1) _ (by omega) hlt ⟨st'.1.at λo e=>up2 _ o (Ne.symm hSI) e,st'.2.at λo e=>up2 _ o (Ne.symm hSl) e⟩ ?_ (λb o n1 n2 e=>up2 b o n1 (up' b o n1 n2 e)) λh3 tk3 D3 up3=>hR h3 tk3 D3 up3⟩
  refine⟨es2,D2,λy hy=>?_,λj hj=>?_,by omega⟩
  ·rcases m1 y hy with h | h
   ·obtain⟨j,hj,ej⟩:=d1 y h
    exact⟨j,by omega,ej⟩
   ·exact⟨i,by omega,by rw[h];exact hv⟩
  ·by_cases hji:j=i
   ·subst hji;exact m3
   ·obtain⟨y,hy,b,e1,o,its,n,h1,h2',h3,h4⟩:=d2 j (by omega)
    refine⟨y,m2 y hy,b,e1,o,its,n,up2 b o ?_ h1,h2',h3,h4⟩
    obtain⟨j',hj',ej⟩:=d1 y hy
    obtain⟨a',ea,_,na,_⟩:=hi j' y.2 ej
    rw[e1] at ea;cases ea;exact na
theorem CJ (a:Value) {Q₁:Value->Shared->Prop} (h:Q₁ (.ref s.heap.objs.size) { s with heap:=s.heap.push (dC #[] 0 (.fresh 0 0 (!cT w))) }) :
  codeAny (model prog w) A (.call (.builtin "set.__new__") ⟨[.type "set",a],[]⟩) (wants Q₁ E) s:=by
 apply codeAny_of_tree
 show wpAny _ A.in1 (checkBuiltinCall "set.__new__" ⟨[.type "set",a],[]⟩ >>= λ_=>again (.builtin "set.__new__" ⟨[.type "set",a],[]⟩)) _ _ s
 apply wpAny_bind;refine wpAny_of_eq (PySem.F.newCall_set_1 a) (wpAny_pure ⟨plainId_quiet PySem.F.plain_set_new _,codeAny_builtin PySem.F.entry_set_new ?_⟩)
 rw[Around.under_plainId PySem.F.plain_set_new _];unfold Builtin.«set.__new__» Builtin.Frozenset.newClass
 have hsub:=sub_set_self
 obtain⟨hp,g,d,tk,os⟩:=s;dsimp only;wp_walk
 refine wpAny_askSetting (wpAny_pure ?_);dsimp only;simp only[newObj]
 apply wpAny_bind;refine wpAny_alloc (wpAny_pure ?_)
 exact wpAny_pure h
theorem KM (b:Bool):TabOk (.fresh 0 0 b) 0:=⟨rfl,rfl,Nat.zero_le _,WR,List.Pairwise.nil⟩
noncomputable def BD (l:Addr):Obj:={ cls:=.type "list_iterator",data:=.fields #[.ref l,.int 0 0] }
theorem vJ {l:Addr} {items:Array Value} {key:Nat->List Int} {Q:Value->Shared->Prop} (hh:A.handled=none) (hu:A.units+8<cLine) (hl:s.heap.IsList l items)
  (hi:∀i v,items[i]? = some v->∃a,v = .ref a/\IsTupleKey (intKind prog w) s.heap (key i) a) (hb:items.size<=76)
  (q:∀h' tk,SetDone prog w items key s.heap.objs.size items.size h'->(∀b o,s.heap.get? b=some o->h'.get? b=some o)->Q (.ref s.heap.objs.size) { s with heap:=h',toks:=tk }) :
  wpAny (model prog w) A (call (.type "set") [.ref l]) Q E s:=by
 obtain⟨c,tl,hmro⟩:=PySem.F.called_set.mro
 have hmade:=PySem.F.called_set.made;have hsub:=PySem.F.called_set.sub
 apply wpAny_call;apply codeAny_of_tree
 show wpAny _ _ (callAny (.type "set") _) _ _ _
 refine wpAny_pure ⟨Code.quiet_builtin _ (by decide +kernel),codeAny_builtin PySem.F.entry_type_call ?_⟩;rw[Around.under_plain (weight_type_call_type "set" [.ref l] []) rfl]
 have h1:=PySem.F.called_set.notType;have h2:=PySem.F.called_set.canCreate;have hct:=PySem.F.typeCall_set_1 (.ref l)
 repeat (any_goals (first | assumption | wp_step))
 refine codeAny_mono (CJ (.ref l) (E:=E) (Q₁:=λobj s₁=>obj = .ref s.heap.objs.size/\s₁ = { s with heap:=s.heap.push (dC #[] 0 (.fresh 0 0 (!cT w))) }) ⟨rfl,rfl⟩) λr s₁ hr=>?_
 match r,hr with
 | .error e,hr=>exact hr
 | .ok (.ret obj),hr =>
  obtain⟨rfl,rfl⟩:=hr
  have hS:(s.heap.push (dC #[] 0 (.fresh 0 0 (!cT w)))).get? s.heap.objs.size=some (dC #[] 0 (.fresh 0 0 (!cT w))):=Heap.get?_push_size _ rfl
  have zS:(s.heap.push (dC #[] 0 (.fresh 0 0 (!cT w)))).objs.size=s.heap.objs.size+1:=Heap.size_push ..
  have kS:∀b o,s.heap.get? b=some o->(s.heap.push (dC #[] 0 (.fresh 0 0 (!cT w)))).get? b=some o:=λb o e=>Heap.get?_push_of_some _ e
  have hT:Shared.TypeIs { s with heap:=s.heap.push (dC #[] 0 (.fresh 0 0 (!cT w))) } (.ref s.heap.objs.size) "set":=⟨_,hS,rfl⟩
  have hli:=PySem.F.called_set.init.lookup;have hbi:=PySem.F.called_set.init.bind (.ref s.heap.objs.size)
  repeat (any_goals (first | assumption | wp_step))
  generalize s.heap.push (dC #[] 0 (.fresh 0 0 (!cT w)))=h2 at hS zS kS hT
  refine codeAny_mono (codeAny_call_builtin (R:=wants (λr s₂=>r = .none/\∃h' tk,s₂ = { s with heap:=h',toks:=tk }/\SetDone prog w items key s.heap.objs.size items.size h'/\(∀b o,s.heap.get? b=some o->h'.get? b=some o)) E) PySem.F.called_set.init.plain PySem.F.entry_set_init (check_set_init_1 hT ?_)) λr₂ s₂ hr₂=>?_
  ·obtain⟨ol,hol,hcl,nl,hdl⟩:=hl
   obtain⟨ocls,odict,odata,oslots⟩:=ol
   simp only at hcl hdl;subst hcl;subst hdl
   have hol2:=kS _ _ hol
   have hsls:=PySem.F.sub_list_set;have hslf:=PySem.F.sub_list_frozenset
   have hne:(Value.type "list" == Value.type "dict")=false:=by decide
   have hl1:h2.IsList l items:=⟨_,hol2,rfl,nl,rfl⟩
   have lt:l<s.heap.objs.size:=Heap.lt_size hol
   unfold Builtin.«set.__init__» noKeywords Builtin.Frozenset.updateFrom;generalize hPI:pyIter=PI
   unfold dC at hS
   wp_walk
   subst hPI
   refine wpAny_pyIter_list hl1 ?_
   apply wpAny_bind;apply wpAny_runValue;rw[zS]
   have zI:(h2.push (BD l)).get? (s.heap.objs.size+1)=some (BD l):=by rw[<-zS];exact Heap.get?_push_size _ rfl
   have kI:∀b o,h2.get? b=some o->(h2.push (BD l)).get? b=some o:=λb o e=>Heap.get?_push_of_some _ e
   show codeAny _ _ _ _ { s with heap:=h2.push (BD l) }
   generalize h2.push (BD l)=h3 at zI kI
   have ne1:∀{b:Addr} {o:Obj},s.heap.get? b=some o->b≠s.heap.objs.size/\b≠s.heap.objs.size+1:=λe=>⟨Nat.ne_of_lt (Heap.lt_size e),Nat.ne_of_lt (Nat.lt_succ_of_lt (Heap.lt_size e))⟩
   refine OQ (A:=A.in1.in1) (s:={ s with heap:=h3 }) (key:=key) (h0:=s.heap) (by simp[hh]) (Nat.ne_of_lt (Nat.lt_succ_of_lt lt)) (by show A.units+3<cLine;omega) s.heap.objs.size (Nat.ne_of_lt (Nat.lt_succ_self _)) (Nat.ne_of_gt lt) (λi v e=>?_) hb items.size 0 (Nat.sub_zero _) (Nat.zero_le _) ⟨⟨_,zI,rfl,rfl⟩,hl1.at λo e=>kI _ o e⟩ ?_ (λb o _ _ e=>kI b o (kS b o e)) λh' tk D up=>?_
   ·obtain⟨a,rfl,hk⟩:=hi i v e
    refine⟨a,rfl,hk,?_⟩
    obtain⟨o,_,_,ho,_⟩:=hk
    exact ne1 ho
   ·exact⟨#[],⟨⟨0,_,kI _ _ hS,KM _,Or.inl ⟨rfl,Nat.zero_le _⟩,rfl,rfl⟩,λe he=>by simp at he⟩,λy hy=>by simp at hy,λj hj=>absurd hj (Nat.not_lt_zero _),Nat.zero_le _⟩
   ·show wpAny _ _ _ _ _ _
    apply wpAny_pure
    show wpAny _ _ (ret Value.none) _ _ _
    exact wpAny_pure ⟨rfl,h',tk,rfl,D,λb o e=>up b o (ne1 e).1 (ne1 e).2 e⟩
  ·match r₂,hr₂ with
   | .error e,hr₂=>exact hr₂
   | .ok (.ret r),hr₂ =>
    obtain⟨rfl,h',tk,rfl,D,up⟩:=hr₂
    repeat (any_goals (first | assumption | wp_step))
    exact q _ _ D up
end
theorem HB {α:Type} (next:Nat->Nat):∀(fuel k:Nat) (left:List α) (out:Array α),left.length<=fuel->(pickOrder.go next fuel k left out).toList.Perm (out.toList++left)
 | 0,k,left,out,h=>by
  have:left=[]:=List.eq_nil_of_length_eq_zero (by omega)
  subst this
  simp[pickOrder.go]
 | fuel+1,k,left,out,h=>by
  unfold pickOrder.go
  cases e:left[next k % left.length]? with
  | none =>
   dsimp only
   have:left=[]:=by
    cases left with
    | nil=>rfl
    | cons x r =>
     have:=List.getElem?_eq_none_iff.mp e
     have:=Nat.mod_lt (next k) (show 0<(x::r).length by simp)
     omega
   subst this;simp
  | some x =>
   dsimp only
   have hi:next k % left.length<left.length:=(List.getElem?_eq_some_iff.mp e).1
   refine (HB next fuel (k+1) (left.eraseIdx (next k % left.length)) (out.push x) (by rw[List.length_eraseIdx_of_lt hi];omega)).trans ?_
   rw[Array.toList_push,List.append_assoc]
   refine List.Perm.append_left _ ?_
   have ex:left[next k % left.length]=x:=(List.getElem?_eq_some_iff.mp e).2
   have el:left=left.take (next k % left.length)++x::left.drop (next k % left.length+1):=by
    rw[<-ex,<-List.drop_eq_getElem_cons hi,List.take_append_drop]
   rw[List.eraseIdx_eq_take_drop_succ]
   conv=>rhs;rw[el]
   rw[List.singleton_append];exact (List.perm_middle (a:=x)).symm
theorem JY {α:Type} (next:Nat->Nat) (xs:Array α):(pickOrder next xs).toList.Perm xs.toList:=by
 have:=HB next xs.size 0 xs.toList #[] (by simp)
 simpa [pickOrder] using this
theorem NT:Manifest.owners.lookup (String.ofList ['r','o','t','a','r','e','t','i','_','t','e','s'].reverse)=some Manifest.sig_set_iterator:=by kernel_rfl
theorem fD:Slot "set_iterator" "__next__" "set_iterator.__next__" :=
 .of (owner:="set_iterator") (n:="__next__") (by rw[typeLookup_type,builtinLookup_eq_fast];kernel_rfl) (by decide +kernel) (by decide +kernel) (by decide +kernel) (by first | exact .inl (by decide +kernel) | exact .inr (by decide +kernel)) (by rw[isSubtype_type];kernel_rfl)
theorem mH:entryFor table "set_iterator.__next__" = some Builtin.«set_iterator.__next__»:=entryFor_of_tree (by kernel_rfl)
theorem nY (a:Value):argsOk "set_iterator.__next__" ⟨[a],[]⟩:=by
 unfold argsOk;rw[signature?_of (id:="set_iterator.__next__") (n:=['_','_','t','x','e','n','_','_']) (o:=['r','o','t','a','r','e','t','i','_','t','e','s']) (by kernel_rfl) NT];kernel_rfl
theorem yE:entryFor table "set.__iter__" = some Builtin.«frozenset.__iter__»:=entryFor_alias (id':="frozenset.__iter__") (by kernel_rfl) rfl (by decide +kernel) (by kernel_rfl)
section
variable {prog:Program} {w:World} {A:Around} {E:Value->Shared->Prop} {s:Shared}
noncomputable def cE (w:World) (S:Addr) (ep:Nat) (es:Array (Int × Value)):Array (Int × Value):=if cT w=true then pickOrder (w.params.setOrder S ep) es else es
theorem qM (S:Addr) (ep:Nat) (es:Array (Int × Value)):(cE w S ep es).toList.Perm es.toList:=by
 unfold cE;split
 ·exact JY _ _
 ·exact List.Perm.refl _
noncomputable def hV (w:World) (t:SetTable) (k:Nat):Nat:=if cT w=true then 0 else gI t k
noncomputable def jA (w:World) (S:Addr) (n ep:Nat) (t:SetTable) (k:Nat):Obj:={ cls:=.type "set_iterator",data:=.fields #[rawInt (hV w t k),rawInt k,.ref S,rawInt n,rawInt ep] }
theorem CK {S:Addr} {es:Array (Int × Value)} {ep k:Nat} {t:SetTable} {Q:Option (Value × Nat)->Shared->Prop} (ho:s.heap.get? S=some (dC es ep t)) (T:TabOk t es.size) (hl:t.led = !cT w) (hp:t.plain=true) (hk:k<=es.size)
  (q:Q ((cE w S ep es)[k]?.map λe=>(e.2,hV w t (k+1))) s):wpAny (model prog w) A (setNext S (hV w t k) k ep) Q E s:=by
 unfold setNext
 apply wpAny_bind;refine wpAny_setState_of ho rfl T.fits ?_
 unfold setsByText
 apply wpAny_bind;apply wpAny_bind;refine wpAny_askSetting (wpAny_pure ?_)
 show wpAny _ _ (if cT w=true then _ else _) _ _ _
 by_cases hb:cT w=true
 ·rw[if_pos hb,if_neg (by simp)]
  apply wpAny_bind;unfold setWalk
  apply wpAny_bind;refine wpAny_setState_of ho rfl T.fits ?_
  unfold setsByText
  apply wpAny_bind;apply wpAny_bind;refine wpAny_askSetting (wpAny_pure ?_)
  show wpAny _ _ (if cT w=true then _ else _) _ _ _
  rw[if_pos hb]
  apply wpAny_bind;refine wpAny_askSetting (wpAny_pure (wpAny_pure ?_))
  unfold cE hV at q
  simp only[if_pos hb] at q
  unfold hV
  simp only[if_pos hb]
  exact q
 ·have hb0:cT w=false:=by simpa using hb
  rw[if_neg hb]
  show wpAny _ _ (if (!t.plain && decide (es.size > 1))=true then _ else _) _ _ _
  rw[hp]
  simp only[Bool.not_true,Bool.false_and,Bool.false_eq_true,if_false]
  show wpAny _ _ ((if (!t.led && !es.isEmpty)=true then unsupported "set:maker-not-led" else pure ()) >>= _) _ _ _
  rw[hl,hb0]
  simp only[Bool.not_false,Bool.not_true,Bool.false_and,Bool.false_eq_true,if_false]
  apply wpAny_bind;apply wpAny_pure;apply wpAny_pure
  have np:=EU T hk
  unfold cE hV at q
  simp only[if_neg hb] at q
  unfold hV
  simp only[if_neg hb]
  rw[np]
  by_cases hlt:k<es.size
  ·have e1:es[k]? = some es[k]:=Array.getElem?_eq_getElem hlt
   have e2:t.place[k]? = some (t.place.getD k 0):=by
    have:k<t.place.size:=by rw[T.size];exact hlt
    rw[Array.getElem?_eq_getElem this];simp[Array.getD,this]
   rw[e1] at q
   rw[e1,e2]
   have e3:gI t (k+1)=t.place.getD k 0+1:=by unfold gI;rw[if_neg (by omega)];simp
   rw[e3] at q
   exact q
  ·have e1:es[k]? = none:=Array.getElem?_eq_none (by omega)
   rw[e1] at q
   rw[e1]
   exact q
theorem lR {I:Addr} {c:Value} {d:Option Addr} {sl:Array (Option Value)} {vs:Array Value} {i:Nat} {x:Value} {Q:Unit->Shared->Prop} (ho:s.heap.get? I=some { cls:=c,dict:=d,data:=.fields vs,slots:=sl }) (hi:i<vs.size)
  (q:∀h',h'.get? I=some { cls:=c,dict:=d,data:=.fields (vs.setIfInBounds i x),slots:=sl }->Heap.SameBut I s.heap h'->Q () { s with heap:=h' }):wpAny (model prog w) A (setField (.ref I) i x) Q E s:=by
 refine wpAny_setField ho rfl hi (q _ ?_ (Heap.SameBut.update ..))
 have:=Heap.get?_update_self (Obj.mapFields λvs=>vs.setIfInBounds i x) ho rfl
 rw[this];rfl
structure SetIt (w:World) (S I:Addr) (es:Array (Int × Value)) (ep:Nat) (t:SetTable) (k:Nat) (h:Heap):Prop where
 set:h.get? S=some (dC es ep t)
 it:h.get? I=some (jA w S es.size ep t k)
theorem JP {S I:Addr} {es:Array (Int × Value)} {ep k:Nat} {t:SetTable} {x:Int × Value} {Q:Option Value->Shared->Prop} (D:SetIt w S I es ep t k s.heap) (ne:S≠I) (T:TabOk t es.size) (hl:t.led = !cT w) (hp:t.plain=true) (hk:k<es.size) (hx:(cE w S ep es)[k]? = some x)
  (q:∀h',SetIt w S I es ep t (k+1) h'->Heap.SameBut I s.heap h'->Q (some x.2) { s with heap:=h' }):wpAny (model prog w) A (pyNext (.ref I)) Q E s:=by
 have ty:s.TypeIs (.ref I) "set_iterator":=⟨_,D.it,rfl⟩
 unfold pyNext
 apply wpAny_bind;apply wpAny_attempt;refine wpAny_callSpecial?_slot (name:=Str.ofString "__next__") ty fD (wpAny_call_entry fD ty mH ?_ (nY _))
 unfold Builtin.«set_iterator.__next__»
 apply wpAny_bind;refine wpAny_of_eq (a:=(Value.ref I,[])) rfl ?_
 apply wpAny_bind;refine wpAny_fieldsOf D.it rfl ?_
 dsimp only[rawInt]
 apply wpAny_bind;refine wpAny_setEntries_of D.set rfl T.fits ?_
 rw[if_neg (by simp)]
 apply wpAny_bind
 show wpAny _ _ (setNext S ((hV w t k:Nat):Int).toNat ((k:Nat):Int).toNat ((ep:Nat):Int).toNat) _ _ _
 simp only[Int.toNat_natCast]
 refine CK D.set T hl hp (Nat.le_of_lt hk) ?_
 rw[hx]
 dsimp only[Option.map]
 have dit:=D.it;unfold jA at dit
 apply wpAny_bind;refine lR dit (by simp) λh1 g1 s1=>?_
 apply wpAny_bind;refine lR (s:={ s with heap:=h1 }) g1 (by simp) λh2 g2 s2=>?_
 refine wpAny_pure ⟨x.2,rfl,wpAny_pure (q h2 ⟨?_,?_⟩ (s1.trans s2))⟩
 ·rw[s2.2 S ne,s1.2 S ne];exact D.set
 ·rw[g2];rfl
theorem NN {S I:Addr} {es:Array (Int × Value)} {ep:Nat} {t:SetTable} {Q:Option Value->Shared->Prop} (hh:A.handled=none) (D:SetIt w S I es ep t es.size s.heap) (ne:S≠I) (T:TabOk t es.size) (hl:t.led = !cT w) (hp:t.plain=true)
  (q:∀h',Heap.ExtBut I s.heap h'->Q none { s with heap:=h' }):wpAny (model prog w) A (pyNext (.ref I)) Q E s:=by
 have ty:s.TypeIs (.ref I) "set_iterator":=⟨_,D.it,rfl⟩
 have hx:(cE w S ep es)[es.size]? = none:=by
  apply Array.getElem?_eq_none
  rw[<-Array.length_toList,(qM S ep es).length_eq,Array.length_toList];exact Nat.le_refl _
 unfold pyNext
 apply wpAny_bind;apply wpAny_attempt;refine wpAny_callSpecial?_slot (name:=Str.ofString "__next__") ty fD (wpAny_call_entry fD ty mH ?_ (nY _))
 unfold Builtin.«set_iterator.__next__»
 apply wpAny_bind;refine wpAny_of_eq (a:=(Value.ref I,[])) rfl ?_
 apply wpAny_bind;refine wpAny_fieldsOf D.it rfl ?_
 dsimp only[rawInt]
 apply wpAny_bind;refine wpAny_setEntries_of D.set rfl T.fits ?_
 rw[if_neg (by simp)]
 apply wpAny_bind
 show wpAny _ _ (setNext S ((hV w t es.size:Nat):Int).toNat ((es.size:Nat):Int).toNat ((ep:Nat):Int).toNat) _ _ _
 simp only[Int.toNat_natCast]
 refine CK D.set T hl hp (Nat.le_refl _) ?_
 rw[hx]
 dsimp only[Option.map]
 have dit:=D.it;unfold jA at dit
 apply wpAny_bind;refine lR dit (by simp) λh1 g1 s1=>?_
 show wpAny _ _ (newExc (.type "StopIteration") [] >>= _) _ _ _
 apply wpAny_bind;simp only[newExc,newTuple]
 apply wpAny_bind;refine wpAny_newObj_type ?_ (by size_fits)
 refine wpAny_bind (m:=firstArgMember _ _) ?_
 refine wpAny_of_eq (a:=Value.none) (by first | rfl | (simp only[firstArgMember];rfl)) ?_
 refine wpAny_newObj_type ?_ (by size_fits)
 simp only[raiseNew]
 apply wpAny_bind;apply wpAny_handled
 first | rw[show A.in1.handled=none from hh] | rw[hh]
 refine wpAny_bind (wpAny_pure (wpAny_throw ?_))
 apply wpAny_bind;refine wpAny_isInstance (T:="StopIteration") (b:=true) ⟨_,Heap.get?_push_size _ rfl,rfl⟩ isSubtype_stop ?_
 exact wpAny_pure (q _ ((s1.extBut.push _).push _))
theorem NB {S:Addr} {es:Array (Int × Value)} {ep:Nat} {t:SetTable} {Q:Value->Shared->Prop} (ho:s.heap.get? S=some (dC es ep t)) (T:TabOk t es.size) (hp:t.plain=true)
  (q:Q (.ref s.heap.objs.size) { s with heap:=s.heap.push (jA w S es.size ep t 0) }):wpAny (model prog w) A (pyIter (.ref S)) Q E s:=by
 have ty:s.TypeIs (.ref S) "set":=⟨_,ho,rfl⟩
 refine wpAny_pyIter_slot ty F.slot_set_iter (wpAny_call_entry F.slot_set_iter ty yE ?_ (F.args_set_iter_1 _))
 unfold Builtin.«frozenset.__iter__» Builtin.Frozenset.slot0 Builtin.Frozenset.sizeOf
 apply wpAny_bind;refine wpAny_of_eq (a:=S) rfl ?_
 apply wpAny_bind;apply wpAny_bind;refine wpAny_setEntries_of ho rfl T.fits (wpAny_pure ?_)
 apply wpAny_bind;unfold setDrawn
 apply wpAny_bind;refine wpAny_setState_of ho rfl T.fits ?_
 unfold setsByText
 apply wpAny_bind;apply wpAny_bind;refine wpAny_askSetting (wpAny_pure (wpAny_pure ?_))
 have dr:(!(model prog w).w.params.followText "set-order" && (!t.plain && decide (es.size > 1)))=false:=by rw[hp];simp
 show wpAny _ _ (if (!(model prog w).w.params.followText "set-order" && (!t.plain && decide (es.size > 1)))=true then _ else _) _ _ _
 rw[dr]
 simp only[Bool.false_eq_true,if_false]
 apply wpAny_bind;apply wpAny_pure
 apply wpAny_bind;refine wpAny_setEpoch_of ho rfl T.fits ?_
 apply wpAny_bind;unfold newFields;refine wpAny_newObj_type ?_
 have e0:hV w t 0=0:=by unfold hV gI;split <;> rfl
 refine wpAny_pure ⟨_,rfl,"set_iterator",_,⟨_,Heap.get?_push_size _ rfl,rfl⟩,fD.lookup,?_⟩
 unfold jA at q
 rw[e0] at q
 exact q
end
section
variable {prog:Program} {w:World} {A:Around} {E:Value->Shared->Prop} {s:Shared}
theorem OO {S:Addr} {Q:Bool->Shared->Prop} (ty:s.TypeIs (.ref S) "set") (q:Q false s):wpAny (model prog w) A (Builtin.List.listLengthHint (.ref S)) Q E s:=by
 unfold Builtin.List.listLengthHint
 apply wpAny_bind;refine wpAny_specialOf ty F.slot_set_len.lookup ?_
 dsimp only
 have sp:splitId "set.__len__" = some ("set","__len__"):=by decide +kernel
 rw[sp]
 dsimp only
 apply wpAny_bind;refine wpAny_isInstance (b:=true) ty sub_set_self ?_
 simp only[Bool.not_true,Bool.false_eq_true,if_false]
 have key:∀(c:Bool) (X Y:Sem Bool),c=true->wpAny (model prog w) A X Q E s->wpAny (model prog w) A (if c=true then X else Y) Q E s:=λc X Y hc h=>by rw[if_pos hc];exact h
 refine key _ _ _ (by decide +kernel) ?_
 apply wpAny_bind;refine wpAny_typeOf ty ?_
 exact wpAny_pure q
theorem CI {S I:Addr} {es:Array (Int × Value)} {ep k:Nat} {t:SetTable} {h h':Heap} (D:SetIt w S I es ep t k h) (up:∀b o,b=S\/b=I->h.get? b=some o->h'.get? b=some o):SetIt w S I es ep t k h' :=
 ⟨up _ _ (Or.inl rfl) D.set,up _ _ (Or.inr rfl) D.it⟩
theorem zX {S:Addr} {es:Array (Int × Value)} {ep:Nat} {t:SetTable} {Q:List Value->Shared->Prop} (hh:A.handled=none) (ho:s.heap.get? S=some (dC es ep t)) (T:TabOk t es.size) (hl:t.led = !cT w) (hp:t.plain=true) (hz:es.size<=100)
  (q:∀h',(∀b o,s.heap.get? b=some o->h'.get? b=some o)->s.heap.objs.size<=h'.objs.size->Q ((cE w S ep es).toList.map (·.2)) { s with heap:=h' }):wpAny (model prog w) A (collect (.ref S)) Q E s:=by
 have ltS:S<s.heap.objs.size:=Heap.lt_size ho
 have wl:(cE w S ep es).size=es.size:=by rw[<-Array.length_toList,(qM S ep es).length_eq,Array.length_toList]
 unfold collect
 apply wpAny_bind;apply wpAny_runValue;refine codeAny_builtin F.entry_proto_collect ?_
 rw[Around.under_plainId F.plain_proto_collect _]
 show wpAny _ A.in1 (newList [] >>= λl=>again (.builtin "list.__iadd__" ⟨[l,.ref S],[]⟩)) _ _ s
 apply wpAny_bind;refine wpAny_newObj_type ?_
 refine wpAny_pure ⟨plainId_quiet F.plain_list_iadd _,codeAny_builtin F.entry_list_iadd ?_⟩
 rw[Around.under_plainId F.plain_list_iadd _]
 show wpAny _ A.in1 (Builtin.List.listExtendWith (.ref s.heap.objs.size) (.ref S) (.ref s.heap.objs.size)) _ _ { s with heap:=s.heap.push { cls:=.type "list",data:=.seq ([]:List Value).toArray } }
 have z1:(s.heap.push { cls:=.type "list",data:=.seq ([]:List Value).toArray }).objs.size=s.heap.objs.size+1:=Heap.size_push ..
 have hL:(s.heap.push { cls:=.type "list",data:=.seq ([]:List Value).toArray }).get? s.heap.objs.size=some { cls:=.type "list",data:=.seq ([]:List Value).toArray }:=Heap.get?_push_size _ rfl
 have k1:∀b o,s.heap.get? b=some o->(s.heap.push { cls:=.type "list",data:=.seq ([]:List Value).toArray }).get? b=some o:=λb o e=>Heap.get?_push_of_some _ e
 generalize s.heap.push { cls:=.type "list",data:=.seq ([]:List Value).toArray } = h1 at z1 hL k1
 have ty:∀{h:Heap} {g d t os},(∀b o,s.heap.get? b=some o->h.get? b=some o)->Shared.TypeIs ⟨h,g,d,t,os⟩ (.ref S) "set":=λup=>⟨_,up _ _ ho,rfl⟩
 unfold Builtin.List.listExtendWith
 apply wpAny_bind;refine wpAny_typeOf (T:="set") (ty k1) ?_
 have g1:Builtin.List.listSameRef (.ref s.heap.objs.size) (.ref S)=false:=by simp[Builtin.List.listSameRef,Nat.ne_of_gt ltS]
 have g2:(Value.type "set" == Value.type "list")=false:=by decide
 have g3:(Value.type "set" == Value.type "tuple")=false:=by decide
 simp only[g1,g2,g3,Bool.or_false,Bool.false_eq_true,if_false]
 apply wpAny_bind;refine NB (s:={ s with heap:=h1 }) (k1 _ _ ho) T hp ?_
 show wpAny _ _ _ _ _ { s with heap:=h1.push (jA w S es.size ep t 0) }
 have hI:(h1.push (jA w S es.size ep t 0)).get? (s.heap.objs.size+1)=some (jA w S es.size ep t 0):=by rw[<-z1];exact Heap.get?_push_size _ rfl
 have k2:∀b o,h1.get? b=some o->(h1.push (jA w S es.size ep t 0)).get? b=some o:=λb o e=>Heap.get?_push_of_some _ e
 rw[z1]
 generalize h1.push (jA w S es.size ep t 0)=h2 at hI k2
 apply wpAny_bind;apply wpAny_holding;refine OO (ty λb o e=>k2 b o (k1 b o e)) ?_
 have key:∀(c:Bool) (X Y:Sem Fin) {Q':Fin->Shared->Prop} {E':Value->Shared->Prop} {s':Shared},c=true->wpAny (model prog w) A.in1 X Q' E' s'->wpAny (model prog w) A.in1 (if c=true then X else Y) Q' E' s':=λc X Y _ _ _ hc h=>by rw[if_pos hc];exact h
 refine key _ _ _ (by decide +kernel) ?_
 have hL2:=k2 _ _ hL
 apply wpAny_bind;apply wpAny_rule;apply wpAny_bind
 show wpAny _ _ (updateSeq s.heap.objs.size (·.push .none) >>= λ_=>updateSeq s.heap.objs.size (·.pop)) _ _ _
 apply wpAny_bind;refine wpAny_updateSeq hL2 rfl ?_
 have hL3:=Heap.get?_update_self (Obj.mapSeq (·.push Value.none)) hL2 rfl
 refine wpAny_updateSeq (hz:=by seq_fits) hL3 rfl ?_
 have hL4:=Heap.get?_update_self (Obj.mapSeq (·.pop)) hL3 rfl
 have up4:∀b o,b≠s.heap.objs.size->h2.get? b=some o->((h2.update s.heap.objs.size (Obj.mapSeq (·.push Value.none))).update s.heap.objs.size (Obj.mapSeq (·.pop))).get? b=some o :=
  λb o hb e=>(Heap.get?_update_other _ _ (Ne.symm hb)).trans ((Heap.get?_update_other _ _ (Ne.symm hb)).trans e)
 generalize (h2.update s.heap.objs.size (Obj.mapSeq (·.push Value.none))).update s.heap.objs.size (Obj.mapSeq (·.pop))=h4 at hL4 up4
 apply wpAny_pure;refine⟨plainId_quiet PySem.F.plain_extend_loop _,?_⟩
 have neSI:S≠s.heap.objs.size+1:=Nat.ne_of_lt (Nat.lt_succ_of_lt ltS)
 have neS:S≠s.heap.objs.size:=Nat.ne_of_lt ltS
 have neI:s.heap.objs.size+1≠s.heap.objs.size:=Nat.succ_ne_self _
 have old:∀{b:Addr} {o:Obj},s.heap.get? b=some o->b≠s.heap.objs.size/\b≠s.heap.objs.size+1:=λe=>⟨Nat.ne_of_lt (Heap.lt_size e),Nat.ne_of_lt (Nat.lt_succ_of_lt (Heap.lt_size e))⟩
 refine tJ (A:=A) (s0:=s) (n:=es.size) (J:=λacc h=>SetIt w S (s.heap.objs.size+1) es ep t acc.length h/\acc=((cE w S ep es).toList.map (·.2)).take acc.length/\∀b o,s.heap.get? b=some o->h.get? b=some o)
  (F:=λacc h=>acc=(cE w S ep es).toList.map (·.2)/\∀b o,s.heap.get? b=some o->h.get? b=some o) (.ref s.heap.objs.size) (by rw[sizeLine_eq];omega) ?_ ?_ ?_ (λh' acc c hsz hF hS'=>?_) es.size #[] h4 _ rfl (Nat.zero_le _) ?_ hL4
 ·rintro acc h h' ⟨J1,J2,J3⟩ hSo hz up
  refine⟨CI J1 λb o hb e=>up b o ?_ e,J2,λb o e=>up b o (old e).1 (J3 b o e)⟩
  rcases hb with rfl | rfl
  ·exact neS
  ·exact neI
 ·rintro acc s' o Q' E' hlt ⟨J1,J2,J3⟩ hSo k
  have hw:acc.length<(cE w S ep es).size:=by omega
  refine JP J1 neSI T hl hp hlt (Array.getElem?_eq_getElem hw) λh' D' sb=>k _ h' ⟨by simpa using D',?_,λb o e=>?_⟩ ?_
  ·rw[List.length_append,List.length_singleton,List.take_succ,<-J2]
   simp[hw]
  ·rw[sb.2 b (old e).2];exact J3 b o e
  ·rw[sb.2 _ (Ne.symm neI)];exact hSo
 ·rintro acc s' o Q' E' hlen ⟨J1,J2,J3⟩ hSo k
  rw[hlen] at J1 J2
  refine NN (A:=A.in1) (by simp[hh]) J1 neSI T hl hp λh' eb=>k h' ⟨?_,λb o e=>eb b o (old e).2 (J3 b o e)⟩ (eb _ _ (Ne.symm neI) hSo)
  rw[J2,List.take_of_length_le]
  simp[wl]
 ·show wpAny _ A (load s.heap.objs.size >>= _) _ _ _
  apply wpAny_bind;refine wpAny_load hS' ?_
  refine wpAny_pure ?_
  rw[hF.1]
  exact q h' hF.2 (Nat.le_of_lt (Heap.lt_size hS'))
 ·refine⟨⟨up4 _ _ neS (k2 _ _ (k1 _ _ ho)),up4 _ _ neI hI⟩,rfl,λb o e=>up4 b o (old e).1 (k2 b o (k1 b o e))⟩
end
end L2.R2
set_option Elab.async false
set_option linter.all false
set_option maxRecDepth 100000
set_option maxHeartbeats 1000000
namespace L2.R2
open PySem PySem.W PyProof.Rows
noncomputable def bM {α:Type} (lt:Nat->Nat->Bool):KasT α->α
 | .ret a=>a
 | .ask i j k=>bM lt (k (lt i j))
theorem gP {α β:Type} {lt:Nat->Nat->Bool} {f:α->KasT β}:∀t:KasT α,bM lt (t.bind f)=bM lt (f (bM lt t))
 | .ret _=>rfl
 | .ask i j k=>gP (k (lt i j))
noncomputable def kIn {α:Type} (lt:Nat->Nat->Bool) (n:Nat):KasT α->Prop
 | .ret _=>True
 | .ask i j k=>i<n/\j<n/\kIn lt n (k (lt i j))
theorem dI {α β:Type} {lt:Nat->Nat->Bool} {n:Nat} {f:α->KasT β}:∀t:KasT α,kIn lt n t->kIn lt n (f (bM lt t))->kIn lt n (t.bind f)
 | .ret _,_,h=>h
 | .ask i j k,⟨h1,h2,h3⟩,h=>⟨h1,h2,dI (k (lt i j)) h3 h⟩
theorem tN {α:Type} {cmp:Nat->Nat->(Bool->Shared->Prop)->Shared->Prop} {lt:Nat->Nat->Bool} {n:Nat} {s:Shared} {Q:α->Shared->Prop} (hc:∀i j (C:Bool->Shared->Prop),i<n->j<n->C (lt i j) s->cmp i j C s) :
  ∀t:KasT α,kIn lt n t->Q (bM lt t) s->t.kasWp cmp Q s
 | .ret _,_,h=>h
 | .ask i j k,⟨h1,h2,h3⟩,h=>hc i j _ h1 h2 (tN hc (k (lt i j)) h3 h)
section
variable {O:KeyOrd} {key:Nat->O.α} {N:Nat}
noncomputable def ltK (O:KeyOrd) (key:Nat->O.α) (i j:Nat):Bool:=O.blt (key i) (key j)
noncomputable def kk (O:KeyOrd) (key:Nat->O.α) (p:Array Nat) (i:Nat):O.α:=key (p.getD i 0)
noncomputable def Up (O:KeyOrd) (key:Nat->O.α) (p:Array Nat) (n:Nat):Prop:=∀i j,i<=j->j<n->O.kle (kk O key p i) (kk O key p j)
noncomputable def Dn (O:KeyOrd) (key:Nat->O.α) (p:Array Nat) (n:Nat):Prop:=∀i j,i<=j->j<n->O.kle (kk O key p j) (kk O key p i)
noncomputable def Lo (p:Array Nat) (N:Nat):Prop:=∀i,p.getD i 0<N
theorem jS {p q:Array Nat} (h:p.Perm q) (hq:Lo q N):Lo p N:=by
 intro i
 by_cases hi:i<p.size
 ·have m:p[i]∈p:=Array.getElem_mem hi
  have m2:p[i]∈q:=h.mem_iff.mp m
  obtain⟨j,hj,e⟩:=Array.getElem_of_mem m2
  have:=hq j
  simp[Array.getD,hj] at this
  simp[Array.getD,hi]
  rw[<-e];exact this
 ·have h0:=hq q.size
  simp[Array.getD] at h0
  simp[Array.getD,hi];exact h0
theorem lE {p q:Array Nat} {i j:Nat} (h:p[i]? = q[j]?):kk O key p i=kk O key q j:=by
 unfold kk;rw[Array.getD_eq_getD_getElem?,Array.getD_eq_getD_getElem?,h]
theorem ED {p:Array Nat} {i j:Nat} (hj:j<=p.size) (k:Nat):kk O key (kas_rev p i j) k=if i<=k/\k<j then kk O key p (i+j-1-k) else kk O key p k:=by
 have e:=getElem?_mirror_all (i:=i) hj k
 unfold kas_rev
 by_cases h1:i<=k/\k<j
 ·rw[if_pos h1] at e ⊢;exact lE e
 ·rw[if_neg h1] at e ⊢;exact lE e
theorem pS {p:Array Nat} {i j:Nat} (hj:j<=p.size) (h:∀k,i<=k->k<j->kk O key p k=kk O key p (j-1)) (k:Nat):kk O key (kas_rev p i j) k=kk O key p k:=by
 rw[ED hj]
 split
 ·rw[h _ (by omega) (by omega),h k (by omega) (by omega)]
 ·rfl
theorem JD {p:Array Nat} {src d:Nat} (hs:src<p.size) (hd:d<=src) (k:Nat) :
  kk O key (bubble p src d) k=if k=src-d then kk O key p src else if src-d<k/\k<=src then kk O key p (k-1) else kk O key p k:=by
 have e:=getElem?_bubble hs d hd k
 by_cases h1:k=src-d
 ·rw[if_pos h1] at e ⊢;exact lE e
 ·rw[if_neg h1] at e ⊢
  by_cases h2:src-d<k/\k<=src
  ·rw[if_pos h2] at e ⊢;exact lE e
  ·rw[if_neg h2] at e ⊢;exact lE e
theorem lM (p:Array Nat) (i j:Nat):(kas_rev p i j).Perm p:=mirror_perm _ _ _ _
theorem SU {p:Array Nat} {n:Nat} (h1:1<=n) (h:Up O key p n) (hl:O.kle (kk O key p (n-1)) (kk O key p n)):Up O key p (n+1):=by
 intro i j hij hj
 by_cases hjx:j<n
 ·exact h i j hij hjx
 ·have hj':j=n:=by omega
  subst hj'
  by_cases hi':i=j
  ·subst hi';exact KeyOrd.kle_refl _
  ·exact KeyOrd.kle_trans (h i (j-1) (by omega) (by omega)) hl
theorem yC {p:Array Nat} {n:Nat} (h1:1<=n) (h:Dn O key p n) (hl:O.kle (kk O key p n) (kk O key p (n-1))):Dn O key p (n+1):=by
 intro i j hij hj
 by_cases hjx:j<n
 ·exact h i j hij hjx
 ·have hj':j=n:=by omega
  subst hj'
  by_cases hi':i=j
  ·subst hi';exact KeyOrd.kle_refl _
  ·exact KeyOrd.kle_trans hl (h i (j-1) (by omega) (by omega))
theorem DD {p:Array Nat} (lo:Lo p N):∀(f n:Nat),1<=n->Up O key p n->kIn (ltK O key) N (kas_asc p f n)/\n<=bM (ltK O key) (kas_asc p f n)/\bM (ltK O key) (kas_asc p f n)<=n+f/\Up O key p (bM (ltK O key) (kas_asc p f n)) /\
  (bM (ltK O key) (kas_asc p f n)=n+f\/O.klt (kk O key p (bM (ltK O key) (kas_asc p f n))) (kk O key p (bM (ltK O key) (kas_asc p f n)-1)))
 | 0,n,_,h=>⟨trivial,Nat.le_refl _,Nat.le_refl _,h,Or.inl rfl⟩
 | f+1,n,h1,h=>by
  simp only[kas_asc,bM,kIn]
  cases hb:ltK O key (p.getD n 0) (p.getD (n-1) 0) with
  | true =>
   simp only[if_true]
   exact⟨⟨lo _,lo _,trivial⟩,Nat.le_refl _,by simp only[bM];omega,h,Or.inr hb⟩
  | false =>
   simp only[Bool.false_eq_true,if_false]
   obtain⟨i1,i2,i3,i4,i5⟩:=DD lo f (n+1) (by omega) (SU h1 h hb)
   refine⟨⟨lo _,lo _,i1⟩,by omega,by omega,i4,?_⟩
   rcases i5 with e | e
   ·exact Or.inl (by omega)
   ·exact Or.inr e
theorem CN {p:Array Nat} (lo:Lo p N) {n nrem:Nat} (h1:1<=n) (hn:n<=nrem) (hz:nrem<=p.size) (h:Dn O key p n) :
  kIn (ltK O key) N (kas_tail3 n nrem p)/\1<=(bM (ltK O key) (kas_tail3 n nrem p)).1/\(bM (ltK O key) (kas_tail3 n nrem p)).1<=nrem/\(bM (ltK O key) (kas_tail3 n nrem p)).2.Perm p/\Up O key (bM (ltK O key) (kas_tail3 n nrem p)).2 (bM (ltK O key) (kas_tail3 n nrem p)).1:=by
 unfold kas_tail3
 have up:Up O key (kas_rev p 0 n) n:=by
  intro i j hij hj
  rw[ED (by omega),ED (by omega),if_pos (by omega),if_pos (by omega)]
  exact h _ _ (by omega) (by omega)
 obtain⟨i1,i2,i3,i4,_⟩:=DD (jS (lM p 0 n) lo) (nrem-n) n h1 up
 rw[gP]
 refine⟨dI _ i1 trivial,?_,?_,lM p 0 n,i4⟩
 ·show 1<=_;simp only[bM];omega
 ·simp only[bM];omega
theorem sE:∀(f:Nat) (p:Array Nat) (n q:Nat),Lo p N->1<=n->n+f<=p.size->Dn O key p n->q+1<=n->(∀i,n-(q+1)<=i->i<n->kk O key p i=kk O key p (n-1)) ->
  kIn (ltK O key) N (kas_desc f p n q)/\(bM (ltK O key) (kas_desc f p n q)).1.Perm p/\n<=(bM (ltK O key) (kas_desc f p n q)).2.1/\(bM (ltK O key) (kas_desc f p n q)).2.1<=n+f /\
  Dn O key (bM (ltK O key) (kas_desc f p n q)).1 (bM (ltK O key) (kas_desc f p n q)).2.1/\(bM (ltK O key) (kas_desc f p n q)).2.2+1<=(bM (ltK O key) (kas_desc f p n q)).2.1 /\
  (∀i,(bM (ltK O key) (kas_desc f p n q)).2.1-((bM (ltK O key) (kas_desc f p n q)).2.2+1)<=i->i<(bM (ltK O key) (kas_desc f p n q)).2.1->kk O key (bM (ltK O key) (kas_desc f p n q)).1 i=kk O key (bM (ltK O key) (kas_desc f p n q)).1 ((bM (ltK O key) (kas_desc f p n q)).2.1-1))
 | 0,p,n,q,lo,h1,hz,h,hq,he=>⟨trivial,Array.Perm.refl _,Nat.le_refl _,Nat.le_refl _,h,hq,he⟩
 | f+1,p,n,q,lo,h1,hz,h,hq,he=>by
  simp only[kas_desc,bM,kIn]
  cases hb:ltK O key (p.getD n 0) (p.getD (n-1) 0) with
  | true =>
   simp only[if_true]
   by_cases h0:q > 0
   ·simp only[if_pos h0]
    have hk:=pS (O:=O) (key:=key) (p:=p) (i:=n-(q+1)) (j:=n) (by omega) he
    have pm:=lM p (n-(q+1)) n
    have dn:Dn O key (kas_rev p (n-(q+1)) n) (n+1):=by
     have d0:=yC h1 h (KeyOrd.kle_of_klt hb)
     intro i j hij hj
     rw[hk,hk];exact d0 i j hij hj
    obtain⟨i1,i2,i3,i4,i5,i6,i7⟩:=sE f (kas_rev p (n-(q+1)) n) (n+1) 0 (jS pm lo) (by omega) (by rw[pm.size_eq];omega) dn (by omega) (λi a b=>by congr 1;omega)
    exact⟨⟨lo _,lo _,i1⟩,i2.trans pm,by omega,by omega,i5,i6,i7⟩
   ·simp only[if_neg h0]
    obtain⟨i1,i2,i3,i4,i5,i6,i7⟩:=sE f p (n+1) 0 lo (by omega) (by omega) (yC h1 h (KeyOrd.kle_of_klt hb)) (by omega) (λi a b=>by congr 1;omega)
    exact⟨⟨lo _,lo _,i1⟩,i2,by omega,by omega,i5,i6,i7⟩
  | false =>
   simp only[Bool.false_eq_true,if_false,bM,kIn]
   cases hc:ltK O key (p.getD (n-1) 0) (p.getD n 0) with
   | true =>
    simp only[if_true]
    exact⟨⟨lo _,lo _,lo _,lo _,trivial⟩,Array.Perm.refl _,Nat.le_refl _,by simp only[bM];omega,h,hq,he⟩
   | false =>
    simp only[Bool.false_eq_true,if_false]
    have e:kk O key p n=kk O key p (n-1):=KeyOrd.kle_antisymm hc hb
    obtain⟨i1,i2,i3,i4,i5,i6,i7⟩:=sE f p (n+1) (q+1) lo (by omega) (by omega) (yC h1 h (by rw[e];exact KeyOrd.kle_refl _)) (by omega) (λi a b=>by
     rw[show n+1-1=n by omega]
     by_cases hi:i=n
     ·subst hi;rfl
     ·rw[e];exact he i (by omega) (by omega))
    exact⟨⟨lo _,lo _,lo _,lo _,i1⟩,i2,by omega,by omega,i5,i6,i7⟩
theorem qP {p:Array Nat} (lo:Lo p N) {n nrem:Nat} (hn:n+1<=nrem) (hz:nrem<=p.size) (h:Dn O key p (n+1)) :
  kIn (ltK O key) N (kas_descPart n nrem p)/\1<=(bM (ltK O key) (kas_descPart n nrem p)).1/\(bM (ltK O key) (kas_descPart n nrem p)).1<=nrem/\(bM (ltK O key) (kas_descPart n nrem p)).2.Perm p/\Up O key (bM (ltK O key) (kas_descPart n nrem p)).2 (bM (ltK O key) (kas_descPart n nrem p)).1:=by
 unfold kas_descPart
 obtain⟨i1,i2,i3,i4,i5,i6,i7⟩:=sE (N:=N) (nrem-(n+1)) p (n+1) 0 lo (by omega) (by omega) h (by omega) (λi a b=>by congr 1;omega)
 rw[gP]
 generalize hr:bM (ltK O key) (kas_desc (nrem-(n+1)) p (n+1) 0)=r at *
 by_cases h0:r.2.2 > 0
 ·have sz:r.1.size=p.size:=i2.size_eq
  have hk:=pS (O:=O) (key:=key) (p:=r.1) (i:=r.2.1-(r.2.2+1)) (j:=r.2.1) (by omega) i7
  have pm:=(lM r.1 (r.2.1-(r.2.2+1)) r.2.1).trans i2
  have t:=CN (O:=O) (key:=key) (N:=N) (jS pm lo) (n:=r.2.1) (nrem:=nrem) (by omega) (by omega) (by rw[pm.size_eq];omega) (λi j hij hj=>by rw[hk,hk];exact i5 i j hij hj)
  rw[if_pos h0]
  refine⟨dI _ i1 ?_,t.2.1,t.2.2.1,t.2.2.2.1.trans pm,t.2.2.2.2⟩
  rw[hr,if_pos h0];exact t.1
 ·have t:=CN (O:=O) (key:=key) (N:=N) (jS i2 lo) (n:=r.2.1) (nrem:=nrem) (by omega) (by omega) (by rw[i2.size_eq];omega) i5
  rw[if_neg h0]
  refine⟨dI _ i1 ?_,t.2.1,t.2.2.1,t.2.2.2.1.trans i2,t.2.2.2.2⟩
  rw[hr,if_neg h0];exact t.1
theorem LT {p:Array Nat} (lo:Lo p N) {nrem:Nat} (h1:1<=nrem) (hz:nrem<=p.size) :
  kIn (ltK O key) N (kas_count nrem p)/\1<=(bM (ltK O key) (kas_count nrem p)).1/\(bM (ltK O key) (kas_count nrem p)).1<=nrem/\(bM (ltK O key) (kas_count nrem p)).2.Perm p/\Up O key (bM (ltK O key) (kas_count nrem p)).2 (bM (ltK O key) (kas_count nrem p)).1:=by
 unfold kas_count
 obtain⟨i1,i2,i3,i4,i5⟩:=DD (O:=O) (key:=key) lo (nrem-1) 1 (Nat.le_refl _) (λi j hij hj=>by have:i=j:=(by omega);subst this;exact KeyOrd.kle_refl _)
 rw[gP]
 generalize hr:bM (ltK O key) (kas_asc p (nrem-1) 1)=n at *
 by_cases hn:n=nrem
 ·rw[if_pos (by simpa using hn)]
  exact⟨dI _ i1 (by rw[hr,if_pos (by simpa using hn)];trivial),i2,by show n<=nrem;omega,Array.Perm.refl _,i4⟩
 ·rw[if_neg (by simpa using hn)]
  have hlt:O.klt (kk O key p n) (kk O key p (n-1)):=i5.resolve_left (by omega)
  by_cases hg:n > 1
  ·rw[if_pos hg]
   simp only[bM]
   cases hb:ltK O key (p.getD 0 0) (p.getD (n-1) 0) with
   | true =>
    simp only[if_true]
    exact⟨dI _ i1 (by rw[hr,if_neg (by simpa using hn),if_pos hg];exact⟨lo _,lo _,by rw[hb];trivial⟩),by show 1<=n;omega,by show n<=nrem;omega,Array.Perm.refl _,i4⟩
   | false =>
    simp only[Bool.false_eq_true,if_false]
    have hall:∀k,0<=k->k<n->kk O key p k=kk O key p (n-1):=by
     intro k _ hk
     have a1:=i4 0 k (by omega) hk
     have a2:=i4 k (n-1) (by omega) (by omega)
     exact KeyOrd.kle_antisymm a2 (KeyOrd.kle_trans hb a1)
    have hk:=pS (O:=O) (key:=key) (p:=p) (i:=0) (j:=n) (by omega) hall
    have pm:=lM p 0 n
    have t:=qP (O:=O) (key:=key) (N:=N) (jS pm lo) (n:=n) (nrem:=nrem) (by omega) (by rw[pm.size_eq];omega) (λi j hij hj=>by
     rw[hk,hk]
     by_cases hjn:j<n
     ·rw[hall i (by omega) (by omega),hall j (by omega) hjn];exact KeyOrd.kle_refl _
     ·have hj':j=n:=by omega
      subst hj'
      by_cases hi':i=j
      ·subst hi';exact KeyOrd.kle_refl _
      ·rw[hall i (by omega) (by omega)];exact KeyOrd.kle_of_klt hlt)
    exact⟨dI _ i1 (by rw[hr,if_neg (by simpa using hn),if_pos hg];exact⟨lo _,lo _,by rw[hb];exact t.1⟩),t.2.1,t.2.2.1,t.2.2.2.1.trans pm,t.2.2.2.2⟩
  ·rw[if_neg hg]
   have n1:n=1:=by omega
   have t:=qP (O:=O) (key:=key) (N:=N) lo (n:=n) (nrem:=nrem) (by omega) hz (λi j hij hj=>by
    by_cases hi':i=j
    ·subst hi';exact KeyOrd.kle_refl _
    ·have e1:i=n-1:=by omega
     have e2:j=n:=by omega
     rw[e1,e2];exact KeyOrd.kle_of_klt hlt)
   exact⟨dI _ i1 (by rw[hr,if_neg (by simpa using hn),if_neg hg];exact t.1),t.2⟩
theorem uB {p:Array Nat} (lo:Lo p N) {k:Nat} (hs:Up O key p k):∀(f l r:Nat),l<=r->r<=k->r-l<=f->(∀i,i<l->O.kle (kk O key p i) (kk O key p k))->(∀i,r<=i->i<k->O.klt (kk O key p k) (kk O key p i)) ->
  kIn (ltK O key) N (kas_place p k f l r)/\bM (ltK O key) (kas_place p k f l r)<=k/\(∀i,i<bM (ltK O key) (kas_place p k f l r)->O.kle (kk O key p i) (kk O key p k))/\(∀i,bM (ltK O key) (kas_place p k f l r)<=i->i<k->O.klt (kk O key p k) (kk O key p i))
 | 0,l,r,hlr,hrk,hf,a,b=>by
  have:l=r:=by omega
  subst this
  exact⟨trivial,hrk,a,b⟩
 | f+1,l,r,hlr,hrk,hf,a,b=>by
  simp only[kas_place]
  by_cases hge:l ≥ r
  ·have:l=r:=by omega
   subst this
   rw[if_pos hge]
   exact⟨trivial,hrk,a,b⟩
  ·rw[if_neg hge]
   simp only[bM,kIn]
   cases hb:ltK O key (p.getD k 0) (p.getD ((l+r) / 2) 0) with
   | true =>
    simp only[if_true]
    have t:=uB lo hs f l ((l+r) / 2) (by omega) (by omega) (by omega) a (λi h1 h2=>KeyOrd.klt_of_klt_of_kle hb (hs _ _ h1 h2))
    exact⟨⟨lo _,lo _,t.1⟩,t.2⟩
   | false =>
    simp only[Bool.false_eq_true,if_false]
    have t:=uB lo hs f ((l+r) / 2+1) r (by omega) hrk (by omega) (λi h1=>KeyOrd.kle_trans (hs i ((l+r) / 2) (by omega) (by omega)) hb) b
    exact⟨⟨lo _,lo _,t.1⟩,t.2⟩
theorem LI:∀(f:Nat) (p:Array Nat) (k:Nat),Lo p N->k+f<=p.size->Up O key p k->kIn (ltK O key) N (kas_bin f p k)/\(bM (ltK O key) (kas_bin f p k)).Perm p/\Up O key (bM (ltK O key) (kas_bin f p k)) (k+f)
 | 0,p,k,lo,hz,h=>⟨trivial,Array.Perm.refl _,h⟩
 | f+1,p,k,lo,hz,h=>by
  simp only[kas_bin]
  obtain⟨i1,i2,i3,i4⟩:=uB lo h k 0 k (by omega) (by omega) (by omega) (λi hi=>absurd hi (by omega)) (λi h1 h2=>absurd h2 (by omega))
  rw[gP]
  generalize hr:bM (ltK O key) (kas_place p k k 0 k)=l at *
  have pm:=bubble_perm p k (k-l)
  have hb:=λi=>JD (O:=O) (key:=key) (p:=p) (src:=k) (d:=k-l) (by omega) (by omega) i
  have up:Up O key (bubble p k (k-l)) (k+1):=by
   intro i j hij hj
   rw[hb,hb,show k-(k-l)=l by omega]
   by_cases e1:i=l
   ·rw[if_pos e1]
    by_cases e2:j=l
    ·rw[if_pos e2];exact KeyOrd.kle_refl _
    ·rw[if_neg e2,if_pos (by omega)];exact KeyOrd.kle_of_klt (i4 _ (by omega) (by omega))
   ·rw[if_neg e1]
    by_cases e2:j=l
    ·rw[if_pos e2,if_neg (by omega)];exact i3 _ (by omega)
    ·rw[if_neg e2]
     by_cases e3:l<i/\i<=k
     ·rw[if_pos e3,if_pos (by omega)];exact h _ _ (by omega) (by omega)
     ·rw[if_neg e3]
      by_cases e4:l<j/\j<=k
      ·rw[if_pos e4];exact h _ _ (by omega) (by omega)
      ·rw[if_neg e4];exact h _ _ (by omega) (by omega)
  obtain⟨t1,t2,t3⟩:=LI f (bubble p k (k-l)) (k+1) (jS pm lo) (by rw[pm.size_eq];omega) up
  refine⟨dI _ i1 (by rw[hr];exact t1),t2.trans pm,?_⟩
  rw[show k+(f+1)=k+1+f by omega];exact t3
theorem SI {n:Nat} (h1:1<=n):kIn (ltK O key) n (kas_sort n)/\(bM (ltK O key) (kas_sort n)).Perm (List.toArray (List.range n))/\Up O key (bM (ltK O key) (kas_sort n)) n:=by
 have lo:Lo (List.toArray (List.range n)) n:=by
  intro i
  by_cases hi:i<n
  ·simp[Array.getD,hi]
  ·simp[Array.getD,hi];omega
 unfold kas_sort
 obtain⟨i1,i2,i3,i4,i5⟩:=LT (O:=O) (key:=key) lo (nrem:=n) h1 (by simp)
 rw[gP]
 generalize hr:bM (ltK O key) (kas_count n (List.toArray (List.range n)))=r at *
 have sz:r.2.size=n:=by rw[i4.size_eq];simp
 by_cases h:r.1<n
 ·have t:=LI (O:=O) (key:=key) (N:=n) (n-max r.1 1) r.2 (max r.1 1) (jS i4 lo) (by omega) (by rw[show max r.1 1=r.1 by omega];exact i5)
  rw[if_pos h]
  refine⟨dI _ i1 (by rw[hr,if_pos h];exact t.1),t.2.1.trans i4,?_⟩
  have:=t.2.2
  rwa [show max r.1 1+(n-max r.1 1)=n by omega] at this
 ·rw[if_neg h]
  refine⟨dI _ i1 (by rw[hr,if_neg h];trivial),i4,?_⟩
  rw[show n=r.1 by omega];exact i5
end
end L2.R2
set_option Elab.async false
set_option linter.all false
set_option maxRecDepth 100000
set_option maxHeartbeats 3200000
namespace L2.R2
open PySem PySem.W PySem.SetTable PyProof.Rows
noncomputable def dZ:List Int->List Int->Bool
 | [],[]=>false
 | [],_::_=>true
 | _::_,[]=>false
 | a::as,b::bs=>if a=b then dZ as bs else decide (a<b)
theorem BC:∀a,dZ a a=false
 | []=>rfl
 | a::as=>by simp only[dZ,if_true];exact BC as
theorem nF:∀a b c,dZ a b=true->dZ b c=true->dZ a c=true
 | [],[],c,h,_=>by simp[dZ] at h
 | [],_::_,[],_,h=>by simp[dZ] at h
 | [],_::_,_::_,_,_=>rfl
 | _::_,[],_,h,_=>by simp[dZ] at h
 | _::_,_::_,[],_,h=>by simp[dZ] at h
 | a::as,b::bs,c::cs,h,k=>by
  simp only[dZ] at h k ⊢
  by_cases e1:a=b
  ·subst e1
   rw[if_pos rfl] at h
   by_cases e2:a=c
   ·subst e2;rw[if_pos rfl] at k ⊢;exact nF as bs cs h k
   ·rw[if_neg e2] at k ⊢;exact k
  ·rw[if_neg e1] at h
   by_cases e2:b=c
   ·subst e2;rw[if_neg e1];exact h
   ·rw[if_neg e2] at k
    simp only[decide_eq_true_eq] at h k
    rw[if_neg (by omega)]
    simp only[decide_eq_true_eq];omega
theorem nE:∀a b,dZ a b=false->dZ b a=false->a=b
 | [],[],_,_=>rfl
 | [],_::_,h,_=>by simp[dZ] at h
 | _::_,[],_,h=>by simp[dZ] at h
 | a::as,b::bs,h,k=>by
  simp only[dZ] at h k
  by_cases e:a=b
  ·subst e;rw[if_pos rfl] at h k;rw[nE as bs h k]
  ·rw[if_neg e] at h;rw[if_neg (Ne.symm e)] at k
   simp only[decide_eq_false_iff_not] at h k;omega
theorem NJ (a b c:List Int) (h:dZ a c=true):dZ a b=true\/dZ b c=true:=by
 cases h1:dZ a b with
 | true=>exact Or.inl rfl
 | false =>
  right
  cases h2:dZ b a with
  | true=>exact nF b a c h2 h
  | false=>rw[<-nE a b h1 h2];exact h
noncomputable def QR:KeyOrd:=⟨List Int,dZ,BC,nF,NJ,nE⟩
section
variable {prog:Program} {w:World} {A:Around} {E:Value->Shared->Prop} {s:Shared}
theorem int_inv {k:Int} {v:Value} (h:(intKind prog w).is k v=true):∃t,v = .int k t:=by
 cases v <;> simp[intKind,Value.isInt] at h
 exact⟨_,by rw[h]⟩
theorem QS {fin:Bool} {Q:Bool->Shared->Prop}:∀(ns ms:List Int) (vs us:List Value) (i:Nat),ItemsAre (intKind prog w) ns vs->ItemsAre (intKind prog w) ms us->fin=decide (vs.length<us.length)->Q (dZ ns ms) s->KatLex prog w A true fin Q (vs.zip us) i s:=by
 intro ns
 induction ns with
 | nil =>
  intro ms vs us i h1 h2 hf q
  cases h1
  cases h2 with
  | nil=>simp at hf;subst hf;exact kat_nil q
  | cons _ _=>simp at hf;subst hf;exact kat_nil q
 | cons n ns ih =>
  intro ms vs us i h1 h2 hf q
  cases h1 with
  | cons h1 t1 =>
   cases h2 with
   | nil=>simp at hf;subst hf;exact kat_nil q
   | @cons m u ms us h2 t2 =>
    rw[List.zip_cons_cons]
    refine kat_cons ((intKind prog w).eqBool h1 h2 ?_)
    by_cases e:n=m
    ·subst e
     rw[decide_eq_true rfl]
     exact kat_yes (ih ms _ us (i+1) t1 t2 (by simpa using hf) (by simpa [dZ] using q))
    ·rw[decide_eq_false e]
     obtain⟨tn,rfl⟩:=int_inv h1
     obtain⟨tm,rfl⟩:=int_inv h2
     have q':Q (decide (n<m)) s:=by simpa [dZ,e] using q
     refine kat_no ?_
     cases hi:(i == 0) with
     | true=>exact oneLt_int q'
     | false=>exact kat_one _ _ (PySem.wpAny_lt_int (by exact q'))
noncomputable def KeysAt (prog:Program) (w:World) (h:Heap) (vs:List Value) (nss:List (List Int)):Prop:=vs.length=nss.length/\∀i v,vs[i]? = some v->∃a,v = .ref a/\IsTupleKey (intKind prog w) h (nss.getD i []) a
theorem tO {h:Heap}:∀(vs:List Value) (nss:List (List Int)),KeysAt prog w h vs nss->(∀ns∈nss,ns≠[])->∃fs:List Value,KatTups h vs fs/\fs.length=vs.length/\∀f∈fs,∃k t,f = .int k t
 | [],nss,_,_=>⟨[],trivial,rfl,λf hf=>by cases hf⟩
 | v::vs,nss,H,hn=>by
  match nss,H with
  | [],H=>exact absurd H.1 (by simp)
  | ns::nss,H =>
   obtain⟨a,rfl,o,items,n,ho,hc,hd,hi⟩:=H.2 0 v rfl
   obtain⟨fs,f1,f2,f3⟩:=tO vs nss ⟨by have:=H.1;simpa using this,λi v e=>H.2 (i+1) v e⟩ λms hm=>hn ms (List.mem_cons_of_mem _ hm)
   simp only[List.getD_cons_zero] at hi
   match ns,hi,hn ns (List.mem_cons_self ..) with
   | [],_,h=>exact absurd rfl h
   | k::ks,hi,_ =>
    generalize e:items.toList=its at hi
    cases hi with
    | cons h1 h2 =>
     obtain⟨t,rfl⟩:=int_inv h1
     refine⟨.int k t::fs,⟨⟨a,o,items,n,rfl,ho,hc,hd,?_⟩,f1⟩,by simp[f2],λf hf=>?_⟩
     ·rw[<-Array.getElem?_toList,e];rfl
     ·rcases List.mem_cons.mp hf with rfl | hf
      ·exact⟨k,t,rfl⟩
      ·exact f3 f hf
theorem KeysAt.other {h h':Heap} {vs:List Value} {nss:List (List Int)} {a:Addr} {xs:Array Value} {n:Nat} (K:KeysAt prog w h vs nss) (ho:h.get? a=some (seqObj "list" xs n)) (up:∀b o,b≠a->h.get? b=some o->h'.get? b=some o):KeysAt prog w h' vs nss:=by
 refine⟨K.1,λi v e=>?_⟩
 obtain⟨b,rfl,o,its,m,h1,h2,h3,h4⟩:=K.2 i v e
 refine⟨b,rfl,o,its,m,up b o ?_ h1,h2,h3,h4⟩
 rintro rfl
 rw[ho] at h1;cases h1
 exact absurd h2 (by simp[seqObj])
theorem FE {α:Type} (d:α) (xs:List α):(List.range xs.length).map (λi=>xs.getD i d)=xs:=by
 apply List.ext_getElem (by simp)
 intro i h1 h2
 simp[h2]
theorem KH {a:Addr} {vs:List Value} {nss:List (List Int)} {n:Nat} {P:PySem.Fin->Shared->Prop} (ho:s.heap.get? a=some (seqObj "list" vs.toArray n)) (K:KeysAt prog w s.heap vs nss) (hn:∀ns∈nss,ns≠[]) (h64:vs.length<64)
  (q:∀h' out mss c,h'.get? a=some (seqObj "list" (List.toArray out) c)->KeysAt prog w h' out mss->(∀v∈out,v∈vs)->mss.Perm nss->mss.Pairwise (λx y=>dZ y x=false)->(∀b o,b≠a->s.heap.get? b=some o->h'.get? b=some o)->P (.done (.ret .none)) { s with heap:=h' }) :
  wpAny (model prog w) A (Builtin.«list.sort» ⟨[.ref a],[]⟩) P E s:=by
 have lt:a<s.heap.objs.size:=Heap.lt_size ho
 rw[list_sort_plain]
 apply wpAny_bind;refine listItems_at ho rfl ?_
 apply wpAny_bind;refine listUpdate_at ho rfl ?_ (by rw[List.size_toArray,sizeLine_eq];omega) (Nat.zero_le _)
 obtain⟨e1,ho1⟩:∃e1,(s.heap.update a (Obj.mapSeq λ_=>(#[]:Array Value))).get? a=some (seqObj "list" #[] e1):=⟨_,get?_update_seq ho λ_=>#[]⟩
 have up1:∀b o,b≠a->s.heap.get? b=some o->(s.heap.update a (Obj.mapSeq λ_=>(#[]:Array Value))).get? b=some o:=λb o hb e=>(Heap.get?_update_other _ _ (Ne.symm hb)).trans e
 generalize s.heap.update a (Obj.mapSeq λ_=>(#[]:Array Value))=h1 at ho1 up1
 apply wpAny_bind;refine seqEpoch_at ho1 rfl ?_
 apply wpAny_bind;refine wpAny_newTuple ?_ (by show vs.length<=_;rw[sizeLine_eq];omega)
 apply wpAny_bind;refine wpAny_newList ?_ (Nat.zero_le _)
 apply wpAny_holding
 show wpAny (model prog w) A _ P E { s with heap:=(h1.push (seqObj "tuple" vs.toArray 0)).push (seqObj "list" #[] 0) }
 have up2:∀b o,b≠a->s.heap.get? b=some o->((h1.push (seqObj "tuple" vs.toArray 0)).push (seqObj "list" #[] 0)).get? b=some o:=λb o hb e=>Heap.get?_push_of_some _ (Heap.get?_push_of_some _ (up1 b o hb e))
 have ho2:((h1.push (seqObj "tuple" vs.toArray 0)).push (seqObj "list" #[] 0)).get? a=some (seqObj "list" #[] e1):=Heap.get?_push_of_some _ (Heap.get?_push_of_some _ ho1)
 generalize (h1.push (seqObj "tuple" vs.toArray 0)).push (seqObj "list" #[] 0)=h2 at up2 ho2
 have K2:=K.other ho up2
 have fin:∀(out:List Value) (mss:List (List Int)) (st':SortSt),(arrOf st').map (·.2)=out.toArray->failedOf st'=none->KeysAt prog w h2 out mss->(∀v∈out,v∈vs)->mss.Perm nss->mss.Pairwise (λx y=>dZ y x=false)->out.length<=64 ->
   wpAny (model prog w) A (do
    let sorted:=(arrOf st').map (·.2)
    let touched:=(<-seqEpoch a) != e1
    Builtin.List.listUpdate (.ref a) λ_=>sorted
    if let some e:=failedOf st' then rule "list.sort.comparison-raised";throw e
    if touched then rule "list.sort.modified";raiseError "ValueError" "list modified during sort"
    ret .none) P E { s with heap:=h2 }:=by
  intro out mss st' h1 hf KO hv hp hs hlen
  dsimp only
  apply wpAny_bind;refine seqEpoch_at (s:={ s with heap:=h2 }) ho2 rfl ?_
  rw[h1]
  apply wpAny_bind;refine listUpdate_at (s:={ s with heap:=h2 }) ho2 rfl ?_ (Nat.zero_le _) (by show out.toArray.size<=_;rw[List.size_toArray,sizeLine_eq];omega)
  obtain⟨c,hc⟩:∃c,(h2.update a (Obj.mapSeq λ_=>out.toArray)).get? a=some (seqObj "list" out.toArray c):=⟨_,get?_update_seq ho2 λ_=>out.toArray⟩
  have up3:∀b o,b≠a->h2.get? b=some o->(h2.update a (Obj.mapSeq λ_=>out.toArray)).get? b=some o:=λb o hb e=>(Heap.get?_update_other _ _ (Ne.symm hb)).trans e
  generalize h2.update a (Obj.mapSeq λ_=>out.toArray)=h3 at hc up3
  rw[hf]
  simp only[bne_self_eq_false,Bool.false_eq_true,if_false]
  exact wpAny_pure (q h3 out mss c hc (KO.other ho2 up3) hv hp hs λb o hb e=>up3 b o hb (up2 b o hb e))
 have ln:=K.1
 dsimp only
 by_cases h2':vs.length<2
 ·have c2:vs.toArray.size<2:=by rw[List.size_toArray];exact h2'
  rw[if_pos c2,if_pos c2]
  apply wpAny_bind;apply wpAny_pure
  apply wpAny_bind
  show wpAny _ _ (pure ((),SortSt.mk' general' (vs.toArray.zip vs.toArray) #[] 7 none)) _ _ _
  apply wpAny_pure
  refine fin vs nss _ ?_ rfl K2 (λ_ h=>h) (List.Perm.refl _) ?_ (by omega)
  ·show (vs.toArray.zip vs.toArray).map (·.2)=vs.toArray
   apply Array.toList_inj.mp
   simp[List.map_snd_zip]
  ·match nss,ln with
   | [],_=>exact List.Pairwise.nil
   | [x],_=>exact List.pairwise_singleton _ _
   | _::_::_,ln=>simp at ln;omega
 ·have c2:¬vs.toArray.size<2:=by rw[List.size_toArray];exact h2'
  rw[if_neg c2,if_neg c2]
  obtain⟨fs,f1,f2,f3⟩:=tO vs nss K2 hn
  apply wpAny_bind
  refine kat_kind (s:={ s with heap:=h2 }) (T:=.type "int") f1 (by omega) (λv hv=>?_) (by decide) ?_
  ·obtain⟨k,t,rfl⟩:=f3 v hv
   exact Looks.now
  have hT:(Value.type "int" != Value.type "tuple")=true:=by decide
  rw[hT]
  obtain⟨i1,i2,i3⟩:=SI (O:=QR) (key:=λi=>nss.getD i []) (n:=vs.length) (by omega)
  have psz:(bM (ltK QR λi=>nss.getD i []) (kas_sort vs.length)).size=vs.length:=by rw[i2.size_eq];simp
  generalize hp:bM (ltK QR λi=>nss.getD i []) (kas_sort vs.length)=p at i2 i3 psz
  apply wpAny_bind
  refine wpAny_mono (kat_run (ks:=vs) (vs:=vs) (Q:=λst' s'=>s' = { s with heap:=h2 }/\arrOf st'=p.map (kas_item (vs.toArray.zip vs.toArray))/\failedOf st'=none) (G:=λp' s'=>p'=p/\s' = { s with heap:=h2 }) rfl (by omega) h64 (λp' st' s' a1 a2 a3 a4=>⟨a4.2,by rw[a2,a4.1],a3⟩) ?_) ?_ λ_ _ e=>e
  ·refine tN (lt:=ltK QR λi=>nss.getD i []) (n:=vs.length) (s:={ s with heap:=h2 }) (λi j C hi hj c=>?_) _ i1 ⟨hp,rfl⟩
   unfold kas_ask
   obtain⟨x,ex,ox,xs,nx,hx1,hx2,hx3,hx4⟩:=K2.2 i (vs.getD i Value.none) (by simp[hi])
   obtain⟨y,ey,oy,ys,ny,hy1,hy2,hy3,hy4⟩:=K2.2 j (vs.getD j Value.none) (by simp[hj])
   rw[ex,ey]
   refine kat_lt (s:={ s with heap:=h2 }) hx1 hx3 hy1 hy3 (QS _ _ _ _ 0 hx4 hy4 (by simp) ?_)
   exact c
  ·rintro⟨⟨⟩,st'⟩ s' ⟨rfl,har,hf⟩
   have hout:=kat_snds (ks:=vs) (vs:=vs) rfl har
   refine fin (p.toList.map λi=>vs.getD i Value.none) (p.toList.map λi=>nss.getD i []) st' hout hf ⟨by simp,λi v e=>?_⟩ (λv hv=>?_) ?_ ?_ (by simp[psz];omega)
   ·rw[List.getElem?_map] at e
    cases e2:p.toList[i]? with
    | none=>rw[e2] at e;simp at e
    | some j =>
     rw[e2] at e
     simp only[Option.map_some,Option.some.injEq] at e
     have hj:j<vs.length:=by
      have m:j∈p.toList:=List.mem_of_getElem? e2
      have:=(Array.Perm.mem_iff i2).mp (Array.mem_toList_iff.mp m)
      simpa using this
     obtain⟨b,hb1,hb2⟩:=K2.2 j v (by rw[<-e];simp[hj])
     refine⟨b,hb1,?_⟩
     have g:(p.toList.map λi=>nss.getD i []).getD i []=nss.getD j []:=by
      rw[List.getD_eq_getElem?_getD,List.getElem?_map,e2];rfl
     rw[g];exact hb2
   ·obtain⟨j,m,rfl⟩:=List.mem_map.mp hv
    have hj:j<vs.length:=by
     have:=(Array.Perm.mem_iff i2).mp (Array.mem_toList_iff.mp m)
     simpa using this
    simp[hj]
   ·have pl:p.toList.Perm (List.range vs.length):=by simpa using i2.toList
    refine (pl.map _).trans ?_
    rw[ln,FE]
   ·refine List.pairwise_map.mpr (List.pairwise_iff_getElem.mpr λi j hi hj hij=>?_)
    have:=i3 i j (by omega) (by simp at hj;omega)
    unfold kk at this
    simp only[Array.length_toList] at hi hj
    have e1:p.getD i 0=p[i]:=by simp[Array.getD,hi]
    have e2:p.getD j 0=p[j]:=by simp[Array.getD,hj]
    rw[e1,e2] at this
    exact this
theorem rA {S:Addr} {es:Array (Int × Value)} {Q:Value->Shared->Prop} (hh:A.handled=none) (H:SetTup prog w s.heap S es) (h64:es.size<64) {nss:List (List Int)} (hn:∀ns∈nss,ns≠[])
  (hk:∀e∈es.toList,∃ns∈nss,∃a,e.2 = .ref a/\IsTupleKey (intKind prog w) s.heap ns a)
  (q:∀h' D out mss c,s.heap.objs.size<=D->h'.get? D=some (seqObj "list" (List.toArray out) c)->KeysAt prog w h' out mss->(∀v∈out,∃e∈es.toList,e.2=v)->(∀ns,ns∈mss↔∃e∈es.toList,∃a,e.2 = .ref a/\IsTupleKey (intKind prog w) s.heap ns a)->mss.Pairwise (λx y=>dZ y x=false) ->
   mss.length=es.size->(∀b o,s.heap.get? b=some o->h'.get? b=some o)->Q (.ref D) { s with heap:=h' }) :
  wpAny (model prog w) A (call (.builtin "sorted") [.ref S]) Q E s:=by
 obtain⟨⟨ep,t,ho,T,hf,hl,hp⟩,els⟩:=H
 have wp:=qM (w:=w) S ep es
 have wl:(cE w S ep es).toList.length=es.size:=by rw[wp.length_eq,Array.length_toList]
 refine Calls.call_function_entry kind_sorted plain_sorted entry_sorted (args_sorted1 _) ?_
 unfold Builtin.«sorted»
 refine wpAny_bind (m:=checkCount "sorted" 1 1 _) (wpAny_pure ?_)
 apply wpAny_bind;refine zX (A:=A.in1) (by simp[hh]) ho T hl hp (by omega) λh1 k1 big=>?_
 apply wpAny_bind;refine wpAny_newList ?_ (by rw[List.length_map,wl,sizeLine_eq];omega)
 show wpAny _ _ _ _ _ { s with heap:=h1.push (seqObj "list" (List.toArray ((cE w S ep es).toList.map (·.2))) 0) }
 have hL:(h1.push (seqObj "list" (List.toArray ((cE w S ep es).toList.map (·.2))) 0)).get? h1.objs.size=some (seqObj "list" (List.toArray ((cE w S ep es).toList.map (·.2))) 0):=Heap.get?_push_size _ rfl
 have k2:∀b o,s.heap.get? b=some o->(h1.push (seqObj "list" (List.toArray ((cE w S ep es).toList.map (·.2))) 0)).get? b=some o:=λb o e=>Heap.get?_push_of_some _ (k1 b o e)
 generalize h1.push (seqObj "list" (List.toArray ((cE w S ep es).toList.map (·.2))) 0)=h2 at hL k2
 have ex:∀(i:Nat) (v:Value),((cE w S ep es).toList.map (·.2))[i]? = some v->∃ns∈nss,∃a,v = .ref a/\IsTupleKey (intKind prog w) s.heap ns a:=by
  intro i v e
  rw[List.getElem?_map] at e
  cases e2:(cE w S ep es).toList[i]? with
  | none=>rw[e2] at e;simp at e
  | some x =>
   rw[e2] at e
   simp only[Option.map_some,Option.some.injEq] at e
   have m:x∈es.toList:=wp.mem_iff.mp (List.mem_of_getElem? e2)
   obtain⟨ns,h1,a,h2,h3⟩:=hk x m
   exact⟨ns,h1,a,by rw[<-e];exact h2,h3⟩
 obtain⟨kss,kl,kk⟩:∃kss:List (List Int),kss.length=((cE w S ep es).toList.map (·.2)).length/\∀(i:Nat) (v:Value),((cE w S ep es).toList.map (·.2))[i]? = some v->kss.getD i []∈nss/\∃a,v = .ref a/\IsTupleKey (intKind prog w) s.heap (kss.getD i []) a:=by
  generalize ((cE w S ep es).toList.map (·.2))=vs at ex
  clear hL
  induction vs with
  | nil=>exact⟨[],rfl,λi v e=>by simp at e⟩
  | cons v vs ih =>
   obtain⟨kss,k1,k2⟩:=ih λi v e=>ex (i+1) v (by simpa using e)
   obtain⟨ns,h1,a,h2,h3⟩:=ex 0 v rfl
   refine⟨ns::kss,by simp[k1],λi u e=>?_⟩
   cases i with
   | zero=>simp at e;subst e;exact⟨h1,a,h2,h3⟩
   | succ i=>exact k2 i u (by simpa using e)
 have KA:KeysAt prog w h2 ((cE w S ep es).toList.map (·.2)) kss:=by
  refine⟨kl.symm,λi v e=>?_⟩
  obtain⟨_,a,h1,o,its,m,g1,g2⟩:=kk i v e
  exact⟨a,h1,o,its,m,k2 _ _ g1,g2⟩
 have kmem:∀ns,ns∈kss↔∃e∈es.toList,∃a,e.2 = .ref a/\IsTupleKey (intKind prog w) s.heap ns a:=by
  intro ns
  constructor
  ·intro h
   obtain⟨i,hi,e⟩:=List.getElem_of_mem h
   have hi':i<((cE w S ep es).toList.map (·.2)).length:=by omega
   obtain⟨_,a,h1,h2⟩:=kk i _ (List.getElem?_eq_getElem hi')
   have g:kss.getD i []=ns:=by simp[hi,e]
   rw[g] at h2
   simp only[List.getElem_map] at h1
   exact⟨_,wp.mem_iff.mp (List.getElem_mem _),a,h1,h2⟩
  ·rintro⟨e,he,a,h1,h2⟩
   obtain⟨i,hi,e'⟩:=List.getElem_of_mem (wp.mem_iff.mpr he)
   obtain⟨_,b,g1,g2⟩:=kk i e.2 (by rw[List.getElem?_map,List.getElem?_eq_getElem hi,e'];rfl)
   rw[h1] at g1;cases g1
   have:=g2.inj h2
   rw[<-this]
   have hi':i<kss.length:=by rw[kl];simpa using hi
   simp[hi']
 refine wpAny_bind (wpAny_holding (wpAny_call_entry slot_list_sort ⟨_,hL,rfl⟩ entry_list_sort ?body (args_list_sort _)))
 case body =>
  refine KH (s:={ s with heap:=h2 }) hL KA (λns h=>?_) (by rw[List.length_map,wl];exact h64) λh3 out mss c g1 g2 g3 g4 g5 g6=>?_
  ·obtain⟨e,he,a,e1,e2⟩:=(kmem ns).mp h
   obtain⟨ms,m1,b,e3,e4⟩:=hk e he
   rw[e1] at e3;cases e3
   rw[e2.inj e4];exact hn ms m1
  ·refine⟨_,rfl,wpAny_pure ⟨_,rfl,q h3 h1.objs.size out mss c big g1 g2 (λv hv=>?_) (λns=>(g4.mem_iff).trans (kmem ns)) g5 ?_ λb o e=>?_⟩⟩
   ·obtain⟨e,he,rfl⟩:=List.mem_map.mp (g3 v hv)
    exact⟨e,wp.mem_iff.mp he,rfl⟩
   ·rw[g4.length_eq,kl,List.length_map,wl]
   ·have:=Heap.lt_size e
    exact g6 b o (by intro z;simp only[Addr] at *;omega) (k2 b o e)
end
end L2.R2
set_option Elab.async false
set_option linter.all false
set_option maxRecDepth 100000
set_option maxHeartbeats 3200000
namespace L2.R2
open PySem PySem.W PyProof.Rows
theorem EO:typeLookup (.type "list_reverseiterator") "__len__" = pure none:=by rw[typeLookup_type,builtinLookup_eq_fast];kernel_rfl
theorem NM:typeLookup (.type "list_reverseiterator") "__length_hint__" = pure (some (.builtin "list_reverseiterator.__length_hint__")):=by rw[typeLookup_type,builtinLookup_eq_fast];kernel_rfl
theorem zG:isSubtype (.type "list_reverseiterator") (.type "list_reverseiterator")=pure true:=by rw[isSubtype_type];kernel_rfl
section
variable {prog:Program} {w:World} {A:Around} {E:Value->Shared->Prop} {s:Shared}
theorem OI {I:Addr} {Q:Bool->Shared->Prop} (ty:s.TypeIs (.ref I) "list_reverseiterator") (q:Q false s):wpAny (model prog w) A (Builtin.List.listLengthHint (.ref I)) Q E s:=by
 unfold Builtin.List.listLengthHint
 apply wpAny_bind;refine wpAny_specialOf ty EO ?_
 show wpAny _ _ (specialOf (Value.ref I) (Str.ofString "__length_hint__") >>= _) _ _ _
 apply wpAny_bind;refine wpAny_specialOf ty NM ?_
 dsimp only
 have sp:splitId "list_reverseiterator.__length_hint__" = some ("list_reverseiterator","__length_hint__"):=by decide +kernel
 rw[sp]
 dsimp only
 apply wpAny_bind;refine wpAny_isInstance (b:=true) ty zG ?_
 simp only[Bool.not_true,Bool.false_eq_true,if_false]
 have key:∀(c:Bool) (X Y:Sem Bool),c=true->wpAny (model prog w) A X Q E s->wpAny (model prog w) A (if c=true then X else Y) Q E s:=λc X Y hc h=>by rw[if_pos hc];exact h
 refine key _ _ _ (by decide +kernel) ?_
 rw[if_neg (by decide +kernel)]
 exact wpAny_pure q
theorem vH {I l:Addr} {items:Array Value} {Q:Value->Shared->Prop} (hh:A.handled=none) (ne:l≠I) (hz:items.size<=sizeLine) (hi:s.heap.IsRevIter I l ((items.size:Int)-1)) (hl:s.heap.IsList l items)
  (q:∀h' c,h'.get? s.heap.objs.size=some (seqObj "list" items.toList.reverse.toArray c)->(∀b o,b≠I->s.heap.get? b=some o->h'.get? b=some o)->Q (.ref s.heap.objs.size) { s with heap:=h' }) :
  wpAny (model prog w) A (call (.type "list") [.ref I]) Q E s:=by
 have ltI:I<s.heap.objs.size:=by obtain⟨o,e,_⟩:=hi;exact Heap.lt_size e
 have ltl:l<s.heap.objs.size:=by obtain⟨o,e,_⟩:=hl;exact Heap.lt_size e
 refine callType_codes (Q₁:=λobj s₁=>obj = .ref s.heap.objs.size/\s₁ = { s with heap:=s.heap.push { cls:=.type "list",data:=.seq #[] } }) F.called_list (F.typeCall_list_1 _) F.entry_list_init (code_list_new _ ⟨rfl,rfl⟩) λobj s₁ h₁=>?_
 obtain⟨rfl,rfl⟩:=h₁
 have hS:(s.heap.push { cls:=.type "list",data:=.seq #[] }).get? s.heap.objs.size=some { cls:=.type "list",data:=.seq #[] }:=Heap.get?_push_size _ rfl
 refine⟨⟨_,hS,rfl⟩,F.args_list_init_2 _ _,?_⟩
 show wpAny _ _ (do let old <-Builtin.List.listItems (.ref s.heap.objs.size);Builtin.List.listUpdate (.ref s.heap.objs.size) (λ_=>#[]);letGo old.toList.reverse;Builtin.List.listExtendWith (.ref s.heap.objs.size) (.ref I) .none) _ _ _
 apply wpAny_bind;unfold Builtin.List.listItems
 apply wpAny_bind;apply wpAny_seqItems hS rfl;apply wpAny_pure
 show wpAny _ _ (updateSeq s.heap.objs.size (λ_=>#[]) >>= λ_=>letGo (#[]:Array Value).toList.reverse >>= λ_=>Builtin.List.listExtendWith (.ref s.heap.objs.size) (.ref I) .none) _ _ _
 apply wpAny_bind;refine wpAny_updateSeq hS rfl ?_
 have hS2:=Heap.get?_update_self (Obj.mapSeq (λ_=>(#[]:Array Value))) hS rfl
 have up2:∀b o,b≠s.heap.objs.size->s.heap.get? b=some o->((s.heap.push { cls:=.type "list",data:=.seq #[] }).update s.heap.objs.size (Obj.mapSeq (λ_=>(#[]:Array Value)))).get? b=some o :=
  λb o hb e=>(Heap.get?_update_other _ _ (Ne.symm hb)).trans (Heap.get?_push_of_some _ e)
 generalize (s.heap.push { cls:=.type "list",data:=.seq #[] }).update s.heap.objs.size (Obj.mapSeq (λ_=>(#[]:Array Value)))=h2 at hS2 up2
 apply wpAny_bind;apply wpAny_letGo
 have neI:I≠s.heap.objs.size:=Nat.ne_of_lt ltI
 have nel:l≠s.heap.objs.size:=Nat.ne_of_lt ltl
 have hi2:h2.IsRevIter I l ((items.size:Int)-1):=hi.at λo e=>up2 _ o neI e
 have hl2:h2.IsList l items:=hl.at λo e=>up2 _ o nel e
 unfold Builtin.List.listExtendWith
 apply wpAny_bind;refine wpAny_typeOf (T:="list_reverseiterator") hi2.typeIs ?_
 have g1:Builtin.List.listSameRef (.ref s.heap.objs.size) (.ref I)=false:=by simp[Builtin.List.listSameRef,Nat.ne_of_gt ltI]
 have g2:(Value.type "list_reverseiterator" == Value.type "list")=false:=by decide
 have g3:(Value.type "list_reverseiterator" == Value.type "tuple")=false:=by decide
 simp only[g1,g2,g3,Bool.or_false,Bool.false_eq_true,if_false]
 apply wpAny_bind;refine wpAny_pyIter_revIter hi2 ?_
 apply wpAny_bind;apply wpAny_holding;refine OI hi2.typeIs ?_
 have key:∀(c:Bool) (X Y:Sem Fin) {Q':Fin->Shared->Prop} {E':Value->Shared->Prop} {s':Shared} {A':Around},c=false->wpAny (model prog w) A' Y Q' E' s'->wpAny (model prog w) A' (if c=true then X else Y) Q' E' s':=λc X Y _ _ _ _ hc h=>by rw[hc,if_neg Bool.false_ne_true];exact h
 refine key _ _ _ (by decide +kernel) ?_
 apply wpAny_pure;refine⟨plainId_quiet PySem.F.plain_extend_loop _,?_⟩
 refine tJ (s0:=s) (n:=items.size) (J:=λacc h=>h.IsRevIter I l ((items.size:Int)-1-(acc.length:Int))/\h.IsList l items/\acc=items.toList.reverse.take acc.length/\∀b o,b≠I->b≠s.heap.objs.size->s.heap.get? b=some o->h.get? b=some o)
  (F:=λacc h=>acc=items.toList.reverse/\∀b o,b≠I->b≠s.heap.objs.size->s.heap.get? b=some o->h.get? b=some o) .none hz ?_ ?_ ?_ (λh' acc c hsz hF hS'=>⟨rfl,?_⟩) items.size #[] h2 _ rfl (Nat.zero_le _) ?_ hS2
 ·rintro acc h h' ⟨J1,J2,J3,J4⟩ hSo hz up
  exact⟨J1.at λo e=>up _ o neI e,J2.at λo e=>up _ o nel e,J3,λb o n1 n2 e=>up b o n2 (J4 b o n1 n2 e)⟩
 ·rintro acc s' o Q' E' hlt ⟨J1,J2,J3,J4⟩ hSo k
  have e:items[items.size-1-acc.length]? = some (items[items.size-1-acc.length]'(by omega)):=Array.getElem?_eq_getElem _
  refine wpAny_pyNext_rev_item (i:=items.size-1-acc.length) (by rw[show ((items.size-1-acc.length:Nat):Int)=(items.size:Int)-1-(acc.length:Int) by omega];exact J1) J2 e λh' it' sb=>k _ h' ⟨?_,J2.at λo e=>?_,?_,λb o n1 n2 e=>?_⟩ ?_
  ·rw[show ((items.size-1-acc.length:Nat):Int)-1=(items.size:Int)-1-((acc++[items[items.size-1-acc.length]'(by omega)]).length:Int) by simp;omega] at it'
   exact it'
  ·rw[sb.2 _ ne];exact e
  ·rw[List.length_append,List.length_singleton,List.take_succ,<-J3]
   congr 1
   rw[List.getElem?_eq_getElem (by simp;omega),List.getElem_reverse]
   simp
  ·rw[sb.2 b n1];exact J4 b o n1 n2 e
  ·rw[sb.2 _ (Ne.symm neI)];exact hSo
 ·rintro acc s' o Q' E' hlen ⟨J1,J2,J3,J4⟩ hSo k
  rw[hlen] at J3
  refine wpAny_pyNext_rev_end (l:=l) (by simp[hh]) (by rw[show (-1:Int)=(items.size:Int)-1-(acc.length:Int) by omega];exact J1) λh' eb=>k h' ⟨?_,λb o n1 n2 e=>eb b o n1 (J4 b o n1 n2 e)⟩ (eb _ _ (Ne.symm neI) hSo)
  rw[J3,List.take_of_length_le]
  simp
 ·exact⟨by simpa using hi2,hl2,rfl,λb o _ n2 e=>up2 b o n2 e⟩
 ·refine q h' c ?_ λb o n1 e=>hF.2 b o n1 (Nat.ne_of_lt (Heap.lt_size e)) e
  rw[hS',<-hF.1]
end
end L2.R2
set_option Elab.async false
set_option linter.all false
set_option maxRecDepth 100000
set_option maxHeartbeats 1000000
namespace L2.R2
open PySem PySem.Spec PyProof.Rows L2
theorem zT:bootBuiltins "sorted" = some (.builtin "sorted"):=by decide +kernel
theorem LL:bootBuiltins "set" = some (.type "set"):=by decide +kernel
theorem AV {prog:Program} {w:World}:∀{ns:List Int} {us:List Value},Vals (ns.map V.int) us->ItemsAre (intKind prog w) ns us
 | [],_,h=>by cases h;exact .nil
 | n::ns,_,h=>by
  cases h with
  | cons h1 t =>
   obtain⟨t',rfl⟩:=h1
   exact .cons (intKind_is _ _ _ _) (AV t)
noncomputable def uJ (te:RE):RA:=λρ Q=>te ρ λx=>∃nss:List (List Int),x = .lst (nss.map jP)/\nss.length<64/\(∀ns∈nss,ns≠[])/\∀mss:List (List Int),mss.Pairwise (λx y=>dZ y x=false)->(∀ns,ns∈mss↔ns∈nss)->mss.length<=nss.length->Q (mss.map jP)
noncomputable def uH (te:RE):RA:=λρ Q=>te ρ λx=>∃ds:List D,x = .lst ds/\Q ds.reverse
theorem CB {K:PySem.W.Frag} {H:Hp}:∀(out:List Value) (mss:List (List Int)),out.length=mss.length->(∀(i:Nat) (v:Value),out[i]? = some v->∃a,v = .ref a/\H a=some (.tup ((mss.getD i []).map V.int)))->∃ws:List V,Vals ws out/\Reps K H (mss.map jP) ws
 | [],[],_,_=>⟨[],.nil,.nil⟩
 | [],_::_,h,_=>by simp at h
 | _::_,[],h,_=>by simp at h
 | v::out,ms::mss,h,k=>by
  obtain⟨ws,h1,h2⟩:=CB (K:=K) (H:=H) out mss (by simpa using h) λi v e=>k (i+1) v (by simpa using e)
  obtain⟨a,rfl,ha⟩:=k 0 v rfl
  exact⟨.ref a::ws,.cons rfl h1,.cons (.tup ha Reps.ints) h2⟩
section
variable {X:Cx} {e:Expr} {te:RE} {p pz pos posz:Pos}
theorem DX {k:Nat} (hr:Room k X.A) (hms:X.mg "sorted" = none) (hmz:X.mg "set" = none) (hc:X.calm=true) (h:DB X e te) (hgs:Gl X "sorted":=by rfl) (hgz:Gl X "set":=by rfl)
  (hs:starEach [.Call (.Name "set" pz) [e] [] posz] X.env=[(false,eval (.Call (.Name "set" pz) [e] [] posz) X.env)]:=by rfl) (hn:starEach [] X.env=[]:=by rfl) (h1:starEach [e] X.env=[(false,eval e X.env)]:=by rfl) :
  DO X (.Call (.Name "sorted" p) [.Call (.Name "set" pz) [e] [] posz] [] pos) (uJ te):=by
 intro pins s σ H Q I hh_0
 obtain⟨ρ,P,st,q,kq⟩:=hh_0
 refine wpAny_Call_Name_kw (fY I hgs hms zT ?_)
 refine PyProof.Rows.callWith_builtin1 ?_ (by rw[hs,hn]) (by rw[hn];rfl)
 rw[hs]
 show wpAny _ _ (spliced ((false,eval (.Call (.Name "set" pz) [e] [] posz) X.env)::backTo pos [])) _ _ s
 refine Calls.spliced_cons (wpAny_Call_Name_kw (fY I hgz hmz LL ?_))
 refine PyProof.Rows.callWith_type1 (thn (fZ h h1 hn posz pins s σ H (λvs H1=>∃(nss:List (List Int)) (v:V),vs=[v]/\Same H H1/\RepB X.K H1 (.lst (nss.map jP)) v/\nss.length<64/\(∀ns∈nss,ns≠[])/\∀mss:List (List Int),mss.Pairwise (λx y=>dZ y x=false)->(∀ns,ns∈mss↔ns∈nss)->mss.length<=nss.length->P (mss.map jP)) I
  ⟨ρ,_,st,q,λx v H1 hx s1 r1=>?_⟩) λus s1 ⟨vs,H1,I1,r1,q1⟩=>?_) (by rw[h1,hn]) (by rw[hn];rfl)
 ·obtain⟨nss,rfl,a1,a2,a3⟩:=hx
  exact⟨nss,v,rfl,s1,r1,a1,a2,a3⟩
 obtain⟨nss,v,rfl,s01,rb,h64,hne,hP⟩:=q1
 obtain⟨l,vs,rfl,hq,rr⟩:=rb.lst
 obtain⟨u,rfl,rx⟩:=iU r1
 cases rx
 obtain⟨its,rv,pl,hz⟩:=I1.list hq
 have l1:=rr.length
 have l2:=rv.length
 rw[List.length_map] at l1
 have each:∀(i:Nat) (u:Value),its[i]? = some u->∃ns a,nss[i]? = some ns/\vs[i]? = some (.ref a)/\u = .ref a/\IsTupleKey (intKind X.prog X.w) s1.heap ns a:=λi u e=>by
  have hi:i<nss.length:=by have:=(List.getElem?_eq_some_iff.mp e).1;omega
  obtain⟨v,e1,e2⟩:=rr.get (i:=i) (d:=jP nss[i]) (by rw[List.getElem?_map,List.getElem?_eq_getElem hi];rfl)
  obtain⟨a,rfl,ha⟩:=Reps.tupI_inv e2
  obtain⟨u',f1,f2⟩:=rv.get e1
  rw[e] at f1;cases f1
  cases f2
  obtain⟨ts,g1,g2,_⟩:=I1.tuple (SqT.of (K:=X.K) ha)
  obtain⟨o,go,gc,n,gd⟩:=g2
  exact⟨_,a,List.getElem?_eq_getElem hi,e1,rfl,o,ts.toArray,n,go,gc,gd,by simpa using AV g1⟩
 have hu:=hr.un
 refine vJ (key:=λi=>nss.getD i []) (I1.ok.hd hc) (by omega) pl.isList (λi u e=>?_) (by simp;omega) λh2 tk D up=>?_
 ·obtain⟨ns,a,n1,_,rfl,hk⟩:=each i u (by simpa using e)
  refine⟨a,rfl,?_⟩
  have:nss.getD i []=ns:=by rw[List.getD_eq_getElem?_getD,n1];rfl
  rw[this];exact hk
 refine Calls.spliced_nil ?_
 obtain⟨es,ST,d1,d2,d3⟩:=D
 have keyAt:∀{ns:List Int} {a:Addr},IsTupleKey (intKind X.prog X.w) s1.heap ns a->IsTupleKey (intKind X.prog X.w) h2 ns a:=λ⟨o,its,n,g1,g2⟩=>⟨o,its,n,up _ _ g1,g2⟩
 have elem:∀e∈es.toList,∃(i:Nat) (ns:List Int) (a:Addr),nss[i]? = some ns/\vs[i]? = some (.ref a)/\e.2 = .ref a/\IsTupleKey (intKind X.prog X.w) h2 ns a:=λe he=>by
  obtain⟨j,hj,ej⟩:=d1 e he
  obtain⟨ns,a,n1,n2,n3,hk⟩:=each j e.2 (by simpa using ej)
  exact⟨j,ns,a,n1,n2,n3,keyAt hk⟩
 refine rA (s:={ s1 with heap:=h2,toks:=tk }) (A:=X.A) (I1.ok.hd hc) ST (by simp at d3;omega) (nss:=nss) hne (λe he=>?_) λh3 Dd out mss c big g1 g2 g3 g4 g5 g6 up3=>?_
 ·obtain⟨i,ns,a,n1,n2,n3,hk⟩:=elem e he
  exact⟨ns,List.mem_of_getElem? n1,a,n3,hk⟩
 have kp:∀b o,s1.heap.get? b=some o->h3.get? b=some o:=λb o e=>up3 b o (up b o e)
 have I3:Inv X pins σ H1 { s1 with heap:=h3,toks:=tk }:=I1.kept kp
 have szS:s1.heap.objs.size<h2.objs.size:=by obtain⟨⟨ep,t,ho,_⟩,_⟩:=ST;exact Heap.lt_size ho
 have big2:s1.heap.objs.size<=Dd:=by have:h2.objs.size<=Dd:=big;omega
 have hS0:H1 Dd=none:=I1.hok.fresh big2
 have tupAt:∀{i:Nat} {ns:List Int} {a:Addr},nss[i]? = some ns->vs[i]? = some (.ref a)->H1 a=some (.tup (ns.map V.int)):=λ{i ns a} n1 n2=>by
  obtain⟨w,f1,f2⟩:=rr.get (i:=i) (d:=jP ns) (by rw[List.getElem?_map,n1];rfl)
  rw[n2] at f1;cases f1
  obtain⟨b,e,hb⟩:=Reps.tupI_inv f2
  cases e;exact hb
 obtain⟨ws,VV,RR⟩:=CB (K:=X.K) (H:=H1) out mss g2.1 λi v e=>by
  obtain⟨x,hx,ex⟩:=g3 v (List.mem_of_getElem? e)
  obtain⟨j,ns,a,n1,n2,n3,hk⟩:=elem x hx
  obtain⟨b,eb,hb⟩:=g2.2 i v e
  rw[<-ex,n3] at eb;cases eb
  refine⟨a,by rw[<-ex,n3],?_⟩
  have hk3:IsTupleKey (intKind X.prog X.w) h3 ns a:=by obtain⟨o,its,n,q1,q2⟩:=hk;exact⟨o,its,n,up3 _ _ q1,q2⟩
  rw[hb.inj hk3]
  exact tupAt n1 n2
 have lo:out.length<=64:=by rw[g2.1,g6];simp at d3;omega
 have lw:=VV.length
 have I4:=I1.trackO (a:=Dd) (w:=.lst ws) I3 big2 hS0 ⟨by rw[sizeLine_eq];omega,out,c,VV,g1⟩
 refine⟨.ref Dd,_,I4,rfl,kq _ _ _ H1 (hP mss g5 (λns=>?_) (by rw[g6];simp at d3;omega)) s01 hS0 RR⟩
 rw[g4 ns]
 constructor
 ·rintro⟨x,hx,a,e1,e2⟩
  obtain⟨j,ms,b,n1,n2,n3,hk⟩:=elem x hx
  rw[e1] at n3;cases n3
  rw[e2.inj hk];exact List.mem_of_getElem? n1
 ·intro h
  obtain⟨j,hj,rfl⟩:=List.getElem_of_mem h
  obtain⟨y,hy,b,e1,e2⟩:=d2 j (by simp;omega)
  refine⟨y,hy,b,e1,?_⟩
  have:nss.getD j []=nss[j]:=by simp[hj]
  rw[this] at e2;exact e2
theorem DV (hml:X.mg "list" = none) (hmz:X.mg "reversed" = none) (hc:X.calm=true) (h:DB X e te) (hgl:Gl X "list":=by rfl) (hgz:Gl X "reversed":=by rfl)
  (hs:starEach [.Call (.Name "reversed" pz) [e] [] posz] X.env=[(false,eval (.Call (.Name "reversed" pz) [e] [] posz) X.env)]:=by rfl) (hn:starEach [] X.env=[]:=by rfl) (h1:starEach [e] X.env=[(false,eval e X.env)]:=by rfl) :
  DO X (.Call (.Name "list" p) [.Call (.Name "reversed" pz) [e] [] posz] [] pos) (uH te):=by
 intro pins s σ H Q I hh_0
 obtain⟨ρ,P,st,q,kq⟩:=hh_0
 refine wpAny_Call_Name_kw (fY I hgl hml pI ?_)
 refine PyProof.Rows.callWith_type1 ?_ (by rw[hs,hn]) (by rw[hn];rfl)
 rw[hs]
 show wpAny _ _ (spliced ((false,eval (.Call (.Name "reversed" pz) [e] [] posz) X.env)::backTo pos [])) _ _ s
 refine Calls.spliced_cons (wpAny_Call_Name_kw (fY I hgz hmz mG ?_))
 refine PyProof.Rows.callWith_type1 (thn (fZ h h1 hn posz pins s σ H (λvs H1=>∃(ds:List D) (v:V),vs=[v]/\Same H H1/\RepB X.K H1 (.lst ds) v/\P ds.reverse) I
  ⟨ρ,_,st,q,λx v H1 hx s1 r1=>?_⟩) λus s1 ⟨vs,H1,I1,r1,q1⟩=>?_) (by rw[h1,hn]) (by rw[hn];rfl)
 ·obtain⟨ds,rfl,a1⟩:=hx
  exact⟨ds,v,rfl,s1,r1,a1⟩
 obtain⟨ds,v,rfl,s01,rb,hP⟩:=q1
 obtain⟨l,vs,rfl,hq,rr⟩:=rb.lst
 obtain⟨u,rfl,rx⟩:=iU r1
 cases rx
 obtain⟨its,rv,pl,hz⟩:=I1.list hq
 have l1:=rr.length
 have l2:=rv.length
 have lt:l<s1.heap.objs.size:=by obtain⟨o,e,_⟩:=pl.isList;exact Heap.lt_size e
 refine call_reversed_list pl.isList ?_
 refine Calls.spliced_nil ?_
 have g0:(s1.heap.push (revObj l ((its.toArray.size:Int)-1))).get? s1.heap.objs.size=some (revObj l ((its.toArray.size:Int)-1)):=Heap.get?_push_size _ rfl
 have k1:∀b o,s1.heap.get? b=some o->(s1.heap.push (revObj l ((its.toArray.size:Int)-1))).get? b=some o:=λb o e=>Heap.get?_push_of_some _ e
 have z1:(s1.heap.push (revObj l ((its.toArray.size:Int)-1))).objs.size=s1.heap.objs.size+1:=Heap.size_push ..
 generalize s1.heap.push (revObj l ((its.toArray.size:Int)-1))=h2 at g0 k1 z1
 refine vH (s:={ s1 with heap:=h2 }) (A:=X.A) (l:=l) (I1.ok.hd hc) (Nat.ne_of_lt lt) (by simp;omega) ⟨_,g0,rfl,rfl⟩ (pl.isList.at λo e=>k1 _ o e) λh3 c g1 up=>?_
 show EP X pins σ Q (.ref h2.objs.size) _
 rw[show (Shared.heap { s1 with heap:=h2 }).objs.size=s1.heap.objs.size+1 from z1] at g1
 rw[z1]
 have kp:∀b o,s1.heap.get? b=some o->h3.get? b=some o:=λb o e=>up b o (Nat.ne_of_lt (Heap.lt_size e)) (k1 b o e)
 have I3:Inv X pins σ H1 { s1 with heap:=h3 }:=I1.kept (t':=s1.toks) kp
 have hS0:H1 (s1.heap.objs.size+1)=none:=I1.hok.fresh (Nat.le_succ _)
 have VV:Vals vs.reverse its.reverse:=by
  clear hq pl hz l1 l2 rr g1 g0
  induction rv with
  | nil=>exact .nil
  | cons r t ih =>
   simp only[List.reverse_cons]
   exact Vals.append ih (.cons r .nil)
 have I4:=I1.trackO (a:=s1.heap.objs.size+1) (w:=.lst vs.reverse) I3 (Nat.le_succ _) hS0 ⟨by simp;omega,its.reverse,c,VV,by simpa using g1⟩
 exact⟨.ref (s1.heap.objs.size+1),_,I4,rfl,kq _ _ _ H1 hP s01 hS0 rr.reverse⟩
end
section
variable {X:Cx} {tg:Expr}
noncomputable def YZ (lo:Int) (n:Nat):List D:=(List.range n).map λk:Nat=>D.int (lo+(k:Int)*2)
structure StpOk (j:Int):Prop where
 lo:-(2 ^ 60)<=j
 hi:j<2 ^ 60
noncomputable def WQ (t:RA):RA:=λρ Q=>t ρ λds=>match ds with
 | [.int i,.int j,.int c]=>(StpOk i/\StpOk j/\c=2)/\Q (YZ i ((j-i+1) / 2).toNat)
 | _=>False
end
noncomputable def dL:RS :=
 aU (bD 4 (r2 cH (aA 2) (aA 3)))
 (aU (bD 2 (aR 3))
 (bD 3 (aR 4)))
noncomputable def dE:RS :=
 aU (bD 2 (rCB xW (aD (aR 0) (aK))))
 (aU (bD 3 (rCB xW (aD (aR 1) (aK))))
 (aU (nM (bF (r2 (jE true) (aA 3) (rC (.int 0)))) (dL))
 (cC (aR 2))))
noncomputable def fR:RS :=
 cC (uG (r1 (xX "int") (aR 0)) (OE (r1 (xX "bool") (aR 0))))
noncomputable def eF:RS :=
 WK 0 1 (aD (aR 1) (aD (r2 cH (aA 0) (aA 1)) (aK)))
noncomputable def eB:RS :=
 aU (bD 0 (rCB xW (aD (aR 0) (aK))))
 (aU (bD 1 (rCB xW (aD (aR 1) (aK))))
 (aU (nM (bF (r2 (eJ λi j=>decide (j<i)) (aA 1) (rC (.int 0)))) (eF))
 (cC (aR 0))))
noncomputable def sJ:RS :=
 aU (bD 3 (r2 bV (r2 cI (r2 dIx (aA 1) (rC (.int 0))) (r2 dIx (aA 0) (rC (.int 0)))) (r2 cI (r2 dIx (aA 2) (rC (.int 1))) (r2 dIx (aA 0) (rC (.int 1))))))
 (aU (bD 4 (r2 bV (r2 cI (r2 dIx (aA 1) (rC (.int 1))) (r2 dIx (aA 0) (rC (.int 1)))) (r2 cI (r2 dIx (aA 2) (rC (.int 0))) (r2 dIx (aA 0) (rC (.int 0))))))
 (cC (r2 cI (aA 3) (aA 4))))
noncomputable def dN:RS :=
 HI 1
noncomputable def jL (dR:FD):RS :=
 aU (nM (BZ (bF (r2 (eJ λi j=>decide (j<i)) (r1 dU (aA 1)) (rC (.int 1)))) (bF (r2 (eJ λi j=>decide (i<=j)) (aY dR (aD (r2 dIx (aA 1) (r1 pL (rC (.int 2)))) (aD (r2 dIx (aA 1) (r1 pL (rC (.int 1)))) (aD (aR 2) (aK))))) (rC (.int 0))))) (dN))
 (oS 1 (aR 2))
noncomputable def fS (dR:FD):RS :=
 aU (iO 1 (nK (aK)))
 (aU (iB (riL (aR 0)) (aW 2) (jL dR))
 (cC (uI (aA 1) (eW) (gZ (r1 pL (rC (.int 1)))))))
noncomputable def kB (F_half_round:FD):RS :=
 aU (bD 1 ((λρ Q=>(uJ (aA 0)) ρ λds=>Q (.lst ds))))
 (cC (r2 kG (aY F_half_round (aD (aR 1) (aK))) (aY F_half_round (aD ((λρ Q=>(uH (aA 1)) ρ λds=>Q (.lst ds))) (aK)))))
noncomputable def mR (F_shared_divisor:FD):RS :=
 bD 3 (aY F_shared_divisor (aD (aY F_shared_divisor (aD (aR 3) (aD (aR 4) (aK)))) (aD (aR 5) (aK))))
noncomputable def kC (cL:FD) (F_shared_divisor:FD):RS :=
 aU (bD 2 (aY cL (aD (aR 1) (aK))))
 (aU (eK (bF (r2 (eJ λi j=>decide (i<j)) (r1 dU (aA 2)) (rC (.int 3)))) (cC (rC .non)) (cS))
 (aU (bD 3 (aR 0))
 (aU (iB (riL (aR 2)) (gE 2 (bK (aW 4) (bK (aW 5) (gD)))) (mR F_shared_divisor))
 (cC (iC (aD (r2 cR (aA 0) (aA 3)) (aD (r1 tD ((λρ Q=>(fV (riL (aR 2)) 2 [3] (gE 2 (bK (aW 0) (bK (aW 1) (gD)))) (iC (aD (r2 cR (aA 0) (aA 2)) (aD (r2 cR (aA 1) (aA 2)) (aK))))) ρ λds=>Q (.lst ds)))) (aK))))))))
noncomputable def jJ:RS :=
 bD 0 (r2 cR (aA 0) (aA 1))
noncomputable def fP:RS :=
 aU (iB (uK (aD (aR 2) (aK))) (aW 3) (jJ))
 (cC (r2 cH (aA 0) (aA 1)))
noncomputable def eG:RS :=
 aU (bD 4 (rC (.int 0)))
 (aU (eK (bF (r2 (eJ λi j=>decide (j<i)) (r1 dU (aA 0)) (rC (.int 0)))) (bD 4 (r2 cH (r2 dIx (aA 0) (r2 cH (aA 3) (rCB wM (aD (r1 dU (aA 0)) (aD (rC (.int 63)) (aK)))))) (r2 cF (r2 pM (rC (.int 10)) (rC (.int 60))) (rC (.int 7))))) (cS))
 (aU (bD 5 (r2 cH (aA 3) (aA 1)))
 (qI 2 (r2 cH (r2 cF (r2 cF (r2 bV (r2 dIx (aA 2) (aA 5)) (rC (.int 48271))) (aA 4)) (r2 bV (aA 3) (aA 3))) (r2 cF (r2 pM (rC (.int 10)) (rC (.int 60))) (rC (.int 7)))) (aR 5))))
noncomputable def eD:RS :=
 aU (iO 2 (fV (uK (aD (aR 1) (aK))) 1 [] (aW 0) (rC (.int 0))))
 (aU (iB (uK (aD (rCB wK (aD (aR 1) (aD (rCB wM (aD (r1 dU (aA 0)) (aD (rC (.int 63)) (aK)))) (aK)))) (aK))) (aW 3) (eG))
 ((λE ρ=>(cC (aR 2)) E (rE 2 ρ))))
noncomputable def jK:RS :=
 oS 2 (r2 cF (r2 cF (r2 dIx (aA 2) (r1 pL (rC (.int 1)))) (rC (.int 1))) (r2 cH (r2 cR (aA 0) (r2 cF (rC (.int 4)) (r2 bV (rC (.int 3)) (aA 3)))) (rC (.int 3))))
noncomputable def fQ:RS :=
 aU (iO 2 (nK (aD (r2 cI (r2 cH (aA 0) (rC (.int 4))) (rC (.int 4))) (aK))))
 (aU (iB (uK (aD (r2 cI (aA 1) (rC (.int 1))) (aK))) (aW 3) (jK))
 ((λE ρ=>(cC (aR 2)) E (rE 2 ρ))))
noncomputable def kM:RS :=
 cC (r2 dIx ((λρ Q=>(nK (aD (rC (.int 1)) (aD (r2 cF (rC (.int 1)) (r2 cH (r2 cR (aA 0) (rC (.int 3))) (rC (.int 12)))) (aD (r2 cF (rC (.int 1)) (r2 cH (r2 cR (aA 0) (rC (.int 3))) (r2 pM (rC (.int 10)) (rC (.int 9))))) (aK))))) ρ λds=>Q (.lst ds))) (r2 cH (aA 0) (rC (.int 3))))
noncomputable def lK (As:FD):RS :=
 bD 2 (aY As (aD (aY As (aD (aR 2) (aD (aR 3) (aK)))) (aD (aR 4) (aK))))
noncomputable def iP (As:FD):RS :=
 aU (bD 2 (aR 0))
 (aU (iB (riL (aR 1)) (gE 2 (bK (aW 3) (bK (aW 4) (gD)))) (lK As))
 (aU (iO 5 (fV (riL (aR 1)) 2 [2] (gE 2 (bK (aW 0) (bK (aW 1) (gD)))) (iC (aD (r2 cR (aA 0) (aA 2)) (aD (r2 cR (aA 1) (aA 2)) (aK))))))
 (aU (bD 6 (FA (aA 5) (r1 GD (aA 5))))
 (cC (iC (aD (r2 cR (aA 0) (aA 2)) (aD (r1 tD (r2 kG (uI (aA 5) (gZ (aR 6)) (eW)) (uI (aA 5) (eW) (gZ (aR 6))))) (aK))))))))
noncomputable def fT:RS :=
 cC ((λρ Q=>(FB (aA 0) (r2 kG (uI (aA 0) (gZ (rC (.int 1))) (eW)) (uI (aA 0) (eW) (gZ (rC (.int 1)))))) ρ λds=>Q (.lst ds)))
noncomputable def mB:RS :=
 cC (r2 cI (r2 cF (r2 bV (r2 dIx (aA 0) (rC (.int 0))) (r2 dIx (aA 1) (rC (.int 0)))) (r2 bV (r2 dIx (aA 0) (rC (.int 1))) (r2 dIx (aA 1) (rC (.int 1))))) (r2 bV (r2 dIx (aA 0) (rC (.int 2))) (aA 2)))
noncomputable def jM:RS :=
 aU (bD 5 (r2 cI (r2 dIx (aA 4) (rC (.int 0))) (r2 dIx (aA 3) (rC (.int 0)))))
 (aU (bD 6 (r2 cI (r2 dIx (aA 4) (rC (.int 1))) (r2 dIx (aA 3) (rC (.int 1)))))
 (oS 2 (iC (aD (r2 bV (aA 1) (aA 6)) (aD (r2 bV (r1 pL (aA 1)) (aA 5)) (aD (r2 cI (r2 bV (aA 6) (r2 dIx (aA 3) (rC (.int 0)))) (r2 bV (aA 5) (r2 dIx (aA 3) (rC (.int 1))))) (aK)))))))
noncomputable def fU (F_neighbours:FD):RS :=
 aU (bD 1 (r2 dIx (aA 0) (rC (.int 0))))
 (aU (iO 2 (nK (aK)))
 (aU (iB (riL (aY F_neighbours (aD (r2 dIx (aA 0) (rC (.int 1))) (aK)))) (gE 2 (bK (aW 3) (bK (aW 4) (gD)))) (jM))
 ((λE ρ=>(cC (aR 2)) E (rE 2 ρ)))))
noncomputable def kL (Bf:FD):RS :=
 oS 2 (rCB wK (aD (r2 cI (aY Bf (aD (aR 1) (aD (rC (.int 11)) (aD (aR 3) (aK))))) (rC (.int 5))) (aD (r1 pL (rC (.int 1))) (aK))))
noncomputable def gJ (Bf:FD):RS :=
 aU (bD 1 (r2 cF (r2 bV (aA 1) (rC (.int 982451653))) (r2 bV (rC (.int 314159265358979)) (r2 pM (rC (.int 10)) (rC (.int 11))))))
 (aU (iO 2 (nK (aK)))
 (aU (iB (uK (aD (r1 dU (aA 0)) (aK))) (aW 3) (kL Bf))
 (aU (qI 2 (rCB wK (aD (rC (.int 1)) (aD (r2 cF (r2 cI (rC (.int 1)) (r1 DQ (aA 2))) (r2 dIx (aA 2) (r2 cH (aA 1) (r1 dU (aA 0))))) (aK)))) (r2 cH (aA 1) (r1 dU (aA 0))))
 (aU ((λE ρ=>(bD 4 (r1 DQ ((λρ Q=>(fV (HK (aR 2) (aR 0)) 2 [] (gE 2 (bK (aW 0) (bK (aW 1) (gD)))) (r2 bV (aA 0) (r2 dIx (aA 1) (rC (.int 0))))) ρ λds=>Q (.lst ds))))) E (rE 2 ρ)))
 (aU ((λE ρ=>(bD 5 (r1 DQ ((λρ Q=>(fV (HK (aR 2) (aR 0)) 2 [] (gE 2 (bK (aW 0) (bK (aW 1) (gD)))) (r2 bV (aA 0) (r2 dIx (aA 1) (rC (.int 1))))) ρ λds=>Q (.lst ds))))) E (rE 2 ρ)))
 (cC (iC (aD (aR 4) (aD (aR 5) (aD (r1 DQ (aA 2)) (aK)))))))))))
noncomputable def iR:RS :=
 aU (bD 4 (rCB xW (aD (aR 1) (aK))))
 (aU (bD 5 (rCB xW (aD (aR 3) (aK))))
 (cC (iC (aD (r2 cF (r2 bV (r2 dIx (aA 0) (rC (.int 0))) (aA 5)) (r2 bV (r2 dIx (aA 2) (rC (.int 0))) (aA 4))) (aD (r2 cF (r2 bV (r2 dIx (aA 0) (rC (.int 1))) (aA 5)) (r2 bV (r2 dIx (aA 2) (rC (.int 1))) (aA 4))) (aD (r2 cF (aA 4) (aA 5)) (aK)))))))
noncomputable def gC (F_crossing:FD):RS :=
 aU (eK (bF (r2 (eJ λi j=>decide (i<=j)) (r2 dIx (aA 3) (rC (.int 1))) (rC (.int 0)))) (oS 2 (iC (aD (r2 dIx (r2 dIx (aA 3) (rC (.int 0))) (rC (.int 0))) (aD (r2 dIx (r2 dIx (aA 3) (rC (.int 0))) (rC (.int 1))) (aD (rC (.int 1)) (aK)))))) (cS))
 (eK (bF (r2 (eJ λi j=>decide (i<j)) (r2 bV (r2 dIx (aA 3) (rC (.int 1))) (r2 dIx (aA 4) (rC (.int 1)))) (rC (.int 0)))) (oS 2 (aY F_crossing (aD (r2 dIx (aA 3) (rC (.int 0))) (aD (r2 dIx (aA 3) (rC (.int 1))) (aD (r2 dIx (aA 4) (rC (.int 0))) (aD (r2 dIx (aA 4) (rC (.int 1))) (aK))))))) (cS))
noncomputable def dP (F_crossing:FD) (F_neighbours:FD):RS :=
 aU (iO 2 (nK (aK)))
 (aU (iB (riL (aY F_neighbours (aD ((λρ Q=>(FB (aA 0) (aA 1)) ρ λds=>Q (.lst ds))) (aK)))) (gE 2 (bK (aW 3) (bK (aW 4) (gD)))) (gC F_crossing))
 ((λE ρ=>(cC (aR 2)) E (rE 2 ρ))))
noncomputable def iS:RS :=
 bD 5 (r2 bV (aA 5) (r2 dIx (aA 6) (rC (.int 2))))
noncomputable def fC (cX:FD) (F_points_within:FD) (cM:FD):RS :=
 aU (bD 2 (r2 dIx (aA 0) (rC (.int 0))))
 (aU (iO 3 (fV (riT (r2 dIx (aA 0) (rC (.int 1)))) 1 [1,2] (aW 0) (aY cX (aD (aR 1) (aD (aR 0) (aD (aR 2) (aK)))))))
 (aU (eK (bF (r2 (eJ λi j=>decide (i<=j)) (r1 GC (aA 3)) (rC (.int 0)))) (cC (aR 0)) (cS))
 (aU (eK (bF (r2 (eJ λi j=>decide (j<=i)) (r1 ML (aA 3)) (rC (.int 0)))) (cC (rC .non)) (cS))
 (aU ((λE ρ=>(bD 4 (aY F_points_within (aD (r2 dIx (aA 0) (rC (.int 1))) (aD (aR 3) (aK))))) E (rE 3 ρ)))
 (aU (bD 5 (rC (.int 1)))
 (aU (iB (riL (aR 4)) (aW 6) (iS))
 (aU (iO 7 (fV (riL (aR 4)) 3 [5] (gE 3 (bK (aW 0) (bK (aW 1) (bK (aW 2) (gD))))) (iC (aD (r2 bV (aA 0) (r2 cR (aA 3) (aA 2))) (aD (r2 bV (aA 1) (r2 cR (aA 3) (aA 2))) (aK))))))
 ((λE ρ=>(cC (aY cM (aD (r2 bV (aA 2) (aA 5)) (aD (aR 7) (aK))))) E (rE 7 ρ))))))))))
noncomputable def fA (Bi:FD):RS :=
 aU (bD 2 (aY Bi (aD (r2 cR (r2 dIx (aA 0) (rC (.int 0))) (rC (.int 4))) (aD (r2 cF (rC (.int 2)) (r2 cH (r2 dIx (aA 0) (rC (.int 0))) (rC (.int 3)))) (aK)))))
 (aU (bD 3 (aY Bi (aD (r2 cR (r2 dIx (aA 0) (rC (.int 1))) (rC (.int 4))) (aD (r2 cF (rC (.int 1)) (r2 cH (r2 dIx (aA 0) (rC (.int 1))) (rC (.int 3)))) (aK)))))
 (aU (bD 4 (r2 cF (r2 cF (r2 bV (rC (.int 2)) (r1 GC ((λρ Q=>(fV (riL (r2 kG (aA 2) (aA 3))) 1 [] (aW 0) (r2 bV (aA 0) (aA 0))) ρ λds=>Q (.lst ds))))) (rC (.int 1))) (r2 cH (r2 dIx (aA 0) (rC (.int 2))) (rC (.int 9)))))
 (aU (bD 5 (r2 kG ((λρ Q=>(fV (riL (aR 2)) 1 [] (aW 0) (iC (aD (aR 0) (aD (r2 bV (aA 0) (aA 0)) (aK))))) ρ λds=>Q (.lst ds))) ((λρ Q=>(fV (OJ (aR 3)) 1 [4] (aW 0) (iC (aD (aR 0) (aD (r2 cI (aA 1) (r2 bV (aA 0) (aA 0))) (aK))))) ρ λds=>Q (.lst ds)))))
 (aU (bD 6 (r2 cF (rC (.int 1)) (r2 cH (r2 dIx (aA 0) (rC (.int 3))) (rC (.int 3)))))
 (aU (bD 7 (r2 cI (r2 cH (r2 cR (r2 dIx (aA 0) (rC (.int 3))) (rC (.int 3))) (rC (.int 7))) (rC (.int 3))))
 (aU (bD 8 (r2 cI (r2 cH (r2 dIx (aA 0) (rC (.int 4))) (rC (.int 7))) (rC (.int 3))))
 (aU (bD 9 (r2 cF (r2 cF (r2 cR (r2 bV (aA 7) (aA 8)) (aA 6)) (rC (.int 1))) (r2 cH (r2 cR (r2 dIx (aA 0) (rC (.int 4))) (rC (.int 7))) (rC (.int 3)))))
 (aU (bD 10 (iC (aD (r2 cI (r2 cH (r2 dIx (aA 0) (rC (.int 5))) (r2 cF (r2 bV (rC (.int 2)) (aA 1)) (rC (.int 1)))) (aA 1)) (aD (r2 cI (r2 cH (r2 dIx (aA 0) (rC (.int 6))) (r2 cF (r2 bV (rC (.int 2)) (aA 1)) (rC (.int 1)))) (aA 1)) (aK)))))
 (cC ((λρ Q=>(fV (riL (aR 5)) 2 [6,7,10,8,9] (gE 2 (bK (aW 0) (bK (aW 1) (gD)))) (iC (aD (r2 cF (r2 cF (r2 bV (aA 2) (aA 0)) (r2 bV (aA 3) (aA 1))) (r2 dIx (aA 4) (rC (.int 0)))) (aD (r2 cF (r2 cF (r2 bV (aA 5) (aA 0)) (r2 bV (aA 6) (aA 1))) (r2 dIx (aA 4) (rC (.int 1)))) (aK))))) ρ λds=>Q (.lst ds))))))))))))
noncomputable def iQ:RS :=
 aU (bD 6 (r2 dIx (aA 3) (r2 cI (aA 5) (rC (.int 1)))))
 (aU (bD 7 (r2 cI (r2 bV (r2 dIx (aA 1) (rC (.int 0))) (aA 2)) (r2 bV (r2 dIx (aA 6) (rC (.int 0))) (r2 dIx (aA 1) (rC (.int 2))))))
 (aU (bD 8 (r2 cI (r2 bV (r2 dIx (aA 1) (rC (.int 1))) (aA 2)) (r2 bV (r2 dIx (aA 6) (rC (.int 1))) (r2 dIx (aA 1) (rC (.int 2))))))
 (aU (bD 9 (r2 cI (r2 bV (r2 cI (r2 dIx (r2 dIx (aA 3) (aA 5)) (rC (.int 0))) (r2 dIx (aA 6) (rC (.int 0)))) (aA 8)) (r2 bV (r2 cI (r2 dIx (r2 dIx (aA 3) (aA 5)) (rC (.int 1))) (r2 dIx (aA 6) (rC (.int 1)))) (aA 7))))
 (eK (rOr (bF (r2 (AE false) (aA 4) (rC .non))) (bF (r2 (eJ λi j=>decide (i<j)) (aA 9) (aA 4)))) (bD 4 (aR 9)) (cS)))))
noncomputable def eY:RS :=
 aU (SB (aR 0) (gE 2 (bK (aW 2) (bK (aW 3) (gD)))))
 (aU (bD 4 (rC .non))
 (aU (iB (uK (aD (r1 dU (aA 3)) (aK))) (aW 5) (iQ))
 (cC (r2 cI (rCB LY (aD (r2 (eJ λi j=>decide (j<i)) (aA 4) (rC (.int 0))) (aK))) (rCB LY (aD (r2 (eJ λi j=>decide (i<j)) (aA 4) (rC (.int 0))) (aK)))))))
noncomputable def gK:RS :=
 aU (bD 3 (r2 bV (r2 cI (r2 dIx (aA 1) (rC (.int 0))) (r2 dIx (aA 0) (rC (.int 0)))) (r2 cI (r2 dIx (aA 2) (rC (.int 1))) (r2 dIx (aA 1) (rC (.int 1))))))
 (cC (r2 cI (aA 3) (r2 bV (r2 cI (r2 dIx (aA 1) (rC (.int 1))) (r2 dIx (aA 0) (rC (.int 1)))) (r2 cI (r2 dIx (aA 2) (rC (.int 0))) (r2 dIx (aA 1) (rC (.int 0)))))))
noncomputable def eA (Az:FD):RS :=
 aU (eK (rOr (qH (bF (r1 (xX "tuple") (aR 1)))) (bF (r2 (jE true) (r1 dU (aA 1)) (rC (.int 2))))) (cC (rC (.bl false))) (cS))
 (eK (rOr (qH (bF (aY Az (aD (r2 dIx (aA 1) (rC (.int 0))) (aK))))) (qH (bF (aY Az (aD (r2 dIx (aA 1) (rC (.int 1))) (aK)))))) (cC (rC (.bl false))) (cS))
noncomputable def cK (Az:FD):RS :=
 aU (eK (rOr (qH (bF (r1 (xX "tuple") (aR 0)))) (rOr (bF (r2 (jE true) (r1 dU (aA 0)) (rC (.int 2)))) (rOr (qH (bF (aY Az (aD (r2 dIx (aA 0) (rC (.int 0))) (aK))))) (bF (r2 (eJ λi j=>decide (i<j)) (r2 dIx (aA 0) (rC (.int 0))) (rC (.int 1))))))) (cC (rC (.bl false))) (cS))
 (aU (eK (rOr (qH (bF (r1 (xX "tuple") (r2 dIx (aA 0) (rC (.int 1)))))) (bF (r2 (eJ λi j=>decide (i<j)) (r1 dU (r2 dIx (aA 0) (rC (.int 1)))) (rC (.int 3))))) (cC (rC (.bl false))) (cS))
 (aU (iB (riT (r2 dIx (aA 0) (rC (.int 1)))) (aW 1) (eA Az))
 (cC (rC (.bl true)))))
noncomputable def gB (As:FD) (Bm:FD):RS :=
 aU (bD 3 (aY As (aD (aY As (aD (aR 3) (aD (r2 dIx (r2 dIx (aA 2) (aA 5)) (rC (.int 0))) (aK)))) (aD (r2 dIx (r2 dIx (aA 2) (aA 5)) (rC (.int 1))) (aK)))))
 (aU (eK (bF (r2 (eJ λi j=>decide (i<=j)) (aY Bm (aD (r2 dIx (aA 2) (r2 cI (aA 5) (rC (.int 2)))) (aD (r2 dIx (aA 2) (r2 cI (aA 5) (rC (.int 1)))) (aD (r2 dIx (aA 2) (aA 5)) (aK))))) (rC (.int 0)))) (cC (rC (.bl false))) (cS))
 (eK (BZ (bF (r2 (UM) (r2 dIx (aA 2) (r2 cI (aA 5) (rC (.int 1)))) (r2 dIx (aA 2) (r2 cI (aA 5) (rC (.int 2)))))) (bF (r2 (UM) (r2 dIx (aA 2) (r2 cI (aA 5) (rC (.int 1)))) (r2 dIx (aA 2) (aA 5))))) (bD 4 (r2 cF (aA 4) (rC (.int 1)))) (cS)))
noncomputable def dM (As:FD) (Av:FD) (Bm:FD):RS :=
 aU (eK (qH (bF (aY Av (aD (aR 0) (aK))))) (cC (rC (.bl false))) (cS))
 (aU (SB (aR 0) (gE 2 (bK (aW 1) (bK (aW 2) (gD)))))
 (aU (bD 3 (aR 1))
 (aU (bD 4 (rC (.int 0)))
 (aU (iB (uK (aD (r1 dU (aA 2)) (aK))) (aW 5) (gB As Bm))
 (cC (uG (r2 (jE false) (aA 3) (rC (.int 1))) (uG (r2 (jE false) (aA 4) (rC (.int 1))) (r2 (dEq) (r2 dIx (aA 2) (rC (.int 0))) (r1 GD (aA 2))))))))))
noncomputable def gL (F_part_within:FD):RS :=
 aU (bD 2 (aY F_part_within (aD (aR 2) (aD (aR 3) (aK)))))
 (eK (bF (r2 (AE false) (aA 2) (rC .non))) (cC (rC .non)) (cS))
noncomputable def lZ (F_part_within:FD) (F_side_lines:FD):RS :=
 aU (bD 2 (aR 0))
 (aU (iB (riL (aY F_side_lines (aD (aR 1) (aK)))) (aW 3) (gL F_part_within))
 (cC (aR 2)))
noncomputable def eX:RS :=
 aU (bD 2 (r2 cH (aA 1) (r1 dU (aA 0))))
 (aU (bD 3 (r2 dIx (aA 0) (aA 2)))
 (aU (bD 4 (r2 dIx (aA 0) (r2 cI (aA 2) (rC (.int 1)))))
 (aU (bD 5 (iC (aD (r2 cI (r2 cF (r2 dIx (aA 3) (rC (.int 0))) (r2 dIx (aA 4) (rC (.int 0)))) (r2 dIx (r2 dIx (aA 0) (r2 cH (r2 cF (aA 2) (rC (.int 1))) (r1 dU (aA 0)))) (rC (.int 0)))) (aD (r2 cI (r2 cF (r2 dIx (aA 3) (rC (.int 1))) (r2 dIx (aA 4) (rC (.int 1)))) (r2 dIx (r2 dIx (aA 0) (r2 cH (r2 cF (aA 2) (rC (.int 1))) (r1 dU (aA 0)))) (rC (.int 1)))) (aK)))))
 (cC ((λρ Q=>(nK (aD (aR 3) (aD (aR 4) (aD (aR 5) (aK))))) ρ λds=>Q (.lst ds)))))))
noncomputable def fB (Bj:FD) (Ax:FD) (Aw:FD):RS :=
 aU (eK (bF (r2 (jE false) (r2 cH (r2 dIx (aA 0) (rC (.int 15))) (rC (.int 6))) (rC (.int 1)))) (cC (aY Ax (aD (aR 2) (aD (r1 sD (aA 1)) (aK))))) (cS))
 (aU (eK (bF (r2 (jE false) (r2 cH (r2 dIx (aA 0) (rC (.int 15))) (rC (.int 6))) (rC (.int 2)))) (cC (aY Ax (aD (aR 2) (aD (aY Bj (aD (aR 1) (aD (r2 cR (r2 dIx (aA 0) (rC (.int 15))) (rC (.int 6))) (aK)))) (aK))))) (cS))
 (aU (bD 3 (r2 dIx ((λρ Q=>(nK (aD (rC (.int 6)) (aD (rC (.int 6)) (aD (rC (.int 6)) (aD (rC (.int 40)) (aK)))))) ρ λds=>Q (.lst ds))) (r2 cH (r2 cR (r2 dIx (aA 0) (rC (.int 15))) (rC (.int 6))) (rC (.int 4)))))
 (aU (bD 4 (aY Aw (aD (uI (aA 0) (gZ (rC (.int 8))) (gZ (rC (.int 15)))) (aD (aR 3) (aK)))))
 (aU (bD 5 (r2 cF (rC (.int 1)) (r2 cH (r2 cR (r2 dIx (aA 0) (rC (.int 16))) (rC (.int 4))) (rC (.int 9)))))
 (aU (bD 6 (iC (aD (r2 cR (r2 bV (r2 dIx (r2 dIx (aA 1) (rC (.int 0))) (rC (.int 0))) (aA 5)) (aA 2)) (aD (r2 cR (r2 bV (r2 dIx (r2 dIx (aA 1) (rC (.int 0))) (rC (.int 1))) (aA 5)) (aA 2)) (aK)))))
 (cC (aY Ax (aD (aR 5) (aD ((λρ Q=>(fV (riL (aR 4)) 2 [6] (gE 2 (bK (aW 0) (bK (aW 1) (gD)))) (iC (aD (r2 cF (aA 0) (r2 dIx (aA 2) (rC (.int 0)))) (aD (r2 cF (aA 1) (r2 dIx (aA 2) (rC (.int 1)))) (aK))))) ρ λds=>Q (.lst ds))) (aK))))))))))
noncomputable def hE (At:FD):RS :=
 eK (rOr (bF (r2 (eJ λi j=>decide (i<j)) (aY At (aD (aR 1) (aD (iC (aD (aR 3) (aD (aR 4) (aD (r2 dIx (aA 0) (rC (.int 0))) (aK))))) (aK)))) (rC (.int 0)))) (bF (r2 (eJ λi j=>decide (i<j)) (aY At (aD (aR 2) (aD (iC (aD (aR 3) (aD (aR 4) (aD (r2 dIx (aA 0) (rC (.int 0))) (aK))))) (aK)))) (rC (.int 0))))) (cC (rC (.bl false))) (cS)
noncomputable def eE (Bc:FD) (At:FD):RS :=
 aU (eK (bF (r2 (AE false) (aA 0) (rC .non))) (cC (rC (.bl true))) (cS))
 (aU (eK (qH (bF (aY Bc (aD (aR 0) (aK))))) (cC (rC (.bl false))) (cS))
 (aU (iB (riT (r2 dIx (aA 0) (rC (.int 1)))) (gE 2 (bK (aW 3) (bK (aW 4) (gD)))) (hE At))
 (cC (rC (.bl true)))))
noncomputable def mQ (At:FD) (Bk:FD):RS :=
 aU (bD 8 (aY Bk (aD (aR 2) (aD (r2 cH (aA 7) (r2 pM (rC (.int 10)) (rC (.int 18)))) (aK)))))
 (aU (bD 8 (iC (aD (r2 dIx (aA 8) (rC (.int 0))) (aD (r2 dIx (aA 8) (rC (.int 1))) (aD (r2 bV (r2 dIx (aA 8) (rC (.int 2))) (aA 3)) (aK))))))
 (aU (bD 9 (uG (r2 (jE false) (aY At (aD (aR 4) (aD (aR 8) (aK)))) (rC (.int 1))) (r2 (jE false) (aY At (aD (aR 5) (aD (aR 8) (aK)))) (rC (.int 1)))))
 (eK (BZ (bF (aR 9)) (rOr (bF (r2 (AE false) (aA 6) (rC .non))) (bF (r2 (jE true) (aY At (aD (aR 6) (aD (aR 8) (aK)))) (rC (.int 1)))))) (cC (rC (.bl false))) (cS))))
noncomputable def kA (Ax:FD) (At:FD) (Bk:FD) (Bh:FD) (Bq:FD) (Aw:FD) (Bl:FD) (cA:FD):RS :=
 aU (bD 1 (aY Bh (aD (aR 0) (aD (rC (.int 17)) (aK)))))
 (aU (bD 2 (aY Aw (aD (aR 1) (aD (r2 dIx ((λρ Q=>(nK (aD (rC (.int 10)) (aD (r2 pM (rC (.int 10)) (rC (.int 30))) (aK)))) ρ λds=>Q (.lst ds))) (r2 cH (r2 dIx (aA 1) (rC (.int 7))) (rC (.int 2)))) (aK)))))
 (aU (bD 3 (r2 cF (rC (.int 1)) (r2 cH (r2 dIx (aA 1) (rC (.int 16))) (rC (.int 4)))))
 (aU (bD 4 (aY Ax (aD (aR 3) (aD (aR 2) (aK)))))
 (aU (bD 5 (aY Bl (aD (aR 1) (aD (aR 2) (aD (aR 3) (aK))))))
 (aU (bD 6 (aY cA (aD (aR 4) (aD (aR 5) (aK)))))
 (aU (eK (rOr (qH (bF (aY Bq (aD (aR 6) (aD (aR 4) (aD (aR 5) (aK))))))) (rOr (bF (r2 (dNe) (aY cA (aD (aR 5) (aD (aR 4) (aK)))) (aA 6))) (bF (r2 (dNe) (aY cA (aD (aR 4) (aD (aR 4) (aK)))) (aA 4))))) (cC (rC (.bl false))) (cS))
 (aU (iB (riL (r2 kG ((λρ Q=>(HJ (aA 0) (eW) (gZ (rC (.int 12)))) ρ λds=>Q (.lst ds))) ((λρ Q=>(nK (aD (r2 dIx (aA 1) (rC (.int 7))) (aK))) ρ λds=>Q (.lst ds))))) (aW 7) (mQ At Bk))
 (cC (rC (.bl true))))))))))
theorem XE {α:Type} (x:α) (xs:List α):atI (x::xs) 0=some x:=by
 unfold atI ixN;simp
theorem XF {α:Type} (x y:α) (xs:List α):atI (x::y::xs) 1=some y:=by
 unfold atI ixN
 rw[if_pos (by decide),if_pos (by simp only[List.length_cons];omega)];rfl
theorem XG {α:Type} (x y z:α) (xs:List α):atI (x::y::z::xs) 2=some z:=by
 unfold atI ixN
 rw[if_pos (by decide),if_pos (by simp only[List.length_cons];omega)];rfl
theorem LH {α:Type} {xs:List α} {i:Int} {j:Nat} {x:α} (h:i=(j:Int)) (e:xs[j]? = some x):atI xs i=some x:=by
 subst h;exact nZ e
theorem UL {x y:D} {Q:D->Prop}:dEq x y Q=(match eqF 6 x y with | some b=>Q (.bl b) | none=>False):=rfl
theorem BL.const {n:Nat} {i:Int} (h:i.natAbs<2 ^ n:=by decide):BL n i:=h
theorem uC {i j:Int} (h:0<=j/\j<=1000000/\i.natAbs<2 ^ 64:=by decide):PowOk i j:=⟨h⟩
theorem gW {j:Int} (h:j≠0:=by decide):ModOk j:=⟨h⟩
theorem GR {n:Nat} (h:n<=1000):n<=sizeLine:=Nat.le_trans h (by decide)
theorem lA {x:D} {xs:List D} {Q:D->Prop}:dIx (.tup (x::xs)) (.int 0) Q=Q x:=by simp only[dIx,XE]
theorem gU {x y:D} {xs:List D} {Q:D->Prop}:dIx (.tup (x::y::xs)) (.int 1) Q=Q y:=by simp only[dIx,XF]
theorem MK {x y z:D} {xs:List D} {Q:D->Prop}:dIx (.tup (x::y::z::xs)) (.int 2) Q=Q z:=by simp only[dIx,XG]
theorem cU {xs:List D} {i:Int} {Q:D->Prop} {x:D} (e:atI xs i=some x) (h:Q x):dIx (.lst xs) (.int i) Q:=by simp only[dIx,e];exact h
theorem sC {xs:List D} {i:Int} {Q:D->Prop} (h0:0<=i) (h1:i<xs.length) (h:∀x,x∈xs->Q x):dIx (.lst xs) (.int i) Q:=by
 have hj:i.toNat<xs.length:=by omega
 exact cU (LH (j:=i.toNat) (by omega) (List.getElem?_eq_getElem hj)) (h _ (List.getElem_mem hj))
theorem fX {xs:List D} {k:Nat} {x:D} {Q:D->Prop} (e:xs[k]? = some x):dIx (.lst xs) (.int (k:Int)) Q=Q x:=by simp only[dIx,nZ e]
theorem MA {a0:D} {r:List D} {Q:D->Prop}:dIx (.lst (a0::r)) (.int 0) Q=Q a0:=fX (k:=0) rfl
theorem MB {a0 a1:D} {r:List D} {Q:D->Prop}:dIx (.lst (a0::a1::r)) (.int 1) Q=Q a1:=fX (k:=1) rfl
theorem MC {a0 a1 a2:D} {r:List D} {Q:D->Prop}:dIx (.lst (a0::a1::a2::r)) (.int 2) Q=Q a2:=fX (k:=2) rfl
theorem MD {a0 a1 a2 a3:D} {r:List D} {Q:D->Prop}:dIx (.lst (a0::a1::a2::a3::r)) (.int 3) Q=Q a3:=fX (k:=3) rfl
theorem ME {a0 a1 a2 a3 a4:D} {r:List D} {Q:D->Prop}:dIx (.lst (a0::a1::a2::a3::a4::r)) (.int 4) Q=Q a4:=fX (k:=4) rfl
theorem MF {a0 a1 a2 a3 a4 a5:D} {r:List D} {Q:D->Prop}:dIx (.lst (a0::a1::a2::a3::a4::a5::r)) (.int 5) Q=Q a5:=fX (k:=5) rfl
theorem MG {a0 a1 a2 a3 a4 a5 a6:D} {r:List D} {Q:D->Prop}:dIx (.lst (a0::a1::a2::a3::a4::a5::a6::r)) (.int 6) Q=Q a6:=fX (k:=6) rfl
theorem MH {a0 a1 a2 a3 a4 a5 a6 a7:D} {r:List D} {Q:D->Prop}:dIx (.lst (a0::a1::a2::a3::a4::a5::a6::a7::r)) (.int 7) Q=Q a7:=fX (k:=7) rfl
theorem MI {a0 a1 a2 a3 a4 a5 a6 a7 a8:D} {r:List D} {Q:D->Prop}:dIx (.lst (a0::a1::a2::a3::a4::a5::a6::a7::a8::r)) (.int 8) Q=Q a8:=fX (k:=8) rfl
theorem MJ {a0 a1 a2 a3 a4 a5 a6 a7 a8 a9:D} {r:List D} {Q:D->Prop}:dIx (.lst (a0::a1::a2::a3::a4::a5::a6::a7::a8::a9::r)) (.int 9) Q=Q a9:=fX (k:=9) rfl
theorem IR {a0 a1 a2 a3 a4 a5 a6 a7 a8 a9 a10:D} {r:List D} {Q:D->Prop}:dIx (.lst (a0::a1::a2::a3::a4::a5::a6::a7::a8::a9::a10::r)) (.int 10) Q=Q a10:=fX (k:=10) rfl
theorem IS {a0 a1 a2 a3 a4 a5 a6 a7 a8 a9 a10 a11:D} {r:List D} {Q:D->Prop}:dIx (.lst (a0::a1::a2::a3::a4::a5::a6::a7::a8::a9::a10::a11::r)) (.int 11) Q=Q a11:=fX (k:=11) rfl
noncomputable def cP (n:Nat) (ds:List D):En:=ds.map (λd=>some (.d d))++List.replicate n none
theorem aX {N:List Str} {ds:List D} (n:Nat) (h:N.length=ds.length+n):aS N ds=cP n ds:=by
 unfold aS cP;rw[h,Nat.add_sub_cancel_left]
theorem VA {i:Int}:JB "int" (.int i)=some true:=rfl
theorem UY {i:Int}:JB "bool" (.int i)=some false:=rfl
theorem UZ {i:Bool}:JB "int" (.bl i)=some true:=rfl
theorem UX {i:Bool}:JB "bool" (.bl i)=some true:=rfl
theorem VB {xs:List D}:JB "tuple" (.tup xs)=some true:=rfl
theorem Ac {α:Type} {x:α}:List.replicate 0 x=[]:=rfl
theorem SC {α:Type} {x:α}:List.replicate 1 x=[x]:=rfl
theorem WL {α:Type} {x:α}:List.replicate 2 x=[x,x]:=rfl
theorem WM {α:Type} {x:α}:List.replicate 3 x=[x,x,x]:=rfl
theorem OH {α:Type} {x:α}:List.replicate 4 x=[x,x,x,x]:=rfl
theorem WN {α:Type} {x:α}:List.replicate 5 x=[x,x,x,x,x]:=rfl
theorem WO {α:Type} {x:α}:List.replicate 6 x=[x,x,x,x,x,x]:=rfl
theorem Ad {α:Type} {x:α}:List.replicate 7 x=[x,x,x,x,x,x,x]:=rfl
theorem YU {α:Type} {x:α}:List.replicate 8 x=[x,x,x,x,x,x,x,x]:=rfl
theorem WP {α:Type} {x:α}:List.replicate 9 x=[x,x,x,x,x,x,x,x,x]:=rfl
theorem YR {α:Type} {x:α}:List.replicate 10 x=[x,x,x,x,x,x,x,x,x,x]:=rfl
theorem YS {α:Type} {x:α}:List.replicate 11 x=[x,x,x,x,x,x,x,x,x,x,x]:=rfl
theorem YT {α:Type} {x:α}:List.replicate 12 x=[x,x,x,x,x,x,x,x,x,x,x,x]:=rfl
theorem sz2:Sz (0+1+1):=⟨by decide⟩
theorem sz3:Sz (0+1+1+1):=⟨by decide⟩
theorem sz4:Sz (0+1+1+1+1):=⟨by decide⟩
theorem sz1:Sz (0+1):=⟨by decide⟩
theorem sz0:Sz 0:=⟨by decide⟩
local macro_rules | `(tactic| walk_at "rd")=>do
 let a <- ("aU cS cC YO eK bD iO WK SB aW gE bK gD aR aA rC r2 r1 bF BZ rOr qH uG ZY OE rIf aK aD iC nK aY rCB eW gZ HJ iB Ae riL riT uK Af WQ fV jC oC zV rE oS HI qI FB KF uI kG sD tD DQ dNe FA OJ HK cF cI bV cR cH pM pL eJ jE AE UL AU lA gU MK MA MB MC MD ME MF MG MH MI MJ IR IS xW LY wK wM dU xX VA UY UZ UX VB S.val cP Ac SC WL WM OH WN WO Ad YU WP YR YS YT List.map_cons List.map_nil List.cons_append List.nil_append List.length_cons List.length_nil List.getElem?_cons_zero List.getElem?_cons_succ List.set_cons_zero List.set_cons_succ List.append_nil Bool.or_false Bool.or_true Bool.false_or Bool.true_or Bool.not_true Bool.not_false if_true if_false Bool.false_eq_true sz0 sz1 sz2 sz3 sz4 true_and decide_eq_true_eq Int.reduceToNat Int.reducePow Int.reduceMul Int.reduceSub Int.reduceAdd Int.reduceNeg".splitOn " ").toArray.mapM λx=>`(Lean.Parser.Tactic.simpLemma| $(Lean.mkIdent x.toName):term)
 `(tactic| simp only[$a,*])
local macro_rules | `(tactic| walk_at "side")=>`(tactic| first | exact uC | exact gW | exact (BL.const (n:=9000) (by decide)).divOk (by decide) | exact (BL.const (n:=300) (by decide)).mulOk (BL.const (n:=300) (by decide)))
local macro_rules | `(tactic| walk_at "sides")=>`(tactic| repeat (refine And.intro (by walk_at "side") ?_))
theorem nX (i:Int):(if i<0 then -i else i)=((i.natAbs:Nat):Int):=by split <;> omega
theorem pR (x y:Nat):((x:Nat):Int).fmod (y:Nat)=((x % y:Nat):Int):=by
 rw[Int.fmod_eq_emod_of_nonneg _ (Int.natCast_nonneg y)];exact (Int.natCast_emod x y).symm
noncomputable def qN:FD:=λds Q=>∃a b:Int,ds=[.int a,.int b]/\Q (.int (Int.gcd a b:Nat))
theorem GS:∀ds Q,qN ds Q->ds.length=2:=by rintro ds Q ⟨a,b,rfl,_⟩;rfl
theorem pW (E:DEnds):∀(y x:Nat),E.nx [some (.d (.int (Nat.gcd x y:Nat))),some (.d (.int (0:Nat)))] ->
  nM (bF (r2 (eJ λi j=>decide (j<i)) (aA 1) (rC (.int 0)))) eF E [some (.d (.int (x:Nat))),some (.d (.int (y:Nat)))]:=by
 intro y
 induction y using Nat.strongRecOn with
 | ind y ih =>
  intro x h
  cases Nat.eq_zero_or_pos y with
  | inl hy =>
   subst hy
   refine⟨1,?_⟩
   unfold fE
   walk_at "rd"
   rw[if_neg (by decide)]
   rw[Nat.gcd_zero_right] at h
   exact h
  | inr hy =>
   have h2:=ih (x % y) (Nat.mod_lt x hy) y (by
    rw[Nat.gcd_comm y,<-Nat.gcd_rec,Nat.gcd_comm];exact h)
   obtain⟨n,hn⟩:=h2
   refine⟨n+1,?_⟩
   unfold fE eF
   walk_at "rd"
   rw[if_pos (by omega)]
   refine⟨⟨by omega⟩,?_⟩
   rw[pR]
   exact hn
theorem qD:∀ds Q,qN ds Q->eB { nx:=λ_=>Q .non,rt:=Q } (aS ["_law_one","_law_other"] ds):=by
 rintro ds Q ⟨a,b,rfl,q⟩
 rw[aX 0 rfl]
 unfold eB
 walk_at "rd"
 rw[nX,nX]
 refine pW _ _ _ ?_
 walk_at "rd"
 exact q
theorem mE (E:DEnds) (u v:Option S):∀(y x:Nat) (r:Option S),(∀r,E.nx [u,v,some (.d (.int (Nat.gcd x y:Nat))),some (.d (.int (0:Nat))),r]) ->
  nM (bF (r2 (jE true) (aA 3) (rC (.int 0)))) dL E [u,v,some (.d (.int (x:Nat))),some (.d (.int (y:Nat))),r]:=by
 intro y
 induction y using Nat.strongRecOn with
 | ind y ih =>
  intro x r h
  cases Nat.eq_zero_or_pos y with
  | inl hy =>
   subst hy
   refine⟨1,?_⟩
   unfold fE
   walk_at "rd"
   rw[if_neg (by simp)]
   rw[Nat.gcd_zero_right] at h
   exact h r
  | inr hy =>
   obtain⟨n,hn⟩:=ih (x % y) (Nat.mod_lt x hy) y (some (.d (.int ((x % y:Nat))))) (by
    rw[Nat.gcd_comm y,<-Nat.gcd_rec,Nat.gcd_comm];exact h)
   refine⟨n+1,?_⟩
   unfold fE dL
   walk_at "rd"
   rw[if_pos (by simp;omega)]
   refine⟨⟨by omega⟩,?_⟩
   rw[pR]
   exact hn
theorem mF:∀ds Q,qN ds Q->dE { nx:=λ_=>Q .non,rt:=Q } (aS ["one","other","larger","smaller","rest"] ds):=by
 rintro ds Q ⟨a,b,rfl,q⟩
 rw[aX 3 rfl]
 unfold dE
 walk_at "rd"
 rw[nX,nX]
 refine mE _ _ _ _ _ _ λr=>?_
 walk_at "rd"
 exact q
noncomputable abbrev fr (a b:Int):D:=.tup [.int a,.int b]
noncomputable def rZ:FD:=λds Q=>∃a:Int,ds=[.int a]/\Q (.bl true)
theorem JK:∀ds Q,rZ ds Q->ds.length=1:=by rintro ds Q ⟨a,rfl,_⟩;rfl
theorem uF:∀ds Q,rZ ds Q->fR { nx:=λ_=>Q .non,rt:=Q } (aS ["_law_found"] ds):=by
 rintro ds Q ⟨a,rfl,q⟩
 rw[aX 0 rfl]
 unfold fR
 walk_at "rd"
 exact q
theorem bA {a b:Int} (h:0<b):0<=a.fmod b/\a.fmod b<b:=⟨Int.fmod_nonneg_of_pos a h,Int.fmod_lt_of_pos a h⟩
theorem QP:∀ds Q,HZ 63 ds Q->ds.length=1:=by rintro ds Q ⟨a,rfl,_⟩;rfl
theorem cQ {g:RG} {t:RS} {E:DEnds} (J:List D->En->Prop)
  (step:∀x xs ρ,J (x::xs) ρ->∀F:DEnds,F.rt=E.rt->F.bk=E.nx->(∀ρ',J xs ρ'->F.nx ρ')->(∀ρ',J xs ρ'->F.ct ρ')->g x ρ λρ1=>t F ρ1) (last:∀ρ,J [] ρ->E.nx ρ):∀xs ρ,J xs ρ->rD g t xs E ρ
 | [],ρ,h=>last ρ h
 | x::xs,ρ,h=>step x xs ρ h _ rfl rfl (λρ' h'=>cQ J step last xs ρ' h') λρ' h'=>cQ J step last xs ρ' h'
theorem zZ {α:Type} {g:RG} {te:RE} (R:En->Prop) (enc f:α->D):∀(src:List α) {Q:List D->Prop},(∀a∈src,∀ρ,R ρ->∀K:En->D->Prop,(∀ρ1,R ρ1->K ρ1 (f a))->g (enc a) ρ λρ1=>te ρ1 λd=>K ρ1 d) ->
  ∀(ρ:En) (acc:List D),R ρ->Q (acc++src.map f)->jC g te (src.map enc) ρ acc Q
 | [],Q,_,ρ,acc,_,q=>by
  show Q acc
  simpa using q
 | a::src,Q,step,ρ,acc,h,q=>by
  show g (enc a) ρ λρ'=>te ρ' λd=>jC g te (src.map enc) ρ' (acc++[d]) Q
  refine step a List.mem_cons_self ρ h (λρ1 d=>jC g te (src.map enc) ρ1 (acc++[d]) Q) λρ1 h1=>?_
  exact zZ R enc f src (λb hb=>step b (List.mem_cons_of_mem _ hb)) ρ1 _ h1 (by simpa using q)
theorem cY {α:Type} {g:RG} {te:RE} (R:En->Prop) (enc f:α->D) (src:List α) {Q:List D->Prop} {ρ:En} (step:∀a∈src,∀ρ,R ρ->∀K:En->D->Prop,(∀ρ1,R ρ1->K ρ1 (f a))->g (enc a) ρ λρ1=>te ρ1 λd=>K ρ1 d)
  (h:R ρ) (q:Q (src.map f)):jC g te (src.map enc) ρ [] Q:=zZ R enc f src step ρ [] h (by simpa using q)
noncomputable abbrev il (ns:List Int):D:=.lst (ns.map .int)
noncomputable abbrev pt (p:Int × Int):D:=.tup [.int p.1,.int p.2]
noncomputable abbrev pts (ps:List (Int × Int)):D:=.lst (ps.map pt)
theorem LZ {ns:List Int} {i:Int} {Q:D->Prop} (h0:0<=i) (h1:i<ns.length) (q:∀n∈ns,Q (.int n)):dIx (il ns) (.int i) Q:=by
 refine sC h0 (by simpa using h1) λx hx=>?_
 obtain⟨n,hn,rfl⟩:=List.mem_map.mp hx
 exact q n hn
theorem dF {n:Nat} (h:n<=100000):Sz n:=⟨Nat.le_trans h (by decide)⟩
theorem NC {n:Nat} {i:Int} (h0:0<=i) (h1:i<n):ixN n i=some i.toNat:=by
 unfold ixN
 rw[if_pos h0,if_pos (by omega)]
noncomputable abbrev big:Int:=1000000000000000000000000000000000000000000000000000000000007
structure Drawn (m:Nat) (xs:List Int):Prop where
 len:xs.length=m
 lo:∀x∈xs,0<=x
 hi:∀x∈xs,x<big
theorem Drawn.bl {m:Nat} {xs:List Int} (h:Drawn m xs) {x:Int} (hx:x∈xs):BL 200 x:=by
 have h0:=h.lo x hx
 have h1:=h.hi x hx
 have e:big<((2 ^ 200:Nat):Int):=by decide
 exact BL.of_lt (by omega) (by omega)
noncomputable def lS:FD:=λds Q=>∃(ns:List Int) (m:Nat),ds=[il ns,.int m]/\(ns.length<=100/\1<=m/\m<=100)/\∀xs,Drawn m xs->Q (il xs)
theorem AZ:∀ds Q,lS ds Q->ds.length=2:=by rintro ds Q ⟨a,b,rfl,_⟩;rfl
noncomputable def jV:RS:=aU (bD 5 (r2 cH (aA 3) (aA 1)))
 (qI 2 (r2 cH (r2 cF (r2 cF (r2 bV (r2 dIx (aA 2) (aA 5)) (rC (.int 48271))) (aA 4)) (r2 bV (aA 3) (aA 3))) (r2 cF (r2 pM (rC (.int 10)) (rC (.int 60))) (rC (.int 7)))) (aR 5))
theorem EV:eG=aU (bD 4 (rC (.int 0)))
 (aU (eK (bF (r2 (eJ λi j=>decide (j<i)) (r1 dU (aA 0)) (rC (.int 0)))) (bD 4 (r2 cH (r2 dIx (aA 0) (r2 cH (aA 3) (rCB wM (aD (r1 dU (aA 0)) (aD (rC (.int 63)) (aK)))))) (r2 cF (r2 pM (rC (.int 10)) (rC (.int 60))) (rC (.int 7))))) (cS)) jV):=rfl
theorem yN {ns:List Int} {m:Nat} (hm:1<=m/\m<=100) {E:DEnds} (q:∀xs a b c,Drawn m xs->E.nx [some (.d (il ns)),some (.d (.int m)),some (.own (xs.map .int)),a,b,c]) (xs:List D) (ρ:En)
  (hx:∀x∈xs,∃j:Int,x = .int j/\0<=j/\j<=1000) (hρ:∃ys a b c,ρ=[some (.d (il ns)),some (.d (.int m)),some (.own (ys.map .int)),a,b,c]/\Drawn m ys):rD (aW 3) eG xs E ρ:=by
 refine cQ (λxs ρ=>(∀x∈xs,∃j:Int,x = .int j/\0<=j/\j<=1000)/\∃ys a b c,ρ=[some (.d (il ns)),some (.d (.int m)),some (.own (ys.map .int)),a,b,c]/\Drawn m ys) ?_ ?_ xs ρ ⟨hx,hρ⟩
 ·rintro x xs ρ ⟨hx,ys,a,b,c,rfl,hd⟩ F _ _ hn _
  obtain⟨j,rfl,j0,j1⟩:=hx x List.mem_cons_self
  have hx':∀x∈xs,∃j:Int,x = .int j/\0<=j/\j<=1000:=λx h=>hx x (List.mem_cons_of_mem _ h)
  have done:∀cell:Int,jV F [some (.d (il ns)),some (.d (.int m)),some (.own (ys.map .int)),some (.d (.int j)),some (.d (.int cell)),c]:=λcell=>by
   unfold jV
   walk_at "rd"
   have hm':(0:Int)<m:=by omega
   obtain⟨a0,a1⟩:=bA (a:=j) hm'
   refine⟨⟨by omega⟩,?_⟩
   refine LZ a0 (by rw[hd.len];exact a1) λy hy=>?_
   have by':=hd.bl hy
   refine⟨by'.mulOk (BL.const (n:=20)),(BL.of_lt (m:=20) (by omega) (by omega)).mulOk (BL.of_lt (m:=20) (by omega) (by omega)),?_⟩
   walk_at "sides"
   obtain⟨e0,e1⟩:=bA (a:=y*48271+cell+j*j) (b:=big) (by decide)
   generalize (y*48271+cell+j*j).fmod big=z at *
   generalize j.fmod m=i at *
   rw[NC a0 (by simpa [hd.len] using a1)]
   refine hn _ ⟨hx',ys.set i.toNat z,_,_,_,by rw[<-List.map_set],⟨by simpa using hd.len,λx hx=>?_,λx hx=>?_⟩⟩
   ·rcases List.mem_or_eq_of_mem_set hx with h | rfl
    ·exact hd.lo x h
    ·exact e0
   ·rcases List.mem_or_eq_of_mem_set hx with h | rfl
    ·exact hd.hi x h
    ·exact e1
  rw[EV]
  walk_at "rd"
  split
  ·rename_i hl
   have hl':0<ns.length:=by simpa using hl
   have hpos:(0:Int)<(if (63:Int)<((ns.map D.int).length:Int) then 63 else ((ns.map D.int).length:Int)):=by split <;> simp <;> omega
   obtain⟨a0,a1⟩:=bA (a:=j) hpos
   have a2:(if (63:Int)<((ns.map D.int).length:Int) then 63 else ((ns.map D.int).length:Int))<=ns.length:=by split <;> simp at * <;> omega
   exact⟨⟨Int.ne_of_gt hpos⟩,LZ a0 (Int.lt_of_lt_of_le a1 a2) λy _=>⟨uC,gW,done _⟩⟩
  ·exact done 0
 ·rintro ρ ⟨_,ys,a,b,c,rfl,hd⟩
  exact q ys a b c hd
theorem nG {lo:Int} {n:Nat} {x:D} (h:x∈fL lo n):∃j:Int,x = .int j/\lo<=j/\j<lo+n:=by
 unfold fL at h
 obtain⟨k,hk,rfl⟩:=List.mem_map.mp h
 have:=List.mem_range.mp hk
 exact⟨_,rfl,by omega,by omega⟩
theorem jZ {lo:Int} {n:Nat}:(fL lo n).length=n:=by simp[fL]
theorem qE:∀ds Q,lS ds Q->eD { nx:=λ_=>Q .non,rt:=Q } (aS ["_law_script","_law_many","_law_found","_law_k","_law_cell","_law_at"] ds):=by
 rintro ds Q ⟨ns,m,rfl,⟨hn,hm⟩,q⟩
 rw[aX 4 rfl]
 unfold eD
 walk_at "rd"
 refine⟨⟨by omega,by omega⟩,dF (by rw[jZ];omega),?_⟩
 unfold fL
 refine cY (λρ=>∃a,ρ=[a]) (λk:Nat=>D.int (0+(k:Int))) (λ_=>D.int 0) _ ?_ ⟨_,rfl⟩ ?_
 ·rintro a _ ρ ⟨b,rfl⟩ K hK
  exact hK _ ⟨_,rfl⟩
 ·have len:(ns.map D.int).length=ns.length:=by simp
  have e0:∃M:Int,(if (m:Int)<(if (63:Int)<((ns.map D.int).length:Int) then 63 else ((ns.map D.int).length:Int)) then (if (63:Int)<((ns.map D.int).length:Int) then 63 else ((ns.map D.int).length:Int)) else (m:Int))=M/\0<=M/\M<=100:=⟨_,rfl,by rw[len];split <;> (try split) <;> omega,by rw[len];split <;> (try split) <;> omega⟩
  obtain⟨M,eM,M0,M1⟩:=e0
  rw[eM]
  refine⟨⟨by omega,by omega⟩,?_⟩
  refine yN (ns:=ns) hm (λxs a b c hd=>?_) _ _ (λx hx=>?_) ⟨List.replicate m 0,none,none,none,?_,⟨by simp,λx hx=>?_,λx hx=>?_⟩⟩
  ·walk_at "rd"
   exact q xs hd
  ·obtain⟨j,rfl,j0,j1⟩:=nG hx
   exact⟨j,rfl,j0,by omega⟩
  ·congr 5
   apply List.ext_getElem
   ·simp
   ·intro i h1 h2;simp
  ·rw[(List.mem_replicate.mp hx).2];decide
  ·rw[(List.mem_replicate.mp hx).2];decide
theorem zL {α:Type} {xs:List α} {x:α} (h:xs.getLast? = some x):atI xs (-1)=some x:=by
 have hne:xs≠[]:=λe=>by rw[e] at h;cases h
 have hl:0<xs.length:=List.length_pos_iff.mpr hne
 unfold atI ixN
 rw[if_neg (by decide),if_pos (by omega)]
 rw[List.getLast?_eq_getElem?] at h
 show xs[((-1:Int)+(xs.length:Int)).toNat]? = some x
 rw[<-h];congr 1;omega
structure Rises (xs:List Int):Prop where
 first:∀a,xs[0]? = some a->-4<=a/\a<=-1
 step:∀(i:Nat) a b,xs[i]? = some a->xs[i+1]? = some b->a+1<=b/\b<=a+3
theorem Rises.snoc {xs:List Int} {a b:Int} (h:Rises xs) (hl:xs.getLast? = some a) (h1:a+1<=b) (h2:b<=a+3):Rises (xs++[b]):=by
 have hne:0<xs.length:=by
  cases xs with
  | nil=>cases hl
  | cons _ _=>simp
 refine⟨λx e=>h.first x (by rwa [List.getElem?_append_left hne] at e),λi x y e1 e2=>?_⟩
 by_cases hi:i+1<xs.length
 ·rw[List.getElem?_append_left hi] at e2
  rw[List.getElem?_append_left (by omega)] at e1
  exact h.step i x y e1 e2
 ·have hi2:i+1=xs.length:=by
   have:=(List.getElem?_eq_some_iff.mp e2).1
   simp at this;omega
  rw[hi2,List.getElem?_append_right (Nat.le_refl _)] at e2
  simp at e2;subst e2
  rw[List.getElem?_append_left (by omega)] at e1
  rw[List.getLast?_eq_getElem?,<-hi2] at hl
  simp at hl
  rw[hl] at e1;cases e1
  exact⟨h1,h2⟩
theorem Rises.bound {xs:List Int} (h:Rises xs):∀(i:Nat) a,xs[i]? = some a->-4<=a/\a<=3*(i:Int)-1
 | 0,a,e=>by have:=h.first a e;omega
 | i+1,a,e=>by
  have hi:i<xs.length:=by have:=(List.getElem?_eq_some_iff.mp e).1;omega
  have e1:xs[i]? = some xs[i]:=List.getElem?_eq_getElem hi
  have b:=Rises.bound h i _ e1
  have c:=h.step i _ _ e1 e
  omega
noncomputable def rY:FD:=λds Q=>∃n m:Int,ds=[.int n,.int m]/\(1<=m/\m<=40)/\∀xs,Rises xs->(xs.length:Int)=m->Q (il xs)
theorem JJ:∀ds Q,rY ds Q->ds.length=2:=by rintro ds Q ⟨a,b,rfl,_⟩;rfl
theorem uE:∀ds Q,rY ds Q->fQ { nx:=λ_=>Q .non,rt:=Q } (aS ["_law_number","_law_many","_law_found","_law_k"] ds):=by
 rintro ds Q ⟨n,m,rfl,⟨hm1,hm2⟩,q⟩
 rw[aX 2 rfl]
 unfold fQ
 walk_at "rd"
 walk_at "sides"
 refine⟨⟨by omega,by omega⟩,?_⟩
 obtain⟨a0,a1⟩:=bA (a:=n) (b:=4) (by decide)
 generalize n.fmod 4=c at *
 refine cQ (λxs ρ=>(∀x∈xs,∃j:Int,x = .int j/\0<=j/\j<=1000)/\∃(ys:List Int) (u:Option S),ρ=[some (.d (.int n)),some (.d (.int m)),some (.own (ys.map .int)),u]/\Rises ys/\ys≠[]/\(ys.length+xs.length:Int)=m) ?_ ?_ _ _ ⟨λx hx=>?_,[c-4],none,rfl,⟨λa e=>?_,λi a b e1 e2=>?_⟩,by simp,?_⟩
 ·rintro x xs ρ ⟨hx,ys,u,rfl,hr,hne,hl⟩ F _ _ hn _
  obtain⟨j,rfl,j0,j1⟩:=hx x List.mem_cons_self
  unfold jK
  walk_at "rd"
  have hlast:ys.getLast? = some (ys.getLast hne):=List.getLast?_eq_some_getLast hne
  refine cU (x:=.int (ys.getLast hne)) (zL (by rw[List.getLast?_map,hlast];rfl)) ?_
  walk_at "rd"
  obtain⟨b0,b1⟩:=bA (a:=n.fdiv (4+3*j)) (b:=3) (by decide)
  generalize (n.fdiv (4+3*j)).fmod 3=z at *
  have b4:BL 9000 (4+3*j):=(BL.of_lt (m:=20) (by omega) (by omega)).mono (by decide)
  refine⟨(BL.const (n:=20)).mulOk (BL.of_lt (m:=20) (i:=j) (by omega) (by omega)),b4.divOk (by omega),gW,dF ?_,?_⟩
  ·simp at hl ⊢;omega
  ·refine hn _ ⟨λx h=>hx x (List.mem_cons_of_mem _ h),ys++[ys.getLast hne+1+z],some (.d (.int j)),by simp,hr.snoc hlast (by omega) (by omega),by simp,?_⟩
   simp at hl ⊢;omega
 ·rintro ρ ⟨_,ys,u,rfl,hr,hne,hl⟩
  walk_at "rd"
  exact q ys hr (by simpa using hl)
 ·obtain⟨j,rfl,j0,j1⟩:=nG hx
  exact⟨j,rfl,j0,by omega⟩
 ·simp at e;subst e;omega
 ·simp at e2
 ·rw[jZ];simp;omega
theorem XJ {xs:List D} {i:Nat} {x:D} {Q:D->Prop} (e:xs[i]? = some x) (q:Q x):dIx (.lst xs) (.int (i:Int)) Q:=cU (nZ e) q
noncomputable abbrev aff (p q r s ox oy:Int) (z:Int × Int):Int × Int:=(p*z.1+q*z.2+ox,r*z.1+s*z.2+oy)
noncomputable def dG (lows highs:List Int) (top:Int):List (Int × Int):=lows.map (λx=>(x,x*x))++highs.reverse.map λx=>(x,top-x*x)
structure RingForm (lows highs:List Int) (top p q r s ox oy:Int):Prop where
 lowsR:Rises lows
 highsR:Rises highs
 lowsN:2<=lows.length/\lows.length<=21
 highsN:1<=highs.length/\highs.length<=3
 topL:∀x∈lows++highs,2*(x*x)+1<=top
 topH:top<=10000
 pB:1<=p/\p<=3
 qB:-3<=q/\q<=3
 rB:-3<=r/\r<=3
 sB:-9<=s/\s<=12
 det:0<p*s-q*r
 oxB:BL 202 ox
 oyB:BL 202 oy
noncomputable abbrev kD (lows highs:List Int) (top p q r s ox oy:Int):List (Int × Int):=(dG lows highs top).map (aff p q r s ox oy)
theorem aN {t u:RS} {E:DEnds} {ρ:En} (I:En->Prop) (h1:∀K:En->Prop,(∀ρ',I ρ'->K ρ')->t { E with nx:=K } ρ) (h2:∀ρ',I ρ'->u E ρ'):aU t u E ρ:=h1 (u E) h2
theorem OT (x:Int):0<=x*x:=by
 rcases Int.le_total 0 x with h | h
 ·exact Int.mul_nonneg h h
 ·have:=Int.mul_nonneg (Int.neg_nonneg.mpr h) (Int.neg_nonneg.mpr h)
  rwa [Int.neg_mul_neg] at this
theorem NS {a far:Int} (h0:0<=far) (h:BL 200 far):BL 202 (a.fmod (2*far+1)-far):=by
 obtain⟨a0,a1⟩:=bA (a:=a) (b:=2*far+1) (by omega)
 have:far.natAbs<2 ^ 200:=h
 refine BL.of_lt (m:=202) ?_ ?_
 ·have:(far.natAbs:Int)<((2 ^ 200:Nat):Int):=by exact_mod_cast this
  have e:((2 ^ 200:Nat):Int)<((2 ^ 202:Nat):Int):=by decide
  omega
 ·have:(far.natAbs:Int)<((2 ^ 200:Nat):Int):=by exact_mod_cast this
  have e:((2 ^ 200:Nat):Int)<((2 ^ 202:Nat):Int):=by decide
  omega
theorem Rises.pair {xs:List Int} (h:Rises xs):xs.Pairwise (· < ·):=by
 have key:∀(n i:Nat) (a b:Int),xs[i]? = some a->xs[i+1+n]? = some b->a<b:=by
  intro n
  induction n with
  | zero=>intro i a b e1 e2;have:=h.step i a b e1 e2;omega
  | succ n ih =>
   intro i a b e1 e2
   have hl:i+1+(n+1)<xs.length:=(List.getElem?_eq_some_iff.mp e2).1
   have e3:xs[i+1+n]? = some (xs[i+1+n]'(by omega)):=List.getElem?_eq_getElem _
   have h1:=ih i a _ e1 e3
   have h2:=h.step (i+1+n) _ b e3 (by rw[<-e2];congr 1)
   omega
 refine List.pairwise_iff_getElem.mpr λi j hi hj hij=>?_
 refine key (j-i-1) i _ _ (List.getElem?_eq_getElem hi) ?_
 rw[show i+1+(j-i-1)=j by omega]
 exact List.getElem?_eq_getElem hj
theorem MV {xs l r:List Int} {x y:Int} (h:xs.Pairwise (· < ·)) (e:xs=l++x::y::r) {v:Int} (hv:v∈xs):v<=x\/y<=v:=by
 subst e
 have h1:=List.pairwise_append.mp h
 have h2:=List.pairwise_cons.mp h1.2.1
 have h3:=List.pairwise_cons.mp h2.2
 simp only[List.mem_append,List.mem_cons] at hv
 rcases hv with hv | hv | hv | hv
 ·exact Or.inl (Int.le_of_lt (h1.2.2 v hv x (by simp)))
 ·exact Or.inl (by omega)
 ·exact Or.inr (by omega)
 ·exact Or.inr (Int.le_of_lt (h3.1 v hv))
theorem YY {x m:Int} (h1:-m<=x) (h2:x<=m):x*x<=m*m:=by
 have:0<=(m-x)*(m+x):=Int.mul_nonneg (by omega) (by omega)
 have e:(m-x)*(m+x)=m*m-x*x:=by grind
 omega
theorem sP {x:Int} {n:Nat} (h:x.natAbs<=n):-(n:Int)<=x/\x<=n:=by omega
theorem ZP (top a b c:Int) (ha:2*(a*a)+1<=top) (hb:2*(b*b)+1<=top) (hc:2*(c*c)+1<=top):∃m:Nat,2*((m:Int)*m)+1<=top/\a.natAbs<=m/\b.natAbs<=m/\c.natAbs<=m:=by
 have ab (x:Int) (h:2*(x*x)+1<=top):2*((x.natAbs:Int)*x.natAbs)+1<=top:=by rw[Int.natAbs_mul_self'];exact h
 rcases Nat.le_total a.natAbs b.natAbs with h1 | h1
 ·rcases Nat.le_total b.natAbs c.natAbs with h2 | h2
  ·exact⟨_,ab c hc,Nat.le_trans h1 h2,h2,Nat.le_refl _⟩
  ·exact⟨_,ab b hb,h1,Nat.le_refl _,h2⟩
 ·rcases Nat.le_total a.natAbs c.natAbs with h2 | h2
  ·exact⟨_,ab c hc,h2,Nat.le_trans h1 h2,Nat.le_refl _⟩
  ·exact⟨_,ab a ha,Nat.le_refl _,h1,h2⟩
noncomputable abbrev lo (x:Int):Pt:=(x,x*x)
noncomputable abbrev hi (top x:Int):Pt:=(x,top-x*x)
section
variable {top:Int}
theorem xE {x y v:Int} (h:x<y) (hv:v<x\/y<v):0<aG (lo x) (lo y) (lo v):=by
 have e:aG (lo x) (lo y) (lo v)=(y-x)*((v-x)*(v-y)):=by unfold aG;dsimp only;grind
 rw[e]
 refine Int.mul_pos (by omega) ?_
 rcases hv with hv | hv
 ·have e2:(v-x)*(v-y)=(x-v)*(y-v):=by grind
  rw[e2];exact Int.mul_pos (by omega) (by omega)
 ·exact Int.mul_pos (by omega) (by omega)
theorem YX {m b l v:Int} (m0:0<=m) (hb:-m<=b/\b<=m) (hl:-m<=l/\l<=m) (hv:-m<=v/\v<=m):0<=m*m+l*v-b*(l+v):=by
 have pl {x:Int} (h:-m<=x/\x<=m):0<=m+x:=by omega
 have mi {x:Int} (h:-m<=x/\x<=m):0<=m-x:=by omega
 have g:=Int.add_nonneg (Int.mul_nonneg (pl hb) (Int.mul_nonneg (mi hl) (mi hv))) (Int.mul_nonneg (mi hb) (Int.mul_nonneg (pl hl) (pl hv)))
 rw[show (m+b)*((m-l)*(m-v))+(m-b)*((m+l)*(m+v))=2*m*(m*m+l*v-b*(l+v)) by grind] at g
 rcases Int.lt_or_eq_of_le m0 with hm | rfl
 ·exact Int.nonneg_of_mul_nonneg_right g (Int.mul_pos (by decide) hm)
 ·rw[show l=0 from Int.le_antisymm hl.2 hl.1,show b=0 from Int.le_antisymm hb.2 hb.1];simp only[Int.zero_mul];decide
theorem lJ {l b v:Int} (hl:2*(l*l)+1<=top) (hb:2*(b*b)+1<=top) (hv:2*(v*v)+1<=top):0<top-b*b-b*(l+v)+l*v:=by
 obtain⟨m,mt,a1,a2,a3⟩:=ZP top l b v hl hb hv
 have h1:=YX (Int.natCast_nonneg m) (sP a2) (sP a1) (sP a3)
 have h2:=YY (sP a2).1 (sP a2).2
 generalize (m:Int)*m=M at *
 generalize b*(l+v)=N at *
 generalize l*v=O at *
 generalize b*b=P at *
 omega
theorem uS {x y v:Int} (h:x<y) (hx:2*(x*x)+1<=top) (hy:2*(y*y)+1<=top) (hv:2*(v*v)+1<=top):0<aG (lo x) (lo y) (hi top v):=by
 have e:aG (lo x) (lo y) (hi top v)=(y-x)*(top-v*v-v*(x+y)+x*y):=by unfold aG;dsimp only;grind
 rw[e]
 exact Int.mul_pos (Int.sub_pos_of_lt h) (lJ hx hv hy)
theorem CM {x y v:Int} (h:x<y) (hv:v<x\/y<v):0<aG (hi top y) (hi top x) (hi top v):=by
 have e:aG (hi top y) (hi top x) (hi top v)=aG (lo x) (lo y) (lo v):=by unfold aG;dsimp only;grind
 rw[e];exact xE h hv
theorem FJ {x y v:Int} (h:x<y) (hx:2*(x*x)+1<=top) (hy:2*(y*y)+1<=top) (hv:2*(v*v)+1<=top):0<aG (hi top y) (hi top x) (lo v):=by
 have e:aG (hi top y) (hi top x) (lo v)=aG (lo x) (lo y) (hi top v):=by unfold aG;dsimp only;grind
 rw[e];exact uS h hx hy hv
theorem OY {l b v:Int} (h:v<l) (hl:2*(l*l)+1<=top) (hb:2*(b*b)+1<=top) (hv:2*(v*v)+1<=top):0<aG (lo l) (hi top b) (lo v):=by
 have e:aG (lo l) (hi top b) (lo v)=(l-v)*(top-b*b-b*(l+v)+l*v):=by unfold aG;dsimp only;grind
 rw[e]
 exact Int.mul_pos (Int.sub_pos_of_lt h) (lJ hl hb hv)
theorem KL {l b v:Int} (h:v<b) (hl:2*(l*l)+1<=top) (hb:2*(b*b)+1<=top) (hv:2*(v*v)+1<=top):0<aG (lo l) (hi top b) (hi top v):=by
 have e:aG (lo l) (hi top b) (hi top v)=(b-v)*(top-l*l-l*(b+v)+b*v):=by unfold aG;dsimp only;grind
 rw[e]
 exact Int.mul_pos (Int.sub_pos_of_lt h) (lJ hb hl hv)
theorem OX {l b v:Int} (h:l<v) (hl:2*(l*l)+1<=top) (hb:2*(b*b)+1<=top) (hv:2*(v*v)+1<=top):0<aG (hi top b) (lo l) (lo v):=by
 have e:aG (hi top b) (lo l) (lo v)=(v-l)*(top-b*b-b*(l+v)+l*v):=by unfold aG;dsimp only;grind
 rw[e]
 exact Int.mul_pos (Int.sub_pos_of_lt h) (lJ hl hb hv)
theorem KK {l b v:Int} (h:b<v) (hl:2*(l*l)+1<=top) (hb:2*(b*b)+1<=top) (hv:2*(v*v)+1<=top):0<aG (hi top b) (lo l) (hi top v):=by
 have e:aG (hi top b) (lo l) (hi top v)=(v-b)*(top-l*l-l*(b+v)+b*v):=by unfold aG;dsimp only;grind
 rw[e]
 exact Int.mul_pos (Int.sub_pos_of_lt h) (lJ hb hl hv)
end
theorem BM {f:Int->Pt} {L:List Int} {a b:Pt} (h:Nxt (L.map f) a b):∃l x y r,L=l++x::y::r/\a=f x/\b=f y:=by
 obtain⟨l,r,e⟩:=h
 obtain⟨l1,l2,rfl,rfl,e2⟩:=List.map_eq_append_iff.mp e
 obtain⟨x,l3,rfl,rfl,e3⟩:=List.map_eq_cons_iff.mp e2
 obtain⟨y,l4,rfl,rfl,e4⟩:=List.map_eq_cons_iff.mp e3
 exact⟨l1,x,y,l4,rfl,rfl,rfl⟩
theorem GT {xs l:List Int} {x:Int} (h:xs.Pairwise (· < ·)) (e:xs=l++[x]) {v:Int} (hv:v∈xs):v=x\/v<x:=by
 subst e
 rcases List.mem_append.mp hv with hv | hv
 ·exact Or.inr ((List.pairwise_append.mp h).2.2 v hv x (by simp))
 ·exact Or.inl (by simpa using hv)
theorem BG {xs r:List Int} {x:Int} (h:xs.Pairwise (· < ·)) (e:xs=x::r) {v:Int} (hv:v∈xs):v=x\/x<v:=by
 subst e
 rcases List.mem_cons.mp hv with hv | hv
 ·exact Or.inl hv
 ·exact Or.inr ((List.pairwise_cons.mp h).1 v hv)
theorem IF {lows highs:List Int} {top:Int} (hl:lows.Pairwise (· < ·)) (hh:highs.Pairwise (· < ·)) (nl:2<=lows.length) (nh:1<=highs.length) (ht:∀x∈lows++highs,2*(x*x)+1<=top):Cvx (dG lows highs top):=by
 have tl:∀x∈lows,2*(x*x)+1<=top:=λx h=>ht x (by simp[h])
 have th:∀x∈highs,2*(x*x)+1<=top:=λx h=>ht x (by simp[h])
 have memB:∀q∈dG lows highs top,(∃v∈lows,q=lo v)\/(∃v∈highs,q=hi top v):=by
  intro q hq
  rcases List.mem_append.mp hq with h | h
  ·obtain⟨v,hv,rfl⟩:=List.mem_map.mp h;exact Or.inl ⟨v,hv,rfl⟩
  ·obtain⟨v,hv,rfl⟩:=List.mem_map.mp h;exact Or.inr ⟨v,List.mem_reverse.mp hv,rfl⟩
 refine⟨by simp[dG];omega,?_,λa b hab q hq n1 n2=>?_⟩
 ·unfold dG
  rw[List.nodup_append]
  refine⟨?_,?_,λa ha b hb e=>?_⟩
  ·exact List.Pairwise.map _ (λx y h e=>by simp at e;omega) hl
  ·rw[List.map_reverse]
   exact List.pairwise_reverse.mpr (List.Pairwise.map _ (λx y h e=>by simp at e;omega) hh)
  ·obtain⟨x,hx,rfl⟩:=List.mem_map.mp ha
   obtain⟨y,hy,rfl⟩:=List.mem_map.mp hb
   simp at e
   obtain⟨rfl,e⟩:=e
   have:=tl x hx
   omega
 ·obtain⟨l0,l1,ls,hls⟩:∃x y r,lows=x::y::r:=by
   match lows,nl with
   | x::y::r,_=>exact⟨x,y,r,rfl⟩
  have t1:(dG lows highs top).take 1=[lo l0]:=by rw[hls];rfl
  unfold Cyc at hab
  rw[t1] at hab
  unfold dG at hab
  rw[List.append_assoc] at hab
  rcases jW _ _ a b hab with h | ⟨⟨A',h1⟩,B',h2⟩ | h
  ·-- two low ones
   obtain⟨l,x,y,r,e,rfl,rfl⟩:=BM h
   have hxy:x<y:=by rw[e] at hl;exact (List.pairwise_cons.mp (List.pairwise_append.mp hl).2.1).1 y (by simp)
   have mx:x∈lows:=by rw[e];simp
   have my:y∈lows:=by rw[e];simp
   rcases memB q hq with ⟨v,hv,rfl⟩ | ⟨v,hv,rfl⟩
   ·refine xE hxy ?_
    rcases MV hl e hv with h | h
    ·rcases Int.lt_or_eq_of_le h with h | h
     ·exact Or.inl h
     ·subst h;exact absurd rfl n1
    ·rcases Int.lt_or_eq_of_le h with h | h
     ·exact Or.inr h
     ·subst h;exact absurd rfl n2
   ·exact uS hxy (tl x mx) (tl y my) (th v hv)
  ·-- the last low one and the first high one
   obtain⟨m1,m2,e,e1,e2⟩:=List.map_eq_append_iff.mp h1
   obtain⟨x,m3,rfl,rfl,e3⟩:=List.map_eq_cons_iff.mp e2
   have:m3=[]:=by simpa using e3
   subst this
   have hr:highs.reverse≠[]:=by
    intro h0
    have:=congrArg List.length h0
    simp at this
    subst this;simp at nh
   obtain⟨y,hr',ey⟩:∃y hr',highs.reverse=y::hr':=by
    cases hq':highs.reverse with
    | nil=>exact absurd hq' hr
    | cons y r=>exact⟨y,r,rfl⟩
   rw[ey] at h2
   simp at h2
   obtain⟨rfl,_⟩:=h2
   have eh:highs=hr'.reverse++[y]:=by
    have:=congrArg List.reverse ey
    simpa using this
   have mx:x∈lows:=by rw[e];simp
   have my:y∈highs:=by rw[eh];simp
   rcases memB q hq with ⟨v,hv,rfl⟩ | ⟨v,hv,rfl⟩
   ·rcases GT hl e hv with h | h
    ·subst h;exact absurd rfl n1
    ·exact OY h (tl x mx) (th y my) (tl v hv)
   ·rcases GT hh eh hv with h | h
    ·subst h;exact absurd rfl n2
    ·exact KL h (tl x mx) (th y my) (th v hv)
  ·rcases jW _ _ a b h with h | ⟨⟨A',h1⟩,B',h2⟩ | ⟨l,r,h⟩
   ·-- two high ones
    obtain⟨l,x,y,r,e,rfl,rfl⟩:=BM h
    have e':highs=r.reverse++y::x::l.reverse:=by
     have:=congrArg List.reverse e
     simpa using this
    have hxy:y<x:=by rw[e'] at hh;exact (List.pairwise_cons.mp (List.pairwise_append.mp hh).2.1).1 x (by simp)
    have mx:x∈highs:=by rw[e'];simp
    have my:y∈highs:=by rw[e'];simp
    rcases memB q hq with ⟨v,hv,rfl⟩ | ⟨v,hv,rfl⟩
    ·exact FJ hxy (th y my) (th x mx) (tl v hv)
    ·refine CM hxy ?_
     rcases MV hh e' hv with h | h
     ·rcases Int.lt_or_eq_of_le h with h | h
      ·exact Or.inl h
      ·subst h;exact absurd rfl n2
     ·rcases Int.lt_or_eq_of_le h with h | h
      ·exact Or.inr h
      ·subst h;exact absurd rfl n1
   ·-- the last high one and the first low one
    simp at h2
    obtain⟨rfl,_⟩:=h2
    obtain⟨m1,m2,e,e1,e2⟩:=List.map_eq_append_iff.mp h1
    obtain⟨y,m3,rfl,rfl,e3⟩:=List.map_eq_cons_iff.mp e2
    have:m3=[]:=by simpa using e3
    subst this
    have eh:highs=y::m1.reverse:=by
     have:=congrArg List.reverse e
     simpa using this
    have my:y∈highs:=by rw[eh];simp
    have ml:l0∈lows:=by rw[hls];simp
    rcases memB q hq with ⟨v,hv,rfl⟩ | ⟨v,hv,rfl⟩
    ·rcases BG hl hls hv with h | h
     ·subst h;exact absurd rfl n2
     ·exact OX h (tl l0 ml) (th y my) (tl v hv)
    ·rcases BG hh eh hv with h | h
     ·subst h;exact absurd rfl n1
     ·exact KK h (tl l0 ml) (th y my) (th v hv)
   ·have:=congrArg List.length h
    simp at this
    omega
theorem LE (p q r s ox oy:Int) (a b c:Pt):aG (aff p q r s ox oy a) (aff p q r s ox oy b) (aff p q r s ox oy c)=(p*s-q*r)*aG a b c:=by
 unfold aG aff;dsimp only;grind
theorem PQ {p q r s ox oy:Int} (hd:0<p*s-q*r) (a b:Pt) (h:aff p q r s ox oy a=aff p q r s ox oy b):a=b:=by
 unfold aff at h
 simp only[Prod.mk.injEq] at h
 obtain⟨h1,h2⟩:=h
 have e1:(p*s-q*r)*(a.1-b.1)=0:=by grind
 have e2:(p*s-q*r)*(a.2-b.2)=0:=by grind
 have k1:=(Int.mul_eq_zero.mp e1).resolve_left (by omega)
 have k2:=(Int.mul_eq_zero.mp e2).resolve_left (by omega)
 exact Prod.ext (by omega) (by omega)
theorem FF {lows highs:List Int} {top p q r s ox oy:Int} (F:RingForm lows highs top p q r s ox oy):Cvx (kD lows highs top p q r s ox oy) :=
 (IF F.lowsR.pair F.highsR.pair F.lowsN.1 F.highsN.1 F.topL).map F.det (LE p q r s ox oy) (PQ F.det)
noncomputable def PN:FD:=λds Q=>∃n:Int,ds=[.int n]/\∀s,1<=s->s<=1000000000->Q (.int s)
theorem KB:∀ds Q,PN ds Q->kM { nx:=λ_=>Q .non,rt:=Q } (aS ["_law_number"] ds):=by
 rintro ds Q ⟨n,rfl,q⟩
 rw[aX 0 rfl]
 unfold kM
 walk_at "rd"
 walk_at "sides"
 obtain⟨a0,a1⟩:=bA (a:=n) (b:=3) (by decide)
 obtain⟨b0,b1⟩:=bA (a:=n.fdiv 3) (b:=12) (by decide)
 obtain⟨c0,c1⟩:=bA (a:=n.fdiv 3) (b:=1000000000) (by decide)
 refine sC a0 (by simpa using a1) λx hx=>?_
 simp only[List.mem_cons,List.not_mem_nil,or_false] at hx
 rcases hx with rfl | rfl | rfl
 ·exact q _ (by decide) (by decide)
 ·exact q _ (by omega) (by omega)
 ·exact q _ (by omega) (by omega)
structure DueOf (share:Int) (cs:List (Int × Int)) (m sh:Int) (ds:List (Int × Int)) (j:Nat):Prop where
 mpos:0<m
 sh_eq:share=m*sh
 cs_eq:cs=ds.map λz=>(m*z.1,m*z.2)
 j_lt:j<ds.length
 least:∀z∈ds,∀w,ds[j]? = some w->HT.lexLt [z.1,z.2] [w.1,w.2]=false
 cop:∀d:Nat,(d:Int)∣sh->(∀z∈ds,(d:Int)∣z.1/\(d:Int)∣z.2)->d=1
noncomputable abbrev turned {α:Type} (j:Nat) (ds:List α):List α:=ds.drop j++ds.take j
noncomputable def wA:FD:=λds Q=>∃(share:Int) (cs:List (Int × Int)),ds=[.int share,pts cs]/\(0<share/\BL 100 share)/\(cs≠[]/\cs.length<=100) /\
 ∀m sh zs j,DueOf share cs m sh zs j->Q (.tup [.int sh,.tup ((turned j zs).map pt)])
theorem QN:∀ds Q,wA ds Q->ds.length=2:=by rintro ds Q ⟨_,_,rfl,_⟩;rfl
structure GcdOf (share:Int) (zs:List (Int × Int)) (g:Nat):Prop where
 pos:0<g
 sh:(g:Int)∣share
 all:∀z∈zs,(g:Int)∣z.1/\(g:Int)∣z.2
 most:∀d:Nat,(d:Int)∣share->(∀z∈zs,(d:Int)∣z.1/\(d:Int)∣z.2)->d∣g
theorem GcdOf.bl {share:Int} {zs:List (Int × Int)} {g:Nat} (h:GcdOf share zs g) (hs:0<share) {n:Nat} (b:BL n share):BL n (g:Int):=by
 refine b.le ?_
 have:=Int.le_of_dvd hs h.sh
 omega
theorem GcdOf.snoc {share:Int} {zs:List (Int × Int)} {g:Nat} (h:GcdOf share zs g) (z:Int × Int):GcdOf share (zs++[z]) (Int.gcd (Int.gcd g z.1:Nat) z.2):=by
 have d1:((Int.gcd (Int.gcd g z.1:Nat) z.2:Nat):Int)∣((Int.gcd g z.1:Nat):Int):=Int.gcd_dvd_left ..
 have d2:((Int.gcd g z.1:Nat):Int)∣(g:Int):=Int.gcd_dvd_left ..
 have d3:((Int.gcd g z.1:Nat):Int)∣z.1:=Int.gcd_dvd_right ..
 have d4:((Int.gcd (Int.gcd g z.1:Nat) z.2:Nat):Int)∣z.2:=Int.gcd_dvd_right ..
 have dg:=Int.dvd_trans d1 d2
 refine⟨?_,Int.dvd_trans dg h.sh,λw hw=>?_,λd e1 e2=>?_⟩
 ·have:=h.pos
  have h1:0<Int.gcd g z.1:=Int.gcd_pos_of_ne_zero_left _ (by omega)
  exact Int.gcd_pos_of_ne_zero_left _ (by omega)
 ·rcases List.mem_append.mp hw with h' | h'
  ·obtain⟨a,b⟩:=h.all w h'
   exact⟨Int.dvd_trans dg a,Int.dvd_trans dg b⟩
  ·rw[List.mem_singleton.mp h']
   exact⟨Int.dvd_trans d1 d3,d4⟩
 ·obtain⟨a,b⟩:=e2 z (by simp)
  have:=h.most d e1 λw hw=>e2 w (List.mem_append_left _ hw)
  have h1:(d:Int)∣((Int.gcd g z.1:Nat):Int):=Int.dvd_coe_gcd (by exact_mod_cast this) a
  exact_mod_cast Int.dvd_coe_gcd h1 b
theorem wJ {xs:List D} {j:Nat} (h:j<=xs.length):jD xs (some (j:Int)) none=xs.drop j:=by
 unfold jD
 rw[HT.sIx_nat,HT.sIx_none,Nat.min_eq_left h,List.take_of_length_le (by simp)]
theorem FZ {xs:List D} {j:Nat} (h:j<=xs.length):jD xs none (some (j:Int))=xs.take j:=by
 unfold jD
 rw[HT.sIx_nat,HT.sIx_none,Nat.min_eq_left h];simp
theorem yF (z w:Int × Int):eqF 6 (pt z) (pt w)=some (decide (z=w)):=by
 obtain⟨a,b⟩:=z
 obtain⟨c,d⟩:=w
 simp only[eqF,eqL]
 congr 1
 by_cases h1:a=c <;> by_cases h2:b=d <;> simp[h1,h2]
theorem yY:∀ds Q,wA ds Q->iP qN { nx:=λ_=>Q .non,rt:=Q } (aS ["_law_share_here","_law_ring_here","_law_most","_law_x","_law_y","_law_corners","_law_at"] ds):=by
 rintro ds Q ⟨share,cs,rfl,⟨hs,bs⟩,⟨hne,hlen⟩,q⟩
 rw[aX 5 rfl]
 unfold iP
 simp only[cP,WN,List.map_cons,List.map_nil,List.cons_append,List.nil_append]
 refine aN (λρ=>ρ=[some (.d (.int share)),some (.d (pts cs)),some (.d (.int share)),none,none,none,none]) (λK hK=>?_) ?_
 ·walk_at "rd"
  exact hK _ rfl
 rintro ρ rfl
 refine aN (λρ=>∃(g:Nat) (x y:Option S),GcdOf share cs g/\ρ=[some (.d (.int share)),some (.d (pts cs)),some (.d (.int g)),x,y,none,none]) (λK hK=>?_) ?_
 ·walk_at "rd"
  refine cQ (λxs ρ=>∃(done rest:List (Int × Int)) (g:Nat) (x y:Option S),cs=done++rest/\xs=rest.map pt/\GcdOf share done g/\ρ=[some (.d (.int share)),some (.d (pts cs)),some (.d (.int g)),x,y,none,none]) ?_ ?_ _ _ ⟨[],cs,share.toNat,none,none,rfl,rfl,⟨by omega,?_,by simp,λd e1 _=>?_⟩,?_⟩
  ·rintro x xs ρ ⟨done,rest,g,u,v,e,ex,hg,rfl⟩ F _ _ hn _
   cases rest with
   | nil=>cases ex
   | cons z rest =>
    cases ex
    unfold lK
    walk_at "rd"
    refine⟨_,_,rfl,_,_,rfl,?_⟩
    exact hn _ ⟨done++[z],rest,_,_,_,by simpa using e,rfl,hg.snoc z,rfl⟩
  ·rintro ρ ⟨done,rest,g,u,v,e,ex,hg,rfl⟩
   have:rest=[]:=by simpa using ex.symm
   subst this
   rw[List.append_nil] at e
   subst e
   exact hK _ ⟨g,u,v,hg,rfl⟩
  ·have:(share.toNat:Int)=share:=by omega
   rw[this];exact Int.dvd_refl _
  ·have:(share.toNat:Int)=share:=by omega
   exact_mod_cast (by rw[this];exact e1:(d:Int)∣(share.toNat:Int))
  ·have:(share.toNat:Int)=share:=by omega
   rw[this]
 rintro ρ ⟨g,x,y,hg,rfl⟩
 have gp:(0:Int)<g:=by have:=hg.pos;omega
 have gb:BL 9000 (g:Int):=(hg.bl hs bs).mono (by decide)
 obtain⟨zs,ez⟩:∃zs,zs=cs.map λz=>(z.1 / (g:Int),z.2 / (g:Int)):=⟨_,rfl⟩
 have ec:cs=zs.map λz=>((g:Int)*z.1,(g:Int)*z.2):=by
  rw[ez,List.map_map]
  symm
  conv=>rhs;rw[<-List.map_id cs]
  refine List.map_congr_left λz hz=>?_
  obtain⟨a,b⟩:=hg.all z hz
  simp only[Function.comp,id,Int.mul_ediv_cancel' a,Int.mul_ediv_cancel' b]
 refine aN (λρ=>ρ=[some (.d (.int share)),some (.d (pts cs)),some (.d (.int g)),x,y,some (.own (zs.map pt)),none]) (λK hK=>?_) ?_
 ·walk_at "rd"
  refine⟨dF (by simp;omega),?_⟩
  refine cY (λρ=>∃a b,ρ=[a,b,some (.d (.int g))]) pt (λz=>pt (z.1 / (g:Int),z.2 / (g:Int))) cs ?_ ⟨_,_,rfl⟩ ?_
  ·rintro z hz ρ ⟨a,b,rfl⟩ K' hK'
   walk_at "rd"
   refine⟨gb.divOk (by omega),gb.divOk (by omega),?_⟩
   rw[Int.fdiv_eq_ediv_of_nonneg _ (by omega),Int.fdiv_eq_ediv_of_nonneg _ (by omega)]
   exact hK' _ ⟨_,_,rfl⟩
  ·refine hK _ ?_
   rw[ez,List.map_map];rfl
 rintro ρ rfl
 have lz:zs.length=cs.length:=by rw[ez];simp
 have hz:zs≠[]:=by intro e;rw[e] at lz;exact hne (List.length_eq_zero_iff.mp lz.symm)
 refine aN (λρ=>∃j:Nat,(j<zs.length/\∀z∈zs,∀w,zs[j]? = some w->HT.lexLt [z.1,z.2] [w.1,w.2]=false)/\ρ=[some (.d (.int share)),some (.d (pts cs)),some (.d (.int g)),x,y,some (.own (zs.map pt)),some (.d (.int j))]) (λK hK=>?_) ?_
 ·walk_at "rd"
  refine⟨⟨_,rfl⟩,zs.map λz=>[z.1,z.2],by rw[List.map_map];rfl,by simpa using hz,λM hM hmin=>?_⟩
  obtain⟨w,hw,rfl⟩:=List.mem_map.mp hM
  have hlt:zs.findIdx (λz=>decide (z=w))<zs.length:=List.findIdx_lt_length_of_exists ⟨w,hw,by simp⟩
  have hat:=List.findIdx_getElem (w:=hlt)
  have hat':zs[zs.findIdx (λz=>decide (z=w))]=w:=by simpa using hat
  refine⟨zs.findIdx (λz=>decide (z=w)),⟨pt w,?_,?_⟩,λi d hi ed=>?_,λd hd=>?_,hK _ ⟨_,⟨hlt,λz hz v ev=>?_⟩,rfl⟩⟩
  ·rw[List.getElem?_map,List.getElem?_eq_getElem hlt,hat'];rfl
  ·show eqF 6 (pt w) (pt w)=_
   rw[yF];simp
  ·rw[List.getElem?_map] at ed
   cases e:zs[i]? with
   | none=>rw[e] at ed;cases ed
   | some z =>
    rw[e] at ed;cases ed
    show eqF 6 (pt z) (pt w)=_
    have hil:i<zs.length:=(List.getElem?_eq_some_iff.mp e).1
    have:=List.not_of_lt_findIdx hi
    rw[yF]
    have e2:zs[i]=z:=by rw[List.getElem?_eq_getElem hil] at e;exact Option.some.inj e
    rw[e2] at this
    simpa using this
  ·obtain⟨z,_,rfl⟩:=List.mem_map.mp hd
   exact⟨_,yF z w⟩
  ·rw[List.getElem?_eq_getElem hlt,hat'] at ev;cases ev
   exact hmin _ (List.mem_map.mpr ⟨z,hz,rfl⟩)
 rintro ρ ⟨j,⟨hj,hleast⟩,rfl⟩
 walk_at "rd"
 have lm:(zs.map pt).length=zs.length:=by simp
 rw[wJ (by omega),FZ (by omega)]
 refine⟨gb.divOk (by omega),dF (by simp;omega),?_⟩
 rw[Int.fdiv_eq_ediv_of_nonneg _ (by omega)]
 have:=q g (share / g) zs j ⟨gp,(Int.mul_ediv_cancel' hg.sh).symm,ec,hj,hleast,λd e1 e2=>?_⟩
 ·rw[List.map_append,List.map_drop,List.map_take] at this
  exact this
 ·have h1:((g*d:Nat):Int)∣share:=by
   rw[<-Int.mul_ediv_cancel' hg.sh]
   push_cast
   exact Int.mul_dvd_mul (Int.dvd_refl _) e1
  have h2:=hg.most (g*d) h1 λz hz=>by
   rw[ec] at hz
   obtain⟨w,hw,rfl⟩:=List.mem_map.mp hz
   obtain⟨a,b⟩:=e2 w hw
   push_cast
   exact⟨Int.mul_dvd_mul (Int.dvd_refl _) a,Int.mul_dvd_mul (Int.dvd_refl _) b⟩
  have h3:=Nat.le_of_dvd hg.pos h2
  have h4:d≠0:=λe=>by
   subst e
   simp at h2
   have:=hg.pos;omega
  have h5:=hg.pos
  rcases Nat.lt_or_ge 1 d with h | h
  ·have:g*2<=g*d:=Nat.mul_le_mul_left _ h
   omega
  ·omega
noncomputable def BP (z:Pt):Prop:=BL 20000 z.1/\BL 20000 z.2
noncomputable def dR:FD:=λds Q=>∃a b c:Pt,ds=[pt a,pt b,pt c]/\(BP a/\BP b/\BP c)/\Q (.int (aG a b c))
theorem NI:∀ds Q,dR ds Q->ds.length=3:=by rintro ds Q ⟨_,_,_,rfl,_⟩;rfl
theorem KC:∀ds Q,dR ds Q->sJ { nx:=λ_=>Q .non,rt:=Q } (aS ["one","middle","other","along","across"] ds):=by
 rintro ds Q ⟨a,b,c,rfl,⟨ba,bb,bc⟩,q⟩
 rw[aX 2 rfl]
 unfold sJ
 walk_at "rd"
 exact⟨(bb.1.sub ba.1).mulOk (bc.2.sub ba.2),(bb.2.sub ba.2).mulOk (bc.1.sub ba.1),q⟩
noncomputable def xJ:FD:=λds Q=>∃ps:List Pt,ds=[pts ps]/\(∀z∈ps,BP z)/\ps.length<=900/\Q (pts (gA ps))
theorem NF:∀ds Q,xJ ds Q->ds.length=1:=by rintro ds Q ⟨_,rfl,_⟩;rfl
theorem LF {α:Type} (xs:List α) (x:α):atI (xs++[x]) (-1)=some x:=by
 unfold atI ixN
 rw[if_neg (by decide),if_pos (by simp;omega)]
 have:((-1:Int)+((xs++[x]).length:Nat)).toNat=xs.length:=by simp;omega
 simp only[this,Option.bind_some]
 simp
theorem LG {α:Type} (xs:List α) (x y:α):atI (xs++[x,y]) (-2)=some x:=by
 unfold atI ixN
 rw[if_neg (by decide),if_pos (by simp;omega)]
 have:((-2:Int)+((xs++[x,y]).length:Nat)).toNat=xs.length:=by simp;omega
 simp only[this,Option.bind_some]
 simp
theorem tL (E:DEnds) (u:Option S) (p:Pt) (hp:BP p):∀s:List Pt,(∀z∈s,BP z)->E.nx [u,some (.own ((cB p s).reverse.map pt)),some (.d (pt p))] ->
  nM (BZ (bF (r2 (eJ λi j=>decide (j<i)) (r1 dU (aA 1)) (rC (.int 1)))) (bF (r2 (eJ λi j=>decide (i<=j)) (aY dR (aD (r2 dIx (aA 1) (r1 pL (rC (.int 2)))) (aD (r2 dIx (aA 1) (r1 pL (rC (.int 1)))) (aD (aR 2) (aK))))) (rC (.int 0))))) (dN) E [u,some (.own (s.reverse.map pt)),some (.d (pt p))]
 | [],_,h=>by
  refine⟨1,?_⟩
  unfold fE
  walk_at "rd"
  simp
  exact h
 | [x],_,h=>by
  refine⟨1,?_⟩
  unfold fE
  walk_at "rd"
  simp
  exact h
 | b::a::r,hs,h=>by
  have ea:((b::a::r).reverse.map pt)=(r.reverse.map pt)++[pt a,pt b]:=by simp
  have eb:((b::a::r).reverse.map pt)=((a::r).reverse.map pt)++[pt b]:=by simp
  have i2:=LG (r.reverse.map pt) (pt a) (pt b)
  have i1:=LF ((a::r).reverse.map pt) (pt b)
  rw[<-ea] at i2;rw[<-eb] at i1
  by_cases ht:aG a b p<=0
  ·have e:cB p (b::a::r)=cB p (a::r):=by rw[cB,if_pos ht]
   rw[e] at h
   obtain⟨n,hn⟩:=tL E u p hp (a::r) (λz hz=>hs z (List.mem_cons_of_mem _ hz)) h
   refine⟨n+1,?_⟩
   unfold fE
   generalize hW:fE (BZ (bF (r2 (eJ λi j=>decide (j<i)) (r1 dU (aA 1)) (rC (.int 1)))) (bF (r2 (eJ λi j=>decide (i<=j)) (aY dR (aD (r2 dIx (aA 1) (r1 pL (rC (.int 2)))) (aD (r2 dIx (aA 1) (r1 pL (rC (.int 1)))) (aD (aR 2) (aK))))) (rC (.int 0))))) dN n E=W at hn
   walk_at "rd"
   rw[if_pos (by simp;omega)]
   refine cU i2 (cU i1 ⟨a,b,p,rfl,⟨hs a (by simp),hs b (by simp),hp⟩,?_⟩)
   show if aG a b p<=0 then _ else _
   rw[if_pos ht]
   unfold dN
   walk_at "rd"
   refine⟨by simp,?_⟩
   rw[eb,List.dropLast_concat]
   exact hn
  ·have e:cB p (b::a::r)=b::a::r:=by rw[cB,if_neg ht]
   rw[e] at h
   refine⟨1,?_⟩
   unfold fE
   walk_at "rd"
   rw[if_pos (by simp;omega)]
   refine cU i2 (cU i1 ⟨a,b,p,rfl,⟨hs a (by simp),hs b (by simp),hp⟩,?_⟩)
   show if aG a b p<=0 then _ else _
   rw[if_neg ht]
   exact h
theorem BT (p:Pt) (s:List Pt):(cB p s).length<=s.length:=(jI p s).length_le
theorem rN:∀ds Q,xJ ds Q->fS dR { nx:=λ_=>Q .non,rt:=Q } (aS ["points","chain","point"] ds):=by
 rintro ds Q ⟨ps,rfl,hb,hl,q⟩
 rw[aX 2 rfl]
 unfold fS
 simp only[cP,WL,List.map_cons,List.map_nil,List.cons_append,List.nil_append]
 refine aN (λρ=>ρ=[some (.d (pts ps)),some (.own []),none]) (λK hK=>?_) ?_
 ·walk_at "rd"
  exact hK _ rfl
 rintro ρ rfl
 refine aN (λρ=>∃x:Option S,ρ=[some (.d (pts ps)),some (.own ((cG ps).reverse.map pt)),x]) (λK hK=>?_) ?_
 ·walk_at "rd"
  refine cQ (λxs ρ=>∃(done rest:List Pt) (x:Option S),ps=done++rest/\xs=rest.map pt/\ρ=[some (.d (pts ps)),some (.own ((cG done).reverse.map pt)),x]) ?_ ?_ _ _ ⟨[],ps,none,rfl,rfl,rfl⟩
  ·rintro x xs ρ ⟨done,rest,u,e,ex,rfl⟩ F _ _ hn _
   cases rest with
   | nil=>cases ex
   | cons z rest =>
    cases ex
    have bd:∀w∈done,BP w:=λw hw=>hb w (by rw[e];simp[hw])
    have bz:BP z:=hb z (by rw[e];simp)
    have ld:done.length<ps.length:=by rw[e];simp
    have sub:∀(L s:List Pt),(∀q∈L.foldl (λs p=>p::cB p s) s,q∈L\/q∈s)/\(L.foldl (λs p=>p::cB p s) s).length<=L.length+s.length:=by
     intro L
     induction L with
     | nil=>intro s;exact⟨λq h=>Or.inr h,by simp⟩
     | cons y L ih =>
      intro s
      obtain⟨i1,i2⟩:=ih (y::cB y s)
      refine⟨λq h=>?_,?_⟩
      ·rcases i1 q h with h | h
       ·exact Or.inl (by simp[h])
       ·rcases List.mem_cons.mp h with h | h
        ·exact Or.inl (by simp[h])
        ·exact Or.inr ((jI y s).subset h)
      ·have:=BT y s
       simp only[List.foldl_cons,List.length_cons] at i2 ⊢
       omega
    obtain⟨s1,s2⟩:=sub done []
    unfold jL
    simp only[aW,List.set_cons_zero,List.set_cons_succ]
    refine tL _ _ z bz (cG done) (λw hw=>?_) ?_
    ·rcases s1 w hw with h | h
     ·exact bd w h
     ·cases h
    ·walk_at "rd"
     have l1:=BT z (cG done)
     have l2:(cG done).length<=done.length:=by simpa [cG] using s2
     refine⟨⟨GR (by simp;omega)⟩,hn _ ⟨done++[z],rest,some (.d (pt z)),by simpa using e,rfl,?_⟩⟩
     unfold cG
     simp
  ·rintro ρ ⟨done,rest,u,e,ex,rfl⟩
   have:rest=[]:=by simpa using ex.symm
   subst this
   rw[List.append_nil] at e
   subst e
   exact hK _ ⟨u,rfl⟩
 rintro ρ ⟨x,rfl⟩
 walk_at "rd"
 have e:jD ((cG ps).reverse.map pt) none (some (-1))=(gA ps).map pt:=by
  unfold jD gA
  rw[List.map_dropLast]
  generalize (cG ps).reverse.map pt=xs
  have h1:HT.sIx xs.length 0 none=0:=rfl
  have h2:HT.sIx xs.length xs.length (some (-1))=xs.length-1:=by
   unfold HT.sIx
   simp
   omega
  rw[h1,h2,List.drop_zero,Nat.sub_zero,List.dropLast_eq_take]
 rw[e]
 exact q
theorem QQ (z w:Pt):dZ [z.1,z.2] [w.1,w.2]=decide (ltP z w):=by
 unfold ltP
 simp only[dZ]
 by_cases h:z.1=w.1
 ·rw[if_pos h]
  by_cases h2:z.2=w.2
  ·rw[if_pos h2];simp[h,h2]
  ·rw[if_neg h2];simp[h]
 ·rw[if_neg h];simp[h]
noncomputable def cL:FD:=λds Q=>∃ps:List Pt,ds=[pts ps]/\(∀z∈ps,BP z)/\ps.length<64/\∀D r:List Pt,Inc D->(∀z,z∈D↔z∈ps)->(2<=D.length->r=mP D)->(D.length<=1->r.length<3)->r.length<=200->Q (pts r)
theorem BA:∀ds Q,cL ds Q->ds.length=1:=by rintro ds Q ⟨_,rfl,_⟩;rfl
theorem yZ:∀ds Q,cL ds Q->kB xJ { nx:=λ_=>Q .non,rt:=Q } (aS ["points","rising"] ds):=by
 rintro ds Q ⟨ps,rfl,hb,hl,q⟩
 rw[aX 1 rfl]
 unfold kB
 walk_at "rd"
 unfold uJ uH
 walk_at "rd"
 refine⟨ps.map λz=>[z.1,z.2],by rw[List.map_map];rfl,by simpa using hl,λns h=>?_,λmss hs hm hlen=>?_⟩
 ·obtain⟨z,_,rfl⟩:=List.mem_map.mp h;simp
 obtain⟨L,hL⟩:∃L:List Pt,mss=L.map λz=>[z.1,z.2]:=by
  have:∀ms∈mss,∃z:Pt,ms=[z.1,z.2]:=λms h=>by
   obtain⟨z,_,e⟩:=List.mem_map.mp ((hm ms).mp h)
   exact⟨z,e.symm⟩
  clear hs hm hlen
  induction mss with
  | nil=>exact⟨[],rfl⟩
  | cons m mss ih =>
   obtain⟨L,e⟩:=ih λms h=>this ms (List.mem_cons_of_mem _ h)
   obtain⟨z,e2⟩:=this m (by simp)
   exact⟨z::L,by rw[e,e2];rfl⟩
 subst hL
 have inj:∀z w:Pt,[z.1,z.2]=[w.1,w.2]->z=w:=λz w h=>by simp at h;exact Prod.ext h.1 h.2
 have memL:∀z,z∈L↔z∈ps:=λz=>by
  have:=hm [z.1,z.2]
  constructor
  ·intro h
   obtain⟨w,hw,e⟩:=List.mem_map.mp (this.mp (List.mem_map.mpr ⟨z,h,rfl⟩))
   rw[<-inj _ _ e];exact hw
  ·intro h
   obtain⟨w,hw,e⟩:=List.mem_map.mp (this.mpr (List.mem_map.mpr ⟨z,h,rfl⟩))
   rw[<-inj _ _ e];exact hw
 have wL:CY L:=by
  unfold CY
  refine (List.pairwise_map.mp hs).imp λ{a b} h=>?_
  rw[QQ] at h
  simpa using h
 have eL:D.lst (List.map jP (List.map (λz:Pt=>[z.1,z.2]) L))=pts L:=by rw[List.map_map];rfl
 have lL:L.length<=63:=by simp at hlen;omega
 have bL:∀z∈L,BP z:=λz hz=>hb z ((memL z).mp hz)
 obtain⟨D,HD⟩:=MR L wL
 obtain⟨o1,o2⟩:=AK wL HD.inc HD.mem
 have h1:∀M:List Pt,(gA M).length<=M.length:=λM=>by
  unfold gA
  have:=MX M
  simp;omega
 rw[eL]
 refine⟨L,rfl,bL,by omega,L.map pt,rfl,L.reverse,by rw[<-List.map_reverse],λz hz=>bL z (List.mem_reverse.mp hz),by simp;omega,?_⟩
 have a1:=h1 L
 have a2:=h1 L.reverse
 rw[List.length_reverse] at a2
 show Sz (((gA L).map pt).length+((gA L.reverse).map pt).length)/\Q (.lst ((gA L).map pt++(gA L.reverse).map pt))
 refine⟨⟨GR (by simp;omega)⟩,?_⟩
 rw[<-List.map_append]
 exact q D (mP L) HD.inc (λz=>(HD.mem z).trans (memL z)) o1 o2 (by unfold mP;simp;omega)
structure NormOf (share:Int) (cs:List Pt) (m sh:Int) (zs:List Pt):Prop where
 mpos:0<m
 sh_eq:share=m*sh
 cs_eq:cs=zs.map λz=>(m*z.1,m*z.2)
 cop:∀d:Nat,(d:Int)∣sh->(∀z∈zs,(d:Int)∣z.1/\(d:Int)∣z.2)->d=1
theorem iX {a b x y:Int} (ha:0<a) (hb:0<b) (e:a*x=b*y):a / (Int.gcd a b:Nat)∣y:=by
 have hg:(0:Int)<(Int.gcd a b:Nat):=by
  have:=Int.gcd_pos_of_ne_zero_left (a:=a) b (by omega);omega
 obtain⟨a',ea⟩:((Int.gcd a b:Nat):Int)∣a:=Int.gcd_dvd_left ..
 obtain⟨b',eb⟩:((Int.gcd a b:Nat):Int)∣b:=Int.gcd_dvd_right ..
 have e1:a / (Int.gcd a b:Nat)=a':=by
  have:a / ((Int.gcd a b:Nat):Int)=(((Int.gcd a b:Nat):Int)*a') / ((Int.gcd a b:Nat):Int):=congrArg (· / ((Int.gcd a b:Nat):Int)) ea
  rw[this,Int.mul_ediv_cancel_left _ (by omega)]
 have e2:b / (Int.gcd a b:Nat)=b':=by
  have:b / ((Int.gcd a b:Nat):Int)=(((Int.gcd a b:Nat):Int)*b') / ((Int.gcd a b:Nat):Int):=congrArg (· / ((Int.gcd a b:Nat):Int)) eb
  rw[this,Int.mul_ediv_cancel_left _ (by omega)]
 have cop:Int.gcd a' b'=1:=by
  have:=Int.gcd_ediv_gcd_ediv_gcd (i:=a) (j:=b) (by have:=hg;omega)
  rw[e1,e2] at this
  exact this
 rw[e1]
 have h:a'*x=b'*y:=by
  have:((Int.gcd a b:Nat):Int)*(a'*x)=((Int.gcd a b:Nat):Int)*(b'*y):=by
   rw[<-Int.mul_assoc,<-Int.mul_assoc,<-ea,<-eb];exact e
  exact Int.eq_of_mul_eq_mul_left (by omega) this
 have d:a'∣b'*y:=⟨x,h.symm⟩
 have d2:a'.natAbs∣b'.natAbs*y.natAbs:=by rw[<-Int.natAbs_mul];exact Int.natAbs_dvd_natAbs.mpr d
 exact Int.natAbs_dvd_natAbs.mp (Nat.Coprime.dvd_of_dvd_mul_left (show Nat.Coprime a'.natAbs b'.natAbs from cop) d2)
theorem wU {a b sh sh':Int} {zs zs':List Pt} (ha:0<a) (hb:0<b) (e1:a*sh=b*sh') (e2:zs.map (λz=>(a*z.1,a*z.2))=zs'.map λz=>(b*z.1,b*z.2))
  (cop:∀d:Nat,(d:Int)∣sh'->(∀z∈zs',(d:Int)∣z.1/\(d:Int)∣z.2)->d=1):a∣b:=by
 have len:zs.length=zs'.length:=by have:=congrArg List.length e2;simpa using this
 have hg:(0:Int)<(Int.gcd a b:Nat):=by
  have:=Int.gcd_pos_of_ne_zero_left (a:=a) b (by omega);omega
 obtain⟨a',ea⟩:((Int.gcd a b:Nat):Int)∣a:=Int.gcd_dvd_left ..
 have e0:a / (Int.gcd a b:Nat)=a':=by
  have:a / ((Int.gcd a b:Nat):Int)=(((Int.gcd a b:Nat):Int)*a') / ((Int.gcd a b:Nat):Int):=congrArg (· / ((Int.gcd a b:Nat):Int)) ea
  rw[this,Int.mul_ediv_cancel_left _ (by omega)]
 have pa:0<a':=by
  apply Int.not_le.mp
  intro hn
  have:((Int.gcd a b:Nat):Int)*a'<=0:=Int.mul_nonpos_of_nonneg_of_nonpos (by omega) hn
  omega
 have one:=cop a'.toNat (by
  rw[Int.toNat_of_nonneg (by omega),<-e0];exact iX ha hb e1) λz hz=>by
  rw[Int.toNat_of_nonneg (by omega),<-e0]
  obtain⟨i,hi,rfl⟩:=List.getElem_of_mem hz
  have hi':i<zs.length:=by omega
  have ei:(zs.map λz=>(a*z.1,a*z.2))[i]? = (zs'.map λz=>(b*z.1,b*z.2))[i]?:=by rw[e2]
  rw[List.getElem?_map,List.getElem?_map,List.getElem?_eq_getElem hi,List.getElem?_eq_getElem hi'] at ei
  simp only[Option.map_some,Option.some.injEq,Prod.mk.injEq] at ei
  exact⟨iX ha hb ei.1,iX ha hb ei.2⟩
 have:a'=1:=by omega
 rw[this,Int.mul_one] at ea
 rw[ea]
 exact Int.gcd_dvd_right ..
theorem BJ {a b sh sh':Int} {zs zs':List Pt} (ha:0<a) (hb:0<b) (e1:a*sh=b*sh') (e2:zs.map (λz=>(a*z.1,a*z.2))=zs'.map λz=>(b*z.1,b*z.2))
  (c1:∀d:Nat,(d:Int)∣sh->(∀z∈zs,(d:Int)∣z.1/\(d:Int)∣z.2)->d=1) (c2:∀d:Nat,(d:Int)∣sh'->(∀z∈zs',(d:Int)∣z.1/\(d:Int)∣z.2)->d=1):sh=sh'/\zs=zs':=by
 have h1:=wU ha hb e1 e2 c2
 have h2:=wU hb ha e1.symm e2.symm c1
 have hab:a=b:=Int.le_antisymm (Int.le_of_dvd hb h1) (Int.le_of_dvd ha h2)
 subst hab
 refine⟨Int.eq_of_mul_eq_mul_left (by omega) e1,?_⟩
 have len:zs.length=zs'.length:=by have:=congrArg List.length e2;simpa using this
 apply List.ext_getElem len
 intro i hi hi'
 have ei:(zs.map λz=>(a*z.1,a*z.2))[i]? = (zs'.map λz=>(a*z.1,a*z.2))[i]?:=by rw[e2]
 rw[List.getElem?_map,List.getElem?_map,List.getElem?_eq_getElem hi,List.getElem?_eq_getElem hi'] at ei
 simp only[Option.map_some,Option.some.injEq,Prod.mk.injEq] at ei
 exact Prod.ext (Int.eq_of_mul_eq_mul_left (by omega) ei.1) (Int.eq_of_mul_eq_mul_left (by omega) ei.2)
structure RingIn (ps:List Pt) (z:Pt) (T:List Pt):Prop where
 cvx:Cvx (z::T)
 least:∀q∈T,¬ltP q z
 mem:∀q∈z::T,q∈ps
 left:∀a b,Cyc (z::T) a b->∀q∈ps,0<=aG a b q
noncomputable def ZK (ps:List Pt):Prop:=∀D,Inc D->(∀z,z∈D↔z∈ps)->2<=D.length->(mP D).length<3
noncomputable def cM:FD:=λds Q=>∃(share:Int) (ps:List Pt),ds=[.int share,pts ps]/\(0<share/\BL 9000 share)/\(∀z∈ps,BP z)/\ps.length<64 /\
 ((∃z T,RingIn ps z T/\∀m sh zs,NormOf share (z::T) m sh zs->Q (.tup [.int sh,.tup (zs.map pt)]))\/(ZK ps/\Q .non))
theorem BB:∀ds Q,cM ds Q->ds.length=2:=by rintro ds Q ⟨_,_,rfl,_⟩;rfl
theorem zA:∀ds Q,cM ds Q->kC cL qN { nx:=λ_=>Q .non,rt:=Q } (aS ["share","points","corners","divisor","x","y"] ds):=by
 rintro ds Q ⟨share,ps,rfl,⟨hs,bs⟩,hb,hl,hq⟩
 rw[aX 4 rfl]
 unfold kC
 simp only[cP,OH,List.map_cons,List.map_nil,List.cons_append,List.nil_append]
 refine aN (λρ=>∃r:List Pt,r.length<=200/\((r.length<3/\Q .non)\/(3<=r.length/\∀m sh zs,NormOf share r m sh zs->Q (.tup [.int sh,.tup (zs.map pt)])))/\ρ=[some (.d (.int share)),some (.d (pts ps)),some (.d (pts r)),none,none,none]) (λK hK=>?_) ?_
 ·walk_at "rd"
  refine⟨ps,rfl,hb,hl,λD r iD hm h2 h1 hr=>hK _ ⟨r,hr,?_,rfl⟩⟩
  rcases hq with ⟨z,T,R,q⟩ | ⟨fl,q⟩
  ·have sub:3<=D.length:=by
    have:=iZ (z::T) D R.cvx.nodup λx hx=>(hm x).mpr (R.mem x hx)
    have:=R.cvx.len
    omega
   have e:=kE (L:=ps) iD R.cvx R.least (λx hx=>(hm x).mpr (R.mem x hx)) λa b hab x hx=>R.left a b hab x ((hm x).mp hx)
   have er:=h2 (by omega)
   rw[e] at er
   subst er
   exact Or.inr ⟨R.cvx.len,q⟩
  ·refine Or.inl ⟨?_,q⟩
   by_cases hd:2<=D.length
   ·rw[h2 hd];exact fl D iD hm hd
   ·exact h1 (by omega)
 rintro ρ ⟨r,hr,hq,rfl⟩
 rcases hq with ⟨h3,q⟩ | ⟨h3,q⟩
 ·walk_at "rd"
  rw[if_pos (by simp;omega)]
  exact q
 refine aN (λρ=>ρ=[some (.d (.int share)),some (.d (pts ps)),some (.d (pts r)),none,none,none]) (λK hK=>?_) ?_
 ·walk_at "rd"
  rw[if_neg (by simp;omega)]
  exact hK _ rfl
 rintro ρ rfl
 refine aN (λρ=>ρ=[some (.d (.int share)),some (.d (pts ps)),some (.d (pts r)),some (.d (.int share)),none,none]) (λK hK=>?_) ?_
 ·walk_at "rd"
  exact hK _ rfl
 rintro ρ rfl
 refine aN (λρ=>∃(g:Nat) (x y:Option S),GcdOf share r g/\ρ=[some (.d (.int share)),some (.d (pts ps)),some (.d (pts r)),some (.d (.int g)),x,y]) (λK hK=>?_) ?_
 ·walk_at "rd"
  refine cQ (λxs ρ=>∃(done rest:List Pt) (g:Nat) (x y:Option S),r=done++rest/\xs=rest.map pt/\GcdOf share done g/\ρ=[some (.d (.int share)),some (.d (pts ps)),some (.d (pts r)),some (.d (.int g)),x,y]) ?_ ?_ _ _ ⟨[],r,share.toNat,none,none,rfl,rfl,⟨by omega,?_,by simp,λd e1 _=>?_⟩,?_⟩
  ·rintro x xs ρ ⟨done,rest,g,u,v,e,ex,hg,rfl⟩ F _ _ hn _
   cases rest with
   | nil=>cases ex
   | cons z rest =>
    cases ex
    unfold mR
    walk_at "rd"
    refine⟨_,_,rfl,_,_,rfl,?_⟩
    exact hn _ ⟨done++[z],rest,_,_,_,by simpa using e,rfl,hg.snoc z,rfl⟩
  ·rintro ρ ⟨done,rest,g,u,v,e,ex,hg,rfl⟩
   have:rest=[]:=by simpa using ex.symm
   subst this
   rw[List.append_nil] at e
   subst e
   exact hK _ ⟨g,u,v,hg,rfl⟩
  ·have:(share.toNat:Int)=share:=by omega
   rw[this];exact Int.dvd_refl _
  ·have:(share.toNat:Int)=share:=by omega
   exact_mod_cast (by rw[this];exact e1:(d:Int)∣(share.toNat:Int))
  ·have:(share.toNat:Int)=share:=by omega
   rw[this]
 rintro ρ ⟨g,x,y,hg,rfl⟩
 have gp:(0:Int)<g:=by have:=hg.pos;omega
 have gb:BL 9000 (g:Int):=hg.bl hs bs
 obtain⟨zs,ez⟩:∃zs,zs=r.map λz=>(z.1 / (g:Int),z.2 / (g:Int)):=⟨_,rfl⟩
 have ec:r=zs.map λz=>((g:Int)*z.1,(g:Int)*z.2):=by
  rw[ez,List.map_map]
  symm
  conv=>rhs;rw[<-List.map_id r]
  refine List.map_congr_left λz hz=>?_
  obtain⟨a,b⟩:=hg.all z hz
  simp only[Function.comp,id,Int.mul_ediv_cancel' a,Int.mul_ediv_cancel' b]
 obtain⟨sh,es⟩:=hg.sh
 have ediv:share.fdiv g=sh:=by
  rw[Int.fdiv_eq_ediv_of_nonneg _ (by omega),es,Int.mul_ediv_cancel_left _ (by omega)]
 walk_at "rd"
 refine⟨gb.divOk (by omega),?_⟩
 refine⟨dF (by simp;omega),?_⟩
 refine cY (λρ=>∃a b,ρ=[a,b,some (.d (.int g))]) pt (λz=>pt (z.1 / (g:Int),z.2 / (g:Int))) r ?_ ⟨_,_,rfl⟩ ?_
 ·rintro z hz ρ ⟨a,b,rfl⟩ K' hK'
  walk_at "rd"
  refine⟨gb.divOk (by omega),gb.divOk (by omega),?_⟩
  rw[Int.fdiv_eq_ediv_of_nonneg _ (by omega),Int.fdiv_eq_ediv_of_nonneg _ (by omega)]
  exact hK' _ ⟨_,_,rfl⟩
 ·have e:List.map (λz:Pt=>pt (z.1 / (g:Int),z.2 / (g:Int))) r=zs.map pt:=by rw[ez,List.map_map];rfl
  rw[ediv,e]
  refine q g sh zs ⟨gp,es,ec,λd h1 h2=>?_⟩
  have:=hg.most (d*g) (by
   rw[es];push_cast
   obtain⟨c,ec⟩:=h1
   exact⟨c,by rw[ec];grind⟩) λz hz=>by
   rw[ec] at hz
   obtain⟨w,hw,rfl⟩:=List.mem_map.mp hz
   obtain⟨⟨c1,e1⟩,c2,e2⟩:=h2 w hw
   push_cast
   exact⟨⟨c1,by rw[e1];grind⟩,c2,by rw[e2];grind⟩
  have le:=Nat.le_of_dvd hg.pos this
  have d0:d≠0:=by
   rintro rfl
   rw[Nat.zero_mul] at this
   have:=Nat.eq_zero_of_zero_dvd this
   have:=hg.pos
   omega
  apply Nat.le_antisymm ?_ (by omega)
  apply Nat.not_lt.mp
  intro h
  have:2*g<=d*g:=Nat.mul_le_mul_right _ h
  have:=hg.pos
  omega
noncomputable def Rot {α:Type} (A B:List α):Prop:=∃X Y,A=X++Y/\B=Y++X
theorem Rot.symm {α:Type} {A B:List α} (h:Rot A B):Rot B A:=by obtain⟨X,Y,a,b⟩:=h;exact⟨Y,X,b,a⟩
theorem Rot.trans {α:Type} {A B C:List α} (h:Rot A B) (k:Rot B C):Rot A C:=by
 obtain⟨X,Y,rfl,rfl⟩:=h
 obtain⟨X',Y',e,rfl⟩:=k
 rcases List.append_eq_append_iff.mp e with ⟨W,e1,e2⟩ | ⟨W,e1,e2⟩
 ·-- X'=Y++W
  exact⟨W,Y'++Y,by rw[e2];simp,by rw[e1];simp⟩
 ·exact⟨X++X',W,by rw[e1];simp,by rw[e2];simp⟩
theorem Rot.map {α β:Type} {A B:List α} (f:α->β) (h:Rot A B):Rot (A.map f) (B.map f):=by
 obtain⟨X,Y,rfl,rfl⟩:=h;exact⟨X.map f,Y.map f,by simp,by simp⟩
theorem Rot.mem {α:Type} {A B:List α} (h:Rot A B) (x:α):x∈A↔x∈B:=by
 obtain⟨X,Y,rfl,rfl⟩:=h;simp[or_comm]
theorem Cvx.rot {A B:List Pt} (h:Rot A B) (c:Cvx A):Cvx B:=by obtain⟨X,Y,rfl,rfl⟩:=h;exact c.swap
theorem AY (cs:List Pt) (hne:cs≠[]):∃z T,Rot cs (z::T)/\∀q∈T,¬ltP q z:=by
 have:∃z∈cs,∀q∈cs,¬ltP q z:=by
  induction cs with
  | nil=>exact absurd rfl hne
  | cons c cs ih =>
   by_cases hc:cs=[]
   ·subst hc;exact⟨c,by simp,λq hq=>by simp at hq;subst hq;exact gH⟩
   ·obtain⟨z,hz,hl⟩:=ih hc
    rcases eT c z with h | h | h
    ·refine⟨c,by simp,λq hq=>?_⟩
     rcases List.mem_cons.mp hq with rfl | hq
     ·exact gH
     ·exact λk=>hl q hq (eI k h)
    ·subst h
     refine⟨c,by simp,λq hq=>?_⟩
     rcases List.mem_cons.mp hq with rfl | hq
     ·exact gH
     ·exact hl q hq
    ·refine⟨z,by simp[hz],λq hq=>?_⟩
     rcases List.mem_cons.mp hq with rfl | hq
     ·exact gQ h
     ·exact hl q hq
 obtain⟨z,hz,hl⟩:=this
 obtain⟨X,Y,rfl⟩:=List.append_of_mem hz
 exact⟨z,Y++X,⟨X,z::Y,rfl,rfl⟩,λq hq=>hl q (by simp at hq ⊢;rcases hq with h | h <;> simp[h])⟩
noncomputable abbrev scl (k:Int) (z:Pt):Pt:=(k*z.1,k*z.2)
theorem uP {k:Int} (hk:0<k) {a b:Pt}:ltP (scl k a) (scl k b)↔ltP a b:=by
 unfold ltP scl
 dsimp only
 rw[Int.mul_lt_mul_left hk,Int.mul_lt_mul_left hk]
 constructor
 ·rintro (h | ⟨h,h'⟩)
  ·exact Or.inl h
  ·exact Or.inr ⟨Int.eq_of_mul_eq_mul_left (by omega) h,h'⟩
 ·rintro (h | ⟨h,h'⟩)
  ·exact Or.inl h
  ·exact Or.inr ⟨by rw[h],h'⟩
theorem zC {k:Int} (hk:0<k) {a b:Pt} (h:scl k a=scl k b):a=b:=by
 simp only[scl,Prod.mk.injEq] at h
 exact Prod.ext (Int.eq_of_mul_eq_mul_left (by omega) h.1) (Int.eq_of_mul_eq_mul_left (by omega) h.2)
theorem CG (k:Int) (a b c:Pt):aG (scl k a) (scl k b) (scl k c)=k*k*aG a b c:=by unfold aG scl;dsimp only;grind
theorem Cvx.unscl {k:Int} (hk:0<k) {cs:List Pt} (h:Cvx (cs.map (scl k))):Cvx cs:=by
 refine⟨by simpa using h.len,?_,λa b hab q hq n1 n2=>?_⟩
 ·exact List.Pairwise.of_map (scl k) (λa b hn e=>hn (by rw[e])) h.nodup
 ·have c:Cyc (cs.map (scl k)) (scl k a) (scl k b):=by
   obtain⟨l,r,e⟩:=hab
   refine⟨l.map (scl k),r.map (scl k),?_⟩
   rw[<-List.map_take,<-List.map_append,e];simp
  have:=h.strict _ _ c (scl k q) (List.mem_map_of_mem hq) (λe=>n1 (zC hk e)) λe=>n2 (zC hk e)
  rw[CG] at this
  exact Int.pos_of_mul_pos_left (by rw[Int.mul_comm];exact this) (Int.mul_pos hk hk)
noncomputable abbrev mv (k r w:Int) (z:Pt):Pt:=(k*z.1+r,k*z.2+w)
theorem gT {x lo hi:Int} (h:lo<=x/\x<=hi) (h1:-1000000<lo) (h2:hi<1000000):BL 20 x:=by unfold BL;omega
theorem XM {a b:Int} (c hi:Int) (hb:0<b) (h:c+b<=hi+1):c<=c+a.fmod b/\c+a.fmod b<=hi:=by
 obtain⟨h1,h2⟩:=bA (a:=a) hb
 exact⟨by omega,by omega⟩
theorem TM {a b:Int} (c hi:Int) (hb:0<b) (h:b<=c+hi+1):-c<=a.fmod b-c/\a.fmod b-c<=hi:=by
 obtain⟨h1,h2⟩:=bA (a:=a) hb
 exact⟨by omega,by omega⟩
theorem LB {x:Int} {n:Nat} (h:-(n:Int)<=x/\x<=n):x.natAbs<=n:=by omega
theorem UW {x:Int} {n:Nat} (h:x.natAbs<=n):-(n:Int)<=x/\x<=n:=by omega
noncomputable def lT:FD:=λds Q=>∃(h0 h1 h2 h3 h4 h5 h6:Int) (rest:List D) (far:Int),ds=[.lst (.int h0 :: .int h1 :: .int h2 :: .int h3 :: .int h4 :: .int h5 :: .int h6::rest),.int far]/\(0<=far/\BL 200 far) /\
 ∀lows highs top p q r s ox oy,RingForm lows highs top p q r s ox oy->lows.length<=4->Q (pts (kD lows highs top p q r s ox oy))
theorem JI:∀ds Q,lT ds Q->ds.length=2:=by rintro ds Q ⟨_,_,_,_,_,_,_,_,_,rfl,_⟩;rfl
theorem rQ:∀ds Q,lT ds Q->fA rY { nx:=λ_=>Q .non,rt:=Q } (aS ["_law_head","_law_far","_law_lows","_law_highs","_law_top","_law_ring_here","_law_p","_law_q","_law_r","_law_s","_law_off"] ds):=by
 rintro ds Q ⟨h0,h1,h2,h3,h4,h5,h6,rest,far,rfl,⟨hf0,hf1⟩,hQ⟩
 rw[aX 9 rfl]
 unfold fA
 generalize hH:D.lst (.int h0 :: .int h1 :: .int h2 :: .int h3 :: .int h4 :: .int h5 :: .int h6::rest)=HD
 simp only[cP,WP,List.map_cons,List.map_nil,List.cons_append,List.nil_append]
 refine aN (λρ=>∃lows,Rises lows/\(2<=lows.length/\lows.length<=4)/\ρ=[some (.d HD),some (.d (.int far)),some (.d (il lows)),none,none,none,none,none,none,none,none]) (λK hK=>?_) ?_
 ·rw[<-hH] at hK ⊢
  walk_at "rd"
  walk_at "sides"
  obtain⟨a0,a1⟩:=bA (a:=h0) (b:=3) (by decide)
  exact⟨_,_,rfl,⟨by omega,by omega⟩,λxs hr hl=>hK _ ⟨xs,hr,⟨by omega,by omega⟩,rfl⟩⟩
 rintro ρ ⟨lows,hlr,hln,rfl⟩
 refine aN (λρ=>∃highs,Rises highs/\(1<=highs.length/\highs.length<=3)/\ρ=[some (.d HD),some (.d (.int far)),some (.d (il lows)),some (.d (il highs)),none,none,none,none,none,none,none]) (λK hK=>?_) ?_
 ·rw[<-hH] at hK ⊢
  walk_at "rd"
  walk_at "sides"
  obtain⟨a0,a1⟩:=bA (a:=h1) (b:=3) (by decide)
  exact⟨_,_,rfl,⟨by omega,by omega⟩,λxs hr hl=>hK _ ⟨xs,hr,⟨by omega,by omega⟩,rfl⟩⟩
 rintro ρ ⟨highs,hhr,hhn,rfl⟩
 have small:∀x∈lows++highs,-4<=x/\x<=60:=λx hx=>by
  rcases List.mem_append.mp hx with h | h
  ·obtain⟨i,hi,rfl⟩:=List.getElem_of_mem h
   have:=hlr.bound i _ (List.getElem?_eq_getElem hi)
   omega
  ·obtain⟨i,hi,rfl⟩:=List.getElem_of_mem h
   have:=hhr.bound i _ (List.getElem?_eq_getElem hi)
   omega
 have sq:∀x∈lows++highs,0<=x*x/\x*x<=3600:=λx hx=>by
  have:=small x hx
  constructor
  ·exact OT x
  ·by_cases h:0<=x
   ·exact Int.le_trans (Int.mul_le_mul this.2 this.2 h (by decide)) (by decide)
   ·have:x = -4\/x = -3\/x = -2\/x = -1:=by omega
    rcases this with rfl | rfl | rfl | rfl <;> decide
 refine aN (λρ=>∃top,(∀x∈lows++highs,2*(x*x)+1<=top)/\top<=10000/\ρ=[some (.d HD),some (.d (.int far)),some (.d (il lows)),some (.d (il highs)),some (.d (.int top)),none,none,none,none,none,none]) (λK hK=>?_) ?_
 ·rw[<-hH] at hK ⊢
  walk_at "rd"
  refine⟨dF (by simp;omega),dF (by simp;omega),?_⟩
  rw[<-List.map_append]
  refine cY (λρ=>∃a,ρ=[a]) D.int (λx=>D.int (x*x)) (lows++highs) ?_ ⟨_,rfl⟩ ?_
  ·rintro x hx ρ ⟨b,rfl⟩ K' hK'
   walk_at "rd"
   have b:=gT (small x hx) (by decide) (by decide)
   exact⟨b.mulOk b,hK' _ ⟨_,rfl⟩⟩
  ·refine⟨(lows++highs).map λx=>x*x,by rw[List.map_map];rfl,by intro e;simp at e;rw[e.1] at hln;simp at hln,λM hM hmax=>?_⟩
   obtain⟨x0,hx0,rfl⟩:=List.mem_map.mp hM
   have s0:=sq x0 hx0
   walk_at "rd"
   generalize x0*x0=M at *
   refine⟨(BL.const (n:=20)).mulOk (gT s0 (by decide) (by decide)),gW,?_⟩
   obtain⟨d0,d1⟩:=bA (a:=h2) (b:=9) (by decide)
   refine hK _ ⟨_,λx hx=>?_,?_,rfl⟩
   ·have:=hmax (x*x) (List.mem_map.mpr ⟨x,hx,rfl⟩)
    omega
   ·omega
 rintro ρ ⟨top,topL,topH,rfl⟩
 have topB:1<=top:=by
  have hne:lows++highs≠[]:=by intro e;simp at e;rw[e.1] at hln;simp at hln
  obtain⟨x,hx⟩:=List.exists_mem_of_ne_nil _ hne
  have:=topL x hx
  have:=sq x hx
  omega
 refine aN (λρ=>ρ=[some (.d HD),some (.d (.int far)),some (.d (il lows)),some (.d (il highs)),some (.d (.int top)),some (.d (pts (dG lows highs top))),none,none,none,none,none]) (λK hK=>?_) ?_
 ·walk_at "rd"
  refine⟨dF (by simp;omega),?_⟩
  refine cY (λρ=>∃a,ρ=[a]) D.int (λx=>pt (x,x*x)) lows ?_ ⟨_,rfl⟩ ?_
  ·rintro x hx ρ ⟨b,rfl⟩ K' hK'
   walk_at "rd"
   have b:=gT (small x (List.mem_append_left _ hx)) (by decide) (by decide)
   exact⟨b.mulOk b,hK' _ ⟨_,rfl⟩⟩
  ·refine⟨dF (by simp;omega),?_⟩
   rw[<-List.map_reverse]
   refine cY (λρ=>∃a,ρ=[a,some (.d (.int top))]) D.int (λx=>pt (x,top-x*x)) highs.reverse ?_ ⟨_,rfl⟩ ?_
   ·rintro x hx ρ ⟨b,rfl⟩ K' hK'
    walk_at "rd"
    have b:=gT (small x (List.mem_append_right _ (List.mem_reverse.mp hx))) (by decide) (by decide)
    exact⟨b.mulOk b,hK' _ ⟨_,rfl⟩⟩
   ·refine⟨dF (by simp;omega),hK _ ?_⟩
    unfold dG pts
    simp only[List.map_append,List.map_map]
    rfl
 rintro ρ rfl
 refine aN (λρ=>∃p,(1<=p/\p<=3)/\ρ=[some (.d HD),some (.d (.int far)),some (.d (il lows)),some (.d (il highs)),some (.d (.int top)),some (.d (pts (dG lows highs top))),some (.d (.int p)),none,none,none,none]) (λK hK=>?_) ?_
 ·rw[<-hH] at hK ⊢
  walk_at "rd"
  walk_at "sides"
  exact hK _ ⟨_,XM 1 3 (by decide) (by decide),rfl⟩
 rintro ρ ⟨p,hp,rfl⟩
 refine aN (λρ=>∃q,(-3<=q/\q<=3)/\ρ=[some (.d HD),some (.d (.int far)),some (.d (il lows)),some (.d (il highs)),some (.d (.int top)),some (.d (pts (dG lows highs top))),some (.d (.int p)),some (.d (.int q)),none,none,none]) (λK hK=>?_) ?_
 ·rw[<-hH] at hK ⊢
  walk_at "rd"
  walk_at "sides"
  exact hK _ ⟨_,TM 3 3 (by decide) (by decide),rfl⟩
 rintro ρ ⟨q,hq,rfl⟩
 refine aN (λρ=>∃r,(-3<=r/\r<=3)/\ρ=[some (.d HD),some (.d (.int far)),some (.d (il lows)),some (.d (il highs)),some (.d (.int top)),some (.d (pts (dG lows highs top))),some (.d (.int p)),some (.d (.int q)),some (.d (.int r)),none,none]) (λK hK=>?_) ?_
 ·rw[<-hH] at hK ⊢
  walk_at "rd"
  walk_at "sides"
  exact hK _ ⟨_,TM 3 3 (by decide) (by decide),rfl⟩
 rintro ρ ⟨r,hr,rfl⟩
 have qr:-9<=q*r/\q*r<=9:=UW (n:=9) (by rw[Int.natAbs_mul];exact Nat.mul_le_mul (LB (n:=3) hq) (LB (n:=3) hr))
 refine aN (λρ=>∃s,(-9<=s/\s<=12)/\0<p*s-q*r/\ρ=[some (.d HD),some (.d (.int far)),some (.d (il lows)),some (.d (il highs)),some (.d (.int top)),some (.d (pts (dG lows highs top))),some (.d (.int p)),some (.d (.int q)),some (.d (.int r)),some (.d (.int s)),none]) (λK hK=>?_) ?_
 ·rw[<-hH] at hK ⊢
  walk_at "rd"
  obtain⟨d0,d1⟩:=bA (a:=h4.fdiv 7) (b:=3) (by decide)
  refine⟨(gT hq (by decide) (by decide)).mulOk (gT hr (by decide) (by decide)),((gT hp (by decide) (by decide)).mono (by decide)).divOk (by omega),?_⟩
  walk_at "sides"
  generalize (h4.fdiv 7).fmod 3=z at *
  have e:(q*r).fdiv p=(q*r) / p:=Int.fdiv_eq_ediv_of_nonneg _ (by omega)
  rw[e]
  generalize q*r=m at *
  have hp':p=1\/p=2\/p=3:=by omega
  refine hK _ ⟨_,?_,?_,rfl⟩
  ·rcases hp' with rfl | rfl | rfl <;> omega
  ·rcases hp' with rfl | rfl | rfl <;> omega
 rintro ρ ⟨s,hs,det,rfl⟩
 refine aN (λρ=>∃ox oy,BL 202 ox/\BL 202 oy/\ρ=[some (.d HD),some (.d (.int far)),some (.d (il lows)),some (.d (il highs)),some (.d (.int top)),some (.d (pts (dG lows highs top))),some (.d (.int p)),some (.d (.int q)),some (.d (.int r)),some (.d (.int s)),some (.d (pt (ox,oy)))]) (λK hK=>?_) ?_
 ·rw[<-hH] at hK ⊢
  walk_at "rd"
  refine⟨(BL.const (n:=20)).mulOk hf1,⟨by omega⟩,(BL.const (n:=20)).mulOk hf1,⟨by omega⟩,?_⟩
  exact hK _ ⟨_,_,NS hf0 hf1,NS hf0 hf1,rfl⟩
 rintro ρ ⟨ox,oy,hox,hoy,rfl⟩
 have RF:RingForm lows highs top p q r s ox oy:=⟨hlr,hhr,⟨hln.1,by omega⟩,hhn,topL,topH,hp,hq,hr,hs,det,hox,hoy⟩
 have bow:∀z∈dG lows highs top,BL 20 z.1/\BL 20 z.2:=λz hz=>by
  unfold dG at hz
  rcases List.mem_append.mp hz with h | h
  ·obtain⟨x,hx,rfl⟩:=List.mem_map.mp h
   exact⟨gT (small x (List.mem_append_left _ hx)) (by decide) (by decide),gT (sq x (List.mem_append_left _ hx)) (by decide) (by decide)⟩
  ·obtain⟨x,hx,rfl⟩:=List.mem_map.mp h
   have hx:=List.mem_reverse.mp hx
   obtain⟨q0,q1⟩:=sq x (List.mem_append_right _ hx)
   exact⟨gT (small x (List.mem_append_right _ hx)) (by decide) (by decide),gT (lo:=0-3600) (hi:=10000) (x:=top-x*x) ⟨Int.sub_le_sub (Int.le_trans (show (0:Int)<=1 by decide) topB) q1,Int.le_trans (Int.sub_le_self _ q0) topH⟩ (by decide) (by decide)⟩
 walk_at "rd"
 refine⟨dF (by unfold dG;simp;omega),?_⟩
 refine cY (λρ=>∃a b,ρ=[a,b,some (.d (.int p)),some (.d (.int q)),some (.d (pt (ox,oy))),some (.d (.int r)),some (.d (.int s))]) pt (λz=>pt (aff p q r s ox oy z)) (dG lows highs top) ?_ ⟨_,_,rfl⟩ ?_
 ·rintro z hz ρ ⟨a,b,rfl⟩ K' hK'
  obtain⟨b1,b2⟩:=bow z hz
  walk_at "rd"
  have cp:BL 20 p:=gT hp (by decide) (by decide)
  have cq:BL 20 q:=gT hq (by decide) (by decide)
  have cr:BL 20 r:=gT hr (by decide) (by decide)
  have cs:BL 20 s:=gT hs (by decide) (by decide)
  exact⟨cp.mulOk b1,cq.mulOk b2,cr.mulOk b1,cs.mulOk b2,hK' _ ⟨_,_,rfl⟩⟩
 ·have:=hQ lows highs top p q r s ox oy RF hln.2
  unfold pts kD at this
  rw[List.map_map] at this
  exact this
noncomputable def nT:FD:=λds Q=>∃(x:D) (a b:D) (t:List D),ds=[x]/\(x = .tup (a::b::t)\/x = .lst (a::b::t))/\t.length<=1000/\Q (.lst (List.zipWith (λu v=>D.tup [u,v]) (a::b::t) (b::t++[a])))
theorem JH:∀ds Q,nT ds Q->ds.length=1:=by rintro ds Q ⟨_,_,_,_,rfl,_⟩;rfl
theorem rS:∀ds Q,nT ds Q->fT { nx:=λ_=>Q .non,rt:=Q } (aS ["ones"] ds):=by
 rintro ds Q ⟨x,a,b,t,rfl,hx,hl,q⟩
 rw[aX 0 rfl]
 unfold fT
 have c1:jD (a::b::t) (some 1) none=b::t:=wJ (j:=1) (by simp)
 have c2:jD (a::b::t) none (some 1)=[a]:=FZ (j:=1) (by simp)
 have s1:HT.sIx (a::b::t).length 0 (some 1)=1:=by rw[show (some (1:Int))=some ((1:Nat):Int) from rfl,HT.sIx_nat];simp
 have s2:HT.sIx (a::b::t).length (a::b::t).length (some 1)=1:=by rw[show (some (1:Int))=some ((1:Nat):Int) from rfl,HT.sIx_nat];simp
 rcases hx with rfl | rfl
 ·simp only[cP,cC,FB,aA,r2,uI,gZ,eW,rC,kG,List.map_cons,List.map_nil,List.replicate_zero,List.append_nil,List.getElem?_cons_zero,S.val]
  refine⟨λh=>by rw[s1] at h;exact absurd h.1 (by decide),λh=>by rw[s2] at h;have:=h.2;simp at this,?_⟩
  rw[c1,c2]
  refine⟨by simp,dF (by simp;omega),_,_,rfl,rfl,by simp,q⟩
 ·simp only[cP,cC,FB,aA,r2,uI,gZ,eW,rC,kG,List.map_cons,List.map_nil,List.replicate_zero,List.append_nil,List.getElem?_cons_zero,S.val]
  rw[c1,c2]
  refine⟨dF (by simp;omega),_,_,rfl,rfl,by simp,q⟩
noncomputable abbrev cr (a b:Int × Int):Int:=a.1*b.2-a.2*b.1
noncomputable def chain (a:Int × Int):List (Int × Int)->Int
 | []=>0
 | b::r=>cr a b+chain b r
noncomputable def kF (n:Nat) (zs:List (Int × Int)):Prop:=∀z∈zs,BL n z.1/\BL n z.2
theorem LJ {n:Nat}:∀{xs:List Int} {k:Nat},(∀x∈xs,BL n x)->xs.length<=k->BL (n+k) xs.sum
 | [],k,_,_=>by
  show (0:Int).natAbs<_
  exact Nat.two_pow_pos _
 | x::xs,0,_,h=>by simp at h
 | x::xs,k+1,hb,hl=>by
  rw[List.sum_cons]
  have h1:=hb x List.mem_cons_self
  have h2:=LJ (k:=k) (λy hy=>hb y (List.mem_cons_of_mem _ hy)) (by simpa using hl)
  exact (h1.add h2).mono (by omega)
theorem RingForm.small {lows highs:List Int} {top p q r s ox oy:Int} (R:RingForm lows highs top p q r s ox oy):kF 210 (kD lows highs top p q r s ox oy):=by
 have sm:∀x∈lows++highs,-4<=x/\x<=60:=λx hx=>by
  have:=R.lowsN
  have:=R.highsN
  rcases List.mem_append.mp hx with h | h
  ·obtain⟨i,hi,rfl⟩:=List.getElem_of_mem h
   have:=R.lowsR.bound i _ (List.getElem?_eq_getElem hi)
   omega
  ·obtain⟨i,hi,rfl⟩:=List.getElem_of_mem h
   have:=R.highsR.bound i _ (List.getElem?_eq_getElem hi)
   omega
 have tp:∀x∈lows++highs,0<=x*x/\x*x<=top/\top<=10000:=λx hx=>by
  have:=R.topL x hx
  have:=R.topH
  have:=OT x
  omega
 intro z hz
 obtain⟨w,hw,rfl⟩:=List.mem_map.mp hz
 have hw':BL 20 w.1/\BL 20 w.2:=by
  unfold dG at hw
  rcases List.mem_append.mp hw with h | h
  ·obtain⟨x,hx,rfl⟩:=List.mem_map.mp h
   have:=sm x (List.mem_append_left _ hx)
   have:=tp x (List.mem_append_left _ hx)
   exact⟨BL.of_lt (by simp;omega) (by simp;omega),BL.of_lt (by simp;omega) (by simp;omega)⟩
  ·obtain⟨x,hx,rfl⟩:=List.mem_map.mp h
   have hx:=List.mem_reverse.mp hx
   have:=sm x (List.mem_append_right _ hx)
   have:=tp x (List.mem_append_right _ hx)
   exact⟨BL.of_lt (by simp;omega) (by simp;omega),BL.of_lt (by simp;omega) (by simp;omega)⟩
 have:=R.pB
 have:=R.qB
 have:=R.rB
 have:=R.sB
 have cp:BL 20 p:=BL.of_lt (by omega) (by omega)
 have cq:BL 20 q:=BL.of_lt (by omega) (by omega)
 have cr:BL 20 r:=BL.of_lt (by omega) (by omega)
 have cs:BL 20 s:=BL.of_lt (by omega) (by omega)
 exact⟨(((cp.mul hw'.1).add (cq.mul hw'.2)).add R.oxB).mono (by decide),(((cr.mul hw'.1).add (cs.mul hw'.2)).add R.oyB).mono (by decide)⟩
theorem RingForm.len {lows highs:List Int} {top p q r s ox oy:Int} (R:RingForm lows highs top p q r s ox oy):3<=(kD lows highs top p q r s ox oy).length/\(kD lows highs top p q r s ox oy).length<=24:=by
 have h1:=R.lowsN
 have h2:=R.highsN
 simp only[kD,dG,List.length_map,List.length_append,List.length_reverse]
 omega
theorem mM {m a:Int} (hm:0<m):a.natAbs<=(m*a).natAbs:=by
 rw[Int.natAbs_mul]
 have:1<=m.natAbs:=by omega
 calc a.natAbs=1*a.natAbs:=(Nat.one_mul _).symm
  _<=m.natAbs*a.natAbs:=Nat.mul_le_mul_right _ this
theorem DueOf.small {share:Int} {cs:List (Int × Int)} {m sh:Int} {ds:List (Int × Int)} {j n:Nat} (h:DueOf share cs m sh ds j) (hs:kF n cs):kF n ds:=λz hz=>by
 have:=hs (m*z.1,m*z.2) (by rw[h.cs_eq];exact List.mem_map.mpr ⟨z,hz,rfl⟩)
 exact⟨this.1.le (mM h.mpos),this.2.le (mM h.mpos)⟩
theorem DueOf.sh_pos {share:Int} {cs:List (Int × Int)} {m sh:Int} {ds:List (Int × Int)} {j:Nat} (h:DueOf share cs m sh ds j) (hs:0<share):0<sh:=by
 have:=h.mpos
 have e:=h.sh_eq
 rcases Int.lt_or_le 0 sh with h' | h'
 ·exact h'
 ·have:=Int.mul_nonpos_of_nonneg_of_nonpos (Int.le_of_lt this) h'
  omega
theorem DueOf.len {share:Int} {cs:List (Int × Int)} {m sh:Int} {ds:List (Int × Int)} {j:Nat} (h:DueOf share cs m sh ds j):ds.length=cs.length:=by rw[h.cs_eq];simp
theorem FN {α:Type} {j:Nat} {ds:List α} (h:j<=ds.length):(turned j ds).length=ds.length:=by simp[turned];omega
theorem uW {α:Type} {j:Nat} {ds:List α} {x:α} (h:x∈turned j ds):x∈ds:=by
 rcases List.mem_append.mp h with h | h
 ·exact List.mem_of_mem_drop h
 ·exact List.mem_of_mem_take h
namespace K12
end K12
structure Line where
 a:Int
 b:Int
 c:Int
noncomputable abbrev ln (l:Line):D:=.tup [.int l.a,.int l.b,.int l.c]
noncomputable def Line.BLn (n:Nat) (l:Line):Prop:=BL n l.a/\BL n l.b/\BL n l.c
noncomputable abbrev exc (l:Line) (p:Int × Int) (s:Int):Int:=l.a*p.1+l.b*p.2-l.c*s
noncomputable def cX:FD:=λds Q=>∃(l:Line) (p:Int × Int) (s:Int),ds=[ln l,pt p,.int s]/\(l.BLn 100000/\BL 100000 p.1/\BL 100000 p.2/\BL 100000 s)/\Q (.int (exc l p s))
theorem EG:∀ds Q,cX ds Q->ds.length=3:=by rintro ds Q ⟨_,_,_,rfl,_⟩;rfl
theorem BY:∀ds Q,cX ds Q->mB { nx:=λ_=>Q .non,rt:=Q } (aS ["line","point","share"] ds):=by
 rintro ds Q ⟨l,p,s,rfl,⟨⟨b1,b2,b3⟩,b4,b5,b6⟩,q⟩
 rw[aX 0 rfl]
 unfold mB
 walk_at "rd"
 exact⟨b1.mulOk b4,b2.mulOk b5,b3.mulOk b6,q⟩
noncomputable abbrev cyc (z:Int × Int) (t:List (Int × Int)):List ((Int × Int) × (Int × Int)):=List.zip (z::t) (t++[z])
noncomputable abbrev fG (sh:Int) (w:(Int × Int) × (Int × Int)):Line:=⟨sh*(w.2.2-w.1.2),-sh*(w.2.1-w.1.1),(w.2.2-w.1.2)*w.1.1-(w.2.1-w.1.1)*w.1.2⟩
noncomputable def nW:FD:=λds Q=>∃(sh:Int) (z u:Int × Int) (r:List (Int × Int)),ds=[.tup [.int sh,.tup ((z::u::r).map pt)]]/\BL 30000 sh/\(kF 30000 (z::u::r)/\r.length<=900)/\Q (.lst ((cyc z (u::r)).map λw=>ln (fG sh w)))
theorem EM:∀ds Q,nW ds Q->ds.length=1:=by rintro ds Q ⟨_,_,_,_,rfl,_⟩;rfl
theorem TB (xs:List (Int × Int)):∀(ys:List (Int × Int)),List.zipWith (λu v=>D.tup [u,v]) (xs.map pt) (ys.map pt)=(List.zip xs ys).map λw=>D.tup [pt w.1,pt w.2]:=by
 induction xs with
 | nil=>intro ys;simp
 | cons x xs ih =>
  intro ys
  cases ys with
  | nil=>simp
  | cons y ys=>simp[ih]
theorem GA {z:Int × Int} {t:List (Int × Int)} {w:(Int × Int) × (Int × Int)} (h:w∈cyc z t):w.1∈z::t/\w.2∈z::t:=by
 obtain⟨w1,w2⟩:=w
 have m:=List.of_mem_zip h
 refine⟨m.1,?_⟩
 rcases List.mem_append.mp m.2 with h | h
 ·exact List.mem_cons_of_mem _ h
 ·rw[List.mem_singleton.mp h];exact List.mem_cons_self
theorem rT:∀ds Q,nW ds Q->fU nT { nx:=λ_=>Q .non,rt:=Q } (aS ["piece","share","lines","one","other","right","up"] ds):=by
 rintro ds Q ⟨sh,z,u,r,rfl,bs,⟨hB,hl⟩,q⟩
 rw[aX 6 rfl]
 unfold fU
 simp only[cP,WO,List.cons_append,List.nil_append]
 generalize hP:D.tup [D.int sh,D.tup ((z::u::r).map pt)]=P
 simp only[List.map_cons,List.map_nil,List.cons_append,List.nil_append]
 refine aN (λρ=>ρ=[some (.d P),some (.d (.int sh)),none,none,none,none,none]) (λK hK=>?_) ?_
 ·rw[<-hP] at hK ⊢
  walk_at "rd"
  exact hK _ rfl
 rintro ρ rfl
 refine aN (λρ=>ρ=[some (.d P),some (.d (.int sh)),some (.own []),none,none,none,none]) (λK hK=>?_) ?_
 ·walk_at "rd"
  exact hK _ rfl
 rintro ρ rfl
 refine aN (λρ=>∃a b c d,ρ=[some (.d P),some (.d (.int sh)),some (.own ((cyc z (u::r)).map λw=>ln (fG sh w))),a,b,c,d]) (λK hK=>?_) ?_
 ·rw[<-hP] at hK ⊢
  simp only[iB,riL,aY,aD,aK,r2,aA,rC,List.getElem?_cons_zero,S.val,gU]
  refine⟨_,pt z,pt u,r.map pt,rfl,.inl rfl,by simp;omega,?_⟩
  have e:=TB (z::u::r) (u::r++[z])
  simp only[List.map_cons,List.map_append,List.map_nil] at e
  rw[e]
  refine cQ (λxs ρ=>∃(done rest:List ((Int × Int) × (Int × Int))) (a b c d:Option S),cyc z (u::r)=done++rest/\xs=(rest.map λw=>D.tup [pt w.1,pt w.2])/\ρ=[some (.d (.tup [.int sh,.tup ((z::u::r).map pt)])),some (.d (.int sh)),some (.own (done.map λw=>ln (fG sh w))),a,b,c,d]) ?_ ?_ _ _ ⟨[],cyc z (u::r),none,none,none,none,rfl,rfl,rfl⟩
  ·rintro x xs ρ ⟨done,rest,a,b,c,d,e,ex,rfl⟩ F _ _ hn _
   cases rest with
   | nil=>cases ex
   | cons w rest =>
    cases ex
    have hw:w∈cyc z (u::r):=by rw[e];simp
    obtain⟨m1,m2⟩:=GA hw
    have b1:=hB _ m1
    have b2:=hB _ m2
    have hdl:done.length<=1000:=by
     have:=congrArg List.length e
     simp at this;omega
    unfold jM
    generalize D.tup [D.int sh,D.tup ((z::u::r).map pt)]=P at *
    walk_at "rd"
    refine⟨bs.mulOk (b2.2.sub b1.2),bs.neg.mulOk (b2.1.sub b1.1),(b2.2.sub b1.2).mulOk b1.1,(b2.1.sub b1.1).mulOk b1.2,dF (by simp;omega),?_⟩
    exact hn _ ⟨done++[w],rest,some (.d (pt w.1)),some (.d (pt w.2)),some (.d (.int (w.2.1-w.1.1))),some (.d (.int (w.2.2-w.1.2))),by simpa using e,rfl,by simp⟩
  ·rintro ρ ⟨done,rest,a,b,c,d,e,ex,rfl⟩
   have:rest=[]:=by simpa using ex.symm
   subst this
   rw[List.append_nil] at e
   rw[<-e]
   exact hK _ ⟨a,b,c,d,rfl⟩
 rintro ρ ⟨a,b,c,d,rfl⟩
 walk_at "rd"
 exact q
noncomputable def rW:FD:=λds Q=>∃n b p:Int,ds=[.int n,.int b,.int p]/\(0<b/\BL 9000 b)/\(0<=p/\p<=1000)/\∀x,0<=x->x<b->Q (.int x)
theorem JF:∀ds Q,rW ds Q->ds.length=3:=by rintro ds Q ⟨_,_,_,rfl,_⟩;rfl
theorem uD:∀ds Q,rW ds Q->fP { nx:=λ_=>Q .non,rt:=Q } (aS ["_law_number","_law_base","_law_place","_law_k"] ds):=by
 rintro ds Q ⟨n,b,p,rfl,⟨b0,b1⟩,⟨p0,p1⟩,q⟩
 rw[aX 1 rfl]
 unfold fP
 simp only[cP,SC,List.map_cons,List.map_nil,List.cons_append,List.nil_append]
 refine aN (λρ=>∃(m:Int) (o:Option S),ρ=[some (.d (.int m)),some (.d (.int b)),some (.d (.int p)),o]) (λK hK=>?_) ?_
 ·walk_at "rd"
  refine⟨⟨by omega,by omega⟩,?_⟩
  refine cQ (λ_ ρ=>∃(m:Int) (o:Option S),ρ=[some (.d (.int m)),some (.d (.int b)),some (.d (.int p)),o]) ?_ ?_ _ _ ⟨n,none,rfl⟩
  ·rintro x xs ρ ⟨m,o,rfl⟩ F _ _ hn _
   unfold jJ
   walk_at "rd"
   exact⟨b1.divOk (by omega),hn _ ⟨m.fdiv b,some (.d x),rfl⟩⟩
  ·rintro ρ ⟨m,o,rfl⟩
   exact hK _ ⟨m,o,rfl⟩
 rintro ρ ⟨m,o,rfl⟩
 walk_at "rd"
 obtain⟨a0,a1⟩:=bA (a:=m) b0
 exact⟨⟨by omega⟩,q _ a0 a1⟩
structure SpotOk (x y w:Int):Prop where
 x:BL 400 x
 y:BL 400 y
 w1:1<=w
 w2:w<=100000
noncomputable abbrev sp3 (x y w:Int):D:=.tup [.int x,.int y,.int w]
noncomputable def sN:FD:=λds Q=>∃(cs:List (Int × Int)) (c:Int),ds=[pts cs,.int c]/\BL 1000 c/\(kF 300 cs/\1<=cs.length/\cs.length<=40)/\∀x y w,SpotOk x y w->Q (sp3 x y w)
theorem NG:∀ds Q,sN ds Q->ds.length=2:=by rintro ds Q ⟨_,_,rfl,_⟩;rfl
theorem WZ {xs:List Int} {a b:Int}:(∀x∈xs,a<=x/\x<=b)->a*xs.length<=xs.sum/\xs.sum<=b*xs.length:=by
 induction xs with
 | nil=>intro _;simp
 | cons x xs ih =>
  intro h
  have h1:=h x List.mem_cons_self
  have h2:=ih λy hy=>h y (List.mem_cons_of_mem _ hy)
  simp only[List.sum_cons,List.length_cons]
  push_cast
  rw[Int.mul_add,Int.mul_add]
  omega
theorem SM {xs:List Int} {i:Nat} {v:Int} (h:i<xs.length):(xs.set i v).sum=xs.sum-xs[i]+v:=by
 induction xs generalizing i with
 | nil=>simp at h
 | cons x xs ih =>
  cases i with
  | zero=>simp;omega
  | succ i =>
   have h':i<xs.length:=by simpa using h
   simp only[List.set_cons_succ,List.sum_cons,List.getElem_cons_succ,ih h']
   omega
theorem PL (ws:List Int):∀(cs:List (Int × Int)),List.zipWith (λu v=>D.tup [u,v]) (ws.map D.int) (cs.map pt)=(List.zip ws cs).map λw=>D.tup [.int w.1,pt w.2]:=by
 induction ws with
 | nil=>intro cs;simp
 | cons x xs ih =>
  intro cs
  cases cs with
  | nil=>simp
  | cons y ys=>simp[ih]
theorem iF {x:Int} (h:-1<=x/\x<=100000):BL 20 x:=by
 have e:(100000:Int)<((2 ^ 20:Nat):Int):=by decide
 exact BL.of_lt (by omega) (by omega)
theorem vV:∀ds Q,sN ds Q->gJ rW { nx:=λ_=>Q .non,rt:=Q } (aS ["_law_ring_here","_law_cell","_law_weights","_law_k","_law_x","_law_y"] ds):=by
 rintro ds Q ⟨cs,c,rfl,bc,⟨hB,l1,l2⟩,q⟩
 rw[aX 4 rfl]
 unfold gJ
 simp only[cP,OH,List.map_cons,List.map_nil,List.cons_append,List.nil_append]
 have lc:(cs.map pt).length=cs.length:=by simp
 refine aN (λρ=>∃c:Int,ρ=[some (.d (pts cs)),some (.d (.int c)),none,none,none,none]) (λK hK=>?_) ?_
 ·walk_at "rd"
  refine⟨bc.mulOk (BL.const (n:=40)),uC,(BL.const (n:=60)).mulOk (BL.const (n:=60)),?_⟩
  exact hK _ ⟨_,rfl⟩
 rintro ρ ⟨c,rfl⟩
 refine aN (λρ=>ρ=[some (.d (pts cs)),some (.d (.int c)),some (.own []),none,none,none]) (λK hK=>?_) ?_
 ·walk_at "rd"
  exact hK _ rfl
 rintro ρ rfl
 refine aN (λρ=>∃(ws:List Int) (o:Option S),(ws.length=cs.length/\∀w∈ws,-1<=w/\w<=10)/\ρ=[some (.d (pts cs)),some (.d (.int c)),some (.own (ws.map .int)),o,none,none]) (λK hK=>?_) ?_
 ·walk_at "rd"
  rw[lc]
  refine⟨⟨by omega,by omega⟩,?_⟩
  refine cQ (λxs ρ=>(∀x∈xs,∃j:Int,x = .int j/\0<=j/\j<=1000)/\∃(ws:List Int) (o:Option S),(ws.length+xs.length=cs.length/\∀w∈ws,-1<=w/\w<=10)/\ρ=[some (.d (pts cs)),some (.d (.int c)),some (.own (ws.map .int)),o,none,none]) ?_ ?_ _ _ ⟨λx hx=>?_,[],none,⟨by rw[jZ];simp,by simp⟩,rfl⟩
  ·rintro x xs ρ ⟨hx,ws,o,⟨hl,hw⟩,rfl⟩ F _ _ hn _
   obtain⟨j,rfl,j0,j1⟩:=hx x List.mem_cons_self
   unfold kL
   walk_at "rd"
   refine⟨c,11,j,rfl,⟨by decide,(BL.const (n:=20)).mono (by decide)⟩,⟨j0,j1⟩,λy y0 y1=>?_⟩
   walk_at "rd"
   refine⟨dF (by simp at hl ⊢;omega),?_⟩
   obtain⟨v,ev⟩:∃v:Int,v=(if y-5 < -1 then -1 else y-5):=⟨_,rfl⟩
   have hv:-1<=v/\v<=10:=by rw[ev];split <;> omega
   rw[<-ev]
   refine hn _ ⟨λx h=>hx x (List.mem_cons_of_mem _ h),ws++[v],some (.d (.int j)),⟨by simp at hl ⊢;omega,λw h=>?_⟩,by simp⟩
   rcases List.mem_append.mp h with h | h
   ·exact hw w h
   ·rw[List.mem_singleton.mp h];exact hv
  ·rintro ρ ⟨_,ws,o,⟨hl,hw⟩,rfl⟩
   exact hK _ ⟨ws,o,⟨by simpa using hl,hw⟩,rfl⟩
  ·obtain⟨j,rfl,j0,j1⟩:=nG hx
   exact⟨j,rfl,j0,by omega⟩
 rintro ρ ⟨ws,o,⟨hl,hw⟩,rfl⟩
 refine aN (λρ=>∃(ws:List Int),(ws.length=cs.length/\(∀w∈ws,-1<=w/\w<=100)/\1<=ws.sum/\ws.sum<=10000)/\ρ=[some (.d (pts cs)),some (.d (.int c)),some (.own (ws.map .int)),o,none,none]) (λK hK=>?_) ?_
 ·walk_at "rd"
  refine⟨ws,rfl,?_⟩
  rw[lc]
  have hpos:(0:Int)<cs.length:=by omega
  obtain⟨a0,a1⟩:=bA (a:=c) hpos
  refine⟨⟨by omega⟩,?_⟩
  generalize c.fmod cs.length=i at *
  have hi:i.toNat<ws.length:=by omega
  refine cU (x:=.int ws[i.toNat]) (LH (j:=i.toNat) (by omega) (by rw[List.getElem?_map,List.getElem?_eq_getElem hi];rfl)) ?_
  walk_at "rd"
  refine⟨⟨by omega⟩,?_⟩
  rw[NC a0 (by simp;omega)]
  have hs:=WZ hw
  have h1:=hw _ (List.getElem_mem hi)
  have hss:=SM (xs:=ws) (i:=i.toNat) (v:=if 1<1-ws.sum+ws[i.toNat] then 1-ws.sum+ws[i.toNat] else 1) hi
  refine hK _ ⟨ws.set i.toNat (if 1<1-ws.sum+ws[i.toNat] then 1-ws.sum+ws[i.toNat] else 1),⟨by simpa using hl,λw h=>?_,?_,?_⟩,by rw[<-List.map_set]⟩
  ·rcases List.mem_or_eq_of_mem_set h with h | rfl
   ·have:=hw w h;omega
   ·split <;> omega
  ·rw[hss];split <;> omega
  ·rw[hss];split <;> omega
 rintro ρ ⟨ws,⟨hl,hw,s1,s2⟩,rfl⟩
 have each:∀(f:Int × Int->Int) (g:D->D) ,True:=λ_ _=>trivial
 have bsum:∀(f:Int × Int->Int),(∀z∈cs,BL 300 (f z))->BL 400 (((List.zip ws cs).map λw=>w.1*f w.2).sum):=λf hf=>by
  refine (LJ (n:=320) (k:=40) (λx hx=>?_) (by simp;omega)).mono (by decide)
  obtain⟨w,hw',rfl⟩:=List.mem_map.mp hx
  obtain⟨w1,w2⟩:=w
  have m:=List.of_mem_zip hw'
  have a:=hw _ m.1
  exact ((iF ⟨a.1,by omega⟩).mul (hf _ m.2)).mono (by decide)
 obtain⟨sx,ex⟩:∃s,s=((List.zip ws cs).map λw=>w.1*w.2.1).sum:=⟨_,rfl⟩
 obtain⟨sy,ey⟩:∃s,s=((List.zip ws cs).map λw=>w.1*w.2.2).sum:=⟨_,rfl⟩
 have bx:BL 400 sx:=by rw[ex];exact bsum (λz=>z.1) λz hz=>(hB z hz).1
 have by':BL 400 sy:=by rw[ey];exact bsum (λz=>z.2) λz hz=>(hB z hz).2
 refine aN (λρ=>ρ=[some (.d (pts cs)),some (.d (.int c)),some (.d (il ws)),o,some (.d (.int sx)),none]) (λK hK=>?_) ?_
 ·walk_at "rd"
  refine⟨dF (by simp;omega),?_⟩
  rw[PL]
  refine cY (λρ=>∃a b,ρ=[a,b]) (λw:Int × (Int × Int)=>D.tup [.int w.1,pt w.2]) (λw=>D.int (w.1*w.2.1)) _ ?_ ⟨none,none,rfl⟩ ?_
  ·rintro w hw' ρ ⟨a,b,rfl⟩ K' hK'
   obtain⟨w1,w2⟩:=w
   have m:=List.of_mem_zip hw'
   have a':=hw _ m.1
   walk_at "rd"
   exact⟨(iF ⟨a'.1,by omega⟩).mulOk (hB _ m.2).1,hK' _ ⟨_,_,rfl⟩⟩
  ·refine⟨(List.zip ws cs).map λw=>w.1*w.2.1,by rw[List.map_map];rfl,?_⟩
   rw[<-ex];exact hK _ rfl
 rintro ρ rfl
 refine aN (λρ=>ρ=[some (.d (pts cs)),some (.d (.int c)),some (.d (il ws)),o,some (.d (.int sx)),some (.d (.int sy))]) (λK hK=>?_) ?_
 ·walk_at "rd"
  refine⟨dF (by simp;omega),?_⟩
  rw[PL]
  refine cY (λρ=>∃a b,ρ=[a,b]) (λw:Int × (Int × Int)=>D.tup [.int w.1,pt w.2]) (λw=>D.int (w.1*w.2.2)) _ ?_ ⟨none,none,rfl⟩ ?_
  ·rintro w hw' ρ ⟨a,b,rfl⟩ K' hK'
   obtain⟨w1,w2⟩:=w
   have m:=List.of_mem_zip hw'
   have a':=hw _ m.1
   walk_at "rd"
   exact⟨(iF ⟨a'.1,by omega⟩).mulOk (hB _ m.2).2,hK' _ ⟨_,_,rfl⟩⟩
  ·refine⟨(List.zip ws cs).map λw=>w.1*w.2.2,by rw[List.map_map];rfl,?_⟩
   rw[<-ey];exact hK _ rfl
 rintro ρ rfl
 walk_at "rd"
 exact⟨ws,rfl,q _ _ _ ⟨bx,by',s1,by omega⟩⟩
theorem AR {g:RG} {t:RS} {E:DEnds} (xs:List D) (J:Nat->En->Prop) (step:∀i x ρ,xs[i]? = some x->J i ρ->∀F:DEnds,F.rt=E.rt->F.bk=E.nx->(∀ρ',J (i+1) ρ'->F.nx ρ')->(∀ρ',J (i+1) ρ'->F.ct ρ')->g x ρ λρ1=>t F ρ1)
  (last:∀ρ,J xs.length ρ->E.nx ρ) (ρ:En) (h:J 0 ρ):rD g t xs E ρ:=by
 refine cQ (λys ρ=>∃i,i<=xs.length/\ys=xs.drop i/\J i ρ) ?_ ?_ xs ρ ⟨0,Nat.zero_le _,rfl,h⟩
 ·rintro x ys ρ ⟨i,hi,e,hJ⟩ F f1 f2 f3 f4
  have hlt:i<xs.length:=by
   apply Nat.not_le.mp
   intro hn
   rw[List.drop_of_length_le hn] at e;cases e
  rw[List.drop_eq_getElem_cons hlt] at e
  cases e
  exact step i _ ρ (List.getElem?_eq_getElem hlt) hJ F f1 f2 (λρ' h=>f3 ρ' ⟨i+1,by omega,rfl,h⟩) λρ' h=>f4 ρ' ⟨i+1,by omega,rfl,h⟩
 ·rintro ρ ⟨i,hi,e,hJ⟩
  have:i=xs.length:=by
   have:=congrArg List.length e
   simp at this;omega
  subst this
  exact last ρ hJ
theorem FC {lo:Int} {n i:Nat} {x:D} (h:(fL lo n)[i]? = some x):x = .int (lo+i)/\i<n:=by
 unfold fL at h
 rw[List.getElem?_map] at h
 by_cases hi:i<n
 ·rw[List.getElem?_range hi] at h;cases h;exact⟨rfl,hi⟩
 ·rw[List.getElem?_eq_none (by simpa using hi)] at h;cases h
theorem GN {g:RG} {t:RS} {E:DEnds} (lo:Int) (n:Nat) (J:Nat->En->Prop) (step:∀i ρ,i<n->J i ρ->∀F:DEnds,F.rt=E.rt->F.bk=E.nx->(∀ρ',J (i+1) ρ'->F.nx ρ')->(∀ρ',J (i+1) ρ'->F.ct ρ')->g (.int (lo+i)) ρ λρ1=>t F ρ1)
  (last:∀ρ,J n ρ->E.nx ρ) (ρ:En) (h:J 0 ρ):rD g t (fL lo n) E ρ:=by
 refine AR _ J (λi x ρ e hJ=>?_) (λρ h=>last ρ (by rwa [jZ] at h)) ρ h
 obtain⟨rfl,hi⟩:=FC e
 exact step i ρ hi hJ
theorem oK (z w:Pt):HT.lexLt [z.1,z.2] [w.1,w.2]=decide (ltP z w):=by
 unfold ltP
 simp only[HT.lexLt]
 by_cases h:z.1=w.1
 ·rw[if_pos h]
  by_cases h2:z.2=w.2
  ·rw[if_pos h2];simp[h,h2]
  ·rw[if_neg h2];simp[h]
 ·rw[if_neg h];simp[h]
theorem nO {α:Type} (j:Nat) (xs:List α):Rot xs (turned j xs):=⟨xs.take j,xs.drop j,by rw[List.take_append_drop],rfl⟩
theorem uV {α β:Type} (j:Nat) (f:α->β) (xs:List α):turned j (xs.map f)=(turned j xs).map f:=by unfold turned;simp
theorem DueOf.norm {share:Int} {cs:List Pt} {m sh:Int} {ds:List Pt} {j:Nat} (h:DueOf share cs m sh ds j):NormOf share (turned j cs) m sh (turned j ds):=by
 refine⟨h.mpos,h.sh_eq,?_,λd h1 h2=>h.cop d h1 λz hz=>h2 z (((nO j ds).mem z).mp hz)⟩
 conv=>lhs;rw[h.cs_eq]
 exact uV j _ ds
theorem DueOf.first {share:Int} {cs:List Pt} {m sh:Int} {ds:List Pt} {j:Nat} (h:DueOf share cs m sh ds j):∃w T,turned j cs=w::T/\∀x∈T,¬ltP x w:=by
 obtain⟨z,T,e⟩:∃z T,turned j ds=z::T:=by
  have hj:=h.j_lt
  refine⟨ds[j],ds.drop (j+1)++ds.take j,?_⟩
  show ds.drop j++ds.take j=_
  rw[List.drop_eq_getElem_cons hj];rfl
 have ez:ds[j]? = some z:=by
  have:(turned j ds)[0]? = some z:=by rw[e];rfl
  have hj:=h.j_lt
  unfold turned at this
  rw[List.getElem?_append_left (by simp;omega),List.getElem?_drop] at this
  simpa using this
 refine⟨scl m z,T.map (scl m),?_,λx hx=>?_⟩
 ·conv=>lhs;rw[h.cs_eq]
  rw[uV,e];rfl
 ·obtain⟨y,hy,rfl⟩:=List.mem_map.mp hx
  rw[uP h.mpos]
  have:=h.least y (((nO j ds).mem y).mpr (by rw[e];simp[hy])) z ez
  rw[oK] at this
  simpa using this
theorem DueOf.cvx {share:Int} {cs:List Pt} {m sh:Int} {ds:List Pt} {j:Nat} (h:DueOf share cs m sh ds j) (c:Cvx cs):Cvx (turned j ds):=by
 have:Cvx ds:=by
  have c':=c
  rw[h.cs_eq] at c'
  exact Cvx.unscl h.mpos c'
 exact Cvx.rot (nO j ds) this
theorem oH {f:D->D->Option Bool}:∀(xs:List D),(∀x∈xs,f x x=some true)->eqL f xs xs=some true
 | [],_=>rfl
 | x::xs,h=>by
  simp only[eqL,h x (by simp),oH xs λy hy=>h y (by simp[hy])]
  rfl
theorem GM (n:Nat) (i:Int):eqF (n+1) (.int i) (.int i)=some true:=by simp[eqF]
theorem QG (n:Nat) (z:Pt):eqF (n+2) (pt z) (pt z)=some true:=by
 show eqL (eqF (n+1)) _ _=_
 refine oH _ λx hx=>?_
 simp only[List.mem_cons,List.not_mem_nil,or_false] at hx
 rcases hx with rfl | rfl <;> exact GM n _
theorem US (n:Nat) (sh:Int) (zs:List Pt):eqL (eqF (n+3)) [.int sh,.tup (zs.map pt)] [.int sh,.tup (zs.map pt)]=some true:=by
 refine oH _ λx hx=>?_
 simp only[List.mem_cons,List.not_mem_nil,or_false] at hx
 rcases hx with rfl | rfl
 ·exact GM _ _
 ·show eqL (eqF (n+2)) _ _=_
  refine oH _ λy hy=>?_
  obtain⟨z,_,rfl⟩:=List.mem_map.mp hy
  exact QG _ _
section
variable {L:CLine} {cs:List Pt}
noncomputable abbrev gF (F:Int) (t:H3):Pt:=(t.1*(F / t.2.2),t.2.1*(F / t.2.2))
structure Fits (F:Int) (t:H3):Prop where
 w:0<t.2.2
 f:0<F / t.2.2
 e:F / t.2.2*t.2.2=F
theorem Fits.of {F:Int} {t:H3} (hF:0<F) (hw:0<t.2.2) (hd:t.2.2∣F):Fits F t:=by
 have e:=Int.ediv_mul_cancel hd
 refine⟨hw,?_,e⟩
 apply Int.not_le.mp
 intro h
 have:F / t.2.2*t.2.2<=0:=Int.mul_nonpos_of_nonpos_of_nonneg h (by omega)
 omega
theorem yH {F:Int} {p q r:H3} (hp:Fits F p) (hq:Fits F q) (hr:Fits F r):F*aG (gF F p) (gF F q) (gF F r)=(F / p.2.2*(F / q.2.2)*(F / r.2.2))*aZ p q r:=by
 have e1:=hp.e
 have e2:=hq.e
 have e3:=hr.e
 unfold aG gF aZ
 dsimp only
 generalize F / p.2.2=f1 at *
 generalize F / q.2.2=f2 at *
 generalize F / r.2.2=f3 at *
 grind
theorem EB {F:Int} {p q r:H3} (hp:Fits F p) (hq:Fits F q) (hr:Fits F r):0<F / p.2.2*(F / q.2.2)*(F / r.2.2):=Int.mul_pos (Int.mul_pos hp.f hq.f) hr.f
theorem nI {a b:Int} (ha:0<a) (h:0<a*b):0<b:=by
 apply Int.not_le.mp
 intro hb
 have:a*b<=0:=Int.mul_nonpos_of_nonneg_of_nonpos (by omega) hb
 omega
theorem mO {a b:Int} (ha:0<a) (h:0<=a*b):0<=b:=by
 apply Int.not_lt.mp
 intro hb
 have:0<a*(-b):=Int.mul_pos ha (by omega)
 have:a*(-b) = -(a*b):=Int.mul_neg ..
 omega
theorem Pm.w_pos {t:H3} (h:Pm L cs t):0<t.2.2:=by
 cases h with
 | corner hu h=>exact (by decide:(0:Int)<1)
 | cross hc h=>have:=nP h;omega
theorem BK {f:H3->Pt} {l:List H3} {a b:Pt} (h:Nxt (l.map f) a b):∃p q,mZ l p q/\a=f p/\b=f q:=by
 obtain⟨x,y,e⟩:=h
 obtain⟨l1,l2,rfl,e1,e2⟩:=List.map_eq_append_iff.mp e
 obtain⟨p,l3,rfl,e3,e4⟩:=List.map_eq_cons_iff.mp e2
 obtain⟨q,l4,rfl,e5,e6⟩:=List.map_eq_cons_iff.mp e4
 exact⟨p,q,⟨l1,l4,rfl⟩,e3.symm,e5.symm⟩
theorem XY {P:List H3} {p:H3} (hp:p∈P):∃q∈P,mZ (P++P.take 1) p q:=by
 obtain⟨X,Y,rfl⟩:=List.append_of_mem hp
 cases Y with
 | cons q Y=>exact⟨q,by simp,X,Y++(X++p::q::Y).take 1,by simp⟩
 | nil =>
  cases X with
  | nil=>exact⟨p,by simp,[],[],by simp⟩
  | cons x X=>exact⟨x,by simp,x::X,[],by simp⟩
theorem SS (a b:Pt):aG a a b=0:=by unfold aG;grind
theorem UV (c:Cvx cs) (hpos:∃w∈cs,0<cxc L w) (hneg:∃w∈cs,cxc L w<0) {P:List H3} (h:CutOf L cs P) {F:Int} (hF:0<F) (fit:∀t∈P,Fits F t):Cvx (P.map (gF F)):=by
 have inj:∀p∈P,∀q∈P,gF F p=gF F q->p=q:=by
  intro p hp q hq e
  apply Classical.byContradiction
  intro ne
  obtain⟨q',hq',hn⟩:=XY hp
  have A:=h.adj p q' hn
  by_cases e':q'=q
  ·subst e'
   have:∃r∈P,r≠p/\r≠q':=by
    apply Classical.byContradiction
    intro hno
    have:=lW P [p,q'] h.nodup λx hx=>by
     apply Classical.byContradiction
     intro hx'
     simp at hx'
     exact hno ⟨x,hx,hx'.1,hx'.2⟩
    have:=h.len
    simp at *
    omega
   obtain⟨r,hr,r1,r2⟩:=this
   have s:=nA c hpos hneg A (h.pm r hr) r1 r2
   have t:=yH (fit p hp) (fit q' hq') (fit r hr)
   rw[e,SS] at t
   have:=Int.mul_pos (EB (fit p hp) (fit q' hq') (fit r hr)) s
   omega
  ·have s:=nA c hpos hneg A (h.pm q hq) (Ne.symm ne) (Ne.symm e')
   have t:=yH (fit p hp) (fit q' hq') (fit q hq)
   rw[<-e,FK] at t
   have:=Int.mul_pos (EB (fit p hp) (fit q' hq') (fit q hq)) s
   omega
 refine⟨by simpa using h.len,?_,λa b hab q hq n1 n2=>?_⟩
 ·unfold List.Nodup
  rw[List.pairwise_map]
  refine List.Pairwise.imp_of_mem ?_ h.nodup
  intro a b ha hb hn e
  exact hn (inj a ha b hb e)
 ·have hab':Nxt ((P++P.take 1).map (gF F)) a b:=by rw[List.map_append,List.map_take];exact hab
  obtain⟨p,p',hn,rfl,rfl⟩:=BK hab'
  obtain⟨r,hr,rfl⟩:=List.mem_map.mp hq
  have mem:p∈P/\p'∈P:=by
   obtain⟨x,y,e⟩:=hn
   have sub:∀t,t∈P++P.take 1->t∈P:=λt ht=>by
    rcases List.mem_append.mp ht with h | h
    ·exact h
    ·exact List.mem_of_mem_take h
   exact⟨sub p (by rw[e];simp),sub p' (by rw[e];simp)⟩
  have s:=nA c hpos hneg (h.adj p p' hn) (h.pm r hr) (λe=>n1 (by rw[e])) λe=>n2 (by rw[e])
  have t:=yH (fit p mem.1) (fit p' mem.2) (fit r hr)
  have u:=Int.mul_pos (EB (fit p mem.1) (fit p' mem.2) (fit r hr)) s
  rw[<-t] at u
  exact nI hF u
theorem xF (c:Cvx cs) (hpos:∃w∈cs,0<cxc L w) {P:List H3} (h:CutOf L cs P):(P.filter λt=>decide (t.2.2≠1)).length<=2:=by
 obtain⟨p,q,hp,hq,_⟩:=h.line
 have:=lW (P.filter λt=>decide (t.2.2≠1)) [p,q] (h.nodup.filter _) λx hx=>by
  obtain⟨hx,hw⟩:=List.mem_filter.mp hx
  simp only[decide_eq_true_eq] at hw
  have pm:=h.pm x hx
  have z:Exc L x=0:=by
   cases pm with
   | corner hu h=>exact absurd rfl hw
   | cross hc h=>exact nR h
  rcases xH c hpos pm z with k | k
  ·rw[AO c k hp];simp
  ·rw[wP c k hq];simp
 simpa using this
noncomputable def bU:List H3->Int
 | []=>1
 | t::P=>t.2.2*bU P
theorem oP:∀(A B:List H3),bU (A++B)=bU A*bU B
 | [],B=>by simp[bU]
 | a::A,B=>by show a.2.2*bU (A++B)=a.2.2*bU A*bU B;rw[oP A B];grind
theorem jX:∀(P:List H3),bU P=bU (P.filter λt=>decide (t.2.2≠1))
 | []=>rfl
 | t::P=>by
  rw[List.filter_cons]
  by_cases h:t.2.2=1
  ·rw[if_neg (by simp[h])]
   show t.2.2*bU P=_
   rw[h,Int.one_mul];exact jX P
  ·rw[if_pos (by simp[h])]
   show t.2.2*bU P=t.2.2*_
   rw[jX P]
theorem wY:∀(P:List H3),∀t∈P,t.2.2∣bU P
 | [],t,h=>by simp at h
 | a::P,t,h=>by
  rcases List.mem_cons.mp h with rfl | h
  ·exact Int.dvd_mul_right ..
  ·exact Int.dvd_trans (wY P t h) (Int.dvd_mul_left ..)
theorem wZ:∀(P:List H3),(∀t∈P,0<t.2.2)->0<bU P
 | [],_=>by simp[bU]
 | a::P,h=>Int.mul_pos (h a (by simp)) (wZ P λt ht=>h t (by simp[ht]))
end
noncomputable def crs (x y:Pt):Int:=x.1*y.2-x.2*y.1
theorem HG {α β:Type} (f:β->β->Int) (g:α->β):∀(a:α) (l:List α),pth f (g a) (l.map g)=pth (λx y=>f (g x) (g y)) a l
 | a,[]=>rfl
 | a,b::l=>by
  show f (g a) (g b)+pth f (g b) (l.map g)=f (g a) (g b)+_
  rw[HG f g b l]
theorem LU {α β:Type} (f:β->β->Int) (g:α->β) (l:List α):kZ f (l.map g)=kZ (λx y=>f (g x) (g y)) l:=by
 cases l with
 | nil=>rfl
 | cons z T =>
  show pth f (g z) (T.map g++[g z])=pth _ z (T++[z])
  rw[<-HG f g z (T++[z])];simp
theorem HH {α:Type} (k:Int) (f:α->α->Int):∀(a:α) (l:List α),pth (λx y=>k*f x y) a l=k*pth f a l
 | a,[]=>by show (0:Int)=k*0;omega
 | a,b::l=>by
  show k*f a b+pth _ b l=k*(f a b+pth f b l)
  rw[HH k f b l,Int.mul_add]
theorem LV {α:Type} (k:Int) (f:α->α->Int) (l:List α):kZ (λx y=>k*f x y) l=k*kZ f l:=by
 cases l with
 | nil=>show (0:Int)=k*0;omega
 | cons z T=>exact HH k f z (T++[z])
theorem LW (k:Int) (l:List Pt):kZ crs (l.map (scl k))=k*k*kZ crs l:=by
 rw[LU,<-LV]
 congr 1
 funext x y
 unfold crs scl;dsimp only;grind
theorem DM {f:Pt->Pt->Int} {A B:List Pt} (h:Rot A B):kZ f A=kZ f B:=by
 obtain⟨X,Y,rfl,rfl⟩:=h;exact AC f X Y
section
variable {L:CLine} {cs:List Pt}
noncomputable def onL (L:CLine) (G:Int) (x:Pt):Prop:=L.a*x.1+L.b*x.2=L.k*G
theorem BQ {G:Int} {x y z:Pt} (hab:L.a≠0\/L.b≠0) (hx:onL L G x) (hy:onL L G y) (hz:onL L G z):aG x y z=0:=by
 unfold onL at *
 rcases hab with h | h
 ·refine Int.eq_of_mul_eq_mul_left h ?_
  have e1:L.a*(y.1-x.1) = -(L.b*(y.2-x.2)):=by grind
  have e2:L.a*(z.1-x.1) = -(L.b*(z.2-x.2)):=by grind
  have:L.a*aG x y z=(L.a*(y.1-x.1))*(z.2-x.2)-(L.a*(z.1-x.1))*(y.2-x.2):=by unfold aG;grind
  rw[this,e1,e2];grind
 ·refine Int.eq_of_mul_eq_mul_left h ?_
  have e1:L.b*(y.2-x.2) = -(L.a*(y.1-x.1)):=by grind
  have e2:L.b*(z.2-x.2) = -(L.a*(z.1-x.1)):=by grind
  have:L.b*aG x y z=(L.b*(z.2-x.2))*(y.1-x.1)-(L.b*(y.2-x.2))*(z.1-x.1):=by unfold aG;grind
  rw[this,e1,e2];grind
end
noncomputable abbrev h3 (t:H3):D:=.tup [.int t.1,.int t.2.1,.int t.2.2]
noncomputable abbrev kQ (l:Line) (sh:Int):CLine:=⟨l.a,l.b,l.c*sh⟩
theorem sY (l:Line) (sh:Int) (z:Pt):cxc (kQ l sh) z=exc l z sh:=rfl
theorem xQ {n:Nat} {i:Int} (h:BL n i):BL n (i.natAbs:Int):=by unfold BL at *;simpa using h
noncomputable def rV:FD:=λds Q=>∃(L:CLine) (u v:Pt),ds=[pt u,.int (cxc L u),pt v,.int (cxc L v)]/\(BL 2000 u.1/\BL 2000 u.2/\BL 2000 v.1/\BL 2000 v.2)/\(BL 2000 (cxc L u)/\BL 2000 (cxc L v))/\Q (h3 (cJ L u v))
theorem JE:∀ds Q,rV ds Q->ds.length=4:=by rintro ds Q ⟨_,_,_,rfl,_⟩;rfl
theorem SW (L:CLine) (u v:Pt):h3 (cJ L u v) = .tup [.int (u.1*((cxc L v).natAbs:Int)+v.1*((cxc L u).natAbs:Int)),.int (u.2*((cxc L v).natAbs:Int)+v.2*((cxc L u).natAbs:Int)),.int (((cxc L u).natAbs:Int)+((cxc L v).natAbs:Int))]:=by
 have e1:(cJ L u v).1=u.1*((cxc L v).natAbs:Int)+v.1*((cxc L u).natAbs:Int):=by unfold cJ jB up3;dsimp only;rw[Int.mul_comm,Int.mul_comm v.1]
 have e2:(cJ L u v).2.1=u.2*((cxc L v).natAbs:Int)+v.2*((cxc L u).natAbs:Int):=by unfold cJ jB up3;dsimp only;rw[Int.mul_comm,Int.mul_comm v.2]
 have e3:(cJ L u v).2.2=((cxc L u).natAbs:Int)+((cxc L v).natAbs:Int):=by unfold cJ jB up3;dsimp only;omega
 show D.tup [.int (cJ L u v).1,.int (cJ L u v).2.1,.int (cJ L u v).2.2]=_
 rw[e1,e2,e3]
theorem vU:∀ds Q,rV ds Q->iR { nx:=λ_=>Q .non,rt:=Q } (aS ["one","one_excess","other","other_excess","near","far"] ds):=by
 rintro ds Q ⟨L,u,v,rfl,⟨b1,b2,b3,b4⟩,⟨c1,c2⟩,q⟩
 rw[aX 2 rfl]
 rw[SW] at q
 have a1:=xQ c1
 have a2:=xQ c2
 unfold iR
 walk_at "rd"
 have ab:∀i:Int,(if i<0 then -i else i)=(i.natAbs:Int):=λi=>by split <;> omega
 simp only[ab]
 exact⟨b1.mulOk a2,b3.mulOk a1,b2.mulOk a2,b4.mulOk a1,q⟩
theorem SY {α β:Type} (f:α->D) (g:β->D) (xs:List α):∀(ys:List β),List.zipWith (λu v=>D.tup [u,v]) (xs.map f) (ys.map g)=(List.zip xs ys).map λw=>D.tup [f w.1,g w.2]:=by
 induction xs with
 | nil=>intro ys;simp
 | cons x xs ih =>
  intro ys
  cases ys with
  | nil=>simp
  | cons y ys=>simp[ih]
noncomputable def pG (L:CLine) (ws:List (Pt × Pt)):List H3:=ws.flatMap λw=>blk L w.1 w.2
theorem FR (L:CLine):∀(r:List Pt) (a z:Pt),Pl L (a::(r++[z]))=pG L (List.zip (a::r) (r++[z]))
 | [],a,z=>by simp[Pl,pG]
 | b::r,a,z=>by
  have ih:=FR L r b z
  show blk L a b++Pl L (b::(r++[z]))=blk L a b++pG L (List.zip (b::r) (r++[z]))
  rw[ih]
noncomputable abbrev enc (L:CLine) (z:Pt):D:=.tup [pt z,.int (cxc L z)]
noncomputable def nV:FD:=λds Q=>∃(L:CLine) (z u:Pt) (r:List Pt),ds=[.tup ((z::u::r).map pt),il ((z::u::r).map (cxc L))]/\(∀w∈z::u::r,BL 2000 w.1/\BL 2000 w.2/\BL 2000 (cxc L w))/\r.length<=900/\Q (.lst ((Pl L ((z::u::r)++(z::u::r).take 1)).map h3))
theorem EJ:∀ds Q,nV ds Q->ds.length=2:=by rintro ds Q ⟨_,_,_,_,rfl,_⟩;rfl
theorem PV (L:CLine) (u v:Pt):(blk L u v).length<=2:=by
 unfold blk
 split <;> split <;> simp
theorem zQ (L:CLine):∀ws,(pG L ws).length<=2*ws.length
 | []=>by simp[pG]
 | w::ws=>by
  have:=zQ L ws
  have:=PV L w.1 w.2
  unfold pG at *
  rw[List.flatMap_cons,List.length_append,List.length_cons];omega
theorem IE (L:CLine) (ws:List (Pt × Pt)) (w:Pt × Pt):pG L (ws++[w])=pG L ws++blk L w.1 w.2:=by unfold pG;simp
theorem nJ:∀ds Q,nV ds Q->dP rV nT { nx:=λ_=>Q .non,rt:=Q } (aS ["corners","excesses","points","one","other"] ds):=by
 rintro ds Q ⟨L,z,u,r,rfl,hB,hl,q⟩
 rw[aX 3 rfl]
 unfold dP
 have eP:Pl L ((z::u::r)++(z::u::r).take 1)=pG L (cyc z (u::r)):=FR L (u::r) z z
 rw[eP] at q
 have lc:(cyc z (u::r)).length=r.length+2:=by simp
 simp only[cP,WM,List.cons_append,List.nil_append]
 generalize hA:D.tup ((z::u::r).map pt)=A
 generalize hX:il ((z::u::r).map (cxc L))=X
 simp only[List.map_cons,List.map_nil,List.cons_append,List.nil_append]
 refine aN (λρ=>ρ=[some (.d A),some (.d X),some (.own []),none,none]) (λK hK=>?_) ?_
 ·walk_at "rd"
  exact hK _ rfl
 rintro ρ rfl
 refine aN (λρ=>∃a b:Option S,ρ=[some (.d A),some (.d X),some (.own ((pG L (cyc z (u::r))).map h3)),a,b]) (λK hK=>?_) ?_
 ·rw[<-hA,<-hX] at hK ⊢
  simp only[iB,riL,aY,aD,aK,FB,aA,List.getElem?_cons_zero,List.getElem?_cons_succ,S.val]
  refine⟨_,_,rfl,rfl,by simp,?_⟩
  have e1:List.zipWith (λa b=>D.tup [a,b]) ((z::u::r).map pt) (((z::u::r).map (cxc L)).map D.int)=(z::u::r).map (enc L):=by
   rw[List.map_map,List.zipWith_map,List.zipWith_self];rfl
  rw[e1]
  refine⟨_,enc L z,enc L u,r.map (enc L),rfl,Or.inr rfl,by simp;omega,?_⟩
  have e2:List.zipWith (λa b=>D.tup [a,b]) (enc L z::enc L u::r.map (enc L)) (enc L u::r.map (enc L)++[enc L z])=(cyc z (u::r)).map λw=>D.tup [enc L w.1,enc L w.2]:=by
   rw[<-SY (enc L) (enc L)];simp
  rw[e2]
  refine cQ (λxs ρ=>∃(done rest:List (Pt × Pt)) (a b:Option S),cyc z (u::r)=done++rest/\xs=rest.map (λw=>D.tup [enc L w.1,enc L w.2])/\ρ=[some (.d (.tup ((z::u::r).map pt))),some (.d (il ((z::u::r).map (cxc L)))),some (.own ((pG L done).map h3)),a,b]) ?_ ?_ _ _ ⟨[],cyc z (u::r),none,none,rfl,rfl,rfl⟩
  ·rintro x xs ρ ⟨done,rest,a,b,e,ex,rfl⟩ F _ _ hn _
   cases rest with
   | nil=>cases ex
   | cons w rest =>
    cases ex
    have mw:=GA (z:=z) (t:=u::r) (w:=w) (by rw[e];simp)
    obtain⟨p1,p2,p3⟩:=hB _ mw.1
    obtain⟨q1,q2,q3⟩:=hB _ mw.2
    have ld:done.length<r.length+2:=by rw[<-lc,e];simp
    have lb:=zQ L done
    generalize hA':D.tup ((z::u::r).map pt)=A' at *
    generalize hX':il ((z::u::r).map (cxc L))=X' at *
    have fin:∀ρ,ρ=[some (.d A'),some (.d X'),some (.own ((pG L (done++[w])).map h3)),some (.d (enc L w.1)),some (.d (enc L w.2))]->F.nx ρ:=λρ h=>hn _ ⟨done++[w],rest,some (.d (enc L w.1)),some (.d (enc L w.2)),by simpa using e,rfl,h⟩
    rw[IE] at fin
    unfold blk at fin
    unfold gC
    walk_at "rd"
    by_cases h1:cxc L w.1<=0
    ·rw[if_pos h1] at fin ⊢
     refine⟨dF (by simp;omega),p3.mulOk q3,?_⟩
     by_cases h2:cxc L w.1*cxc L w.2<0
     ·rw[if_pos h2] at fin ⊢
      refine⟨L,w.1,w.2,rfl,⟨p1,p2,q1,q2⟩,⟨p3,q3⟩,dF (by simp;omega),fin _ (by simp)⟩
     ·rw[if_neg h2] at fin ⊢
      exact fin _ (by simp)
    ·rw[if_neg h1] at fin ⊢
     refine⟨p3.mulOk q3,?_⟩
     by_cases h2:cxc L w.1*cxc L w.2<0
     ·rw[if_pos h2] at fin ⊢
      refine⟨L,w.1,w.2,rfl,⟨p1,p2,q1,q2⟩,⟨p3,q3⟩,dF (by simp;omega),fin _ (by simp)⟩
     ·rw[if_neg h2] at fin ⊢
      exact fin _ (by simp)
  ·rintro ρ ⟨done,rest,a,b,e,ex,rfl⟩
   have:rest=[]:=by simpa using ex.symm
   subst this
   rw[List.append_nil] at e
   rw[e] at hK
   exact hK _ ⟨a,b,rfl⟩
 rintro ρ ⟨a,b,rfl⟩
 walk_at "rd"
 exact q
noncomputable abbrev pc (sh:Int) (zs:List Pt):D:=.tup [.int sh,.tup (zs.map pt)]
noncomputable abbrev uR (L:CLine) (cs:List Pt):List H3:=Pl L (cs++cs.take 1)
structure PartOf (L:CLine) (sh:Int) (cs:List Pt) (sh':Int) (zs:List Pt):Prop where
 ex:∃(F m:Int) (z:Pt) (T:List Pt),0<F/\(∀t∈uR L cs,Fits F t)/\Rot ((uR L cs).map (gF F)) (z::T)/\(∀q∈T,¬ltP q z)/\Cvx (z::T)/\NormOf (sh*F) (z::T) m sh' zs/\(BL 4003 F/\zs.length<=cs.length+2)
inductive PartR (L:CLine) (sh:Int) (cs:List Pt):D->Prop
 | whole (h:∀z∈cs,cxc L z<=0):PartR L sh cs (pc sh cs)
 | nothing (h:∀z∈cs,0<=cxc L z) (n:¬ ∀z∈cs,cxc L z<=0):PartR L sh cs .non
 | part (hp:∃z∈cs,0<cxc L z) (hn:∃z∈cs,cxc L z<0) {sh':Int} {zs:List Pt} (h:PartOf L sh cs sh' zs):PartR L sh cs (pc sh' zs)
noncomputable def pC:FD:=λds Q=>∃(l:Line) (sh:Int) (cs:List Pt),ds=[pc sh cs,ln l]/\(0<sh/\BL 2000 sh/\l.BLn 10000)/\(∀w∈cs,BL 2000 w.1/\BL 2000 w.2/\BL 2000 (exc l w sh))/\(Cvx cs/\cs.length<60)/\∀d,PartR (kQ l sh) sh cs d->Q d
theorem NH:∀ds Q,pC ds Q->ds.length=2:=by rintro ds Q ⟨_,_,_,rfl,_⟩;rfl
theorem sV {n:Nat}:∀(P:List H3),(∀t∈P,BL n t.2.2)->BL (n*P.length+1) (bU P)
 | [],_=>BL.mono (m:=1) (BL.const (by decide)) (by omega)
 | t::P,h=>by
  have a:=(h t (by simp)).mul (sV P λx hx=>h x (by simp[hx]))
  exact a.mono (by rw[List.length_cons,Nat.mul_add,Nat.mul_one];omega)
theorem YK {L:CLine} {cs:List Pt} (hB:∀w∈cs,BL 2000 w.1/\BL 2000 w.2/\BL 2000 (cxc L w)) {t:H3} (h:Pm L cs t):BL 4001 t.1/\BL 4001 t.2.1/\BL 2001 t.2.2:=by
 cases h with
 | @corner u hu h =>
  obtain⟨a,b,_⟩:=hB u hu
  exact⟨a.mono (by decide),b.mono (by decide),(BL.const (n:=1) (i:=1) (by decide)).mono (by decide)⟩
 | @cross u v hc h =>
  obtain⟨a,b,c⟩:=hB u hc.mem.1
  obtain⟨a',b',c'⟩:=hB v hc.mem.2
  have c:=xQ c
  have c':=xQ c'
  refine⟨((c'.mul a).add (c.mul a')).mono (by decide),((c'.mul b).add (c.mul b')).mono (by decide),?_⟩
  have e:(cJ L u v).2.2=((cxc L u).natAbs:Int)+((cxc L v).natAbs:Int):=by unfold cJ jB up3;dsimp only;omega
  rw[e]
  exact (c.add c').mono (by decide)
theorem tK {α:Type} (p:α->Bool):∀l:List α,l.length=(l.filter p).length+(l.filter λx=>!p x).length
 | []=>rfl
 | x::l=>by
  have:=tK p l
  rw[List.filter_cons,List.filter_cons]
  cases h:p x <;> simp <;> omega
theorem KI {L:CLine} {cs:List Pt} (c:Cvx cs) (hp:∃z∈cs,0<cxc L z) {P:List H3} (h:CutOf L cs P):P.length<=cs.length+2:=by
 have h2:=xF c hp h
 have h1:=lW (P.filter λt=>!decide (t.2.2≠1)) (cs.map up3) (h.nodup.filter _) λx hx=>by
  obtain⟨hx,hw⟩:=List.mem_filter.mp hx
  simp only[ne_eq,decide_not,Bool.not_not,decide_eq_true_eq] at hw
  have pm:=h.pm x hx
  cases pm with
  | @corner u hu h=>exact List.mem_map_of_mem hu
  | cross hc h=>have:=nP h;omega
 have e:=tK (λt:H3=>decide (t.2.2≠1)) P
 rw[List.length_map] at h1
 omega
theorem qG:∀ds Q,pC ds Q->fC cX nV cM { nx:=λ_=>Q .non,rt:=Q } (aS ["piece","line","share","excesses","points","factor","point","grown"] ds):=by
 rintro ds Q ⟨l,sh,cs,rfl,⟨h0,b0,bl⟩,hB,⟨cv,hl⟩,q⟩
 rw[aX 6 rfl]
 unfold fC
 obtain⟨z0,u0,r0,ecs⟩:∃z u r,cs=z::u::r:=by
  have:=cv.len
  match cs,this with
  | z::u::r,_=>exact⟨z,u,r,rfl⟩
 have cne:cs.map (λz=>exc l z sh)≠[]:=by rw[ecs];simp
 simp only[cP,WO,List.cons_append,List.nil_append]
 generalize hP:pc sh cs=PD
 generalize hL:ln l=LD
 simp only[List.map_cons,List.map_nil,List.cons_append,List.nil_append]
 refine aN (λρ=>ρ=[some (.d PD),some (.d LD),some (.d (.int sh)),none,none,none,none,none]) (λK hK=>?_) ?_
 ·rw[<-hP] at hK ⊢
  walk_at "rd"
  exact hK _ rfl
 rintro ρ rfl
 refine aN (λρ=>ρ=[some (.d PD),some (.d LD),some (.d (.int sh)),some (.own ((cs.map λz=>exc l z sh).map D.int)),none,none,none,none]) (λK hK=>?_) ?_
 ·rw[<-hP,<-hL] at hK ⊢
  simp only[iO,fV,riT,r2,aA,rC,gU,oC,zV,List.getElem?_cons_zero,List.getElem?_cons_succ,List.map_cons,List.map_nil,SC,List.cons_append,List.nil_append,S.val]
  refine⟨dF (by simp;omega),?_⟩
  refine cY (λρ=>∃a,ρ=[a,some (.d (ln l)),some (.d (.int sh))]) pt (λz=>D.int (exc l z sh)) cs ?_ ⟨none,rfl⟩ ?_
  ·rintro z hz ρ ⟨a,rfl⟩ K' hK'
   obtain⟨z1,z2,_⟩:=hB z hz
   walk_at "rd"
   exact⟨l,z,sh,rfl,⟨⟨bl.1.mono (by decide),bl.2.1.mono (by decide),bl.2.2.mono (by decide)⟩,z1.mono (by decide),z2.mono (by decide),b0.mono (by decide)⟩,hK' _ ⟨some (.d (pt z)),rfl⟩⟩
  ·refine hK _ ?_
   rw[List.map_map];rfl
 rintro ρ rfl
 by_cases hw:∀z∈cs,exc l z sh<=0
 ·have fin:=q _ (PartR.whole hw)
  refine aN (λρ=>False) (λK hK=>?_) (λρ h=>h.elim)
  walk_at "rd"
  refine⟨_,rfl,cne,λM m1 m2=>?_⟩
  obtain⟨z,hz,rfl⟩:=List.mem_map.mp m1
  dsimp only
  rw[if_pos (hw z hz),<-hP]
  exact fin
 refine aN (λρ=>ρ=[some (.d PD),some (.d LD),some (.d (.int sh)),some (.own ((cs.map λz=>exc l z sh).map D.int)),none,none,none,none]) (λK hK=>?_) ?_
 ·walk_at "rd"
  refine⟨_,rfl,cne,λM m1 m2=>?_⟩
  dsimp only
  rw[if_neg (λh=>hw λz hz=>Int.le_trans (m2 _ (List.mem_map_of_mem hz)) h)]
  exact hK _ rfl
 rintro ρ rfl
 by_cases hg:∀z∈cs,0<=exc l z sh
 ·have fin:=q _ (PartR.nothing hg hw)
  refine aN (λρ=>False) (λK hK=>?_) (λρ h=>h.elim)
  walk_at "rd"
  refine⟨_,rfl,cne,λM m1 m2=>?_⟩
  obtain⟨z,hz,rfl⟩:=List.mem_map.mp m1
  dsimp only
  rw[if_pos (hg z hz)]
  exact fin
 refine aN (λρ=>ρ=[some (.d PD),some (.d LD),some (.d (.int sh)),some (.own ((cs.map λz=>exc l z sh).map D.int)),none,none,none,none]) (λK hK=>?_) ?_
 ·walk_at "rd"
  refine⟨_,rfl,cne,λM m1 m2=>?_⟩
  dsimp only
  rw[if_neg (λh=>hg λz hz=>Int.le_trans h (m2 _ (List.mem_map_of_mem hz)))]
  exact hK _ rfl
 rintro ρ rfl
 have hp:∃z∈cs,0<cxc (kQ l sh) z:=Classical.byContradiction λk=>hw λz hz=>Int.not_lt.mp λh=>k ⟨z,hz,h⟩
 have hn:∃z∈cs,cxc (kQ l sh) z<0:=Classical.byContradiction λk=>hg λz hz=>Int.not_lt.mp λh=>k ⟨z,hz,h⟩
 obtain⟨P',rot,cut,_⟩:=AA cv hp hn
 have rot':Rot (uR (kQ l sh) cs) P':=rot
 have lP':=KI cv hp cut
 generalize hSp:uR (kQ l sh) cs=SP at *
 have lSP:SP.length=P'.length:=by obtain⟨X,Y,e1,e2⟩:=rot';rw[e1,e2];simp;omega
 have pmS:∀t∈SP,Pm (kQ l sh) cs t:=λt ht=>cut.pm t ((rot'.mem t).mp ht)
 have pmB:∀t∈SP,BL 4001 t.1/\BL 4001 t.2.1/\BL 2001 t.2.2:=λt ht=>YK (L:=kQ l sh) (λw hw=>hB w hw) (pmS t ht)
 have Fpos:0<bU SP:=wZ SP λt ht=>(pmS t ht).w_pos
 have fitS:∀t∈SP,Fits (bU SP) t:=λt ht=>Fits.of Fpos (pmS t ht).w_pos (wY SP t ht)
 have Fbl:BL 4003 (bU SP):=by
  rw[jX]
  have l2:(SP.filter λt=>decide (t.2.2≠1)).length<=2:=by
   have:=xF cv hp cut
   obtain⟨X,Y,e1,e2⟩:=rot'
   rw[e2] at this
   rw[e1]
   rw[List.filter_append,List.length_append] at this ⊢
   omega
  refine (sV _ λt ht=>(pmB t (List.mem_filter.mp ht).1).2.2).mono ?_
  omega
 refine aN (λρ=>ρ=[some (.d PD),some (.d LD),some (.d (.int sh)),some (.d (il (cs.map λz=>exc l z sh))),some (.d (.lst (SP.map h3))),none,none,none]) (λK hK=>?_) ?_
 ·rw[<-hP] at hK ⊢
  walk_at "rd"
  subst ecs
  refine⟨kQ l sh,z0,u0,r0,rfl,hB,by simp at hl;omega,?_⟩
  show K _
  rw[show Pl (kQ l sh) ((z0::u0::r0)++(z0::u0::r0).take 1)=SP from hSp]
  exact hK _ rfl
 rintro ρ rfl
 refine aN (λρ=>ρ=[some (.d PD),some (.d LD),some (.d (.int sh)),some (.d (il (cs.map λz=>exc l z sh))),some (.d (.lst (SP.map h3))),some (.d (.int 1)),none,none]) (λK hK=>?_) ?_
 ·walk_at "rd"
  exact hK _ rfl
 rintro ρ rfl
 refine aN (λρ=>∃a:Option S,ρ=[some (.d PD),some (.d LD),some (.d (.int sh)),some (.d (il (cs.map λz=>exc l z sh))),some (.d (.lst (SP.map h3))),some (.d (.int (bU SP))),a,none]) (λK hK=>?_) ?_
 ·walk_at "rd"
  refine cQ (λxs ρ=>∃(done rest:List H3) (a:Option S),SP=done++rest/\xs=rest.map h3/\ρ=[some (.d PD),some (.d LD),some (.d (.int sh)),some (.d (il (cs.map λz=>exc l z sh))),some (.d (.lst (SP.map h3))),some (.d (.int (bU done))),a,none]) ?_ ?_ _ _ ⟨[],SP,none,rfl,rfl,rfl⟩
  ·rintro x xs ρ ⟨done,rest,a,e,ex,rfl⟩ E _ _ hnx _
   cases rest with
   | nil=>cases ex
   | cons t rest =>
    cases ex
    have bt:=(pmB t (by rw[e];simp)).2.2
    have bd:=sV done λx hx=>(pmB x (by rw[e];simp[hx])).2.2
    have ld:done.length<=64:=by have:=congrArg List.length e;simp at this;omega
    have e2:bU (done++[t])=bU done*t.2.2:=by rw[oP];show _*(t.2.2*1)=_;rw[Int.mul_one]
    unfold iS
    walk_at "rd"
    refine⟨bd.mulOk bt (by omega),hnx _ ⟨done++[t],rest,some (.d (h3 t)),by simpa using e,rfl,by rw[e2]⟩⟩
  ·rintro ρ ⟨done,rest,a,e,ex,rfl⟩
   have:rest=[]:=by simpa using ex.symm
   subst this
   rw[List.append_nil] at e
   subst e
   exact hK _ ⟨a,rfl⟩
 rintro ρ ⟨a,rfl⟩
 refine aN (λρ=>ρ=[some (.d PD),some (.d LD),some (.d (.int sh)),some (.d (il (cs.map λz=>exc l z sh))),some (.d (.lst (SP.map h3))),some (.d (.int (bU SP))),a,some (.own ((SP.map (gF (bU SP))).map pt))]) (λK hK=>?_) ?_
 ·simp only[iO,fV,riL,aR,oC,zV,List.getElem?_cons_zero,List.getElem?_cons_succ,List.map_cons,List.map_nil,WM,List.cons_append,List.nil_append,S.val]
  refine⟨dF (by simp;omega),?_⟩
  refine cY (λρ=>∃a b c,ρ=[a,b,c,some (.d (.int (bU SP)))]) h3 (λt=>pt (gF (bU SP) t)) SP ?_ ⟨none,none,none,rfl⟩ ?_
  ·rintro t ht ρ ⟨a,b,c,rfl⟩ K' hK'
   obtain⟨t1,t2,t3⟩:=pmB t ht
   have tw:=(pmS t ht).w_pos
   have bq:BL 4003 ((bU SP).fdiv t.2.2):=Fbl.fdiv
   walk_at "rd"
   refine⟨(t3.mono (by decide)).divOk (by omega),t1.mulOk bq,(t3.mono (by decide)).divOk (by omega),t2.mulOk bq,?_⟩
   rw[Int.fdiv_eq_ediv_of_nonneg _ (by omega)]
   exact hK' _ ⟨some (.d (.int t.1)),some (.d (.int t.2.1)),some (.d (.int t.2.2)),rfl⟩
  ·refine hK _ ?_
   rw[List.map_map];rfl
 rintro ρ rfl
 walk_at "rd"
 refine⟨b0.mulOk Fbl,?_⟩
 have fitP:∀t∈P',Fits (bU SP) t:=λt ht=>fitS t ((rot'.mem t).mpr ht)
 have cvP:=UV cv hp hn cut Fpos fitP
 have cvS:Cvx (SP.map (gF (bU SP))):=Cvx.rot ((rot'.map (gF (bU SP))).symm) cvP
 obtain⟨z,T,rt,least⟩:=AY (SP.map (gF (bU SP))) (by intro e;have:=cvS.len;rw[e] at this;simp at this)
 have cz:=Cvx.rot rt cvS
 refine⟨sh*bU SP,SP.map (gF (bU SP)),rfl,⟨Int.mul_pos h0 Fpos,(b0.mul Fbl).mono (by decide)⟩,λw hw=>?_,by simp;omega,Or.inl ⟨z,T,⟨cz,least,λa ha=>(rt.mem a).mpr ha,λa b hab c hc=>cz.side hab ((rt.mem c).mp hc)⟩,λm sh' zs N=>q _ (PartR.part hp hn ⟨bU SP,m,z,T,Fpos,?_,?_,least,cz,N,Fbl,?_⟩)⟩⟩
 ·obtain⟨t,ht,rfl⟩:=List.mem_map.mp hw
  obtain⟨t1,t2,t3⟩:=pmB t ht
  have bq:BL 4003 (bU SP / t.2.2):=by
   have:BL 4003 ((bU SP).fdiv t.2.2):=Fbl.fdiv
   rwa [Int.fdiv_eq_ediv_of_nonneg _ (by have:=(pmS t ht).w_pos;omega)] at this
  exact⟨(t1.mul bq).mono (by decide),(t2.mul bq).mono (by decide)⟩
 ·rw[hSp];exact fitS
 ·rw[hSp];exact rt
 ·have e1:=congrArg List.length N.cs_eq
  have e2:(z::T).length=SP.length:=by obtain⟨X,Y,a1,a2⟩:=rt;have:=congrArg List.length a1;rw[a2];simp at this ⊢;omega
  rw[e2,List.length_map] at e1
  omega
noncomputable def rg (cs:List Pt) (i:Nat):Pt:=cs.getD (i % cs.length) (0,0)
section
variable {cs:List Pt}
theorem nN (h:0<cs.length) (i:Nat):cs[i % cs.length]? = some (rg cs i):=by
 unfold rg
 rw[List.getD_eq_getElem?_getD,List.getElem?_eq_getElem (Nat.mod_lt _ h)];rfl
theorem hU (h:0<cs.length) (i:Nat):rg cs i∈cs:=List.mem_of_getElem? (nN h i)
theorem qV {i:Nat} (h:i<cs.length):cs[i]? = some (rg cs i):=by
 have:=nN (cs:=cs) (by omega) i
 rwa [Nat.mod_eq_of_lt h] at this
theorem EW {l:List Pt} {i:Nat} {a b:Pt} (h1:l[i]? = some a) (h2:l[i+1]? = some b):Nxt l a b:=by
 obtain⟨l1,e1⟩:=List.getElem?_eq_some_iff.mp h1
 obtain⟨l2,e2⟩:=List.getElem?_eq_some_iff.mp h2
 refine⟨l.take i,l.drop (i+2),?_⟩
 conv=>lhs;rw[<-List.take_append_drop i l]
 rw[List.drop_eq_getElem_cons l1,List.drop_eq_getElem_cons l2,e1,e2]
theorem EC {l:List Pt} {a b:Pt} (h:Nxt l a b):∃i,l[i]? = some a/\l[i+1]? = some b:=by
 obtain⟨x,y,e⟩:=h
 refine⟨x.length,?_,?_⟩
 ·rw[e,List.getElem?_append_right (by omega)];simp
 ·rw[e,List.getElem?_append_right (by omega)];simp
theorem DN (h:0<cs.length) (i:Nat):Cyc cs (rg cs i) (rg cs (i+1)):=by
 have hj:=Nat.mod_lt i h
 refine EW (i:=i % cs.length) ?_ ?_
 ·rw[List.getElem?_append_left hj];exact nN h i
 ·have g:=nN h (i+1)
  by_cases hl:i % cs.length+1<cs.length
  ·rw[List.getElem?_append_left hl,<-g]
   congr 1
   rw[Nat.add_mod]
   by_cases h1:cs.length=1
   ·omega
   ·rw[show 1 % cs.length=1 from Nat.mod_eq_of_lt (by omega),Nat.mod_eq_of_lt hl]
  ·rw[List.getElem?_append_right (by omega),show i % cs.length+1-cs.length=0 by omega,List.getElem?_take,if_pos (by omega),<-g]
   congr 1
   rw[Nat.add_mod]
   by_cases h1:cs.length=1
   ·rw[h1];omega
   ·rw[show 1 % cs.length=1 from Nat.mod_eq_of_lt (by omega),show i % cs.length+1=cs.length by omega,Nat.mod_self]
theorem lN (i:Nat):rg cs (i+cs.length)=rg cs i:=by unfold rg;rw[Nat.add_mod_right]
theorem QA {a b:Pt} (h:Cyc cs a b):∃k,k<cs.length/\a=rg cs (k+(cs.length-1))/\b=rg cs k:=by
 obtain⟨i,h1,h2⟩:=EC h
 have l2:i+1<(cs++cs.take 1).length:=(List.getElem?_eq_some_iff.mp h2).1
 rw[List.length_append,List.length_take] at l2
 have hi:i<cs.length:=by omega
 have hpos:0<cs.length:=by omega
 rw[List.getElem?_append_left hi,qV hi] at h1
 have h1:rg cs i=a:=Option.some.inj h1
 by_cases hl:i+1<cs.length
 ·rw[List.getElem?_append_left hl,qV hl] at h2
  refine⟨i+1,hl,?_,(Option.some.inj h2).symm⟩
  rw[show i+1+(cs.length-1)=i+cs.length by omega,lN,h1]
 ·rw[List.getElem?_append_right (by omega),show i+1-cs.length=0 by omega,List.getElem?_take,if_pos (by omega),qV hpos] at h2
  refine⟨0,hpos,?_,(Option.some.inj h2).symm⟩
  rw[show 0+(cs.length-1)=i by omega,h1]
theorem AD (h:0<cs.length) (k:Nat):Cyc cs (rg cs (k+(cs.length-1))) (rg cs k):=by
 have:=DN h (k+(cs.length-1))
 rwa [show k+(cs.length-1)+1=k+cs.length by omega,lN] at this
theorem zB (n:cs.Nodup) (h:0<cs.length) {i j:Nat} (e:rg cs i=rg cs j):i % cs.length=j % cs.length:=by
 refine (List.getElem?_inj (Nat.mod_lt i h) n).mp ?_
 rw[nN h i,nN h j,e]
theorem ES {n i d:Nat} (h:0<d) (hd:d<n):(i+d) % n≠i % n:=by
 have h0:=Nat.mod_lt i (show 0<n by omega)
 rw[Nat.add_mod,Nat.mod_eq_of_lt hd]
 rcases Nat.lt_or_ge (i % n+d) n with h' | h'
 ·rw[Nat.mod_eq_of_lt h'];omega
 ·rw[Nat.mod_eq_sub_mod h',Nat.mod_eq_of_lt (by omega)];omega
theorem Cvx.bend_rg (c:Cvx cs) (i:Nat):0<aG (rg cs i) (rg cs (i+1)) (rg cs (i+2)):=by
 have h3:=c.len
 refine c.strict _ _ (DN (by omega) i) _ (hU (by omega) _) (λe=>?_) λe=>?_
 ·exact ES (i:=i) (d:=2) (by omega) (by omega) (zB c.nodup (by omega) e)
 ·exact ES (i:=i+1) (d:=1) (by omega) (by omega) (zB c.nodup (by omega) e)
theorem HX:∀(l:List Pt),∃M:Int,0<M/\∀p∈l,-M<p.2/\p.2<M
 | []=>⟨1,by decide,by simp⟩
 | p::l=>by
  obtain⟨M,h,hM⟩:=HX l
  refine⟨M+p.2.natAbs+1,by omega,λq hq=>?_⟩
  rcases List.mem_cons.mp hq with rfl | hq
  ·omega
  ·have:=hM q hq;omega
theorem BE (c:Cvx cs) {t u v:Pt} (h1:Cyc cs t u) (h2:Cyc cs u v) (nt:t≠v) (e1:ltP u t) (e2:ltP u v):∀w∈cs,¬ltP w u:=by
 obtain⟨M,hM,hb⟩:=HX cs
 have mono:∀p∈cs,∀q∈cs,ltP p q->cxc ⟨2*M,1,0⟩ p<cxc ⟨2*M,1,0⟩ q:=by
  intro p hp q hq hl
  have b1:=hb p hp
  have b2:=hb q hq
  unfold cxc
  dsimp only
  rcases hl with h | ⟨h,h'⟩
  ·have:2*M*(q.1-p.1-1) ≥ 0:=Int.mul_nonneg (by omega) (by omega)
   have e:2*M*(q.1-p.1-1)=2*M*q.1-2*M*p.1-2*M:=by grind
   omega
  ·rw[h];omega
 have mu:=(Cyc.mem h1).2
 have mt:=(Cyc.mem h1).1
 have mv:=(Cyc.mem h2).2
 have lb:=wS (L:=⟨2*M,1,0⟩) c h1 h2 nt (Int.le_of_lt (mono u mu t mt e1)) (Int.le_of_lt (mono u mu v mv e2))
 intro w hw hl
 have:=mono w hw u mu hl
 have:=lb w hw
 omega
theorem IX {z:Pt} {T:List Pt} (c:Cvx (z::T)) (least:∀q∈T,¬ltP q z) {k:Nat} (hk:k<(z::T).length):(ltP (rg (z::T) (k+((z::T).length-1))) (rg (z::T) (k+((z::T).length-2)))/\ltP (rg (z::T) (k+((z::T).length-1))) (rg (z::T) k))↔k=1:=by
 have h3:=c.len
 have z0:rg (z::T) 0=z:=by have:=qV (cs:=z::T) (i:=0) (by omega);simp at this;exact this.symm
 have lt_of:∀i,i % (z::T).length≠0->ltP z (rg (z::T) i):=by
  intro i hi
  have m:=hU (cs:=z::T) (by omega) i
  have ne:rg (z::T) i≠z:=λe=>hi (by
   have:=zB c.nodup (by omega) (i:=i) (j:=0) (by rw[e,z0])
   rwa [Nat.zero_mod] at this)
  rcases eT z (rg (z::T) i) with h | h | h
  ·exact h
  ·exact absurd h.symm ne
  ·rcases List.mem_cons.mp m with e | m
   ·exact absurd e ne
   ·exact absurd h (least _ m)
 generalize hn:(z::T).length=n at *
 constructor
 ·rintro⟨a,b⟩
  have c1:Cyc (z::T) (rg (z::T) (k+(n-2))) (rg (z::T) (k+(n-1))):=by
   have:=DN (cs:=z::T) (by omega) (k+(n-2))
   rwa [show k+(n-2)+1=k+(n-1) by omega] at this
  have c2:Cyc (z::T) (rg (z::T) (k+(n-1))) (rg (z::T) k):=by
   have:=AD (cs:=z::T) (by omega) k
   rwa [hn] at this
  have nt:rg (z::T) (k+(n-2))≠rg (z::T) k:=λe=>by
   have:=zB c.nodup (by omega) e
   rw[hn] at this
   exact ES (by omega) (by omega) this
  have ll:=BE c c1 c2 nt a b z (by simp)
  apply Classical.byContradiction
  intro hk1
  refine ll (lt_of _ ?_)
  intro e
  by_cases h0:k=0
  ·subst h0
   rw[Nat.mod_eq_of_lt (by omega)] at e;omega
  ·rw[show k+(n-1)=(k-1)+n by omega,Nat.add_mod_right,Nat.mod_eq_of_lt (by omega)] at e;omega
 ·rintro rfl
  have e1:rg (z::T) (1+(n-1))=z:=by rw[show 1+(n-1)=0+(z::T).length by omega,lN,z0]
  rw[e1]
  exact⟨lt_of _ (by rw[Nat.mod_eq_of_lt (by omega)];omega),lt_of _ (by rw[Nat.mod_eq_of_lt (by omega)];omega)⟩
end
section
variable {L:CLine} {cs zs:List Pt} {sh sh':Int}
structure PartF (L:CLine) (sh:Int) (cs:List Pt) (sh':Int) (zs:List Pt):Prop where
 pos:0<sh'
 cvx:Cvx zs
 first:∃z T,zs=z::T/\∀q∈T,¬ltP q z
 cop:∀d:Nat,(d:Int)∣sh'->(∀z∈zs,(d:Int)∣z.1/\(d:Int)∣z.2)->d=1
 corner:∀z∈zs,∃(t:H3) (k f:Int),Pm L cs t/\0<k/\0<f/\k*(sh*z.1)=f*t.1/\k*(sh*z.2)=f*t.2.1/\k*sh'=f*t.2.2
 side:∀a b,Cyc zs a b->∃(t1 t2:H3) (κ μ:Int),Adj L cs t1 t2/\0<κ/\0<μ/\∀X Y W,κ*aZ (up3 a) (up3 b) (sh'*X,sh'*Y,W)=μ*aZ t1 t2 (sh*X,sh*Y,W)
 line:∃(a b:Pt) (t1 t2:H3) (κ μ:Int),Cyc zs a b/\Exit L cs t1/\Entry L cs t2/\0<κ/\0<μ/\∀X Y W,κ*aZ (up3 a) (up3 b) (sh'*X,sh'*Y,W)=μ*aZ t1 t2 (sh*X,sh*Y,W)
 area:∃F m:Int,0<F/\0<m/\m*sh'=sh*F/\m*m*kZ crs zs=kZ crs ((uR L cs).map (gF F))/\∀t∈uR L cs,Fits F t
 len:zs.length<=cs.length+2
theorem GB {A B:List Pt} (h:Rot A B) {a b:Pt} (k:Cyc B a b):Cyc A a b:=by
 obtain⟨X,Y,rfl,rfl⟩:=h;exact oD k
theorem QB {f:Pt->Pt} {l:List Pt} {a b:Pt} (h:Cyc l a b):Cyc (l.map f) (f a) (f b):=by
 obtain⟨x,y,e⟩:=h
 refine⟨x.map f,y.map f,?_⟩
 rw[<-List.map_take,<-List.map_append,e];simp
theorem HQ {F m:Int} {p q:H3} {a b:Pt} (fp:Fits F p) (fq:Fits F q) (ea:scl m a=gF F p) (eb:scl m b=gF F q) (es:m*sh'=sh*F) (X Y W:Int):m*m*aZ (up3 a) (up3 b) (sh'*X,sh'*Y,W)=(F / p.2.2*(F / q.2.2))*aZ p q (sh*X,sh*Y,W):=by
 have e1:=fp.e
 have e2:=fq.e
 unfold scl gF at ea eb
 simp only[Prod.mk.injEq] at ea eb
 obtain⟨a1,a2⟩:=ea
 obtain⟨b1,b2⟩:=eb
 generalize F / p.2.2=f1 at *
 generalize F / q.2.2=f2 at *
 have l:m*m*aZ (up3 a) (up3 b) (sh'*X,sh'*Y,W)=(m*a.1)*((m*b.2)*W-(m*sh')*Y)-(m*a.2)*((m*b.1)*W-(m*sh')*X)+(m*sh')*((m*b.1)*Y-(m*b.2)*X):=by unfold aZ up3;dsimp only;grind
 rw[l,a1,a2,b1,b2,es]
 unfold aZ
 dsimp only
 have g1:(p.1*f1)*((q.2.1*f2)*W-sh*F*Y)=f1*f2*(p.1*(q.2.1*W-q.2.2*(sh*Y))):=by rw[<-e2];grind
 have g2:(p.2.1*f1)*((q.1*f2)*W-sh*F*X)=f1*f2*(p.2.1*(q.1*W-q.2.2*(sh*X))):=by rw[<-e2];grind
 have g3:sh*F*((q.1*f2)*Y-(q.2.1*f2)*X)=f1*f2*(p.2.2*(q.1*(sh*Y)-q.2.1*(sh*X))):=by rw[<-e1];grind
 rw[g1,g2,g3];grind
theorem PartOf.facts (c:Cvx cs) (hp:∃z∈cs,0<cxc L z) (hn:∃z∈cs,cxc L z<0) (h0:0<sh) (h:PartOf L sh cs sh' zs):PartF L sh cs sh' zs:=by
 obtain⟨F,m,z,T,hF,fit,rot,least,cz,N,_,hl⟩:=h
 obtain⟨P',rot',cut,_⟩:=AA c hp hn
 have rot':Rot (uR L cs) P':=rot'
 have fit':∀t∈P',Fits F t:=λt ht=>fit t ((rot'.mem t).mpr ht)
 have mp:=N.mpos
 have es:=N.sh_eq
 have ec:z::T=zs.map (scl m):=N.cs_eq
 have sF:0<sh*F:=Int.mul_pos h0 hF
 have pos:0<sh':=by rw[es] at sF;exact nI mp sF
 have rotP:Rot (P'.map (gF F)) (z::T):=((rot'.map (gF F)).symm).trans rot
 have memP:∀p q,mZ (P'++P'.take 1) p q->p∈P'/\q∈P':=λp q ⟨x,y,e⟩=>by
  have sub:∀t,t∈P'++P'.take 1->t∈P':=λt ht=>by
   rcases List.mem_append.mp ht with h | h
   ·exact h
   ·exact List.mem_of_mem_take h
  exact⟨sub p (by rw[e];simp),sub q (by rw[e];simp)⟩
 refine⟨pos,Cvx.unscl mp (by rw[<-ec];exact cz),?_,N.cop,?_,?_,?_,⟨F,m,hF,mp,es.symm,?_,fit⟩,hl⟩
 ·cases zs with
  | nil=>simp at ec
  | cons z' T' =>
   simp only[List.map_cons,List.cons.injEq] at ec
   refine⟨z',T',rfl,λq hq hlt=>?_⟩
   refine least (scl m q) (by rw[ec.2];exact List.mem_map_of_mem hq) ?_
   rw[ec.1];exact (uP mp).mpr hlt
 ·intro x hx
  have m1:scl m x∈z::T:=by rw[ec];exact List.mem_map_of_mem hx
  obtain⟨t,ht,e⟩:=List.mem_map.mp ((rotP.mem _).mpr m1)
  have ft:=fit' t ht
  have ee:=ft.e
  have ff:=ft.f
  unfold scl gF at e
  simp only[Prod.mk.injEq] at e
  refine⟨t,m,sh*(F / t.2.2),cut.pm t ht,mp,Int.mul_pos h0 ff,?_,?_,?_⟩
  ·have:=e.1;grind
  ·have:=e.2;grind
  ·rw[<-es,Int.mul_assoc,ee]
 ·intro a b hab
  have k1:Cyc (z::T) (scl m a) (scl m b):=by rw[ec];exact QB hab
  have k2:Nxt ((P'++P'.take 1).map (gF F)) (scl m a) (scl m b):=by
   have:=GB rotP k1
   rw[List.map_append,List.map_take];exact this
  obtain⟨p,q,hpq,ea,eb⟩:=BK k2
  obtain⟨mp1,mq1⟩:=memP p q hpq
  exact⟨p,q,m*m,_,cut.adj p q hpq,Int.mul_pos mp mp,Int.mul_pos (fit' p mp1).f (fit' q mq1).f,λX Y W=>HQ (fit' p mp1) (fit' q mq1) ea eb es.symm X Y W⟩
 ·obtain⟨p,q,hx,hy,hpq⟩:=cut.line
  obtain⟨mp1,mq1⟩:=memP p q hpq
  have k1:Cyc (P'.map (gF F)) (gF F p) (gF F q):=by
   obtain⟨x,y,e⟩:=hpq
   refine⟨x.map (gF F),y.map (gF F),?_⟩
   rw[<-List.map_take,<-List.map_append,e];simp
  have k2:Cyc (zs.map (scl m)) (gF F p) (gF F q):=by rw[<-ec];exact GB rotP.symm k1
  have k3:Nxt ((zs++zs.take 1).map (scl m)) (gF F p) (gF F q):=by rw[List.map_append,List.map_take];exact k2
  obtain⟨a,b,hab,ea,eb⟩:=yQ k3
  exact⟨a,b,p,q,m*m,_,hab,hx,hy,Int.mul_pos mp mp,Int.mul_pos (fit' p mp1).f (fit' q mq1).f,λX Y W=>HQ (fit' p mp1) (fit' q mq1) ea.symm eb.symm es.symm X Y W⟩
 ·rw[<-LW,<-ec]
  exact (DM rot).symm
theorem IU (p q:H3) {k f:Int} {r t:H3} (h1:k*r.1=f*t.1) (h2:k*r.2.1=f*t.2.1) (h3:k*r.2.2=f*t.2.2):k*aZ p q r=f*aZ p q t:=by
 have l:k*aZ p q r=p.1*(q.2.1*(k*r.2.2)-q.2.2*(k*r.2.1))-p.2.1*(q.1*(k*r.2.2)-q.2.2*(k*r.1))+p.2.2*(q.1*(k*r.2.1)-q.2.1*(k*r.1)):=by unfold aZ;grind
 rw[l,h1,h2,h3];unfold aZ;grind
theorem PartF.left (c:Cvx cs) (h:PartF L sh cs sh' zs) {z:Pt} (hz:z∈zs) {u v:Pt} (hc:Cyc cs u v):0<=aZ (up3 u) (up3 v) (sh*z.1,sh*z.2,sh'):=by
 obtain⟨t,k,f,pm,hk,hf,e1,e2,e3⟩:=h.corner z hz
 have e:=IU (up3 u) (up3 v) (r:=(sh*z.1,sh*z.2,sh')) e1 e2 e3
 have p:=RP c pm hc
 exact mO hk (by rw[e];exact Int.mul_nonneg (by omega) p)
theorem PartF.value (h:PartF L sh cs sh' zs) {z:Pt} (hz:z∈zs):Exc L (sh*z.1,sh*z.2,sh')<=0:=by
 obtain⟨t,k,f,pm,hk,hf,e1,e2,e3⟩:=h.corner z hz
 have e:k*Exc L (sh*z.1,sh*z.2,sh')=f*Exc L t:=by
  have l:k*Exc L (sh*z.1,sh*z.2,sh')=L.a*(k*(sh*z.1))+L.b*(k*(sh*z.2))-L.k*(k*sh'):=by unfold Exc;dsimp only;grind
  rw[l,e1,e2,e3];unfold Exc;grind
 have:=pm.exc_le
 apply Int.not_lt.mp
 intro hp
 have h1:=Int.mul_pos hk hp
 have h2:f*Exc L t<=0:=Int.mul_nonpos_of_nonneg_of_nonpos (by omega) this
 omega
theorem PartF.inside (c:Cvx cs) (hn:∃z∈cs,cxc L z<0) (h:PartF L sh cs sh' zs) {X Y W:Int} (hr:∀u v,Cyc cs u v->0<aZ (up3 u) (up3 v) (sh*X,sh*Y,W)) (he:Exc L (sh*X,sh*Y,W)<0):∀a b,Cyc zs a b->0<aZ (up3 a) (up3 b) (sh'*X,sh'*Y,W):=by
 intro a b hab
 obtain⟨t1,t2,κ,μ,A,hk,hm,e⟩:=h.side a b hab
 have:=CZ c hn A hr he
 exact nI hk (by rw[e];exact Int.mul_pos hm this)
end
theorem sA {cs:List Pt} {k j:Nat} (hk:k<cs.length) (hj:j<=cs.length):atI (cs.map pt) (0+(k:Int)-(j:Int))=some (pt (rg cs (k+(cs.length-j)))):=by
 unfold atI ixN
 rw[List.length_map]
 by_cases h:j<=k
 ·rw[if_pos (by omega),if_pos (by omega)]
  have e:(0+(k:Int)-(j:Int)).toNat=k-j:=by omega
  rw[e]
  show (cs.map pt)[k-j]? = _
  rw[List.getElem?_map,qV (by omega),show k+(cs.length-j)=(k-j)+cs.length by omega,lN];rfl
 ·rw[if_neg (by omega),if_pos (by omega)]
  have e:(0+(k:Int)-(j:Int)+(cs.length:Int)).toNat=k+(cs.length-j):=by omega
  rw[e]
  show (cs.map pt)[k+(cs.length-j)]? = _
  rw[List.getElem?_map,qV (by omega)];rfl
theorem oJ {cs:List Pt} {k:Nat} (hk:k<cs.length) {Q:D->Prop}:dIx (.tup (cs.map pt)) (.int (0+(k:Int))) Q=Q (pt (rg cs k)):=by
 have:=sA hk (j:=0) (by omega)
 simp only[Int.natCast_zero,Int.sub_zero,Nat.sub_zero,lN] at this
 simp only[dIx,this]
theorem AW {cs:List Pt} {k:Nat} (hk:k<cs.length) {Q:D->Prop}:dIx (.tup (cs.map pt)) (.int (0+(k:Int)-1)) Q=Q (pt (rg cs (k+(cs.length-1)))):=by
 have:=sA hk (j:=1) (by omega)
 simp only[Int.natCast_one] at this
 simp only[dIx,this]
theorem ND {cs:List Pt} {k:Nat} (hk:k<cs.length) (h2:2<=cs.length) {Q:D->Prop}:dIx (.tup (cs.map pt)) (.int (0+(k:Int)-2)) Q=Q (pt (rg cs (k+(cs.length-2)))):=by
 have:=sA hk (j:=2) (by omega)
 have e:((2:Nat):Int)=2:=rfl
 rw[e] at this
 simp only[dIx,this]
noncomputable def rX:FD:=λds Q=>∃a b c:Pt,ds=[pt a,pt b,pt c]/\(BP a/\BP b/\BP c)/\Q (.int (aG a b c))
theorem JG:∀ds Q,rX ds Q->ds.length=3:=by rintro ds Q ⟨_,_,_,rfl,_⟩;rfl
theorem vW:∀ds Q,rX ds Q->gK { nx:=λ_=>Q .non,rt:=Q } (aS ["_law_one","_law_two","_law_three","_law_ahead"] ds):=by
 rintro ds Q ⟨a,b,c,rfl,⟨ba,bb,bc⟩,q⟩
 rw[aX 1 rfl]
 unfold gK
 walk_at "rd"
 have e:(b.1-a.1)*(c.2-b.2)-(b.2-a.2)*(c.1-b.1)=aG a b c:=by unfold aG;grind
 refine⟨(bb.1.sub ba.1).mulOk (bc.2.sub bb.2),(bb.2.sub ba.2).mulOk (bc.1.sub bb.1),?_⟩
 rw[e];exact q
noncomputable abbrev sgI (m:Int):Int:=(if 0<m then 1 else 0)-(if m<0 then 1 else 0)
noncomputable abbrev sdd (sh X Y W:Int) (a b:Pt):Int:=aZ (up3 a) (up3 b) (sh*X,sh*Y,W)
noncomputable def dY:FD:=λds Q=>∃(sh:Int) (cs:List Pt) (X Y W:Int),ds=[pc sh cs,sp3 X Y W]/\(BL 9000 sh/\kF 9000 cs/\1<=cs.length/\cs.length<=100)/\(BL 9000 X/\BL 9000 Y/\BL 9000 W) /\
 ∀M,(∃a b,Cyc cs a b/\M=sdd sh X Y W a b)->(∀a b,Cyc cs a b->M<=sdd sh X Y W a b)->Q (.int (sgI M))
theorem EH:∀ds Q,dY ds Q->ds.length=2:=by rintro ds Q ⟨_,_,_,_,_,rfl,_⟩;rfl
theorem WU (sh X Y W:Int) (a b:Pt):(b.1-a.1)*(Y*sh-a.2*W)-(b.2-a.2)*(X*sh-a.1*W)=sdd sh X Y W a b:=by unfold sdd aZ up3;dsimp only;grind
theorem rP:∀ds Q,dY ds Q->eY { nx:=λ_=>Q .non,rt:=Q } (aS ["_law_piece","_law_spot","_law_share_here","_law_corners","_law_least","_law_k","_law_one","_law_x","_law_y","_law_side"] ds):=by
 rintro ds Q ⟨sh,cs,X,Y,W,rfl,⟨bs,hS,l1,l2⟩,⟨bX,bY,bW⟩,q⟩
 rw[aX 8 rfl]
 unfold eY
 simp only[cP,YU,List.map_cons,List.map_nil,List.cons_append,List.nil_append]
 generalize hP:pc sh cs=PD
 generalize hT:sp3 X Y W=TD
 have pos:0<cs.length:=by omega
 refine aN (λρ=>ρ=[some (.d PD),some (.d TD),some (.d (.int sh)),some (.d (.tup (cs.map pt))),none,none,none,none,none,none]) (λK hK=>?_) ?_
 ·rw[<-hP] at hK ⊢
  walk_at "rd"
  exact hK _ rfl
 rintro ρ rfl
 refine aN (λρ=>ρ=[some (.d PD),some (.d TD),some (.d (.int sh)),some (.d (.tup (cs.map pt))),some (.d .non),none,none,none,none,none]) (λK hK=>?_) ?_
 ·walk_at "rd"
  exact hK _ rfl
 rintro ρ rfl
 refine aN (λρ=>∃(M:Int) (a b c d e:Option S),((∃a b,Cyc cs a b/\M=sdd sh X Y W a b)/\∀a b,Cyc cs a b->M<=sdd sh X Y W a b)/\ρ=[some (.d PD),some (.d TD),some (.d (.int sh)),some (.d (.tup (cs.map pt))),some (.d (.int M)),a,b,c,d,e]) (λK hK=>?_) ?_
 ·simp only[iB,uK,aD,aK,r1,dU,aA,List.getElem?_cons_zero,List.getElem?_cons_succ,S.val,List.length_map]
  refine⟨by constructor <;> omega,?_⟩
  have nn:(((cs.length:Nat):Int)).toNat=cs.length:=by omega
  simp only[nn]
  refine GN 0 cs.length (λi ρ=>∃(lo:D) (a b c d e:Option S),((i=0/\lo = .non)\/(∃M k0:Int × Nat,k0.2<i/\M.1=sdd sh X Y W (rg cs (k0.2+(cs.length-1))) (rg cs k0.2)/\(∀k,k<i->M.1<=sdd sh X Y W (rg cs (k+(cs.length-1))) (rg cs k))/\lo = .int M.1))/\ρ=[some (.d PD),some (.d TD),some (.d (.int sh)),some (.d (.tup (cs.map pt))),some (.d lo),a,b,c,d,e]) ?_ ?_ _ ⟨.non,none,none,none,none,none,Or.inl ⟨rfl,rfl⟩,rfl⟩
  ·rintro i ρ hi ⟨lo,a,b,c,d,e,hlo,rfl⟩ F _ _ hn _
   obtain⟨p1,p2⟩:=hS _ (hU pos (i+(cs.length-1)))
   obtain⟨q1,q2⟩:=hS _ (hU pos i)
   unfold iQ
   subst hT
   walk_at "rd"
   rw[AW hi]
   walk_at "rd"
   simp only[oJ hi]
   walk_at "rd"
   have bx:=(bX.mul bs).sub (p1.mul bW)
   have by':=(bY.mul bs).sub (p2.mul bW)
   refine⟨bX.mulOk bs,p1.mulOk bW,bY.mulOk bs,p2.mulOk bW,(q1.sub p1).mulOk by',(q2.sub p2).mulOk bx,?_⟩
   rw[WU]
   rcases hlo with ⟨h0,rfl⟩ | ⟨M,k0,h1,h2,h3,rfl⟩
   ·subst h0
    simp only[if_true]
    refine hn _ ⟨_,_,_,_,_,_,Or.inr ⟨(_,0),(0,0),by omega,rfl,λk hk=>?_,rfl⟩,rfl⟩
    have:k=0:=by omega
    subst this
    exact Int.le_refl _
   ·simp only[Bool.false_eq_true,if_false]
    split
    ·rename_i hlt
     refine hn _ ⟨_,_,_,_,_,_,Or.inr ⟨(_,0),(0,i),by omega,rfl,λk hk=>?_,rfl⟩,rfl⟩
     by_cases hki:k=i
     ·subst hki;exact Int.le_refl _
     ·have h4:=h3 k (by omega)
      rw[<-h2] at *
      exact Int.le_trans (Int.le_of_lt hlt) h4
    ·rename_i hlt
     refine hn _ ⟨_,_,_,_,_,_,Or.inr ⟨M,k0,by omega,h2,λk hk=>?_,rfl⟩,rfl⟩
     by_cases hki:k=i
     ·subst hki;omega
     ·exact h3 k (by omega)
  ·rintro ρ ⟨lo,a,b,c,d,e,hlo,rfl⟩
   rcases hlo with ⟨h0,rfl⟩ | ⟨M,k0,h1,h2,h3,rfl⟩
   ·omega
   ·refine hK _ ⟨M.1,a,b,c,d,e,⟨⟨_,_,AD pos k0.2,h2⟩,λx y hxy=>?_⟩,rfl⟩
    obtain⟨k,hk,rfl,rfl⟩:=QA hxy
    exact h3 k hk
 rintro ρ ⟨M,a,b,c,d,e,⟨m1,m2⟩,rfl⟩
 have fin:=q M m1 m2
 walk_at "rd"
 exact fin
noncomputable def nU:FD:=λds Q=>∃(sh:Int) (zs:List Pt),ds=[pc sh zs]/\1<=sh/\3<=zs.length/\Q (.bl true)
theorem EI:∀ds Q,nU ds Q->ds.length=1:=by rintro ds Q ⟨_,_,rfl,_⟩;rfl
theorem jY:∀ds Q,nU ds Q->cK rZ { nx:=λ_=>Q .non,rt:=Q } (aS ["_law_piece","_law_corner"] ds):=by
 rintro ds Q ⟨sh,zs,rfl,h1,h3,q⟩
 rw[aX 1 rfl]
 unfold cK
 simp only[cP,SC,List.map_cons,List.map_nil,List.cons_append,List.nil_append]
 refine aN (λρ=>ρ=[some (.d (pc sh zs)),none]) (λK hK=>?_) ?_
 ·walk_at "rd"
  refine⟨sh,rfl,?_⟩
  walk_at "rd"
  rw[if_neg (by omega)]
  exact hK _ rfl
 rintro ρ rfl
 refine aN (λρ=>ρ=[some (.d (pc sh zs)),none]) (λK hK=>?_) ?_
 ·walk_at "rd"
  rw[if_neg (by simp;omega)]
  exact hK _ rfl
 rintro ρ rfl
 refine aN (λρ=>True) (λK hK=>?_) ?_
 ·walk_at "rd"
  refine cQ (λxs ρ=>∃(rest:List Pt) (x:Option S),xs=rest.map pt/\ρ=[some (.d (pc sh zs)),x]) ?_ ?_ _ _ ⟨zs,none,rfl,rfl⟩
  ·rintro x xs ρ ⟨rest,u,ex,rfl⟩ F _ _ hn _
   cases rest with
   | nil=>cases ex
   | cons z rest =>
    cases ex
    unfold eA
    walk_at "rd"
    exact⟨_,rfl,_,rfl,hn _ ⟨rest,some (.d (pt z)),rfl,rfl⟩⟩
  ·rintro ρ _;exact hK _ trivial
 rintro ρ _
 walk_at "rd"
 exact q
structure IsPc (sh:Int) (zs:List Pt):Prop where
 pos:0<sh
 cvx:Cvx zs
 first:∃z T,zs=z::T/\∀q∈T,¬ltP q z
 cop:∀d:Nat,(d:Int)∣sh->(∀z∈zs,(d:Int)∣z.1/\(d:Int)∣z.2)->d=1
noncomputable def zH:FD:=λds Q=>∃(sh:Int) (zs:List Pt),ds=[pc sh zs]/\IsPc sh zs/\(∀z∈zs,BP z)/\zs.length<=100/\Q (.bl true)
theorem QO:∀ds Q,zH ds Q->ds.length=1:=by rintro ds Q ⟨_,_,rfl,_⟩;rfl
theorem oR:∀ds Q,zH ds Q->dM qN nU rX { nx:=λ_=>Q .non,rt:=Q } (aS ["_law_piece","_law_share_here","_law_corners","_law_most","_law_falls","_law_k"] ds):=by
 rintro ds Q ⟨sh,zs,rfl,ip,hB,hl,q⟩
 have h3:=ip.cvx.len
 have pos:0<zs.length:=by omega
 rw[aX 5 rfl]
 unfold dM
 simp only[cP,WN,List.map_cons,List.map_nil,List.cons_append,List.nil_append]
 generalize hP:pc sh zs=PD
 refine aN (λρ=>ρ=[some (.d PD),none,none,none,none,none]) (λK hK=>?_) ?_
 ·walk_at "rd"
  refine⟨sh,zs,by rw[hP],by have:=ip.pos;omega,h3,?_⟩
  walk_at "rd"
  exact hK _ rfl
 rintro ρ rfl
 refine aN (λρ=>ρ=[some (.d PD),some (.d (.int sh)),some (.d (.tup (zs.map pt))),none,none,none]) (λK hK=>?_) ?_
 ·rw[<-hP] at hK ⊢
  walk_at "rd"
  exact hK _ rfl
 rintro ρ rfl
 refine aN (λρ=>ρ=[some (.d PD),some (.d (.int sh)),some (.d (.tup (zs.map pt))),some (.d (.int sh)),none,none]) (λK hK=>?_) ?_
 ·walk_at "rd"
  exact hK _ rfl
 rintro ρ rfl
 refine aN (λρ=>ρ=[some (.d PD),some (.d (.int sh)),some (.d (.tup (zs.map pt))),some (.d (.int sh)),some (.d (.int 0)),none]) (λK hK=>?_) ?_
 ·walk_at "rd"
  exact hK _ rfl
 rintro ρ rfl
 refine aN (λρ=>∃(a:Option S),ρ=[some (.d PD),some (.d (.int sh)),some (.d (.tup (zs.map pt))),some (.d (.int 1)),some (.d (.int 1)),a]) (λK hK=>?_) ?_
 ·simp only[iB,uK,aD,aK,r1,dU,aA,List.getElem?_cons_zero,List.getElem?_cons_succ,S.val,List.length_map]
  refine⟨by constructor <;> omega,?_⟩
  have nn:(((zs.length:Nat):Int)).toNat=zs.length:=by omega
  have sn:(sh.toNat:Int)=sh:=by have:=ip.pos;omega
  simp only[nn]
  refine GN 0 zs.length (λi ρ=>∃(g:Nat) (a:Option S),GcdOf sh (zs.take i) g/\ρ=[some (.d PD),some (.d (.int sh)),some (.d (.tup (zs.map pt))),some (.d (.int g)),some (.d (.int (if 2<=i then 1 else 0))),a]) ?_ ?_ _ ⟨sh.toNat,none,⟨by have:=ip.pos;omega,?_,by simp,λd e1 _=>?_⟩,by rw[sn];rfl⟩
  ·rintro i ρ hi ⟨g,a,hg,rfl⟩ F hrt _ hn _
   have p0:=hB _ (hU pos i)
   have p1:=hB _ (hU pos (i+(zs.length-1)))
   have p2:=hB _ (hU pos (i+(zs.length-2)))
   have tp:0<aG (rg zs (i+(zs.length-2))) (rg zs (i+(zs.length-1))) (rg zs i):=by
    have:=ip.cvx.bend_rg (i+(zs.length-2))
    rwa [show i+(zs.length-2)+1=i+(zs.length-1) by omega,show i+(zs.length-2)+2=i+zs.length by omega,lN] at this
   have ff:(ltP (rg zs (i+(zs.length-1))) (rg zs (i+(zs.length-2)))/\ltP (rg zs (i+(zs.length-1))) (rg zs i))↔i=1:=by
    obtain⟨z,T,e,least⟩:=ip.first
    have cv:=ip.cvx
    subst e
    exact IX cv least hi
   have hg':GcdOf sh (zs.take (i+1)) (Int.gcd (Int.gcd g (rg zs i).1:Nat) (rg zs i).2):=by
    rw[List.take_succ,qV hi];exact hg.snoc _
   have fin:∀v:Int,v=(if 2<=i+1 then 1 else 0)->F.nx [some (.d PD),some (.d (.int sh)),some (.d (.tup (zs.map pt))),some (.d (.int (Int.gcd (Int.gcd g (rg zs i).1:Nat) (rg zs i).2:Nat))),some (.d (.int v)),some (.d (.int (0+(i:Int))))]:=λv hv=>hn _ ⟨_,some (.d (.int (0+(i:Int)))),hg',by rw[hv]⟩
   unfold gB
   walk_at "rd"
   rw[oJ hi]
   walk_at "rd"
   refine⟨_,_,rfl,?_⟩
   dsimp only
   rw[oJ hi]
   walk_at "rd"
   refine⟨_,_,rfl,?_⟩
   simp only[oJ hi,AW hi,ND hi (by omega)]
   refine⟨_,_,_,rfl,⟨p2,p1,p0⟩,?_⟩
   dsimp only
   rw[if_neg (by omega)]
   refine⟨[_,_],[_,_],rfl,rfl,?_⟩
   rw[oK]
   by_cases h1:ltP (rg zs (i+(zs.length-1))) (rg zs (i+(zs.length-2)))
   ·simp only[h1,decide_true,if_true]
    refine⟨[_,_],[_,_],rfl,rfl,?_⟩
    rw[oK]
    by_cases h2:ltP (rg zs (i+(zs.length-1))) (rg zs i)
    ·simp only[h2,decide_true,if_true]
     have:=ff.mp ⟨h1,h2⟩
     subst this
     exact fin _ (by simp)
    ·simp only[h2,decide_false,if_false,Bool.false_eq_true]
     have:i≠1:=λe=>h2 (ff.mpr e).2
     refine fin _ ?_
     by_cases h4:2<=i
     ·rw[if_pos h4,if_pos (by omega)]
     ·rw[if_neg h4,if_neg (by omega)]
   ·simp only[h1,decide_false,if_false,Bool.false_eq_true]
    have:i≠1:=λe=>h1 (ff.mpr e).1
    refine fin _ ?_
    by_cases h4:2<=i
    ·rw[if_pos h4,if_pos (by omega)]
    ·rw[if_neg h4,if_neg (by omega)]
  ·rintro ρ ⟨g,a,hg,rfl⟩
   rw[List.take_length] at hg
   have:=ip.cop g hg.sh hg.all
   subst this
   refine hK _ ⟨a,?_⟩
   rw[if_pos (by omega)];rfl
  ·rw[sn];exact Int.dvd_refl _
  ·exact_mod_cast (by rw[sn];exact e1:(d:Int)∣(sh.toNat:Int))
 rintro ρ ⟨a,rfl⟩
 obtain⟨z,T,e,least⟩:=ip.first
 subst e
 walk_at "rd"
 refine⟨(z::T).map λp=>[p.1,p.2],by rw[List.map_map];rfl,by simp,λM m1 m2=>?_⟩
 obtain⟨p,hp,rfl⟩:=List.mem_map.mp m1
 have ep:z=p:=by
  rcases List.mem_cons.mp hp with h | h
  ·exact h.symm
  ·have h1:=least p h
   have h2:=m2 [z.1,z.2] (by simp)
   rw[oK] at h2
   simp only[decide_eq_false_iff_not] at h2
   rcases eT z p with k | k | k
   ·exact absurd k h2
   ·exact k
   ·exact absurd k h1
 subst ep
 have ee:eqF 6 (pt z) (pt z)=some true:=by rw[yF];simp
 rw[show jP [z.1,z.2]=pt z from rfl]
 first
  | (rw[ee];exact q)
  | (show (match eqF 6 (pt z) (pt z) with | some b=>Q (.bl b) | none=>False);rw[ee];exact q)
theorem PartF.isPc {L:CLine} {sh sh':Int} {cs zs:List Pt} (h:PartF L sh cs sh' zs):IsPc sh' zs:=⟨h.pos,h.cvx,h.first,h.cop⟩
noncomputable def P2 (l:Line) (sh:Int) (cs:List Pt) (s:Int) (d:D):Prop:=d = .non\/∃(sh':Int) (zs:List Pt),d=pc sh' zs/\IsPc sh' zs/\(BL 9000 sh'/\kF 9000 zs/\zs.length<=100)/\∀z∈zs,0<=(l.a*z.1+l.b*z.2-l.c*sh')*s/\∀a b,Cyc cs a b->0<=sdd sh z.1 z.2 sh' a b
theorem NP {cs:List Pt} {L:CLine} (c:Cvx cs) (hab:L.a≠0\/L.b≠0):¬ ∀z∈cs,cxc L z=0:=by
 intro h
 have h3:=c.len
 have on:∀i,onL L 1 (rg cs i):=λi=>by
  have:=h _ (hU (cs:=cs) (by omega) i)
  unfold cxc at this
  unfold onL
  omega
 have:=c.bend_rg 0
 rw[BQ hab (on _) (on _) (on _)] at this
 omega
theorem nQ (l:Line) (sh X Y W:Int):Exc (kQ l sh) (sh*X,sh*Y,W)=sh*(l.a*X+l.b*Y-l.c*W):=by unfold Exc kQ;dsimp only;grind
theorem MT {x:D} (h:x∈[D.int 10,D.int 1000000000000000000000000000000]):∃f:Int,x = .int f/\0<=f/\BL 200 f:=by
 simp only[List.mem_cons,List.not_mem_nil,or_false] at h
 rcases h with rfl | rfl
 ·exact⟨_,rfl,by decide,BL.const (by decide)⟩
 ·exact⟨_,rfl,by decide,BL.const (by decide)⟩
theorem IP {xs:List D} {l u:Option Int} {x:D} (h:x∈jD xs l u):x∈xs:=by
 unfold jD at h
 exact List.mem_of_mem_drop (List.mem_of_mem_take h)
theorem DueOf.isPc {share:Int} {cs:List Pt} {m sh:Int} {zs:List Pt} {j:Nat} (h:DueOf share cs m sh zs j) (hs:0<share) (c:Cvx cs):IsPc sh (turned j zs):=by
 refine⟨h.sh_pos hs,h.cvx c,?_,h.norm.cop⟩
 obtain⟨w,T,e,least⟩:=h.first
 have ec:w::T=(turned j zs).map (scl m):=by rw[<-e];exact h.norm.cs_eq
 generalize turned j zs=ts at *
 cases ts with
 | nil=>simp at ec
 | cons z' T' =>
  simp only[List.map_cons,List.cons.injEq] at ec
  refine⟨z',T',rfl,λq hq hlt=>?_⟩
  refine least (scl m q) (by rw[ec.2];exact List.mem_map_of_mem hq) ?_
  rw[ec.1];exact (uP h.mpos).mpr hlt
section
variable {L:CLine} {cs:List Pt}
theorem uT:∀(l:List Pt),l≠[]->∃u∈l,∀z∈l,cxc L z<=cxc L u
 | [],h=>absurd rfl h
 | [x],_=>⟨x,by simp,λz hz=>by simp at hz;subst hz;exact Int.le_refl _⟩
 | x::y::l,_=>by
  obtain⟨u,hu,h⟩:=uT (y::l) (by simp)
  by_cases k:cxc L x<=cxc L u
  ·exact⟨u,by simp at hu ⊢;exact Or.inr hu,λz hz=>by
    rcases List.mem_cons.mp hz with rfl | hz
    ·exact k
    ·exact h z hz⟩
  ·exact⟨x,by simp,λz hz=>by
    rcases List.mem_cons.mp hz with rfl | hz
    ·exact Int.le_refl _
    ·have:=h z hz;omega⟩
theorem PB (t u v:Pt) (r:H3):Exc L r*aG t u v=(cxc L t-cxc L u)*aZ (up3 u) (up3 v) r+(cxc L v-cxc L u)*aZ (up3 t) (up3 u) r+cxc L u*r.2.2*aG t u v:=by
 unfold Exc cxc aZ aG up3
 dsimp only
 grind
theorem CC (c:Cvx cs):∃t u v,Cyc cs t u/\Cyc cs u v/\u∈cs/\0<aG t u v/\∀z∈cs,cxc L z<=cxc L u:=by
 obtain⟨u,hu,top⟩:=uT (L:=L) cs (by intro e;have:=c.len;rw[e] at this;simp at this)
 obtain⟨t,v,h1,h2,nt⟩:=sZ c hu
 exact⟨t,u,v,h1,h2,hu,c.strict t u h1 v (Cyc.mem h2).2 (Ne.symm nt) (Ne.symm (c.ne h2)),top⟩
theorem SF (c:Cvx cs) (hle:∀z∈cs,cxc L z<=0) {r:H3} (hw:0<=r.2.2) (hr:∀u v,Cyc cs u v->0<=aZ (up3 u) (up3 v) r):Exc L r<=0:=by
 obtain⟨t,u,v,h1,h2,hu,D,top⟩:=CC (L:=L) c
 have e:=PB (L:=L) t u v r
 have a1:=Int.mul_nonpos_of_nonpos_of_nonneg (show cxc L t-cxc L u<=0 by have:=top t (Cyc.mem h1).1;omega) (hr u v h2)
 have a2:=Int.mul_nonpos_of_nonpos_of_nonneg (show cxc L v-cxc L u<=0 by have:=top v (Cyc.mem h2).2;omega) (hr t u h1)
 have a3:=Int.mul_nonpos_of_nonpos_of_nonneg (Int.mul_nonpos_of_nonpos_of_nonneg (hle u hu) hw) (Int.le_of_lt D)
 apply Int.not_lt.mp
 intro h
 have:=Int.mul_pos h D
 omega
theorem SG (c:Cvx cs) (hle:∀z∈cs,cxc L z<=0) (hne:∃z∈cs,cxc L z≠0) {r:H3} (hw:0<r.2.2) (hr:∀u v,Cyc cs u v->0<aZ (up3 u) (up3 v) r):Exc L r<0:=by
 obtain⟨t,u,v,h1,h2,hu,D,top⟩:=CC (L:=L) c
 have e:=PB (L:=L) t u v r
 have lt:=top t (Cyc.mem h1).1
 have lv:=top v (Cyc.mem h2).2
 have a1:=Int.mul_nonpos_of_nonpos_of_nonneg (show cxc L t-cxc L u<=0 by omega) (Int.le_of_lt (hr u v h2))
 have a2:=Int.mul_nonpos_of_nonpos_of_nonneg (show cxc L v-cxc L u<=0 by omega) (Int.le_of_lt (hr t u h1))
 have a3:=Int.mul_nonpos_of_nonpos_of_nonneg (Int.mul_nonpos_of_nonpos_of_nonneg (hle u hu) (Int.le_of_lt hw)) (Int.le_of_lt D)
 have key:Exc L r*aG t u v<0:=by
  rcases Int.lt_or_eq_of_le (hle u hu) with k | k
  ·have:=Int.mul_neg_of_neg_of_pos (Int.mul_neg_of_neg_of_pos k hw) D
   omega
  ·by_cases kt:cxc L t<cxc L u
   ·have:=Int.mul_neg_of_neg_of_pos (show cxc L t-cxc L u<0 by omega) (hr u v h2)
    omega
   ·by_cases kv:cxc L v<cxc L u
    ·have:=Int.mul_neg_of_neg_of_pos (show cxc L v-cxc L u<0 by omega) (hr t u h1)
     omega
    ·exfalso
     have et:cxc L t=0:=by omega
     have ev:cxc L v=0:=by omega
     have on:∀z,cxc L z=0->onL L 1 z:=λz hz=>by unfold cxc at hz;unfold onL;omega
     by_cases hab:L.a≠0\/L.b≠0
     ·rw[BQ hab (on t et) (on u k) (on v ev)] at D
      omega
     ·have z1:L.a=0:=Classical.byContradiction λq=>hab (Or.inl q)
      have z2:L.b=0:=Classical.byContradiction λq=>hab (Or.inr q)
      obtain⟨z,_,hz⟩:=hne
      unfold cxc at hz k
      rw[z1,z2] at hz k
      simp at hz k
      omega
 apply Int.not_le.mp
 intro h
 have:=Int.mul_nonneg h (Int.le_of_lt D)
 omega
end
theorem MY:∀(l:List Pt),∃D,Inc D/\∀z,z∈D↔z∈l
 | []=>⟨[],by unfold Inc;simp,by simp⟩
 | x::l=>by
  obtain⟨D,h,e⟩:=MY l
  have ins:∀(D:List Pt),Inc D->∃D',Inc D'/\∀z,z∈D'↔z=x\/z∈D:=by
   intro D
   induction D with
   | nil=>intro _;exact⟨[x],by unfold Inc;simp,by simp⟩
   | cons y D ih =>
    intro h
    unfold Inc at h
    have h':=List.pairwise_cons.mp h
    rcases eT x y with k | k | k
    ·refine⟨x::y::D,?_,by simp⟩
     unfold Inc
     refine List.pairwise_cons.mpr ⟨λz hz=>?_,h⟩
     rcases List.mem_cons.mp hz with rfl | hz
     ·exact k
     ·exact eI k (h'.1 z hz)
    ·subst k
     exact⟨x::D,h,by simp⟩
    ·obtain⟨D',i,m⟩:=ih h'.2
     refine⟨y::D',?_,λz=>?_⟩
     ·unfold Inc
      refine List.pairwise_cons.mpr ⟨λz hz=>?_,i⟩
      rcases (m z).mp hz with rfl | hz
      ·exact k
      ·exact h'.1 z hz
     ·simp only[List.mem_cons,m z]
      constructor
      ·rintro (a | a | a) <;> simp[a]
      ·rintro (a | a | a) <;> simp[a]
  obtain⟨D',i,m⟩:=ins D h
  exact⟨D',i,λz=>by rw[m z,e z];simp⟩
theorem CF {z w:Pt} {S T:List Pt} (c1:Cvx (z::S)) (c2:Cvx (w::T)) (l1:∀q∈S,¬ltP q z) (l2:∀q∈T,¬ltP q w) (h1:∀a b,Cyc (z::S) a b->∀q∈w::T,0<=aG a b q) (h2:∀a b,Cyc (w::T) a b->∀q∈z::S,0<=aG a b q):z::S=w::T:=by
 obtain⟨D,i,m⟩:=MY ((z::S)++(w::T))
 have e1:=kE (L:=z::S) i c1 l1 (λq hq=>(m q).mpr (List.mem_append_left _ hq)) λa b hab q hq=>by
  rcases List.mem_append.mp ((m q).mp hq) with k | k
  ·exact c1.side hab k
  ·exact h1 a b hab q k
 have e2:=kE (L:=z::S) i c2 l2 (λq hq=>(m q).mpr (List.mem_append_right _ hq)) λa b hab q hq=>by
  rcases List.mem_append.mp ((m q).mp hq) with k | k
  ·exact h2 a b hab q k
  ·exact c2.side hab k
 rw[<-e1,e2]
theorem HP (s1 s2:Int) (a b q:Pt):aG (scl s2 a) (scl s2 b) (scl s1 q)=s2*sdd s1 q.1 q.2 s2 a b:=by unfold sdd aZ up3 aG scl;dsimp only;grind
theorem Cvx.scl {k:Int} (hk:0<k) {l:List Pt} (c:Cvx l):Cvx (l.map (L2.R2.scl k)):=c.map (Int.mul_pos hk hk) (CG k) λa b h=>zC hk h
theorem wV {s1 s2:Int} {z1 z2:List Pt} (p1:IsPc s1 z1) (p2:IsPc s2 z2) (h1:∀q∈z2,∀a b,Cyc z1 a b->0<=sdd s1 q.1 q.2 s2 a b) (h2:∀q∈z1,∀a b,Cyc z2 a b->0<=sdd s2 q.1 q.2 s1 a b):s1=s2/\z1=z2:=by
 obtain⟨z,S,e1,l1⟩:=p1.first
 obtain⟨w,T,e2,l2⟩:=p2.first
 have q1:=p1.pos
 have q2:=p2.pos
 have c1:=p1.cvx.scl q2
 have c2:=p2.cvx.scl q1
 have back:∀{k:Int} {l:List Pt} {x y:Pt},Cyc (l.map (scl k)) x y->∃a b,Cyc l a b/\x=scl k a/\y=scl k b:=by
  intro k l x y h
  have h':Nxt ((l++l.take 1).map (scl k)) x y:=by rw[List.map_append,List.map_take];exact h
  exact yQ h'
 have eq:z1.map (scl s2)=z2.map (scl s1):=by
  subst e1 e2
  rw[List.map_cons,List.map_cons] at *
  refine CF c1 c2 (λq hq=>?_) (λq hq=>?_) (λa b hab q hq=>?_) λa b hab q hq=>?_
  ·obtain⟨y,hy,rfl⟩:=List.mem_map.mp hq;rw[uP q2];exact l1 y hy
  ·obtain⟨y,hy,rfl⟩:=List.mem_map.mp hq;rw[uP q1];exact l2 y hy
  ·obtain⟨a',b',h,rfl,rfl⟩:=back (l:=z::S) hab
   obtain⟨y,hy,rfl⟩:=List.mem_map.mp (show q∈(w::T).map (scl s1) from hq)
   rw[HP];exact Int.mul_nonneg (by omega) (h1 y hy a' b' h)
  ·obtain⟨a',b',h,rfl,rfl⟩:=back (l:=w::T) hab
   obtain⟨y,hy,rfl⟩:=List.mem_map.mp (show q∈(z::S).map (scl s2) from hq)
   rw[HP];exact Int.mul_nonneg (by omega) (h2 y hy a' b' h)
 exact BJ (a:=s2) (b:=s1) q2 q1 (Int.mul_comm ..) eq p1.cop p2.cop
noncomputable def InC (sh:Int) (cs:List Pt) (X Y W:Int):Prop:=∀a b,Cyc cs a b->0<=sdd sh X Y W a b
noncomputable def InO (sh:Int) (cs:List Pt) (X Y W:Int):Prop:=∀a b,Cyc cs a b->0<sdd sh X Y W a b
theorem zF {sh:Int} {zs:List Pt} (c:Cvx zs) (h0:0<sh) {α β γ:Int} (h:∀z∈zs,α*z.1+β*z.2+γ*sh<=0) {X Y W:Int} (hw:0<=W) (hr:InC sh zs X Y W):α*X+β*Y+γ*W<=0:=by
 have e:=SF (L:=⟨α,β,-γ*sh⟩) c (λz hz=>by have:=h z hz;unfold cxc;dsimp only;grind) (r:=(sh*X,sh*Y,W)) hw hr
 have e2:Exc ⟨α,β,-γ*sh⟩ (sh*X,sh*Y,W)=sh*(α*X+β*Y+γ*W):=by unfold Exc;dsimp only;grind
 rw[e2] at e
 apply Int.not_lt.mp
 intro k
 have:=Int.mul_pos h0 k
 omega
theorem sK {sh:Int} {zs:List Pt} (c:Cvx zs) (h0:0<sh) {α β γ:Int} (hab:α≠0\/β≠0) (h:∀z∈zs,α*z.1+β*z.2+γ*sh<=0) {X Y W:Int} (hw:0<W) (hr:InO sh zs X Y W):α*X+β*Y+γ*W<0:=by
 have nf:=NP (L:=⟨α,β,-γ*sh⟩) c hab
 have e:=SG (L:=⟨α,β,-γ*sh⟩) c (λz hz=>by have:=h z hz;unfold cxc;dsimp only;grind) (Classical.byContradiction λk=>nf λz hz=>Classical.byContradiction λq=>k ⟨z,hz,q⟩) (r:=(sh*X,sh*Y,W)) hw hr
 have e2:Exc ⟨α,β,-γ*sh⟩ (sh*X,sh*Y,W)=sh*(α*X+β*Y+γ*W):=by unfold Exc;dsimp only;grind
 rw[e2] at e
 apply Int.not_le.mp
 intro k
 have:=Int.mul_nonneg (Int.le_of_lt h0) k
 omega
theorem oX (sh X Y W:Int) (u v:Pt):sdd sh X Y W u v=sh*(u.2-v.2)*X+sh*(v.1-u.1)*Y+(u.1*v.2-u.2*v.1)*W:=by unfold sdd aZ up3;dsimp only;grind
structure CutReg (l:Line) (sh:Int) (cs:List Pt) (sh':Int) (zs:List Pt):Prop where
 ip:IsPc sh' zs
 closed:∀X Y W,0<=W->(InC sh' zs X Y W↔InC sh cs X Y W/\l.a*X+l.b*Y-l.c*W<=0)
 opened:∀X Y W,0<W->(InO sh' zs X Y W↔InO sh cs X Y W/\l.a*X+l.b*Y-l.c*W<0)
theorem sM (l:Line) (X Y W:Int):l.a*X+l.b*Y-l.c*W=l.a*X+l.b*Y + -l.c*W:=by grind
theorem PZ {l:Line} {sh:Int} {cs:List Pt} (ip:IsPc sh cs) (ab:l.a≠0\/l.b≠0) {d:D} (r:PartR (kQ l sh) sh cs d) :
  (d = .non/\∀X Y W,0<W->InO sh cs X Y W->¬l.a*X+l.b*Y-l.c*W<0)\/∃sh' zs,d=pc sh' zs/\CutReg l sh cs sh' zs:=by
 have c:=ip.cvx
 have h0:=ip.pos
 cases r with
 | whole h =>
  refine Or.inr ⟨sh,cs,rfl,ip,λX Y W hw=>⟨λk=>⟨k,?_⟩,λk=>k.1⟩,λX Y W hw=>⟨λk=>⟨k,?_⟩,λk=>k.1⟩⟩
  ·rw[sM]
   exact zF c h0 (λz hz=>by have:=h z hz;rw[sY] at this;unfold exc at this;grind) hw k
  ·rw[sM]
   exact sK c h0 ab (λz hz=>by have:=h z hz;rw[sY] at this;unfold exc at this;grind) hw k
 | nothing h n =>
  refine Or.inl ⟨rfl,λX Y W hw k=>?_⟩
  have:=sK (α:=-l.a) (β:=-l.b) (γ:=l.c) c h0 (by omega) (λz hz=>by have:=h z hz;rw[sY] at this;unfold exc at this;grind) hw k
  grind
 | @part hp hn sh' zs h =>
  have f:=h.facts c hp hn h0
  refine Or.inr ⟨sh',zs,rfl,f.isPc,λX Y W hw=>⟨λk=>⟨λu v huv=>?_,?_⟩,λk=>λa b hab=>?_⟩,λX Y W hw=>⟨λk=>⟨λu v huv=>?_,?_⟩,λk=>f.inside c hn k.1 ?_⟩⟩
  ·have:=zF (α:=-(sh*(u.2-v.2))) (β:=-(sh*(v.1-u.1))) (γ:=-(u.1*v.2-u.2*v.1)) f.cvx f.pos (λz hz=>by
    have:=f.left c hz huv
    rw[show aZ (up3 u) (up3 v) (sh*z.1,sh*z.2,sh')=sdd sh z.1 z.2 sh' u v from rfl,oX] at this
    grind) hw k
   rw[oX];grind
  ·rw[sM]
   refine zF f.cvx f.pos (λz hz=>?_) hw k
   have:=f.value hz
   rw[nQ] at this
   have k2:l.a*z.1+l.b*z.2-l.c*sh'<=0:=by
    apply Int.not_lt.mp
    intro q
    have:=Int.mul_pos h0 q
    omega
   grind
  ·obtain⟨t1,t2,κ,μ,A,hk,hm,e⟩:=f.side a b hab
   have:=LC c hn A k.1 (by
    rw[nQ]
    exact Int.mul_nonpos_of_nonneg_of_nonpos (Int.le_of_lt h0) k.2)
   exact mO hk (by rw[e];exact Int.mul_nonneg (Int.le_of_lt hm) this)
  ·have ne:=c.ne huv
   have:=sK (α:=-(sh*(u.2-v.2))) (β:=-(sh*(v.1-u.1))) (γ:=-(u.1*v.2-u.2*v.1)) f.cvx f.pos (by
    by_cases e1:u.2=v.2
    ·refine Or.inr ?_
     have:v.1-u.1≠0:=λe=>ne (Prod.ext (by omega) e1)
     have:=Int.mul_ne_zero (show sh≠0 by omega) this
     omega
    ·refine Or.inl ?_
     have:u.2-v.2≠0:=by omega
     have:=Int.mul_ne_zero (show sh≠0 by omega) this
     omega) (λz hz=>by
    have:=f.left c hz huv
    rw[show aZ (up3 u) (up3 v) (sh*z.1,sh*z.2,sh')=sdd sh z.1 z.2 sh' u v from rfl,oX] at this
    grind) hw k
   rw[oX];grind
  ·rw[sM]
   refine sK f.cvx f.pos ab (λz hz=>?_) hw k
   have:=f.value hz
   rw[nQ] at this
   have k2:l.a*z.1+l.b*z.2-l.c*sh'<=0:=by
    apply Int.not_lt.mp
    intro q
    have:=Int.mul_pos h0 q
    omega
   grind
  ·rw[nQ]
   exact Int.mul_neg_of_pos_of_neg h0 k.2
structure GL (l:Line):Prop where
 ab:l.a≠0\/l.b≠0
 ba:BL 26 l.a
 bb:BL 26 l.b
 bc:BL 260 l.c
noncomputable def lU (sh:Int) (zs:List Pt):Prop:=∀u v,Cyc zs u v->∃m,GL m/\exc m u sh=0/\exc m v sh=0
theorem zD {sh:Int} {zs:List Pt} (ip:IsPc sh zs) (on:lU sh zs) (hl:zs.length<=23):BL 1220 sh/\∀z∈zs,BL 1507 z.1/\BL 1507 z.2:=by
 have cor:∀z∈zs,∃d x y:Int,d≠0/\d.natAbs<2 ^ 53/\(BL 287 x/\BL 287 y)/\d*z.1=sh*x/\d*z.2=sh*y:=λz hz=>by
  obtain⟨t,v,h1,h2,nt⟩:=sZ ip.cvx hz
  have D:=ip.cvx.strict t z h1 v (Cyc.mem h2).2 (Ne.symm nt) (Ne.symm (ip.cvx.ne h2))
  obtain⟨m1,g1,e1,e2⟩:=on t z h1
  obtain⟨m2,g2,e3,e4⟩:=on z v h2
  unfold exc at e1 e2 e3 e4
  obtain⟨k1,k2,k3⟩:=KQ (s:=sh) g1.ab g2.ab (show m1.a*t.1+m1.b*t.2=m1.c*sh by omega) (by omega) (show m2.a*z.1+m2.b*z.2=m2.c*sh by omega) (by omega) D
  exact⟨_,_,_,k1,(g1.ba.mul g2.bb).sub (g2.ba.mul g1.bb),⟨(g1.bc.mul g2.bb).sub (g2.bc.mul g1.bb),(g1.ba.mul g2.bc).sub (g2.ba.mul g1.bc)⟩,k2,k3⟩
 obtain⟨P,p0,pb,pd⟩:=oQ (n:=53) (s:=sh) zs λz hz=>by
  obtain⟨d,x,y,h1,h2,_,h3,h4⟩:=cor z hz
  exact⟨d,x,y,h1,h2,h3,h4⟩
 have dv:=KG ip.pos ip.cop pd
 have bs:BL 1220 sh:=by
  have h1:sh.natAbs<=P.natAbs:=Nat.le_of_dvd (by omega) (Int.natAbs_dvd_natAbs.mpr dv)
  have h2:(2 ^ 53) ^ zs.length<=(2 ^ 53) ^ 23:=Nat.pow_le_pow_right (by decide) hl
  rw[<-Nat.pow_mul,<-Nat.pow_mul] at h2
  rw[<-Nat.pow_mul] at pb
  exact Nat.lt_of_le_of_lt (Nat.le_trans h1 (Nat.le_trans pb h2)) (Nat.pow_lt_pow_right (by decide) (by decide))
 refine⟨bs,λz hz=>?_⟩
 obtain⟨d,x,y,h1,_,⟨bx,by'⟩,h3,h4⟩:=cor z hz
 have le:∀w u:Int,d*w=sh*u->w.natAbs<=(sh*u).natAbs:=λw u e=>by
  rw[<-e,Int.natAbs_mul]
  exact Nat.le_mul_of_pos_left _ (by omega)
 exact⟨(bs.mul bx).le (le _ _ h3),(bs.mul by').le (le _ _ h4)⟩
theorem IV {l:Line} (g:GL l) {sh:Int} {z:Pt} (bs:BL 1220 sh) (bz:BL 1507 z.1/\BL 1507 z.2):BL 2000 (exc l z sh) :=
 (((g.ba.mul bz.1).add (g.bb.mul bz.2)).sub (g.bc.mul bs)).mono (by decide)
theorem pA {zs:List Pt} (h:3<=zs.length):∃x y z r,zs=x::y::z::r:=by
 cases zs with
 | nil=>cases h
 | cons x zs =>
  cases zs with
  | nil=>simp at h
  | cons y zs =>
   cases zs with
   | nil=>simp at h
   | cons z r=>exact⟨x,y,z,r,rfl⟩
theorem third {zs:List Pt} (c:Cvx zs) (a b:Pt):∃q∈zs,q≠a/\q≠b:=by
 have h3:=c.len
 have nd:=c.nodup
 obtain⟨x,y,z,r,rfl⟩:=pA h3
 ·simp only[List.nodup_cons,List.mem_cons,not_or] at nd
  obtain⟨⟨xy,xz,_⟩,⟨yz,_⟩,_⟩:=nd
  by_cases hx:x=a\/x=b
  ·by_cases hy:y=a\/y=b
   ·refine⟨z,by simp,λe=>?_,λe=>?_⟩
    ·subst e
     rcases hx with hx | hx
     ·exact xz hx
     ·rcases hy with hy | hy
      ·exact yz hy
      ·exact xy (hx.trans hy.symm)
    ·subst e
     rcases hx with hx | hx
     ·rcases hy with hy | hy
      ·exact xy (hx.trans hy.symm)
      ·exact yz hy
     ·exact xz hx
   ·exact⟨y,by simp,λe=>hy (.inl e),λe=>hy (.inr e)⟩
  ·exact⟨x,by simp,λe=>hx (.inl e),λe=>hx (.inr e)⟩
theorem GJ {s:Int} (a b q:Pt):aZ (up3 a) (up3 b) (s*q.1,s*q.2,s)=s*aG a b q:=by unfold aZ up3 aG;dsimp only;grind
theorem VM {l:Line} {sh sh':Int} {cs zs:List Pt} (gl:GL l) (ip:IsPc sh cs) (on:lU sh cs) (hp:∃z∈cs,0<cxc (kQ l sh) z) (hn:∃z∈cs,cxc (kQ l sh) z<0) (h:PartOf (kQ l sh) sh cs sh' zs):lU sh' zs:=by
 have f:=h.facts ip.cvx hp hn ip.pos
 intro a b hab
 obtain⟨t1,t2,κ,μ,A,hk,hm,e⟩:=f.side a b hab
 obtain⟨M,⟨m,gm,rfl⟩,m1,m2⟩:=UG (R:=λM=>∃m,GL m/\M=kQ m sh) (λu v huv=>by
  obtain⟨m,g,e1,e2⟩:=on u v huv
  exact⟨_,⟨m,g,rfl⟩,by rw[sY];exact e1,by rw[sY];exact e2⟩) ⟨l,gl,rfl⟩ A
 obtain⟨q,hq,n1,n2⟩:=third f.cvx a b
 have ev:∀x:Pt,κ*(sh'*aG a b x)=μ*aZ t1 t2 (sh*x.1,sh*x.2,sh'):=λx=>by
  rw[<-e x.1 x.2 sh',GJ]
 have d2:aZ t1 t2 (sh*q.1,sh*q.2,sh')≠0:=λz=>by
  have:=ev q
  rw[z,Int.mul_zero] at this
  have:=Int.mul_pos hk (Int.mul_pos f.pos (f.cvx.strict a b hab q hq n1 n2))
  omega
 have zero:∀x:Pt,aG a b x=0->exc m x sh'=0:=λx hx=>by
  have d1:aZ t1 t2 (sh*x.1,sh*x.2,sh')=0:=by
   have:=ev x
   rw[hx,Int.mul_zero,Int.mul_zero] at this
   exact (Int.mul_eq_zero.mp this.symm).resolve_left (by omega)
  have:=QX m1 m2 d1 d2
  rw[nQ] at this
  exact (Int.mul_eq_zero.mp this).resolve_left (by have:=ip.pos;omega)
 exact⟨m,gm,zero a (FK a b),zero b (PC a b)⟩
structure Rest (s1:Int) (c1:List Pt) (LS:List Line) (n:Nat) (sh:Int) (zs:List Pt):Prop where
 ip:IsPc sh zs
 on:lU sh zs
 len:zs.length<=n
 closed:∀X Y W,0<=W->(InC sh zs X Y W↔InC s1 c1 X Y W/\∀l∈LS,l.a*X+l.b*Y-l.c*W<=0)
 opened:∀X Y W,0<W->(InO sh zs X Y W↔InO s1 c1 X Y W/\∀l∈LS,l.a*X+l.b*Y-l.c*W<0)
theorem RY {a b:Pt} (h:pt a=pt b):a=b:=by
 simp only[pt,D.tup.injEq,List.cons.injEq,D.int.injEq,and_true] at h
 exact Prod.ext h.1 h.2
theorem NV {s1 s2:Int} {z1 z2:List Pt} (h:pc s1 z1=pc s2 z2):s1=s2/\z1=z2:=by
 simp only[pc,D.tup.injEq,List.cons.injEq,D.int.injEq,and_true] at h
 exact⟨h.1,(List.map_inj_right λa b e=>RY e).mp h.2⟩
theorem NU {L:CLine} {sh sh':Int} {cs zs:List Pt} (h:PartOf L sh cs sh' zs):zs.length<=cs.length+2:=by
 obtain⟨_,_,_,_,_,_,_,_,_,_,_,e⟩:=h.ex
 exact e
theorem Rest.step {s1:Int} {c1:List Pt} {LS:List Line} {n:Nat} {sh:Int} {zs:List Pt} (R:Rest s1 c1 LS n sh zs) {l:Line} (gl:GL l) {d:D} (r:PartR (kQ l sh) sh zs d) :
  (d = .non/\∀X Y W,0<W->InO s1 c1 X Y W->(∀l∈LS,l.a*X+l.b*Y-l.c*W<0)->¬l.a*X+l.b*Y-l.c*W<0)\/∃sh' zs',d=pc sh' zs'/\Rest s1 c1 (LS++[l]) (n+2) sh' zs':=by
 have back:∀sh' zs',lU sh' zs'->zs'.length<=n+2->CutReg l sh zs sh' zs'->Rest s1 c1 (LS++[l]) (n+2) sh' zs':=λsh' zs' on hl C =>
  ⟨C.ip,on,hl,λX Y W hw=>by
   rw[C.closed X Y W hw,R.closed X Y W hw]
   simp only[List.mem_append,List.mem_singleton]
   exact⟨λ⟨⟨a,b⟩,c⟩=>⟨a,λm hm=>hm.elim (b m) λe=>e ▸ c⟩,λ⟨a,b⟩=>⟨⟨a,λm hm=>b m (.inl hm)⟩,b l (.inr rfl)⟩⟩,λX Y W hw=>by
   rw[C.opened X Y W hw,R.opened X Y W hw]
   simp only[List.mem_append,List.mem_singleton]
   exact⟨λ⟨⟨a,b⟩,c⟩=>⟨a,λm hm=>hm.elim (b m) λe=>e ▸ c⟩,λ⟨a,b⟩=>⟨⟨a,λm hm=>b m (.inl hm)⟩,b l (.inr rfl)⟩⟩⟩
 rcases PZ R.ip gl.ab r with ⟨e,h⟩ | ⟨sh',zs',e,C⟩
 ·exact .inl ⟨e,λX Y W hw h1 h2=>h X Y W hw ((R.opened X Y W hw).mpr ⟨h1,h2⟩)⟩
 ·refine .inr ⟨sh',zs',e,?_⟩
  cases r with
  | whole h =>
   obtain⟨rfl,rfl⟩:=NV e
   exact back _ _ R.on (by have:=R.len;omega) C
  | nothing h n'=>cases e
  | @part hp hn s2 z2 h =>
   obtain⟨rfl,rfl⟩:=NV e
   exact back _ _ (VM gl R.ip R.on hp hn h) (by have:=NU h;have:=R.len;omega) C
theorem GX {x y a b:Pt} {r:List Pt}:Nxt (x::y::r) a b↔(a=x/\b=y)\/Nxt (y::r) a b:=by
 constructor
 ·rintro⟨l,r',e⟩
  cases l with
  | nil=>simp only[List.nil_append,List.cons.injEq] at e;exact .inl ⟨e.1.symm,e.2.1.symm⟩
  | cons c l=>simp only[List.cons_append,List.cons.injEq] at e;exact .inr ⟨l,r',e.2⟩
 ·rintro (⟨rfl,rfl⟩ | ⟨l,r',e⟩)
  ·exact⟨[],r,rfl⟩
  ·exact⟨x::l,r',by rw[e];rfl⟩
theorem HY {a b e:Pt}:∀(t:List Pt) (z:Pt),(a,b)∈List.zip (z::t) (t++[e])↔Nxt (z::(t++[e])) a b
 | [],z=>by
  rw[List.nil_append,GX]
  have no:¬Nxt [e] a b:=λ⟨l,r,q⟩=>by
   have:=congrArg List.length q
   simp at this
   omega
  simp[no]
 | y::t,z=>by
  rw[List.cons_append,GX,<-HY t y]
  simp
theorem xV {z:Pt} {t:List Pt} {a b:Pt}:(a,b)∈cyc z t↔Cyc (z::t) a b:=by
 show (a,b)∈List.zip (z::t) (t++[z])↔Nxt (z::t++(z::t).take 1) a b
 exact HY t z
theorem mD (sh X Y W:Int) (a b:Pt):(fG sh (a,b)).a*X+(fG sh (a,b)).b*Y-(fG sh (a,b)).c*W = - sdd sh X Y W a b:=by rw[oX];dsimp only[fG];grind
theorem OS (sh:Int) (a b:Pt):exc (fG sh (a,b)) a sh=0/\exc (fG sh (a,b)) b sh=0:=by unfold exc;dsimp only[fG];constructor <;> grind
structure Pce (sh:Int) (cs:List Pt):Prop where
 ip:IsPc sh cs
 gl:∀a b,Cyc cs a b->GL (fG sh (a,b))
 len:cs.length<=7
theorem Pce.on {sh:Int} {cs:List Pt} (h:Pce sh cs):lU sh cs:=λu v k=>⟨_,h.gl u v k,OS sh u v⟩
theorem Pce.size {sh:Int} {cs:List Pt} (h:Pce sh cs):BL 1220 sh/\∀z∈cs,BL 1507 z.1/\BL 1507 z.2:=zD h.ip h.on (by have:=h.len;omega)
structure Com (s1:Int) (c1:List Pt) (s2:Int) (c2:List Pt) (sh:Int) (zs:List Pt):Prop where
 ip:IsPc sh zs
 size:BL 1220 sh/\∀z∈zs,BL 1507 z.1/\BL 1507 z.2
 len:zs.length<=21
 closed:∀X Y W,0<=W->(InC sh zs X Y W↔InC s1 c1 X Y W/\InC s2 c2 X Y W)
 opened:∀X Y W,0<W->(InO sh zs X Y W↔InO s1 c1 X Y W/\InO s2 c2 X Y W)
noncomputable def uZ (s1:Int) (c1:List Pt) (s2:Int) (c2:List Pt) (d:D):Prop:=(d = .non/\∀X Y W,0<W->InO s1 c1 X Y W->¬InO s2 c2 X Y W)\/∃sh zs,d=pc sh zs/\Com s1 c1 s2 c2 sh zs
noncomputable def cA:FD:=λds Q=>∃(s1:Int) (c1:List Pt) (s2:Int) (c2:List Pt),ds=[pc s1 c1,pc s2 c2]/\Pce s1 c1/\Pce s2 c2/\∀d,uZ s1 c1 s2 c2 d->Q d
theorem EF:∀ds Q,cA ds Q->ds.length=2:=by rintro ds Q ⟨_,_,_,_,rfl,_⟩;rfl
theorem BF {E:DEnds} {s1:Int} {c1:List Pt} (o1 o2:Option S):∀(ws:List Line) (LS:List Line) (n:Nat) (sh:Int) (zs:List Pt) (t:Option S),(∀l∈ws,GL l)->Rest s1 c1 LS n sh zs->n+2*ws.length<=21 ->
  (∀sh zs t,Rest s1 c1 (LS++ws) (n+2*ws.length) sh zs->E.nx [o1,o2,some (.d (pc sh zs)),t]) ->
  ((∀X Y W,0<W->InO s1 c1 X Y W->¬ ∀l∈LS++ws,l.a*X+l.b*Y-l.c*W<0)->E.rt .non) ->
  rD (aW 3) (gL pC) (ws.map ln) E [o1,o2,some (.d (pc sh zs)),t]:=by
 intro ws
 induction ws with
 | nil=>intro LS n sh zs t _ R _ hn _;exact hn _ _ _ (by simpa using R)
 | cons l ws ih =>
  intro LS n sh zs t hg R hl hn hr
  rw[List.length_cons] at hl
  have again:=λsh' zs' (t:Option S) (R':Rest s1 c1 (LS++[l]) (n+2) sh' zs')=>ih (LS++[l]) (n+2) sh' zs' t (λm hm=>hg m (List.mem_cons_of_mem _ hm)) R' (by omega) (λsh zs t k=>hn sh zs t (by rw[List.append_assoc] at k;rw[List.length_cons,show n+2*(ws.length+1)=n+2+2*ws.length by omega];exact k)) (λk=>hr (by rw[List.append_assoc] at k;exact k))
  clear ih
  have g:=hg l List.mem_cons_self
  obtain⟨bs,bz⟩:=zD R.ip R.on (by have:=R.len;omega)
  simp only[List.map_cons,rD]
  generalize rD (aW 3) (gL pC) (ws.map ln) E=NX at *
  unfold gL
  generalize hP:pc sh zs=PD at *
  generalize hL:ln l=LD at *
  walk_at "rd"
  refine⟨l,sh,zs,by rw[hP,hL],⟨R.ip.pos,bs.mono (by decide),⟨g.ba.mono (by decide),g.bb.mono (by decide),g.bc.mono (by decide)⟩⟩,λw hw=>⟨(bz w hw).1.mono (by decide),(bz w hw).2.mono (by decide),IV g bs (bz w hw)⟩,⟨R.ip.cvx,by have:=R.len;omega⟩,λd r=>?_⟩
  rcases R.step g r with ⟨rfl,k⟩ | ⟨sh',zs',rfl,R'⟩
  ·walk_at "rd"
   refine hr λX Y W hw h1 h2=>k X Y W hw h1 (λm hm=>h2 m (List.mem_append_left _ hm)) (h2 l (List.mem_append_right _ List.mem_cons_self))
  ·walk_at "rd"
   exact again _ _ _ R'
theorem BX:∀ds Q,cA ds Q->lZ pC nW { nx:=λ_=>Q .non,rt:=Q } (aS ["one","other","rest","line"] ds):=by
 rintro ds Q ⟨s1,c1,s2,c2,rfl,p1,p2,q⟩
 rw[aX 2 rfl]
 unfold lZ
 obtain⟨b1,bz1⟩:=p1.size
 obtain⟨b2,bz2⟩:=p2.size
 have h3:=p2.ip.cvx.len
 have h7:=p2.len
 obtain⟨z,u,r,ec⟩:∃z u r,c2=z::u::r:=by
  obtain⟨x,y,z,r,e⟩:=pA h3
  exact⟨x,y,z::r,e⟩
 have mem:∀l,l∈(cyc z (u::r)).map (fG s2)↔∃a b,Cyc c2 a b/\l=fG s2 (a,b):=λl=>by
  rw[ec,List.mem_map]
  constructor
  ·rintro⟨⟨a,b⟩,h,rfl⟩;exact⟨a,b,xV.mp h,rfl⟩
  ·rintro⟨a,b,h,rfl⟩;exact⟨(a,b),xV.mpr h,rfl⟩
 have closed:∀X Y W,(∀l∈(cyc z (u::r)).map (fG s2),l.a*X+l.b*Y-l.c*W<=0)↔InC s2 c2 X Y W:=λX Y W=>by
  constructor
  ·intro h a b k
   have:=h _ ((mem _).mpr ⟨a,b,k,rfl⟩)
   rw[mD] at this;omega
  ·intro h l hl
   obtain⟨a,b,k,rfl⟩:=(mem l).mp hl
   rw[mD];have:=h a b k;omega
 have opened:∀X Y W,(∀l∈(cyc z (u::r)).map (fG s2),l.a*X+l.b*Y-l.c*W<0)↔InO s2 c2 X Y W:=λX Y W=>by
  constructor
  ·intro h a b k
   have:=h _ ((mem _).mpr ⟨a,b,k,rfl⟩)
   rw[mD] at this;omega
  ·intro h l hl
   obtain⟨a,b,k,rfl⟩:=(mem l).mp hl
   rw[mD];have:=h a b k;omega
 have ln7:((cyc z (u::r)).map (fG s2)).length<=7:=by
  rw[ec] at h7
  simp only[List.length_map,List.length_zip,List.length_cons,List.length_append,List.length_nil] at h7 ⊢
  omega
 have eqm:((cyc z (u::r)).map λw=>ln (fG s2 w))=((cyc z (u::r)).map (fG s2)).map ln:=by rw[List.map_map];rfl
 generalize hP1:pc s1 c1=P1
 generalize hP2:pc s2 c2=P2'
 walk_at "rd"
 refine⟨s2,z,u,r,by rw[<-hP2,ec],b2.mono (by decide),⟨λw hw=>?_,?_⟩,?_⟩
 ·rw[<-ec] at hw
  exact⟨(bz2 w hw).1.mono (by decide),(bz2 w hw).2.mono (by decide)⟩
 ·rw[ec] at h7;simp only[List.length_cons] at h7;omega
 rw[eqm,<-hP1]
 have R0:Rest s1 c1 [] 7 s1 c1:=⟨p1.ip,p1.on,p1.len,λX Y W _=>by simp,λX Y W _=>by simp⟩
 refine BF _ _ _ [] 7 s1 c1 _ (λl hl=>?_) R0 (by omega) (λsh zs t R=>?_) (λk=>?_)
 ·obtain⟨a,b,k,rfl⟩:=(mem l).mp hl
  exact p2.gl a b k
 ·generalize hP:pc sh zs=PD
  walk_at "rd"
  refine q _ (.inr ⟨sh,zs,hP.symm,R.ip,zD R.ip R.on (by have:=R.len;omega),by have:=R.len;omega,λX Y W hw=>?_,λX Y W hw=>?_⟩)
  ·rw[R.closed X Y W hw,List.nil_append,closed]
  ·rw[R.opened X Y W hw,List.nil_append,opened]
 ·refine q _ (.inl ⟨rfl,λX Y W hw h1 h2=>k X Y W hw h1 ?_⟩)
  rw[List.nil_append]
  exact (opened X Y W).mpr h2
theorem MZ {sh:Int} {zs:List Pt} (ip:IsPc sh zs):∃X Y W,0<W/\InO sh zs X Y W:=by
 have c:=ip.cvx
 have h3:=c.len
 have h0:=ip.pos
 obtain⟨x,y,z,r,rfl⟩:=pA h3
 refine⟨x.1+y.1+z.1,x.2+y.2+z.2,3*sh,by omega,λa b k=>?_⟩
 have e:sdd sh (x.1+y.1+z.1) (x.2+y.2+z.2) (3*sh) a b=sh*(aG a b x+aG a b y+aG a b z):=by unfold sdd aZ up3 aG;dsimp only;grind
 rw[e]
 refine Int.mul_pos h0 ?_
 have hx:=c.side k (q:=x) (by simp)
 have hy:=c.side k (q:=y) (by simp)
 have hz:=c.side k (q:=z) (by simp)
 have nd:=c.nodup
 simp only[List.nodup_cons,List.mem_cons,not_or] at nd
 obtain⟨⟨xy,xz,_⟩,⟨yz,_⟩,_⟩:=nd
 have big:∀q∈x::y::z::r,q=a\/q=b\/0<aG a b q:=λq hq=>by
  by_cases h1:q=a
  ·exact .inl h1
  ·by_cases h2:q=b
   ·exact .inr (.inl h2)
   ·exact .inr (.inr (c.strict a b k q hq h1 h2))
 rcases big x (by simp) with e1 | e1 | e1
 ·rcases big y (by simp) with e2 | e2 | e2
  ·exact (xy (e1.trans e2.symm)).elim
  ·rcases big z (by simp) with e3 | e3 | e3
   ·exact (xz (e1.trans e3.symm)).elim
   ·exact (yz (e2.trans e3.symm)).elim
   ·omega
  ·omega
 ·rcases big y (by simp) with e2 | e2 | e2
  ·rcases big z (by simp) with e3 | e3 | e3
   ·exact (yz (e2.trans e3.symm)).elim
   ·exact (xz (e1.trans e3.symm)).elim
   ·omega
  ·exact (xy (e1.trans e2.symm)).elim
  ·omega
 ·omega
theorem gN {sh:Int} {zs:List Pt} (ip:IsPc sh zs) {q:Pt} (hq:q∈zs):InC sh zs q.1 q.2 sh:=λa b k=>by
 show 0<=aZ (up3 a) (up3 b) (sh*q.1,sh*q.2,sh)
 rw[GJ]
 exact Int.mul_nonneg (Int.le_of_lt ip.pos) (ip.cvx.side k hq)
theorem PX {s1 s2:Int} {c1 c2:List Pt} {d e:D} (h:uZ s1 c1 s2 c2 d) (k:uZ s2 c2 s1 c1 e):e=d:=by
 rcases h with ⟨rfl,n⟩ | ⟨sh,zs,rfl,C⟩
 ·rcases k with ⟨rfl,_⟩ | ⟨sh',zs',rfl,C'⟩
  ·rfl
  ·obtain⟨X,Y,W,hw,i⟩:=MZ C'.ip
   obtain⟨i2,i1⟩:=(C'.opened X Y W hw).mp i
   exact (n X Y W hw i1 i2).elim
 ·rcases k with ⟨rfl,n⟩ | ⟨sh',zs',rfl,C'⟩
  ·obtain⟨X,Y,W,hw,i⟩:=MZ C.ip
   obtain⟨i1,i2⟩:=(C.opened X Y W hw).mp i
   exact (n X Y W hw i2 i1).elim
  ·obtain⟨e1,e2⟩:=wV C'.ip C.ip (λq hq=>(C'.closed q.1 q.2 sh (Int.le_of_lt C.ip.pos)).mpr ((C.closed q.1 q.2 sh (Int.le_of_lt C.ip.pos)).mp (gN C.ip hq)).symm) (λq hq=>(C.closed q.1 q.2 sh' (Int.le_of_lt C'.ip.pos)).mpr ((C'.closed q.1 q.2 sh' (Int.le_of_lt C'.ip.pos)).mp (gN C'.ip hq)).symm)
   rw[e1,e2]
theorem LQ {s:Int} {c:List Pt} (ip:IsPc s c) {d:D} (h:uZ s c s c d):d=pc s c:=by
 rcases h with ⟨rfl,n⟩ | ⟨sh,zs,rfl,C⟩
 ·obtain⟨X,Y,W,hw,i⟩:=MZ ip
  exact (n X Y W hw i i).elim
 ·obtain⟨e1,e2⟩:=wV C.ip ip (λq hq=>(C.closed q.1 q.2 s (Int.le_of_lt ip.pos)).mpr ⟨gN ip hq,gN ip hq⟩) (λq hq=>((C.closed q.1 q.2 sh (Int.le_of_lt C.ip.pos)).mp (gN C.ip hq)).1)
  rw[e1,e2]
structure RingOk (n:Nat) (cs:List Pt):Prop where
 cvx:Cvx cs
 small:kF n cs
 len:3<=cs.length/\cs.length<=7
 near:∀z∈cs,∀w∈cs,BL 18 (z.1-w.1)/\BL 18 (z.2-w.2)
theorem yO {a b:Int} {A B:Nat} (h1:a.natAbs<=A) (h2:b.natAbs<=B):(a*b).natAbs<=A*B:=by rw[Int.natAbs_mul];exact Nat.mul_le_mul h1 h2
theorem OW {a b:Int} {A B n:Nat} (h1:a.natAbs<=A) (h2:b.natAbs<=B) (h:A+B<2 ^ n):BL n (a+b):=Nat.lt_of_le_of_lt (Nat.le_trans (Int.natAbs_add_le _ _) (Nat.add_le_add h1 h2)) h
theorem HL {lows highs:List Int} {top p q r s ox oy:Int} (R:RingForm lows highs top p q r s ox oy) (hl:lows.length<=4):RingOk 210 (kD lows highs top p q r s ox oy):=by
 have sqx:∀x∈lows++highs,x.natAbs<=70/\0<=x*x/\x*x<=5000:=λx hx=>by
  have h1:=R.topL x hx
  have h2:=R.topH
  have h3:0<=x*x:=OT x
  refine⟨?_,h3,by omega⟩
  apply Nat.le_of_not_lt
  intro h
  have h4:71*71<=x.natAbs*x.natAbs:=Nat.mul_le_mul h h
  rw[<-Int.natAbs_mul] at h4
  omega
 have inb:∀b∈dG lows highs top,b.1.natAbs<=70/\0<=b.2/\b.2<=10000:=λb hb=>by
  unfold dG at hb
  rcases List.mem_append.mp hb with h | h
  ·obtain⟨x,hx,rfl⟩:=List.mem_map.mp h
   obtain⟨k1,k2,k3⟩:=sqx x (List.mem_append_left _ hx)
   exact⟨k1,k2,by show x*x<=10000;omega⟩
  ·obtain⟨x,hx,rfl⟩:=List.mem_map.mp h
   have hx':x∈lows++highs:=List.mem_append_right _ (List.mem_reverse.mp hx)
   obtain⟨k1,k2,k3⟩:=sqx x hx'
   have:=R.topL x hx'
   have:=R.topH
   exact⟨k1,by show 0<=top-x*x;omega,by show top-x*x<=10000;omega⟩
 refine⟨FF R,R.small,⟨R.len.1,?_⟩,λz hz w hw=>?_⟩
 ·have:=R.highsN.2
  unfold kD dG
  simp only[List.length_map,List.length_append,List.length_reverse]
  omega
 ·obtain⟨b,hb,rfl⟩:=List.mem_map.mp hz
  obtain⟨c,hc,rfl⟩:=List.mem_map.mp hw
  obtain⟨b1,b2,b3⟩:=inb b hb
  obtain⟨c1,c2,c3⟩:=inb c hc
  have dx:(b.1-c.1).natAbs<=140:=Nat.le_trans (Int.natAbs_sub_le _ _) (Nat.add_le_add b1 c1)
  have dy:(b.2-c.2).natAbs<=10000:=by omega
  have e1:(aff p q r s ox oy b).1-(aff p q r s ox oy c).1=p*(b.1-c.1)+q*(b.2-c.2):=by dsimp only[aff];grind
  have e2:(aff p q r s ox oy b).2-(aff p q r s ox oy c).2=r*(b.1-c.1)+s*(b.2-c.2):=by dsimp only[aff];grind
  have ab:∀{x:Int} {n:Nat},-(n:Int)<=x/\x<=n->x.natAbs<=n:=λh=>by omega
  rw[e1,e2]
  exact⟨OW (yO (ab (n:=3) ⟨Int.le_trans (by decide) R.pB.1,R.pB.2⟩) dx) (yO (ab (n:=3) R.qB) dy) (by decide),OW (yO (ab (n:=3) R.rB) dx) (yO (ab (n:=12) ⟨Int.le_trans (by decide) R.sB.1,R.sB.2⟩) dy) (by decide)⟩
theorem QF {share:Int} {cs:List Pt} {m sh:Int} {zs:List Pt} {j:Nat} (hd:DueOf share cs m sh zs j) (h0:0<share) (h9:share<=9) (R:RingOk 220 cs):Pce sh (turned j zs):=by
 have ip:=hd.isPc h0 R.cvx
 have sm:=hd.small R.small
 have mem:∀z∈turned j zs,(m*z.1,m*z.2)∈cs:=λz hz=>by
  rw[hd.cs_eq]
  exact List.mem_map_of_mem (f:=λz:Pt=>(m*z.1,m*z.2)) (uW hz)
 have bsh:BL 4 sh:=by
  have e:=hd.sh_eq
  have:=ip.pos
  have:=hd.mpos
  have h1:sh<=share:=by
   rw[e]
   have:=Int.mul_le_mul_of_nonneg_right (show 1<=m by omega) (show 0<=sh by omega)
   omega
  unfold BL
  omega
 refine⟨ip,λa b k=>?_,?_⟩
 ·obtain⟨ha,hb⟩:=Cyc.mem k
  obtain⟨n1,n2⟩:=R.near _ (mem b hb) _ (mem a ha)
  have d1:BL 18 (b.1-a.1):=by
   refine n1.le ?_
   show (b.1-a.1).natAbs<=(m*b.1-m*a.1).natAbs
   rw[<-Int.mul_sub,Int.natAbs_mul]
   exact Nat.le_mul_of_pos_left _ (by have:=hd.mpos;omega)
  have d2:BL 18 (b.2-a.2):=by
   refine n2.le ?_
   show (b.2-a.2).natAbs<=(m*b.2-m*a.2).natAbs
   rw[<-Int.mul_sub,Int.natAbs_mul]
   exact Nat.le_mul_of_pos_left _ (by have:=hd.mpos;omega)
  obtain⟨s1,s2⟩:=sm a (uW ha)
  have ne:=ip.cvx.ne k
  have hp:=ip.pos
  refine⟨?_,(bsh.mul d2).mono (by decide),(bsh.neg.mul d1).mono (by decide),((d2.mul s1).sub (d1.mul s2)).mono (by decide)⟩
  by_cases e1:b.2-a.2=0
  ·refine .inr (Int.mul_ne_zero (by omega) λe=>ne ?_)
   have e2:b.1-a.1=0:=e
   exact Prod.ext (by omega) (by omega)
  ·exact .inl (Int.mul_ne_zero (by omega) e1)
 ·rw[FN (Nat.le_of_lt hd.j_lt)]
  have:=hd.len
  have:=R.len
  omega
theorem ZO {a b c:Pt} (h:0<aG a b c):Cvx [a,b,c]:=by
 have e1:aG b c a=aG a b c:=by unfold aG;grind
 have e2:aG c a b=aG a b c:=by unfold aG;grind
 have ab:a≠b:=λe=>by subst e;unfold aG at h;grind
 have ac:a≠c:=λe=>by subst e;unfold aG at h;grind
 have bc:b≠c:=λe=>by subst e;unfold aG at h;grind
 refine⟨by simp,by simp[ab,ac,bc],λx y k q hq n1 n2=>?_⟩
 have m:=xV.mpr k
 simp only[cyc,List.cons_append,List.nil_append,List.zip_cons_cons,List.zip_nil_right,List.mem_cons,Prod.mk.injEq,List.not_mem_nil,or_false] at m
 simp only[List.mem_cons,List.not_mem_nil,or_false] at hq
 rcases m with ⟨rfl,rfl⟩ | ⟨rfl,rfl⟩ | ⟨rfl,rfl⟩
 ·rcases hq with rfl | rfl | rfl
  ·exact (n1 rfl).elim
  ·exact (n2 rfl).elim
  ·exact h
 ·rcases hq with rfl | rfl | rfl
  ·rw[e1];exact h
  ·exact (n1 rfl).elim
  ·exact (n2 rfl).elim
 ·rcases hq with rfl | rfl | rfl
  ·exact (n2 rfl).elim
  ·rw[e2];exact h
  ·exact (n1 rfl).elim
theorem ID {cs:List Pt} (R:RingOk 210 cs) {u p v:Pt} (hu:u∈cs) (hp:p∈cs) (hv:v∈cs) (ht:0<aG u p v):RingOk 220 [p,u,(p.1+u.1-v.1,p.2+u.2-v.2)]:=by
 have n0:=R.near
 obtain⟨a1,a2⟩:=R.small p hp
 obtain⟨b1,b2⟩:=R.small u hu
 obtain⟨c1,c2⟩:=R.small v hv
 have z18:BL 18 (0:Int):=by unfold BL;decide
 have e:∀x y:Int,x-x=0:=λx _=>by omega
 refine⟨ZO ?_,λw hw=>?_,⟨by simp,by simp⟩,λz hz w hw=>?_⟩
 ·have:aG p u (p.1+u.1-v.1,p.2+u.2-v.2)=aG u p v:=by unfold aG;dsimp only;grind
  rw[this];exact ht
 ·simp only[List.mem_cons,List.not_mem_nil,or_false] at hw
  rcases hw with rfl | rfl | rfl
  ·exact⟨a1.mono (by decide),a2.mono (by decide)⟩
  ·exact⟨b1.mono (by decide),b2.mono (by decide)⟩
  ·exact⟨((a1.add b1).sub c1).mono (by decide),((a2.add b2).sub c2).mono (by decide)⟩
 ·have pu:=n0 p hp u hu
  have up:=n0 u hu p hp
  have uv:=n0 u hu v hv
  have vu:=n0 v hv u hu
  have pv:=n0 p hp v hv
  have vp:=n0 v hv p hp
  simp only[List.mem_cons,List.not_mem_nil,or_false] at hz hw
  rcases hz with rfl | rfl | rfl <;> rcases hw with rfl | rfl | rfl
  ·rw[Int.sub_self,Int.sub_self];exact⟨z18,z18⟩
  ·exact pu
  ·rw[show z.1-(z.1+u.1-v.1)=v.1-u.1 by omega,show z.2-(z.2+u.2-v.2)=v.2-u.2 by omega];exact vu
  ·exact up
  ·rw[Int.sub_self,Int.sub_self];exact⟨z18,z18⟩
  ·rw[show z.1-(p.1+z.1-v.1)=v.1-p.1 by omega,show z.2-(p.2+z.2-v.2)=v.2-p.2 by omega];exact vp
  ·show BL 18 (w.1+u.1-v.1-w.1)/\BL 18 (w.2+u.2-v.2-w.2)
   rw[show w.1+u.1-v.1-w.1=u.1-v.1 by omega,show w.2+u.2-v.2-w.2=u.2-v.2 by omega];exact uv
  ·show BL 18 (p.1+w.1-v.1-w.1)/\BL 18 (p.2+w.2-v.2-w.2)
   rw[show p.1+w.1-v.1-w.1=p.1-v.1 by omega,show p.2+w.2-v.2-w.2=p.2-v.2 by omega];exact pv
  ·rw[Int.sub_self,Int.sub_self];exact⟨z18,z18⟩
theorem OR {cs:List Pt} (R:RingOk 210 cs) {ox oy:Int} (h:BL 214 ox/\BL 214 oy):RingOk 220 (cs.map λz=>(z.1+ox,z.2+oy)):=by
 refine⟨R.cvx.map (k:=1) (by decide) (λa b c=>by unfold aG;dsimp only;grind) (λa b e=>?_),λw hw=>?_,⟨by simpa using R.len.1,by simpa using R.len.2⟩,λz hz w hw=>?_⟩
 ·simp only[Prod.mk.injEq] at e
  exact Prod.ext (by omega) (by omega)
 ·obtain⟨z,hz,rfl⟩:=List.mem_map.mp hw
  obtain⟨a1,a2⟩:=R.small z hz
  exact⟨(a1.add h.1).mono (by decide),(a2.add h.2).mono (by decide)⟩
 ·obtain⟨z',hz',rfl⟩:=List.mem_map.mp hz
  obtain⟨w',hw',rfl⟩:=List.mem_map.mp hw
  show BL 18 (z'.1+ox-(w'.1+ox))/\BL 18 (z'.2+oy-(w'.2+oy))
  rw[show z'.1+ox-(w'.1+ox)=z'.1-w'.1 by omega,show z'.2+oy-(w'.2+oy)=z'.2-w'.2 by omega]
  exact R.near z' hz' w' hw'
theorem RingOk.up {cs:List Pt} (R:RingOk 210 cs):RingOk 220 cs:=⟨R.cvx,λw hw=>⟨(R.small w hw).1.mono (by decide),(R.small w hw).2.mono (by decide)⟩,R.len,R.near⟩
theorem SQ {CD a:D} {k:Int} {p u:Pt} {Q:D->Prop} (h:dU CD λl=>cH (.int (k+1)) l λi=>dIx CD i λc=>dIx c (.int 0) λw=>cI (.int (p.1+u.1)) w Q) :
  r2 cI (r2 cF (r2 dIx (aA 3) (rC (.int 0))) (r2 dIx (aA 4) (rC (.int 0)))) (r2 dIx (r2 dIx (aA 0) (r2 cH (r2 cF (aA 2) (rC (.int 1))) (r1 dU (aA 0)))) (rC (.int 0))) [some (.d CD),some (.d a),some (.d (.int k)),some (.d (pt p)),some (.d (pt u)),none] Q:=by
 show dIx (pt p) (.int 0) λx=>dIx (pt u) (.int 0) λy=>cF x y λz=>dU CD λl=>cH (.int (k+1)) l λi=>dIx CD i λc=>dIx c (.int 0) λw=>cI z w Q
 rw[lA,lA]
 exact h
theorem SR {CD a:D} {k:Int} {p u:Pt} {Q:D->Prop} (h:dU CD λl=>cH (.int (k+1)) l λi=>dIx CD i λc=>dIx c (.int 1) λw=>cI (.int (p.2+u.2)) w Q) :
  r2 cI (r2 cF (r2 dIx (aA 3) (rC (.int 1))) (r2 dIx (aA 4) (rC (.int 1)))) (r2 dIx (r2 dIx (aA 0) (r2 cH (r2 cF (aA 2) (rC (.int 1))) (r1 dU (aA 0)))) (rC (.int 1))) [some (.d CD),some (.d a),some (.d (.int k)),some (.d (pt p)),some (.d (pt u)),none] Q:=by
 show dIx (pt p) (.int 1) λx=>dIx (pt u) (.int 1) λy=>cF x y λz=>dU CD λl=>cH (.int (k+1)) l λi=>dIx CD i λc=>dIx c (.int 1) λw=>cI z w Q
 rw[gU,gU]
 exact h
noncomputable def nS:FD:=λds Q=>∃(cs:List Pt) (n:Int),ds=[pts cs,.int n]/\Cvx cs/\∀u p v,u∈cs->p∈cs->v∈cs->0<aG u p v->Q (pts [p,u,(p.1+u.1-v.1,p.2+u.2-v.2)])
theorem EE:∀ds Q,nS ds Q->ds.length=2:=by rintro ds Q ⟨_,_,rfl,_⟩;rfl
theorem rO:∀ds Q,nS ds Q->eX { nx:=λ_=>Q .non,rt:=Q } (aS ["_law_ring_here","_law_number","_law_at","_law_one","_law_other","_law_third"] ds):=by
 rintro ds Q ⟨cs,n,rfl,c,q⟩
 rw[aX 4 rfl]
 unfold eX
 have h3:=c.len
 have pos:0<cs.length:=by omega
 simp only[cP,OH,List.map_cons,List.map_nil,List.cons_append,List.nil_append]
 have ix0:∀{k:Nat} {P:D->Prop},k<cs.length->P (pt (rg cs k))->dIx (pts cs) (.int (k:Int)) P:=λ{k P} hk h=>cU (nZ (by rw[List.getElem?_map,qV hk];rfl)) h
 have ix1:∀{k:Nat} {P:D->Prop},k<cs.length->P (pt (rg cs (k+(cs.length-1))))->dIx (pts cs) (.int ((k:Int)-1)) P:=λ{k P} hk h=>by
  have:=sA (j:=1) hk (by omega)
  rw[show (0+(k:Int)-((1:Nat):Int))=(k:Int)-1 by omega] at this
  exact cU this h
 have ix2:∀{k:Nat} {P:D->Prop},P (pt (rg cs (k+1)))->dIx (pts cs) (.int (((k:Int)+1).fmod (cs.length:Int))) P:=λ{k P} h=>by
  rw[show ((k:Int)+1)=((k+1:Nat):Int) by omega,pR]
  exact cU (nZ (by rw[List.getElem?_map,nN pos];rfl)) h
 have ln:∀{P:D->Prop},P (.int (cs.length:Int))->dU (pts cs) P:=λ{P} h=>by
  have:dU (pts cs) P=P (.int ((cs.map pt).length:Int)):=rfl
  rw[this,List.length_map];exact h
 generalize hC:pts cs=CD at *
 refine aN (λρ=>∃k:Nat,k<cs.length/\ρ=[some (.d CD),some (.d (.int n)),some (.d (.int (k:Int))),none,none,none]) (λK hK=>?_) ?_
 ·simp only[bD,r2,r1,aA,List.getElem?_cons_zero,List.getElem?_cons_succ,S.val]
  refine ln ⟨⟨by omega⟩,?_⟩
  obtain⟨a0,a1⟩:=bA (a:=n) (b:=(cs.length:Int)) (by omega)
  refine hK _ ⟨(n.fmod (cs.length:Int)).toNat,by omega,?_⟩
  rw[Int.toNat_of_nonneg a0];rfl
 rintro ρ ⟨k,hk,rfl⟩
 refine aN (λρ=>ρ=[some (.d CD),some (.d (.int n)),some (.d (.int (k:Int))),some (.d (pt (rg cs k))),none,none]) (λK hK=>?_) ?_
 ·simp only[bD,r2,r1,aA,List.getElem?_cons_zero,List.getElem?_cons_succ,S.val]
  exact ix0 hk (hK _ rfl)
 rintro ρ rfl
 refine aN (λρ=>ρ=[some (.d CD),some (.d (.int n)),some (.d (.int (k:Int))),some (.d (pt (rg cs k))),some (.d (pt (rg cs (k+(cs.length-1))))),none]) (λK hK=>?_) ?_
 ·simp only[bD,r2,r1,aA,rC,cI,List.getElem?_cons_zero,List.getElem?_cons_succ,S.val]
  exact ix1 hk (hK _ rfl)
 rintro ρ rfl
 have bend:=c.bend_rg (k+(cs.length-1))
 rw[show k+(cs.length-1)+1=k+cs.length by omega,show k+(cs.length-1)+2=(k+1)+cs.length by omega,lN,lN] at bend
 have fin:=q _ _ _ (hU pos _) (hU pos _) (hU pos _) bend
 refine aN (λρ=>ρ=[some (.d CD),some (.d (.int n)),some (.d (.int (k:Int))),some (.d (pt (rg cs k))),some (.d (pt (rg cs (k+(cs.length-1))))),some (.d (pt ((rg cs k).1+(rg cs (k+(cs.length-1))).1-(rg cs (k+1)).1,(rg cs k).2+(rg cs (k+(cs.length-1))).2-(rg cs (k+1)).2)))]) (λK hK=>?_) ?_
 ·refine SQ (ln ⟨⟨by omega⟩,ix2 ?_⟩)
  rw[lA]
  refine SR (ln ⟨⟨by omega⟩,ix2 ?_⟩)
  rw[gU]
  exact⟨sz2,hK _ rfl⟩
 rintro ρ rfl
 walk_at "rd"
 exact fin
noncomputable def kU:FD:=λds Q=>∃(a0 a1 a2 a3 a4 a5 a6 a7 a8 a9 a10 a11 a12 a13 a14 a15 a16:Int) (cs:List Pt) (share:Int),
 ds=[.lst [.int a0,.int a1,.int a2,.int a3,.int a4,.int a5,.int a6,.int a7,.int a8,.int a9,.int a10,.int a11,.int a12,.int a13,.int a14,.int a15,.int a16],pts cs,.int share]/\RingOk 210 cs/\(0<share/\share<=4)/\∀sh zs,Pce sh zs->Q (pc sh zs)
theorem EL:∀ds Q,kU ds Q->ds.length=3:=by rintro ds Q ⟨_,_,_,_,_,_,_,_,_,_,_,_,_,_,_,_,_,_,_,rfl,_⟩;rfl
theorem sH {share:Int} {cs:List Pt} (R:RingOk 220 cs) (h0:0<share) (h9:share<=9) {Q:D->Prop} (q:∀sh zs,Pce sh zs->Q (pc sh zs)):wA [.int share,pts cs] Q :=
 ⟨share,cs,rfl,⟨h0,(show BL 10 share from by unfold BL;omega).mono (by decide)⟩,⟨by intro e;have:=R.len.1;rw[e] at this;simp at this,by have:=R.len.2;omega⟩,λm sh zs j hd=>q _ _ (QF hd h0 h9 R)⟩
theorem rR:∀ds Q,kU ds Q->fB nS wA lT { nx:=λ_=>Q .non,rt:=Q } (aS ["_law_head","_law_ring_here","_law_share_here","_law_far","_law_more","_law_own","_law_off"] ds):=by
 rintro ds Q ⟨a0,a1,a2,a3,a4,a5,a6,a7,a8,a9,a10,a11,a12,a13,a14,a15,a16,cs,share,rfl,R,⟨s0,s4⟩,q⟩
 rw[aX 4 rfl]
 unfold fB
 simp only[cP,OH,List.map_cons,List.map_nil,List.cons_append,List.nil_append]
 generalize hH:D.lst [.int a0,.int a1,.int a2,.int a3,.int a4,.int a5,.int a6,.int a7,.int a8,.int a9,.int a10,.int a11,.int a12,.int a13,.int a14,.int a15,.int a16]=HD
 have ix15:∀{P:D->Prop},P (.int a15)->dIx HD (.int 15) P:=λ{P} h=>by rw[<-hH];exact cU rfl h
 have ix16:∀{P:D->Prop},P (.int a16)->dIx HD (.int 16) P:=λ{P} h=>by rw[<-hH];exact cU rfl h
 have cut:∀{P:D->Prop} {t:En},P (.lst [.int a8,.int a9,.int a10,.int a11,.int a12,.int a13,.int a14])->(uI (aA 0) (gZ (rC (.int 8))) (gZ (rC (.int 15)))) (some (.d HD)::t) P:=λ{P t} h=>by rw[<-hH];exact h
 have bs:BL 9000 share:=(show BL 10 share from by unfold BL;omega).mono (by decide)
 refine aN (λρ=>ρ=[some (.d HD),some (.d (pts cs)),some (.d (.int share)),none,none,none,none]) (λK hK=>?_) ?_
 ·simp only[eK,bF,r2,r1,aA,aR,rC,cC,aY,aD,aK,cS,cH,jE,List.getElem?_cons_zero,List.getElem?_cons_succ,S.val]
  refine ix15 ⟨gW,?_⟩
  simp only[Bool.false_eq_true,if_false,decide_eq_true_eq]
  split
  ·exact sH R.up s0 (by omega) q
  ·exact hK _ rfl
 rintro ρ rfl
 refine aN (λρ=>ρ=[some (.d HD),some (.d (pts cs)),some (.d (.int share)),none,none,none,none]) (λK hK=>?_) ?_
 ·simp only[eK,bF,r2,r1,aA,aR,rC,cC,aY,aD,aK,cS,cH,jE,List.getElem?_cons_zero,List.getElem?_cons_succ,S.val]
  refine ix15 ⟨gW,?_⟩
  simp only[Bool.false_eq_true,if_false,decide_eq_true_eq]
  split
  ·refine ix15 ?_
   walk_at "rd"
   exact⟨(BL.const (n:=9000) (by decide)).divOk (by decide),cs,_,rfl,R.cvx,λu p v hu hp hv ht=>sH (ID R hu hp hv ht) s0 (by omega) q⟩
  ·exact hK _ rfl
 rintro ρ rfl
 refine aN (λρ=>∃f:Int,(0<=f/\BL 200 f)/\ρ=[some (.d HD),some (.d (pts cs)),some (.d (.int share)),some (.d (.int f)),none,none,none]) (λK hK=>?_) ?_
 ·simp only[bD,r2,r1,aA,aR,rC,nK,aD,aK,List.getElem?_cons_zero,List.getElem?_cons_succ,S.val]
  refine⟨sz4,ix15 ?_⟩
  walk_at "rd"
  refine⟨(BL.const (n:=9000) (by decide)).divOk (by decide),gW,?_⟩
  obtain⟨b0,b1⟩:=bA (a:=a15.fdiv 6) (b:=4) (by decide)
  refine sC b0 (by simp only[List.length_cons,List.length_nil];omega) λd hd=>?_
  simp only[List.mem_cons,List.not_mem_nil,or_false] at hd
  rcases hd with rfl | rfl | rfl | rfl <;> exact hK _ ⟨_,⟨by decide,BL.const (by decide)⟩,rfl⟩
 rintro ρ ⟨f,⟨f0,f1⟩,rfl⟩
 refine aN (λρ=>∃ms:List Pt,RingOk 210 ms/\ρ=[some (.d HD),some (.d (pts cs)),some (.d (.int share)),some (.d (.int f)),some (.d (pts ms)),none,none]) (λK hK=>?_) ?_
 ·simp only[bD,aY,aD,aK]
  refine cut ?_
  simp only[aR,List.getElem?_cons_zero,List.getElem?_cons_succ]
  exact⟨_,_,_,_,_,_,_,[],f,rfl,⟨f0,f1⟩,λlows highs top p q r s ox oy RF hl=>hK _ ⟨_,HL RF hl,rfl⟩⟩
 rintro ρ ⟨ms,RM,rfl⟩
 refine aN (λρ=>∃o:Int,(1<=o/\o<=9)/\ρ=[some (.d HD),some (.d (pts cs)),some (.d (.int share)),some (.d (.int f)),some (.d (pts ms)),some (.d (.int o)),none]) (λK hK=>?_) ?_
 ·simp only[bD,r2,r1,aA,aR,rC,List.getElem?_cons_zero,List.getElem?_cons_succ,S.val]
  refine ix16 ?_
  walk_at "rd"
  obtain⟨b0,b1⟩:=bA (a:=a16.fdiv 4) (b:=9) (by decide)
  exact⟨(BL.const (n:=9000) (by decide)).divOk (by decide),gW,hK _ ⟨_,by omega,rfl⟩⟩
 rintro ρ ⟨o,⟨o1,o9⟩,rfl⟩
 have bo:BL 4 o:=by unfold BL;omega
 refine aN (λρ=>∃ox oy:Int,(BL 214 ox/\BL 214 oy)/\ρ=[some (.d HD),some (.d (pts cs)),some (.d (.int share)),some (.d (.int f)),some (.d (pts ms)),some (.d (.int o)),some (.d (pt (ox,oy)))]) (λK hK=>?_) ?_
 ·have h3:=R.len.1
  obtain⟨z,r,ec⟩:∃z r,cs=z::r:=by
   obtain⟨x,y,z,r,e⟩:=pA h3
   exact⟨x,y::z::r,e⟩
  obtain⟨z1,z2⟩:=R.small z (by rw[ec];simp)
  have zx:∀{P:D->Prop},P (pt z)->dIx (pts cs) (.int 0) P:=λ{P} h=>by rw[ec];exact XJ (i:=0) (x:=pt z) rfl h
  simp only[bD,iC,aD,aK,r2,r1,aA,rC,List.getElem?_cons_zero,List.getElem?_cons_succ,S.val]
  refine zx ?_
  simp only[lA,bV,cR]
  refine⟨z1.mulOk bo,bs.divOk (by omega),zx ?_⟩
  simp only[gU,bV,cR]
  refine⟨z2.mulOk bo,bs.divOk (by omega),sz2,?_⟩
  exact hK _ ⟨_,_,⟨((z1.mul bo).fdiv).mono (by decide),((z2.mul bo).fdiv).mono (by decide)⟩,rfl⟩
 rintro ρ ⟨ox,oy,bO,rfl⟩
 walk_at "rd"
 refine⟨dF (by have:=RM.len.2;rw[List.length_map];omega),?_⟩
 refine cY (λρ=>∃a b,ρ=[a,b,some (.d (pt (ox,oy)))]) pt (λz=>pt (z.1+ox,z.2+oy)) ms ?_ ⟨_,_,rfl⟩ ?_
 ·rintro z hz ρ ⟨a,b,rfl⟩ K' hK'
  walk_at "rd"
  exact hK' _ ⟨_,_,rfl⟩
 ·have:=sH (OR RM bO) (show 0<o by omega) o9 q
  unfold pts at this
  rw[List.map_map] at this
  exact this
noncomputable def kT:FD:=λds Q=>∃(s1:Int) (c1:List Pt) (s2:Int) (c2:List Pt) (d:D),ds=[d,pc s1 c1,pc s2 c2]/\Pce s1 c1/\Pce s2 c2/\uZ s1 c1 s2 c2 d/\Q (.bl true)
theorem EK:∀ds Q,kT ds Q->ds.length=3:=by rintro ds Q ⟨_,_,_,_,_,rfl,_⟩;rfl
theorem Pce.sm {sh:Int} {cs:List Pt} (h:Pce sh cs):BL 9000 sh/\kF 9000 cs/\1<=cs.length/\cs.length<=100 :=
 ⟨h.size.1.mono (by decide),λz hz=>⟨(h.size.2 z hz).1.mono (by decide),(h.size.2 z hz).2.mono (by decide)⟩,by have:=h.ip.cvx.len;omega,by have:=h.len;omega⟩
theorem Com.sm {s1 s2 sh:Int} {c1 c2 zs:List Pt} (h:Com s1 c1 s2 c2 sh zs):BL 9000 sh/\kF 9000 zs/\1<=zs.length/\zs.length<=100 :=
 ⟨h.size.1.mono (by decide),λz hz=>⟨(h.size.2 z hz).1.mono (by decide),(h.size.2 z hz).2.mono (by decide)⟩,by have:=h.ip.cvx.len;omega,by have:=h.len;omega⟩
theorem YW {M:Int} (h:0<=M):¬sgI M<0:=by unfold sgI;split <;> (try split) <;> omega
theorem qF:∀ds Q,kT ds Q->eE zH dY { nx:=λ_=>Q .non,rt:=Q } (aS ["_law_found","_law_one","_law_other","_law_x","_law_y"] ds):=by
 rintro ds Q ⟨s1,c1,s2,c2,d,rfl,p1,p2,C,q⟩
 rw[aX 2 rfl]
 unfold eE
 simp only[cP,WL,List.map_cons,List.map_nil,List.cons_append,List.nil_append]
 rcases C with ⟨rfl,_⟩ | ⟨sh,zs,rfl,C⟩
 ·generalize pc s1 c1=P1
  generalize pc s2 c2=P2'
  walk_at "rd"
  exact q
 obtain⟨m1,m2,m3,m4⟩:=C.sm
 have lies:∀(s:Int) (c:List Pt) (z:Pt),Pce s c->z∈zs->InC s c z.1 z.2 sh->∀{P:D->Prop},(∀i:Int,¬i<0->P (.int i))->dY [pc s c,sp3 z.1 z.2 sh] P:=λs c z p hz hi {P} h =>
  ⟨s,c,z.1,z.2,sh,rfl,p.sm,⟨(m2 z hz).1,(m2 z hz).2,m1⟩,λM ⟨a,b,k,e⟩ _=>h _ (YW (by rw[e];exact hi a b k))⟩
 have inb:∀z∈zs,InC s1 c1 z.1 z.2 sh/\InC s2 c2 z.1 z.2 sh:=λz hz=>(C.closed z.1 z.2 sh (Int.le_of_lt C.ip.pos)).mp (gN C.ip hz)
 have isp:∀{P:D->Prop},P (.bl true)->zH [pc sh zs] P:=λ{P} h=>⟨sh,zs,rfl,C.ip,λz hz=>⟨(m2 z hz).1.mono (by decide),(m2 z hz).2.mono (by decide)⟩,m4,h⟩
 generalize hP1:pc s1 c1=P1 at *
 generalize hP2:pc s2 c2=P2' at *
 refine aN (λρ=>ρ=[some (.d (pc sh zs)),some (.d P1),some (.d P2'),none,none]) (λK hK=>?_) ?_
 ·walk_at "rd"
  exact hK _ rfl
 rintro ρ rfl
 refine aN (λρ=>ρ=[some (.d (pc sh zs)),some (.d P1),some (.d P2'),none,none]) (λK hK=>?_) ?_
 ·simp only[eK,qH,bF,aY,aD,aK,aR,List.getElem?_cons_zero,List.getElem?_cons_succ]
  refine isp ?_
  simp only[Bool.not_true,Bool.false_eq_true,if_false]
  exact hK _ rfl
 rintro ρ rfl
 refine aN (λρ=>True) (λK hK=>?_) ?_
 ·have src:∀{P:List D->Prop},P (zs.map pt)->(riT (r2 dIx (aA 0) (rC (.int 1)))) [some (.d (pc sh zs)),some (.d P1),some (.d P2'),none,none] P:=λ{P} h=>h
  refine src ?_
  refine cQ (λxs ρ=>(∀x∈xs,∃z∈zs,x=pt z)/\∃u v,ρ=[some (.d (pc sh zs)),some (.d P1),some (.d P2'),u,v]) ?_ ?_ _ _ ⟨λx hx=>?_,none,none,rfl⟩
  ·rintro x xs ρ ⟨hx,u,v,rfl⟩ F hrt _ hnx _
   obtain⟨z,hz,rfl⟩:=hx x List.mem_cons_self
   obtain⟨i1,i2⟩:=inb z hz
   have l1:=λ{P:D->Prop} h=>lies s1 c1 z p1 hz i1 (P:=P) h
   have l2:=λ{P:D->Prop} h=>lies s2 c2 z p2 hz i2 (P:=P) h
   rw[hP1] at l1
   rw[hP2] at l2
   unfold hE
   walk_at "rd"
   refine l1 λi hi=>?_
   simp only[decide_eq_true_eq]
   rw[if_neg hi]
   refine l2 λi hi=>?_
   simp only[decide_eq_true_eq]
   rw[if_neg hi]
   exact hnx _ ⟨λx h=>hx x (List.mem_cons_of_mem _ h),_,_,rfl⟩
  ·rintro ρ _;exact hK _ trivial
  ·obtain⟨z,hz,rfl⟩:=List.mem_map.mp hx
   exact⟨z,hz,rfl⟩
 rintro ρ _
 walk_at "rd"
 exact q
namespace K15
theorem QE {xs:List Int} (h:Drawn 17 xs):∃a0 a1 a2 a3 a4 a5 a6 a7 a8 a9 a10 a11 a12 a13 a14 a15 a16,xs=[a0,a1,a2,a3,a4,a5,a6,a7,a8,a9,a10,a11,a12,a13,a14,a15,a16]:=by
 have hl:=h.len
 match xs,hl with
 | [a0,a1,a2,a3,a4,a5,a6,a7,a8,a9,a10,a11,a12,a13,a14,a15,a16],_=>exact⟨a0,a1,a2,a3,a4,a5,a6,a7,a8,a9,a10,a11,a12,a13,a14,a15,a16,rfl⟩
theorem WV {M:Int}:sgI M=1↔0<M:=by
 unfold sgI
 by_cases h:0<M
 ·rw[if_pos h,if_neg (by omega)];exact⟨λ_=>h,λ_=>rfl⟩
 ·rw[if_neg h];split <;> omega
theorem tS {sh X Y W:Int} {cs:List Pt} (b:BL 9000 sh/\kF 9000 cs/\1<=cs.length/\cs.length<=100) (bx:BL 9000 X/\BL 9000 Y/\BL 9000 W) {P:D->Prop} (h:∀i:Int,(i=1↔InO sh cs X Y W)->P (.int i)):dY [pc sh cs,sp3 X Y W] P :=
 ⟨sh,cs,X,Y,W,rfl,b,bx,λM ⟨a,b,k,e⟩ hm=>h _ (by
  rw[WV]
  exact⟨λh u v huv=>Int.lt_of_lt_of_le h (hm u v huv),λh=>by rw[e];exact h a b k⟩)⟩
theorem GW {d:D} (h:d = .non\/∃sh zs,d=pc sh zs) {P:D->Prop} (q:P (.bl false)):dNe d d P:=by
 rcases h with rfl | ⟨sh,zs,rfl⟩
 ·exact q
 ·show match eqL (eqF 5) [.int sh,.tup (zs.map pt)] [.int sh,.tup (zs.map pt)] with | some b=>P (.bl !b) | none=>False
  rw[US 2 sh zs]
  exact q
theorem XI {s1 s2:Int} {c1 c2:List Pt} {d:D} (h:uZ s1 c1 s2 c2 d):d = .non\/∃sh zs,d=pc sh zs:=by
 rcases h with ⟨rfl,_⟩ | ⟨sh,zs,rfl,_⟩
 ·exact .inl rfl
 ·exact .inr ⟨sh,zs,rfl⟩
theorem OD:∀ds Q,HZ 63 ds Q->kA wA dY sN lS kT lT kU cA { nx:=λ_=>Q .non,rt:=Q } (aS ["_law_script","_law_head","_law_ring_here","_law_share_here","_law_first","_law_second_here","_law_found","_law_cell","_law_spot","_law_both"] ds):=by
 rintro ds Q ⟨ns,rfl,hn,q⟩
 rw[aX 9 rfl]
 unfold kA
 simp only[cP,WP,List.map_cons,List.map_nil,List.cons_append,List.nil_append]
 refine aN (λρ=>∃a0 a1 a2 a3 a4 a5 a6 a7 a8 a9 a10 a11 a12 a13 a14 a15 a16:Int,ρ=[some (.d (il ns)),some (.d (.lst [.int a0,.int a1,.int a2,.int a3,.int a4,.int a5,.int a6,.int a7,.int a8,.int a9,.int a10,.int a11,.int a12,.int a13,.int a14,.int a15,.int a16])),none,none,none,none,none,none,none,none]) (λK hK=>?_) ?_
 ·walk_at "rd"
  refine⟨ns,17,rfl,⟨by omega,by decide,by decide⟩,λxs hx=>?_⟩
  obtain⟨a0,a1,a2,a3,a4,a5,a6,a7,a8,a9,a10,a11,a12,a13,a14,a15,a16,rfl⟩:=QE hx
  exact hK _ ⟨a0,a1,a2,a3,a4,a5,a6,a7,a8,a9,a10,a11,a12,a13,a14,a15,a16,rfl⟩
 rintro ρ ⟨a0,a1,a2,a3,a4,a5,a6,a7,a8,a9,a10,a11,a12,a13,a14,a15,a16,rfl⟩
 have sec:∀{cs:List Pt} {share:Int} {P:D->Prop},RingOk 210 cs->0<share->share<=4->(∀sh zs,Pce sh zs->P (pc sh zs))->kU [.lst [.int a0,.int a1,.int a2,.int a3,.int a4,.int a5,.int a6,.int a7,.int a8,.int a9,.int a10,.int a11,.int a12,.int a13,.int a14,.int a15,.int a16],pts cs,.int share] P:=λ{cs share P} R h0 h4 h=>⟨a0,a1,a2,a3,a4,a5,a6,a7,a8,a9,a10,a11,a12,a13,a14,a15,a16,cs,share,rfl,R,⟨h0,h4⟩,h⟩
 have rng:∀{far:Int} {P:D->Prop},0<=far->BL 200 far->(∀cs,RingOk 210 cs->P (pts cs))->lT [.lst [.int a0,.int a1,.int a2,.int a3,.int a4,.int a5,.int a6,.int a7,.int a8,.int a9,.int a10,.int a11,.int a12,.int a13,.int a14,.int a15,.int a16],.int far] P:=λ{far P} f0 f1 h=>⟨a0,a1,a2,a3,a4,a5,a6,_,far,rfl,⟨f0,f1⟩,λlows highs top p q r s ox oy RF hl=>h _ (HL RF hl)⟩
 generalize hH:D.lst [.int a0,.int a1,.int a2,.int a3,.int a4,.int a5,.int a6,.int a7,.int a8,.int a9,.int a10,.int a11,.int a12,.int a13,.int a14,.int a15,.int a16]=HD at *
 have ix7:∀{P:D->Prop},P (.int a7)->dIx HD (.int 7) P:=λ{P} h=>by rw[<-hH];exact cU rfl h
 have ix16:∀{P:D->Prop},P (.int a16)->dIx HD (.int 16) P:=λ{P} h=>by rw[<-hH];exact cU rfl h
 refine aN (λρ=>∃cs:List Pt,RingOk 210 cs/\ρ=[some (.d (il ns)),some (.d HD),some (.d (pts cs)),none,none,none,none,none,none,none]) (λK hK=>?_) ?_
 ·simp only[bD,aY,aD,aK,aR,r2,nK,rC,aA,List.getElem?_cons_zero,List.getElem?_cons_succ,S.val]
  simp only[pM,Int.reducePow,Int.reduceToNat]
  refine⟨uC,sz2,ix7 ?_⟩
  refine⟨gW,?_⟩
  obtain⟨b0,b1⟩:=bA (a:=a7) (b:=2) (by decide)
  refine sC b0 (by simpa using b1) λx hx=>?_
  obtain⟨far,rfl,f0,f1⟩:=MT hx
  exact rng f0 f1 λcs R=>hK _ ⟨cs,R,rfl⟩
 rintro ρ ⟨cs,R,rfl⟩
 refine aN (λρ=>∃share:Int,(0<share/\share<=4)/\ρ=[some (.d (il ns)),some (.d HD),some (.d (pts cs)),some (.d (.int share)),none,none,none,none,none,none]) (λK hK=>?_) ?_
 ·simp only[bD,r2,rC,aA,List.getElem?_cons_zero,List.getElem?_cons_succ,S.val]
  refine ix16 ⟨gW,?_⟩
  obtain⟨b0,b1⟩:=bA (a:=a16) (b:=4) (by decide)
  exact hK _ ⟨_,⟨by omega,by omega⟩,rfl⟩
 rintro ρ ⟨share,⟨s0,s4⟩,rfl⟩
 have bs:BL 4 share:=by unfold BL;omega
 refine aN (λρ=>∃s1 c1,Pce s1 c1/\ρ=[some (.d (il ns)),some (.d HD),some (.d (pts cs)),some (.d (.int share)),some (.d (pc s1 c1)),none,none,none,none,none]) (λK hK=>?_) ?_
 ·simp only[bD,aY,aD,aK,aR,List.getElem?_cons_zero,List.getElem?_cons_succ]
  exact sH R.up s0 (by omega) λsh zs p=>hK _ ⟨sh,zs,p,rfl⟩
 rintro ρ ⟨s1,c1,p1,rfl⟩
 refine aN (λρ=>∃s2 c2,Pce s2 c2/\ρ=[some (.d (il ns)),some (.d HD),some (.d (pts cs)),some (.d (.int share)),some (.d (pc s1 c1)),some (.d (pc s2 c2)),none,none,none,none]) (λK hK=>?_) ?_
 ·simp only[bD,aY,aD,aK,aR,List.getElem?_cons_zero,List.getElem?_cons_succ]
  exact sec R s0 s4 λsh zs p=>hK _ ⟨sh,zs,p,rfl⟩
 rintro ρ ⟨s2,c2,p2,rfl⟩
 have com:∀{P:D->Prop},(∀d,uZ s1 c1 s2 c2 d->P d)->cA [pc s1 c1,pc s2 c2] P:=λ{P} h=>⟨s1,c1,s2,c2,rfl,p1,p2,h⟩
 have com':∀{P:D->Prop},(∀d,uZ s2 c2 s1 c1 d->P d)->cA [pc s2 c2,pc s1 c1] P:=λ{P} h=>⟨s2,c2,s1,c1,rfl,p2,p1,h⟩
 have coms:∀{P:D->Prop},P (pc s1 c1)->cA [pc s1 c1,pc s1 c1] P:=λ{P} h=>⟨s1,c1,s1,c1,rfl,p1,p1,λd k=>by rw[LQ p1.ip k];exact h⟩
 have rgt:∀{d:D} {P:D->Prop},uZ s1 c1 s2 c2 d->P (.bl true)->kT [d,pc s1 c1,pc s2 c2] P:=λ{d P} C h=>⟨s1,c1,s2,c2,d,rfl,p1,p2,C,h⟩
 have nes:∀{P:D->Prop},P (.bl false)->dNe (pc s1 c1) (pc s1 c1) P:=λ{P} h=>GW (.inr ⟨_,_,rfl⟩) h
 have l1:∀{X Y W:Int} {P:D->Prop},(BL 9000 X/\BL 9000 Y/\BL 9000 W)->(∀i:Int,(i=1↔InO s1 c1 X Y W)->P (.int i))->dY [pc s1 c1,sp3 X Y W] P:=λ{X Y W P} b h=>tS p1.sm b h
 have l2:∀{X Y W:Int} {P:D->Prop},(BL 9000 X/\BL 9000 Y/\BL 9000 W)->(∀i:Int,(i=1↔InO s2 c2 X Y W)->P (.int i))->dY [pc s2 c2,sp3 X Y W] P:=λ{X Y W P} b h=>tS p2.sm b h
 generalize hP1:pc s1 c1=P1 at *
 generalize hP2:pc s2 c2=P2' at *
 refine aN (λρ=>∃d,uZ s1 c1 s2 c2 d/\ρ=[some (.d (il ns)),some (.d HD),some (.d (pts cs)),some (.d (.int share)),some (.d P1),some (.d P2'),some (.d d),none,none,none]) (λK hK=>?_) ?_
 ·simp only[bD,aY,aD,aK,aR,List.getElem?_cons_zero,List.getElem?_cons_succ]
  exact com λd C=>hK _ ⟨d,C,rfl⟩
 rintro ρ ⟨d,C,rfl⟩
 have hd:=XI C
 refine aN (λρ=>ρ=[some (.d (il ns)),some (.d HD),some (.d (pts cs)),some (.d (.int share)),some (.d P1),some (.d P2'),some (.d d),none,none,none]) (λK hK=>?_) ?_
 ·simp only[eK,rOr,qH,bF,aY,aD,aK,aR,aA,r2,List.getElem?_cons_zero,List.getElem?_cons_succ,S.val]
  refine rgt C ?_
  simp only[Bool.not_true,Bool.false_eq_true,if_false]
  refine com' λe k=>?_
  rw[PX C k]
  refine GW hd ?_
  simp only[Bool.false_eq_true,if_false]
  refine coms (nes ?_)
  simp only[Bool.false_eq_true,if_false]
  exact hK _ rfl
 rintro ρ rfl
 have cs300:kF 300 cs:=λw hw=>⟨(R.small w hw).1.mono (by decide),(R.small w hw).2.mono (by decide)⟩
 have mean:∀{c:Int} {P:D->Prop},BL 1000 c->(∀x y w,SpotOk x y w->P (sp3 x y w))->sN [pts cs,.int c] P:=λ{c P} b h=>⟨cs,c,rfl,b,⟨cs300,by have:=R.len.1;omega,by have:=R.len.2;omega⟩,h⟩
 generalize hC:pts cs=CD at *
 refine aN (λρ=>True) (λK hK=>?_) ?_
 ·have src:∀{P:List D->Prop},P (jD (ns.map .int) none (some 12)++[.int a7])->(riL (r2 kG ((λρ Q=>(HJ (aA 0) (eW) (gZ (rC (.int 12)))) ρ λds=>Q (.lst ds))) ((λρ Q=>(nK (aD (r2 dIx (aA 1) (rC (.int 7))) (aK))) ρ λds=>Q (.lst ds))))) [some (.d (il ns)),some (.d HD),some (.d CD),some (.d (.int share)),some (.d P1),some (.d P2'),some (.d d),none,none,none] P:=λ{P} h=>by
   rw[<-hH]
   walk_at "rd"
   exact⟨dF (by unfold jD;simp;omega),h⟩
  refine src ?_
  have all:∀x∈jD (List.map D.int ns) none (some 12)++[D.int a7],∃c:Int,x = .int c:=λx hx=>by
   rcases List.mem_append.mp hx with h | h
   ·obtain⟨c,_,rfl⟩:=List.mem_map.mp (IP h)
    exact⟨c,rfl⟩
   ·exact⟨a7,List.mem_singleton.mp h⟩
  refine cQ (λxs ρ=>(∀x∈xs,∃c:Int,x = .int c)/\∃o1 o2 o3,ρ=[some (.d (il ns)),some (.d HD),some (.d CD),some (.d (.int share)),some (.d P1),some (.d P2'),some (.d d),o1,o2,o3]) ?_ ?_ _ _ ⟨all,none,none,none,rfl⟩
  ·rintro x xs ρ ⟨hx,o1,o2,o3,rfl⟩ F hrt _ hnx _
   obtain⟨cell,rfl⟩:=hx x List.mem_cons_self
   have hx':∀x∈xs,∃c:Int,x = .int c:=λx h=>hx x (List.mem_cons_of_mem _ h)
   have done:=λo1 o2 o3=>hnx [some (.d (il ns)),some (.d HD),some (.d CD),some (.d (.int share)),some (.d P1),some (.d P2'),some (.d d),o1,o2,o3] ⟨hx',o1,o2,o3,rfl⟩
   unfold mQ
   simp only[aW,List.set_cons_zero,List.set_cons_succ]
   refine aN (λρ=>∃x y w:Int,SpotOk x y w/\ρ=[some (.d (il ns)),some (.d HD),some (.d CD),some (.d (.int share)),some (.d P1),some (.d P2'),some (.d d),some (.d (.int cell)),some (.d (sp3 x y w)),o3]) (λK' hK'=>?_) ?_
   ·simp only[bD,aY,aD,aK,aR,aA,r2,rC,pM,cH,List.getElem?_cons_zero,List.getElem?_cons_succ,S.val,Int.reducePow,Int.reduceToNat]
    refine⟨uC,gW,mean ?_ λx y w ok=>hK' _ ⟨x,y,w,ok,rfl⟩⟩
    obtain⟨b0,b1⟩:=bA (a:=cell) (b:=1000000000000000000) (by decide)
    exact (show BL 100 (cell.fmod 1000000000000000000) from BL.of_lt (by omega) (Int.lt_trans b1 (by decide))).mono (by decide)
   rintro ρ ⟨x,y,w,ok,rfl⟩
   have bw:BL 20 w:=iF ⟨by have:=ok.w1;omega,ok.w2⟩
   refine aN (λρ=>ρ=[some (.d (il ns)),some (.d HD),some (.d CD),some (.d (.int share)),some (.d P1),some (.d P2'),some (.d d),some (.d (.int cell)),some (.d (sp3 x y (w*share))),o3]) (λK' hK'=>?_) ?_
   ·walk_at "rd"
    exact⟨bw.mulOk bs,hK' _ rfl⟩
   rintro ρ rfl
   have bb:BL 9000 x/\BL 9000 y/\BL 9000 (w*share):=⟨ok.x.mono (by decide),ok.y.mono (by decide),(bw.mul bs).mono (by decide)⟩
   have hw:0<w*share:=Int.mul_pos (by have:=ok.w1;omega) s0
   have l3:∀{sh:Int} {zs:List Pt} {P:D->Prop},Com s1 c1 s2 c2 sh zs->(∀i:Int,(i=1↔InO sh zs x y (w*share))->P (.int i))->dY [pc sh zs,sp3 x y (w*share)] P:=λ{sh zs P} C h=>tS C.sm bb h
   generalize hS:sp3 x y (w*share)=SD at *
   refine aN (λρ=>∃b:Bool,(b=true->InO s1 c1 x y (w*share)/\InO s2 c2 x y (w*share))/\ρ=[some (.d (il ns)),some (.d HD),some (.d CD),some (.d (.int share)),some (.d P1),some (.d P2'),some (.d d),some (.d (.int cell)),some (.d SD),some (.d (.bl b))]) (λK' hK'=>?_) ?_
   ·have k1:=λ{P:D->Prop} h=>l1 (X:=x) (Y:=y) (W:=w*share) (P:=P) bb h
    have k2:=λ{P:D->Prop} h=>l2 (X:=x) (Y:=y) (W:=w*share) (P:=P) bb h
    rw[hS] at k1 k2
    simp only[bD,uG,aY,aD,aK,aR,r2,rC,List.getElem?_cons_zero,List.getElem?_cons_succ]
    refine k1 λi hi=>?_
    simp only[jE,Bool.false_eq_true,if_false]
    by_cases e1:i=1
    ·rw[decide_eq_true e1]
     simp only[if_true]
     refine k2 λj hj=>?_
     simp only[Bool.false_eq_true,if_false]
     exact hK' _ ⟨_,λh=>⟨hi.mp e1,hj.mp (of_decide_eq_true h)⟩,rfl⟩
    ·rw[decide_eq_false e1]
     simp only[Bool.false_eq_true,if_false]
     exact hK' _ ⟨false,λh=>Bool.noConfusion h,rfl⟩
   rintro ρ ⟨b,hb,rfl⟩
   cases b with
   | false =>
    walk_at "rd"
    exact done _ _ _
   | true =>
    obtain⟨i1,i2⟩:=hb rfl
    rcases C with ⟨rfl,n⟩ | ⟨sh,zs,rfl,C⟩
    ·exact (n _ _ _ hw i1 i2).elim
    ·have k3:=λ{P:D->Prop} h=>l3 (P:=P) C h
     simp only[eK,BZ,rOr,bF,aY,aD,aK,aR,aA,r2,rC,AE,AU,List.getElem?_cons_zero,List.getElem?_cons_succ,S.val,if_true,Bool.false_eq_true,if_false]
     refine k3 λi hi=>?_
     have e:i=1:=hi.mpr ((C.opened _ _ _ hw).mpr ⟨i1,i2⟩)
     subst e
     simp only[jE,decide_true,Bool.not_true,if_true,Bool.false_eq_true,if_false]
     exact done _ _ _
  ·rintro ρ _;exact hK _ trivial
 rintro ρ _
 walk_at "rd"
 exact q
end K15
namespace K15
noncomputable def top (i:Nat):Stmt:=PySem.Challenge.pw_recut_k15_what_two_have_in_common.main.body.getD i (.Pass ⟨0,0,0,0⟩)
noncomputable abbrev s__law_divisor:Stmt:=top 18
noncomputable abbrev s__law_due:Stmt:=top 22
noncomputable abbrev s__law_lies:Stmt:=top 24
noncomputable abbrev s__law_digit:Stmt:=top 15
noncomputable abbrev s__law_mean:Stmt:=top 23
noncomputable abbrev s__law_numbers:Stmt:=top 17
noncomputable abbrev s__law_whole:Stmt:=top 16
noncomputable abbrev s__law_numbers_whole:Stmt:=top 26
noncomputable abbrev s__law_turn:Stmt:=top 25
noncomputable abbrev s__law_is_piece:Stmt:=top 27
noncomputable abbrev s__law_right:Stmt:=top 30
noncomputable abbrev s__law_rises:Stmt:=top 19
noncomputable abbrev s__law_ring:Stmt:=top 20
noncomputable abbrev s__law_beside:Stmt:=top 28
noncomputable abbrev s__law_second:Stmt:=top 29
noncomputable abbrev s_excess:Stmt:=top 8
noncomputable abbrev s_crossing:Stmt:=top 10
noncomputable abbrev s_neighbours:Stmt:=top 3
noncomputable abbrev s_points_within:Stmt:=top 11
noncomputable abbrev s_turn:Stmt:=top 4
noncomputable abbrev s_half_round:Stmt:=top 5
noncomputable abbrev s_outline:Stmt:=top 6
noncomputable abbrev s_shared_divisor:Stmt:=top 1
noncomputable abbrev s_settled:Stmt:=top 7
noncomputable abbrev s_part_within:Stmt:=top 12
noncomputable abbrev s_side_lines:Stmt:=top 9
noncomputable abbrev s_common:Stmt:=top 13
noncomputable abbrev s_law:Stmt:=top 31
section
variable {P:Program} {w:World} {K:PySem.W.Frag} {mg:Str->Option Value} {base:Heap}
theorem kN:FnScope ["_law_one","_law_other"] ["_law_one","_law_other"] (aE s__law_divisor):=⟨rfl,rfl,rfl,by decide +kernel,rfl,by decide +kernel,by decide +kernel⟩
theorem qY {f:Addr} {cdv:Value} {A:Around} {outer:List Env} {s:Shared} {H:Hp} {E:XK} (m_abs:mg "abs" = none) (hr:Room 0 (A.deeper (envOfC "_law_divisor" (aE s__law_divisor) s.heap.objs.size f cdv))) :
  DSs (dA CX0 P w K mg base ["_law_one","_law_other"] "_law_divisor" (aE s__law_divisor) f cdv A outer s H E).nox (aM s__law_divisor) (eB) :=
 have nd:=kN.nd
 aF (aP nd (dH pK m_abs gM (aC (dv 0) (aJ))))
 (aF (aP nd (dH pK m_abs gM (aC (dv 1) (aJ))))
 (aF (tG PassesOwn.never (bP GY (dvb 1) (DE.bor (aB))) (aL (UP rfl nd (aC (dv 1) (aC (aH bN (dvb 0) (dvb 1)) (aJ))))))
 (aL (bC (dv 0)))))
theorem rK (Z:DefAt K mg "_law_divisor" s__law_divisor ["_law_one","_law_other"]) (m_abs:mg "abs" = none) {F:FD} (len:∀ds Q,F ds Q->ds.length=2) (pure:∀ds Q,F ds Q->eB { nx:=λ_=>Q .non,rt:=Q } (aS ["_law_one","_law_other"] ds)):FnAt P w K mg base "_law_divisor" ["_law_one","_law_other"] 1 F :=
 Z.ok kN (λcdv A outer s H E hr=>qY m_abs hr) len pure
theorem qW:FnScope ["_law_share_here","_law_ring_here","_law_most","_law_x","_law_y","_law_corners","_law_at"] ["_law_share_here","_law_ring_here"] (aE s__law_due):=⟨rfl,rfl,rfl,by decide +kernel,rfl,by decide +kernel,by decide +kernel⟩
theorem lH:List.Nodup (["_law_x","_law_y","_law_most"]:List Str):=by decide +kernel
theorem zN {f:Addr} {cdv:Value} {A:Around} {outer:List Env} {s:Shared} {H:Hp} {E:XK} {As:FD} (Au:FnAt P w K mg base "_law_divisor" ["_law_one","_law_other"] 1 As) (m_tuple:mg "tuple" = none) (m_min:mg "min" = none) (hr:Room 1 (A.deeper (envOfC "_law_due" (aE s__law_due) s.heap.objs.size f cdv))) :
  DSs (dA CX0 P w K mg base ["_law_share_here","_law_ring_here","_law_most","_law_x","_law_y","_law_corners","_law_at"] "_law_due" (aE s__law_due) f cdv A outer s H E).nox (aM s__law_due) (iP As) :=
 have nd:=qW.nd
 aF (aP nd (dv 0))
 (aF (dX PassesOwn.never rfl (cW (dv 1)) (eQ rfl (bE (aV nd) (bE (aV nd) (dD)))) (aL (aP nd (aQ Au (hr.mono (by decide)) (aC (aQ Au (hr.mono (by decide)) (aC (dv 2) (aC (dv 3) (aJ)))) (aC (dv 4) (aJ)))))))
 (aF (sG ["_law_x","_law_y","_law_most"] 2 [2] nd (cW (dv 1)) (λcl C s H fp=>eQ rfl (bE (aV lH) (bE (aV lH) (dD)))) (λcl C s H fp=>cV (aC (aH cD (dvb 0) (dvb 2)) (aC (aH cD (dvb 1) (dvb 2)) (aJ)))))
 (aF (aP nd (MM hr (dvb 5) (GF hr m_min rfl (dvb 5))))
 (aL (bC (cV (aC (aH cD (dvb 0) (dvb 2)) (aC (AF m_tuple (DE.bor (aH lY (DE.bor (jF (dvb 5) (iI (dv 6)) (lV))) (DE.bor (jF (dvb 5) (lV) (iI (dv 6))))))) (aJ)))))))))
theorem BN (Z:DefAt K mg "_law_due" s__law_due ["_law_share_here","_law_ring_here"]) {As:FD} (Au:FnAt P w K mg base "_law_divisor" ["_law_one","_law_other"] 1 As) (m_tuple:mg "tuple" = none) (m_min:mg "min" = none) {F:FD} (len:∀ds Q,F ds Q->ds.length=2) (pure:∀ds Q,F ds Q->iP As { nx:=λ_=>Q .non,rt:=Q } (aS ["_law_share_here","_law_ring_here","_law_most","_law_x","_law_y","_law_corners","_law_at"] ds)):FnAt P w K mg base "_law_due" ["_law_share_here","_law_ring_here"] 2 F :=
 Z.ok qW (λcdv A outer s H E hr=>zN Au m_tuple m_min hr) len pure
theorem oT:FnScope ["_law_piece","_law_spot","_law_share_here","_law_corners","_law_least","_law_k","_law_one","_law_x","_law_y","_law_side"] ["_law_piece","_law_spot"] (aE s__law_lies):=⟨rfl,rfl,rfl,by decide +kernel,rfl,by decide +kernel,by decide +kernel⟩
theorem xM {f:Addr} {cdv:Value} {A:Around} {outer:List Env} {s:Shared} {H:Hp} {E:XK} (m_int:mg "int" = none) (m_len:mg "len" = none) (m_range:mg "range" = none) (hr:Room 0 (A.deeper (envOfC "_law_lies" (aE s__law_lies) s.heap.objs.size f cdv))) :
  DSs (dA CX0 P w K mg base ["_law_piece","_law_spot","_law_share_here","_law_corners","_law_least","_law_k","_law_one","_law_x","_law_y","_law_side"] "_law_lies" (aE s__law_lies) f cdv A outer s H E).nox (aM s__law_lies) (eY) :=
 have nd:=oT.nd
 aF (MQ (dv 0) (eQ rfl (bE (aV nd) (bE (aV nd) (dD)))))
 (aF (aP nd (lB))
 (aF (dX PassesOwn.never rfl (fH m_range (aC (dW m_len (dvb 3)) (aJ))) (aV nd) (aF (aP nd (aI (dvb 3) (DE.bor (aH bH (dvb 5) (DE.bor (aB))))))
 (aF (aP nd (aH bH (DE.bor (aH bB (DE.bor (aI (dvb 1) (DE.bor (aB)))) (dvb 2))) (DE.bor (aH bB (DE.bor (aI (dvb 6) (DE.bor (aB)))) (DE.bor (aI (dvb 1) (DE.bor (aB))))))))
 (aF (aP nd (aH bH (DE.bor (aH bB (DE.bor (aI (dvb 1) (DE.bor (aB)))) (dvb 2))) (DE.bor (aH bB (DE.bor (aI (dvb 6) (DE.bor (aB)))) (DE.bor (aI (dvb 1) (DE.bor (aB))))))))
 (aF (aP nd (aH bH (DE.bor (aH bB (DE.bor (aH bH (DE.bor (aI (DE.bor (aI (dvb 3) (dvb 5))) (DE.bor (aB)))) (DE.bor (aI (dvb 6) (DE.bor (aB)))))) (dvb 8))) (DE.bor (aH bB (DE.bor (aH bH (DE.bor (aI (DE.bor (aI (dvb 3) (dvb 5))) (DE.bor (aB)))) (DE.bor (aI (dvb 6) (DE.bor (aB)))))) (dvb 7)))))
 (aL (dQ (DW.tst (lC (bP yR (dvb 4) (DE.bor (lB))) (lD (bP qT (dvb 9) (dvb 4))))) (aL (aP nd (dv 9))) (bS))))))))
 (aL (bC (aH bH (DE.bor (wN LO m_int pH (aC (nB GY (dvb 4) (DE.bor (aB))) (aJ)))) (DE.bor (wN LO m_int pH (aC (nB qT (dvb 4) (DE.bor (aB))) (aJ)))))))))
theorem yT (Z:DefAt K mg "_law_lies" s__law_lies ["_law_piece","_law_spot"]) (m_int:mg "int" = none) (m_len:mg "len" = none) (m_range:mg "range" = none) {F:FD} (len:∀ds Q,F ds Q->ds.length=2) (pure:∀ds Q,F ds Q->eY { nx:=λ_=>Q .non,rt:=Q } (aS ["_law_piece","_law_spot","_law_share_here","_law_corners","_law_least","_law_k","_law_one","_law_x","_law_y","_law_side"] ds)):FnAt P w K mg base "_law_lies" ["_law_piece","_law_spot"] 1 F :=
 Z.ok oT (λcdv A outer s H E hr=>xM m_int m_len m_range hr) len pure
theorem mS:FnScope ["_law_number","_law_base","_law_place","_law_k"] ["_law_number","_law_base","_law_place"] (aE s__law_digit):=⟨rfl,rfl,rfl,by decide +kernel,rfl,by decide +kernel,by decide +kernel⟩
theorem vA {f:Addr} {cdv:Value} {A:Around} {outer:List Env} {s:Shared} {H:Hp} {E:XK} (m_range:mg "range" = none) (hr:Room 0 (A.deeper (envOfC "_law_digit" (aE s__law_digit) s.heap.objs.size f cdv))) :
  DSs (dA CX0 P w K mg base ["_law_number","_law_base","_law_place","_law_k"] "_law_digit" (aE s__law_digit) f cdv A outer s H E).nox (aM s__law_digit) (fP) :=
 have nd:=mS.nd
 aF (dX PassesOwn.never rfl (fH m_range (aC (dv 2) (aJ))) (aV nd) (aL (aP nd (aH cD (dvb 0) (dvb 1)))))
 (aL (bC (aH bN (dvb 0) (dvb 1))))
theorem vN (Z:DefAt K mg "_law_digit" s__law_digit ["_law_number","_law_base","_law_place"]) (m_range:mg "range" = none) {F:FD} (len:∀ds Q,F ds Q->ds.length=3) (pure:∀ds Q,F ds Q->fP { nx:=λ_=>Q .non,rt:=Q } (aS ["_law_number","_law_base","_law_place","_law_k"] ds)):FnAt P w K mg base "_law_digit" ["_law_number","_law_base","_law_place"] 1 F :=
 Z.ok mS (λcdv A outer s H E hr=>vA m_range hr) len pure
theorem oU:FnScope ["_law_ring_here","_law_cell","_law_weights","_law_k","_law_x","_law_y"] ["_law_ring_here","_law_cell"] (aE s__law_mean):=⟨rfl,rfl,rfl,by decide +kernel,rfl,by decide +kernel,by decide +kernel⟩
theorem kH:List.Nodup (["_law_weight","_law_corner"]:List Str):=by decide +kernel
theorem kJ:List.Nodup (["_law_weight","_law_corner"]:List Str):=by decide +kernel
theorem xN {f:Addr} {cdv:Value} {A:Around} {outer:List Env} {s:Shared} {H:Hp} {E:XK} {Bf:FD} (Bx:FnAt P w K mg base "_law_digit" ["_law_number","_law_base","_law_place"] 1 Bf) (m_sum:mg "sum" = none) (m_zip:mg "zip" = none) (m_len:mg "len" = none) (m_max:mg "max" = none) (m_range:mg "range" = none) (hr:Room 1 (A.deeper (envOfC "_law_mean" (aE s__law_mean) s.heap.objs.size f cdv))) :
  DSs (dA CX0 P w K mg base ["_law_ring_here","_law_cell","_law_weights","_law_k","_law_x","_law_y"] "_law_mean" (aE s__law_mean) f cdv A outer s H E).nox (aM s__law_mean) (gJ Bf) :=
 have nd:=oU.nd
 aF (aP nd (aH bI (DE.bor (aH bB (dvb 1) (DE.bor (aB)))) (DE.bor (aH bB (DE.bor (aB)) (DE.bor (aH tU (DE.bor (aB)) (DE.bor (aB))))))))
 (aF (oE nd (jQ (aJ)))
 (aF (dX PassesOwn.never rfl (fH m_range (aC (dW m_len (dvb 0)) (aJ))) (aV nd) (aL (gO 2 (dH (xU rfl) m_max pJ (aC (aH bH (DE.bor (aQ Bx (hr.mono (by decide)) (aC (dv 1) (aC (aB) (aC (dv 3) (aJ)))))) (DE.bor (aB))) (aC (wO qL (DE.bor (aB))) (aJ)))))))
 (aF (AI 2 (dH (xU rfl) m_max pJ (aC (aB) (aC (aH bI (DE.bor (aH bH (DE.bor (aB)) (DE.bor (xZ m_sum rfl (dvb 2))))) (DE.bor (aI (dvb 2) (DE.bor (aH bN (dvb 1) (DE.bor (dW m_len (dvb 0)))))))) (aJ)))) (aH bN (dvb 1) (DE.bor (dW m_len (dvb 0)))))
 (aF (qQ 2 (aP nd (xZ m_sum rfl (DE.bor (DO.val (iH ["_law_weight","_law_corner"] 2 [] (MO m_zip (dv 2) (dv 0)) (λcl C s H fp=>eQ rfl (bE (aV kJ) (bE (aV kJ) (dD)))) (λcl C s H fp=>aH bB (dvb 0) (DE.bor (aI (dvb 1) (DE.bor (aB)))))))))))
 (aF (qQ 2 (aP nd (xZ m_sum rfl (DE.bor (DO.val (iH ["_law_weight","_law_corner"] 2 [] (MO m_zip (dv 2) (dv 0)) (λcl C s H fp=>eQ rfl (bE (aV kH) (bE (aV kH) (dD)))) (λcl C s H fp=>aH bB (dvb 0) (DE.bor (aI (dvb 1) (DE.bor (aB)))))))))))
 (aL (bC (cV (aC (dv 4) (aC (dv 5) (aC (xZ m_sum rfl (dvb 2)) (aJ))))))))))))
theorem yU (Z:DefAt K mg "_law_mean" s__law_mean ["_law_ring_here","_law_cell"]) {Bf:FD} (Bx:FnAt P w K mg base "_law_digit" ["_law_number","_law_base","_law_place"] 1 Bf) (m_sum:mg "sum" = none) (m_zip:mg "zip" = none) (m_len:mg "len" = none) (m_max:mg "max" = none) (m_range:mg "range" = none) {F:FD} (len:∀ds Q,F ds Q->ds.length=2) (pure:∀ds Q,F ds Q->gJ Bf { nx:=λ_=>Q .non,rt:=Q } (aS ["_law_ring_here","_law_cell","_law_weights","_law_k","_law_x","_law_y"] ds)):FnAt P w K mg base "_law_mean" ["_law_ring_here","_law_cell"] 2 F :=
 Z.ok oU (λcdv A outer s H E hr=>xN Bx m_sum m_zip m_len m_max m_range hr) len pure
theorem kO:FnScope ["_law_script","_law_many","_law_found","_law_k","_law_cell","_law_at"] ["_law_script","_law_many"] (aE s__law_numbers):=⟨rfl,rfl,rfl,by decide +kernel,rfl,by decide +kernel,by decide +kernel⟩
theorem nH:List.Nodup (["_law_k"]:List Str):=by decide +kernel
theorem qZ {f:Addr} {cdv:Value} {A:Around} {outer:List Env} {s:Shared} {H:Hp} {E:XK} (m_len:mg "len" = none) (m_min:mg "min" = none) (m_max:mg "max" = none) (m_range:mg "range" = none) (hr:Room 0 (A.deeper (envOfC "_law_numbers" (aE s__law_numbers) s.heap.objs.size f cdv))) :
  DSs (dA CX0 P w K mg base ["_law_script","_law_many","_law_found","_law_k","_law_cell","_law_at"] "_law_numbers" (aE s__law_numbers) f cdv A outer s H E).nox (aM s__law_numbers) (eD) :=
 have nd:=kO.nd
 aF (sG ["_law_k"] 1 [] nd (fH m_range (aC (dv 1) (aJ))) (λcl C s H fp=>aV nH) (λcl C s H fp=>aB))
 (aF (dX PassesOwn.never rfl (fH m_range (aC (dH (xU rfl) m_max pJ (aC (dv 1) (aC (dH (FW rfl) m_min wG (aC (dW m_len (dvb 0)) (aC (aB) (aJ)))) (aJ)))) (aJ))) (aV nd) (aF (aP nd (aB))
 (aF (dQ (bP GY (DE.bor (dW m_len (dvb 0))) (DE.bor (aB))) (aL (aP nd (aH bN (DE.bor (aI (dvb 0) (DE.bor (aH bN (dvb 3) (DE.bor (dH (FW rfl) m_min wG (aC (dW m_len (dvb 0)) (aC (aB) (aJ))))))))) (DE.bor (aH bI (DE.bor (aH tU (DE.bor (aB)) (DE.bor (aB)))) (DE.bor (aB))))))) (bS))
 (aF (aP nd (aH bN (dvb 3) (dvb 1)))
 (aL (AI 2 (aH bN (DE.bor (aH bI (DE.bor (aH bI (DE.bor (aH bB (DE.bor (aI (dvb 2) (dvb 5))) (DE.bor (aB)))) (dvb 4))) (DE.bor (aH bB (dvb 3) (dvb 3))))) (DE.bor (aH bI (DE.bor (aH tU (DE.bor (aB)) (DE.bor (aB)))) (DE.bor (aB))))) (dv 5)))))))
 (aL (qQ 2 (bC (dv 2)))))
theorem rL (Z:DefAt K mg "_law_numbers" s__law_numbers ["_law_script","_law_many"]) (m_len:mg "len" = none) (m_min:mg "min" = none) (m_max:mg "max" = none) (m_range:mg "range" = none) {F:FD} (len:∀ds Q,F ds Q->ds.length=2) (pure:∀ds Q,F ds Q->eD { nx:=λ_=>Q .non,rt:=Q } (aS ["_law_script","_law_many","_law_found","_law_k","_law_cell","_law_at"] ds)):FnAt P w K mg base "_law_numbers" ["_law_script","_law_many"] 1 F :=
 Z.ok kO (λcdv A outer s H E hr=>qZ m_len m_min m_max m_range hr) len pure
theorem mV:FnScope ["_law_found"] ["_law_found"] (aE s__law_whole):=⟨rfl,rfl,rfl,by decide +kernel,rfl,by decide +kernel,by decide +kernel⟩
theorem vD {f:Addr} {cdv:Value} {A:Around} {outer:List Env} {s:Shared} {H:Hp} {E:XK} (m_isinstance:mg "isinstance" = none) (m_bool:mg "bool" = none) (m_int:mg "int" = none) (hr:Room 0 (A.deeper (envOfC "_law_whole" (aE s__law_whole) s.heap.objs.size f cdv))) :
  DSs (dA CX0 P w K mg base ["_law_found"] "_law_whole" (aE s__law_whole) f cdv A outer s H E).nox (aM s__law_whole) (fR) :=
 have nd:=mV.nd
 aL (bC (xY (tE (SO _) m_isinstance m_int pH (dv 0)) (DR (UN (tE (OZ _) m_isinstance m_bool DJ (dv 0))))))
theorem vQ (Z:DefAt K mg "_law_whole" s__law_whole ["_law_found"]) (m_isinstance:mg "isinstance" = none) (m_bool:mg "bool" = none) (m_int:mg "int" = none) {F:FD} (len:∀ds Q,F ds Q->ds.length=1) (pure:∀ds Q,F ds Q->fR { nx:=λ_=>Q .non,rt:=Q } (aS ["_law_found"] ds)):FnAt P w K mg base "_law_whole" ["_law_found"] 1 F :=
 Z.ok mV (λcdv A outer s H E hr=>vD m_isinstance m_bool m_int hr) len pure
theorem fF:FnScope ["_law_piece","_law_corner"] ["_law_piece"] (aE s__law_numbers_whole):=⟨rfl,rfl,rfl,by decide +kernel,rfl,by decide +kernel,by decide +kernel⟩
theorem kP {f:Addr} {cdv:Value} {A:Around} {outer:List Env} {s:Shared} {H:Hp} {E:XK} {Az:FD} (Bo:FnAt P w K mg base "_law_whole" ["_law_found"] 1 Az) (m_len:mg "len" = none) (m_isinstance:mg "isinstance" = none) (m_tuple:mg "tuple" = none) (hr:Room 1 (A.deeper (envOfC "_law_numbers_whole" (aE s__law_numbers_whole) s.heap.objs.size f cdv))) :
  DSs (dA CX0 P w K mg base ["_law_piece","_law_corner"] "_law_numbers_whole" (aE s__law_numbers_whole) f cdv A outer s H E).nox (aM s__law_numbers_whole) (cK Az) :=
 have nd:=fF.nd
 aF (dQ (DW.tst (lC (jR (iW (tE (qK _) m_isinstance m_tuple kX (dv 0)))) (lC (bP yS (DE.bor (dW m_len (dvb 0))) (DE.bor (aB))) (lC (jR (iW (aQ Bo (hr.mono (by decide)) (aC (aI (dvb 0) (DE.bor (aB))) (aJ))))) (lD (bP qT (DE.bor (aI (dvb 0) (DE.bor (aB)))) (DE.bor (aB)))))))) (aL (bC (iG))) (bS))
 (aF (dQ (DW.tst (lC (jR (iW (tE (qK _) m_isinstance m_tuple kX (aI (dvb 0) (DE.bor (aB)))))) (lD (bP qT (DE.bor (dW m_len (DE.bor (aI (dvb 0) (DE.bor (aB)))))) (DE.bor (aB)))))) (aL (bC (iG))) (bS))
 (aF (dX PassesOwn.never rfl (DU (aI (dvb 0) (DE.bor (aB)))) (aV nd) (aF (dQ (DW.tst (lC (jR (iW (tE (qK _) m_isinstance m_tuple kX (dv 1)))) (lD (bP yS (DE.bor (dW m_len (dvb 1))) (DE.bor (aB)))))) (aL (bC (iG))) (bS))
 (aL (dQ (DW.tst (lC (jR (iW (aQ Bo (hr.mono (by decide)) (aC (aI (dvb 1) (DE.bor (aB))) (aJ))))) (lD (jR (iW (aQ Bo (hr.mono (by decide)) (aC (aI (dvb 1) (DE.bor (aB))) (aJ)))))))) (aL (bC (iG))) (bS)))))
 (aL (bC (iG)))))
theorem kR (Z:DefAt K mg "_law_numbers_whole" s__law_numbers_whole ["_law_piece"]) {Az:FD} (Bo:FnAt P w K mg base "_law_whole" ["_law_found"] 1 Az) (m_len:mg "len" = none) (m_isinstance:mg "isinstance" = none) (m_tuple:mg "tuple" = none) {F:FD} (len:∀ds Q,F ds Q->ds.length=1) (pure:∀ds Q,F ds Q->cK Az { nx:=λ_=>Q .non,rt:=Q } (aS ["_law_piece","_law_corner"] ds)):FnAt P w K mg base "_law_numbers_whole" ["_law_piece"] 2 F :=
 Z.ok fF (λcdv A outer s H E hr=>kP Bo m_len m_isinstance m_tuple hr) len pure
theorem oW:FnScope ["_law_one","_law_two","_law_three","_law_ahead"] ["_law_one","_law_two","_law_three"] (aE s__law_turn):=⟨rfl,rfl,rfl,by decide +kernel,rfl,by decide +kernel,by decide +kernel⟩
theorem xP {f:Addr} {cdv:Value} {A:Around} {outer:List Env} {s:Shared} {H:Hp} {E:XK} (hr:Room 0 (A.deeper (envOfC "_law_turn" (aE s__law_turn) s.heap.objs.size f cdv))) :
  DSs (dA CX0 P w K mg base ["_law_one","_law_two","_law_three","_law_ahead"] "_law_turn" (aE s__law_turn) f cdv A outer s H E).nox (aM s__law_turn) (gK) :=
 have nd:=oW.nd
 aF (aP nd (aH bB (DE.bor (aH bH (DE.bor (aI (dvb 1) (DE.bor (aB)))) (DE.bor (aI (dvb 0) (DE.bor (aB)))))) (DE.bor (aH bH (DE.bor (aI (dvb 2) (DE.bor (aB)))) (DE.bor (aI (dvb 1) (DE.bor (aB))))))))
 (aL (bC (aH bH (dvb 3) (DE.bor (aH bB (DE.bor (aH bH (DE.bor (aI (dvb 1) (DE.bor (aB)))) (DE.bor (aI (dvb 0) (DE.bor (aB)))))) (DE.bor (aH bH (DE.bor (aI (dvb 2) (DE.bor (aB)))) (DE.bor (aI (dvb 1) (DE.bor (aB)))))))))))
theorem yW (Z:DefAt K mg "_law_turn" s__law_turn ["_law_one","_law_two","_law_three"]) {F:FD} (len:∀ds Q,F ds Q->ds.length=3) (pure:∀ds Q,F ds Q->gK { nx:=λ_=>Q .non,rt:=Q } (aS ["_law_one","_law_two","_law_three","_law_ahead"] ds)):FnAt P w K mg base "_law_turn" ["_law_one","_law_two","_law_three"] 1 F :=
 Z.ok oW (λcdv A outer s H E hr=>xP hr) len pure
theorem jN:FnScope ["_law_piece","_law_share_here","_law_corners","_law_most","_law_falls","_law_k"] ["_law_piece"] (aE s__law_is_piece):=⟨rfl,rfl,rfl,by decide +kernel,rfl,by decide +kernel,by decide +kernel⟩
theorem pE {f:Addr} {cdv:Value} {A:Around} {outer:List Env} {s:Shared} {H:Hp} {E:XK} {As:FD} (Au:FnAt P w K mg base "_law_divisor" ["_law_one","_law_other"] 1 As) {Av:FD} (Ba:FnAt P w K mg base "_law_numbers_whole" ["_law_piece"] 2 Av) {Bm:FD} (Cb:FnAt P w K mg base "_law_turn" ["_law_one","_law_two","_law_three"] 1 Bm) (m_min:mg "min" = none) (m_len:mg "len" = none) (m_range:mg "range" = none) (hr:Room 2 (A.deeper (envOfC "_law_is_piece" (aE s__law_is_piece) s.heap.objs.size f cdv))) :
  DSs (dA CX0 P w K mg base ["_law_piece","_law_share_here","_law_corners","_law_most","_law_falls","_law_k"] "_law_is_piece" (aE s__law_is_piece) f cdv A outer s H E).nox (aM s__law_is_piece) (dM As Av Bm) :=
 have nd:=jN.nd
 aF (dQ (jR (iW (aQ Ba (hr.mono (by decide)) (aC (dv 0) (aJ))))) (aL (bC (iG))) (bS))
 (aF (MQ (dv 0) (eQ rfl (bE (aV nd) (bE (aV nd) (dD)))))
 (aF (aP nd (dv 1))
 (aF (aP nd (aB))
 (aF (dX PassesOwn.never rfl (fH m_range (aC (dW m_len (dvb 2)) (aJ))) (aV nd) (aF (aP nd (aQ Au (hr.mono (by decide)) (aC (aQ Au (hr.mono (by decide)) (aC (dv 3) (aC (aI (DE.bor (aI (dvb 2) (dvb 5))) (DE.bor (aB))) (aJ)))) (aC (aI (DE.bor (aI (dvb 2) (dvb 5))) (DE.bor (aB))) (aJ)))))
 (aF (dQ (bP GZ (DE.bor (aQ Cb (hr.mono (by decide)) (aC (aI (dvb 2) (DE.bor (aH bH (dvb 5) (DE.bor (aB))))) (aC (aI (dvb 2) (DE.bor (aH bH (dvb 5) (DE.bor (aB))))) (aC (aI (dvb 2) (dvb 5)) (aJ)))))) (DE.bor (aB))) (aL (bC (iG))) (bS))
 (aL (dQ (DW.tst (DY (bP (NR hr) (DE.bor (aI (dvb 2) (DE.bor (aH bH (dvb 5) (DE.bor (aB)))))) (DE.bor (aI (dvb 2) (DE.bor (aH bH (dvb 5) (DE.bor (aB))))))) (yD (bP (NR hr) (DE.bor (aI (dvb 2) (DE.bor (aH bH (dvb 5) (DE.bor (aB)))))) (DE.bor (aI (dvb 2) (dvb 5))))))) (aL (aP nd (aH bI (dvb 4) (DE.bor (aB))))) (bS))))))
 (aL (bC (xY (nB pY (dvb 3) (DE.bor (aB))) (xY (nB pY (dvb 4) (DE.bor (aB))) (DR (nB (XZ hr) (DE.bor (aI (dvb 2) (DE.bor (aB)))) (DE.bor (GF hr m_min rfl (dvb 2)))))))))))))
theorem pZ (Z:DefAt K mg "_law_is_piece" s__law_is_piece ["_law_piece"]) {As:FD} (Au:FnAt P w K mg base "_law_divisor" ["_law_one","_law_other"] 1 As) {Av:FD} (Ba:FnAt P w K mg base "_law_numbers_whole" ["_law_piece"] 2 Av) {Bm:FD} (Cb:FnAt P w K mg base "_law_turn" ["_law_one","_law_two","_law_three"] 1 Bm) (m_min:mg "min" = none) (m_len:mg "len" = none) (m_range:mg "range" = none) {F:FD} (len:∀ds Q,F ds Q->ds.length=1) (pure:∀ds Q,F ds Q->dM As Av Bm { nx:=λ_=>Q .non,rt:=Q } (aS ["_law_piece","_law_share_here","_law_corners","_law_most","_law_falls","_law_k"] ds)):FnAt P w K mg base "_law_is_piece" ["_law_piece"] 3 F :=
 Z.ok jN (λcdv A outer s H E hr=>pE Au Ba Cb m_min m_len m_range hr) len pure
theorem mT:FnScope ["_law_found","_law_one","_law_other","_law_x","_law_y"] ["_law_found","_law_one","_law_other"] (aE s__law_right):=⟨rfl,rfl,rfl,by decide +kernel,rfl,by decide +kernel,by decide +kernel⟩
theorem vB {f:Addr} {cdv:Value} {A:Around} {outer:List Env} {s:Shared} {H:Hp} {E:XK} {Bc:FD} (Bn:FnAt P w K mg base "_law_is_piece" ["_law_piece"] 3 Bc) {At:FD} (Ay:FnAt P w K mg base "_law_lies" ["_law_piece","_law_spot"] 1 At) (hr:Room 3 (A.deeper (envOfC "_law_right" (aE s__law_right) s.heap.objs.size f cdv))) :
  DSs (dA CX0 P w K mg base ["_law_found","_law_one","_law_other","_law_x","_law_y"] "_law_right" (aE s__law_right) f cdv A outer s H E).nox (aM s__law_right) (eE Bc At) :=
 have nd:=mT.nd
 aF (dQ (bP yR (dvb 0) (DE.bor (lB))) (aL (bC (iG))) (bS))
 (aF (dQ (jR (iW (aQ Bn (hr.mono (by decide)) (aC (dv 0) (aJ))))) (aL (bC (iG))) (bS))
 (aF (dX PassesOwn.never rfl (DU (aI (dvb 0) (DE.bor (aB)))) (eQ rfl (bE (aV nd) (bE (aV nd) (dD)))) (aL (dQ (DW.tst (lC (bP qT (DE.bor (aQ Ay (hr.mono (by decide)) (aC (dv 1) (aC (cV (aC (dv 3) (aC (dv 4) (aC (aI (dvb 0) (DE.bor (aB))) (aJ))))) (aJ))))) (DE.bor (aB))) (lD (bP qT (DE.bor (aQ Ay (hr.mono (by decide)) (aC (dv 2) (aC (cV (aC (dv 3) (aC (dv 4) (aC (aI (dvb 0) (DE.bor (aB))) (aJ))))) (aJ))))) (DE.bor (aB)))))) (aL (bC (iG))) (bS))))
 (aL (bC (iG)))))
theorem vO (Z:DefAt K mg "_law_right" s__law_right ["_law_found","_law_one","_law_other"]) {Bc:FD} (Bn:FnAt P w K mg base "_law_is_piece" ["_law_piece"] 3 Bc) {At:FD} (Ay:FnAt P w K mg base "_law_lies" ["_law_piece","_law_spot"] 1 At) {F:FD} (len:∀ds Q,F ds Q->ds.length=3) (pure:∀ds Q,F ds Q->eE Bc At { nx:=λ_=>Q .non,rt:=Q } (aS ["_law_found","_law_one","_law_other","_law_x","_law_y"] ds)):FnAt P w K mg base "_law_right" ["_law_found","_law_one","_law_other"] 4 F :=
 Z.ok mT (λcdv A outer s H E hr=>vB Bn Ay hr) len pure
theorem mU:FnScope ["_law_number","_law_many","_law_found","_law_k"] ["_law_number","_law_many"] (aE s__law_rises):=⟨rfl,rfl,rfl,by decide +kernel,rfl,by decide +kernel,by decide +kernel⟩
theorem vC {f:Addr} {cdv:Value} {A:Around} {outer:List Env} {s:Shared} {H:Hp} {E:XK} (m_range:mg "range" = none) (hr:Room 0 (A.deeper (envOfC "_law_rises" (aE s__law_rises) s.heap.objs.size f cdv))) :
  DSs (dA CX0 P w K mg base ["_law_number","_law_many","_law_found","_law_k"] "_law_rises" (aE s__law_rises) f cdv A outer s H E).nox (aM s__law_rises) (fQ) :=
 have nd:=mU.nd
 aF (oE nd (jQ (aC (aH bH (DE.bor (aH bN (dvb 0) (DE.bor (aB)))) (DE.bor (aB))) (aJ))))
 (aF (dX PassesOwn.never rfl (fH m_range (aC (aH bH (dvb 1) (DE.bor (aB))) (aJ))) (aV nd) (aL (gO 2 (aH bI (DE.bor (aH bI (DE.bor (aI (dvb 2) (DE.bor (wO qL (DE.bor (aB)))))) (DE.bor (aB)))) (DE.bor (aH bN (DE.bor (aH cD (dvb 0) (DE.bor (aH bI (DE.bor (aB)) (DE.bor (aH bB (DE.bor (aB)) (dvb 3))))))) (DE.bor (aB))))))))
 (aL (qQ 2 (bC (dv 2)))))
theorem vP (Z:DefAt K mg "_law_rises" s__law_rises ["_law_number","_law_many"]) (m_range:mg "range" = none) {F:FD} (len:∀ds Q,F ds Q->ds.length=2) (pure:∀ds Q,F ds Q->fQ { nx:=λ_=>Q .non,rt:=Q } (aS ["_law_number","_law_many","_law_found","_law_k"] ds)):FnAt P w K mg base "_law_rises" ["_law_number","_law_many"] 1 F :=
 Z.ok mU (λcdv A outer s H E hr=>vC m_range hr) len pure
theorem oV:FnScope ["_law_head","_law_far","_law_lows","_law_highs","_law_top","_law_ring_here","_law_p","_law_q","_law_r","_law_s","_law_off"] ["_law_head","_law_far"] (aE s__law_ring):=⟨rfl,rfl,rfl,by decide +kernel,rfl,by decide +kernel,by decide +kernel⟩
theorem kK:List.Nodup (["_law_x","_law_y","_law_p","_law_q","_law_off","_law_r","_law_s"]:List Str):=by decide +kernel
theorem rG:List.Nodup (["_law_x"]:List Str):=by decide +kernel
theorem rH:List.Nodup (["_law_x","_law_top"]:List Str):=by decide +kernel
theorem rJ:List.Nodup (["_law_x"]:List Str):=by decide +kernel
theorem xO {f:Addr} {cdv:Value} {A:Around} {outer:List Env} {s:Shared} {H:Hp} {E:XK} {Bi:FD} (Bs:FnAt P w K mg base "_law_rises" ["_law_number","_law_many"] 1 Bi) (m_reversed:mg "reversed" = none) (m_max:mg "max" = none) (hr:Room 1 (A.deeper (envOfC "_law_ring" (aE s__law_ring) s.heap.objs.size f cdv))) :
  DSs (dA CX0 P w K mg base ["_law_head","_law_far","_law_lows","_law_highs","_law_top","_law_ring_here","_law_p","_law_q","_law_r","_law_s","_law_off"] "_law_ring" (aE s__law_ring) f cdv A outer s H E).nox (aM s__law_ring) (fA Bi) :=
 have nd:=oV.nd
 aF (aP nd (aQ Bs (hr.mono (by decide)) (aC (aH cD (DE.bor (aI (dvb 0) (DE.bor (aB)))) (DE.bor (aB))) (aC (aH bI (DE.bor (aB)) (DE.bor (aH bN (DE.bor (aI (dvb 0) (DE.bor (aB)))) (DE.bor (aB))))) (aJ)))))
 (aF (aP nd (aQ Bs (hr.mono (by decide)) (aC (aH cD (DE.bor (aI (dvb 0) (DE.bor (aB)))) (DE.bor (aB))) (aC (aH bI (DE.bor (aB)) (DE.bor (aH bN (DE.bor (aI (dvb 0) (DE.bor (aB)))) (DE.bor (aB))))) (aJ)))))
 (aF (aP nd (aH bI (DE.bor (aH bI (DE.bor (aH bB (DE.bor (aB)) (DE.bor (GE m_max rfl (DE.bor (DO.val (iH ["_law_x"] 1 [] (cW (aH lY (dvb 2) (dvb 3))) (λcl C s H fp=>aV rJ) (λcl C s H fp=>aH bB (dvb 0) (dvb 0))))))))) (DE.bor (aB)))) (DE.bor (aH bN (DE.bor (aI (dvb 0) (DE.bor (aB)))) (DE.bor (aB))))))
 (aF (aP nd (aH lY (DE.bor (DO.val (iH ["_law_x"] 1 [] (cW (dv 2)) (λcl C s H fp=>aV rG) (λcl C s H fp=>cV (aC (dv 0) (aC (aH bB (dvb 0) (dvb 0)) (aJ))))))) (DE.bor (DO.val (iH ["_law_x","_law_top"] 1 [4] (UO m_reversed (dv 3)) (λcl C s H fp=>aV rH) (λcl C s H fp=>cV (aC (dv 0) (aC (aH bH (dvb 1) (DE.bor (aH bB (dvb 0) (dvb 0)))) (aJ)))))))))
 (aF (aP nd (aH bI (DE.bor (aB)) (DE.bor (aH bN (DE.bor (aI (dvb 0) (DE.bor (aB)))) (DE.bor (aB))))))
 (aF (aP nd (aH bH (DE.bor (aH bN (DE.bor (aH cD (DE.bor (aI (dvb 0) (DE.bor (aB)))) (DE.bor (aB)))) (DE.bor (aB)))) (DE.bor (aB))))
 (aF (aP nd (aH bH (DE.bor (aH bN (DE.bor (aI (dvb 0) (DE.bor (aB)))) (DE.bor (aB)))) (DE.bor (aB))))
 (aF (aP nd (aH bI (DE.bor (aH bI (DE.bor (aH cD (DE.bor (aH bB (dvb 7) (dvb 8))) (dvb 6))) (DE.bor (aB)))) (DE.bor (aH bN (DE.bor (aH cD (DE.bor (aI (dvb 0) (DE.bor (aB)))) (DE.bor (aB)))) (DE.bor (aB))))))
 (aF (aP nd (cV (aC (aH bH (DE.bor (aH bN (DE.bor (aI (dvb 0) (DE.bor (aB)))) (DE.bor (aH bI (DE.bor (aH bB (DE.bor (aB)) (dvb 1))) (DE.bor (aB)))))) (dvb 1)) (aC (aH bH (DE.bor (aH bN (DE.bor (aI (dvb 0) (DE.bor (aB)))) (DE.bor (aH bI (DE.bor (aH bB (DE.bor (aB)) (dvb 1))) (DE.bor (aB)))))) (dvb 1)) (aJ)))))
 (aL (bC (DO.val (iH ["_law_x","_law_y","_law_p","_law_q","_law_off","_law_r","_law_s"] 2 [6,7,10,8,9] (cW (dv 5)) (λcl C s H fp=>eQ rfl (bE (aV kK) (bE (aV kK) (dD)))) (λcl C s H fp=>cV (aC (aH bI (DE.bor (aH bI (DE.bor (aH bB (dvb 2) (dvb 0))) (DE.bor (aH bB (dvb 3) (dvb 1))))) (DE.bor (aI (dvb 4) (DE.bor (aB))))) (aC (aH bI (DE.bor (aH bI (DE.bor (aH bB (dvb 5) (dvb 0))) (DE.bor (aH bB (dvb 6) (dvb 1))))) (DE.bor (aI (dvb 4) (DE.bor (aB))))) (aJ))))))))))))))))
theorem yV (Z:DefAt K mg "_law_ring" s__law_ring ["_law_head","_law_far"]) {Bi:FD} (Bs:FnAt P w K mg base "_law_rises" ["_law_number","_law_many"] 1 Bi) (m_reversed:mg "reversed" = none) (m_max:mg "max" = none) {F:FD} (len:∀ds Q,F ds Q->ds.length=2) (pure:∀ds Q,F ds Q->fA Bi { nx:=λ_=>Q .non,rt:=Q } (aS ["_law_head","_law_far","_law_lows","_law_highs","_law_top","_law_ring_here","_law_p","_law_q","_law_r","_law_s","_law_off"] ds)):FnAt P w K mg base "_law_ring" ["_law_head","_law_far"] 2 F :=
 Z.ok oV (λcdv A outer s H E hr=>xO Bs m_reversed m_max hr) len pure
theorem lO:FnScope ["_law_ring_here","_law_number","_law_at","_law_one","_law_other","_law_third"] ["_law_ring_here","_law_number"] (aE s__law_beside):=⟨rfl,rfl,rfl,by decide +kernel,rfl,by decide +kernel,by decide +kernel⟩
theorem sQ {f:Addr} {cdv:Value} {A:Around} {outer:List Env} {s:Shared} {H:Hp} {E:XK} (m_len:mg "len" = none) (hr:Room 0 (A.deeper (envOfC "_law_beside" (aE s__law_beside) s.heap.objs.size f cdv))) :
  DSs (dA CX0 P w K mg base ["_law_ring_here","_law_number","_law_at","_law_one","_law_other","_law_third"] "_law_beside" (aE s__law_beside) f cdv A outer s H E).nox (aM s__law_beside) (eX) :=
 have nd:=lO.nd
 aF (aP nd (aH bN (dvb 1) (DE.bor (dW m_len (dvb 0)))))
 (aF (aP nd (aI (dvb 0) (dvb 2)))
 (aF (aP nd (aI (dvb 0) (DE.bor (aH bH (dvb 2) (DE.bor (aB))))))
 (aF (aP nd (cV (aC (aH bH (DE.bor (aH bI (DE.bor (aI (dvb 3) (DE.bor (aB)))) (DE.bor (aI (dvb 4) (DE.bor (aB)))))) (DE.bor (aI (DE.bor (aI (dvb 0) (DE.bor (aH bN (DE.bor (aH bI (dvb 2) (DE.bor (aB)))) (DE.bor (dW m_len (dvb 0))))))) (DE.bor (aB))))) (aC (aH bH (DE.bor (aH bI (DE.bor (aI (dvb 3) (DE.bor (aB)))) (DE.bor (aI (dvb 4) (DE.bor (aB)))))) (DE.bor (aI (DE.bor (aI (dvb 0) (DE.bor (aH bN (DE.bor (aH bI (dvb 2) (DE.bor (aB)))) (DE.bor (dW m_len (dvb 0))))))) (DE.bor (aB))))) (aJ)))))
 (aL (bC (DO.val (jQ (aC (dv 3) (aC (dv 4) (aC (dv 5) (aJ)))))))))))
theorem tW (Z:DefAt K mg "_law_beside" s__law_beside ["_law_ring_here","_law_number"]) (m_len:mg "len" = none) {F:FD} (len:∀ds Q,F ds Q->ds.length=2) (pure:∀ds Q,F ds Q->eX { nx:=λ_=>Q .non,rt:=Q } (aS ["_law_ring_here","_law_number","_law_at","_law_one","_law_other","_law_third"] ds)):FnAt P w K mg base "_law_beside" ["_law_ring_here","_law_number"] 1 F :=
 Z.ok lO (λcdv A outer s H E hr=>sQ m_len hr) len pure
theorem lP:FnScope ["_law_head","_law_ring_here","_law_share_here","_law_far","_law_more","_law_own","_law_off"] ["_law_head","_law_ring_here","_law_share_here"] (aE s__law_second):=⟨rfl,rfl,rfl,by decide +kernel,rfl,by decide +kernel,by decide +kernel⟩
theorem iK:List.Nodup (["_law_x","_law_y","_law_off"]:List Str):=by decide +kernel
theorem sR {f:Addr} {cdv:Value} {A:Around} {outer:List Env} {s:Shared} {H:Hp} {E:XK} {Bj:FD} (Bu:FnAt P w K mg base "_law_beside" ["_law_ring_here","_law_number"] 1 Bj) {Ax:FD} (Bd:FnAt P w K mg base "_law_due" ["_law_share_here","_law_ring_here"] 2 Ax) {Aw:FD} (Bg:FnAt P w K mg base "_law_ring" ["_law_head","_law_far"] 2 Aw) (m_list:mg "list" = none) (hr:Room 2 (A.deeper (envOfC "_law_second" (aE s__law_second) s.heap.objs.size f cdv))) :
  DSs (dA CX0 P w K mg base ["_law_head","_law_ring_here","_law_share_here","_law_far","_law_more","_law_own","_law_off"] "_law_second" (aE s__law_second) f cdv A outer s H E).nox (aM s__law_second) (fB Bj Ax Aw) :=
 have nd:=lP.nd
 aF (dQ (bP pY (DE.bor (aH bN (DE.bor (aI (dvb 0) (DE.bor (aB)))) (DE.bor (aB)))) (DE.bor (aB))) (aL (bC (aQ Bd (hr.mono (by decide)) (aC (dv 2) (aC (IT m_list (dvb 1)) (aJ)))))) (bS))
 (aF (dQ (bP pY (DE.bor (aH bN (DE.bor (aI (dvb 0) (DE.bor (aB)))) (DE.bor (aB)))) (DE.bor (aB))) (aL (bC (aQ Bd (hr.mono (by decide)) (aC (dv 2) (aC (aQ Bu (hr.mono (by decide)) (aC (dv 1) (aC (aH cD (DE.bor (aI (dvb 0) (DE.bor (aB)))) (DE.bor (aB))) (aJ)))) (aJ)))))) (bS))
 (aF (aP nd (aI (DE.bor (DO.val (jQ (aC (aB) (aC (aB) (aC (aB) (aC (aB) (aJ)))))))) (DE.bor (aH bN (DE.bor (aH cD (DE.bor (aI (dvb 0) (DE.bor (aB)))) (DE.bor (aB)))) (DE.bor (aB))))))
 (aF (aP nd (aQ Bg (hr.mono (by decide)) (aC (jF (dvb 0) (iI (aB)) (iI (aB))) (aC (dv 3) (aJ)))))
 (aF (aP nd (aH bI (DE.bor (aB)) (DE.bor (aH bN (DE.bor (aH cD (DE.bor (aI (dvb 0) (DE.bor (aB)))) (DE.bor (aB)))) (DE.bor (aB))))))
 (aF (aP nd (cV (aC (aH cD (DE.bor (aH bB (DE.bor (aI (DE.bor (aI (dvb 1) (DE.bor (aB)))) (DE.bor (aB)))) (dvb 5))) (dvb 2)) (aC (aH cD (DE.bor (aH bB (DE.bor (aI (DE.bor (aI (dvb 1) (DE.bor (aB)))) (DE.bor (aB)))) (dvb 5))) (dvb 2)) (aJ)))))
 (aL (bC (aQ Bd (hr.mono (by decide)) (aC (dv 5) (aC (DO.val (iH ["_law_x","_law_y","_law_off"] 2 [6] (cW (dv 4)) (λcl C s H fp=>eQ rfl (bE (aV iK) (bE (aV iK) (dD)))) (λcl C s H fp=>cV (aC (aH bI (dvb 0) (DE.bor (aI (dvb 2) (DE.bor (aB))))) (aC (aH bI (dvb 1) (DE.bor (aI (dvb 2) (DE.bor (aB))))) (aJ)))))) (aJ)))))))))))
theorem tX (Z:DefAt K mg "_law_second" s__law_second ["_law_head","_law_ring_here","_law_share_here"]) {Bj:FD} (Bu:FnAt P w K mg base "_law_beside" ["_law_ring_here","_law_number"] 1 Bj) {Ax:FD} (Bd:FnAt P w K mg base "_law_due" ["_law_share_here","_law_ring_here"] 2 Ax) {Aw:FD} (Bg:FnAt P w K mg base "_law_ring" ["_law_head","_law_far"] 2 Aw) (m_list:mg "list" = none) {F:FD} (len:∀ds Q,F ds Q->ds.length=3) (pure:∀ds Q,F ds Q->fB Bj Ax Aw { nx:=λ_=>Q .non,rt:=Q } (aS ["_law_head","_law_ring_here","_law_share_here","_law_far","_law_more","_law_own","_law_off"] ds)):FnAt P w K mg base "_law_second" ["_law_head","_law_ring_here","_law_share_here"] 3 F :=
 Z.ok lP (λcdv A outer s H E hr=>sR Bu Bd Bg m_list hr) len pure
theorem xB:FnScope ["line","point","share"] ["line","point","share"] (aE s_excess):=⟨rfl,rfl,rfl,by decide +kernel,rfl,by decide +kernel,by decide +kernel⟩
theorem IC {f:Addr} {cdv:Value} {A:Around} {outer:List Env} {s:Shared} {H:Hp} {E:XK} (hr:Room 0 (A.deeper (envOfC "excess" (aE s_excess) s.heap.objs.size f cdv))) :
  DSs (dA CX0 P w K mg base ["line","point","share"] "excess" (aE s_excess) f cdv A outer s H E).nox (aM s_excess) (mB) :=
 have nd:=xB.nd
 aL (bC (aH bH (DE.bor (aH bI (DE.bor (aH bB (DE.bor (aI (dvb 0) (DE.bor (aB)))) (DE.bor (aI (dvb 1) (DE.bor (aB)))))) (DE.bor (aH bB (DE.bor (aI (dvb 0) (DE.bor (aB)))) (DE.bor (aI (dvb 1) (DE.bor (aB)))))))) (DE.bor (aH bB (DE.bor (aI (dvb 0) (DE.bor (aB)))) (dvb 2)))))
theorem JU (Z:DefAt K mg "excess" s_excess ["line","point","share"]) {F:FD} (len:∀ds Q,F ds Q->ds.length=3) (pure:∀ds Q,F ds Q->mB { nx:=λ_=>Q .non,rt:=Q } (aS ["line","point","share"] ds)):FnAt P w K mg base "excess" ["line","point","share"] 1 F :=
 Z.ok xB (λcdv A outer s H E hr=>IC hr) len pure
theorem qX:FnScope ["one","one_excess","other","other_excess","near","far"] ["one","one_excess","other","other_excess"] (aE s_crossing):=⟨rfl,rfl,rfl,by decide +kernel,rfl,by decide +kernel,by decide +kernel⟩
theorem zO {f:Addr} {cdv:Value} {A:Around} {outer:List Env} {s:Shared} {H:Hp} {E:XK} (m_abs:mg "abs" = none) (hr:Room 0 (A.deeper (envOfC "crossing" (aE s_crossing) s.heap.objs.size f cdv))) :
  DSs (dA CX0 P w K mg base ["one","one_excess","other","other_excess","near","far"] "crossing" (aE s_crossing) f cdv A outer s H E).nox (aM s_crossing) (iR) :=
 have nd:=qX.nd
 aF (aP nd (dH pK m_abs gM (aC (dv 1) (aJ))))
 (aF (aP nd (dH pK m_abs gM (aC (dv 3) (aJ))))
 (aL (bC (cV (aC (aH bI (DE.bor (aH bB (DE.bor (aI (dvb 0) (DE.bor (aB)))) (dvb 5))) (DE.bor (aH bB (DE.bor (aI (dvb 2) (DE.bor (aB)))) (dvb 4)))) (aC (aH bI (DE.bor (aH bB (DE.bor (aI (dvb 0) (DE.bor (aB)))) (dvb 5))) (DE.bor (aH bB (DE.bor (aI (dvb 2) (DE.bor (aB)))) (dvb 4)))) (aC (aH bI (dvb 4) (dvb 5)) (aJ))))))))
theorem BO (Z:DefAt K mg "crossing" s_crossing ["one","one_excess","other","other_excess"]) (m_abs:mg "abs" = none) {F:FD} (len:∀ds Q,F ds Q->ds.length=4) (pure:∀ds Q,F ds Q->iR { nx:=λ_=>Q .non,rt:=Q } (aS ["one","one_excess","other","other_excess","near","far"] ds)):FnAt P w K mg base "crossing" ["one","one_excess","other","other_excess"] 1 F :=
 Z.ok qX (λcdv A outer s H E hr=>zO m_abs hr) len pure
theorem mX:FnScope ["ones"] ["ones"] (aE s_neighbours):=⟨rfl,rfl,rfl,by decide +kernel,rfl,by decide +kernel,by decide +kernel⟩
theorem vF {f:Addr} {cdv:Value} {A:Around} {outer:List Env} {s:Shared} {H:Hp} {E:XK} (m_list:mg "list" = none) (m_zip:mg "zip" = none) (hr:Room 0 (A.deeper (envOfC "neighbours" (aE s_neighbours) s.heap.objs.size f cdv))) :
  DSs (dA CX0 P w K mg base ["ones"] "neighbours" (aE s_neighbours) f cdv A outer s H E).nox (aM s_neighbours) (fT) :=
 have nd:=mX.nd
 aL (bC (DO.val (tF m_list m_zip rfl (dvb 0) (DE.bor (aH lY (DE.bor (jF (dvb 0) (iI (aB)) (lV))) (DE.bor (jF (dvb 0) (lV) (iI (aB)))))))))
theorem vS (Z:DefAt K mg "neighbours" s_neighbours ["ones"]) (m_list:mg "list" = none) (m_zip:mg "zip" = none) {F:FD} (len:∀ds Q,F ds Q->ds.length=1) (pure:∀ds Q,F ds Q->fT { nx:=λ_=>Q .non,rt:=Q } (aS ["ones"] ds)):FnAt P w K mg base "neighbours" ["ones"] 1 F :=
 Z.ok mX (λcdv A outer s H E hr=>vF m_list m_zip hr) len pure
theorem jO:FnScope ["corners","excesses","points","one","other"] ["corners","excesses"] (aE s_points_within):=⟨rfl,rfl,rfl,by decide +kernel,rfl,by decide +kernel,by decide +kernel⟩
theorem pF {f:Addr} {cdv:Value} {A:Around} {outer:List Env} {s:Shared} {H:Hp} {E:XK} {F_crossing:FD} (Cc:FnAt P w K mg base "crossing" ["one","one_excess","other","other_excess"] 1 F_crossing) {F_neighbours:FD} (Bb:FnAt P w K mg base "neighbours" ["ones"] 1 F_neighbours) (m_list:mg "list" = none) (m_zip:mg "zip" = none) (hr:Room 1 (A.deeper (envOfC "points_within" (aE s_points_within) s.heap.objs.size f cdv))) :
  DSs (dA CX0 P w K mg base ["corners","excesses","points","one","other"] "points_within" (aE s_points_within) f cdv A outer s H E).nox (aM s_points_within) (dP F_crossing F_neighbours) :=
 have nd:=jO.nd
 aF (oE nd (jQ (aJ)))
 (aF (dX PassesOwn.never rfl (cW (aQ Bb (hr.mono (by decide)) (aC (DO.val (tF m_list m_zip rfl (dvb 0) (dvb 1))) (aJ)))) (eQ rfl (bE (aV nd) (bE (aV nd) (dD)))) (aF (dQ (bP GZ (DE.bor (aI (dvb 3) (DE.bor (aB)))) (DE.bor (aB))) (aL (gO 2 (cV (aC (aI (DE.bor (aI (dvb 3) (DE.bor (aB)))) (DE.bor (aB))) (aC (aI (DE.bor (aI (dvb 3) (DE.bor (aB)))) (DE.bor (aB))) (aC (aB) (aJ))))))) (bS))
 (aL (dQ (bP qT (DE.bor (aH bB (DE.bor (aI (dvb 3) (DE.bor (aB)))) (DE.bor (aI (dvb 4) (DE.bor (aB)))))) (DE.bor (aB))) (aL (gO 2 (aQ Cc (hr.mono (by decide)) (aC (aI (dvb 3) (DE.bor (aB))) (aC (aI (dvb 3) (DE.bor (aB))) (aC (aI (dvb 4) (DE.bor (aB))) (aC (aI (dvb 4) (DE.bor (aB))) (aJ)))))))) (bS)))))
 (aL (qQ 2 (bC (dv 2)))))
theorem qA (Z:DefAt K mg "points_within" s_points_within ["corners","excesses"]) {F_crossing:FD} (Cc:FnAt P w K mg base "crossing" ["one","one_excess","other","other_excess"] 1 F_crossing) {F_neighbours:FD} (Bb:FnAt P w K mg base "neighbours" ["ones"] 1 F_neighbours) (m_list:mg "list" = none) (m_zip:mg "zip" = none) {F:FD} (len:∀ds Q,F ds Q->ds.length=2) (pure:∀ds Q,F ds Q->dP F_crossing F_neighbours { nx:=λ_=>Q .non,rt:=Q } (aS ["corners","excesses","points","one","other"] ds)):FnAt P w K mg base "points_within" ["corners","excesses"] 2 F :=
 Z.ok jO (λcdv A outer s H E hr=>pF Cc Bb m_list m_zip hr) len pure
theorem HN:FnScope ["one","middle","other","along","across"] ["one","middle","other"] (aE s_turn):=⟨rfl,rfl,rfl,by decide +kernel,rfl,by decide +kernel,by decide +kernel⟩
theorem PU {f:Addr} {cdv:Value} {A:Around} {outer:List Env} {s:Shared} {H:Hp} {E:XK} (hr:Room 0 (A.deeper (envOfC "turn" (aE s_turn) s.heap.objs.size f cdv))) :
  DSs (dA CX0 P w K mg base ["one","middle","other","along","across"] "turn" (aE s_turn) f cdv A outer s H E).nox (aM s_turn) (sJ) :=
 have nd:=HN.nd
 aF (aP nd (aH bB (DE.bor (aH bH (DE.bor (aI (dvb 1) (DE.bor (aB)))) (DE.bor (aI (dvb 0) (DE.bor (aB)))))) (DE.bor (aH bH (DE.bor (aI (dvb 2) (DE.bor (aB)))) (DE.bor (aI (dvb 0) (DE.bor (aB))))))))
 (aF (aP nd (aH bB (DE.bor (aH bH (DE.bor (aI (dvb 1) (DE.bor (aB)))) (DE.bor (aI (dvb 0) (DE.bor (aB)))))) (DE.bor (aH bH (DE.bor (aI (dvb 2) (DE.bor (aB)))) (DE.bor (aI (dvb 0) (DE.bor (aB))))))))
 (aL (bC (aH bH (dvb 3) (dvb 4)))))
theorem QW (Z:DefAt K mg "turn" s_turn ["one","middle","other"]) {F:FD} (len:∀ds Q,F ds Q->ds.length=3) (pure:∀ds Q,F ds Q->sJ { nx:=λ_=>Q .non,rt:=Q } (aS ["one","middle","other","along","across"] ds)):FnAt P w K mg base "turn" ["one","middle","other"] 1 F :=
 Z.ok HN (λcdv A outer s H E hr=>PU hr) len pure
theorem mW:FnScope ["points","chain","point"] ["points"] (aE s_half_round):=⟨rfl,rfl,rfl,by decide +kernel,rfl,by decide +kernel,by decide +kernel⟩
theorem vE {f:Addr} {cdv:Value} {A:Around} {outer:List Env} {s:Shared} {H:Hp} {E:XK} {dR:FD} (Ch:FnAt P w K mg base "turn" ["one","middle","other"] 1 dR) (m_len:mg "len" = none) (hr:Room 1 (A.deeper (envOfC "half_round" (aE s_half_round) s.heap.objs.size f cdv))) :
  DSs (dA CX0 P w K mg base ["points","chain","point"] "half_round" (aE s_half_round) f cdv A outer s H E).nox (aM s_half_round) (fS dR) :=
 have nd:=mW.nd
 aF (oE nd (jQ (aJ)))
 (aF (dX PassesOwn.never rfl (cW (dv 0)) (aV nd) (aF (tG PassesOwn.never (DW.tst (DY (bP GY (DE.bor (dW m_len (dvb 1))) (DE.bor (aB))) (yD (bP GZ (DE.bor (aQ Ch (hr.mono (by decide)) (aC (aI (dvb 1) (DE.bor (wO qL (DE.bor (aB))))) (aC (aI (dvb 1) (DE.bor (wO qL (DE.bor (aB))))) (aC (dv 2) (aJ)))))) (DE.bor (aB)))))) (aL (UQ 1)))
 (aL (gO 1 (dv 2)))))
 (aL (bC (jF (dvb 1) (lV) (iI (wO qL (DE.bor (aB))))))))
theorem vR (Z:DefAt K mg "half_round" s_half_round ["points"]) {dR:FD} (Ch:FnAt P w K mg base "turn" ["one","middle","other"] 1 dR) (m_len:mg "len" = none) {F:FD} (len:∀ds Q,F ds Q->ds.length=1) (pure:∀ds Q,F ds Q->fS dR { nx:=λ_=>Q .non,rt:=Q } (aS ["points","chain","point"] ds)):FnAt P w K mg base "half_round" ["points"] 2 F :=
 Z.ok mW (λcdv A outer s H E hr=>vE Ch m_len hr) len pure
theorem uN:FnScope ["points","rising"] ["points"] (aE s_outline):=⟨rfl,rfl,rfl,by decide +kernel,rfl,by decide +kernel,by decide +kernel⟩
theorem DF {f:Addr} {cdv:Value} {A:Around} {outer:List Env} {s:Shared} {H:Hp} {E:XK} {F_half_round:FD} (Bt:FnAt P w K mg base "half_round" ["points"] 2 F_half_round) (m_list:mg "list" = none) (m_reversed:mg "reversed" = none) (m_sorted:mg "sorted" = none) (m_set:mg "set" = none) (hr:Room 2 (A.deeper (envOfC "outline" (aE s_outline) s.heap.objs.size f cdv))) :
  DSs (dA CX0 P w K mg base ["points","rising"] "outline" (aE s_outline) f cdv A outer s H E).nox (aM s_outline) (kB F_half_round) :=
 have nd:=uN.nd
 aF (aP nd (DO.val (DX hr m_sorted m_set rfl (dvb 0))))
 (aL (bC (aH lY (DE.bor (aQ Bt (hr.mono (by decide)) (aC (dv 1) (aJ)))) (DE.bor (aQ Bt (hr.mono (by decide)) (aC (DO.val (DV m_list m_reversed rfl (dvb 1))) (aJ)))))))
theorem EX (Z:DefAt K mg "outline" s_outline ["points"]) {F_half_round:FD} (Bt:FnAt P w K mg base "half_round" ["points"] 2 F_half_round) (m_list:mg "list" = none) (m_reversed:mg "reversed" = none) (m_sorted:mg "sorted" = none) (m_set:mg "set" = none) {F:FD} (len:∀ds Q,F ds Q->ds.length=1) (pure:∀ds Q,F ds Q->kB F_half_round { nx:=λ_=>Q .non,rt:=Q } (aS ["points","rising"] ds)):FnAt P w K mg base "outline" ["points"] 3 F :=
 Z.ok uN (λcdv A outer s H E hr=>DF Bt m_list m_reversed m_sorted m_set hr) len pure
theorem iT:FnScope ["one","other","larger","smaller","rest"] ["one","other"] (aE s_shared_divisor):=⟨rfl,rfl,rfl,by decide +kernel,rfl,by decide +kernel,by decide +kernel⟩
theorem oA {f:Addr} {cdv:Value} {A:Around} {outer:List Env} {s:Shared} {H:Hp} {E:XK} (m_abs:mg "abs" = none) (hr:Room 0 (A.deeper (envOfC "shared_divisor" (aE s_shared_divisor) s.heap.objs.size f cdv))) :
  DSs (dA CX0 P w K mg base ["one","other","larger","smaller","rest"] "shared_divisor" (aE s_shared_divisor) f cdv A outer s H E).nox (aM s_shared_divisor) (dE) :=
 have nd:=iT.nd
 aF (aP nd (dH pK m_abs gM (aC (dv 0) (aJ))))
 (aF (aP nd (dH pK m_abs gM (aC (dv 1) (aJ))))
 (aF (tG PassesOwn.never (bP yS (dvb 3) (DE.bor (aB))) (aF (aP nd (aH bN (dvb 2) (dvb 3)))
 (aF (aP nd (dv 3))
 (aL (aP nd (dv 4))))))
 (aL (bC (dv 2)))))
theorem oN (Z:DefAt K mg "shared_divisor" s_shared_divisor ["one","other"]) (m_abs:mg "abs" = none) {F:FD} (len:∀ds Q,F ds Q->ds.length=2) (pure:∀ds Q,F ds Q->dE { nx:=λ_=>Q .non,rt:=Q } (aS ["one","other","larger","smaller","rest"] ds)):FnAt P w K mg base "shared_divisor" ["one","other"] 1 F :=
 Z.ok iT (λcdv A outer s H E hr=>oA m_abs hr) len pure
theorem uO:FnScope ["share","points","corners","divisor","x","y"] ["share","points"] (aE s_settled):=⟨rfl,rfl,rfl,by decide +kernel,rfl,by decide +kernel,by decide +kernel⟩
theorem mN:List.Nodup (["x","y","divisor"]:List Str):=by decide +kernel
theorem DH {f:Addr} {cdv:Value} {A:Around} {outer:List Env} {s:Shared} {H:Hp} {E:XK} {cL:FD} (Ce:FnAt P w K mg base "outline" ["points"] 3 cL) {F_shared_divisor:FD} (Be:FnAt P w K mg base "shared_divisor" ["one","other"] 1 F_shared_divisor) (m_tuple:mg "tuple" = none) (m_len:mg "len" = none) (hr:Room 3 (A.deeper (envOfC "settled" (aE s_settled) s.heap.objs.size f cdv))) :
  DSs (dA CX0 P w K mg base ["share","points","corners","divisor","x","y"] "settled" (aE s_settled) f cdv A outer s H E).nox (aM s_settled) (kC cL F_shared_divisor) :=
 have nd:=uO.nd
 aF (aP nd (aQ Ce (hr.mono (by decide)) (aC (dv 1) (aJ))))
 (aF (dQ (bP qT (DE.bor (dW m_len (dvb 2))) (DE.bor (aB))) (aL (bC (lB))) (bS))
 (aF (aP nd (dv 0))
 (aF (dX PassesOwn.never rfl (cW (dv 2)) (eQ rfl (bE (aV nd) (bE (aV nd) (dD)))) (aL (aP nd (aQ Be (hr.mono (by decide)) (aC (aQ Be (hr.mono (by decide)) (aC (dv 3) (aC (dv 4) (aJ)))) (aC (dv 5) (aJ)))))))
 (aL (bC (cV (aC (aH cD (dvb 0) (dvb 3)) (aC (AF m_tuple (DE.bor (DO.val (iH ["x","y","divisor"] 2 [3] (cW (dv 2)) (λcl C s H fp=>eQ rfl (bE (aV mN) (bE (aV mN) (dD)))) (λcl C s H fp=>cV (aC (aH cD (dvb 0) (dvb 2)) (aC (aH cD (dvb 1) (dvb 2)) (aJ)))))))) (aJ)))))))))
theorem EY (Z:DefAt K mg "settled" s_settled ["share","points"]) {cL:FD} (Ce:FnAt P w K mg base "outline" ["points"] 3 cL) {F_shared_divisor:FD} (Be:FnAt P w K mg base "shared_divisor" ["one","other"] 1 F_shared_divisor) (m_tuple:mg "tuple" = none) (m_len:mg "len" = none) {F:FD} (len:∀ds Q,F ds Q->ds.length=2) (pure:∀ds Q,F ds Q->kC cL F_shared_divisor { nx:=λ_=>Q .non,rt:=Q } (aS ["share","points","corners","divisor","x","y"] ds)):FnAt P w K mg base "settled" ["share","points"] 4 F :=
 Z.ok uO (λcdv A outer s H E hr=>DH Ce Be m_tuple m_len hr) len pure
theorem lQ:FnScope ["piece","line","share","excesses","points","factor","point","grown"] ["piece","line"] (aE s_part_within):=⟨rfl,rfl,rfl,by decide +kernel,rfl,by decide +kernel,by decide +kernel⟩
theorem eU:List.Nodup (["x","y","own","factor"]:List Str):=by decide +kernel
theorem oM:List.Nodup (["corner","line","share"]:List Str):=by decide +kernel
theorem sS {f:Addr} {cdv:Value} {A:Around} {outer:List Env} {s:Shared} {H:Hp} {E:XK} {cX:FD} (Cg:FnAt P w K mg base "excess" ["line","point","share"] 1 cX) {F_points_within:FD} (Bp:FnAt P w K mg base "points_within" ["corners","excesses"] 2 F_points_within) {cM:FD} (Cf:FnAt P w K mg base "settled" ["share","points"] 4 cM) (m_min:mg "min" = none) (m_max:mg "max" = none) (hr:Room 4 (A.deeper (envOfC "part_within" (aE s_part_within) s.heap.objs.size f cdv))) :
  DSs (dA CX0 P w K mg base ["piece","line","share","excesses","points","factor","point","grown"] "part_within" (aE s_part_within) f cdv A outer s H E).nox (aM s_part_within) (fC cX F_points_within cM) :=
 have nd:=lQ.nd
 aF (aP nd (aI (dvb 0) (DE.bor (aB))))
 (aF (sG ["corner","line","share"] 1 [1,2] nd (DU (aI (dvb 0) (DE.bor (aB)))) (λcl C s H fp=>aV oM) (λcl C s H fp=>aQ Cg (hr.mono (by decide)) (aC (dv 1) (aC (dv 0) (aC (dv 2) (aJ))))))
 (aF (dQ (bP GZ (DE.bor (GE m_max rfl (dvb 3))) (DE.bor (aB))) (aL (bC (dv 0))) (bS))
 (aF (dQ (bP YA (DE.bor (QD m_min rfl (dvb 3))) (DE.bor (aB))) (aL (bC (lB))) (bS))
 (aF (qQ 3 (aP nd (aQ Bp (hr.mono (by decide)) (aC (aI (dvb 0) (DE.bor (aB))) (aC (dv 3) (aJ))))))
 (aF (aP nd (aB))
 (aF (dX PassesOwn.never rfl (cW (dv 4)) (aV nd) (aL (aP nd (aH bB (dvb 5) (DE.bor (aI (dvb 6) (DE.bor (aB))))))))
 (aF (sG ["x","y","own","factor"] 3 [5] nd (cW (dv 4)) (λcl C s H fp=>eQ rfl (bE (aV eU) (bE (aV eU) (bE (aV eU) (dD))))) (λcl C s H fp=>cV (aC (aH bB (dvb 0) (DE.bor (aH cD (dvb 3) (dvb 2)))) (aC (aH bB (dvb 1) (DE.bor (aH cD (dvb 3) (dvb 2)))) (aJ)))))
 (aL (qQ 7 (bC (aQ Cf (hr.mono (by decide)) (aC (aH bB (dvb 2) (dvb 5)) (aC (dv 7) (aJ))))))))))))))
theorem tY (Z:DefAt K mg "part_within" s_part_within ["piece","line"]) {cX:FD} (Cg:FnAt P w K mg base "excess" ["line","point","share"] 1 cX) {F_points_within:FD} (Bp:FnAt P w K mg base "points_within" ["corners","excesses"] 2 F_points_within) {cM:FD} (Cf:FnAt P w K mg base "settled" ["share","points"] 4 cM) (m_min:mg "min" = none) (m_max:mg "max" = none) {F:FD} (len:∀ds Q,F ds Q->ds.length=2) (pure:∀ds Q,F ds Q->fC cX F_points_within cM { nx:=λ_=>Q .non,rt:=Q } (aS ["piece","line","share","excesses","points","factor","point","grown"] ds)):FnAt P w K mg base "part_within" ["piece","line"] 5 F :=
 Z.ok lQ (λcdv A outer s H E hr=>sS Cg Bp Cf m_min m_max hr) len pure
theorem mY:FnScope ["piece","share","lines","one","other","right","up"] ["piece"] (aE s_side_lines):=⟨rfl,rfl,rfl,by decide +kernel,rfl,by decide +kernel,by decide +kernel⟩
theorem vG {f:Addr} {cdv:Value} {A:Around} {outer:List Env} {s:Shared} {H:Hp} {E:XK} {F_neighbours:FD} (Bb:FnAt P w K mg base "neighbours" ["ones"] 1 F_neighbours) (hr:Room 1 (A.deeper (envOfC "side_lines" (aE s_side_lines) s.heap.objs.size f cdv))) :
  DSs (dA CX0 P w K mg base ["piece","share","lines","one","other","right","up"] "side_lines" (aE s_side_lines) f cdv A outer s H E).nox (aM s_side_lines) (fU F_neighbours) :=
 have nd:=mY.nd
 aF (aP nd (aI (dvb 0) (DE.bor (aB))))
 (aF (oE nd (jQ (aJ)))
 (aF (dX PassesOwn.never rfl (cW (aQ Bb (hr.mono (by decide)) (aC (aI (dvb 0) (DE.bor (aB))) (aJ)))) (eQ rfl (bE (aV nd) (bE (aV nd) (dD)))) (aF (aP nd (aH bH (DE.bor (aI (dvb 4) (DE.bor (aB)))) (DE.bor (aI (dvb 3) (DE.bor (aB))))))
 (aF (aP nd (aH bH (DE.bor (aI (dvb 4) (DE.bor (aB)))) (DE.bor (aI (dvb 3) (DE.bor (aB))))))
 (aL (gO 2 (cV (aC (aH bB (dvb 1) (dvb 6)) (aC (aH bB (DE.bor (wO qL (dvb 1))) (dvb 5)) (aC (aH bH (DE.bor (aH bB (dvb 6) (DE.bor (aI (dvb 3) (DE.bor (aB)))))) (DE.bor (aH bB (dvb 5) (DE.bor (aI (dvb 3) (DE.bor (aB))))))) (aJ))))))))))
 (aL (qQ 2 (bC (dv 2))))))
theorem vT (Z:DefAt K mg "side_lines" s_side_lines ["piece"]) {F_neighbours:FD} (Bb:FnAt P w K mg base "neighbours" ["ones"] 1 F_neighbours) {F:FD} (len:∀ds Q,F ds Q->ds.length=1) (pure:∀ds Q,F ds Q->fU F_neighbours { nx:=λ_=>Q .non,rt:=Q } (aS ["piece","share","lines","one","other","right","up"] ds)):FnAt P w K mg base "side_lines" ["piece"] 2 F :=
 Z.ok mY (λcdv A outer s H E hr=>vG Bb hr) len pure
theorem xA:FnScope ["one","other","rest","line"] ["one","other"] (aE s_common):=⟨rfl,rfl,rfl,by decide +kernel,rfl,by decide +kernel,by decide +kernel⟩
theorem IB {f:Addr} {cdv:Value} {A:Around} {outer:List Env} {s:Shared} {H:Hp} {E:XK} {F_part_within:FD} (Bw:FnAt P w K mg base "part_within" ["piece","line"] 5 F_part_within) {F_side_lines:FD} (Bz:FnAt P w K mg base "side_lines" ["piece"] 2 F_side_lines) (hr:Room 5 (A.deeper (envOfC "common" (aE s_common) s.heap.objs.size f cdv))) :
  DSs (dA CX0 P w K mg base ["one","other","rest","line"] "common" (aE s_common) f cdv A outer s H E).nox (aM s_common) (lZ F_part_within F_side_lines) :=
 have nd:=xA.nd
 aF (aP nd (dv 0))
 (aF (dX PassesOwn.never rfl (cW (aQ Bz (hr.mono (by decide)) (aC (dv 1) (aJ)))) (aV nd) (aF (aP nd (aQ Bw (hr.mono (by decide)) (aC (dv 2) (aC (dv 3) (aJ)))))
 (aL (dQ (bP yR (dvb 2) (DE.bor (lB))) (aL (bC (lB))) (bS)))))
 (aL (bC (dv 2))))
theorem JT (Z:DefAt K mg "common" s_common ["one","other"]) {F_part_within:FD} (Bw:FnAt P w K mg base "part_within" ["piece","line"] 5 F_part_within) {F_side_lines:FD} (Bz:FnAt P w K mg base "side_lines" ["piece"] 2 F_side_lines) {F:FD} (len:∀ds Q,F ds Q->ds.length=2) (pure:∀ds Q,F ds Q->lZ F_part_within F_side_lines { nx:=λ_=>Q .non,rt:=Q } (aS ["one","other","rest","line"] ds)):FnAt P w K mg base "common" ["one","other"] 6 F :=
 Z.ok xA (λcdv A outer s H E hr=>IB Bw Bz hr) len pure
theorem ON:FnScope ["_law_script","_law_head","_law_ring_here","_law_share_here","_law_first","_law_second_here","_law_found","_law_cell","_law_spot","_law_both"] ["_law_script"] (aE s_law):=⟨rfl,rfl,rfl,by decide +kernel,rfl,by decide +kernel,by decide +kernel⟩
theorem UI {f:Addr} {cdv:Value} {A:Around} {outer:List Env} {s:Shared} {H:Hp} {E:XK} {Ax:FD} (Bd:FnAt P w K mg base "_law_due" ["_law_share_here","_law_ring_here"] 2 Ax) {At:FD} (Ay:FnAt P w K mg base "_law_lies" ["_law_piece","_law_spot"] 1 At) {Bk:FD} (Ca:FnAt P w K mg base "_law_mean" ["_law_ring_here","_law_cell"] 2 Bk) {Bh:FD} (Br:FnAt P w K mg base "_law_numbers" ["_law_script","_law_many"] 1 Bh) {Bq:FD} (By:FnAt P w K mg base "_law_right" ["_law_found","_law_one","_law_other"] 4 Bq) {Aw:FD} (Bg:FnAt P w K mg base "_law_ring" ["_law_head","_law_far"] 2 Aw) {Bl:FD} (Bv:FnAt P w K mg base "_law_second" ["_law_head","_law_ring_here","_law_share_here"] 3 Bl) {cA:FD} (Cd:FnAt P w K mg base "common" ["one","other"] 6 cA) (hr:Room 6 (A.deeper (envOfC "law" (aE s_law) s.heap.objs.size f cdv))) :
  DSs (dA CX0 P w K mg base ["_law_script","_law_head","_law_ring_here","_law_share_here","_law_first","_law_second_here","_law_found","_law_cell","_law_spot","_law_both"] "law" (aE s_law) f cdv A outer s H E).nox (aM s_law) (kA Ax At Bk Bh Bq Aw Bl cA) :=
 have nd:=ON.nd
 aF (aP nd (aQ Br (hr.mono (by decide)) (aC (dv 0) (aC (aB) (aJ)))))
 (aF (aP nd (aQ Bg (hr.mono (by decide)) (aC (dv 1) (aC (aI (DE.bor (DO.val (jQ (aC (aB) (aC (aH tU (DE.bor (aB)) (DE.bor (aB))) (aJ)))))) (DE.bor (aH bN (DE.bor (aI (dvb 1) (DE.bor (aB)))) (DE.bor (aB))))) (aJ)))))
 (aF (aP nd (aH bI (DE.bor (aB)) (DE.bor (aH bN (DE.bor (aI (dvb 1) (DE.bor (aB)))) (DE.bor (aB))))))
 (aF (aP nd (aQ Bd (hr.mono (by decide)) (aC (dv 3) (aC (dv 2) (aJ)))))
 (aF (aP nd (aQ Bv (hr.mono (by decide)) (aC (dv 1) (aC (dv 2) (aC (dv 3) (aJ))))))
 (aF (aP nd (aQ Cd (hr.mono (by decide)) (aC (dv 4) (aC (dv 5) (aJ)))))
 (aF (dQ (DW.tst (lC (jR (iW (aQ By (hr.mono (by decide)) (aC (dv 6) (aC (dv 4) (aC (dv 5) (aJ))))))) (lC (bP (TY hr) (DE.bor (aQ Cd (hr.mono (by decide)) (aC (dv 5) (aC (dv 4) (aJ))))) (dvb 6)) (lD (bP (TY hr) (DE.bor (aQ Cd (hr.mono (by decide)) (aC (dv 4) (aC (dv 4) (aJ))))) (dvb 4)))))) (aL (bC (iG))) (bS))
 (aF (dX PassesOwn.never rfl (cW (aH lY (DE.bor (DO.val (MP (dvb 0) (lV) (iI (aB))))) (DE.bor (DO.val (jQ (aC (aI (dvb 1) (DE.bor (aB))) (aJ))))))) (aV nd) (aF (aP nd (aQ Ca (hr.mono (by decide)) (aC (dv 2) (aC (aH bN (dvb 7) (DE.bor (aH tU (DE.bor (aB)) (DE.bor (aB))))) (aJ)))))
 (aF (aP nd (cV (aC (aI (dvb 8) (DE.bor (aB))) (aC (aI (dvb 8) (DE.bor (aB))) (aC (aH bB (DE.bor (aI (dvb 8) (DE.bor (aB)))) (dvb 3)) (aJ))))))
 (aF (aP nd (xY (nB pY (DE.bor (aQ Ay (hr.mono (by decide)) (aC (dv 4) (aC (dv 8) (aJ))))) (DE.bor (aB))) (DR (nB pY (DE.bor (aQ Ay (hr.mono (by decide)) (aC (dv 5) (aC (dv 8) (aJ))))) (DE.bor (aB))))))
 (aL (dQ (DW.tst (DY (iW (dv 9)) (yD (DW.tst (lC (bP yR (dvb 6) (DE.bor (lB))) (lD (bP yS (DE.bor (aQ Ay (hr.mono (by decide)) (aC (dv 6) (aC (dv 8) (aJ))))) (DE.bor (aB))))))))) (aL (bC (iG))) (bS)))))))
 (aL (bC (iG))))))))))
theorem UT {Ax:FD} (Bd:FnAt P w K mg base "_law_due" ["_law_share_here","_law_ring_here"] 2 Ax) {At:FD} (Ay:FnAt P w K mg base "_law_lies" ["_law_piece","_law_spot"] 1 At) {Bk:FD} (Ca:FnAt P w K mg base "_law_mean" ["_law_ring_here","_law_cell"] 2 Bk) {Bh:FD} (Br:FnAt P w K mg base "_law_numbers" ["_law_script","_law_many"] 1 Bh) {Bq:FD} (By:FnAt P w K mg base "_law_right" ["_law_found","_law_one","_law_other"] 4 Bq) {Aw:FD} (Bg:FnAt P w K mg base "_law_ring" ["_law_head","_law_far"] 2 Aw) {Bl:FD} (Bv:FnAt P w K mg base "_law_second" ["_law_head","_law_ring_here","_law_share_here"] 3 Bl) {cA:FD} (Cd:FnAt P w K mg base "common" ["one","other"] 6 cA) {F:FD} {f:Addr} {fd:FuncData} (Fu:Fun K "law" "law" s_law f fd) (len:∀ds Q,F ds Q->ds.length=1) (pure:∀ds Q,F ds Q->kA Ax At Bk Bh Bq Aw Bl cA { nx:=λ_=>Q .non,rt:=Q } (aS ["_law_script","_law_head","_law_ring_here","_law_share_here","_law_first","_law_second_here","_law_found","_law_cell","_law_spot","_law_both"] ds)):FnOk P w K mg base CX0 7 f fd ["_law_script"] (spD K F) :=
 TN Fu ON (λcdv A outer s H E hr=>UI Bd Ay Ca Br By Bg Bv Cd hr) len pure
end
structure TopF (K:PySem.W.Frag) (mg:Str->Option Value):Prop where
 d__law_divisor:DefAt K mg "_law_divisor" s__law_divisor ["_law_one","_law_other"]
 d__law_due:DefAt K mg "_law_due" s__law_due ["_law_share_here","_law_ring_here"]
 d__law_lies:DefAt K mg "_law_lies" s__law_lies ["_law_piece","_law_spot"]
 d__law_digit:DefAt K mg "_law_digit" s__law_digit ["_law_number","_law_base","_law_place"]
 d__law_mean:DefAt K mg "_law_mean" s__law_mean ["_law_ring_here","_law_cell"]
 d__law_numbers:DefAt K mg "_law_numbers" s__law_numbers ["_law_script","_law_many"]
 d__law_whole:DefAt K mg "_law_whole" s__law_whole ["_law_found"]
 d__law_numbers_whole:DefAt K mg "_law_numbers_whole" s__law_numbers_whole ["_law_piece"]
 d__law_turn:DefAt K mg "_law_turn" s__law_turn ["_law_one","_law_two","_law_three"]
 d__law_is_piece:DefAt K mg "_law_is_piece" s__law_is_piece ["_law_piece"]
 d__law_right:DefAt K mg "_law_right" s__law_right ["_law_found","_law_one","_law_other"]
 d__law_rises:DefAt K mg "_law_rises" s__law_rises ["_law_number","_law_many"]
 d__law_ring:DefAt K mg "_law_ring" s__law_ring ["_law_head","_law_far"]
 d__law_beside:DefAt K mg "_law_beside" s__law_beside ["_law_ring_here","_law_number"]
 d__law_second:DefAt K mg "_law_second" s__law_second ["_law_head","_law_ring_here","_law_share_here"]
 d_excess:DefAt K mg "excess" s_excess ["line","point","share"]
 d_crossing:DefAt K mg "crossing" s_crossing ["one","one_excess","other","other_excess"]
 d_neighbours:DefAt K mg "neighbours" s_neighbours ["ones"]
 d_points_within:DefAt K mg "points_within" s_points_within ["corners","excesses"]
 d_turn:DefAt K mg "turn" s_turn ["one","middle","other"]
 d_half_round:DefAt K mg "half_round" s_half_round ["points"]
 d_outline:DefAt K mg "outline" s_outline ["points"]
 d_shared_divisor:DefAt K mg "shared_divisor" s_shared_divisor ["one","other"]
 d_settled:DefAt K mg "settled" s_settled ["share","points"]
 d_part_within:DefAt K mg "part_within" s_part_within ["piece","line"]
 d_side_lines:DefAt K mg "side_lines" s_side_lines ["piece"]
 d_common:DefAt K mg "common" s_common ["one","other"]
 d_law:DefAt K mg "law" s_law ["_law_script"]
 m_abs:mg "abs" = none
 m_tuple:mg "tuple" = none
 m_min:mg "min" = none
 m_int:mg "int" = none
 m_len:mg "len" = none
 m_range:mg "range" = none
 m_sum:mg "sum" = none
 m_zip:mg "zip" = none
 m_max:mg "max" = none
 m_isinstance:mg "isinstance" = none
 m_bool:mg "bool" = none
 m_reversed:mg "reversed" = none
 m_list:mg "list" = none
 m_sorted:mg "sorted" = none
 m_set:mg "set" = none
theorem top_mk {K:PySem.W.Frag} {h:Heap} {mg:Str->Option Value} (X:K.In h) (G:h.Ns mainGlobals mg)
  {f0:Addr} {od0 an0:Option Addr} {sl0:Array (Option Value)} {oc0 kV0 dc0 pm0 cd0 ct0:Value}
  {f1:Addr} {od1 an1:Option Addr} {sl1:Array (Option Value)} {oc1 kV1 dc1 pm1 cd1 ct1:Value}
  {f2:Addr} {od2 an2:Option Addr} {sl2:Array (Option Value)} {oc2 kV2 dc2 pm2 cd2 ct2:Value}
  {f3:Addr} {od3 an3:Option Addr} {sl3:Array (Option Value)} {oc3 kV3 dc3 pm3 cd3 ct3:Value}
  {f4:Addr} {od4 an4:Option Addr} {sl4:Array (Option Value)} {oc4 kV4 dc4 pm4 cd4 ct4:Value}
  {f5:Addr} {od5 an5:Option Addr} {sl5:Array (Option Value)} {oc5 kV5 dc5 pm5 cd5 ct5:Value}
  {f6:Addr} {od6 an6:Option Addr} {sl6:Array (Option Value)} {oc6 kV6 dc6 pm6 cd6 ct6:Value}
  {f7:Addr} {od7 an7:Option Addr} {sl7:Array (Option Value)} {oc7 kV7 dc7 pm7 cd7 ct7:Value}
  {f8:Addr} {od8 an8:Option Addr} {sl8:Array (Option Value)} {oc8 kV8 dc8 pm8 cd8 ct8:Value}
  {f9:Addr} {od9 an9:Option Addr} {sl9:Array (Option Value)} {oc9 kV9 dc9 pm9 cd9 ct9:Value}
  {f10:Addr} {od10 an10:Option Addr} {sl10:Array (Option Value)} {oc10 kV10 dc10 pm10 cd10 ct10:Value}
  {f11:Addr} {od11 an11:Option Addr} {sl11:Array (Option Value)} {oc11 kV11 dc11 pm11 cd11 ct11:Value}
  {f12:Addr} {od12 an12:Option Addr} {sl12:Array (Option Value)} {oc12 kV12 dc12 pm12 cd12 ct12:Value}
  {f13:Addr} {od13 an13:Option Addr} {sl13:Array (Option Value)} {oc13 kV13 dc13 pm13 cd13 ct13:Value}
  {f14:Addr} {od14 an14:Option Addr} {sl14:Array (Option Value)} {oc14 kV14 dc14 pm14 cd14 ct14:Value}
  {f15:Addr} {od15 an15:Option Addr} {sl15:Array (Option Value)} {oc15 kV15 dc15 pm15 cd15 ct15:Value}
  {f16:Addr} {od16 an16:Option Addr} {sl16:Array (Option Value)} {oc16 kV16 dc16 pm16 cd16 ct16:Value}
  {f17:Addr} {od17 an17:Option Addr} {sl17:Array (Option Value)} {oc17 kV17 dc17 pm17 cd17 ct17:Value}
  {f18:Addr} {od18 an18:Option Addr} {sl18:Array (Option Value)} {oc18 kV18 dc18 pm18 cd18 ct18:Value}
  {f19:Addr} {od19 an19:Option Addr} {sl19:Array (Option Value)} {oc19 kV19 dc19 pm19 cd19 ct19:Value}
  {f20:Addr} {od20 an20:Option Addr} {sl20:Array (Option Value)} {oc20 kV20 dc20 pm20 cd20 ct20:Value}
  {f21:Addr} {od21 an21:Option Addr} {sl21:Array (Option Value)} {oc21 kV21 dc21 pm21 cd21 ct21:Value}
  {f22:Addr} {od22 an22:Option Addr} {sl22:Array (Option Value)} {oc22 kV22 dc22 pm22 cd22 ct22:Value}
  {f23:Addr} {od23 an23:Option Addr} {sl23:Array (Option Value)} {oc23 kV23 dc23 pm23 cd23 ct23:Value}
  {f24:Addr} {od24 an24:Option Addr} {sl24:Array (Option Value)} {oc24 kV24 dc24 pm24 cd24 ct24:Value}
  {f25:Addr} {od25 an25:Option Addr} {sl25:Array (Option Value)} {oc25 kV25 dc25 pm25 cd25 ct25:Value}
  {f26:Addr} {od26 an26:Option Addr} {sl26:Array (Option Value)} {oc26 kV26 dc26 pm26 cd26 ct26:Value}
  {f27:Addr} {od27 an27:Option Addr} {sl27:Array (Option Value)} {oc27 kV27 dc27 pm27 cd27 ct27:Value}
  (a0:PySem.W.nsIn K mainGlobals "_law_divisor" = some (some (.ref f0))) (l0:K.lookup f0=some ⟨oc0,od0,.func (PySem.W.fnOf "_law_divisor" "_law_divisor" (bG s__law_divisor) (aM s__law_divisor) (aE s__law_divisor) .none kV0 dc0 pm0 an0 cd0 ct0),sl0⟩) (c0:PySem.W.codeIn K cd0 "_law_divisor" = true) (k0:PySem.W.keepIn K (.ref f0)=true)
  (a1:PySem.W.nsIn K mainGlobals "_law_due" = some (some (.ref f1))) (l1:K.lookup f1=some ⟨oc1,od1,.func (PySem.W.fnOf "_law_due" "_law_due" (bG s__law_due) (aM s__law_due) (aE s__law_due) .none kV1 dc1 pm1 an1 cd1 ct1),sl1⟩) (c1:PySem.W.codeIn K cd1 "_law_due" = true) (k1:PySem.W.keepIn K (.ref f1)=true)
  (a2:PySem.W.nsIn K mainGlobals "_law_lies" = some (some (.ref f2))) (l2:K.lookup f2=some ⟨oc2,od2,.func (PySem.W.fnOf "_law_lies" "_law_lies" (bG s__law_lies) (aM s__law_lies) (aE s__law_lies) .none kV2 dc2 pm2 an2 cd2 ct2),sl2⟩) (c2:PySem.W.codeIn K cd2 "_law_lies" = true) (k2:PySem.W.keepIn K (.ref f2)=true)
  (a3:PySem.W.nsIn K mainGlobals "_law_digit" = some (some (.ref f3))) (l3:K.lookup f3=some ⟨oc3,od3,.func (PySem.W.fnOf "_law_digit" "_law_digit" (bG s__law_digit) (aM s__law_digit) (aE s__law_digit) .none kV3 dc3 pm3 an3 cd3 ct3),sl3⟩) (c3:PySem.W.codeIn K cd3 "_law_digit" = true) (k3:PySem.W.keepIn K (.ref f3)=true)
  (a4:PySem.W.nsIn K mainGlobals "_law_mean" = some (some (.ref f4))) (l4:K.lookup f4=some ⟨oc4,od4,.func (PySem.W.fnOf "_law_mean" "_law_mean" (bG s__law_mean) (aM s__law_mean) (aE s__law_mean) .none kV4 dc4 pm4 an4 cd4 ct4),sl4⟩) (c4:PySem.W.codeIn K cd4 "_law_mean" = true) (k4:PySem.W.keepIn K (.ref f4)=true)
  (a5:PySem.W.nsIn K mainGlobals "_law_numbers" = some (some (.ref f5))) (l5:K.lookup f5=some ⟨oc5,od5,.func (PySem.W.fnOf "_law_numbers" "_law_numbers" (bG s__law_numbers) (aM s__law_numbers) (aE s__law_numbers) .none kV5 dc5 pm5 an5 cd5 ct5),sl5⟩) (c5:PySem.W.codeIn K cd5 "_law_numbers" = true) (k5:PySem.W.keepIn K (.ref f5)=true)
  (a6:PySem.W.nsIn K mainGlobals "_law_whole" = some (some (.ref f6))) (l6:K.lookup f6=some ⟨oc6,od6,.func (PySem.W.fnOf "_law_whole" "_law_whole" (bG s__law_whole) (aM s__law_whole) (aE s__law_whole) .none kV6 dc6 pm6 an6 cd6 ct6),sl6⟩) (c6:PySem.W.codeIn K cd6 "_law_whole" = true) (k6:PySem.W.keepIn K (.ref f6)=true)
  (a7:PySem.W.nsIn K mainGlobals "_law_numbers_whole" = some (some (.ref f7))) (l7:K.lookup f7=some ⟨oc7,od7,.func (PySem.W.fnOf "_law_numbers_whole" "_law_numbers_whole" (bG s__law_numbers_whole) (aM s__law_numbers_whole) (aE s__law_numbers_whole) .none kV7 dc7 pm7 an7 cd7 ct7),sl7⟩) (c7:PySem.W.codeIn K cd7 "_law_numbers_whole" = true) (k7:PySem.W.keepIn K (.ref f7)=true)
  (a8:PySem.W.nsIn K mainGlobals "_law_turn" = some (some (.ref f8))) (l8:K.lookup f8=some ⟨oc8,od8,.func (PySem.W.fnOf "_law_turn" "_law_turn" (bG s__law_turn) (aM s__law_turn) (aE s__law_turn) .none kV8 dc8 pm8 an8 cd8 ct8),sl8⟩) (c8:PySem.W.codeIn K cd8 "_law_turn" = true) (k8:PySem.W.keepIn K (.ref f8)=true)
  (a9:PySem.W.nsIn K mainGlobals "_law_is_piece" = some (some (.ref f9))) (l9:K.lookup f9=some ⟨oc9,od9,.func (PySem.W.fnOf "_law_is_piece" "_law_is_piece" (bG s__law_is_piece) (aM s__law_is_piece) (aE s__law_is_piece) .none kV9 dc9 pm9 an9 cd9 ct9),sl9⟩) (c9:PySem.W.codeIn K cd9 "_law_is_piece" = true) (k9:PySem.W.keepIn K (.ref f9)=true)
  (a10:PySem.W.nsIn K mainGlobals "_law_right" = some (some (.ref f10))) (l10:K.lookup f10=some ⟨oc10,od10,.func (PySem.W.fnOf "_law_right" "_law_right" (bG s__law_right) (aM s__law_right) (aE s__law_right) .none kV10 dc10 pm10 an10 cd10 ct10),sl10⟩) (c10:PySem.W.codeIn K cd10 "_law_right" = true) (k10:PySem.W.keepIn K (.ref f10)=true)
  (a11:PySem.W.nsIn K mainGlobals "_law_rises" = some (some (.ref f11))) (l11:K.lookup f11=some ⟨oc11,od11,.func (PySem.W.fnOf "_law_rises" "_law_rises" (bG s__law_rises) (aM s__law_rises) (aE s__law_rises) .none kV11 dc11 pm11 an11 cd11 ct11),sl11⟩) (c11:PySem.W.codeIn K cd11 "_law_rises" = true) (k11:PySem.W.keepIn K (.ref f11)=true)
  (a12:PySem.W.nsIn K mainGlobals "_law_ring" = some (some (.ref f12))) (l12:K.lookup f12=some ⟨oc12,od12,.func (PySem.W.fnOf "_law_ring" "_law_ring" (bG s__law_ring) (aM s__law_ring) (aE s__law_ring) .none kV12 dc12 pm12 an12 cd12 ct12),sl12⟩) (c12:PySem.W.codeIn K cd12 "_law_ring" = true) (k12:PySem.W.keepIn K (.ref f12)=true)
  (a13:PySem.W.nsIn K mainGlobals "_law_beside" = some (some (.ref f13))) (l13:K.lookup f13=some ⟨oc13,od13,.func (PySem.W.fnOf "_law_beside" "_law_beside" (bG s__law_beside) (aM s__law_beside) (aE s__law_beside) .none kV13 dc13 pm13 an13 cd13 ct13),sl13⟩) (c13:PySem.W.codeIn K cd13 "_law_beside" = true) (k13:PySem.W.keepIn K (.ref f13)=true)
  (a14:PySem.W.nsIn K mainGlobals "_law_second" = some (some (.ref f14))) (l14:K.lookup f14=some ⟨oc14,od14,.func (PySem.W.fnOf "_law_second" "_law_second" (bG s__law_second) (aM s__law_second) (aE s__law_second) .none kV14 dc14 pm14 an14 cd14 ct14),sl14⟩) (c14:PySem.W.codeIn K cd14 "_law_second" = true) (k14:PySem.W.keepIn K (.ref f14)=true)
  (a15:PySem.W.nsIn K mainGlobals "excess" = some (some (.ref f15))) (l15:K.lookup f15=some ⟨oc15,od15,.func (PySem.W.fnOf "excess" "excess" (bG s_excess) (aM s_excess) (aE s_excess) .none kV15 dc15 pm15 an15 cd15 ct15),sl15⟩) (c15:PySem.W.codeIn K cd15 "excess" = true) (k15:PySem.W.keepIn K (.ref f15)=true)
  (a16:PySem.W.nsIn K mainGlobals "crossing" = some (some (.ref f16))) (l16:K.lookup f16=some ⟨oc16,od16,.func (PySem.W.fnOf "crossing" "crossing" (bG s_crossing) (aM s_crossing) (aE s_crossing) .none kV16 dc16 pm16 an16 cd16 ct16),sl16⟩) (c16:PySem.W.codeIn K cd16 "crossing" = true) (k16:PySem.W.keepIn K (.ref f16)=true)
  (a17:PySem.W.nsIn K mainGlobals "neighbours" = some (some (.ref f17))) (l17:K.lookup f17=some ⟨oc17,od17,.func (PySem.W.fnOf "neighbours" "neighbours" (bG s_neighbours) (aM s_neighbours) (aE s_neighbours) .none kV17 dc17 pm17 an17 cd17 ct17),sl17⟩) (c17:PySem.W.codeIn K cd17 "neighbours" = true) (k17:PySem.W.keepIn K (.ref f17)=true)
  (a18:PySem.W.nsIn K mainGlobals "points_within" = some (some (.ref f18))) (l18:K.lookup f18=some ⟨oc18,od18,.func (PySem.W.fnOf "points_within" "points_within" (bG s_points_within) (aM s_points_within) (aE s_points_within) .none kV18 dc18 pm18 an18 cd18 ct18),sl18⟩) (c18:PySem.W.codeIn K cd18 "points_within" = true) (k18:PySem.W.keepIn K (.ref f18)=true)
  (a19:PySem.W.nsIn K mainGlobals "turn" = some (some (.ref f19))) (l19:K.lookup f19=some ⟨oc19,od19,.func (PySem.W.fnOf "turn" "turn" (bG s_turn) (aM s_turn) (aE s_turn) .none kV19 dc19 pm19 an19 cd19 ct19),sl19⟩) (c19:PySem.W.codeIn K cd19 "turn" = true) (k19:PySem.W.keepIn K (.ref f19)=true)
  (a20:PySem.W.nsIn K mainGlobals "half_round" = some (some (.ref f20))) (l20:K.lookup f20=some ⟨oc20,od20,.func (PySem.W.fnOf "half_round" "half_round" (bG s_half_round) (aM s_half_round) (aE s_half_round) .none kV20 dc20 pm20 an20 cd20 ct20),sl20⟩) (c20:PySem.W.codeIn K cd20 "half_round" = true) (k20:PySem.W.keepIn K (.ref f20)=true)
  (a21:PySem.W.nsIn K mainGlobals "outline" = some (some (.ref f21))) (l21:K.lookup f21=some ⟨oc21,od21,.func (PySem.W.fnOf "outline" "outline" (bG s_outline) (aM s_outline) (aE s_outline) .none kV21 dc21 pm21 an21 cd21 ct21),sl21⟩) (c21:PySem.W.codeIn K cd21 "outline" = true) (k21:PySem.W.keepIn K (.ref f21)=true)
  (a22:PySem.W.nsIn K mainGlobals "shared_divisor" = some (some (.ref f22))) (l22:K.lookup f22=some ⟨oc22,od22,.func (PySem.W.fnOf "shared_divisor" "shared_divisor" (bG s_shared_divisor) (aM s_shared_divisor) (aE s_shared_divisor) .none kV22 dc22 pm22 an22 cd22 ct22),sl22⟩) (c22:PySem.W.codeIn K cd22 "shared_divisor" = true) (k22:PySem.W.keepIn K (.ref f22)=true)
  (a23:PySem.W.nsIn K mainGlobals "settled" = some (some (.ref f23))) (l23:K.lookup f23=some ⟨oc23,od23,.func (PySem.W.fnOf "settled" "settled" (bG s_settled) (aM s_settled) (aE s_settled) .none kV23 dc23 pm23 an23 cd23 ct23),sl23⟩) (c23:PySem.W.codeIn K cd23 "settled" = true) (k23:PySem.W.keepIn K (.ref f23)=true)
  (a24:PySem.W.nsIn K mainGlobals "part_within" = some (some (.ref f24))) (l24:K.lookup f24=some ⟨oc24,od24,.func (PySem.W.fnOf "part_within" "part_within" (bG s_part_within) (aM s_part_within) (aE s_part_within) .none kV24 dc24 pm24 an24 cd24 ct24),sl24⟩) (c24:PySem.W.codeIn K cd24 "part_within" = true) (k24:PySem.W.keepIn K (.ref f24)=true)
  (a25:PySem.W.nsIn K mainGlobals "side_lines" = some (some (.ref f25))) (l25:K.lookup f25=some ⟨oc25,od25,.func (PySem.W.fnOf "side_lines" "side_lines" (bG s_side_lines) (aM s_side_lines) (aE s_side_lines) .none kV25 dc25 pm25 an25 cd25 ct25),sl25⟩) (c25:PySem.W.codeIn K cd25 "side_lines" = true) (k25:PySem.W.keepIn K (.ref f25)=true)
  (a26:PySem.W.nsIn K mainGlobals "common" = some (some (.ref f26))) (l26:K.lookup f26=some ⟨oc26,od26,.func (PySem.W.fnOf "common" "common" (bG s_common) (aM s_common) (aE s_common) .none kV26 dc26 pm26 an26 cd26 ct26),sl26⟩) (c26:PySem.W.codeIn K cd26 "common" = true) (k26:PySem.W.keepIn K (.ref f26)=true)
  (a27:PySem.W.nsIn K mainGlobals "law" = some (some (.ref f27))) (l27:K.lookup f27=some ⟨oc27,od27,.func (PySem.W.fnOf "law" "law" (bG s_law) (aM s_law) (aE s_law) .none kV27 dc27 pm27 an27 cd27 ct27),sl27⟩) (c27:PySem.W.codeIn K cd27 "law" = true) (k27:PySem.W.keepIn K (.ref f27)=true)
  (z0:PySem.W.nsIn K mainGlobals "abs" = some none)
  (z1:PySem.W.nsIn K mainGlobals "tuple" = some none)
  (z2:PySem.W.nsIn K mainGlobals "min" = some none)
  (z3:PySem.W.nsIn K mainGlobals "int" = some none)
  (z4:PySem.W.nsIn K mainGlobals "len" = some none)
  (z5:PySem.W.nsIn K mainGlobals "range" = some none)
  (z6:PySem.W.nsIn K mainGlobals "sum" = some none)
  (z7:PySem.W.nsIn K mainGlobals "zip" = some none)
  (z8:PySem.W.nsIn K mainGlobals "max" = some none)
  (z9:PySem.W.nsIn K mainGlobals "isinstance" = some none)
  (z10:PySem.W.nsIn K mainGlobals "bool" = some none)
  (z11:PySem.W.nsIn K mainGlobals "reversed" = some none)
  (z12:PySem.W.nsIn K mainGlobals "list" = some none)
  (z13:PySem.W.nsIn K mainGlobals "sorted" = some none)
  (z14:PySem.W.nsIn K mainGlobals "set" = some none):TopF K mg :=
 ⟨⟨_,_,bR (st:=s__law_divisor) l0 c0 k0,PySem.W.mg_of X G a0,iE (λ_ _=>rfl)⟩,
  ⟨_,_,bR (st:=s__law_due) l1 c1 k1,PySem.W.mg_of X G a1,iE (λ_ _=>rfl)⟩,
  ⟨_,_,bR (st:=s__law_lies) l2 c2 k2,PySem.W.mg_of X G a2,iE (λ_ _=>rfl)⟩,
  ⟨_,_,bR (st:=s__law_digit) l3 c3 k3,PySem.W.mg_of X G a3,sU (λ_ _ _=>rfl)⟩,
  ⟨_,_,bR (st:=s__law_mean) l4 c4 k4,PySem.W.mg_of X G a4,iE (λ_ _=>rfl)⟩,
  ⟨_,_,bR (st:=s__law_numbers) l5 c5 k5,PySem.W.mg_of X G a5,iE (λ_ _=>rfl)⟩,
  ⟨_,_,bR (st:=s__law_whole) l6 c6 k6,PySem.W.mg_of X G a6,oB (λ_=>rfl)⟩,
  ⟨_,_,bR (st:=s__law_numbers_whole) l7 c7 k7,PySem.W.mg_of X G a7,oB (λ_=>rfl)⟩,
  ⟨_,_,bR (st:=s__law_turn) l8 c8 k8,PySem.W.mg_of X G a8,sU (λ_ _ _=>rfl)⟩,
  ⟨_,_,bR (st:=s__law_is_piece) l9 c9 k9,PySem.W.mg_of X G a9,oB (λ_=>rfl)⟩,
  ⟨_,_,bR (st:=s__law_right) l10 c10 k10,PySem.W.mg_of X G a10,sU (λ_ _ _=>rfl)⟩,
  ⟨_,_,bR (st:=s__law_rises) l11 c11 k11,PySem.W.mg_of X G a11,iE (λ_ _=>rfl)⟩,
  ⟨_,_,bR (st:=s__law_ring) l12 c12 k12,PySem.W.mg_of X G a12,iE (λ_ _=>rfl)⟩,
  ⟨_,_,bR (st:=s__law_beside) l13 c13 k13,PySem.W.mg_of X G a13,iE (λ_ _=>rfl)⟩,
  ⟨_,_,bR (st:=s__law_second) l14 c14 k14,PySem.W.mg_of X G a14,sU (λ_ _ _=>rfl)⟩,
  ⟨_,_,bR (st:=s_excess) l15 c15 k15,PySem.W.mg_of X G a15,sU (λ_ _ _=>rfl)⟩,
  ⟨_,_,bR (st:=s_crossing) l16 c16 k16,PySem.W.mg_of X G a16,XH (λ_ _ _ _=>rfl)⟩,
  ⟨_,_,bR (st:=s_neighbours) l17 c17 k17,PySem.W.mg_of X G a17,oB (λ_=>rfl)⟩,
  ⟨_,_,bR (st:=s_points_within) l18 c18 k18,PySem.W.mg_of X G a18,iE (λ_ _=>rfl)⟩,
  ⟨_,_,bR (st:=s_turn) l19 c19 k19,PySem.W.mg_of X G a19,sU (λ_ _ _=>rfl)⟩,
  ⟨_,_,bR (st:=s_half_round) l20 c20 k20,PySem.W.mg_of X G a20,oB (λ_=>rfl)⟩,
  ⟨_,_,bR (st:=s_outline) l21 c21 k21,PySem.W.mg_of X G a21,oB (λ_=>rfl)⟩,
  ⟨_,_,bR (st:=s_shared_divisor) l22 c22 k22,PySem.W.mg_of X G a22,iE (λ_ _=>rfl)⟩,
  ⟨_,_,bR (st:=s_settled) l23 c23 k23,PySem.W.mg_of X G a23,iE (λ_ _=>rfl)⟩,
  ⟨_,_,bR (st:=s_part_within) l24 c24 k24,PySem.W.mg_of X G a24,iE (λ_ _=>rfl)⟩,
  ⟨_,_,bR (st:=s_side_lines) l25 c25 k25,PySem.W.mg_of X G a25,oB (λ_=>rfl)⟩,
  ⟨_,_,bR (st:=s_common) l26 c26 k26,PySem.W.mg_of X G a26,iE (λ_ _=>rfl)⟩,
  ⟨_,_,bR (st:=s_law) l27 c27 k27,PySem.W.mg_of X G a27,oB (λ_=>rfl)⟩,
  PySem.W.mg_none_of X G z0,
  PySem.W.mg_none_of X G z1,
  PySem.W.mg_none_of X G z2,
  PySem.W.mg_none_of X G z3,
  PySem.W.mg_none_of X G z4,
  PySem.W.mg_none_of X G z5,
  PySem.W.mg_none_of X G z6,
  PySem.W.mg_none_of X G z7,
  PySem.W.mg_none_of X G z8,
  PySem.W.mg_none_of X G z9,
  PySem.W.mg_none_of X G z10,
  PySem.W.mg_none_of X G z11,
  PySem.W.mg_none_of X G z12,
  PySem.W.mg_none_of X G z13,
  PySem.W.mg_none_of X G z14⟩
theorem law_fn {P:Program} {w:World} {K:PySem.W.Frag} {mg:Str->Option Value} {base:Heap} {f:Addr} {fd:FuncData} (T:TopF K mg) (Fu:Fun K "law" "law" s_law f fd):FnOk P w K mg base CX0 7 f fd ["_law_script"] (spD K (HZ 63)):=by
 have Au:=rK (P:=P) (w:=w) (base:=base) T.d__law_divisor T.m_abs (F:=qN) GS qD
 have Bd:=BN (P:=P) (w:=w) (base:=base) T.d__law_due Au T.m_tuple T.m_min (F:=wA) QN yY
 have Ay:=yT (P:=P) (w:=w) (base:=base) T.d__law_lies T.m_int T.m_len T.m_range (F:=dY) EH rP
 have Bx:=vN (P:=P) (w:=w) (base:=base) T.d__law_digit T.m_range (F:=rW) JF uD
 have Ca:=yU (P:=P) (w:=w) (base:=base) T.d__law_mean Bx T.m_sum T.m_zip T.m_len T.m_max T.m_range (F:=sN) NG vV
 have Br:=rL (P:=P) (w:=w) (base:=base) T.d__law_numbers T.m_len T.m_min T.m_max T.m_range (F:=lS) AZ qE
 have Bo:=vQ (P:=P) (w:=w) (base:=base) T.d__law_whole T.m_isinstance T.m_bool T.m_int (F:=rZ) JK uF
 have Ba:=kR (P:=P) (w:=w) (base:=base) T.d__law_numbers_whole Bo T.m_len T.m_isinstance T.m_tuple (F:=nU) EI jY
 have Cb:=yW (P:=P) (w:=w) (base:=base) T.d__law_turn (F:=rX) JG vW
 have Bn:=pZ (P:=P) (w:=w) (base:=base) T.d__law_is_piece Au Ba Cb T.m_min T.m_len T.m_range (F:=zH) QO oR
 have By:=vO (P:=P) (w:=w) (base:=base) T.d__law_right Bn Ay (F:=kT) EK qF
 have Bs:=vP (P:=P) (w:=w) (base:=base) T.d__law_rises T.m_range (F:=rY) JJ uE
 have Bg:=yV (P:=P) (w:=w) (base:=base) T.d__law_ring Bs T.m_reversed T.m_max (F:=lT) JI rQ
 have Bu:=tW (P:=P) (w:=w) (base:=base) T.d__law_beside T.m_len (F:=nS) EE rO
 have Bv:=tX (P:=P) (w:=w) (base:=base) T.d__law_second Bu Bd Bg T.m_list (F:=kU) EL rR
 have Cg:=JU (P:=P) (w:=w) (base:=base) T.d_excess (F:=cX) EG BY
 have Cc:=BO (P:=P) (w:=w) (base:=base) T.d_crossing T.m_abs (F:=rV) JE vU
 have Bb:=vS (P:=P) (w:=w) (base:=base) T.d_neighbours T.m_list T.m_zip (F:=nT) JH rS
 have Bp:=qA (P:=P) (w:=w) (base:=base) T.d_points_within Cc Bb T.m_list T.m_zip (F:=nV) EJ nJ
 have Ch:=QW (P:=P) (w:=w) (base:=base) T.d_turn (F:=dR) NI KC
 have Bt:=vR (P:=P) (w:=w) (base:=base) T.d_half_round Ch T.m_len (F:=xJ) NF rN
 have Ce:=EX (P:=P) (w:=w) (base:=base) T.d_outline Bt T.m_list T.m_reversed T.m_sorted T.m_set (F:=cL) BA yZ
 have Be:=oN (P:=P) (w:=w) (base:=base) T.d_shared_divisor T.m_abs (F:=qN) GS mF
 have Cf:=EY (P:=P) (w:=w) (base:=base) T.d_settled Ce Be T.m_tuple T.m_len (F:=cM) BB zA
 have Bw:=tY (P:=P) (w:=w) (base:=base) T.d_part_within Cg Bp Cf T.m_min T.m_max (F:=pC) NH qG
 have Bz:=vT (P:=P) (w:=w) (base:=base) T.d_side_lines Bb (F:=nW) EM rT
 have Cd:=JT (P:=P) (w:=w) (base:=base) T.d_common Bw Bz (F:=cA) EF BX
 exact UT Bd Ay Ca Br By Bg Bv Cd (F:=HZ 63) Fu QP OD
end K15
end L2.R2
open PySem PySem.W PyProof.Rows
set_option maxRecDepth 100000 in
set_option maxHeartbeats 0 in
theorem PySem.Challenge.cw_recut_k15_what_two_have_in_common_holds : PySem.Challenge.rw_recut_k15_what_two_have_in_common.Holds := by
 w_on;o_law;k_head;(case hw=>w_witness2)
 k_fill
 refine L2.R2.walk_law (l:=PySem.Challenge.rw_recut_k15_what_two_have_in_common) (k:=7) (x:="_law_script") rfl rfl ⟨rfl,by decide,by decide⟩ (λw h Y=>PySem.W.kIn_of Y) rfl ?F
 case F =>
  intro w mg h KX G
  have T:L2.R2.K15.TopF (L2.KOf KX) mg:=by
   dsimp only[L2.KOf]
   refine' L2.R2.K15.top_mk KX G ?a0 ?l0 ?c0 ?k0 ?a1 ?l1 ?c1 ?k1 ?a2 ?l2 ?c2 ?k2 ?a3 ?l3 ?c3 ?k3 ?a4 ?l4 ?c4 ?k4 ?a5 ?l5 ?c5 ?k5 ?a6 ?l6 ?c6 ?k6 ?a7 ?l7 ?c7 ?k7 ?a8 ?l8 ?c8 ?k8 ?a9 ?l9 ?c9 ?k9 ?a10 ?l10 ?c10 ?k10 ?a11 ?l11 ?c11 ?k11 ?a12 ?l12 ?c12 ?k12 ?a13 ?l13 ?c13 ?k13 ?a14 ?l14 ?c14 ?k14 ?a15 ?l15 ?c15 ?k15 ?a16 ?l16 ?c16 ?k16 ?a17 ?l17 ?c17 ?k17 ?a18 ?l18 ?c18 ?k18 ?a19 ?l19 ?c19 ?k19 ?a20 ?l20 ?c20 ?k20 ?a21 ?l21 ?c21 ?k21 ?a22 ?l22 ?c22 ?k22 ?a23 ?l23 ?c23 ?k23 ?a24 ?l24 ?c24 ?k24 ?a25 ?l25 ?c25 ?k25 ?a26 ?l26 ?c26 ?k26 ?a27 ?l27 ?c27 ?k27 ?z0 ?z1 ?z2 ?z3 ?z4 ?z5 ?z6 ?z7 ?z8 ?z9 ?z10 ?z11 ?z12 ?z13 ?z14
   (case a0=>k_is);(case l0=>k_is);(case c0=>k_is);(case k0=>k_is)
   (case a1=>k_is);(case l1=>k_is);(case c1=>k_is);(case k1=>k_is)
   (case a2=>k_is);(case l2=>k_is);(case c2=>k_is);(case k2=>k_is)
   (case a3=>k_is);(case l3=>k_is);(case c3=>k_is);(case k3=>k_is)
   (case a4=>k_is);(case l4=>k_is);(case c4=>k_is);(case k4=>k_is)
   (case a5=>k_is);(case l5=>k_is);(case c5=>k_is);(case k5=>k_is)
   (case a6=>k_is);(case l6=>k_is);(case c6=>k_is);(case k6=>k_is)
   (case a7=>k_is);(case l7=>k_is);(case c7=>k_is);(case k7=>k_is)
   (case a8=>k_is);(case l8=>k_is);(case c8=>k_is);(case k8=>k_is)
   (case a9=>k_is);(case l9=>k_is);(case c9=>k_is);(case k9=>k_is)
   (case a10=>k_is);(case l10=>k_is);(case c10=>k_is);(case k10=>k_is)
   (case a11=>k_is);(case l11=>k_is);(case c11=>k_is);(case k11=>k_is)
   (case a12=>k_is);(case l12=>k_is);(case c12=>k_is);(case k12=>k_is)
   (case a13=>k_is);(case l13=>k_is);(case c13=>k_is);(case k13=>k_is)
   (case a14=>k_is);(case l14=>k_is);(case c14=>k_is);(case k14=>k_is)
   (case a15=>k_is);(case l15=>k_is);(case c15=>k_is);(case k15=>k_is)
   (case a16=>k_is);(case l16=>k_is);(case c16=>k_is);(case k16=>k_is)
   (case a17=>k_is);(case l17=>k_is);(case c17=>k_is);(case k17=>k_is)
   (case a18=>k_is);(case l18=>k_is);(case c18=>k_is);(case k18=>k_is)
   (case a19=>k_is);(case l19=>k_is);(case c19=>k_is);(case k19=>k_is)
   (case a20=>k_is);(case l20=>k_is);(case c20=>k_is);(case k20=>k_is)
   (case a21=>k_is);(case l21=>k_is);(case c21=>k_is);(case k21=>k_is)
   (case a22=>k_is);(case l22=>k_is);(case c22=>k_is);(case k22=>k_is)
   (case a23=>k_is);(case l23=>k_is);(case c23=>k_is);(case k23=>k_is)
   (case a24=>k_is);(case l24=>k_is);(case c24=>k_is);(case k24=>k_is)
   (case a25=>k_is);(case l25=>k_is);(case c25=>k_is);(case k25=>k_is)
   (case a26=>k_is);(case l26=>k_is);(case c26=>k_is);(case k26=>k_is)
   (case a27=>k_is);(case l27=>k_is);(case c27=>k_is);(case k27=>k_is)
   (case z0=>k_is)
   (case z1=>k_is)
   (case z2=>k_is)
   (case z3=>k_is)
   (case z4=>k_is)
   (case z5=>k_is)
   (case z6=>k_is)
   (case z7=>k_is)
   (case z8=>k_is)
   (case z9=>k_is)
   (case z10=>k_is)
   (case z11=>k_is)
   (case z12=>k_is)
   (case z13=>k_is)
   (case z14=>k_is)
  exact T.d_law.okL λbase f fd Fu=>L2.R2.K15.law_fn T Fu

import PyProof.Rows.All
import Wide.All
import OpenK.AllK
import Wide.FinOn
import Lean
import PyProof.EqAt
import PyProof.EqKinds
import PyProof.TupleCall
import PySem.Challenge.RW_recut_k14_a_piece_cut
set_option compiler.extract_closed false
local macro_rules | `(tactic| omega)=>`(tactic| lia)
local macro_rules | `(tactic| walk_at "vis")=>`(tactic| first | exact Or.inl rfl | exact Or.inr (Or.inl rfl) | exact Or.inr (Or.inr rfl) | exact Or.inr rfl)
local macro_rules | `(tactic| walk_at "loc")=>`(tactic| first | exact .inl rfl | exact .inr rfl | assumption)
set_option Elab.async false
set_option linter.all false
set_option maxRecDepth 100000
namespace L2
open PySem PySem.Spec PyProof.Rows
noncomputable abbrev Key:=Sum Int Str
noncomputable def UB:Key->Value->Bool
 | .inl k,v=>Value.isInt k v
 | .inr x,v=>Value.isStrOf x v
noncomputable def ZU (w:World):Key->Int
 | .inl k=>hashInt k
 | .inr x=>hashStr w x
theorem cP:∀{k:Key} {v:Value},UB k v=true->(∃i t,k=Sum.inl i/\v=Value.int i t)\/(∃x t,k=Sum.inr x/\v=Value.str x t)
 | .inl i,v,h=>by
  obtain⟨t,e⟩:=Value.isInt_shape (k:=i) (v:=v) h
  exact .inl ⟨i,t,rfl,e⟩
 | .inr x,v,h=>by
  obtain⟨t,e⟩:=Value.isStrOf_shape (x:=x) (v:=v) h
  exact .inr ⟨x,t,rfl,e⟩
theorem VR (a b:Int):decide ((Sum.inl a:Key)=Sum.inl b)=(a == b):=by
 by_cases e:a=b
 ·subst e;simp
 ·have h:¬(Sum.inl a:Key)=Sum.inl b:=λq=>e (Sum.inl.inj q)
  rw[decide_eq_false h]
  exact (beq_eq_false_iff_ne.mpr e).symm
theorem VU (a b:Str):decide ((Sum.inr a:Key)=Sum.inr b)=decide (a=b):=by
 by_cases e:a=b
 ·subst e;simp
 ·have h:¬(Sum.inr a:Key)=Sum.inr b:=λq=>e (Sum.inr.inj q)
  rw[decide_eq_false h,decide_eq_false e]
theorem VS (a:Int) (b:Str):decide ((Sum.inl a:Key)=Sum.inr b)=false:=decide_eq_false (λq=>nomatch q)
theorem VT (a:Str) (b:Int):decide ((Sum.inr a:Key)=Sum.inl b)=false:=decide_eq_false (λq=>nomatch q)
noncomputable def HP (prog:Program) (w:World):PySem.KeyKind prog w Key where
 is:=UB
 hash:=ZU w
 inj:=λv a b ha hb=>by
  rcases cP ha with ⟨i,t,rfl,rfl⟩ | ⟨x,t,rfl,rfl⟩
  ·rcases cP hb with ⟨j,u,rfl,e⟩ | ⟨y,u,rfl,e⟩
   ·injection e with e1 _;rw[e1]
   ·exact nomatch e
  ·rcases cP hb with ⟨j,u,rfl,e⟩ | ⟨y,u,rfl,e⟩
   ·exact nomatch e
   ·injection e with e1 _;rw[e1]
 byValue:=λk v h=>by
  rcases cP h with ⟨i,t,rfl,rfl⟩ | ⟨x,t,rfl,rfl⟩ <;> rfl
 pyHash:=λhv h=>by
  rcases cP hv with ⟨i,t,rfl,rfl⟩ | ⟨x,t,rfl,rfl⟩
  ·exact wpAny_pyHash_int h
  ·exact wpAny_pyHash_str h
 eqBool:=λhu hv h=>by
  rcases cP hu with ⟨i,t,rfl,rfl⟩ | ⟨x,t,rfl,rfl⟩
  ·rcases cP hv with ⟨j,u,rfl,rfl⟩ | ⟨y,u,rfl,rfl⟩
   ·rw[VR] at h;exact wpAny_eqBool_int h
   ·rw[VS] at h;exact SeqAt.EqAt.int_str i t y u _ _ _ _ h
  ·rcases cP hv with ⟨j,u,rfl,rfl⟩ | ⟨y,u,rfl,rfl⟩
   ·rw[VT] at h;exact SeqAt.EqAt.str_int x t j u _ _ _ _ h
   ·rw[VU] at h;exact wpAny_eqBool_str h
 «strs»:=λk x t v h=>by
  rcases cP h with ⟨i,u,rfl,e⟩ | ⟨y,u,rfl,e⟩
  ·exact nomatch e
  ·injection e with e1 _
   subst e1
   cases v <;> rfl
end L2
namespace L2
open PySem PySem.Spec PyProof.Rows
inductive V where
 | non | bl (b:Bool) | int (i:Int) | str (x:Str) | byt (b:Array UInt8) | flt (b:UInt64) | ref (a:Addr) | ty (n:String)
 deriving DecidableEq
noncomputable def RelV:V->Value->Prop
 | .non,u=>u=Value.none
 | .bl b,u=>u=Value.bool b
 | .int i,u=>∃t,u=Value.int i t
 | .str x,u=>∃t,u=Value.str x t
 | .byt b,u=>∃t,u=Value.bytes b t
 | .flt b,u=>∃t,u=Value.float b t
 | .ref a,u=>u=Value.ref a
 | .ty n,u=>u=Value.type n
noncomputable abbrev Vals:List V->List Value->Prop:=Paired RelV
theorem Vals.length {xs:List V} {us:List Value} (r:Vals xs us):xs.length=us.length:=Paired.length r
theorem Vals.get:∀{xs:List V} {us:List Value} {i:Nat} {x:V},Vals xs us->xs[i]? = some x->∃u,us[i]? = some u/\RelV x u
 | _,_,_,_,.nil,e=>by simp at e
 | _,_,0,_,.cons r _,e=>by simp at e;subst e;exact⟨_,rfl,r⟩
 | _,_,i+1,x,.cons _ t,e=>by
  obtain⟨u,h1,h2⟩:=Vals.get (i:=i) (x:=x) t (by simpa using e)
  exact⟨u,by simpa using h1,h2⟩
theorem Vals.set {x:V} {u:Value} (r:RelV x u):∀{xs:List V} {us:List Value} (i:Nat),Vals xs us->Vals (xs.set i x) (us.set i u)
 | _,_,_,.nil=>.nil
 | _,_,0,.cons _ t=>.cons r t
 | _,_,i+1,.cons q t=>.cons q (Vals.set r i t)
theorem Vals.append:∀{xs ys:List V} {us ws:List Value},Vals xs us->Vals ys ws->Vals (xs++ys) (us++ws)
 | _,_,_,_,.nil,s=>s
 | _,_,_,_,.cons r t,s=>.cons r (Vals.append t s)
theorem Vals.take:∀{xs:List V} {us:List Value} (n:Nat),Vals xs us->Vals (xs.take n) (us.take n)
 | _,_,0,_=>.nil
 | _,_,_+1,.nil=>.nil
 | _,_,n+1,.cons r t=>.cons r (Vals.take n t)
theorem Vals.drop:∀{xs:List V} {us:List Value} (n:Nat),Vals xs us->Vals (xs.drop n) (us.drop n)
 | _,_,0,r=>r
 | _,_,_+1,.nil=>.nil
 | _,_,n+1,.cons _ t=>Vals.drop n t
noncomputable def UN:Option V->Option Value->Prop
 | some v,some u=>RelV v u
 | none,none=>True
 | _,_=>False
noncomputable def KV {κ:Type}:List (κ × V)->List (κ × Value)->Prop:=Paired λ(p:κ × V) (q:κ × Value)=>p.1=q.1/\RelV p.2 q.2
noncomputable def kV:Key->V
 | .inl i=>.int i
 | .inr x=>.str x
inductive HO where
  | lst (xs:List V)
  | tup (xs:List V)
  | dK (kvs:List (Key × V)) | dT (kvs:List (List Key × V))
  | set (S:Int->Bool) (n:Nat)
  | ins (C dx:Addr) (fs:List (Str × V))
  | own (x:Addr)
  | xd (fs:List (Str × V))
  | met (f x:Addr)
  | rng (lo hi:Int)
  | frz (o:Obj) (u:HO)
  | tbl (ps:Array Value)
  | ext (φ:Heap->Prop)
noncomputable abbrev Hp:=Addr->Option HO
noncomputable def upd (H:Hp) (a:Addr) (o:HO):Hp:=λb=>if b=a then some o else H b
theorem bV {H:Hp} {a:Addr} {o:HO}:upd H a o a=some o:=by unfold upd;rw[if_pos rfl]
theorem aR {H:Hp} {a b:Addr} {o:HO} (h:b≠a):upd H a o b=H b:=by unfold upd;rw[if_neg h]
theorem HQ {H:Hp} {a b:Addr} {o u:HO} (h:H a=some o) (h':H b=some u) (d:o≠u):a≠b:=by
 intro e;subst e;rw[h] at h';exact d (Option.some.inj h')
theorem aS {H:Hp} {a b:Addr} {o:HO} (h:H a=some o) (h':H b=none):a≠b:=by
 intro e;subst e;rw[h] at h';cases h'
section
variable (P:Program) (w:World)
noncomputable def ObjOk (H:Hp) (h:Heap) (a:Addr):HO->Prop
 | .lst xs=>xs.length<=sizeLine/\∃(its:List Value) (n:Nat),Vals xs its/\h.get? a=some { cls:=.type "list",data:=.seq its.toArray n }
 | .tup xs=>xs.length<=sizeLine/\∃its:List Value,Vals xs its/\IsTup h a its.toArray
 | .dK kvs=>kvs.length<=sizeLine/\(a == sysModules)=false/\∃vs,KV kvs vs/\h.DictOf (HP P w) a vs
 | .dT kvs=>kvs.length<=sizeLine/\(a == sysModules)=false/\∃xs:List (List Key × Addr × Value),
   Paired (λ(p:List Key × V) (q:List Key × Addr × Value)=>p.1=q.1/\H q.2.1=some (.tup (p.1.map kV))/\RelV p.2 q.2.2) kvs xs /\
   ∃o es ep,h.get? a=some o/\o.ExactDict/\o.data = .dict es ep/\es.toList=xs.map (entryOfKey (tupleKind (HP P w)))/\(xs.map (·.1)).Nodup
 | .set S n=>h.SetOf (intKind P w) a S n
 | .ins C dx fs=>H dx=some (.own a)/\fs.length<=1000/\dx≠a/\h.get? a=some (PySem.W.instObj C dx) /\
   ∃mA,h.Ns1 dx mA/\(∀f,UN (fs.lookup f) (mA f))/\PySem.Within mA (fs.map (·.1))
 | .own _=>∃o,h.get? a=some o
 | .xd fs=>∃mA,h.Ns1 a mA/\∀f,UN (fs.lookup f) (mA f)
 | .rng lo hi=>∃t u v,h.get? a=some { cls:=.type "range",data:=.fields #[.int lo t,.int hi u,.int 1 v] }
 | .frz o u=>h.get? a=some o/\ObjOk H h a u
 | .tbl ps=>h.get? a=some { cls:=.none,data:=.fields ps }
 | .met f x=>h.get? a=some (PySem.W.methodObj (.ref f) (.ref x))
 | .ext φ=>φ h/\(∃o,h.get? a=some o)/\∀h1 h2:Heap,φ h1->(∀o,h1.get? a=some o->h2.get? a=some o)->φ h2
noncomputable def HOk (H:Hp) (h:Heap):Prop:=∀a o,H a=some o->ObjOk P w H h a o
end
section
variable {P:Program} {w:World} {H H':Hp} {h h':Heap} {a:Addr} {o:HO}
theorem ObjOk.lt (x:ObjOk P w H h a o):a<h.objs.size:=by
 cases o with
 | lst xs=>obtain⟨_,_,_,_,e⟩:=x;exact Heap.lt_size e
 | tup xs=>obtain⟨_,_,_,p⟩:=x;exact p.lt
 | dK kvs=>obtain⟨_,_,_,_,o,_,_,e,_⟩:=x;exact Heap.lt_size e
 | dT kvs=>obtain⟨_,_,_,_,o,_,_,e,_⟩:=x;exact Heap.lt_size e
 | set S n=>obtain⟨o,_,_,_,e,_⟩:=x;exact Heap.lt_size e
 | ins C dx fs=>obtain⟨_,_,_,e,_⟩:=x;exact Heap.lt_size e
 | own y=>obtain⟨_,e⟩:=x;exact Heap.lt_size e
 | xd fs=>obtain⟨_,⟨_,_,_,e,_⟩,_⟩:=x;exact Heap.lt_size e
 | rng lo hi=>obtain⟨_,_,_,e⟩:=x;exact Heap.lt_size e
 | frz ob u=>obtain⟨e,_⟩:=x;exact Heap.lt_size e
 | tbl ps=>exact Heap.lt_size (show h.get? a=some _ from x)
 | met f y=>exact Heap.lt_size (show h.get? a=some _ from x)
 | ext φ=>obtain⟨_,⟨_,e⟩,_⟩:=x;exact Heap.lt_size e
theorem Paired.mapP {α β:Type} {F G:α->β->Prop}:∀{l₁:List α} {l₂:List β},Paired F l₁ l₂->(∀a b,F a b->G a b)->Paired G l₁ l₂
 | _,_,.nil,_=>.nil
 | _,_,.cons r t,f=>.cons (f _ _ r) (Paired.mapP t f)
theorem ObjOk.stay (x:ObjOk P w H h a o) (k:∀b u,(b=a\/H b=some (.own a))->h.get? b=some u->h'.get? b=some u)
  (ho:∀b,H b=some (.own a)->H' b=some (.own a)) (ht:∀b xs,H b=some (.tup xs)->H' b=some (.tup xs)):ObjOk P w H' h' a o:=by
 induction o with
 | lst xs=>obtain⟨z,its,n,r,e⟩:=x;exact⟨z,its,n,r,k _ _ (.inl rfl) e⟩
 | tup xs=>obtain⟨z,its,r,ob,e,c⟩:=x;exact⟨z,its,r,ob,k _ _ (.inl rfl) e,c⟩
 | dK kvs=>obtain⟨z,y,vs,r,ob,es,ep,e,c⟩:=x;exact⟨z,y,vs,r,ob,es,ep,k _ _ (.inl rfl) e,c⟩
 | dT kvs =>
  obtain⟨z,y,xs,r,ob,es,ep,e,c⟩:=x
  exact⟨z,y,xs,Paired.mapP r λp q z=>⟨z.1,ht _ _ z.2.1,z.2.2⟩,ob,es,ep,k _ _ (.inl rfl) e,c⟩
 | set S n=>obtain⟨ob,es,ep,t,e,c⟩:=x;exact⟨ob,es,ep,t,k _ _ (.inl rfl) e,c⟩
 | ins C dx fs =>
  obtain⟨d,z,ne,e,mA,⟨od,es,ep,e2,c⟩,r⟩:=x
  exact⟨ho _ d,z,ne,k _ _ (.inl rfl) e,mA,⟨od,es,ep,k _ _ (.inr d) e2,c⟩,r⟩
 | own y=>obtain⟨ob,e⟩:=x;exact⟨ob,k _ _ (.inl rfl) e⟩
 | xd fs=>obtain⟨mA,⟨od,es,ep,e,c⟩,r⟩:=x;exact⟨mA,⟨od,es,ep,k _ _ (.inl rfl) e,c⟩,r⟩
 | rng lo hi=>obtain⟨t,u,v,e⟩:=x;exact⟨t,u,v,k _ _ (.inl rfl) e⟩
 | frz ob u ih=>obtain⟨e,q⟩:=x;exact⟨k _ _ (.inl rfl) e,ih q⟩
 | tbl ps =>
  have e:h.get? a=some { cls:=.none,data:=.fields ps }:=x
  show h'.get? a=some { cls:=.none,data:=.fields ps }
  exact k a _ (.inl rfl) e
 | met f y =>
  have e:h.get? a=some (PySem.W.methodObj (.ref f) (.ref y)):=x
  show h'.get? a=some (PySem.W.methodObj (.ref f) (.ref y))
  exact k a _ (.inl rfl) e
 | ext φ=>obtain⟨p,⟨o,e⟩,st⟩:=x;exact⟨st _ _ p λo q=>k _ _ (.inl rfl) q,⟨o,k _ _ (.inl rfl) e⟩,st⟩
theorem HOk.lt (x:HOk P w H h) (e:H a=some o):a<h.objs.size:=(x a o e).lt
theorem HOk.fresh (x:HOk P w H h) (e:h.objs.size<=a):H a=none:=by
 cases q:H a with
 | none=>rfl
 | some u=>exact absurd (Nat.lt_of_lt_of_le (x.lt q) e) (Nat.lt_irrefl _)
theorem HOk.kept (x:HOk P w H h) (k:∀b u,h.get? b=some u->h'.get? b=some u):HOk P w H h':=λa o e =>
 (x a o e).stay (λb u _ q=>k b u q) (λ_ q=>q) λ_ _ q=>q
theorem HOk.laid (x:HOk P w H h) (k:∀b u,h.get? b=some u->h'.get? b=some u) (hp:h.objs.size<=a) (new:ObjOk P w (upd H a o) h' a o):HOk P w (upd H a o) h':=λb u e=>by
 have hn:=x.fresh hp
 by_cases hb:b=a
 ·subst hb;rw[bV] at e;cases e;exact new
 ·rw[aR hb] at e
  exact (x b u e).stay (λc v _ q=>k c v q) (λc q=>by rw[aR (aS q hn)];exact q) λc xs q=>by rw[aR (aS q hn)];exact q
end
noncomputable def Rd (H:Hp) (a:Addr) (u:HO):Prop:=H a=some u\/∃o,H a=some (.frz o u)
theorem Rd.ok {P:Program} {w:World} {H:Hp} {h:Heap} {a:Addr} {u:HO} (r:Rd H a u) (x:HOk P w H h):ObjOk P w H h a u:=by
 rcases r with r | ⟨o,r⟩
 ·exact x a u r
 ·obtain⟨_,q⟩:=x a _ r
  exact q
noncomputable def Mut:Option HO->Prop
 | some (.lst _)=>True
 | some (.dK _)=>True
 | some (.dT _)=>True
 | some (.set _ _)=>True
 | some (.ins _ _ _)=>True
 | some (.ext _)=>True
 | _=>False
section
variable {P:Program} {w:World} {H:Hp} {h h':Heap} {x e:Addr} {o':HO}
theorem HOk.write (ok:HOk P w H h) (mu:Mut (H x)) (he:e=x\/H e=some (.own x)) (k:∀b u,b≠e->h.get? b=some u->h'.get? b=some u) (heo:∃u,h'.get? e=some u)
  (new:ObjOk P w (upd H x o') h' x o'):HOk P w (upd H x o') h':=λb u q=>by
 have nown:∀c y,H c=some (.own y)->c≠x:=λc y r z=>by subst z;rw[r] at mu;exact mu
 have ntup:∀c xs,H c=some (.tup xs)->c≠x:=λc xs r z=>by subst z;rw[r] at mu;exact mu
 by_cases hb:b=x
 ·subst hb;rw[bV] at q;cases q;exact new
 ·rw[aR hb] at q
  by_cases hbe:b=e
  ·have q':H b=some (.own x):=by
    rcases he with z | z
    ·exact absurd (hbe.trans z) hb
    ·rw[hbe];exact z
   rw[q] at q';cases q'
   obtain⟨v,hv⟩:=heo
   exact⟨v,by rw[hbe];exact hv⟩
  ·refine (ok b u q).stay (λc v hc r=>k c v ?_ r) (λc r=>by rw[aR (nown c b r)];exact r) λc xs r=>by rw[aR (ntup c xs r)];exact r
   rcases hc with rfl | hc
   ·exact hbe
   ·rintro rfl
    rcases he with z | z
    ·exact nown c b hc z
    ·rw[hc] at z;cases z;exact hb rfl
end
structure Un (fs ex:List Addr) (H H':Hp) (h h':Heap):Prop where
 keep:∀b o,h.get? b=some o->H b=none->b ∉ fs->b ∉ ex->h'.get? b=some o
 slot:∀b o,h.get? b=some o->H b=none->b∈fs->b ∉ ex->∃sl,h'.get? b=some { o with slots:=sl }
 free:∀b o,h.get? b=some o->H b=none->b ∉ ex->H' b=none
 there:∀b o,h.get? b=some o->b ∉ ex->∃o',h'.get? b=some o'
 tups:∀b xs,H b=some (.tup xs)->H' b=some (.tup xs)
 frzs:∀b o u,H b=some (.frz o u)->H' b=some (.frz o u)
 tbls:∀b ps,H b=some (.tbl ps)->∃more,H' b=some (.tbl (ps++more))
section
variable {fs fs' ex ex':List Addr} {H H1 H2:Hp} {h h1 h2 h':Heap} {a x e:Addr} {o:HO}
theorem Un.any (u:Un fs ex H H1 h h1) {b:Addr} {ob:Obj} (q:h.get? b=some ob) (n:H b=none) (hx:b ∉ ex):∃sl,h1.get? b=some { ob with slots:=sl }:=by
 by_cases hb:b∈fs
 ·exact u.slot b ob q n hb hx
 ·exact⟨ob.slots,u.keep b ob q n hb hx⟩
theorem Un.kept (k:∀b u,h.get? b=some u->h'.get? b=some u):Un fs ex H H h h' :=
 ⟨λb ob q _ _ _=>k b ob q,λb ob q _ _ _=>⟨ob.slots,k b ob q⟩,λ_ _ _ n _=>n,λb ob q _=>⟨ob,k b ob q⟩,λ_ _ q=>q,λ_ _ _ q=>q,λ_ ps q=>⟨#[],by rw[q];simp⟩⟩
theorem Un.refl:Un fs ex H H h h:=Un.kept λ_ _ q=>q
theorem Un.laid (k:∀b u,h.get? b=some u->h'.get? b=some u) (hp:h.objs.size<=a) (hn:H a=none):Un fs ex H (upd H a o) h h' where
 keep:=λb u q _ _ _=>k b u q
 slot:=λb u q _ _ _=>⟨u.slots,k b u q⟩
 free:=λb u q n _=>by rw[aR (Nat.ne_of_lt (Nat.lt_of_lt_of_le (Heap.lt_size q) hp))];exact n
 there:=λb u q _=>⟨u,k b u q⟩
 tups:=λb xs q=>by rw[aR (aS q hn)];exact q
 frzs:=λb u xs q=>by rw[aR (aS q hn)];exact q
 tbls:=λb ps q=>⟨#[],by rw[aR (aS q hn),q];simp⟩
theorem Un.write (mu:Mut (H x)) (he:e=x\/H e=some (.own x)) (k:∀b u,b≠e->h.get? b=some u->h'.get? b=some u) (heo:∃u,h'.get? e=some u):Un fs ex H (upd H x o) h h':=by
 have hx:∀b,H b=none->b≠x:=λb n z=>by subst z;rw[n] at mu;exact mu
 have hb:∀b,H b=none->b≠e:=λb n z=>by
  subst z
  rcases he with r | r
  ·exact hx b n r
  ·rw[n] at r;cases r
 have hm:∀b u,H b=some u->¬Mut (some u)->b≠x:=λb u q nm z=>by subst z;rw[q] at mu;exact nm mu
 refine⟨λb u q n _ _=>k b u (hb b n) q,λb u q n _ _=>⟨u.slots,k b u (hb b n) q⟩,λb u q n _=>by rw[aR (hx b n)];exact n,λb u q _=>?_,
  λb xs q=>by rw[aR (hm b _ q λz=>z)];exact q,λb u xs q=>by rw[aR (hm b _ q λz=>z)];exact q,λb ps q=>⟨#[],by rw[aR (hm b _ q λz=>z),q];simp⟩⟩
 by_cases hbe:b=e
 ·subst hbe;exact heo
 ·exact⟨u,k b u hbe q⟩
theorem Un.mono (u:Un fs ex H H1 h h1) (hs:∀b∈fs,b∈fs') (hx:∀b∈ex,b∈ex'):Un fs' ex' H H1 h h1 :=
 ⟨λb ob q n hb he=>u.keep b ob q n (λz=>hb (hs b z)) λz=>he (hx b z),λ_ _ q n _ he=>u.any q n λz=>he (hx _ z),λb ob q n he=>u.free b ob q n λz=>he (hx b z),λb ob q he=>u.there b ob q λz=>he (hx b z),u.tups,u.frzs,u.tbls⟩
end
noncomputable def trk (h:Heap) (H:Hp):List Addr:=(List.range h.objs.size).filter λa=>(H a).isSome
noncomputable def zE (h:Heap) (H:Hp):Heap:=PySem.W.hideAll h (trk h H)
theorem JH (h:Heap) (H:Hp):(zE h H).objs.size=h.objs.size:=PySem.W.hideAll_size _ _
theorem NF {h:Heap} {H:Hp} {b:Addr} {o:Obj} (e:h.get? b=some o) (n:H b=none):(zE h H).get? b=some o :=
 PySem.W.hideAll_get _ e λhm=>by
  have q:(H b).isSome=true:=(List.mem_filter.mp hm).2
  rw[n] at q;simp at q
theorem RM {h:Heap} {H:Hp} {b:Addr} {o:Obj} (e:(zE h H).get? b=some o):h.get? b=some o/\H b=none:=by
 have e':h.get? b=some o:=PySem.W.of_hideAll (trk h H) e
 refine⟨e',?_⟩
 cases q:H b with
 | none=>rfl
 | some x =>
  have hm:b∈trk h H:=List.mem_filter.mpr ⟨List.mem_range.mpr (Heap.lt_size e'),by simp[q]⟩
  have z:(zE h H).get? b=none:=PySem.W.hideAll_none (trk h H) hm
  rw[z] at e;cases e
noncomputable def QH (g h:Heap) (L:Addr):List (Addr × Obj):=(List.range h.objs.size).filterMap λa=>if a=L\/(g.get? a).isSome=true then none else (h.get? a).map λo=>(a,o)
noncomputable def rest (g h:Heap) (L d:Addr):List (Addr × Obj):=(QH g h L).filter λp=>decide (p.1≠d)
end L2
namespace L2
open PySem PySem.Spec PyProof.Rows
structure Mod (K:PySem.W.Frag) (mg:Str->Option Value) (base:Heap):Prop where
 kin:K.In base
 glob:base.Ns mainGlobals mg
 blt:∃mb,base.Ns builtinsNs mb/\∀x:Str,x≠"__name__"->mb x=bootBuiltins x
 nolimit:base.NoLimit
structure Cx where
 prog:Program
 w:World
 K:PySem.W.Frag
 mg:Str->Option Value
 base:Heap
 A:Around
 N:List Str
 s₀:Shared
 H₀:Hp
 env:Env
 outer:List Env
 stack:List Env
 ex:List Addr
 fn:Str->Bool
 calm:Bool
 pn:List (Addr × Obj)
 xe:Value->Shared->Prop
noncomputable def frs (l:List Env):List Addr:=l.filterMap (·.frame)
noncomputable abbrev Cx.fs (X:Cx):List Addr:=frs X.outer
noncomputable def Vis (sc:Scope) (x:Str):Prop:=sc.names.lookup x=some .local\/sc.names.lookup x=some .cell\/sc.names.lookup x=some .free
noncomputable def Loc (sc:Scope) (x:Str):Prop:=sc.names.lookup x=some .local\/sc.names.lookup x=some .cell
noncomputable def ZM (env:Env) (h:Heap) (m:Str->Option Value) (x:Str) (u:Value):Prop :=
 (env.kindOf x=some .local/\m x=some u)\/((env.kindOf x=some .cell\/env.kindOf x=some .free)/\∃c,env.cells.lookup x=some c/\h.IsCell c (some u))
structure Cx.Ok (X:Cx):Prop where
 mod:Mod X.K X.mg X.base
 kind:X.env.scope.kind = .function
 glob:X.env.globals=mainGlobals
 blt:X.env.builtins=builtinsNs
 above:X.s₀.heap.objs.size<=X.env.locals
 inj:∀x y c,X.env.cells.lookup x=some c->X.env.cells.lookup y=some c->x=y
 has:∀x,(X.env.kindOf x=some .cell\/X.env.kindOf x=some .free)->∃c,X.env.cells.lookup x=some c
 cab:∀x c,X.fn x=true->X.env.cells.lookup x=some c->X.s₀.heap.objs.size<=c
 hd:X.calm=true->X.A.handled=none
 frames:X.A.frames=some X.stack
 stk:X.stack=X.outer\/(X.stack=X.env::X.outer/\X.env.frame=some X.env.locals)
 exf:∀b∈X.ex,b≠X.env.locals/\∀x c,X.env.cells.lookup x=some c->c≠b
 bs:∀b o,X.base.get? b=some o->X.s₀.heap.get? b=some o/\X.H₀ b=none
 bsz:X.base.objs.size<=X.s₀.heap.objs.size
 noex:∀b o,X.base.get? b=some o->b ∉ X.ex
 exfs:∀b∈X.ex,b ∉ X.fs
 funs:X.s₀.heap.FunFrames X.base X.outer
 frf:∀b∈X.fs,X.H₀ b=none
structure Inv (X:Cx) (pins:List (Addr × Obj)) (σ:List (Option V)) (H:Hp) (s:Shared):Prop where
 ok:X.Ok
 os:s.os=X.s₀.os
 bare:AllBare s.gens
 base:Un X.fs X.ex X.H₀ H X.s₀.heap s.heap
 loc:∃m,s.heap.Ns X.env.locals m/\∀(i:Nat) (x:Str) (v:V),X.N[i]? = some x->σ[i]? = some (some v)->Vis X.env.scope x->∃u,RelV v u/\ZM X.env s.heap m x u
 cell:∀x c,X.env.cells.lookup x=some c->∃v,s.heap.IsCell c v
 free:H X.env.locals=none
 freeC:∀x c,X.env.cells.lookup x=some c->H c=none
 pin:∀p∈X.pn++pins,s.heap.get? p.1=some p.2/\H p.1=none/\p.1≠X.env.locals/\p.1 ∉ X.fs/\∀v,p.2.data≠.cell v
 hok:HOk X.prog X.w H s.heap
 len:σ.length=X.N.length
section
variable {X:Cx} {pins:List (Addr × Obj)} {σ:List (Option V)} {H H':Hp} {s:Shared} {h':Heap}
theorem Cx.Ok.nofr (ok:X.Ok) {b:Addr} {o:Obj} (e:X.base.get? b=some o):b ∉ X.fs:=λhb=>by
 have:=(ok.funs.mem hb).1
 rw[e] at this;cases this
theorem Inv.bs (I:Inv X pins σ H s):∀b o,X.base.get? b=some o->s.heap.get? b=some o/\H b=none:=λb o e =>
 ⟨I.base.keep b o (I.ok.bs b o e).1 (I.ok.bs b o e).2 (I.ok.nofr e) (I.ok.noex b o e),I.base.free b o (I.ok.bs b o e).1 (I.ok.bs b o e).2 (I.ok.noex b o e)⟩
theorem Inv.bk (I:Inv X pins σ H s):∀b o,X.base.get? b=some o->s.heap.get? b=some o:=λb o e=>(I.bs b o e).1
theorem Inv.mod (I:Inv X pins σ H s):Mod X.K X.mg X.base:=I.ok.mod
theorem Inv.kIn (I:Inv X pins σ H s):X.K.In s.heap:=I.ok.mod.kin.keeps I.bk
theorem Inv.lt (I:Inv X pins σ H s):X.env.locals<s.heap.objs.size:=let ⟨_,hn,_⟩:=I.loc;hn.lt
theorem Inv.sz (I:Inv X pins σ H s):X.s₀.heap.objs.size<=s.heap.objs.size:=Nat.le_trans I.ok.above (Nat.le_of_lt I.lt)
theorem Inv.nofs (I:Inv X pins σ H s) {a:Addr} (h:s.heap.objs.size<=a):a ∉ X.fs:=λhb=>by
 obtain⟨_,o,ho,_⟩:=I.ok.funs.mem hb
 exact absurd (Nat.lt_of_lt_of_le (Heap.lt_size ho) (Nat.le_trans I.sz h)) (Nat.lt_irrefl _)
theorem Inv.cne (I:Inv X pins σ H s):∀x c,X.env.cells.lookup x=some c->c≠X.env.locals:=λx c e z=>by
 obtain⟨v,o,ho,hd⟩:=I.cell x c e
 obtain⟨m,⟨o',es,ep,ho',hd',_⟩,_⟩:=I.loc
 rw[z,ho'] at ho;cases ho;rw[hd'] at hd;cases hd
theorem Inv.funs (I:Inv X pins σ H s):s.heap.FunFrames X.base X.outer:=by
 have all:∀(l:List Env),(∀b∈frs l,b∈X.fs)->X.s₀.heap.FunFrames X.base l->s.heap.FunFrames X.base l:=by
  intro l
  induction l with
  | nil=>intro _ _;trivial
  | cons env r ih =>
   intro hs hl
   obtain⟨hk,⟨L,o,hf,hn,ho,hd⟩,hr⟩:=hl
   have hL:L∈X.fs:=hs L (by unfold frs;rw[List.filterMap_cons,hf];exact List.mem_cons_self)
   obtain⟨sl,e⟩:=I.base.slot L o ho (I.ok.frf L hL) hL λz=>I.ok.exfs L z hL
   exact⟨hk,⟨L,_,hf,hn,e,hd⟩,ih (λb hb=>hs b (by unfold frs;rw[List.filterMap_cons,hf];exact List.mem_cons_of_mem _ hb)) hr⟩
 exact all X.outer (λ_ hb=>hb) I.ok.funs
theorem Inv.stack (I:Inv X pins σ H s):s.heap.FunFrames X.base X.stack:=by
 rcases I.ok.stk with e | ⟨e,hf⟩
 ·rw[e];exact I.funs
 ·rw[e]
  obtain⟨m,hn,_⟩:=I.loc
  refine .cons (by rw[I.ok.kind];decide) hf hn ?_ I.funs
  exact Heap.get?_none_of_le (Nat.le_trans I.ok.bsz I.ok.above)
theorem Inv.stkSub (I:Inv X pins σ H s):∀b∈frs X.stack,b∈X.env.locals::X.fs:=λb hb=>by
 rcases I.ok.stk with e | ⟨e,hf⟩
 ·rw[e] at hb;exact List.mem_cons_of_mem _ hb
 ·rw[e] at hb
  unfold frs at hb
  rw[List.filterMap_cons,hf] at hb
  exact hb
theorem Inv.stkFree (I:Inv X pins σ H s):∀b∈frs X.stack,H b=none:=λb hb=>by
 rcases List.mem_cons.mp (I.stkSub b hb) with e | hb
 ·rw[e];exact I.free
 ·obtain⟨_,o,ho,_⟩:=I.ok.funs.mem hb
  exact I.base.free b o ho (I.ok.frf b hb) λz=>I.ok.exfs b z hb
theorem Inv.step {g':Array GenState} {t':Nat} {d':Drawn} {ch:List Addr} (I:Inv X pins σ H s)
  (hch:∀b∈ch,(b∈X.ex\/X.s₀.heap.objs.size<=b)/\b≠X.env.locals/\(∀x c,X.env.cells.lookup x=some c->c≠b)/\∀p∈X.pn++pins,p.1≠b)
  (keep:∀b o,b≠X.env.locals->b ∉ X.fs->b ∉ ch->s.heap.get? b=some o->H b=none->h'.get? b=some o)
  (slot:∀b o,b≠X.env.locals->b∈X.fs->b ∉ ch->s.heap.get? b=some o->H b=none->∃sl,h'.get? b=some { o with slots:=sl }) (free:∀b o,b ∉ ch->s.heap.get? b=some o->H b=none->H' b=none)
  (there:∀b o,b ∉ ch->s.heap.get? b=some o->∃o',h'.get? b=some o')
  (tups:∀b xs,H b=some (.tup xs)->H' b=some (.tup xs)) (frzs:∀b o u,H b=some (.frz o u)->H' b=some (.frz o u)) (tbls:∀b ps,H b=some (.tbl ps)->∃more,H' b=some (.tbl (ps++more)))
  (ns:∀m,s.heap.Ns X.env.locals m->h'.Ns X.env.locals m) (hok:HOk X.prog X.w H' h') (hg:AllBare g') :
  Inv X pins σ H' { s with heap:=h',gens:=g',drawn:=d',toks:=t' }:=by
 have neL:∀b o,X.s₀.heap.get? b=some o->b≠X.env.locals:=λb o e=>Nat.ne_of_lt (Nat.lt_of_lt_of_le (Heap.lt_size e) I.ok.above)
 have neC:∀b o,X.s₀.heap.get? b=some o->b ∉ X.ex->b ∉ ch:=λb o e hx hb=>by
  rcases (hch b hb).1 with z | z
  ·exact hx z
  ·exact absurd (Nat.lt_of_lt_of_le (Heap.lt_size e) z) (Nat.lt_irrefl _)
 have cellK:∀x c,X.env.cells.lookup x=some c->∀v,s.heap.IsCell c v->h'.IsCell c v:=λx c e v ⟨o,ho,hd⟩=>by
  have nch:c ∉ ch:=λz=>(hch c z).2.2.1 x c e rfl
  by_cases hc:c∈X.fs
  ·obtain⟨sl,q⟩:=slot c o (I.cne x c e) hc nch ho (I.freeC x c e)
   exact⟨_,q,hd⟩
  ·exact⟨o,keep c o (I.cne x c e) hc nch ho (I.freeC x c e),hd⟩
 refine⟨I.ok,I.os,hg,⟨λb o e n hb hx=>?_,λb o e n hb hx=>?_,λb o e n hx=>?_,λb o e hx=>?_,λb xs e=>tups b xs (I.base.tups b xs e),λb o xs e=>frzs b o xs (I.base.frzs b o xs e),λb ps e=>?_⟩,?_,λx c e=>?_,?_,λx c e=>?_,λp hp=>?_,hok,I.len⟩
 ·exact keep b o (neL b o e) hb (neC b o e hx) (I.base.keep b o e n hb hx) (I.base.free b o e n hx)
 ·obtain⟨sl,e1⟩:=I.base.slot b o e n hb hx
  obtain⟨sl',e2⟩:=slot b _ (neL b o e) hb (neC b o e hx) e1 (I.base.free b o e n hx)
  exact⟨sl',e2⟩
 ·obtain⟨o',e1⟩:=I.base.there b o e hx
  exact free b o' (neC b o e hx) e1 (I.base.free b o e n hx)
 ·obtain⟨o',e1⟩:=I.base.there b o e hx
  exact there b o' (neC b o e hx) e1
 ·obtain⟨m1,e1⟩:=I.base.tbls b ps e
  obtain⟨m2,e2⟩:=tbls b _ e1
  exact⟨m1++m2,by rw[e2,Array.append_assoc]⟩
 ·obtain⟨m,hn,hl⟩:=I.loc
  refine⟨m,ns m hn,λi x v e1 e2 e3=>?_⟩
  obtain⟨u,r,l⟩:=hl i x v e1 e2 e3
  refine⟨u,r,?_⟩
  rcases l with l | ⟨k,c,e,z⟩
  ·exact .inl l
  ·exact .inr ⟨k,c,e,cellK x c e _ z⟩
 ·obtain⟨v,z⟩:=I.cell x c e
  exact⟨v,cellK x c e v z⟩
 ·obtain⟨m,⟨o,_,_,ho,_⟩,_⟩:=I.loc
  exact free _ o (λz=>(hch _ z).2.1 rfl) ho I.free
 ·obtain⟨v,o,ho,hd⟩:=I.cell x c e
  exact free c o (λz=>(hch c z).2.2.1 x c e rfl) ho (I.freeC x c e)
 ·obtain⟨e,n,ne,nf,d⟩:=I.pin p hp
  have nch:p.1 ∉ ch:=λz=>(hch p.1 z).2.2.2 p hp rfl
  exact⟨keep p.1 p.2 ne nf nch e n,free p.1 p.2 nch e n,ne,nf,d⟩
theorem Inv.un {t':Nat} (I:Inv X pins σ H s) (u:Un X.fs [] H H' s.heap h') (hok:HOk X.prog X.w H' h'):Inv X pins σ H' { s with heap:=h',toks:=t' }:=by
 obtain⟨m,⟨o,es,ep,ho,r⟩,_⟩:=id I.loc
 obtain⟨sl,hL⟩:=u.any ho I.free (by simp)
 exact I.step (g':=s.gens) (d':=s.drawn) (ch:=[]) (λ_ z=>nomatch z) (λb o _ hb _ e n=>u.keep b o e n hb (by simp)) (λb o _ hb _ e n=>u.slot b o e n hb (by simp)) (λb o _ e n=>u.free b o e n (by simp)) (λb o _ e=>u.there b o e (by simp)) u.tups u.frzs u.tbls (λm' hm=>by
  obtain⟨o',es',ep',ho',r'⟩:=hm
  rw[ho] at ho';cases ho'
  exact⟨_,es',ep',hL,r'⟩) hok I.bare
theorem Inv.call {g':Array GenState} {t':Nat} {d':Drawn} {ch:List Addr} (I:Inv X pins σ H s) (u:Un (frs X.stack) ch H H' s.heap h') (hok:HOk X.prog X.w H' h') (hg:AllBare g')
  (hch:∀b∈ch,(b∈X.ex\/X.s₀.heap.objs.size<=b)/\b≠X.env.locals/\(∀x c,X.env.cells.lookup x=some c->c≠b)/\∀p∈X.pn++pins,p.1≠b) :
  Inv X pins σ H' { s with heap:=h',gens:=g',drawn:=d',toks:=t' }:=by
 obtain⟨m,⟨o,es,ep,ho,r⟩,_⟩:=id I.loc
 obtain⟨sl,hL⟩:=u.any ho I.free λz=>(hch _ z).2.1 rfl
 exact I.step (ch:=ch) hch (λb o hL hb hc e n=>u.keep b o e n (λz=>(List.mem_cons.mp (I.stkSub b z)).elim hL hb) hc) (λb o _ _ hc e n=>u.any e n hc) (λb o hc e n=>u.free b o e n hc) (λb o hc e=>u.there b o e hc) u.tups u.frzs u.tbls (λm' hm=>by
  obtain⟨o',es',ep',ho',r'⟩:=hm
  rw[ho] at ho';cases ho'
  exact⟨_,es',ep',hL,r'⟩) hok hg
theorem Inv.turned {t':Nat} {it:Addr} (I:Inv X pins σ H s) (k:∀b o,b≠it->s.heap.get? b=some o->h'.get? b=some o) (hn:H it=none) (hL:it≠X.env.locals)
  (h1:it∈X.ex\/X.s₀.heap.objs.size<=it) (h2:∀x c,X.env.cells.lookup x=some c->c≠it) (h3:∀p∈X.pn++pins,p.1≠it):Inv X pins σ H { s with heap:=h',toks:=t' }:=by
 have nit:∀b u,H b=some u->b≠it:=λb u e z=>by rw[z,hn] at e;cases e
 refine I.step (g':=s.gens) (d':=s.drawn) (ch:=[it]) (λb hb=>?_) (λb o _ _ hc e _=>k b o (λz=>hc (by simp[z])) e) (λb o _ _ hc e _=>⟨o.slots,k b o (λz=>hc (by simp[z])) e⟩) (λ_ _ _ _ n=>n)
  (λb o hc e=>⟨o,k b o (λz=>hc (by simp[z])) e⟩) (λ_ _ e=>e) (λ_ _ _ e=>e) (λb ps e=>⟨#[],by rw[e];simp⟩) (λm hm=>?_) (λb u e=>?_) I.bare
 ·have e:b=it:=by simpa using hb
  subst e
  exact⟨h1,hL,h2,h3⟩
 ·obtain⟨o,es,ep,ho,r⟩:=hm
  exact⟨o,es,ep,k _ o (Ne.symm hL) ho,r⟩
 ·refine (I.hok b u e).stay (λc v hc q=>k c v ?_ q) (λ_ q=>q) λ_ _ q=>q
  rcases hc with z | z
  ·rw[z];exact nit b u e
  ·exact nit c _ z
theorem Inv.tok (I:Inv X pins σ H s) (t:Nat):Inv X pins σ H { s with toks:=t }:=I.un (h':=s.heap) (t':=t) Un.refl I.hok
theorem Inv.kept {t':Nat} (I:Inv X pins σ H s) (k:∀b u,s.heap.get? b=some u->h'.get? b=some u):Inv X pins σ H { s with heap:=h',toks:=t' }:=I.un (Un.kept k) (I.hok.kept k)
theorem Inv.laid {a:Addr} {o:HO} {t':Nat} (I:Inv X pins σ H s) (k:∀b u,s.heap.get? b=some u->h'.get? b=some u) (hp:s.heap.objs.size<=a) (new:ObjOk X.prog X.w (upd H a o) h' a o) :
  Inv X pins σ (upd H a o) { s with heap:=h',toks:=t' }:=I.un (Un.laid k hp (I.hok.fresh hp)) (I.hok.laid k hp new)
theorem Inv.write {x e:Addr} {o:HO} {t':Nat} (I:Inv X pins σ H s) (mu:Mut (H x)) (he:e=x\/H e=some (.own x)) (k:∀b u,b≠e->s.heap.get? b=some u->h'.get? b=some u) (heo:∃u,h'.get? e=some u)
  (new:ObjOk X.prog X.w (upd H x o) h' x o):Inv X pins σ (upd H x o) { s with heap:=h',toks:=t' }:=I.un (Un.write mu he k heo) (I.hok.write mu he k heo new)
theorem Inv.pins_of {pins':List (Addr × Obj)} (I:Inv X pins σ H s) (h:∀p∈pins',s.heap.get? p.1=some p.2/\H p.1=none/\p.1≠X.env.locals/\p.1 ∉ X.fs/\∀v,p.2.data≠.cell v):Inv X pins' σ H s :=
 ⟨I.ok,I.os,I.bare,I.base,I.loc,I.cell,I.free,I.freeC,λp hp=>(List.mem_append.mp hp).elim (λz=>I.pin p (List.mem_append_left _ z)) (h p),I.hok,I.len⟩
theorem CF {N:List Str} (hN:N.Nodup) {i j:Nat} {x:Str} (a:N[i]? = some x) (b:N[j]? = some x):i=j:=by
 obtain⟨h1,e1⟩:=List.getElem?_eq_some_iff.mp a
 obtain⟨h2,e2⟩:=List.getElem?_eq_some_iff.mp b
 exact (List.getElem_inj hN).mp (e1.trans e2.symm)
theorem xQ {M:Model} {A:Around} {E:Value->Shared->Prop} {i:Nat} {x:Str} {v:V} {u:Value} {Q:Unit->Shared->Prop} (I:Inv X pins σ H s) (hN:X.N.Nodup) (hi:X.N[i]? = some x) (hx:Loc X.env.scope x) (r:RelV v u)
  (h:∀s',Inv X pins (σ.set i (some v)) H s'->(∃a,Heap.SameBut a s.heap s'.heap/\(a=X.env.locals\/X.env.cells.lookup x=some a))->Q () s') (hf:X.fn x=true\/X.env.scope.names.lookup x=some .local:=by walk_at "loc"):wpAny M A (storeName X.env x u) Q E s:=by
 obtain⟨m,hn,hl⟩:=id I.loc
 have hcls:(X.env.scope.kind == .class || (X.env.scope.kind == .module && X.env.locals != X.env.globals))=false:=by rw[I.ok.kind];rfl
 have hiσ:i<σ.length:=by rw[I.len];exact (List.getElem?_eq_some_iff.mp hi).1
 have cne:=I.cne
 have tracked:∀{a:Addr} {h':Heap},(∃o,s.heap.get? a=some o/\H a=none)->Heap.SameBut a s.heap h'->HOk X.prog X.w H h':=λ{a h'} ha hs b ob e=>by
  obtain⟨_,_,hfree⟩:=ha
  refine (I.hok b ob e).stay (λc w' hc q=>(hs.2 c ?_).trans q) (λ_ q=>q) λ_ _ q=>q
  rintro rfl
  rcases hc with rfl | hc
  ·rw[hfree] at e;cases e
  ·rw[hfree] at hc;cases hc
 rcases hx with hk | hk
 ·refine wpAny_storeName_local hk hn (λh' hn' hs=>?_) hcls
  obtain⟨oL,_,_,hoL,_⟩:=id hn
  refine h _ ⟨I.ok,I.os,I.bare,⟨λb o e n hb hx=>?_,λb o e n hb hx=>?_,I.base.free,λb o e hx=>?_,I.base.tups,I.base.frzs,I.base.tbls⟩,⟨_,hn',λj y v' e1 e2 e3=>?_⟩,λy c e=>?_,I.free,I.freeC,λp hp=>?_,tracked ⟨oL,hoL,I.free⟩ hs,by simpa using I.len⟩ ⟨_,hs,.inl rfl⟩
  ·exact (hs.2 b (Nat.ne_of_lt (Nat.lt_of_lt_of_le (Heap.lt_size e) I.ok.above))).trans (I.base.keep b o e n hb hx)
  ·obtain⟨sl,e1⟩:=I.base.slot b o e n hb hx
   exact⟨sl,(hs.2 b (Nat.ne_of_lt (Nat.lt_of_lt_of_le (Heap.lt_size e) I.ok.above))).trans e1⟩
  ·obtain⟨o',e1⟩:=I.base.there b o e hx
   exact⟨o',(hs.2 b (Nat.ne_of_lt (Nat.lt_of_lt_of_le (Heap.lt_size e) I.ok.above))).trans e1⟩
  ·by_cases hj:j=i
   ·subst hj
    rw[hi] at e1;cases e1
    rw[List.getElem?_set_self hiσ] at e2
    cases e2
    exact⟨u,r,.inl ⟨hk,by simp⟩⟩
   ·rw[List.getElem?_set_ne (Ne.symm hj)] at e2
    obtain⟨u',r',q⟩:=hl j y v' e1 e2 e3
    refine⟨u',r',?_⟩
    rcases q with ⟨k,e⟩ | ⟨k,c,e,z⟩
    ·refine .inl ⟨k,?_⟩
     have:y≠x:=λe=>hj (CF hN e1 (e ▸ hi))
     simp[this,e]
    ·exact .inr ⟨k,c,e,z.sameBut hs (cne y c e)⟩
  ·obtain⟨w',z⟩:=I.cell y c e
   exact⟨w',z.sameBut hs (cne y c e)⟩
  ·obtain⟨e,n,ne,nf,d⟩:=I.pin p hp
   exact⟨(hs.2 p.1 ne).trans e,n,ne,nf,d⟩
 ·have hfn:X.fn x=true:=by
   rcases hf with z | z
   ·exact z
   ·rw[z] at hk;cases hk
  obtain⟨c,hc⟩:=I.ok.has x (.inl hk)
  obtain⟨w',z⟩:=I.cell x c hc
  refine wpAny_storeName_cell I.ok.kind hk hc z (λh' hc' hs=>?_)
  obtain⟨oc,hoc,hocd⟩:=id z
  refine h { s with heap:=h' } ⟨I.ok,I.os,I.bare,⟨λb o e n hb hx=>?_,λb o e n hb hx=>?_,I.base.free,λb o e hx=>?_,I.base.tups,I.base.frzs,I.base.tbls⟩,⟨m,hn.sameBut hs (Ne.symm (cne x c hc)),λj y v' e1 e2 e3=>?_⟩,λy c' e=>?_,I.free,I.freeC,λp hp=>?_,tracked ⟨oc,hoc,I.freeC x c hc⟩ hs,by simpa using I.len⟩ ⟨c,hs,.inr hc⟩
  ·exact (hs.2 b (Nat.ne_of_lt (Nat.lt_of_lt_of_le (Heap.lt_size e) (I.ok.cab x c hfn hc)))).trans (I.base.keep b o e n hb hx)
  ·obtain⟨sl,e1⟩:=I.base.slot b o e n hb hx
   exact⟨sl,(hs.2 b (Nat.ne_of_lt (Nat.lt_of_lt_of_le (Heap.lt_size e) (I.ok.cab x c hfn hc)))).trans e1⟩
  ·obtain⟨o',e1⟩:=I.base.there b o e hx
   exact⟨o',(hs.2 b (Nat.ne_of_lt (Nat.lt_of_lt_of_le (Heap.lt_size e) (I.ok.cab x c hfn hc)))).trans e1⟩
  ·by_cases hj:j=i
   ·subst hj
    rw[hi] at e1;cases e1
    rw[List.getElem?_set_self hiσ] at e2
    cases e2
    exact⟨u,r,.inr ⟨.inl hk,c,hc,hc'⟩⟩
   ·rw[List.getElem?_set_ne (Ne.symm hj)] at e2
    obtain⟨u',r',q⟩:=hl j y v' e1 e2 e3
    refine⟨u',r',?_⟩
    rcases q with q | ⟨k,c',e,z'⟩
    ·exact .inl q
    ·refine .inr ⟨k,c',e,z'.sameBut hs ?_⟩
     rintro rfl
     exact hj (CF hN e1 (I.ok.inj _ _ _ e hc ▸ hi))
  ·by_cases hcc:c'=c
   ·subst hcc;exact⟨_,hc'⟩
   ·obtain⟨w2,z2⟩:=I.cell y c' e
    exact⟨w2,z2.sameBut hs hcc⟩
  ·obtain⟨e,n,ne,nf,d⟩:=I.pin p hp
   refine⟨(hs.2 p.1 ?_).trans e,n,ne,nf,d⟩
   intro q
   rw[q,hoc] at e
   have q':oc=p.2:=Option.some.inj e
   exact d w' (by rw[<-q'];exact hocd)
theorem pK {M:Model} {A:Around} {E:Value->Shared->Prop} {i:Nat} {x:Str} {v:V} {u:Value} {Q:Unit->Shared->Prop} (I:Inv X pins σ H s) (hN:X.N.Nodup) (hi:X.N[i]? = some x) (hx:Loc X.env.scope x) (r:RelV v u)
  (h:∀s',Inv X pins (σ.set i (some v)) H s'->Q () s') (hf:X.fn x=true\/X.env.scope.names.lookup x=some .local:=by walk_at "loc"):wpAny M A (storeName X.env x u) Q E s :=
 xQ I hN hi hx r (λs' I' _=>h s' I') hf
theorem Inv.call' {s':Shared} {ch:List Addr} (I:Inv X pins σ H s) (ho:s'.os=s.os) (u:Un (frs X.stack) ch H H' s.heap s'.heap) (hok:HOk X.prog X.w H' s'.heap) (hg:AllBare s'.gens)
  (hch:∀b∈ch,(b∈X.ex\/X.s₀.heap.objs.size<=b)/\b≠X.env.locals/\(∀x c,X.env.cells.lookup x=some c->c≠b)/\∀p∈X.pn++pins,p.1≠b):Inv X pins σ H' s':=by
 obtain⟨h',g',d',t',o'⟩:=s'
 have e:o'=s.os:=ho
 subst e
 exact I.call (g':=g') (t':=t') (d':=d') u hok hg hch
end
noncomputable abbrev XK:=Value->Option Addr->Hp->Prop
noncomputable abbrev St:=List (Option V)
noncomputable abbrev VK:=V->Hp->Prop
noncomputable abbrev TE:=St->Hp->VK->Prop
noncomputable abbrev TT:=St->Hp->(Bool->Hp->Prop)->Prop
noncomputable abbrev TA:=St->Hp->(List V->Hp->Prop)->Prop
structure Ends where
 nx:St->Hp->Prop
 rt:VK
 bk:St->Hp->Prop:=λ_ _=>False
 ct:St->Hp->Prop:=λ_ _=>False
noncomputable abbrev TS:=Ends->St->Hp->Prop
noncomputable def EP (X:Cx) (pins:List (Addr × Obj)) (σ:St) (Q:VK) (u:Value) (s':Shared):Prop:=∃v H',Inv X pins σ H' s'/\RelV v u/\Q v H'
noncomputable def TP (X:Cx) (pins:List (Addr × Obj)) (σ:St) (Q:Bool->Hp->Prop) (b:Bool) (s':Shared):Prop:=∃H',Inv X pins σ H' s'/\Q b H'
noncomputable def AP (X:Cx) (pins:List (Addr × Obj)) (σ:St) (Q:List V->Hp->Prop) (us:List Value) (s':Shared):Prop:=∃vs H',Inv X pins σ H' s'/\Vals vs us/\Q vs H'
noncomputable def SP (X:Cx) (pins:List (Addr × Obj)) (D:Ends) (f:Flow) (s':Shared):Prop :=
 match f with
 | .next=>∃σ' H',Inv X pins σ' H' s'/\D.nx σ' H'
 | .brk=>∃σ' H',Inv X pins σ' H' s'/\D.bk σ' H'
 | .cont=>∃σ' H',Inv X pins σ' H' s'/\D.ct σ' H'
 | .ret u=>∃v σ' H',Inv X pins σ' H' s'/\RelV v u/\D.rt v H'
noncomputable def PE (X:Cx) (e:Expr) (t:TE):Prop :=
 ∀(pins:List (Addr × Obj)) (s:Shared) (σ:St) (H:Hp) (Q:VK),Inv X pins σ H s->t σ H Q->wpAny (model X.prog X.w) X.A (eval e X.env) (EP X pins σ Q) X.xe s
noncomputable def PT (X:Cx) (e:Expr) (t:TT):Prop :=
 ∀(pins:List (Addr × Obj)) (s:Shared) (σ:St) (H:Hp) (Q:Bool->Hp->Prop),Inv X pins σ H s->t σ H Q->wpAny (model X.prog X.w) X.A (isTrue e X.env (eval e X.env)) (TP X pins σ Q) X.xe s
noncomputable def PW (X:Cx) (e:Expr) (t:TT):Prop :=
 ∀(whole:Sem Value) (pins:List (Addr × Obj)) (s:Shared) (σ:St) (H:Hp) (Q:Bool->Hp->Prop),Inv X pins σ H s->t σ H Q->wpAny (model X.prog X.w) X.A (isTrue e X.env whole) (TP X pins σ Q) X.xe s
theorem PW.pt {X:Cx} {e:Expr} {t:TT} (h:PW X e t):PT X e t:=h _
noncomputable def PA (X:Cx) (es:List Expr) (t:TA):Prop :=
 ∀(pos:Pos) (pins:List (Addr × Obj)) (s:Shared) (σ:St) (H:Hp) (Q:List V->Hp->Prop),Inv X pins σ H s->t σ H Q->wpAny (model X.prog X.w) X.A (spliced (backTo pos (starEach es X.env))) (AP X pins σ Q) X.xe s
noncomputable def PS (X:Cx) (st:Stmt) (t:TS):Prop :=
 ∀(pins:List (Addr × Obj)) (s:Shared) (σ:St) (H:Hp) (D:Ends),Inv X pins σ H s->t D σ H->wpAny (model X.prog X.w) X.A (exec st X.env) (SP X pins D) X.xe s
noncomputable def PSs (X:Cx) (st:List Stmt) (t:TS):Prop :=
 ∀(pins:List (Addr × Obj)) (s:Shared) (σ:St) (H:Hp) (D:Ends),Inv X pins σ H s->t D σ H->wpAny (model X.prog X.w) X.A (execs st X.env) (SP X pins D) X.xe s
theorem thn {α:Type} {t:Sem α} {Q Q':α->Shared->Prop} {M:Model} {A:Around} {E:Value->Shared->Prop} {s:Shared} (h:wpAny M A t Q E s) (hQ:∀a s,Q a s->Q' a s):wpAny M A t Q' E s:=wpAny_mono h hQ λ_ _ x=>x
end L2
namespace L2
open PySem PySem.Spec PyProof.Rows
section
variable {X:Cx}
noncomputable def ZK (i:Nat):TE:=λσ H Q=>∃v,σ[i]? = some (some v)/\Q v H
noncomputable def tC (v:V):TE:=λ_ H Q=>Q v H
theorem WL {i:Nat} {x:Str} {pos:Pos} (hN:X.N[i]? = some x) (hv:Vis X.env.scope x) (hd:(x == ("__debug__":Str))=false:=by decide) (hcd:(x == ("__classdict__":Str))=false:=by decide):PE X (.Name x pos) (ZK i):=by
 intro pins s σ H Q I h
 obtain⟨v,e,h⟩:=h
 obtain⟨m,hn,hl⟩:=I.loc
 obtain⟨u,r,l⟩:=hl i x v hN e hv
 have fin:EP X pins σ Q u s:=⟨v,H,I,r,h⟩
 rcases l with ⟨hk,hm⟩ | ⟨hk,c,hc,hcell⟩
 ·exact wpAny_Name (wpAny_loadName_local I.ok.kind hk hn hm fin) hd
 ·rcases hk with hk | hk
  ·exact wpAny_Name (wpAny_loadName_cell I.ok.kind hk hc hcell fin) hd
  ·exact wpAny_Name (wpAny_loadName_free I.ok.kind hk hc hcell fin hcd) hd
theorem WF {i j pos}:PE X (.Constant (.int i) j pos) (tC (.int i)):=λ_ _ _ H _ I h=>wpAny_Constant_int ⟨.int i,H,I.tok _,⟨_,rfl⟩,h⟩
theorem YI {b j pos}:PE X (.Constant (.bool b) j pos) (tC (.bl b)):=λ_ _ _ H _ I h=>Constant_bool ⟨.bl b,H,I,rfl,h⟩
theorem WH {j pos}:PE X (.Constant .none j pos) (tC .non):=λ_ _ _ H _ I h=>Constant_none ⟨.non,H,I,rfl,h⟩
noncomputable def Gl (X:Cx) (x:Str):Prop:=X.env.kindOf x=some .globalImplicit
theorem QX {E:Value->Shared->Prop} {pins:List (Addr × Obj)} {s:Shared} {σ:St} {H:Hp} {x:Str} {u:Value} {pos:Pos} {Q:Value->Shared->Prop} (I:Inv X pins σ H s) (hg:Gl X x) (hm:X.mg x=some u) (h:Q u s)
  (hd:(x == ("__debug__":Str))=false:=by decide):wpAny (model X.prog X.w) X.A (eval (.Name x pos) X.env) Q E s :=
 Calls.Name_function_global I.ok.kind hg (Calls.loadGlobal_global (by rw[I.ok.glob];exact I.mod.glob.keeps I.bk) hm h) hd
theorem gN {E:Value->Shared->Prop} {pins:List (Addr × Obj)} {s:Shared} {σ:St} {H:Hp} {x:Str} {u:Value} {pos:Pos} {Q:Value->Shared->Prop} (I:Inv X pins σ H s) (hg:Gl X x) (hm:X.mg x=none) (hv:bootBuiltins x=some u) (h:Q u s)
  (hn:x≠"__name__":=by decide) (hd:(x == ("__debug__":Str))=false:=by decide):wpAny (model X.prog X.w) X.A (eval (.Name x pos) X.env) Q E s:=by
 obtain⟨mb,h1,h2⟩:=I.mod.blt
 exact Calls.Name_function_global I.ok.kind hg (Calls.loadGlobal_builtin (by rw[I.ok.glob];exact I.mod.glob.keeps I.bk) hm (by rw[I.ok.blt];exact h1.keeps I.bk) ((h2 x hn).trans hv) h) hd
theorem RX {x:Str} {v:V} {u:Value} {pos:Pos} (hg:Gl X x) (hm:X.mg x=none) (hv:bootBuiltins x=some u) (r:RelV v u) (hn:x≠"__name__":=by decide) (hd:(x == ("__debug__":Str))=false:=by decide):PE X (.Name x pos) (tC v) :=
 λ_ _ _ H _ I h=>gN I hg hm hv ⟨v,H,I,r,h⟩ hn hd
variable {a b:Expr} {ta tb:TE} {pos:Pos}
noncomputable def tB (t:TE):TT:=λσ H Q=>t σ H λx H1=>∃c,x = .bl c/\Q c H1
theorem WT {e:Expr} {t:TE} (h:PE X e t) (he:∀whole,isTrue e X.env whole=(do let v <-whole;standAt e.pos;holding [v] (truthy v)):=by intro _;rfl):PT X e (tB t):=by
 intro pins s σ H Q I hw
 refine isTrue_plain (thn (h pins s σ H _ I hw) λv s1 ⟨x,H1,I1,r1,q1⟩=>?_) (he _)
 obtain⟨d,rfl,q⟩:=q1
 cases r1
 exact wpAny_truthy_bool ⟨H1,I1,q⟩
variable {tA tB':TT} {rest:List Expr}
noncomputable def Ah (t u:TT):TT:=λσ H Q=>t σ H λc H1=>if c=true then u σ H1 Q else Q false H1
noncomputable def tOr (t u:TT):TT:=λσ H Q=>t σ H λc H1=>if c=true then Q true H1 else u σ H1 Q
noncomputable def An (t:TT):TT:=λσ H Q=>t σ H λc H1=>Q (!c) H1
theorem SK (ha:PT X a tA):PW X (.BoolOp .And [a] pos) tA:=by
 intro wh pins s σ H Q I h
 refine isTrue_and (thn (ha pins s σ H Q I h) λc s1 e=>?_)
 cases c with
 | true=>exact isTrue_and_nil e
 | false=>exact e
theorem WW (ha:PT X a tA):PW X (.BoolOp .Or [a] pos) tA:=by
 intro wh pins s σ H Q I h
 refine isTrue_or (thn (ha pins s σ H Q I h) λc s1 e=>?_)
 cases c with
 | false=>exact isTrue_or_nil e
 | true=>exact e
theorem WV (ha:PT X a tA) (hb:PW X (.BoolOp .And (b::rest) pos) tB'):PW X (.BoolOp .And (a::b::rest) pos) (Ah tA tB'):=by
 intro wh pins s σ H Q I h
 refine isTrue_and (thn (ha pins s σ H _ I h) λc s1 ⟨H1,I1,q1⟩=>?_)
 cases c with
 | true=>exact hb wh pins s1 σ H1 Q I1 q1
 | false=>exact⟨H1,I1,q1⟩
theorem YN (ha:PT X a tA) (hb:PW X (.BoolOp .Or (b::rest) pos) tB'):PW X (.BoolOp .Or (a::b::rest) pos) (tOr tA tB'):=by
 intro wh pins s σ H Q I h
 refine isTrue_or (thn (ha pins s σ H _ I h) λc s1 ⟨H1,I1,q1⟩=>?_)
 cases c with
 | true=>exact⟨H1,I1,q1⟩
 | false=>exact hb wh pins s1 σ H1 Q I1 q1
theorem WS (ha:PT X a tA):PT X (.UnaryOp .Not a pos) (An tA):=by
 intro pins s σ H Q I h
 exact isTrue_not (ha pins s σ H (λc H1=>Q (!c) H1) I h)
noncomputable def ZB (ta tb:TE):TE:=λσ H Q=>ta σ H λx H1=>∃c,x = .bl c/\if c=true then tb σ H1 Q else Q (.bl false) H1
noncomputable def ZH (ta:TE):TE:=λσ H Q=>ta σ H λx H1=>∃c,x = .bl c/\Q (.bl (!c)) H1
theorem WJ {op} {t:TE} (h:PE X a t):PE X (.BoolOp op [a] pos) t:=λpins s σ H Q I hw=>BoolOp_one (h pins s σ H Q I hw)
theorem WD (ha:PE X a ta) (hb:PE X (.BoolOp .And (b::rest) pos) tb):PE X (.BoolOp .And (a::b::rest) pos) (ZB ta tb):=by
 intro pins s σ H Q I h
 refine BoolOp_and (thn (ha pins s σ H _ I h) λv s1 ⟨x,H1,I1,r1,q1⟩=>?_)
 obtain⟨c,rfl,q1⟩:=q1
 cases r1
 refine wpAny_truthy_bool ?_
 cases c with
 | true=>exact hb pins s1 σ H1 Q I1 q1
 | false=>exact⟨.bl false,H1,I1,rfl,q1⟩
theorem WI (ha:PE X a ta):PE X (.UnaryOp .Not a pos) (ZH ta):=by
 intro pins s σ H Q I h
 refine UnaryOp_ (thn (ha pins s σ H _ I h) λv s1 ⟨x,H1,I1,r1,q1⟩=>?_)
 obtain⟨c,rfl,q1⟩:=q1
 cases r1
 exact not_of (wpAny_truthy_bool ⟨.bl (!c),H1,I1,rfl,q1⟩)
end
end L2
namespace L2
open PySem PySem.Spec PyProof.Rows
noncomputable def SqL (K:PySem.W.Frag) (H:Hp) (a:Addr) (xs:List V):Prop :=
 Rd H a (.lst xs) \/
  ∃(o:Obj) (its:Array Value) (n:Nat),K.lookup a=some o/\o.cls = .type "list"/\o.dict=none/\o.data = .seq its n/\its.size<=sizeLine/\Vals xs its.toList
noncomputable def SqT (K:PySem.W.Frag) (H:Hp) (a:Addr) (xs:List V):Prop :=
 Rd H a (.tup xs) \/
  ∃(o:Obj) (its:Array Value) (n:Nat),K.lookup a=some o/\o.cls = .type "tuple"/\o.data = .seq its n/\its.size<=sizeLine/\Vals xs its.toList
noncomputable def ZO:Value->Option V
 | .none=>some .non
 | .bool b=>some (.bl b)
 | .int i _=>some (.int i)
 | .str x _=>some (.str x)
 | .bytes b _=>some (.byt b)
 | .float b _=>some (.flt b)
 | .ref a=>some (.ref a)
 | .type n=>some (.ty n)
 | _=>none
theorem RelV.abs {x:V} {u:Value} (r:RelV x u):ZO u=some x:=by
 cases x with
 | non=>cases r;rfl
 | bl _=>cases r;rfl
 | int _=>obtain⟨t,rfl⟩:=r;rfl
 | str _=>obtain⟨t,rfl⟩:=r;rfl
 | byt _=>obtain⟨t,rfl⟩:=r;rfl
 | flt _=>obtain⟨t,rfl⟩:=r;rfl
 | ref _=>cases r;rfl
 | ty _=>cases r;rfl
theorem RelV.inj {x y:V} {u:Value} (r:RelV x u) (q:RelV y u):x=y:=Option.some.inj (r.abs.symm.trans q.abs)
theorem Vals.inj:∀{xs ys:List V} {us:List Value},Vals xs us->Vals ys us->xs=ys
 | _,_,_,.nil,.nil=>rfl
 | _,_,_,.cons r t,.cons r' t'=>by rw[r.inj r',Vals.inj t t']
section
variable {X:Cx} {pins:List (Addr × Obj)} {σ:St} {H:Hp} {s:Shared} {a:Addr} {xs ys:List V}
theorem SqL.of {K:PySem.W.Frag} (h:H a=some (.lst xs)):SqL K H a xs:=.inl (.inl h)
theorem SqT.of {K:PySem.W.Frag} (h:H a=some (.tup xs)):SqT K H a xs:=.inl (.inl h)
theorem Inv.list (I:Inv X pins σ H s) (h:SqL X.K H a xs):∃its:List Value,Vals xs its/\PlainL s.heap a its.toArray/\xs.length<=sizeLine:=by
 rcases h with h | ⟨o,its,n,hk,hc,hd,hs,hz,r⟩
 ·obtain⟨z,its,n,r,e⟩:=h.ok I.hok
  exact⟨its,r,⟨_,n,e,rfl,rfl,rfl⟩,z⟩
 ·refine⟨its.toList,r,⟨o,n,I.kIn a o hk,hc,hd,by simpa using hs⟩,?_⟩
  have e:=r.length
  simp only[Array.length_toList] at e
  omega
theorem Inv.tuple (I:Inv X pins σ H s) (h:SqT X.K H a xs):∃its:List Value,Vals xs its/\IsTup s.heap a its.toArray/\xs.length<=sizeLine:=by
 rcases h with h | ⟨o,its,n,hk,hc,hs,hz,r⟩
 ·obtain⟨z,its,r,p⟩:=h.ok I.hok
  exact⟨its,r,p,z⟩
 ·refine⟨its.toList,r,⟨o,I.kIn a o hk,hc,n,by simpa using hs⟩,?_⟩
  have e:=r.length
  simp only[Array.length_toList] at e
  omega
theorem Inv.list_inj (I:Inv X pins σ H s) (h:SqL X.K H a xs) (h':SqL X.K H a ys):xs=ys:=by
 obtain⟨its,r,⟨o,n,e,_,_,d⟩,_⟩:=I.list h
 obtain⟨its',r',⟨o',n',e',_,_,d'⟩,_⟩:=I.list h'
 rw[e] at e';cases e'
 rw[d] at d'
 injection d' with d1 _
 have:its=its':=by simpa using congrArg Array.toList d1
 subst this
 exact r.inj r'
theorem Inv.tuple_inj (I:Inv X pins σ H s) (h:SqT X.K H a xs) (h':SqT X.K H a ys):xs=ys:=by
 obtain⟨its,r,⟨o,e,_,n,d⟩,_⟩:=I.tuple h
 obtain⟨its',r',⟨o',e',_,n',d'⟩,_⟩:=I.tuple h'
 rw[e] at e';cases e'
 rw[d] at d'
 injection d' with d1 _
 have:its=its':=by simpa using congrArg Array.toList d1
 subst this
 exact r.inj r'
end
noncomputable abbrev Cx.wish (X:Cx) (E:Value->Shared->Prop):Cx:={ X with xe:=E }
noncomputable abbrev Cx.nox (X:Cx):Cx:=X.wish λ_ _=>False
theorem Cx.Ok.wish {X:Cx} (ok:X.Ok) (E:Value->Shared->Prop):(X.wish E).Ok :=
 ⟨ok.mod,ok.kind,ok.glob,ok.blt,ok.above,ok.inj,ok.has,ok.cab,ok.hd,ok.frames,ok.stk,ok.exf,ok.bs,ok.bsz,ok.noex,ok.exfs,ok.funs,ok.frf⟩
theorem Cx.Ok.unwish {X:Cx} {E:Value->Shared->Prop} (ok:(X.wish E).Ok):X.Ok :=
 ⟨ok.mod,ok.kind,ok.glob,ok.blt,ok.above,ok.inj,ok.has,ok.cab,ok.hd,ok.frames,ok.stk,ok.exf,ok.bs,ok.bsz,ok.noex,ok.exfs,ok.funs,ok.frf⟩
section
variable {X:Cx} {pins:List (Addr × Obj)} {σ:St} {H:Hp} {s:Shared} {E:Value->Shared->Prop}
theorem Inv.wish (I:Inv X pins σ H s) (E:Value->Shared->Prop):Inv (X.wish E) pins σ H s:=⟨I.ok.wish E,I.os,I.bare,I.base,I.loc,I.cell,I.free,I.freeC,I.pin,I.hok,I.len⟩
theorem Inv.unwish (I:Inv (X.wish E) pins σ H s):Inv X pins σ H s:=⟨I.ok.unwish,I.os,I.bare,I.base,I.loc,I.cell,I.free,I.freeC,I.pin,I.hok,I.len⟩
theorem SP.unwish {D:Ends} {f:Flow} {s':Shared} (h:SP (X.wish E) pins D f s'):SP X pins D f s':=by
 cases f with
 | next=>obtain⟨σ',H',I,q⟩:=h;exact⟨σ',H',I.unwish,q⟩
 | brk=>obtain⟨σ',H',I,q⟩:=h;exact⟨σ',H',I.unwish,q⟩
 | cont=>obtain⟨σ',H',I,q⟩:=h;exact⟨σ',H',I.unwish,q⟩
 | ret u=>obtain⟨v,σ',H',I,r,q⟩:=h;exact⟨v,σ',H',I.unwish,r,q⟩
theorem PE.nox {e:Expr} {t:TE} (h:PE X.nox e t):PE X e t:=λpins s σ H Q I hw =>
 wpAny_mono (h pins s σ H Q (I.wish _) hw) (λ_ _ ⟨v,H',I',r,q⟩=>⟨v,H',I'.unwish,r,q⟩) λ_ _ z=>False.elim z
theorem PT.nox {e:Expr} {t:TT} (h:PT X.nox e t):PT X e t:=λpins s σ H Q I hw =>
 wpAny_mono (h pins s σ H Q (I.wish _) hw) (λ_ _ ⟨H',I',q⟩=>⟨H',I'.unwish,q⟩) λ_ _ z=>False.elim z
theorem PSs.nox {st:List Stmt} {t:TS} (h:PSs X.nox st t):PSs X st t:=λpins s σ H D I hw =>
 wpAny_mono (h pins s σ H D (I.wish _) hw) (λ_ _ q=>q.unwish) λ_ _ z=>False.elim z
end
section
variable {X:Cx} {st:Stmt} {rest:List Stmt} {t u:TS} {e:Expr} {te:TE} {pos:Pos}
noncomputable def ZG:TS:=λD σ H=>D.nx σ H
noncomputable def Aq (t u:TS):TS:=λD σ H=>t { D with nx:=u D } σ H
theorem SG:PSs X [] ZG:=λ_ _ σ H _ I h=>wpAny_execs_nil ⟨σ,H,I,h⟩
theorem OM (h1:PS X st t) (h2:PSs X rest u):PSs X (st::rest) (Aq t u):=by
 intro pins s σ H D I h
 refine wpAny_execs_cons (thn (h1 pins s σ H { D with nx:=u D } I h) λf s1 q=>?_)
 cases f with
 | next =>
  obtain⟨σ',H',I',q⟩:=q
  exact h2 pins s1 σ' H' D I' q
 | ret v=>exact q
 | brk=>exact q
 | cont=>exact q
theorem SH (h1:PS X st t):PSs X [st] t:=by
 intro pins s σ H D I h
 refine wpAny_execs_cons (thn (h1 pins s σ H D I h) λf s1 q=>?_)
 cases f with
 | next=>exact wpAny_execs_nil q
 | ret v=>exact q
 | brk=>exact q
 | cont=>exact q
theorem Inv.quiet {pins:List (Addr × Obj)} {σ:St} {H:Hp} {s:Shared} (I:Inv X pins σ H s):interactive X.env=false:=by simp[interactive,I.ok.kind]
noncomputable def ZF (te:TE):TS:=λD σ H=>te σ H λ_ H1=>D.nx σ H1
theorem HX (he:PE X e te) (hs:swapsWith e none pos.line X.env=pure false:=by rfl):PS X (.Expr e pos) (ZF te):=by
 intro pins s σ H D I h
 exact wpAny_Expr_any (thn (he pins s σ H _ I h) λv s1 ⟨x,H1,I1,r1,q1⟩=>⟨σ,H1,I1,q1⟩) I.quiet hs
noncomputable def Ap (te:TE):TS:=λD σ H=>te σ H D.rt
theorem WR (he:PE X e te):PS X (.Return (some e) pos) (Ap te):=by
 intro pins s σ H D I h
 exact wpAny_Return_some (thn (he pins s σ H _ I h) λv s1 ⟨x,H1,I1,r1,q1⟩=>⟨x,σ,H1,I1,r1,q1⟩)
noncomputable def Ak (c:TT) (t u:TS):TS:=λD σ H=>c σ H λb H1=>if b=true then t D σ H1 else u D σ H1
theorem YM {c:Expr} {a b:List Stmt} {tc:TT} (hc:PT X c tc) (ha:PSs X a t) (hb:PSs X b u):PS X (.If c a b pos) (Ak tc t u):=by
 intro pins s σ H D I h
 refine wpAny_If (thn (hc pins s σ H _ I h) λd s1 ⟨H1,I1,q1⟩=>?_)
 cases d with
 | true=>exact ha pins s1 σ H1 D I1 q1
 | false=>exact hb pins s1 σ H1 D I1 q1
end
noncomputable abbrev TG:=V->St->Hp->(St->Hp->Prop)->Prop
noncomputable abbrev TGs:=List V->St->Hp->(St->Hp->Prop)->Prop
noncomputable def PG (X:Cx) (target:Expr) (t:TG):Prop :=
 ∀(pins:List (Addr × Obj)) (s:Shared) (σ:St) (H:Hp) (v:V) (u:Value) (Q:St->Hp->Prop),Inv X pins σ H s->RelV v u->t v σ H Q ->
  wpAny (model X.prog X.w) X.A (assign target X.env u) (λ_ s'=>∃σ' H',Inv X pins σ' H' s'/\Q σ' H') X.xe s
noncomputable def PGs (X:Cx) (ts:List Expr) (t:TGs):Prop :=
 ∀(pins:List (Addr × Obj)) (s:Shared) (σ:St) (H:Hp) (vs:List V) (us:List Value) (Q:St->Hp->Prop),Inv X pins σ H s->Vals vs us->t vs σ H Q ->
  wpAny (model X.prog X.w) X.A (assignInOrder ((assignEach ts X.env).map (·.2)) us) (λ_ s'=>∃σ' H',Inv X pins σ' H' s'/\Q σ' H') X.xe s
noncomputable abbrev UO:=V->V->V->Hp->(Hp->Prop)->Prop
noncomputable def XN (X:Cx) (t:UO):Prop :=
 ∀(pins:List (Addr × Obj)) (s:Shared) (σ:St) (H:Hp) (o i v:V) (ov iv u:Value) (Q:Hp->Prop),Inv X pins σ H s->RelV o ov->RelV i iv->RelV v u->t o i v H Q ->
  wpAny (model X.prog X.w) X.A (setItem ov iv u) (λ_ s'=>∃H',Inv X pins σ H' s'/\Q H') X.xe s
section
variable {X:Cx} {pos:Pos}
noncomputable def UA (i:Nat):TG:=λv σ H Q=>Q (σ.set i (some v)) H
theorem SA {i:Nat} {x:Str} (hN:X.N.Nodup) (hi:X.N[i]? = some x) (hx:Loc X.env.scope x) (hf:X.fn x=true\/X.env.scope.names.lookup x=some .local:=by walk_at "loc"):PG X (.Name x pos) (UA i):=by
 intro pins s σ H v u Q I r h
 exact wpAny_assign_Name (pK I hN hi hx r (λs' I'=>⟨_,H,I',h⟩) hf)
noncomputable def ZQ:TGs:=λvs σ H Q=>vs=[]/\Q σ H
noncomputable def XX (t:TG) (u:TGs):TGs:=λvs σ H Q=>∃v r,vs=v::r/\t v σ H λσ' H'=>u r σ' H' Q
theorem SB:PGs X [] ZQ:=by
 intro pins s σ H vs us Q I r h
 obtain⟨e,h⟩:=h
 subst e
 cases r
 exact assignInOrder_nil ⟨σ,H,I,h⟩
theorem OG {e:Expr} {es:List Expr} {t:TG} {u:TGs} (h1:PG X e t) (h2:PGs X es u)
  (hs:(assignEach (e::es) X.env).map (·.2)=assign e X.env::(assignEach es X.env).map (·.2):=by rfl):PGs X (e::es) (XX t u):=by
 intro pins s σ H vs us Q I r h
 obtain⟨v,vr,e1,h⟩:=h
 subst e1
 cases r with
 | cons r rr =>
  rw[hs]
  refine assignInOrder_cons (thn (h1 pins s σ H _ _ _ I r h) λ_ s1 ⟨σ1,H1,I1,q1⟩=>?_)
  exact h2 pins s1 σ1 H1 _ _ Q I1 rr q1
noncomputable def ZS (K:PySem.W.Frag) (n:Nat) (t:TGs):TG:=λv σ H Q=>∃a xs,v = .ref a/\SqT K H a xs/\xs.length=n/\t xs σ H Q
theorem WN {es:List Expr} {k:Nat} {t:TGs} {n:Nat} (hc:X.calm=true) (h:PGs X es t)
  (hn:(assignEach es X.env).length=n:=by rfl) (hst:(assignEach es X.env).findIdx? (·.1)=none:=by rfl):PG X (.Tuple es k pos) (ZS X.K n t):=by
 intro pins s σ H v u Q I r hw
 obtain⟨a,xs,e1,hq,hl,hw⟩:=hw
 subst e1
 cases r
 obtain⟨its,rv,ht,hz⟩:=I.tuple hq
 refine assign_Tuple_tuple (I.ok.hd hc) ht (by simp[hn,<-hl,rv.length]) hst λh' hx=>?_
 have I1:Inv X pins σ H { s with heap:=h' }:=I.kept (t':=s.toks) λb o e=>hx b o (Nat.ne_of_lt (Heap.lt_size e)) e
 exact h pins _ σ H xs _ Q I1 (by simpa using rv) hw
noncomputable def ZR (to ti:TE) (t:UO):TG:=λv σ H Q=>to σ H λo H1=>ti σ H1 λi H2=>t o i v H2 λH3=>Q σ H3
theorem WM {o i:Expr} {to ti:TE} {t:UO} (ho:PE X o to) (hi:PE X i ti) (hs:XN X t)
  (ha:∀v,assign (.Subscript o i pos) X.env v=(do
   let ov <-holding [v] (eval o X.env)
   let iv <-holding [v,ov] (eval i X.env)
   standAt pos
   holding [v,ov,iv] (setItem ov iv v)
   release [v,ov,iv] []):=by intro _;rfl):PG X (.Subscript o i pos) (ZR to ti t):=by
 intro pins s σ H v u Q I r h
 rw[ha]
 refine wpAny_bind (wpAny_holding (thn (ho pins s σ H _ I h) λov s1 ⟨x,H1,I1,r1,q1⟩=>?_))
 refine wpAny_bind (wpAny_holding (thn (hi pins s1 σ H1 _ I1 q1) λiv s2 ⟨y,H2,I2,r2,q2⟩=>?_))
 refine wpAny_bind (wpAny_standAt (wpAny_bind (wpAny_holding (thn (hs pins s2 σ H2 x y v ov iv u _ I2 r1 r2 r q2) λ_ s3 ⟨H3,I3,q3⟩=>?_))))
 exact wpAny_release ⟨σ,H3,I3,q3⟩
noncomputable def ZC (te:TE) (g:TG):TS:=λD σ H=>te σ H λx H1=>g x σ H1 D.nx
theorem OI {tg e:Expr} {te:TE} {g:TG} (he:PE X e te) (hg:PG X tg g) (hs:swapsWithSole [tg] e pos.line X.env=pure false:=by rfl) (hw:swappedStores [tg] e X.env=pure none:=by rfl)
  (h1:(assignEach [tg] X.env).map (·.2)=[assign tg X.env]:=by rfl):PS X (.Assign [tg] e pos) (ZC te g):=by
 intro pins s σ H D I h
 refine wpAny_Assign_stores (thn (he pins s σ H _ I h) λv s1 ⟨x,H1,I1,r1,q1⟩=>?_) hs hw
 rw[h1]
 exact thn (hg pins s1 σ H1 x v _ I1 r1 q1) λ_ s2 q=>q
theorem OJ {i:Nat} {x:Str} {e:Expr} {te:TE} {pos':Pos} (hN:X.N.Nodup) (hi:X.N[i]? = some x) (hx:Loc X.env.scope x) (he:PE X e te) (hs:swapsWith e (some (.Name x pos')) pos.line X.env=pure false:=by rfl) (hf:X.fn x=true\/X.env.scope.names.lookup x=some .local:=by walk_at "loc") :
  PS X (.Assign [.Name x pos'] e pos) (ZC te (UA i)):=by
 intro pins s σ H D I h
 refine wpAny_Assign_Name (thn (he pins s σ H _ I h) λv s1 ⟨y,H1,I1,r1,q1⟩=>?_) hs
 exact pK I1 hN hi hx r1 (λs2 I2=>⟨_,H1,I2,q1⟩) hf
noncomputable def Ao (i j:Nat) (ta:TA):TS:=λD σ H=>ta σ H λvs H1=>∃v w,vs=[v,w]/\D.nx ((σ.set i (some v)).set j (some w)) H1
theorem WQ {i j:Nat} {x y:Str} {a b:Expr} {ta:TA} {px py pt:Pos} {kt k2 pt2} (hc:X.calm=true) (hN:X.N.Nodup) (hi:X.N[i]? = some x) (hj:X.N[j]? = some y) (hij:i≠j)
  (hx:X.env.scope.names.lookup x=some .local) (hy:X.env.scope.names.lookup y=some .local) (ha:PA X [a,b] ta)
  (hw:swappedStores [.Tuple [.Name x px,.Name y py] kt pt] (.Tuple [a,b] k2 pt2) X.env=pure (some [x,y]))
  (hs:swapsWithSole [.Tuple [.Name x px,.Name y py] kt pt] (.Tuple [a,b] k2 pt2) pos.line X.env=pure false:=by rfl) :
  PS X (.Assign [.Tuple [.Name x px,.Name y py] kt pt] (.Tuple [a,b] k2 pt2) pos) (Ao i j ta):=by
 intro pins s σ H D I h
 rw[exec_Assign_arm]
 refine wpAny_bind (wpAny_standAt ?_)
 rw[hs]
 refine wpAny_bind (wpAny_pure ?_)
 rw[if_neg (by decide)]
 refine wpAny_bind (Tuple_ (thn (ha _ pins s σ H _ I h) λus s1 ⟨vs,H1,I1,r1,q1⟩=>?_))
 obtain⟨v,w,e1,q1⟩:=q1
 subst e1
 obtain⟨u1,u2,rfl,rv,rw'⟩:∃u1 u2,us=[u1,u2]/\RelV v u1/\RelV w u2:=by
  cases r1 with
  | cons p q =>
   cases q with
   | cons p' q' =>
    cases q'
    exact⟨_,_,rfl,p,p'⟩
 refine wpAny_newObj_type ?_ (by show 2<=sizeLine;decide)
 have I2:Inv X pins σ H1 { s1 with heap:=s1.heap.push { cls:=.type "tuple",data:=.seq [u1,u2].toArray } }:=I1.kept (t':=s1.toks) λb o e=>Heap.get?_push_of_some _ e
 rw[hw]
 refine wpAny_bind (wpAny_pure ?_)
 show wpAny (model X.prog X.w) X.A (do rule "assign.swapped-stores";let items <-unpackItems (.ref s1.heap.objs.size) 2 none;assignInOrder [λv=>bindName X.env y v,λv=>bindName X.env x v] items.reverse;pure Flow.next) _ _ _
 refine wpAny_bind (wpAny_rule (wpAny_bind (unpackItems_tuple (items:=#[u1,u2]) (I.ok.hd hc) (IsTup.new s1.heap _) λh' hx'=>?_)))
 have I3:=I2.kept (h':=h') (t':=s1.toks) λb o e=>hx' b o (Nat.ne_of_lt (Heap.lt_size e)) e
 show wpAny _ _ (assignInOrder [λv=>bindName X.env y v,λv=>bindName X.env x v] [u2,u1] >>= λ_=>pure Flow.next) _ _ _
 refine wpAny_bind (assignInOrder_cons (wpAny_bindName (pK I3 hN hj (.inl hy) rw' (λs2 I4=>?_) (.inr hy))))
 refine assignInOrder_cons (wpAny_bindName (pK I4 hN hi (.inl hx) rv (λs3 I5=>assignInOrder_nil (wpAny_pure ?_)) (.inr hx)))
 rw[List.set_comm _ _ (Ne.symm hij)] at I5
 exact⟨_,H1,I5,q1⟩
end
section
variable {X:Cx} {pos:Pos}
noncomputable def XJ (c:TT) (tb:TS):TS:=λD σ H=>∃W:Nat->St->Hp->Prop,(∃m,W m σ H)/\∀m σ H,W m σ H ->
 c σ H λb H1=>if b=true then ∃N:St->Hp->Prop,(∀σ' H',N σ' H'->∃m',m'<m/\W m' σ' H')/\tb { D with nx:=N,ct:=N,bk:=D.nx } σ H1 else D.nx σ H1
theorem OL {c:Expr} {body:List Stmt} {tc:TT} {tb:TS} (hp:PassesOwn (model X.prog X.w) X.A X.env X.xe) (hc:PT X c tc) (hb:PSs X body tb):PS X (.While c body [] pos) (XJ tc tb):=by
 intro pins s σ H D I h
 obtain⟨W,⟨m0,w0⟩,turn⟩:=h
 refine wpAny_While (codeAny_whileLoop (λn s'=>∃σ' H',Inv X pins σ' H' s'/\W n σ' H') ?_ m0 ⟨σ,H,I,w0⟩)
 rintro n s1 ⟨σ1,H1,I1,w1⟩
 refine wpAny_passesOwn hp (thn (hc pins s1 σ1 H1 _ I1 (turn n σ1 H1 w1)) λb s2 ⟨H2,I2,q2⟩=>?_)
 cases b with
 | true =>
  obtain⟨N,hN,q2⟩:=q2
  rw[if_pos rfl]
  refine wpAny_passesOwn hp (thn (hb pins s2 σ1 H2 _ I2 q2) λf s3 q3=>?_)
  cases f with
  | next =>
   obtain⟨σ3,H3,I3,n3⟩:=q3
   obtain⟨m',hm,w3⟩:=hN σ3 H3 n3
   exact⟨m',hm,σ3,H3,I3,w3⟩
  | cont =>
   obtain⟨σ3,H3,I3,n3⟩:=q3
   obtain⟨m',hm,w3⟩:=hN σ3 H3 n3
   exact⟨m',hm,σ3,H3,I3,w3⟩
  | brk=>exact q3
  | ret v=>exact q3
 | false =>
  rw[if_neg Bool.false_ne_true]
  exact wpAny_execs_nil ⟨σ1,H2,I2,q2⟩
end
structure It where
 go:Nat->Hp->Prop
 yld:Nat->Hp->V->Hp->Prop
 stop:Nat->Hp->Prop
noncomputable def pL (X:Cx) (pins:List (Addr × Obj)) (H:Hp) (b:Addr):Prop :=
 H b=none/\b≠X.env.locals/\b ∉ X.fs/\(b∈X.ex\/X.s₀.heap.objs.size<=b)/\(∀x c,X.env.cells.lookup x=some c->c≠b)/\∀p∈X.pn++pins,p.1≠b
theorem Inv.fpOk {X:Cx} {pins:List (Addr × Obj)} {σ:St} {H H':Hp} {s:Shared} {b:Addr} (I:Inv X pins σ H s) (hb:s.heap.objs.size<=b) (hn:H' b=none):pL X pins H' b:=by
 refine⟨hn,Nat.ne_of_gt (Nat.lt_of_lt_of_le I.lt hb),I.nofs hb,.inr (Nat.le_trans I.sz hb),λx c e z=>?_,λp hp z=>?_⟩
 ·obtain⟨v,q⟩:=I.cell x c e
  exact absurd (Nat.lt_of_lt_of_le q.lt (by rw[z];exact hb)) (Nat.lt_irrefl _)
 ·exact absurd (Nat.lt_of_lt_of_le (Heap.lt_size (I.pin p hp).1) (by rw[z];exact hb)) (Nat.lt_irrefl _)
structure Turn (P:Program) (w:World) (K:PySem.W.Frag) (tg:Expr) (J:It) (fp:List Addr) (it:Addr) (tn:Nat->Heap->Prop):Prop where
 mem:it∈fp
 obj:∀i h,tn i h->∀b∈fp,∃o,h.get? b=some o/\∀v,o.data≠.cell v
 keep:∀i h h',tn i h->(∀b∈fp,∀o,h.get? b=some o->h'.get? b=some o)->tn i h'
 item:∀(X:Cx),X.prog=P->X.w=w->X.K=K->X.calm=true->∀(i:Nat) (pins:List (Addr × Obj)) (s:Shared) (σ:St) (H:Hp) (E:Value->Shared->Prop),Inv X pins σ H s->(∀b∈fp,pL X pins H b)->tn i s.heap->J.go i H ->
  wpAny (model P w) X.A (pyNext (.ref it)) (λr s1=>∃u,r=some u /\
   wpAny (model P w) X.A (letOwnedTupleGo tg (.ref it) u) (λ_ s2=>∃x H',Inv X pins σ H' s2/\RelV x u/\J.yld i H x H'/\tn (i+1) s2.heap/\∀b∈fp,H' b=none) E s1) E s
 done:∀(X:Cx),X.prog=P->X.w=w->X.K=K->X.calm=true->∀(i:Nat) (pins:List (Addr × Obj)) (s:Shared) (σ:St) (H:Hp) (E:Value->Shared->Prop),Inv X pins σ H s->(∀b∈fp,pL X pins H b)->tn i s.heap->J.stop i H ->
  wpAny (model P w) X.A (pyNext (.ref it)) (λr s1=>r=none/\Inv X pins σ H s1) E s
 self:∀(A:Around) (i:Nat) (s:Shared) (Q:Value->Shared->Prop) (E:Value->Shared->Prop),tn i s.heap->Q (.ref it) s->wpAny (model P w) A (pyIter (.ref it)) Q E s
noncomputable abbrev TI:=St->Hp->(It->Hp->Prop)->Prop
noncomputable def PIE (X:Cx) (pins:List (Addr × Obj)) (σ:St) (tg:Expr) (R:It->Hp->Prop) (itv:Value) (s2:Shared):Prop :=
 ∃(it:Addr) (fp:List Addr) (tn:Nat->Heap->Prop) (J:It) (H':Hp),itv = .ref it/\Inv X pins σ H' s2/\Turn X.prog X.w X.K tg J fp it tn/\tn 0 s2.heap/\(∀b∈fp,pL X pins H' b)/\R J H'
noncomputable def PI (X:Cx) (tg iter:Expr) (wi:TI):Prop :=
 ∀(pins:List (Addr × Obj)) (s:Shared) (σ:St) (H:Hp) (R:It->Hp->Prop),Inv X pins σ H s->wi σ H R ->
  wpAny (model X.prog X.w) X.A (eval iter X.env) (λv s1=>wpAny (model X.prog X.w) X.A (pyIter v) (PIE X pins σ tg R) X.xe s1) X.xe s
theorem HJ {M:Model} {A:Around} {E:Value->Shared->Prop} {s:Shared} {tg:Expr} {it:Addr} {u:Value} {o:Obj} {n:String} {vs:Array Value} {Q:Unit->Shared->Prop} (ho:s.heap.get? it=some o) (hc:o.cls = .type n) (hd:o.data = .fields vs)
  (hn:["enumerate","zip","dict_itemiterator","dict_reverseitemiterator","odict_iterator","itertools.zip_longest","itertools.pairwise"].contains n=false) (hQ:Q () s):wpAny M A (letOwnedTupleGo tg (.ref it) u) Q E s:=by
 unfold letOwnedTupleGo
 cases tg <;> first
  | exact wpAny_pure hQ
  | (cases u <;> first
    | exact wpAny_pure hQ
    | (refine wpAny_bind (wpAny_load ho ?_);rw[hc,hd];show wpAny M A (if (["enumerate","zip","dict_itemiterator","dict_reverseitemiterator","odict_iterator","itertools.zip_longest","itertools.pairwise"].contains n && vs[0]? == some (rawInt _))=true then _ else _) Q E s;rw[if_neg (by intro h;rw[hn,Bool.false_and] at h;cases h)];exact wpAny_pure hQ))
noncomputable def Itl (K:PySem.W.Frag) (a:Addr):It :=
 ⟨λi H=>∃xs x,SqL K H a xs/\xs[i]? = some x,λi H x H'=>H'=H/\∀xs,SqL K H a xs->xs[i]? = some x,λi H=>∃xs,SqL K H a xs/\xs.length<=i⟩
noncomputable def Itt (K:PySem.W.Frag) (a:Addr):It :=
 ⟨λi H=>∃xs x,SqT K H a xs/\xs[i]? = some x,λi H x H'=>H'=H/\∀xs,SqT K H a xs->xs[i]? = some x,λi H=>∃xs,SqT K H a xs/\xs.length<=i⟩
noncomputable def Itr (lo:Int) (n:Nat):It:=⟨λi _=>i<n,λi H x H'=>H'=H/\x = .int (lo+i),λi _=>n<=i⟩
theorem LB {P:Program} {w:World} {K:PySem.W.Frag} {tg:Expr} (a it:Addr):Turn P w K tg (Itl K a) [it] it (λi h=>h.IsListIter it a i) where
 mem:=by simp
 obj:=λi h st b hb=>by
  have e:b=it:=by simpa using hb
  subst e
  obtain⟨o,e,c,d⟩:=st
  exact⟨o,e,λv z=>by rw[d] at z;cases z⟩
 keep:=λi h h' st k=>st.at λo e=>k it (by simp) o e
 item:=by
  intro X hP hw hK hc i pins s σ H E I hf st hg
  subst hP hw hK
  obtain⟨xs,x,hq,hx⟩:=hg
  obtain⟨its,rv,p,hz⟩:=I.list hq
  obtain⟨u,hu,ru⟩:=rv.get hx
  obtain⟨f0,f1,f2,f3,f4,f5⟩:=hf it (by simp)
  refine wpAny_pyNext_list_item st p.isList (x:=u) (by simpa using hu) λh' st' sb=>?_
  have I1:Inv X pins σ H { s with heap:=h' }:=I.turned (t':=s.toks) (λb o hb e=>(sb.2 b hb).trans e) f0 f1 f3 f4 f5
  obtain⟨o,e,c,d⟩:=id st'
  exact⟨u,rfl,HJ (s:={ s with heap:=h' }) e c d (by decide) ⟨x,H,I1,ru,⟨rfl,λys hy=>by rw[I.list_inj hy hq];exact hx⟩,st',λb hb=>(hf b hb).1⟩⟩
 done:=by
  intro X hP hw hK hc i pins s σ H E I hf st hg
  subst hP hw hK
  obtain⟨xs,hq,hx⟩:=hg
  obtain⟨its,rv,p,hz⟩:=I.list hq
  obtain⟨f0,f1,f2,f3,f4,f5⟩:=hf it (by simp)
  have hl:=rv.length
  exact wpAny_pyNext_list_end (I.ok.hd hc) st p.isList (by simp;omega) λh' eb=>⟨rfl,I.turned (t':=s.toks) (λb o hb e=>eb b o hb e) f0 f1 f3 f4 f5⟩
 self:=λ_ _ _ _ _ st h=>wpAny_pyIter_listiter st h
theorem GA {P:Program} {w:World} {K:PySem.W.Frag} {tg:Expr} (a it:Addr):Turn P w K tg (Itt K a) [it] it (λi h=>h.IsTupleIter it a i) where
 mem:=by simp
 obj:=λi h st b hb=>by
  have e:b=it:=by simpa using hb
  subst e
  obtain⟨o,e,c,d⟩:=st
  exact⟨o,e,λv z=>by rw[d] at z;cases z⟩
 keep:=λi h h' st k=>st.at λo e=>k it (by simp) o e
 item:=by
  intro X hP hw hK hc i pins s σ H E I hf st hg
  subst hP hw hK
  obtain⟨xs,x,hq,hx⟩:=hg
  obtain⟨its,rv,p,hz⟩:=I.tuple hq
  obtain⟨u,hu,ru⟩:=rv.get hx
  obtain⟨f0,f1,f2,f3,f4,f5⟩:=hf it (by simp)
  refine wpAny_pyNext_tuple_item st (show s.heap.IsTuple a its.toArray from p) (x:=u) (by simpa using hu) λh' st' sb=>?_
  have I1:Inv X pins σ H { s with heap:=h' }:=I.turned (t':=s.toks) (λb o hb e=>(sb.2 b hb).trans e) f0 f1 f3 f4 f5
  obtain⟨o,e,c,d⟩:=id st'
  exact⟨u,rfl,HJ (s:={ s with heap:=h' }) e c d (by decide) ⟨x,H,I1,ru,⟨rfl,λys hy=>by rw[I.tuple_inj hy hq];exact hx⟩,st',λb hb=>(hf b hb).1⟩⟩
 done:=by
  intro X hP hw hK hc i pins s σ H E I hf st hg
  subst hP hw hK
  obtain⟨xs,hq,hx⟩:=hg
  obtain⟨its,rv,p,hz⟩:=I.tuple hq
  obtain⟨f0,f1,f2,f3,f4,f5⟩:=hf it (by simp)
  have hl:=rv.length
  exact wpAny_pyNext_tuple_end (I.ok.hd hc) st (show s.heap.IsTuple a its.toArray from p) (by simp;omega) λh' eb=>⟨rfl,I.turned (t':=s.toks) (λb o hb e=>eb b o hb e) f0 f1 f3 f4 f5⟩
 self:=λ_ _ _ _ _ st h=>wpAny_pyIter_tupleiter st h
theorem FZ {P:Program} {w:World} {K:PySem.W.Frag} {tg:Expr} (it:Addr) (lo:Int) (n:Nat):Turn P w K tg (Itr lo n) [it] it (λi h=>IsRangeIter h it (lo+(i:Nat)*1) ((n:Int)-(i:Nat)) 1) where
 mem:=by simp
 obj:=λi h st b hb=>by
  have e:b=it:=by simpa using hb
  subst e
  exact⟨_,st,λv z=>by
   have z':Data.fields _=Data.cell v:=z
   cases z'⟩
 keep:=λi h h' st k=>k it (by simp) _ st
 item:=by
  intro X hP hw hK hc i pins s σ H E I hf st hg
  subst hP hw hK
  obtain⟨f0,f1,f2,f3,f4,f5⟩:=hf it (by simp)
  have W:=Walks.range (prog:=X.prog) (w:=X.w) (I.ok.hd hc) it lo 1 n
  refine W.item i s _ _ hg st λv h' tk hv st' kk=>?_
  obtain⟨t,rfl⟩:=hv
  have I1:Inv X pins σ H { s with heap:=h',toks:=tk }:=I.turned (λb o hb e=>kk b o (by simpa using hb) e) f0 f1 f3 f4 f5
  refine⟨_,rfl,HJ (s:={ s with heap:=h',toks:=tk }) (n:="range_iterator") st' rfl rfl (by decide) ⟨.int (lo+i),H,I1,⟨t,?_⟩,⟨rfl,rfl⟩,st',λb hb=>(hf b hb).1⟩⟩
  rw[Int.mul_one]
 done:=by
  intro X hP hw hK hc i pins s σ H E I hf st hg
  subst hP hw hK
  obtain⟨f0,f1,f2,f3,f4,f5⟩:=hf it (by simp)
  exact wpAny_pyNext_range_end (I.ok.hd hc) st (by have:n<=i:=hg;omega) λh' eb=>⟨rfl,I.turned (t':=s.toks) (λb o hb e=>eb b o hb e) f0 f1 f3 f4 f5⟩
 self:=λ_ _ _ _ _ st h=>wpAny_pyIter_rangeiter st h
end L2
namespace L2
open PySem PySem.Spec PyProof.Rows
section
variable {X:Cx} {tg:Expr}
noncomputable def XY (K:PySem.W.Frag) (tl:TE):TI:=λσ H R=>tl σ H λx H1=>∃a,x = .ref a/\(∃xs,SqL K H1 a xs)/\R (Itl K a) H1
noncomputable def ZT (K:PySem.W.Frag) (tl:TE):TI:=λσ H R=>tl σ H λx H1=>∃a,x = .ref a/\(∃xs,SqT K H1 a xs)/\R (Itt K a) H1
theorem SC {l:Expr} {tl:TE} (hl:PE X l tl):PI X tg l (XY X.K tl):=by
 intro pins s σ H R I h
 refine thn (hl pins s σ H _ I h) λv s1 ⟨x,H1,I1,r1,q1⟩=>?_
 obtain⟨a,e,⟨xs,hq⟩,q⟩:=q1
 subst e
 cases r1
 obtain⟨its,rv,p,hz⟩:=I1.list hq
 refine wpAny_pyIter_list p.isList ?_
 refine⟨s1.heap.objs.size,[s1.heap.objs.size],_,_,H1,rfl,I1.kept (t':=s1.toks) λb o e=>Heap.get?_push_of_some _ e,LB a _,⟨_,Heap.get?_push_size _ rfl,rfl,rfl⟩,λb hb=>?_,q⟩
 have e:b=s1.heap.objs.size:=by simpa using hb
 subst e
 exact I1.fpOk (Nat.le_refl _) (I1.hok.fresh (Nat.le_refl _))
theorem WO {l:Expr} {tl:TE} (hl:PE X l tl):PI X tg l (ZT X.K tl):=by
 intro pins s σ H R I h
 refine thn (hl pins s σ H _ I h) λv s1 ⟨x,H1,I1,r1,q1⟩=>?_
 obtain⟨a,e,⟨xs,hq⟩,q⟩:=q1
 subst e
 cases r1
 obtain⟨its,rv,p,hz⟩:=I1.tuple hq
 refine wpAny_pyIter_tuple (show s1.heap.IsTuple a its.toArray from p) ?_
 refine⟨s1.heap.objs.size,[s1.heap.objs.size],_,_,H1,rfl,I1.kept (t':=s1.toks) λb o e=>Heap.get?_push_of_some _ e,GA a _,⟨_,Heap.get?_push_size _ rfl,rfl,rfl⟩,λb hb=>?_,q⟩
 have e:b=s1.heap.objs.size:=by simpa using hb
 subst e
 exact I1.fpOk (Nat.le_refl _) (I1.hok.fresh (Nat.le_refl _))
theorem OS {pins:List (Addr × Obj)} {σ:St} {H:Hp} {s:Shared} {R:It->Hp->Prop} {E:Value->Shared->Prop} {lo hi:Int} {t u v:Tok} {tk:Nat} (I:Inv X pins σ H s) (h1:-(2 ^ 62)<=lo) (h2:lo<2 ^ 62) (h3:-(2 ^ 62)<=hi) (h4:hi<2 ^ 62)
  (q:R (Itr lo (hi-lo).toNat) H):wpAny (model X.prog X.w) X.A (pyIter (.ref s.heap.objs.size)) (PIE X pins σ tg R) E { s with heap:=s.heap.push { cls:=.type "range",data:=.fields #[.int lo t,.int hi u,.int 1 v] },toks:=tk }:=by
 refine wpAny_pyIter_range (IsRange.new ..) (small_one h1 h2 h3 h4) ?_
 have I1:Inv X pins σ H { s with heap:=s.heap.push { cls:=.type "range",data:=.fields #[.int lo t,.int hi u,.int 1 v] },toks:=tk }:=I.kept λb o e=>Heap.get?_push_of_some _ e
 refine⟨(s.heap.push { cls:=.type "range",data:=.fields #[.int lo t,.int hi u,.int 1 v] }).objs.size,[(s.heap.push { cls:=.type "range",data:=.fields #[.int lo t,.int hi u,.int 1 v] }).objs.size],_,_,H,rfl,
  I1.kept (t':=tk) λb o e=>Heap.get?_push_of_some _ e,FZ _ lo (hi-lo).toNat,?_,λb hb=>?_,q⟩
 ·have e1:lo+((0:Nat):Int)*1=lo:=by simp
  have e2:(((hi-lo).toNat:Nat):Int)-((0:Nat):Int)=Builtin.Range.rangeSize lo hi 1:=by rw[rangeSize_one];split <;> omega
  show IsRangeIter _ _ (lo+((0:Nat):Int)*1) ((((hi-lo).toNat:Nat):Int)-((0:Nat):Int)) 1
  rw[e1,e2]
  exact Heap.get?_push_size _ rfl
 ·have e:b=(s.heap.push { cls:=.type "range",data:=.fields #[.int lo t,.int hi u,.int 1 v] }).objs.size:=by simpa using hb
  subst e
  exact I1.fpOk (Nat.le_refl _) (I1.hok.fresh (Nat.le_refl _))
noncomputable def XZ (ta:TA):TI:=λσ H R=>ta σ H λvs H1=>∃j:Int,vs=[.int j]/\-(2 ^ 62)<=j/\j<2 ^ 62/\R (Itr 0 j.toNat) H1
theorem KL {a:Expr} {ta:TA} {p pos:Pos} (hg:Gl X "range") (hm:X.mg "range" = none) (ha:PA X [a] ta) (hs:starEach [a] X.env=[(false,eval a X.env)]:=by rfl):PI X tg (.Call (.Name "range" p) [a] [] pos) (XZ ta):=by
 intro pins s σ H R I h
 refine Call_ (gN I hg hm boot_range (PyProof.Rows.callWith_type1 (thn (ha pos pins s σ H _ I h) λus s1 ⟨vs,H1,I1,r1,q1⟩=>?_) hs rfl))
 obtain⟨j,e,q1,q2,q⟩:=q1
 subst e
 cases r1 with
 | cons r rr =>
  cases rr
  obtain⟨t,rfl⟩:=r
  exact call_range_1 (OS I1 (by omega) (by omega) q1 q2 (by simpa using q))
noncomputable def Aj (wi:TI) (g:TG) (tb:TS):TS:=λD σ H=>wi σ H λJ H1=>∃W:Nat->Nat->St->Hp->Prop,(∃m,W 0 m σ H1)/\∀i m σ H,W i m σ H ->
 (J.stop i H/\D.nx σ H)\/(J.go i H/\∃N:St->Hp->Prop,(∀σ' H',N σ' H'->∃m',m'<m/\W (i+1) m' σ' H')/\∀x H',J.yld i H x H'->g x σ H' λσ2 H2=>tb { D with nx:=N,ct:=N,bk:=D.nx } σ2 H2)
noncomputable def zV (fp:List Addr) (h:Heap):List (Addr × Obj):=fp.filterMap λb=>(h.get? b).map λo=>(b,o)
theorem kD {fp:List Addr} {h:Heap} {b:Addr} {o:Obj} (hb:b∈fp) (e:h.get? b=some o):(b,o)∈zV fp h:=List.mem_filterMap.mpr ⟨b,hb,by rw[e];rfl⟩
theorem KH {fp:List Addr} {h:Heap} {p:Addr × Obj} (hp:p∈zV fp h):p.1∈fp/\h.get? p.1=some p.2:=by
 obtain⟨b,hb,e⟩:=List.mem_filterMap.mp hp
 cases q:h.get? b with
 | none=>rw[q] at e;cases e
 | some o =>
  rw[q] at e
  have e':(b,o)=p:=Option.some.inj e
  subst e'
  exact⟨hb,q⟩
theorem Inv.pinned {pins:List (Addr × Obj)} {σ:St} {H:Hp} {s:Shared} {fp:List Addr} (I:Inv X pins σ H s) (hf:∀b∈fp,pL X pins H b) (ho:∀b∈fp,∃o,s.heap.get? b=some o/\∀v,o.data≠.cell v):Inv X (pins++zV fp s.heap) σ H s :=
 I.pins_of λp hp=>(List.mem_append.mp hp).elim (λz=>I.pin p (List.mem_append_right _ z)) λz=>by
  obtain⟨hb,e⟩:=KH z
  obtain⟨f0,f1,f2,_⟩:=hf p.1 hb
  obtain⟨o,e',d⟩:=ho p.1 hb
  rw[e] at e';cases e'
  exact⟨e,f0,f1,f2,d⟩
theorem Inv.unpinned {pins pl:List (Addr × Obj)} {σ:St} {H:Hp} {s:Shared} (I:Inv X (pins++pl) σ H s):Inv X pins σ H s:=I.pins_of λp hp=>I.pin p (List.mem_append_right _ (List.mem_append_left _ hp))
theorem WP {iter:Expr} {body:List Stmt} {wi:TI} {g:TG} {tb:TS} {pos:Pos} (hp:PassesOwn (model X.prog X.w) X.A X.env X.xe) (hc:X.calm=true) (hi:PI X tg iter wi) (hg:PG X tg g) (hb:PSs X body tb)
  (hs:∀x,foldedSetIterable iter X.env x=pure x:=by intro _;rfl):PS X (.For tg iter body [] pos) (Aj wi g tb):=by
 intro pins s σ H D I h
 refine wpAny_For (thn (hi pins s σ H _ I h) λv s1 h1=>thn h1 λitv s2 h2=>?_) hs
 obtain⟨it,fp,tn,J,H2,e,I2,T,st2,f2,W,⟨m0,w0⟩,turn⟩:=h2
 subst e
 have stat:∀{H':Hp},(∀b∈fp,H' b=none)->∀b∈fp,pL X pins H' b:=λhn b hb=>⟨hn b hb,(f2 b hb).2⟩
 refine codeAny_forLoop_any (λn s'=>∃i σ' H',Inv X pins σ' H' s'/\tn i s'.heap/\(∀b∈fp,H' b=none)/\W i n σ' H') ?_ m0 ⟨0,σ,H2,I2,st2,λb hb=>(f2 b hb).1,w0⟩
 rintro n s3 ⟨i,σ3,H3,I3,st3,fr3,w3⟩
 rcases turn i n σ3 H3 w3 with ⟨stop,qn⟩ | ⟨go,N,hN,step⟩
 ·refine wpAny_passesOwn hp (thn (T.done X rfl rfl rfl hc i pins s3 σ3 H3 X.xe I3 (stat fr3) st3 stop) λr s4 ⟨hr,I4⟩=>?_)
  subst hr
  exact wpAny_execs_nil ⟨σ3,H3,I4,qn⟩
 ·refine wpAny_passesOwn hp (thn (T.item X rfl rfl rfl hc i pins s3 σ3 H3 X.xe I3 (stat fr3) st3 go) λr s4 ⟨u,hr,h4⟩=>?_)
  subst hr
  refine wpAny_passesOwn hp (thn h4 λ_ s5 ⟨x,H5,I5,r5,y5,st5,fr5⟩=>?_)
  have I5':=I5.pinned (stat fr5) (T.obj _ _ st5)
  refine wpAny_passesOwn hp (thn (hg _ s5 σ3 H5 x u _ I5' r5 (step x H5 y5)) λ_ s6 ⟨σ6,H6,I6,q6⟩=>?_)
  refine wpAny_passesOwn hp (thn (hb _ s6 σ6 H6 _ I6 q6) λf s7 q7=>?_)
  have again:∀{σ7:St} {H7:Hp},Inv X (pins++zV fp s5.heap) σ7 H7 s7->N σ7 H7->∃m,m<n/\∃i σ' H',Inv X pins σ' H' s7/\tn i s7.heap/\(∀b∈fp,H' b=none)/\W i m σ' H':=λ{σ7 H7} I7 n7=>by
   obtain⟨m',hm,w7⟩:=hN σ7 H7 n7
   refine⟨m',hm,i+1,σ7,H7,I7.unpinned,T.keep _ _ _ st5 λb hb o e=>(I7.pin (b,o) (List.mem_append_right _ (List.mem_append_right _ (kD hb e)))).1,λb hb=>?_,w7⟩
   obtain⟨o,e,d⟩:=T.obj _ _ st5 b hb
   exact (I7.pin (b,o) (List.mem_append_right _ (List.mem_append_right _ (kD hb e)))).2.1
  cases f with
  | next=>obtain⟨σ7,H7,I7,n7⟩:=q7;exact again I7 n7
  | cont=>obtain⟨σ7,H7,I7,n7⟩:=q7;exact again I7 n7
  | brk=>obtain⟨σ7,H7,I7,q7⟩:=q7;exact⟨σ7,H7,I7.unpinned,q7⟩
  | ret v=>obtain⟨x7,σ7,H7,I7,r7,q7⟩:=q7;exact⟨x7,σ7,H7,I7.unpinned,r7,q7⟩
end
theorem BK {K:PySem.W.Frag} {a:Addr} {xs:List V} {g:TG} {tb:TS} {D:Ends} {σ:St} {H:Hp} (Pv:Nat->St->Hp->Prop) (h0:Pv 0 σ H) (hl:∀i σ H,i<=xs.length->Pv i σ H->SqL K H a xs)
  (hs:∀i x σ H,xs[i]? = some x->Pv i σ H->g x σ H λσ2 H2=>tb { D with nx:=Pv (i+1),ct:=Pv (i+1),bk:=D.nx } σ2 H2) (hd:∀σ H,Pv xs.length σ H->D.nx σ H) :
  ∃W:Nat->Nat->St->Hp->Prop,(∃m,W 0 m σ H)/\∀i m σ H,W i m σ H ->
   ((Itl K a).stop i H/\D.nx σ H)\/((Itl K a).go i H/\∃N:St->Hp->Prop,(∀σ' H',N σ' H'->∃m',m'<m/\W (i+1) m' σ' H')/\∀x H',(Itl K a).yld i H x H'->g x σ H' λσ2 H2=>tb { D with nx:=N,ct:=N,bk:=D.nx } σ2 H2):=by
 refine⟨λi m σ H=>m=xs.length-i/\i<=xs.length/\Pv i σ H,⟨xs.length,by simp,Nat.zero_le _,h0⟩,?_⟩
 rintro i m σ H ⟨rfl,hi,p⟩
 have q:=hl i σ H hi p
 by_cases hlt:i<xs.length
 ·refine .inr ⟨⟨xs,xs[i],q,by simp[hlt]⟩,Pv (i+1),λσ' H' p'=>⟨xs.length-(i+1),by omega,rfl,hlt,p'⟩,λx H' y=>?_⟩
  obtain⟨e,y⟩:=y
  subst e
  exact hs i x σ _ (y xs q) p
 ·have e:i=xs.length:=by omega
  subst e
  exact .inl ⟨⟨xs,q,Nat.le_refl _⟩,hd σ H p⟩
end L2
namespace L2
open PySem PySem.Spec PyProof.Rows
noncomputable abbrev R2:=V->V->Hp->VK->Prop
noncomputable def OpR (X:Cx) (f:Value->Value->Sem Value) (r:R2):Prop :=
 ∀(pins:List (Addr × Obj)) (s:Shared) (σ:St) (H:Hp) (x y:V) (v u:Value) (Q:VK),Inv X pins σ H s->RelV x v->RelV y u->r x y H Q ->
  wpAny (model X.prog X.w) X.A (f v u) (EP X pins σ Q) X.xe s
noncomputable def UnR (X:Cx) (f:Value->Sem Value) (r:V->Hp->VK->Prop):Prop :=
 ∀(pins:List (Addr × Obj)) (s:Shared) (σ:St) (H:Hp) (x:V) (v:Value) (Q:VK),Inv X pins σ H s->RelV x v->r x H Q ->
  wpAny (model X.prog X.w) X.A (f v) (EP X pins σ Q) X.xe s
noncomputable def iK (X:Cx) (f:Value) (r:List V->Hp->VK->Prop):Prop :=
 ∀(pins:List (Addr × Obj)) (s:Shared) (σ:St) (H:Hp) (xs:List V) (us:List Value) (Q:VK),Inv X pins σ H s->Vals xs us->r xs H Q ->
  wpAny (model X.prog X.w) X.A (call f us) (EP X pins σ Q) X.xe s
noncomputable def tOp (r:R2) (ta tb:TE):TE:=λσ H Q=>ta σ H λx H1=>tb σ H1 λy H2=>r x y H2 Q
noncomputable def tUn (r:V->Hp->VK->Prop) (ta:TE):TE:=λσ H Q=>ta σ H λx H1=>r x H1 Q
noncomputable def rI (C:Int->Int->Prop) (g:Int->Int->V):R2:=λx y H Q=>∃i j,x = .int i/\y = .int j/\C i j/\Q (g i j) H
noncomputable def rI0 (g:Int->Int->V):R2:=λx y H Q=>∃i j,x = .int i/\y = .int j/\Q (g i j) H
noncomputable def rU (g:Int->V):V->Hp->VK->Prop:=λx H Q=>∃i,x = .int i/\Q (g i) H
section
variable {X:Cx} {a b c:Expr} {ta tb tc:TE} {pos:Pos}
theorem UT (ha:PE X a ta) (hb:PE X b tb) {pins:List (Addr × Obj)} {s:Shared} {σ:St} {H:Hp} {R:V->V->Hp->Prop} (I:Inv X pins σ H s)
  (h:ta σ H λx H1=>tb σ H1 λy H2=>R x y H2) {Q:Value->Shared->Prop} {f:Value->Value->Sem Value}
  (hf:∀v u s2 x y H2,Inv X pins σ H2 s2->RelV x v->RelV y u->R x y H2->wpAny (model X.prog X.w) X.A (f v u) Q X.xe s2) :
  wpAny (model X.prog X.w) X.A (eval a X.env) (λv s₁=>wpAny (model X.prog X.w) X.A (eval b X.env) (λu s₂=>wpAny (model X.prog X.w) X.A (f v u) Q X.xe s₂) X.xe s₁) X.xe s:=by
 refine thn (ha pins s σ H _ I h) λv s1 ⟨x,H1,I1,r1,q1⟩=>?_
 refine thn (hb pins s1 σ H1 _ I1 q1) λu s2 ⟨y,H2,I2,r2,q2⟩=>?_
 exact hf v u s2 x y H2 I2 r1 r2 q2
theorem YK {op:Operator} {r:R2} (ho:OpR X (binaryOp op) r) (ha:PE X a ta) (hb:PE X b tb):PE X (.BinOp a op b pos) (tOp r ta tb):=by
 intro pins s σ H Q I h
 exact wpAny_BinOp (UT ha hb I h λv u s2 x y H2 I2 rx ry q=>ho pins s2 σ H2 x y v u Q I2 rx ry q)
theorem YL {op:UnaryOp} {r:V->Hp->VK->Prop} (ho:UnR X (unaryOp op) r) (ha:PE X a ta):PE X (.UnaryOp op a pos) (tUn r ta):=by
 intro pins s σ H Q I h
 exact UnaryOp_ (thn (ha pins s σ H _ I h) λv s1 ⟨x,H1,I1,r1,q1⟩=>ho pins s1 σ H1 x v Q I1 r1 q1)
theorem opI {f:Value->Value->Sem Value} {C:Int->Int->Prop} {g:Int->Int->Int}
  (rule:∀(i j:Int) (t u:Tok) (s:Shared) (Q:Value->Shared->Prop) (E:Value->Shared->Prop),C i j->Q (.int (g i j) s.toks) { s with toks:=s.toks+1 }->wpAny (model X.prog X.w) X.A (f (.int i t) (.int j u)) Q E s) :
  OpR X f (rI C λi j=>.int (g i j)):=by
 intro pins s σ H x y v u Q I rx ry h
 obtain⟨i,j,rfl,rfl,hc,q⟩:=h
 obtain⟨t,rfl⟩:=rx
 obtain⟨t',rfl⟩:=ry
 exact rule i j t t' s _ _ hc ⟨.int (g i j),H,I.tok _,⟨_,rfl⟩,q⟩
theorem RP {f:Value->Value->Sem Value} {g:Int->Int->Bool}
  (rule:∀(i j:Int) (t u:Tok) (s:Shared) (Q:Value->Shared->Prop) (E:Value->Shared->Prop),Q (.bool (g i j)) s->wpAny (model X.prog X.w) X.A (f (.int i t) (.int j u)) Q E s) :
  OpR X f (rI0 λi j=>.bl (g i j)):=by
 intro pins s σ H x y v u Q I rx ry h
 obtain⟨i,j,rfl,rfl,q⟩:=h
 obtain⟨t,rfl⟩:=rx
 obtain⟨t',rfl⟩:=ry
 exact rule i j t t' s _ _ ⟨.bl (g i j),H,I,rfl,q⟩
noncomputable def CMul (i j:Int):Prop:=(-(2 ^ 64)<i/\i<2 ^ 64)\/(-(2 ^ 64)<j/\j<2 ^ 64)
theorem CMul.ok {i j:Int} (h:CMul i j):IntMulOk i j:=by
 rcases h with ⟨h1,h2⟩ | ⟨h1,h2⟩
 ·exact .of_left (intBits_le_64 h1 h2)
 ·exact .of_right (intBits_le_64 h1 h2)
theorem unI {f:Value->Sem Value} {g:Int->Int}
  (rule:∀(i:Int) (t:Tok) (s:Shared) (Q:Value->Shared->Prop) (E:Value->Shared->Prop),Q (.int (g i) s.toks) { s with toks:=s.toks+1 }->wpAny (model X.prog X.w) X.A (f (.int i t)) Q E s) :
  UnR X f (rU λi=>.int (g i)):=by
 intro pins s σ H x v Q I rx h
 obtain⟨i,rfl,q⟩:=h
 obtain⟨t,rfl⟩:=rx
 exact rule i t s _ _ ⟨.int (g i),H,I.tok _,⟨_,rfl⟩,q⟩
theorem XM:UnR X (unaryOp .USub) (rU λi=>.int (-i)):=unI λ_ _ _ _ _ q=>neg_int q
end
noncomputable def YX:V->V->Bool
 | .non,.non=>true | .non,.int _=>true | .int _,.non=>true | .non,.bl _=>true | .bl _,.non=>true | .non,.str _=>true | .str _,.non=>true
 | .int _,.int _=>true | .bl _,.bl _=>true | .str _,.str _=>true | .byt _,.byt _=>true
 | .int _,.str _=>true | .str _,.int _=>true | .bl _,.str _=>true | .str _,.bl _=>true
 | _,_=>false
noncomputable def rEq:R2:=λx y H Q=>YX x y=true/\Q (.bl (decide (x=y))) H
noncomputable def rNe:R2:=λx y H Q=>YX x y=true/\Q (.bl (!decide (x=y))) H
theorem GY {i j:Int}:decide (V.int i=V.int j)=(i == j):=by
 rw[Bool.eq_iff_iff]
 simp
theorem MW {i j:Bool}:decide (V.bl i=V.bl j)=(i == j):=by
 rw[Bool.eq_iff_iff]
 simp
theorem GZ {i j:Str}:decide (V.str i=V.str j)=(i == j):=by
 rw[Bool.eq_iff_iff]
 simp
theorem GX {i j:Array UInt8}:decide (V.byt i=V.byt j)=(i.toList == j.toList):=by
 rw[Bool.eq_iff_iff]
 cases i
 cases j
 simp
section
variable {X:Cx} {a b c:Expr} {ta tb tc:TE} {pos:Pos}
theorem bP {pins:List (Addr × Obj)} {σ:St} {H:Hp} {s:Shared} {Q:VK} {k k':Bool} (I:Inv X pins σ H s) (q:Q (.bl k) H) (e:k=k'):EP X pins σ Q (.bool k') s:=by
 subst e
 exact⟨.bl k,H,I,rfl,q⟩
theorem UH:OpR X (compareOp .Eq) rEq:=by
 intro pins s σ H x y v u Q I rx ry h
 obtain⟨hs,q⟩:=h
 cases x with
 | non =>
  cases rx
  cases y with
  | non=>cases ry;exact PySem.EqNone.eq_none_none (bP I q (by simp))
  | bl j=>cases ry;exact PySem.EqNone.eq_none_bool (bP I q (by simp))
  | int j=>obtain⟨t',rfl⟩:=ry;exact PySem.EqNone.eq_none_int (bP I q (by simp))
  | str j=>obtain⟨t',rfl⟩:=ry;exact PySem.EqNone.eq_none_str (bP I q (by simp))
  | _=>exact absurd (show false=true from hs) Bool.false_ne_true
 | bl i =>
  cases rx
  cases y with
  | non=>cases ry;exact PySem.EqNone.eq_bool_none (bP I q (by simp))
  | bl j=>cases ry;exact eq_bool (bP I q MW)
  | str j=>obtain⟨t',rfl⟩:=ry;exact PySem.EqMixed.eq_bool_str (bP I q (by simp))
  | _=>exact absurd (show false=true from hs) Bool.false_ne_true
 | int i =>
  obtain⟨t,rfl⟩:=rx
  cases y with
  | non=>cases ry;exact PySem.EqNone.eq_int_none (bP I q (by simp))
  | int j=>obtain⟨t',rfl⟩:=ry;exact eq_int (bP I q GY)
  | str j=>obtain⟨t',rfl⟩:=ry;exact PySem.EqMixed.eq_int_str (bP I q (by simp))
  | _=>exact absurd (show false=true from hs) Bool.false_ne_true
 | str i =>
  obtain⟨t,rfl⟩:=rx
  cases y with
  | non=>cases ry;exact PySem.EqNone.eq_str_none (bP I q (by simp))
  | bl j=>cases ry;exact PySem.EqMixed.eq_str_bool (bP I q (by simp))
  | int j=>obtain⟨t',rfl⟩:=ry;exact PySem.EqMixed.eq_str_int (bP I q (by simp))
  | str j=>obtain⟨t',rfl⟩:=ry;exact eq_str (bP I q GZ)
  | _=>exact absurd (show false=true from hs) Bool.false_ne_true
 | byt i =>
  obtain⟨t,rfl⟩:=rx
  cases y with
  | byt j=>obtain⟨t',rfl⟩:=ry;exact PySem.W.eq_bytes (bP I q GX)
  | _=>exact absurd (show false=true from hs) Bool.false_ne_true
 | _=>cases y <;> exact absurd (show false=true from hs) Bool.false_ne_true
theorem UI:OpR X (compareOp .NotEq) rNe:=by
 intro pins s σ H x y v u Q I rx ry h
 obtain⟨hs,q⟩:=h
 cases x with
 | non =>
  cases rx
  cases y with
  | non=>cases ry;exact PySem.EqNone.ne_none_none (bP I q (by simp))
  | bl j=>cases ry;exact PySem.EqNone.ne_none_bool (bP I q (by simp))
  | int j=>obtain⟨t',rfl⟩:=ry;exact PySem.EqNone.ne_none_int (bP I q (by simp))
  | str j=>obtain⟨t',rfl⟩:=ry;exact PySem.EqNone.ne_none_str (bP I q (by simp))
  | _=>exact absurd (show false=true from hs) Bool.false_ne_true
 | bl i =>
  cases rx
  cases y with
  | non=>cases ry;exact PySem.EqNone.ne_bool_none (bP I q (by simp))
  | bl j=>cases ry;exact ne_bool (bP I q (congrArg not MW))
  | str j=>obtain⟨t',rfl⟩:=ry;exact PySem.EqMixed.ne_bool_str (bP I q (by simp))
  | _=>exact absurd (show false=true from hs) Bool.false_ne_true
 | int i =>
  obtain⟨t,rfl⟩:=rx
  cases y with
  | non=>cases ry;exact PySem.EqNone.ne_int_none (bP I q (by simp))
  | int j=>obtain⟨t',rfl⟩:=ry;exact ne_int (bP I q (congrArg not GY))
  | str j=>obtain⟨t',rfl⟩:=ry;exact PySem.EqMixed.ne_int_str (bP I q (by simp))
  | _=>exact absurd (show false=true from hs) Bool.false_ne_true
 | str i =>
  obtain⟨t,rfl⟩:=rx
  cases y with
  | non=>cases ry;exact PySem.EqNone.ne_str_none (bP I q (by simp))
  | bl j=>cases ry;exact PySem.EqMixed.ne_str_bool (bP I q (by simp))
  | int j=>obtain⟨t',rfl⟩:=ry;exact PySem.EqMixed.ne_str_int (bP I q (by simp))
  | str j=>obtain⟨t',rfl⟩:=ry;exact ne_str (bP I q (congrArg not GZ))
  | _=>exact absurd (show false=true from hs) Bool.false_ne_true
 | byt i =>
  obtain⟨t,rfl⟩:=rx
  cases y with
  | byt j=>obtain⟨t',rfl⟩:=ry;exact PySem.W.ne_bytes (bP I q (congrArg not GX))
  | _=>exact absurd (show false=true from hs) Bool.false_ne_true
 | _=>cases y <;> exact absurd (show false=true from hs) Bool.false_ne_true
theorem OE:OpR X (compareOp .Lt) (rI0 λi j=>.bl (decide (i<j))):=RP λ_ _ _ _ _ _ _ q=>lt_int q
theorem HU:OpR X (compareOp .LtE) (rI0 λi j=>.bl (decide (i<=j))):=RP λ_ _ _ _ _ _ _ q=>le_int q
theorem OC:OpR X (compareOp .Gt) (rI0 λi j=>.bl (decide (j<i))):=RP λ_ _ _ _ _ _ _ q=>gt_int q
theorem OB:OpR X (compareOp .GtE) (rI0 λi j=>.bl (decide (j<=i))):=RP λ_ _ _ _ _ _ _ q=>ge_int q
theorem WB:OpR X (compareOp .Is) (λx y H Q=>y = .non/\Q (.bl (decide (x = .non))) H):=by
 intro pins s σ H x y v u Q I rx ry h
 obtain⟨rfl,q⟩:=h
 cases ry
 refine is_none_gen (bP I q ?_)
 cases x <;> first
  | (cases rx;rfl)
  | (obtain⟨t,rfl⟩:=rx;rfl)
theorem RW:OpR X (compareOp .IsNot) (λx y H Q=>y = .non/\Q (.bl (!decide (x = .non))) H):=by
 intro pins s σ H x y v u Q I rx ry h
 obtain⟨rfl,q⟩:=h
 cases ry
 refine isnot_none_gen (bP I q ?_)
 cases x <;> first
  | (cases rx;rfl)
  | (obtain⟨t,rfl⟩:=rx;rfl)
theorem NV (b:Expr) {op:CmpOp} (h:op≠.In:=by decide) (h2:op≠.NotIn:=by decide):behindInMarks op b=false:=by
 have e1:(op == CmpOp.In)=false:=by cases op <;> first | rfl | exact absurd rfl h
 have e2:(op == CmpOp.NotIn)=false:=by cases op <;> first | rfl | exact absurd rfl h2
 cases b <;> simp[behindInMarks,e1,e2]
theorem RZ {op:CmpOp} {r:R2} (ho:OpR X (compareOp op) r) (ha:PE X a ta) (hb:PE X b tb) (hm:behindInMarks op b=false):PE X (.Compare a [op] [b] pos) (tOp r ta tb):=by
 intro pins s σ H Q I h
 exact wpAny_Compare1 (UT ha hb I h λv u s2 x y H2 I2 rx ry q=>ho pins s2 σ H2 x y v u Q I2 rx ry q) hm
noncomputable def ZJ (t:TE):TT:=λσ H Q=>t σ H λx H'=>∃k,x = .bl k/\Q k H'
theorem SI {op:CmpOp} {r:R2} (ho:OpR X (compareOp op) r) (ha:PE X a ta) (hb:PE X b tb) (hm:behindInMarks op b=false):PT X (.Compare a [op] [b] pos) (ZJ (tOp r ta tb)):=by
 intro pins s σ H Q I h
 refine wpAny_isTrue_Compare1 (thn (ha pins s σ H _ I h) λv s1 ⟨x,H1,I1,r1,q1⟩=>thn (hb pins s1 σ H1 _ I1 q1) λu s2 ⟨y,H2,I2,r2,q2⟩ =>
  thn (ho pins s2 σ H2 x y v u _ I2 r1 r2 q2) λc s3 ⟨z,H3,I3,r3,k,e,q3⟩=>?_) hm
 subst e
 cases r3
 exact wpAny_truthy_bool ⟨H3,I3,q3⟩
theorem zJ:(sizeLine:Nat)<2 ^ 63:=by rw[sizeLine_eq];decide
theorem jT {x:V} {us:List Value} (r:Vals [x] us):∃u,us=[u]/\RelV x u:=by
 cases r with
 | cons r1 r2=>cases r2;exact⟨_,rfl,r1⟩
theorem DK {x y:V} {us:List Value} (r:Vals [x,y] us):∃u w',us=[u,w']/\RelV x u/\RelV y w':=by
 cases r with
 | cons r1 r2 =>
  cases r2 with
  | cons r3 r4=>cases r4;exact⟨_,_,rfl,r1,r3⟩
theorem MB:iK X (.builtin "abs") (λxs H Q=>∃i,xs=[.int i]/\Q (.int (if i<0 then -i else i)) H):=by
 intro pins s σ H xs us Q I r h
 obtain⟨i,rfl,q⟩:=h
 obtain⟨u,rfl,t,rfl⟩:=jT r
 exact call_abs_int λu tk=>⟨.int (if i<0 then -i else i),H,I.tok _,⟨_,rfl⟩,q⟩
theorem IT (hc:X.calm=true):iK X (.builtin "max") (λxs H Q=>∃i j,xs=[.int i,.int j]/\Q (.int (if j > i then j else i)) H):=by
 intro pins s σ H xs us Q I r h
 obtain⟨i,j,rfl,q⟩:=h
 obtain⟨u,w',rfl,⟨t,rfl⟩,⟨t',rfl⟩⟩:=DK r
 refine max_two_ints (I.ok.hd hc) λh' tk k=>⟨_,H,I.kept k,?_,q⟩
 by_cases hj:j > i
 ·rw[if_pos hj,if_pos hj];exact⟨_,rfl⟩
 ·rw[if_neg hj,if_neg hj];exact⟨_,rfl⟩
theorem IV (hc:X.calm=true):iK X (.builtin "min") (λxs H Q=>∃i j,xs=[.int i,.int j]/\Q (.int (if j<i then j else i)) H):=by
 intro pins s σ H xs us Q I r h
 obtain⟨i,j,rfl,q⟩:=h
 obtain⟨u,w',rfl,⟨t,rfl⟩,⟨t',rfl⟩⟩:=DK r
 refine min_two_ints (I.ok.hd hc) λh' tk k=>⟨_,H,I.kept k,?_,q⟩
 by_cases hj:j<i
 ·rw[if_pos hj,if_pos hj];exact⟨_,rfl⟩
 ·rw[if_neg hj,if_neg hj];exact⟨_,rfl⟩
theorem wS:iK X (.type "int") (λxs H Q=>(∃i,xs=[.int i]/\Q (.int i) H)\/∃k,xs=[.bl k]/\Q (.int (if k then 1 else 0)) H):=by
 intro pins s σ H xs us Q I r h
 rcases h with ⟨i,rfl,q⟩ | ⟨k,rfl,q⟩
 ·obtain⟨u,rfl,t,rfl⟩:=jT r
  exact call_int_int ⟨.int i,H,I,⟨_,rfl⟩,q⟩
 ·obtain⟨u,rfl,r1⟩:=jT r
  cases r1
  exact call_int_bool ⟨.int (if k then 1 else 0),H,I.tok _,⟨_,rfl⟩,q⟩
end
end L2
namespace L2
open PySem PySem.Spec PyProof.Rows
structure ObjM (h:Heap) (x dx C:Addr) (mA:Str->Option Value):Prop where
 obj:h.get? x=some (PySem.W.instObj C dx)
 ns:h.Ns1 dx mA
 ne:dx≠x
theorem KB {h:Heap} {dx:Addr} {mA:Str->Option Value} (n:h.Ns1 dx mA):∃od,h.get? dx=some od/\∀name,PySem.W.lookIn name od=some (mA name):=by
 obtain⟨o,es,ep,ho,hd,hk,_,hm⟩:=n
 refine⟨o,ho,λname=>?_⟩
 have e:=hm name
 unfold nsFind findBy at e
 rw[<-Array.find?_toList] at e
 unfold PySem.W.lookIn
 rw[hd]
 dsimp only
 split
 ·rename_i y q
  rw[q] at e
  exact congrArg some e
 ·rename_i q
  rw[q] at e
  have a:es.toList.any (·.refKey)=false:=by
   rw[List.any_eq_false]
   intro y hy
   obtain⟨z,t,hkey⟩:=hk y (Array.mem_toList_iff.mp hy)
   simp[DictEntry.refKey,hkey]
  have a':¬es.toList.any (·.refKey)=true:=by rw[a];exact Bool.false_ne_true
  rw[if_neg a']
  exact congrArg some e
theorem ObjM.look {h:Heap} {x dx C:Addr} {mA:Str->Option Value} (I:ObjM h x dx C mA):∃od,PySem.W.InstAt h x (PySem.W.instObj C dx) C (some od)/\∀name,PySem.W.lookIn name od=some (mA name) :=
 let ⟨od,ho,hl⟩:=KB I.ns
 ⟨od,⟨I.obj,rfl,rfl,ho⟩,hl⟩
section
variable {prog:Program} {w:World} {A:Around} {E:Value->Shared->Prop} {s:Shared} {K:PySem.W.Frag} {x dx C f:Addr} {mA:Str->Option Value} {name:Str} {v:Value}
end
section
variable {P:Program} {w:World} {H H':Hp} {h h':Heap} {a C dx:Addr} {fs fs':List (Str × V)}
theorem QU (hok:HOk P w H h) (e:H a=some (.ins C dx fs)):∃mA,ObjM h a dx C mA/\(∀f,UN (fs.lookup f) (mA f))/\PySem.Within mA (fs.map (·.1))/\fs.length<=1000/\H dx=some (.own a):=by
 obtain⟨d,z,ne,ob,mA,n,r,q⟩:=(show ObjOk P w H h a (.ins C dx fs) from hok a _ e)
 exact⟨mA,⟨ob,n,ne⟩,r,q,z,d⟩
end
structure Cls (K:PySem.W.Frag) (C:Addr):Prop where
 pg:PySem.W.plainGet K C Str.empty=true
 hd:PySem.W.hasDictIn K C=true
 po:PySem.W.plainOver K C=true
 sa:PySem.W.findIn K (.ref C) "__setattr__" = some (some (.builtin "object.__setattr__"))
theorem Cls.get {K:PySem.W.Frag} {C:Addr} (c:Cls K C) (f:Str):PySem.W.plainGet K C f=true:=c.pg
section
variable {X:Cx} {pins:List (Addr × Obj)} {σ:St} {H:Hp} {s:Shared} {a C dx:Addr} {fs:List (Str × V)} {f:Str} {v:V} {A:Around} {E:Value->Shared->Prop}
end
section
variable {X:Cx} {o e value:Expr} {f:Str} {pos pos' tpos:Pos} {ta tv:TE}
end
section
variable {X:Cx} {pins:List (Addr × Obj)} {σ:St} {H:Hp} {s:Shared} {A:Around} {E:Value->Shared->Prop} {Q:Value->Shared->Prop} {c:Value} {b:Bool}
inductive TyOf (K:PySem.W.Frag) (H:Hp):V->Value->Prop where
 | non:TyOf K H .non (.type "NoneType")
 | bl (x:Bool):TyOf K H (.bl x) (.type "bool")
 | int (i:Int):TyOf K H (.int i) (.type "int")
 | str (x:Str):TyOf K H (.str x) (.type "str")
 | flt (x:UInt64):TyOf K H (.flt x) (.type "float")
 | lst {a:Addr} {xs:List V} (e:H a=some (.lst xs)):TyOf K H (.ref a) (.type "list")
 | frz {a:Addr} {o:Obj} {xs:List V} (e:H a=some (.frz o (.lst xs))):TyOf K H (.ref a) (.type "list")
 | tup {a:Addr} {xs:List V} (e:H a=some (.tup xs)):TyOf K H (.ref a) (.type "tuple")
 | dK {a:Addr} {kvs:List (Key × V)} (e:H a=some (.dK kvs)):TyOf K H (.ref a) (.type "dict")
 | dT {a:Addr} {kvs:List (List Key × V)} (e:H a=some (.dT kvs)):TyOf K H (.ref a) (.type "dict")
 | ins {a C dx:Addr} {fs:List (Str × V)} (e:H a=some (.ins C dx fs)) (cl:Cls K C) (ha:PySem.W.findIn K (.ref C) "__class__" = some (some (.builtin "object.__class__")))
   (hn:PySem.W.specialIn K (.builtin "object.__class__") "__get__" = some (some (.builtin "getset_descriptor.__get__"))) (htk:PySem.W.takesIn K (.builtin "object.__class__")=some true)
   (hm:PySem.W.mroIn K C (.type "object")=some true):TyOf K H (.ref a) (.ref C)
theorem JL {x:V} {u t:Value} (I:Inv X pins σ H s) (rx:RelV x u) (ty:TyOf X.K H x t) (e:PySem.W.kitOne X.K t c=some b) (h:∀tk,Q (.bool b) { s with toks:=tk }) :
  wpAny (model X.prog X.w) A (call (.builtin "isinstance") [u,c]) Q E s:=by
 cases ty with
 | non=>cases (show u=Value.none from rx);exact PySem.W.kia_one PySem.W.kitx_none I.kIn True.intro e (λz=>nomatch z) h
 | bl y=>cases (show u=Value.bool y from rx);exact PySem.W.kia_one PySem.W.kitx_bool I.kIn True.intro e (λz=>nomatch z) h
 | int i=>obtain⟨t,q⟩:=(show ∃t,u=Value.int i t from rx);cases q;exact PySem.W.kia_one PySem.W.kitx_int I.kIn True.intro e (λz=>nomatch z) h
 | str y=>obtain⟨t,q⟩:=(show ∃t,u=Value.str y t from rx);cases q;exact PySem.W.kia_one PySem.W.kitx_str I.kIn True.intro e (λz=>nomatch z) h
 | flt y=>obtain⟨t,q⟩:=(show ∃t,u=Value.float y t from rx);cases q;exact PySem.W.kia_one PySem.W.kitx_float I.kIn True.intro e (λz=>nomatch z) h
 | @lst a xs ea =>
  cases (show u=Value.ref a from rx)
  obtain⟨_,_,n,_,h1⟩:=(show ObjOk X.prog X.w H s.heap a (.lst xs) from I.hok a _ ea)
  exact PySem.W.kia_one PySem.W.kitx_list I.kIn ⟨_,h1,rfl⟩ e (λz=>nomatch z) h
 | @frz a ob xs ea =>
  cases (show u=Value.ref a from rx)
  obtain⟨_,_,_,n,_,h1⟩:=(show ObjOk X.prog X.w H s.heap a (.frz ob (.lst xs)) from I.hok a _ ea)
  exact PySem.W.kia_one PySem.W.kitx_list I.kIn ⟨_,h1,rfl⟩ e (λz=>nomatch z) h
 | @tup a xs ea =>
  cases (show u=Value.ref a from rx)
  obtain⟨_,_,_,p⟩:=(show ObjOk X.prog X.w H s.heap a (.tup xs) from I.hok a _ ea)
  obtain⟨o,h1,h2,_⟩:=p
  exact PySem.W.kia_one PySem.W.kitx_tuple I.kIn ⟨o,h1,h2⟩ e (λz=>nomatch z) h
 | @dK a kvs ea =>
  cases (show u=Value.ref a from rx)
  obtain⟨_,_,vs,_,p⟩:=(show ObjOk X.prog X.w H s.heap a (.dK kvs) from I.hok a _ ea)
  obtain⟨o,es,ep,h1,h2,_⟩:=p
  exact PySem.W.kia_one PySem.W.kitx_dict I.kIn ⟨o,h1,h2.1⟩ e (λz=>nomatch z) h
 | @dT a kvs ea =>
  cases (show u=Value.ref a from rx)
  obtain⟨_,_,xs,_,o,es,ep,h1,h2,_⟩:=(show ObjOk X.prog X.w H s.heap a (.dT kvs) from I.hok a _ ea)
  exact PySem.W.kia_one PySem.W.kitx_dict I.kIn ⟨o,h1,h2.1⟩ e (λz=>nomatch z) h
 | @ins a C dx fs ea cl ha hn htk hm =>
  cases (show u=Value.ref a from rx)
  obtain⟨mA,O,_⟩:=QU I.hok ea
  obtain⟨od,J,_⟩:=O.look
  exact PySem.W.kia_one (PySem.W.kitx_own (cl.get _) cl.hd ha hn htk hm) I.kIn J e (λz=>nomatch z) h
end
end L2
namespace L2
open PySem PySem.Spec PyProof.Rows
structure Room (k:Nat) (A:Around):Prop where
 hd:A.handled=none
 dp:A.depth+3*k+5<recursionLimit
 un:A.units+16*k+200<cLine
theorem Room.mono {j k:Nat} {A:Around} (r:Room k A) (h:j<=k):Room j A:=⟨r.hd,by have:=r.dp;omega,by have:=r.un;omega⟩
theorem Room.deeper {k:Nat} {A:Around} (r:Room (k+1) A) (env:Env):Room k (A.deeper env) :=
 ⟨r.hd,by have:=r.dp;show A.depth+1+3*k+5<_;omega,by have:=r.un;show A.units+3+16*k+200<_;omega⟩
theorem Room.depth {k:Nat} {A:Around} (r:Room k A):A.depth<recursionLimit:=by have:=r.dp;omega
theorem Room.units {k:Nat} {A:Around} (r:Room k A):A.units+64<cLine:=by have:=r.un;omega
noncomputable def Am:TA:=λ_ H Q=>Q [] H
noncomputable def ZE (ta:TE) (tr:TA):TA:=λσ H Q=>ta σ H λx H1=>tr σ H1 λxs H2=>Q (x::xs) H2
section
variable {X:Cx} {e:Expr} {es:List Expr} {te:TE} {t:TA} {pos:Pos}
theorem uH:PA X [] Am:=λ_ _ _ _ H Q I h=>Calls.spliced_nil ⟨[],H,I,.nil,h⟩
theorem iQ (ha:PE X e te) (hr:PA X es t) (hs:starEach (e::es) X.env=(false,eval e X.env)::starEach es X.env:=by rfl):PA X (e::es) (ZE te t):=by
 intro pos pins s σ H Q I h
 rw[hs]
 show wpAny _ _ (spliced ((false,eval e X.env)::backTo pos (starEach es X.env))) _ _ s
 refine Calls.spliced_cons (thn (ha pins s σ H _ I h) λu s1 ⟨x,H1,I1,r1,q1⟩=>?_)
 exact thn (hr pos pins s1 σ H1 _ I1 q1) λus s2 ⟨xs,H2,I2,r2,q2⟩=>⟨x::xs,H2,I2,.cons r1 r2,q2⟩
noncomputable def Ar (t:TA):TE:=λσ H Q=>t σ H λxs H1=>xs.length<=sizeLine/\∀p,H1 p=none->Q (.ref p) (upd H1 p (.tup xs))
noncomputable def Al (t:TA):TE:=λσ H Q=>t σ H λxs H1=>xs.length<=sizeLine/\∀p,H1 p=none->Q (.ref p) (upd H1 p (.lst xs))
theorem WK {x1} (h:PA X es t):PE X (.Tuple es x1 pos) (Ar t):=by
 intro pins s σ H Q I hq
 refine wpAny_Tuple_spliced (thn (h pos pins s σ H _ I hq) λus s1 ⟨xs,H1,I1,r,z,q⟩=>⟨by rw[<-r.length];exact z,?_⟩)
 have hf:H1 s1.heap.objs.size=none:=I1.hok.fresh (Nat.le_refl _)
 refine⟨.ref s1.heap.objs.size,upd H1 s1.heap.objs.size (.tup xs),I1.laid (t':=s1.toks) (λb u e=>Heap.get?_push_of_some _ e) (Nat.le_refl _) ?_,rfl,q _ hf⟩
 exact⟨z,us,r,⟨_,Heap.get?_push_size _ rfl,rfl,_,rfl⟩⟩
theorem WG (h:PA X es t):PE X (.List es pos) (Al t):=by
 intro pins s σ H Q I hq
 refine wpAny_List_spliced (thn (h pos pins s σ H _ I hq) λus s1 ⟨xs,H1,I1,r,z,q⟩=>⟨by rw[<-r.length];exact z,?_⟩)
 have hf:H1 s1.heap.objs.size=none:=I1.hok.fresh (Nat.le_refl _)
 refine⟨.ref s1.heap.objs.size,upd H1 s1.heap.objs.size (.lst xs),I1.laid (t':=s1.toks) (λb u e=>Heap.get?_push_of_some _ e) (Nat.le_refl _) ?_,rfl,q _ hf⟩
 exact⟨z,us,0,r,Heap.get?_push_size _ rfl⟩
end
noncomputable abbrev Sp:=List V->Hp->VK->XK->Prop
noncomputable abbrev CXT:=List Env->Hp->Shared->XK->Value->Shared->Prop
structure Env0 (P:Program) (w:World) (K:PySem.W.Frag) (mg:Str->Option Value) (base:Heap) (A:Around) (outer:List Env) (s:Shared) (H:Hp):Prop where
 frames:A.frames=some outer
 mod:Mod K mg base
 bs:∀b o,base.get? b=some o->s.heap.get? b=some o/\H b=none
 bsz:base.objs.size<=s.heap.objs.size
 funs:s.heap.FunFrames base outer
 frf:∀b∈frs outer,H b=none
 hok:HOk P w H s.heap
 bare:AllBare s.gens
noncomputable def CE (outer:List Env) (P:Program) (w:World) (H:Hp) (s:Shared) (Q:VK) (u:Value) (s':Shared):Prop :=
 ∃v H',s'.os=s.os/\AllBare s'.gens/\Un (frs outer) [] H H' s.heap s'.heap/\HOk P w H' s'.heap/\RelV v u/\Q v H'
noncomputable def CR (CX:CXT) (outer:List Env) (P:Program) (w:World) (H:Hp) (s:Shared) (Q:VK) (E:XK) (r:Result) (s':Shared):Prop :=
 match r with
 | .ok (.ret u)=>CE outer P w H s Q u s'
 | .ok _=>False
 | .error e=>CX outer H s E e s'
structure FnOk (P:Program) (w:World) (K:PySem.W.Frag) (mg:Str->Option Value) (base:Heap) (CX:CXT) (k:Nat) (f:Addr) (fd:FuncData) (ps:List Str) (sp:Sp):Prop where
 len:∀vs H Q E,sp vs H Q E->vs.length=ps.length
 run:∀(A:Around) (outer:List Env) (s:Shared) (H:Hp) (args:Args) (us:List Value) (vs:List V) (Q:VK) (E:XK),Room k A->Env0 P w K mg base A outer s H->BindsTo s fd args (ps.zip us)->Vals vs us->sp vs H Q E ->
  codeAny (model P w) A (.call (.ref f) args) (CR CX outer P w H s Q E) s
theorem FnOk.mono {P:Program} {w:World} {K:PySem.W.Frag} {mg:Str->Option Value} {base:Heap} {CX:CXT} {j k:Nat} {f:Addr} {fd:FuncData} {ps:List Str} {sp:Sp} (F:FnOk P w K mg base CX j f fd ps sp) (h:j<=k) :
  FnOk P w K mg base CX k f fd ps sp:=⟨F.len,λA outer s H args us vs Q E hr=>F.run A outer s H args us vs Q E (hr.mono h)⟩
section
variable {X:Cx} {pins:List (Addr × Obj)} {σ:St} {H:Hp} {s s':Shared}
theorem Inv.env0 (I:Inv X pins σ H s):Env0 X.prog X.w X.K X.mg X.base X.A X.stack s H :=
 ⟨I.ok.frames,I.ok.mod,I.bs,Nat.le_trans I.ok.bsz I.sz,I.stack,I.stkFree,I.hok,I.bare⟩
theorem Inv.after {Q:VK} {u:Value} (I:Inv X pins σ H s) (h:CE X.stack X.prog X.w H s Q u s'):EP X pins σ Q u s':=by
 obtain⟨v,H',os,bare,un,hok,r,q⟩:=h
 obtain⟨hh,g,d,t,os'⟩:=s'
 obtain rfl:os'=s.os:=os
 exact⟨v,H',I.call (h':=hh) (g':=g) (d':=d) (t':=t) (ch:=[]) un hok bare (λb z=>absurd z (by simp)),r,q⟩
end
noncomputable def ZD (sp:Sp) (dvs:List V) (E:XK) (t:TA):TE:=λσ H Q=>t σ H λvs H1=>sp (vs++dvs) H1 Q E
noncomputable def Binds (K:PySem.W.Frag) (fd:FuncData) (ps:List Str) (ds:List Value):Prop :=
 ∀(s:Shared) (us:List Value),K.In s.heap->(us++ds).length=ps.length->BindsTo s fd ⟨us,[]⟩ (ps.zip (us++ds))
theorem Binds.all {K:PySem.W.Frag} {fd:FuncData} {ps:List Str} (h:∀us:List Value,us.length=ps.length->bindArgs fd ⟨us,[]⟩=pure (ps.zip us)):Binds K fd ps []:=λs us _ hl=>by
 rw[List.append_nil] at hl ⊢
 exact .of_eq (h us hl)
noncomputable def DV (CX:CXT) (X:Cx) (E:XK):Prop:=∀(pins:List (Addr × Obj)) (σ:St) (H:Hp) (s:Shared) (e:Value) (s':Shared),Inv X pins σ H s->CX X.stack H s E e s'->X.xe e s'
section
variable {X:Cx} {CX:CXT} {k:Nat} {f C:Addr} {fd:FuncData} {ps:List Str} {sp:Sp} {dvs:List V} {ds:List Value} {E:XK} {x m:Str} {p pos apos:Pos} {e o:Expr} {es:List Expr} {ta:TE} {t:TA}
theorem XC {pins:List (Addr × Obj)} {σ:St} {H:Hp} {s:Shared} {Q:VK} {us:List Value} {vs:List V} (F:FnOk X.prog X.w X.K X.mg X.base CX k f fd ps sp) (hr:Room k X.A) (hb:Binds X.K fd ps ds) (hd:Vals dvs ds) (hx:DV CX X E)
  (I:Inv X pins σ H s) (r:Vals vs us) (h:sp (vs++dvs) H Q E):wpAny (model X.prog X.w) X.A (call (.ref f) us) (EP X pins σ Q) X.xe s:=by
 have r2:Vals (vs++dvs) (us++ds):=r.append hd
 have hl:(us++ds).length=ps.length:=by rw[<-r2.length];exact F.len _ _ _ _ h
 refine wpAny_call (codeAny_mono (F.run X.A X.stack s H ⟨us,[]⟩ (us++ds) (vs++dvs) Q E hr I.env0 (hb s us I.kIn hl) r2 h) λr s' hq=>?_)
 cases r with
 | error e=>exact hx pins σ H s e s' I hq
 | ok fl =>
  cases fl with
  | ret u=>exact I.after hq
  | next=>exact False.elim hq
  | brk=>exact False.elim hq
  | cont=>exact False.elim hq
theorem RY (F:FnOk X.prog X.w X.K X.mg X.base CX k f fd ps sp) (hr:Room k X.A) (hg:Gl X x) (hm:X.mg x=some (.ref f)) (hk:PySem.W.keepIn X.K (.ref f)=true) (hb:Binds X.K fd ps ds) (hd:Vals dvs ds) (hx:DV CX X E)
  (ha:PA X (e::es) t) (hdb:(x == ("__debug__":Str))=false:=by decide) (he:starEach (e::es) X.env=(false,eval e X.env)::starEach es X.env:=by rfl) (hpl:(backTo pos (starEach es X.env)).any (·.1)=false:=by rfl) :
  PE X (.Call (.Name x p) (e::es) [] pos) (ZD sp dvs E t):=by
 intro pins s σ H Q I h
 refine wpAny_Call_Name_kw (QX I hg hm ?_ hdb)
 refine PySem.W.callWith_K (h₀:=X.base) I.ok.mod.kin hk (thn (ha pos pins s σ H _ I h) λus s1 ⟨vs,H1,I1,r,q⟩=>⟨I1.kIn,?_⟩) he hpl
 exact XC F hr hb hd hx I1 r q
end
section
variable {X:Cx} {CX:CXT} {k:Nat} {f C:Addr} {fd:FuncData} {ps ks:List Str} {sp:Sp} {E:XK} {x m:Str} {p pos apos kpos:Pos} {e o:Expr} {es:List Expr} {kws:List Keyword} {te ta:TE} {t tk:TA} {nm:Option Str}
variable {g:List Value->List Value->List Value} {gV:List V->List V->List V}
end
structure FnScope (N P:List Str) (sc:Scope):Prop where
 kind:sc.kind = .function
 co:sc.isCoroutine=false
 gen:sc.isGenerator=false
 nd:N.Nodup
 pre:N.take P.length=P
 par:∀x∈P,sc.names.lookup x=some .local\/sc.names.lookup x=some .cell
 nofree:∀y∈sc.names,y.2≠.free
theorem wP {kindOf:Str->Option NameKind} {x:Str}:∀{binds:List (Str × Value)} {m:Str->Option Value},(∀v,(x,v) ∉ binds)->bindL kindOf binds m x=m x
 | [],_,_=>rfl
 | (n,v)::r,m,h=>by
  unfold bindL
  rw[wP λw hw=>h w (List.mem_cons_of_mem _ hw)]
  split
  ·have:x≠n:=by rintro rfl;exact h v List.mem_cons_self
   simp[this]
  ·rfl
theorem wN {kindOf:Str->Option NameKind} {x:Str}:∀{binds:List (Str × Value)} {m:Str->Option Value},(∀v,(x,v) ∉ binds)->bindC kindOf binds m x=m x
 | [],_,_=>rfl
 | (n,v)::r,m,h=>by
  unfold bindC
  rw[wN λw hw=>h w (List.mem_cons_of_mem _ hw)]
  split
  ·rfl
  ·have:x≠n:=by rintro rfl;exact h v List.mem_cons_self
   simp[this]
theorem wO {kindOf:Str->Option NameKind} {x:Str} {v:Value}:∀{P:List Str} {vs:List Value} {i:Nat} {m:Str->Option Value},P.Nodup->P[i]? = some x->vs[i]? = some v->kindOf x=some .local ->
  bindL kindOf (P.zip vs) m x=some v
 | [],_,_,_,_,h,_,_=>by simp at h
 | _::_,[],_,_,_,_,h,_=>by simp at h
 | p::P,w::vs,0,m,nd,h1,h2,hk=>by
  simp at h1 h2;subst h1;subst h2
  show bindL kindOf ((p,w)::P.zip vs) m p=_
  unfold bindL
  rw[wP λv hv=>(List.nodup_cons.mp nd).1 (List.of_mem_zip hv).1,if_pos hk]
  simp
 | p::P,w::vs,i+1,m,nd,h1,h2,hk=>by
  show bindL kindOf ((p,w)::P.zip vs) m x=_
  unfold bindL
  exact wO (i:=i) (List.nodup_cons.mp nd).2 (by simpa using h1) (by simpa using h2) hk
theorem wM {kindOf:Str->Option NameKind} {x:Str} {v:Value}:∀{P:List Str} {vs:List Value} {i:Nat} {m:Str->Option Value},P.Nodup->P[i]? = some x->vs[i]? = some v->kindOf x≠some .local ->
  bindC kindOf (P.zip vs) m x=some v
 | [],_,_,_,_,h,_,_=>by simp at h
 | _::_,[],_,_,_,_,h,_=>by simp at h
 | p::P,w::vs,0,m,nd,h1,h2,hk=>by
  simp at h1 h2;subst h1;subst h2
  show bindC kindOf ((p,w)::P.zip vs) m p=_
  unfold bindC
  rw[wN λv hv=>(List.nodup_cons.mp nd).1 (List.of_mem_zip hv).1,if_neg hk]
  simp
 | p::P,w::vs,i+1,m,nd,h1,h2,hk=>by
  show bindC kindOf ((p,w)::P.zip vs) m x=_
  unfold bindC
  exact wM (i:=i) (List.nodup_cons.mp nd).2 (by simpa using h1) (by simpa using h2) hk
noncomputable def start (N:List Str) (vs:List V):St:=vs.map some++List.replicate (N.length-vs.length) none
noncomputable def cR (CX:CXT) (P:Program) (w:World) (K:PySem.W.Frag) (mg:Str->Option Value) (base:Heap) (N:List Str) (qual:Str) (scope:Scope) (f:Addr) (cd:Value) (A:Around) (outer:List Env) (s:Shared) (H:Hp) (E:XK):Cx where
 prog:=P
 w:=w
 K:=K
 mg:=mg
 base:=base
 A:=A.deeper (envOfC qual scope s.heap.objs.size f cd)
 N:=N
 s₀:=s
 H₀:=H
 env:=envOfC qual scope s.heap.objs.size f cd
 outer:=outer
 stack:=envOfC qual scope s.heap.objs.size f cd::outer
 ex:=[]
 calm:=true
 fn:=λ_=>true
 pn:=[]
 xe:=λe s'=>wpAny (model P w) (A.deeper (envOfC qual scope s.heap.objs.size f cd)) (leaving (envOfC qual scope s.heap.objs.size f cd) e) (λ_ s''=>CX outer H s E e s'') (λe' s''=>CX outer H s E e' s'') s'
theorem AR {sc:Scope} {n:Nat} {x:Str} (h:sc.names.lookup x=some .cell):∃c,(cellsFrom n sc.names []).lookup x=some c:=by
 have q:=PySem.W.cellsFrom_some sc.names n [] (.inl h)
 exact Option.isSome_iff_exists.mp q
theorem JJ {CX:CXT} {P:Program} {w:World} {K:PySem.W.Frag} {mg:Str->Option Value} {base:Heap} {N ps:List Str} {qual:Str} {scope:Scope} {f:Addr} {cd:Value} {A:Around} {outer:List Env} {s s1:Shared} {H:Hp} {E:XK} {us:List Value} {vs:List V}
  (S:FnScope N ps scope) (hd:A.handled=none) (e0:Env0 P w K mg base A outer s H) (hl:vs.length=ps.length) (r:Vals vs us)
  (x:InCallC s s.heap.objs.size (bindL (envOfC qual scope s.heap.objs.size f cd).kindOf (ps.zip us) λ_=>none) (cellsFrom (s.heap.objs.size+1) scope.names []) (bindC (envOfC qual scope s.heap.objs.size f cd).kindOf (ps.zip us) λ_=>none) s1) :
  Inv (cR CX P w K mg base N qual scope f cd A outer s H E) [] (start N vs) H s1:=by
 have hpl:ps.length<=N.length:=by have:=congrArg List.length S.pre;rw[List.length_take] at this;omega
 obtain⟨h1,tk,rfl,hk⟩:=x.done
 have noA:∀b:Addr,b ∉ (cR CX P w K mg base N qual scope f cd A outer s H E).ex:=λb z=>absurd (show b∈([]:List Addr) from z) (by simp)
 refine⟨⟨e0.mod,S.kind,rfl,rfl,Nat.le_refl _,λy z c h1 h2=>?_,λy hy=>?_,λy c _ h=>?_,λ_=>hd,Around.frames_deeper e0.frames,.inr ⟨rfl,rfl⟩,λb z=>absurd z (noA b),e0.bs,e0.bsz,λb _ _=>noA b,λb z=>absurd z (noA b),e0.funs,e0.frf⟩,
  rfl,e0.bare,Un.kept hk,⟨_,x.toInCall.ns,λi y v h1 h2 h3=>?_⟩,λy c h=>⟨_,x.cell y c h⟩,e0.hok.fresh (Nat.le_refl _),λy c h=>?_,λp hp=>absurd (show p∈([]:List (Addr × Obj)) from hp) (by simp),e0.hok.kept hk,?_⟩
 ·exact name_of_addr x.apart (PySem.mem_of_lookup h1) (PySem.mem_of_lookup h2)
 ·have hy:scope.names.lookup y=some .cell\/scope.names.lookup y=some .free:=hy
  rcases hy with hy | hy
  ·exact AR hy
  ·exact absurd rfl (S.nofree _ (PySem.mem_of_lookup hy))
 ·exact Nat.le_of_lt (x.above y c (PySem.mem_of_lookup h))
 ·have hi:i<vs.length:=by
   unfold start at h2
   by_cases hi:i<vs.length
   ·exact hi
   ·rw[List.getElem?_append_right (by simpa using hi)] at h2
    rw[List.getElem?_replicate] at h2
    split at h2 <;> cases h2
  have ha:vs[i]? = some v:=by
   unfold start at h2
   rw[List.getElem?_append_left (by simpa using hi),List.getElem?_map] at h2
   cases e:vs[i]? with
   | none=>rw[e] at h2;cases h2
   | some a=>rw[e] at h2;cases h2;rfl
  obtain⟨u,hu,rv⟩:=r.get ha
  have hp:ps[i]? = some y:=by
   rw[<-S.pre,List.getElem?_take_of_lt (by omega)];exact h1
  have ndP:ps.Nodup:=by rw[<-S.pre];exact S.nd.sublist (List.take_sublist _ _)
  refine⟨u,rv,?_⟩
  rcases S.par y (List.mem_of_getElem? hp) with k | k
  ·exact .inl ⟨k,wO ndP hp hu k⟩
  ·obtain⟨c,e⟩:=AR (n:=s.heap.objs.size+1) k
   refine .inr ⟨.inl k,c,e,?_⟩
   have q:=x.cell y c e
   rw[wM ndP hp hu (by show scope.names.lookup y≠_;rw[k];decide)] at q
   exact q
 ·exact e0.hok.fresh (Nat.le_of_lt (x.above y c (PySem.mem_of_lookup h)))
 ·unfold start
  show _=N.length
  rw[List.length_append,List.length_map,List.length_replicate]
  omega
theorem XW {CX:CXT} {P:Program} {w:World} {K:PySem.W.Frag} {mg:Str->Option Value} {base:Heap} {k:Nat} {f:Addr} {name qual:Str} {params:Arguments} {body:List Stmt} {scope:Scope} {dV kV doc pm cdv ct oc:Value} {an od:Option Addr}
  {osl:Array (Option Value)} {N ps:List Str} {sp:Sp} (lk:K.lookup f=some ⟨oc,od,.func (PySem.W.fnOf name qual params body scope dV kV doc pm an cdv ct),osl⟩) (hcd:PySem.W.codeIn K cdv qual=true) (S:FnScope N ps scope)
  (len:∀vs H Q E,sp vs H Q E->vs.length=ps.length)
  (hbody:∀(A:Around) (outer:List Env) (s:Shared) (H:Hp) (vs:List V) (Q:VK) (E:XK),Room k (A.deeper (envOfC qual scope s.heap.objs.size f cdv))->sp vs H Q E ->
   ∃t,PSs (cR CX P w K mg base N qual scope f cdv A outer s H E) body t/\t { nx:=λ_ H'=>Q .non H',rt:=Q } (start N vs) H) :
  FnOk P w K mg base CX (k+1) f (PySem.W.fnOf name qual params body scope dV kV doc pm an cdv ct) ps sp:=by
 refine⟨len,λA outer s H args us vs Q E hr e0 hb r hsp=>?_⟩
 have hl:=len _ _ _ _ hsp
 have KX:K.In s.heap:=e0.mod.kin.keeps λb o e=>(e0.bs b o e).1
 have lim:s.heap.NoLimit:=e0.mod.nolimit.keeps λb o e=>(e0.bs b o e).1
 have hkind:∀y∈ps.zip us,scope.names.lookup y.1=some .local\/(scope.names.lookup y.1=some .cell/\((cellsFrom (s.heap.objs.size+1) scope.names []).lookup y.1).isSome=true):=λ⟨n,v⟩ hy=>by
  rcases S.par n (List.of_mem_zip hy).1 with q | q
  ·exact .inl q
  ·exact .inr ⟨q,PySem.W.cellsFrom_some _ _ _ (.inl q)⟩
 refine codeAny_call_function hr.depth (KX _ _ lk) rfl S.co S.gen rfl (PySem.W.codeRec_of KX hcd) (hb _ _ _ _ ?_)
 refine wpAny_newFunctionEnv_cells S.kind hkind λenv he s1 x=>?_
 subst he
 refine⟨lim.keeps x.toInCall.keep,codeAny_func ?_⟩
 obtain⟨t,ht,hq⟩:=hbody A outer s H vs Q E (hr.deeper _) hsp
 have I:Inv (cR CX P w K mg base N qual scope f cdv A outer s H E) [] (start N vs) H s1:=JJ S hr.hd e0 hl r x
 refine wpAny_mono (ht [] s1 (start N vs) H _ I hq) (λfl s' hs=>?_) λe s' hs=>hs
 have fin:∀{σ':St} {H':Hp} {v:V} {u:Value},Inv (cR CX P w K mg base N qual scope f cdv A outer s H E) [] σ' H' s'->RelV v u->Q v H'->CE outer P w H s Q u s' :=
  λ{σ' H' v u} J rv q=>⟨v,H',J.os,J.bare,J.base,J.hok,rv,q⟩
 cases fl with
 | ret u =>
  obtain⟨v,σ',H',J,rv,q⟩:=hs
  exact fin J rv q
 | next =>
  obtain⟨σ',H',J,q⟩:=hs
  exact fin (v:=V.non) (u:=Value.none) J rfl q
 | brk =>
  obtain⟨_,_,_,q⟩:=hs
  exact False.elim q
 | cont =>
  obtain⟨_,_,_,q⟩:=hs
  exact False.elim q
end L2
namespace L2
open PySem PySem.Spec PyProof.Rows
section
variable {X:Cx} {x:Str} {p pos:Pos} {e:Expr} {es:List Expr} {t:TA} {id T:String} {r:List V->Hp->VK->Prop}
noncomputable def tCB (r:List V->Hp->VK->Prop) (t:TA):TE:=λσ H Q=>t σ H λvs H1=>r vs H1 Q
theorem iE (hc:iK X (.builtin id) r) (hg:Gl X x) (hm:X.mg x=none) (hv:bootBuiltins x=some (.builtin id)) (ha:PA X (e::es) t) (hn:x≠"__name__":=by decide) (hdb:(x == ("__debug__":Str))=false:=by decide)
  (he:starEach (e::es) X.env=(false,eval e X.env)::starEach es X.env:=by rfl) (hpl:(backTo pos (starEach es X.env)).any (·.1)=false:=by rfl):PE X (.Call (.Name x p) (e::es) [] pos) (tCB r t):=by
 intro pins s σ H Q I h
 refine wpAny_Call_Name_kw (gN I hg hm hv ?_ hn hdb)
 exact PyProof.Rows.callWith_builtin1 (thn (ha pos pins s σ H _ I h) λus s1 ⟨vs,H1,I1,r1,q1⟩=>hc pins s1 σ H1 vs us Q I1 r1 q1) he hpl
theorem xH (hc:iK X (.type T) r) (hg:Gl X x) (hm:X.mg x=none) (hv:bootBuiltins x=some (.type T)) (ha:PA X (e::es) t) (hn:x≠"__name__":=by decide) (hdb:(x == ("__debug__":Str))=false:=by decide)
  (he:starEach (e::es) X.env=(false,eval e X.env)::starEach es X.env:=by rfl) (hpl:(backTo pos (starEach es X.env)).any (·.1)=false:=by rfl):PE X (.Call (.Name x p) (e::es) [] pos) (tCB r t):=by
 intro pins s σ H Q I h
 refine wpAny_Call_Name_kw (gN I hg hm hv ?_ hn hdb)
 exact PyProof.Rows.callWith_type1 (thn (ha pos pins s σ H _ I h) λus s1 ⟨vs,H1,I1,r1,q1⟩=>hc pins s1 σ H1 vs us Q I1 r1 q1) he hpl
end
end L2
namespace HT
open PySem PyProof.Rows
noncomputable def lexLt:List Int->List Int->Bool
 | [],[]=>false
 | [],_::_=>true
 | _::_,[]=>false
 | x::xs,y::ys=>if x=y then lexLt xs ys else decide (x<y)
theorem lexLt_cons (x y:Int) (xs ys:List Int):lexLt (x::xs) (y::ys)=if x=y then lexLt xs ys else decide (x<y):=rfl
theorem vP:lexLt [] []=false:=rfl
theorem tZ (y:Int) (ys:List Int):lexLt [] (y::ys)=true:=rfl
theorem tY (x:Int) (xs:List Int):lexLt (x::xs) []=false:=rfl
theorem NB (A:Around) (s:Shared) (a:Int) (t:Tok) (c:Int) (u:Tok):∃e,SeqAt.EqAt A s (.int a t) (.int c u) e/\(e=true↔a=c) :=
 ⟨(a == c),SeqAt.EqAt.int_int a t c u,by simp⟩
theorem OT (A:Around) (s:Shared) (a:Int) (t:Tok) (c:Int) (u:Tok) (prog:Program) (w:World) (E:Value->Shared->Prop) (Q:Value->Shared->Prop) (h:Q (.bool (decide (a<c))) s) :
  wpAny (model prog w) A (richCompare .Lt (.int a t) (.int c u)) Q E s :=
 (PyProof.Rows.lt_int h:wpAny (model prog w) A (compareOp .Lt (.int a t) (.int c u)) Q E s)
section
open PySem.SeqAt
open PySem.AutoSeq1 (wpAny_loadPart')
open PySem.MeetsSeq PySem.MeetsSeq2 PySem.MeetsSeq3
theorem wH (l b:Addr) (items items2:Array Value) (n n2:Nat) (dd dd2:Option Addr) (sl sl2:Array (Option Value)) (ns ms:List Int) (hi:IntsAre items.toList ns) (hj:IntsAre items2.toList ms) :
  Meets (Builtin.«tuple.__lt__» ⟨[.ref l,.ref b],[]⟩)
   (λ_ R s=>s.heap.get? l=some { cls:=.type "tuple",dict:=dd,data:=.seq items n,slots:=sl }/\s.heap.get? b=some { cls:=.type "tuple",dict:=dd2,data:=.seq items2 n2,slots:=sl2 } /\
    R (.ok (.ret (.bool (lexLt ns ms)))) s) :=
 .of_wp λprog w A R s h=>by
  obtain⟨hp,g,d,tk,os⟩:=s;obtain⟨hl,hb,h⟩:=h
  have f2:=AutoSeq1.sub_tuple_tuple
  have z1:items.size=ns.length:=by rw[<-hi.length];simp
  have z2:items2.size=ms.length:=by rw[<-hj.length];simp
  wp_walk using wpAny_loadPart' hl,wpAny_loadPart' hb,wpAny_forIn_list _ (λrest b s'=>b.1=none/\s'=⟨hp,g,d,tk,os⟩/\∃(vs ws:List Value) (ns' ms':List Int),rest=vs.zip ws /\
   IntsAre vs ns'/\IntsAre ws ms'/\ns'.length+items2.size=ms'.length+items.size/\R (.ok (.ret (.bool (lexLt ns' ms')))) ⟨hp,g,d,tk,os⟩) _
  case turn =>
   rintro⟨y,x⟩ rest b s' ⟨hb',rfl,vs,ws,ns',ms',hz,hvi,hwi,hlen,hR⟩
   cases hvi with
   | nil=>rw[List.zip_nil_left] at hz;cases hz
   | cons a t hvi' =>
    cases hwi with
    | nil=>rw[List.zip_nil_right] at hz;cases hz
    | cons c u hwi' =>
     rw[List.zip_cons_cons] at hz
     injection hz with hyx hrest
     injection hyx with hy hx
     subst hy hx
     rw[lexLt_cons] at hR
     simp only[List.length_cons] at hlen
     obtain⟨e,he,hiff⟩:=NB A.in1 ⟨hp,g,d,tk,os⟩ a t c u
     refine wpAny_bind (he prog w _ _ ?_)
     cases e with
     | true =>
      rw[if_pos (hiff.mp rfl)] at hR
      wp_walk
      exact⟨rfl,rfl,_,_,_,_,hrest,hvi',hwi',by omega,hR⟩
     | false =>
      rw[if_neg (λq=>absurd (hiff.mpr q) Bool.false_ne_true)] at hR
      have hri:=OT A.in1 ⟨hp,g,d,tk,os⟩ a t c u prog w
      wp_walk using hri
      exact⟨_,rfl,by simpa using hR⟩
  case fin =>
   rintro⟨b1,b2⟩ s' ⟨hb',rfl,vs,ws,ns',ms',hz,hvi,hwi,hlen,hR⟩
   simp only at hb'
   subst hb'
   have hv:lexLt ns' ms'=decide (items.size<items2.size):=by
    cases hvi with
    | nil =>
     cases hwi with
     | nil =>
      simp only[List.length_nil] at hlen
      rw[vP]
      exact (decide_eq_false (by omega)).symm
     | cons c u hw =>
      simp only[List.length_nil,List.length_cons] at hlen
      rw[tZ]
      exact (decide_eq_true (by omega)).symm
    | cons a t hv =>
     cases hwi with
     | nil =>
      simp only[List.length_nil,List.length_cons] at hlen
      rw[tY]
      exact (decide_eq_false (by omega)).symm
     | cons c u hw =>
      rw[List.zip_cons_cons] at hz
      cases hz
   rw[hv] at hR
   wp_walk
   exact⟨_,rfl,by simpa [Builtin.Tuple.tupleCompareSizes] using hR⟩
  case h =>
   exact⟨rfl,rfl,items.toList,items2.toList,ns,ms,rfl,hi,hj,by omega,h⟩
end
section
variable {prog:Program} {w:World} {A:Around} {E:Value->Shared->Prop} {s:Shared}
theorem lt_tupInts {l b:Addr} {items items2:Array Value} {ns ms:List Int} {Q:Value->Shared->Prop} (hl:IsTup s.heap l items) (hb:IsTup s.heap b items2) (hi:IntsAre items.toList ns) (hj:IntsAre items2.toList ms)
  (hu:A.units<cLine) (h:Q (.bool (lexLt ns ms)) s):wpAny (model prog w) A (compareOp .Lt (.ref l) (.ref b)) Q E s:=by
 obtain⟨⟨cls,dd,data,sl⟩,ho,hc,n,hd⟩:=id hl
 obtain⟨⟨cls2,dd2,data2,sl2⟩,ho2,hc2,n2,hd2⟩:=id hb
 simp only at hc hd hc2 hd2
 subst hc hd hc2 hd2
 exact richCompare_meets_room (op:=.Lt) ⟨_,ho,rfl⟩ ⟨_,ho2,rfl⟩ PySem.F.slot_tuple_lt PySem.F.entry_tuple_lt (PySem.F.args_tuple_lt_2 _ _) (wH l b items items2 n n2 dd dd2 sl sl2 ns ms hi hj)
  ⟨ho,ho2,show Value.bool (lexLt ns ms)≠Value.notImplemented/\Q (.bool (lexLt ns ms)) s from ⟨(λx=>nomatch x),h⟩⟩ hu
theorem cat_tup {t b:Addr} {vs ws:List Value} {Q:Value->Shared->Prop} (ht:IsTup s.heap t vs.toArray) (hb:IsTup s.heap b ws.toArray) (hv:vs≠[])
  (h1:ws=[]->Q (.ref t) s) (h2:ws≠[]->Q (.ref s.heap.objs.size) { s with heap:=s.heap.push { cls:=.type "tuple",data:=.seq (vs++ws).toArray } })
  (hsz:vs.length+ws.length<=sizeLine):wpAny (model prog w) A (binaryOp .Add (.ref t) (.ref b)) Q E s:=by
 obtain⟨⟨cls,dd,data,sl⟩,ho,hc,n,hd⟩:=id ht
 obtain⟨⟨cls2,dd2,data2,sl2⟩,ho2,hc2,n2,hd2⟩:=id hb
 simp only at hc hd hc2 hd2
 subst hc hd hc2 hd2
 have e:vs.toArray++ws.toArray=(vs++ws).toArray:=by simp
 by_cases hw:ws=[]
 ·exact concat_meets ⟨_,ho,rfl⟩ ⟨_,ho2,rfl⟩ noFill_tuple_add seq_tuple_add PySem.F.slot_tuple_add PySem.F.entry_tuple_add (PySem.F.args_tuple_add_2 _ _)
   (tuple_addW1 t b vs.toArray ws.toArray n n2 dd dd2 sl sl2 (by simpa using hv) (by simp[hw])) ⟨ho,ho2,h1 hw⟩
 ·refine concat_meets ⟨_,ho,rfl⟩ ⟨_,ho2,rfl⟩ noFill_tuple_add seq_tuple_add PySem.F.slot_tuple_add PySem.F.entry_tuple_add (PySem.F.args_tuple_add_2 _ _)
   (tuple_addW2 t b vs.toArray ws.toArray n n2 dd dd2 sl sl2 (by simpa using hv) (by simpa using hw) (by rw[List.size_toArray,List.size_toArray];exact hsz)) ⟨ho,ho2,?_⟩
  rw[e]
  exact h2 hw
noncomputable def sIx (n d:Nat):Option Int->Nat
 | none=>d
 | some v=>if v<0 then (v+(n:Int)).toNat else min v.toNat n
theorem sIx_none (n d:Nat):sIx n d none=d:=rfl
theorem sIx_nat (n d k:Nat):sIx n d (some (k:Int))=min k n:=by
 show (if (k:Int)<0 then ((k:Int)+(n:Int)).toNat else min (k:Int).toNat n)=min k n
 rw[if_neg (by omega),Int.toNat_natCast]
theorem XD (n d:Nat) (hd:d<=n) (o:Option Int):sIx n d o<=n:=by
 cases o with
 | none=>exact hd
 | some v =>
  show (if v<0 then (v+(n:Int)).toNat else min v.toNat n)<=n
  by_cases hv:v<0
  ·rw[if_pos hv];omega
  ·rw[if_neg hv];exact Nat.min_le_right _ _
theorem GP (v:Int) (n d:Nat):(if v<0 then max (v+(n:Int)) 0 else min v (n:Int))=((sIx n d (some v):Nat):Int):=by
 show (if v<0 then max (v+(n:Int)) 0 else min v (n:Int))=(((if v<0 then (v+(n:Int)).toNat else min v.toNat n):Nat):Int)
 by_cases hv:v<0
 ·simp only[if_pos hv];omega
 ·simp only[if_neg hv];omega
theorem EA (lo hi:Option Int) (n:Nat):Builtin.Slice.sliceAdjust lo hi 1 (n:Int)=(((sIx n 0 lo:Nat):Int),((sIx n n hi:Nat):Int)):=by
 have h1:¬((1:Int)<0):=by omega
 unfold Builtin.Slice.sliceAdjust
 simp only[h1,if_false]
 refine Prod.ext ?_ ?_
 ·cases lo with
  | none=>rfl
  | some v=>exact GP v n 0
 ·cases hi with
  | none=>rfl
  | some v=>exact GP v n n
theorem FL (i j:Nat):Builtin.Slice.slicePlaces (i:Int) (j:Int) 1=j-i:=by
 unfold Builtin.Slice.slicePlaces
 have h1:(1:Int) > 0:=by omega
 simp only[h1,if_true,Int.ediv_one]
 split <;> omega
theorem uU {v:Value} {o:Option Int} {Q:Option Int->Shared->Prop} (p:IsPart v o) (h:Q o s):wpAny (model prog w) A (Builtin.Slice.slicePartIndex v) Q E s:=by
 cases p with
 | none=>exact slicePart_none h
 | int i t=>exact slicePart_int h
theorem qR {sl:Addr} {vl vu:Value} {lo hi:Option Int} {n:Nat} {Q:Int × Int × Nat->Shared->Prop} (hs:s.heap.IsSliceOf sl vl vu .none) (pl:IsPart vl lo) (pu:IsPart vu hi)
  (h:Q (((sIx n 0 lo:Nat):Int),1,sIx n n hi-sIx n 0 lo) s):wpAny (model prog w) A (Builtin.Slice.sliceApplied (.ref sl) (pure (n:Int))) Q E s:=by
 obtain⟨os,hos,hcs,hds⟩:=id hs
 unfold Builtin.Slice.sliceApplied Builtin.Slice.sliceFields
 refine wpAny_bind (wpAny_bind (wpAny_field hos hds (x:=vl) rfl (wpAny_bind (wpAny_field hos hds (x:=vu) rfl (wpAny_bind (wpAny_field hos hds (x:=.none) rfl (wpAny_pure ?_)))))))
 refine wpAny_bind (slicePart_none ?_)
 show wpAny _ _ (if ((1:Int) == 0)=true then _ else _) _ _ s
 rw[if_neg (by decide)]
 refine wpAny_bind (uU pl (wpAny_bind (uU pu (wpAny_bind (wpAny_pure ?_)))))
 show wpAny _ _ (match Builtin.Slice.sliceAdjust lo hi 1 (n:Int) with | (lo,hi)=>pure (lo,(1:Int),Builtin.Slice.slicePlaces lo hi 1)) _ _ s
 rw[EA lo hi n]
 show wpAny _ _ (pure (((sIx n 0 lo:Nat):Int),(1:Int),Builtin.Slice.slicePlaces ((sIx n 0 lo:Nat):Int) ((sIx n n hi:Nat):Int) 1)) _ _ s
 rw[FL]
 exact wpAny_pure h
theorem OH (xs:Array Value) (i k:Nat):((List.range k).filterMap λ(m:Nat)=>xs[((i:Int)+(m:Int)*1).toNat]?).toArray=((xs.toList.drop i).take k).toArray:=by
 have e:(λ(m:Nat)=>xs[((i:Int)+(m:Int)*1).toNat]?)=λm=>xs[i+m]?:=by
  funext m
  have:((i:Int)+(m:Int)*1).toNat=i+m:=by omega
  rw[this]
 rw[e]
 have:=pick_run xs i k
 rw[List.filterMap_map] at this
 have e2:((λx=>xs[x]?) ∘ λx=>i+x)=λm=>xs[i+m]?:=rfl
 rw[e2] at this
 rw[this]
theorem getItem_tuple_cut {t sl:Addr} {items:Array Value} {vl vu:Value} {lo hi:Option Int} {Q:Value->Shared->Prop} (ht:IsTup s.heap t items) (hs:s.heap.IsSliceOf sl vl vu .none) (pl:IsPart vl lo) (pu:IsPart vu hi)
  (hw:¬(sIx items.size 0 lo=0/\sIx items.size items.size hi=items.size))
  (h:Q (.ref s.heap.objs.size) { s with heap:=s.heap.push { cls:=.type "tuple",data:=.seq ((items.toList.drop (sIx items.size 0 lo)).take (sIx items.size items.size hi-sIx items.size 0 lo)).toArray } })
  (hsz:items.size<=sizeLine):wpAny (model prog w) A (getItem (.ref t) (.ref sl)) Q E s:=by
 have htake:sizeOk (.seq ((items.toList.drop (sIx items.size 0 lo)).take (sIx items.size items.size hi-sIx items.size 0 lo)).toArray):=by
  show ((items.toList.drop (sIx items.size 0 lo)).take (sIx items.size items.size hi-sIx items.size 0 lo)).toArray.size<=sizeLine
  rw[List.size_toArray,List.length_take,List.length_drop,Array.length_toList]
  omega
 have hj:sIx items.size items.size hi<=items.size:=XD _ _ (Nat.le_refl _) hi
 obtain⟨os,hos,hcs,hds⟩:=id hs
 have hTs:s.TypeIs (.ref sl) "slice":=⟨os,hos,hcs⟩
 unfold getItem
 try with_reducible refine wpAny_holding ?_
 first | refine wpAny_bind (wpAny_pure ?_) | skip
 refine wpAny_bind (wpAny_sequenceKey ht.typeIs (by decide) ?_)
 refine wpAny_bind (wpAny_callSpecial?_slot (name:=Str.ofString "__getitem__") ht.typeIs PyProof.Rows.slot_tuple_getitem
  (wpAny_call_entry PyProof.Rows.slot_tuple_getitem ht.typeIs entry_tuple_getitem ?_ (args_tuple_getitem _ _)))
 show wpAny _ _ (Builtin.Tuple.tupleItemsOf (.ref t) >>= _) _ _ s
 refine wpAny_bind (tupleItemsOf_ ht ?_)
 refine wpAny_bind (wpAny_typeOf hTs ?_)
 rw[if_pos (by decide)]
 refine wpAny_bind (qR hs pl pu ?_)
 have hno:¬((((sIx items.size 0 lo:Nat):Int) == 0 && (1:Int) == 1 && (sIx items.size items.size hi-sIx items.size 0 lo) == items.size)=true):=by
  intro q
  rw[Bool.and_eq_true,Bool.and_eq_true] at q
  have q1:((sIx items.size 0 lo:Nat):Int)=0:=eq_of_beq q.1.1
  have q2:sIx items.size items.size hi-sIx items.size 0 lo=items.size:=eq_of_beq q.2
  exact hw ⟨by omega,by omega⟩
 show wpAny _ _ (if (((sIx items.size 0 lo:Nat):Int) == 0 && (1:Int) == 1 && (sIx items.size items.size hi-sIx items.size 0 lo) == items.size)=true then _ else _) _ _ s
 rw[if_neg hno,OH]
 first
  | exact wpAny_bind (m:=Builtin.Tuple.tupleExact _) (wpAny_newObj_type (wpAny_pure ⟨_,rfl,wpAny_pure h⟩) htake)
  | exact wpAny_bind (m:=Builtin.Tuple.tupleExact _) (wpAny_newObj_type (wpAny_bind (wpAny_pure (wpAny_pure ⟨_,rfl,wpAny_pure h⟩))) htake)
  | exact wpAny_bind (wpAny_bind (m:=Builtin.Tuple.tupleExact _) (wpAny_newObj_type (wpAny_pure (wpAny_pure ⟨_,rfl,wpAny_pure h⟩)) htake))
  | exact wpAny_bind (wpAny_bind (m:=Builtin.Tuple.tupleExact _) (wpAny_newObj_type (wpAny_pure ⟨_,rfl,wpAny_pure h⟩) htake))
end
end HT
namespace L2
open PySem PySem.Spec PyProof.Rows
noncomputable abbrev TO:=St->Hp->(Option Int->Hp->Prop)->Prop
noncomputable def PO (X:Cx) (e:Option Expr) (t:TO):Prop :=
 ∀(pins:List (Addr × Obj)) (s:Shared) (σ:St) (H:Hp) (Q:Option Int->Hp->Prop),Inv X pins σ H s->t σ H Q ->
  wpAny (model X.prog X.w) X.A (evalPart e X.env) (λu s'=>∃o H',Inv X pins σ H' s'/\IsPart u o/\Q o H') X.xe s
noncomputable def SX:TO:=λ_ H Q=>Q none H
noncomputable def ZI (t:TE):TO:=λσ H Q=>t σ H λx H1=>∃i,x = .int i/\Q (some i) H1
theorem fO {ns:List Int}:∀{us:List Value},Vals (ns.map V.int) us->IntsAre us ns:=by
 induction ns with
 | nil=>intro us r;rw[List.map_nil] at r;cases r;exact .nil
 | cons n ns ih =>
  intro us r
  rw[List.map_cons] at r
  cases r with
  | cons r1 r2 =>
   obtain⟨t,e⟩:=r1
   subst e
   exact .cons n t (ih r2)
section
variable {X:Cx} {e:Expr} {te:TE} {lo hi:Option Expr} {tl th:TO} {pos p2:Pos}
theorem SE:PO X none SX:=by
 intro pins s σ H Q I h
 rw[evalPart_none]
 exact wpAny_pure ⟨none,H,I,.none,h⟩
theorem SF (h:PE X e te):PO X (some e) (ZI te):=by
 intro pins s σ H Q I hw
 rw[evalPart_some]
 refine thn (h pins s σ H _ I hw) λu s1 ⟨x,H1,I1,r1,q1⟩=>?_
 obtain⟨i,rfl,q⟩:=q1
 obtain⟨t,rfl⟩:=r1
 exact⟨some i,H1,I1,.int i t,q⟩
noncomputable def SlR (X:Cx) (r:V->Option Int->Option Int->Hp->VK->Prop):Prop :=
 ∀(pins:List (Addr × Obj)) (s:Shared) (σ:St) (H:Hp) (x:V) (v vl vu:Value) (lo hi:Option Int) (sl:Addr) (Q:VK),Inv X pins σ H s->RelV x v->s.heap.IsSliceOf sl vl vu .none->IsPart vl lo->IsPart vu hi->r x lo hi H Q ->
  ∃T id,typeLookup (.type T) "__getitem__" = pure (some (.builtin id))/\s.TypeIs v T/\wpAny (model X.prog X.w) X.A (getItem v (.ref sl)) (EP X pins σ Q) X.xe s
theorem SlR.or {r r':V->Option Int->Option Int->Hp->VK->Prop} (h:SlR X r) (h':SlR X r'):SlR X (λx lo hi H Q=>r x lo hi H Q\/r' x lo hi H Q):=by
 intro pins s σ H x v vl vu lo hi sl Q I rx hs pl pu q
 rcases q with q | q
 ·exact h pins s σ H x v vl vu lo hi sl Q I rx hs pl pu q
 ·exact h' pins s σ H x v vl vu lo hi sl Q I rx hs pl pu q
noncomputable def tSl (r:V->Option Int->Option Int->Hp->VK->Prop) (te:TE) (tl th:TO):TE:=λσ H Q=>te σ H λx H1=>tl σ H1 λl H2=>th σ H2 λu H3=>r x l u H3 Q
theorem CN {r:V->Option Int->Option Int->Hp->VK->Prop} (hr:SlR X r) (he:PE X e te) (hl:PO X lo tl) (hu:PO X hi th):PE X (.Subscript e (.Slice lo hi none p2) pos) (tSl r te tl th):=by
 intro pins s σ H Q I h
 refine Subscript_ (thn (he pins s σ H _ I h) λv s1 ⟨x,H1,I1,r1,q1⟩=>?_)
 refine wpAny_Slice (thn (hl pins s1 σ H1 _ I1 q1) λvl s2 ⟨l,H2,I2,pl,q2⟩=>thn (hu pins s2 σ H2 _ I2 q2) λvu s3 ⟨u,H3,I3,pu,q3⟩=>?_)
 rw[evalPart_none]
 refine wpAny_pure ?_
 have I4:Inv X pins σ H3 { s3 with heap:=s3.heap.push { cls:=.type "slice",data:=.fields #[vl,vu,.none] } }:=I3.kept (t':=s3.toks) λb ob q=>Heap.get?_push_of_some _ q
 obtain⟨T,id,hT,ht,hg⟩:=hr pins { s3 with heap:=s3.heap.push { cls:=.type "slice",data:=.fields #[vl,vu,.none] } } σ H3 x v vl vu l u s3.heap.objs.size Q I4 r1 (Heap.IsSliceOf.new ..) pl pu q3
 show wpAny (model X.prog X.w) X.A (subscriptTail e (.Slice lo hi none p2) v (.ref s3.heap.objs.size)) (EP X pins σ Q) X.xe { s3 with heap:=s3.heap.push { cls:=.type "slice",data:=.fields #[vl,vu,.none] } }
 exact tail_any (ops:=[.ref s3.heap.objs.size,v]) ht hT hg (by with_unfolding_all rfl)
noncomputable def vN (xs:List V) (lo hi:Option Int):List V:=(xs.drop (HT.sIx xs.length 0 lo)).take (HT.sIx xs.length xs.length hi-HT.sIx xs.length 0 lo)
theorem qU (xs:List V) (lo hi:Option Int):(vN xs lo hi).length<=xs.length:=by
 unfold vN
 rw[List.length_take,List.length_drop]
 omega
noncomputable def Ab (K:PySem.W.Frag):V->Option Int->Option Int->Hp->VK->Prop:=λx lo hi H Q=>∃a xs,x = .ref a/\SqT K H a xs /\
 ¬(HT.sIx xs.length 0 lo=0/\HT.sIx xs.length xs.length hi=xs.length)/\∀p,H p=none->Q (.ref p) (upd H p (.tup (vN xs lo hi)))
theorem XF:SlR X (Ab X.K):=by
 intro pins s σ H x v vl vu lo hi sl Q I rx hs pl pu h
 obtain⟨a,xs,rfl,hx,hw,q⟩:=h
 cases rx
 obtain⟨its,r,ht,hz⟩:=I.tuple hx
 have hlen:its.toArray.size=xs.length:=by rw[List.size_toArray];exact r.length.symm
 refine⟨"tuple",_,PyProof.Rows.slot_tuple_getitem.lookup,ht.typeIs,?_⟩
 refine HT.getItem_tuple_cut ht hs pl pu (by rw[hlen];exact hw) ?_ (by rw[hlen];exact hz)
 rw[hlen]
 refine⟨.ref s.heap.objs.size,_,I.laid (t':=s.toks) (o:=.tup (vN xs lo hi)) (λb ob q=>Heap.get?_push_of_some _ q) (Nat.le_refl _) ?_,rfl,q _ (I.hok.fresh (Nat.le_refl _))⟩
 exact⟨Nat.le_trans (qU xs lo hi) hz,_,(r.drop (HT.sIx xs.length 0 lo)).take (HT.sIx xs.length xs.length hi-HT.sIx xs.length 0 lo),IsTup.new _ _⟩
noncomputable def ZX (K:PySem.W.Frag):R2:=λx y H Q=>∃a b ns ms,x = .ref a/\y = .ref b/\SqT K H a (ns.map V.int)/\SqT K H b (ms.map V.int)/\Q (.bl (HT.lexLt ns ms)) H
theorem WC (hu:X.A.units<cLine):OpR X (compareOp .Lt) (ZX X.K):=by
 intro pins s σ H x y v u Q I rx ry h
 obtain⟨a,b,ns,ms,rfl,rfl,ha,hb,q⟩:=h
 cases rx
 cases ry
 obtain⟨its,r1,p1,_⟩:=I.tuple ha
 obtain⟨its2,r2,p2,_⟩:=I.tuple hb
 have i1:IntsAre its.toArray.toList ns:=fO r1
 have i2:IntsAre its2.toArray.toList ms:=fO r2
 exact HT.lt_tupInts p1 p2 i1 i2 hu ⟨.bl (HT.lexLt ns ms),H,I,rfl,q⟩
noncomputable def YO (K:PySem.W.Frag):R2:=λx y H Q=>∃a b xs ys,x = .ref a/\y = .ref b/\SqT K H a xs/\SqT K H b ys/\xs≠[]/\xs.length+ys.length<=sizeLine /\
 (ys=[]->Q (.ref a) H)/\(ys≠[]->∀p,H p=none->Q (.ref p) (upd H p (.tup (xs++ys))))
theorem Vals.nil_iff {xs:List V} {us:List Value} (r:Vals xs us):us=[]↔xs=[]:=by
 cases r with
 | nil=>simp
 | cons _ _=>simp
theorem RV:OpR X (binaryOp .Add) (YO X.K):=by
 intro pins s σ H x y v u Q I rx ry h
 obtain⟨a,b,xs,ys,rfl,rfl,ha,hb,hx,hz,q1,q2⟩:=h
 cases rx
 cases ry
 obtain⟨its,r1,p1,_⟩:=I.tuple ha
 obtain⟨its2,r2,p2,_⟩:=I.tuple hb
 refine HT.cat_tup p1 p2 (λz=>hx (r1.nil_iff.mp z)) (λz=>⟨.ref a,H,I,rfl,q1 (r2.nil_iff.mp z)⟩) (λz=>?_) (by rw[<-r1.length,<-r2.length];exact hz)
 refine⟨.ref s.heap.objs.size,_,I.laid (t':=s.toks) (o:=.tup (xs++ys)) (λb ob q=>Heap.get?_push_of_some _ q) (Nat.le_refl _) ?_,rfl,q2 (λw=>z (r2.nil_iff.mpr w)) _ (I.hok.fresh (Nat.le_refl _))⟩
 exact⟨by rw[List.length_append];exact hz,_,r1.append r2,IsTup.new _ _⟩
end
end L2
namespace L2
open PySem PySem.Spec PyProof.Rows
noncomputable def ixN (n:Nat) (i:Int):Option Nat:=if 0<=i then (if i<n then some i.toNat else none) else if -(n:Int)<=i then some (i+n).toNat else none
noncomputable def atI {α:Type} (xs:List α) (i:Int):Option α:=(ixN xs.length i).bind λj=>xs[j]?
theorem HK {n:Nat} {i:Int} {j:Nat} (h:ixN n i=some j):seqIndex? i n=some j/\j<n/\-(n:Int)<=i/\i<n:=by
 unfold ixN at h
 by_cases h0:0<=i
 ·rw[if_pos h0] at h
  by_cases h1:i<n
  ·rw[if_pos h1] at h
   have e:i.toNat=j:=Option.some.inj h
   exact⟨by rw[seqIndex_of h0 h1,e],by omega,by omega,h1⟩
  ·rw[if_neg h1] at h;cases h
 ·rw[if_neg h0] at h
  by_cases h1:-(n:Int)<=i
  ·rw[if_pos h1] at h
   have e:(i+n).toNat=j:=Option.some.inj h
   exact⟨by rw[seqIndex_neg (by omega) h1,e],by omega,h1,by omega⟩
  ·rw[if_neg h1] at h;cases h
theorem GK {α:Type} {xs:List α} {i:Int} {v:α} (h:atI xs i=some v):∃j,seqIndex? i xs.length=some j/\xs[j]? = some v/\j<xs.length/\-(xs.length:Int)<=i/\i<xs.length:=by
 unfold atI at h
 cases e:ixN xs.length i with
 | none=>rw[e] at h;cases h
 | some j =>
  rw[e] at h
  obtain⟨h1,h2,h3,h4⟩:=HK e
  exact⟨j,h1,h,h2,h3,h4⟩
theorem GL {α:Type} {xs:List α} {j:Nat} {v:α} (h:xs[j]? = some v):atI xs (j:Int)=some v:=by
 have hj:j<xs.length:=(List.getElem?_eq_some_iff.mp h).1
 have e:ixN xs.length (j:Int)=some j:=by
  unfold ixN
  rw[if_pos (by omega),if_pos (by omega)];simp
 unfold atI;rw[e];exact h
theorem AH {α:Type} (xs:List α) (v:α):atI (xs++[v]) (-1)=some v:=by
 have hl:(xs++[v]).length=xs.length+1:=by simp
 have e:ixN (xs++[v]).length (-1)=some xs.length:=by
  unfold ixN
  rw[hl,if_neg (by decide),if_pos (by omega)]
  congr 1
  omega
 unfold atI
 rw[e]
 show (xs++[v])[xs.length]? = some v
 simp
noncomputable def GJ (b:Expr):Prop:=∀o i,subscripted b false o i=operate [o,i] (getItem o i)
noncomputable def IxR (X:Cx) (r:R2):Prop :=
 ∀(value slice:Expr) (pins:List (Addr × Obj)) (s:Shared) (σ:St) (H:Hp) (x y:V) (v u:Value) (Q:VK),Inv X pins σ H s->RelV x v->RelV y u->r x y H Q ->
  subscripted slice false v u=operate [v,u] (getItem v u)->wpAny (model X.prog X.w) X.A (subscriptTail value slice v u) (EP X pins σ Q) X.xe s
noncomputable def MtR (X:Cx) (id:String) (r:V->List V->Hp->VK->Prop):Prop :=
 ∀(pins:List (Addr × Obj)) (s:Shared) (σ:St) (H:Hp) (x:V) (xs:List V) (v:Value) (us:List Value) (Q:VK),Inv X pins σ H s->RelV x v->Vals xs us->r x xs H Q ->
  wpAny (model X.prog X.w) X.A (call (.builtin id) (v::us)) (EP X pins σ Q) X.xe s
section
variable {X:Cx} {a b:Expr} {ta tb:TE} {pos:Pos}
theorem IxR.or {r r':R2} (h:IxR X r) (h':IxR X r'):IxR X (λx y H Q=>r x y H Q\/r' x y H Q):=by
 intro value slice pins s σ H x y v u Q I rx ry q hs
 rcases q with q | q
 ·exact h value slice pins s σ H x y v u Q I rx ry q hs
 ·exact h' value slice pins s σ H x y v u Q I rx ry q hs
theorem YJ {r:R2} (hr:IxR X r) (ha:PE X a ta) (hb:PE X b tb) (hs:GJ b):PE X (.Subscript a b pos) (tOp r ta tb):=by
 intro pins s σ H Q I h
 exact Subscript_ (UT ha hb I h λv u s2 x y H2 I2 rx ry q=>hr a b pins s2 σ H2 x y v u Q I2 rx ry q (hs _ _))
noncomputable def ZV (K:PySem.W.Frag):R2:=λx y H Q=>∃p xs i v,x = .ref p/\y = .int i/\SqL K H p xs/\atI xs i=some v/\Q v H
noncomputable def ZW (K:PySem.W.Frag):R2:=λx y H Q=>∃p xs i v,x = .ref p/\y = .int i/\SqT K H p xs/\atI xs i=some v/\Q v H
theorem QV:IxR X (ZV X.K):=by
 intro value slice pins s σ H x y v u Q I rx ry h hs
 obtain⟨p,xs,i,z,rfl,rfl,hq,he,q⟩:=h
 cases rx
 obtain⟨t,rfl⟩:=ry
 obtain⟨its,r,pl,hz⟩:=I.list hq
 obtain⟨j,h1,h2,h3,h4,h5⟩:=GK he
 obtain⟨w,ew,rw'⟩:=r.get h2
 have hl:=r.length
 have hn:=zJ
 have fin:EP X pins σ Q w s:=⟨z,H,I,rw',q⟩
 by_cases h0:0<=i
 ·have hj:i.toNat=j:=by
   rw[seqIndex_of h0 h5] at h1
   exact Option.some.inj h1
  exact item_listR pl.isList h0 (by omega) (by rw[hj];simpa using ew) fin hs
 ·have hj:(i+(its.toArray.size:Int)).toNat=j:=by
   rw[seqIndex_neg (by omega) h4] at h1
   rw[List.size_toArray,<-hl]
   exact Option.some.inj h1
  exact subscriptTail_builtinR (x:=w) pl.isList.typeIs slot_list_getitem.lookup
   (wpAny_getItem_list_neg (Q:=λr s'=>r=w/\EP X pins σ Q r s') pl.isList (by omega) (by rw[List.size_toArray] <;> omega) (by omega) (by rw[hj];simpa using ew) ⟨rfl,fin⟩) hs
theorem VQ:IxR X (ZW X.K):=by
 intro value slice pins s σ H x y v u Q I rx ry h hs
 obtain⟨p,xs,i,z,rfl,rfl,hq,he,q⟩:=h
 cases rx
 obtain⟨t,rfl⟩:=ry
 obtain⟨its,r,pl,hz⟩:=I.tuple hq
 obtain⟨j,h1,h2,h3,h4,h5⟩:=GK he
 obtain⟨w,ew,rw'⟩:=r.get h2
 have hl:=r.length
 have hn:=zJ
 have fin:EP X pins σ Q w s:=⟨z,H,I,rw',q⟩
 exact subscriptTail_builtinR (x:=w) pl.typeIs slot_tuple_getitem.lookup
  (getItem_tuple (j:=j) (Q:=λr s'=>r=w/\EP X pins σ Q r s') pl (by omega) (by omega) (by rw[List.size_toArray,<-hl];exact h1) (by simpa using ew) ⟨rfl,fin⟩) hs
theorem FA (its:List Value) (n j:Nat) (u:Value):Obj.mapSeq (·.setIfInBounds j u) { cls:=.type "list",data:=.seq its.toArray n } = { cls:=.type "list",data:=.seq (its.set j u).toArray n }:=by
 simp[Obj.mapSeq]
theorem Inv.lst {pins:List (Addr × Obj)} {σ:St} {H:Hp} {s:Shared} {p:Addr} {xs:List V} (I:Inv X pins σ H s) (h:H p=some (.lst xs)) :
  ∃(its:List Value) (n:Nat),Vals xs its/\s.heap.get? p=some { cls:=.type "list",data:=.seq its.toArray n }/\xs.length<=sizeLine:=by
 obtain⟨z,its,n,r,e⟩:=I.hok p _ h
 exact⟨its,n,r,e,z⟩
theorem Inv.lstUpd {pins:List (Addr × Obj)} {σ:St} {H:Hp} {s:Shared} {p:Addr} {xs ys:List V} {its its':List Value} {n n':Nat} {f:Obj->Obj} (I:Inv X pins σ H s) (h:H p=some (.lst xs))
  (ho:s.heap.get? p=some { cls:=.type "list",data:=.seq its.toArray n }) (hf:f { cls:=.type "list",data:=.seq its.toArray n } = { cls:=.type "list",data:=.seq its'.toArray n' }) (r:Vals ys its') (hz:ys.length<=sizeLine) (t:Nat) :
  Inv X pins σ (upd H p (.lst ys)) { s with heap:=s.heap.update p f,toks:=t }:=by
 have e:(s.heap.update p f).get? p=some { cls:=.type "list",data:=.seq its'.toArray n' }:=by
  rw[Heap.get?_update_self f ho (by rw[hf] <;> rfl),hf]
 refine I.write (x:=p) (e:=p) (by rw[h];trivial) (.inl rfl) (λb u hb q=>(Heap.get?_update_other _ _ (Ne.symm hb)).trans q) ⟨_,e⟩ ?_
 exact⟨hz,its',n',r,e⟩
noncomputable def YR:V->V->V->Hp->(Hp->Prop)->Prop:=λo i v H Q=>∃p xs k j,o = .ref p/\i = .int k/\H p=some (.lst xs)/\ixN xs.length k=some j/\Q (upd H p (.lst (xs.set j v)))
theorem PK:XN X YR:=by
 intro pins s σ H o i v ov iv u Q I ro ri rv h
 obtain⟨p,xs,k,j,rfl,rfl,hp,hj,q⟩:=h
 cases ro
 obtain⟨t,rfl⟩:=ri
 obtain⟨its,n,r,ho,hz⟩:=I.lst hp
 obtain⟨h1,h2,h3,h4⟩:=HK hj
 have hl:=r.length
 have hn:=zJ
 have I':Inv X pins σ (upd H p (.lst (xs.set j v))) { s with heap:=s.heap.update p (Obj.mapSeq (·.setIfInBounds j u)) } :=
  I.lstUpd hp ho (FA its n j u) (r.set rv j) (by rw[List.length_set];exact hz) s.toks
 by_cases h0:0<=k
 ·have hk:k.toNat=j:=by
   rw[seqIndex_of h0 h4] at h1
   exact Option.some.inj h1
  exact PySem.W.ki_setAt ho h0 (by omega) (by rw[List.size_toArray,<-hl];exact h4) (by rw[hk];exact⟨_,I',q⟩)
 ·have hk:(k+(its.toArray.size:Int)).toNat=j:=by
   rw[seqIndex_neg (by omega) h3] at h1
   rw[List.size_toArray,<-hl]
   exact Option.some.inj h1
  exact PySem.W.ki_setBack ho (by omega) (by rw[List.size_toArray,<-hl];exact h3) (by omega) (by rw[hk];exact⟨_,I',q⟩)
theorem AD (lo hi:Option Int) (n:Nat):(sliceBounds lo hi none n).1=((HT.sIx n 0 lo:Nat):Int)/\(sliceBounds lo hi none n).2.1=((HT.sIx n n hi:Nat):Int)/\(sliceBounds lo hi none n).2.2=1:=by
 refine⟨?_,?_,rfl⟩
 ·cases lo with
  | none=>simp[sliceBounds,HT.sIx]
  | some i =>
   simp only[sliceBounds,HT.sIx,Option.getD_none,show (1:Int) > 0 by decide,if_true]
   by_cases h:i<0
   ·simp only[h,if_true] <;> omega
   ·simp only[h,if_false] <;> omega
 ·cases hi with
  | none=>simp[sliceBounds,HT.sIx]
  | some i =>
   simp only[sliceBounds,HT.sIx,Option.getD_none,show (1:Int) > 0 by decide,if_true]
   by_cases h:i<0
   ·simp only[h,if_true] <;> omega
   ·simp only[h,if_false] <;> omega
theorem wG (its:List Value) (lo hi:Option Int):slicePick its.toArray lo hi none=((its.drop (HT.sIx its.length 0 lo)).take (HT.sIx its.length its.length hi-HT.sIx its.length 0 lo)).toArray:=by
 obtain⟨h1,h2,h3⟩:=AD lo hi its.toArray.size
 unfold slicePick
 rw[h1,h2,h3]
 simp only[sliceRange_one,pick_run,List.size_toArray] <;> rfl
noncomputable def Aa (K:PySem.W.Frag):V->Option Int->Option Int->Hp->VK->Prop:=λx lo hi H Q=>∃a xs,x = .ref a/\SqL K H a xs/\∀p,H p=none->Q (.ref p) (upd H p (.lst (vN xs lo hi)))
theorem IH:SlR X (Aa X.K):=by
 intro pins s σ H x v vl vu lo hi sl Q I rx hs pl pu h
 obtain⟨a,xs,rfl,hx,q⟩:=h
 cases rx
 obtain⟨its,r,ht,hz⟩:=I.list hx
 have hlen:=r.length
 refine⟨"list",_,slot_list_getitem.lookup,ht.isList.typeIs,?_⟩
 refine wpAny_getItem_list_slice ht.isList hs pl pu .none (by simp) ?_ (by rw[List.size_toArray] <;> omega)
 rw[wG,<-hlen]
 refine⟨.ref s.heap.objs.size,_,I.laid (t':=s.toks) (o:=.lst (vN xs lo hi)) (λb ob q=>Heap.get?_push_of_some _ q) (Nat.le_refl _) ?_,rfl,q _ (I.hok.fresh (Nat.le_refl _))⟩
 exact⟨Nat.le_trans (qU xs lo hi) hz,_,0,(r.drop (HT.sIx xs.length 0 lo)).take (HT.sIx xs.length xs.length hi-HT.sIx xs.length 0 lo),Heap.get?_push_size _ rfl⟩
theorem yN:iK X (.builtin "len") (λxs H Q=>∃p ys,xs=[.ref p]/\(SqL X.K H p ys\/SqT X.K H p ys)/\Q (.int ys.length) H):=by
 intro pins s σ H xs us Q I r h
 obtain⟨p,ys,rfl,hq,q⟩:=h
 obtain⟨u,rfl,rx⟩:=jT r
 cases rx
 have hn:=zJ
 rcases hq with hq | hq
 ·obtain⟨its,r',pl,hz⟩:=I.list hq
  have hlen:=r'.length
  exact Calls.call_len_list pl.isList (by simp only[List.size_toArray] <;> omega) ⟨.int ys.length,H,I.tok _,⟨s.toks+1,by rw[List.size_toArray,hlen]⟩,q⟩
 ·obtain⟨its,r',pl,hz⟩:=I.tuple hq
  have hlen:=r'.length
  exact len_tuple pl (by simp only[List.size_toArray] <;> omega) ⟨.int ys.length,H,I.tok _,⟨s.toks+1,by rw[List.size_toArray,hlen]⟩,q⟩
theorem vM:iK X (.type "tuple") (λxs H Q=>∃p ys,xs=[.ref p]/\((SqL X.K H p ys/\∀l,H l=none->Q (.ref l) (upd H l (.tup ys)))\/(SqT X.K H p ys/\Q (.ref p) H))):=by
 intro pins s σ H xs us Q I r h
 obtain⟨p,ys,rfl,h⟩:=h
 obtain⟨u,rfl,rx⟩:=jT r
 cases rx
 rcases h with ⟨hq,q⟩ | ⟨hq,q⟩
 ·obtain⟨its,r',pl,hz⟩:=I.list hq
  have hlen:=r'.length
  refine call_tuple_list pl.isList (λh' kp=>?_) (by simp only[List.size_toArray] <;> omega)
  have I1:Inv X pins σ H { s with heap:=h' }:=I.kept (t':=s.toks) kp
  have I2:Inv X pins σ (upd H h'.objs.size (.tup ys)) { s with heap:=h'.push { cls:=.type "tuple",data:=.seq its.toArray } } :=
   I1.laid (t':=s.toks) (λb o e=>Heap.get?_push_of_some _ e) (Nat.le_refl _) (show ObjOk X.prog X.w _ _ _ (.tup ys) from ⟨hz,its,r',IsTup.new _ _⟩)
  exact⟨.ref h'.objs.size,_,I2,rfl,q _ (I1.hok.fresh (Nat.le_refl _))⟩
 ·obtain⟨its,r',pl,hz⟩:=I.tuple hq
  exact call_tuple_same pl ⟨.ref p,H,I,rfl,q⟩
noncomputable def tyV (K:PySem.W.Frag) (T:String) (x:V) (H:Hp):Prop:=match x with
 | .str _=>T = "str"
 | .int _=>T = "int"
 | .ref p=>(T = "list"/\∃xs,SqL K H p xs)\/(T = "tuple"/\∃o,K.lookup p=some o/\o.cls = .type "tuple"/\o.dict=none) \/
   (T = "dict"/\((∃kvs,H p=some (.dK kvs))\/∃kvs,H p=some (.dT kvs)))\/(T = "set"/\∃S n,H p=some (.set S n))
 | _=>False
theorem QA {pins:List (Addr × Obj)} {σ:St} {H:Hp} {s:Shared} {T:String} {x:V} {v:Value} (I:Inv X pins σ H s) (r:RelV x v) (ty:tyV X.K T x H) :
  s.TypeIs v T/\∀a,v = .ref a->∃ob,s.heap.get? a=some ob/\ob.dict=none:=by
 cases x with
 | str z =>
  obtain⟨t,rfl⟩:=r
  cases (show T = "str" from ty)
  exact⟨typeIs_str s z t,λ_ e=>nomatch e⟩
 | int i =>
  obtain⟨t,rfl⟩:=r
  cases (show T = "int" from ty)
  exact⟨typeIs_int s i t,λ_ e=>nomatch e⟩
 | ref p =>
  cases r
  rcases ty with ⟨rfl,xs,hq⟩ | ⟨rfl,o,hk,hc,hd⟩ | ⟨rfl,hk⟩ | ⟨rfl,S,n,hk⟩
  ·obtain⟨its,_,pl,_⟩:=I.list hq
   refine⟨pl.isList.typeIs,λa e=>?_⟩
   cases e
   obtain⟨o,n,e,c,hd,_⟩:=pl
   exact⟨o,e,hd⟩
  ·refine⟨⟨o,I.kIn p o hk,hc⟩,λa e=>?_⟩
   cases e
   exact⟨o,I.kIn _ o hk,hd⟩
  ·have z:∃o,s.heap.get? p=some o/\o.ExactDict:=by
    rcases hk with ⟨kvs,hk⟩ | ⟨kvs,hk⟩
    ·obtain⟨_,_,_,_,o,_,_,e,ex,_⟩:=I.hok p _ hk
     exact⟨o,e,ex⟩
    ·obtain⟨_,_,_,_,o,_,_,e,ex,_⟩:=I.hok p _ hk
     exact⟨o,e,ex⟩
   obtain⟨o,e,ex⟩:=z
   refine⟨⟨o,e,ex.1⟩,λa e2=>?_⟩
   cases e2
   exact⟨o,e,ex.2.1⟩
  ·obtain⟨o,_,_,_,e,ex,_⟩:=I.hok p _ hk
   refine⟨⟨o,e,ex.1⟩,λa e2=>?_⟩
   cases e2
   exact⟨o,e,ex.2.1⟩
 | _=>exact False.elim ty
noncomputable def Ai (K:PySem.W.Frag) (T:String) (r:V->List V->Hp->VK->Prop) (to:TE):TE:=λσ H Q=>to σ H λx H1=>tyV K T x H1/\r x [] H1 Q
noncomputable def tBM (K:PySem.W.Frag) (T:String) (r:V->List V->Hp->VK->Prop) (to:TE) (t:TA):TE:=λσ H Q=>to σ H λx H1=>tyV K T x H1/\t σ H1 λxs H2=>r x xs H2 Q
variable {o e:Expr} {es:List Expr} {to:TE} {t:TA} {name:Str} {apos cpos:Pos} {T id:String} {r:V->List V->Hp->VK->Prop}
theorem WE (pa:PlainAttrs T) (slot:Slot T name id) (hty:typeOf (.builtin id)=pure (.type "method_descriptor")) (hm:MtR X id r) (ho:PE X o to)
  (hbase:attributeBase o name X.env (eval o X.env)=eval o X.env:=by rfl) (hline:(apos.endLine == cpos.line)=true:=by rfl):PE X (.Call (.Attribute o name apos) [] [] cpos) (Ai X.K T r to):=by
 intro pins s σ H Q I h
 refine wpAny_Call_method0_late hbase hline (thn (ho pins s σ H _ I h) λv s1 ⟨x,H1,I1,r1,ty,q1⟩=>?_)
 obtain⟨h1,h2⟩:=QA I1 r1 ty
 exact⟨T,id,pa,slot,hty,h1,h2,Calls.callWith_builtin rfl (PySem.evalArgs_none (hm pins s1 σ H1 x [] v [] Q I1 r1 .nil q1))⟩
theorem UJ (pa:PlainAttrs T) (slot:Slot T name id) (hty:typeOf (.builtin id)=pure (.type "method_descriptor")) (hm:MtR X id r) (ho:PE X o to) (ha:PA X (e::es) t)
  (hbase:attributeBase o name X.env (eval o X.env)=eval o X.env:=by rfl)
  (hfew:((backTo cpos (starEach (e::es) X.env)).all (λx=>!x.1) && (backToKw cpos (keywordEach [] X.env)).all (λx=>x.1.isSome)
   && decide ((e::es).length+([]:List Keyword).length+(if ([]:List Keyword).isEmpty then 0 else 1)<30))=true:=by rfl)
  (hline:(apos.endLine == cpos.line)=true:=by rfl) (hs:starEach (e::es) X.env=(false,eval e X.env)::starEach es X.env:=by rfl) (hplain:(backTo cpos (starEach es X.env)).any (·.1)=false:=by rfl) :
  PE X (.Call (.Attribute o name apos) (e::es) [] cpos) (tBM X.K T r to t):=by
 intro pins s σ H Q I h
 refine wpAny_Call_method_late hbase hfew hline rfl (thn (ho pins s σ H _ I h) λv s1 ⟨x,H1,I1,r1,ty,q1⟩=>?_)
 obtain⟨h1,h2⟩:=QA I1 r1 ty
 refine⟨T,id,pa,slot,hty,h1,h2,?_⟩
 have hA:=ha cpos pins s1 σ H1 _ I1 q1
 rw[hs] at hA ⊢
 refine Calls.callWith_builtin (by show (false || (backTo cpos (starEach es X.env)).any (·.1))=false;rw[hplain] <;> rfl) (Calls.evalArgs_plain ?_)
 exact thn hA λus s2 ⟨vs,H2,I2,r2,q2⟩=>hm pins s2 σ H2 x vs v us Q I2 r1 r2 q2
end
end L2
namespace L2
open PySem PySem.Spec PyProof.Rows
noncomputable def MtM (X:Cx) (id:String) (r:V->List V->Hp->VK->Prop):Prop :=
 ∀(pins:List (Addr × Obj)) (s:Shared) (σ:St) (H:Hp) (x:V) (xs:List V) (v:Value) (us:List Value) (Q:VK),Inv X pins σ H s->RelV x v->Vals xs us->r x xs H Q ->
  wpAny (model X.prog X.w) X.A (call (.builtin id) (v::us)) (EP X pins σ Q) X.xe s
theorem Vals.one:∀{x:V} {us:List Value},Vals [x] us->∃u,us=[u]/\RelV x u
 | _,_,.cons r .nil=>⟨_,rfl,r⟩
theorem Vals.zero:∀{us:List Value},Vals [] us->us=[]
 | _,.nil=>rfl
theorem Vals.dropLast {xs:List V} {us:List Value} (h:Vals xs us):Vals xs.dropLast us.dropLast:=by
 induction h with
 | nil=>exact .nil
 | cons r t ih =>
  cases t with
  | nil=>exact .nil
  | cons q t'=>exact .cons r ih
theorem EN {α:Type} (l:List α):l.eraseIdx (l.length-1)=l.dropLast:=by
 induction l with
 | nil=>rfl
 | cons a r ih =>
  cases r with
  | nil=>rfl
  | cons b r =>
   have e:(a::b::r).length-1=((b::r).length-1)+1:=by
    have h1:(a::b::r).length=r.length+2:=rfl
    have h2:(b::r).length=r.length+1:=rfl
    omega
   rw[e,List.eraseIdx_cons_succ,ih]
   all_goals rfl
section
variable {X:Cx} {pins:List (Addr × Obj)} {σ:St} {H:Hp} {s:Shared} {l b:Addr} {xs ys zs:List V}
theorem Inv.lset {its its':List Value} {n:Nat} {f:Array Value->Array Value} {t':Nat} (I:Inv X pins σ H s) (hH:H l=some (.lst xs))
  (e:s.heap.get? l=some { cls:=.type "list",data:=.seq its.toArray n }) (hf:f its.toArray=its'.toArray) (hv:Vals ys its') (hz:ys.length<=sizeLine) :
  Inv X pins σ (upd H l (.lst ys)) { s with heap:=s.heap.update l (Obj.mapSeq f),toks:=t' }:=by
 have q:=PySem.IsL.update e f
 rw[hf] at q
 refine I.write (x:=l) (e:=l) (by rw[hH];exact trivial) (.inl rfl) (λb' u hb hu=>(Heap.get?_update_other s.heap (Obj.mapSeq f) (Ne.symm hb)).trans hu) ⟨_,q⟩ ?_
 exact⟨hz,its',_,hv,q⟩
theorem Inv.lnew {its:List Value} {t':Nat} (I:Inv X pins σ H s) (hv:Vals ys its) (hz:ys.length<=sizeLine) :
  Inv X pins σ (upd H s.heap.objs.size (.lst ys)) { s with heap:=s.heap.push { cls:=.type "list",data:=.seq its.toArray },toks:=t' } :=
 I.laid (λ_ _ q=>Heap.get?_push_of_some _ q) (Nat.le_refl _) ⟨hz,its,0,hv,Heap.get?_push_size _ rfl⟩
theorem Inv.fresh (I:Inv X pins σ H s):H s.heap.objs.size=none:=I.hok.fresh (Nat.le_refl _)
theorem Inv.lstM (I:Inv X pins σ H s) (hH:H l=some (.lst xs)):xs.length<=sizeLine/\∃(its:List Value) (n:Nat),Vals xs its/\xs.length=its.length/\s.heap.get? l=some { cls:=.type "list",data:=.seq its.toArray n }:=by
 obtain⟨z,its,n,r,e⟩:=I.hok l _ hH
 exact⟨z,its,n,r,r.length,e⟩
end
section
variable {X:Cx}
noncomputable def SL:V->List V->Hp->VK->Prop:=λx vs H Q=>∃l xs y,x = .ref l/\vs=[y]/\H l=some (.lst xs)/\xs.length<sizeLine/\Q .non (upd H l (.lst (xs++[y])))
theorem KD:MtM X "list.append" SL:=by
 intro pins s σ H x vs v us Q I rx rv h
 obtain⟨l,xs,y,rfl,rfl,hH,hz,q⟩:=h
 cases rx
 obtain⟨u,rfl,ru⟩:=rv.one
 obtain⟨z,its,n,r,hl,e⟩:=I.lstM hH
 refine call_meets F.slot_list_append ⟨_,e,rfl⟩ F.entry_list_append (F.args_list_append_2 _ _) (PySem.list_append l its.toArray n u (by rw[List.size_toArray];omega)) ⟨e,?_⟩
 refine⟨.non,_,I.lset (its':=its++[u]) hH e (by simp) (r.append (.cons ru .nil)) ?_,rfl,q⟩
 rw[List.length_append,List.length_singleton]
 omega
noncomputable def ZZ:V->List V->Hp->VK->Prop:=λx vs H Q=>∃l xs y,x = .ref l/\vs=[]/\H l=some (.lst xs)/\xs[xs.length-1]? = some y/\Q y (upd H l (.lst xs.dropLast))
theorem VY:MtM X "list.pop" ZZ:=by
 intro pins s σ H x vs v us Q I rx rv h
 obtain⟨l,xs,y,rfl,rfl,hH,hy,q⟩:=h
 cases rx
 have hus:=rv.zero
 subst hus
 obtain⟨z,its,n,r,hl,e⟩:=I.lstM hH
 obtain⟨u,hu,ru⟩:=r.get hy
 have hy':its.toArray[its.toArray.size-1]? = some u:=by
  show its.toArray[its.length-1]? = some u
  rw[<-Array.getElem?_toList,<-hl]
  exact hu
 refine call_meets F.slot_list_pop ⟨_,e,rfl⟩ F.entry_list_pop (F.args_list_pop_1 _) (MeetsSeq.list_pop_last l its.toArray n u hy' (by rw[List.size_toArray];omega)) ⟨e,?_⟩
 refine⟨y,_,I.lset (its':=its.dropLast) hH e ?_ r.dropLast ?_,ru,q⟩
 ·show its.toArray.eraseIdxIfInBounds (its.toArray.size-1)=its.dropLast.toArray
  rw[List.size_toArray,List.eraseIdxIfInBounds_toArray,EN]
 ·rw[List.length_dropLast]
  omega
end
section
variable {prog:Program} {w:World} {A:Around} {E:Value->Shared->Prop} {s:Shared}
end
section
variable {X:Cx}
end
end L2
namespace Att
open PySem PySem.W PySem.Calls PyProof.Rows
theorem rL {P:Params} {h:Heap}:∀(ns:List Int) (vs:List Value),WellAll P h vs (ns.map WData.int)->IntsAre vs ns:=by
 intro ns
 induction ns with
 | nil =>
  intro vs w
  rw[List.map_nil] at w
  cases w
  exact .nil
 | cons n ns ih =>
  intro vs w
  rw[List.map_cons] at w
  cases w with
  | cons a b =>
   cases a
   exact .cons _ _ (ih _ b)
theorem KR {l:OpenLaw} {n:Nat} (hn:l.most=some n) {P:Params} {h:Heap} {args:List WData} {vals:List Value}
  (hpre:l.row.toRowW.claim.pre args=true) (hwl:WellAll P h vals args) :
  ∃a vs ns,vals=[Value.ref a]/\args=[WData.list (ns.map WData.int)]/\h.get? a=some { cls:=.type "list",data:=.seq vs.toArray }/\IntsAre vs ns/\ns.length<=n:=by
 have hsh:WShape.hasAll [] args [.list .int]=true:=(pre_splitW hpre).1
 have hc:l.pre.holds [] { args:=args } = true:=(pre_splitW hpre).2
 obtain⟨d,r,rfl,h1,h2⟩:=hasAllW_cons hsh
 obtain rfl:=hasAllW_nil h2
 obtain⟨xs,rfl,h3⟩:=hasW_list h1
 obtain⟨ns,rfl⟩:=items_int h3
 have hlen:ns.length<=n:=by
  unfold OpenLaw.pre at hc
  have h4:(WTm.not (.lt (.lit (.int (n:Int))) (.len (.arg 0)))).holds [] { args:=[.list (ns.map .int)] } = true:=by
   have h4:=(holds_andW hc).1
   rw[hn] at h4
   exact h4
  have h5:=condW_of h4 (w_not (w_lt w_lit (w_len_list (w_arg rfl))))
  rw[List.length_map] at h5
  refine Nat.le_of_not_lt λq=>?_
  have q':(n:Int)<((ns.length:Nat):Int):=by omega
  first
   | (rw[decide_eq_true q'] at h5;exact absurd h5 (by decide))
   | (simp at h5;omega)
 cases hwl with
 | cons w1 w2 =>
  cases w2
  cases w1 with
  | list ho hall=>exact⟨_,_,ns,rfl,rfl,ho,rL ns _ hall,hlen⟩
theorem KN (l:OpenLaw) (args:List WData):l.row.toRowW.claim.post args (.bool true) args=true :=
 postW_of (r:=l.row.toRowW) (X:=(true == true))
  (show WShape.has [] (.bool true) .bool=true by first | rfl | decide | simp[WShape.has,WShape.arms,WShape.armsAll])
  (show (WTm.eq .res (.lit (.bool true))).value [] { args:=args,res:=some (.bool true),after:=args } = some (.bool (true == true)) from w_eq_bool (w_res rfl) w_lit) rfl
theorem attach_call {l:OpenLaw} {n:Nat} {q:Program} {loose:List Str} {XP:(Str->Option Value)->Heap->Prop} {YP:World->Heap->Prop} {d:DefRec}
  (hn:l.most=some n) (hdf:d.params.defaults=[])
  (call:∀(w:World) (s₀ s₁:Shared) (mg mb:Str->Option Value) (fa:Addr) (o:Obj) (pm cd doc:Value) (a:Addr) (vs:List Value) (ns:List Int),
   Ground q loose [] XP w s₀ mg mb s₁.heap->YP w s₁.heap ->
   s₁.heap.get? fa=some o->o.data = .func (docDef d.name d.params d.body d.scope pm cd doc)->s₁.heap.CodeRec cd d.name->mg d.name=some (.ref fa) ->
   s₁.heap.get? a=some { cls:=.type "list",data:=.seq vs.toArray }->IntsAre vs ns->ns.length<=n->s₁.gens = #[] ->
   codeAny (model l.prog w) callerA (.call (.ref fa) ⟨[.ref a],[]⟩) (λr s'=>r = .ok (.ret (.bool true))/\OldK s₁.heap s'.heap/\s'.os=s₁.os/\AllBare s'.gens) s₁) :
  WalkO q loose XP YP l.row.toRowW d [] (λf vs=>PySem.call f vs):=by
 intro w s₀ s₁ mg mb G Y fa o pm cd doc dV kV ho hd hcd hD hmg hg args vals as hpre hlay hrd hwl hlo
 obtain rfl:dV = .none:=Dflts.none hD hdf
 obtain rfl:kV = .none:=Dflts.noKw hD
 obtain⟨a,vs,ns,rfl,rfl,hobj,hints,hlen⟩:=KR hn hpre hwl
 refine enter_call (codeAny_mono (call w s₀ s₁ mg mb fa o pm cd doc a vs ns G Y ho (fd_plain hd) hcd hmg hobj hints hlen hg) λr s' hq=>?_)
 obtain⟨rfl,h2,h3,h4⟩:=hq
 exact⟨.inl ⟨.bool true,.bool true,[],rfl,λ_=>rfl,.bool true,KN l _,λ_=>⟨List.Pairwise.nil,λ_ hm=>(nomatch hm)⟩⟩,h2,h3,h4⟩
section
variable {prog:Program} {w:World} {A:Around} {E:Value->Shared->Prop} {s:Shared} {K:Frag}
end
end Att
namespace L2
open PySem PySem.Spec PyProof.Rows
theorem xT:∀{vs:List Value} {ns:List Int},IntsAre vs ns->Vals (ns.map V.int) vs
 | _,_,.nil=>.nil
 | _,_,.cons n t h=>.cons ⟨t,rfl⟩ (xT h)
noncomputable def QF (H:Hp):Prop:=∀b,H b=none\/∃o xs,H b=some (.frz o (.lst xs))
theorem NJ {P:Program} {w:World} {K:PySem.W.Frag} {mg mb:Str->Option Value} {CX:CXT} {k:Nat} {fa a:Addr} {fd:FuncData} {x:Str} {sp:Sp} {s₁:Shared} {vs:List Value} {ns:List Int}
  (KX:K.In s₁.heap) (hns:s₁.heap.Ns mainGlobals mg) (hb:s₁.heap.Ns builtinsNs mb) (hbb:∀x:Str,x≠"__name__"->mb x=bootBuiltins x) (hlim:s₁.heap.NoLimit) (hg:s₁.gens = #[])
  (ha:s₁.heap.get? a=some { cls:=.type "list",data:=.seq vs.toArray }) (hi:IntsAre vs ns) (hl:ns.length<=sizeLine) (hr:Room k callerA)
  (F:∀base:Heap,K.In base->base.Ns mainGlobals mg->FnOk P w K mg base CX k fa fd [x] sp) (hbind:∀(s:Shared) (u:Value),BindsTo s fd ⟨[u],[]⟩ [(x,u)])
  (hsp:∀H:Hp,QF H->SqL K H a (ns.map V.int)->sp [.ref a] H (λv _=>v = .bl true) λ_ _ _=>False)
  (hCX:∀H e s',CX [] H s₁ (λ_ _ _=>False) e s'->False) :
  codeAny (model P w) callerA (.call (.ref fa) ⟨[.ref a],[]⟩) (λr s'=>r = .ok (.ret (.bool true))/\OldK s₁.heap s'.heap/\s'.os=s₁.os/\AllBare s'.gens) s₁:=by
 have rv:=xT hi
 have lenV:=hi.length
 have core:∀H:Hp,QF H->SqL K H a (ns.map V.int)->HOk P w H s₁.heap->(∀b,H b≠none->b=a)->(H a≠none->K.lookup a=none) ->
   codeAny (model P w) callerA (.call (.ref fa) ⟨[.ref a],[]⟩) (λr s'=>r = .ok (.ret (.bool true))/\OldK s₁.heap s'.heap/\s'.os=s₁.os/\AllBare s'.gens) s₁:=by
  intro H hO hS hok hA hK
  have base_of:∀{b:Addr} {o:Obj},s₁.heap.get? b=some o->H b=none->(zE s₁.heap H).get? b=some o:=λe n=>NF e n
  have noA:∀{b:Addr} {o:Obj} {es:Array DictEntry} {ep:Nat},s₁.heap.get? b=some o->o.data = .dict es ep->H b=none:=λ{b o es ep} e d=>by
   cases q:H b with
   | none=>rfl
   | some u =>
    have e':b=a:=hA b (by rw[q];simp)
    subst e'
    rw[ha] at e;cases e
    have d':Data.seq vs.toArray _=Data.dict es ep:=d
    cases d'
  have nsK:∀{b:Addr} {m:Str->Option Value},s₁.heap.Ns b m->(zE s₁.heap H).Ns b m:=λ{b m} ⟨o,es,ep,e,d,r⟩=>⟨o,es,ep,base_of e (noA e d),d,r⟩
  have hKb:K.In (zE s₁.heap H):=λb o e=>base_of (KX b o e) (by
   cases q:H b with
   | none=>rfl
   | some u =>
    have e':b=a:=hA b (by rw[q];simp)
    subst e'
    rw[hK (by rw[q];simp)] at e;cases e)
  have hM:Mod K mg (zE s₁.heap H):=⟨hKb,nsK hns,⟨mb,nsK hb,hbb⟩,let ⟨mc,h1,h2⟩:=hlim;⟨mc,nsK h1,h2⟩⟩
  have e0:Env0 P w K mg (zE s₁.heap H) callerA [] s₁ H:=⟨rfl,hM,λb o e=>RM e,Nat.le_of_eq (JH _ _),trivial,λb hb=>absurd (show b∈([]:List Addr) from hb) (by simp),hok,.of_eq hg⟩
  refine codeAny_mono ((F _ hKb (nsK hns)).run callerA [] s₁ H ⟨[.ref a],[]⟩ [.ref a] [.ref a] _ _ hr e0 (hbind s₁ (.ref a)) (.cons rfl .nil) (hsp H hO hS)) λr s' h=>?_
  cases r with
  | error e=>exact (hCX H e s' h).elim
  | ok fl =>
   cases fl with
   | next=>exact False.elim h
   | brk=>exact False.elim h
   | cont=>exact False.elim h
   | ret u =>
    obtain⟨v,H',os,bare,un,hok',r',q⟩:=h
    have q':v = .bl true:=q
    subst q'
    obtain rfl:u=Value.bool true:=r'
    refine⟨rfl,OldK.of_keep λb o e=>?_,os,bare⟩
    cases q:H b with
    | none=>exact un.keep b o e q (by intro z;exact absurd (show b∈([]:List Addr) from z) (by simp)) (by simp)
    | some u =>
     rcases hO b with z | ⟨ob,xs,z⟩
     ·rw[q] at z;cases z
     ·have z2:=un.frzs b ob _ z
      obtain⟨e1,_⟩:=hok b _ z
      obtain⟨e2,_⟩:=hok' b _ z2
      rw[e] at e1;cases e1
      exact e2
 cases hk:K.lookup a with
 | some o =>
  have e:=KX a o hk
  rw[ha] at e
  cases e
  refine core (λ_=>none) (λ_=>.inl rfl) (.inr ⟨_,vs.toArray,_,hk,rfl,rfl,rfl,by rw[List.size_toArray,lenV];exact hl,by simpa using rv⟩) (λb u z=>by have z':(none:Option HO)=some u:=z;cases z') (λb z=>absurd rfl z) λz=>absurd rfl z
 | none =>
  refine core (λb=>if b=a then some (.frz { cls:=.type "list",data:=.seq vs.toArray } (.lst (ns.map V.int))) else none) (λb=>?_) (.inl (.inr ⟨{ cls:=.type "list",data:=.seq vs.toArray },if_pos rfl⟩)) (λb u z=>?_) (λb z=>?_) λ_=>hk
  ·by_cases hb:b=a
   ·exact .inr ⟨_,_,if_pos hb⟩
   ·exact .inl (if_neg hb)
  ·by_cases hb:b=a
   ·have z':=(if_pos hb).symm.trans z
    cases z'
    subst hb
    exact⟨ha,by rw[List.length_map];exact hl,vs,_,rv,ha⟩
   ·have z':=(if_neg hb).symm.trans z
    cases z'
  ·by_cases hb:b=a
   ·exact hb
   ·exact absurd (if_neg hb) z
end L2
namespace L2
open PySem PySem.Spec PyProof.Rows
noncomputable abbrev KOf {K:PySem.W.Frag} {h:Heap} (_:K.In h):PySem.W.Frag:=K
theorem walk_of {l:PySem.W.OpenLaw} {n k:Nat} {q:Program} {loose:List Str} {XP:(Str->Option Value)->Heap->Prop} {YP:World->Heap->Prop} {d:DefRec} {K:Params->PySem.W.Frag} {CX:World->CXT} {sp:World->Sp} {x:Str}
  (hn:l.most=some n) (hn2:n<=sizeLine) (hdf:d.params.defaults=[]) (hr:Room k callerA)
  (hY:∀(w:World) (h:Heap),YP w h->(K w.params).In h)
  (F:∀(w:World) (mg:Str->Option Value) (fa:Addr) (h:Heap),(K w.params).In h->h.Ns mainGlobals mg->mg d.name=some (.ref fa) ->
   ∃fd:FuncData,(∀(s:Shared) (u:Value),BindsTo s fd ⟨[u],[]⟩ [(x,u)]) /\
    ∀base:Heap,(K w.params).In base->base.Ns mainGlobals mg->FnOk l.prog w (K w.params) mg base (CX w) k fa fd [x] (sp w))
  (hsp:∀(w:World) (H:Hp) (a:Addr) (ns:List Int),ns.length<=n->QF H->SqL (K w.params) H a (ns.map V.int)->sp w [.ref a] H (λv _=>v = .bl true) λ_ _ _=>False)
  (hCX:∀(w:World) (H:Hp) (s:Shared) (e:Value) (s':Shared),CX w [] H s (λ_ _ _=>False) e s'->False) :
  PySem.W.WalkO q loose XP YP l.row.toRowW d [] (λf vs=>PySem.call f vs):=by
 refine Att.attach_call hn hdf λw s₀ s₁ mg mb fa o pm cd doc a vs ns G Y ho hd hcd hmg hobj hints hlen hg=>?_
 have KX:=hY w _ Y
 obtain⟨fd,hb,hF⟩:=F w mg fa _ KX G.T.g hmg
 exact NJ KX G.T.g G.T.b G.T.builtins G.T.nolimit hg hobj hints (Nat.le_trans hlen hn2) hr hF hb (λH hO hS=>hsp w H a ns hlen hO hS) λH e s'=>hCX w H s₁ e s'
end L2
namespace L2
open PySem PySem.Spec PyProof.Rows
noncomputable def bB (s:Stmt):Arguments:=match s with
 | .FunctionDef _ a _ _ _ _ _ _ _ _=>a
 | _=>{ posonlyargs:=[],args:=[],vararg:=none,kwonlyargs:=[],kw_defaults:=[],kwarg:=none,defaults:=[] }
noncomputable def aL (s:Stmt):List Stmt:=match s with
 | .FunctionDef _ _ b _ _ _ _ _ _ _=>b
 | _=>[]
noncomputable def aE (s:Stmt):Scope:=match s with
 | .FunctionDef _ _ _ _ _ _ sc _ _ _=>sc
 | _=>{ kind:=.function,names:=[],isGenerator:=false,isCoroutine:=false }
noncomputable abbrev CX0:CXT:=λ_ _ _ _ _ _=>False
noncomputable abbrev E0:XK:=λ_ _ _=>False
theorem YH {X:Cx}:DV CX0 X E0:=λ_ _ _ _ _ _ _ h=>h.elim
structure Fun (K:PySem.W.Frag) (x qual:Str) (st:Stmt) (f:Addr) (fd:FuncData):Prop where
 ex:∃(oc:Value) (od:Option Addr) (kV doc pm:Value) (an:Option Addr) (cdv ct:Value) (osl:Array (Option Value)),
  fd=PySem.W.fnOf x qual (bB st) (aL st) (aE st) .none kV doc pm an cdv ct/\K.lookup f=some ⟨oc,od,.func fd,osl⟩/\PySem.W.codeIn K cdv qual=true
 kp:PySem.W.keepIn K (.ref f)=true
section
variable {P:Program} {w:World} {K:PySem.W.Frag} {mg:Str->Option Value} {base:Heap}
theorem Fun.ok {x qual:Str} {st:Stmt} {f:Addr} {fd:FuncData} {N ps:List Str} {k:Nat} {sp:Sp} (F:Fun K x qual st f fd) (S:FnScope N ps (aE st)) (len:∀vs H Q E,sp vs H Q E->vs.length=ps.length)
  (hbody:∀(cdv:Value) (A:Around) (outer:List Env) (s:Shared) (H:Hp) (vs:List V) (Q:VK) (E:XK),Room k (A.deeper (envOfC qual (aE st) s.heap.objs.size f cdv))->sp vs H Q E ->
   ∃t,PSs (cR CX0 P w K mg base N qual (aE st) f cdv A outer s H E).nox (aL st) t/\t { nx:=λ_ H'=>Q .non H',rt:=Q } (start N vs) H):FnOk P w K mg base CX0 (k+1) f fd ps sp:=by
 obtain⟨oc,od,kV,doc,pm,an,cdv,ct,osl,rfl,lk,hcd⟩:=F.ex
 refine XW lk hcd S len λA outer s H vs Q E hr hsp=>?_
 obtain⟨t,h,q⟩:=hbody cdv A outer s H vs Q E hr hsp
 exact⟨t,h.nox,q⟩
theorem bN {x qual:Str} {st:Stmt} {f:Addr} {oc:Value} {od an:Option Addr} {osl:Array (Option Value)} {kV doc pm cdv ct:Value} (l:K.lookup f=some ⟨oc,od,.func (PySem.W.fnOf x qual (bB st) (aL st) (aE st) .none kV doc pm an cdv ct),osl⟩)
  (c:PySem.W.codeIn K cdv qual=true) (k:PySem.W.keepIn K (.ref f)=true):Fun K x qual st f (PySem.W.fnOf x qual (bB st) (aL st) (aE st) .none kV doc pm an cdv ct):=⟨⟨oc,od,kV,doc,pm,an,cdv,ct,osl,rfl,l,c⟩,k⟩
end
section
variable {X:Cx}
theorem pv (i:Nat) {x:Str} {pos:Pos} (hN:X.N[i]? = some x:=by rfl) (hv:Vis X.env.scope x:=by walk_at "vis") (hd:(x == ("__debug__":Str))=false:=by decide)
  (hcd:(x == ("__classdict__":Str))=false:=by decide):PE X (.Name x pos) (ZK i):=WL hN hv hd hcd
end
noncomputable def Same (H H':Hp):Prop:=∀b o,H b=some o->H' b=some o
theorem Same.refl (H:Hp):Same H H:=λ_ _ h=>h
theorem Same.trans {H H1 H2:Hp} (a:Same H H1) (b:Same H1 H2):Same H H2:=λc o h=>b c o (a c o h)
theorem Same.free {H H':Hp} (e:Same H H') {l:Addr} (h:H' l=Option.none):H l=Option.none:=by
 cases q:H l with
 | none=>rfl
 | some o =>
  rw[e l o q] at h
  cases h
end L2
set_option linter.all false
namespace L2.R2
noncomputable abbrev Pt:=Int × Int
noncomputable def aH (a b c:Pt):Int:=(b.1-a.1)*(c.2-a.2)-(b.2-a.2)*(c.1-a.1)
noncomputable def ltP (a b:Pt):Prop:=a.1<b.1\/(a.1=b.1/\a.2<b.2)
instance (a b:Pt):Decidable (ltP a b):=by unfold ltP;infer_instance
theorem gS {a:Pt}:¬ltP a a:=λh=>h.elim (Int.lt_irrefl _) λh=>Int.lt_irrefl _ h.2
theorem fP {a b c:Pt} (h:ltP a b) (k:ltP b c):ltP a c:=by
 rcases h with h | ⟨h,h'⟩
 ·exact Or.inl (k.elim (Int.lt_trans h) λk=>k.1 ▸ h)
 ·exact k.elim (λk=>Or.inl (h ▸ k)) λk=>Or.inr ⟨h.trans k.1,Int.lt_trans h' k.2⟩
theorem fV (a b:Pt):ltP a b\/a=b\/ltP b a:=by
 rcases Int.lt_trichotomy a.1 b.1 with h | h | h
 ·exact Or.inl (Or.inl h)
 ·rcases Int.lt_trichotomy a.2 b.2 with k | k | k
  ·exact Or.inl (Or.inr ⟨h,k⟩)
  ·exact Or.inr (Or.inl (Prod.ext h k))
  ·exact Or.inr (Or.inr (Or.inr ⟨h.symm,k⟩))
 ·exact Or.inr (Or.inr (Or.inl h))
theorem hE {a b:Pt} (h:ltP a b):¬ltP b a:=λk=>gS (fP h k)
noncomputable def LP (x y:Int):Prop:=0<x\/(x=0/\0<y)
theorem eV {a b:Pt} (h:ltP a b):LP (b.1-a.1) (b.2-a.2):=h.elim (λh=>Or.inl (Int.sub_pos_of_lt h)) λh=>Or.inr ⟨by rw[h.1,Int.sub_self],Int.sub_pos_of_lt h.2⟩
theorem sR {x y x' y':Int} (h:LP x y) (k:LP x' y'):LP (x+x') (y+y'):=by
 rcases h with h | ⟨rfl,h'⟩ <;> rcases k with k | ⟨rfl,k'⟩
 ·exact Or.inl (Int.add_pos h k)
 ·exact Or.inl (by rw[Int.add_zero];exact h)
 ·exact Or.inl (by rw[Int.zero_add];exact k)
 ·exact Or.inr ⟨rfl,Int.add_pos h' k'⟩
theorem gR {k x y:Int} (hk:0<k) (h:LP x y):LP (k*x) (k*y):=by
 unfold LP at *
 rcases h with h | ⟨h,h'⟩
 ·exact Or.inl (Int.mul_pos hk h)
 ·exact Or.inr ⟨by rw[h,Int.mul_zero],Int.mul_pos hk h'⟩
theorem GH {k x y z w:Int} (hk:0<=k) (h:LP x y) (h0:LP z w):LP (z+k*x) (w+k*y):=by
 rcases Int.lt_or_eq_of_le hk with h' | rfl
 ·exact sR h0 (gR h' h)
 ·rw[Int.zero_mul,Int.zero_mul,Int.add_zero,Int.add_zero];exact h0
theorem TU (h:LP 0 0):False:=h.elim (Int.lt_irrefl _) λh=>Int.lt_irrefl _ h.2
theorem DU {k x y:Int} (h:LP x y) (hk:LP (k*x) (k*y)):0<k:=by
 unfold LP at *
 rcases h with h | ⟨h,h'⟩
 ·rcases hk with hk | ⟨hk,_⟩
  ·exact Int.pos_of_mul_pos_left hk h |> λh=>h
  ·rcases Int.mul_eq_zero.mp hk with e | e
   ·subst e;simp at *;
   ·omega
 ·subst h
  rcases hk with hk | ⟨_,hk⟩
  ·simp at hk
  ·exact Int.pos_of_mul_pos_left hk h'
theorem yB {ux uy vx vy wx wy:Int} (hu:LP ux uy) (hv:LP vx vy) (hw:LP wx wy) (h:0<ux*vy-uy*vx) (k:0<vx*wy-vy*wx) :
  0<ux*(vy+wy)-uy*(vx+wx)/\0<(ux+vx)*wy-(uy+vy)*wx:=by
 constructor
 ·refine DU hv (?_:LP _ _)
  have:=sR (gR h (sR hv hw)) (gR k hu)
  have e1:(ux*(vy+wy)-uy*(vx+wx))*vx=(ux*vy-uy*vx)*(vx+wx)+(vx*wy-vy*wx)*ux:=by grind
  have e2:(ux*(vy+wy)-uy*(vx+wx))*vy=(ux*vy-uy*vx)*(vy+wy)+(vx*wy-vy*wx)*uy:=by grind
  rw[e1,e2];exact this
 ·refine DU hv (?_:LP _ _)
  have:=sR (gR h hw) (gR k (sR hu hv))
  have e1:((ux+vx)*wy-(uy+vy)*wx)*vx=(ux*vy-uy*vx)*wx+(vx*wy-vy*wx)*(ux+vx):=by grind
  have e2:((ux+vx)*wy-(uy+vy)*wx)*vy=(ux*vy-uy*vx)*wy+(vx*wy-vy*wx)*(uy+vy):=by grind
  rw[e1,e2];exact this
theorem DJ {a b c d:Pt} (ab:ltP a b) (bc:ltP b c) (cd:ltP c d) (h:0<aH a b c) (k:0<aH b c d):0<aH a b d/\0<aH a c d:=by
 have:=yB (eV ab) (eV bc) (eV cd) (by unfold aH at h;grind) (by unfold aH at k;grind)
 unfold aH
 constructor
 ·have:=this.1;grind
 ·have:=this.2;grind
theorem TC {ux uy vx vy ax ay px py:Int} (A:LP ax ay) (P:LP px py) (V:LP vx vy) (hc:0<ux*vy-uy*vx) (m0:0<=-(ux*ay-uy*ax)) (x0:0<=ax*vy-ay*vx) (y0:0<=ux*py-uy*px) (n0:0<=vx*py-vy*px):0<ax*py-ay*px:=by
 have CA:=gR hc A
 have S:=GH m0 V CA
 rw[show (ux*vy-uy*vx)*ax + -(ux*ay-uy*ax)*vx=(ax*vy-ay*vx)*ux by grind,show (ux*vy-uy*vx)*ay + -(ux*ay-uy*ax)*vy=(ax*vy-ay*vx)*uy by grind] at S
 have hx:0<ax*vy-ay*vx:=by
  rcases Int.lt_or_eq_of_le x0 with h | h
  ·exact h
  ·rw[<-h,Int.zero_mul,Int.zero_mul] at S;exact (TU S).elim
 have T:=GH n0 CA (gR hx (gR hc P))
 rw[show (ax*vy-ay*vx)*((ux*vy-uy*vx)*px)+(vx*py-vy*px)*((ux*vy-uy*vx)*ax)=((ax*py-ay*px)*(ux*vy-uy*vx))*vx by grind,show (ax*vy-ay*vx)*((ux*vy-uy*vx)*py)+(vx*py-vy*px)*((ux*vy-uy*vx)*ay)=((ax*py-ay*px)*(ux*vy-uy*vx))*vy by grind] at T
 exact Int.pos_of_mul_pos_left (DU V T) hc
theorem DL {a0 b c0 a p:Pt} (h0:ltP b c0) (ha:ltP a b) (hp:ltP b p) (hc:0<aH a0 b c0) (h1:0<=aH a0 b a) (h2:0<=aH b c0 a) (h3:0<=aH a0 b p) (h4:0<=aH b c0 p):0<aH a b p:=by
 have A:=eV ha;have P:=eV hp;have U2:=eV h0
 have hc':0<(b.1-a0.1)*(c0.2-b.2)-(b.2-a0.2)*(c0.1-b.1):=by
  have e:aH a0 b c0=(b.1-a0.1)*(c0.2-b.2)-(b.2-a0.2)*(c0.1-b.1):=by { unfold aH;grind }
  rw[<-e];exact hc
 have m0:0<=-((b.1-a0.1)*(b.2-a.2)-(b.2-a0.2)*(b.1-a.1)):=by
  have e:aH a0 b a = -((b.1-a0.1)*(b.2-a.2)-(b.2-a0.2)*(b.1-a.1)):=by unfold aH;grind
  rw[<-e];exact h1
 have x0:0<=(b.1-a.1)*(c0.2-b.2)-(b.2-a.2)*(c0.1-b.1):=by
  have e:aH b c0 a=(b.1-a.1)*(c0.2-b.2)-(b.2-a.2)*(c0.1-b.1):=by unfold aH;grind
  rw[<-e];exact h2
 have y0:0<=(b.1-a0.1)*(p.2-b.2)-(b.2-a0.2)*(p.1-b.1):=by
  have e:aH a0 b p=(b.1-a0.1)*(p.2-b.2)-(b.2-a0.2)*(p.1-b.1):=by unfold aH;grind
  rw[<-e];exact h3
 have n0:0<=(c0.1-b.1)*(p.2-b.2)-(c0.2-b.2)*(p.1-b.1):=by
  have e:aH b c0 p=(c0.1-b.1)*(p.2-b.2)-(c0.2-b.2)*(p.1-b.1):=by unfold aH;grind
  rw[<-e];exact h4
 have goal:aH a b p=(b.1-a.1)*(p.2-b.2)-(b.2-a.2)*(p.1-b.1):=by unfold aH;grind
 rw[goal]
 exact TC A P U2 hc' m0 x0 y0 n0
noncomputable def cE (p:Pt):List Pt->List Pt
 | b::a::r=>if aH a b p<=0 then cE p (a::r) else b::a::r
 | s=>s
noncomputable def cH (L:List Pt):List Pt:=L.foldl (λs p=>p::cE p s) []
noncomputable def Dec (s:List Pt):Prop:=s.Pairwise λx y=>ltP y x
noncomputable def Inc (s:List Pt):Prop:=s.Pairwise ltP
noncomputable def Tri (s:List Pt):Prop:=∀c b a,[c,b,a].Sublist s->0<aH a b c
noncomputable def XO (p:Pt) (s:List Pt):Prop:=∀b a,[b,a].Sublist s->0<aH a b p
theorem qY (p:Pt):∀s,∃l,s=l++cE p s
 | []=>⟨[],rfl⟩
 | [_]=>⟨[],rfl⟩
 | b::a::r=>by
  unfold cE
  split
  ·obtain⟨l,e⟩:=qY p (a::r)
   exact⟨b::l,by rw[List.cons_append,<-e]⟩
  ·exact⟨[],rfl⟩
theorem jM (p:Pt) (s:List Pt):(cE p s).Sublist s:=by
 obtain⟨l,e⟩:=qY p s
 conv=>rhs;rw[e]
 exact List.sublist_append_right _ _
theorem HW (p:Pt):∀s,s≠[]->cE p s≠[]
 | [],h=>h
 | [_],_=>by simp[cE]
 | b::a::r,_=>by
  unfold cE
  split
  ·exact HW p (a::r) (by simp)
  ·simp
theorem CQ (p:Pt):∀s b a r,cE p s=b::a::r->0<aH a b p
 | [],_,_,_,h=>by simp[cE] at h
 | [_],_,_,_,h=>by simp[cE] at h
 | b'::a'::r',b,a,r,h=>by
  unfold cE at h
  split at h
  ·exact CQ p (a'::r') b a r h
  ·rename_i hn
   cases h
   omega
theorem Dec.mem {s:List Pt} {b:Pt} {r:List Pt} (h:Dec (b::r)) {a:Pt} (ha:a∈r):ltP a b:=(List.pairwise_cons.mp h).1 a ha
theorem Ag {α:Type} {b a b0:α} {r:List α} (h:[b,a].Sublist (b0::r)):(b=b0/\a∈r)\/[b,a].Sublist r:=by
 cases h with
 | cons _ h=>exact Or.inr h
 | cons_cons _ h=>exact Or.inl ⟨rfl,by simpa using h⟩
theorem CW {p b0 a0:Pt} {r:List Pt} (d:Dec (b0::a0::r)) (t:Tri (b0::a0::r)) (hp:ltP b0 p) (h:0<aH a0 b0 p):XO p (b0::a0::r):=by
 have top:∀a,a∈a0::r->0<aH a b0 p:=by
  intro a ha
  rcases List.mem_cons.mp ha with rfl | ha
  ·exact h
  ·have t1:0<aH a a0 b0:=t b0 a0 a (by simpa using ha)
   exact (DJ (Dec.mem (s:=[]) (List.pairwise_cons.mp d).2 ha) (Dec.mem (s:=[]) d (by simp)) hp t1 h).2
 intro b a hs
 rcases Ag hs with ⟨rfl,ha⟩ | hs
 ·exact top a ha
 ·have hb:b∈a0::r:=hs.subset (by simp)
  have t1:0<aH a b b0:=t b0 b a (hs.cons_cons b0)
  have hab:ltP a b:=by
   have d':Dec [b,a]:=List.Pairwise.sublist hs (List.pairwise_cons.mp d).2
   exact (List.pairwise_cons.mp d').1 a (by simp)
  exact (DJ hab (Dec.mem (s:=[]) d hb) hp t1 (top b hb)).1
theorem SU {p:Pt} {s:List Pt} (d:Dec s) (t:Tri s) (hp:∀q∈s,ltP q p):Dec (p::cE p s)/\Tri (p::cE p s):=by
 have hs:=jM p s
 have d':Dec (cE p s):=List.Pairwise.sublist hs d
 have t':Tri (cE p s):=λc b a h=>t c b a (h.trans hs)
 have hp':∀q∈cE p s,ltP q p:=λq hq=>hp q (hs.subset hq)
 have sn:XO p (cE p s):=by
  generalize e:cE p s=u at *
  match u,e with
  | [],_=>intro b a h;cases h
  | [x],_=>intro b a h;have:=h.length_le;simp at this
  | b::a::r,e=>exact CW d' t' (hp' b (by simp)) (CQ p s b a r e)
 refine⟨List.pairwise_cons.mpr ⟨hp',d'⟩,?_⟩
 intro c b a h
 cases h with
 | cons _ h=>exact t' c b a h
 | cons_cons _ h=>exact sn b a h
structure LowChain (L C:List Pt):Prop where
 inc:Inc C
 mem:∀q∈C,q∈L
 first:∀q∈L,∀c r,C=c::r->¬ltP q c
 last:∀q∈L,∀c l,C=l++[c]->¬ltP c q
 side:∀l a b r,C=l++a::b::r->∀q∈L,0<=aH a b q
 bend:∀l a b c r,C=l++a::b::c::r->0<aH a b c
theorem LowChain.vertex {L C:List Pt} (H:LowChain L C) {a b p:Pt} (hb:b∈C) (ha:a∈L) (hp:p∈L) (ab:ltP a b) (bp:ltP b p):0<aH a b p:=by
 obtain⟨l,r,e⟩:=List.append_of_mem hb
 rcases List.eq_nil_or_concat l with rfl | ⟨l',a0,rfl⟩
 ·exact absurd ab (H.first a ha b r e)
 ·match r with
  | []=>exact absurd bp (H.last p hp b _ e)
  | c0::r' =>
   have e1:C=l'++a0::b::c0::r':=by simpa using e
   have e2:C=(l'++[a0])++b::c0::r':=by simpa using e
   have i:=H.inc
   rw[e2] at i
   have bc:ltP b c0:=(List.pairwise_cons.mp (List.pairwise_append.mp i).2.1).1 c0 (by simp)
   exact DL bc ab bp (H.bend _ _ _ _ _ e1) (H.side _ _ _ _ e1 a ha) (H.side _ _ _ _ e2 a ha) (H.side _ _ _ _ e1 p hp) (H.side _ _ _ _ e2 p hp)
theorem xJ {L C:List Pt} (H:LowChain L C) {p:Pt} (hp:p∈L):∀s,Dec s->(∀q∈s,q∈L)->(∀q∈s,ltP q p)->∀c∈C,c∈s->c∈cE p s
 | [],_,_,_,_,_,h=>h
 | [_],_,_,_,_,_,h=>h
 | b::a::r,d,m,lt,c,hc,h=>by
  unfold cE
  split
  ·rename_i ht
   rcases List.mem_cons.mp h with rfl | h
   ·exact absurd (H.vertex hc (m a (by simp)) hp (Dec.mem (s:=[]) d (by simp)) (lt _ (by simp))) (by omega)
   ·exact xJ H hp (a::r) (List.pairwise_cons.mp d).2 (λq hq=>m q (List.mem_cons_of_mem _ hq)) (λq hq=>lt q (List.mem_cons_of_mem _ hq)) c hc h
  ·exact h
theorem IL {L C:List Pt} (H:LowChain L C):∀(R:List Pt) (s:List Pt),(∀q∈R,q∈L)->Inc R->Dec s->Tri s->(∀q∈s,q∈L)->(∀q∈s,∀p∈R,ltP q p)->(∀c∈C,c∈s\/c∈R) ->
  let S:=R.foldl (λs p=>p::cE p s) s
  Dec S/\Tri S/\(∀q∈S,q∈L)/\(∀c∈C,c∈S)
 | [],s,_,_,d,t,m,_,hc=>⟨d,t,m,λc h=>by simpa using hc c h⟩
 | p::R,s,hR,i,d,t,m,lt,hc=>by
  have ok:=SU d t (p:=p) (λq hq=>lt q hq p (by simp))
  refine IL H R (p::cE p s) (λq hq=>hR q (List.mem_cons_of_mem _ hq)) (List.pairwise_cons.mp i).2 ok.1 ok.2 ?_ ?_ ?_
  ·intro q hq
   rcases List.mem_cons.mp hq with rfl | hq
   ·exact hR _ (by simp)
   ·exact m q ((jM p s).subset hq)
  ·intro q hq r hr
   rcases List.mem_cons.mp hq with rfl | hq
   ·exact (List.pairwise_cons.mp i).1 r hr
   ·exact lt q ((jM p s).subset hq) r (List.mem_cons_of_mem _ hr)
  ·intro c hcc
   rcases hc c hcc with h | h
   ·exact Or.inl (List.mem_cons_of_mem _ (xJ H (hR p (by simp)) s d m (λq hq=>lt q hq p (by simp)) c hcc h))
   ·rcases List.mem_cons.mp h with rfl | h
    ·exact Or.inl (by simp)
    ·exact Or.inr h
theorem GM:∀(C:List Pt) (t:Pt),t ∉ C->(∃c∈C,ltP c t)->(∃d∈C,ltP t d)->Inc C->∃l c d r,C=l++c::d::r/\ltP c t/\ltP t d
 | [],_,_,⟨_,h,_⟩,_,_=>by cases h
 | [x],t,_,⟨c,hc,h⟩,⟨d,hd,k⟩,_=>by
  simp at hc hd;subst hc;subst hd;exact absurd k (hE h)
 | x::y::r,t,ht,⟨c,hc,h⟩,⟨d,hd,k⟩,i=>by
  have hxt:ltP x t:=by
   rcases List.mem_cons.mp hc with rfl | hc
   ·exact h
   ·exact fP ((List.pairwise_cons.mp i).1 c hc) h
  rcases fV y t with hy | rfl | hy
  ·have hd':d∈y::r:=by
    rcases List.mem_cons.mp hd with rfl | hd
    ·exact absurd k (hE hxt)
    ·exact hd
   obtain⟨l,c',d',r',e,h1,h2⟩:=GM (y::r) t (λh=>ht (List.mem_cons_of_mem _ h)) ⟨y,by simp,hy⟩ ⟨d,hd',k⟩ (List.pairwise_cons.mp i).2
   exact⟨x::l,c',d',r',by rw[e];rfl,h1,h2⟩
  ·simp at ht
  ·exact⟨[],x,y,r,rfl,hxt,hy⟩
theorem zG:∀(A B:List Pt),Inc A->Inc B->(∀q,q∈A↔q∈B)->A=B
 | [],[],_,_,_=>rfl
 | [],b::B,_,_,h=>absurd ((h b).mpr (by simp)) (by simp)
 | a::A,[],_,_,h=>absurd ((h a).mp (by simp)) (by simp)
 | a::A,b::B,ia,ib,h=>by
  have ia':=List.pairwise_cons.mp ia;have ib':=List.pairwise_cons.mp ib
  have e:a=b:=by
   rcases List.mem_cons.mp ((h a).mp (by simp)) with e | ha
   ·exact e
   ·rcases List.mem_cons.mp ((h b).mpr (by simp)) with e | hb
    ·exact e.symm
    ·exact absurd (ib'.1 a ha) (hE (ia'.1 b hb))
  subst e
  congr 1
  refine zG A B ia'.2 ib'.2 λq=>⟨λhq=>?_,λhq=>?_⟩
  ·rcases List.mem_cons.mp ((h q).mp (List.mem_cons_of_mem _ hq)) with rfl | h'
   ·exact absurd (ia'.1 q hq) gS
   ·exact h'
  ·rcases List.mem_cons.mp ((h q).mpr (List.mem_cons_of_mem _ hq)) with rfl | h'
   ·exact absurd (ib'.1 q hq) gS
   ·exact h'
theorem QT (A B:List Pt) (ia:Inc A) (ib:Inc B) (h:∀x∈A,x∈B):A.Sublist B:=by
 induction B generalizing A with
 | nil =>
  cases A with
  | nil=>exact List.Sublist.refl _
  | cons a A=>cases h a (.head _)
 | cons b B ih =>
  cases A with
  | nil=>exact List.nil_sublist _
  | cons a A =>
   have ia':=List.pairwise_cons.mp ia
   have ib':=List.pairwise_cons.mp ib
   rcases List.mem_cons.mp (h a (.head _)) with rfl | ha
   ·exact (ih A ia'.2 ib'.2 λx hx=>(List.mem_cons.mp (h x (.tail _ hx))).resolve_left λe=>gS (e ▸ ia'.1 x hx)).cons_cons a
   ·refine (ih (a::A) ia ib'.2 λx hx=>(List.mem_cons.mp (h x hx)).resolve_left λe=>?_).cons b
    rcases List.mem_cons.mp hx with k | hx
    ·exact gS (k ▸ e ▸ ib'.1 a ha)
    ·exact hE (ia'.1 x hx) (e ▸ ib'.1 a ha)
theorem BN {L C:List Pt} (iL:Inc L) (H:LowChain L C) (hne:C≠[]):(cH L).reverse=C:=by
 obtain⟨d,t,m,k⟩:=IL H L [] (λ_ h=>h) iL List.Pairwise.nil (λ_ _ _ h=>by cases h) (λ_ h=>by cases h) (λ_ h=>by cases h) (λc hc=>Or.inr (H.mem c hc))
 have inc:Inc (cH L).reverse:=List.pairwise_reverse.mpr d
 refine zG _ _ inc H.inc λq=>⟨λhq=>?_,λhq=>List.mem_reverse.mpr (k q hq)⟩
 apply Decidable.byContradiction
 intro hn
 have hq':q∈cH L:=List.mem_reverse.mp hq
 have hL:=m q hq'
 have h1:∃c∈C,ltP c q:=by
  match C,hne with
  | c::r,_ =>
   refine⟨c,by simp,?_⟩
   rcases fV c q with h | rfl | h
   ·exact h
   ·simp at hn
   ·exact absurd h (H.first q hL c r rfl)
 have h2:∃d∈C,ltP q d:=by
  rcases List.eq_nil_or_concat C with e | ⟨l,c,e⟩
  ·exact absurd e hne
  ·refine⟨c,by simp[e],?_⟩
   rcases fV q c with h | rfl | h
   ·exact h
   ·simp[e] at hn
   ·exact absurd h (H.last q hL c l (by simpa using e))
 obtain⟨l,c,e,r,eC,hc,he⟩:=GM C q hn h1 h2 H.inc
 have hs:[e,q,c].Sublist (cH L):=by
  have i3:Inc [c,q,e]:=by
   exact .cons (λx hx=>(List.mem_cons.mp hx).elim (λe=>e ▸ hc) λh=>List.mem_singleton.mp h ▸ fP hc he) (.cons (λx hx=>List.mem_singleton.mp hx ▸ he) (.cons (λx hx=>by cases hx) .nil))
  have:[c,q,e].Sublist (cH L).reverse:=by
   refine QT _ _ i3 inc λx hx=>?_
   rw[List.mem_reverse]
   rcases List.mem_cons.mp hx with rfl | hx
   ·exact k _ (eC ▸ List.mem_append_right _ (.head _))
   ·rcases List.mem_cons.mp hx with rfl | hx
    ·exact hq'
    ·exact k _ (List.mem_singleton.mp hx ▸ eC ▸ List.mem_append_right _ (.tail _ (.head _)))
  simpa using this.reverse
 have t1:=t e q c hs
 have t2:=H.side l c e r eC q hL
 have:aH c e q = - aH c q e:=by unfold aH;grind
 omega
end L2.R2
set_option linter.all false
namespace L2.R2
noncomputable def cC (p:Pt):Pt:=(-p.1,-p.2)
theorem lO (p:Pt):cC (cC p)=p:=by unfold cC;simp
theorem hU (a b c:Pt):aH (cC a) (cC b) (cC c)=aH a b c:=by unfold aH cC;grind
theorem kC {a b:Pt}:ltP (cC a) (cC b)↔ltP b a:=or_congr Int.neg_lt_neg_iff (and_congr (Int.neg_inj.trans eq_comm) Int.neg_lt_neg_iff)
theorem CP (p:Pt):∀s,cE (cC p) (s.map cC)=(cE p s).map cC
 | []=>rfl
 | [_]=>rfl
 | b::a::r=>by
  have ih:=CP p (a::r)
  simp only[List.map_cons] at ih ⊢
  rw[cE,cE,hU]
  split
  ·exact ih
  ·rfl
theorem DM:∀(L s:List Pt),(L.map cC).foldl (λs p=>p::cE p s) (s.map cC)=(L.foldl (λs p=>p::cE p s) s).map cC
 | [],_=>rfl
 | p::L,s=>by
  simp only[List.map_cons,List.foldl_cons]
  rw[CP,<-List.map_cons]
  exact DM L (p::cE p s)
theorem tU (L:List Pt):cH (L.map cC)=(cH L).map cC:=DM L []
theorem nO {L:List Pt} (h:Dec L):Inc (L.map cC):=by
 unfold Inc;rw[List.pairwise_map]
 exact h.imp λk=>kC.mpr k
theorem QS {L C:List Pt} (iL:Inc L) (H:LowChain (L.map cC) (C.map cC)) (hne:C≠[]):(cH L.reverse).reverse=C:=by
 have i1:Inc (L.reverse.map cC):=nO (List.pairwise_reverse.mpr iL)
 have H':LowChain (L.reverse.map cC) (C.map cC):=by
  have m:∀q,q∈L.reverse.map cC↔q∈L.map cC:=by intro q;simp
  exact⟨H.inc,λq h=>(m q).mpr (H.mem q h),λq h=>H.first q ((m q).mp h),λq h=>H.last q ((m q).mp h),λl a b r e q h=>H.side l a b r e q ((m q).mp h),H.bend⟩
 have:=BN i1 H' (by simpa using hne)
 rw[tU,<-List.map_reverse] at this
 have k:=congrArg (List.map cC) this
 rw[List.map_map,List.map_map] at k
 have e:cC ∘ cC=id:=by funext p;exact lO p
 rwa [e,List.map_id,List.map_id] at k
theorem RJ {ax ay vx vy ux uy:Int} (A:LP ax ay) (V:LP vx vy) (U:LP ux uy) (hc:0<ux*vy-uy*vx) (k1:0<=vx*ay-vy*ax) (k2:0<=-(ux*ay-uy*ax)):False:=by
 have S:=GH k2 V (GH k1 U (gR hc A))
 rw[show (ux*vy-uy*vx)*ax+(vx*ay-vy*ax)*ux + -(ux*ay-uy*ax)*vx=0 by grind,show (ux*vy-uy*vx)*ay+(vx*ay-vy*ax)*uy + -(ux*ay-uy*ax)*vy=0 by grind] at S
 exact TU S
theorem qD {a b c q:Pt} (ba:ltP b a) (bc:ltP b c) (h:0<aH a b c) (h1:0<=aH a b q) (h2:0<=aH b c q):¬ltP q b:=by
 intro hq
 have A:=eV hq;have V:=eV ba;have U:=eV bc
 have hc:0<(c.1-b.1)*(a.2-b.2)-(c.2-b.2)*(a.1-b.1):=by
  have e:aH a b c=(c.1-b.1)*(a.2-b.2)-(c.2-b.2)*(a.1-b.1):=by unfold aH;grind
  rw[<-e];exact h
 have k1:0<=(a.1-b.1)*(b.2-q.2)-(a.2-b.2)*(b.1-q.1):=by
  have e:aH a b q=(a.1-b.1)*(b.2-q.2)-(a.2-b.2)*(b.1-q.1):=by unfold aH;grind
  rw[<-e];exact h1
 have k2:0<=-((c.1-b.1)*(b.2-q.2)-(c.2-b.2)*(b.1-q.1)):=by
  have e:aH b c q = -((c.1-b.1)*(b.2-q.2)-(c.2-b.2)*(b.1-q.1)):=by unfold aH;grind
  rw[<-e];exact h2
 exact RJ A V U hc k1 k2
theorem JZ {a b c q:Pt} (ab:ltP a b) (cb:ltP c b) (h:0<aH a b c) (h1:0<=aH a b q) (h2:0<=aH b c q):¬ltP b q:=λhq =>
 qD (kC.mpr ab) (kC.mpr cb) (by rw[hU];exact h) (by rw[hU];exact h1) (by rw[hU];exact h2) (kC.mpr hq)
noncomputable def LJ (R:List Pt):Prop:=∀l a b c s,R=l++a::b::c::s->¬(ltP b a/\ltP b c)
noncomputable def LK (R:List Pt):Prop:=∀l a b s,R=l++a::b::s->a≠b
theorem BC:∀(s:List Pt) (a b:Pt),ltP b a->LJ (a::b::s)->LK (a::b::s)->Dec (a::b::s)
 | [],a,b,h,_,_=>by simp only[Dec,List.pairwise_cons,List.mem_cons,List.not_mem_nil,or_false];exact⟨λx e=>e ▸ h,by simp⟩
 | c::s,a,b,h,nd,nr=>by
  have hc:ltP c b:=by
   rcases fV c b with h' | h' | h'
   ·exact h'
   ·exact absurd h'.symm (nr [a] b c s rfl)
   ·exact absurd ⟨h,h'⟩ (nd [] a b c s rfl)
  have ih:=BC s b c hc (λl x y z w e=>nd (a::l) x y z w (by rw[e];rfl)) (λl x y w e=>nr (a::l) x y w (by rw[e];rfl))
  refine List.pairwise_cons.mpr ⟨λq hq=>?_,ih⟩
  rcases List.mem_cons.mp hq with rfl | hq
  ·exact h
  ·exact fP ((List.pairwise_cons.mp ih).1 q hq) h
theorem CD:∀(R:List Pt),R≠[]->LJ R->LK R->∃A m B,R=A++m::B/\Inc (A++[m])/\Dec (m::B)
 | [],h,_,_=>absurd rfl h
 | [x],_,_,_=>⟨[],x,[],rfl,by simp[Inc],by simp[Dec]⟩
 | a::b::s,_,nd,nr=>by
  rcases fV a b with h | h | h
  ·obtain⟨A,m,B,e,i,d⟩:=CD (b::s) (by simp) (λl x y z w e=>nd (a::l) x y z w (by rw[e];rfl)) (λl x y w e=>nr (a::l) x y w (by rw[e];rfl))
   refine⟨a::A,m,B,by rw[e];rfl,?_,d⟩
   refine List.pairwise_cons.mpr ⟨λq hq=>?_,i⟩
   have hb:q=b\/ltP b q:=by
    match A,e,i,hq with
    | [],e,i,hq=>simp at hq;simp at e;exact Or.inl (hq.trans e.1.symm)
    | x::A,e,i,hq =>
     simp at e
     obtain⟨rfl,e⟩:=e
     rcases List.mem_cons.mp hq with rfl | hq
     ·exact Or.inl rfl
     ·exact Or.inr ((List.pairwise_cons.mp i).1 q hq)
   rcases hb with rfl | hb
   ·exact h
   ·exact fP h hb
  ·exact absurd h (nr [] a b s rfl)
  ·exact⟨[],a,b::s,rfl,by simp[Inc],BC s a b h nd nr⟩
structure RingAbout (L:List Pt) (z y:Pt) (t:List Pt):Prop where
 mem:∀q∈z::y::t,q∈L
 least:∀q∈y::t,ltP z q
 side:∀l a b r,(z::y::t)++[z]=l++a::b::r->∀q∈L,0<=aH a b q
 bend:∀l a b c r,(z::y::t)++[z,y]=l++a::b::c::r->0<aH a b c
theorem IK {a b c:Pt} (h:0<aH a b c):a≠b/\b≠c:=by
 constructor <;> rintro rfl <;> unfold aH at h <;> grind
noncomputable def gO (L:List Pt):List Pt:=(cH L).reverse.dropLast
theorem JI {z b a c:Pt} {T l s:List Pt} (e:(z::T)++[z]=l++a::b::c::s):b∈T:=by
 have h:((z::T)++[z]).dropLast=(l++a::b::c::s).dropLast:=congrArg List.dropLast e
 have h2:(l++a::b::c::s).dropLast=(l++[a])++(b::(c::s).dropLast):=by
  have:l++a::b::c::s=(l++[a,b])++(c::s):=by simp
  rw[this,List.dropLast_append_of_ne_nil (by simp)];simp
 rw[List.dropLast_concat,h2] at h
 cases l with
 | nil=>simp at h;rw[h.2];simp
 | cons l0 l=>simp at h;rw[h.2];simp
theorem KQ {L:List Pt} {z y:Pt} {t:List Pt} (iL:Inc L) (H:RingAbout L z y t):gO L++gO L.reverse=z::y::t:=by
 have zlty:ltP z y:=H.least y (by simp)
 have bendR:∀l a b c s,(z::y::t)++[z]=l++a::b::c::s->0<aH a b c:=by
  intro l a b c s e
  refine H.bend l a b c (s++[y]) ?_
  have:(z::y::t)++[z,y]=((z::y::t)++[z])++[y]:=by simp
  rw[this,e];simp
 have rep:LK ((z::y::t)++[z]):=by
  intro l a b s e
  match s with
  | c::s=>exact (IK (bendR l a b c s e)).1
  | [] =>
   have:(z::y::t)++[z,y]=l++a::b::[y]:=by
    have:(z::y::t)++[z,y]=((z::y::t)++[z])++[y]:=by simp
    rw[this,e];simp
   exact (IK (H.bend l a b y [] this)).1
 have memR:∀q∈(z::y::t)++[z],q∈L:=by
  intro q hq
  rcases List.mem_append.mp hq with h | h
  ·exact H.mem q h
  ·simp at h;subst h;exact H.mem _ (by simp)
 have hz:z∈L:=H.mem z (by simp)
 have dip:LJ ((z::y::t)++[z]):=by
  intro l a b c s e ⟨h1,h2⟩
  have nb:=qD h1 h2 (bendR l a b c s e) (H.side l a b (c::s) e z hz) (H.side (l++[a]) b c s (by rw[e];simp) z hz)
  exact nb (H.least b (JI e))
 obtain⟨A,m,B,e,iA,dB⟩:=CD _ (by simp) dip rep
 have hA:∃A',A=z::A':=by
  match A,e with
  | [],e =>
   exfalso
   simp at e
   obtain⟨rfl,e5⟩:=e
   have hy:y∈B:=by rw[<-e5];simp
   exact hE zlty ((List.pairwise_cons.mp dB).1 y hy)
  | x::A',e=>simp at e;exact⟨A',by rw[e.1]⟩
 obtain⟨A',rfl⟩:=hA
 have hB:∃B',B=B'++[z]:=by
  rcases List.eq_nil_or_concat B with rfl | ⟨B',x,rfl⟩
  ·exfalso
   have e':(z::y::t)++[z]=(z::A')++[m]:=e
   have:=List.append_inj_right' e' rfl
   simp at this
   subst this
   exact gS ((List.pairwise_cons.mp iA).1 z (by simp))
  ·have e':(z::y::t)++[z]=(z::A'++m::B')++[x]:=by rw[e];simp
   have:=List.append_inj_right' e' rfl
   simp at this
   exact⟨B',by rw[this];simp⟩
 obtain⟨B',rfl⟩:=hB
 have e2:(z::y::t)++[z]=(z::A'++m::B')++[z]:=by rw[e];simp
 have er:z::y::t=z::A'++m::B':=List.append_inj_left' e2 rfl
 have minL:∀q∈L,¬ltP q z:=by
  intro q hq
  rcases List.eq_nil_or_concat (y::t) with h | ⟨u,x,hu⟩
  ·simp at h
  ·have e3:(z::y::t)++[z,y]=(z::u)++x::z::y::[]:=by rw[hu];simp
   have hx:ltP z x:=H.least x (by rw[hu];simp)
   exact qD hx zlty (H.bend _ _ _ _ _ e3) (H.side (z::u) x z [] (by rw[hu];simp) q hq) (H.side [] z y (t++[z]) (by simp) q hq)
 have maxL:∀q∈L,¬ltP m q:=by
  intro q hq
  rcases List.eq_nil_or_concat (z::A') with h | ⟨u,x,hu⟩
  ·simp at h
  ·have hxm:ltP x m:=by
    have iA':=iA
    rw[hu] at iA'
    exact (List.pairwise_append.mp iA').2.2 x (by simp) m (by simp)
   match hB':B'++[z],dB with
   | [],_=>simp at hB'
   | c::s,dB =>
    have e3:(z::y::t)++[z]=u++x::m::c::s:=by rw[e,<-hB',hu];simp
    have hcm:ltP c m:=by
     exact (List.pairwise_cons.mp dB).1 c (by simp)
    exact JZ hxm hcm (bendR _ _ _ _ _ e3) (H.side _ _ _ _ e3 q hq) (H.side (u++[x]) m c s (by rw[e3];simp) q hq)
 have low:LowChain L (z::A'++[m]):=by
  refine⟨iA,λq hq=>memR q ?_,λq hq c r ec=>?_,λq hq c l ec=>?_,λl a b r ec q hq=>?_,λl a b c r ec=>?_⟩
  ·rw[e];simp at hq ⊢;rcases hq with h | h | h <;> simp[h]
  ·simp at ec;rw[<-ec.1];exact minL q hq
  ·have:=List.append_inj_right' ec rfl
   simp at this;rw[<-this];exact maxL q hq
  ·refine H.side l a b (r++(B'++[z])) ?_ q hq
   have:z::A'++m::(B'++[z])=(z::A'++[m])++(B'++[z]):=by simp
   rw[e,this,ec];simp
  ·refine bendR l a b c (r++(B'++[z])) ?_
   have:z::A'++m::(B'++[z])=(z::A'++[m])++(B'++[z]):=by simp
   rw[e,this,ec];simp
 have negmem:∀q∈L.map cC,∃p∈L,q=cC p:=by
  intro q hq
  obtain⟨p,hp,rfl⟩:=List.mem_map.mp hq
  exact⟨p,hp,rfl⟩
 have eN:∀(X Y:List Pt),X.map cC=Y->X=Y.map cC:=by
  rintro X Y rfl
  rw[List.map_map]
  have e:cC ∘ cC=id:=by funext p;exact lO p
  rw[e,List.map_id]
 have up:LowChain (L.map cC) ((m::(B'++[z])).map cC):=by
  refine⟨nO dB,λq hq=>?_,λq hq c r ec=>?_,λq hq c l ec=>?_,λl a b r ec q hq=>?_,λl a b c r ec=>?_⟩
  ·obtain⟨p,hp,rfl⟩:=List.mem_map.mp hq
   refine List.mem_map_of_mem (memR p ?_)
   rw[e]
   exact List.mem_append_right _ hp
  ·obtain⟨p,hp,rfl⟩:=negmem q hq
   simp at ec
   rw[<-ec.1,kC]
   exact maxL p hp
  ·obtain⟨p,hp,rfl⟩:=negmem q hq
   have ec':(m::B').map cC++[cC z]=l++[c]:=by simpa using ec
   have:=List.append_inj_right' ec' rfl
   simp at this
   rw[<-this,kC]
   exact minL p hp
  ·obtain⟨p,hp,rfl⟩:=negmem q hq
   have ec':=eN _ _ ec
   simp only[List.map_append,List.map_cons] at ec'
   have:=H.side (z::A'++l.map cC) (cC a) (cC b) (r.map cC) (by rw[e,ec'];simp) p hp
   rw[<-hU,lO,lO] at this
   exact this
  ·have ec':=eN _ _ ec
   simp only[List.map_append,List.map_cons] at ec'
   have:=bendR (z::A'++l.map cC) (cC a) (cC b) (cC c) (r.map cC) (by rw[e,ec'];simp)
   rw[hU] at this
   exact this
 have h1:=BN iL low (by simp)
 have h2:=QS iL up (by simp)
 unfold gO
 rw[h1,h2,er]
 have:m::(B'++[z])=(m::B')++[z]:=by simp
 rw[this,List.dropLast_concat,List.dropLast_concat]
end L2.R2
set_option linter.all false
namespace L2.R2
noncomputable def DY (L:List Pt):Prop:=L.Pairwise λx y=>¬ltP y x
theorem xI (p:Pt):∀s,cE p (cE p s)=cE p s
 | []=>rfl
 | [_]=>rfl
 | b::a::r=>by
  by_cases h:aH a b p<=0
  ·rw[cE,if_pos h];exact xI p (a::r)
  ·have e:cE p (b::a::r)=b::a::r:=by rw[cE,if_neg h]
   rw[e,e]
theorem LC (a p:Pt):aH a p p<=0:=by
 unfold aH
 have:(p.1-a.1)*(p.2-a.2)-(p.2-a.2)*(p.1-a.1)=0:=by grind
 omega
theorem uW (a p:Pt):aH a a p<=0:=by
 unfold aH
 have:(a.1-a.1)*(p.2-a.2)-(a.2-a.2)*(p.1-a.1)=0:=by grind
 omega
theorem fN (L:List Pt) (p:Pt):cH (L++[p])=p::cE p (cH L):=by unfold cH;rw[List.foldl_append];rfl
theorem NG:∀(L:List Pt),(cH L).length<=L.length:=by
 have sub:∀(L s:List Pt),(L.foldl (λs p=>p::cE p s) s).length<=L.length+s.length:=by
  intro L
  induction L with
  | nil=>intro s;simp
  | cons y L ih =>
   intro s
   have i2:=ih (y::cE y s)
   have:=(jM y s).length_le
   simp only[List.foldl_cons,List.length_cons] at i2 ⊢
   omega
 intro L;simpa [cH] using sub L []
structure DupOk (L D:List Pt):Prop where
 inc:Inc D
 mem:∀z,z∈D↔z∈L
 many:2<=D.length->cH L=cH D
 one:∀c,D=[c]->cH L=[c]\/cH L=[c,c]
 none:D=[]->cH L=[]
theorem SO {α:Type} {P:List α->Prop} (h0:P []) (h1:∀l x,P l->P (l++[x])):∀l,P l:=by
 intro l
 have:∀m:List α,P m.reverse:=by
  intro m
  induction m with
  | nil=>exact h0
  | cons x m ih=>rw[List.reverse_cons];exact h1 _ _ ih
 have:=this l.reverse
 rwa [List.reverse_reverse] at this
theorem NA:∀(L:List Pt),DY L->∃D,DupOk L D:=by
 refine SO ?_ ?_
 ·intro _
  exact⟨[],List.Pairwise.nil,λz=>Iff.rfl,λh=>absurd h (by simp),λc h=>by simp at h,λ_=>rfl⟩
 ·intro L p ih hw
  have hw':=List.pairwise_append.mp hw
  obtain⟨D,H⟩:=ih hw'.1
  have top:∀z∈L,¬ltP p z:=λz hz=>hw'.2.2 z hz p (by simp)
  rcases List.eq_nil_or_concat D with hD | ⟨D',c,hD⟩
  ·-- nothing so far
   have hL:L=[]:=by
    apply List.eq_nil_iff_forall_not_mem.mpr
    intro z hz
    have:=(H.mem z).mpr hz
    rw[hD] at this;cases this
   subst hL
   refine⟨[p],by simp[Inc],λz=>by simp,λh=>absurd h (by simp),λc h=>?_,λh=>by simp at h⟩
   simp at h;subst h
   exact Or.inl rfl
  ·have hD:D=D'++[c]:=by simpa using hD
   subst hD
   have hcL:c∈L:=(H.mem c).mp (by simp)
   have cl:∀z∈D'++[c],z=c\/ltP z c:=by
    intro z hz
    rcases List.mem_append.mp hz with h | h
    ·exact Or.inr ((List.pairwise_append.mp H.inc).2.2 z h c (by simp))
    ·exact Or.inl (by simpa using h)
   by_cases hpc:p=c
   ·subst hpc
    refine⟨D'++[p],H.inc,λz=>?_,λh2=>?_,λc hc=>?_,λh=>by simp at h⟩
    ·rw[H.mem z];simp only[List.mem_append,List.mem_singleton]
     exact⟨Or.inl,λh=>h.elim id λe=>e ▸ hcL⟩
    ·rw[fN,H.many h2,fN]
     have hne:cH D'≠[]:=by
      rcases List.eq_nil_or_concat D' with h | ⟨D'',d,h⟩
      ·rw[h] at h2;simp at h2
      ·have:D'=D''++[d]:=by simpa using h
       rw[this,fN];simp
     have hne2:=HW p _ hne
     generalize hu:cE p (cH D')=u at hne2
     cases u with
     | nil=>exact absurd rfl hne2
     | cons a r =>
      rw[cE,if_pos (LC a p)]
      congr 1
      rw[<-hu,xI]
    ·have hD':D'=[]/\p=c:=by
      cases D' with
      | nil=>simp at hc;exact⟨rfl,hc⟩
      | cons x D'=>simp at hc
     obtain⟨rfl,rfl⟩:=hD'
     rw[fN]
     rcases H.one p rfl with e | e
     ·rw[e];exact Or.inr rfl
     ·rw[e,cE,if_pos (uW p p)];exact Or.inr rfl
   ·have ltcp:ltP c p:=by
     rcases fV c p with h | h | h
     ·exact h
     ·exact absurd h.symm hpc
     ·exact absurd h (top c hcL)
    have inc2:Inc ((D'++[c])++[p]):=by
     refine List.pairwise_append.mpr ⟨H.inc,by simp,λz hz w hw=>?_⟩
     have:w=p:=by simpa using hw
     subst this
     rcases cl z hz with rfl | h
     ·exact ltcp
     ·exact fP h ltcp
    refine⟨(D'++[c])++[p],inc2,λz=>?_,λ_=>?_,λd hd=>by have:=congrArg List.length hd;simp at this,λh=>by simp at h⟩
    ·rw[List.mem_append,H.mem z,List.mem_append]
    ·rw[fN,fN (D'++[c])]
     by_cases h2:2<=(D'++[c]).length
     ·rw[H.many h2]
     ·have:D'=[]:=by
       cases D' with
       | nil=>rfl
       | cons x D'=>simp at h2
      subst this
      rcases H.one c rfl with e | e
      ·rw[e];rfl
      ·rw[e,cE,if_pos (uW c p)];rfl
theorem BE {L D:List Pt} (hw:DY L) (iD:Inc D) (hm:∀z,z∈D↔z∈L):(2<=D.length->cH L=cH D)/\(D.length<=1->(cH L).length<=2):=by
 obtain⟨D1,H⟩:=NA L hw
 have:D1=D:=zG _ _ H.inc iD λq=>(H.mem q).trans (hm q).symm
 subst this
 refine⟨H.many,λh=>?_⟩
 match D1,H,h with
 | [],H,_=>rw[H.none rfl];simp
 | [c],H,_=>rcases H.one c rfl with e | e <;> rw[e] <;> simp
 | _::_::_,_,h=>simp at h
noncomputable def mT (L:List Pt):List Pt:=gO L++gO L.reverse
theorem BF {L D:List Pt} (hw:DY L) (iD:Inc D) (hm:∀z,z∈D↔z∈L):(2<=D.length->mT L=mT D)/\(D.length<=1->(mT L).length<3):=by
 have a:=BE hw iD hm
 have wn:DY (L.reverse.map cC):=by
  unfold DY
  rw[List.pairwise_map,List.pairwise_reverse]
  exact hw.imp λh k=>h (kC.mp k)
 have iN:Inc (D.reverse.map cC):=nO (List.pairwise_reverse.mpr iD)
 have b:=BE wn iN λz=>by simp only[List.mem_map,List.mem_reverse];constructor <;> (rintro⟨w,h1,h2⟩;exact⟨w,by first | exact (hm w).mp h1 | exact (hm w).mpr h1,h2⟩)
 rw[tU,tU] at b
 simp only[List.length_map,List.length_reverse] at b
 have inj:∀(X Y:List Pt),X.map cC=Y.map cC->X=Y:=by
  intro X Y h
  have:=congrArg (List.map cC) h
  rw[List.map_map,List.map_map] at this
  have e:cC ∘ cC=id:=by funext p;exact lO p
  rwa [e,List.map_id,List.map_id] at this
 constructor
 ·intro h
  unfold mT gO
  rw[a.1 h,inj _ _ (b.1 h)]
 ·intro h
  have h1:=a.2 h
  have h2:=b.2 h
  unfold mT gO
  simp only[List.length_append,List.length_dropLast,List.length_reverse]
  exact Nat.lt_of_le_of_lt (Nat.add_le_add (Nat.sub_le_sub_right h1 1) (Nat.sub_le_sub_right h2 1)) (by decide)
end L2.R2
set_option linter.all false
namespace L2.R2
noncomputable def Nxt (L:List Pt) (a b:Pt):Prop:=∃l r,L=l++a::b::r
theorem Nxt.cons {L:List Pt} {a b:Pt} (x:Pt) (h:Nxt L a b):Nxt (x::L) a b:=by
 obtain⟨l,r,rfl⟩:=h;exact⟨x::l,r,rfl⟩
theorem Nxt.left {A:List Pt} {a b:Pt} (B:List Pt) (h:Nxt A a b):Nxt (A++B) a b:=by
 obtain⟨l,r,rfl⟩:=h;exact⟨l,r++B,by simp⟩
theorem Nxt.right {B:List Pt} {a b:Pt} (A:List Pt) (h:Nxt B a b):Nxt (A++B) a b:=by
 obtain⟨l,r,rfl⟩:=h;exact⟨A++l,r,by simp⟩
theorem kF:∀(A B:List Pt) (a b:Pt),Nxt (A++B) a b->Nxt A a b\/((∃A',A=A'++[a])/\∃B',B=b::B')\/Nxt B a b
 | [],B,a,b,h=>Or.inr (Or.inr h)
 | [x],B,a,b,⟨l,r,e⟩=>by
  cases l with
  | nil =>
   simp at e
   obtain⟨rfl,e⟩:=e
   exact Or.inr (Or.inl ⟨⟨[],rfl⟩,r,e⟩)
  | cons y l=>simp at e;exact Or.inr (Or.inr ⟨l,r,e.2⟩)
 | x::y::A,B,a,b,⟨l,r,e⟩=>by
  cases l with
  | nil =>
   simp at e
   obtain⟨rfl,rfl,e⟩:=e
   exact Or.inl ⟨[],A,rfl⟩
  | cons u l =>
   simp at e
   obtain⟨rfl,e⟩:=e
   rcases kF (y::A) B a b ⟨l,r,by simpa using e⟩ with h | ⟨⟨A',h1⟩,h2⟩ | h
   ·exact Or.inl (h.cons x)
   ·exact Or.inr (Or.inl ⟨⟨x::A',by rw[h1];rfl⟩,h2⟩)
   ·exact Or.inr (Or.inr h)
theorem HR {f:Pt->Pt} {L:List Pt} {a b:Pt} (h:Nxt (L.map f) a b):∃x y,Nxt L x y/\a=f x/\b=f y:=by
 obtain⟨l,r,e⟩:=h
 obtain⟨l1,l2,rfl,rfl,e2⟩:=List.map_eq_append_iff.mp e
 obtain⟨x,l3,rfl,rfl,e3⟩:=List.map_eq_cons_iff.mp e2
 obtain⟨y,l4,rfl,rfl,e4⟩:=List.map_eq_cons_iff.mp e3
 exact⟨x,y,⟨l1,l4,rfl⟩,rfl,rfl⟩
theorem Nxt.mem {L:List Pt} {a b:Pt} (h:Nxt L a b):a∈L/\b∈L:=by
 obtain⟨l,r,rfl⟩:=h;simp
noncomputable def Cyc (cs:List Pt) (a b:Pt):Prop:=Nxt (cs++cs.take 1) a b
structure Cvx (cs:List Pt):Prop where
 len:3<=cs.length
 nodup:cs.Nodup
 strict:∀a b,Cyc cs a b->∀q∈cs,q≠a->q≠b->0<aH a b q
theorem PV (a b:Pt):aH a b a=0:=by unfold aH;grind
theorem XL (a b:Pt):aH a b b=0:=by unfold aH;grind
theorem Cvx.side {cs:List Pt} (h:Cvx cs) {a b:Pt} (hab:Cyc cs a b) {q:Pt} (hq:q∈cs):0<=aH a b q:=by
 by_cases h1:q=a
 ·subst h1;rw[PV];decide
 ·by_cases h2:q=b
  ·subst h2;rw[XL];decide
  ·exact Int.le_of_lt (h.strict a b hab q hq h1 h2)
theorem Cvx.map {cs:List Pt} (h:Cvx cs) {f:Pt->Pt} {k:Int} (hk:0<k) (hf:∀a b c,aH (f a) (f b) (f c)=k*aH a b c) (inj:∀a b,f a=f b->a=b):Cvx (cs.map f):=by
 refine⟨by simpa using h.len,?_,λa b hab q hq n1 n2=>?_⟩
 ·exact List.Pairwise.map f (λa b hn e=>hn (inj a b e)) h.nodup
 ·unfold Cyc at hab
  rw[<-List.map_take,<-List.map_append] at hab
  obtain⟨x,y,hxy,rfl,rfl⟩:=HR hab
  obtain⟨p,hp,rfl⟩:=List.mem_map.mp hq
  rw[hf]
  exact Int.mul_pos hk (h.strict x y hxy p hp (λe=>n1 (by rw[e])) λe=>n2 (by rw[e]))
theorem oM {X Y:List Pt} {a b:Pt} (h:Cyc (Y++X) a b):Cyc (X++Y) a b:=by
 unfold Cyc at *
 cases Y with
 | nil=>simpa using h
 | cons y Y =>
  cases X with
  | nil=>simpa using h
  | cons x X =>
   simp only[List.cons_append,List.take_succ_cons,List.take_zero] at h ⊢
   have e:y::(Y++x::X++[y])=(y::Y)++((x::X)++[y]):=by simp
   rw[e] at h
   have goal1:∀{a b},Nxt ((x::X)++[y]) a b->Nxt (x::(X++y::Y++[x])) a b:=by
    intro a b h
    have:=h.left (Y++[x])
    simpa using this
   have goal2:∀{a b},Nxt ((y::Y)++[x]) a b->Nxt (x::(X++y::Y++[x])) a b:=by
    intro a b h
    have:=h.right (x::X)
    simpa using this
   rcases kF _ _ a b h with h | ⟨⟨A',h1⟩,B',h2⟩ | h
   ·exact goal2 (h.left _)
   ·simp at h2
    refine goal2 ?_
    rw[h1,<-h2.1]
    exact⟨A',[],by simp⟩
   ·exact goal1 h
theorem Cvx.swap {X Y:List Pt} (h:Cvx (X++Y)):Cvx (Y++X):=by
 refine⟨by have:=h.len;simp at this ⊢;omega,?_,λa b hab q hq=>h.strict a b (oM hab) q (by simp at hq ⊢;exact hq.symm)⟩
 have:=h.nodup
 rw[List.nodup_append] at this ⊢
 exact⟨this.2.1,this.1,λa ha b hb e=>this.2.2 b hb a ha e.symm⟩
theorem Cyc.mem {cs:List Pt} {a b:Pt} (h:Cyc cs a b):a∈cs/\b∈cs:=by
 have k:∀x,x∈cs++cs.take 1->x∈cs:=λx hx=>(List.mem_append.mp hx).elim id List.mem_of_mem_take
 exact⟨k a (Nxt.mem h).1,k b (Nxt.mem h).2⟩
theorem mB {α:Type} [DecidableEq α]:∀(l m:List α),l.Nodup->(∀x∈l,x∈m)->l.length<=m.length
 | [],_,_,_=>Nat.zero_le _
 | x::l,m,hn,hs=>by
  have hx:=hs x (.head _)
  have hn':=List.nodup_cons.mp hn
  have:=mB l (m.erase x) hn'.2 λy hy=>(List.mem_erase_of_ne λ(e:y=x)=>hn'.1 (e ▸ hy)).mpr (hs y (.tail _ hy))
  rw[List.length_erase_of_mem hx] at this
  exact Nat.le_trans (Nat.succ_le_succ this) (Nat.le_of_eq (Nat.succ_pred_eq_of_pos (List.length_pos_of_mem hx)))
theorem Cvx.third {cs:List Pt} (c:Cvx cs) (u v:Pt):∃w∈cs,w≠u/\w≠v:=by
 apply Classical.byContradiction
 intro hn
 have:=mB cs [u,v] c.nodup λw hw=>by
  by_cases h1:w=u
  ·exact h1 ▸ .head _
  ·by_cases h2:w=v
   ·exact h2 ▸ .tail _ (.head _)
   ·exact absurd ⟨w,hw,h1,h2⟩ hn
 exact absurd (Nat.le_trans c.len this) (show ¬ 3<=2 by decide)
theorem Cvx.ne {cs:List Pt} (c:Cvx cs) {u v:Pt} (h:Cyc cs u v):u≠v:=by
 obtain⟨w,hw,n1,n2⟩:=c.third u v
 rintro rfl
 have:=c.strict u u h w hw n1 n2
 rw[show aH u u w=0 by unfold aH;grind] at this
 exact Int.lt_irrefl _ this
theorem zM {cs:List Pt} (c:Cvx cs) {u v:Pt} (h:Cyc cs u v) (h':Cyc cs v u):False:=by
 obtain⟨w,hw,w1,w2⟩:=c.third u v
 have t1:=c.strict _ _ h w hw w1 w2
 rw[show aH u v w = - aH v u w by unfold aH;grind] at t1
 exact Int.lt_asymm (c.strict _ _ h' w hw w2 w1) (Int.neg_pos.mp t1)
theorem Cvx.bend {R:List Pt} (h:Cvx R) {l r:List Pt} {a b c:Pt} (e:R++R.take 2=l++a::b::c::r):0<aH a b c:=by
 obtain⟨x,y,R',eR⟩:∃x y R',R=x::y::R':=by
  match R,h.len with
  | x::y::R',_=>exact⟨x,y,R',rfl⟩
 have t1:R.take 1=[x]:=by rw[eR];rfl
 have t2:R++R.take 2=(R++R.take 1)++[y]:=by rw[t1,List.append_assoc,eR];rfl
 rw[t2] at e
 have ⟨ab,bc⟩:Cyc R a b/\Cyc R b c:=by
  rcases List.eq_nil_or_concat r with rfl | ⟨r',w,rfl⟩
  ·have e':(R++R.take 1)++[y]=(l++[a,b])++[c]:=by rw[e,List.append_assoc];rfl
   have k:=List.append_inj_left' e' rfl
   have ec:=List.append_inj_right' e' rfl
   injection ec with ec _
   refine⟨⟨l,[],k⟩,?_⟩
   have k':R++[x]=(l++[a])++[b]:=by rw[<-t1,k,List.append_assoc];rfl
   have eb:=List.append_inj_right' k' rfl
   injection eb with eb _
   rw[<-eb,<-ec]
   exact⟨[],R'++[x],by rw[t1,eR];rfl⟩
  ·have e':(R++R.take 1)++[y]=(l++a::b::c::r')++[w]:=by rw[e,List.append_assoc,List.concat_eq_append];rfl
   have k:=List.append_inj_left' e' rfl
   exact⟨⟨l,c::r',k⟩,l++[a],r',by rw[k,List.append_assoc];rfl⟩
 exact h.strict a b ab c bc.mem.2 (λhc=>zM h ab (hc ▸ bc)) λhc=>h.ne bc hc.symm
theorem AC {L D:List Pt} {z:Pt} {T:List Pt} (iD:Inc D) (h:Cvx (z::T)) (least:∀q∈T,¬ltP q z) (mem:∀q∈z::T,q∈D) (left:∀a b,Cyc (z::T) a b->∀q∈D,0<=aH a b q):mT D=z::T:=by
 obtain⟨y,t,rfl⟩:∃y t,T=y::t:=by
  have:=h.len
  cases T with
  | nil=>simp at this
  | cons y t=>exact⟨y,t,rfl⟩
 refine KQ iD ⟨mem,λq hq=>?_,λl a b r e=>left a b ⟨l,r,e⟩,λl a b c r e=>h.bend (l:=l) (r:=r) e⟩
 rcases fV z q with h' | h' | h'
 ·exact h'
 ·subst h';exact absurd hq (List.nodup_cons.mp h.nodup).1
 ·exact absurd h' (least q hq)
end L2.R2
set_option Elab.async false
set_option linter.all false
namespace L2.R2
noncomputable abbrev H3:=Int × Int × Int
noncomputable def bI (p q r:H3):Int:=p.1*(q.2.1*r.2.2-q.2.2*r.2.1)-p.2.1*(q.1*r.2.2-q.2.2*r.1)+p.2.2*(q.1*r.2.1-q.2.1*r.1)
noncomputable abbrev up3 (z:Pt):H3:=(z.1,z.2,1)
noncomputable abbrev jD (α:Int) (p:H3) (β:Int) (q:H3):H3:=(α*p.1+β*q.1,α*p.2.1+β*q.2.1,α*p.2.2+β*q.2.2)
theorem pX (a b c:Pt):bI (up3 a) (up3 b) (up3 c)=aH a b c:=by unfold bI aH up3;dsimp only;grind
theorem pW (p q u v:H3) (α β:Int):bI p q (jD α u β v)=α*bI p q u+β*bI p q v:=by unfold bI jD;dsimp only;grind
structure CLine where
 a:Int
 b:Int
 k:Int
section
variable (L:CLine)
noncomputable def cxc (z:Pt):Int:=L.a*z.1+L.b*z.2-L.k
noncomputable def Exc (p:H3):Int:=L.a*p.1+L.b*p.2.1-L.k*p.2.2
theorem cS (z:Pt):Exc L (up3 z)=cxc L z:=by unfold Exc cxc up3;dsimp only;omega
theorem LF (α β:Int) (p q:H3):Exc L (jD α p β q)=α*Exc L p+β*Exc L q:=by unfold Exc jD;dsimp only;grind
theorem VF (v1 v2 v3 v4:H3):Exc L v1*bI v2 v3 v4-Exc L v2*bI v1 v3 v4+Exc L v3*bI v1 v2 v4-Exc L v4*bI v1 v2 v3=0:=by unfold Exc bI;grind
noncomputable def bZ (u v:Pt):H3:=jD (cxc L v).natAbs (up3 u) (cxc L u).natAbs (up3 v)
noncomputable def blk (u v:Pt):List H3:=(if cxc L u<=0 then [up3 u] else [])++(if cxc L u*cxc L v<0 then [bZ L u v] else [])
noncomputable def Pl:List Pt->List H3
 | []=>[]
 | [_]=>[]
 | u::v::r=>blk L u v++Pl (v::r)
end
section
variable {L:CLine} {cs:List Pt}
theorem opp {x y:Int} (h:x*y<0):(x<0/\0<y)\/(0<x/\y<0):=by
 rcases Int.lt_trichotomy x 0 with hx | rfl | hx
 ·exact Or.inl ⟨hx,Int.not_le.mp λhy=>Int.not_le.mpr h (Int.mul_nonneg_of_nonpos_of_nonpos (Int.le_of_lt hx) hy)⟩
 ·rw[Int.zero_mul] at h;exact absurd h (Int.lt_irrefl _)
 ·exact Or.inr ⟨hx,Int.not_le.mp λhy=>Int.not_le.mpr h (Int.mul_nonneg (Int.le_of_lt hx) hy)⟩
theorem dD {x y:Int} (h:(x<0/\0<y)\/(0<x/\y<0)):x*y<0:=by
 rcases h with ⟨h1,h2⟩ | ⟨h1,h2⟩
 ·exact Int.mul_neg_of_neg_of_pos h1 h2
 ·exact Int.mul_neg_of_pos_of_neg h1 h2
theorem lA {u v:Pt} (h:cxc L u*cxc L v<0):Exc L (bZ L u v)=0:=by
 unfold bZ
 rw[LF,cS,cS]
 rcases opp h with ⟨h1,h2⟩ | ⟨h1,h2⟩
 ·rw[Int.natAbs_of_nonneg (Int.le_of_lt h2),Int.ofNat_natAbs_of_nonpos (Int.le_of_lt h1)];grind
 ·rw[Int.natAbs_of_nonneg (Int.le_of_lt h1),Int.ofNat_natAbs_of_nonpos (Int.le_of_lt h2)];grind
theorem fU {u v:Pt} (h:cxc L u*cxc L v<0):(0:Int)<(cxc L v).natAbs/\(0:Int)<(cxc L u).natAbs:=by
 have k {x:Int} (n:x≠0):(0:Int)<x.natAbs:=Int.natCast_pos.mpr (Int.natAbs_pos.mpr n)
 rcases opp h with ⟨h1,h2⟩ | ⟨h1,h2⟩
 ·exact⟨k (Int.ne_of_gt h2),k (Int.ne_of_lt h1)⟩
 ·exact⟨k (Int.ne_of_lt h2),k (Int.ne_of_gt h1)⟩
theorem oA {u v:Pt} (h:cxc L u*cxc L v<0):2<=(bZ L u v).2.2:=by
 show 1+1<=((cxc L v).natAbs:Int)*1+((cxc L u).natAbs:Int)*1
 rw[Int.mul_one,Int.mul_one]
 exact Int.add_le_add (fU h).1 (fU h).2
inductive Pm (L:CLine) (cs:List Pt):H3->Prop
 | corner {u:Pt} (hu:u∈cs) (h:cxc L u<=0):Pm L cs (up3 u)
 | cross {u v:Pt} (hc:Cyc cs u v) (h:cxc L u*cxc L v<0):Pm L cs (bZ L u v)
theorem HS (c:Cvx cs) {u v w:Pt} (h:Cyc cs u v) (hw:w∈cs) (k:aH u v w=0):w=u\/w=v:=by
 by_cases h1:w=u
 ·exact Or.inl h1
 ·by_cases h2:w=v
  ·exact Or.inr h2
  ·exact absurd k (Int.ne_of_gt (c.strict u v h w hw h1 h2))
theorem BB (u v:Pt):bI (up3 u) (up3 v) (bZ L u v)=0:=by unfold bZ;rw[pW];unfold bI;grind
theorem uD (c:Cvx cs) {u v u' v':Pt} (h:Cyc cs u v) (hc:Cyc cs u' v') (hx:cxc L u'*cxc L v'<0):(u'=u/\v'=v)\/0<bI (up3 u) (up3 v) (bZ L u' v'):=by
 obtain⟨f1,f2⟩:=fU hx
 have m:=hc.mem
 have s1:0<=aH u v u':=c.side h m.1
 have s2:0<=aH u v v':=c.side h m.2
 unfold bZ
 rw[pW,pX,pX]
 rcases Int.lt_or_eq_of_le s1 with k1 | k1
 ·exact Or.inr (Int.add_pos_of_pos_of_nonneg (Int.mul_pos f1 k1) (Int.mul_nonneg (Int.le_of_lt f2) s2))
 ·rcases Int.lt_or_eq_of_le s2 with k2 | k2
  ·exact Or.inr (Int.add_pos_of_nonneg_of_pos (Int.mul_nonneg (Int.le_of_lt f1) s1) (Int.mul_pos f2 k2))
  ·have ne:=c.ne hc
   rcases HS c h m.1 k1.symm with rfl | rfl <;> rcases HS c h m.2 k2.symm with rfl | rfl
   ·exact absurd rfl ne
   ·exact Or.inl ⟨rfl,rfl⟩
   ·exact (zM c h hc).elim
   ·exact absurd rfl ne
theorem gK (c:Cvx cs) {u v:Pt} (h:Cyc cs u v) {r:H3} (hr:Pm L cs r) (n1:r≠up3 u) (n2:r≠up3 v) (n3:r≠bZ L u v\/¬cxc L u*cxc L v<0):0<bI (up3 u) (up3 v) r:=by
 cases hr with
 | @corner w hw he =>
  rw[pX]
  exact c.strict u v h w hw (λe=>n1 (by rw[e])) λe=>n2 (by rw[e])
 | @cross u' v' hc hx =>
  exact (uD c h hc hx).resolve_left λk=>n3.elim (λn=>n (by rw[k.1,k.2])) λn=>n (k.1 ▸ k.2 ▸ hx)
noncomputable def Exit (L:CLine) (cs:List Pt) (p:H3):Prop:=∃u v,Cyc cs u v/\0<cxc L v/\((cxc L u<0/\p=bZ L u v)\/(cxc L u=0/\p=up3 u))
noncomputable def Entry (L:CLine) (cs:List Pt) (q:H3):Prop:=∃u v,Cyc cs u v/\0<cxc L u/\((cxc L v<0/\q=bZ L u v)\/(cxc L v=0/\q=up3 v))
theorem Exit.pm {p:H3} (h:Exit L cs p):Pm L cs p/\Exc L p=0:=by
 obtain⟨u,v,hc,hv,⟨hu,rfl⟩ | ⟨hu,rfl⟩⟩:=h
 ·have hx:=dD (Or.inl ⟨hu,hv⟩)
  exact⟨.cross hc hx,lA hx⟩
 ·exact⟨.corner hc.mem.1 (by omega),by rw[cS];exact hu⟩
theorem Entry.pm {p:H3} (h:Entry L cs p):Pm L cs p/\Exc L p=0:=by
 obtain⟨u,v,hc,hv,⟨hu,rfl⟩ | ⟨hu,rfl⟩⟩:=h
 ·have hx:=dD (Or.inr ⟨hv,hu⟩)
  exact⟨.cross hc hx,lA hx⟩
 ·exact⟨.corner hc.mem.2 (by omega),by rw[cS];exact hu⟩
theorem Pm.exc_le {r:H3} (h:Pm L cs r):Exc L r<=0:=by
 cases h with
 | corner hu he=>rw[cS];exact he
 | cross hc hx=>rw[lA hx];exact Int.le_refl _
theorem pY (c:Cvx cs) {p q:H3} {u v:Pt} (hc:Cyc cs u v) (hv:0<cxc L v) (hp:(cxc L u<0/\p=bZ L u v)\/(cxc L u=0/\p=up3 u)) (hq:Pm L cs q) (h0:Exc L q=0) (ne:q≠p):bI (up3 v) p q<0:=by
 have s:0<bI (up3 u) (up3 v) q:=by
  refine gK c hc hq ?_ ?_ ?_
  ·rintro rfl
   rw[cS] at h0
   rcases hp with ⟨h,_⟩ | ⟨_,rfl⟩
   ·omega
   ·exact ne rfl
  ·rintro rfl
   rw[cS] at h0;omega
  ·rcases hp with ⟨h,rfl⟩ | ⟨h,_⟩
   ·exact Or.inl ne
   ·right;rw[h];simp
 obtain⟨α,β,ha,rfl⟩:∃α β:Int,0<α/\p=jD α (up3 u) β (up3 v):=by
  rcases hp with ⟨h,rfl⟩ | ⟨h,rfl⟩
  ·exact⟨_,_,(fU (dD (Or.inl ⟨h,hv⟩))).1,rfl⟩
  ·refine⟨1,0,by decide,?_⟩
   simp[jD,up3]
 have e:bI (up3 v) (jD α (up3 u) β (up3 v)) q = -(α*bI (up3 u) (up3 v) q):=by unfold bI jD;grind
 rw[e]
 have:=Int.mul_pos ha s
 omega
theorem BH (c:Cvx cs) {p p':H3} (h:Exit L cs p) (h':Exit L cs p'):p=p':=by
 apply Classical.byContradiction
 intro ne
 have z:=h.pm
 have z':=h'.pm
 obtain⟨u,v,hc,hv,hp⟩:=h
 obtain⟨u',v',hc',hv',hp'⟩:=h'
 have t1:=pY c hc hv hp z'.1 z'.2 (Ne.symm ne)
 have t2:=pY c hc' hv' hp' z.1 z.2 ne
 have f:=VF L (up3 v) p p' (up3 v')
 rw[z.2,z'.2,cS,cS] at f
 have e:bI p p' (up3 v') = - bI (up3 v') p' p:=by unfold bI;grind
 have k1:cxc L v*bI p p' (up3 v') > 0:=by rw[e];exact Int.mul_pos hv (by omega)
 have k2:cxc L v'*bI (up3 v) p p'<0:=Int.mul_neg_of_pos_of_neg hv' t1
 omega
theorem tM (c:Cvx cs) {p q:H3} {u v:Pt} (hc:Cyc cs u v) (hu:0<cxc L u) (hp:(cxc L v<0/\p=bZ L u v)\/(cxc L v=0/\p=up3 v)) (hq:Pm L cs q) (h0:Exc L q=0) (ne:q≠p):0<bI (up3 u) p q:=by
 have s:0<bI (up3 u) (up3 v) q:=by
  refine gK c hc hq ?_ ?_ ?_
  ·rintro rfl
   rw[cS] at h0;omega
  ·rintro rfl
   rw[cS] at h0
   rcases hp with ⟨h,_⟩ | ⟨_,rfl⟩
   ·omega
   ·exact ne rfl
  ·rcases hp with ⟨h,rfl⟩ | ⟨h,_⟩
   ·exact Or.inl ne
   ·right;rw[h];simp
 obtain⟨α,β,hb,rfl⟩:∃α β:Int,0<β/\p=jD α (up3 u) β (up3 v):=by
  rcases hp with ⟨h,rfl⟩ | ⟨h,rfl⟩
  ·exact⟨_,_,(fU (dD (Or.inr ⟨hu,h⟩))).2,rfl⟩
  ·refine⟨0,1,by decide,?_⟩
   simp[jD,up3]
 have e:bI (up3 u) (jD α (up3 u) β (up3 v)) q=β*bI (up3 u) (up3 v) q:=by unfold bI jD;grind
 rw[e]
 exact Int.mul_pos hb s
theorem xA (c:Cvx cs) {p p':H3} (h:Entry L cs p) (h':Entry L cs p'):p=p':=by
 apply Classical.byContradiction
 intro ne
 have z:=h.pm
 have z':=h'.pm
 obtain⟨u,v,hc,hv,hp⟩:=h
 obtain⟨u',v',hc',hv',hp'⟩:=h'
 have t1:=tM c hc hv hp z'.1 z'.2 (Ne.symm ne)
 have t2:=tM c hc' hv' hp' z.1 z.2 ne
 have f:=VF L (up3 u) p p' (up3 u')
 rw[z.2,z'.2,cS,cS] at f
 have e:bI p p' (up3 u') = - bI (up3 u') p' p:=by unfold bI;grind
 have k1:cxc L u*bI p p' (up3 u')<0:=by rw[e];exact Int.mul_neg_of_pos_of_neg hv (by omega)
 have k2:0<cxc L u'*bI (up3 u) p p':=Int.mul_pos hv' t1
 omega
theorem qC (c:Cvx cs) {p q:H3} (hp:Exit L cs p) (hq:Entry L cs q) (ne:q≠p):∃k m:Int,0<k/\0<m/\∀r:H3,k*bI p q r = -(m*Exc L r):=by
 have z:=hp.pm
 have z':=hq.pm
 obtain⟨u,v,hc,hv,h⟩:=hp
 have t:=pY c hc hv h z'.1 z'.2 ne
 refine⟨cxc L v,-bI (up3 v) p q,hv,by omega,λr=>?_⟩
 have f:=VF L (up3 v) p q r
 rw[z.2,z'.2,cS] at f
 grind
theorem xG (c:Cvx cs) {t u v:Pt} (h1:Cyc cs t u) (h2:Cyc cs u v) (nt:t≠v) (e1:cxc L t<=cxc L u) (e2:cxc L v<=cxc L u):∀w∈cs,cxc L w<=cxc L u:=by
 intro w hw
 have D:0<aH t u v:=c.strict t u h1 v h2.mem.2 (Ne.symm nt) (Ne.symm (c.ne h2))
 have C:=c.side h1 hw
 have A:=c.side h2 hw
 have key:aH t u v*cxc L w=aH t u v*cxc L u-aH u v w*(cxc L u-cxc L t)-aH t u w*(cxc L u-cxc L v):=by
  unfold aH cxc;grind
 apply Int.not_lt.mp
 intro hn
 have k1:0<aH t u v*(cxc L w-cxc L u):=Int.mul_pos D (by omega)
 have k2:=Int.mul_nonneg A (show 0<=cxc L u-cxc L t by omega)
 have k3:=Int.mul_nonneg C (show 0<=cxc L u-cxc L v by omega)
 have e:aH t u v*(cxc L w-cxc L u)=aH t u v*cxc L w-aH t u v*cxc L u:=by grind
 omega
theorem xF (c:Cvx cs) {t u v:Pt} (h1:Cyc cs t u) (h2:Cyc cs u v) (nt:t≠v) (e1:cxc L u<=cxc L t) (e2:cxc L u<=cxc L v):∀w∈cs,cxc L u<=cxc L w:=by
 intro w hw
 have:=xG (L:=⟨-L.a,-L.b,-L.k⟩) c h1 h2 nt (by unfold cxc at *;dsimp only at *;grind) (by unfold cxc at *;dsimp only at *;grind) w hw
 unfold cxc at *
 dsimp only at *
 grind
end
end L2.R2
set_option Elab.async false
set_option linter.all false
namespace L2.R2
section
variable {L:CLine} {cs:List Pt}
theorem AX (c:Cvx cs) {u:Pt} (hu:u∈cs):∃t v,Cyc cs t u/\Cyc cs u v/\t≠v:=by
 obtain⟨X,Y,rfl⟩:=List.append_of_mem hu
 have c2:Cvx ((u::Y)++X):=c.swap
 have len:=c2.len
 have nd:=c2.nodup
 have bk:∀{a b},Cyc ((u::Y)++X) a b->Cyc (X++u::Y) a b:=λh=>oM h
 rw[List.cons_append] at len nd bk
 generalize Y++X=Z at len nd bk
 obtain⟨v,Z1,hv⟩:∃v Z1,Z=v::Z1:=by
  cases Z with
  | nil=>simp at len
  | cons v Z1=>exact⟨v,Z1,rfl⟩
 obtain⟨t,Z2,ht⟩:∃t Z2,Z=Z2++[t]:=by
  rcases List.eq_nil_or_concat Z with h | ⟨Z2,t,h⟩
  ·rw[h] at len;simp at len
  ·exact⟨t,Z2,by simpa using h⟩
 refine⟨t,v,bk ⟨u::Z2,[],by rw[ht];simp⟩,bk ⟨[],Z1++[u],by rw[hv];simp⟩,?_⟩
 rintro rfl
 have nd':=(List.nodup_cons.mp nd).2
 rw[hv] at nd'
 cases Z1 with
 | nil=>rw[hv] at len;simp at len
 | cons x Z1 =>
  have:t∈x::Z1:=by
   have e:t::x::Z1=Z2++[t]:=by rw[<-hv,ht]
   cases Z2 with
   | nil=>simp at e
   | cons y Z2 =>
    simp at e
    rw[e.2];simp
  exact (List.nodup_cons.mp nd').1 this
theorem xU (c:Cvx cs) (hpos:∃w∈cs,0<cxc L w) {r:H3} (hr:Pm L cs r) (h0:Exc L r=0):Exit L cs r\/Entry L cs r:=by
 cases hr with
 | @corner u hu he =>
  rw[cS] at h0
  obtain⟨t,v,h1,h2,ne⟩:=AX c hu
  by_cases hv:0<cxc L v
  ·exact Or.inl ⟨u,v,h2,hv,Or.inr ⟨h0,rfl⟩⟩
  ·by_cases ht:0<cxc L t
   ·exact Or.inr ⟨t,u,h1,ht,Or.inr ⟨h0,rfl⟩⟩
   ·exfalso
    obtain⟨w,hw,hwp⟩:=hpos
    have:=xG (L:=L) c h1 h2 ne (h0 ▸ Int.not_lt.mp ht) (h0 ▸ Int.not_lt.mp hv) w hw
    rw[h0] at this
    exact absurd this (Int.not_le.mpr hwp)
 | @cross u v hc hx =>
  rcases opp hx with ⟨h1,h2⟩ | ⟨h1,h2⟩
  ·exact Or.inl ⟨u,v,hc,h2,Or.inl ⟨h1,rfl⟩⟩
  ·exact Or.inr ⟨u,v,hc,h1,Or.inl ⟨h2,rfl⟩⟩
theorem fT (c:Cvx cs) (hneg:∃w∈cs,cxc L w<0) {p q:H3} (hp:Exit L cs p) (hq:Entry L cs q):q≠p:=by
 rintro rfl
 obtain⟨u,v,hc,hv,h⟩:=hp
 obtain⟨u',v',hc',hu',h'⟩:=hq
 rcases h with ⟨h,rfl⟩ | ⟨h,rfl⟩ <;> rcases h' with ⟨h',e⟩ | ⟨h',e⟩
 ·rcases uD c hc hc' (dD (Or.inr ⟨hu',h'⟩)) with ⟨rfl,_⟩ | k
  ·exact Int.lt_asymm h hu'
  ·rw[<-e,BB] at k
   exact Int.lt_irrefl _ k
 ·have:=oA (dD (Or.inl ⟨h,hv⟩));rw[e] at this;simp at this
 ·have:=oA (dD (Or.inr ⟨hu',h'⟩));rw[<-e] at this;simp at this
 ·have euv:u=v':=by
   simp only[up3,Prod.mk.injEq] at e
   exact Prod.ext e.1 e.2.1
  subst euv
  obtain⟨w,hw,hwn⟩:=hneg
  have ne:u'≠v:=λe=>zM c hc (e ▸ hc')
  have:=xF (L:=L) c hc' hc ne (by omega) (by omega) w hw
  omega
inductive Adj (L:CLine) (cs:List Pt):H3->H3->Prop
 | full {u v:Pt} (h:Cyc cs u v) (h1:cxc L u<=0) (h2:cxc L v<=0):Adj L cs (up3 u) (up3 v)
 | out {u v:Pt} (h:Cyc cs u v) (h1:cxc L u<0) (h2:0<cxc L v):Adj L cs (up3 u) (bZ L u v)
 | inn {u v:Pt} (h:Cyc cs u v) (h1:0<cxc L u) (h2:cxc L v<0):Adj L cs (bZ L u v) (up3 v)
 | line {p q:H3} (hp:Exit L cs p) (hq:Entry L cs q):Adj L cs p q
noncomputable def StC (L:CLine) (cs:List Pt) (l:H3) (u w:Pt):Prop:=Cyc cs u w/\((cxc L w<0/\((cxc L u<=0/\l=up3 u)\/(0<cxc L u/\l=bZ L u w)))\/(cxc L w=0/\((cxc L u<=0/\l=up3 u)\/(0<cxc L u/\Exit L cs l)))\/(0<cxc L w/\Exit L cs l))
noncomputable def Run {α:Type} (R:α->α->Prop):α->List α->Prop
 | _,[]=>True
 | a,b::r=>R a b/\Run R b r
noncomputable def cF {α:Type} (a:α):List α->α
 | []=>a
 | b::r=>cF b r
theorem uR {α:Type} {R:α->α->Prop}:∀(a:α) (X Y:List α),Run R a X->Run R (cF a X) Y->Run R a (X++Y)
 | _,[],_,_,h=>h
 | _,b::X,Y,⟨h1,h2⟩,h=>⟨h1,uR b X Y h2 h⟩
theorem mP {α:Type}:∀(a:α) (X Y:List α),cF a (X++Y)=cF (cF a X) Y
 | _,[],_=>rfl
 | _,b::X,Y=>mP b X Y
theorem uI:∀(W:List Pt) (l:H3) (u w:Pt),StC L cs l u w->Run (Cyc cs) w W->Run (Adj L cs) l (Pl L (w::W))/\(∀v,W≠[]->cF w W=v->∃t,(cF u (w::W.dropLast)=t)/\StC L cs (cF l (Pl L (w::W))) t v)
 | [],l,u,w,_,_=>⟨trivial,λv h=>absurd rfl h⟩
 | v::W,l,u,w,⟨hc,hs⟩,⟨hv,hr⟩=>by
  have step:Run (Adj L cs) l (blk L w v)/\StC L cs (cF l (blk L w v)) w v:=by
   by_cases hw:cxc L w<=0
   ·have first:Adj L cs l (up3 w):=by
     rcases hs with ⟨h0,⟨h1,rfl⟩ | ⟨h1,rfl⟩⟩ | ⟨h0,⟨h1,rfl⟩ | ⟨h1,h2⟩⟩ | ⟨h0,_⟩
     ·exact .full hc h1 hw
     ·exact .inn hc h1 h0
     ·exact .full hc h1 hw
     ·exact .line h2 ⟨u,w,hc,h1,Or.inr ⟨h0,rfl⟩⟩
     ·exact absurd hw (Int.not_le.mpr h0)
    by_cases hx:cxc L w*cxc L v<0
    ·have e:blk L w v=[up3 w,bZ L w v]:=by unfold blk;rw[if_pos hw,if_pos hx];rfl
     rw[e]
     rcases opp hx with ⟨h1,h2⟩ | ⟨h1,h2⟩
     ·exact⟨⟨first,.out hv h1 h2,trivial⟩,hv,Or.inr (Or.inr ⟨h2,w,v,hv,h2,Or.inl ⟨h1,rfl⟩⟩)⟩
     ·exact absurd hw (Int.not_le.mpr h1)
    ·have e:blk L w v=[up3 w]:=by unfold blk;rw[if_pos hw,if_neg hx];rfl
     rw[e]
     refine⟨⟨first,trivial⟩,hv,?_⟩
     show (cxc L v<0/\((cxc L w<=0/\up3 w=up3 w)\/_))\/_
     rcases Int.lt_trichotomy (cxc L v) 0 with k | k | k
     ·exact Or.inl ⟨k,Or.inl ⟨hw,rfl⟩⟩
     ·exact Or.inr (Or.inl ⟨k,Or.inl ⟨hw,rfl⟩⟩)
     ·have w0:cxc L w=0:=by
       rcases Int.lt_or_eq_of_le hw with h | h
       ·exact absurd (dD (Or.inl ⟨h,k⟩)) hx
       ·exact h
      exact Or.inr (Or.inr ⟨k,w,v,hv,k,Or.inr ⟨w0,rfl⟩⟩)
   ·have ex:Exit L cs l:=by
     rcases hs with ⟨h0,_⟩ | ⟨h0,_⟩ | ⟨_,h⟩
     ·exact absurd (Int.le_of_lt h0) hw
     ·exact absurd (Int.le_of_eq h0) hw
     ·exact h
    by_cases hx:cxc L w*cxc L v<0
    ·have e:blk L w v=[bZ L w v]:=by unfold blk;rw[if_neg hw,if_pos hx];rfl
     rw[e]
     rcases opp hx with ⟨h1,h2⟩ | ⟨h1,h2⟩
     ·exact absurd (Int.le_of_lt h1) hw
     ·exact⟨⟨.line ex ⟨w,v,hv,h1,Or.inl ⟨h2,rfl⟩⟩,trivial⟩,hv,Or.inl ⟨h2,Or.inr ⟨h1,rfl⟩⟩⟩
    ·have e:blk L w v=[]:=by unfold blk;rw[if_neg hw,if_neg hx];rfl
     rw[e]
     refine⟨trivial,hv,?_⟩
     rcases Int.lt_trichotomy (cxc L v) 0 with k | k | k
     ·exact absurd (dD (Or.inr ⟨Int.not_le.mp hw,k⟩)) hx
     ·exact Or.inr (Or.inl ⟨k,Or.inr ⟨Int.not_le.mp hw,ex⟩⟩)
     ·exact Or.inr (Or.inr ⟨k,ex⟩)
  have e:Pl L (w::v::W)=blk L w v++Pl L (v::W):=rfl
  obtain⟨i1,i2⟩:=uI W (cF l (blk L w v)) w v step.2 hr
  refine⟨by rw[e];exact uR _ _ _ step.1 i1,λx _ hx=>?_⟩
  rw[e,mP]
  cases W with
  | nil =>
   have:x=v:=hx.symm
   subst this
   exact⟨w,rfl,step.2⟩
  | cons y W =>
   obtain⟨t,ht,hst⟩:=i2 x (by simp) hx
   exact⟨t,ht,hst⟩
end
end L2.R2
set_option Elab.async false
set_option linter.all false
namespace L2.R2
section
variable {L:CLine} {cs:List Pt}
theorem yC (L:CLine):∀(A:List Pt) (x:Pt) (B:List Pt),Pl L (A++x::B)=Pl L (A++[x])++Pl L (x::B)
 | [],x,B=>by simp[Pl]
 | [a],x,B=>by simp[Pl]
 | a::b::A,x,B=>by
  have ih:=yC L (b::A) x B
  simp only[List.cons_append] at ih ⊢
  rw[Pl,ih,Pl,List.append_assoc]
theorem FS {R:Pt->Pt->Prop}:∀(x:Pt) (l:List Pt),(∀a b,Nxt (x::l) a b->R a b)->Run R x l
 | _,[],_=>trivial
 | x,y::l,h=>⟨h x y ⟨[],l,rfl⟩,FS y l λa b hn=>h a b (hn.cons x)⟩
theorem cQ {α:Type}:∀(a:α) (X:List α) (b:α),cF a (X++[b])=b
 | _,[],_=>rfl
 | _,x::X,b=>cQ x X b
noncomputable def nI (l:List H3) (p q:H3):Prop:=∃a b,l=a++p::q::b
theorem ID {R:H3->H3->Prop}:∀(a:H3) (l:List H3),Run R a l->∀p q,nI (a::l) p q->R p q
 | a,[],_,p,q,⟨x,y,e⟩=>by
  have:=congrArg List.length e
  simp at this;omega
 | a,b::l,⟨h1,h2⟩,p,q,⟨x,y,e⟩=>by
  cases x with
  | nil=>simp at e;obtain⟨rfl,rfl,_⟩:=e;exact h1
  | cons z x=>simp at e;exact ID b l h2 p q ⟨x,y,by simpa using e.2⟩
theorem LM {c0:Pt}:∀(W:List Pt) (x:Pt),Run (Cyc cs) x W->∀r∈Pl L (x::W),Pm L cs r
 | [],x,_,r,hr=>by simp[Pl] at hr
 | y::W,x,⟨h1,h2⟩,r,hr=>by
  rw[Pl] at hr
  rcases List.mem_append.mp hr with h | h
  ·unfold blk at h
   rcases List.mem_append.mp h with h | h
   ·split at h
    ·rename_i he
     simp at h;subst h
     exact .corner h1.mem.1 he
    ·simp at h
   ·split at h
    ·rename_i he
     simp at h;subst h
     exact .cross h1 he
    ·simp at h
  ·exact LM (c0:=c0) W y h2 r h
theorem AF (c:Cvx cs):∀(W:List Pt) (x:Pt),Run (Cyc cs) x W->(x::W).dropLast.Nodup->(Pl L (x::W)).Nodup/\∀r∈Pl L (x::W),(∃u∈(x::W).dropLast,r=up3 u)\/(∃u v,u∈(x::W).dropLast/\Cyc cs u v/\cxc L u*cxc L v<0/\r=bZ L u v)
 | [],x,_,_=>by simp[Pl]
 | y::W,x,⟨h1,h2⟩,hn=>by
  have ed:(x::y::W).dropLast=x::(y::W).dropLast:=rfl
  rw[ed] at hn ⊢
  obtain⟨n1,n2⟩:=List.nodup_cons.mp hn
  obtain⟨i1,i2⟩:=AF c W y h2 n2
  have mb:∀r∈blk L x y,r=up3 x\/(cxc L x*cxc L y<0/\r=bZ L x y):=by
   intro r hr
   unfold blk at hr
   rcases List.mem_append.mp hr with h | h
   ·split at h
    ·simp at h;exact Or.inl h
    ·simp at h
   ·split at h
    ·rename_i hx;simp at h;exact Or.inr ⟨hx,h⟩
    ·simp at h
  refine⟨?_,?_⟩
  ·rw[Pl,List.nodup_append]
   refine⟨?_,i1,?_⟩
   ·unfold blk
    by_cases ha:cxc L x<=0 <;> by_cases hb:cxc L x*cxc L y<0
    ·rw[if_pos ha,if_pos hb]
     simp
     intro e
     have:=oA hb
     rw[<-e] at this;simp at this
    all_goals simp[ha,hb]
   ·intro a ha b hb e
    subst e
    rcases mb a ha with rfl | ⟨hx,rfl⟩ <;> rcases i2 _ hb with ⟨u,hu,e⟩ | ⟨u,v,hu,hc,hx',e⟩
    ·have:x=u:=by simp only[up3,Prod.mk.injEq] at e;exact Prod.ext e.1 e.2.1
     subst this;exact n1 hu
    ·have:=oA hx';rw[<-e] at this;simp at this
    ·have:=oA hx;rw[e] at this;simp at this
    ·have nu:u≠x:=λe=>n1 (e ▸ hu)
     have z1:=BB (L:=L) x y
     rw[e] at z1
     exact (uD c h1 hc hx').elim (λk=>nu k.1) λk=>Int.lt_irrefl 0 (z1 ▸ k)
  ·intro r hr
   rw[Pl] at hr
   rcases List.mem_append.mp hr with h | h
   ·rcases mb r h with rfl | ⟨hx,rfl⟩
    ·exact Or.inl ⟨x,by simp,rfl⟩
    ·exact Or.inr ⟨x,y,by simp,h1,hx,rfl⟩
   ·rcases i2 r h with ⟨u,hu,e⟩ | ⟨u,v,hu,hc,hx',e⟩
    ·exact Or.inl ⟨u,by simp[hu],e⟩
    ·exact Or.inr ⟨u,v,by simp[hu],hc,hx',e⟩
theorem HB (u v:Pt) (r:H3):bI (up3 u) (bZ L u v) r=((cxc L u).natAbs:Int)*bI (up3 u) (up3 v) r:=by unfold bZ bI jD;grind
theorem HA (u v:Pt) (r:H3):bI (bZ L u v) (up3 v) r=((cxc L v).natAbs:Int)*bI (up3 u) (up3 v) r:=by unfold bZ bI jD;grind
theorem nJ (c:Cvx cs) (hpos:∃w∈cs,0<cxc L w) (hneg:∃w∈cs,cxc L w<0) {p q r:H3} (h:Adj L cs p q) (hr:Pm L cs r) (n1:r≠p) (n2:r≠q):0<bI p q r:=by
 cases h with
 | @full u v hc h1 h2 =>
  refine gK c hc hr n1 n2 (Or.inr λhx=>?_)
  exact (opp hx).elim (λh=>Int.not_le.mpr h.2 h2) λh=>Int.not_le.mpr h.1 h1
 | @out u v hc h1 h2 =>
  have hx:=dD (Or.inl ⟨h1,h2⟩)
  have nv:r≠up3 v:=by rintro rfl;have:=hr.exc_le;rw[cS] at this;first | exact Int.not_le.mpr h1 this | exact Int.not_le.mpr h2 this
  have s:=gK c hc hr n1 nv (Or.inl n2)
  rw[HB];exact Int.mul_pos (fU hx).2 s
 | @inn u v hc h1 h2 =>
  have hx:=dD (Or.inr ⟨h1,h2⟩)
  have nu:r≠up3 u:=by rintro rfl;have:=hr.exc_le;rw[cS] at this;first | exact Int.not_le.mpr h1 this | exact Int.not_le.mpr h2 this
  have s:=gK c hc hr nu n2 (Or.inl n1)
  rw[HA];exact Int.mul_pos (fU hx).1 s
 | line hp hq =>
  obtain⟨k,m,k0,m0,f⟩:=qC c hp hq (fT c hneg hp hq)
  have le:=hr.exc_le
  have lt:Exc L r<0:=by
   rcases Int.lt_or_eq_of_le le with h | h
   ·exact h
   ·exfalso
    rcases xU c hpos hr h with h' | h'
    ·exact n1 (BH c h' hp)
    ·exact n2 (xA c h' hq)
  have e:=f r
  have:0<k*bI p q r:=by rw[e];exact Int.neg_pos_of_neg (Int.mul_neg_of_pos_of_neg m0 lt)
  exact Int.pos_of_mul_pos_left (by rw[Int.mul_comm];exact this) k0
theorem DZ (c:Cvx cs) (hneg:∃w∈cs,cxc L w<0) {p q r:H3} (h:Adj L cs p q) (hr:∀u v,Cyc cs u v->0<bI (up3 u) (up3 v) r) (he:Exc L r<0):0<bI p q r:=by
 cases h with
 | @full u v hc h1 h2=>exact hr u v hc
 | @out u v hc h1 h2 =>
  rw[HB];exact Int.mul_pos (fU (dD (Or.inl ⟨h1,h2⟩))).2 (hr u v hc)
 | @inn u v hc h1 h2 =>
  rw[HA];exact Int.mul_pos (fU (dD (Or.inr ⟨h1,h2⟩))).1 (hr u v hc)
 | line hp hq =>
  obtain⟨k,m,k0,m0,f⟩:=qC c hp hq (fT c hneg hp hq)
  have e:=f r
  have:0<k*bI p q r:=by rw[e];exact Int.neg_pos_of_neg (Int.mul_neg_of_pos_of_neg m0 he)
  exact Int.pos_of_mul_pos_left (by rw[Int.mul_comm];exact this) k0
theorem SD (c:Cvx cs) {r:H3} (hr:Pm L cs r) {u v:Pt} (h:Cyc cs u v):0<=bI (up3 u) (up3 v) r:=by
 cases hr with
 | corner hw _=>rw[pX];exact c.side h hw
 | cross hc hx =>
  unfold bZ
  rw[pW,pX,pX]
  obtain⟨f1,f2⟩:=fU hx
  exact Int.add_nonneg (Int.mul_nonneg (Int.le_of_lt f1) (c.side h hc.mem.1)) (Int.mul_nonneg (Int.le_of_lt f2) (c.side h hc.mem.2))
end
end L2.R2
set_option Elab.async false
set_option linter.all false
namespace L2.R2
section
variable {L:CLine} {cs:List Pt}
theorem KF {l:H3} {X Y:List H3} {p q:H3} (h:nI (cF l X::Y) p q):nI (l::(X++Y)) p q:=by
 induction X generalizing l with
 | nil=>exact h
 | cons x X ih =>
  obtain⟨a,b,e⟩:=ih (l:=x) h
  exact⟨l::a,b,by simp at e ⊢;exact e⟩
theorem sX {l:H3} {u w v:Pt} (hs:StC L cs l u w) (hv:Cyc cs w v):StC L cs (cF l (blk L w v)) w v:=by
 obtain⟨h1,h2⟩:=uI [v] l u w hs ⟨hv,trivial⟩
 obtain⟨t,ht,hst⟩:=h2 v (by simp) rfl
 have e:Pl L [w,v]=blk L w v:=by simp[Pl]
 have ht':t=w:=ht.symm
 rw[e,ht'] at hst
 exact hst
theorem lM {c0:Pt} (hc0:cxc L c0<0):∀(W:List Pt) (l:H3) (u w:Pt),StC L cs l u w->Run (Cyc cs) w W->0<cxc L w->cF w W=c0->∃p q,Exit L cs p/\Entry L cs q/\nI (l::Pl L (w::W)) p q
 | [],l,u,w,hs,_,hw,e=>by
  exact absurd hw (Int.lt_asymm (show cxc L w<0 from (show w=c0 from e) ▸ hc0))
 | v::W,l,u,w,hs,⟨hv,hr⟩,hw,e=>by
  have ex:Exit L cs l:=by
   rcases hs.2 with ⟨h0,_⟩ | ⟨h0,_⟩ | ⟨_,h⟩
   ·exact absurd hw (Int.lt_asymm h0)
   ·exact absurd h0 (Int.ne_of_gt hw)
   ·exact h
  have st:=sX hs hv
  have eP:Pl L (w::v::W)=blk L w v++Pl L (v::W):=rfl
  rcases Int.lt_trichotomy (cxc L v) 0 with k | k | k
  ·have hx:=dD (Or.inr ⟨hw,k⟩)
   have eb:blk L w v=[bZ L w v]:=by unfold blk;rw[if_neg (Int.not_le.mpr hw),if_pos hx];rfl
   refine⟨l,bZ L w v,ex,⟨w,v,hv,hw,Or.inl ⟨k,rfl⟩⟩,[],Pl L (v::W),?_⟩
   rw[eP,eb];rfl
  ·have eb:blk L w v=[]:=by unfold blk;rw[if_neg (Int.not_le.mpr hw),k];simp
   cases W with
   | nil=>exact absurd k (Int.ne_of_lt (show cxc L v<0 from (show v=c0 from e) ▸ hc0))
   | cons y W =>
    refine⟨l,up3 v,ex,⟨w,v,hv,hw,Or.inr ⟨k,rfl⟩⟩,[],(if cxc L v*cxc L y<0 then [bZ L v y] else [])++Pl L (y::W),?_⟩
    rw[eP,eb,Pl]
    unfold blk
    rw[if_pos (Int.le_of_eq k)]
    simp
  ·have eb:blk L w v=[]:=by
    unfold blk
    have:¬cxc L w*cxc L v<0:=λh=>(opp h).elim (λh=>Int.lt_asymm h.1 hw) λh=>Int.lt_asymm h.2 k
    rw[if_neg (Int.not_le.mpr hw),if_neg this];rfl
   rw[eb] at st
   obtain⟨p,q,hp,hq,hn⟩:=lM hc0 W l w v st hr k e
   exact⟨p,q,hp,hq,by rw[eP,eb];exact hn⟩
theorem EY {c0:Pt} (hc0:cxc L c0<0) (W:List Pt):∀(l:H3) (u w:Pt),StC L cs l u w->Run (Cyc cs) w W->(∃x∈w::W,0<cxc L x)->cF w W=c0->∃p q,Exit L cs p/\Entry L cs q/\nI (l::Pl L (w::W)) p q:=by
 induction W with
 | nil =>
  intro l u w hs hr hx e
  obtain⟨x,hx,hp⟩:=hx
  rw[List.mem_singleton.mp hx] at hp
  exact lM hc0 [] l u w hs hr hp e
 | cons v W ih =>
  intro l u w hs hr hx e
  by_cases hw:0<cxc L w
  ·exact lM hc0 _ l u w hs hr hw e
  ·obtain⟨x,hx,hp⟩:=hx
   obtain⟨p,q,h1,h2,h3⟩:=ih _ _ _ (sX hs hr.1) hr.2 ⟨x,(List.mem_cons.mp hx).resolve_left λe=>hw (e ▸ hp),hp⟩ e
   exact⟨p,q,h1,h2,KF h3⟩
theorem KG {P P2 P3:List H3} {h l a b:H3} (e1:P=h::P2) (e2:P=P3++[l]) (hn:nI (l::P) a b):nI (P++P.take 1) a b:=by
 have t1:P.take 1=[h]:=by rw[e1];rfl
 rw[t1]
 obtain⟨x,y,e⟩:=hn
 cases x with
 | nil =>
  have e':l::P=a::b::y:=e
  rw[e1] at e'
  injection e' with k1 k2
  injection k2 with k2 _
  rw[<-k1,<-k2,e2,List.append_assoc]
  exact⟨P3,[],rfl⟩
 | cons z x =>
  injection e with _ e
  exact⟨x,y++[h],by rw[show P=x++a::b::y from e,List.append_assoc];rfl⟩
theorem NX {P P2 P3:List H3} {h l a b:H3} (e1:P=h::P2) (e2:P=P3++[l]) (hn:nI (P++P.take 1) a b):nI (l::P) a b:=by
 have t1:P.take 1=[h]:=by rw[e1];rfl
 rw[t1] at hn
 obtain⟨x,y,e⟩:=hn
 rcases List.eq_nil_or_concat y with rfl | ⟨y',w,rfl⟩
 ·have e':P++[h]=(x++[a])++[b]:=by rw[e,List.append_assoc];rfl
  have k1:=List.append_inj_left' e' rfl
  have k2:=List.append_inj_right' (e2.symm.trans k1) rfl
  injection k2 with k2 _
  have k3:=List.append_inj_right' e' rfl
  injection k3 with k3 _
  rw[e1,k2,k3]
  exact⟨[],P2,rfl⟩
 ·have e':P++[h]=(x++a::b::y')++[w]:=by rw[e,List.append_assoc];simp only[List.concat_eq_append];rfl
  exact⟨l::x,y',by rw[List.append_inj_left' e' rfl];rfl⟩
theorem RK {P P2:List H3} {h a b:H3} (e1:P=h::P2) (hn:nI (P++P.take 1) a b):a∈P/\b∈P:=by
 have t1:P.take 1=[h]:=by rw[e1];rfl
 have k:∀x∈P++P.take 1,x∈P:=λx hx=>(List.mem_append.mp hx).elim id λh=>List.mem_of_mem_take h
 obtain⟨x,y,e⟩:=hn
 have m:∀z,z∈a::b::y->z∈P:=λz hz=>k z (e ▸ List.mem_append_right x hz)
 exact⟨m _ (.head _),m _ (.tail _ (.head _))⟩
noncomputable def ZN (A B:List H3):Prop:=∃X Y,A=X++Y/\B=Y++X
structure CutOf (L:CLine) (cs:List Pt) (P:List H3):Prop where
 nodup:P.Nodup
 pm:∀r∈P,Pm L cs r
 adj:∀p q,nI (P++P.take 1) p q->Adj L cs p q
 len:3<=P.length
 line:∃p q,Exit L cs p/\Entry L cs q/\nI (P++P.take 1) p q
noncomputable def pth {α:Type} (f:α->α->Int):α->List α->Int
 | _,[]=>0
 | a,b::l=>f a b+pth f b l
theorem fQ {α:Type} (f:α->α->Int):∀(a:α) (X Y:List α),pth f a (X++Y)=pth f a X+pth f (cF a X) Y
 | a,[],Y=>by simp[pth,cF]
 | a,b::X,Y=>by
  show f a b+pth f b (X++Y)=f a b+pth f b X+pth f (cF b X) Y
  rw[fQ f b X Y];omega
noncomputable def cD {α:Type} (f:α->α->Int):List α->Int
 | []=>0
 | z::T=>pth f z (T++[z])
theorem xE {α:Type}:∀(h:α) (T X:List α) (l:α),h::T=X++[l]->cF h T=l
 | h,[],X,l,e=>by
  cases X with
  | nil=>simp at e;exact e
  | cons x X=>simp at e
 | h,y::T,X,l,e=>by
  cases X with
  | nil=>simp at e
  | cons x X=>simp at e;exact xE y T X l (by simpa using e.2)
theorem wW {α:Type} (f:α->α->Int) {P X:List α} {l:α} (e:P=X++[l]):pth f l P=cD f P:=by
 cases P with
 | nil=>simp at e
 | cons h P2 =>
  show f l h+pth f h P2=pth f h (P2++[h])
  rw[fQ,xE h P2 X l e]
  simp only[pth];omega
theorem AW {α:Type} (f:α->α->Int) (X Y:List α):cD f (X++Y)=cD f (Y++X):=by
 cases X with
 | nil=>simp
 | cons x X =>
  cases Y with
  | nil=>simp
  | cons y Y =>
   show pth f x ((X++y::Y)++[x])=pth f y ((Y++x::X)++[y])
   rw[show (X++y::Y)++[x]=(X++[y])++(Y++[x]) by simp,show (Y++x::X)++[y]=(Y++[x])++(X++[y]) by simp,fQ,fQ f y,cQ,cQ]
   omega
noncomputable def dl (d:Pt->Pt->Int):Pt->Pt->List Pt->Int
 | u,w,[]=>d u w
 | _,w,v::W=>dl d w v W
theorem HC (d:Pt->Pt->Int):∀(A:List Pt) (u w x y:Pt),dl d u w (A++[x,y])=d x y
 | [],_,_,_,_=>rfl
 | a::A,u,w,x,y=>HC d A w a x y
theorem CM {f:H3->H3->Int} {d e:Pt->Pt->Int} (hf:∀l u w v,StC L cs l u w->Cyc cs w v->pth f l (blk L w v)=d u w+e w v):∀(W:List Pt) (l:H3) (u w:Pt),StC L cs l u w->Run (Cyc cs) w W->pth f l (Pl L (w::W))+dl d u w W=d u w+pth (λa b=>d a b+e a b) w W
 | [],l,u,w,hs,_=>by simp[Pl,pth,dl]
 | v::W,l,u,w,hs,hr=>by
  have ih:=CM hf W (cF l (blk L w v)) w v (sX hs hr.1) hr.2
  show pth f l (blk L w v++Pl L (v::W))+dl d w v W=d u w+((d w v+e w v)+pth (λa b=>d a b+e a b) v W)
  rw[fQ,hf l u w v hs hr.1]
  omega
theorem XH {u0 c0:Pt} (cu0:Cyc cs u0 c0) (hc0:cxc L c0<0):∃l0,StC L cs l0 u0 c0/\∀l,StC L cs l u0 c0->l=l0:=by
 have first {l:H3} (hl:StC L cs l u0 c0):=hl.2.resolve_right λh=>h.elim (λk=>absurd k.1 (Int.ne_of_lt hc0)) λk=>Int.lt_asymm k.1 hc0
 by_cases h:cxc L u0<=0
 ·exact⟨up3 u0,⟨cu0,Or.inl ⟨hc0,Or.inl ⟨h,rfl⟩⟩⟩,λl hl=>(first hl).2.elim (·.2) λk=>absurd h (Int.not_le.mpr k.1)⟩
 ·exact⟨bZ L u0 c0,⟨cu0,Or.inl ⟨hc0,Or.inr ⟨Int.not_le.mp h,rfl⟩⟩⟩,λl hl=>(first hl).2.elim (λk=>absurd k.1 h) (·.2)⟩
theorem LL {c0:Pt} (hc0:cxc L c0<0) (Z:List Pt):up3 c0∈Pl L (c0::(Z++[c0])):=by
 cases hz:Z++[c0] with
 | nil=>simp at hz
 | cons y r=>rw[Pl];unfold blk;rw[if_pos (Int.le_of_lt hc0)];exact .head _
theorem lE (c:Cvx cs) (hpos:∃w∈cs,0<cxc L w) (hneg:∃w∈cs,cxc L w<0):∃P',ZN (Pl L (cs++cs.take 1)) P'/\CutOf L cs P'/\∀(f:H3->H3->Int) (d e:Pt->Pt->Int),(∀l u w v,StC L cs l u w->Cyc cs w v->pth f l (blk L w v)=d u w+e w v)->cD f P'=cD (λa b=>d a b+e a b) cs:=by
 obtain⟨c0,hc0m,hc0⟩:=hneg
 have hneg:∃w∈cs,cxc L w<0:=⟨c0,hc0m,hc0⟩
 obtain⟨X,Y,ecs⟩:=List.append_of_mem hc0m
 have c2:Cvx ((c0::Y)++X):=by rw[ecs] at c;exact c.swap
 have toC:∀{a b},Cyc ((c0::Y)++X) a b->Cyc cs a b:=λh=>by rw[ecs];exact oM h
 rw[List.cons_append] at c2 toC
 obtain⟨Z,hZ⟩:∃Z,Z=Y++X:=⟨_,rfl⟩
 rw[<-hZ] at c2 toC
 have runs:Run (Cyc cs) c0 (Z++[c0]):=FS _ _ λa b h=>toC (by show Nxt ((c0::Z)++[c0]) a b;exact h)
 obtain⟨u0,Z2,eZ⟩:∃t Z2,Z=Z2++[t]:=by
  rcases List.eq_nil_or_concat Z with h | ⟨Z2,t,h⟩
  ·have:=c2.len;rw[h] at this;simp at this
  ·exact⟨t,Z2,by simpa using h⟩
 have cu0:Cyc cs u0 c0:=toC ⟨c0::Z2,[],by rw[eZ];simp⟩
 obtain⟨l0,hl0⟩:=XH cu0 hc0
 obtain⟨hst,huniq⟩:=hl0
 obtain⟨r1,r2⟩:=uI (Z++[c0]) l0 u0 c0 hst runs
 obtain⟨t,ht,hst'⟩:=r2 c0 (by simp) (cQ _ _ _)
 rw[<-ht,List.dropLast_concat,eZ,show cF u0 (c0::(Z2++[u0]))=u0 from cQ _ (c0::Z2) _,<-eZ] at hst'
 have el:=huniq _ hst'
 have top:=LL (L:=L) hc0 Z
 have ePz:Pl L (c0::(Z++[c0]))≠[]:=λe=>by rw[e] at top;cases top
 have mem:=LM (L:=L) (c0:=c0) (Z++[c0]) c0 runs
 have nd:=(AF (L:=L) c (Z++[c0]) c0 runs (by
  show (c0::(Z++[c0])).dropLast.Nodup
  rw[<-List.cons_append,List.dropLast_concat];exact c2.nodup)).1
 obtain⟨p,q,hp,hq,hn⟩:=EY hc0 (Z++[c0]) l0 u0 c0 hst runs (by
  obtain⟨w,hw,hwp⟩:=hpos
  refine⟨w,?_,hwp⟩
  rw[ecs] at hw
  rcases List.mem_append.mp hw with h | h
  ·exact .tail _ (List.mem_append_left _ (hZ ▸ List.mem_append_right _ h))
  ·exact (List.mem_cons.mp h).elim (λe=>e ▸ .head _) λh=>.tail _ (List.mem_append_left _ (hZ ▸ List.mem_append_left _ h))) (cQ _ _ _)
 obtain⟨P,hP⟩:∃P,Pl L (c0::(Z++[c0]))=P:=⟨_,rfl⟩
 rw[hP] at r1 el ePz top mem nd hn
 obtain⟨h,P2,eP⟩:∃h P2,P=h::P2:=by
  cases P with
  | nil=>exact absurd rfl ePz
  | cons h P2=>exact⟨h,P2,rfl⟩
 obtain⟨P3,eP3⟩:∃P3,P=P3++[l0]:=by
  rcases List.eq_nil_or_concat P with h | ⟨P3,x,h⟩
  ·exact absurd h ePz
  ·have e:P=P3++[x]:=by simpa using h
   rw[e,cQ] at el
   exact⟨P3,by rw[e,el]⟩
 have hn:=KG eP eP3 hn
 obtain⟨memp,memq⟩:=RK eP hn
 have ne1:q≠p:=fT c hneg hp hq
 have n0:∀z:H3,Exc L z=0->up3 c0≠z:=λz hz e=>by rw[<-e,cS] at hz;omega
 refine⟨P,?_,⟨nd,mem,λa b hab=>ID l0 P r1 a b (NX eP eP3 hab),?_,p,q,hp,hq,hn⟩,λf d e hf=>?_⟩
 ·-- turned about
  rw[<-hP,ecs,hZ]
  cases X with
  | nil=>exact⟨Pl L (c0::(Y++[c0])),[],by simp,by simp⟩
  | cons x X =>
   have e1:(x::X++c0::Y)++(x::X++c0::Y).take 1=(x::X)++c0::(Y++[x]):=by simp
   have e2:c0::(Y++x::X++[c0])=(c0::Y)++x::(X++[c0]):=by simp
   rw[e1,e2,yC L (x::X) c0 (Y++[x]),yC L (c0::Y) x (X++[c0])]
   exact⟨_,_,rfl,by simp⟩
 ·exact mB [up3 c0,p,q] P (List.nodup_cons.mpr ⟨λh=>(List.mem_cons.mp h).elim (n0 p hp.pm.2) λh=>n0 q hq.pm.2 (List.mem_singleton.mp h),List.nodup_cons.mpr ⟨λh=>ne1 (List.mem_singleton.mp h).symm,List.pairwise_singleton _ q⟩⟩) λx hx=>(List.mem_cons.mp hx).elim (λe=>e ▸ top) λhx=>(List.mem_cons.mp hx).elim (λe=>e ▸ memp) λhx=>List.mem_singleton.mp hx ▸ memq
 ·have ps:=CM hf (Z++[c0]) l0 u0 c0 hst runs
  rw[hP,wW f eP3] at ps
  have e1:dl d u0 c0 (Z++[c0])=d u0 c0:=by rw[eZ,List.append_assoc];exact HC d Z2 u0 c0 u0 c0
  rw[e1] at ps
  have e2:pth (λa b=>d a b+e a b) c0 (Z++[c0])=cD (λa b=>d a b+e a b) cs:=by
   show cD (λa b=>d a b+e a b) (c0::Z)=_
   rw[hZ,ecs,AW _ X (c0::Y)];rfl
  omega
end
end L2.R2
set_option Elab.async false
set_option linter.all false
set_option maxRecDepth 100000
namespace L2.R2
open PySem PySem.Spec PyProof.Rows L2
inductive D where
 | non | bl (b:Bool) | int (i:Int) | str (x:Str) | tup (xs:List D) | lst (xs:List D)
noncomputable def FzL (K:PySem.W.Frag) (H:Hp) (a:Addr) (vs:List V):Prop :=
 (∃o,H a=some (.frz o (.lst vs))) \/
  ∃(o:Obj) (its:Array Value) (n:Nat),K.lookup a=some o/\o.cls = .type "list"/\o.dict=none/\o.data = .seq its n/\its.size<=sizeLine/\Vals vs its.toList
theorem FzL.sq {K:PySem.W.Frag} {H:Hp} {a:Addr} {vs:List V}:FzL K H a vs->SqL K H a vs
 | .inl ⟨o,h⟩=>.inl (.inr ⟨o,h⟩)
 | .inr h=>.inr h
structure Keep (H H':Hp):Prop where
 tups:∀b xs,H b=some (.tup xs)->H' b=some (.tup xs)
 frzs:∀b o u,H b=some (.frz o u)->H' b=some (.frz o u)
theorem Keep.refl (H:Hp):Keep H H:=⟨λ_ _ h=>h,λ_ _ _ h=>h⟩
theorem Keep.trans {H H1 H2:Hp} (a:Keep H H1) (b:Keep H1 H2):Keep H H2 :=
 ⟨λc xs h=>b.tups c xs (a.tups c xs h),λc o u h=>b.frzs c o u (a.frzs c o u h)⟩
theorem Keep.of {H H':Hp} (s:Same H H'):Keep H H':=⟨λb xs h=>s b _ h,λb o u h=>s b _ h⟩
mutual
inductive Rep (K:PySem.W.Frag) (H:Hp):D->V->Prop
 | non:Rep K H .non .non
 | bl (b:Bool):Rep K H (.bl b) (.bl b)
 | int (i:Int):Rep K H (.int i) (.int i)
 | str (x:Str):Rep K H (.str x) (.str x)
 | tup {a:Addr} {vs:List V} {ds:List D} (h:H a=some (.tup vs)) (r:Reps K H ds vs):Rep K H (.tup ds) (.ref a)
 | lst {a:Addr} {vs:List V} {ds:List D} (h:FzL K H a vs) (r:Reps K H ds vs):Rep K H (.lst ds) (.ref a)
inductive Reps (K:PySem.W.Frag) (H:Hp):List D->List V->Prop
 | nil:Reps K H [] []
 | cons {d:D} {v:V} {ds:List D} {vs:List V} (h:Rep K H d v) (t:Reps K H ds vs):Reps K H (d::ds) (v::vs)
end
section
variable {K:PySem.W.Frag} {H H':Hp}
theorem FzL.keep {a:Addr} {vs:List V} (k:Keep H H') (h:FzL K H a vs):FzL K H' a vs:=by
 rcases h with ⟨o,h⟩ | h
 ·exact .inl ⟨o,k.frzs _ _ _ h⟩
 ·exact .inr h
mutual
theorem Rep.keep (k:Keep H H'):∀{d:D} {v:V},Rep K H d v->Rep K H' d v
 | _,_,.non=>.non
 | _,_,.bl b=>.bl b
 | _,_,.int i=>.int i
 | _,_,.str x=>.str x
 | _,_,.tup h r=>.tup (k.tups _ _ h) (Reps.keep k r)
 | _,_,.lst h r=>.lst (FzL.keep k h) (Reps.keep k r)
theorem Reps.keep (k:Keep H H'):∀{ds:List D} {vs:List V},Reps K H ds vs->Reps K H' ds vs
 | _,_,.nil=>.nil
 | _,_,.cons h t=>.cons (Rep.keep k h) (Reps.keep k t)
end
theorem Reps.length:∀{ds:List D} {vs:List V},Reps K H ds vs->ds.length=vs.length
 | _,_,.nil=>rfl
 | _,_,.cons _ t=>by simp[Reps.length t]
theorem Reps.get:∀{ds:List D} {vs:List V} {i:Nat} {d:D},Reps K H ds vs->ds[i]? = some d->∃v,vs[i]? = some v/\Rep K H d v
 | _,_,_,_,.nil,e=>by simp at e
 | _,_,0,_,.cons h _,e=>by simp at e;subst e;exact⟨_,rfl,h⟩
 | _,_,i+1,d,.cons _ t,e=>by
  obtain⟨v,h1,h2⟩:=Reps.get (i:=i) (d:=d) t (by simpa using e)
  exact⟨v,by simpa using h1,h2⟩
theorem Reps.append:∀{ds es:List D} {vs us:List V},Reps K H ds vs->Reps K H es us->Reps K H (ds++es) (vs++us)
 | _,_,_,_,.nil,s=>s
 | _,_,_,_,.cons h t,s=>.cons h (Reps.append t s)
theorem Reps.take:∀{ds:List D} {vs:List V} (n:Nat),Reps K H ds vs->Reps K H (ds.take n) (vs.take n)
 | _,_,0,_=>.nil
 | _,_,_+1,.nil=>.nil
 | _,_,n+1,.cons r t=>.cons r (Reps.take n t)
theorem Reps.drop:∀{ds:List D} {vs:List V} (n:Nat),Reps K H ds vs->Reps K H (ds.drop n) (vs.drop n)
 | _,_,0,r=>r
 | _,_,_+1,.nil=>.nil
 | _,_,n+1,.cons _ t=>Reps.drop n t
theorem Reps.set {d:D} {v:V} (r:Rep K H d v):∀{ds:List D} {vs:List V} (i:Nat),Reps K H ds vs->Reps K H (ds.set i d) (vs.set i v)
 | _,_,_,.nil=>.nil
 | _,_,0,.cons _ t=>.cons r t
 | _,_,i+1,.cons q t=>.cons q (Reps.set r i t)
theorem Reps.dropLast:∀{ds:List D} {vs:List V},Reps K H ds vs->Reps K H ds.dropLast vs.dropLast
 | _,_,.nil=>.nil
 | _,_,.cons _ .nil=>.nil
 | _,_,.cons r (.cons r2 t)=>by
  simp only[List.dropLast]
  exact .cons r (Reps.dropLast (.cons r2 t))
theorem Reps.reverse:∀{ds:List D} {vs:List V},Reps K H ds vs->Reps K H ds.reverse vs.reverse
 | _,_,.nil=>.nil
 | _,_,.cons r t=>by
  simp only[List.reverse_cons]
  exact (Reps.reverse t).append (.cons r .nil)
theorem Rep.int_inv {i:Int} {v:V} (h:Rep K H (.int i) v):v = .int i:=by cases h;rfl
theorem Rep.bl_inv {b:Bool} {v:V} (h:Rep K H (.bl b) v):v = .bl b:=by cases h;rfl
theorem Reps.ints:∀{ns:List Int},Reps K H (ns.map D.int) (ns.map V.int)
 | []=>.nil
 | _::_=>.cons (.int _) Reps.ints
theorem Reps.ints_inv:∀{ns:List Int} {vs:List V},Reps K H (ns.map D.int) vs->vs=ns.map V.int
 | [],_,h=>by cases h;rfl
 | n::ns,_,h=>by
  cases h with
  | cons h t=>rw[h.int_inv,Reps.ints_inv t];rfl
end
noncomputable def RepB (K:PySem.W.Frag) (H:Hp) (d:D) (v:V):Prop :=
 Rep K H d v\/∃ds a vs,d = .lst ds/\v = .ref a/\H a=some (.lst vs)/\Reps K H ds vs
theorem RepB.same {K:PySem.W.Frag} {H H':Hp} {d:D} {v:V} (s:Same H H') (h:RepB K H d v):RepB K H' d v:=by
 rcases h with h | ⟨ds,a,vs,e1,e2,e3,r⟩
 ·exact .inl (h.keep (.of s))
 ·exact .inr ⟨ds,a,vs,e1,e2,s _ _ e3,r.keep (.of s)⟩
theorem RepB.lst {K:PySem.W.Frag} {H:Hp} {ds:List D} {v:V} (h:RepB K H (.lst ds) v):∃a vs,v = .ref a/\SqL K H a vs/\Reps K H ds vs:=by
 rcases h with h | ⟨ds',a,vs,e1,e2,e3,r⟩
 ·cases h with
  | lst h r=>exact⟨_,_,rfl,h.sq,r⟩
 ·cases e1;exact⟨a,vs,e2,SqL.of e3,r⟩
theorem RepB.tup {K:PySem.W.Frag} {H:Hp} {ds:List D} {v:V} (h:RepB K H (.tup ds) v):∃a vs,v = .ref a/\H a=some (.tup vs)/\Reps K H ds vs:=by
 rcases h with h | ⟨ds',a,vs,e1,e2,e3,r⟩
 ·cases h with
  | tup h r=>exact⟨_,_,rfl,h,r⟩
 ·cases e1
inductive S where
 | d (x:D) | own (xs:List D)
noncomputable def S.val:S->D
 | .d x=>x
 | .own xs=>.lst xs
noncomputable abbrev En:=List (Option S)
noncomputable def RelS (K:PySem.W.Frag) (H₀ H:Hp):S->V->Prop
 | .d x,v=>Rep K H x v
 | .own xs,v=>∃a vs,v = .ref a/\H a=some (.lst vs)/\H₀ a=none/\Reps K H xs vs
structure StOk (X:Cx) (ρ:En) (σ:St) (H:Hp):Prop where
 len:ρ.length=σ.length
 same:Same X.H₀ H
 rel:∀(i:Nat) (x:S),ρ[i]? = some (some x)->∃v,σ[i]? = some (some v)/\RelS X.K X.H₀ H x v
 sep:∀(i j:Nat) (xs ys:List D) (a:Addr),ρ[i]? = some (some (.own xs))->ρ[j]? = some (some (.own ys))->σ[i]? = some (some (.ref a))->σ[j]? = some (some (.ref a))->i=j
section
variable {X:Cx} {ρ:En} {σ:St} {H H':Hp}
theorem RelS.same {K:PySem.W.Frag} {H₀ H H':Hp} {x:S} {v:V} (s:Same H H') (h:RelS K H₀ H x v):RelS K H₀ H' x v:=by
 cases x with
 | d x=>exact Rep.keep (.of s) h
 | own xs =>
  obtain⟨a,vs,e1,e2,e3,r⟩:=h
  exact⟨a,vs,e1,s _ _ e2,e3,r.keep (.of s)⟩
theorem StOk.ext (st:StOk X ρ σ H) (s:Same H H'):StOk X ρ σ H' :=
 ⟨st.len,st.same.trans s,λi x e=>let ⟨v,h1,h2⟩:=st.rel i x e;⟨v,h1,h2.same s⟩,st.sep⟩
theorem StOk.set_d (st:StOk X ρ σ H) {i:Nat} {d:D} {v:V} (r:Rep X.K H d v):StOk X (ρ.set i (some (.d d))) (σ.set i (some v)) H:=by
 refine⟨by simp[st.len],st.same,λj x e=>?_,λj k xs ys a e1 e2 e3 e4=>?_⟩
 ·by_cases hj:i=j
  ·subst hj
   have hi:i<ρ.length:=by
    by_cases h:i<ρ.length
    ·exact h
    ·rw[List.set_eq_of_length_le (by omega)] at e
     rw[List.getElem?_eq_none (by omega)] at e;cases e
   rw[List.getElem?_set_self hi] at e
   cases e
   exact⟨v,by rw[List.getElem?_set_self (by rw[<-st.len];exact hi)],r⟩
  ·rw[List.getElem?_set_ne hj] at e ⊢
   exact st.rel j x e
 ·have ne:∀{j:Nat} {zs:List D},(ρ.set i (some (.d d)))[j]? = some (some (.own zs))->i≠j:=λ{j zs} e q=>by
   subst q
   by_cases h:i<ρ.length
   ·rw[List.getElem?_set_self h] at e;cases e
   ·rw[List.set_eq_of_length_le (by omega),List.getElem?_eq_none (by omega)] at e;cases e
  have n1:=ne e1
  have n2:=ne e2
  rw[List.getElem?_set_ne n1] at e1 e3
  rw[List.getElem?_set_ne n2] at e2 e4
  exact st.sep j k xs ys a e1 e2 e3 e4
theorem StOk.set_own (st:StOk X ρ σ H) {i:Nat} {ds:List D} {p:Addr} {vs:List V} (hp:H p=none) (r:Reps X.K H ds vs) :
  StOk X (ρ.set i (some (.own ds))) (σ.set i (some (.ref p))) (upd H p (.lst vs)):=by
 have sm:Same H (upd H p (.lst vs)):=λb o h=>by rw[aR (aS h hp)];exact h
 have st':=st.ext sm
 have oldne:∀{j:Nat} {zs:List D},i≠j->ρ[j]? = some (some (.own zs))->σ[j]?≠some (some (.ref p)):=λ{j zs} hj e z=>by
  obtain⟨v,h1,a,vs',e1,e2,_⟩:=st.rel j _ e
  rw[h1] at z;cases z;cases e1
  rw[hp] at e2;cases e2
 refine⟨by simp[st.len],st'.same,λj x e=>?_,λj k xs ys a e1 e2 e3 e4=>?_⟩
 ·by_cases hj:i=j
  ·subst hj
   have hi:i<ρ.length:=by
    by_cases h:i<ρ.length
    ·exact h
    ·rw[List.set_eq_of_length_le (by omega),List.getElem?_eq_none (by omega)] at e;cases e
   rw[List.getElem?_set_self hi] at e
   cases e
   exact⟨.ref p,by rw[List.getElem?_set_self (by rw[<-st.len];exact hi)],p,vs,rfl,bV,st.same.free hp,r.keep (.of sm)⟩
  ·rw[List.getElem?_set_ne hj] at e ⊢
   exact st'.rel j x e
 ·by_cases hj:i=j
  ·by_cases hk:i=k
   ·exact hj.symm.trans hk
   ·exfalso
    subst hj
    rw[List.getElem?_set_ne hk] at e2 e4
    have hi:i<σ.length:=by
     by_cases h:i<σ.length
     ·exact h
     ·rw[List.set_eq_of_length_le (by omega),List.getElem?_eq_none (by omega)] at e3;cases e3
    rw[List.getElem?_set_self hi] at e3
    cases e3
    exact oldne hk e2 e4
  ·by_cases hk:i=k
   ·exfalso
    subst hk
    rw[List.getElem?_set_ne hj] at e1 e3
    have hi:i<σ.length:=by
     by_cases h:i<σ.length
     ·exact h
     ·rw[List.set_eq_of_length_le (by omega),List.getElem?_eq_none (by omega)] at e4;cases e4
    rw[List.getElem?_set_self hi] at e4
    cases e4
    exact oldne hj e1 e3
   ·rw[List.getElem?_set_ne hj] at e1 e3
    rw[List.getElem?_set_ne hk] at e2 e4
    exact st.sep j k xs ys a e1 e2 e3 e4
theorem StOk.upd_own (st:StOk X ρ σ H) {i:Nat} {xs ds:List D} {p:Addr} {us vs:List V} (e:ρ[i]? = some (some (.own xs))) (es:σ[i]? = some (some (.ref p))) (hp:H p=some (.lst us)) (h0:X.H₀ p=none)
  (r:Reps X.K H ds vs):StOk X (ρ.set i (some (.own ds))) σ (upd H p (.lst vs))/\Keep H (upd H p (.lst vs)):=by
 have kp:Keep H (upd H p (.lst vs)):=⟨λb ys h=>by
   rw[aR (HQ h hp (by intro z;cases z))];exact h,λb o u h=>by rw[aR (HQ h hp (by intro z;cases z))];exact h⟩
 have hi:i<ρ.length:=(List.getElem?_eq_some_iff.mp e).1
 refine⟨⟨by simp[st.len],λb o h=>?_,λj x ej=>?_,λj k xs' ys a e1 e2 e3 e4=>?_⟩,kp⟩
 ·rw[aR (by rintro rfl;rw[h0] at h;cases h)]
  exact st.same b o h
 ·by_cases hj:i=j
  ·subst hj
   rw[List.getElem?_set_self hi] at ej
   cases ej
   exact⟨.ref p,es,p,vs,rfl,bV,h0,r.keep kp⟩
  ·rw[List.getElem?_set_ne hj] at ej
   obtain⟨v,h1,h2⟩:=st.rel j x ej
   refine⟨v,h1,?_⟩
   cases x with
   | d x=>exact Rep.keep kp h2
   | own zs =>
    obtain⟨a,vs',e1,e2,e3,r'⟩:=h2
    refine⟨a,vs',e1,?_,e3,r'.keep kp⟩
    rw[aR]
    ·exact e2
    ·rintro rfl
     subst e1
     exact hj (st.sep i j _ _ _ e ej es h1)
 ·have back:∀{j:Nat} {zs:List D},(ρ.set i (some (.own ds)))[j]? = some (some (.own zs))->∃zs',ρ[j]? = some (some (.own zs')):=λ{j zs} q=>by
   by_cases hj:i=j
   ·subst hj;exact⟨_,e⟩
   ·rw[List.getElem?_set_ne hj] at q;exact⟨_,q⟩
  obtain⟨_,q1⟩:=back e1
  obtain⟨_,q2⟩:=back e2
  exact st.sep j k _ _ a q1 q2 e3 e4
end
section
variable {X:Cx} {pins:List (Addr × Obj)} {σ:St} {H:Hp} {s:Shared}
theorem Inv.freeze {a:Addr} {xs:List V} (I:Inv X pins σ H s) (h:H a=some (.lst xs)):∃o,Inv X pins σ (upd H a (.frz o (.lst xs))) s:=by
 have ok:=I.hok a _ h
 obtain⟨z,its,n,r,e⟩:=id ok
 refine⟨{ cls:=.type "list",data:=.seq its.toArray n },?_⟩
 have ntup:∀b u,H b=some u->u≠.lst xs->b≠a:=λb u q d z=>by subst z;rw[h] at q;cases q;exact d rfl
 refine I.un (t':=s.toks) (h':=s.heap) ⟨λb o q _ _ _=>q,λb o q _ _ _=>⟨o.slots,q⟩,λb o q n _=>?_,λb o q _=>⟨o,q⟩,λb ys q=>?_,λb o u q=>?_,λb ps q=>⟨#[],?_⟩⟩ λb u q=>?_
 ·rw[aR (λz=>by subst z;rw[h] at n;cases n)];exact n
 ·rw[aR (ntup b _ q (by intro z;cases z))];exact q
 ·rw[aR (ntup b _ q (by intro z;cases z))];exact q
 ·rw[aR (ntup b _ q (by intro z;cases z)),q];simp
 ·by_cases hb:b=a
  ·subst hb
   rw[bV] at q;cases q
   exact⟨e,z,its,n,r,e⟩
  ·rw[aR hb] at q
   exact (I.hok b u q).stay (λc v _ w=>w) (λc w=>by rw[aR (ntup c _ w (by intro z;cases z))];exact w) λc ys w=>by rw[aR (ntup c _ w (by intro z;cases z))];exact w
theorem Same.upd_new {a:Addr} {o:HO} {H H1:Hp} (s:Same H H1) (n:H a=none):Same H (upd H1 a o):=λb u h=>by
 rw[aR (aS h n)];exact s b u h
end
structure Sz (n:Nat):Prop where
 ok:n<=sizeLine
noncomputable abbrev RE:=En->(D->Prop)->Prop
noncomputable abbrev RT:=En->(Bool->Prop)->Prop
noncomputable abbrev RA:=En->(List D->Prop)->Prop
structure DEnds where
 nx:En->Prop
 rt:D->Prop
 bk:En->Prop:=λ_=>False
 ct:En->Prop:=λ_=>False
noncomputable abbrev RS:=DEnds->En->Prop
noncomputable abbrev RG:=D->En->(En->Prop)->Prop
noncomputable def UC (X:Cx) (t:RE):TE:=λσ H Q=>∃ρ P,StOk X ρ σ H/\t ρ P/\∀d v H',P d->Same H H'->Rep X.K H' d v->Q v H'
noncomputable def NS (X:Cx) (t:RE):TE:=λσ H Q=>∃ρ P,StOk X ρ σ H/\t ρ P/\∀d v H',P d->Same H H'->RepB X.K H' d v->Q v H'
noncomputable def YD (X:Cx) (t:RA):TE:=λσ H Q=>∃ρ P,StOk X ρ σ H/\t ρ P/\∀ds p vs H1,P ds->Same H H1->H1 p=none->Reps X.K H1 ds vs->Q (.ref p) (upd H1 p (.lst vs))
noncomputable def UF (X:Cx) (t:RT):TT:=λσ H Q=>∃ρ P,StOk X ρ σ H/\t ρ P/\∀b H',P b->Same H H'->Q b H'
noncomputable def YA (X:Cx) (t:RA):TA:=λσ H Q=>∃ρ P,StOk X ρ σ H/\t ρ P/\∀ds vs H',P ds->Same H H'->Reps X.K H' ds vs->Q vs H'
noncomputable def UE (X:Cx) (t:RS):TS:=λDe σ H=>∃ρ E,StOk X ρ σ H/\t E ρ/\(∀ρ' σ' H',E.nx ρ'->Keep H H'->StOk X ρ' σ' H'->De.nx σ' H')/\(∀d v H',E.rt d->Keep H H'->Same X.H₀ H'->Rep X.K H' d v->De.rt v H') /\
 (∀ρ' σ' H',E.bk ρ'->Keep H H'->StOk X ρ' σ' H'->De.bk σ' H')/\∀ρ' σ' H',E.ct ρ'->Keep H H'->StOk X ρ' σ' H'->De.ct σ' H'
noncomputable def YB (X:Cx) (g:RG):TG:=λv σ H Q=>∃d ρ P,Rep X.K H d v/\StOk X ρ σ H/\g d ρ P/\∀ρ' σ' H',P ρ'->Keep H H'->StOk X ρ' σ' H'->Q σ' H'
theorem cB {α β:Type} {A B C:α->β->Prop} {R:Prop} (h:∃ρ P,A ρ P/\B ρ P/\C ρ P) (k:∀ρ P,A ρ P->B ρ P->C ρ P->R):R:=let ⟨ρ,P,a,b,c⟩:=h;k ρ P a b c
theorem zA {α β γ:Type} {A B C E:γ->α->β->Prop} {R:Prop} (h:∃d ρ P,A d ρ P/\B d ρ P/\C d ρ P/\E d ρ P) (k:∀d ρ P,A d ρ P->B d ρ P->C d ρ P->E d ρ P->R):R:=let ⟨d,ρ,P,a,b,c,e⟩:=h;k d ρ P a b c e
theorem fM {α β:Type} {A B C E F G:α->β->Prop} {R:Prop} (h:∃ρ P,A ρ P/\B ρ P/\C ρ P/\E ρ P/\F ρ P/\G ρ P) (k:∀ρ P,A ρ P->B ρ P->C ρ P->E ρ P->F ρ P->G ρ P->R):R:=let ⟨ρ,P,a,b,c,e,f,g⟩:=h;k ρ P a b c e f g
noncomputable def DE (X:Cx) (e:Expr) (t:RE):Prop:=PE X e (UC X t)
noncomputable def DB (X:Cx) (e:Expr) (t:RE):Prop:=PE X e (NS X t)
noncomputable def DO (X:Cx) (e:Expr) (t:RA):Prop:=PE X e (YD X t)
noncomputable def DT (X:Cx) (e:Expr) (t:RT):Prop:=PT X e (UF X t)
noncomputable def DW (X:Cx) (e:Expr) (t:RT):Prop:=PW X e (UF X t)
noncomputable def DA (X:Cx) (es:List Expr) (t:RA):Prop:=PA X es (YA X t)
noncomputable def DS (X:Cx) (st:Stmt) (t:RS):Prop:=PS X st (UE X t)
noncomputable def DSs (X:Cx) (sts:List Stmt) (t:RS):Prop:=PSs X sts (UE X t)
noncomputable def DG (X:Cx) (tg:Expr) (g:RG):Prop:=PG X tg (YB X g)
theorem PE.mono {X:Cx} {e:Expr} {t t':TE} (h:PE X e t) (m:∀σ H Q,t' σ H Q->t σ H Q):PE X e t':=λpins s σ H Q I q=>h pins s σ H Q I (m σ H Q q)
theorem PT.mono {X:Cx} {e:Expr} {t t':TT} (h:PT X e t) (m:∀σ H Q,t' σ H Q->t σ H Q):PT X e t':=λpins s σ H Q I q=>h pins s σ H Q I (m σ H Q q)
theorem PW.mono {X:Cx} {e:Expr} {t t':TT} (h:PW X e t) (m:∀σ H Q,t' σ H Q->t σ H Q):PW X e t':=λwh pins s σ H Q I q=>h wh pins s σ H Q I (m σ H Q q)
theorem PA.mono {X:Cx} {e:List Expr} {t t':TA} (h:PA X e t) (m:∀σ H Q,t' σ H Q->t σ H Q):PA X e t':=λpos pins s σ H Q I q=>h pos pins s σ H Q I (m σ H Q q)
theorem PS.mono {X:Cx} {e:Stmt} {t t':TS} (h:PS X e t) (m:∀D σ H,t' D σ H->t D σ H):PS X e t':=λpins s σ H D I q=>h pins s σ H D I (m D σ H q)
theorem PSs.mono {X:Cx} {e:List Stmt} {t t':TS} (h:PSs X e t) (m:∀D σ H,t' D σ H->t D σ H):PSs X e t':=λpins s σ H D I q=>h pins s σ H D I (m D σ H q)
theorem PG.mono {X:Cx} {e:Expr} {t t':TG} (h:PG X e t) (m:∀v σ H Q,t' v σ H Q->t v σ H Q):PG X e t':=λpins s σ H v u Q I r q=>h pins s σ H v u Q I r (m v σ H Q q)
section
variable {X:Cx} {e a b c:Expr} {pos:Pos}
theorem DE.bor {t:RE} (h:DE X e t):DB X e t:=PE.mono h λσ H Q hh=>cB hh λρ P st q k=>⟨ρ,P,st,q,λd v H' p s r=>k d v H' p s (.inl r)⟩
theorem DO.val {t:RA} (h:DO X e t):DE X e (λρ Q=>t ρ λds=>Q (.lst ds)):=by
 intro pins s σ H Q I hh_0
 obtain⟨ρ,P,st,q,k⟩:=hh_0
 refine thn (h pins s σ H (λv H'=>∃ds p vs H1,v = .ref p/\H'=upd H1 p (.lst vs)/\P (.lst ds)/\Same H H1/\H1 p=none/\Reps X.K H1 ds vs) I ⟨ρ,_,st,q,λds p vs H1 hp s1 hn r=>⟨ds,p,vs,H1,rfl,rfl,hp,s1,hn,r⟩⟩) λu s1 ⟨v,H',I',rv,ds,p,vs,H1,ev,eH,hp,sm,hn,r⟩=>?_
 subst ev eH
 obtain⟨o,I2⟩:=Inv.freeze I' (a:=p) (xs:=vs) bV
 have sm2:Same H1 (upd (upd H1 p (.lst vs)) p (.frz o (.lst vs))):=λb u e=>by rw[aR (aS e hn),aR (aS e hn)];exact e
 exact⟨.ref p,_,I2,rv,k (.lst ds) (.ref p) _ hp (sm.trans sm2) (.lst (.inl ⟨o,bV⟩) (r.keep (.of sm2)))⟩
theorem DO.bor {t:RA} (h:DO X e t):DB X e (λρ Q=>t ρ λds=>Q (.lst ds)):=h.val.bor
noncomputable def aU (i:Nat):RE:=λρ Q=>match ρ[i]? with
 | some (some (.d d))=>Q d
 | _=>False
noncomputable def aB (i:Nat):RE:=λρ Q=>match ρ[i]? with
 | some (some x)=>Q x.val
 | _=>False
theorem dv (i:Nat) {x:Str} (hN:X.N[i]? = some x:=by rfl) (hv:Vis X.env.scope x:=by walk_at "vis") (hd:(x == ("__debug__":Str))=false:=by decide)
  (hcd:(x == ("__classdict__":Str))=false:=by decide):DE X (.Name x pos) (aU i):=by
 refine PE.mono (pv i hN hv hd hcd) λσ H Q hh=>cB hh λρ P st q k=>?_
 unfold aU at q
 split at q
 ·rename_i d e
  obtain⟨v,h1,h2⟩:=st.rel i _ e
  exact⟨v,h1,k d v H q (Same.refl H) h2⟩
 ·exact q.elim
theorem dvb (i:Nat) {x:Str} (hN:X.N[i]? = some x:=by rfl) (hv:Vis X.env.scope x:=by walk_at "vis") (hd:(x == ("__debug__":Str))=false:=by decide)
  (hcd:(x == ("__classdict__":Str))=false:=by decide):DB X (.Name x pos) (aB i):=by
 refine PE.mono (pv i hN hv hd hcd) λσ H Q hh=>cB hh λρ P st q k=>?_
 unfold aB at q
 split at q
 ·rename_i d e
  obtain⟨v,h1,h2⟩:=st.rel i _ e
  refine⟨v,h1,k _ v H q (Same.refl H) ?_⟩
  cases d with
  | d x=>exact .inl h2
  | own xs =>
   obtain⟨a,vs,e1,e2,_,r⟩:=h2
   exact .inr ⟨xs,a,vs,rfl,e1,e2,r⟩
 ·exact q.elim
noncomputable def rC (d:D):RE:=λ_ Q=>Q d
theorem aA {i:Int} {j:Nat}:DE X (.Constant (.int i) j pos) (rC (.int i)):=PE.mono WF λσ H Q hh=>cB hh λρ P st q k=>k _ _ H q (Same.refl H) (.int i)
theorem gI {i:Bool} {j:Nat}:DE X (.Constant (.bool i) j pos) (rC (.bl i)):=PE.mono YI λσ H Q hh=>cB hh λρ P st q k=>k _ _ H q (Same.refl H) (.bl i)
theorem jY {j:Nat}:DE X (.Constant .none j pos) (rC .non):=PE.mono WH λσ H Q hh=>cB hh λρ P st q k=>k _ _ H q (Same.refl H) .non
noncomputable abbrev R22:=D->D->(D->Prop)->Prop
noncomputable def UD (X:Cx) (r:R22):R2:=λx y H Q=>∃d e P,RepB X.K H d x/\RepB X.K H e y/\r d e P/\∀z v H',P z->Same H H'->Rep X.K H' z v->Q v H'
noncomputable def OpD (X:Cx) (f:Value->Value->Sem Value) (r:R22):Prop:=OpR X f (UD X r)
noncomputable def r2 (r:R22) (ta tb:RE):RE:=λρ Q=>ta ρ λx=>tb ρ λy=>r x y Q
variable {ta tb tc:RE}
theorem NR {r:R22} {σ:St} {H:Hp} {Q:VK} (h:UC X (r2 r ta tb) σ H Q):tOp (UD X r) (NS X ta) (NS X tb) σ H Q:=by
 obtain⟨ρ,P,st,ht,hP⟩:=h
 exact⟨ρ,_,st,ht,λx v H1 h1 s1 r1=>⟨ρ,_,st.ext s1,h1,λy u H2 h2 s2 r2=>⟨x,y,P,r1.same s2,r2,h2,λz w H' hz s3 r3=>hP z w H' hz ((s1.trans s2).trans s3) r3⟩⟩⟩
theorem aG {op:Operator} {r:R22} (ho:OpD X (binaryOp op) r) (ha:DB X a ta) (hb:DB X b tb):DE X (.BinOp a op b pos) (r2 r ta tb):=PE.mono (YK ho ha hb) λσ H Q h=>NR h
theorem eJ {op:CmpOp} {r:R22} (ho:OpD X (compareOp op) r) (ha:DB X a ta) (hb:DB X b tb) (hm:behindInMarks op b=false:=by exact NV _):DE X (.Compare a [op] [b] pos) (r2 r ta tb):=PE.mono (RZ ho ha hb hm) λσ H Q h=>NR h
noncomputable def bD (t:RE):RT:=λρ Q=>t ρ λd=>match d with
 | .bl k=>Q k
 | _=>False
theorem bO {op:CmpOp} {r:R22} (ho:OpD X (compareOp op) r) (ha:DB X a ta) (hb:DB X b tb) (hm:behindInMarks op b=false:=by exact NV _):DT X (.Compare a [op] [b] pos) (bD (r2 r ta tb)):=by
 refine PT.mono (SI ho ha hb hm) λσ H Q hh=>cB hh λρ P st q k=>?_
 refine NR (Q:=λx H'=>∃k,x = .bl k/\Q k H') ⟨ρ,_,st,q,λd v H' hd s r=>?_⟩
 cases d with
 | bl b=>exact⟨b,r.bl_inv,k b H' hd s⟩
 | _=>exact hd.elim
theorem fL (h:DE X e ta) (he:∀whole,isTrue e X.env whole=(do let v <-whole;standAt e.pos;holding [v] (truthy v)):=by intro _;rfl):DT X e (bD ta):=by
 refine PT.mono (WT h he) λσ H Q hh=>cB hh λρ P st q k=>?_
 refine⟨ρ,_,st,q,λd v H' hd s r=>?_⟩
 cases d with
 | bl b=>exact⟨b,r.bl_inv,k b H' hd s⟩
 | _=>exact hd.elim
noncomputable def CU (t u:RT):RT:=λρ Q=>t ρ λc=>if c=true then u ρ Q else Q false
noncomputable def rOr (t u:RT):RT:=λρ Q=>t ρ λc=>if c=true then Q true else u ρ Q
noncomputable def nW (t:RT):RT:=λρ Q=>t ρ λc=>Q (!c)
variable {tA tB:RT} {rest:List Expr}
theorem yW (ha:DT X a tA):DW X (.BoolOp .And [a] pos) tA:=SK ha
theorem kA (ha:DT X a tA):DW X (.BoolOp .Or [a] pos) tA:=WW ha
theorem EM (ha:DT X a tA) (hb:DW X (.BoolOp .And (b::rest) pos) tB):DW X (.BoolOp .And (a::b::rest) pos) (CU tA tB) :=
 PW.mono (WV ha hb) λσ H Q hh=>cB hh λρ P st q k=>⟨ρ,_,st,q,λc H1 hc s1=>by
  cases c with
  | true=>rw[if_pos rfl] at hc ⊢;exact⟨ρ,P,st.ext s1,hc,λd H2 hd s2=>k d H2 hd (s1.trans s2)⟩
  | false=>rw[if_neg Bool.false_ne_true] at hc ⊢;exact k false H1 hc s1⟩
theorem kO (ha:DT X a tA) (hb:DW X (.BoolOp .Or (b::rest) pos) tB):DW X (.BoolOp .Or (a::b::rest) pos) (rOr tA tB) :=
 PW.mono (YN ha hb) λσ H Q hh=>cB hh λρ P st q k=>⟨ρ,_,st,q,λc H1 hc s1=>by
  cases c with
  | false=>rw[if_neg Bool.false_ne_true] at hc ⊢;exact⟨ρ,P,st.ext s1,hc,λd H2 hd s2=>k d H2 hd (s1.trans s2)⟩
  | true=>rw[if_pos rfl] at hc ⊢;exact k true H1 hc s1⟩
theorem DW.tst (h:DW X e tA):DT X e tA:=PW.pt h
theorem fK (ha:DT X a tA):DT X (.UnaryOp .Not a pos) (nW tA):=PT.mono (WS ha) λσ H Q hh=>cB hh λρ P st q k=>⟨ρ,_,st,q,λc H1 hc s1=>k _ H1 hc s1⟩
noncomputable def qZ (ta tb:RE):RE:=λρ Q=>ta ρ λd=>match d with
 | .bl k=>if k=true then tb ρ Q else Q (.bl false)
 | _=>False
noncomputable def ZY (ta tb:RE):RE:=λρ Q=>ta ρ λd=>match d with
 | .bl k=>if k=true then Q (.bl true) else tb ρ Q
 | _=>False
noncomputable def OQ (ta:RE):RE:=λρ Q=>ta ρ λd=>match d with
 | .bl k=>Q (.bl (!k))
 | _=>False
theorem tI {op} (h:DE X a ta):DE X (.BoolOp op [a] pos) ta:=WJ h
theorem pU (ha:DE X a ta) (hb:DE X (.BoolOp .And (b::rest) pos) tb):DE X (.BoolOp .And (a::b::rest) pos) (qZ ta tb) :=
 PE.mono (WD ha hb) λσ H Q hh=>cB hh λρ P st q k=>⟨ρ,_,st,q,λd v H1 hd s1 r=>by
  cases d with
  | bl c =>
   refine⟨c,r.bl_inv,?_⟩
   cases c with
   | true=>exact⟨ρ,P,st.ext s1,hd,λd v H2 hd s2=>k d v H2 hd (s1.trans s2)⟩
   | false=>exact k (.bl false) (.bl false) H1 hd s1 (.bl false)
  | _=>exact hd.elim⟩
theorem UX (ha:DE X a ta):DE X (.UnaryOp .Not a pos) (OQ ta) :=
 PE.mono (WI ha) λσ H Q hh=>cB hh λρ P st q k=>⟨ρ,_,st,q,λd v H1 hd s1 r=>by
  cases d with
  | bl c=>exact⟨c,r.bl_inv,k (.bl !c) (.bl !c) H1 hd s1 (.bl _)⟩
  | _=>exact hd.elim⟩
noncomputable def rIf (t:RT) (ta tb:RE):RE:=λρ Q=>t ρ λc=>if c=true then ta ρ Q else tb ρ Q
noncomputable def YF (X:Cx) (r:D->(D->Prop)->Prop):V->Hp->VK->Prop:=λx H Q=>∃d P,RepB X.K H d x/\r d P/\∀z v H',P z->Same H H'->Rep X.K H' z v->Q v H'
noncomputable def UnD (X:Cx) (f:Value->Sem Value) (r:D->(D->Prop)->Prop):Prop:=UnR X f (YF X r)
noncomputable def r1 (r:D->(D->Prop)->Prop) (ta:RE):RE:=λρ Q=>ta ρ λx=>r x Q
theorem jH {op:UnaryOp} {r:D->(D->Prop)->Prop} (ho:UnD X (unaryOp op) r) (ha:DB X a ta):DE X (.UnaryOp op a pos) (r1 r ta) :=
 PE.mono (YL ho ha) λσ H Q hh=>cB hh λρ P st q k=>⟨ρ,_,st,q,λd v H1 hd s1 rr=>⟨d,P,rr,hd,λz v H2 hz s2 r2=>k z v H2 hz (s1.trans s2) r2⟩⟩
noncomputable def aN:RA:=λ_ Q=>Q []
noncomputable def aD (t:RE) (u:RA):RA:=λρ Q=>t ρ λx=>u ρ λxs=>Q (x::xs)
variable {es:List Expr} {t:RA}
theorem aJ:DA X [] aN:=PA.mono uH λσ H Q hh=>cB hh λρ P st q k=>k [] [] H q (Same.refl H) .nil
theorem aC (ha:DE X e ta) (hr:DA X es t) (hs:starEach (e::es) X.env=(false,eval e X.env)::starEach es X.env:=by rfl):DA X (e::es) (aD ta t) :=
 PA.mono (iQ ha hr hs) λσ H Q hh=>cB hh λρ P st q k=>⟨ρ,_,st,q,λd v H1 hd s1 r1=>⟨ρ,_,st.ext s1,hd,λds vs H2 hds s2 r2=>k (d::ds) (v::vs) H2 hds (s1.trans s2) (.cons (r1.keep (.of s2)) r2)⟩⟩
noncomputable def gJ (t:RA):RE:=λρ Q=>t ρ λds=>Sz ds.length/\Q (.tup ds)
theorem cI {x1} (h:DA X es t):DE X (.Tuple es x1 pos) (gJ t) :=
 PE.mono (WK h) λσ H Q hh=>cB hh λρ P st q k=>⟨ρ,_,st,q,λds vs H1 hd s1 r=>⟨by rw[<-r.length];exact hd.1.ok,λp hp=>k (.tup ds) (.ref p) _ hd.2 (Same.upd_new s1 (s1.free hp)) (by
  have sm:Same H1 (upd H1 p (.tup vs)):=λb u e=>by rw[aR (aS e hp)];exact e
  exact .tup bV (r.keep (.of sm)))⟩⟩
noncomputable def wF (t:RA):RA:=λρ Q=>t ρ λds=>Sz ds.length/\Q ds
theorem lH (h:DA X es t):DO X (.List es pos) (wF t) :=
 PE.mono (WG h) λσ H Q hh=>cB hh λρ P st q k=>⟨ρ,_,st,q,λds vs H1 hd s1 r=>⟨by rw[<-r.length];exact hd.1.ok,λp hp=>k ds p vs H1 hd.2 s1 hp r⟩⟩
end
section
variable {X:Cx} {e a b c:Expr} {pos:Pos} {st:Stmt} {rest:List Stmt} {t u:RS} {te:RE} {tA:RT}
noncomputable def aW (t u:RS):RS:=λE ρ=>t { E with nx:=u E } ρ
noncomputable def cJ:RS:=λE ρ=>E.nx ρ
theorem bK:DSs X [] cJ:=PSs.mono SG λDe σ H hh=>fM hh λρ E st q n r b c=>n ρ σ H q (Keep.refl H) st
theorem aK (h:DS X st t):DSs X [st] t:=SH h
theorem aF (h1:DS X st t) (h2:DSs X rest u):DSs X (st::rest) (aW t u) :=
 PSs.mono (OM h1 h2) λDe σ H hh=>fM hh λρ E st q n r b c=>⟨ρ,_,st,q,λρ' σ' H' h k s=>⟨ρ',E,s,h,λρ2 σ2 H2 x k2=>n ρ2 σ2 H2 x (k.trans k2),λd v H2 x k2=>r d v H2 x (k.trans k2),λρ2 σ2 H2 x k2=>b ρ2 σ2 H2 x (k.trans k2),λρ2 σ2 H2 x k2=>c ρ2 σ2 H2 x (k.trans k2)⟩,r,b,c⟩
noncomputable def bT (te:RE):RS:=λE ρ=>te ρ E.rt
theorem aX (h:DE X e te):DS X (.Return (some e) pos) (bT te) :=
 PS.mono (WR h) λDe σ H hh=>fM hh λρ E st q n r b c=>⟨ρ,_,st,q,λd v H1 hd s1 rr=>r d v H1 hd (.of s1) (st.same.trans s1) rr⟩
noncomputable def YQ (te:RE):RS:=λE ρ=>te ρ λ_=>E.nx ρ
noncomputable def dZ (c:RT) (t u:RS):RS:=λE ρ=>c ρ λk=>if k=true then t E ρ else u E ρ
theorem cU {sa sb:List Stmt} (hc:DT X c tA) (ha:DSs X sa t) (hb:DSs X sb u):DS X (.If c sa sb pos) (dZ tA t u) :=
 PS.mono (YM hc ha hb) λDe σ H hh=>fM hh λρ E st q n r b c=>⟨ρ,_,st,q,λk H1 hk s1=>by
  cases k with
  | true=>rw[if_pos rfl] at hk ⊢;exact⟨ρ,E,st.ext s1,hk,λρ2 σ2 H2 x k2=>n ρ2 σ2 H2 x ((Keep.of s1).trans k2),λd v H2 x k2=>r d v H2 x ((Keep.of s1).trans k2),λρ2 σ2 H2 x k2=>b ρ2 σ2 H2 x ((Keep.of s1).trans k2),λρ2 σ2 H2 x k2=>c ρ2 σ2 H2 x ((Keep.of s1).trans k2)⟩
  | false=>rw[if_neg Bool.false_ne_true] at hk ⊢;exact⟨ρ,E,st.ext s1,hk,λρ2 σ2 H2 x k2=>n ρ2 σ2 H2 x ((Keep.of s1).trans k2),λd v H2 x k2=>r d v H2 x ((Keep.of s1).trans k2),λρ2 σ2 H2 x k2=>b ρ2 σ2 H2 x ((Keep.of s1).trans k2),λρ2 σ2 H2 x k2=>c ρ2 σ2 H2 x ((Keep.of s1).trans k2)⟩⟩
noncomputable def aZ (i:Nat):RG:=λd ρ Q=>Q (ρ.set i (some (.d d)))
theorem aY {i:Nat} {x:Str} (hN:X.N.Nodup) (hi:X.N[i]? = some x:=by rfl) (hx:Loc X.env.scope x:=by walk_at "vis") (hf:X.fn x=true\/X.env.scope.names.lookup x=some .local:=by walk_at "loc"):DG X (.Name x pos) (aZ i) :=
 PG.mono (SA hN hi hx hf) λv σ H Q hh=>zA hh λd ρ P r st q k=>k _ _ H q (Keep.refl H) (st.set_d r)
noncomputable abbrev RGs:=List D->En->(En->Prop)->Prop
noncomputable def VX (X:Cx) (g:RGs):TGs:=λvs σ H Q=>∃ds ρ P,Reps X.K H ds vs/\StOk X ρ σ H/\g ds ρ P/\∀ρ' σ' H',P ρ'->Keep H H'->StOk X ρ' σ' H'->Q σ' H'
noncomputable def DGs (X:Cx) (ts:List Expr) (g:RGs):Prop:=PGs X ts (VX X g)
theorem PGs.mono {X:Cx} {e:List Expr} {t t':TGs} (h:PGs X e t) (m:∀v σ H Q,t' v σ H Q->t v σ H Q):PGs X e t':=λpins s σ H v u Q I r q=>h pins s σ H v u Q I r (m v σ H Q q)
noncomputable def iG:RGs:=λds ρ Q=>match ds with
 | []=>Q ρ
 | _=>False
noncomputable def bU (g:RG) (u:RGs):RGs:=λds ρ Q=>match ds with
 | []=>False
 | d::r=>g d ρ λρ'=>u r ρ' Q
theorem dP:DGs X [] iG:=PGs.mono SB λvs σ H Q hh=>zA hh λds ρ P r st q k=>by
 cases r with
 | nil=>exact⟨rfl,k ρ σ H q (Keep.refl H) st⟩
 | cons _ _=>exact q.elim
theorem bG {es:List Expr} {g:RG} {u:RGs} (h1:DG X e g) (h2:DGs X es u) (hs:(assignEach (e::es) X.env).map (·.2)=assign e X.env::(assignEach es X.env).map (·.2):=by rfl):DGs X (e::es) (bU g u) :=
 PGs.mono (OG h1 h2 hs) λvs σ H Q hh=>zA hh λds ρ P r st q k=>by
  cases r with
  | nil=>exact q.elim
  | cons r rs =>
   refine⟨_,_,rfl,_,ρ,_,r,st,q,λρ' σ' H' hq k1 st1=>⟨_,ρ',P,rs.keep k1,st1,hq,λρ2 σ2 H2 p k2 s2=>k ρ2 σ2 H2 p (k1.trans k2) s2⟩⟩
noncomputable def iH (n:Nat) (g:RGs):RG:=λd ρ Q=>match d with
 | .tup ds=>ds.length=n/\g ds ρ Q
 | _=>False
theorem fJ {es:List Expr} {k:Nat} {g:RGs} {n:Nat} (hc:X.calm=true) (h:DGs X es g) (hn:(assignEach es X.env).length=n:=by rfl) (hst:(assignEach es X.env).findIdx? (·.1)=none:=by rfl):DG X (.Tuple es k pos) (iH n g) :=
 PG.mono (WN hc h hn hst) λv σ H Q hh=>zA hh λd ρ P r st q kk=>by
  cases d with
  | tup ds =>
   cases r with
   | tup h r=>exact⟨_,_,rfl,SqT.of h,by rw[<-r.length];exact q.1,ds,ρ,P,r,st,q.2,kk⟩
  | _=>exact q.elim
noncomputable def SM (te:RE) (g:RG):RS:=λE ρ=>te ρ λd=>g d ρ E.nx
theorem MZ {tg:Expr} {g:RG} (he:DE X e te) (hg:DG X tg g) (hs:swapsWithSole [tg] e pos.line X.env=pure false:=by rfl) (hw:swappedStores [tg] e X.env=pure none:=by rfl)
  (h1:(assignEach [tg] X.env).map (·.2)=[assign tg X.env]:=by rfl):DS X (.Assign [tg] e pos) (SM te g) :=
 PS.mono (OI he hg hs hw h1) λDe σ H hh=>fM hh λρ E st q n r b c=>⟨ρ,_,st,q,λd v H1 hd s1 rr=>⟨d,ρ,_,rr,st.ext s1,hd,λρ2 σ2 H2 x k2 s2=>n ρ2 σ2 H2 x ((Keep.of s1).trans k2) s2⟩⟩
noncomputable def bE (i:Nat) (te:RE):RS:=λE ρ=>te ρ λd=>E.nx (ρ.set i (some (.d d)))
theorem aQ {i:Nat} {x:Str} {pos':Pos} (hN:X.N.Nodup) (he:DE X e te) (hi:X.N[i]? = some x:=by rfl) (hx:Loc X.env.scope x:=by walk_at "vis") (hs:swapsWith e (some (.Name x pos')) pos.line X.env=pure false:=by rfl)
  (hf:X.fn x=true\/X.env.scope.names.lookup x=some .local:=by walk_at "loc"):DS X (.Assign [.Name x pos'] e pos) (bE i te) :=
 PS.mono (OJ hN hi hx he hs hf) λDe σ H hh=>fM hh λρ E st q n r b c=>⟨ρ,_,st,q,λd v H1 hd s1 rr=>n _ _ H1 hd (.of s1) ((st.ext s1).set_d rr)⟩
noncomputable def iF (i:Nat) (t:RA):RS:=λE ρ=>t ρ λds=>E.nx (ρ.set i (some (.own ds)))
theorem sM {i:Nat} {x:Str} {pos':Pos} {t:RA} (hN:X.N.Nodup) (he:DO X e t) (hi:X.N[i]? = some x:=by rfl) (hx:Loc X.env.scope x:=by walk_at "vis") (hs:swapsWith e (some (.Name x pos')) pos.line X.env=pure false:=by rfl)
  (hf:X.fn x=true\/X.env.scope.names.lookup x=some .local:=by walk_at "loc"):DS X (.Assign [.Name x pos'] e pos) (iF i t) :=
 PS.mono (OJ hN hi hx he hs hf) λDe σ H hh=>fM hh λρ E st q n r b c=>⟨ρ,_,st,q,λds p vs H1 hd s1 hp rr=>n _ _ _ hd ((Keep.of s1).trans (.of λb o h=>by rw[aR (aS h hp)];exact h)) ((st.ext s1).set_own hp rr)⟩
noncomputable def WX (i j:Nat) (t:RA):RS:=λE ρ=>t ρ λds=>match ds with
 | [x,y]=>E.nx ((ρ.set i (some (.d x))).set j (some (.d y)))
 | _=>False
theorem VA {i j:Nat} {x y:Str} {t:RA} {px py pt:Pos} {kt k2 pt2} (hc:X.calm=true) (hN:X.N.Nodup) (ha:DA X [a,b] t) (hi:X.N[i]? = some x:=by rfl) (hj:X.N[j]? = some y:=by rfl) (hij:i≠j:=by decide)
  (hx:X.env.scope.names.lookup x=some .local:=by rfl) (hy:X.env.scope.names.lookup y=some .local:=by rfl)
  (hw:swappedStores [.Tuple [.Name x px,.Name y py] kt pt] (.Tuple [a,b] k2 pt2) X.env=pure (some [x,y]):=by rfl)
  (hs:swapsWithSole [.Tuple [.Name x px,.Name y py] kt pt] (.Tuple [a,b] k2 pt2) pos.line X.env=pure false:=by rfl) :
  DS X (.Assign [.Tuple [.Name x px,.Name y py] kt pt] (.Tuple [a,b] k2 pt2) pos) (WX i j t) :=
 PS.mono (WQ hc hN hi hj hij hx hy ha hw hs) λDe σ H hh=>fM hh λρ E st q n r b c=>⟨ρ,_,st,q,λds vs H1 hd s1 rr=>by
  cases rr with
  | nil=>exact hd.elim
  | cons r1 t1 =>
   cases t1 with
   | nil=>exact hd.elim
   | cons r2 t2 =>
    cases t2 with
    | nil=>exact⟨_,_,rfl,n _ _ H1 hd (.of s1) (((st.ext s1).set_d r1).set_d r2)⟩
    | cons _ _=>exact hd.elim⟩
noncomputable def tR (i:Nat) (ρ:En):En:=match ρ[i]? with
 | some (some (.own ds))=>ρ.set i (some (.d (.lst ds)))
 | _=>ρ
theorem tK (i:Nat) (h:DS X st t):DS X st (λE ρ=>t E (tR i ρ)):=by
 intro pins s σ H De I ⟨ρ,E,so,q,n,r,b,c⟩
 have q:t E (tR i ρ):=q
 unfold tR at q
 split at q
 ·rename_i ds e
  obtain⟨v,h1,p,vs,ev,hp,h0,rr⟩:=so.rel i _ e
  subst ev
  obtain⟨o,I2⟩:=Inv.freeze I hp
  have kp:Keep H (upd H p (.frz o (.lst vs))):=⟨λb ys h=>by rw[aR (HQ h hp (by intro z;cases z))];exact h,λb o u h=>by rw[aR (HQ h hp (by intro z;cases z))];exact h⟩
  have hi:i<ρ.length:=(List.getElem?_eq_some_iff.mp e).1
  have so2:StOk X (ρ.set i (some (.d (.lst ds)))) σ (upd H p (.frz o (.lst vs))):=by
   refine⟨by simp[so.len],λb u h=>?_,λj x ej=>?_,λj k xs ys a e1 e2 e3 e4=>?_⟩
   ·rw[aR (by rintro rfl;rw[h0] at h;cases h)];exact so.same b u h
   ·by_cases hj:i=j
    ·subst hj
     rw[List.getElem?_set_self hi] at ej
     cases ej
     exact⟨.ref p,h1,.lst (.inl ⟨o,bV⟩) (rr.keep kp)⟩
    ·rw[List.getElem?_set_ne hj] at ej
     obtain⟨v,g1,g2⟩:=so.rel j x ej
     refine⟨v,g1,?_⟩
     cases x with
     | d x=>exact Rep.keep kp g2
     | own zs =>
      obtain⟨a,vs',e1,e2,e3,r'⟩:=g2
      refine⟨a,vs',e1,?_,e3,r'.keep kp⟩
      rw[aR]
      ·exact e2
      ·rintro rfl
       subst e1
       exact hj (so.sep i j _ _ _ e ej h1 g1)
   ·have back:∀{j:Nat} {zs:List D},(ρ.set i (some (.d (.lst ds))))[j]? = some (some (.own zs))->ρ[j]? = some (some (.own zs)):=λ{j zs} q=>by
     by_cases hj:i=j
     ·subst hj;rw[List.getElem?_set_self hi] at q;cases q
     ·rw[List.getElem?_set_ne hj] at q;exact q
    exact so.sep j k _ _ a (back e1) (back e2) e3 e4
  exact h pins s σ _ De I2 ⟨_,E,so2,q,λρ2 σ2 H2 x k2=>n ρ2 σ2 H2 x (kp.trans k2),λd v H2 x k2=>r d v H2 x (kp.trans k2),λρ2 σ2 H2 x k2=>b ρ2 σ2 H2 x (kp.trans k2),λρ2 σ2 H2 x k2=>c ρ2 σ2 H2 x (kp.trans k2)⟩
 ·exact h pins s σ H De I ⟨ρ,E,so,q,n,r,b,c⟩
noncomputable def fG (c:RT) (t:RS):Nat->RS
 | 0,_,_=>False
 | n+1,E,ρ=>c ρ λk=>if k=true then t { E with nx:=fG c t n E,ct:=fG c t n E,bk:=E.nx } ρ else E.nx ρ
noncomputable def nX (c:RT) (t:RS):RS:=λE ρ=>∃n,fG c t n E ρ
theorem tL {body:List Stmt} (hp:PassesOwn (model X.prog X.w) X.A X.env X.xe) (hc:DT X c tA) (hb:DSs X body t):DS X (.While c body [] pos) (nX tA t) :=
 PS.mono (OL hp hc hb) λDe σ H hh=>fM hh λρ E st mq n r b c=>by
  obtain⟨m,q⟩:=mq
  refine⟨λm σ' H'=>∃ρ',StOk X ρ' σ' H'/\Keep H H'/\fG tA t m E ρ',⟨m,ρ,st,Keep.refl H,q⟩,?_⟩
  rintro m σ' H' ⟨ρ',st',kp,hw⟩
  cases m with
  | zero=>exact hw.elim
  | succ m =>
   refine⟨ρ',_,st',hw,λk H1 hk s1=>?_⟩
   have kp1:=kp.trans (.of s1)
   cases k with
   | true =>
    dsimp only at hk ⊢
    rw[if_pos rfl] at hk ⊢
    refine⟨λσ2 H2=>∃ρ2,StOk X ρ2 σ2 H2/\Keep H H2/\fG tA t m E ρ2,λσ2 H2 ⟨ρ2,a1,a2,a3⟩=>⟨m,Nat.lt_succ_self m,ρ2,a1,a2,a3⟩,?_⟩
    exact⟨ρ',_,st'.ext s1,hk,λρ2 σ2 H2 x k2 s2=>⟨ρ2,s2,kp1.trans k2,x⟩,λd v H2 x k2=>r d v H2 x (kp1.trans k2),λρ2 σ2 H2 x k2=>n ρ2 σ2 H2 x (kp1.trans k2),λρ2 σ2 H2 x k2 s2=>⟨ρ2,s2,kp1.trans k2,x⟩⟩
   | false =>
    dsimp only at hk ⊢
    rw[if_neg Bool.false_ne_true] at hk ⊢
    exact n ρ' σ' H1 hk kp1 (st'.ext s1)
noncomputable def LI (X:Cx) (J:It) (xs:List D) (H0:Hp):Prop:=∀i H,Keep H0 H ->
 (∀d,xs[i]? = some d->J.go i H/\∀x H',J.yld i H x H'->Same H H'/\Rep X.K H' d x)/\(xs.length<=i->J.stop i H)
noncomputable def YC (X:Cx) (t:RA):TI:=λσ H R=>∃ρ P,StOk X ρ σ H/\t ρ P/\∀xs J H',P xs->Same H H'->LI X J xs H'->R J H'
noncomputable def DI (X:Cx) (tg iter:Expr) (t:RA):Prop:=PI X tg iter (YC X t)
theorem PI.mono {X:Cx} {tg e:Expr} {t t':TI} (h:PI X tg e t) (m:∀σ H Q,t' σ H Q->t σ H Q):PI X tg e t':=λpins s σ H Q I q=>h pins s σ H Q I (m σ H Q q)
noncomputable def zB (g:RG) (t:RS):List D->RS
 | [],E,ρ=>E.nx ρ
 | x::xs,E,ρ=>g x ρ λρ1=>t { E with nx:=zB g t xs E,ct:=zB g t xs E,bk:=E.nx } ρ1
noncomputable def iZ (ti:RA) (g:RG) (t:RS):RS:=λE ρ=>ti ρ λxs=>zB g t xs E ρ
theorem eK {tg iter:Expr} {body:List Stmt} {ti:RA} {g:RG} (hp:PassesOwn (model X.prog X.w) X.A X.env X.xe) (hc:X.calm=true) (hi:DI X tg iter ti) (hg:DG X tg g) (hb:DSs X body t)
  (hs:∀x,foldedSetIterable iter X.env x=pure x:=by intro _;rfl):DS X (.For tg iter body [] pos) (iZ ti g t) :=
 PS.mono (WP hp hc hi hg hb hs) λDe σ H hh=>fM hh λρ E st q n r b c=>by
  refine⟨ρ,_,st,q,λxs J H1 hx s1 ok=>?_⟩
  refine⟨λi m σ' H'=>m=xs.length-i/\i<=xs.length/\∃ρ',StOk X ρ' σ' H'/\Keep H1 H'/\zB g t (xs.drop i) E ρ',⟨xs.length,by simp,Nat.zero_le _,ρ,st.ext s1,Keep.refl H1,by simpa using hx⟩,?_⟩
  rintro i m σ' H' ⟨rfl,hi,ρ',st',kp,hf⟩
  obtain⟨o1,o2⟩:=ok i H' kp
  have kp1:Keep H H':=(Keep.of s1).trans kp
  by_cases hlt:i<xs.length
  ·have e:xs.drop i=xs[i]::xs.drop (i+1):=List.drop_eq_getElem_cons hlt
   rw[e] at hf
   obtain⟨go,yl⟩:=o1 xs[i] (List.getElem?_eq_getElem hlt)
   refine .inr ⟨go,λσ2 H2=>∃ρ2,StOk X ρ2 σ2 H2/\Keep H1 H2/\zB g t (xs.drop (i+1)) E ρ2,λσ2 H2 hh=>⟨xs.length-(i+1),by omega,rfl,hlt,hh⟩,λx H2 y=>?_⟩
   obtain⟨s2,rx⟩:=yl x H2 y
   refine⟨xs[i],ρ',_,rx,st'.ext s2,hf,λρ3 σ3 H3 h3 k3 s3=>?_⟩
   have k13:Keep H1 H3:=(kp.trans (.of s2)).trans k3
   have k03:Keep H H3:=(kp1.trans (.of s2)).trans k3
   exact⟨ρ3,_,s3,h3,λρ4 σ4 H4 x4 k4 s4=>⟨ρ4,s4,k13.trans k4,x4⟩,λd v H4 x4 k4=>r d v H4 x4 (k03.trans k4),λρ4 σ4 H4 x4 k4=>n ρ4 σ4 H4 x4 (k03.trans k4),λρ4 σ4 H4 x4 k4 s4=>⟨ρ4,s4,k13.trans k4,x4⟩⟩
  ·have e:i=xs.length:=by omega
   subst e
   rw[List.drop_length] at hf
   exact .inl ⟨o2 (Nat.le_refl _),n ρ' σ' H' hf kp1 st'⟩
end
section
variable {X:Cx} {tg e:Expr} {te:RE} {pos p:Pos}
noncomputable def riL (te:RE):RA:=λρ Q=>te ρ λd=>match d with
 | .lst ds=>Q ds
 | _=>False
theorem eB (h:DE X e te):DI X tg e (riL te):=by
 refine PI.mono (SC h) λσ H R hh=>cB hh λρ P st q k=>⟨ρ,_,st,q,λd v H1 hd s1 r=>?_⟩
 cases d with
 | lst ds =>
  cases r with
  | @lst a vs _ hz r =>
   refine⟨a,rfl,⟨vs,hz.sq⟩,k ds _ H1 hd s1 λi H2 kp=>⟨λd e=>?_,λhl=>⟨vs,(hz.keep kp).sq,by rw[<-r.length];exact hl⟩⟩⟩
   obtain⟨v,h1,h2⟩:=(r.keep kp).get e
   refine⟨⟨vs,v,(hz.keep kp).sq,h1⟩,λx H' y=>?_⟩
   obtain⟨e1,e2⟩:=y
   subst e1
   have e3:=e2 vs (hz.keep kp).sq
   rw[h1] at e3;cases e3
   exact⟨Same.refl _,h2⟩
 | _=>exact hd.elim
noncomputable def riT (te:RE):RA:=λρ Q=>te ρ λd=>match d with
 | .tup ds=>Q ds
 | _=>False
theorem yU (h:DE X e te):DI X tg e (riT te):=by
 refine PI.mono (WO h) λσ H R hh=>cB hh λρ P st q k=>⟨ρ,_,st,q,λd v H1 hd s1 r=>?_⟩
 cases d with
 | tup ds =>
  cases r with
  | @tup a vs _ hz r =>
   refine⟨a,rfl,⟨vs,SqT.of hz⟩,k ds _ H1 hd s1 λi H2 kp=>⟨λd e=>?_,λhl=>⟨vs,SqT.of (kp.tups _ _ hz),by rw[<-r.length];exact hl⟩⟩⟩
   obtain⟨v,h1,h2⟩:=(r.keep kp).get e
   refine⟨⟨vs,v,SqT.of (kp.tups _ _ hz),h1⟩,λx H' y=>?_⟩
   obtain⟨e1,e2⟩:=y
   subst e1
   have e3:=e2 vs (SqT.of (kp.tups _ _ hz))
   rw[h1] at e3;cases e3
   exact⟨Same.refl _,h2⟩
 | _=>exact hd.elim
noncomputable def fR (lo:Int) (n:Nat):List D:=(List.range n).map λk:Nat=>D.int (lo+(k:Int))
theorem VP {H0:Hp} (lo:Int) (n:Nat):LI X (Itr lo n) (fR lo n) H0:=λi H kp=>by
 refine⟨λd e=>?_,λhl=>by show n<=i;simpa [fR] using hl⟩
 unfold fR at e
 rw[List.getElem?_map] at e
 by_cases hi:i<n
 ·rw[List.getElem?_range hi] at e
  cases e
  exact⟨hi,λx H' y=>by obtain⟨rfl,rfl⟩:=y;exact⟨Same.refl _,.int _⟩⟩
 ·rw[List.getElem?_eq_none (by simpa using hi)] at e;cases e
structure RngOk (j:Int):Prop where
 lo:-(2 ^ 62)<=j
 hi:j<2 ^ 62
noncomputable def qQ (t:RA):RA:=λρ Q=>t ρ λds=>match ds with
 | [.int j]=>RngOk j/\Q (fR 0 j.toNat)
 | _=>False
noncomputable def Af (t:RA):RA:=λρ Q=>t ρ λds=>match ds with
 | [.int i,.int j]=>(RngOk i/\RngOk j)/\Q (fR i (j-i).toNat)
 | _=>False
theorem eU {a:Expr} {t:RA} (hm:X.mg "range" = none) (ha:DA X [a] t) (hg:Gl X "range":=by rfl) (hs:starEach [a] X.env=[(false,eval a X.env)]:=by rfl):DI X tg (.Call (.Name "range" p) [a] [] pos) (qQ t):=by
 refine PI.mono (KL hg hm ha hs) λσ H R hh=>cB hh λρ P st q k=>⟨ρ,_,st,q,λds vs H1 hd s1 r=>?_⟩
 split at hd
 ·rename_i j
  rw[Reps.ints_inv (ns:=[j]) r]
  exact⟨j,rfl,hd.1.lo,hd.1.hi,k _ _ H1 hd.2 s1 (VP 0 _)⟩
 ·exact hd.elim
end
noncomputable abbrev FD:=List D->(D->Prop)->Prop
noncomputable def spD (K:PySem.W.Frag) (F:FD):Sp:=λvs H Q _=>∃ds P,Reps K H ds vs/\F ds P/\∀d v H',P d->Same H H'->Rep K H' d v->Q v H'
noncomputable def bC (F:FD) (t:RA):RE:=λρ Q=>t ρ λds=>F ds Q
section
variable {X:Cx} {k:Nat} {f:Addr} {fd:FuncData} {ps:List Str} {F:FD} {x:Str} {p pos:Pos} {e:Expr} {es:List Expr} {t:RA}
theorem QQ (G:FnOk X.prog X.w X.K X.mg X.base CX0 k f fd ps (spD X.K F)) (hr:Room k X.A) (hm:X.mg x=some (.ref f)) (hk:PySem.W.keepIn X.K (.ref f)=true) (hb:Binds X.K fd ps []) (ha:DA X (e::es) t) (hg:Gl X x:=by rfl)
  (hdb:(x == ("__debug__":Str))=false:=by decide) (he:starEach (e::es) X.env=(false,eval e X.env)::starEach es X.env:=by rfl) (hpl:(backTo pos (starEach es X.env)).any (·.1)=false:=by rfl) :
  DE X (.Call (.Name x p) (e::es) [] pos) (bC F t) :=
 PE.mono (RY (E:=E0) G hr hg hm hk hb .nil YH ha hdb he hpl) λσ H Q hh=>cB hh λρ P st q kk=>⟨ρ,_,st,q,λds vs H1 hd s1 r=>by
  show spD X.K F (vs++[]) H1 Q E0
  rw[List.append_nil]
  exact⟨ds,P,r,hd,λd v H2 hp s2 r2=>kk d v H2 hp (s1.trans s2) r2⟩⟩
end
noncomputable def aP (N:List Str) (ds:List D):En:=ds.map (λd=>some (.d d))++List.replicate (N.length-ds.length) none
section
variable {P:Program} {w:World} {K:PySem.W.Frag} {mg:Str->Option Value} {base:Heap}
theorem PN {X:Cx} {N:List Str} {ds:List D} {vs:List V} (r:Reps X.K X.H₀ ds vs):StOk X (aP N ds) (start N vs) X.H₀:=by
 have hl:=r.length
 have own:∀(i:Nat) (xs:List D),(aP N ds)[i]?≠some (some (S.own xs)):=λi xs e=>by
  unfold aP at e
  by_cases hi:i<ds.length
  ·rw[List.getElem?_append_left (by simpa using hi),List.getElem?_map,List.getElem?_eq_getElem hi] at e
   cases e
  ·rw[List.getElem?_append_right (by simpa using hi),List.getElem?_replicate] at e
   split at e <;> cases e
 refine⟨by simp[aP,start,hl],Same.refl _,λi x e=>?_,λi j xs ys a e1 _ _ _=>absurd e1 (own i xs)⟩
 unfold aP at e
 by_cases hi:i<ds.length
 ·rw[List.getElem?_append_left (by simpa using hi),List.getElem?_map,List.getElem?_eq_getElem hi] at e
  cases e
  obtain⟨v,h1,h2⟩:=r.get (List.getElem?_eq_getElem hi)
  refine⟨v,?_,h2⟩
  unfold start
  rw[List.getElem?_append_left (by simpa [<-hl] using hi),List.getElem?_map,h1];rfl
 ·rw[List.getElem?_append_right (by simpa using hi),List.getElem?_replicate] at e
  split at e <;> cases e
theorem TZ {x qual:Str} {st:Stmt} {f:Addr} {fd:FuncData} {N ps:List Str} {k:Nat} {F:FD} {t:RS} (Fu:Fun K x qual st f fd) (Sc:FnScope N ps (aE st))
  (hbody:∀(cdv:Value) (A:Around) (outer:List Env) (s:Shared) (H:Hp) (E:XK),Room k (A.deeper (envOfC qual (aE st) s.heap.objs.size f cdv)) ->
   DSs (cR CX0 P w K mg base N qual (aE st) f cdv A outer s H E).nox (aL st) t)
  (len:∀ds Q,F ds Q->ds.length=ps.length) (pure:∀ds Q,F ds Q->t { nx:=λ_=>Q .non,rt:=Q } (aP N ds)):FnOk P w K mg base CX0 (k+1) f fd ps (spD K F):=by
 refine Fu.ok Sc (λvs H Q E ⟨ds,P,r,h,_⟩=>by rw[<-r.length];exact len ds P h) λcdv A outer s H vs Q E hr ⟨ds,P',r,h,kk⟩=>⟨_,hbody cdv A outer s H E hr,?_⟩
 exact⟨aP N ds,_,PN (X:=(cR CX0 P w K mg base N qual (aE st) f cdv A outer s H E).nox) r,pure ds P' h,λρ' σ' H' hq k s'=>kk .non .non H' hq s'.same .non,λd v H' hq k sm rv=>kk d v H' hq sm rv,λ_ _ _ z=>z.elim,λ_ _ _ z=>z.elim⟩
end
noncomputable def BL (n:Nat) (i:Int):Prop:=i.natAbs<2 ^ n
theorem BL.bits {n:Nat} {i:Int} (h:BL n i):Builtin.Int.intBits i<=n:=intBits_le_iff.mpr h
theorem BL.of {n:Nat} {i:Int} (h:Builtin.Int.intBits i<=n):BL n i:=intBits_le_iff.mp h
theorem BL.mono {m n:Nat} {i:Int} (h:BL m i) (l:m<=n):BL n i:=BL.of (Nat.le_trans h.bits l)
theorem BL.add {m n:Nat} {i j:Int} (a:BL m i) (b:BL n j):BL (max m n+1) (i+j):=BL.of (intBits_add_le a.bits b.bits)
theorem BL.sub {m n:Nat} {i j:Int} (a:BL m i) (b:BL n j):BL (max m n+1) (i-j):=BL.of (intBits_sub_le a.bits b.bits)
theorem BL.mul {m n:Nat} {i j:Int} (a:BL m i) (b:BL n j):BL (m+n) (i*j):=BL.of (intBits_mul_le a.bits b.bits)
theorem BL.neg {m:Nat} {i:Int} (a:BL m i):BL m (-i):=BL.of (intBits_neg_le a.bits)
theorem BL.fdiv {m:Nat} {i j:Int} (a:BL m i):BL m (i.fdiv j):=BL.of (intBits_fdiv_le a.bits)
theorem BL.le {m:Nat} {i j:Int} (a:BL m j) (h:i.natAbs<=j.natAbs):BL m i:=Nat.lt_of_le_of_lt h a
theorem BL.of_lt {m:Nat} {i:Int} (h1:-(2 ^ m:Nat)<i) (h2:i<(2 ^ m:Nat)):BL m i:=by unfold BL;omega
theorem BL.intMulOk {m n:Nat} {i j:Int} (a:BL m i) (b:BL n j) (h:m+n<=134217728):IntMulOk i j:=IntMulOk.of_le a.bits b.bits h
theorem BL.noPy {i j:Int} (h:BL 9000 j):Builtin.divisionGoesByPylong i j=false:=by
 refine PyProof.noPylong_of_log2 ?_
 by_cases h0:j.natAbs=0
 ·rw[h0];decide +kernel
 ·exact (Nat.log2_lt h0).mpr h
section
variable {X:Cx} {e a b c:Expr} {pos:Pos}
theorem RepB.int_inv {K:PySem.W.Frag} {H:Hp} {i:Int} {v:V} (h:RepB K H (.int i) v):v = .int i:=by
 rcases h with h | ⟨ds,a,vs,e1,_⟩
 ·exact h.int_inv
 ·cases e1
theorem RepB.bl_inv {K:PySem.W.Frag} {H:Hp} {i:Bool} {v:V} (h:RepB K H (.bl i) v):v = .bl i:=by
 rcases h with h | ⟨ds,a,vs,e1,_⟩
 ·exact h.bl_inv
 ·cases e1
theorem RepB.non_inv {K:PySem.W.Frag} {H:Hp} {v:V} (h:RepB K H .non v):v = .non:=by
 rcases h with h | ⟨ds,a,vs,e1,_⟩
 ·cases h;rfl
 ·cases e1
theorem RepB.is_non {K:PySem.W.Frag} {H:Hp} {d:D} {v:V} (h:RepB K H d v):decide (v = .non)=(match d with | .non=>true | _=>false):=by
 rcases h with h | ⟨ds,a,vs,e1,e2,_⟩
 ·cases h <;> simp
 ·subst e1 e2;simp
structure MulOk (i j:Int):Prop where
 ok:IntMulOk i j
structure DivOk (i j:Int):Prop where
 nz:j≠0
 np:Builtin.divisionGoesByPylong i j=false
structure ModOk (j:Int):Prop where
 nz:j≠0
structure PowOk (i j:Int):Prop where
 ok:0<=j/\j<=1000000/\i.natAbs<2 ^ 64
theorem BL.mulOk {m n:Nat} {i j:Int} (a:BL m i) (b:BL n j) (h:m+n<=134217728:=by decide):MulOk i j:=⟨a.intMulOk b h⟩
theorem BL.divOk {i j:Int} (h:BL 9000 j) (nz:j≠0):DivOk i j:=⟨nz,h.noPy⟩
noncomputable def cT:R22:=λx y Q=>match x,y with
 | .int i,.int j=>Q (.int (i+j))
 | _,_=>False
noncomputable def cK:R22:=λx y Q=>match x,y with
 | .int i,.int j=>Q (.int (i-j))
 | _,_=>False
noncomputable def bJ:R22:=λx y Q=>match x,y with
 | .int i,.int j=>MulOk i j/\Q (.int (i*j))
 | _,_=>False
noncomputable def cV:R22:=λx y Q=>match x,y with
 | .int i,.int j=>DivOk i j/\Q (.int (i.fdiv j))
 | _,_=>False
noncomputable def dC:R22:=λx y Q=>match x,y with
 | .int i,.int j=>ModOk j/\Q (.int (i.fmod j))
 | _,_=>False
noncomputable def pT:R22:=λx y Q=>match x,y with
 | .int i,.int j=>PowOk i j/\Q (.int (i ^ j.toNat))
 | _,_=>False
theorem KJ {f:Value->Value->Sem Value} {C:Int->Int->Prop} {g:Int->Int->Int} {r:R22} (h:OpR X f (rI C λi j=>.int (g i j)))
  (hr:∀x y Q,r x y Q->∃i j,x = .int i/\y = .int j/\C i j/\Q (.int (g i j))):OpD X f r:=by
 intro pins s σ H x y v u Q I rx ry hh_0
 obtain⟨d,e,P,r1,r2,q,k⟩:=hh_0
 obtain⟨i,j,rfl,rfl,hc,q⟩:=hr _ _ _ q
 exact h pins s σ H x y v u Q I rx ry ⟨i,j,r1.int_inv,r2.int_inv,hc,k _ _ H q (Same.refl H) (.int _)⟩
theorem bM:OpD X (binaryOp .Add) cT:=KJ (C:=λ_ _=>True) (g:=λi j=>i+j) (opI λ_ _ _ _ _ _ _ _ q=>add_int q) λx y Q q=>by
 unfold cT at q;split at q
 ·exact⟨_,_,rfl,rfl,trivial,q⟩
 ·exact q.elim
theorem bH:OpD X (binaryOp .Sub) cK:=KJ (C:=λ_ _=>True) (g:=λi j=>i-j) (opI λ_ _ _ _ _ _ _ _ q=>sub_int q) λx y Q q=>by
 unfold cK at q;split at q
 ·exact⟨_,_,rfl,rfl,trivial,q⟩
 ·exact q.elim
theorem aT:OpD X (binaryOp .Mult) bJ:=KJ (C:=λi j=>IntMulOk i j) (g:=λi j=>i*j) (opI λ_ _ _ _ _ _ _ hc q=>mul_int q hc) λx y Q q=>by
 unfold bJ at q;split at q
 ·exact⟨_,_,rfl,rfl,q.1.ok,q.2⟩
 ·exact q.elim
theorem bS:OpD X (binaryOp .FloorDiv) cV:=KJ (C:=λi j=>j≠0/\Builtin.divisionGoesByPylong i j=false) (g:=λi j=>i.fdiv j) (opI λ_ _ _ _ _ _ _ hc q=>floordiv_int hc.1 q (.inl hc.2)) λx y Q q=>by
 unfold cV at q;split at q
 ·exact⟨_,_,rfl,rfl,⟨q.1.nz,q.1.np⟩,q.2⟩
 ·exact q.elim
theorem bR:OpD X (binaryOp .Mod) dC:=KJ (C:=λ_ j=>j≠0) (g:=λi j=>i.fmod j) (opI λ_ _ _ _ _ _ _ hc q=>mod_int' hc q) λx y Q q=>by
 unfold dC at q;split at q
 ·exact⟨_,_,rfl,rfl,q.1.nz,q.2⟩
 ·exact q.elim
theorem lP:OpD X (binaryOp .Pow) pT:=KJ (C:=λi j=>0<=j/\j<=1000000/\i.natAbs<2 ^ 64) (g:=λi j=>i ^ j.toNat) (opI λ_ _ _ _ _ _ _ hc q=>pow_int_small hc.1 hc.2.1 hc.2.2 q) λx y Q q=>by
 unfold pT at q;split at q
 ·exact⟨_,_,rfl,rfl,q.1.ok,q.2⟩
 ·exact q.elim
noncomputable def jG:D->(D->Prop)->Prop:=λx Q=>match x with
 | .int i=>Q (.int (-i))
 | _=>False
theorem fS:UnD X (unaryOp .USub) jG:=by
 intro pins s σ H x v Q I rx hh_0
 obtain⟨d,P,r,q,k⟩:=hh_0
 unfold jG at q;split at q
 ·rename_i i
  exact XM pins s σ H x v Q I rx ⟨i,r.int_inv,k _ _ H q (Same.refl H) (.int _)⟩
 ·exact q.elim
noncomputable def dH (p:Int->Int->Bool):R22:=λx y Q=>match x,y with
 | .int i,.int j=>Q (.bl (p i j))
 | _,_=>False
theorem RQ {f:Value->Value->Sem Value} {p:Int->Int->Bool} (h:OpR X f (rI0 λi j=>.bl (p i j))):OpD X f (dH p):=by
 intro pins s σ H x y v u Q I rx ry hh_0
 obtain⟨d,e,P,r1,r2,q,k⟩:=hh_0
 unfold dH at q;split at q
 ·rename_i i j
  exact h pins s σ H x y v u Q I rx ry ⟨i,j,r1.int_inv,r2.int_inv,k _ _ H q (Same.refl H) (.bl _)⟩
 ·exact q.elim
theorem mS:OpD X (compareOp .Lt) (dH λi j=>decide (i<j)):=RQ OE
theorem CJ:OpD X (compareOp .LtE) (dH λi j=>decide (i<=j)):=RQ HU
theorem CI:OpD X (compareOp .Gt) (dH λi j=>decide (j<i)):=RQ OC
theorem UG:OpD X (compareOp .GtE) (dH λi j=>decide (j<=i)):=RQ OB
noncomputable def jF (neg:Bool):R22:=λx y Q=>match x,y with
 | .int i,.int j=>Q (.bl (if neg then !decide (i=j) else decide (i=j)))
 | .bl i,.bl j=>Q (.bl (if neg then !decide (i=j) else decide (i=j)))
 | _,_=>False
theorem kG:OpD X (compareOp .Eq) (jF false):=by
 intro pins s σ H x y v u Q I rx ry hh_0
 obtain⟨d,e,P,r1,r2,q,k⟩:=hh_0
 unfold jF at q;split at q
 ·rename_i i j
  rw[r1.int_inv] at rx;rw[r2.int_inv] at ry
  exact UH pins s σ H _ _ v u Q I rx ry ⟨rfl,by
   have e:decide (V.int i=V.int j)=decide (i=j):=by simp
   rw[e];exact k _ _ H q (Same.refl H) (.bl _)⟩
 ·rename_i i j
  rw[r1.bl_inv] at rx;rw[r2.bl_inv] at ry
  exact UH pins s σ H _ _ v u Q I rx ry ⟨rfl,by
   have e:decide (V.bl i=V.bl j)=decide (i=j):=by simp
   rw[e];exact k _ _ H q (Same.refl H) (.bl _)⟩
 ·exact q.elim
theorem uC:OpD X (compareOp .NotEq) (jF true):=by
 intro pins s σ H x y v u Q I rx ry hh_0
 obtain⟨d,e,P,r1,r2,q,k⟩:=hh_0
 unfold jF at q;split at q
 ·rename_i i j
  rw[r1.int_inv] at rx;rw[r2.int_inv] at ry
  exact UI pins s σ H _ _ v u Q I rx ry ⟨rfl,by
   have e:decide (V.int i=V.int j)=decide (i=j):=by simp
   rw[e];exact k _ _ H q (Same.refl H) (.bl _)⟩
 ·rename_i i j
  rw[r1.bl_inv] at rx;rw[r2.bl_inv] at ry
  exact UI pins s σ H _ _ v u Q I rx ry ⟨rfl,by
   have e:decide (V.bl i=V.bl j)=decide (i=j):=by simp
   rw[e];exact k _ _ H q (Same.refl H) (.bl _)⟩
 ·exact q.elim
noncomputable def xD:D->Bool
 | .non=>true
 | _=>false
noncomputable def tF (neg:Bool):R22:=λx y Q=>match y with
 | .non=>Q (.bl (if neg then !xD x else xD x))
 | _=>False
theorem BO {K:PySem.W.Frag} {H:Hp} {d:D} {v:V} (h:RepB K H d v):decide (v = .non)=xD d:=by
 rw[h.is_non];cases d <;> rfl
theorem uB:OpD X (compareOp .Is) (tF false):=by
 intro pins s σ H x y v u Q I rx ry hh_0
 obtain⟨d,e,P,r1,r2,q,k⟩:=hh_0
 unfold tF at q;split at q
 ·exact WB pins s σ H x y v u Q I rx ry ⟨r2.non_inv,by rw[BO r1];exact k _ _ H q (Same.refl H) (.bl _)⟩
 ·exact q.elim
theorem RL:OpD X (compareOp .IsNot) (tF true):=by
 intro pins s σ H x y v u Q I rx ry hh_0
 obtain⟨d,e,P,r1,r2,q,k⟩:=hh_0
 unfold tF at q;split at q
 ·exact RW pins s σ H x y v u Q I rx ry ⟨r2.non_inv,by rw[BO r1];exact k _ _ H q (Same.refl H) (.bl _)⟩
 ·exact q.elim
noncomputable def dIx:R22:=λx y Q=>match x,y with
 | .lst ds,.int i=>match atI ds i with
  | some d=>Q d
  | none=>False
 | .tup ds,.int i=>match atI ds i with
  | some d=>Q d
  | none=>False
 | _,_=>False
theorem AI {K:PySem.W.Frag} {H:Hp} {ds:List D} {vs:List V} {i:Int} {d:D} (r:Reps K H ds vs) (h:atI ds i=some d):∃v,atI vs i=some v/\Rep K H d v:=by
 unfold atI at h ⊢
 rw[<-r.length]
 cases e:ixN ds.length i with
 | none=>rw[e] at h;cases h
 | some j =>
  rw[e] at h
  exact r.get h
theorem aI {ta tb:RE} (ha:DB X a ta) (hb:DB X b tb) (hs:GJ b:=by intro _ _;rfl):DE X (.Subscript a b pos) (r2 dIx ta tb):=by
 refine PE.mono (YJ (QV.or VQ) ha hb hs) λσ H Q h=>?_
 obtain⟨ρ,P,st,ht,hP⟩:=h
 refine⟨ρ,_,st,ht,λx v H1 h1 s1 r1=>⟨ρ,_,st.ext s1,h1,λy u H2 h2 s2 r2=>?_⟩⟩
 have r1':=r1.same s2
 unfold dIx at h2;split at h2
 ·rename_i ds i
  split at h2
  ·rename_i d e
   obtain⟨p,vs,rfl,hq,rr⟩:=r1'.lst
   obtain⟨w',e',rw'⟩:=AI rr e
   exact .inl ⟨p,vs,i,w',rfl,r2.int_inv,hq,e',hP d w' H2 h2 (s1.trans s2) rw'⟩
  ·exact h2.elim
 ·rename_i ds i
  split at h2
  ·rename_i d e
   obtain⟨p,vs,rfl,hq,rr⟩:=r1'.tup
   obtain⟨w',e',rw'⟩:=AI rr e
   exact .inr ⟨p,vs,i,w',rfl,r2.int_inv,SqT.of hq,e',hP d w' H2 h2 (s1.trans s2) rw'⟩
  ·exact h2.elim
 ·exact h2.elim
noncomputable abbrev RO:=En->(Option Int->Prop)->Prop
noncomputable def YE (X:Cx) (t:RO):TO:=λσ H Q=>∃ρ P,StOk X ρ σ H/\t ρ P/\∀o H',P o->Same H H'->Q o H'
noncomputable def DP (X:Cx) (e:Option Expr) (t:RO):Prop:=PO X e (YE X t)
noncomputable def fX:RO:=λ_ Q=>Q none
noncomputable def mU (t:RE):RO:=λρ Q=>t ρ λd=>match d with
 | .int i=>Q (some i)
 | _=>False
theorem lY:DP X none fX:=λpins s σ H Q I hh=>cB hh λρ P st q k=>SE pins s σ H Q I (k none H q (Same.refl H))
theorem lZ {t:RE} (h:DE X e t):DP X (some e) (mU t):=λpins s σ H Q I hh=>cB hh λρ P st q k=>SF h pins s σ H Q I ⟨ρ,_,st,q,λd v H1 hd s1 r=>by
 cases d with
 | int i=>exact⟨i,r.int_inv,k (some i) H1 hd s1⟩
 | _=>exact hd.elim⟩
noncomputable def jU (xs:List D) (lo hi:Option Int):List D:=(xs.drop (HT.sIx xs.length 0 lo)).take (HT.sIx xs.length xs.length hi-HT.sIx xs.length 0 lo)
noncomputable def OR (te:RE) (tl th:RO):RA:=λρ Q=>te ρ λx=>tl ρ λl=>th ρ λu=>match x with
 | .lst ds=>Q (jU ds l u)
 | _=>False
theorem MY {lo hi:Option Expr} {te:RE} {tl th:RO} {p2:Pos} (he:DB X e te) (hl:DP X lo tl) (hu:DP X hi th):DO X (.Subscript e (.Slice lo hi none p2) pos) (OR te tl th):=by
 refine PE.mono (CN IH he hl hu) λσ H Q hh=>cB hh λρ P st q k=>?_
 refine⟨ρ,_,st,q,λd v H1 hd s1 r1=>⟨ρ,_,st.ext s1,hd,λl H2 h2 s2=>⟨ρ,_,(st.ext s1).ext s2,h2,λu H3 h3 s3=>?_⟩⟩⟩
 cases d with
 | lst ds =>
  obtain⟨p,vs,rfl,hq,rr⟩:=(r1.same (s2.trans s3)).lst
  refine⟨p,vs,rfl,hq,λp' hp'=>k (jU ds l u) p' (vN vs l u) H3 h3 ((s1.trans s2).trans s3) hp' ?_⟩
  unfold jU vN
  rw[<-rr.length]
  exact (rr.drop _).take _
 | _=>exact h3.elim
noncomputable def VW (X:Cx) (r:List D->(D->Prop)->Prop):List V->Hp->VK->Prop:=λxs H Q=>∃ds P,Reps X.K H ds xs/\r ds P/\∀z v H',P z->Same H H'->Rep X.K H' z v->Q v H'
noncomputable def wI (X:Cx) (f:Value) (r:List D->(D->Prop)->Prop):Prop:=iK X f (VW X r)
noncomputable def rCB (r:List D->(D->Prop)->Prop) (t:RA):RE:=λρ Q=>t ρ λds=>r ds Q
variable {x:Str} {p:Pos} {es:List Expr} {t:RA} {id T:String} {r:List D->(D->Prop)->Prop}
theorem dI (hc:wI X (.builtin id) r) (hm:X.mg x=none) (hv:bootBuiltins x=some (.builtin id)) (ha:DA X (e::es) t) (hg:Gl X x:=by rfl) (hn:x≠"__name__":=by decide) (hdb:(x == ("__debug__":Str))=false:=by decide)
  (he:starEach (e::es) X.env=(false,eval e X.env)::starEach es X.env:=by rfl) (hpl:(backTo pos (starEach es X.env)).any (·.1)=false:=by rfl):DE X (.Call (.Name x p) (e::es) [] pos) (rCB r t) :=
 PE.mono (iE hc hg hm hv ha hn hdb he hpl) λσ H Q hh=>cB hh λρ P st q k=>⟨ρ,_,st,q,λds vs H1 hd s1 rr=>⟨ds,P,rr,hd,λz v H2 hz s2 r2=>k z v H2 hz (s1.trans s2) r2⟩⟩
theorem wZ (hc:wI X (.type T) r) (hm:X.mg x=none) (hv:bootBuiltins x=some (.type T)) (ha:DA X (e::es) t) (hg:Gl X x:=by rfl) (hn:x≠"__name__":=by decide) (hdb:(x == ("__debug__":Str))=false:=by decide)
  (he:starEach (e::es) X.env=(false,eval e X.env)::starEach es X.env:=by rfl) (hpl:(backTo pos (starEach es X.env)).any (·.1)=false:=by rfl):DE X (.Call (.Name x p) (e::es) [] pos) (rCB r t) :=
 PE.mono (xH hc hg hm hv ha hn hdb he hpl) λσ H Q hh=>cB hh λρ P st q k=>⟨ρ,_,st,q,λds vs H1 hd s1 rr=>⟨ds,P,rr,hd,λz v H2 hz s2 r2=>k z v H2 hz (s1.trans s2) r2⟩⟩
noncomputable def yR:List D->(D->Prop)->Prop:=λds Q=>match ds with
 | [.int i]=>Q (.int (if i<0 then -i else i))
 | _=>False
theorem pS:wI X (.builtin "abs") yR:=by
 intro pins s σ H xs us Q I rv hh_0
 obtain⟨ds,P,r,q,k⟩:=hh_0
 unfold yR at q;split at q
 ·rename_i i
  cases r with
  | cons r1 r2 =>
   cases r2
   rw[r1.int_inv] at rv
   exact MB pins s σ H _ us Q I rv ⟨i,rfl,k _ _ H q (Same.refl H) (.int _)⟩
 ·exact q.elim
noncomputable def MJ:List D->(D->Prop)->Prop:=λds Q=>match ds with
 | [.bl b]=>Q (.int (if b then 1 else 0))
 | [.int i]=>Q (.int i)
 | _=>False
theorem MC:wI X (.type "int") MJ:=by
 intro pins s σ H xs us Q I rv hh_0
 obtain⟨ds,P,r,q,k⟩:=hh_0
 unfold MJ at q;split at q
 ·rename_i i
  cases r with
  | cons r1 r2 =>
   cases r2
   rw[r1.bl_inv] at rv
   exact wS pins s σ H _ us Q I rv (.inr ⟨i,rfl,k _ _ H q (Same.refl H) (.int _)⟩)
 ·rename_i i
  cases r with
  | cons r1 r2 =>
   cases r2
   rw[r1.int_inv] at rv
   exact wS pins s σ H _ us Q I rv (.inl ⟨i,rfl,k _ _ H q (Same.refl H) (.int _)⟩)
 ·exact q.elim
noncomputable def wX:List D->(D->Prop)->Prop:=λds Q=>match ds with
 | [.int i,.int j]=>Q (.int (if j > i then j else i))
 | _=>False
noncomputable def wY:List D->(D->Prop)->Prop:=λds Q=>match ds with
 | [.int i,.int j]=>Q (.int (if j<i then j else i))
 | _=>False
theorem yQ (hc:X.calm=true:=by rfl):wI X (.builtin "max") wX:=by
 intro pins s σ H xs us Q I rv hh_0
 obtain⟨ds,P,r,q,k⟩:=hh_0
 unfold wX at q;split at q
 ·rename_i i j
  ·rw[Reps.ints_inv (ns:=[i,j]) r] at rv
   exact IT hc pins s σ H _ us Q I rv ⟨i,j,rfl,k _ _ H q (Same.refl H) (.int _)⟩
 ·exact q.elim
theorem GO (hc:X.calm=true:=by rfl):wI X (.builtin "min") wY:=by
 intro pins s σ H xs us Q I rv hh_0
 obtain⟨ds,P,r,q,k⟩:=hh_0
 unfold wY at q;split at q
 ·rename_i i j
  ·rw[Reps.ints_inv (ns:=[i,j]) r] at rv
   exact IV hc pins s σ H _ us Q I rv ⟨i,j,rfl,k _ _ H q (Same.refl H) (.int _)⟩
 ·exact q.elim
noncomputable def gH:D->(D->Prop)->Prop:=λd Q=>match d with
 | .lst ds=>Q (.int ds.length)
 | .tup ds=>Q (.int ds.length)
 | _=>False
theorem iC {t:TE} (h:PE X e t) (hs:starEach [e] X.env=[(false,eval e X.env)]:=by rfl) (hn:starEach [] X.env=[]:=by rfl):PA X [e] (λσ H Q=>t σ H λv H'=>Q [v] H') :=
 PA.mono (iQ h uH (by rw[hs,hn])) λσ H Q q=>q
theorem dX {te:RE} (hm:X.mg "len" = none) (h:DB X e te) (hg:Gl X "len":=by rfl) (hs:starEach [e] X.env=[(false,eval e X.env)]:=by rfl) (hn:starEach [] X.env=[]:=by rfl):DE X (.Call (.Name "len" p) [e] [] pos) (r1 gH te):=by
 refine PE.mono (iE yN hg hm PySem.boot_len (iC h hs hn) (by decide) (by decide) (by rw[hs,hn]) (by rw[hn];rfl)) λσ H Q hh=>cB hh λρ P st q k=>⟨ρ,_,st,q,λd v H1 hd s1 r=>?_⟩
 unfold gH at hd;split at hd
 ·obtain⟨p,vs,rfl,hq,rr⟩:=r.lst
  exact⟨p,vs,rfl,.inl hq,by rw[<-rr.length];exact k _ _ H1 hd s1 (.int _)⟩
 ·obtain⟨p,vs,rfl,hq,rr⟩:=r.tup
  exact⟨p,vs,rfl,.inr (SqT.of hq),by rw[<-rr.length];exact k _ _ H1 hd s1 (.int _)⟩
 ·exact hd.elim
end
section
variable {X:Cx} {pins:List (Addr × Obj)} {σ:St} {H:Hp} {s:Shared} {h':Heap}
theorem _root_.L2.Inv.turnedL {t':Nat} {ch:List Addr} (I:Inv X pins σ H s) (k:∀b o,b ∉ ch->s.heap.get? b=some o->h'.get? b=some o) (f:∀b∈ch,pL X pins H b):Inv X pins σ H { s with heap:=h',toks:=t' }:=by
 have nit:∀b u,H b=some u->b ∉ ch:=λb u e z=>by rw[(f b z).1] at e;cases e
 refine I.step (g':=s.gens) (d':=s.drawn) (ch:=ch) (λb hb=>⟨(f b hb).2.2.2.1,(f b hb).2.1,(f b hb).2.2.2.2.1,(f b hb).2.2.2.2.2⟩) (λb o _ _ hc e _=>k b o hc e) (λb o _ _ hc e _=>⟨o.slots,k b o hc e⟩) (λ_ _ _ _ n=>n)
  (λb o hc e=>⟨o,k b o hc e⟩) (λ_ _ e=>e) (λ_ _ _ e=>e) (λb ps e=>⟨#[],by rw[e];simp⟩) (λm hm=>?_) (λb u e=>?_) I.bare
 ·obtain⟨o,es,ep,ho,r⟩:=hm
  exact⟨o,es,ep,k _ o (λz=>(f _ z).2.1 rfl) ho,r⟩
 ·refine (I.hok b u e).stay (λc v hc q=>k c v ?_ q) (λ_ q=>q) λ_ _ q=>q
  rcases hc with z | z
  ·rw[z];exact nit b u e
  ·exact nit c _ z
theorem _root_.L2.Inv.turnedT {t':Nat} {ch:List Addr} {T:Addr} {xs:List V} {its:List Value} (I:Inv X pins σ H s) (k:∀b o,b ∉ ch->s.heap.get? b=some o->h'.get? b=some o) (f:∀b∈ch,pL X pins H b)
  (hT:s.heap.objs.size<=T) (ht:h'.IsTuple T its.toArray) (rv:Vals xs its) (hz:xs.length<=sizeLine):Inv X pins σ (upd H T (.tup xs)) { s with heap:=h',toks:=t' }:=by
 have nit:∀b u,H b=some u->b ∉ ch:=λb u e z=>by rw[(f b z).1] at e;cases e
 have hn:H T=none:=I.hok.fresh hT
 have ne:∀{b:Addr} {o:Obj},s.heap.get? b=some o->b≠T:=λe=>Nat.ne_of_lt (Nat.lt_of_lt_of_le (Heap.lt_size e) hT)
 refine I.step (g':=s.gens) (d':=s.drawn) (ch:=ch) (λb hb=>⟨(f b hb).2.2.2.1,(f b hb).2.1,(f b hb).2.2.2.2.1,(f b hb).2.2.2.2.2⟩) (λb o _ _ hc e _=>k b o hc e) (λb o _ _ hc e _=>⟨o.slots,k b o hc e⟩) (λb o _ e n=>by rw[aR (ne e)];exact n)
  (λb o hc e=>⟨o,k b o hc e⟩) (λb ys e=>by rw[aR (aS e hn)];exact e) (λb o u e=>by rw[aR (aS e hn)];exact e) (λb ps e=>⟨#[],by rw[aR (aS e hn),e];simp⟩) (λm hm=>?_) (λb u e=>?_) I.bare
 ·obtain⟨o,es,ep,ho,r⟩:=hm
  exact⟨o,es,ep,k _ o (λz=>(f _ z).2.1 rfl) ho,r⟩
 ·by_cases hb:b=T
  ·subst hb
   rw[bV] at e;cases e
   exact⟨hz,its,rv,ht⟩
  ·rw[aR hb] at e
   refine (I.hok b u e).stay (λc v hc q=>k c v ?_ q) (λc q=>by rw[aR (aS q hn)];exact q) λc ys q=>by rw[aR (aS q hn)];exact q
   rcases hc with z | z
   ·rw[z];exact nit b u e
   ·exact nit c _ z
end
noncomputable def XU (ds:List D):List D:=ds.zipIdx.map λp=>D.tup [.int (p.2:Int),p.1]
section
variable {X:Cx} {e:Expr} {te:RE} {pos p:Pos} {elts:List Expr} {k:Nat} {tp:Pos}
noncomputable def Ae (te:RE):RA:=λρ Q=>te ρ λd=>match d with
 | .lst ds=>Q (XU ds)
 | _=>False
end
noncomputable def JK (T:String):D->Option Bool
 | .non=>some (T == "NoneType")
 | .bl _=>some (T == "bool" || T == "int")
 | .int _=>some (T == "int")
 | .str _=>some (T == "str")
 | .tup _=>some (T == "tuple")
 | .lst _=>none
noncomputable def vO (T:String):D->(D->Prop)->Prop:=λd Q=>match JK T d with
 | some b=>Q (.bl b)
 | none=>False
structure TyTab (K:PySem.W.Frag) (T:String):Prop where
 non:PySem.W.kitOne K (.type "NoneType") (.type T)=some (T == "NoneType")
 bl:PySem.W.kitOne K (.type "bool") (.type T)=some (T == "bool" || T == "int")
 int:PySem.W.kitOne K (.type "int") (.type T)=some (T == "int")
 str:PySem.W.kitOne K (.type "str") (.type T)=some (T == "str")
 tup:PySem.W.kitOne K (.type "tuple") (.type T)=some (T == "tuple")
section
variable {X:Cx} {e:Expr} {te:RE} {pos p p2:Pos} {T:String} {x:Str}
theorem pV (tab:TyTab X.K T) (hm:X.mg "isinstance" = none) (hT:X.mg x=none) (hb:bootBuiltins x=some (.type T)) (h:DE X e te) (hg:Gl X "isinstance":=by rfl) (hgT:Gl X x:=by rfl) (hn:x≠"__name__":=by decide) (hd:(x == ("__debug__":Str))=false:=by decide)
  (hs:starEach [e,.Name x p2] X.env=(false,eval e X.env)::starEach [.Name x p2] X.env:=by rfl) (hs2:starEach [.Name x p2] X.env=(false,eval (.Name x p2) X.env)::starEach [] X.env:=by rfl) (hpl:(backTo pos (starEach [.Name x p2] X.env)).any (·.1)=false:=by rfl) :
  DE X (.Call (.Name "isinstance" p) [e,.Name x p2] [] pos) (r1 (vO T) te):=by
 have hc:iK X (.builtin "isinstance") (λxs H Q=>∃d v P,xs=[v,.ty T]/\Rep X.K H d v/\vO T d P/\∀b,P (.bl b)->Q (.bl b) H):=by
  intro pins s σ H xs us Q I r hh_0
  obtain⟨d,v,P,ex,rd,q,k⟩:=hh_0
  subst ex
  obtain⟨u,w',rfl,r1,r2⟩:=DK r
  cases r2
  unfold vO at q
  split at q
  ·rename_i b eb
   have fin:∀{t:Value},TyOf X.K H v t->PySem.W.kitOne X.K t (.type T)=some b->wpAny (model X.prog X.w) X.A (call (.builtin "isinstance") [u,.type T]) (EP X pins σ Q) X.xe s:=λty e=>JL I r1 ty e λtk=>⟨.bl b,H,I.tok tk,rfl,k b q⟩
   cases rd with
   | non=>cases eb;exact fin .non tab.non
   | bl _=>cases eb;exact fin (.bl _) tab.bl
   | int _=>cases eb;exact fin (.int _) tab.int
   | str _=>cases eb;exact fin (.str _) tab.str
   | tup h _=>cases eb;exact fin (.tup h) tab.tup
   | lst _ _=>cases eb
  ·exact q.elim
 refine PE.mono (iE hc hg hm PyProof.Rows.boot_isinstance (iQ h (iQ (RX (v:=.ty T) hgT hT hb rfl hn hd) uH hs2) hs) (by decide) (by decide) hs hpl) λσ H Q hh=>cB hh λρ P st q k=>?_
 refine⟨ρ,_,st,q,λd v H1 hd s1 r=>⟨d,v,P,rfl,r,hd,λb hb=>k _ _ H1 hb s1 (.bl b)⟩⟩
end
theorem gY:bootBuiltins "abs" = some (.builtin "abs"):=by decide +kernel
theorem pR:bootBuiltins "max" = some (.builtin "max"):=by decide +kernel
theorem wR:bootBuiltins "min" = some (.builtin "min"):=by decide +kernel
theorem pQ:bootBuiltins "int" = some (.type "int"):=by decide +kernel
theorem EE:bootBuiltins "bool" = some (.type "bool"):=by decide +kernel
theorem iO:bootBuiltins "tuple" = some (.type "tuple"):=by decide +kernel
theorem SY (K:PySem.W.Frag):TyTab K "int":=⟨by rfl,by rfl,by rfl,by rfl,by rfl⟩
theorem PU (K:PySem.W.Frag):TyTab K "bool":=⟨by rfl,by rfl,by rfl,by rfl,by rfl⟩
theorem mG (K:PySem.W.Frag):TyTab K "tuple":=⟨by rfl,by rfl,by rfl,by rfl,by rfl⟩
theorem mK {P:List Value->Prop} (h:∀a,P [a]):∀us:List Value,us.length=1->P us
 | [a],_=>h a
theorem gE {P:List Value->Prop} (h:∀a b,P [a,b]) (us:List Value) (hl:us.length=2):P us:=by
 cases us with
 | nil=>cases hl
 | cons a us=>exact mK (P:=λus=>P (a::us)) (h a) us (Nat.succ.inj hl)
theorem wK {P:List Value->Prop} (h:∀a b c,P [a,b,c]) (us:List Value) (hl:us.length=3):P us:=by
 cases us with
 | nil=>cases hl
 | cons a us=>exact gE (P:=λus=>P (a::us)) (h a) us (Nat.succ.inj hl)
theorem LV {P:List Value->Prop} (h:∀a b c d,P [a,b,c,d]) (us:List Value) (hl:us.length=4):P us:=by
 cases us with
 | nil=>cases hl
 | cons a us=>exact wK (P:=λus=>P (a::us)) (h a) us (Nat.succ.inj hl)
structure FnAt (P:Program) (w:World) (K:PySem.W.Frag) (mg:Str->Option Value) (base:Heap) (x:Str) (ps:List Str) (k:Nat) (F:FD):Prop where
 ex:∃f fd,FnOk P w K mg base CX0 k f fd ps (spD K F)/\Binds K fd ps []/\PySem.W.keepIn K (.ref f)=true/\mg x=some (.ref f)
structure DefAt (K:PySem.W.Frag) (mg:Str->Option Value) (x:Str) (st:Stmt) (ps:List Str):Prop where
 ex:∃f fd,Fun K x x st f fd/\mg x=some (.ref f)/\∀us:List Value,us.length=ps.length->bindArgs fd ⟨us,[]⟩=pure (ps.zip us)
section
variable {P:Program} {w:World} {K:PySem.W.Frag} {mg:Str->Option Value} {base:Heap}
theorem DefAt.ok {x:Str} {st:Stmt} {N ps:List Str} {k:Nat} {F:FD} {t:RS} (Z:DefAt K mg x st ps) (Sc:FnScope N ps (aE st))
  (hbody:∀{f:Addr} (cdv:Value) (A:Around) (outer:List Env) (s:Shared) (H:Hp) (E:XK),Room k (A.deeper (envOfC x (aE st) s.heap.objs.size f cdv)) ->
   DSs (cR CX0 P w K mg base N x (aE st) f cdv A outer s H E).nox (aL st) t)
  (len:∀ds Q,F ds Q->ds.length=ps.length) (pure:∀ds Q,F ds Q->t { nx:=λ_=>Q .non,rt:=Q } (aP N ds)):FnAt P w K mg base x ps (k+1) F:=by
 obtain⟨f,fd,a,b,c⟩:=Z.ex
 exact⟨f,fd,TZ a Sc (λcdv A outer s H E hr=>hbody cdv A outer s H E hr) len pure,.all c,a.kp,b⟩
theorem DefAt.okL {x:Str} {st:Stmt} {ps:List Str} {k:Nat} {F:FD} (Z:DefAt K mg x st ps) (h:∀(base:Heap) (f:Addr) (fd:FuncData),Fun K x x st f fd->FnOk P w K mg base CX0 k f fd ps (spD K F)) :
  ∃f fd,mg x=some (.ref f)/\(∀us:List Value,us.length=ps.length->bindArgs fd ⟨us,[]⟩=pure (ps.zip us))/\∀base,FnOk P w K mg base CX0 k f fd ps (spD K F):=by
 obtain⟨f,fd,a,b,c⟩:=Z.ex
 exact⟨f,fd,b,c,λbase=>h base f fd a⟩
end
section
variable {X:Cx} {k:Nat} {ps:List Str} {F:FD} {x:Str} {p pos:Pos} {e:Expr} {es:List Expr} {t:RA}
theorem aO (C:FnAt X.prog X.w X.K X.mg X.base x ps k F) (hr:Room k X.A) (ha:DA X (e::es) t) (hg:Gl X x:=by rfl)
  (hdb:(x == ("__debug__":Str))=false:=by decide) (he:starEach (e::es) X.env=(false,eval e X.env)::starEach es X.env:=by rfl) (hpl:(backTo pos (starEach es X.env)).any (·.1)=false:=by rfl) :
  DE X (.Call (.Name x p) (e::es) [] pos) (bC F t):=by
 obtain⟨f,fd,G,hb,hk,hm⟩:=C.ex
 exact QQ G hr hm hk hb ha hg hdb he hpl
end
noncomputable def IN (n:Nat):FD:=λds Q=>∃ns:List Int,ds=[.lst (ns.map .int)]/\ns.length<=n/\Q (.bl true)
theorem XG {K:PySem.W.Frag} {H:Hp} {a:Addr} {vs:List V} (hO:QF H) (h:SqL K H a vs):FzL K H a vs:=by
 rcases h with (h | ⟨o,h⟩) | h
 ·rcases hO a with z | ⟨o,xs,z⟩
  ·rw[z] at h;cases h
  ·rw[z] at h;cases h
 ·exact .inl ⟨o,h⟩
 ·exact .inr h
theorem walk_law {l:PySem.W.OpenLaw} {q:Program} {loose:List Str} {XP:(Str->Option Value)->Heap->Prop} {YP:World->Heap->Prop} {d:DefRec} {K:Params->PySem.W.Frag} {x:Str} {k:Nat}
  (hn:l.most=some 63) (hdf:d.params.defaults=[]) (hr:Room k callerA)
  (hY:∀(w:World) (h:Heap),YP w h->(K w.params).In h) (hd:d.name = "law")
  (F:∀(w:World) (mg:Str->Option Value) (h:Heap),(K w.params).In h->h.Ns mainGlobals mg ->
   ∃f fd,mg "law" = some (.ref f)/\(∀us:List Value,us.length=[x].length->bindArgs fd ⟨us,[]⟩=pure ([x].zip us))/\∀base,FnOk l.prog w (K w.params) mg base CX0 k f fd [x] (spD (K w.params) (IN 63))) :
  PySem.W.WalkO q loose XP YP l.row.toRowW d [] (λf vs=>PySem.call f vs):=by
 refine L2.walk_of (n:=63) (k:=k) (x:=x) (CX:=λ_=>CX0) (sp:=λw=>spD (K w.params) (IN 63)) hn (by decide) hdf hr hY ?_ ?_ λ_ _ _ _ _ z=>z
 ·intro w mg fa h KX G hmg
  rw[hd] at hmg
  obtain⟨f,fd,hm,hb,hF⟩:=F w mg h KX G
  rw[hmg] at hm;cases hm
  exact⟨fd,λs u=>.of_eq (hb [u] rfl),λbase _ _=>hF base⟩
 ·intro w H a ns hl hO hS
  exact⟨[.lst (ns.map .int)],λd=>d = .bl true,.cons (.lst (XG hO hS) .ints) .nil,⟨ns,rfl,hl,rfl⟩,λd v H' e _ r=>by subst e;exact r.bl_inv⟩
noncomputable def eqL (f:D->D->Option Bool):List D->List D->Option Bool
 | [],[]=>some true
 | [],_::_=>some false
 | _::_,[]=>some false
 | x::xs,y::ys=>match f x y,eqL f xs ys with
  | some a,some b=>some (a && b)
  | _,_=>none
noncomputable def eqF:Nat->D->D->Option Bool
 | 0,_,_=>none
 | n+1,d,e=>match d,e with
  | .int a,.int b=>some (decide (a=b))
  | .bl a,.bl b=>some (decide (a=b))
  | .non,.non=>some true
  | .non,.tup _=>some false
  | .tup _,.non=>some false
  | .tup xs,.tup ys=>eqL (eqF n) xs ys
  | .lst xs,.lst ys=>eqL (eqF n) xs ys
  | _,_=>none
theorem yZ {f:D->D->Option Bool}:∀{xs ys:List D} {b:Bool},eqL f xs ys=some b->∀(j:Nat) (x y:D),xs[j]? = some x->ys[j]? = some y->∃c,f x y=some c
 | [],_,_,_,j,x,y,e,_=>by simp at e
 | _::_,[],_,_,j,x,y,_,e=>by simp at e
 | a::xs,c::ys,b,h,j,x,y,e1,e2=>by
  unfold eqL at h
  split at h
  ·rename_i p q hp hq
   cases j with
   | zero=>simp at e1 e2;subst e1 e2;exact⟨p,hp⟩
   | succ j=>exact yZ hq j x y (by simpa using e1) (by simpa using e2)
  ·cases h
theorem sN {f:D->D->Option Bool}:∀{xs ys:List D} {b:Bool},eqL f xs ys=some b ->
  ((List.range (min xs.length ys.length)).all (λj=>match xs[j]?,ys[j]? with | some x,some y=>(f x y).getD false | _,_=>false) && xs.length == ys.length)=b
 | [],[],b,h=>by cases h;rfl
 | [],_::_,b,h=>by cases h;rfl
 | _::_,[],b,h=>by cases h;rfl
 | x::xs,y::ys,b,h=>by
  unfold eqL at h
  split at h
  ·rename_i p q hp hq
   cases h
   have ih:=sN hq
   rw[<-ih]
   simp only[List.length_cons,Nat.succ_min_succ,List.range_succ_eq_map,List.all_cons,List.getElem?_cons_zero,hp,Option.getD_some,List.all_map]
   rw[Bool.and_assoc]
   congr 1
   congr 1
   rw[Bool.eq_iff_iff];simp
  ·cases h
section
variable {X:Cx} {pins:List (Addr × Obj)} {σ:St} {H:Hp} {s:Shared}
theorem tO {f:D->D->Option Bool} (hf:∀{d e:D} {v:V} {b:Bool},f d e=some b->Rep X.K H d v->Rep X.K H e v->b=true):∀{xs ys:List D} {vs:List V} {b:Bool},eqL f xs ys=some b->Reps X.K H xs vs->Reps X.K H ys vs->b=true:=by
 intro xs
 induction xs with
 | nil=>intro ys vs b h q1 q2;cases q1;cases q2;cases h;rfl
 | cons x xs ih =>
  intro ys vs b h q1 q2
  cases q1 with
  | cons r t =>
   cases q2 with
   | cons r' t' =>
    unfold eqL at h
    split at h
    ·rename_i p q hp hq
     cases h
     rw[hf hp r r',ih hq t t'];rfl
    ·cases h
theorem oQ (I:Inv X pins σ H s):∀(n:Nat) {d e:D} {v:V} {b:Bool},eqF n d e=some b->Rep X.K H d v->Rep X.K H e v->b=true
 | 0,_,_,_,_,h,_,_=>by cases h
 | n+1,d,e,v,b,h,r1,r2=>by
  unfold eqF at h
  split at h
  ·rw[r1.int_inv] at r2;cases r2;cases h;simp
  ·rw[r1.bl_inv] at r2;cases r2;cases h;simp
  ·cases h;rfl
  ·cases r1;cases r2
  ·cases r2;cases r1
  ·rename_i xs ys
   cases r1 with
   | @tup a vs _ h1 q1 =>
    cases r2 with
    | @tup _ ws _ h2 q2 =>
     rw[h1] at h2;cases h2
     exact tO (λ{d e v b}=>oQ I n) h q1 q2
  ·rename_i xs ys
   cases r1 with
   | @lst a vs _ h1 q1 =>
    cases r2 with
    | @lst _ ws _ h2 q2 =>
     rw[I.list_inj h2.sq h1.sq] at q2
     exact tO (λ{d e v b}=>oQ I n) h q1 q2
  ·cases h
theorem BG (I:Inv X pins σ H s) {n:Nat} {xs ys:List D} {a c:Addr} {vs ws:List V} {b:Bool} {A:Around} (h:eqL (eqF n) xs ys=some b) (h1:SqL X.K H a vs) (q1:Reps X.K H xs vs) (h2:SqL X.K H c ws) (q2:Reps X.K H ys ws) (hu:A.units<cLine)
  (at':∀{d e:D} {v u:V} {x y:Value} {b:Bool},eqF n d e=some b->Rep X.K H d v->Rep X.K H e u->RelV v x->RelV u y->SeqAt.EqAt A.in1 s x y b):SeqAt.RcAt A s (.ref a) (.ref c) b/\SeqAt.EqAt A s (.ref a) (.ref c) b:=by
 obtain⟨its,rv,ht,_⟩:=I.list h1
 obtain⟨its2,rv2,ht2,_⟩:=I.list h2
 have l1:xs.length=its.length:=q1.length.trans rv.length
 have l2:ys.length=its2.length:=q2.length.trans rv2.length
 have rc:SeqAt.RcAt A s (.ref a) (.ref c) b:=by
  by_cases hl:xs.length=ys.length
  ·have:=SeqAt.RcAt.lists (A:=A) (s:=s) (e:=λj=>match xs[j]?,ys[j]? with | some x,some y=>(eqF n x y).getD false | _,_=>false) ht.isList ht2.isList (by simp;omega) hu (λj g1 g2=>?_)
   ·have al:=sN h
    simp only[List.size_toArray,<-l1] at this
    rw[<-hl,Nat.min_self,beq_self_eq_true,Bool.and_true] at al
    rw[al] at this
    exact this
   ·simp only[List.size_toArray] at g1 g2
    have e1:xs[j]? = some (xs[j]'(by omega)):=List.getElem?_eq_getElem _
    have e2:ys[j]? = some (ys[j]'(by omega)):=List.getElem?_eq_getElem _
    obtain⟨k,hk⟩:=yZ h j _ _ e1 e2
    rw[e1,e2]
    simp only[hk,Option.getD_some]
    obtain⟨v1,f1,f2⟩:=q1.get e1
    obtain⟨v2,f3,f4⟩:=q2.get e2
    obtain⟨u1,g3,g4⟩:=rv.get f1
    obtain⟨u2,g5,g6⟩:=rv2.get f3
    have a1:its.toArray[j]=u1:=by
     have:=List.getElem?_eq_getElem g1
     rw[this] at g3
     simpa using Option.some.inj g3
    have a2:its2.toArray[j]=u2:=by
     have:=List.getElem?_eq_getElem g2
     rw[this] at g5
     simpa using Option.some.inj g5
    rw[a1,a2]
    exact at' hk f2 f4 g4 g6
  ·have al:=sN h
   have:(xs.length == ys.length)=false:=by simpa using hl
   rw[this,Bool.and_false] at al
   rw[<-al]
   exact SeqAt.RcAt.lists_lengths ht.isList ht2.isList (by simp;omega) hu
 refine⟨rc,?_⟩
 by_cases hac:a=c
 ·subst hac
  rw[I.list_inj h2 h1] at q2
  rw[tO (λ{d e v b}=>oQ I n) h q1 q2]
  exact SeqAt.EqAt.same _
 ·exact SeqAt.EqAt.of_refs hac rc
theorem tN (I:Inv X pins σ H s):∀(n:Nat) {d e:D} {v u:V} {x y:Value} {b:Bool} {A:Around},eqF n d e=some b->Rep X.K H d v->Rep X.K H e u->RelV v x->RelV u y->A.units+n<cLine ->
  SeqAt.RcAt A s x y b/\SeqAt.EqAt A s x y b
 | 0,_,_,_,_,_,_,_,_,h,_,_,_,_,_=>by cases h
 | n+1,d,e,v,u,x,y,b,A,h,r1,r2,rx,ry,hu=>by
  have same:=λ(hvu:v=u)=>oQ I (n+1) h r1 (hvu ▸ r2)
  unfold eqF at h
  split at h
  ·rename_i i j
   rw[r1.int_inv] at rx;rw[r2.int_inv] at ry
   obtain⟨t,rfl⟩:=rx
   obtain⟨t',rfl⟩:=ry
   cases h
   have e:decide (i=j)=(i == j):=by rw[Bool.beq_eq_decide_eq]
   rw[e]
   exact⟨SeqAt.RcAt.int_int _ _ _ _,SeqAt.EqAt.int_int _ _ _ _⟩
  ·rename_i i j
   rw[r1.bl_inv] at rx;rw[r2.bl_inv] at ry
   cases rx;cases ry
   cases h
   have e:decide (i=j)=(i == j):=by rw[Bool.beq_eq_decide_eq]
   rw[e]
   exact⟨SeqAt.RcAt.bool_bool _ _,SeqAt.EqAt.bool_bool _ _⟩
  ·cases r1;cases r2;cases rx;cases ry;cases h
   exact⟨SeqAt.RcAt.none_none,SeqAt.EqAt.same _⟩
  ·cases r1
   cases r2 with
   | tup h2 q2 =>
    cases rx;cases ry;cases h
    obtain⟨its,rv,ht,_⟩:=I.tuple (SqT.of h2)
    exact⟨SeqAt.RcAt.none_tuple ht (by omega),SeqAt.EqAt.none_tuple ht (by omega)⟩
  ·cases r2
   cases r1 with
   | tup h2 q2 =>
    cases rx;cases ry;cases h
    obtain⟨its,rv,ht,_⟩:=I.tuple (SqT.of h2)
    exact⟨SeqAt.RcAt.tuple_none ht (by omega),SeqAt.EqAt.tuple_none ht (by omega)⟩
  ·rename_i xs ys
   cases r1 with
   | @tup a vs _ h1 q1 =>
    cases r2 with
    | @tup c ws _ h2 q2 =>
     cases rx;cases ry
     obtain⟨its,rv,ht,_⟩:=I.tuple (SqT.of h1)
     obtain⟨its2,rv2,ht2,_⟩:=I.tuple (SqT.of h2)
     have l1:xs.length=its.length:=q1.length.trans rv.length
     have l2:ys.length=its2.length:=q2.length.trans rv2.length
     have rc:SeqAt.RcAt A s (.ref a) (.ref c) b:=by
      have:=SeqAt.RcAt.tuples (A:=A) (s:=s) (e:=λj=>match xs[j]?,ys[j]? with | some x,some y=>(eqF n x y).getD false | _,_=>false) ht ht2 (by omega) (λj g1 g2=>?_)
      ·simp only[List.size_toArray,<-l1,<-l2] at this
       rw[sN h] at this
       exact this
      ·simp only[List.size_toArray] at g1 g2
       have e1:xs[j]? = some (xs[j]'(by omega)):=List.getElem?_eq_getElem _
       have e2:ys[j]? = some (ys[j]'(by omega)):=List.getElem?_eq_getElem _
       obtain⟨k,hk⟩:=yZ h j _ _ e1 e2
       rw[e1,e2]
       simp only[hk,Option.getD_some]
       obtain⟨v1,f1,f2⟩:=q1.get e1
       obtain⟨v2,f3,f4⟩:=q2.get e2
       obtain⟨u1,g3,g4⟩:=rv.get f1
       obtain⟨u2,g5,g6⟩:=rv2.get f3
       have a1:its.toArray[j]=u1:=by
        have:=List.getElem?_eq_getElem g1
        rw[this] at g3
        simpa using Option.some.inj g3
       have a2:its2.toArray[j]=u2:=by
        have:=List.getElem?_eq_getElem g2
        rw[this] at g5
        simpa using Option.some.inj g5
       rw[a1,a2]
       exact (tN I n hk f2 f4 g4 g6 (by show A.units+1+n<cLine;omega)).2
     refine⟨rc,?_⟩
     by_cases hac:a=c
     ·subst hac
      rw[same rfl]
      exact SeqAt.EqAt.same _
     ·exact SeqAt.EqAt.of_refs hac rc
  ·rename_i xs ys
   cases r1 with
   | @lst a vs _ h1 q1 =>
    cases r2 with
    | @lst c ws _ h2 q2 =>
     cases rx;cases ry
     exact BG I h h1.sq q1 h2.sq q2 (by omega) λ{d e v u x y b} hk f2 f4 g4 g6=>(tN I n hk f2 f4 g4 g6 (by show A.units+1+n<cLine;omega)).2
  ·cases h
end
noncomputable def dEq:R22:=λx y Q=>match eqF 6 x y with
 | some b=>Q (.bl b)
 | none=>False
section
variable {X:Cx}
theorem VC {X:Cx} {pins:List (Addr × Obj)} {σ:St} {H:Hp} {s:Shared} (I:Inv X pins σ H s) {d e:D} {v u:V} {x y:Value} {b:Bool} {A:Around} (h:eqF 6 d e=some b) (r1:RepB X.K H d v) (r2:RepB X.K H e u) (rx:RelV v x) (ry:RelV u y) (hu:A.units+6<cLine):SeqAt.RcAt A s x y b:=by
 by_cases hl:∃xs ys,d = .lst xs/\e = .lst ys
 ·obtain⟨xs,ys,rfl,rfl⟩:=hl
  obtain⟨a,vs,rfl,h1,q1⟩:=r1.lst
  obtain⟨c,ws,rfl,h2,q2⟩:=r2.lst
  cases rx;cases ry
  exact (BG I (n:=5) h h1 q1 h2 q2 (by omega) λ{d e v u x y b} hk f2 f4 g4 g6=>(tN I 5 hk f2 f4 g4 g6 (by show A.units+1+5<cLine;omega)).2).1
 ·have p1:Rep X.K H d v:=by
   rcases r1 with r | ⟨ds,a,vs,e1,_⟩
   ·exact r
   ·subst e1;cases e <;> first | (cases h;done) | exact absurd ⟨_,_,rfl,rfl⟩ hl
  have p2:Rep X.K H e u:=by
   rcases r2 with r | ⟨ds,a,vs,e1,_⟩
   ·exact r
   ·subst e1;cases d <;> first | (cases h;done) | exact absurd ⟨_,_,rfl,rfl⟩ hl
  exact (tN I 6 h p1 p2 rx ry hu).1
theorem NY {k:Nat} (hr:Room k X.A):OpD X (compareOp .Eq) dEq:=by
 intro pins s σ H x y v u Q I rx ry hh_0
 obtain⟨d,e,P,r1,r2,q,kk⟩:=hh_0
 unfold dEq at q
 split at q
 ·rename_i b hb
  have hu:=hr.units
  exact VC I (A:=X.A) hb r1 r2 rx ry (by omega) _ _ _ _ ⟨.bl b,H,I,rfl,kk _ _ H q (Same.refl H) (.bl b)⟩
 ·exact q.elim
end
theorem lD (env:Env):∀(names:List (Str × NameKind)) (acc:List (Str × Addr)),(∀y∈names,y.2 = .free->∃c,env.cells.lookup y.1=some c) ->
  ∃cl:List (Str × Addr),(do
   let mut cs:=acc
   for (name,kind) in names do
    if kind == .free then cs:=(name,<-cellOf env name)::cs
   return cs:Sem (List (Str × Addr)))=pure cl/\(∀p∈cl,p∈acc\/env.cells.lookup p.1=some p.2)/\(∀p∈acc,p∈cl)/\∀y∈names,y.2 = .free->∃c,(y.1,c)∈cl
 | [],acc,_=>⟨acc,by simp,λp h=>.inl h,λp h=>h,λy h=>by simp at h⟩
 | (n,k)::r,acc,h=>by
  by_cases hk:k = .free
  ·subst hk
   obtain⟨c,hc⟩:=h _ List.mem_cons_self rfl
   obtain⟨cl,e,h1,h2,h3⟩:=lD env r ((n,c)::acc) λy hy=>h y (List.mem_cons_of_mem _ hy)
   refine⟨cl,?_,λp hp=>?_,λp hp=>h2 p (List.mem_cons_of_mem _ hp),λy hy hf=>?_⟩
   ·rw[<-e]
    have hcell:cellOf env n=pure c:=by unfold cellOf;rw[hc]
    simp only[List.forIn_cons,hcell,beq_self_eq_true,if_true,pure_bind]
   ·rcases h1 p hp with q | q
    ·rcases List.mem_cons.mp q with rfl | q
     ·exact .inr hc
     ·exact .inl q
    ·exact .inr q
   ·rcases List.mem_cons.mp hy with rfl | hy
    ·exact⟨c,h2 _ List.mem_cons_self⟩
    ·exact h3 y hy hf
  ·obtain⟨cl,e,h1,h2,h3⟩:=lD env r acc λy hy=>h y (List.mem_cons_of_mem _ hy)
   refine⟨cl,?_,h1,h2,λy hy hf=>?_⟩
   ·rw[<-e]
    have hb:(k == NameKind.free)=false:=by simpa using hk
    simp only[List.forIn_cons,hb,Bool.false_eq_true,if_false,pure_bind]
   ·rcases List.mem_cons.mp hy with rfl | hy
    ·exact absurd hf hk
    ·exact h3 y hy hf
theorem mQ {α:Type}:∀{l:List (Str × α)} {x:Str} {c:α},(x,c)∈l->∃c',l.lookup x=some c'
 | [],_,_,h=>by simp at h
 | (y,d)::r,x,c,h=>by
  rw[List.lookup_cons]
  cases e:x == y with
  | true=>exact⟨d,rfl⟩
  | false =>
   rcases List.mem_cons.mp h with q | q
   ·cases q;rw[beq_self_eq_true] at e;cases e
   ·exact mQ q
theorem sY {scope:Scope} {env:Env} (h:∀y∈scope.names,y.2 = .free->∃c,env.cells.lookup y.1=some c) :
  ∃cl,closureFor scope env=pure cl/\(∀x c,cl.lookup x=some c->env.cells.lookup x=some c)/\∀y∈scope.names,y.2 = .free->∃c,cl.lookup y.1=some c:=by
 obtain⟨cl,e,h1,_,h3⟩:=lD env scope.names [] h
 refine⟨cl,e,λx c hx=>?_,λy hy hf=>?_⟩
 ·rcases h1 _ (PySem.mem_of_lookup hx) with q | q
  ·simp at q
  ·exact q
 ·obtain⟨c,hc⟩:=h3 y hy hf
  exact mQ hc
noncomputable def jV (X:Cx) (scope:Scope) (N:List Str) (cl:List (Str × Addr)) (C:Addr) (s:Shared) (H:Hp) (fp:List Addr):Cx where
 prog:=X.prog
 w:=X.w
 K:=X.K
 mg:=X.mg
 base:=X.base
 A:=X.A
 N:=N
 s₀:=s
 H₀:=H
 env:=compEnvC scope cl C X.env
 outer:=X.stack
 stack:=X.stack
 ex:=fp
 fn:=λ_=>false
 calm:=X.calm
 pn:=[]
 xe:=λ_ _=>False
structure CScope (X:Cx) (scope:Scope):Prop where
 kind:scope.kind = .function
 nocell:∀y∈scope.names,y.2≠.cell
 locs:∀y∈scope.names,y.2 = .local->scope.names.lookup y.1=some .local
 frees:∀y∈scope.names,y.2 = .free->X.env.kindOf y.1=some .cell\/X.env.kindOf y.1=some .free
theorem eW {env:Env}:∀{names:List (Str × NameKind)} {x:Str} {k:NameKind},(names.map λ(n,k)=>if (k == NameKind.free && env.scope.kind == .function && env.kindOf n == some .cell) then (n,NameKind.cell) else (n,k)).lookup x=some k ->
  (k = .cell\/k = .free)->(∀y∈names,y.2≠.cell)->(x,.free)∈names
 | [],_,_,h,_,_=>by simp at h
 | (n,j)::r,x,k,h,hk,hn=>by
  have h:List.lookup x ((if (j == NameKind.free && env.scope.kind == .function && env.kindOf n == some .cell)=true then (n,NameKind.cell) else (n,j))::r.map λ(n,k)=>if (k == NameKind.free && env.scope.kind == .function && env.kindOf n == some .cell) then (n,NameKind.cell) else (n,k))=some k:=h
  have hn':∀y∈r,y.2≠.cell:=λy hy=>hn y (List.mem_cons_of_mem _ hy)
  cases hx:x == n with
  | true =>
   have e:x=n:=eq_of_beq hx
   subst e
   by_cases hc:(j == NameKind.free && env.scope.kind == .function && env.kindOf x == some .cell)=true
   ·have hj:j = .free:=by
     rw[Bool.and_eq_true,Bool.and_eq_true] at hc
     exact eq_of_beq hc.1.1
    subst hj
    exact List.mem_cons_self
   ·rw[if_neg hc,List.lookup_cons,beq_self_eq_true] at h
    cases h
    rcases hk with rfl | rfl
    ·exact absurd rfl (hn _ List.mem_cons_self)
    ·exact List.mem_cons_self
  | false =>
   by_cases hc:(j == NameKind.free && env.scope.kind == .function && env.kindOf n == some .cell)=true
   ·rw[if_pos hc,List.lookup_cons,hx] at h
    exact List.mem_cons_of_mem _ (eW h hk hn')
   ·rw[if_neg hc,List.lookup_cons,hx] at h
    exact List.mem_cons_of_mem _ (eW h hk hn')
section
variable {X:Cx} {pins:List (Addr × Obj)} {σ:St} {H:Hp} {s:Shared} {scope:Scope} {N:List Str} {cl:List (Str × Addr)} {C:Addr} {fp:List Addr}
theorem QK (I:Inv X pins σ H s) (Sc:CScope X scope) (hcl:∀x c,cl.lookup x=some c->X.env.cells.lookup x=some c) (hall:∀y∈scope.names,y.2 = .free->∃c,cl.lookup y.1=some c)
  (hC:s.heap.objs.size<=C) (hf:∀b∈fp,pL X pins H b) (hlt:∀b∈fp,b<s.heap.objs.size):(jV X scope N cl C s H fp).Ok:=by
 refine⟨I.ok.mod,Sc.kind,I.ok.glob,I.ok.blt,hC,λx y c h1 h2=>I.ok.inj x y c (hcl x c h1) (hcl y c h2),λx hx=>?_,λx c hx=>absurd (show false=true from hx) Bool.false_ne_true,I.ok.hd,I.ok.frames,.inl rfl,λb hb=>?_,I.bs,Nat.le_trans I.ok.bsz I.sz,λb o e hb=>?_,λb hb hfs=>?_,I.stack,I.stkFree⟩
 ·have hx:(scope.names.map λ(n,k)=>if (k == NameKind.free && X.env.scope.kind == .function && X.env.kindOf n == some .cell) then (n,NameKind.cell) else (n,k)).lookup x=some .cell\/(scope.names.map λ(n,k)=>if (k == NameKind.free && X.env.scope.kind == .function && X.env.kindOf n == some .cell) then (n,NameKind.cell) else (n,k)).lookup x=some .free:=hx
  have:(x,NameKind.free)∈scope.names:=by
   rcases hx with hx | hx
   ·exact eW hx (.inl rfl) Sc.nocell
   ·exact eW hx (.inr rfl) Sc.nocell
  exact hall _ this rfl
 ·obtain⟨f0,f1,f2,f3,f4,f5⟩:=hf b hb
  exact⟨Nat.ne_of_lt (Nat.lt_of_lt_of_le (hlt b hb) hC),λx c e=>f4 x c (hcl x c e)⟩
 ·obtain⟨f0,f1,f2,f3,f4,f5⟩:=hf b hb
  rcases f3 with z | z
  ·exact I.ok.noex b o e z
  ·have h1:=(Heap.lt_size e)
   have h2:=I.ok.bsz
   exact absurd (Nat.lt_of_lt_of_le h1 (Nat.le_trans h2 z)) (Nat.lt_irrefl _)
 ·obtain⟨f0,f1,f2,f3,f4,f5⟩:=hf b hb
  rcases List.mem_cons.mp (I.stkSub b hfs) with e | e
  ·exact f1 e
  ·exact f2 e
noncomputable def yP (σ:St) (k:Nat) (ix:List Nat):St:=List.replicate k none++ix.map λi=>(σ[i]?).join
theorem ME (I:Inv X pins σ H s) (Sc:CScope X scope) (hcl:∀x c,cl.lookup x=some c->X.env.cells.lookup x=some c) (hall:∀y∈scope.names,y.2 = .free->∃c,cl.lookup y.1=some c)
  {s4:Shared} {m:Str->Option Value} {k:Nat} {ix:List Nat} {ys:List Str} (hC:s.heap.objs.size<=C) (hf:∀b∈fp,pL X pins H b) (hlt:∀b∈fp,b<s.heap.objs.size)
  (hk4:∀b o,s.heap.get? b=some o->s4.heap.get? b=some o) (hos:s4.os=s.os) (hb:AllBare s4.gens) (hns:s4.heap.Ns C m)
  (hN:N.length=k+ys.length) (hdrop:N.drop k=ys) (hix:ix.length=ys.length) (hiy:∀(j:Nat) (y:Str) (i:Nat),ys[j]? = some y->ix[j]? = some i->X.N[i]? = some y/\(y,NameKind.free)∈scope.names)
  (hkind:∀y∈ys,(relabel scope X.env).names.lookup y=some .cell\/(relabel scope X.env).names.lookup y=some .free) :
  Inv (jV X scope N cl C s H fp) [] (yP σ k ix) H s4:=by
 have hfr:H C=none:=I.hok.fresh hC
 refine⟨QK I Sc hcl hall hC hf hlt,hos,hb,Un.kept hk4,⟨m,hns,λi x v e1 e2 e3=>?_⟩,λx c e=>?_,hfr,λx c e=>I.freeC x c (hcl x c e),λp hp=>absurd (show p∈([]:List (Addr × Obj)) from hp) (by simp),I.hok.kept hk4,?_⟩
 ·unfold yP at e2
  by_cases hik:i<k
  ·rw[List.getElem?_append_left (by simpa using hik),List.getElem?_replicate,if_pos hik] at e2
   cases e2
  ·rw[List.getElem?_append_right (by simpa using hik),List.length_replicate,List.getElem?_map] at e2
   cases eo:ix[i-k]? with
   | none=>rw[eo] at e2;cases e2
   | some o =>
    rw[eo] at e2
    have e2:some ((σ[o]?).join)=some (some v):=e2
    have e2':σ[o]? = some (some v):=by
     cases q:σ[o]? with
     | none=>rw[q] at e2;cases e2
     | some z=>rw[q] at e2;cases e2;rfl
    have ey:ys[i-k]? = some x:=by
     rw[<-hdrop,List.getElem?_drop]
     rw[show k+(i-k)=i by omega]
     exact e1
    obtain⟨h1,h2⟩:=hiy _ _ _ ey eo
    have hv:Vis X.env.scope x:=by
     rcases Sc.frees _ h2 rfl with q | q
     ·exact .inr (.inl q)
     ·exact .inr (.inr q)
    obtain⟨m0,hn0,hl0⟩:=I.loc
    obtain⟨u,ru,lu⟩:=hl0 o x v h1 e2' hv
    refine⟨u,ru,.inr ⟨hkind x (List.mem_of_getElem? ey),?_⟩⟩
    obtain⟨c,hc⟩:=hall _ h2 rfl
    refine⟨c,hc,?_⟩
    rcases lu with ⟨q,_⟩ | ⟨_,c',hc',hcell⟩
    ·rcases Sc.frees _ h2 rfl with z | z
     ·rw[z] at q;cases q
     ·rw[z] at q;cases q
    ·have:=hcl x c hc
     rw[this] at hc';cases hc'
     obtain⟨oc,ho,hd⟩:=hcell
     exact⟨oc,hk4 _ _ ho,hd⟩
 ·obtain⟨v,oc,ho,hd⟩:=I.cell x c (hcl x c e)
  exact⟨v,oc,hk4 _ _ ho,hd⟩
 ·unfold yP
  show _=N.length
  rw[List.length_append,List.length_replicate,List.length_map,hix,hN]
end
theorem JB {prog:Program} {w:World} {A:Around} {R:Result->Shared->Prop} {s:Shared} {elt target iter:Expr} {scope:Scope} {pos:Pos} {it acc:Value} {env:Env} (I:Nat->Shared->Prop)
  (turn:∀n s,I n s->∀E:Value->Shared->Prop,wpAny (model prog w) A (pyNext it) (λr s₁=>match r with
   | none=>R (.ok .next) s₁
   | some v=>wpAny (model prog w) A (letOwnedTupleGo target it v) (λ_ s₁=>wpAny (model prog w) A (assign target env v) (λ_ s₂=>wpAny (model prog w) A (eval elt env) (λx s₃ =>
     wpAny (model prog w) A (call (.builtin "list.append") [acc,x]) (λ_ s₄=>∃m,m<n/\I m s₄) E s₃) E s₂) E s₁) E s₁) E s)
  (n:Nat) (h:I n s):codeAny (model prog w) A (.compLoop (.ListComp elt [⟨target,iter,[],0⟩] scope pos) 0 it acc env) R s:=by
 refine codeAny_loop rfl I (λn s hI=>?_) n h
 show wpAny _ _ ((compTurn (.ListComp elt [⟨target,iter,[],0⟩] scope pos) 0 it acc env).onRaise (λx=>do noteFrame x env;theTreesLotGoes x)) _ _ s
 refine wpAny_noted ?_
 rw[compTurn_list1]
 refine wpAny_bind (wpAny_standAt (wpAny_bind (wpAny_mono (turn n s hI _) (λr s₁ h₁=>?_) λ_ _ h'=>h')))
 cases r with
 | none=>exact wpAny_pure h₁
 | some v =>
  refine wpAny_bind (wpAny_mono h₁ (λ_ s₁' h₁'=>?_) λ_ _ h'=>h')
  exact wpAny_bind (wpAny_mono h₁' (λ_ s₂ h₂=>wpAny_bind (wpAny_bind (wpAny_mono h₂ (λx s₃ h₃=>wpAny_bind (wpAny_mono h₃
   (λ_ s₄ h₄=>wpAny_pure (wpAny_pure ⟨rfl,h₄⟩)) λ_ _ h'=>h')) λ_ _ h'=>h'))) λ_ _ h'=>h')
noncomputable def jE (g:RG) (te:RE):List D->En->List D->(List D->Prop)->Prop
 | [],_,acc,Q=>Q acc
 | x::xs,ρ,acc,Q=>g x ρ λρ'=>te ρ' λd=>jE g te xs ρ' (acc++[d]) Q
noncomputable def yO (ρ:En) (i:Nat):Option S:=match ρ[i]? with
 | some (some (.d d))=>some (.d d)
 | _=>none
noncomputable def nM (ρ:En) (k:Nat) (ix:List Nat):En:=List.replicate k none++ix.map (yO ρ)
theorem UV {X X':Cx} {ρ:En} {σ:St} {H:Hp} {k:Nat} {ix:List Nat} (so:StOk X ρ σ H) (hK:X'.K=X.K) (hH:X'.H₀=H):StOk X' (nM ρ k ix) (yP σ k ix) H:=by
 have own:∀(i:Nat) (xs:List D),(nM ρ k ix)[i]?≠some (some (S.own xs)):=λi xs e=>by
  unfold nM at e
  by_cases hik:i<k
  ·rw[List.getElem?_append_left (by simpa using hik),List.getElem?_replicate,if_pos hik] at e;cases e
  ·rw[List.getElem?_append_right (by simpa using hik),List.getElem?_map] at e
   cases eo:ix[i-(List.replicate k (none:Option S)).length]? with
   | none=>rw[eo] at e;cases e
   | some o =>
    rw[eo] at e
    have e:some (yO ρ o)=some (some (S.own xs)):=e
    have e:=Option.some.inj e
    unfold yO at e
    split at e <;> cases e
 refine⟨by simp[nM,yP],by rw[hH];exact Same.refl H,λi x e=>?_,λi j xs ys a e1 _ _ _=>absurd e1 (own i xs)⟩
 unfold nM at e
 by_cases hik:i<k
 ·rw[List.getElem?_append_left (by simpa using hik),List.getElem?_replicate,if_pos hik] at e;cases e
 ·rw[List.getElem?_append_right (by simpa using hik),List.getElem?_map,List.length_replicate] at e
  cases eo:ix[i-k]? with
  | none=>rw[eo] at e;cases e
  | some o =>
   rw[eo] at e
   have e:some (yO ρ o)=some (some x):=e
   have e:=Option.some.inj e
   unfold yO at e
   split at e
   ·rename_i d ed
    cases e
    obtain⟨v,h1,h2⟩:=so.rel o _ ed
    refine⟨v,?_,by rw[hK];exact h2⟩
    unfold yP
    rw[List.getElem?_append_right (by simpa using hik),List.getElem?_map,List.length_replicate,eo,Option.map_some,h1];rfl
   ·cases e
section
variable {X:Cx} {pins:List (Addr × Obj)} {σ:St} {H:Hp} {s2:Shared} {scope:Scope} {N:List Str} {cl:List (Str × Addr)} {fp:List Addr} {it:Addr} {tn:Nat->Heap->Prop} {J:It} {xs:List D} {ρ:En}
 {elt target iter:Expr} {pos:Pos} {g:RG} {te:RE} {k:Nat} {ix:List Nat} {ys:List Str} {P:List D->Prop}
theorem _root_.L2.Inv.track {s s':Shared} {H H':Hp} {a:Addr} {vs:List V} {its:List Value} {n:Nat} (I:Inv X pins σ H s) (I':Inv X pins σ H' s') (ha:s.heap.objs.size<=a) (hn:H' a=none)
  (e:s'.heap.get? a=some { cls:=.type "list",data:=.seq its.toArray n }) (rv:Vals vs its) (hz:vs.length<=sizeLine):Inv X pins σ (upd H' a (.lst vs)) s':=by
 have hL:X.env.locals≠a:=Nat.ne_of_lt (Nat.lt_of_lt_of_le I.lt ha)
 have hcell:∀x c,X.env.cells.lookup x=some c->c≠a:=λx c q z=>by
  obtain⟨v,hv⟩:=I.cell x c q
  exact absurd (Nat.lt_of_lt_of_le hv.lt (by rw[z];exact ha)) (Nat.lt_irrefl _)
 have hs0:∀{b:Addr} {o:Obj},X.s₀.heap.get? b=some o->b≠a:=λ{b o} q=>Nat.ne_of_lt (Nat.lt_of_lt_of_le (Heap.lt_size q) (Nat.le_trans I.sz ha))
 refine⟨I'.ok,I'.os,I'.bare,⟨I'.base.keep,I'.base.slot,λb o q n hx=>?_,I'.base.there,λb ys q=>?_,λb o u q=>?_,λb ps q=>?_⟩,I'.loc,I'.cell,?_,λx c q=>?_,λp hp=>?_,λb u q=>?_,I'.len⟩
 ·rw[aR (hs0 q)];exact I'.base.free b o q n hx
 ·rw[aR (aS (I'.base.tups b ys q) hn)];exact I'.base.tups b ys q
 ·rw[aR (aS (I'.base.frzs b o u q) hn)];exact I'.base.frzs b o u q
 ·obtain⟨m,q2⟩:=I'.base.tbls b ps q
  exact⟨m,by rw[aR (aS q2 hn)];exact q2⟩
 ·rw[aR hL];exact I'.free
 ·rw[aR (hcell x c q)];exact I'.freeC x c q
 ·obtain⟨q1,q2,q3,q4,q5⟩:=I'.pin p hp
  have hp1:p.1≠a:=Nat.ne_of_lt (Nat.lt_of_lt_of_le (Heap.lt_size (I.pin p hp).1) ha)
  exact⟨q1,by rw[aR hp1];exact q2,q3,q4,q5⟩
 ·by_cases hb:b=a
  ·subst hb
   rw[bV] at q;cases q
   exact⟨hz,its,n,rv,e⟩
  ·rw[aR hb] at q
   exact (I'.hok b u q).stay (λc v _ w=>w) (λc w=>by rw[aR (aS w hn)];exact w) λc ys w=>by rw[aR (aS w hn)];exact w
theorem wT (hc:X.calm=true) (Sc:CScope X scope) (hcl:∀x c,cl.lookup x=some c->X.env.cells.lookup x=some c) (hall:∀y∈scope.names,y.2 = .free->∃c,cl.lookup y.1=some c)
  (hN:N.length=k+ys.length) (hdrop:N.drop k=ys) (hix:ix.length=ys.length) (hiy:∀(j:Nat) (y:Str) (i:Nat),ys[j]? = some y->ix[j]? = some i->X.N[i]? = some y/\(y,NameKind.free)∈scope.names)
  (hkind:∀y∈ys,(relabel scope X.env).names.lookup y=some .cell\/(relabel scope X.env).names.lookup y=some .free)
  (hg:∀C s H fp,DG (jV X scope N cl C s H fp) target g) (he:∀C s H fp,DE (jV X scope N cl C s H fp) elt te)
  (I2:Inv X pins σ H s2) (so:StOk X ρ σ H) (T:Turn X.prog X.w X.K target J fp it tn) (st:tn 0 s2.heap) (hf:∀b∈fp,pL X pins H b) (ok:LI X J xs H) (hz:xs.length<=sizeLine)
  (hP:jE g te xs (nM ρ k ix) [] P) {RR:Value->Addr->Result->Shared->Prop} {E:Value->Shared->Prop}
  (post:∀(ds:List D) (vs:List V) (its:List Value) (n:Nat) (C:Addr) (s':Shared) (H':Hp),P ds->Same H H'->H' s2.heap.objs.size=none->Reps X.K H' ds vs->Vals vs its->vs.length<=sizeLine ->
   s'.heap.get? s2.heap.objs.size=some { cls:=.type "list",data:=.seq its.toArray n }->Inv X pins σ H' s'->(∃m,s'.heap.Ns C m)->s2.heap.objs.size<C->H' C=none->RR (.ref s2.heap.objs.size) C (.ok .next) s') :
  wpAny (model X.prog X.w) X.A (newList []) (λacc s₃=>wpAny (model X.prog X.w) X.A (newFunctionEnv scope X.env.globals cl [] X.env.qual none .none (some X.env)) (λcenv s₄ =>
   codeAny (model X.prog X.w) X.A (.compStart (.ListComp elt [⟨target,iter,[],0⟩] scope pos) 0 (.ref it) acc { cenv with scope:=relabel scope X.env }) (RR acc cenv.locals) s₄) E s₃) E s2:=by
 refine wpAny_newObj_type (wpAny_newFunctionEnv Sc.nocell (by intro y hy;simp at hy) (λh₁ hns₁ hsb₁=>?_) Sc.kind)
 dsimp only at hns₁ hsb₁ ⊢
 generalize hH2:s2.heap.push { cls:=.type "list",dict:=none,data:=.seq ([]:List Value).toArray } = HP2 at hns₁ hsb₁ ⊢
 have hCs:HP2.objs.size=s2.heap.objs.size+1:=by rw[<-hH2,Heap.size_push]
 have hltC:s2.heap.objs.size<HP2.objs.size:=by rw[hCs];exact Nat.lt_succ_self _
 have hlt:∀b∈fp,b<s2.heap.objs.size:=λb hb=>by
  obtain⟨o,ho,_⟩:=T.obj 0 _ st b hb
  exact Heap.lt_size ho
 have old:∀b o,s2.heap.get? b=some o->h₁.get? b=some o:=λb o e =>
  hsb₁.extBut b o (Nat.ne_of_lt (Nat.lt_trans (Heap.lt_size e) hltC)) (Heap.get?_push_of_some _ (hH2 ▸ Heap.get?_push_of_some _ e))
 have hacc:h₁.get? s2.heap.objs.size=some { cls:=.type "list",data:=.seq ([]:List Value).toArray 0 } :=
  hsb₁.extBut _ _ (Nat.ne_of_lt hltC) (Heap.get?_push_of_some _ (hH2 ▸ Heap.get?_push_size _ rfl))
 have hfr:H s2.heap.objs.size=none:=I2.hok.fresh (Nat.le_refl _)
 let X':=jV X scope N cl HP2.objs.size s2 H fp
 have J0:Inv X' [] (yP σ k ix) H { s2 with heap:=h₁,toks:=s2.toks+([]:List (Str × Value)).length } :=
  ME I2 Sc hcl hall (Nat.le_of_lt hltC) hf hlt old rfl I2.bare hns₁ hN hdrop hix hiy hkind
 have S0:StOk X' (nM ρ k ix) (yP σ k ix) H:=UV so rfl rfl
 have hD0fs:s2.heap.objs.size ∉ X'.fs:=λhb=>by
  have hb:s2.heap.objs.size∈frs X.stack:=hb
  rcases List.mem_cons.mp (I2.stkSub _ hb) with e | e
  ·exact absurd (show X.env.locals<X.env.locals from Nat.lt_of_lt_of_eq I2.lt e) (Nat.lt_irrefl _)
  ·exact I2.nofs (Nat.le_refl _) e
 have fpok:∀{H':Hp} {o:Obj},(∀b∈fp,H' b=none)->∀b∈fp,pL X' [(s2.heap.objs.size,o)] H' b:=λ{H' o} hn b hb=>by
  obtain⟨f0,f1,f2,f3,f4,f5⟩:=hf b hb
  refine⟨hn b hb,Nat.ne_of_lt (Nat.lt_trans (hlt b hb) hltC),λhfs=>?_,.inl hb,λx c e=>f4 x c (hcl x c e),λp hp=>?_⟩
  ·rcases List.mem_cons.mp (I2.stkSub b hfs) with e | e
   ·exact f1 e
   ·exact f2 e
  ·rw[List.mem_singleton.mp (show p∈[(s2.heap.objs.size,o)] from hp)]
   exact Nat.ne_of_gt (hlt b hb)
 have pinD:∀{σ':St} {H':Hp} {s':Shared} {its:List Value} {n:Nat},Inv X' [] σ' H' s'->H' s2.heap.objs.size=none->s'.heap.get? s2.heap.objs.size=some { cls:=.type "list",data:=.seq its.toArray n }->Inv X' [(s2.heap.objs.size,{ cls:=.type "list",data:=.seq its.toArray n })] σ' H' s':=λI' hn e =>
  I'.pins_of λp hp=>by
   have:=List.mem_singleton.mp hp
   subst this
   exact⟨e,hn,Nat.ne_of_lt hltC,hD0fs,λv z=>by cases z⟩
 have loop:∀s₃:Shared,s₃ = { s2 with heap:=h₁,toks:=s2.toks+([]:List (Str × Value)).length } ->
   codeAny (model X.prog X.w) X.A (.compLoop (.ListComp elt [⟨target,iter,[],0⟩] scope pos) 0 (.ref it) (.ref s2.heap.objs.size) (compEnvC scope cl HP2.objs.size X.env)) (RR (.ref s2.heap.objs.size) HP2.objs.size) s₃:=by
  rintro s₃ rfl
  refine JB (λm s'=>∃(i:Nat) (ρ':En) (σ':St) (H':Hp) (ds:List D) (vs:List V) (its:List Value) (n:Nat),m=xs.length-i/\i<=xs.length/\Inv X' [] σ' H' s'/\StOk X' ρ' σ' H'/\tn i s'.heap/\(∀b∈fp,H' b=none) /\
   H' s2.heap.objs.size=none/\s'.heap.get? s2.heap.objs.size=some { cls:=.type "list",data:=.seq its.toArray n }/\Reps X.K H' ds vs/\Vals vs its/\vs.length=i/\jE g te (xs.drop i) ρ' ds P) ?_ xs.length
   ⟨0,nM ρ k ix,yP σ k ix,H,[],[],[],0,rfl,Nat.zero_le _,J0,S0,T.keep _ _ _ st (λb hb o e=>old b o e),λb hb=>(hf b hb).1,hfr,hacc,.nil,.nil,rfl,by simpa using hP⟩
  rintro m s' ⟨i,ρ',σ',H',ds,vs,its,n,rfl,hi,I',S',st',fr',hn',e',rr,rv,hl,hD⟩ E'
  obtain⟨o1,o2⟩:=ok i H' (.of S'.same)
  have I1:=pinD I' hn' e'
  by_cases hlt':i<xs.length
  ·have e:xs.drop i=xs[i]::xs.drop (i+1):=List.drop_eq_getElem_cons hlt'
   rw[e] at hD
   obtain⟨go,yl⟩:=o1 xs[i] (List.getElem?_eq_getElem hlt')
   refine thn (T.item X' rfl rfl rfl hc i _ s' σ' H' E' I1 (fpok fr') st' go) λr s4 h=>?_
   obtain⟨u,hr,h4⟩:=h
   subst hr
   refine thn h4 λ_ s5 h=>?_
   obtain⟨x,H5,I5,r5,y5,st5,fr5⟩:=h
   obtain⟨s45,rx5⟩:=yl x H5 y5
   have I5':=I5.pinned (fpok fr5) (T.obj _ _ st5)
   refine wpAny_mono (hg _ _ _ _ _ s5 σ' H5 x u (λσ6 H6=>∃ρ6,te ρ6 (λd=>jE g te (xs.drop (i+1)) ρ6 (ds++[d]) P)/\Keep H5 H6/\StOk X' ρ6 σ6 H6) I5' r5 ⟨xs[i],ρ',_,rx5,S'.ext s45,hD,λρ6 σ6 H6 q6 k6 s6=>⟨ρ6,q6,k6,s6⟩⟩) (λ_ s6 h=>?_) λ_ _ z=>z.elim
   obtain⟨σ6,H6,I6,ρ6,q6,k6,S6⟩:=h
   refine wpAny_mono (he _ _ _ _ _ s6 σ6 H6 (λv H7=>∃d,jE g te (xs.drop (i+1)) ρ6 (ds++[d]) P/\Same H6 H7/\Rep X.K H7 d v) I6 ⟨ρ6,_,S6,q6,λd v H7 q7 s7 r7=>⟨d,q7,s7,r7⟩⟩) (λu7 s7 h=>?_) λ_ _ z=>z.elim
   obtain⟨v7,H7,I7,rv7,d,q7,s67,r7⟩:=h
   obtain⟨e7,n7,_,_,_⟩:=I7.pin (s2.heap.objs.size,_) (List.mem_append_right _ (List.mem_append_left _ List.mem_cons_self))
   have hsz:its.toArray.size+1<=sizeLine:=by
    rw[List.size_toArray,<-rv.length,hl]
    omega
   refine call_meets F.slot_list_append ⟨_,e7,rfl⟩ F.entry_list_append (F.args_list_append_2 _ _) (PySem.list_append s2.heap.objs.size its.toArray n u7 (by omega)) ⟨e7,?_⟩
   have e8:=PySem.IsL.update e7 (λa=>a.push u7)
   have I8:Inv X' [] σ6 H7 s7:=I7.pins_of λp hp=>absurd hp (by simp)
   have upd8:∀b o,b≠s2.heap.objs.size->s7.heap.get? b=some o->(s7.heap.update s2.heap.objs.size (Obj.mapSeq λa=>a.push u7)).get? b=some o:=λb o hb q=>(Heap.get?_update_other s7.heap _ (Ne.symm hb)).trans q
   have I9:Inv X' [] σ6 H7 { s7 with heap:=s7.heap.update s2.heap.objs.size (Obj.mapSeq λa=>a.push u7) } :=
    I8.turned (t':=s7.toks) upd8 n7 (Nat.ne_of_lt hltC) (.inr (Nat.le_refl _)) (λx c q z=>by
     obtain⟨v,hv⟩:=I2.cell x c (hcl x c q)
     exact absurd hv.lt (by rw[z];exact Nat.lt_irrefl _)) (λp hp=>absurd (show p∈([]:List (Addr × Obj)) from hp) (by simp))
   have k57:Keep H5 H7:=k6.trans (.of s67)
   have k':Keep H' H7:=(Keep.of s45).trans k57
   refine⟨xs.length-(i+1),by omega,i+1,ρ6,σ6,H7,ds++[d],vs++[v7],its++[u7],_,rfl,hlt',I9,S6.ext s67,?_,λb hb=>?_,n7,by simpa using e8,(rr.keep k').append (.cons r7 .nil),rv.append (.cons rv7 .nil),by rw[List.length_append,hl];rfl,q7⟩
   ·refine T.keep _ _ _ st5 λb hb o q=>?_
    have q7':=(I7.pin (b,o) (List.mem_append_right _ (List.mem_append_right _ (kD hb q)))).1
    exact upd8 b o (Nat.ne_of_lt (hlt b hb)) q7'
   ·obtain⟨o,q,_⟩:=T.obj _ _ st5 b hb
    exact (I7.pin (b,o) (List.mem_append_right _ (List.mem_append_right _ (kD hb q)))).2.1
  ·have hie:i=xs.length:=by omega
   subst hie
   rw[List.drop_length] at hD
   refine thn (T.done X' rfl rfl rfl hc _ _ s' σ' H' E' I1 (fpok fr') st' (o2 (Nat.le_refl _))) λr s4 h=>?_
   obtain⟨hr,I4⟩:=h
   subst hr
   obtain⟨e4,n4,_,_,_⟩:=I4.pin (s2.heap.objs.size,_) (List.mem_append_right _ List.mem_cons_self)
   obtain⟨m4,hn4,_⟩:=I4.loc
   have I5:Inv X pins σ H' s4:=I2.call' (ch:=fp) I4.os I4.base I4.hok I4.bare λb hb=>by
    obtain⟨f0,f1,f2,f3,f4,f5⟩:=hf b hb
    exact⟨f3,f1,f4,f5⟩
   exact post ds vs its n HP2.objs.size s4 H' hD S'.same n4 rr rv (by rw[hl];exact hz) e4 I5 ⟨m4,hn4⟩ hltC I4.free
 exact codeAny_compStart_list (loop _ rfl) (T.self X.A 0 _ _ _ (T.keep _ _ _ st λb hb o e=>old b o e) (loop _ rfl))
end
noncomputable def GQ (X:Cx) (scope:Scope) (N:List Str) (k:Nat) (ix:List Nat):Bool :=
 scope.kind == .function && scope.names.all (λy=>y.2 != .cell) && scope.names.all (λy=>y.2 != .local || scope.names.lookup y.1 == some .local) &&
 scope.names.all (λy=>y.2 != .free || X.env.kindOf y.1 == some .cell || X.env.kindOf y.1 == some .free) &&
 N.length == k+ix.length && ((N.drop k).zip ix).all (λp=>X.N[p.2]? == some p.1 && scope.names.contains (p.1,.free)) &&
 (N.drop k).all (λy=>(relabel scope X.env).names.lookup y == some .cell || (relabel scope X.env).names.lookup y == some .free)
structure CompF (X:Cx) (scope:Scope) (N:List Str) (k:Nat) (ix:List Nat):Prop where
 sc:CScope X scope
 hN:N.length=k+(N.drop k).length
 hix:ix.length=(N.drop k).length
 hiy:∀(j:Nat) (y:Str) (i:Nat),(N.drop k)[j]? = some y->ix[j]? = some i->X.N[i]? = some y/\(y,NameKind.free)∈scope.names
 hkind:∀y∈N.drop k,(relabel scope X.env).names.lookup y=some .cell\/(relabel scope X.env).names.lookup y=some .free
theorem AT {X:Cx} {scope:Scope} {N:List Str} {k:Nat} {ix:List Nat} (h:GQ X scope N k ix=true):CompF X scope N k ix:=by
 unfold GQ at h
 simp only[Bool.and_eq_true,List.all_eq_true,bne_iff_ne,ne_eq,Bool.or_eq_true,beq_iff_eq] at h
 obtain⟨⟨⟨⟨⟨⟨h1,h2⟩,h3⟩,h4⟩,h5⟩,h6⟩,h7⟩:=h
 have hl:(N.drop k).length=ix.length:=by rw[List.length_drop];omega
 refine⟨⟨h1,h2,λy hy e=>?_,λy hy e=>?_⟩,by omega,hl.symm,λj y i e1 e2=>?_,h7⟩
 ·rcases h3 y hy with q | q
  ·exact absurd e q
  ·exact q
 ·rcases h4 y hy with (q | q) | q
  ·exact absurd e q
  ·exact .inl q
  ·exact .inr q
 ·have hm:(y,i)∈(N.drop k).zip ix:=by
   refine List.mem_of_getElem? (i:=j) ?_
   rw[List.getElem?_zip_eq_some]
   exact⟨e1,e2⟩
  obtain⟨q1,q2⟩:=h6 _ hm
  exact⟨q1,List.contains_iff_mem.mp q2⟩
noncomputable def fH (ti:RA) (k:Nat) (ix:List Nat) (g:RG) (te:RE):RA:=λρ Q=>ti ρ λxs=>Sz xs.length/\jE g te xs (nM ρ k ix) [] Q
section
variable {X:Cx} {scope:Scope} {elt target iter:Expr} {pos:Pos} {g:RG} {te:RE} {ti:RA}
theorem qW {pins:List (Addr × Obj)} {σ:St} {H H':Hp} {s s':Shared} {C:Addr} {h':Heap} {t':Nat} (I2:Inv X pins σ H s) {σ':St} (I':Inv X pins σ' H' s') (hC:s.heap.objs.size<=C) (hn:H' C=none) (hs:Heap.SameBut C s'.heap h') :
  Inv X pins σ' H' { s' with heap:=h',toks:=t' } :=
 I'.turned (λb o hb e=>(hs.2 b hb).trans e) hn (Nat.ne_of_gt (Nat.lt_of_lt_of_le I2.lt hC)) (.inr (Nat.le_trans I2.sz hC)) (λx c e z=>by
  obtain⟨v,hv⟩:=I2.cell x c e
  exact absurd (Nat.lt_of_lt_of_le hv.lt (by rw[z];exact hC)) (Nat.lt_irrefl _)) λp hp z=>absurd (Nat.lt_of_lt_of_le (Heap.lt_size (I2.pin p hp).1) (by rw[z];exact hC)) (Nat.lt_irrefl _)
theorem jZ (N:List Str) (k:Nat) (ix:List Nat) (hi:DI X target iter ti) (hg:∀cl C s H fp,DG (jV X scope N cl C s H fp) target g) (he:∀cl C s H fp,DE (jV X scope N cl C s H fp) elt te)
  (hc:X.calm=true:=by rfl) (hB:GQ X scope N k ix=true:=by rfl) (hs:∀x,foldedSetIterable iter X.env x=pure x:=by intro _;rfl):DO X (.ListComp elt [⟨target,iter,[],0⟩] scope pos) (fH ti k ix g te):=by
 intro pins s σ H Q I hh_0
 obtain⟨ρ,P,so,q,kk⟩:=hh_0
 have F:=AT hB
 obtain⟨cl,hclos,hcl,hall⟩:=sY (scope:=scope) (env:=X.env) λy hy hf=>I.ok.has _ (F.sc.frees y hy hf)
 rw[eval_ListComp]
 refine wpAny_comprehension_free (use:=none) rfl hs hclos F.sc.kind F.sc.locs (thn (hi pins s σ H (λJ H'=>∃xs,Same H H'/\LI X J xs H'/\xs.length<=sizeLine/\jE g te xs (nM ρ k ix) [] P) I ⟨ρ,_,so,q,λxs J H' hx s1 ok=>⟨xs,s1,ok,hx.1.ok,hx.2⟩⟩) λv s1 h1=>thn h1 λitv s2 h2=>?_)
 obtain⟨it,fp,tn,J,H',rfl,I2,T,st,hf,xs,s01,ok,hz,hD⟩:=h2
 refine wT (RR:=λacc C=>compPost (model X.prog X.w) X.A X.xe none (EP X pins σ Q) acc C) hc F.sc hcl hall F.hN rfl F.hix F.hiy F.hkind (hg cl) (he cl) I2 (so.ext s01) T st hf ok hz hD ?_
 intro ds vs its n C s' H2 hP s12 hn rr rv hl e I' ⟨m,hns⟩ hltC hnC
 refine⟨m,hns,λh' hs'=>?_⟩
 have I3:Inv X pins σ H2 { s' with heap:=h' }:=qW (t':=s'.toks) I2 I' (Nat.le_of_lt hltC) hnC hs'
 have e3:h'.get? s2.heap.objs.size=some { cls:=.type "list",data:=.seq its.toArray n }:=(hs'.2 _ (Nat.ne_of_lt hltC)).trans e
 exact⟨.ref s2.heap.objs.size,_,I2.track I3 (Nat.le_refl _) hn e3 rv hl,rfl,kk ds _ vs H2 hP (s01.trans s12) hn rr⟩
theorem oP {i:Nat} {y:Str} {pos' spos:Pos} (N:List Str) (k:Nat) (ix:List Nat) (hN:X.N.Nodup) (hi:DI X target iter ti) (hg:∀cl C s H fp,DG (jV X scope N cl C s H fp) target g) (he:∀cl C s H fp,DE (jV X scope N cl C s H fp) elt te)
  (hy:X.N[i]? = some y:=by rfl) (hx:X.env.scope.names.lookup y=some .local:=by rfl) (hc:X.calm=true:=by rfl) (hB:GQ X scope N k ix=true:=by rfl) (hs:∀x,foldedSetIterable iter X.env x=pure x:=by intro _;rfl)
  (hsw:swapsWith (.ListComp elt [⟨target,iter,[],0⟩] scope pos) (some (.Name y pos')) spos.line X.env=pure true:=by rfl) :
  DS X (.Assign [.Name y pos'] (.ListComp elt [⟨target,iter,[],0⟩] scope pos) spos) (iF i (fH ti k ix g te)):=by
 intro pins s σ H De I hh_0
 obtain⟨ρ,E,so,q,nn,rt,bk,ct⟩:=hh_0
 have F:=AT hB
 obtain⟨cl,hclos,hcl,hall⟩:=sY (scope:=scope) (env:=X.env) λy hy hf=>I.ok.has _ (F.sc.frees y hy hf)
 rw[exec_Assign_Name_used _ _ _ _ hsw]
 refine wpAny_bind (wpAny_standAt (wpAny_bind ?_))
 show wpAny _ X.A (do let _ <-comprehension (.ListComp elt [⟨target,iter,[],0⟩] scope pos) scope X.env _ (newList []) false (eval iter X.env) (some (assign (.Name y pos') X.env))) _ _ s
 refine wpAny_bind (wpAny_mono (wpAny_comprehension_free (use:=some (assign (.Name y pos') X.env)) (Q:=λ_ s'=>SP X pins De .next s') rfl hs hclos F.sc.kind F.sc.locs
  (thn (hi pins s σ H (λJ H'=>∃xs,Same H H'/\LI X J xs H'/\xs.length<=sizeLine/\jE g te xs (nM ρ k ix) [] (λds=>E.nx (ρ.set i (some (.own ds))))) I ⟨ρ,_,so,q,λxs J H' hx s1 ok=>⟨xs,s1,ok,hx.1.ok,hx.2⟩⟩) λv s1 h1=>thn h1 λitv s2 h2=>?_)) (λ_ s' hq=>wpAny_pure (wpAny_pure hq)) λ_ _ e=>e)
 obtain⟨it,fp,tn,J,H',rfl,I2,T,st,hf,xs,s01,ok,hz,hD⟩:=h2
 refine wT (RR:=λacc C=>compPost (model X.prog X.w) X.A X.xe (some (assign (.Name y pos') X.env)) (λ_ s'=>SP X pins De .next s') acc C) hc F.sc hcl hall F.hN rfl F.hix F.hiy F.hkind (hg cl) (he cl) I2 (so.ext s01) T st hf ok hz hD ?_
 intro ds vs its n C s' H2 hP s12 hn rr rv hl e I' ⟨m,hns⟩ hltC hnC
 have I3:=I2.track I' (Nat.le_refl _) hn e rv hl
 have hneC:s2.heap.objs.size≠C:=Nat.ne_of_lt hltC
 have so3:StOk X (ρ.set i (some (.own ds))) (σ.set i (some (.ref s2.heap.objs.size))) (upd H2 s2.heap.objs.size (.lst vs)):=(so.ext (s01.trans s12)).set_own hn rr
 have k3:Keep H (upd H2 s2.heap.objs.size (.lst vs)):=(Keep.of (s01.trans s12)).trans (.of λb o h=>by rw[aR (aS h hn)];exact h)
 show wpAny (model X.prog X.w) X.A (assign (.Name y pos') X.env (.ref s2.heap.objs.size)) _ _ s'
 refine wpAny_assign_Name (xQ I3 hN hy (.inl hx) (v:=.ref s2.heap.objs.size) rfl (λs4 I4 ⟨a,sb,ha⟩=>?_) (.inr hx))
 have hCa:C≠a:=by
  rcases ha with rfl | ha
  ·exact Nat.ne_of_gt (Nat.lt_trans I2.lt hltC)
  ·obtain⟨v,hv⟩:=I2.cell _ a ha
   exact Nat.ne_of_gt (Nat.lt_trans hv.lt hltC)
 refine⟨m,hns.sameBut sb hCa,λh' hs'=>⟨_,_,qW (t':=s4.toks) I2 I4 (Nat.le_of_lt hltC) (by rw[aR (Ne.symm hneC)];exact hnC) hs',nn _ _ _ hP k3 so3⟩⟩
end
section
variable {X:Cx} {e a b:Expr} {pos apos cpos npos:Pos} {te:RE} {x:Str}
noncomputable def rA (i:Nat) (te:RE):RS:=λE ρ=>match ρ[i]? with
 | some (some (.own xs))=>te ρ λd=>Sz (xs.length+1)/\E.nx (ρ.set i (some (.own (xs++[d]))))
 | _=>False
theorem jI (i:Nat) (he:DE X e te) (hN:X.N[i]? = some x:=by rfl) (hv:Vis X.env.scope x:=by walk_at "vis") (hd:(x == ("__debug__":Str))=false:=by decide) (hcd:(x == ("__classdict__":Str))=false:=by decide)
  (hbase:attributeBase (.Name x npos) "append" X.env (eval (.Name x npos) X.env)=eval (.Name x npos) X.env:=by rfl)
  (hfew:((backTo cpos (starEach [e] X.env)).all (λx=>!x.1) && (backToKw cpos (keywordEach [] X.env)).all (λx=>x.1.isSome) && decide (([e]:List Expr).length+([]:List Keyword).length+(if ([]:List Keyword).isEmpty then 0 else 1)<30))=true:=by rfl)
  (hline:(apos.endLine == cpos.line)=true:=by rfl) (hs:starEach [e] X.env=[(false,eval e X.env)]:=by rfl) (hn:starEach [] X.env=[]:=by rfl) (hsw:swapsWith (.Call (.Attribute (.Name x npos) "append" apos) [e] [] cpos) none pos.line X.env=pure false:=by rfl) :
  DS X (.Expr (.Call (.Attribute (.Name x npos) "append" apos) [e] [] cpos) pos) (rA i te):=by
 refine PS.mono (HX (UJ PySem.F.plainAttrs_list PySem.F.slot_list_append PySem.F.type_list_append KD (pv i hN hv hd hcd) (iC he hs hn) hbase hfew hline (by rw[hs,hn]) (by rw[hn];rfl)) hsw) λDe σ H hh=>fM hh λρ E so q n r bk ct=>?_
 unfold rA at q
 split at q
 ·rename_i xs ex
  obtain⟨v,h1,p,vs,ev,hp,h0,rr⟩:=so.rel i _ ex
  subst ev
  refine⟨.ref p,h1,.inl ⟨rfl,vs,SqL.of hp⟩,ρ,_,so,q,λd v H1 hd s1 rd=>?_⟩
  have hp1:=s1 _ _ hp
  obtain⟨so2,k2⟩:=(so.ext s1).upd_own ex h1 hp1 h0 ((rr.keep (.of s1)).append (.cons rd .nil))
  have hsz:xs.length+1<=sizeLine:=hd.1.ok
  exact⟨p,vs,v,rfl,rfl,hp1,by rw[<-rr.length];omega,n _ _ _ hd.2 ((Keep.of s1).trans k2) so2⟩
 ·exact q.elim
noncomputable def IB (i:Nat):RS:=λE ρ=>match ρ[i]? with
 | some (some (.own xs))=>xs≠[]/\E.nx (ρ.set i (some (.own xs.dropLast)))
 | _=>False
theorem VB (i:Nat) (hN:X.N[i]? = some x:=by rfl) (hv:Vis X.env.scope x:=by walk_at "vis") (hd:(x == ("__debug__":Str))=false:=by decide) (hcd:(x == ("__classdict__":Str))=false:=by decide)
  (hbase:attributeBase (.Name x npos) "pop" X.env (eval (.Name x npos) X.env)=eval (.Name x npos) X.env:=by rfl)
  (hline:(apos.endLine == cpos.line)=true:=by rfl) (hsw:swapsWith (.Call (.Attribute (.Name x npos) "pop" apos) [] [] cpos) none pos.line X.env=pure false:=by rfl) :
  DS X (.Expr (.Call (.Attribute (.Name x npos) "pop" apos) [] [] cpos) pos) (IB i):=by
 refine PS.mono (HX (WE PySem.F.plainAttrs_list PySem.F.slot_list_pop PySem.F.type_list_pop VY (pv i hN hv hd hcd) hbase hline) hsw) λDe σ H hh=>fM hh λρ E so q n r bk ct=>?_
 unfold IB at q
 split at q
 ·rename_i xs ex
  obtain⟨v,h1,p,vs,ev,hp,h0,rr⟩:=so.rel i _ ex
  subst ev
  have hl:=rr.length
  have hne:0<xs.length:=List.length_pos_iff.mpr q.1
  have hg:vs[vs.length-1]? = some (vs[vs.length-1]'(by omega)):=List.getElem?_eq_getElem _
  obtain⟨so2,k2⟩:=so.upd_own ex h1 hp h0 rr.dropLast
  exact⟨.ref p,h1,.inl ⟨rfl,vs,SqL.of hp⟩,p,vs,_,rfl,rfl,hp,hg,n _ _ _ q.2 k2 so2⟩
 ·exact q.elim
noncomputable def qO (i:Nat) (te tk:RE):RS:=λE ρ=>match ρ[i]? with
 | some (some (.own xs))=>te ρ λd=>tk ρ λkd=>match kd with
  | .int k=>match ixN xs.length k with
   | some j=>E.nx (ρ.set i (some (.own (xs.set j d))))
   | none=>False
  | _=>False
 | _=>False
theorem BD {k:Expr} {tk:RE} {spos:Pos} (i:Nat) (he:DE X e te) (hk:DE X k tk) (hN:X.N[i]? = some x:=by rfl) (hv:Vis X.env.scope x:=by walk_at "vis") (hd:(x == ("__debug__":Str))=false:=by decide) (hcd:(x == ("__classdict__":Str))=false:=by decide)
  (ha:∀v,assign (.Subscript (.Name x npos) k spos) X.env v=(do
   let ov <-holding [v] (eval (.Name x npos) X.env)
   let iv <-holding [v,ov] (eval k X.env)
   standAt spos
   holding [v,ov,iv] (setItem ov iv v)
   release [v,ov,iv] []):=by intro _;rfl)
  (hs:swapsWithSole [.Subscript (.Name x npos) k spos] e pos.line X.env=pure false:=by rfl) (hw:swappedStores [.Subscript (.Name x npos) k spos] e X.env=pure none:=by rfl)
  (h1:(assignEach [.Subscript (.Name x npos) k spos] X.env).map (·.2)=[assign (.Subscript (.Name x npos) k spos) X.env]:=by rfl) :
  DS X (.Assign [.Subscript (.Name x npos) k spos] e pos) (qO i te tk):=by
 refine PS.mono (OI he (WM (pv i hN hv hd hcd) hk PK ha) hs hw h1) λDe σ H hh=>fM hh λρ E so q n r bk ct=>?_
 unfold qO at q
 split at q
 ·rename_i xs ex
  obtain⟨w',h1,p,vs,ev,hp,h0,rr⟩:=so.rel i _ ex
  subst ev
  refine⟨ρ,_,so,q,λd v H1 q1 s1 rd=>⟨.ref p,h1,ρ,_,so.ext s1,q1,λkd u H2 q2 s2 rk=>?_⟩⟩
  cases kd with
  | int k =>
   dsimp only at q2
   split at q2
   ·rename_i j hj
    have hp2:=(s1.trans s2) _ _ hp
    obtain⟨so2,k2⟩:=((so.ext s1).ext s2).upd_own ex h1 hp2 h0 ((rr.keep (.of (s1.trans s2))).set (rd.keep (.of s2)) j)
    exact⟨p,vs,k,j,rfl,rk.int_inv,hp2,by rw[<-rr.length];exact hj,n _ _ _ q2 ((Keep.of (s1.trans s2)).trans k2) so2⟩
   ·exact q2.elim
  | _=>exact q2.elim
 ·exact q.elim
end
section
variable {X:Cx} {e a b:Expr} {pos p:Pos}
theorem RU:OpR X (binaryOp .Add) (λx y H Q=>∃l b xs zs,x = .ref l/\y = .ref b/\SqL X.K H l xs/\SqL X.K H b zs/\xs.length+zs.length<=sizeLine/\∀p,H p=none->Q (.ref p) (upd H p (.lst (xs++zs)))):=by
 intro pins s σ H x y v u Q I rx ry h
 obtain⟨l,b,xs,zs,rfl,rfl,hH,hB,hz,q⟩:=h
 cases rx
 cases ry
 obtain⟨its,r,⟨o,n,e,hc,hd,hs⟩,hl⟩:=I.list hH
 obtain⟨its2,r2,⟨o2,n2,e2,hc2,hd2,hs2⟩,hl2⟩:=I.list hB
 obtain⟨c,d,dt,sl⟩:=o
 obtain⟨c2,d2,dt2,sl2⟩:=o2
 dsimp only at hc hs hd hc2 hs2 hd2
 subst hc hs hd hc2 hs2 hd2
 have hl1:=r.length
 have hl2:=r2.length
 refine concat_meets (T:="list") (id:="list.__add__") ⟨_,e,rfl⟩ ⟨_,e2,rfl⟩ (by kernel_rfl) (by kernel_rfl) PySem.F.slot_list_add PySem.F.entry_list_add (PySem.F.args_list_add_2 _ _)
  (list_addW l b its.toArray its2.toArray n n2 none none sl sl2 (by rw[List.size_toArray,List.size_toArray];omega)) ⟨e,e2,?_⟩
 have ea:its.toArray++its2.toArray=(its++its2).toArray:=by simp
 rw[ea]
 exact⟨.ref _,_,I.lnew (t':=s.toks) (r.append r2) (by rw[List.length_append];omega),rfl,q _ I.fresh⟩
noncomputable def FzQ (X:Cx) (Q:VK):VK:=λv H'=>Q v H'\/∃p vs H1,v = .ref p/\H'=upd H1 p (.lst vs)/\H1 p=none/\∀H2,Same H1 H2->FzL X.K H2 p vs->Q v H2
theorem TW {pins:List (Addr × Obj)} {σ:St} {Q:VK} {u:Value} {s:Shared} (h:EP X pins σ (FzQ X Q) u s):EP X pins σ Q u s:=by
 obtain⟨v,H',I,rv,q | ⟨p,vs,H1,rfl,rfl,hn,q⟩⟩:=h
 ·exact⟨v,H',I,rv,q⟩
 ·obtain⟨o,I2⟩:=Inv.freeze I (a:=p) (xs:=vs) bV
  exact⟨.ref p,_,I2,rv,q _ (λb u e=>by rw[aR (aS e hn),aR (aS e hn)];exact e) (.inl ⟨o,bV⟩)⟩
theorem PE.frz {t:TE} (h:PE X e t):PE X e (λσ H Q=>t σ H (FzQ X Q)):=λpins s σ H Q I q=>thn (h pins s σ H _ I q) λ_ _=>TW
theorem OpR.frz {f:Value->Value->Sem Value} {r:R2} (h:OpR X f r):OpR X f (λx y H Q=>r x y H (FzQ X Q)):=λpins s σ H x y v u Q I rx ry q=>thn (h pins s σ H x y v u _ I rx ry q) λ_ _=>TW
noncomputable def lF:R22:=λx y Q=>match x,y with
 | .int i,.int j=>Q (.int (i+j))
 | .lst xs,.lst ys=>Sz (xs.length+ys.length)/\Q (.lst (xs++ys))
 | .tup xs,.tup ys=>xs≠[]/\Sz (xs.length+ys.length)/\Q (.tup (xs++ys))
 | _,_=>False
theorem upd_new {H:Hp} {p:Addr} {o:HO} (hp:H p=none):Same H (upd H p o):=λb u e=>by rw[aR (aS e hp)];exact e
theorem mD:OpD X (binaryOp .Add) lF:=by
 intro pins s σ H x y v u Q I rx ry hh_0
 obtain⟨d,e,P,r1,r2,q,k⟩:=hh_0
 unfold lF at q;split at q
 ·exact bM pins s σ H x y v u Q I rx ry ⟨_,_,P,r1,r2,q,k⟩
 ·rename_i xs ys
  obtain⟨a,vs,rfl,ha,ra⟩:=r1.lst
  obtain⟨b,ws,rfl,hb,rb⟩:=r2.lst
  have hsz:xs.length+ys.length<=sizeLine:=q.1.ok
  refine OpR.frz RU pins s σ H _ _ v u Q I rx ry ⟨a,b,vs,ws,rfl,rfl,ha,hb,by rw[<-ra.length,<-rb.length];exact hsz,λp hp=>.inr ⟨p,_,H,rfl,rfl,hp,λH2 s2 fz=>k _ _ H2 q.2 s2 (.lst fz ((ra.append rb).keep (.of s2)))⟩⟩
 ·rename_i xs ys
  obtain⟨a,vs,rfl,ha,ra⟩:=r1.tup
  obtain⟨b,ws,rfl,hb,rb⟩:=r2.tup
  have hsz:xs.length+ys.length<=sizeLine:=q.2.1.ok
  have hl:=ra.length
  refine RV pins s σ H _ _ v u Q I rx ry ⟨a,b,vs,ws,rfl,rfl,SqT.of ha,SqT.of hb,λz=>q.1 (List.length_eq_zero_iff.mp (by rw[hl,z];rfl)),by rw[<-ra.length,<-rb.length];exact hsz,λz=>?_,λz p hp=>?_⟩
  ·subst z
   cases rb
   have:=k _ (.ref a) H q.2.2 (Same.refl H)
   rw[List.append_nil] at this
   exact this (.tup ha ra)
  ·exact k _ _ _ q.2.2 (upd_new hp) (.tup bV ((ra.append rb).keep (.of (upd_new hp))))
 ·exact q.elim
noncomputable def zZ (te:RE) (tl th:RO):RE:=λρ Q=>te ρ λx=>tl ρ λl=>th ρ λu=>match x with
 | .lst ds=>Q (.lst (jU ds l u))
 | .tup ds=>¬(HT.sIx ds.length 0 l=0/\HT.sIx ds.length ds.length u=ds.length)/\Q (.tup (jU ds l u))
 | _=>False
theorem AV {K:PySem.W.Frag} {H:Hp} {ds:List D} {vs:List V} (l u:Option Int) (rr:Reps K H ds vs):Reps K H (jU ds l u) (vN vs l u):=by
 unfold jU vN
 rw[<-rr.length]
 exact (rr.drop _).take _
theorem lG {lo hi:Option Expr} {te:RE} {tl th:RO} {p2:Pos} (he:DB X e te) (hl:DP X lo tl) (hu:DP X hi th):DE X (.Subscript e (.Slice lo hi none p2) pos) (zZ te tl th):=by
 refine PE.mono (PE.frz (CN (IH.or XF) he hl hu)) λσ H Q hh=>cB hh λρ P st q k=>?_
 refine⟨ρ,_,st,q,λd v H1 hd s1 r1=>⟨ρ,_,st.ext s1,hd,λl H2 h2 s2=>⟨ρ,_,(st.ext s1).ext s2,h2,λu H3 h3 s3=>?_⟩⟩⟩
 have s03:=(s1.trans s2).trans s3
 cases d with
 | lst ds =>
  obtain⟨p,vs,rfl,hq,rr⟩:=(r1.same (s2.trans s3)).lst
  exact .inl ⟨p,vs,rfl,hq,λp' hp'=>.inr ⟨p',_,H3,rfl,rfl,hp',λH4 s4 fz=>k _ _ H4 h3 (s03.trans s4) (.lst fz ((AV l u rr).keep (.of s4)))⟩⟩
 | tup ds =>
  obtain⟨p,vs,rfl,hq,rr⟩:=(r1.same (s2.trans s3)).tup
  refine .inr ⟨p,vs,rfl,SqT.of hq,by rw[<-rr.length];exact h3.1,λp' hp'=>.inl ?_⟩
  exact k _ _ _ h3.2 (s03.trans (upd_new hp')) (.tup bV ((AV l u rr).keep (.of (upd_new hp'))))
 | _=>exact h3.elim
variable {te:RE}
noncomputable def QO:D->(D->Prop)->Prop:=λd Q=>match d with
 | .lst ds=>Q (.lst ds)
 | .tup ds=>Q (.lst ds)
 | _=>False
theorem wQ:bootBuiltins "list" = some (.type "list"):=by decide +kernel
theorem EF:bootBuiltins "tuple" = some (.type "tuple"):=by decide +kernel
noncomputable def tH:D->(D->Prop)->Prop:=λd Q=>match d with
 | .lst ds=>Q (.tup ds)
 | .tup ds=>Q (.tup ds)
 | _=>False
theorem BA (hm:X.mg "tuple" = none) (h:DB X e te) (hg:Gl X "tuple":=by rfl) (hs:starEach [e] X.env=[(false,eval e X.env)]:=by rfl) (hn:starEach [] X.env=[]:=by rfl):DE X (.Call (.Name "tuple" p) [e] [] pos) (r1 tH te):=by
 refine PE.mono (xH vM hg hm EF (iC h hs hn) (by decide) (by decide) (by rw[hs,hn]) (by rw[hn];rfl)) λσ H Q hh=>cB hh λρ P st q k=>⟨ρ,_,st,q,λd v H1 hd s1 r=>?_⟩
 unfold tH at hd;split at hd
 ·obtain⟨p,vs,rfl,hq,rr⟩:=r.lst
  exact⟨p,vs,rfl,.inl ⟨hq,λp' hp'=>k _ _ _ hd (s1.trans (upd_new hp')) (.tup bV (rr.keep (.of (upd_new hp'))))⟩⟩
 ·obtain⟨p,vs,rfl,hq,rr⟩:=r.tup
  exact⟨p,vs,rfl,.inr ⟨SqT.of hq,k _ _ H1 hd s1 (.tup hq rr)⟩⟩
 ·exact hd.elim
theorem iP:∀{ns:List Int} {its:List Value},Vals (ns.map V.int) its->∃xs:List (Int × Tok),its.toArray=intItems xs.toArray/\xs.map Prod.fst=ns
 | [],_,.nil=>⟨[],by simp[intItems],rfl⟩
 | n::ns,_,.cons ⟨t,rfl⟩ r=>by
  obtain⟨xs,h1,h2⟩:=iP r
  refine⟨(n,t)::xs,?_,by simp[h2]⟩
  have h3:=congrArg Array.toList h1
  simp[intItems] at h3 ⊢
  exact h3
theorem IY (hc:X.calm=true):iK X (.builtin "sum") (λxs H Q=>∃(p:Addr) (ns:List Int),xs=[.ref p]/\SqL X.K H p (ns.map V.int)/\Q (.int ns.sum) H):=by
 intro pins s σ H xs us Q I r h
 obtain⟨p,ns,rfl,hq,q⟩:=h
 obtain⟨u,rfl,rx⟩:=jT r
 cases rx
 obtain⟨its,r',pl,hz⟩:=I.list hq
 obtain⟨ys,h1,h2⟩:=iP r'
 rw[h1] at pl
 refine sum_intListG (I.ok.hd hc) pl.isList λh' tk t' hk=>⟨.int ns.sum,H,I.kept hk,⟨t',?_⟩,q⟩
 rw[preSum_eq,List.take_of_length_le (by simp),<-h2]
theorem mC {ys:List (Int × Tok)} {ns:List Int} (h:ys.map Prod.fst=ns) {i:Nat} (hi:i<ns.length):numAt ys.toArray i=ns[i]:=by
 subst h
 have hi':i<ys.length:=by simpa using hi
 simp[numAt,hi']
theorem IU (hc:X.calm=true):iK X (.builtin "max") (λxs H Q=>∃(p:Addr) (ns:List Int),xs=[.ref p]/\SqL X.K H p (ns.map V.int)/\ns≠[]/\∀M,M∈ns->(∀a∈ns,a<=M)->Q (.int M) H):=by
 intro pins s σ H xs us Q I r h
 obtain⟨p,ns,rfl,hq,hne,q⟩:=h
 obtain⟨u,rfl,rx⟩:=jT r
 cases rx
 obtain⟨its,r',pl,hz⟩:=I.list hq
 obtain⟨ys,h1,h2⟩:=iP r'
 rw[h1] at pl
 have hl:ys.length=ns.length:=by rw[<-h2];simp
 have hp:0<ns.length:=List.length_pos_iff.mpr hne
 refine max_intList (I.ok.hd hc) pl.isList (by simpa [hl] using hp) λv h' tk hv hk=>?_
 obtain⟨t,rfl⟩:=intItems_at hv
 obtain⟨g1,g2⟩:=argBest_gt (numAt ys.toArray) (ys.toArray.size-1)
 have g3:argBest (λi j=>decide (numAt ys.toArray i > numAt ys.toArray j)) (ys.toArray.size-1)<ns.length:=by rw[<-hl];simp at g1 ⊢;omega
 refine⟨.int _,H,I.kept hk,⟨t,rfl⟩,q _ ?_ λa ha=>?_⟩
 ·rw[mC h2 g3];exact List.getElem_mem g3
 ·obtain⟨j,hj,rfl⟩:=List.getElem_of_mem ha
  rw[<-mC h2 hj]
  exact g2 j (by simp[hl];omega)
theorem IX (hc:X.calm=true):iK X (.builtin "min") (λxs H Q=>∃(p:Addr) (ns:List Int),xs=[.ref p]/\SqL X.K H p (ns.map V.int)/\ns≠[]/\∀M,M∈ns->(∀a∈ns,M<=a)->Q (.int M) H):=by
 intro pins s σ H xs us Q I r h
 obtain⟨p,ns,rfl,hq,hne,q⟩:=h
 obtain⟨u,rfl,rx⟩:=jT r
 cases rx
 obtain⟨its,r',pl,hz⟩:=I.list hq
 obtain⟨ys,h1,h2⟩:=iP r'
 rw[h1] at pl
 have hl:ys.length=ns.length:=by rw[<-h2];simp
 have hp:0<ns.length:=List.length_pos_iff.mpr hne
 refine min_intList (I.ok.hd hc) pl.isList (by simpa [hl] using hp) λv h' tk hv hk=>?_
 obtain⟨t,rfl⟩:=intItems_at hv
 obtain⟨g1,g2⟩:=argBest_lt (numAt ys.toArray) (ys.toArray.size-1)
 have g3:argBest (λi j=>decide (numAt ys.toArray i<numAt ys.toArray j)) (ys.toArray.size-1)<ns.length:=by rw[<-hl];simp at g1 ⊢;omega
 refine⟨.int _,H,I.kept hk,⟨t,rfl⟩,q _ ?_ λa ha=>?_⟩
 ·rw[mC h2 g3];exact List.getElem_mem g3
 ·obtain⟨j,hj,rfl⟩:=List.getElem_of_mem ha
  rw[<-mC h2 hj]
  exact g2 j (by simp[hl];omega)
noncomputable def EJ:D->(D->Prop)->Prop:=λd Q=>match d with
 | .lst ds=>∃ns:List Int,ds=ns.map D.int/\Q (.int ns.sum)
 | _=>False
noncomputable def AZ:D->(D->Prop)->Prop:=λd Q=>match d with
 | .lst ds=>∃ns:List Int,ds=ns.map D.int/\ns≠[]/\∀M,M∈ns->(∀a∈ns,a<=M)->Q (.int M)
 | _=>False
noncomputable def GT:D->(D->Prop)->Prop:=λd Q=>match d with
 | .lst ds=>∃ns:List Int,ds=ns.map D.int/\ns≠[]/\∀M,M∈ns->(∀a∈ns,M<=a)->Q (.int M)
 | _=>False
theorem MA:bootBuiltins "sum" = some (.builtin "sum"):=by decide +kernel
theorem LY:bootBuiltins "max" = some (.builtin "max"):=by decide +kernel
theorem AN:bootBuiltins "min" = some (.builtin "min"):=by decide +kernel
theorem yT (hm:X.mg "sum" = none) (hc:X.calm=true) (h:DB X e te) (hg:Gl X "sum":=by rfl) (hs:starEach [e] X.env=[(false,eval e X.env)]:=by rfl) (hn:starEach [] X.env=[]:=by rfl):DE X (.Call (.Name "sum" p) [e] [] pos) (r1 EJ te):=by
 refine PE.mono (iE (IY hc) hg hm MA (iC h hs hn) (by decide) (by decide) (by rw[hs,hn]) (by rw[hn];rfl)) λσ H Q hh=>cB hh λρ P st q k=>⟨ρ,_,st,q,λd v H1 hd s1 r=>?_⟩
 unfold EJ at hd;split at hd
 ·obtain⟨ns,rfl,hd⟩:=hd
  obtain⟨p,vs,rfl,hq,rr⟩:=r.lst
  rw[rr.ints_inv] at hq
  exact⟨p,ns,rfl,hq,k _ _ H1 hd s1 (.int _)⟩
 ·exact hd.elim
theorem yS (hm:X.mg "max" = none) (hc:X.calm=true) (h:DB X e te) (hg:Gl X "max":=by rfl) (hs:starEach [e] X.env=[(false,eval e X.env)]:=by rfl) (hn:starEach [] X.env=[]:=by rfl):DE X (.Call (.Name "max" p) [e] [] pos) (r1 AZ te):=by
 refine PE.mono (iE (IU hc) hg hm LY (iC h hs hn) (by decide) (by decide) (by rw[hs,hn]) (by rw[hn];rfl)) λσ H Q hh=>cB hh λρ P st q k=>⟨ρ,_,st,q,λd v H1 hd s1 r=>?_⟩
 unfold AZ at hd;split at hd
 ·obtain⟨ns,rfl,hne,hd⟩:=hd
  obtain⟨p,vs,rfl,hq,rr⟩:=r.lst
  rw[rr.ints_inv] at hq
  exact⟨p,ns,rfl,hq,hne,λM m1 m2=>k _ _ H1 (hd M m1 m2) s1 (.int _)⟩
 ·exact hd.elim
theorem GV (hm:X.mg "min" = none) (hc:X.calm=true) (h:DB X e te) (hg:Gl X "min":=by rfl) (hs:starEach [e] X.env=[(false,eval e X.env)]:=by rfl) (hn:starEach [] X.env=[]:=by rfl):DE X (.Call (.Name "min" p) [e] [] pos) (r1 GT te):=by
 refine PE.mono (iE (IX hc) hg hm AN (iC h hs hn) (by decide) (by decide) (by rw[hs,hn]) (by rw[hn];rfl)) λσ H Q hh=>cB hh λρ P st q k=>⟨ρ,_,st,q,λd v H1 hd s1 r=>?_⟩
 unfold GT at hd;split at hd
 ·obtain⟨ns,rfl,hne,hd⟩:=hd
  obtain⟨p,vs,rfl,hq,rr⟩:=r.lst
  rw[rr.ints_inv] at hq
  exact⟨p,ns,rfl,hq,hne,λM m1 m2=>k _ _ H1 (hd M m1 m2) s1 (.int _)⟩
 ·exact hd.elim
end
noncomputable def Itv (K:PySem.W.Frag) (a:Addr) (n:Nat):It :=
 ⟨λi H=>∃xs x,SqL K H a xs/\xs.length=n/\xs.reverse[i]? = some x,λi H x H'=>H'=H/\∀xs,SqL K H a xs->xs.reverse[i]? = some x,λi H=>∃xs,SqL K H a xs/\xs.length=n/\n<=i⟩
theorem PY {P:Program} {w:World} {K:PySem.W.Frag} {tg:Expr} (a it:Addr) (n:Nat):Turn P w K tg (Itv K a n) [it] it (λi h=>i<=n/\h.IsRevIter it a ((n:Int)-1-(i:Int))) where
 mem:=by simp
 obj:=λi h st b hb=>by
  have e:b=it:=by simpa using hb
  subst e
  obtain⟨_,o,e,c,d⟩:=st
  exact⟨o,e,λv z=>by rw[d] at z;cases z⟩
 keep:=λi h h' st k=>⟨st.1,st.2.at λo e=>k it (by simp) o e⟩
 item:=by
  intro X hP hw hK hc i pins s σ H E I hf st hg
  subst hP hw hK
  obtain⟨hi,st⟩:=st
  obtain⟨xs,x,hq,hn,hx⟩:=hg
  obtain⟨its,rv,p,hz⟩:=I.list hq
  have hlt:i<n:=by
   have:=(List.getElem?_eq_some_iff.mp hx).1
   simpa [hn] using this
  have hx2:xs[n-1-i]? = some x:=by
   rw[List.getElem?_reverse (by omega)] at hx
   rw[<-hx,hn]
  obtain⟨u,hu,ru⟩:=rv.get hx2
  obtain⟨f0,f1,f2,f3,f4,f5⟩:=hf it (by simp)
  have ei:(n:Int)-1-(i:Int)=((n-1-i:Nat):Int):=by omega
  rw[ei] at st
  refine wpAny_pyNext_rev_item st p.isList (x:=u) (by simpa using hu) λh' st' sb=>?_
  have e2:((n-1-i:Nat):Int)-1=(n:Int)-1-((i+1:Nat):Int):=by omega
  rw[e2] at st'
  have I1:Inv X pins σ H { s with heap:=h' }:=I.turned (t':=s.toks) (λb o hb e=>(sb.2 b hb).trans e) f0 f1 f3 f4 f5
  obtain⟨o,e,c,d⟩:=id st'
  exact⟨u,rfl,HJ (s:={ s with heap:=h' }) e c d (by decide) ⟨x,H,I1,ru,⟨rfl,λys hy=>by rw[I.list_inj hy hq];exact hx⟩,⟨hlt,st'⟩,λb hb=>(hf b hb).1⟩⟩
 done:=by
  intro X hP hw hK hc i pins s σ H E I hf st hg
  subst hP hw hK
  obtain⟨hi,st⟩:=st
  obtain⟨xs,hq,hn,hx⟩:=hg
  obtain⟨f0,f1,f2,f3,f4,f5⟩:=hf it (by simp)
  have e:i=n:=by omega
  subst e
  have ei:(i:Int)-1-(i:Int) = -1:=by omega
  rw[ei] at st
  exact wpAny_pyNext_rev_end (I.ok.hd hc) st λh' eb=>⟨rfl,I.turned (t':=s.toks) (λb o hb e=>eb b o hb e) f0 f1 f3 f4 f5⟩
 self:=λ_ _ _ _ _ st h=>wpAny_pyIter_revIter st.2 h
section
variable {X:Cx} {tg e:Expr} {te:RE} {pos p:Pos}
noncomputable def OY (te:RE):RA:=λρ Q=>te ρ λd=>match d with
 | .lst ds=>Q ds.reverse
 | _=>False
theorem mL:bootBuiltins "reversed" = some (.type "reversed"):=by decide +kernel
theorem UY (hm:X.mg "reversed" = none) (h:DE X e te) (hg:Gl X "reversed":=by rfl) (hs:starEach [e] X.env=[(false,eval e X.env)]:=by rfl) (hn:starEach [] X.env=[]:=by rfl) :
  DI X tg (.Call (.Name "reversed" p) [e] [] pos) (OY te):=by
 intro pins s σ H R I hh_0
 obtain⟨ρ,P,st,q,kk⟩:=hh_0
 refine Call_ (gN I hg hm mL (PyProof.Rows.callWith_type1 (thn (iC h hs hn pos pins s σ H (λvs H1=>∃a ds us,vs=[V.ref a]/\Same H H1/\P ds.reverse/\FzL X.K H1 a us/\Reps X.K H1 ds us) I ⟨ρ,_,st,q,λd v H1 hd s1 r=>?_⟩) λus s1 ⟨vs,H1,I1,r1,q1⟩=>?_) (by rw[hs,hn]) (by rw[hn];rfl)))
 ·cases d with
  | lst ds =>
   cases r with
   | @lst a vs _ hz rr=>exact⟨a,ds,vs,rfl,s1,hd,hz,rr⟩
  | _=>exact hd.elim
 obtain⟨a,ds,ws,rfl,s01,hp,hz,rr⟩:=q1
 obtain⟨u,rfl,ru⟩:=jT r1
 cases ru
 obtain⟨its,rv,pl,hzz⟩:=I1.list hz.sq
 have hl:=rv.length
 refine call_reversed_list pl.isList ?_
 have hit:({ s1 with heap:=s1.heap.push (revObj a ((its.toArray.size:Int)-1)) }:Shared).heap.IsRevIter s1.heap.objs.size a ((ws.length:Int)-1-((0:Nat):Int)):=⟨_,Heap.get?_push_size _ rfl,rfl,by simp[revObj,hl]⟩
 refine wpAny_pyIter_revIter hit ⟨s1.heap.objs.size,[s1.heap.objs.size],_,_,H1,rfl,I1.kept (t':=s1.toks) λb o e=>Heap.get?_push_of_some _ e,PY a _ ws.length,⟨Nat.zero_le _,hit⟩,λb hb=>?_,?_⟩
 ·rw[List.mem_singleton.mp hb];exact (I1.fpOk (Nat.le_refl _) (I1.hok.fresh (Nat.le_refl _)))
 ·refine kk ds.reverse _ H1 hp s01 λi H2 kp=>⟨λd ed=>?_,λhl=>⟨ws,(hz.keep kp).sq,rfl,by rw[<-rr.length];simpa using hl⟩⟩
  obtain⟨v,h1,h2⟩:=(rr.reverse.keep kp).get ed
  refine⟨⟨ws,v,(hz.keep kp).sq,rfl,h1⟩,λx H' y=>?_⟩
  obtain⟨rfl,hy⟩:=y
  have e3:=hy ws (hz.keep kp).sq
  rw[h1] at e3;cases e3
  exact⟨Same.refl _,h2⟩
end
structure Sub (prog:Program) (w:World) (I a:Addr) (vs:List Value) (T:Nat->Heap->Prop):Prop where
 stay:∀{k:Nat} {h h':Heap},T k h->(∀o,h.get? I=some o->h'.get? I=some o)->(∀o,h.get? a=some o->h'.get? a=some o)->T k h'
 lt:∀{k:Nat} {h:Heap},T k h->I<h.objs.size/\a<h.objs.size
 item:∀{A:Around} {E:Value->Shared->Prop} {s:Shared} {k:Nat} {x:Value} {Q:Value->Shared->Prop},T k s.heap->vs[k]? = some x->(∀h',T (k+1) h'->Heap.SameBut I s.heap h'->Q x { s with heap:=h' }) ->
  wpAny (model prog w) A (Builtin.SmallTypes.nextOf (.ref I)) Q E s
 done:∀{A:Around} {E:Value->Shared->Prop} {s:Shared} {k:Nat} {Q:Value->Shared->Prop},A.handled=none->T k s.heap->vs[k]? = none ->
  (∀h' e,Heap.ExtBut I s.heap h'->(∃o,h'.get? e=some o/\o.cls = .type "StopIteration")->E (.ref e) { s with heap:=h' })->wpAny (model prog w) A (Builtin.SmallTypes.nextOf (.ref I)) Q E s
theorem PP {prog:Program} {w:World} {I a:Addr} {vs:List Value} (ne:a≠I):Sub prog w I a vs (λk h=>h.IsListIter I a k/\h.IsList a vs.toArray) where
 stay:=λt e1 e2=>⟨t.1.at e1,t.2.at e2⟩
 lt:=λt=>by
  obtain⟨⟨o,e,_⟩,o2,e2,_⟩:=t
  exact⟨Heap.lt_size e,Heap.lt_size e2⟩
 item:=λt e q=>wpAny_nextOf_list_item t.1 t.2 (by simpa using e) λh' t' sb=>q h' ⟨t',t.2.extBut sb.extBut ne⟩ sb
 done:=λhh t e q=>wpAny_nextOf_list_end hh t.1 t.2 (by simpa using e) q
section
variable {prog:Program} {w:World} {A:Around} {E:Value->Shared->Prop} {s:Shared}
theorem FE {I a:Addr} {k:Nat} {vs:List Value} {x:Value} {Q:Value->Shared->Prop} (hi:s.heap.IsTupleIter I a k) (ht:s.heap.IsTuple a vs.toArray) (hx:vs[k]? = some x)
  (q:∀h',h'.IsTupleIter I a (k+1)->Heap.SameBut I s.heap h'->Q x { s with heap:=h' }):wpAny (model prog w) A (Builtin.SmallTypes.nextOf (.ref I)) Q E s:=by
 obtain⟨o,eo,co,dO⟩:=id hi
 obtain⟨t,et,_,nt,dT⟩:=ht
 unfold Builtin.SmallTypes.nextOf
 apply wpAny_bind;apply wpAny_callSpecial?_slot (name:=Str.ofString "__next__") hi.typeIs F.slot_tuple_iterator_next;apply wpAny_call_entry F.slot_tuple_iterator_next hi.typeIs F.entry_tuple_iterator_next ?_ (F.args_tuple_iterator_next_1 _)
 show wpAny _ _ (field (.ref I) 0 >>= _) _ _ s
 apply wpAny_bind;apply wpAny_field eo dO (x:=.ref a) rfl
 show wpAny _ _ (if (Value.ref a == Value.none)=true then _ else _) _ _ s
 rw[if_neg (by exact Bool.false_ne_true)]
 show wpAny _ _ (field (.ref I) 1 >>= _) _ _ s
 apply wpAny_bind;apply wpAny_field eo dO (x:=.int k 0) rfl
 show wpAny _ _ (seqItems? (.ref a) >>= _) _ _ s
 have hx':vs.toArray[k]? = some x:=by simpa using hx
 apply wpAny_bind;apply wpAny_seqItems et dT;simp only[Int.toNat_natCast,hx']
 apply wpAny_bind;apply wpAny_setField eo dO (by simp);apply wpAny_pure
 refine⟨x,rfl,wpAny_pure (q _ ⟨_,Heap.get?_update_self _ eo (Obj.isFreed_of_fields (Obj.data_mapFields dO _)),(Obj.cls_mapFields ..).trans co,?_⟩ (Heap.SameBut.update ..))⟩
 rw[Obj.data_mapFields dO];simp[rawInt]
theorem uA {I a:Addr} {k:Nat} {vs:List Value} {Q:Value->Shared->Prop} (hh:A.handled=none) (hi:s.heap.IsTupleIter I a k) (ht:s.heap.IsTuple a vs.toArray) (hx:vs[k]? = none)
  (q:∀h' e,Heap.ExtBut I s.heap h'->(∃o,h'.get? e=some o/\o.cls = .type "StopIteration")->E (.ref e) { s with heap:=h' }):wpAny (model prog w) A (Builtin.SmallTypes.nextOf (.ref I)) Q E s:=by
 obtain⟨o,eo,co,dO⟩:=id hi
 obtain⟨t,et,_,nt,dT⟩:=ht
 unfold Builtin.SmallTypes.nextOf
 apply wpAny_bind;apply wpAny_callSpecial?_slot (name:=Str.ofString "__next__") hi.typeIs F.slot_tuple_iterator_next;apply wpAny_call_entry F.slot_tuple_iterator_next hi.typeIs F.entry_tuple_iterator_next ?_ (F.args_tuple_iterator_next_1 _)
 show wpAny _ _ (field (.ref I) 0 >>= _) _ _ s
 apply wpAny_bind;apply wpAny_field eo dO (x:=.ref a) rfl
 show wpAny _ _ (if (Value.ref a == Value.none)=true then _ else _) _ _ s
 rw[if_neg (by exact Bool.false_ne_true)]
 show wpAny _ _ (field (.ref I) 1 >>= _) _ _ s
 apply wpAny_bind;apply wpAny_field eo dO (x:=.int k 0) rfl
 show wpAny _ _ (seqItems? (.ref a) >>= _) _ _ s
 have hx':vs.toArray[k]? = none:=by simpa using hx
 apply wpAny_bind;apply wpAny_seqItems et dT;simp only[Int.toNat_natCast,hx']
 apply wpAny_bind;apply wpAny_rule;apply wpAny_bind;apply wpAny_setField eo dO (by simp)
 show wpAny _ _ (newExc (.type "StopIteration") [] >>= _) _ _ _
 apply wpAny_bind;simp only[newExc,newTuple]
 apply wpAny_bind;refine wpAny_newObj_type ?_ (by size_fits)
 refine wpAny_bind (m:=firstArgMember _ _) ?_
 refine wpAny_of_eq (a:=Value.none) (by first | rfl | (simp only[firstArgMember];rfl)) ?_
 refine wpAny_newObj_type ?_ (by size_fits)
 simp only[raiseNew]
 apply wpAny_bind;apply wpAny_handled
 first | rw[show A.in1.handled=none from hh] | rw[hh]
 apply wpAny_throw
 exact q _ _ (((Heap.SameBut.update ..).extBut.push _).push _) ⟨_,Heap.get?_push_size _ rfl,rfl⟩
end
theorem SV {prog:Program} {w:World} {I a:Addr} {vs:List Value} (ne:a≠I):Sub prog w I a vs (λk h=>h.IsTupleIter I a k/\h.IsTuple a vs.toArray) where
 stay:=λt e1 e2=>⟨t.1.at e1,t.2.at e2⟩
 lt:=λt=>by
  obtain⟨⟨o,e,_⟩,o2,e2,_⟩:=t
  exact⟨Heap.lt_size e,Heap.lt_size e2⟩
 item:=λt e q=>FE t.1 t.2 e λh' t' sb=>q h' ⟨t',t.2.at λo x=>sb.extBut _ o ne x⟩ sb
 done:=λhh t e q=>uA hh t.1 t.2 e q
noncomputable abbrev dW (h:Heap) (z TI TO:Addr) (f0 f1:Value):Prop:=h.get? z=some { cls:=.type "zip",dict:=none,data:=.fields #[f0,f1,.bool false,.ref TI,.ref TO],slots:=#[] }
noncomputable def UP (h:Heap) (z TI TO i1 i2:Addr):Prop:=dW h z TI TO .none (.bool false)\/∃(T:Addr) (b:Bool) (o:Obj),dW h z TI TO (rawInt T) (.bool b)/\(h.get? T=some o/\o.cls = .type "tuple")/\T≠z/\T≠i1/\T≠i2
structure ZipAp (z TI TO i1 i2 a1 a2:Addr):Prop where
 TIz:TI≠z
 TOz:TO≠z
 i1z:i1≠z
 i2z:i2≠z
 a1z:a1≠z
 a2z:a2≠z
 IO:TI≠TO
 I1:TI≠i1
 I2:TI≠i2
 O1:TO≠i1
 O2:TO≠i2
 i12:i1≠i2
 a1O:a1≠TO
 a2O:a2≠TO
 a1i1:a1≠i1
 a1i2:a1≠i2
 a2i1:a2≠i1
 a2i2:a2≠i2
section
variable {prog:Program} {w:World} {A:Around} {E:Value->Shared->Prop} {s:Shared} {z TI TO i1 i2 a1 a2:Addr} {vs us:List Value} {T1 T2:Nat->Heap->Prop}
structure ZipSt (z TI TO i1 i2:Addr) (T1 T2:Nat->Heap->Prop) (k:Nat) (h:Heap):Prop where
 out:UP h z TI TO i1 i2
 its:IsPair h TI (.ref i1) (.ref i2)
 own:∃a b,IsPair h TO a b
 one:T1 k h
 two:T2 k h
theorem uY (D:ZipAp z TI TO i1 i2 a1 a2) (S1:Sub prog w i1 a1 vs T1) (S2:Sub prog w i2 a2 us T2) {k:Nat} {x y a b:Value} {Q:Value->Shared->Prop} (hz:dW s.heap z TI TO .none (.bool false)) (hI:IsPair s.heap TI (.ref i1) (.ref i2)) (hO:IsPair s.heap TO a b)
  (t1:T1 k s.heap) (t2:T2 k s.heap) (ex:vs[k]? = some x) (ey:us[k]? = some y)
  (q:∀h',ZipSt z TI TO i1 i2 T1 T2 (k+1) h'->IsPair h' s.heap.objs.size x y->h'.objs.size=s.heap.objs.size+1->(∀c o,c≠z->c≠TO->c≠i1->c≠i2->s.heap.get? c=some o->h'.get? c=some o)->Q (.ref s.heap.objs.size) { s with heap:=h' }) :
  wpAny (model prog w) A (Builtin.«zip.__next__» ⟨[.ref z],[]⟩) (λfin s'=>∃v,fin = .done (.ret v)/\Q v s') E s:=by
 show wpAny _ _ (field (.ref z) 2 >>= _) _ _ _
 apply wpAny_bind;apply wpAny_field hz rfl (x:=.bool false) rfl
 show wpAny _ _ (field (.ref z) 3 >>= _) _ _ _
 apply wpAny_bind;apply wpAny_field hz rfl (x:=.ref TI) rfl;apply wpAny_bind;apply wpAny_seqItems hI rfl
 show wpAny _ _ (Builtin.SmallTypes.ownedTupleIsFree (.ref z) >>= _) _ _ _
 apply wpAny_bind;unfold Builtin.SmallTypes.ownedTupleIsFree
 apply wpAny_bind;apply wpAny_field hz rfl (x:=.none) rfl;apply wpAny_pure
 simp only[if_true]
 apply wpAny_bind;apply wpAny_rule;apply wpAny_bind;apply wpAny_field hz rfl (x:=.ref TO) rfl
 apply wpAny_bind;refine wpAny_setField_rec hz (by simp) λh₁ hz1 sb1=>?_
 replace hz1:dW h₁ z TI TO .ellipsis (.bool false):=hz1
 apply wpAny_bind;simp only[List.zipIdx_cons,List.zipIdx_nil,List.forIn_cons,List.forIn_nil]
 apply wpAny_bind;apply wpAny_bind;apply wpAny_onRaise
 show wpAny _ _ (Builtin.SmallTypes.nextOf (.ref i1) >>= _) _ _ _
 apply wpAny_bind;refine S1.item (S1.stay t1 (λo e=>sb1.extBut _ o D.i1z e) λo e=>sb1.extBut _ o D.a1z e) ex λh₂ t12 sb2=>wpAny_pure ?_
 have hO2:IsPair h₂ TO a b:=sb2.extBut _ _ D.O1 (sb1.extBut _ _ D.TOz hO)
 apply wpAny_bind;apply wpAny_seqItems hO2 rfl;apply wpAny_bind;refine wpAny_updateSeq_pair hO2 λh₃ hO3 sb3=>?_
 replace hO3:IsPair h₃ TO x b:=hO3
 apply wpAny_bind;apply wpAny_letGo;apply wpAny_pure
 apply wpAny_bind;apply wpAny_bind;apply wpAny_onRaise
 show wpAny _ _ (Builtin.SmallTypes.nextOf (.ref i2) >>= _) _ _ _
 have keep3:∀c o,c≠z->c≠i1->c≠TO->s.heap.get? c=some o->h₃.get? c=some o:=λc o c1 c2 c3 e=>sb3.extBut _ _ c3 (sb2.extBut _ _ c2 (sb1.extBut _ _ c1 e))
 apply wpAny_bind;refine S2.item (S2.stay t2 (λo e=>keep3 _ o D.i2z D.i12.symm D.O2.symm e) λo e=>keep3 _ o D.a2z D.a2i1 D.a2O e) ey λh₄ t24 sb4=>wpAny_pure ?_
 have hO4:IsPair h₄ TO x b:=sb4.extBut _ _ D.O2 hO3
 apply wpAny_bind;apply wpAny_seqItems hO4 rfl;apply wpAny_bind;refine wpAny_updateSeq_pair hO4 λh₅ hO5 sb5=>?_
 replace hO5:IsPair h₅ TO x y:=hO5
 apply wpAny_bind;apply wpAny_letGo;apply wpAny_pure;apply wpAny_pure
 apply wpAny_bind;apply wpAny_seqItems hO5 rfl;apply wpAny_bind;refine wpAny_newTuple ?_
 have z5:h₅.objs.size=s.heap.objs.size:=by rw[sb5.1,sb4.1,sb3.1,sb2.1,sb1.1]
 have hz5:dW h₅ z TI TO .ellipsis (.bool false):=sb5.extBut _ _ D.TOz.symm (sb4.extBut _ _ D.i2z.symm (sb3.extBut _ _ D.TOz.symm (sb2.extBut _ _ D.i1z.symm hz1)))
 have keep5:∀c o,c≠z->c≠TO->c≠i1->c≠i2->s.heap.get? c=some o->h₅.get? c=some o:=λc o c1 c2 c3 c4 e=>sb5.extBut _ _ c2 (sb4.extBut _ _ c4 (keep3 c o c1 c3 c2 e))
 have t15:T1 (k+1) h₅:=S1.stay t12 (λo e=>sb5.extBut _ _ D.O1.symm (sb4.extBut _ _ D.i12 (sb3.extBut _ _ D.O1.symm e))) λo e=>sb5.extBut _ _ D.a1O (sb4.extBut _ _ D.a1i2 (sb3.extBut _ _ D.a1O e))
 have t25:T2 (k+1) h₅:=S2.stay t24 (λo e=>sb5.extBut _ _ D.O2.symm e) λo e=>sb5.extBut _ _ D.a2O e
 have zl:z<h₅.objs.size:=Heap.lt_size hz5
 show wpAny _ _ (Builtin.SmallTypes.ownedTupleHandOut (.ref z) (.ref h₅.objs.size) >>= _) _ _ _
 apply wpAny_bind;unfold Builtin.SmallTypes.ownedTupleHandOut
 have hz6:dW (h₅.push { cls:=.type "tuple",data:=.seq #[x,y] }) z TI TO .ellipsis (.bool false):=Heap.get?_push_of_some _ hz5
 apply wpAny_bind;refine wpAny_setField_rec hz6 (by simp) λh₇ hz7 sb7=>?_
 replace hz7:dW h₇ z TI TO (rawInt h₅.objs.size) (.bool false):=hz7
 refine wpAny_setField_rec hz7 (by simp) λh₈ hz8 sb8=>?_
 replace hz8:dW h₈ z TI TO (rawInt h₅.objs.size) (.bool false):=hz8
 have up:∀c o,c≠z->h₅.get? c=some o->h₈.get? c=some o:=λc o c1 e=>sb8.extBut _ _ c1 (sb7.extBut _ _ c1 (Heap.get?_push_of_some _ e))
 have hT8:IsPair h₈ h₅.objs.size x y:=sb8.extBut _ _ (Nat.ne_of_gt zl) (sb7.extBut _ _ (Nat.ne_of_gt zl) (Heap.get?_push_size _ rfl))
 have s8:h₈.objs.size=h₅.objs.size+1:=by rw[sb8.1,sb7.1,Heap.size_push]
 apply wpAny_pure;refine⟨_,rfl,?_⟩
 show Q (.ref h₅.objs.size) _
 rw[z5] at hT8 s8 hz8 ⊢
 exact q h₈ ⟨.inr ⟨_,_,_,hz8,⟨hT8,rfl⟩,Nat.ne_of_gt (Heap.lt_size hz),Nat.ne_of_gt (S1.lt t1).1,Nat.ne_of_gt (S2.lt t2).1⟩,up _ _ D.TIz (keep5 _ _ D.TIz D.IO D.I1 D.I2 hI),⟨_,_,up _ _ D.TOz hO5⟩,S1.stay t15 (λo e=>up _ o D.i1z e) (λo e=>up _ o D.a1z e),S2.stay t25 (λo e=>up _ o D.i2z e) λo e=>up _ o D.a2z e⟩ hT8 s8 λc o c1 c2 c3 c4 e=>up c o c1 (keep5 c o c1 c2 c3 c4 e)
theorem UQ {a:Addr} {o:Obj} {Q:Option Obj->Shared->Prop} (e:s.heap.get? a=some o) (q:Q (some o) s):wpAny (model prog w) A (loadIfAlive a) Q E s:=by
 have q':Q (s.heap.get? a) s:=e ▸ q
 exact λ_ _ _=>q'
theorem xV {T:Addr} {b:Bool} {o:Obj} {Q:Bool->Shared->Prop} (hz:dW s.heap z TI TO (rawInt T) (.bool b)) (hT:s.heap.get? T=some o)
  (q:∀h',dW h' z TI TO (rawInt T) (.bool true)->Heap.SameBut z s.heap h'->Q false { s with heap:=h' }):wpAny (model prog w) A (Builtin.SmallTypes.ownedTupleIsFree (.ref z)) Q E s:=by
 unfold Builtin.SmallTypes.ownedTupleIsFree
 apply wpAny_bind;apply wpAny_field hz rfl (x:=rawInt T) rfl
 show wpAny _ _ (loadIfAlive ((T:Int).toNat) >>= _) _ _ _
 apply wpAny_bind;refine UQ (a:=((T:Int).toNat)) (o:=o) (by simpa using hT) ?_
 show wpAny _ _ (field (.ref z) 1 >>= _) _ _ _
 apply wpAny_bind;apply wpAny_field hz rfl (x:=.bool b) rfl
 cases b with
 | false =>
  show wpAny _ _ (setField (.ref z) 1 (.bool true) >>= _) _ _ _
  apply wpAny_bind;refine wpAny_setField_rec hz (by simp) λh₁ hz1 sb1=>wpAny_pure (q h₁ hz1 sb1)
 | true =>
  show wpAny _ _ (pure false) _ _ _
  exact wpAny_pure (q s.heap hz ⟨rfl,λ_ _=>rfl⟩)
theorem uZ (D:ZipAp z TI TO i1 i2 a1 a2) (S1:Sub prog w i1 a1 vs T1) (S2:Sub prog w i2 a2 us T2) {k:Nat} {T:Addr} {f:Bool} {o:Obj} {x y a b:Value} {Q:Value->Shared->Prop} (hz:dW s.heap z TI TO (rawInt T) (.bool f)) (hT:s.heap.get? T=some o/\o.cls = .type "tuple")
  (hTz:T≠z) (hT1:T≠i1) (hT2:T≠i2) (hI:IsPair s.heap TI (.ref i1) (.ref i2)) (hO:IsPair s.heap TO a b) (t1:T1 k s.heap) (t2:T2 k s.heap) (ex:vs[k]? = some x) (ey:us[k]? = some y)
  (q:∀h',ZipSt z TI TO i1 i2 T1 T2 (k+1) h'->IsPair h' s.heap.objs.size x y->h'.objs.size=s.heap.objs.size+1->(∀c o,c≠z->c≠TO->c≠i1->c≠i2->s.heap.get? c=some o->h'.get? c=some o)->Q (.ref s.heap.objs.size) { s with heap:=h' }) :
  wpAny (model prog w) A (Builtin.«zip.__next__» ⟨[.ref z],[]⟩) (λfin s'=>∃v,fin = .done (.ret v)/\Q v s') E s:=by
 show wpAny _ _ (field (.ref z) 2 >>= _) _ _ _
 apply wpAny_bind;apply wpAny_field hz rfl (x:=.bool false) rfl
 show wpAny _ _ (field (.ref z) 3 >>= _) _ _ _
 apply wpAny_bind;apply wpAny_field hz rfl (x:=.ref TI) rfl;apply wpAny_bind;apply wpAny_seqItems hI rfl
 show wpAny _ _ (Builtin.SmallTypes.ownedTupleIsFree (.ref z) >>= _) _ _ _
 apply wpAny_bind;refine xV hz hT.1 λh₁ hz1 sb1=>?_
 simp only[Bool.false_eq_true,if_false]
 rw[<-Array.forIn_toList]
 apply wpAny_bind;simp only[List.forIn_cons,List.forIn_nil]
 apply wpAny_bind;apply wpAny_bind;apply wpAny_holding
 show wpAny _ _ (Builtin.SmallTypes.nextOf (.ref i1) >>= _) _ _ _
 apply wpAny_bind;refine S1.item (S1.stay t1 (λo e=>sb1.extBut _ o D.i1z e) λo e=>sb1.extBut _ o D.a1z e) ex λh₂ t12 sb2=>wpAny_pure ?_
 apply wpAny_pure
 apply wpAny_bind;apply wpAny_bind;apply wpAny_holding
 show wpAny _ _ (Builtin.SmallTypes.nextOf (.ref i2) >>= _) _ _ _
 have keep2:∀c o,c≠z->c≠i1->s.heap.get? c=some o->h₂.get? c=some o:=λc o c1 c2 e=>sb2.extBut _ _ c2 (sb1.extBut _ _ c1 e)
 apply wpAny_bind;refine S2.item (S2.stay t2 (λo e=>keep2 _ o D.i2z D.i12.symm e) λo e=>keep2 _ o D.a2z D.a2i1 e) ey λh₃ t23 sb3=>wpAny_pure ?_
 apply wpAny_pure;apply wpAny_pure
 have keep3:∀c o,c≠z->c≠i1->c≠i2->s.heap.get? c=some o->h₃.get? c=some o:=λc o c1 c2 c3 e=>sb3.extBut _ _ c3 (keep2 c o c1 c2 e)
 have z3:h₃.objs.size=s.heap.objs.size:=by rw[sb3.1,sb2.1,sb1.1]
 have hz3:dW h₃ z TI TO (rawInt T) (.bool true):=sb3.extBut _ _ D.i2z.symm (sb2.extBut _ _ D.i1z.symm hz1)
 show wpAny _ _ (newTuple [x,y] >>= _) _ _ _
 apply wpAny_bind;refine wpAny_newTuple ?_
 apply wpAny_pure;refine⟨_,rfl,?_⟩
 show Q (.ref h₃.objs.size) _
 have up:∀c o,h₃.get? c=some o->(h₃.push { cls:=.type "tuple",data:=.seq #[x,y] }).get? c=some o:=λc o e=>Heap.get?_push_of_some _ e
 have hp:IsPair (h₃.push { cls:=.type "tuple",data:=.seq #[x,y] }) h₃.objs.size x y:=Heap.get?_push_size _ rfl
 have sz:(h₃.push { cls:=.type "tuple",data:=.seq #[x,y] }).objs.size=h₃.objs.size+1:=Heap.size_push ..
 have zs:ZipSt z TI TO i1 i2 T1 T2 (k+1) (h₃.push { cls:=.type "tuple",data:=.seq #[x,y] }):=⟨.inr ⟨T,true,o,up _ _ hz3,⟨up _ _ (keep3 _ _ hTz hT1 hT2 hT.1),hT.2⟩,hTz,hT1,hT2⟩,up _ _ (keep3 _ _ D.TIz D.I1 D.I2 hI),⟨_,_,up _ _ (keep3 _ _ D.TOz D.O1 D.O2 hO)⟩,
  S1.stay t12 (λo e=>up _ o (sb3.extBut _ _ D.i12 e)) (λo e=>up _ o (sb3.extBut _ _ D.a1i2 e)),S2.stay t23 (λo e=>up _ o e) λo e=>up _ o e⟩
 rw[z3] at hp sz ⊢
 exact q _ zs hp sz λc o c1 c2 c3 c4 e=>up c o (keep3 c o c1 c3 c4 e)
theorem QB (D:ZipAp z TI TO i1 i2 a1 a2) (S1:Sub prog w i1 a1 vs T1) (S2:Sub prog w i2 a2 us T2) {k:Nat} {x y:Value} {Q:Option Value->Shared->Prop} (st:ZipSt z TI TO i1 i2 T1 T2 k s.heap) (ex:vs[k]? = some x) (ey:us[k]? = some y)
  (q:∀h',ZipSt z TI TO i1 i2 T1 T2 (k+1) h'->IsPair h' s.heap.objs.size x y->h'.objs.size=s.heap.objs.size+1->(∀c o,c≠z->c≠TO->c≠i1->c≠i2->s.heap.get? c=some o->h'.get? c=some o)->Q (some (.ref s.heap.objs.size)) { s with heap:=h' }) :
  wpAny (model prog w) A (pyNext (.ref z)) Q E s:=by
 obtain⟨a,b,hO⟩:=st.own
 have ty:s.TypeIs (.ref z) "zip":=by rcases st.out with hz | ⟨T,f,o,hz,_⟩ <;> exact⟨_,hz,rfl⟩
 unfold pyNext
 apply wpAny_bind;apply wpAny_attempt;apply wpAny_callSpecial?_slot (name:=Str.ofString "__next__") ty F.slot_zip_next;refine wpAny_call_entry F.slot_zip_next ty F.entry_zip_next ?_ (F.args_zip_next_1 _)
 rcases st.out with hz | ⟨T,f,o,hz,hT,n1,n2,n3⟩
 ·exact uY D S1 S2 hz st.its hO st.one st.two ex ey λh' b1 b2 b3 b4=>wpAny_pure (q h' b1 b2 b3 b4)
 ·exact uZ D S1 S2 hz hT n1 n2 n3 st.its hO st.one st.two ex ey λh' b1 b2 b3 b4=>wpAny_pure (q h' b1 b2 b3 b4)
theorem QD (hh:A.handled=none) (D:ZipAp z TI TO i1 i2 a1 a2) (S1:Sub prog w i1 a1 vs T1) (S2:Sub prog w i2 a2 us T2) {k:Nat} {Q:Fin->Shared->Prop} (st:ZipSt z TI TO i1 i2 T1 T2 k s.heap) (ee:vs[k]? = none\/us[k]? = none)
  (q:∀h' e,(∀c o,c≠z->c≠TO->c≠i1->c≠i2->s.heap.get? c=some o->h'.get? c=some o)->(∃o,h'.get? e=some o/\o.cls = .type "StopIteration")->E (.ref e) { s with heap:=h' }) :
  wpAny (model prog w) A (Builtin.«zip.__next__» ⟨[.ref z],[]⟩) Q E s:=by
 obtain⟨a,b,hO⟩:=st.own
 have t1:=st.one
 have t2:=st.two
 have hI:=st.its
 rcases st.out with hz | ⟨T,f,o,hz,hT,n1,n2,n3⟩
 ·show wpAny _ _ (field (.ref z) 2 >>= _) _ _ _
  apply wpAny_bind;apply wpAny_field hz rfl (x:=.bool false) rfl
  show wpAny _ _ (field (.ref z) 3 >>= _) _ _ _
  apply wpAny_bind;apply wpAny_field hz rfl (x:=.ref TI) rfl;apply wpAny_bind;apply wpAny_seqItems hI rfl
  show wpAny _ _ (Builtin.SmallTypes.ownedTupleIsFree (.ref z) >>= _) _ _ _
  apply wpAny_bind;unfold Builtin.SmallTypes.ownedTupleIsFree
  apply wpAny_bind;apply wpAny_field hz rfl (x:=.none) rfl;apply wpAny_pure
  simp only[if_true]
  apply wpAny_bind;apply wpAny_rule;apply wpAny_bind;apply wpAny_field hz rfl (x:=.ref TO) rfl
  apply wpAny_bind;refine wpAny_setField_rec hz (by simp) λh₁ hz1 sb1=>?_
  replace hz1:dW h₁ z TI TO .ellipsis (.bool false):=hz1
  apply wpAny_bind;simp only[List.zipIdx_cons,List.zipIdx_nil,List.forIn_cons,List.forIn_nil]
  apply wpAny_bind;apply wpAny_bind;apply wpAny_onRaise
  show wpAny _ _ (Builtin.SmallTypes.nextOf (.ref i1) >>= _) _ _ _
  have t11:=S1.stay t1 (λo e=>sb1.extBut _ o D.i1z e) λo e=>sb1.extBut _ o D.a1z e
  cases ex:vs[k]? with
  | none =>
   apply wpAny_bind;refine S1.done (s:={ s with heap:=h₁ }) hh t11 ex λh₂ e xb he=>?_
   obtain⟨oe,h2,ce⟩:=he
   have hz2:dW h₂ z TI TO .ellipsis (.bool false):=xb _ _ D.i1z.symm hz1
   have nez:e≠z:=λy=>by subst y;rw[hz2] at h2;cases h2;simp at ce
   refine wpAny_setField_rec hz2 (by simp) λh₃ _ sb3=>q h₃ e (λc o c1 _ c3 _ y=>sb3.extBut _ _ c1 (xb _ _ c3 (sb1.extBut _ _ c1 y))) ⟨oe,sb3.extBut _ _ nez h2,ce⟩
  | some x =>
   have ey:us[k]? = none:=by rcases ee with h | h;rw[ex] at h;cases h;exact h
   apply wpAny_bind;refine S1.item t11 ex λh₂ t12 sb2=>wpAny_pure ?_
   have hO2:IsPair h₂ TO a b:=sb2.extBut _ _ D.O1 (sb1.extBut _ _ D.TOz hO)
   apply wpAny_bind;apply wpAny_seqItems hO2 rfl;apply wpAny_bind;refine wpAny_updateSeq_pair hO2 λh₃ hO3 sb3=>?_
   apply wpAny_bind;apply wpAny_letGo;apply wpAny_pure
   apply wpAny_bind;apply wpAny_bind;apply wpAny_onRaise
   show wpAny _ _ (Builtin.SmallTypes.nextOf (.ref i2) >>= _) _ _ _
   have keep3:∀c o,c≠z->c≠i1->c≠TO->s.heap.get? c=some o->h₃.get? c=some o:=λc o c1 c2 c3 e=>sb3.extBut _ _ c3 (sb2.extBut _ _ c2 (sb1.extBut _ _ c1 e))
   apply wpAny_bind;refine S2.done (s:={ s with heap:=h₃ }) hh (S2.stay t2 (λo e=>keep3 _ o D.i2z D.i12.symm D.O2.symm e) λo e=>keep3 _ o D.a2z D.a2i1 D.a2O e) ey λh₄ e xb he=>?_
   obtain⟨oe,h2,ce⟩:=he
   have hz4:dW h₄ z TI TO .ellipsis (.bool false):=xb _ _ D.i2z.symm (sb3.extBut _ _ D.TOz.symm (sb2.extBut _ _ D.i1z.symm hz1))
   have nez:e≠z:=λy=>by subst y;rw[hz4] at h2;cases h2;simp at ce
   refine wpAny_setField_rec hz4 (by simp) λh₅ _ sb5=>q h₅ e (λc o c1 c2 c3 c4 y=>sb5.extBut _ _ c1 (xb _ _ c4 (keep3 c o c1 c3 c2 y))) ⟨oe,sb5.extBut _ _ nez h2,ce⟩
 ·show wpAny _ _ (field (.ref z) 2 >>= _) _ _ _
  apply wpAny_bind;apply wpAny_field hz rfl (x:=.bool false) rfl
  show wpAny _ _ (field (.ref z) 3 >>= _) _ _ _
  apply wpAny_bind;apply wpAny_field hz rfl (x:=.ref TI) rfl;apply wpAny_bind;apply wpAny_seqItems hI rfl
  show wpAny _ _ (Builtin.SmallTypes.ownedTupleIsFree (.ref z) >>= _) _ _ _
  apply wpAny_bind;refine xV hz hT.1 λh₁ hz1 sb1=>?_
  simp only[Bool.false_eq_true,if_false]
  rw[<-Array.forIn_toList]
  apply wpAny_bind;simp only[List.forIn_cons,List.forIn_nil]
  apply wpAny_bind;apply wpAny_bind;apply wpAny_holding
  show wpAny _ _ (Builtin.SmallTypes.nextOf (.ref i1) >>= _) _ _ _
  have t11:=S1.stay t1 (λo e=>sb1.extBut _ o D.i1z e) λo e=>sb1.extBut _ o D.a1z e
  cases ex:vs[k]? with
  | none =>
   apply wpAny_bind;exact S1.done (s:={ s with heap:=h₁ }) hh t11 ex λh₂ e xb he=>q h₂ e (λc o c1 _ c3 _ y=>xb _ _ c3 (sb1.extBut _ _ c1 y)) he
  | some x =>
   have ey:us[k]? = none:=by rcases ee with h | h;rw[ex] at h;cases h;exact h
   apply wpAny_bind;refine S1.item t11 ex λh₂ t12 sb2=>wpAny_pure ?_
   apply wpAny_pure
   apply wpAny_bind;apply wpAny_bind;apply wpAny_holding
   show wpAny _ _ (Builtin.SmallTypes.nextOf (.ref i2) >>= _) _ _ _
   have keep2:∀c o,c≠z->c≠i1->s.heap.get? c=some o->h₂.get? c=some o:=λc o c1 c2 e=>sb2.extBut _ _ c2 (sb1.extBut _ _ c1 e)
   apply wpAny_bind;exact S2.done (s:={ s with heap:=h₂ }) hh (S2.stay t2 (λo e=>keep2 _ o D.i2z D.i12.symm e) λo e=>keep2 _ o D.a2z D.a2i1 e) ey λh₃ e xb he=>q h₃ e (λc o c1 c2 c3 c4 y=>xb _ _ c4 (keep2 c o c1 c3 y)) he
theorem TL (hh:A.handled=none) (D:ZipAp z TI TO i1 i2 a1 a2) (S1:Sub prog w i1 a1 vs T1) (S2:Sub prog w i2 a2 us T2) {k:Nat} {Q:Option Value->Shared->Prop} (st:ZipSt z TI TO i1 i2 T1 T2 k s.heap) (ee:vs[k]? = none\/us[k]? = none)
  (q:∀h',(∀c o,c≠z->c≠TO->c≠i1->c≠i2->s.heap.get? c=some o->h'.get? c=some o)->Q none { s with heap:=h' }):wpAny (model prog w) A (pyNext (.ref z)) Q E s:=by
 have ty:s.TypeIs (.ref z) "zip":=by rcases st.out with hz | ⟨T,f,o,hz,_⟩ <;> exact⟨_,hz,rfl⟩
 unfold pyNext
 apply wpAny_bind;apply wpAny_attempt;apply wpAny_callSpecial?_slot (name:=Str.ofString "__next__") ty F.slot_zip_next;refine wpAny_call_entry F.slot_zip_next ty F.entry_zip_next ?_ (F.args_zip_next_1 _)
 refine QD (A:=A.in1) hh D S1 S2 st ee λh' e kp he=>?_
 obtain⟨o,ho,hc⟩:=he
 apply wpAny_bind;refine wpAny_isInstance (T:="StopIteration") (b:=true) ⟨o,ho,hc⟩ isSubtype_stop ?_
 exact wpAny_pure (q h' kp)
end
noncomputable abbrev jJ (c:String) (l:Addr):Obj:={ cls:=.type c,data:=.fields #[.ref l,.int 0 0] }
noncomputable abbrev zH1 (c:String) (h:Heap) (l:Addr):Heap:=h.push (jJ c l)
noncomputable abbrev zH2 (c d:String) (h:Heap) (l m:Addr):Heap:=(zH1 c h l).push (jJ d m)
noncomputable abbrev zH3 (c d:String) (h:Heap) (l m:Addr):Heap:=(zH2 c d h l m).push { cls:=.type "tuple",data:=.seq #[.ref h.objs.size,.ref (zH1 c h l).objs.size] }
noncomputable abbrev zH4 (c d:String) (h:Heap) (l m:Addr):Heap:=(zH3 c d h l m).push { cls:=.type "tuple",data:=.seq #[.none,.none] }
noncomputable abbrev zH5 (c d:String) (h:Heap) (l m:Addr):Heap:=(zH4 c d h l m).push { cls:=.type "zip",data:=.fields #[.none,.bool false,.bool false,.ref (zH2 c d h l m).objs.size,.ref (zH3 c d h l m).objs.size] }
noncomputable abbrev IP (c d:String) (l m:Addr) (P:Heap->Prop):Prop:=Meets (Builtin.«zip.__new__» ⟨[.type "zip",.ref l,.ref m],[]⟩) (λ_ R s=>P s.heap/\R (.ok (.ret (.ref (zH4 c d s.heap l m).objs.size))) { s with heap:=zH5 c d s.heap l m })
theorem TM (l m:Addr) (xs ys:Array Value):IP "list_iterator" "list_iterator" l m (λh=>h.IsList l xs/\h.IsList m ys) :=
 .of_wp λprog w A R s h=>by
  obtain⟨hp,g,d,tk,os⟩:=s;obtain⟨⟨e1,e2⟩,h⟩:=h
  have sz:=sub_zip
  have f1:Heap.IsList (Shared.heap ⟨hp,g,d,tk,os⟩) l xs:=e1
  have f2:Heap.IsList (Shared.heap ⟨hp.push (jJ "list_iterator" l),g,d,tk,os⟩) m ys:=e2.at λo e=>Heap.get?_push_of_some _ e
  wp_walk using wpAny_pyIter_list f1,wpAny_pyIter_list f2
  exact⟨_,rfl,h⟩
theorem TR (l m:Addr) (xs ys:Array Value):IP "tuple_iterator" "tuple_iterator" l m (λh=>h.IsTuple l xs/\h.IsTuple m ys) :=
 .of_wp λprog w A R s h=>by
  obtain⟨hp,g,d,tk,os⟩:=s;obtain⟨⟨e1,e2⟩,h⟩:=h
  have sz:=sub_zip
  have f1:Heap.IsTuple (Shared.heap ⟨hp,g,d,tk,os⟩) l xs:=e1
  have f2:Heap.IsTuple (Shared.heap ⟨hp.push (jJ "tuple_iterator" l),g,d,tk,os⟩) m ys:=e2.at λo e=>Heap.get?_push_of_some _ e
  wp_walk using wpAny_pyIter_tuple f1,wpAny_pyIter_tuple f2
  exact⟨_,rfl,h⟩
theorem TQ (l m:Addr) (xs ys:Array Value):IP "tuple_iterator" "list_iterator" l m (λh=>h.IsTuple l xs/\h.IsList m ys) :=
 .of_wp λprog w A R s h=>by
  obtain⟨hp,g,d,tk,os⟩:=s;obtain⟨⟨e1,e2⟩,h⟩:=h
  have sz:=sub_zip
  have f1:Heap.IsTuple (Shared.heap ⟨hp,g,d,tk,os⟩) l xs:=e1
  have f2:Heap.IsList (Shared.heap ⟨hp.push (jJ "tuple_iterator" l),g,d,tk,os⟩) m ys:=e2.at λo e=>Heap.get?_push_of_some _ e
  wp_walk using wpAny_pyIter_tuple f1,wpAny_pyIter_list f2
  exact⟨_,rfl,h⟩
theorem TN (l m:Addr) (xs ys:Array Value):IP "list_iterator" "tuple_iterator" l m (λh=>h.IsList l xs/\h.IsTuple m ys) :=
 .of_wp λprog w A R s h=>by
  obtain⟨hp,g,d,tk,os⟩:=s;obtain⟨⟨e1,e2⟩,h⟩:=h
  have sz:=sub_zip
  have f1:Heap.IsList (Shared.heap ⟨hp,g,d,tk,os⟩) l xs:=e1
  have f2:Heap.IsTuple (Shared.heap ⟨hp.push (jJ "list_iterator" l),g,d,tk,os⟩) m ys:=e2.at λo e=>Heap.get?_push_of_some _ e
  wp_walk using wpAny_pyIter_list f1,wpAny_pyIter_tuple f2
  exact⟨_,rfl,h⟩
theorem LE {n l m:Addr} (h1:l<n) (h2:m<n):ZipAp (n+4) (n+2) (n+3) n (n+1) l m:=by
 constructor <;> (intro e;first | omega | (simp only[Addr] at *;omega))
section
variable {prog:Program} {w:World} {A:Around} {E:Value->Shared->Prop} {s:Shared}
theorem IZ {c d:String} {l m:Addr} {P:Heap->Prop} {Q:Value->Shared->Prop} (Z:IP c d l m P) (hP:P s.heap)
  (q:∀h',dW h' (s.heap.objs.size+4) (s.heap.objs.size+2) (s.heap.objs.size+3) .none (.bool false)->IsPair h' (s.heap.objs.size+2) (.ref s.heap.objs.size) (.ref (s.heap.objs.size+1))->IsPair h' (s.heap.objs.size+3) .none .none ->
   h'.get? s.heap.objs.size=some (jJ c l)->h'.get? (s.heap.objs.size+1)=some (jJ d m)->h'.objs.size=s.heap.objs.size+5->(∀b o,s.heap.get? b=some o->h'.get? b=some o)->Q (.ref (s.heap.objs.size+4)) { s with heap:=h' }) :
  wpAny (model prog w) A (call (.type "zip") [.ref l,.ref m]) Q E s:=by
 refine callType_new F.called_zip (by decide) (F.typeCall_zip_2 _ _) (F.newCall_zip_2 _ _) (λobj=>F.args_object_init_3 obj _ _) F.entry_zip_new Z ⟨hP,?_⟩
 have z1:(zH1 c s.heap l).objs.size=s.heap.objs.size+1:=Heap.size_push ..
 have z2:(zH2 c d s.heap l m).objs.size=s.heap.objs.size+2:=by rw[Heap.size_push,z1]
 have z3:(zH3 c d s.heap l m).objs.size=s.heap.objs.size+3:=by rw[Heap.size_push,z2]
 have z4:(zH4 c d s.heap l m).objs.size=s.heap.objs.size+4:=by rw[Heap.size_push,z3]
 have z5:(zH5 c d s.heap l m).objs.size=s.heap.objs.size+5:=by rw[Heap.size_push,z4]
 have up:∀{h:Heap} {o:Obj} {b:Addr} {u:Obj},h.get? b=some u->(h.push o).get? b=some u:=λe=>Heap.get?_push_of_some _ e
 have g5:(zH5 c d s.heap l m).get? (zH4 c d s.heap l m).objs.size=some _:=Heap.get?_push_size _ rfl
 have g4:(zH5 c d s.heap l m).get? (zH3 c d s.heap l m).objs.size=some _:=up (Heap.get?_push_size _ rfl)
 have g3:(zH5 c d s.heap l m).get? (zH2 c d s.heap l m).objs.size=some _:=up (up (Heap.get?_push_size _ rfl))
 have g2:(zH5 c d s.heap l m).get? (zH1 c s.heap l).objs.size=some _:=up (up (up (Heap.get?_push_size _ rfl)))
 have g1:(zH5 c d s.heap l m).get? s.heap.objs.size=some _:=up (up (up (up (Heap.get?_push_size _ rfl))))
 show _/\_
 rw[z2,z3,z4] at g5
 rw[z1,z2] at g3
 rw[z3] at g4
 rw[z1] at g2
 rw[z4]
 exact⟨⟨_,g5,rfl⟩,q _ g5 g3 g4 g1 g2 z5 λb o x=>up (up (up (up (up x))))⟩
theorem tP {R:Result->Shared->Prop} {S I:Addr} {n:Nat} {J F:List Value->Heap->Prop} {s0:Shared} (res:Value) (hn:n<=sizeLine)
  (stay:∀acc h h',J acc h->(∃o,h.get? S=some o/\o.cls = .type "list")->h'.objs.size=h.objs.size->(∀b o,b≠S->h.get? b=some o->h'.get? b=some o)->J acc h')
  (item:∀acc (s:Shared) (o:Obj) (Q:Option Value->Shared->Prop) (E:Value->Shared->Prop),acc.length<n->J acc s.heap->s.heap.get? S=some o->(∀v h',J (acc++[v]) h'->h'.get? S=some o->Q (some v) { s with heap:=h' })->wpAny (model prog w) A.in1 (pyNext (.ref I)) Q E s)
  (done:∀acc (s:Shared) (o:Obj) (Q:Option Value->Shared->Prop) (E:Value->Shared->Prop),acc.length=n->J acc s.heap->s.heap.get? S=some o->(∀h',F acc h'->h'.get? S=some o->Q none { s with heap:=h' })->wpAny (model prog w) A.in1 (pyNext (.ref I)) Q E s)
  (hR:∀h' acc c,acc.size=n->F acc.toList h'->h'.get? S=some { cls:=.type "list",dict:=none,data:=.seq acc c,slots:=#[] }->R (.ok (.ret res)) { s0 with heap:=h' }) :
  ∀(k:Nat) (acc:Array Value) (h:Heap) (c:Nat),k=n-acc.size->acc.size<=n->J acc.toList h->h.get? S=some { cls:=.type "list",dict:=none,data:=.seq acc c,slots:=#[] } ->
   codeAny (model prog w) A (.builtin "list.extend.loop" ⟨[.ref S,.ref I,res],[]⟩) R { s0 with heap:=h }:=by
 intro k
 induction k with
 | zero =>
  intro acc h c hk hle hJ hS
  refine codeAny_builtin PySem.F.entry_extend_loop ?_
  rw[Around.under_plainId PySem.F.plain_extend_loop _]
  show wpAny _ A.in1 (pyNext (.ref I) >>= _) _ _ _
  apply wpAny_bind;refine done acc.toList { s0 with heap:=h } _ _ _ (by simp;omega) hJ hS λh' hF hS'=>?_
  exact wpAny_pure (hR h' acc c (by omega) hF hS')
 | succ k ih =>
  intro acc h c hk hle hJ hS
  refine codeAny_builtin PySem.F.entry_extend_loop ?_
  rw[Around.under_plainId PySem.F.plain_extend_loop _]
  show wpAny _ A.in1 (pyNext (.ref I) >>= _) _ _ _
  apply wpAny_bind;refine item acc.toList { s0 with heap:=h } _ _ _ (by simp;omega) hJ hS λv h' hJ' hS'=>?_
  show wpAny _ A.in1 (updateSeq S (·.push v) >>= _) _ _ _
  have hs2:acc.size<n:=by omega
  have e1:(acc.push v).size=acc.size+1:=Array.size_push ..
  apply wpAny_bind;refine wpAny_updateSeq hS' rfl ?_ (by omega) (by show (acc.push v).size<=sizeLine+1;omega)
  apply wpAny_pure;refine⟨plainId_quiet PySem.F.plain_extend_loop _,?_⟩
  refine ih (acc.push v) _ _ (by omega) (by omega) (stay _ _ _ (by simpa using hJ') ⟨_,hS',rfl⟩ (Heap.SameBut.update ..).1 λb o hb e=>(Heap.get?_update_other _ _ (Ne.symm hb)).trans e) (Heap.get?_update_self _ hS' rfl)
end
theorem GD:typeLookup (.type "zip") "__len__" = pure none:=by rw[typeLookup_type,builtinLookup_eq_fast];kernel_rfl
theorem DQ:typeLookup (.type "zip") "__length_hint__" = pure none:=by rw[typeLookup_type,builtinLookup_eq_fast];kernel_rfl
section
variable {prog:Program} {w:World} {A:Around} {E:Value->Shared->Prop} {s:Shared} {z TI TO i1 i2 a1 a2:Addr} {vs us:List Value} {T1 T2:Nat->Heap->Prop}
structure ZipGot (z TI TO i1 i2:Addr) (T1 T2:Nat->Heap->Prop) (vs us:List Value) (N:Nat) (fixed:Heap) (S:Addr) (acc:List Value) (h:Heap):Prop where
 st:ZipSt z TI TO i1 i2 T1 T2 acc.length h
 size:h.objs.size=N+acc.length
 refs:∀j,j<acc.length->acc[j]? = some (.ref (N+j))
 got:∀j,j<acc.length->∀x y,vs[j]? = some x->us[j]? = some y->IsPair h (N+j) x y
 kept:∀b o,b≠z->b≠TO->b≠i1->b≠i2->b≠S->fixed.get? b=some o->h.get? b=some o
structure ZipHad (z TO i1 i2:Addr) (vs us:List Value) (N:Nat) (fixed:Heap) (S:Addr) (acc:List Value) (h:Heap):Prop where
 refs:∀j,j<acc.length->acc[j]? = some (.ref (N+j))
 got:∀j,j<acc.length->∀x y,vs[j]? = some x->us[j]? = some y->IsPair h (N+j) x y
 kept:∀b o,b≠z->b≠TO->b≠i1->b≠i2->b≠S->fixed.get? b=some o->h.get? b=some o
theorem vK (hh:A.handled=none) (D:ZipAp z TI TO i1 i2 a1 a2) (S1:∀{prog w},Sub prog w i1 a1 vs T1) (S2:∀{prog w},Sub prog w i2 a2 us T2) (hl:vs.length=us.length) (hn:vs.length<=sizeLine) (st:ZipSt z TI TO i1 i2 T1 T2 0 s.heap) {Q:Value->Shared->Prop}
  (q:∀h' acc c,acc.size=vs.length->ZipHad z TO i1 i2 vs us (s.heap.objs.size+1) s.heap s.heap.objs.size acc.toList h'->h'.get? s.heap.objs.size=some { cls:=.type "list",dict:=none,data:=.seq acc c,slots:=#[] }->Q (.ref s.heap.objs.size) { s with heap:=h' }) :
  wpAny (model prog w) A (call (.type "list") [.ref z]) Q E s:=by
 have zl:z<s.heap.objs.size:=by rcases st.out with hz | ⟨T,f,o,hz,_⟩ <;> exact Heap.lt_size hz
 have TIl:TI<s.heap.objs.size:=Heap.lt_size st.its
 have TOl:TO<s.heap.objs.size:=by obtain⟨a,b,h⟩:=st.own;exact Heap.lt_size h
 obtain⟨i1l,a1l⟩:=(S1 (prog:=prog) (w:=w)).lt st.one
 obtain⟨i2l,a2l⟩:=(S2 (prog:=prog) (w:=w)).lt st.two
 refine callType_codes (Q₁:=λobj s₁=>obj = .ref s.heap.objs.size/\s₁ = { s with heap:=s.heap.push { cls:=.type "list",data:=.seq #[] } }) F.called_list (F.typeCall_list_1 _) F.entry_list_init (code_list_new _ ⟨rfl,rfl⟩) λobj s₁ h₁=>?_
 obtain⟨rfl,rfl⟩:=h₁
 have hS:(s.heap.push { cls:=.type "list",data:=.seq #[] }).get? s.heap.objs.size=some { cls:=.type "list",data:=.seq #[] }:=Heap.get?_push_size _ rfl
 refine⟨⟨_,hS,rfl⟩,F.args_list_init_2 _ _,?_⟩
 show wpAny _ _ (do let old <-Builtin.List.listItems (.ref s.heap.objs.size);Builtin.List.listUpdate (.ref s.heap.objs.size) (λ_=>#[]);letGo old.toList.reverse;Builtin.List.listExtendWith (.ref s.heap.objs.size) (.ref z) .none) _ _ _
 apply wpAny_bind;unfold Builtin.List.listItems
 apply wpAny_bind;apply wpAny_seqItems hS rfl;apply wpAny_pure
 show wpAny _ _ (updateSeq s.heap.objs.size (λ_=>#[]) >>= λ_=>letGo (#[]:Array Value).toList.reverse >>= λ_=>Builtin.List.listExtendWith (.ref s.heap.objs.size) (.ref z) .none) _ _ _
 apply wpAny_bind;refine wpAny_updateSeq hS rfl ?_
 have hS2:=Heap.get?_update_self (Obj.mapSeq (λ_=>(#[]:Array Value))) hS rfl
 have up2:∀b o,b≠s.heap.objs.size->s.heap.get? b=some o->((s.heap.push { cls:=.type "list",data:=.seq #[] }).update s.heap.objs.size (Obj.mapSeq (λ_=>(#[]:Array Value)))).get? b=some o :=
  λb o hb e=>(Heap.get?_update_other _ _ (Ne.symm hb)).trans (Heap.get?_push_of_some _ e)
 have z2:((s.heap.push { cls:=.type "list",data:=.seq #[] }).update s.heap.objs.size (Obj.mapSeq (λ_=>(#[]:Array Value)))).objs.size=s.heap.objs.size+1:=by rw[(Heap.SameBut.update ..).1,Heap.size_push]
 generalize (s.heap.push { cls:=.type "list",data:=.seq #[] }).update s.heap.objs.size (Obj.mapSeq (λ_=>(#[]:Array Value)))=h2 at hS2 up2 z2
 apply wpAny_bind;apply wpAny_letGo
 have move:∀{h3:Heap},(∀b o,b≠s.heap.objs.size->s.heap.get? b=some o->h3.get? b=some o)->ZipSt z TI TO i1 i2 T1 T2 0 h3:=λ{h3} up=>by
  have ne:∀{b:Addr},b<s.heap.objs.size->b≠s.heap.objs.size:=λh=>Nat.ne_of_lt h
  obtain⟨a,b,hO⟩:=st.own
  refine⟨?_,up _ _ (ne TIl) st.its,⟨a,b,up _ _ (ne TOl) hO⟩,(S1 (prog:=prog) (w:=w)).stay st.one (λo e=>up _ o (ne i1l) e) (λo e=>up _ o (ne a1l) e),(S2 (prog:=prog) (w:=w)).stay st.two (λo e=>up _ o (ne i2l) e) λo e=>up _ o (ne a2l) e⟩
  rcases st.out with hz | ⟨T,f,o,hz,hT,n1,n2,n3⟩
  ·exact .inl (up _ _ (ne zl) hz)
  ·exact .inr ⟨T,f,o,up _ _ (ne zl) hz,⟨up _ _ (ne (Heap.lt_size hT.1)) hT.1,hT.2⟩,n1,n2,n3⟩
 have ty2:∀{h3:Heap} {g d t os},(∀b o,b≠s.heap.objs.size->s.heap.get? b=some o->h3.get? b=some o)->Shared.TypeIs ⟨h3,g,d,t,os⟩ (.ref z) "zip":=λ{h3 g d t os} up=>by
  rcases (move up).out with hz | ⟨T,f,o,hz,_⟩ <;> exact⟨_,hz,rfl⟩
 unfold Builtin.List.listExtendWith
 apply wpAny_bind;refine wpAny_typeOf (T:="zip") (ty2 up2) ?_
 have g1:Builtin.List.listSameRef (.ref s.heap.objs.size) (.ref z)=false:=by simp[Builtin.List.listSameRef,Nat.ne_of_gt zl]
 have g2:(Value.type "zip" == Value.type "list")=false:=by decide
 have g3:(Value.type "zip" == Value.type "tuple")=false:=by decide
 simp only[g1,g2,g3,Bool.or_false,Bool.false_eq_true,if_false]
 have self:∀{s':Shared} {Q':Value->Shared->Prop} {E':Value->Shared->Prop} {A':Around},s'.TypeIs (.ref z) "zip"->Q' (.ref z) s'->wpAny (model prog w) A' (pyIter (.ref z)) Q' E' s':=λ{s' Q' E' A'} ty h=>by
  refine wpAny_pyIter_slot ty F.slot_zip_iter (wpAny_call_entry F.slot_zip_iter ty F.entry_zip_iter ?_ (F.args_zip_iter_1 _))
  show wpAny _ _ (ret (.ref z)) _ _ s'
  exact wpAny_pure ⟨_,rfl,"zip",_,ty,F.slot_zip_next.lookup,h⟩
 apply wpAny_bind;refine self (ty2 up2) ?_
 apply wpAny_bind;apply wpAny_holding;unfold Builtin.List.listLengthHint
 apply wpAny_bind;refine wpAny_specialOf (ty2 up2) GD ?_
 show wpAny _ _ (specialOf (Value.ref z) (Str.ofString "__length_hint__") >>= _) _ _ _
 apply wpAny_bind;refine wpAny_specialOf (ty2 up2) DQ ?_
 apply wpAny_pure
 show wpAny _ _ (rule "list.extend.makes-room" >>= λ_=>Builtin.List.listTouch (.ref s.heap.objs.size) >>= λ_=>again (.builtin "list.extend.loop" ⟨[.ref s.heap.objs.size,.ref z,.none],[]⟩)) _ _ _
 apply wpAny_bind;apply wpAny_rule;apply wpAny_bind
 show wpAny _ _ (updateSeq s.heap.objs.size (·.push .none) >>= λ_=>updateSeq s.heap.objs.size (·.pop)) _ _ _
 apply wpAny_bind;refine wpAny_updateSeq hS2 rfl ?_
 have hS3:=Heap.get?_update_self (Obj.mapSeq (·.push Value.none)) hS2 rfl
 refine wpAny_updateSeq (hz:=by seq_fits) hS3 rfl ?_
 have hS4:=Heap.get?_update_self (Obj.mapSeq (·.pop)) hS3 rfl
 have up4:∀b o,b≠s.heap.objs.size->s.heap.get? b=some o->((h2.update s.heap.objs.size (Obj.mapSeq (·.push Value.none))).update s.heap.objs.size (Obj.mapSeq (·.pop))).get? b=some o :=
  λb o hb e=>(Heap.get?_update_other _ _ (Ne.symm hb)).trans ((Heap.get?_update_other _ _ (Ne.symm hb)).trans (up2 b o hb e))
 have z4:((h2.update s.heap.objs.size (Obj.mapSeq (·.push Value.none))).update s.heap.objs.size (Obj.mapSeq (·.pop))).objs.size=s.heap.objs.size+1:=by rw[(Heap.SameBut.update ..).1,(Heap.SameBut.update ..).1,z2]
 generalize (h2.update s.heap.objs.size (Obj.mapSeq (·.push Value.none))).update s.heap.objs.size (Obj.mapSeq (·.pop))=h4 at hS4 up4 z4
 apply wpAny_pure;refine⟨plainId_quiet PySem.F.plain_extend_loop _,?_⟩
 refine tP (n:=vs.length) (J:=ZipGot z TI TO i1 i2 T1 T2 vs us (s.heap.objs.size+1) s.heap s.heap.objs.size) (F:=ZipHad z TO i1 i2 vs us (s.heap.objs.size+1) s.heap s.heap.objs.size) .none hn ?_ ?_ ?_ (λh' acc c hsz hF hS'=>⟨rfl,q h' acc c hsz hF hS'⟩) vs.length #[] h4 _ rfl (Nat.zero_le _) ?_ hS4
 ·intro acc h h' J hSo hz up
  have ne:∀{b:Addr},b<s.heap.objs.size->b≠s.heap.objs.size:=λh=>Nat.ne_of_lt h
  obtain⟨a,b,hO⟩:=J.st.own
  refine⟨⟨?_,up _ _ (ne TIl) J.st.its,⟨a,b,up _ _ (ne TOl) hO⟩,(S1 (prog:=prog) (w:=w)).stay J.st.one (λo e=>up _ o (ne i1l) e) (λo e=>up _ o (ne a1l) e),(S2 (prog:=prog) (w:=w)).stay J.st.two (λo e=>up _ o (ne i2l) e) λo e=>up _ o (ne a2l) e⟩,hz.trans J.size,J.refs,λj hj x y e1 e2=>up _ _ (by intro e;simp only[Addr] at *;omega) (J.got j hj x y e1 e2),λb o n1 n2 n3 n4 n5 e=>up b o n5 (J.kept b o n1 n2 n3 n4 n5 e)⟩
  rcases J.st.out with hz | ⟨T,f,o,hz,hT,n1,n2,n3⟩
  ·exact .inl (up _ _ (ne zl) hz)
  ·have hTS:T≠s.heap.objs.size:=λe=>by
    obtain⟨u,hu,cu⟩:=hSo
    rw[<-e,hT.1] at hu;cases hu
    rw[hT.2] at cu;simp at cu
   exact .inr ⟨T,f,o,up _ _ (ne zl) hz,⟨up _ _ hTS hT.1,hT.2⟩,n1,n2,n3⟩
 ·intro acc s' o Q' E' hlt J hSo k
  have e1:vs[acc.length]? = some (vs[acc.length]'hlt):=List.getElem?_eq_getElem _
  have e2:us[acc.length]? = some (us[acc.length]'(by omega)):=List.getElem?_eq_getElem _
  refine QB D S1 S2 J.st e1 e2 λh' st' hp hz kp=>?_
  have hz':=J.size
  refine k _ h' ⟨by simpa using st',by simp;omega,λj hj=>?_,λj hj x y f1 f2=>?_,λb o n1 n2 n3 n4 n5 e=>kp b o n1 n2 n3 n4 (J.kept b o n1 n2 n3 n4 n5 e)⟩ (kp _ _ (Nat.ne_of_gt zl) (Nat.ne_of_gt TOl) (Nat.ne_of_gt i1l) (Nat.ne_of_gt i2l) hSo)
  ·simp only[List.length_append,List.length_cons,List.length_nil] at hj
   by_cases h:j<acc.length
   ·rw[List.getElem?_append_left h];exact J.refs j h
   ·have:j=acc.length:=by omega
    subst this
    rw[List.getElem?_append_right (Nat.le_refl _),hz'];simp
  ·simp only[List.length_append,List.length_cons,List.length_nil] at hj
   by_cases h:j<acc.length
   ·refine kp _ _ ?_ ?_ ?_ ?_ (J.got j h x y f1 f2) <;> (intro e;simp only[Addr] at *;omega)
   ·have:j=acc.length:=by omega
    subst this
    rw[e1] at f1;rw[e2] at f2;cases f1;cases f2
    rw[<-hz'];exact hp
 ·intro acc s' o Q' E' hlen J hSo k
  refine TL (A:=A.in1.in1) hh D S1 S2 J.st (.inl (List.getElem?_eq_none (by omega))) λh' kp=>?_
  refine k h' ⟨J.refs,λj hj x y f1 f2=>kp _ _ ?_ ?_ ?_ ?_ (J.got j hj x y f1 f2),λb o n1 n2 n3 n4 n5 e=>kp b o n1 n2 n3 n4 (J.kept b o n1 n2 n3 n4 n5 e)⟩ (kp _ _ (Nat.ne_of_gt zl) (Nat.ne_of_gt TOl) (Nat.ne_of_gt i1l) (Nat.ne_of_gt i2l) hSo) <;> (intro e;simp only[Addr] at *;omega)
 ·exact⟨move up4,by simpa using z4,by simp,by simp,λb o n1 n2 n3 n4 n5 e=>up4 b o n5 e⟩
end
section
variable {X:Cx} {pins:List (Addr × Obj)} {σ:St}
theorem _root_.L2.Inv.trackO {s s':Shared} {H H':Hp} {a:Addr} {w:HO} (I:Inv X pins σ H s) (I':Inv X pins σ H' s') (ha:s.heap.objs.size<=a) (hn:H' a=none) (new:ObjOk X.prog X.w (upd H' a w) s'.heap a w):Inv X pins σ (upd H' a w) s':=by
 have nL:X.env.locals≠a:=Nat.ne_of_lt (Nat.lt_of_lt_of_le I.lt ha)
 have nC:∀x c,X.env.cells.lookup x=some c->c≠a:=λx c q z=>by
  obtain⟨v,hv⟩:=I.cell x c q
  exact absurd (Nat.lt_of_lt_of_le hv.lt (by rw[z];exact ha)) (Nat.lt_irrefl _)
 have n0:∀{b:Addr} {o:Obj},X.s₀.heap.get? b=some o->b≠a:=λ{b o} q=>Nat.ne_of_lt (Nat.lt_of_lt_of_le (Heap.lt_size q) (Nat.le_trans I.sz ha))
 refine⟨I'.ok,I'.os,I'.bare,⟨I'.base.keep,I'.base.slot,λb o q n hx=>by rw[aR (n0 q)];exact I'.base.free b o q n hx,I'.base.there,λb ys q=>by rw[aR (aS (I'.base.tups b ys q) hn)];exact I'.base.tups b ys q,λb o u q=>by rw[aR (aS (I'.base.frzs b o u q) hn)];exact I'.base.frzs b o u q,λb ps q=>?_⟩,I'.loc,I'.cell,by rw[aR nL];exact I'.free,λx c q=>by rw[aR (nC x c q)];exact I'.freeC x c q,λp hp=>?_,λb u q=>?_,I'.len⟩
 ·obtain⟨m,q2⟩:=I'.base.tbls b ps q
  exact⟨m,by rw[aR (aS q2 hn)];exact q2⟩
 ·obtain⟨q1,q2,q3,q4,q5⟩:=I'.pin p hp
  have hp1:p.1≠a:=Nat.ne_of_lt (Nat.lt_of_lt_of_le (Heap.lt_size (I.pin p hp).1) ha)
  exact⟨q1,by rw[aR hp1];exact q2,q3,q4,q5⟩
 ·by_cases hb:b=a
  ·subst hb
   rw[bV] at q;cases q
   exact new
  ·rw[aR hb] at q
   exact (I'.hok b u q).stay (λc v _ w=>w) (λc w=>by rw[aR (aS w hn)];exact w) λc ys w=>by rw[aR (aS w hn)];exact w
noncomputable def qX (H:Hp):Nat->List (V × V)->Hp
 | _,[]=>H
 | N,p::ps=>qX (upd H N (.tup [p.1,p.2])) (N+1) ps
theorem tX:∀(ps:List (V × V)) (H:Hp) (N:Nat),(∀a,N<=a->H a=none)->Same H (qX H N ps)/\(∀a,N+ps.length<=a->qX H N ps a=none)/\∀j p,ps[j]? = some p->qX H N ps (N+j)=some (.tup [p.1,p.2])
 | [],H,N,hn=>⟨Same.refl H,λa ha=>hn a (by simpa using ha),λj p e=>by simp at e⟩
 | p::ps,H,N,hn=>by
  have hn':∀a,N+1<=a->upd H N (.tup [p.1,p.2]) a=none:=λa ha=>by rw[aR (Nat.ne_of_gt ha)];exact hn a (Nat.le_of_succ_le ha)
  obtain⟨s1,s2,s3⟩:=tX ps (upd H N (.tup [p.1,p.2])) (N+1) hn'
  refine⟨λb o e=>s1 b o (by rw[aR (aS e (hn N (Nat.le_refl _)))];exact e),λa ha=>s2 a (by simp at ha;omega),λj q e=>?_⟩
  cases j with
  | zero=>simp at e;subst e;exact s1 _ _ bV
  | succ j =>
   have:=s3 j q (by simpa using e)
   rw[show N+(j+1)=N+1+j by omega];exact this
theorem _root_.L2.Inv.lays {s s':Shared} {H:Hp} (I:Inv X pins σ H s):∀(ps:List (V × V)) (us:List (Value × Value)) (H':Hp) (N:Nat),Inv X pins σ H' s'->s.heap.objs.size<=N->(∀a,N<=a->H' a=none)->ps.length=us.length ->
  (∀j p u,ps[j]? = some p->us[j]? = some u->RelV p.1 u.1/\RelV p.2 u.2/\IsPair s'.heap (N+j) u.1 u.2)->Inv X pins σ (qX H' N ps) s'
 | [],_,H',N,I',_,_,_,_=>I'
 | p::ps,[],H',N,I',_,_,hl,_=>by simp at hl
 | p::ps,u::us,H',N,I',hN,hn,hl,hh=>by
  obtain⟨r1,r2,hp⟩:=hh 0 p u rfl rfl
  have I2:Inv X pins σ (upd H' N (.tup [p.1,p.2])) s':=I.trackO I' hN (hn N (Nat.le_refl _)) ⟨by show 2<=sizeLine;decide,[u.1,u.2],.cons r1 (.cons r2 .nil),⟨_,hp,rfl,_,rfl⟩⟩
  refine Inv.lays I ps us _ (N+1) I2 (by omega) (λa ha=>by rw[aR (Nat.ne_of_gt ha)];exact hn a (Nat.le_of_succ_le ha)) (by simpa using hl) λj q v e1 e2=>?_
  obtain⟨q1,q2,q3⟩:=hh (j+1) q v (by simpa using e1) (by simpa using e2)
  exact⟨q1,q2,by rw[show N+1+j=N+(j+1) by omega];exact q3⟩
end
noncomputable def KS:D->Option (List D)
 | .lst xs=>some xs
 | .tup xs=>some xs
 | _=>none
noncomputable def FO (ta tb:RE):RA:=λρ Q=>ta ρ λx=>tb ρ λy=>∃xs ys,KS x=some xs/\KS y=some ys/\xs.length=ys.length/\Q (xs.zipWith (λa b=>D.tup [a,b]) ys)
theorem TJ {K:PySem.W.Frag} {H:Hp} {N:Nat}:∀{xs ys:List D} {vs us:List V} {ps:List (V × V)} (n:Nat),ps=vs.zip us->Reps K H xs vs->Reps K H ys us->xs.length=ys.length->(∀j p,ps[j]? = some p->H (N+(n+j))=some (.tup [p.1,p.2])) ->
  Reps K H (xs.zipWith (λa b=>D.tup [a,b]) ys) ((List.range ps.length).map λj=>V.ref (N+(n+j))):=by
 intro xs
 induction xs with
 | nil =>
  intro ys vs us ps n e r1 r2 hl _
  cases r1
  cases r2 with
  | nil=>subst e;exact .nil
  | cons _ _=>simp at hl
 | cons x xs ih =>
  intro ys vs us ps n e r1 r2 hl hh
  cases r1 with
  | @cons _ v _ vs r1 t1 =>
   cases r2 with
   | nil=>simp at hl
   | @cons y u ys us r2 t2 =>
    subst e
    have h0:=hh 0 (v,u) rfl
    have ih:=ih (n:=n+1) (ps:=vs.zip us) rfl t1 t2 (by simpa using hl) λj p e=>by
     have:=hh (j+1) p (by simpa using e)
     rw[show n+1+j=n+(j+1) by omega];exact this
    simp only[List.zip_cons_cons,List.length_cons,List.range_succ_eq_map,List.map_cons,List.map_map,List.zipWith_cons_cons]
    refine .cons (.tup h0 (.cons r1 (.cons r2 .nil))) ?_
    have e2:((λj=>V.ref (N+(n+j))) ∘ Nat.succ)=λj=>V.ref (N+(n+1+j)):=by
     funext j;simp only[Function.comp,Nat.succ_eq_add_one];congr 2;omega
    rw[e2];exact ih
theorem AQ:bootBuiltins "zip" = some (.type "zip"):=by decide +kernel
structure Src (h:Heap) (a:Addr) (its:List Value) (c:String) (P:Heap->Prop) (T:Addr->Nat->Heap->Prop):Prop where
 here:P h
 lt:a<h.objs.size
 stay:∀{h1 h2:Heap},P h1->(∀o,h1.get? a=some o->h2.get? a=some o)->P h2
 sub:∀{prog:Program} {w:World} {I:Addr},a≠I->Sub prog w I a its (T I)
 start:∀{h1:Heap} {I:Addr},h1.get? I=some (jJ c a)->P h1->T I 0 h1
theorem pJ {h:Heap} {a:Addr} {its:List Value} (p:h.IsList a its.toArray):Src h a its "list_iterator" (λh=>h.IsList a its.toArray) (λI k h=>h.IsListIter I a k/\h.IsList a its.toArray) :=
 ⟨p,by obtain⟨o,e,_⟩:=p;exact Heap.lt_size e,λq e=>q.at e,λne=>PP ne,λe q=>⟨⟨_,e,rfl,rfl⟩,q⟩⟩
theorem sP {h:Heap} {a:Addr} {its:List Value} (p:h.IsTuple a its.toArray):Src h a its "tuple_iterator" (λh=>h.IsTuple a its.toArray) (λI k h=>h.IsTupleIter I a k/\h.IsTuple a its.toArray) :=
 ⟨p,by obtain⟨o,e,_⟩:=p;exact Heap.lt_size e,λq e=>q.at e,λne=>SV ne,λe q=>⟨⟨_,e,rfl,rfl⟩,q⟩⟩
section
variable {X:Cx} {a b:Expr} {ta tb:RE} {p pz pos posz:Pos}
theorem tJ (hml:X.mg "list" = none) (hmz:X.mg "zip" = none) (hc:X.calm=true) (ha:DB X a ta) (hb:DB X b tb) (hgl:Gl X "list":=by rfl) (hgz:Gl X "zip":=by rfl)
  (hs:starEach [.Call (.Name "zip" pz) [a,b] [] posz] X.env=[(false,eval (.Call (.Name "zip" pz) [a,b] [] posz) X.env)]:=by rfl) (hn:starEach [] X.env=[]:=by rfl) (h2:starEach [a,b] X.env=(false,eval a X.env)::starEach [b] X.env:=by rfl) (h1:starEach [b] X.env=[(false,eval b X.env)]:=by rfl) :
  DO X (.Call (.Name "list" p) [.Call (.Name "zip" pz) [a,b] [] posz] [] pos) (FO ta tb):=by
 intro pins s σ H Q I hh_0
 obtain⟨ρ,P,st,q,k⟩:=hh_0
 refine wpAny_Call_Name_kw (gN I hgl hml wQ ?_)
 refine PyProof.Rows.callWith_type1 ?_ (by rw[hs,hn]) (by rw[hn];rfl)
 rw[hs]
 show wpAny _ _ (spliced ((false,eval (.Call (.Name "zip" pz) [a,b] [] posz) X.env)::backTo pos [])) _ _ s
 refine Calls.spliced_cons (wpAny_Call_Name_kw (gN I hgz hmz AQ ?_))
 refine PyProof.Rows.callWith_type1 (thn (iQ ha (iQ hb uH (by rw[h1,hn])) h2 posz pins s σ H (λvs H1=>∃x y xs ys v u,vs=[v,u]/\Same H H1/\RepB X.K H1 x v/\RepB X.K H1 y u/\KS x=some xs/\KS y=some ys/\xs.length=ys.length/\P (xs.zipWith (λa b=>D.tup [a,b]) ys)) I
  ⟨ρ,_,st,q,λx v H1 hx s1 r1=>⟨ρ,_,st.ext s1,hx,λy u H2 hy s2 r2=>?_⟩⟩) λus s1 ⟨vs,H1,I1,r1,q1⟩=>?_) h2 (by rw[h1];rfl)
 ·obtain⟨xs,ys,e1,e2,e3,e4⟩:=hy
  exact⟨x,y,xs,ys,v,u,rfl,s1.trans s2,r1.same s2,r2,e1,e2,e3,e4⟩
 obtain⟨x,y,xs,ys,v,u,rfl,s01,rx,ry,ex,ey,hl,hP⟩:=q1
 obtain⟨w1,w2,rfl,rv,ru⟩:=DK r1
 have src:∀{x:D} {xs:List D} {v:V} {u:Value},RepB X.K H1 x v->KS x=some xs->RelV v u->∃(l:Addr) (vs:List V) (its:List Value),u = .ref l/\Reps X.K H1 xs vs/\Vals vs its/\vs.length<=sizeLine/\(s1.heap.IsList l its.toArray\/s1.heap.IsTuple l its.toArray):=λ{x xs v u} r e rv=>by
  cases x with
  | lst ds =>
   cases e
   obtain⟨l,vs,rfl,hq,rr⟩:=r.lst
   cases rv
   obtain⟨its,rw',pl,hz⟩:=I1.list hq
   exact⟨l,vs,its,rfl,rr,rw',hz,.inl pl.isList⟩
  | tup ds =>
   cases e
   obtain⟨l,vs,rfl,hq,rr⟩:=r.tup
   cases rv
   obtain⟨its,rw',pl,hz⟩:=I1.tuple (SqT.of hq)
   exact⟨l,vs,its,rfl,rr,rw',hz,.inr pl⟩
  | _=>cases e
 obtain⟨l,vs,its,rfl,rr1,rv1,hz1,k1⟩:=src rx ex rv
 obtain⟨m,us,jts,rfl,rr2,rv2,hz2,k2⟩:=src ry ey ru
 have lv:vs.length=us.length:=by rw[<-rr1.length,<-rr2.length,hl]
 have li:=rv1.length
 have lj:=rv2.length
 have fin:∀{c d:String} {P1 P2:Heap->Prop} {T1 T2:Addr->Nat->Heap->Prop},IP c d l m (λh=>P1 h/\P2 h)->Src s1.heap l its c P1 T1->Src s1.heap m jts d P2 T2 ->
   wpAny (model X.prog X.w) X.A (call (.type "zip") [.ref l,.ref m]) (λu s₁=>wpAny (model X.prog X.w) X.A (spliced (backTo pos [])) (λvs s₂=>wpAny (model X.prog X.w) X.A (call (.type "list") (u::vs)) (EP X pins σ Q) X.xe s₂) X.xe s₁) X.xe s1:=by
  intro c d P1 P2 T1 T2 Z S1 S2
  refine IZ Z ⟨S1.here,S2.here⟩ λh' hz hI hO g1 g2 hsz kp=>?_
  have lt1:=S1.lt
  have lt2:=S2.lt
  have D:=LE lt1 lt2
  refine Calls.spliced_nil ?_
  have p1:=S1.stay S1.here λo e=>kp l o e
  have p2:=S2.stay S2.here λo e=>kp m o e
  refine vK (A:=X.A) (I1.ok.hd hc) D (λ{_ _}=>S1.sub (Nat.ne_of_lt lt1)) (λ{_ _}=>S2.sub (by simp only[Addr] at *;omega)) (by omega) (by omega) ⟨.inl hz,hI,⟨_,_,hO⟩,S1.start g1 p1,S2.start g2 p2⟩ λh2 acc cc ha hd hS=>?_
  have hsz':(Shared.heap { s1 with heap:=h' }).objs.size=s1.heap.objs.size+5:=hsz
  rw[hsz'] at hd hS ⊢
  have kp2:∀b o,s1.heap.get? b=some o->h2.get? b=some o:=λb o e=>by
   have lb:=Heap.lt_size e
   refine hd.kept b o ?_ ?_ ?_ ?_ ?_ (kp b o e) <;> (intro z;simp only[Addr] at *;omega)
  have I2:Inv X pins σ H1 { s1 with heap:=h2 }:=I1.kept (t':=s1.toks) kp2
  have free:∀x,s1.heap.objs.size+5+1<=x->H1 x=none:=λx hx=>I1.hok.fresh (by omega)
  have I3:=I1.lays (s':={ s1 with heap:=h2 }) (vs.zip us) (its.zip jts) H1 (s1.heap.objs.size+5+1) I2 (by omega) free (by simp;omega) λj pp uu e1 e2=>by
   have e1':=List.getElem?_zip_eq_some.mp e1
   have e2':=List.getElem?_zip_eq_some.mp e2
   obtain⟨w1,f1,f2⟩:=rv1.get e1'.1
   obtain⟨w2,f3,f4⟩:=rv2.get e1'.2
   rw[e2'.1] at f1;rw[e2'.2] at f3;cases f1;cases f3
   refine⟨f2,f4,hd.got j ?_ _ _ e2'.1 e2'.2⟩
   have:=(List.getElem?_eq_some_iff.mp e2'.1).1
   simp;omega
  obtain⟨sm,fr,at'⟩:=tX (vs.zip us) H1 (s1.heap.objs.size+5+1) free
  generalize hH:qX H1 (s1.heap.objs.size+5+1) (vs.zip us)=H3 at I3 sm fr at'
  have hS0:H3 (s1.heap.objs.size+5)=none:=by
   rw[<-hH]
   have:∀(ps:List (V × V)) (G:Hp) (M:Nat),s1.heap.objs.size+5<M->qX G M ps (s1.heap.objs.size+5)=G (s1.heap.objs.size+5):=λps=>by
    induction ps with
    | nil=>intro G M _;rfl
    | cons p ps ih=>intro G M hM;rw[qX,ih _ _ (by omega),aR (Nat.ne_of_lt hM)]
   rw[this _ _ _ (by omega)]
   exact I1.hok.fresh (by omega)
  have accL:acc.toList=(List.range (vs.zip us).length).map λj=>Value.ref (s1.heap.objs.size+5+1+(0+j)):=by
   apply List.ext_getElem?
   intro j
   have hla:acc.toList.length=vs.length:=by simp;omega
   by_cases hj:j<vs.length
   ·rw[hd.refs j (by omega),List.getElem?_map,List.getElem?_range (by simp;omega)];simp
   ·rw[List.getElem?_eq_none (by omega),List.getElem?_eq_none (by simp;omega)]
  have RR:=TJ (N:=s1.heap.objs.size+5+1) 0 rfl (rr1.keep (.of sm)) (rr2.keep (.of sm)) hl λj pp e=>by
   have:=at' j pp e
   rw[Nat.zero_add];exact this
  have VV:Vals ((List.range (vs.zip us).length).map λj=>V.ref (s1.heap.objs.size+5+1+(0+j))) acc.toList:=by
   rw[accL]
   generalize List.range (vs.zip us).length=rs
   induction rs with
   | nil=>exact .nil
   | cons r rs ih=>exact .cons rfl ih
  have I4:=I1.trackO (a:=s1.heap.objs.size+5) (w:=.lst ((List.range (vs.zip us).length).map λj=>V.ref (s1.heap.objs.size+5+1+(0+j)))) I3 (by omega) hS0 ⟨by simp;omega,acc.toList,cc,VV,by simpa using hS⟩
  exact⟨.ref (s1.heap.objs.size+5),_,I4,rfl,k _ _ _ H3 hP (s01.trans sm) hS0 RR⟩
 rcases k1 with k1 | k1 <;> rcases k2 with k2 | k2
 ·exact fin (TM l m its.toArray jts.toArray) (pJ k1) (pJ k2)
 ·exact fin (TN l m its.toArray jts.toArray) (pJ k1) (sP k2)
 ·exact fin (TQ l m its.toArray jts.toArray) (sP k1) (pJ k2)
 ·exact fin (TR l m its.toArray jts.toArray) (sP k1) (sP k2)
end
noncomputable def Itz (K:PySem.W.Frag) (l m:Addr):It :=
 ⟨λi H=>∃xs ys x y,SqL K H l xs/\SqL K H m ys/\xs[i]? = some x/\ys[i]? = some y,λi H x H'=>∃p a b,H p=none/\x = .ref p/\H'=upd H p (.tup [a,b])/\(∀xs,SqL K H l xs->xs[i]? = some a)/\∀ys,SqL K H m ys->ys[i]? = some b,
  λi H=>∃xs ys,SqL K H l xs/\SqL K H m ys/\(xs.length<=i\/ys.length<=i)⟩
noncomputable def ZSt (z TI TO i1 i2 l m:Addr) (i:Nat) (h:Heap):Prop:=IsZip h z TI TO .none/\IsPair h TI (.ref i1) (.ref i2)/\(∃a b,IsPair h TO a b)/\h.IsListIter i1 l i/\h.IsListIter i2 m i
theorem PZ {P:Program} {w:World} {K:PySem.W.Frag} {elts:List Expr} {k:Nat} {pos:Pos} (z TI TO i1 i2 l m:Addr) (D:ZipApart z TI TO i1 i2 l m) :
  Turn P w K (.Tuple elts k pos) (Itz K l m) [z,TI,TO,i1,i2] z (ZSt z TI TO i1 i2 l m) where
 mem:=by simp
 obj:=λi h st b hb=>by
  obtain⟨hz,hI,⟨a,c,hO⟩,⟨o1,e1,c1,d1⟩,o2,e2,c2,d2⟩:=st
  simp only[List.mem_cons,List.not_mem_nil,or_false] at hb
  rcases hb with rfl | rfl | rfl | rfl | rfl
  ·exact⟨_,hz,λv z=>by cases z⟩
  ·exact⟨_,hI,λv z=>by cases z⟩
  ·exact⟨_,hO,λv z=>by cases z⟩
  ·exact⟨o1,e1,λv z=>by rw[d1] at z;cases z⟩
  ·exact⟨o2,e2,λv z=>by rw[d2] at z;cases z⟩
 keep:=λi h h' st kk=>by
  obtain⟨hz,hI,⟨a,c,hO⟩,h1,h2⟩:=st
  exact⟨kk z (by simp) _ hz,kk TI (by simp) _ hI,⟨a,c,kk TO (by simp) _ hO⟩,h1.at λo x=>kk i1 (by simp) o x,h2.at λo x=>kk i2 (by simp) o x⟩
 item:=by
  intro X hP hw hK hc i pins s σ H E I hf st hg
  subst hP hw hK
  obtain⟨xs,ys,x,y,hq,hr,hx,hy⟩:=hg
  obtain⟨its,rv,p,hzl⟩:=I.list hq
  obtain⟨jts,rw',p',hzm⟩:=I.list hr
  obtain⟨u,hu,ru⟩:=rv.get hx
  obtain⟨u',hu',ru'⟩:=rw'.get hy
  have W:=WalksT.zip2 (prog:=X.prog) (w:=X.w) (A:=X.A) (I.ok.hd hc) z TI TO i1 i2 l m D its.toArray jts.toArray
  have hlt:i<min its.toArray.size jts.toArray.size:=by
   have a1:=(List.getElem?_eq_some_iff.mp hu).1
   have a2:=(List.getElem?_eq_some_iff.mp hu').1
   simp;omega
  obtain⟨g1,g2,g3,g4,g5⟩:=id st
  refine W.item i s _ _ hlt ⟨g1,g2,g3,g4,g5,p.isList,p'.isList⟩ λT vals h1 tk hv hT ht hm kk=>?_
  obtain⟨v1,v2,e1,e2,rfl⟩:=hv
  have q1:v1=u:=by
   have:its.toArray[i]? = some u:=by simpa using hu
   rw[e1] at this;exact Option.some.inj this
  have q2:v2=u':=by
   have:jts.toArray[i]? = some u':=by simpa using hu'
   rw[e2] at this;exact Option.some.inj this
  subst q1 q2
  refine⟨_,rfl,?_⟩
  have sub:∀{b:Addr},b ∉ [z,TI,TO,i1,i2]->b ∉ [z,TO,i1,i2]:=λh h'=>h (by simp at h' ⊢;rcases h' with a | a | a | a <;> simp[a])
  have I1:Inv X pins σ (upd H T (.tup [x,y])) { s with heap:=h1,toks:=tk } :=
   I.turnedT (its:=[v1,v2]) (ch:=[z,TI,TO,i1,i2]) (λb o hb e=>kk b o (sub hb) e) hf hT (by simpa using ht) (.cons ru (.cons ru' .nil)) (by show 2<=sizeLine;decide)
  have hn:H T=none:=I.hok.fresh hT
  refine W.go elts k pos i T _ _ _ hm λh2 st2 kk2=>?_
  have hf1:∀b∈[z,TI,TO,i1,i2],pL X pins (upd H T (.tup [x,y])) b:=λb hb=>by
   obtain⟨f0,f1⟩:=hf b hb
   have:∃o,s.heap.get? b=some o:=by
    obtain⟨hz,hI,⟨a,c,hO⟩,⟨o1,w1,c1,d1⟩,o2,w2,c2,d2⟩:=st
    simp only[List.mem_cons,List.not_mem_nil,or_false] at hb
    rcases hb with rfl | rfl | rfl | rfl | rfl
    ·exact⟨_,hz⟩
    ·exact⟨_,hI⟩
    ·exact⟨_,hO⟩
    ·exact⟨_,w1⟩
    ·exact⟨_,w2⟩
   obtain⟨o,ho⟩:=this
   exact⟨by rw[aR (Nat.ne_of_lt (Nat.lt_of_lt_of_le (Heap.lt_size ho) hT))];exact f0,f1⟩
  refine⟨.ref T,_,I1.turnedL (ch:=[z,TI,TO,i1,i2]) (t':=tk) (λb o hb e=>kk2 b o (sub hb) e) hf1,rfl,⟨T,x,y,hn,rfl,rfl,λys' h'=>by rw[I.list_inj h' hq];exact hx,λys' h'=>by rw[I.list_inj h' hr];exact hy⟩,⟨st2.1,st2.2.1,st2.2.2.1,st2.2.2.2.1,st2.2.2.2.2.1⟩,λb hb=>(hf1 b hb).1⟩
 done:=by
  intro X hP hw hK hc i pins s σ H E I hf st hg
  subst hP hw hK
  obtain⟨xs,ys,hq,hr,hx⟩:=hg
  obtain⟨its,rv,p,hzl⟩:=I.list hq
  obtain⟨jts,rw',p',hzm⟩:=I.list hr
  obtain⟨g1,g2,⟨a,b,g3⟩,g4,g5⟩:=st
  have l1:=rv.length
  have l2:=rw'.length
  refine wpAny_pyNext_zip_end (I.ok.hd hc) D g1 g2 g3 g4 g5 p.isList p'.isList ?_ λh1 kk=>⟨rfl,I.turnedL (ch:=[z,TI,TO,i1,i2]) (t':=s.toks) (λb o hb q=>kk b o (λe=>hb (by simp[e])) (λe=>hb (by simp[e])) (λe=>hb (by simp[e])) (λe=>hb (by simp[e])) q) hf⟩
  rcases hx with hx | hx
  ·exact .inl (by rw[List.getElem?_toArray];exact List.getElem?_eq_none (by omega))
  ·exact .inr (by rw[List.getElem?_toArray];exact List.getElem?_eq_none (by omega))
 self:=λ_ _ _ _ _ st h=>wpAny_pyIter_zip st.1 h
section
variable {X:Cx} {a b:Expr} {ta tb:RE} {pos p:Pos} {elts:List Expr} {k:Nat} {tp:Pos}
noncomputable def IC (ta tb:RE):RA:=λρ Q=>ta ρ λx=>tb ρ λy=>match x,y with
 | .lst xs,.lst ys=>Q (xs.zipWith (λa b=>D.tup [a,b]) ys)
 | _,_=>False
theorem MX (hm:X.mg "zip" = none) (ha:DE X a ta) (hb:DE X b tb) (hg:Gl X "zip":=by rfl) (h2:starEach [a,b] X.env=(false,eval a X.env)::starEach [b] X.env:=by rfl) (h1:starEach [b] X.env=[(false,eval b X.env)]:=by rfl) (hn:starEach [] X.env=[]:=by rfl) :
  DI X (.Tuple elts k tp) (.Call (.Name "zip" p) [a,b] [] pos) (IC ta tb):=by
 intro pins s σ H R I hh_0
 obtain⟨ρ,P,st,q,kk⟩:=hh_0
 refine Call_ (gN I hg hm AQ (PyProof.Rows.callWith_type1 (thn (iQ ha (iQ hb uH (by rw[h1,hn])) h2 pos pins s σ H (λvs H1=>∃l m xs ys us ws,vs=[V.ref l,V.ref m]/\Same H H1/\P (xs.zipWith (λa b=>D.tup [a,b]) ys)/\FzL X.K H1 l us/\Reps X.K H1 xs us/\FzL X.K H1 m ws/\Reps X.K H1 ys ws) I
  ⟨ρ,_,st,q,λx v H1 hx s1 r1=>⟨ρ,_,st.ext s1,hx,λy u H2 hy s2 r2=>?_⟩⟩) λus s1 ⟨vs,H1,I1,r1,q1⟩=>?_) h2 (by rw[h1];rfl)))
 ·cases x with
  | lst xs =>
   cases y with
   | lst ys =>
    cases r1 with
    | @lst l us _ z1 t1 =>
     cases r2 with
     | @lst m ws _ z2 t2=>exact⟨l,m,xs,ys,us,ws,rfl,s1.trans s2,hy,z1.keep (.of s2),t1.keep (.of s2),z2,t2⟩
   | _=>exact hy.elim
  | _=>exact hy.elim
 obtain⟨l,m,xs,ys,us,ws,rfl,s01,hp,z1,t1,z2,t2⟩:=q1
 obtain⟨w1,w2,rfl,rv,ru⟩:=DK r1
 cases rv;cases ru
 obtain⟨its,rv,pl,hzz⟩:=I1.list z1.sq
 obtain⟨jts,rv',pl',hzz'⟩:=I1.list z2.sq
 have lt1:l<s1.heap.objs.size:=by obtain⟨o,n,e,_⟩:=pl;exact Heap.lt_size e
 have lt2:m<s1.heap.objs.size:=by obtain⟨o,n,e,_⟩:=pl';exact Heap.lt_size e
 refine call_zip_2 pl.isList pl'.isList λh' hz hTI hTO hi1 hi2 hsz kk'=>?_
 have I2:Inv X pins σ H1 { s1 with heap:=h' }:=I1.kept (t':=s1.toks) kk'
 refine wpAny_pyIter_zip hz ⟨s1.heap.objs.size+4,[s1.heap.objs.size+4,s1.heap.objs.size+2,s1.heap.objs.size+3,s1.heap.objs.size,s1.heap.objs.size+1],_,_,H1,rfl,I2,PZ (s1.heap.objs.size+4) (s1.heap.objs.size+2) (s1.heap.objs.size+3) s1.heap.objs.size (s1.heap.objs.size+1) l m (zipApart_new lt1 lt2),⟨hz,hTI,⟨_,_,hTO⟩,hi1,hi2⟩,λb hb=>?_,?_⟩
 ·have:s1.heap.objs.size<=b:=by
   simp only[List.mem_cons,List.not_mem_nil,or_false] at hb
   rcases hb with rfl | rfl | rfl | rfl | rfl <;> simp
  exact I1.fpOk this (I1.hok.fresh this)
 ·refine kk _ _ H1 hp s01 λi H2 kp=>⟨λd ed=>?_,λhl=>⟨us,ws,(z1.keep kp).sq,(z2.keep kp).sq,by rw[<-t1.length,<-t2.length];simp at hl;omega⟩⟩
  rw[List.getElem?_zipWith] at ed
  cases e1:xs[i]? with
  | none=>rw[e1] at ed;cases ed
  | some d1 =>
   cases e2:ys[i]? with
   | none=>rw[e1,e2] at ed;cases ed
   | some d2 =>
    rw[e1,e2] at ed
    cases ed
    obtain⟨v,f1,f2⟩:=(t1.keep kp).get e1
    obtain⟨u,f3,f4⟩:=(t2.keep kp).get e2
    refine⟨⟨us,ws,v,u,(z1.keep kp).sq,(z2.keep kp).sq,f1,f3⟩,λx H' y=>?_⟩
    obtain⟨pp,y1,y2,hn,rfl,rfl,ha',hb'⟩:=y
    have e3:=ha' us (z1.keep kp).sq
    have e4:=hb' ws (z2.keep kp).sq
    rw[f1] at e3;rw[f3] at e4;cases e3;cases e4
    have sm:Same H2 (upd H2 pp (.tup [v,u])):=λb o e=>by rw[aR (aS e hn)];exact e
    exact⟨sm,.tup bV (.cons (f2.keep (.of sm)) (.cons (f4.keep (.of sm)) .nil))⟩
end
section
variable {prog:Program} {w:World} {A:Around} {E:Value->Shared->Prop} {s:Shared}
theorem KC {I l S:Addr} {items:Array Value} {bt:Nat->Nat->Bool} {G:Heap->Prop} {R:Result->Shared->Prop} {os0:Shared} (hh:A.handled=none) (hl:l≠I) (hSI:S≠I) (hSl:S≠l)
  (cmp:∀(i j:Nat) (u v:Value) (s:Shared) (Q:Value->Shared->Prop) (E:Value->Shared->Prop),items[i]? = some u->items[j]? = some v->G s.heap->Q (.bool (bt i j)) s->wpAny (model prog w) A.in1 (richCompare .Lt u v) Q E s)
  (gs:∀h h',G h->(∀b o,b≠I->b≠S->h.get? b=some o->h'.get? b=some o)->G h') :
  ∀(k j:Nat) (s:Shared) (vb:Value) (c:Nat),items.size-(j+1)=k->j+1<=items.size->s.heap.IsListIter I l (j+1)->s.heap.IsList l items->items[argBest bt j]? = some vb->G s.heap ->
   s.heap.get? S=some { cls:=.type "list",dict:=none,data:=.seq #[vb,vb] c,slots:=#[] } ->
   (∀v h' tk,items[argBest bt (items.size-1)]? = some v->(∀b o,b≠I->b≠S->s.heap.get? b=some o->h'.get? b=some o)->R (.ok (.ret v)) { s with heap:=h',toks:=tk }) ->
   codeAny (model prog w) A (.builtin "min.loop" ⟨[.ref I,.none,.ref S],[]⟩) R s:=by
 have nm:(toString "min" ++ toString ".loop":String) = "min.loop":=by decide
 have W:=Walks.list (prog:=prog) (w:=w) (A:=A.in1) hh I l hl items
 have wr:∀{b:Addr},b≠I->b ∉ [I]:=λh=>by simpa using h
 intro k
 induction k with
 | zero =>
  intro j s vb c hk hj hi hL hb hG hS q
  refine codeAny_builtin F.entry_min_loop ?_;rw[Around.under_plainId F.plain_min_loop _]
  show wpAny _ A.in1 (seqItems? (.ref S) >>= _) _ _ s
  apply wpAny_bind;apply wpAny_seqItems hS rfl
  show wpAny _ A.in1 (tryCatch (pyNext (.ref I)) _ >>= _) _ _ s
  apply wpAny_bind;apply wpAny_tryCatch;refine W.done s _ _ (by rw[show items.size=j+1 by omega];exact⟨hi,hL⟩) λh' tk kp=>?_
  have hS':=kp S _ (wr hSI) hS
  show wpAny _ A.in1 (updateSeq S (λ_=>#[]) >>= _) _ _ _
  apply wpAny_bind;refine wpAny_updateSeq hS' rfl ?_;apply wpAny_bind;apply wpAny_letGo;apply wpAny_pure
  exact q vb _ tk (by rw[show items.size-1=j by omega];exact hb) λb o b1 b2 e=>(Heap.get?_update_other _ _ (Ne.symm b2)).trans (kp b o (wr b1) e)
 | succ k ih =>
  intro j s vb c hk hj hi hL hb hG hS q
  refine codeAny_builtin F.entry_min_loop ?_;rw[Around.under_plainId F.plain_min_loop _]
  show wpAny _ A.in1 (seqItems? (.ref S) >>= _) _ _ s
  apply wpAny_bind;apply wpAny_seqItems hS rfl
  show wpAny _ A.in1 (tryCatch (pyNext (.ref I)) _ >>= _) _ _ s
  apply wpAny_bind;apply wpAny_tryCatch;refine W.item (j+1) s _ _ (by omega) ⟨hi,hL⟩ λv h' tk hv st' kp=>?_
  have hS':=kp S _ (wr hSI) hS
  have hG':G h':=gs _ _ hG λb o b1 _ e=>kp b o (wr b1) e
  show wpAny _ A.in1 (tryCatch (holding [v,v] (richCompare .Lt v vb >>= _)) _ >>= _) _ _ _
  apply wpAny_bind;apply wpAny_tryCatch;apply wpAny_holding;apply wpAny_bind;refine cmp (j+1) (argBest bt j) v vb _ _ _ hv hb hG' ?_
  apply wpAny_bind;apply wpAny_holding;apply wpAny_truthy_bool;apply wpAny_bind;apply wpAny_letGo;apply wpAny_pure
  cases hbt:bt (j+1) (argBest bt j) with
  | true =>
   simp only[if_true]
   apply wpAny_bind;refine wpAny_updateSeq hS' rfl ?_;apply wpAny_bind;apply wpAny_letGo;rw[nm];apply wpAny_pure
   have up:∀b o,b≠S->h'.get? b=some o->(h'.update S (Obj.mapSeq λ_=>#[v,v])).get? b=some o:=λb o b2 e=>(Heap.get?_update_other _ _ (Ne.symm b2)).trans e
   refine⟨plainId_quiet F.plain_min_loop _,ih (j+1) _ v _ (by omega) (by omega) (st'.1.at λo e=>up _ o hSI.symm e) (st'.2.at λo e=>up _ o hSl.symm e) (by simp only[argBest,hbt,if_true];exact hv) (gs _ _ hG' λb o _ b2 e=>up b o b2 e) (Heap.get?_update_self _ hS' rfl) λv' h'' tk'' e kk=>?_⟩
   exact q v' h'' tk'' e λb o b1 b2 e=>kk b o b1 b2 (up b o b2 (kp b o (wr b1) e))
  | false =>
   simp only[Bool.false_eq_true,if_false]
   apply wpAny_bind;apply wpAny_letGo;rw[nm];apply wpAny_pure
   refine⟨plainId_quiet F.plain_min_loop _,ih (j+1) _ vb c (by omega) (by omega) st'.1 st'.2 (by simp only[argBest,hbt,Bool.false_eq_true,if_false];exact hb) hG' hS' λv' h'' tk'' e kk=>?_⟩
   exact q v' h'' tk'' e λb o b1 b2 e=>kk b o b1 b2 (kp b o (wr b1) e)
theorem IW {l:Addr} {items:Array Value} {bt:Nat->Nat->Bool} {G:Heap->Prop} {Q:Value->Shared->Prop} (hh:A.handled=none) (hL:s.heap.IsList l items) (hne:0<items.size)
  (cmp:∀(i j:Nat) (u v:Value) (s:Shared) (Q:Value->Shared->Prop) (E:Value->Shared->Prop),items[i]? = some u->items[j]? = some v->G s.heap->Q (.bool (bt i j)) s->wpAny (model prog w) A.in1 (richCompare .Lt u v) Q E s)
  (gs:∀h',(∀b o,s.heap.get? b=some o->h'.get? b=some o)->G h') (q:∀v h' tk,items[argBest bt (items.size-1)]? = some v->(∀b o,s.heap.get? b=some o->h'.get? b=some o)->Q v { s with heap:=h',toks:=tk }) :
  wpAny (model prog w) A (call (.builtin "min") [.ref l]) Q E s:=by
 have nm:(toString "min" ++ toString ".loop":String) = "min.loop":=by decide
 have lt:l<s.heap.objs.size:=by obtain⟨_,e,_⟩:=hL;exact Heap.lt_size e
 refine call_function_tree F.kind_min F.plain_min F.entry_min (F.args_min1 _) ?_
 show wpAny _ A.in1 (Builtin.Builtins.bindParams "min" ["key","default"] 0 ⟨[],[]⟩ >>= _) _ _ s
 apply wpAny_bind;refine wpAny_of_eq (show Builtin.Builtins.bindParams "min" ["key","default"] 0 ⟨[],[]⟩=pure [none,none] from rfl) ?_
 apply wpAny_bind;apply wpAny_pure;apply wpAny_bind;refine wpAny_pyIter_list hL ?_
 apply wpAny_bind;refine wpAny_newObj_type ?_;rw[nm];apply wpAny_pure
 have sz1:(s.heap.push (jJ "list_iterator" l)).objs.size=s.heap.objs.size+1:=Heap.size_push ..
 generalize hp:s.heap.push (jJ "list_iterator" l)=h1 at sz1
 have hI:h1.IsListIter s.heap.objs.size l 0:=by rw[<-hp];exact⟨_,Heap.get?_push_size _ rfl,rfl,rfl⟩
 have k1:∀b o,s.heap.get? b=some o->h1.get? b=some o:=λb o e=>by rw[<-hp];exact Heap.get?_push_of_some _ e
 refine⟨plainId_quiet F.plain_min_loop _,?_⟩
 show codeAny _ A (.builtin "min.loop" ⟨[.ref s.heap.objs.size,.none,.ref h1.objs.size],[]⟩) _ { s with heap:=h1.push { cls:=.type "list",dict:=none,data:=.seq ([]:List Value).toArray } }
 rw[sz1]
 have hS:(h1.push { cls:=.type "list",dict:=none,data:=.seq ([]:List Value).toArray }).get? (s.heap.objs.size+1)=some { cls:=.type "list",dict:=none,data:=.seq #[] 0,slots:=#[] }:=by rw[<-sz1];exact Heap.get?_push_size _ rfl
 have k2:∀b o,h1.get? b=some o->(h1.push { cls:=.type "list",dict:=none,data:=.seq ([]:List Value).toArray }).get? b=some o:=λb o e=>Heap.get?_push_of_some _ e
 generalize h1.push { cls:=.type "list",dict:=none,data:=.seq ([]:List Value).toArray } = h2 at hS k2
 have neI:∀{b:Addr} {o:Obj},s.heap.get? b=some o->b≠s.heap.objs.size/\b≠s.heap.objs.size+1:=λe=>⟨Nat.ne_of_lt (Heap.lt_size e),Nat.ne_of_lt (Nat.lt_succ_of_lt (Heap.lt_size e))⟩
 have W:=Walks.list (prog:=prog) (w:=w) (A:=A.in1) hh s.heap.objs.size l (Nat.ne_of_lt lt) items
 refine codeAny_builtin F.entry_min_loop ?_;rw[Around.under_plainId F.plain_min_loop _]
 show wpAny _ A.in1 (seqItems? (.ref (s.heap.objs.size+1)) >>= _) _ _ _
 apply wpAny_bind;apply wpAny_seqItems hS rfl
 show wpAny _ A.in1 (tryCatch (pyNext (.ref s.heap.objs.size)) _ >>= _) _ _ _
 have hL2:h2.IsList l items:=hL.at λo e=>k2 _ o (k1 _ o e)
 apply wpAny_bind;apply wpAny_tryCatch;refine W.item 0 _ _ _ hne ⟨hI.at λo e=>k2 _ o e,hL2⟩ λv h' tk hv st' kp=>?_
 have wr:∀{b:Addr},b≠s.heap.objs.size->b ∉ [s.heap.objs.size]:=λh=>by simpa using h
 have hS':=kp (s.heap.objs.size+1) _ (wr (Nat.succ_ne_self _)) hS
 show wpAny _ A.in1 (updateSeq (s.heap.objs.size+1) (λ_=>#[v,v]) >>= _) _ _ _
 apply wpAny_bind;refine wpAny_updateSeq hS' rfl ?_;rw[nm];apply wpAny_pure
 have up:∀b o,b≠s.heap.objs.size+1->h'.get? b=some o->(h'.update (s.heap.objs.size+1) (Obj.mapSeq λ_=>#[v,v])).get? b=some o:=λb o b2 e=>(Heap.get?_update_other _ _ (Ne.symm b2)).trans e
 have old:∀b o,s.heap.get? b=some o->(h'.update (s.heap.objs.size+1) (Obj.mapSeq λ_=>#[v,v])).get? b=some o:=λb o e=>up b o (neI e).2 (kp b o (wr (neI e).1) (k2 b o (k1 b o e)))
 have hS'':=Heap.get?_update_self (Obj.mapSeq λ_=>#[v,v]) hS' rfl
 refine⟨plainId_quiet F.plain_min_loop _,?_⟩
 refine KC (A:=A) (G:=λh=>∀b o,s.heap.get? b=some o->h.get? b=some o) (bt:=bt) (items:=items) (I:=s.heap.objs.size) (l:=l) (S:=s.heap.objs.size+1) (os0:=s) hh (Nat.ne_of_lt lt) (Nat.succ_ne_self _) (Nat.ne_of_gt (Nat.lt_succ_of_lt lt)) (λi j u v s' Q' E' e1 e2 g c=>cmp i j u v s' Q' E' e1 e2 (gs _ g) c)
  (λh3 h4 g kk b o e=>kk b o (neI e).1 (neI e).2 (g b o e)) (items.size-1) 0 _ v _ (by omega) (by omega) (st'.1.at λo e=>up _ o (Nat.ne_of_lt (Nat.lt_succ_self _)) e) (st'.2.at λo e=>up _ o (Nat.ne_of_lt (Nat.lt_succ_of_lt lt)) e) (by simpa [argBest] using hv) old hS'' λv' h'' tk'' e kk=>?_
 exact q v' h'' tk'' e λb o e=>kk b o (neI e).1 (neI e).2 (old b o e)
theorem FB {I l S:Addr} {items:Array Value} {bt:Nat->Nat->Bool} {G:Heap->Prop} {R:Result->Shared->Prop} {os0:Shared} (hh:A.handled=none) (hl:l≠I) (hSI:S≠I) (hSl:S≠l)
  (cmp:∀(i j:Nat) (u v:Value) (s:Shared) (Q:Value->Shared->Prop) (E:Value->Shared->Prop),items[i]? = some u->items[j]? = some v->G s.heap->Q (.bool (bt i j)) s->wpAny (model prog w) A.in1 (richCompare .Lt u v) Q E s)
  (gs:∀h h',G h->(∀b o,b≠I->b≠S->h.get? b=some o->h'.get? b=some o)->G h') :
  ∀(k j:Nat) (s:Shared) (vb:Value) (c:Nat),items.size-(j+1)=k->j+1<=items.size->s.heap.IsTupleIter I l (j+1)->s.heap.IsTuple l items->items[argBest bt j]? = some vb->G s.heap ->
   s.heap.get? S=some { cls:=.type "list",dict:=none,data:=.seq #[vb,vb] c,slots:=#[] } ->
   (∀v h' tk,items[argBest bt (items.size-1)]? = some v->(∀b o,b≠I->b≠S->s.heap.get? b=some o->h'.get? b=some o)->R (.ok (.ret v)) { s with heap:=h',toks:=tk }) ->
   codeAny (model prog w) A (.builtin "min.loop" ⟨[.ref I,.none,.ref S],[]⟩) R s:=by
 have nm:(toString "min" ++ toString ".loop":String) = "min.loop":=by decide
 have W:=Walks.tuple (prog:=prog) (w:=w) (A:=A.in1) hh I l hl items
 have wr:∀{b:Addr},b≠I->b ∉ [I]:=λh=>by simpa using h
 intro k
 induction k with
 | zero =>
  intro j s vb c hk hj hi hL hb hG hS q
  refine codeAny_builtin F.entry_min_loop ?_;rw[Around.under_plainId F.plain_min_loop _]
  show wpAny _ A.in1 (seqItems? (.ref S) >>= _) _ _ s
  apply wpAny_bind;apply wpAny_seqItems hS rfl
  show wpAny _ A.in1 (tryCatch (pyNext (.ref I)) _ >>= _) _ _ s
  apply wpAny_bind;apply wpAny_tryCatch;refine W.done s _ _ (by rw[show items.size=j+1 by omega];exact⟨hi,hL⟩) λh' tk kp=>?_
  have hS':=kp S _ (wr hSI) hS
  show wpAny _ A.in1 (updateSeq S (λ_=>#[]) >>= _) _ _ _
  apply wpAny_bind;refine wpAny_updateSeq hS' rfl ?_;apply wpAny_bind;apply wpAny_letGo;apply wpAny_pure
  exact q vb _ tk (by rw[show items.size-1=j by omega];exact hb) λb o b1 b2 e=>(Heap.get?_update_other _ _ (Ne.symm b2)).trans (kp b o (wr b1) e)
 | succ k ih =>
  intro j s vb c hk hj hi hL hb hG hS q
  refine codeAny_builtin F.entry_min_loop ?_;rw[Around.under_plainId F.plain_min_loop _]
  show wpAny _ A.in1 (seqItems? (.ref S) >>= _) _ _ s
  apply wpAny_bind;apply wpAny_seqItems hS rfl
  show wpAny _ A.in1 (tryCatch (pyNext (.ref I)) _ >>= _) _ _ s
  apply wpAny_bind;apply wpAny_tryCatch;refine W.item (j+1) s _ _ (by omega) ⟨hi,hL⟩ λv h' tk hv st' kp=>?_
  have hS':=kp S _ (wr hSI) hS
  have hG':G h':=gs _ _ hG λb o b1 _ e=>kp b o (wr b1) e
  show wpAny _ A.in1 (tryCatch (holding [v,v] (richCompare .Lt v vb >>= _)) _ >>= _) _ _ _
  apply wpAny_bind;apply wpAny_tryCatch;apply wpAny_holding;apply wpAny_bind;refine cmp (j+1) (argBest bt j) v vb _ _ _ hv hb hG' ?_
  apply wpAny_bind;apply wpAny_holding;apply wpAny_truthy_bool;apply wpAny_bind;apply wpAny_letGo;apply wpAny_pure
  cases hbt:bt (j+1) (argBest bt j) with
  | true =>
   simp only[if_true]
   apply wpAny_bind;refine wpAny_updateSeq hS' rfl ?_;apply wpAny_bind;apply wpAny_letGo;rw[nm];apply wpAny_pure
   have up:∀b o,b≠S->h'.get? b=some o->(h'.update S (Obj.mapSeq λ_=>#[v,v])).get? b=some o:=λb o b2 e=>(Heap.get?_update_other _ _ (Ne.symm b2)).trans e
   refine⟨plainId_quiet F.plain_min_loop _,ih (j+1) _ v _ (by omega) (by omega) (st'.1.at λo e=>up _ o hSI.symm e) (st'.2.at λo e=>up _ o hSl.symm e) (by simp only[argBest,hbt,if_true];exact hv) (gs _ _ hG' λb o _ b2 e=>up b o b2 e) (Heap.get?_update_self _ hS' rfl) λv' h'' tk'' e kk=>?_⟩
   exact q v' h'' tk'' e λb o b1 b2 e=>kk b o b1 b2 (up b o b2 (kp b o (wr b1) e))
  | false =>
   simp only[Bool.false_eq_true,if_false]
   apply wpAny_bind;apply wpAny_letGo;rw[nm];apply wpAny_pure
   refine⟨plainId_quiet F.plain_min_loop _,ih (j+1) _ vb c (by omega) (by omega) st'.1 st'.2 (by simp only[argBest,hbt,Bool.false_eq_true,if_false];exact hb) hG' hS' λv' h'' tk'' e kk=>?_⟩
   exact q v' h'' tk'' e λb o b1 b2 e=>kk b o b1 b2 (kp b o (wr b1) e)
theorem EG {l:Addr} {items:Array Value} {bt:Nat->Nat->Bool} {G:Heap->Prop} {Q:Value->Shared->Prop} (hh:A.handled=none) (hL:s.heap.IsTuple l items) (hne:0<items.size)
  (cmp:∀(i j:Nat) (u v:Value) (s:Shared) (Q:Value->Shared->Prop) (E:Value->Shared->Prop),items[i]? = some u->items[j]? = some v->G s.heap->Q (.bool (bt i j)) s->wpAny (model prog w) A.in1 (richCompare .Lt u v) Q E s)
  (gs:∀h',(∀b o,s.heap.get? b=some o->h'.get? b=some o)->G h') (q:∀v h' tk,items[argBest bt (items.size-1)]? = some v->(∀b o,s.heap.get? b=some o->h'.get? b=some o)->Q v { s with heap:=h',toks:=tk }) :
  wpAny (model prog w) A (call (.builtin "min") [.ref l]) Q E s:=by
 have nm:(toString "min" ++ toString ".loop":String) = "min.loop":=by decide
 have lt:l<s.heap.objs.size:=by obtain⟨_,e,_⟩:=hL;exact Heap.lt_size e
 refine call_function_tree F.kind_min F.plain_min F.entry_min (F.args_min1 _) ?_
 show wpAny _ A.in1 (Builtin.Builtins.bindParams "min" ["key","default"] 0 ⟨[],[]⟩ >>= _) _ _ s
 apply wpAny_bind;refine wpAny_of_eq (show Builtin.Builtins.bindParams "min" ["key","default"] 0 ⟨[],[]⟩=pure [none,none] from rfl) ?_
 apply wpAny_bind;apply wpAny_pure;apply wpAny_bind;refine wpAny_pyIter_tuple hL ?_
 apply wpAny_bind;refine wpAny_newObj_type ?_;rw[nm];apply wpAny_pure
 have sz1:(s.heap.push (jJ "tuple_iterator" l)).objs.size=s.heap.objs.size+1:=Heap.size_push ..
 generalize hp:s.heap.push (jJ "tuple_iterator" l)=h1 at sz1
 have hI:h1.IsTupleIter s.heap.objs.size l 0:=by rw[<-hp];exact⟨_,Heap.get?_push_size _ rfl,rfl,rfl⟩
 have k1:∀b o,s.heap.get? b=some o->h1.get? b=some o:=λb o e=>by rw[<-hp];exact Heap.get?_push_of_some _ e
 refine⟨plainId_quiet F.plain_min_loop _,?_⟩
 show codeAny _ A (.builtin "min.loop" ⟨[.ref s.heap.objs.size,.none,.ref h1.objs.size],[]⟩) _ { s with heap:=h1.push { cls:=.type "list",dict:=none,data:=.seq ([]:List Value).toArray } }
 rw[sz1]
 have hS:(h1.push { cls:=.type "list",dict:=none,data:=.seq ([]:List Value).toArray }).get? (s.heap.objs.size+1)=some { cls:=.type "list",dict:=none,data:=.seq #[] 0,slots:=#[] }:=by rw[<-sz1];exact Heap.get?_push_size _ rfl
 have k2:∀b o,h1.get? b=some o->(h1.push { cls:=.type "list",dict:=none,data:=.seq ([]:List Value).toArray }).get? b=some o:=λb o e=>Heap.get?_push_of_some _ e
 generalize h1.push { cls:=.type "list",dict:=none,data:=.seq ([]:List Value).toArray } = h2 at hS k2
 have neI:∀{b:Addr} {o:Obj},s.heap.get? b=some o->b≠s.heap.objs.size/\b≠s.heap.objs.size+1:=λe=>⟨Nat.ne_of_lt (Heap.lt_size e),Nat.ne_of_lt (Nat.lt_succ_of_lt (Heap.lt_size e))⟩
 have W:=Walks.tuple (prog:=prog) (w:=w) (A:=A.in1) hh s.heap.objs.size l (Nat.ne_of_lt lt) items
 refine codeAny_builtin F.entry_min_loop ?_;rw[Around.under_plainId F.plain_min_loop _]
 show wpAny _ A.in1 (seqItems? (.ref (s.heap.objs.size+1)) >>= _) _ _ _
 apply wpAny_bind;apply wpAny_seqItems hS rfl
 show wpAny _ A.in1 (tryCatch (pyNext (.ref s.heap.objs.size)) _ >>= _) _ _ _
 have hL2:h2.IsTuple l items:=hL.at λo e=>k2 _ o (k1 _ o e)
 apply wpAny_bind;apply wpAny_tryCatch;refine W.item 0 _ _ _ hne ⟨hI.at λo e=>k2 _ o e,hL2⟩ λv h' tk hv st' kp=>?_
 have wr:∀{b:Addr},b≠s.heap.objs.size->b ∉ [s.heap.objs.size]:=λh=>by simpa using h
 have hS':=kp (s.heap.objs.size+1) _ (wr (Nat.succ_ne_self _)) hS
 show wpAny _ A.in1 (updateSeq (s.heap.objs.size+1) (λ_=>#[v,v]) >>= _) _ _ _
 apply wpAny_bind;refine wpAny_updateSeq hS' rfl ?_;rw[nm];apply wpAny_pure
 have up:∀b o,b≠s.heap.objs.size+1->h'.get? b=some o->(h'.update (s.heap.objs.size+1) (Obj.mapSeq λ_=>#[v,v])).get? b=some o:=λb o b2 e=>(Heap.get?_update_other _ _ (Ne.symm b2)).trans e
 have old:∀b o,s.heap.get? b=some o->(h'.update (s.heap.objs.size+1) (Obj.mapSeq λ_=>#[v,v])).get? b=some o:=λb o e=>up b o (neI e).2 (kp b o (wr (neI e).1) (k2 b o (k1 b o e)))
 have hS'':=Heap.get?_update_self (Obj.mapSeq λ_=>#[v,v]) hS' rfl
 refine⟨plainId_quiet F.plain_min_loop _,?_⟩
 refine FB (A:=A) (G:=λh=>∀b o,s.heap.get? b=some o->h.get? b=some o) (bt:=bt) (items:=items) (I:=s.heap.objs.size) (l:=l) (S:=s.heap.objs.size+1) (os0:=s) hh (Nat.ne_of_lt lt) (Nat.succ_ne_self _) (Nat.ne_of_gt (Nat.lt_succ_of_lt lt)) (λi j u v s' Q' E' e1 e2 g c=>cmp i j u v s' Q' E' e1 e2 (gs _ g) c)
  (λh3 h4 g kk b o e=>kk b o (neI e).1 (neI e).2 (g b o e)) (items.size-1) 0 _ v _ (by omega) (by omega) (st'.1.at λo e=>up _ o (Nat.ne_of_lt (Nat.lt_succ_self _)) e) (st'.2.at λo e=>up _ o (Nat.ne_of_lt (Nat.lt_succ_of_lt lt)) e) (by simpa [argBest] using hv) old hS'' λv' h'' tk'' e kk=>?_
 exact q v' h'' tk'' e λb o e=>kk b o (neI e).1 (neI e).2 (old b o e)
end
noncomputable abbrev jS (ns:List Int):D:=.tup (ns.map .int)
theorem lK:∀{a b c:List Int},HT.lexLt a b=true->HT.lexLt b c=true->HT.lexLt a c=true
 | [],[],_,h,_=>by cases h
 | [],_::_,[],_,h=>by cases h
 | [],_::_,_::_,_,_=>rfl
 | _::_,[],_,h,_=>by cases h
 | _::_,_::_,[],_,h=>by cases h
 | x::xs,y::ys,z::zs,h1,h2=>by
  rw[HT.lexLt_cons] at *
  by_cases e1:x=y
  ·subst e1
   rw[if_pos rfl] at h1
   by_cases e2:x=z
   ·rw[if_pos e2] at h2 ⊢;exact lK h1 h2
   ·rw[if_neg e2] at h2 ⊢;exact h2
  ·rw[if_neg e1] at h1
   by_cases e2:y=z
   ·subst e2;rw[if_neg e1];exact h1
   ·rw[if_neg e2] at h2
    simp only[decide_eq_true_eq] at h1 h2
    rw[if_neg (by omega)];simp only[decide_eq_true_eq];omega
theorem qA:∀(a:List Int),HT.lexLt a a=false
 | []=>rfl
 | x::xs=>by rw[HT.lexLt_cons,if_pos rfl];exact qA xs
theorem lC {bt:Nat->Nat->Bool} (tr:∀i j k,bt i j=true->bt j k=true->bt i k=true) (ir:∀i,bt i i=false):∀k,argBest bt k<=k/\∀j,j<=k->bt j (argBest bt k)=false
 | 0=>⟨Nat.le_refl _,λj hj=>by rw[Nat.le_zero.mp hj];exact ir 0⟩
 | k+1=>by
  obtain⟨h1,h2⟩:=lC tr ir k
  cases hb:bt (k+1) (argBest bt k) with
  | true =>
   simp only[argBest,hb,if_true]
   refine⟨Nat.le_refl _,λj hj=>?_⟩
   by_cases e:j=k+1
   ·subst e;exact ir _
   ·cases hc:bt j (k+1) with
    | false=>rfl
    | true =>
     have:=tr j (k+1) _ hc hb
     rw[h2 j (by omega)] at this;cases this
  | false =>
   simp only[argBest,hb,Bool.false_eq_true,if_false]
   refine⟨by omega,λj hj=>?_⟩
   by_cases e:j=k+1
   ·subst e;exact hb
   ·exact h2 j (by omega)
theorem Reps.tupI_inv {K:PySem.W.Frag} {H:Hp} {ns:List Int} {v:V} (r:Rep K H (jS ns) v):∃a,v = .ref a/\H a=some (.tup (ns.map V.int)):=by
 cases r with
 | tup h rr=>rw[rr.ints_inv] at h;exact⟨_,rfl,h⟩
section
variable {X:Cx} {e a b:Expr} {te ta tb:RE} {p pos:Pos}
noncomputable def QP:R22:=λx y Q=>∃ns ms:List Int,x=jS ns/\y=jS ms/\Q (.bl (HT.lexLt ns ms))
theorem NZ {k:Nat} (hr:Room k X.A):OpD X (compareOp .Lt) QP:=by
 intro pins s σ H x y v u Q I rx ry hh_0
 obtain⟨d,e,P,r1,r2,q,kk⟩:=hh_0
 obtain⟨ns,ms,e1,e2,q⟩:=q
 subst e1 e2
 obtain⟨a,vs,rfl,h1,t1⟩:=r1.tup
 obtain⟨b,us,rfl,h2,t2⟩:=r2.tup
 rw[t1.ints_inv] at h1;rw[t2.ints_inv] at h2
 exact WC (X:=X) (by have:=hr.un;omega) pins s σ H _ _ v u Q I rx ry ⟨a,b,ns,ms,rfl,rfl,SqT.of h1,SqT.of h2,kk _ _ H q (Same.refl H) (.bl _)⟩
noncomputable def GU:D->(D->Prop)->Prop:=λd Q=>match d with
 | .lst ds=>∃nss:List (List Int),ds=nss.map jS/\nss≠[]/\∀M,M∈nss->(∀x∈nss,HT.lexLt x M=false)->Q (jS M)
 | .tup ds=>∃nss:List (List Int),ds=nss.map jS/\nss≠[]/\∀M,M∈nss->(∀x∈nss,HT.lexLt x M=false)->Q (jS M)
 | _=>False
theorem GW {k:Nat} (hr:Room k X.A) (hm:X.mg "min" = none) (hc:X.calm=true) (h:DB X e te) (hg:Gl X "min":=by rfl) (hs:starEach [e] X.env=[(false,eval e X.env)]:=by rfl) (hn:starEach [] X.env=[]:=by rfl) :
  DE X (.Call (.Name "min" p) [e] [] pos) (r1 GU te):=by
 have call:iK X (.builtin "min") (λxs H Q=>∃(d:D) (v:V) (P:D->Prop),xs=[v]/\RepB X.K H d v/\GU d P/\∀z w,P z->Rep X.K H z w->Q w H):=by
  intro pins s σ H xs us Q I rs hq
  obtain⟨d,v,P,rfl,rb,hd,kk⟩:=hq
  cases d with
  | lst ds =>
   obtain⟨nss,rfl,hne,hd⟩:=hd
   obtain⟨l,vs,rfl,hq,rr⟩:=rb.lst
   obtain⟨u,rfl,rx⟩:=jT rs
   cases rx
   obtain⟨its,rv,pl,hz⟩:=I.list hq
   have l1:=rr.length
   have l2:=rv.length
   have hpos:0<nss.length:=List.length_pos_iff.mpr hne
   rw[List.length_map] at l1
   have each:∀(i:Nat) (u:Value),its[i]? = some u->∃ns a ts,nss[i]? = some ns/\vs[i]? = some (.ref a)/\u = .ref a/\Vals (ns.map V.int) ts/\IsTup s.heap a ts.toArray:=λi u e=>by
    have hi:i<nss.length:=by have:=(List.getElem?_eq_some_iff.mp e).1;omega
    obtain⟨v,e1,e2⟩:=rr.get (i:=i) (d:=jS nss[i]) (by rw[List.getElem?_map,List.getElem?_eq_getElem hi];rfl)
    obtain⟨a,rfl,ha⟩:=Reps.tupI_inv e2
    obtain⟨u',f1,f2⟩:=rv.get e1
    rw[e] at f1;cases f1
    cases f2
    obtain⟨ts,g1,g2,_⟩:=I.tuple (SqT.of (K:=X.K) ha)
    exact⟨_,a,ts,List.getElem?_eq_getElem hi,e1,rfl,g1,g2⟩
   refine IW (bt:=λi j=>HT.lexLt (nss.getD i []) (nss.getD j [])) (G:=λh=>∀b o,s.heap.get? b=some o->h.get? b=some o) (I.ok.hd hc) pl.isList (by simp;omega) (λi j u v s' Q' E' e1 e2 g c=>?_) (λh' g=>g) λv h' tk ev kp=>?_
   ·obtain⟨ns,a,ts,n1,_,rfl,g1,g2⟩:=each i u (by simpa using e1)
    obtain⟨ms,b,us,n2,_,rfl,g3,g4⟩:=each j v (by simpa using e2)
    have q1:nss.getD i []=ns:=by rw[List.getD_eq_getElem?_getD,n1];rfl
    have q2:nss.getD j []=ms:=by rw[List.getD_eq_getElem?_getD,n2];rfl
    rw[q1,q2] at c
    have hu:=hr.un
    have tupAt:∀{a:Addr} {xs:Array Value},IsTup s.heap a xs->IsTup s'.heap a xs:=λ⟨o,e,r⟩=>⟨o,g _ o e,r⟩
    refine HT.lt_tupInts (A:=X.A.in1) (tupAt g2) (tupAt g4) (fO g1) (fO g3) (by show X.A.units+1<cLine;omega) c
   ·obtain⟨b1,b2⟩:=lC (bt:=λi j=>HT.lexLt (nss.getD i []) (nss.getD j [])) (λ_ _ _=>lK) (λ_=>qA _) (its.toArray.size-1)
    generalize argBest (λi j=>HT.lexLt (nss.getD i []) (nss.getD j [])) (its.toArray.size-1)=m at b1 b2 ev
    obtain⟨ns,a,ts,n1,n2,rfl,g1,g2⟩:=each m v (by simpa using ev)
    have hm:m<nss.length:=(List.getElem?_eq_some_iff.mp n1).1
    refine⟨.ref a,H,I.kept kp,rfl,kk _ _ (hd ns (List.mem_of_getElem? n1) λx hx=>?_) ?_⟩
    ·obtain⟨j,hj,rfl⟩:=List.getElem_of_mem hx
     have:=b2 j (by simp;omega)
     have q1:nss.getD j []=nss[j]:=by rw[List.getD_eq_getElem?_getD,List.getElem?_eq_getElem hj];rfl
     have q2:nss.getD m []=ns:=by rw[List.getD_eq_getElem?_getD,n1];rfl
     rw[q1,q2] at this;exact this
    ·obtain⟨w,f1,f2⟩:=rr.get (i:=m) (d:=jS ns) (by rw[List.getElem?_map,n1];rfl)
     rw[n2] at f1;cases f1;exact f2
  | tup ds =>
   obtain⟨nss,rfl,hne,hd⟩:=hd
   obtain⟨l,vs,rfl,hq,rr⟩:=rb.tup
   obtain⟨u,rfl,rx⟩:=jT rs
   cases rx
   obtain⟨its,rv,pl,hz⟩:=I.tuple (SqT.of (K:=X.K) hq)
   have l1:=rr.length
   have l2:=rv.length
   have hpos:0<nss.length:=List.length_pos_iff.mpr hne
   rw[List.length_map] at l1
   have each:∀(i:Nat) (u:Value),its[i]? = some u->∃ns a ts,nss[i]? = some ns/\vs[i]? = some (.ref a)/\u = .ref a/\Vals (ns.map V.int) ts/\IsTup s.heap a ts.toArray:=λi u e=>by
    have hi:i<nss.length:=by have:=(List.getElem?_eq_some_iff.mp e).1;omega
    obtain⟨v,e1,e2⟩:=rr.get (i:=i) (d:=jS nss[i]) (by rw[List.getElem?_map,List.getElem?_eq_getElem hi];rfl)
    obtain⟨a,rfl,ha⟩:=Reps.tupI_inv e2
    obtain⟨u',f1,f2⟩:=rv.get e1
    rw[e] at f1;cases f1
    cases f2
    obtain⟨ts,g1,g2,_⟩:=I.tuple (SqT.of (K:=X.K) ha)
    exact⟨_,a,ts,List.getElem?_eq_getElem hi,e1,rfl,g1,g2⟩
   refine EG (bt:=λi j=>HT.lexLt (nss.getD i []) (nss.getD j [])) (G:=λh=>∀b o,s.heap.get? b=some o->h.get? b=some o) (I.ok.hd hc) pl (by simp;omega) (λi j u v s' Q' E' e1 e2 g c=>?_) (λh' g=>g) λv h' tk ev kp=>?_
   ·obtain⟨ns,a,ts,n1,_,rfl,g1,g2⟩:=each i u (by simpa using e1)
    obtain⟨ms,b,us,n2,_,rfl,g3,g4⟩:=each j v (by simpa using e2)
    have q1:nss.getD i []=ns:=by rw[List.getD_eq_getElem?_getD,n1];rfl
    have q2:nss.getD j []=ms:=by rw[List.getD_eq_getElem?_getD,n2];rfl
    rw[q1,q2] at c
    have hu:=hr.un
    have tupAt:∀{a:Addr} {xs:Array Value},IsTup s.heap a xs->IsTup s'.heap a xs:=λ⟨o,e,r⟩=>⟨o,g _ o e,r⟩
    refine HT.lt_tupInts (A:=X.A.in1) (tupAt g2) (tupAt g4) (fO g1) (fO g3) (by show X.A.units+1<cLine;omega) c
   ·obtain⟨b1,b2⟩:=lC (bt:=λi j=>HT.lexLt (nss.getD i []) (nss.getD j [])) (λ_ _ _=>lK) (λ_=>qA _) (its.toArray.size-1)
    generalize argBest (λi j=>HT.lexLt (nss.getD i []) (nss.getD j [])) (its.toArray.size-1)=m at b1 b2 ev
    obtain⟨ns,a,ts,n1,n2,rfl,g1,g2⟩:=each m v (by simpa using ev)
    have hm:m<nss.length:=(List.getElem?_eq_some_iff.mp n1).1
    refine⟨.ref a,H,I.kept kp,rfl,kk _ _ (hd ns (List.mem_of_getElem? n1) λx hx=>?_) ?_⟩
    ·obtain⟨j,hj,rfl⟩:=List.getElem_of_mem hx
     have:=b2 j (by simp;omega)
     have q1:nss.getD j []=nss[j]:=by rw[List.getD_eq_getElem?_getD,List.getElem?_eq_getElem hj];rfl
     have q2:nss.getD m []=ns:=by rw[List.getD_eq_getElem?_getD,n1];rfl
     rw[q1,q2] at this;exact this
    ·obtain⟨w,f1,f2⟩:=rr.get (i:=m) (d:=jS ns) (by rw[List.getElem?_map,n1];rfl)
     rw[n2] at f1;cases f1;exact f2
  | _=>exact hd.elim
 refine PE.mono (iE call hg hm AN (iC h hs hn) (by decide) (by decide) (by rw[hs,hn]) (by rw[hn];rfl)) λσ H Q hh=>cB hh λρ P st q k=>⟨ρ,_,st,q,λd v H1 hd s1 r=>⟨d,v,P,rfl,r,hd,λz w hz rz=>k z w H1 hz s1 rz⟩⟩
noncomputable def dNe:R22:=λx y Q=>match x,y with
 | .int i,.int j=>Q (.bl !(decide (i=j)))
 | .bl i,.bl j=>Q (.bl !(decide (i=j)))
 | .tup xs,.tup ys=>match eqL (eqF 5) xs ys with
  | some b=>Q (.bl !b)
  | none=>False
 | .non,.non=>Q (.bl false)
 | _,_=>False
noncomputable def MI:R22:=λx y Q=>match x with
 | .lst xs=>∃j:Nat,(∃d,xs[j]? = some d/\eqF 6 d y=some true)/\(∀(i:Nat) d,i<j->xs[i]? = some d->eqF 6 d y=some false)/\(∀d∈xs,∃b,eqF 6 d y=some b)/\Q (.int (j:Int))
 | _=>False
theorem RelV.det {v v':V} {u:Value} (h:RelV v u) (h':RelV v' u):v=v':=RelV.inj h h'
end
section
variable {X:Cx} {pins:List (Addr × Obj)} {σ:St} {H:Hp} {s:Shared}
theorem rG (I:Inv X pins σ H s) {a:Addr} {vs ws:List V} (h:H a=some (.tup vs)) (h':FzL X.K H a ws):False:=by
 obtain⟨its,rv,pl,_⟩:=I.list h'.sq
 obtain⟨jts,rv',⟨o,e,c,_⟩,_⟩:=I.tuple (SqT.of (K:=X.K) h)
 obtain⟨o',e',c',_⟩:=pl.isList
 rw[e] at e';cases e';rw[c] at c';simp at c'
mutual
theorem Rep.det (I:Inv X pins σ H s):∀{d d':D} {v:V},Rep X.K H d v->Rep X.K H d' v->d=d'
 | _,_,_,.non,r=>by cases r;rfl
 | _,_,_,.bl b,r=>by cases r;rfl
 | _,_,_,.int i,r=>by cases r;rfl
 | _,_,_,.str x,r=>by cases r;rfl
 | _,_,_,.tup h q,r=>by
  cases r with
  | tup h' q'=>rw[h] at h';cases h';rw[Reps.det I q q']
  | lst h' q' =>
   exact (rG I h h').elim
 | _,_,_,.lst h q,r=>by
  cases r with
  | tup h' q' =>
   exact (rG I h' h).elim
  | lst h' q'=>rw[I.list_inj h'.sq h.sq] at q';rw[Reps.det I q q']
theorem Reps.det (I:Inv X pins σ H s):∀{d d':List D} {v:List V},Reps X.K H d v->Reps X.K H d' v->d=d'
 | _,_,_,.nil,r=>by cases r;rfl
 | _,_,_,.cons h t,r=>by
  cases r with
  | cons h' t'=>rw[Rep.det I h h',Reps.det I t t']
end
end
section
variable {X:Cx} {e a b:Expr} {te ta tb:RE} {p pos:Pos}
noncomputable def FN (ta tb:RE):RE:=λρ Q=>ta ρ λx=>(∃xs,x = .lst xs)/\tb ρ λy=>MI x y Q
theorem MV {k:Nat} {apos cpos:Pos} (hr:Room k X.A) (ha:DB X a ta) (hb:DE X b tb) (hbase:attributeBase a "index" X.env (eval a X.env)=eval a X.env:=by rfl)
  (hfew:((backTo cpos (starEach [b] X.env)).all (λx=>!x.1) && (backToKw cpos (keywordEach [] X.env)).all (λx=>x.1.isSome) && decide (([b]:List Expr).length+([]:List Keyword).length+(if ([]:List Keyword).isEmpty then 0 else 1)<30))=true:=by rfl)
  (hline:(apos.endLine == cpos.line)=true:=by rfl) (hs:starEach [b] X.env=[(false,eval b X.env)]:=by rfl) (hn:starEach [] X.env=[]:=by rfl) :
  DE X (.Call (.Attribute a "index" apos) [b] [] cpos) (FN ta tb):=by
 have mt:MtR X "list.index" (λx vs H Q=>∃(d e:D) (u:V) (P:D->Prop),vs=[u]/\RepB X.K H d x/\Rep X.K H e u/\MI d e P/\∀z w,P z->Rep X.K H z w->Q w H):=by
  intro pins s σ H x vs v us Q I rx rv hh_0
  obtain⟨d,e,u,P,ev,rd,re,q,kk⟩:=hh_0
  subst ev
  obtain⟨u',rfl,ru⟩:=rv.one
  cases d with
  | lst xs =>
   obtain⟨j,⟨dj,ej,hj⟩,hno,hall,q⟩:=q
   obtain⟨l,vs,rfl,hq,rr⟩:=rd.lst
   cases rx
   obtain⟨its,rw',pl,hz⟩:=I.list hq
   obtain⟨⟨cls,dd,data,sl⟩,ho,hc,n,hd⟩:=pl.isList
   simp only at hc hd
   subst hc hd
   have l1:=rr.length
   have l2:=rw'.length
   have hu:=hr.un
   have hjl:j<xs.length:=(List.getElem?_eq_some_iff.mp ej).1
   let ev:Value->Bool:=λy=>(List.range xs.length).any λi=>match xs[i]?,its[i]? with
    | some d,some z=>z == y && eqF 6 d e == some true
    | _,_=>false
   have each:∀(i:Nat) (y:Value),its[i]? = some y->∃d v,xs[i]? = some d/\Rep X.K H d v/\RelV v y/\∃b,eqF 6 d e=some b:=λi y ey=>by
    have hi:i<xs.length:=by have:=(List.getElem?_eq_some_iff.mp ey).1;omega
    obtain⟨v,e1,e2⟩:=rr.get (List.getElem?_eq_getElem hi)
    obtain⟨y',f1,f2⟩:=rw'.get e1
    rw[ey] at f1;cases f1
    exact⟨_,v,List.getElem?_eq_getElem hi,e2,f2,hall _ (List.getElem_mem hi)⟩
   have evOk:∀(i:Nat) (y:Value) (d:D) (b:Bool),its[i]? = some y->xs[i]? = some d->eqF 6 d e=some b->ev y=b:=λi y d b ey ed hb=>by
    obtain⟨d',v,q1,q2,q3,_⟩:=each i y ey
    rw[ed] at q1;cases q1
    cases b with
    | true =>
     have hi:i<xs.length:=(List.getElem?_eq_some_iff.mp ed).1
     refine List.any_eq_true.mpr ⟨i,List.mem_range.mpr hi,?_⟩
     simp only[ed,ey,hb];simp
    | false =>
     refine List.any_eq_false.mpr λi' hi'=>?_
     cases ex:xs[i']? with
     | none=>simp
     | some d' =>
      cases ez:its[i']? with
      | none=>simp
      | some z =>
       simp only[Bool.and_eq_true,beq_iff_eq,not_and]
       intro hz hd'
       subst hz
       obtain⟨d2,v2,p1,p2,p3,_⟩:=each i' z ez
       rw[ex] at p1;cases p1
       have:=RelV.det q3 p3
       subst this
       rw[Rep.det I q2 p2] at hb
       rw[hb] at hd';cases hd'
   have getI:∀(i:Nat) (h:i<its.toArray.size),its[i]? = some its.toArray[i]:=λi h=>by
    have h':i<its.length:=by simpa using h
    rw[List.getElem?_eq_getElem h'];simp
   refine call_meets F.slot_list_index ⟨_,ho,rfl⟩ F.entry_list_index (F.args_list_index_2 _ _) (SeqAt.list_indexAt l its.toArray n dd sl u' ev j (by simp;omega) ?_ ?_ λm hm hlt=>?_) ⟨ho,λy hy=>?_,?_⟩
   ·have hs:(sizeLine:Int)<2 ^ 63-1:=by decide
    omega
   ·exact evOk j _ dj true (getI j _) ej hj
   ·have hm':m<xs.length:=by simp at hm;omega
    exact evOk m _ xs[m] false (getI m hm) (List.getElem?_eq_getElem hm') (hno m _ hlt (List.getElem?_eq_getElem hm'))
   ·obtain⟨i,hi,rfl⟩:=List.getElem_of_mem (List.mem_toArray.mp hy)
    obtain⟨d,v,q1,q2,q3,b,hb⟩:=each i its[i] (List.getElem?_eq_getElem hi)
    rw[evOk i _ d b (List.getElem?_eq_getElem hi) q1 hb]
    exact (tN I 6 hb q2 re q3 ru (by show X.A.units+1+6<cLine;omega)).2
   ·exact⟨.int (j:Int),H,I.tok _,⟨_,rfl⟩,kk _ _ q (.int _)⟩
  | _=>exact q.elim
 refine PE.mono (UJ PySem.F.plainAttrs_list PySem.F.slot_list_index PySem.F.type_list_index mt ha (iC hb hs hn) hbase hfew hline (by rw[hs,hn]) (by rw[hn];rfl)) λσ H Q hh=>cB hh λρ P st q k=>⟨ρ,_,st,q,λx v H1 hx s1 r1=>⟨?_,ρ,_,st.ext s1,hx.2,λy u H2 hy s2 r2=>⟨x,y,u,P,rfl,r1.same s2,r2,hy,λz w hz rz=>k z w H2 hz (s1.trans s2) rz⟩⟩⟩
 obtain⟨⟨xs,rfl⟩,_⟩:=hx
 obtain⟨l,vs,rfl,hq,_⟩:=r1.lst
 exact .inl ⟨rfl,vs,hq⟩
end
end L2.R2
set_option Elab.async false
set_option linter.all false
set_option maxRecDepth 100000
set_option maxHeartbeats 1000000
namespace L2.R2
open PySem PySem.SetTable
noncomputable def hop (N i:Nat):Nat:=(i*5+1) % N
noncomputable def zF (N:Nat):Nat->Nat->Nat
 | 0,i=>i
 | m+1,i=>zF N m (hop N i)
theorem oS (N:Nat):∀a b i,zF N (a+b) i=zF N b (zF N a i)
 | 0,b,i=>by rw[Nat.zero_add];rfl
 | a+1,b,i=>by rw[Nat.add_right_comm];exact oS N a b (hop N i)
noncomputable def IJ (N:Nat):Nat->Nat->List Nat
 | 0,_=>[]
 | m+1,i=>i::IJ N m (hop N i)
theorem qF {N j:Nat}:∀{m i:Nat},j∈IJ N m i->∃k,k<m/\zF N k i=j
 | 0,_,h=>by cases h
 | m+1,i,h=>by
  rcases List.mem_cons.mp h with rfl | h
  ·exact⟨0,by omega,rfl⟩
  ·obtain⟨k,hk,e⟩:=qF h
   exact⟨k+1,by omega,e⟩
noncomputable def Round (N:Nat):Prop:=(∀j,j<N->j∈IJ N N 0)/\zF N N 0=0
theorem uQ {N:Nat} (h:((List.range N).all λj=>(IJ N N 0).contains j)=true) (k:zF N N 0=0):Round N :=
 ⟨λj hj=>by have:=List.all_eq_true.mp h j (List.mem_range.mpr hj);simpa using this,k⟩
theorem XB:Round 8:=uQ (by decide +kernel) (by decide +kernel)
theorem SQ:Round 32:=uQ (by decide +kernel) (by decide +kernel)
theorem PB:Round 128:=uQ (by decide +kernel) (by decide +kernel)
theorem Round.reach {N:Nat} (h:Round N) {i j:Nat} (hi:i<N) (hj:j<N):∃k,k<N/\zF N k i=j:=by
 obtain⟨a,ha,ea⟩:=qF (h.1 i hi)
 obtain⟨b,hb,eb⟩:=qF (h.1 j hj)
 by_cases hab:a<=b
 ·refine⟨b-a,by omega,?_⟩
  rw[<-ea,<-oS,show a+(b-a)=b by omega,eb]
 ·refine⟨b+(N-a),by omega,?_⟩
  rw[<-ea,<-oS,show a+(b+(N-a))=N+b by omega,oS,h.2,eb]
noncomputable def Em (P:Nat->Prop) (mask:Nat):Nat->Nat->Nat->Prop
 | 0,i,_=>P i
 | m+1,i,pt=>Em P mask m (leap mask i pt).1 (leap mask i pt).2
theorem GE {P:Nat->Prop} {mask:Nat}:∀m i,P (zF (mask+1) m i)->Em P mask m i 0
 | 0,_,h=>h
 | m+1,i,h=>by
  unfold Em
  have e:leap mask i 0=(hop (mask+1) i,0):=by simp[leap,hop]
  rw[e]
  exact GE m (hop (mask+1) i) h
theorem DR {P:Nat->Prop} {mask:Nat} (R:Round (mask+1)) {j:Nat} (hj:j<=mask) (hP:P j):∀(b i pt:Nat),i<=mask->pt<32 ^ b->∃m,m<=mask+b/\Em P mask m i pt
 | 0,i,pt,hi,hp=>by
  have:pt=0:=by simpa using hp
  subst this
  obtain⟨k,hk,e⟩:=R.reach (i:=i) (j:=j) (by omega) (by omega)
  exact⟨k,by omega,GE k i (by rw[e];exact hP)⟩
 | b+1,i,pt,hi,hp=>by
  have h1:(leap mask i pt).1<=mask:=by unfold leap;exact Nat.le_of_lt_succ (Nat.mod_lt _ (by omega))
  have h2:(leap mask i pt).2<32 ^ b:=by
   unfold leap;dsimp only
   rw[Nat.pow_succ] at hp
   omega
  obtain⟨m,hm,e⟩:=DR R hj hP b _ _ h1 h2
  exact⟨m+1,by omega,e⟩
theorem GN (h:Int):bits h<32 ^ 13:=by
 unfold bits
 have:(h % (2 ^ 64:Int))<2 ^ 64:=Int.emod_lt_of_pos _ (by decide)
 have h2:0<=h % (2 ^ 64:Int):=Int.emod_nonneg _ (by decide)
 have:(h % (2 ^ 64:Int)).toNat<2 ^ 64:=by omega
 exact Nat.lt_of_lt_of_le this (by decide)
theorem iY {α:Type} [DecidableEq α]:∀(l m:List α),l.Nodup->(∀x∈l,x∈m)->l.length<=m.length
 | [],_,_,_=>Nat.zero_le _
 | x::l,m,hn,hs=>by
  have hx:=hs x (by simp)
  have hn':=List.nodup_cons.mp hn
  have:=iY l (m.erase x) hn'.2 λy hy=>by
   have ne:y≠x:=λe=>hn'.1 (e ▸ hy)
   exact (List.mem_erase_of_ne ne).mpr (hs y (by simp[hy]))
  rw[List.length_erase_of_mem hx] at this
  have:0<m.length:=List.length_pos_of_mem hx
  simp;omega
structure TabOk (t:SetTable) (n:Nat):Prop where
 size:t.place.size=n
 dum:t.dummies = #[]
 room:n<=t.mask
 round:Round (t.mask+1)
 ris:t.place.toList.Pairwise (· < ·)
theorem II {t:SetTable} (hd:t.dummies = #[]) (j:Nat):t.slot j = .empty\/∃i,t.slot j = .live i/\t.place[i]? = some j:=by
 unfold slot
 dsimp only
 by_cases h:(t.place[below t.place j]? == some j)=true
 ·rw[if_pos h];exact Or.inr ⟨_,rfl,by simpa using h⟩
 ·rw[if_neg h,hd,if_neg (by simp[has])];exact Or.inl rfl
theorem FW {t:SetTable} {n:Nat} (T:TabOk t n):∃j,j<=t.mask/\t.slot j = .empty:=by
 apply Classical.byContradiction
 intro hn
 have all:∀j∈List.range (t.mask+1),j∈t.place.toList:=by
  intro j hj
  rcases II T.dum j with h | ⟨i,h,e⟩
  ·exact absurd ⟨j,by have:=List.mem_range.mp hj;omega,h⟩ hn
  ·rw[Array.mem_toList_iff];exact Array.mem_of_getElem? e
 have:=iY _ _ List.nodup_range all
 rw[List.length_range,Array.length_toList,T.size] at this
 have:=T.room
 omega
noncomputable def wJ (t:SetTable) (p:Probe) (m:Nat):Prop:=p.dummy=none/\p.more<=9/\Em (λj=>t.slot j = .empty) t.mask m p.i p.perturb/\(m=0->p.j=p.i)
noncomputable def rR (p:Probe) (m:Nat):Nat:=p.more+10*m
theorem mF (mask i:Nat):runEnd mask i-i<=9:=by unfold runEnd;split <;> omega
theorem AG {t:SetTable} {p:Probe} {m:Nat} (h:wJ t p m) (hn:t.slot p.j≠.empty):∃m',wJ t (t.advance p) m'/\rR (t.advance p) m'<rR p m:=by
 obtain⟨hd,hm,he,hj⟩:=h
 have m0:m≠0:=by rintro rfl;rw[hj rfl] at hn;exact hn he
 unfold advance
 split
 ·refine⟨m,⟨hd,by dsimp only;omega,he,λe=>absurd e m0⟩,by unfold rR;dsimp only;omega⟩
 ·obtain⟨k,rfl⟩:∃k,m=k+1:=⟨m-1,by omega⟩
  refine⟨k,⟨hd,mF _ _,he,λ_=>rfl⟩,?_⟩
  unfold rR
  have:=mF t.mask (leap t.mask p.i p.perturb).1
  dsimp only
  omega
theorem CS {t:SetTable} (hd:t.dummies = #[]) (hashAt:Nat->Int) (h:Int):∀(fuel:Nat) (p:Probe) (m:Nat),wJ t p m->rR p m<fuel ->
  (∃j,probe.go t hashAt h fuel p=some (.empty j none)/\t.slot j = .empty)\/(∃j i next m',probe.go t hashAt h fuel p=some (.candidate j i next)/\t.slot j = .live i/\t.place[i]? = some j/\wJ t next m'/\rR next m'<rR p m)
 | 0,_,_,_,h=>absurd h (Nat.not_lt_zero _)
 | fuel+1,p,m,hi,hf=>by
  unfold probe.go
  rcases II hd p.j with e | ⟨i,e,ep⟩
  ·rw[e];dsimp only;rw[hi.1];exact Or.inl ⟨_,rfl,e⟩
  ·rw[e];dsimp only
   obtain⟨m',hi',hl⟩:=AG hi (by rw[e];exact λx=>nomatch x)
   split
   ·exact Or.inr ⟨_,_,_,m',rfl,e,ep,hi',hl⟩
   ·rcases CS hd hashAt h fuel (t.advance p) m' hi' (by omega) with r | ⟨j,i,nx,m'',r,r2,r3,r4,r5⟩
    ·exact Or.inl r
    ·exact Or.inr ⟨j,i,nx,m'',r,r2,r3,r4,by omega⟩
theorem KW {t:SetTable} {n:Nat} (T:TabOk t n) (h:Int):∃m,wJ t (t.probeStart h) m/\rR (t.probeStart h) m<10*turns t.mask:=by
 obtain⟨j,hj,he⟩:=FW T
 obtain⟨m,hm,e⟩:=DR (P:=λj=>t.slot j = .empty) T.round hj he 13 (bits h % (t.mask+1)) (bits h) (Nat.le_of_lt_succ (Nat.mod_lt _ (by omega))) (GN h)
 refine⟨m,⟨rfl,mF _ _,e,λ_=>rfl⟩,?_⟩
 have:=mF t.mask (bits h % (t.mask+1))
 unfold rR probeStart turns
 dsimp only
 omega
theorem HH {mask:Nat} {owner:Array (Option Nat)}:∀(fuel m i pt:Nat),i<=mask->owner.size=mask+1->Em (λj=>owner.getD j (some 0)=none) mask m i pt->m<fuel->∃j,layClean.free mask owner fuel i pt=some j/\j<=mask/\owner.getD j (some 0)=none
 | 0,_,_,_,_,_,_,h=>absurd h (Nat.not_lt_zero _)
 | fuel+1,m,i,pt,hi,hs,he,hf=>by
  unfold layClean.free
  cases hq:(List.range (runEnd mask i+1-i)).find? λk=>(owner.getD (i+k) (some 0)).isNone with
  | some k =>
   have h1:=List.find?_some hq
   have h2:=List.mem_of_find?_eq_some hq
   have h3:=List.mem_range.mp h2
   refine⟨i+k,rfl,?_,by simpa using h1⟩
   have:runEnd mask i<=mask:=by unfold runEnd;split <;> omega
   omega
  | none =>
   dsimp only
   have hn:owner.getD i (some 0)≠none:=by
    have h0:=List.find?_eq_none.mp hq 0 (List.mem_range.mpr (by unfold runEnd;split <;> omega))
    simpa using h0
   obtain⟨k,rfl⟩:∃k,m=k+1:=by
    cases m with
    | zero=>exact absurd he hn
    | succ k=>exact⟨k,rfl⟩
   exact HH fuel k _ _ (by unfold leap;exact Nat.le_of_lt_succ (Nat.mod_lt _ (by omega))) hs he (by omega)
noncomputable def oY (owner:Array (Option Nat)) (n:Nat):List Nat:=(List.range n).filterMap λj=>owner.getD j none
theorem BJ {α:Type} {f g:Nat->Option α}:∀(l:List Nat),(∀a∈l,f a=g a)->l.filterMap f=l.filterMap g
 | [],_=>rfl
 | a::l,h=>by rw[List.filterMap_cons,List.filterMap_cons,h a (by simp),BJ l λb hb=>h b (by simp[hb])]
theorem mN {α:Type} {f g:Nat->Option α} {x:α} {j:Nat}:∀(l:List Nat),l.Nodup->j∈l->(∀i,i≠j->f i=g i)->f j=none->g j=some x->(l.filterMap g).Perm (x::l.filterMap f)
 | [],_,h,_,_,_=>by cases h
 | i::l,hn,hj,hfg,hf,hg=>by
  have hn':=List.nodup_cons.mp hn
  by_cases e:i=j
  ·subst e
   rw[List.filterMap_cons,List.filterMap_cons,hf,hg]
   dsimp only
   have:l.filterMap g=l.filterMap f:=by
    exact BJ l λa ha=>(hfg a (λe=>hn'.1 (e ▸ ha))).symm
   rw[this]
  ·have hj':j∈l:=by rcases List.mem_cons.mp hj with h | h;exact absurd h.symm e;exact h
   have ih:=mN l hn'.2 hj' hfg hf hg
   rw[List.filterMap_cons,List.filterMap_cons,hfg i e]
   cases g i with
   | none=>exact ih
   | some y=>exact (ih.cons y).trans (List.Perm.swap x y _)
theorem KK {owner:Array (Option Nat)} {N c:Nat} (hp:(oY owner N).Perm (List.range c)) (hs:owner.size=N) (hc:c<N):∃j,j<N/\owner.getD j (some 0)=none:=by
 apply Classical.byContradiction
 intro hn
 have key:∀(l:List Nat),(∀j∈l,∃k,owner.getD j none=some k)->(l.filterMap λj=>owner.getD j none).length=l.length:=by
  intro l
  induction l with
  | nil=>intro _;rfl
  | cons j l ih =>
   intro h
   obtain⟨k,e⟩:=h j (by simp)
   rw[List.filterMap_cons,e]
   have:=ih λj hj=>h j (by simp[hj])
   rw[List.length_cons,List.length_cons,this]
 have:=key (List.range N) (by
  intro j hj
  have hj':=List.mem_range.mp hj
  cases h:owner.getD j none with
  | some k=>exact⟨k,rfl⟩
  | none =>
   refine absurd ⟨j,hj',?_⟩ hn
   have lt:j<owner.size:=by omega
   simp[Array.getD,lt] at h ⊢
   exact h)
 have e:=hp.length_eq
 unfold oY at e
 rw[this] at e
 simp at e
 omega
theorem BT {mask:Nat} (R:Round (mask+1)):∀(hs:List Int) (owner:Array (Option Nat)) (c:Nat),owner.size=mask+1->(oY owner (mask+1)).Perm (List.range c)->c+hs.length<=mask+1 ->
  ∃owner' ,(hs.foldl (λacc h=>do
    let (owner,k) <-acc
    let j <-layClean.free mask owner (turns mask) (bits h % (mask+1)) (bits h)
    pure (owner.setIfInBounds j (some k),k+1)) (some (owner,c)))=some (owner',c+hs.length)/\owner'.size=mask+1/\(oY owner' (mask+1)).Perm (List.range (c+hs.length))
 | [],owner,c,hs,hp,_=>⟨owner,rfl,hs,hp⟩
 | h::hs,owner,c,hz,hp,hl=>by
  simp only[List.length_cons] at hl
  obtain⟨j0,hj0,e0⟩:=KK hp hz (by omega)
  obtain⟨m,hm,em⟩:=DR (P:=λj=>owner.getD j (some 0)=none) R (j:=j0) (by omega) e0 13 (bits h % (mask+1)) (bits h) (Nat.le_of_lt_succ (Nat.mod_lt _ (by omega))) (GN h)
  obtain⟨j,ej,hj,ef⟩:=HH (turns mask) m _ _ (Nat.le_of_lt_succ (Nat.mod_lt _ (by omega))) hz em (by unfold turns;omega)
  rw[List.foldl_cons]
  have step:((do
    let (owner,k) <-some (owner,c)
    let j <-layClean.free mask owner (turns mask) (bits h % (mask+1)) (bits h)
    pure (owner.setIfInBounds j (some k),k+1)):Option (Array (Option Nat) × Nat))=some (owner.setIfInBounds j (some c),c+1):=by
   show (layClean.free mask owner (turns mask) (bits h % (mask+1)) (bits h) >>= λj=>_)=_
   rw[ej];rfl
  rw[step]
  have lt:j<owner.size:=by omega
  have perm:(oY (owner.setIfInBounds j (some c)) (mask+1)).Perm (List.range (c+1)):=by
   unfold oY
   refine (mN (f:=λi=>owner.getD i none) (x:=c) (j:=j) _ List.nodup_range (List.mem_range.mpr (by omega)) ?_ ?_ ?_).trans ?_
   ·intro i hi
    simp only[Array.getD_eq_getD_getElem?]
    rw[Array.getElem?_setIfInBounds_ne (Ne.symm hi)]
   ·simp only[Array.getD_eq_getD_getElem?] at ef ⊢
    have:owner[j]? = some owner[j]:=Array.getElem?_eq_getElem lt
    rw[this] at ef ⊢
    exact ef
   ·simp only[Array.getD_eq_getD_getElem?]
    rw[Array.getElem?_setIfInBounds_self_of_lt lt];rfl
   ·rw[List.range_succ (n:=c)]
    exact (List.Perm.cons c hp).trans (List.perm_append_comm (l₁:=[c]))
  obtain⟨o',r1,r2,r3⟩:=BT R hs (owner.setIfInBounds j (some c)) (c+1) (by simp[hz]) perm (by omega)
  refine⟨o',?_,r2,?_⟩
  ·rw[r1,List.length_cons,show c+1+hs.length=c+(hs.length+1) by omega]
  ·rw[List.length_cons,show c+(hs.length+1)=c+1+hs.length by omega];exact r3
theorem QW {mask:Nat} (R:Round (mask+1)) (finger moves:Nat) (led plain:Bool) (hashes:Array Int) (hl:hashes.size<=mask) :
  ∃t order,laid mask finger moves led plain hashes=some (t,order)/\TabOk t hashes.size/\t.mask=mask/\t.led=led/\t.plain=plain/\order.toList.Perm (List.range hashes.size):=by
 obtain⟨o,e,sz,pm⟩:=BT R hashes.toList (Array.replicate (mask+1) none) 0 (by simp) (by
  have:oY (Array.replicate (mask+1) none) (mask+1)=[]:=by
   unfold oY
   rw[List.filterMap_eq_nil_iff]
   intro j hj
   have:=List.mem_range.mp hj
   simp[Array.getD_eq_getD_getElem?,this]
  rw[this];exact List.Perm.refl _) (by rw[Array.length_toList];omega)
 have el:layClean mask hashes=some o:=by
  unfold layClean
  rw[<-Array.foldl_toList]
  have e':=e
  simp only[Nat.zero_add] at e'
  rw[e']
  rfl
 unfold laid
 rw[el]
 simp only[Nat.zero_add,Array.length_toList] at pm
 have e2:∀l:List Nat,(l.filterMap λj=>(o.getD j none).map (j,·)).map (·.2)=l.filterMap λj=>o.getD j none:=by
  intro l
  induction l with
  | nil=>rfl
  | cons j l ih =>
   rw[List.filterMap_cons,List.filterMap_cons]
   cases o.getD j none with
   | none=>exact ih
   | some k=>exact congrArg (k :: ·) ih
 have e3:∀l:List Nat,((l.filterMap λj=>(o.getD j none).map (j,·)).map (·.1)).Sublist l:=by
  intro l
  induction l with
  | nil=>exact List.Sublist.refl _
  | cons j l ih =>
   rw[List.filterMap_cons]
   cases o.getD j none with
   | none=>exact ih.cons j
   | some k=>exact ih.cons_cons j
 refine⟨_,_,rfl,⟨?_,rfl,hl,R,List.Pairwise.sublist (e3 _) List.pairwise_lt_range⟩,rfl,rfl,rfl,?_⟩
 ·have h1:=congrArg List.length (e2 (List.range (mask+1)))
  have h2:=pm.length_eq
  unfold oY at h2
  simp only[List.length_map,List.length_range] at h1 h2
  simp only[List.size_toArray,List.length_map]
  omega
 ·dsimp only
  rw[e2];exact pm
theorem sV {xs:Array Nat} {j:Nat} (hr:xs.toList.Pairwise (· < ·)):∀(fuel lo hi:Nat),lo<=hi->hi<=xs.size->hi-lo<=fuel->(∀i x,i<lo->xs[i]? = some x->x<j)->(∀i x,hi<=i->xs[i]? = some x->j<=x) ->
  below.go xs j fuel lo hi<=xs.size/\(∀i x,i<below.go xs j fuel lo hi->xs[i]? = some x->x<j)/\(∀i x,below.go xs j fuel lo hi<=i->xs[i]? = some x->j<=x)
 | 0,lo,hi,h1,h2,h3,a,b=>by
  have:lo=hi:=by omega
  subst this
  exact⟨h2,a,b⟩
 | fuel+1,lo,hi,h1,h2,h3,a,b=>by
  unfold below.go
  by_cases hl:lo<hi
  ·rw[if_pos hl]
   dsimp only
   have hm:(lo+hi) / 2<xs.size:=by omega
   have em:xs[(lo+hi) / 2]? = some xs[(lo+hi) / 2]:=Array.getElem?_eq_getElem hm
   have eg:xs.getD ((lo+hi) / 2) j=xs[(lo+hi) / 2]:=by simp[Array.getD,hm]
   have mono:∀(i k x y:Nat),i<k->xs[i]? = some x->xs[k]? = some y->x<y:=by
    intro i k x y hik ex ey
    have hk:k<xs.size:=(Array.getElem?_eq_some_iff.mp ey).1
    have:=List.pairwise_iff_getElem.mp hr i k (by simp;omega) (by simpa using hk) hik
    rw[Array.getElem?_eq_getElem (by omega)] at ex
    rw[Array.getElem?_eq_getElem hk] at ey
    cases ex;cases ey
    simpa using this
   rw[eg]
   split
   ·rename_i h
    refine sV hr fuel _ _ (by omega) h2 (by omega) (λi x hq ex=>?_) b
    by_cases he:i=(lo+hi) / 2
    ·subst he;rw[em] at ex;cases ex;exact h
    ·exact Nat.lt_trans (mono i ((lo+hi) / 2) x _ (by omega) ex em) h
   ·rename_i h
    refine sV hr fuel _ _ (by omega) (by omega) (by omega) a (λi x hq ex=>?_)
    by_cases he:i=(lo+hi) / 2
    ·subst he;rw[em] at ex;cases ex;omega
    ·have:=mono ((lo+hi) / 2) i _ x (by omega) em ex
     omega
  ·rw[if_neg hl]
   have:lo=hi:=by omega
   subst this
   exact⟨h2,a,b⟩
theorem AL {xs:Array Nat} (j:Nat) (hr:xs.toList.Pairwise (· < ·)):below xs j<=xs.size/\(∀i x,i<below xs j->xs[i]? = some x->x<j)/\(∀i x,below xs j<=i->xs[i]? = some x->j<=x) :=
 sV hr xs.size 0 xs.size (Nat.zero_le _) (Nat.le_refl _) (by omega) (λi x h=>absurd h (Nat.not_lt_zero _)) λi x h e=>by
  have:=(Array.getElem?_eq_some_iff.mp e).1;omega
theorem iX {α:Type} (xs:Array α) (p:Nat) (x:α) (hp:p<=xs.size):(insertAt xs p x).toList=xs.toList.take p++x::xs.toList.drop p:=by
 unfold insertAt
 rw[Array.toList_append,Array.toList_push,Array.toList_extract,Array.toList_extract]
 simp only[List.extract_eq_drop_take,Nat.sub_zero,List.drop_zero,List.append_assoc,List.singleton_append]
 congr 2
 rw[List.take_of_length_le (by simp)]
theorem mO {α:Type} (xs:Array α) (p:Nat) (x:α) (hp:p<=xs.size):(insertAt xs p x).size=xs.size+1:=by
 rw[<-Array.length_toList,iX xs p x hp];simp;omega
theorem zH {α:Type} (xs:Array α) (p:Nat) (x:α) (hp:p<=xs.size) (y:α):y∈(insertAt xs p x).toList↔y=x\/y∈xs.toList:=by
 rw[iX xs p x hp,List.mem_append,List.mem_cons]
 constructor
 ·rintro (h | h | h)
  ·exact Or.inr (List.mem_of_mem_take h)
  ·exact Or.inl h
  ·exact Or.inr (List.mem_of_mem_drop h)
 ·rintro (h | h)
  ·exact Or.inr (Or.inl h)
  ·rw[<-List.take_append_drop p xs.toList] at h
   rcases List.mem_append.mp h with h | h
   ·exact Or.inl h
   ·exact Or.inr (Or.inr h)
theorem WU {t:SetTable} {n j:Nat} (T:TabOk t n) (he:t.slot j = .empty) (hr:n+1<=t.mask):TabOk (t.put j).1 (n+1)/\(t.put j).2=below t.place j/\below t.place j<=n/\(t.put j).1.mask=t.mask/\(t.put j).1.led=t.led/\(t.put j).1.plain=t.plain/\(t.put j).1.moves=t.moves:=by
 obtain⟨b1,b2,b3⟩:=AL j T.ris
 have hn:t.place[below t.place j]?≠some j:=by
  intro h
  unfold slot at he
  dsimp only at he
  rw[if_pos (by simpa using h)] at he
  cases he
 have hd:(if has t.dummies j=true then eraseAt t.dummies (below t.dummies j) else t.dummies) = #[]:=by
  rw[T.dum];simp[has]
 refine⟨⟨?_,hd,hr,T.round,?_⟩,rfl,by rw[<-T.size];exact b1,rfl,rfl,rfl,rfl⟩
 ·show (insertAt t.place _ j).size=_
  rw[mO _ _ _ b1,T.size]
 ·show (insertAt t.place _ j).toList.Pairwise _
  rw[iX _ _ _ b1]
  refine List.pairwise_append.mpr ⟨List.Pairwise.sublist (List.take_sublist _ _) T.ris,List.pairwise_cons.mpr ⟨λx hx=>?_,List.Pairwise.sublist (List.drop_sublist _ _) T.ris⟩,λx hx y hy=>?_⟩
  ·obtain⟨i,hi,e⟩:=List.getElem_of_mem hx
   simp only[List.length_drop,Array.length_toList] at hi
   rw[List.getElem_drop] at e
   have ex:t.place[below t.place j+i]? = some x:=by rw[Array.getElem?_eq_getElem (by omega),<-e];simp
   have:=b3 _ x (by omega) ex
   rcases Nat.lt_or_eq_of_le this with h | h
   ·exact h
   ·subst h
    exfalso
    cases i with
    | zero=>exact hn ex
    | succ i =>
     have hp:below t.place j<t.place.size:=by omega
     have e0:t.place[below t.place j]? = some t.place[below t.place j]:=Array.getElem?_eq_getElem hp
     have g1:=b3 _ _ (Nat.le_refl _) e0
     have g2:=List.pairwise_iff_getElem.mp T.ris (below t.place j) (below t.place j+(i+1)) (by simpa using hp) (by simp;omega) (by omega)
     rw[Array.getElem?_eq_getElem (by omega)] at ex
     injection ex with ex
     simp at g2
     omega
  ·obtain⟨i,hi,e⟩:=List.getElem_of_mem hx
   simp only[List.length_take,Array.length_toList] at hi
   rw[List.getElem_take] at e
   have ex:t.place[i]? = some x:=by rw[Array.getElem?_eq_getElem (by omega),<-e];simp
   have lx:=b2 i x (by omega) ex
   rcases List.mem_cons.mp hy with rfl | hy
   ·exact lx
   ·obtain⟨k,hk,e'⟩:=List.getElem_of_mem hy
    simp only[List.length_drop,Array.length_toList] at hk
    rw[List.getElem_drop] at e'
    have ey:t.place[below t.place j+k]? = some y:=by rw[Array.getElem?_eq_getElem (by omega),<-e'];simp
    have:=b3 _ y (by omega) ey
    omega
noncomputable def gT (t:SetTable) (k:Nat):Nat:=if k=0 then 0 else t.place.getD (k-1) 0+1
theorem FF {t:SetTable} {n k:Nat} (T:TabOk t n) (hk:k<=n):below t.place (gT t k)=k:=by
 obtain⟨b1,b2,b3⟩:=AL (gT t k) T.ris
 have mono:∀(i k x y:Nat),i<k->t.place[i]? = some x->t.place[k]? = some y->x<y:=by
  intro i k x y hik ex ey
  have hk:k<t.place.size:=(Array.getElem?_eq_some_iff.mp ey).1
  have:=List.pairwise_iff_getElem.mp T.ris i k (by simp;omega) (by simpa using hk) hik
  rw[Array.getElem?_eq_getElem (by omega)] at ex
  rw[Array.getElem?_eq_getElem hk] at ey
  cases ex;cases ey
  simpa using this
 have sz:=T.size
 have at':∀i,i<n->t.place[i]? = some (t.place.getD i 0):=by
  intro i hi
  rw[Array.getElem?_eq_getElem (by omega)]
  have:i<t.place.size:=by omega
  simp[Array.getD,this]
 rcases Nat.lt_trichotomy (below t.place (gT t k)) k with h | h | h
 ·exfalso
  have:=b3 (k-1) _ (by omega) (at' (k-1) (by omega))
  unfold gT at this
  rw[if_neg (by omega)] at this
  omega
 ·exact h
 ·exfalso
  have ek:=at' k (by omega)
  have h1:=b2 k _ h ek
  unfold gT at h1
  by_cases h0:k=0
  ·rw[if_pos h0] at h1;omega
  ·rw[if_neg h0] at h1
   have:=mono (k-1) k _ _ (by omega) (at' (k-1) (by omega)) ek
   omega
section
variable {prog:Program} {w:World} {A:Around} {E:Value->Shared->Prop} {s:Shared}
theorem DD {ks:List Int} {a:Addr} {Q:Bool->Shared->Prop} (hk:IsTupleKey (intKind prog w) s.heap ks a) (q:Q false s):wpAny (model prog w) A (ofAClassStatement 8 (.ref a)) Q E s:=by
 have hT:=hk.typeIs
 obtain⟨o,items,n,ho,_,hd,hi⟩:=hk
 unfold ofAClassStatement
 refine wpAny_bind (wpAny_typeOf hT ?_)
 dsimp only
 rw[if_pos (by decide)]
 refine wpAny_bind (wpAny_pure ?_)
 simp only[Bool.not_true,Bool.false_eq_true,if_false]
 refine wpAny_bind (wpAny_seqItems ho hd ?_)
 try dsimp only
 refine wpAny_bind ?_
 rw[<-Array.forIn_toList]
 refine wpAny_forIn_list _ (λrest r s'=>r.1=none/\s'=s/\∀v∈rest,carriedByValue v=true) _ ?_ ?_ _ _ ⟨rfl,rfl,hi.byValue⟩
 ·rintro v rest r s' ⟨hr,rfl,hall⟩
  have hv:=hall v List.mem_cons_self
  have e:ofAClassStatement 7 v=pure false:=by
   cases v with
   | ref a=>simp[carriedByValue] at hv
   | _=>first | rfl | (unfold ofAClassStatement;rfl)
  rw[e]
  refine wpAny_bind (wpAny_pure ?_)
  simp only[Bool.false_eq_true,if_false]
  exact wpAny_pure ⟨rfl,rfl,λu hu'=>hall u (List.mem_cons_of_mem _ hu')⟩
 ·rintro⟨r1,r2⟩ s' ⟨hr,rfl,_⟩
  simp only at hr
  subst hr
  exact wpAny_pure q
theorem FX {ks:List Int} {a:Addr} {Q:Bool->Shared->Prop} (hk:IsTupleKey (intKind prog w) s.heap ks a) (q:Q true s):wpAny (model prog w) A (hashByValue 8 (.ref a)) Q E s:=by
 have hT:=hk.typeIs
 obtain⟨o,items,n,ho,_,hd,hi⟩:=hk
 unfold hashByValue
 refine wpAny_bind (wpAny_specialOf hT F.slot_tuple_hash.lookup ?_)
 try dsimp only
 refine wpAny_bind (wpAny_seqItems ho hd ?_)
 try dsimp only
 refine wpAny_bind ?_
 show wpAny _ _ (forIn items _ _) _ _ s
 rw[<-Array.forIn_toList]
 refine wpAny_forIn_list _ (λrest r s'=>r.1=none/\s'=s/\∃ks',ItemsAre (intKind prog w) ks' rest) _ ?_ ?_ _ _ ⟨rfl,rfl,ks,hi⟩
 ·rintro v rest r s' ⟨hr,rfl,ks',hall⟩
  cases hall with
  | @cons k _ ks'' _ h1 h2 =>
   have e:hashByValue 7 v=pure true:=by
    obtain⟨t,rfl⟩:∃t,v = .int k t:=by
     cases v <;> simp[intKind,Value.isInt] at h1
     exact⟨_,by rw[h1]⟩
    rfl
   rw[e]
   refine wpAny_bind (wpAny_pure ?_)
   simp only[Bool.not_true,Bool.false_eq_true,if_false]
   exact wpAny_pure ⟨rfl,rfl,_,h2⟩
 ·rintro⟨r1,r2⟩ s' ⟨hr,rfl,_⟩
  simp only at hr
  subst hr
  exact wpAny_pure q
theorem SS {ks:List Int} {a:Addr} {stored:List Value} {Q:Bool->Shared->Prop} (hk:IsTupleKey (intKind prog w) s.heap ks a) (hs:∀y∈stored,∃ks' b,y = .ref b/\IsTupleKey (intKind prog w) s.heap ks' b) (q:Q false s) :
  wpAny (model prog w) A (searchCouldBeSeen (.ref a) stored) Q E s:=by
 unfold searchCouldBeSeen
 refine wpAny_bind ?_
 refine wpAny_forIn_list _ (λrest r s'=>r.1=none/\s'=s/\∀y∈rest,y∈stored) _ ?_ ?_ _ _ ⟨rfl,rfl,λ_ h=>h⟩
 ·rintro v rest r s' ⟨hr,rfl,hall⟩
  obtain⟨ks',b,rfl,hb⟩:=hs v (hall v List.mem_cons_self)
  have hall':∀y∈rest,y∈stored:=λu hu'=>hall u (List.mem_cons_of_mem _ hu')
  dsimp only
  by_cases hv:((a == b) || (carriedByValue (Value.ref a) && carriedByValue (Value.ref b)))=true
  ·rw[if_pos hv]
   exact wpAny_pure ⟨rfl,rfl,hall'⟩
  ·rw[if_neg hv]
   refine wpAny_bind (wpAny_eqIsQuiet_tuple hk ?_)
   simp only[Bool.not_true,Bool.false_eq_true,if_false]
   refine wpAny_bind (wpAny_eqIsQuiet_tuple hb ?_)
   simp only[Bool.not_true,Bool.false_eq_true,if_false]
   refine wpAny_bind (DD hk ?_)
   simp only[Bool.false_eq_true,if_false]
   refine wpAny_bind (DD hb ?_)
   simp only[Bool.false_eq_true,if_false]
   exact wpAny_pure ⟨rfl,rfl,hall'⟩
 ·rintro⟨r1,r2⟩ s' ⟨hr,rfl,_⟩
  simp only at hr
  subst hr
  exact wpAny_pure q
noncomputable def cW (w:World):Bool:=w.params.followText "set-order"
noncomputable def UM (prog:Program) (w:World) (h:Heap) (es:Array (Int × Value)):Prop:=∀e∈es.toList,∃ks b,e=(tupleKeyHash (intKind prog w) ks,.ref b)/\IsTupleKey (intKind prog w) h ks b
noncomputable def LH (mask n:Nat):Prop:=(mask=7/\n<=4)\/(mask=31/\n<=18)\/(mask=127/\n<=76)
noncomputable def dE (es:Array (Int × Value)) (ep:Nat) (t:SetTable):Obj:={ cls:=.type "set",dict:=none,data:=.set es ep t }
theorem TabOk.fits {t:SetTable} {n:Nat} (T:TabOk t n):t.fits n=true:=by
 unfold SetTable.fits fill
 rw[T.dum,T.size]
 simp
 exact T.room
theorem ND {mask n:Nat} (h:LH mask n):(mask % 2 == 0)=false:=by
 rcases h with ⟨rfl,_⟩ | ⟨rfl,_⟩ | ⟨rfl,_⟩ <;> rfl
theorem xP {S a:Addr} {ks:List Int} {es:Array (Int × Value)} {ep:Nat} {t:SetTable} {Q:SetFound->Shared->Prop} (hu:A.units<cLine) (ho:s.heap.get? S=some (dE es ep t)) (T:TabOk t es.size) (hf:LH t.mask es.size) (he:UM prog w s.heap es)
  (hk:IsTupleKey (intKind prog w) s.heap ks a) (q1:(∃e∈es.toList,∃b,e.2 = .ref b/\IsTupleKey (intKind prog w) s.heap ks b)->Q (.there none) s) (q2:∀j,t.slot j = .empty->Q (.free j false) s) :
  ∀(fuel:Nat) (stand:Option Probe) (m:Nat),wJ t (stand.getD (t.probeStart (tupleKeyHash (intKind prog w) ks))) m->rR (stand.getD (t.probeStart (tupleKeyHash (intKind prog w) ks))) m<10*turns t.mask->rR (stand.getD (t.probeStart (tupleKeyHash (intKind prog w) ks))) m<fuel ->
   wpAny (model prog w) A (setSearchFrom S (.ref a) (tupleKeyHash (intKind prog w) ks) true fuel stand) Q E s
 | 0,_,_,_,_,h=>absurd h (Nat.not_lt_zero _)
 | fuel+1,stand,m,hi,hm,hl=>by
  unfold setSearchFrom
  refine wpAny_bind (wpAny_setState_of ho rfl T.fits ?_)
  dsimp only
  rw[if_neg (by unfold SetTable.gaveWay;rw[ND hf];exact Bool.false_ne_true)]
  unfold probe
  rcases CS T.dum _ (tupleKeyHash (intKind prog w) ks) (10*turns t.mask) _ m hi hm with ⟨j,e,ej⟩ | ⟨j,i,next,m',e,ej,ep',hi',hm'⟩
  ·rw[e]
   dsimp only
   exact wpAny_pure (q2 j ej)
  ·rw[e]
   dsimp only
   have hil:i<es.size:=by
    have:=(Array.getElem?_eq_some_iff.mp ep').1
    rw[T.size] at this;exact this
   have ei:es[i]? = some es[i]:=Array.getElem?_eq_getElem hil
   have mi:es[i]∈es.toList:=by simp
   obtain⟨ks',b,ee,hb⟩:=he _ mi
   have rest:wpAny (model prog w) A (match es[i]? with
    | some (fst,y)=>do
     let equal <-holding [y] (eqBool y (Value.ref a))
     let __x <-setState S
     if (true && equal)=true then pure (SetFound.there none)
      else
       match __x.2.snd.sameMemory t.moves t.mask with
       | some same =>
        let still <-match if same=true then __x.2.snd.slot j else Slot.empty with
        | Slot.live i' =>
         match __x.fst[i']? with
         | some (fst,y')=>do pure (if <-isSame y' y then some i' else none)
         | none=>pure none
        | _=>pure none
        match still with
        | none=>do
         rule "set.search.anew"
         setSearchFrom S (Value.ref a) (tupleKeyHash (intKind prog w) ks) true fuel none
        | some i' =>
         if equal=true then pure (SetFound.there (some i'))
         else setSearchFrom S (Value.ref a) (tupleKeyHash (intKind prog w) ks) true fuel (some next)
       | _=>unsupported "set.changed-during-lookup:is-the-new-block-at-the-old-address"
    | _=>unsupported "internal:set-entry") Q E s:=by
    rw[ei,ee]
    dsimp only
    refine wpAny_bind (wpAny_holding (wpAny_eqBool_tuple hu hb hk ?_))
    refine wpAny_bind (wpAny_setState_of ho rfl T.fits ?_)
    dsimp only
    by_cases hkk:ks'=ks
    ·subst hkk
     rw[if_pos (by simp)]
     exact wpAny_pure (q1 ⟨_,mi,b,by rw[ee],hb⟩)
    ·rw[if_neg (by simp[hkk])]
     have sm:t.sameMemory t.moves t.mask=some true:=by unfold sameMemory;rw[if_pos (by simp)]
     rw[sm]
     dsimp only
     rw[if_pos rfl,ej]
     dsimp only
     rw[ei,ee]
     dsimp only
     refine wpAny_bind ?_
     have same:isSame (.ref b) (.ref b)=pure true:=by
      show (if (b == b)=true then pure true else _)=_
      rw[if_pos (by simp)]
     rw[same]
     refine wpAny_pure (wpAny_bind (wpAny_pure ?_))
     rw[if_pos rfl]
     dsimp only
     rw[if_neg (by simp[hkk])]
     exact xP hu ho T hf he hk q1 q2 fuel (some next) m' hi' (Nat.lt_trans hm' hm) (by simp only[Option.getD_some];omega)
   cases hled:t.led with
   | true =>
    simp only[Bool.not_true,Bool.false_eq_true,if_false]
    exact rest
   | false =>
    simp only[Bool.not_false,if_true]
    refine wpAny_bind (SS hk ?_ ?_)
    ·intro y hy
     obtain⟨e0,he0,rfl⟩:=List.mem_map.mp hy
     have:=(Array.mem_filter.mp (Array.mem_toList_iff.mp he0)).1
     obtain⟨ks1,b1,e1,h1⟩:=he e0 (Array.mem_toList_iff.mpr this)
     exact⟨ks1,b1,by rw[e1],h1⟩
    ·simp only[Bool.false_eq_true,if_false]
     exact rest
structure SetTup (prog:Program) (w:World) (h:Heap) (S:Addr) (es:Array (Int × Value)):Prop where
 tab:∃ep t,h.get? S=some (dE es ep t)/\TabOk t es.size/\LH t.mask es.size/\t.led = !cW w/\t.plain=true
 els:UM prog w h es
theorem jK {h h':Heap} {ks:List Int} {S b:Addr} {es:Array (Int × Value)} {ep:Nat} {t:SetTable} (hS:h.get? S=some (dE es ep t)) (up:∀b o,b≠S->h.get? b=some o->h'.get? b=some o) (hk:IsTupleKey (intKind prog w) h ks b):IsTupleKey (intKind prog w) h' ks b:=by
 obtain⟨o,items,n,ho,hc,hd,hi⟩:=hk
 refine⟨o,items,n,up b o ?_ ho,hc,hd,hi⟩
 rintro rfl
 rw[hS] at ho;cases ho
 exact nomatch hd
theorem BM {n:Nat} (h:n<100):SetTable.grown n=n*4:=by
 unfold SetTable.grown;rw[if_neg (by omega)]
theorem FV {S a:Addr} {ks:List Int} {es:Array (Int × Value)} {Q:Bool->Shared->Prop} (hu:A.units<cLine) (H:SetTup prog w s.heap S es) (hk:IsTupleKey (intKind prog w) s.heap ks a) (hn:es.size<76)
  (q:∀b h' tk es',SetTup prog w h' S es'->(∀y∈es'.toList,y∈es.toList\/y.2 = .ref a)->(∀y∈es.toList,y∈es'.toList)->(∃y∈es'.toList,∃b,y.2 = .ref b/\IsTupleKey (intKind prog w) h' ks b)->es'.size<=es.size+1 ->
   (∀b o,b≠S->s.heap.get? b=some o->h'.get? b=some o)->h'.objs.size=s.heap.objs.size->s.toks<=tk->Q b { s with heap:=h',toks:=tk }) :
  wpAny (model prog w) A (setAdd S (.ref a)) Q E s:=by
 obtain⟨⟨ep,t,ho,T,hf,hled,hpl⟩,hels⟩:=H
 unfold setAdd
 refine wpAny_holding (wpAny_bind (wpAny_pyHash_tuple hu hk ?_))
 unfold setAddHashed
 refine wpAny_holding ?_
 unfold setAddHashedIn
 refine wpAny_bind (wpAny_setState_of (s:={ s with toks:=s.toks+(ks.length+1) }) ho rfl T.fits ?_)
 dsimp only
 have nb:byScan (.ref a) es=false:=by unfold byScan;simp[Value.scannable]
 rw[nb]
 simp only[Bool.false_eq_true,if_false]
 obtain⟨m,hi,hm⟩:=KW T (tupleKeyHash (intKind prog w) ks)
 have hm2:rR (t.probeStart (tupleKeyHash (intKind prog w) ks)) m<100000:=by
  refine Nat.lt_of_lt_of_le hm ?_
  unfold turns
  rcases hf with ⟨e,_⟩ | ⟨e,_⟩ | ⟨e,_⟩ <;> rw[e] <;> decide
 unfold setSearch
 refine wpAny_bind (xP (s:={ s with toks:=s.toks+(ks.length+1) }) hu ho T hf hels hk ?_ ?_ 100000 none m hi hm hm2)
 ·rintro⟨e,he,b,e2,hb⟩
  dsimp only
  refine wpAny_pure ?_
  exact q false s.heap _ es ⟨⟨ep,t,ho,T,hf,hled,hpl⟩,hels⟩ (λy hy=>Or.inl hy) (λy hy=>hy) ⟨e,he,b,e2,hb⟩ (by omega) (λb o _ e=>e) rfl (by show s.toks<=s.toks+_;omega)
 ·intro j hj
  dsimp only
  refine wpAny_bind (wpAny_setState_of (s:={ s with toks:=s.toks+(ks.length+1) }) ho rfl T.fits ?_)
  dsimp only
  have room:es.size+1<=t.mask:=by rcases hf with ⟨e,h⟩ | ⟨e,h⟩ | ⟨e,h⟩ <;> omega
  obtain⟨T1,p1,p2,p3,p4,p5,p6⟩:=WU T hj room
  rw[p5,hpl]
  simp only[if_true]
  refine wpAny_bind (FX (s:={ s with toks:=s.toks+(ks.length+1) }) hk ?_)
  simp only[if_true]
  rw[p1]
  have sz:=mO es (below t.place j) (tupleKeyHash (intKind prog w) ks,Value.ref a) p2
  have mem:=zH es (below t.place j) (tupleKeyHash (intKind prog w) ks,Value.ref a) p2
  generalize insertAt es (below t.place j) (tupleKeyHash (intKind prog w) ks,Value.ref a)=es1 at sz mem
  refine wpAny_bind (wpAny_storeSet_of (s:={ s with toks:=s.toks+(ks.length+1) }) ho rfl ?_ (by rw[sz,sizeLine_eq];omega))
  have up1:∀b o,b≠S->s.heap.get? b=some o->(s.heap.update S (Obj.putSet es1 (t.put j).1)).get? b=some o:=λb o hb e=>(Heap.get?_update_other _ _ (Ne.symm hb)).trans e
  obtain⟨ep1,g1⟩:∃ep1,(s.heap.update S (Obj.putSet es1 (t.put j).1)).get? S=some (dE es1 ep1 (t.put j).1):=⟨_,Heap.get?_update_self _ ho rfl⟩
  have z1:(s.heap.update S (Obj.putSet es1 (t.put j).1)).objs.size=s.heap.objs.size:=(Heap.SameBut.update ..).1
  generalize s.heap.update S (Obj.putSet es1 (t.put j).1)=h1 at up1 g1 z1
  have els1:UM prog w h1 es1:=by
   intro e he
   rcases (mem e).mp he with rfl | he
   ·exact⟨ks,a,rfl,jK ho up1 hk⟩
   ·obtain⟨ks',b,r1,r2⟩:=hels e he
    exact⟨ks',b,r1,jK ho up1 r2⟩
  have T1':TabOk (t.put j).1 es1.size:=by rw[sz];exact T1
  have fill1:(t.put j).1.fill=es1.size:=by unfold fill;rw[T1'.size,T1'.dum];simp
  by_cases tf:(t.put j).1.tooFull=true
  ·rw[tf]
   simp only[Bool.not_false,Bool.and_self,if_true]
   have tf':=tf
   unfold tooFull at tf'
   rw[fill1,p3,sz] at tf'
   simp only[ge_iff_le,decide_eq_true_eq] at tf'
   have cases2:(t.mask=7/\es.size=4)\/(t.mask=31/\es.size=18):=by rcases hf with ⟨e,h⟩ | ⟨e,h⟩ | ⟨e,h⟩ <;> omega
   unfold setRelay
   refine wpAny_bind (wpAny_bind (wpAny_setState_of (s:={ s with heap:=h1,toks:=s.toks+(ks.length+1) }) g1 rfl T1'.fits ?_))
   dsimp only
   have hw:SetTable.sizeAbove (grown (es.size+1))=(if t.mask=7 then 32 else 128):=by
    rw[BM (by omega)]
    rcases cases2 with ⟨e,h⟩ | ⟨e,h⟩ <;> rw[e,h] <;> decide
   rw[if_neg (by rw[hw,sizeLine_eq];split <;> decide)]
   have R:Round ((if t.mask=7 then 31 else 127)+1):=by
    split
    ·exact SQ
    ·exact PB
   obtain⟨t2,order,l1,T2,l3,l4,l5,l6⟩:=QW R (t.put j).1.finger ((t.put j).1.movedTo (if t.mask=7 then 31 else 127)) (t.put j).1.led (t.put j).1.plain (es1.map (·.1)) (by rw[Array.size_map,sz];rcases cases2 with ⟨e,h⟩ | ⟨e,h⟩ <;> rw[e,h] <;> decide)
   have er:(t.put j).1.relaid (es1.map (·.1)) (grown (es.size+1))=some (t2,order):=by
    unfold relaid
    rw[hw]
    have:(if t.mask=7 then 32 else 128)-1=(if t.mask=7 then 31 else 127):=by split <;> rfl
    rw[this];exact l1
   rw[er]
   rw[Array.size_map] at T2 l6
   have esl:(order.filterMap (es1[·]?)).toList.Perm es1.toList:=by
    rw[Array.toList_filterMap]
    refine (l6.filterMap _).trans ?_
    have:(List.range es1.size).filterMap (es1[·]?)=es1.toList:=by
     apply List.ext_getElem?
     intro i
     have key:∀n,n<=es1.size->(List.range n).filterMap (es1[·]?)=es1.toList.take n:=by
      intro n
      induction n with
      | zero=>intro _;rfl
      | succ n ih =>
       intro hn
       rw[List.range_succ,List.filterMap_append,ih (by omega)]
       have:es1[n]? = some es1[n]:=Array.getElem?_eq_getElem (by omega)
       simp only[List.filterMap_cons,this,List.filterMap_nil]
       rw[List.take_succ]
       simp[show n<es1.size by omega]
     rw[key _ (Nat.le_refl _),<-Array.length_toList,List.take_length]
    rw[this]
   have es2sz:(order.filterMap (es1[·]?)).size=es1.size:=by rw[<-Array.length_toList,esl.length_eq,Array.length_toList]
   have hne:((order.filterMap (es1[·]?)).size != es1.size)=false:=by rw[es2sz];simp
   refine wpAny_bind ?_
   show wpAny _ _ (if ((order.filterMap (es1[·]?)).size != es1.size)=true then (unsupported "internal:set-table-lost-an-element" >>= λ_=>pure (order.filterMap (es1[·]?),t2)) else pure (order.filterMap (es1[·]?),t2)) _ _ _
   rw[hne]
   simp only[Bool.false_eq_true,if_false]
   refine wpAny_pure ?_
   dsimp only
   have mem2:∀y,y∈(order.filterMap (es1[·]?)).toList↔y∈es1.toList:=λy=>esl.mem_iff
   generalize order.filterMap (es1[·]?)=es2 at es2sz mem2
   refine wpAny_storeSet_of (s:={ s with heap:=h1,toks:=s.toks+(ks.length+1) }) g1 rfl ?_ (by rw[es2sz,sz,sizeLine_eq];omega)
   have up2:∀b o,b≠S->s.heap.get? b=some o->(h1.update S (Obj.putSet es2 t2)).get? b=some o:=λb o hb e=>(Heap.get?_update_other _ _ (Ne.symm hb)).trans (up1 b o hb e)
   have up12:∀b o,b≠S->h1.get? b=some o->(h1.update S (Obj.putSet es2 t2)).get? b=some o:=λb o hb e=>(Heap.get?_update_other _ _ (Ne.symm hb)).trans e
   obtain⟨ep2,g2⟩:∃ep2,(h1.update S (Obj.putSet es2 t2)).get? S=some (dE es2 ep2 t2):=⟨_,Heap.get?_update_self _ g1 rfl⟩
   have z2:(h1.update S (Obj.putSet es2 t2)).objs.size=s.heap.objs.size:=((Heap.SameBut.update ..).1).trans z1
   refine wpAny_pure (q true (h1.update S (Obj.putSet es2 t2)) _ es2 ⟨⟨ep2,t2,g2,by rw[es2sz];exact T2,?_,by rw[l4,p4];exact hled,by rw[l5,p5];exact hpl⟩,?_⟩ (λy hy=>?_) (λy hy=>(mem2 y).mpr ((mem y).mpr (Or.inr hy))) ⟨_,(mem2 _).mpr ((mem _).mpr (Or.inl rfl)),a,rfl,jK ho up2 hk⟩ (by omega) up2 z2 (by show s.toks<=s.toks+_;omega))
   ·rw[l3,es2sz,sz]
    unfold LH
    rcases cases2 with ⟨e,h⟩ | ⟨e,h⟩ <;> rw[e,h] <;> decide
   ·intro e he
    obtain⟨ks',b,r1,r2⟩:=els1 e ((mem2 e).mp he)
    exact⟨ks',b,r1,jK g1 up12 r2⟩
   ·rcases (mem y).mp ((mem2 y).mp hy) with rfl | h
    ·exact Or.inr rfl
    ·exact Or.inl h
  ·have tf0:(t.put j).1.tooFull=false:=by simpa using tf
   rw[tf0]
   simp only[Bool.and_false,Bool.false_eq_true,if_false]
   refine wpAny_pure (q true h1 _ es1 ⟨⟨ep1,_,g1,T1',?_,by rw[p4];exact hled,by rw[p5];exact hpl⟩,els1⟩ (λy hy=>?_) (λy hy=>(mem y).mpr (Or.inr hy)) ⟨_,(mem _).mpr (Or.inl rfl),a,rfl,jK ho up1 hk⟩ (by omega) up1 z1 (by show s.toks<=s.toks+_;omega))
   ·unfold tooFull at tf0
    rw[fill1,p3,sz] at tf0
    simp only[ge_iff_le,decide_eq_false_iff_not] at tf0
    rw[p3,sz]
    unfold LH
    rcases hf with ⟨e,h⟩ | ⟨e,h⟩ | ⟨e,h⟩ <;> omega
   ·rcases (mem y).mp hy with rfl | h
    ·exact Or.inr rfl
    ·exact Or.inl h
end
end L2.R2
set_option Elab.async false
set_option linter.all false
set_option maxRecDepth 100000
set_option maxHeartbeats 3200000
namespace L2.R2
open PySem PySem.SetTable PyProof.Rows
section
variable {prog:Program} {w:World} {A:Around} {E:Value->Shared->Prop} {s:Shared}
theorem SetTup.other {h h':Heap} {S:Addr} {es:Array (Int × Value)} (H:SetTup prog w h S es) (up:∀b o,h.get? b=some o->(∃e∈es.toList,e.2 = .ref b)\/b=S->h'.get? b=some o):SetTup prog w h' S es:=by
 obtain⟨⟨ep,t,ho,r⟩,els⟩:=H
 refine⟨⟨ep,t,up _ _ ho (Or.inr rfl),r⟩,λe he=>?_⟩
 obtain⟨ks,b,e1,o,items,n,h1,h2,h3,h4⟩:=els e he
 exact⟨ks,b,e1,o,items,n,up b o h1 (Or.inl ⟨e,he,by rw[e1]⟩),h2,h3,h4⟩
structure SetDone (prog:Program) (w:World) (items:Array Value) (key:Nat->List Int) (S:Addr) (i:Nat) (h:Heap):Prop where
 ex:∃es,SetTup prog w h S es/\(∀y∈es.toList,∃j,j<i/\items[j]? = some y.2)/\(∀j,j<i->∃y∈es.toList,∃b,y.2 = .ref b/\IsTupleKey (intKind prog w) h (key j) b)/\es.size<=i
theorem PL {R:Result->Shared->Prop} {I l:Addr} {items:Array Value} {key:Nat->List Int} {h0:Heap} (hh:A.in1.handled=none) (hne:l≠I) (hu:A.in1.units<cLine) (S:Addr) (hSI:S≠I) (hSl:S≠l)
  (hi:∀i v,items[i]? = some v->∃a,v = .ref a/\IsTupleKey (intKind prog w) h0 (key i) a/\a≠S/\a≠I) (hb:items.size<=76) :
  ∀(k i:Nat) (s:Shared),items.size-i=k->i<=items.size->s.heap.IsListIter I l i/\s.heap.IsList l items->SetDone prog w items key S i s.heap ->
   (∀b o,b≠S->b≠I->h0.get? b=some o->s.heap.get? b=some o) ->
   (∀h' tk,SetDone prog w items key S items.size h'->(∀b o,b≠S->b≠I->h0.get? b=some o->h'.get? b=some o)->R (.ok (.ret .none)) { s with heap:=h',toks:=tk }) ->
   codeAny (model prog w) A (.builtin "set.update.loop" ⟨[.ref S,.ref I],[]⟩) R s:=by
 have W:=Walks.list (prog:=prog) (w:=w) (A:=A.in1) hh I l hne items
 have wr:∀{b:Addr},b≠I->b ∉ [I]:=λh=>by simpa using h
 have keyAt:∀{h:Heap} {i:Nat} {a:Addr},(∀b o,b≠S->b≠I->h0.get? b=some o->h.get? b=some o)->IsTupleKey (intKind prog w) h0 (key i) a->a≠S->a≠I->IsTupleKey (intKind prog w) h (key i) a:=by
  intro h i a up hk n1 n2
  obtain⟨o,its,n,h1,h2,h3,h4⟩:=hk
  exact⟨o,its,n,up a o n1 n2 h1,h2,h3,h4⟩
 have move:∀{h h':Heap} {i:Nat},i<=items.size->SetDone prog w items key S i h->(∀b o,b≠I->h.get? b=some o->h'.get? b=some o)->SetDone prog w items key S i h':=by
  intro h h' i hi' ⟨es,D,d1,d2,d3⟩ up
  refine⟨es,D.other λb o e hm=>up b o ?_ e,d1,λj hj=>?_,d3⟩
  ·rcases hm with ⟨y,hy,ey⟩ | rfl
   ·obtain⟨j,hj,ej⟩:=d1 y hy
    obtain⟨a,ea,_,_,na⟩:=hi j y.2 ej
    rw[ey] at ea;cases ea;exact na
   ·exact hSI
  ·obtain⟨y,hy,b,e1,o,its,n,h1,h2,h3,h4⟩:=d2 j hj
   refine⟨y,hy,b,e1,o,its,n,up b o ?_ h1,h2,h3,h4⟩
   obtain⟨j',hj',ej⟩:=d1 y hy
   obtain⟨a,ea,_,_,na⟩:=hi j' y.2 ej
   rw[e1] at ea;cases ea;exact na
 intro k
 induction k with
 | zero =>
  intro i s hk hi' st D up hR
  have hin:i=items.size:=by omega
  subst hin
  refine codeAny_builtin F.entry_set_update_loop ?_
  rw[Around.under_plainId F.plain_set_update_loop _]
  show wpAny _ A.in1 (pyNext (.ref I) >>= _) _ _ s
  refine wpAny_bind (W.done s _ _ st λh' tk kp=>?_)
  show wpAny _ A.in1 (ret Value.none) _ _ _
  exact wpAny_pure (hR h' tk (move (Nat.le_refl _) D λb o hb e=>kp b o (wr hb) e) λb o n1 n2 e=>kp b o (wr n2) (up b o n1 n2 e))
 | succ k ih =>
  intro i s hk hi' st D up hR
  have hlt:i<items.size:=by omega
  refine codeAny_builtin F.entry_set_update_loop ?_
  rw[Around.under_plainId F.plain_set_update_loop _]
  show wpAny _ A.in1 (pyNext (.ref I) >>= _) _ _ s
  refine wpAny_bind (W.item i s _ _ hlt st λv h' tk hv st' kp=>?_)
  obtain⟨a,rfl,hka,na1,na2⟩:=hi i v hv
  obtain⟨es,D1,d1,d2,d3⟩:=move hi' D (λb o hb e=>kp b o (wr hb) e)
  have up':∀b o,b≠S->b≠I->h0.get? b=some o->h'.get? b=some o:=λb o n1 n2 e=>kp b o (wr n2) (up b o n1 n2 e)
  show wpAny _ A.in1 (holding [Value.ref a] (setAdd S (.ref a)) >>= _) _ _ _
  refine wpAny_bind (wpAny_holding ?_)
  refine FV (s:={ s with heap:=h',toks:=tk }) hu D1 (keyAt up' hka na1 na2) (by omega) λ_ h2 tk2 es2 D2 m1 m2 m3 m4 up2 z2 _=>?_
  refine wpAny_pure ⟨plainId_quiet F.plain_set_update_loop _,ih (i+1) _ (by omega) hlt ⟨st'.1.at λo e=>up2 _ o (Ne.symm hSI) e,st'.2.at λo e=>up2 _ o (Ne.symm hSl) e⟩ ?_ (λb o n1 n2 e=>up2 b o n1 (up' b o n1 n2 e)) λh3 tk3 D3 up3=>hR h3 tk3 D3 up3⟩
  refine⟨es2,D2,λy hy=>?_,λj hj=>?_,by omega⟩
  ·rcases m1 y hy with h | h
   ·obtain⟨j,hj,ej⟩:=d1 y h
    exact⟨j,by omega,ej⟩
   ·exact⟨i,by omega,by rw[h];exact hv⟩
  ·by_cases hji:j=i
   ·subst hji;exact m3
   ·obtain⟨y,hy,b,e1,o,its,n,h1,h2',h3,h4⟩:=d2 j (by omega)
    refine⟨y,m2 y hy,b,e1,o,its,n,up2 b o ?_ h1,h2',h3,h4⟩
    obtain⟨j',hj',ej⟩:=d1 y hy
    obtain⟨a',ea,_,na,_⟩:=hi j' y.2 ej
    rw[e1] at ea;cases ea;exact na
theorem CZ (a:Value) {Q₁:Value->Shared->Prop} (h:Q₁ (.ref s.heap.objs.size) { s with heap:=s.heap.push (dE #[] 0 (.fresh 0 0 (!cW w))) }) :
  codeAny (model prog w) A (.call (.builtin "set.__new__") ⟨[.type "set",a],[]⟩) (wants Q₁ E) s:=by
 apply codeAny_of_tree
 show wpAny _ A.in1 (checkBuiltinCall "set.__new__" ⟨[.type "set",a],[]⟩ >>= λ_=>again (.builtin "set.__new__" ⟨[.type "set",a],[]⟩)) _ _ s
 apply wpAny_bind;refine wpAny_of_eq (PySem.F.newCall_set_1 a) (wpAny_pure ⟨plainId_quiet PySem.F.plain_set_new _,codeAny_builtin PySem.F.entry_set_new ?_⟩)
 rw[Around.under_plainId PySem.F.plain_set_new _];unfold Builtin.«set.__new__» Builtin.Frozenset.newClass
 have hsub:=sub_set_self
 obtain⟨hp,g,d,tk,os⟩:=s;dsimp only;wp_walk
 refine wpAny_askSetting (wpAny_pure ?_);dsimp only;simp only[newObj]
 apply wpAny_bind;refine wpAny_alloc (wpAny_pure ?_)
 exact wpAny_pure h
theorem LA (b:Bool):TabOk (.fresh 0 0 b) 0:=⟨rfl,rfl,Nat.zero_le _,XB,List.Pairwise.nil⟩
noncomputable def BZ (l:Addr):Obj:={ cls:=.type "list_iterator",data:=.fields #[.ref l,.int 0 0] }
theorem vL {l:Addr} {items:Array Value} {key:Nat->List Int} {Q:Value->Shared->Prop} (hh:A.handled=none) (hu:A.units+8<cLine) (hl:s.heap.IsList l items)
  (hi:∀i v,items[i]? = some v->∃a,v = .ref a/\IsTupleKey (intKind prog w) s.heap (key i) a) (hb:items.size<=76)
  (q:∀h' tk,SetDone prog w items key s.heap.objs.size items.size h'->(∀b o,s.heap.get? b=some o->h'.get? b=some o)->Q (.ref s.heap.objs.size) { s with heap:=h',toks:=tk }) :
  wpAny (model prog w) A (call (.type "set") [.ref l]) Q E s:=by
 obtain⟨c,tl,hmro⟩:=PySem.F.called_set.mro
 have hmade:=PySem.F.called_set.made;have hsub:=PySem.F.called_set.sub
 apply wpAny_call;apply codeAny_of_tree
 show wpAny _ _ (callAny (.type "set") _) _ _ _
 refine wpAny_pure ⟨Code.quiet_builtin _ (by decide +kernel),codeAny_builtin PySem.F.entry_type_call ?_⟩;rw[Around.under_plain (weight_type_call_type "set" [.ref l] []) rfl]
 have h1:=PySem.F.called_set.notType;have h2:=PySem.F.called_set.canCreate;have hct:=PySem.F.typeCall_set_1 (.ref l)
 repeat (any_goals (first | assumption | wp_step))
 refine codeAny_mono (CZ (.ref l) (E:=E) (Q₁:=λobj s₁=>obj = .ref s.heap.objs.size/\s₁ = { s with heap:=s.heap.push (dE #[] 0 (.fresh 0 0 (!cW w))) }) ⟨rfl,rfl⟩) λr s₁ hr=>?_
 match r,hr with
 | .error e,hr=>exact hr
 | .ok (.ret obj),hr =>
  obtain⟨rfl,rfl⟩:=hr
  have hS:(s.heap.push (dE #[] 0 (.fresh 0 0 (!cW w)))).get? s.heap.objs.size=some (dE #[] 0 (.fresh 0 0 (!cW w))):=Heap.get?_push_size _ rfl
  have zS:(s.heap.push (dE #[] 0 (.fresh 0 0 (!cW w)))).objs.size=s.heap.objs.size+1:=Heap.size_push ..
  have kS:∀b o,s.heap.get? b=some o->(s.heap.push (dE #[] 0 (.fresh 0 0 (!cW w)))).get? b=some o:=λb o e=>Heap.get?_push_of_some _ e
  have hT:Shared.TypeIs { s with heap:=s.heap.push (dE #[] 0 (.fresh 0 0 (!cW w))) } (.ref s.heap.objs.size) "set":=⟨_,hS,rfl⟩
  have hli:=PySem.F.called_set.init.lookup;have hbi:=PySem.F.called_set.init.bind (.ref s.heap.objs.size)
  repeat (any_goals (first | assumption | wp_step))
  generalize s.heap.push (dE #[] 0 (.fresh 0 0 (!cW w)))=h2 at hS zS kS hT
  refine codeAny_mono (codeAny_call_builtin (R:=wants (λr s₂=>r = .none/\∃h' tk,s₂ = { s with heap:=h',toks:=tk }/\SetDone prog w items key s.heap.objs.size items.size h'/\(∀b o,s.heap.get? b=some o->h'.get? b=some o)) E) PySem.F.called_set.init.plain PySem.F.entry_set_init (check_set_init_1 hT ?_)) λr₂ s₂ hr₂=>?_
  ·obtain⟨ol,hol,hcl,nl,hdl⟩:=hl
   obtain⟨ocls,odict,odata,oslots⟩:=ol
   simp only at hcl hdl;subst hcl;subst hdl
   have hol2:=kS _ _ hol
   have hsls:=PySem.F.sub_list_set;have hslf:=PySem.F.sub_list_frozenset
   have hne:(Value.type "list" == Value.type "dict")=false:=by decide
   have hl1:h2.IsList l items:=⟨_,hol2,rfl,nl,rfl⟩
   have lt:l<s.heap.objs.size:=Heap.lt_size hol
   unfold Builtin.«set.__init__» noKeywords Builtin.Frozenset.updateFrom;generalize hPI:pyIter=PI
   unfold dE at hS
   wp_walk
   subst hPI
   refine wpAny_pyIter_list hl1 ?_
   apply wpAny_bind;apply wpAny_runValue;rw[zS]
   have zI:(h2.push (BZ l)).get? (s.heap.objs.size+1)=some (BZ l):=by rw[<-zS];exact Heap.get?_push_size _ rfl
   have kI:∀b o,h2.get? b=some o->(h2.push (BZ l)).get? b=some o:=λb o e=>Heap.get?_push_of_some _ e
   show codeAny _ _ _ _ { s with heap:=h2.push (BZ l) }
   generalize h2.push (BZ l)=h3 at zI kI
   have ne1:∀{b:Addr} {o:Obj},s.heap.get? b=some o->b≠s.heap.objs.size/\b≠s.heap.objs.size+1:=λe=>⟨Nat.ne_of_lt (Heap.lt_size e),Nat.ne_of_lt (Nat.lt_succ_of_lt (Heap.lt_size e))⟩
   refine PL (A:=A.in1.in1) (s:={ s with heap:=h3 }) (key:=key) (h0:=s.heap) (by simp[hh]) (Nat.ne_of_lt (Nat.lt_succ_of_lt lt)) (by show A.units+3<cLine;omega) s.heap.objs.size (Nat.ne_of_lt (Nat.lt_succ_self _)) (Nat.ne_of_gt lt) (λi v e=>?_) hb items.size 0 (Nat.sub_zero _) (Nat.zero_le _) ⟨⟨_,zI,rfl,rfl⟩,hl1.at λo e=>kI _ o e⟩ ?_ (λb o _ _ e=>kI b o (kS b o e)) λh' tk D up=>?_
   ·obtain⟨a,rfl,hk⟩:=hi i v e
    refine⟨a,rfl,hk,?_⟩
    obtain⟨o,_,_,ho,_⟩:=hk
    exact ne1 ho
   ·exact⟨#[],⟨⟨0,_,kI _ _ hS,LA _,Or.inl ⟨rfl,Nat.zero_le _⟩,rfl,rfl⟩,λe he=>by simp at he⟩,λy hy=>by simp at hy,λj hj=>absurd hj (Nat.not_lt_zero _),Nat.zero_le _⟩
   ·show wpAny _ _ _ _ _ _
    apply wpAny_pure
    show wpAny _ _ (ret Value.none) _ _ _
    exact wpAny_pure ⟨rfl,h',tk,rfl,D,λb o e=>up b o (ne1 e).1 (ne1 e).2 e⟩
  ·match r₂,hr₂ with
   | .error e,hr₂=>exact hr₂
   | .ok (.ret r),hr₂ =>
    obtain⟨rfl,h',tk,rfl,D,up⟩:=hr₂
    repeat (any_goals (first | assumption | wp_step))
    exact q _ _ D up
end
theorem HV {α:Type} (next:Nat->Nat):∀(fuel k:Nat) (left:List α) (out:Array α),left.length<=fuel->(pickOrder.go next fuel k left out).toList.Perm (out.toList++left)
 | 0,k,left,out,h=>by
  have:left=[]:=List.eq_nil_of_length_eq_zero (by omega)
  subst this
  simp[pickOrder.go]
 | fuel+1,k,left,out,h=>by
  unfold pickOrder.go
  cases e:left[next k % left.length]? with
  | none =>
   dsimp only
   have:left=[]:=by
    cases left with
    | nil=>rfl
    | cons x r =>
     have:=List.getElem?_eq_none_iff.mp e
     have:=Nat.mod_lt (next k) (show 0<(x::r).length by simp)
     omega
   subst this;simp
  | some x =>
   dsimp only
   have hi:next k % left.length<left.length:=(List.getElem?_eq_some_iff.mp e).1
   refine (HV next fuel (k+1) (left.eraseIdx (next k % left.length)) (out.push x) (by rw[List.length_eraseIdx_of_lt hi];omega)).trans ?_
   rw[Array.toList_push,List.append_assoc]
   refine List.Perm.append_left _ ?_
   have ex:left[next k % left.length]=x:=(List.getElem?_eq_some_iff.mp e).2
   have el:left=left.take (next k % left.length)++x::left.drop (next k % left.length+1):=by
    rw[<-ex,<-List.drop_eq_getElem_cons hi,List.take_append_drop]
   rw[List.eraseIdx_eq_take_drop_succ]
   conv=>rhs;rw[el]
   rw[List.singleton_append];exact (List.perm_middle (a:=x)).symm
theorem KM {α:Type} (next:Nat->Nat) (xs:Array α):(pickOrder next xs).toList.Perm xs.toList:=by
 have:=HV next xs.size 0 xs.toList #[] (by simp)
 simpa [pickOrder] using this
theorem OF:Manifest.owners.lookup (String.ofList ['r','o','t','a','r','e','t','i','_','t','e','s'].reverse)=some Manifest.sig_set_iterator:=by kernel_rfl
theorem fF:Slot "set_iterator" "__next__" "set_iterator.__next__" :=
 .of (owner:="set_iterator") (n:="__next__") (by rw[typeLookup_type,builtinLookup_eq_fast];kernel_rfl) (by decide +kernel) (by decide +kernel) (by decide +kernel) (by first | exact .inl (by decide +kernel) | exact .inr (by decide +kernel)) (by rw[isSubtype_type];kernel_rfl)
theorem mM:entryFor table "set_iterator.__next__" = some Builtin.«set_iterator.__next__»:=entryFor_of_tree (by kernel_rfl)
theorem oI (a:Value):argsOk "set_iterator.__next__" ⟨[a],[]⟩:=by
 unfold argsOk;rw[signature?_of (id:="set_iterator.__next__") (n:=['_','_','t','x','e','n','_','_']) (o:=['r','o','t','a','r','e','t','i','_','t','e','s']) (by kernel_rfl) OF];kernel_rfl
theorem yX:entryFor table "set.__iter__" = some Builtin.«frozenset.__iter__»:=entryFor_alias (id':="frozenset.__iter__") (by kernel_rfl) rfl (by decide +kernel) (by kernel_rfl)
section
variable {prog:Program} {w:World} {A:Around} {E:Value->Shared->Prop} {s:Shared}
noncomputable def cG (w:World) (S:Addr) (ep:Nat) (es:Array (Int × Value)):Array (Int × Value):=if cW w=true then pickOrder (w.params.setOrder S ep) es else es
theorem qS (S:Addr) (ep:Nat) (es:Array (Int × Value)):(cG w S ep es).toList.Perm es.toList:=by
 unfold cG;split
 ·exact KM _ _
 ·exact List.Perm.refl _
noncomputable def iJ (w:World) (t:SetTable) (k:Nat):Nat:=if cW w=true then 0 else gT t k
noncomputable def jB (w:World) (S:Addr) (n ep:Nat) (t:SetTable) (k:Nat):Obj:={ cls:=.type "set_iterator",data:=.fields #[rawInt (iJ w t k),rawInt k,.ref S,rawInt n,rawInt ep] }
theorem DC {S:Addr} {es:Array (Int × Value)} {ep k:Nat} {t:SetTable} {Q:Option (Value × Nat)->Shared->Prop} (ho:s.heap.get? S=some (dE es ep t)) (T:TabOk t es.size) (hl:t.led = !cW w) (hp:t.plain=true) (hk:k<=es.size)
  (q:Q ((cG w S ep es)[k]?.map λe=>(e.2,iJ w t (k+1))) s):wpAny (model prog w) A (setNext S (iJ w t k) k ep) Q E s:=by
 unfold setNext
 apply wpAny_bind;refine wpAny_setState_of ho rfl T.fits ?_
 unfold setsByText
 apply wpAny_bind;apply wpAny_bind;refine wpAny_askSetting (wpAny_pure ?_)
 show wpAny _ _ (if cW w=true then _ else _) _ _ _
 by_cases hb:cW w=true
 ·rw[if_pos hb,if_neg (by simp)]
  apply wpAny_bind;unfold setWalk
  apply wpAny_bind;refine wpAny_setState_of ho rfl T.fits ?_
  unfold setsByText
  apply wpAny_bind;apply wpAny_bind;refine wpAny_askSetting (wpAny_pure ?_)
  show wpAny _ _ (if cW w=true then _ else _) _ _ _
  rw[if_pos hb]
  apply wpAny_bind;refine wpAny_askSetting (wpAny_pure (wpAny_pure ?_))
  unfold cG iJ at q
  simp only[if_pos hb] at q
  unfold iJ
  simp only[if_pos hb]
  exact q
 ·have hb0:cW w=false:=by simpa using hb
  rw[if_neg hb]
  show wpAny _ _ (if (!t.plain && decide (es.size > 1))=true then _ else _) _ _ _
  rw[hp]
  simp only[Bool.not_true,Bool.false_and,Bool.false_eq_true,if_false]
  show wpAny _ _ ((if (!t.led && !es.isEmpty)=true then unsupported "set:maker-not-led" else pure ()) >>= _) _ _ _
  rw[hl,hb0]
  simp only[Bool.not_false,Bool.not_true,Bool.false_and,Bool.false_eq_true,if_false]
  apply wpAny_bind;apply wpAny_pure;apply wpAny_pure
  have np:=FF T hk
  unfold cG iJ at q
  simp only[if_neg hb] at q
  unfold iJ
  simp only[if_neg hb]
  rw[np]
  by_cases hlt:k<es.size
  ·have e1:es[k]? = some es[k]:=Array.getElem?_eq_getElem hlt
   have e2:t.place[k]? = some (t.place.getD k 0):=by
    have:k<t.place.size:=by rw[T.size];exact hlt
    rw[Array.getElem?_eq_getElem this];simp[Array.getD,this]
   rw[e1] at q
   rw[e1,e2]
   have e3:gT t (k+1)=t.place.getD k 0+1:=by unfold gT;rw[if_neg (by omega)];simp
   rw[e3] at q
   exact q
  ·have e1:es[k]? = none:=Array.getElem?_eq_none (by omega)
   rw[e1] at q
   rw[e1]
   exact q
theorem lW {I:Addr} {c:Value} {d:Option Addr} {sl:Array (Option Value)} {vs:Array Value} {i:Nat} {x:Value} {Q:Unit->Shared->Prop} (ho:s.heap.get? I=some { cls:=c,dict:=d,data:=.fields vs,slots:=sl }) (hi:i<vs.size)
  (q:∀h',h'.get? I=some { cls:=c,dict:=d,data:=.fields (vs.setIfInBounds i x),slots:=sl }->Heap.SameBut I s.heap h'->Q () { s with heap:=h' }):wpAny (model prog w) A (setField (.ref I) i x) Q E s:=by
 refine wpAny_setField ho rfl hi (q _ ?_ (Heap.SameBut.update ..))
 have:=Heap.get?_update_self (Obj.mapFields λvs=>vs.setIfInBounds i x) ho rfl
 rw[this];rfl
structure SetIt (w:World) (S I:Addr) (es:Array (Int × Value)) (ep:Nat) (t:SetTable) (k:Nat) (h:Heap):Prop where
 set:h.get? S=some (dE es ep t)
 it:h.get? I=some (jB w S es.size ep t k)
theorem KE {S I:Addr} {es:Array (Int × Value)} {ep k:Nat} {t:SetTable} {x:Int × Value} {Q:Option Value->Shared->Prop} (D:SetIt w S I es ep t k s.heap) (ne:S≠I) (T:TabOk t es.size) (hl:t.led = !cW w) (hp:t.plain=true) (hk:k<es.size) (hx:(cG w S ep es)[k]? = some x)
  (q:∀h',SetIt w S I es ep t (k+1) h'->Heap.SameBut I s.heap h'->Q (some x.2) { s with heap:=h' }):wpAny (model prog w) A (pyNext (.ref I)) Q E s:=by
 have ty:s.TypeIs (.ref I) "set_iterator":=⟨_,D.it,rfl⟩
 unfold pyNext
 apply wpAny_bind;apply wpAny_attempt;refine wpAny_callSpecial?_slot (name:=Str.ofString "__next__") ty fF (wpAny_call_entry fF ty mM ?_ (oI _))
 unfold Builtin.«set_iterator.__next__»
 apply wpAny_bind;refine wpAny_of_eq (a:=(Value.ref I,[])) rfl ?_
 apply wpAny_bind;refine wpAny_fieldsOf D.it rfl ?_
 dsimp only[rawInt]
 apply wpAny_bind;refine wpAny_setEntries_of D.set rfl T.fits ?_
 rw[if_neg (by simp)]
 apply wpAny_bind
 show wpAny _ _ (setNext S ((iJ w t k:Nat):Int).toNat ((k:Nat):Int).toNat ((ep:Nat):Int).toNat) _ _ _
 simp only[Int.toNat_natCast]
 refine DC D.set T hl hp (Nat.le_of_lt hk) ?_
 rw[hx]
 dsimp only[Option.map]
 have dit:=D.it;unfold jB at dit
 apply wpAny_bind;refine lW dit (by simp) λh1 g1 s1=>?_
 apply wpAny_bind;refine lW (s:={ s with heap:=h1 }) g1 (by simp) λh2 g2 s2=>?_
 refine wpAny_pure ⟨x.2,rfl,wpAny_pure (q h2 ⟨?_,?_⟩ (s1.trans s2))⟩
 ·rw[s2.2 S ne,s1.2 S ne];exact D.set
 ·rw[g2];rfl
theorem NU {S I:Addr} {es:Array (Int × Value)} {ep:Nat} {t:SetTable} {Q:Option Value->Shared->Prop} (hh:A.handled=none) (D:SetIt w S I es ep t es.size s.heap) (ne:S≠I) (T:TabOk t es.size) (hl:t.led = !cW w) (hp:t.plain=true)
  (q:∀h',Heap.ExtBut I s.heap h'->Q none { s with heap:=h' }):wpAny (model prog w) A (pyNext (.ref I)) Q E s:=by
 have ty:s.TypeIs (.ref I) "set_iterator":=⟨_,D.it,rfl⟩
 have hx:(cG w S ep es)[es.size]? = none:=by
  apply Array.getElem?_eq_none
  rw[<-Array.length_toList,(qS S ep es).length_eq,Array.length_toList];exact Nat.le_refl _
 unfold pyNext
 apply wpAny_bind;apply wpAny_attempt;refine wpAny_callSpecial?_slot (name:=Str.ofString "__next__") ty fF (wpAny_call_entry fF ty mM ?_ (oI _))
 unfold Builtin.«set_iterator.__next__»
 apply wpAny_bind;refine wpAny_of_eq (a:=(Value.ref I,[])) rfl ?_
 apply wpAny_bind;refine wpAny_fieldsOf D.it rfl ?_
 dsimp only[rawInt]
 apply wpAny_bind;refine wpAny_setEntries_of D.set rfl T.fits ?_
 rw[if_neg (by simp)]
 apply wpAny_bind
 show wpAny _ _ (setNext S ((iJ w t es.size:Nat):Int).toNat ((es.size:Nat):Int).toNat ((ep:Nat):Int).toNat) _ _ _
 simp only[Int.toNat_natCast]
 refine DC D.set T hl hp (Nat.le_refl _) ?_
 rw[hx]
 dsimp only[Option.map]
 have dit:=D.it;unfold jB at dit
 apply wpAny_bind;refine lW dit (by simp) λh1 g1 s1=>?_
 show wpAny _ _ (newExc (.type "StopIteration") [] >>= _) _ _ _
 apply wpAny_bind;simp only[newExc,newTuple]
 apply wpAny_bind;refine wpAny_newObj_type ?_ (by size_fits)
 refine wpAny_bind (m:=firstArgMember _ _) ?_
 refine wpAny_of_eq (a:=Value.none) (by first | rfl | (simp only[firstArgMember];rfl)) ?_
 refine wpAny_newObj_type ?_ (by size_fits)
 simp only[raiseNew]
 apply wpAny_bind;apply wpAny_handled
 first | rw[show A.in1.handled=none from hh] | rw[hh]
 refine wpAny_bind (wpAny_pure (wpAny_throw ?_))
 apply wpAny_bind;refine wpAny_isInstance (T:="StopIteration") (b:=true) ⟨_,Heap.get?_push_size _ rfl,rfl⟩ isSubtype_stop ?_
 exact wpAny_pure (q _ ((s1.extBut.push _).push _))
theorem NH {S:Addr} {es:Array (Int × Value)} {ep:Nat} {t:SetTable} {Q:Value->Shared->Prop} (ho:s.heap.get? S=some (dE es ep t)) (T:TabOk t es.size) (hp:t.plain=true)
  (q:Q (.ref s.heap.objs.size) { s with heap:=s.heap.push (jB w S es.size ep t 0) }):wpAny (model prog w) A (pyIter (.ref S)) Q E s:=by
 have ty:s.TypeIs (.ref S) "set":=⟨_,ho,rfl⟩
 refine wpAny_pyIter_slot ty F.slot_set_iter (wpAny_call_entry F.slot_set_iter ty yX ?_ (F.args_set_iter_1 _))
 unfold Builtin.«frozenset.__iter__» Builtin.Frozenset.slot0 Builtin.Frozenset.sizeOf
 apply wpAny_bind;refine wpAny_of_eq (a:=S) rfl ?_
 apply wpAny_bind;apply wpAny_bind;refine wpAny_setEntries_of ho rfl T.fits (wpAny_pure ?_)
 apply wpAny_bind;unfold setDrawn
 apply wpAny_bind;refine wpAny_setState_of ho rfl T.fits ?_
 unfold setsByText
 apply wpAny_bind;apply wpAny_bind;refine wpAny_askSetting (wpAny_pure (wpAny_pure ?_))
 have dr:(!(model prog w).w.params.followText "set-order" && (!t.plain && decide (es.size > 1)))=false:=by rw[hp];simp
 show wpAny _ _ (if (!(model prog w).w.params.followText "set-order" && (!t.plain && decide (es.size > 1)))=true then _ else _) _ _ _
 rw[dr]
 simp only[Bool.false_eq_true,if_false]
 apply wpAny_bind;apply wpAny_pure
 apply wpAny_bind;refine wpAny_setEpoch_of ho rfl T.fits ?_
 apply wpAny_bind;unfold newFields;refine wpAny_newObj_type ?_
 have e0:iJ w t 0=0:=by unfold iJ gT;split <;> rfl
 refine wpAny_pure ⟨_,rfl,"set_iterator",_,⟨_,Heap.get?_push_size _ rfl,rfl⟩,fF.lookup,?_⟩
 unfold jB at q
 rw[e0] at q
 exact q
end
section
variable {prog:Program} {w:World} {A:Around} {E:Value->Shared->Prop} {s:Shared}
theorem PJ {S:Addr} {Q:Bool->Shared->Prop} (ty:s.TypeIs (.ref S) "set") (q:Q false s):wpAny (model prog w) A (Builtin.List.listLengthHint (.ref S)) Q E s:=by
 unfold Builtin.List.listLengthHint
 apply wpAny_bind;refine wpAny_specialOf ty F.slot_set_len.lookup ?_
 dsimp only
 have sp:splitId "set.__len__" = some ("set","__len__"):=by decide +kernel
 rw[sp]
 dsimp only
 apply wpAny_bind;refine wpAny_isInstance (b:=true) ty sub_set_self ?_
 simp only[Bool.not_true,Bool.false_eq_true,if_false]
 have key:∀(c:Bool) (X Y:Sem Bool),c=true->wpAny (model prog w) A X Q E s->wpAny (model prog w) A (if c=true then X else Y) Q E s:=λc X Y hc h=>by rw[if_pos hc];exact h
 refine key _ _ _ (by decide +kernel) ?_
 apply wpAny_bind;refine wpAny_typeOf ty ?_
 exact wpAny_pure q
theorem CY {S I:Addr} {es:Array (Int × Value)} {ep k:Nat} {t:SetTable} {h h':Heap} (D:SetIt w S I es ep t k h) (up:∀b o,b=S\/b=I->h.get? b=some o->h'.get? b=some o):SetIt w S I es ep t k h' :=
 ⟨up _ _ (Or.inl rfl) D.set,up _ _ (Or.inr rfl) D.it⟩
theorem AS {S:Addr} {es:Array (Int × Value)} {ep:Nat} {t:SetTable} {Q:List Value->Shared->Prop} (hh:A.handled=none) (ho:s.heap.get? S=some (dE es ep t)) (T:TabOk t es.size) (hl:t.led = !cW w) (hp:t.plain=true) (hz:es.size<=100)
  (q:∀h',(∀b o,s.heap.get? b=some o->h'.get? b=some o)->s.heap.objs.size<=h'.objs.size->Q ((cG w S ep es).toList.map (·.2)) { s with heap:=h' }):wpAny (model prog w) A (collect (.ref S)) Q E s:=by
 have ltS:S<s.heap.objs.size:=Heap.lt_size ho
 have wl:(cG w S ep es).size=es.size:=by rw[<-Array.length_toList,(qS S ep es).length_eq,Array.length_toList]
 unfold collect
 apply wpAny_bind;apply wpAny_runValue;refine codeAny_builtin F.entry_proto_collect ?_
 rw[Around.under_plainId F.plain_proto_collect _]
 show wpAny _ A.in1 (newList [] >>= λl=>again (.builtin "list.__iadd__" ⟨[l,.ref S],[]⟩)) _ _ s
 apply wpAny_bind;refine wpAny_newObj_type ?_
 refine wpAny_pure ⟨plainId_quiet F.plain_list_iadd _,codeAny_builtin F.entry_list_iadd ?_⟩
 rw[Around.under_plainId F.plain_list_iadd _]
 show wpAny _ A.in1 (Builtin.List.listExtendWith (.ref s.heap.objs.size) (.ref S) (.ref s.heap.objs.size)) _ _ { s with heap:=s.heap.push { cls:=.type "list",data:=.seq ([]:List Value).toArray } }
 have z1:(s.heap.push { cls:=.type "list",data:=.seq ([]:List Value).toArray }).objs.size=s.heap.objs.size+1:=Heap.size_push ..
 have hL:(s.heap.push { cls:=.type "list",data:=.seq ([]:List Value).toArray }).get? s.heap.objs.size=some { cls:=.type "list",data:=.seq ([]:List Value).toArray }:=Heap.get?_push_size _ rfl
 have k1:∀b o,s.heap.get? b=some o->(s.heap.push { cls:=.type "list",data:=.seq ([]:List Value).toArray }).get? b=some o:=λb o e=>Heap.get?_push_of_some _ e
 generalize s.heap.push { cls:=.type "list",data:=.seq ([]:List Value).toArray } = h1 at z1 hL k1
 have ty:∀{h:Heap} {g d t os},(∀b o,s.heap.get? b=some o->h.get? b=some o)->Shared.TypeIs ⟨h,g,d,t,os⟩ (.ref S) "set":=λup=>⟨_,up _ _ ho,rfl⟩
 unfold Builtin.List.listExtendWith
 apply wpAny_bind;refine wpAny_typeOf (T:="set") (ty k1) ?_
 have g1:Builtin.List.listSameRef (.ref s.heap.objs.size) (.ref S)=false:=by simp[Builtin.List.listSameRef,Nat.ne_of_gt ltS]
 have g2:(Value.type "set" == Value.type "list")=false:=by decide
 have g3:(Value.type "set" == Value.type "tuple")=false:=by decide
 simp only[g1,g2,g3,Bool.or_false,Bool.false_eq_true,if_false]
 apply wpAny_bind;refine NH (s:={ s with heap:=h1 }) (k1 _ _ ho) T hp ?_
 show wpAny _ _ _ _ _ { s with heap:=h1.push (jB w S es.size ep t 0) }
 have hI:(h1.push (jB w S es.size ep t 0)).get? (s.heap.objs.size+1)=some (jB w S es.size ep t 0):=by rw[<-z1];exact Heap.get?_push_size _ rfl
 have k2:∀b o,h1.get? b=some o->(h1.push (jB w S es.size ep t 0)).get? b=some o:=λb o e=>Heap.get?_push_of_some _ e
 rw[z1]
 generalize h1.push (jB w S es.size ep t 0)=h2 at hI k2
 apply wpAny_bind;apply wpAny_holding;refine PJ (ty λb o e=>k2 b o (k1 b o e)) ?_
 have key:∀(c:Bool) (X Y:Sem Fin) {Q':Fin->Shared->Prop} {E':Value->Shared->Prop} {s':Shared},c=true->wpAny (model prog w) A.in1 X Q' E' s'->wpAny (model prog w) A.in1 (if c=true then X else Y) Q' E' s':=λc X Y _ _ _ hc h=>by rw[if_pos hc];exact h
 refine key _ _ _ (by decide +kernel) ?_
 have hL2:=k2 _ _ hL
 apply wpAny_bind;apply wpAny_rule;apply wpAny_bind
 show wpAny _ _ (updateSeq s.heap.objs.size (·.push .none) >>= λ_=>updateSeq s.heap.objs.size (·.pop)) _ _ _
 apply wpAny_bind;refine wpAny_updateSeq hL2 rfl ?_
 have hL3:=Heap.get?_update_self (Obj.mapSeq (·.push Value.none)) hL2 rfl
 refine wpAny_updateSeq (hz:=by seq_fits) hL3 rfl ?_
 have hL4:=Heap.get?_update_self (Obj.mapSeq (·.pop)) hL3 rfl
 have up4:∀b o,b≠s.heap.objs.size->h2.get? b=some o->((h2.update s.heap.objs.size (Obj.mapSeq (·.push Value.none))).update s.heap.objs.size (Obj.mapSeq (·.pop))).get? b=some o :=
  λb o hb e=>(Heap.get?_update_other _ _ (Ne.symm hb)).trans ((Heap.get?_update_other _ _ (Ne.symm hb)).trans e)
 generalize (h2.update s.heap.objs.size (Obj.mapSeq (·.push Value.none))).update s.heap.objs.size (Obj.mapSeq (·.pop))=h4 at hL4 up4
 apply wpAny_pure;refine⟨plainId_quiet PySem.F.plain_extend_loop _,?_⟩
 have neSI:S≠s.heap.objs.size+1:=Nat.ne_of_lt (Nat.lt_succ_of_lt ltS)
 have neS:S≠s.heap.objs.size:=Nat.ne_of_lt ltS
 have neI:s.heap.objs.size+1≠s.heap.objs.size:=Nat.succ_ne_self _
 have old:∀{b:Addr} {o:Obj},s.heap.get? b=some o->b≠s.heap.objs.size/\b≠s.heap.objs.size+1:=λe=>⟨Nat.ne_of_lt (Heap.lt_size e),Nat.ne_of_lt (Nat.lt_succ_of_lt (Heap.lt_size e))⟩
 refine tP (A:=A) (s0:=s) (n:=es.size) (J:=λacc h=>SetIt w S (s.heap.objs.size+1) es ep t acc.length h/\acc=((cG w S ep es).toList.map (·.2)).take acc.length/\∀b o,s.heap.get? b=some o->h.get? b=some o)
  (F:=λacc h=>acc=(cG w S ep es).toList.map (·.2)/\∀b o,s.heap.get? b=some o->h.get? b=some o) (.ref s.heap.objs.size) (by rw[sizeLine_eq];omega) ?_ ?_ ?_ (λh' acc c hsz hF hS'=>?_) es.size #[] h4 _ rfl (Nat.zero_le _) ?_ hL4
 ·rintro acc h h' ⟨J1,J2,J3⟩ hSo hz up
  refine⟨CY J1 λb o hb e=>up b o ?_ e,J2,λb o e=>up b o (old e).1 (J3 b o e)⟩
  rcases hb with rfl | rfl
  ·exact neS
  ·exact neI
 ·rintro acc s' o Q' E' hlt ⟨J1,J2,J3⟩ hSo k
  have hw:acc.length<(cG w S ep es).size:=by omega
  refine KE J1 neSI T hl hp hlt (Array.getElem?_eq_getElem hw) λh' D' sb=>k _ h' ⟨by simpa using D',?_,λb o e=>?_⟩ ?_
  ·rw[List.length_append,List.length_singleton,List.take_succ,<-J2]
   simp[hw]
  ·rw[sb.2 b (old e).2];exact J3 b o e
  ·rw[sb.2 _ (Ne.symm neI)];exact hSo
 ·rintro acc s' o Q' E' hlen ⟨J1,J2,J3⟩ hSo k
  rw[hlen] at J1 J2
  refine NU (A:=A.in1) (by simp[hh]) J1 neSI T hl hp λh' eb=>k h' ⟨?_,λb o e=>eb b o (old e).2 (J3 b o e)⟩ (eb _ _ (Ne.symm neI) hSo)
  rw[J2,List.take_of_length_le]
  simp[wl]
 ·show wpAny _ A (load s.heap.objs.size >>= _) _ _ _
  apply wpAny_bind;refine wpAny_load hS' ?_
  refine wpAny_pure ?_
  rw[hF.1]
  exact q h' hF.2 (Nat.le_of_lt (Heap.lt_size hS'))
 ·refine⟨⟨up4 _ _ neS (k2 _ _ (k1 _ _ ho)),up4 _ _ neI hI⟩,rfl,λb o e=>up4 b o (old e).1 (k2 b o (k1 b o e))⟩
end
end L2.R2
set_option Elab.async false
set_option linter.all false
set_option maxRecDepth 100000
set_option maxHeartbeats 1000000
namespace L2.R2
open PySem PySem.W PyProof.Rows
noncomputable def bQ {α:Type} (lt:Nat->Nat->Bool):KasT α->α
 | .ret a=>a
 | .ask i j k=>bQ lt (k (lt i j))
theorem gZ {α β:Type} {lt:Nat->Nat->Bool} {f:α->KasT β}:∀t:KasT α,bQ lt (t.bind f)=bQ lt (f (bQ lt t))
 | .ret _=>rfl
 | .ask i j k=>gZ (k (lt i j))
noncomputable def kIn {α:Type} (lt:Nat->Nat->Bool) (n:Nat):KasT α->Prop
 | .ret _=>True
 | .ask i j k=>i<n/\j<n/\kIn lt n (k (lt i j))
theorem dJ {α β:Type} {lt:Nat->Nat->Bool} {n:Nat} {f:α->KasT β}:∀t:KasT α,kIn lt n t->kIn lt n (f (bQ lt t))->kIn lt n (t.bind f)
 | .ret _,_,h=>h
 | .ask i j k,⟨h1,h2,h3⟩,h=>⟨h1,h2,dJ (k (lt i j)) h3 h⟩
theorem tV {α:Type} {cmp:Nat->Nat->(Bool->Shared->Prop)->Shared->Prop} {lt:Nat->Nat->Bool} {n:Nat} {s:Shared} {Q:α->Shared->Prop} (hc:∀i j (C:Bool->Shared->Prop),i<n->j<n->C (lt i j) s->cmp i j C s) :
  ∀t:KasT α,kIn lt n t->Q (bQ lt t) s->t.kasWp cmp Q s
 | .ret _,_,h=>h
 | .ask i j k,⟨h1,h2,h3⟩,h=>hc i j _ h1 h2 (tV hc (k (lt i j)) h3 h)
section
variable {O:KeyOrd} {key:Nat->O.α} {N:Nat}
noncomputable def ltK (O:KeyOrd) (key:Nat->O.α) (i j:Nat):Bool:=O.blt (key i) (key j)
noncomputable def kk (O:KeyOrd) (key:Nat->O.α) (p:Array Nat) (i:Nat):O.α:=key (p.getD i 0)
noncomputable def Up (O:KeyOrd) (key:Nat->O.α) (p:Array Nat) (n:Nat):Prop:=∀i j,i<=j->j<n->O.kle (kk O key p i) (kk O key p j)
noncomputable def Dn (O:KeyOrd) (key:Nat->O.α) (p:Array Nat) (n:Nat):Prop:=∀i j,i<=j->j<n->O.kle (kk O key p j) (kk O key p i)
noncomputable def Lo (p:Array Nat) (N:Nat):Prop:=∀i,p.getD i 0<N
theorem kB {p q:Array Nat} (h:p.Perm q) (hq:Lo q N):Lo p N:=by
 intro i
 by_cases hi:i<p.size
 ·have m:p[i]∈p:=Array.getElem_mem hi
  have m2:p[i]∈q:=h.mem_iff.mp m
  obtain⟨j,hj,e⟩:=Array.getElem_of_mem m2
  have:=hq j
  simp[Array.getD,hj] at this
  simp[Array.getD,hi]
  rw[<-e];exact this
 ·have h0:=hq q.size
  simp[Array.getD] at h0
  simp[Array.getD,hi];exact h0
theorem lJ {p q:Array Nat} {i j:Nat} (h:p[i]? = q[j]?):kk O key p i=kk O key q j:=by
 unfold kk;rw[Array.getD_eq_getD_getElem?,Array.getD_eq_getD_getElem?,h]
theorem ER {p:Array Nat} {i j:Nat} (hj:j<=p.size) (k:Nat):kk O key (kas_rev p i j) k=if i<=k/\k<j then kk O key p (i+j-1-k) else kk O key p k:=by
 have e:=getElem?_mirror_all (i:=i) hj k
 unfold kas_rev
 by_cases h1:i<=k/\k<j
 ·rw[if_pos h1] at e ⊢;exact lJ e
 ·rw[if_neg h1] at e ⊢;exact lJ e
theorem pZ {p:Array Nat} {i j:Nat} (hj:j<=p.size) (h:∀k,i<=k->k<j->kk O key p k=kk O key p (j-1)) (k:Nat):kk O key (kas_rev p i j) k=kk O key p k:=by
 rw[ER hj]
 split
 ·rw[h _ (by omega) (by omega),h k (by omega) (by omega)]
 ·rfl
theorem JM {p:Array Nat} {src d:Nat} (hs:src<p.size) (hd:d<=src) (k:Nat) :
  kk O key (bubble p src d) k=if k=src-d then kk O key p src else if src-d<k/\k<=src then kk O key p (k-1) else kk O key p k:=by
 have e:=getElem?_bubble hs d hd k
 by_cases h1:k=src-d
 ·rw[if_pos h1] at e ⊢;exact lJ e
 ·rw[if_neg h1] at e ⊢
  by_cases h2:src-d<k/\k<=src
  ·rw[if_pos h2] at e ⊢;exact lJ e
  ·rw[if_neg h2] at e ⊢;exact lJ e
theorem lS (p:Array Nat) (i j:Nat):(kas_rev p i j).Perm p:=mirror_perm _ _ _ _
theorem TB {p:Array Nat} {n:Nat} (h1:1<=n) (h:Up O key p n) (hl:O.kle (kk O key p (n-1)) (kk O key p n)):Up O key p (n+1):=by
 intro i j hij hj
 by_cases hjx:j<n
 ·exact h i j hij hjx
 ·have hj':j=n:=by omega
  subst hj'
  by_cases hi':i=j
  ·subst hi';exact KeyOrd.kle_refl _
  ·exact KeyOrd.kle_trans (h i (j-1) (by omega) (by omega)) hl
theorem yV {p:Array Nat} {n:Nat} (h1:1<=n) (h:Dn O key p n) (hl:O.kle (kk O key p n) (kk O key p (n-1))):Dn O key p (n+1):=by
 intro i j hij hj
 by_cases hjx:j<n
 ·exact h i j hij hjx
 ·have hj':j=n:=by omega
  subst hj'
  by_cases hi':i=j
  ·subst hi';exact KeyOrd.kle_refl _
  ·exact KeyOrd.kle_trans hl (h i (j-1) (by omega) (by omega))
theorem EB {p:Array Nat} (lo:Lo p N):∀(f n:Nat),1<=n->Up O key p n->kIn (ltK O key) N (kas_asc p f n)/\n<=bQ (ltK O key) (kas_asc p f n)/\bQ (ltK O key) (kas_asc p f n)<=n+f/\Up O key p (bQ (ltK O key) (kas_asc p f n)) /\
  (bQ (ltK O key) (kas_asc p f n)=n+f\/O.klt (kk O key p (bQ (ltK O key) (kas_asc p f n))) (kk O key p (bQ (ltK O key) (kas_asc p f n)-1)))
 | 0,n,_,h=>⟨trivial,Nat.le_refl _,Nat.le_refl _,h,Or.inl rfl⟩
 | f+1,n,h1,h=>by
  simp only[kas_asc,bQ,kIn]
  cases hb:ltK O key (p.getD n 0) (p.getD (n-1) 0) with
  | true =>
   simp only[if_true]
   exact⟨⟨lo _,lo _,trivial⟩,Nat.le_refl _,by simp only[bQ];omega,h,Or.inr hb⟩
  | false =>
   simp only[Bool.false_eq_true,if_false]
   obtain⟨i1,i2,i3,i4,i5⟩:=EB lo f (n+1) (by omega) (TB h1 h hb)
   refine⟨⟨lo _,lo _,i1⟩,by omega,by omega,i4,?_⟩
   rcases i5 with e | e
   ·exact Or.inl (by omega)
   ·exact Or.inr e
theorem DH {p:Array Nat} (lo:Lo p N) {n nrem:Nat} (h1:1<=n) (hn:n<=nrem) (hz:nrem<=p.size) (h:Dn O key p n) :
  kIn (ltK O key) N (kas_tail3 n nrem p)/\1<=(bQ (ltK O key) (kas_tail3 n nrem p)).1/\(bQ (ltK O key) (kas_tail3 n nrem p)).1<=nrem/\(bQ (ltK O key) (kas_tail3 n nrem p)).2.Perm p/\Up O key (bQ (ltK O key) (kas_tail3 n nrem p)).2 (bQ (ltK O key) (kas_tail3 n nrem p)).1:=by
 unfold kas_tail3
 have up:Up O key (kas_rev p 0 n) n:=by
  intro i j hij hj
  rw[ER (by omega),ER (by omega),if_pos (by omega),if_pos (by omega)]
  exact h _ _ (by omega) (by omega)
 obtain⟨i1,i2,i3,i4,_⟩:=EB (kB (lS p 0 n) lo) (nrem-n) n h1 up
 rw[gZ]
 refine⟨dJ _ i1 trivial,?_,?_,lS p 0 n,i4⟩
 ·show 1<=_;simp only[bQ];omega
 ·simp only[bQ];omega
theorem sL:∀(f:Nat) (p:Array Nat) (n q:Nat),Lo p N->1<=n->n+f<=p.size->Dn O key p n->q+1<=n->(∀i,n-(q+1)<=i->i<n->kk O key p i=kk O key p (n-1)) ->
  kIn (ltK O key) N (kas_desc f p n q)/\(bQ (ltK O key) (kas_desc f p n q)).1.Perm p/\n<=(bQ (ltK O key) (kas_desc f p n q)).2.1/\(bQ (ltK O key) (kas_desc f p n q)).2.1<=n+f /\
  Dn O key (bQ (ltK O key) (kas_desc f p n q)).1 (bQ (ltK O key) (kas_desc f p n q)).2.1/\(bQ (ltK O key) (kas_desc f p n q)).2.2+1<=(bQ (ltK O key) (kas_desc f p n q)).2.1 /\
  (∀i,(bQ (ltK O key) (kas_desc f p n q)).2.1-((bQ (ltK O key) (kas_desc f p n q)).2.2+1)<=i->i<(bQ (ltK O key) (kas_desc f p n q)).2.1->kk O key (bQ (ltK O key) (kas_desc f p n q)).1 i=kk O key (bQ (ltK O key) (kas_desc f p n q)).1 ((bQ (ltK O key) (kas_desc f p n q)).2.1-1))
 | 0,p,n,q,lo,h1,hz,h,hq,he=>⟨trivial,Array.Perm.refl _,Nat.le_refl _,Nat.le_refl _,h,hq,he⟩
 | f+1,p,n,q,lo,h1,hz,h,hq,he=>by
  simp only[kas_desc,bQ,kIn]
  cases hb:ltK O key (p.getD n 0) (p.getD (n-1) 0) with
  | true =>
   simp only[if_true]
   by_cases h0:q > 0
   ·simp only[if_pos h0]
    have hk:=pZ (O:=O) (key:=key) (p:=p) (i:=n-(q+1)) (j:=n) (by omega) he
    have pm:=lS p (n-(q+1)) n
    have dn:Dn O key (kas_rev p (n-(q+1)) n) (n+1):=by
     have d0:=yV h1 h (KeyOrd.kle_of_klt hb)
     intro i j hij hj
     rw[hk,hk];exact d0 i j hij hj
    obtain⟨i1,i2,i3,i4,i5,i6,i7⟩:=sL f (kas_rev p (n-(q+1)) n) (n+1) 0 (kB pm lo) (by omega) (by rw[pm.size_eq];omega) dn (by omega) (λi a b=>by congr 1;omega)
    exact⟨⟨lo _,lo _,i1⟩,i2.trans pm,by omega,by omega,i5,i6,i7⟩
   ·simp only[if_neg h0]
    obtain⟨i1,i2,i3,i4,i5,i6,i7⟩:=sL f p (n+1) 0 lo (by omega) (by omega) (yV h1 h (KeyOrd.kle_of_klt hb)) (by omega) (λi a b=>by congr 1;omega)
    exact⟨⟨lo _,lo _,i1⟩,i2,by omega,by omega,i5,i6,i7⟩
  | false =>
   simp only[Bool.false_eq_true,if_false,bQ,kIn]
   cases hc:ltK O key (p.getD (n-1) 0) (p.getD n 0) with
   | true =>
    simp only[if_true]
    exact⟨⟨lo _,lo _,lo _,lo _,trivial⟩,Array.Perm.refl _,Nat.le_refl _,by simp only[bQ];omega,h,hq,he⟩
   | false =>
    simp only[Bool.false_eq_true,if_false]
    have e:kk O key p n=kk O key p (n-1):=KeyOrd.kle_antisymm hc hb
    obtain⟨i1,i2,i3,i4,i5,i6,i7⟩:=sL f p (n+1) (q+1) lo (by omega) (by omega) (yV h1 h (by rw[e];exact KeyOrd.kle_refl _)) (by omega) (λi a b=>by
     rw[show n+1-1=n by omega]
     by_cases hi:i=n
     ·subst hi;rfl
     ·rw[e];exact he i (by omega) (by omega))
    exact⟨⟨lo _,lo _,lo _,lo _,i1⟩,i2,by omega,by omega,i5,i6,i7⟩
theorem qV {p:Array Nat} (lo:Lo p N) {n nrem:Nat} (hn:n+1<=nrem) (hz:nrem<=p.size) (h:Dn O key p (n+1)) :
  kIn (ltK O key) N (kas_descPart n nrem p)/\1<=(bQ (ltK O key) (kas_descPart n nrem p)).1/\(bQ (ltK O key) (kas_descPart n nrem p)).1<=nrem/\(bQ (ltK O key) (kas_descPart n nrem p)).2.Perm p/\Up O key (bQ (ltK O key) (kas_descPart n nrem p)).2 (bQ (ltK O key) (kas_descPart n nrem p)).1:=by
 unfold kas_descPart
 obtain⟨i1,i2,i3,i4,i5,i6,i7⟩:=sL (N:=N) (nrem-(n+1)) p (n+1) 0 lo (by omega) (by omega) h (by omega) (λi a b=>by congr 1;omega)
 rw[gZ]
 generalize hr:bQ (ltK O key) (kas_desc (nrem-(n+1)) p (n+1) 0)=r at *
 by_cases h0:r.2.2 > 0
 ·have sz:r.1.size=p.size:=i2.size_eq
  have hk:=pZ (O:=O) (key:=key) (p:=r.1) (i:=r.2.1-(r.2.2+1)) (j:=r.2.1) (by omega) i7
  have pm:=(lS r.1 (r.2.1-(r.2.2+1)) r.2.1).trans i2
  have t:=DH (O:=O) (key:=key) (N:=N) (kB pm lo) (n:=r.2.1) (nrem:=nrem) (by omega) (by omega) (by rw[pm.size_eq];omega) (λi j hij hj=>by rw[hk,hk];exact i5 i j hij hj)
  rw[if_pos h0]
  refine⟨dJ _ i1 ?_,t.2.1,t.2.2.1,t.2.2.2.1.trans pm,t.2.2.2.2⟩
  rw[hr,if_pos h0];exact t.1
 ·have t:=DH (O:=O) (key:=key) (N:=N) (kB i2 lo) (n:=r.2.1) (nrem:=nrem) (by omega) (by omega) (by rw[i2.size_eq];omega) i5
  rw[if_neg h0]
  refine⟨dJ _ i1 ?_,t.2.1,t.2.2.1,t.2.2.2.1.trans i2,t.2.2.2.2⟩
  rw[hr,if_neg h0];exact t.1
theorem MF {p:Array Nat} (lo:Lo p N) {nrem:Nat} (h1:1<=nrem) (hz:nrem<=p.size) :
  kIn (ltK O key) N (kas_count nrem p)/\1<=(bQ (ltK O key) (kas_count nrem p)).1/\(bQ (ltK O key) (kas_count nrem p)).1<=nrem/\(bQ (ltK O key) (kas_count nrem p)).2.Perm p/\Up O key (bQ (ltK O key) (kas_count nrem p)).2 (bQ (ltK O key) (kas_count nrem p)).1:=by
 unfold kas_count
 obtain⟨i1,i2,i3,i4,i5⟩:=EB (O:=O) (key:=key) lo (nrem-1) 1 (Nat.le_refl _) (λi j hij hj=>by have:i=j:=(by omega);subst this;exact KeyOrd.kle_refl _)
 rw[gZ]
 generalize hr:bQ (ltK O key) (kas_asc p (nrem-1) 1)=n at *
 by_cases hn:n=nrem
 ·rw[if_pos (by simpa using hn)]
  exact⟨dJ _ i1 (by rw[hr,if_pos (by simpa using hn)];trivial),i2,by show n<=nrem;omega,Array.Perm.refl _,i4⟩
 ·rw[if_neg (by simpa using hn)]
  have hlt:O.klt (kk O key p n) (kk O key p (n-1)):=i5.resolve_left (by omega)
  by_cases hg:n > 1
  ·rw[if_pos hg]
   simp only[bQ]
   cases hb:ltK O key (p.getD 0 0) (p.getD (n-1) 0) with
   | true =>
    simp only[if_true]
    exact⟨dJ _ i1 (by rw[hr,if_neg (by simpa using hn),if_pos hg];exact⟨lo _,lo _,by rw[hb];trivial⟩),by show 1<=n;omega,by show n<=nrem;omega,Array.Perm.refl _,i4⟩
   | false =>
    simp only[Bool.false_eq_true,if_false]
    have hall:∀k,0<=k->k<n->kk O key p k=kk O key p (n-1):=by
     intro k _ hk
     have a1:=i4 0 k (by omega) hk
     have a2:=i4 k (n-1) (by omega) (by omega)
     exact KeyOrd.kle_antisymm a2 (KeyOrd.kle_trans hb a1)
    have hk:=pZ (O:=O) (key:=key) (p:=p) (i:=0) (j:=n) (by omega) hall
    have pm:=lS p 0 n
    have t:=qV (O:=O) (key:=key) (N:=N) (kB pm lo) (n:=n) (nrem:=nrem) (by omega) (by rw[pm.size_eq];omega) (λi j hij hj=>by
     rw[hk,hk]
     by_cases hjn:j<n
     ·rw[hall i (by omega) (by omega),hall j (by omega) hjn];exact KeyOrd.kle_refl _
     ·have hj':j=n:=by omega
      subst hj'
      by_cases hi':i=j
      ·subst hi';exact KeyOrd.kle_refl _
      ·rw[hall i (by omega) (by omega)];exact KeyOrd.kle_of_klt hlt)
    exact⟨dJ _ i1 (by rw[hr,if_neg (by simpa using hn),if_pos hg];exact⟨lo _,lo _,by rw[hb];exact t.1⟩),t.2.1,t.2.2.1,t.2.2.2.1.trans pm,t.2.2.2.2⟩
  ·rw[if_neg hg]
   have n1:n=1:=by omega
   have t:=qV (O:=O) (key:=key) (N:=N) lo (n:=n) (nrem:=nrem) (by omega) hz (λi j hij hj=>by
    by_cases hi':i=j
    ·subst hi';exact KeyOrd.kle_refl _
    ·have e1:i=n-1:=by omega
     have e2:j=n:=by omega
     rw[e1,e2];exact KeyOrd.kle_of_klt hlt)
   exact⟨dJ _ i1 (by rw[hr,if_neg (by simpa using hn),if_neg hg];exact t.1),t.2⟩
theorem uJ {p:Array Nat} (lo:Lo p N) {k:Nat} (hs:Up O key p k):∀(f l r:Nat),l<=r->r<=k->r-l<=f->(∀i,i<l->O.kle (kk O key p i) (kk O key p k))->(∀i,r<=i->i<k->O.klt (kk O key p k) (kk O key p i)) ->
  kIn (ltK O key) N (kas_place p k f l r)/\bQ (ltK O key) (kas_place p k f l r)<=k/\(∀i,i<bQ (ltK O key) (kas_place p k f l r)->O.kle (kk O key p i) (kk O key p k))/\(∀i,bQ (ltK O key) (kas_place p k f l r)<=i->i<k->O.klt (kk O key p k) (kk O key p i))
 | 0,l,r,hlr,hrk,hf,a,b=>by
  have:l=r:=by omega
  subst this
  exact⟨trivial,hrk,a,b⟩
 | f+1,l,r,hlr,hrk,hf,a,b=>by
  simp only[kas_place]
  by_cases hge:l ≥ r
  ·have:l=r:=by omega
   subst this
   rw[if_pos hge]
   exact⟨trivial,hrk,a,b⟩
  ·rw[if_neg hge]
   simp only[bQ,kIn]
   cases hb:ltK O key (p.getD k 0) (p.getD ((l+r) / 2) 0) with
   | true =>
    simp only[if_true]
    have t:=uJ lo hs f l ((l+r) / 2) (by omega) (by omega) (by omega) a (λi h1 h2=>KeyOrd.klt_of_klt_of_kle hb (hs _ _ h1 h2))
    exact⟨⟨lo _,lo _,t.1⟩,t.2⟩
   | false =>
    simp only[Bool.false_eq_true,if_false]
    have t:=uJ lo hs f ((l+r) / 2+1) r (by omega) hrk (by omega) (λi h1=>KeyOrd.kle_trans (hs i ((l+r) / 2) (by omega) (by omega)) hb) b
    exact⟨⟨lo _,lo _,t.1⟩,t.2⟩
theorem LU:∀(f:Nat) (p:Array Nat) (k:Nat),Lo p N->k+f<=p.size->Up O key p k->kIn (ltK O key) N (kas_bin f p k)/\(bQ (ltK O key) (kas_bin f p k)).Perm p/\Up O key (bQ (ltK O key) (kas_bin f p k)) (k+f)
 | 0,p,k,lo,hz,h=>⟨trivial,Array.Perm.refl _,h⟩
 | f+1,p,k,lo,hz,h=>by
  simp only[kas_bin]
  obtain⟨i1,i2,i3,i4⟩:=uJ lo h k 0 k (by omega) (by omega) (by omega) (λi hi=>absurd hi (by omega)) (λi h1 h2=>absurd h2 (by omega))
  rw[gZ]
  generalize hr:bQ (ltK O key) (kas_place p k k 0 k)=l at *
  have pm:=bubble_perm p k (k-l)
  have hb:=λi=>JM (O:=O) (key:=key) (p:=p) (src:=k) (d:=k-l) (by omega) (by omega) i
  have up:Up O key (bubble p k (k-l)) (k+1):=by
   intro i j hij hj
   rw[hb,hb,show k-(k-l)=l by omega]
   by_cases e1:i=l
   ·rw[if_pos e1]
    by_cases e2:j=l
    ·rw[if_pos e2];exact KeyOrd.kle_refl _
    ·rw[if_neg e2,if_pos (by omega)];exact KeyOrd.kle_of_klt (i4 _ (by omega) (by omega))
   ·rw[if_neg e1]
    by_cases e2:j=l
    ·rw[if_pos e2,if_neg (by omega)];exact i3 _ (by omega)
    ·rw[if_neg e2]
     by_cases e3:l<i/\i<=k
     ·rw[if_pos e3,if_pos (by omega)];exact h _ _ (by omega) (by omega)
     ·rw[if_neg e3]
      by_cases e4:l<j/\j<=k
      ·rw[if_pos e4];exact h _ _ (by omega) (by omega)
      ·rw[if_neg e4];exact h _ _ (by omega) (by omega)
  obtain⟨t1,t2,t3⟩:=LU f (bubble p k (k-l)) (k+1) (kB pm lo) (by rw[pm.size_eq];omega) up
  refine⟨dJ _ i1 (by rw[hr];exact t1),t2.trans pm,?_⟩
  rw[show k+(f+1)=k+1+f by omega];exact t3
theorem SR {n:Nat} (h1:1<=n):kIn (ltK O key) n (kas_sort n)/\(bQ (ltK O key) (kas_sort n)).Perm (List.toArray (List.range n))/\Up O key (bQ (ltK O key) (kas_sort n)) n:=by
 have lo:Lo (List.toArray (List.range n)) n:=by
  intro i
  by_cases hi:i<n
  ·simp[Array.getD,hi]
  ·simp[Array.getD,hi];omega
 unfold kas_sort
 obtain⟨i1,i2,i3,i4,i5⟩:=MF (O:=O) (key:=key) lo (nrem:=n) h1 (by simp)
 rw[gZ]
 generalize hr:bQ (ltK O key) (kas_count n (List.toArray (List.range n)))=r at *
 have sz:r.2.size=n:=by rw[i4.size_eq];simp
 by_cases h:r.1<n
 ·have t:=LU (O:=O) (key:=key) (N:=n) (n-max r.1 1) r.2 (max r.1 1) (kB i4 lo) (by omega) (by rw[show max r.1 1=r.1 by omega];exact i5)
  rw[if_pos h]
  refine⟨dJ _ i1 (by rw[hr,if_pos h];exact t.1),t.2.1.trans i4,?_⟩
  have:=t.2.2
  rwa [show max r.1 1+(n-max r.1 1)=n by omega] at this
 ·rw[if_neg h]
  refine⟨dJ _ i1 (by rw[hr,if_neg h];trivial),i4,?_⟩
  rw[show n=r.1 by omega];exact i5
end
end L2.R2
set_option Elab.async false
set_option linter.all false
set_option maxRecDepth 100000
set_option maxHeartbeats 3200000
namespace L2.R2
open PySem PySem.W PySem.SetTable PyProof.Rows
noncomputable def dY:List Int->List Int->Bool
 | [],[]=>false
 | [],_::_=>true
 | _::_,[]=>false
 | a::as,b::bs=>if a=b then dY as bs else decide (a<b)
theorem BY:∀a,dY a a=false
 | []=>rfl
 | a::as=>by simp only[dY,if_true];exact BY as
theorem nQ:∀a b c,dY a b=true->dY b c=true->dY a c=true
 | [],[],c,h,_=>by simp[dY] at h
 | [],_::_,[],_,h=>by simp[dY] at h
 | [],_::_,_::_,_,_=>rfl
 | _::_,[],_,h,_=>by simp[dY] at h
 | _::_,_::_,[],_,h=>by simp[dY] at h
 | a::as,b::bs,c::cs,h,k=>by
  simp only[dY] at h k ⊢
  by_cases e1:a=b
  ·subst e1
   rw[if_pos rfl] at h
   by_cases e2:a=c
   ·subst e2;rw[if_pos rfl] at k ⊢;exact nQ as bs cs h k
   ·rw[if_neg e2] at k ⊢;exact k
  ·rw[if_neg e1] at h
   by_cases e2:b=c
   ·subst e2;rw[if_neg e1];exact h
   ·rw[if_neg e2] at k
    simp only[decide_eq_true_eq] at h k
    rw[if_neg (by omega)]
    simp only[decide_eq_true_eq];omega
theorem nP:∀a b,dY a b=false->dY b a=false->a=b
 | [],[],_,_=>rfl
 | [],_::_,h,_=>by simp[dY] at h
 | _::_,[],_,h=>by simp[dY] at h
 | a::as,b::bs,h,k=>by
  simp only[dY] at h k
  by_cases e:a=b
  ·subst e;rw[if_pos rfl] at h k;rw[nP as bs h k]
  ·rw[if_neg e] at h;rw[if_neg (Ne.symm e)] at k
   simp only[decide_eq_false_iff_not] at h k;omega
theorem NQ (a b c:List Int) (h:dY a c=true):dY a b=true\/dY b c=true:=by
 cases h1:dY a b with
 | true=>exact Or.inl rfl
 | false =>
  right
  cases h2:dY b a with
  | true=>exact nQ b a c h2 h
  | false=>rw[<-nP a b h1 h2];exact h
noncomputable def RH:KeyOrd:=⟨List Int,dY,BY,nQ,NQ,nP⟩
section
variable {prog:Program} {w:World} {A:Around} {E:Value->Shared->Prop} {s:Shared}
theorem int_inv {k:Int} {v:Value} (h:(intKind prog w).is k v=true):∃t,v = .int k t:=by
 cases v <;> simp[intKind,Value.isInt] at h
 exact⟨_,by rw[h]⟩
theorem RI {fin:Bool} {Q:Bool->Shared->Prop}:∀(ns ms:List Int) (vs us:List Value) (i:Nat),ItemsAre (intKind prog w) ns vs->ItemsAre (intKind prog w) ms us->fin=decide (vs.length<us.length)->Q (dY ns ms) s->KatLex prog w A true fin Q (vs.zip us) i s:=by
 intro ns
 induction ns with
 | nil =>
  intro ms vs us i h1 h2 hf q
  cases h1
  cases h2 with
  | nil=>simp at hf;subst hf;exact kat_nil q
  | cons _ _=>simp at hf;subst hf;exact kat_nil q
 | cons n ns ih =>
  intro ms vs us i h1 h2 hf q
  cases h1 with
  | cons h1 t1 =>
   cases h2 with
   | nil=>simp at hf;subst hf;exact kat_nil q
   | @cons m u ms us h2 t2 =>
    rw[List.zip_cons_cons]
    refine kat_cons ((intKind prog w).eqBool h1 h2 ?_)
    by_cases e:n=m
    ·subst e
     rw[decide_eq_true rfl]
     exact kat_yes (ih ms _ us (i+1) t1 t2 (by simpa using hf) (by simpa [dY] using q))
    ·rw[decide_eq_false e]
     obtain⟨tn,rfl⟩:=int_inv h1
     obtain⟨tm,rfl⟩:=int_inv h2
     have q':Q (decide (n<m)) s:=by simpa [dY,e] using q
     refine kat_no ?_
     cases hi:(i == 0) with
     | true=>exact oneLt_int q'
     | false=>exact kat_one _ _ (PySem.wpAny_lt_int (by exact q'))
noncomputable def KeysAt (prog:Program) (w:World) (h:Heap) (vs:List Value) (nss:List (List Int)):Prop:=vs.length=nss.length/\∀i v,vs[i]? = some v->∃a,v = .ref a/\IsTupleKey (intKind prog w) h (nss.getD i []) a
theorem tW {h:Heap}:∀(vs:List Value) (nss:List (List Int)),KeysAt prog w h vs nss->(∀ns∈nss,ns≠[])->∃fs:List Value,KatTups h vs fs/\fs.length=vs.length/\∀f∈fs,∃k t,f = .int k t
 | [],nss,_,_=>⟨[],trivial,rfl,λf hf=>by cases hf⟩
 | v::vs,nss,H,hn=>by
  match nss,H with
  | [],H=>exact absurd H.1 (by simp)
  | ns::nss,H =>
   obtain⟨a,rfl,o,items,n,ho,hc,hd,hi⟩:=H.2 0 v rfl
   obtain⟨fs,f1,f2,f3⟩:=tW vs nss ⟨by have:=H.1;simpa using this,λi v e=>H.2 (i+1) v e⟩ λms hm=>hn ms (List.mem_cons_of_mem _ hm)
   simp only[List.getD_cons_zero] at hi
   match ns,hi,hn ns (List.mem_cons_self ..) with
   | [],_,h=>exact absurd rfl h
   | k::ks,hi,_ =>
    generalize e:items.toList=its at hi
    cases hi with
    | cons h1 h2 =>
     obtain⟨t,rfl⟩:=int_inv h1
     refine⟨.int k t::fs,⟨⟨a,o,items,n,rfl,ho,hc,hd,?_⟩,f1⟩,by simp[f2],λf hf=>?_⟩
     ·rw[<-Array.getElem?_toList,e];rfl
     ·rcases List.mem_cons.mp hf with rfl | hf
      ·exact⟨k,t,rfl⟩
      ·exact f3 f hf
theorem KeysAt.other {h h':Heap} {vs:List Value} {nss:List (List Int)} {a:Addr} {xs:Array Value} {n:Nat} (K:KeysAt prog w h vs nss) (ho:h.get? a=some (seqObj "list" xs n)) (up:∀b o,b≠a->h.get? b=some o->h'.get? b=some o):KeysAt prog w h' vs nss:=by
 refine⟨K.1,λi v e=>?_⟩
 obtain⟨b,rfl,o,its,m,h1,h2,h3,h4⟩:=K.2 i v e
 refine⟨b,rfl,o,its,m,up b o ?_ h1,h2,h3,h4⟩
 rintro rfl
 rw[ho] at h1;cases h1
 exact absurd h2 (by simp[seqObj])
theorem FQ {α:Type} (d:α) (xs:List α):(List.range xs.length).map (λi=>xs.getD i d)=xs:=by
 apply List.ext_getElem (by simp)
 intro i h1 h2
 simp[h2]
theorem KT {a:Addr} {vs:List Value} {nss:List (List Int)} {n:Nat} {P:PySem.Fin->Shared->Prop} (ho:s.heap.get? a=some (seqObj "list" vs.toArray n)) (K:KeysAt prog w s.heap vs nss) (hn:∀ns∈nss,ns≠[]) (h64:vs.length<64)
  (q:∀h' out mss c,h'.get? a=some (seqObj "list" (List.toArray out) c)->KeysAt prog w h' out mss->(∀v∈out,v∈vs)->mss.Perm nss->mss.Pairwise (λx y=>dY y x=false)->(∀b o,b≠a->s.heap.get? b=some o->h'.get? b=some o)->P (.done (.ret .none)) { s with heap:=h' }) :
  wpAny (model prog w) A (Builtin.«list.sort» ⟨[.ref a],[]⟩) P E s:=by
 have lt:a<s.heap.objs.size:=Heap.lt_size ho
 rw[list_sort_plain]
 apply wpAny_bind;refine listItems_at ho rfl ?_
 apply wpAny_bind;refine listUpdate_at ho rfl ?_ (by rw[List.size_toArray,sizeLine_eq];omega) (Nat.zero_le _)
 obtain⟨e1,ho1⟩:∃e1,(s.heap.update a (Obj.mapSeq λ_=>(#[]:Array Value))).get? a=some (seqObj "list" #[] e1):=⟨_,get?_update_seq ho λ_=>#[]⟩
 have up1:∀b o,b≠a->s.heap.get? b=some o->(s.heap.update a (Obj.mapSeq λ_=>(#[]:Array Value))).get? b=some o:=λb o hb e=>(Heap.get?_update_other _ _ (Ne.symm hb)).trans e
 generalize s.heap.update a (Obj.mapSeq λ_=>(#[]:Array Value))=h1 at ho1 up1
 apply wpAny_bind;refine seqEpoch_at ho1 rfl ?_
 apply wpAny_bind;refine wpAny_newTuple ?_ (by show vs.length<=_;rw[sizeLine_eq];omega)
 apply wpAny_bind;refine wpAny_newList ?_ (Nat.zero_le _)
 apply wpAny_holding
 show wpAny (model prog w) A _ P E { s with heap:=(h1.push (seqObj "tuple" vs.toArray 0)).push (seqObj "list" #[] 0) }
 have up2:∀b o,b≠a->s.heap.get? b=some o->((h1.push (seqObj "tuple" vs.toArray 0)).push (seqObj "list" #[] 0)).get? b=some o:=λb o hb e=>Heap.get?_push_of_some _ (Heap.get?_push_of_some _ (up1 b o hb e))
 have ho2:((h1.push (seqObj "tuple" vs.toArray 0)).push (seqObj "list" #[] 0)).get? a=some (seqObj "list" #[] e1):=Heap.get?_push_of_some _ (Heap.get?_push_of_some _ ho1)
 generalize (h1.push (seqObj "tuple" vs.toArray 0)).push (seqObj "list" #[] 0)=h2 at up2 ho2
 have K2:=K.other ho up2
 have fin:∀(out:List Value) (mss:List (List Int)) (st':SortSt),(arrOf st').map (·.2)=out.toArray->failedOf st'=none->KeysAt prog w h2 out mss->(∀v∈out,v∈vs)->mss.Perm nss->mss.Pairwise (λx y=>dY y x=false)->out.length<=64 ->
   wpAny (model prog w) A (do
    let sorted:=(arrOf st').map (·.2)
    let touched:=(<-seqEpoch a) != e1
    Builtin.List.listUpdate (.ref a) λ_=>sorted
    if let some e:=failedOf st' then rule "list.sort.comparison-raised";throw e
    if touched then rule "list.sort.modified";raiseError "ValueError" "list modified during sort"
    ret .none) P E { s with heap:=h2 }:=by
  intro out mss st' h1 hf KO hv hp hs hlen
  dsimp only
  apply wpAny_bind;refine seqEpoch_at (s:={ s with heap:=h2 }) ho2 rfl ?_
  rw[h1]
  apply wpAny_bind;refine listUpdate_at (s:={ s with heap:=h2 }) ho2 rfl ?_ (Nat.zero_le _) (by show out.toArray.size<=_;rw[List.size_toArray,sizeLine_eq];omega)
  obtain⟨c,hc⟩:∃c,(h2.update a (Obj.mapSeq λ_=>out.toArray)).get? a=some (seqObj "list" out.toArray c):=⟨_,get?_update_seq ho2 λ_=>out.toArray⟩
  have up3:∀b o,b≠a->h2.get? b=some o->(h2.update a (Obj.mapSeq λ_=>out.toArray)).get? b=some o:=λb o hb e=>(Heap.get?_update_other _ _ (Ne.symm hb)).trans e
  generalize h2.update a (Obj.mapSeq λ_=>out.toArray)=h3 at hc up3
  rw[hf]
  simp only[bne_self_eq_false,Bool.false_eq_true,if_false]
  exact wpAny_pure (q h3 out mss c hc (KO.other ho2 up3) hv hp hs λb o hb e=>up3 b o hb (up2 b o hb e))
 have ln:=K.1
 dsimp only
 by_cases h2':vs.length<2
 ·have c2:vs.toArray.size<2:=by rw[List.size_toArray];exact h2'
  rw[if_pos c2,if_pos c2]
  apply wpAny_bind;apply wpAny_pure
  apply wpAny_bind
  show wpAny _ _ (pure ((),SortSt.mk' general' (vs.toArray.zip vs.toArray) #[] 7 none)) _ _ _
  apply wpAny_pure
  refine fin vs nss _ ?_ rfl K2 (λ_ h=>h) (List.Perm.refl _) ?_ (by omega)
  ·show (vs.toArray.zip vs.toArray).map (·.2)=vs.toArray
   apply Array.toList_inj.mp
   simp[List.map_snd_zip]
  ·match nss,ln with
   | [],_=>exact List.Pairwise.nil
   | [x],_=>exact List.pairwise_singleton _ _
   | _::_::_,ln=>simp at ln;omega
 ·have c2:¬vs.toArray.size<2:=by rw[List.size_toArray];exact h2'
  rw[if_neg c2,if_neg c2]
  obtain⟨fs,f1,f2,f3⟩:=tW vs nss K2 hn
  apply wpAny_bind
  refine kat_kind (s:={ s with heap:=h2 }) (T:=.type "int") f1 (by omega) (λv hv=>?_) (by decide) ?_
  ·obtain⟨k,t,rfl⟩:=f3 v hv
   exact Looks.now
  have hT:(Value.type "int" != Value.type "tuple")=true:=by decide
  rw[hT]
  obtain⟨i1,i2,i3⟩:=SR (O:=RH) (key:=λi=>nss.getD i []) (n:=vs.length) (by omega)
  have psz:(bQ (ltK RH λi=>nss.getD i []) (kas_sort vs.length)).size=vs.length:=by rw[i2.size_eq];simp
  generalize hp:bQ (ltK RH λi=>nss.getD i []) (kas_sort vs.length)=p at i2 i3 psz
  apply wpAny_bind
  refine wpAny_mono (kat_run (ks:=vs) (vs:=vs) (Q:=λst' s'=>s' = { s with heap:=h2 }/\arrOf st'=p.map (kas_item (vs.toArray.zip vs.toArray))/\failedOf st'=none) (G:=λp' s'=>p'=p/\s' = { s with heap:=h2 }) rfl (by omega) h64 (λp' st' s' a1 a2 a3 a4=>⟨a4.2,by rw[a2,a4.1],a3⟩) ?_) ?_ λ_ _ e=>e
  ·refine tV (lt:=ltK RH λi=>nss.getD i []) (n:=vs.length) (s:={ s with heap:=h2 }) (λi j C hi hj c=>?_) _ i1 ⟨hp,rfl⟩
   unfold kas_ask
   obtain⟨x,ex,ox,xs,nx,hx1,hx2,hx3,hx4⟩:=K2.2 i (vs.getD i Value.none) (by simp[hi])
   obtain⟨y,ey,oy,ys,ny,hy1,hy2,hy3,hy4⟩:=K2.2 j (vs.getD j Value.none) (by simp[hj])
   rw[ex,ey]
   refine kat_lt (s:={ s with heap:=h2 }) hx1 hx3 hy1 hy3 (RI _ _ _ _ 0 hx4 hy4 (by simp) ?_)
   exact c
  ·rintro⟨⟨⟩,st'⟩ s' ⟨rfl,har,hf⟩
   have hout:=kat_snds (ks:=vs) (vs:=vs) rfl har
   refine fin (p.toList.map λi=>vs.getD i Value.none) (p.toList.map λi=>nss.getD i []) st' hout hf ⟨by simp,λi v e=>?_⟩ (λv hv=>?_) ?_ ?_ (by simp[psz];omega)
   ·rw[List.getElem?_map] at e
    cases e2:p.toList[i]? with
    | none=>rw[e2] at e;simp at e
    | some j =>
     rw[e2] at e
     simp only[Option.map_some,Option.some.injEq] at e
     have hj:j<vs.length:=by
      have m:j∈p.toList:=List.mem_of_getElem? e2
      have:=(Array.Perm.mem_iff i2).mp (Array.mem_toList_iff.mp m)
      simpa using this
     obtain⟨b,hb1,hb2⟩:=K2.2 j v (by rw[<-e];simp[hj])
     refine⟨b,hb1,?_⟩
     have g:(p.toList.map λi=>nss.getD i []).getD i []=nss.getD j []:=by
      rw[List.getD_eq_getElem?_getD,List.getElem?_map,e2];rfl
     rw[g];exact hb2
   ·obtain⟨j,m,rfl⟩:=List.mem_map.mp hv
    have hj:j<vs.length:=by
     have:=(Array.Perm.mem_iff i2).mp (Array.mem_toList_iff.mp m)
     simpa using this
    simp[hj]
   ·have pl:p.toList.Perm (List.range vs.length):=by simpa using i2.toList
    refine (pl.map _).trans ?_
    rw[ln,FQ]
   ·refine List.pairwise_map.mpr (List.pairwise_iff_getElem.mpr λi j hi hj hij=>?_)
    have:=i3 i j (by omega) (by simp at hj;omega)
    unfold kk at this
    simp only[Array.length_toList] at hi hj
    have e1:p.getD i 0=p[i]:=by simp[Array.getD,hi]
    have e2:p.getD j 0=p[j]:=by simp[Array.getD,hj]
    rw[e1,e2] at this
    exact this
theorem rK {S:Addr} {es:Array (Int × Value)} {Q:Value->Shared->Prop} (hh:A.handled=none) (H:SetTup prog w s.heap S es) (h64:es.size<64) {nss:List (List Int)} (hn:∀ns∈nss,ns≠[])
  (hk:∀e∈es.toList,∃ns∈nss,∃a,e.2 = .ref a/\IsTupleKey (intKind prog w) s.heap ns a)
  (q:∀h' D out mss c,s.heap.objs.size<=D->h'.get? D=some (seqObj "list" (List.toArray out) c)->KeysAt prog w h' out mss->(∀v∈out,∃e∈es.toList,e.2=v)->(∀ns,ns∈mss↔∃e∈es.toList,∃a,e.2 = .ref a/\IsTupleKey (intKind prog w) s.heap ns a)->mss.Pairwise (λx y=>dY y x=false) ->
   mss.length=es.size->(∀b o,s.heap.get? b=some o->h'.get? b=some o)->Q (.ref D) { s with heap:=h' }) :
  wpAny (model prog w) A (call (.builtin "sorted") [.ref S]) Q E s:=by
 obtain⟨⟨ep,t,ho,T,hf,hl,hp⟩,els⟩:=H
 have wp:=qS (w:=w) S ep es
 have wl:(cG w S ep es).toList.length=es.size:=by rw[wp.length_eq,Array.length_toList]
 refine Calls.call_function_entry kind_sorted plain_sorted entry_sorted (args_sorted1 _) ?_
 unfold Builtin.«sorted»
 refine wpAny_bind (m:=checkCount "sorted" 1 1 _) (wpAny_pure ?_)
 apply wpAny_bind;refine AS (A:=A.in1) (by simp[hh]) ho T hl hp (by omega) λh1 k1 big=>?_
 apply wpAny_bind;refine wpAny_newList ?_ (by rw[List.length_map,wl,sizeLine_eq];omega)
 show wpAny _ _ _ _ _ { s with heap:=h1.push (seqObj "list" (List.toArray ((cG w S ep es).toList.map (·.2))) 0) }
 have hL:(h1.push (seqObj "list" (List.toArray ((cG w S ep es).toList.map (·.2))) 0)).get? h1.objs.size=some (seqObj "list" (List.toArray ((cG w S ep es).toList.map (·.2))) 0):=Heap.get?_push_size _ rfl
 have k2:∀b o,s.heap.get? b=some o->(h1.push (seqObj "list" (List.toArray ((cG w S ep es).toList.map (·.2))) 0)).get? b=some o:=λb o e=>Heap.get?_push_of_some _ (k1 b o e)
 generalize h1.push (seqObj "list" (List.toArray ((cG w S ep es).toList.map (·.2))) 0)=h2 at hL k2
 have ex:∀(i:Nat) (v:Value),((cG w S ep es).toList.map (·.2))[i]? = some v->∃ns∈nss,∃a,v = .ref a/\IsTupleKey (intKind prog w) s.heap ns a:=by
  intro i v e
  rw[List.getElem?_map] at e
  cases e2:(cG w S ep es).toList[i]? with
  | none=>rw[e2] at e;simp at e
  | some x =>
   rw[e2] at e
   simp only[Option.map_some,Option.some.injEq] at e
   have m:x∈es.toList:=wp.mem_iff.mp (List.mem_of_getElem? e2)
   obtain⟨ns,h1,a,h2,h3⟩:=hk x m
   exact⟨ns,h1,a,by rw[<-e];exact h2,h3⟩
 obtain⟨kss,kl,kk⟩:∃kss:List (List Int),kss.length=((cG w S ep es).toList.map (·.2)).length/\∀(i:Nat) (v:Value),((cG w S ep es).toList.map (·.2))[i]? = some v->kss.getD i []∈nss/\∃a,v = .ref a/\IsTupleKey (intKind prog w) s.heap (kss.getD i []) a:=by
  generalize ((cG w S ep es).toList.map (·.2))=vs at ex
  clear hL
  induction vs with
  | nil=>exact⟨[],rfl,λi v e=>by simp at e⟩
  | cons v vs ih =>
   obtain⟨kss,k1,k2⟩:=ih λi v e=>ex (i+1) v (by simpa using e)
   obtain⟨ns,h1,a,h2,h3⟩:=ex 0 v rfl
   refine⟨ns::kss,by simp[k1],λi u e=>?_⟩
   cases i with
   | zero=>simp at e;subst e;exact⟨h1,a,h2,h3⟩
   | succ i=>exact k2 i u (by simpa using e)
 have KA:KeysAt prog w h2 ((cG w S ep es).toList.map (·.2)) kss:=by
  refine⟨kl.symm,λi v e=>?_⟩
  obtain⟨_,a,h1,o,its,m,g1,g2⟩:=kk i v e
  exact⟨a,h1,o,its,m,k2 _ _ g1,g2⟩
 have kmem:∀ns,ns∈kss↔∃e∈es.toList,∃a,e.2 = .ref a/\IsTupleKey (intKind prog w) s.heap ns a:=by
  intro ns
  constructor
  ·intro h
   obtain⟨i,hi,e⟩:=List.getElem_of_mem h
   have hi':i<((cG w S ep es).toList.map (·.2)).length:=by omega
   obtain⟨_,a,h1,h2⟩:=kk i _ (List.getElem?_eq_getElem hi')
   have g:kss.getD i []=ns:=by simp[hi,e]
   rw[g] at h2
   simp only[List.getElem_map] at h1
   exact⟨_,wp.mem_iff.mp (List.getElem_mem _),a,h1,h2⟩
  ·rintro⟨e,he,a,h1,h2⟩
   obtain⟨i,hi,e'⟩:=List.getElem_of_mem (wp.mem_iff.mpr he)
   obtain⟨_,b,g1,g2⟩:=kk i e.2 (by rw[List.getElem?_map,List.getElem?_eq_getElem hi,e'];rfl)
   rw[h1] at g1;cases g1
   have:=g2.inj h2
   rw[<-this]
   have hi':i<kss.length:=by rw[kl];simpa using hi
   simp[hi']
 refine wpAny_bind (wpAny_holding (wpAny_call_entry slot_list_sort ⟨_,hL,rfl⟩ entry_list_sort ?body (args_list_sort _)))
 case body =>
  refine KT (s:={ s with heap:=h2 }) hL KA (λns h=>?_) (by rw[List.length_map,wl];exact h64) λh3 out mss c g1 g2 g3 g4 g5 g6=>?_
  ·obtain⟨e,he,a,e1,e2⟩:=(kmem ns).mp h
   obtain⟨ms,m1,b,e3,e4⟩:=hk e he
   rw[e1] at e3;cases e3
   rw[e2.inj e4];exact hn ms m1
  ·refine⟨_,rfl,wpAny_pure ⟨_,rfl,q h3 h1.objs.size out mss c big g1 g2 (λv hv=>?_) (λns=>(g4.mem_iff).trans (kmem ns)) g5 ?_ λb o e=>?_⟩⟩
   ·obtain⟨e,he,rfl⟩:=List.mem_map.mp (g3 v hv)
    exact⟨e,wp.mem_iff.mp he,rfl⟩
   ·rw[g4.length_eq,kl,List.length_map,wl]
   ·have:=Heap.lt_size e
    exact g6 b o (by intro z;simp only[Addr] at *;omega) (k2 b o e)
end
end L2.R2
set_option Elab.async false
set_option linter.all false
set_option maxRecDepth 100000
set_option maxHeartbeats 3200000
namespace L2.R2
open PySem PySem.W PyProof.Rows
theorem EZ:typeLookup (.type "list_reverseiterator") "__len__" = pure none:=by rw[typeLookup_type,builtinLookup_eq_fast];kernel_rfl
theorem NT:typeLookup (.type "list_reverseiterator") "__length_hint__" = pure (some (.builtin "list_reverseiterator.__length_hint__")):=by rw[typeLookup_type,builtinLookup_eq_fast];kernel_rfl
theorem AE:isSubtype (.type "list_reverseiterator") (.type "list_reverseiterator")=pure true:=by rw[isSubtype_type];kernel_rfl
section
variable {prog:Program} {w:World} {A:Around} {E:Value->Shared->Prop} {s:Shared}
theorem OX {I:Addr} {Q:Bool->Shared->Prop} (ty:s.TypeIs (.ref I) "list_reverseiterator") (q:Q false s):wpAny (model prog w) A (Builtin.List.listLengthHint (.ref I)) Q E s:=by
 unfold Builtin.List.listLengthHint
 apply wpAny_bind;refine wpAny_specialOf ty EZ ?_
 show wpAny _ _ (specialOf (Value.ref I) (Str.ofString "__length_hint__") >>= _) _ _ _
 apply wpAny_bind;refine wpAny_specialOf ty NT ?_
 dsimp only
 have sp:splitId "list_reverseiterator.__length_hint__" = some ("list_reverseiterator","__length_hint__"):=by decide +kernel
 rw[sp]
 dsimp only
 apply wpAny_bind;refine wpAny_isInstance (b:=true) ty AE ?_
 simp only[Bool.not_true,Bool.false_eq_true,if_false]
 have key:∀(c:Bool) (X Y:Sem Bool),c=true->wpAny (model prog w) A X Q E s->wpAny (model prog w) A (if c=true then X else Y) Q E s:=λc X Y hc h=>by rw[if_pos hc];exact h
 refine key _ _ _ (by decide +kernel) ?_
 rw[if_neg (by decide +kernel)]
 exact wpAny_pure q
theorem vJ {I l:Addr} {items:Array Value} {Q:Value->Shared->Prop} (hh:A.handled=none) (ne:l≠I) (hz:items.size<=sizeLine) (hi:s.heap.IsRevIter I l ((items.size:Int)-1)) (hl:s.heap.IsList l items)
  (q:∀h' c,h'.get? s.heap.objs.size=some (seqObj "list" items.toList.reverse.toArray c)->(∀b o,b≠I->s.heap.get? b=some o->h'.get? b=some o)->Q (.ref s.heap.objs.size) { s with heap:=h' }) :
  wpAny (model prog w) A (call (.type "list") [.ref I]) Q E s:=by
 have ltI:I<s.heap.objs.size:=by obtain⟨o,e,_⟩:=hi;exact Heap.lt_size e
 have ltl:l<s.heap.objs.size:=by obtain⟨o,e,_⟩:=hl;exact Heap.lt_size e
 refine callType_codes (Q₁:=λobj s₁=>obj = .ref s.heap.objs.size/\s₁ = { s with heap:=s.heap.push { cls:=.type "list",data:=.seq #[] } }) F.called_list (F.typeCall_list_1 _) F.entry_list_init (code_list_new _ ⟨rfl,rfl⟩) λobj s₁ h₁=>?_
 obtain⟨rfl,rfl⟩:=h₁
 have hS:(s.heap.push { cls:=.type "list",data:=.seq #[] }).get? s.heap.objs.size=some { cls:=.type "list",data:=.seq #[] }:=Heap.get?_push_size _ rfl
 refine⟨⟨_,hS,rfl⟩,F.args_list_init_2 _ _,?_⟩
 show wpAny _ _ (do let old <-Builtin.List.listItems (.ref s.heap.objs.size);Builtin.List.listUpdate (.ref s.heap.objs.size) (λ_=>#[]);letGo old.toList.reverse;Builtin.List.listExtendWith (.ref s.heap.objs.size) (.ref I) .none) _ _ _
 apply wpAny_bind;unfold Builtin.List.listItems
 apply wpAny_bind;apply wpAny_seqItems hS rfl;apply wpAny_pure
 show wpAny _ _ (updateSeq s.heap.objs.size (λ_=>#[]) >>= λ_=>letGo (#[]:Array Value).toList.reverse >>= λ_=>Builtin.List.listExtendWith (.ref s.heap.objs.size) (.ref I) .none) _ _ _
 apply wpAny_bind;refine wpAny_updateSeq hS rfl ?_
 have hS2:=Heap.get?_update_self (Obj.mapSeq (λ_=>(#[]:Array Value))) hS rfl
 have up2:∀b o,b≠s.heap.objs.size->s.heap.get? b=some o->((s.heap.push { cls:=.type "list",data:=.seq #[] }).update s.heap.objs.size (Obj.mapSeq (λ_=>(#[]:Array Value)))).get? b=some o :=
  λb o hb e=>(Heap.get?_update_other _ _ (Ne.symm hb)).trans (Heap.get?_push_of_some _ e)
 generalize (s.heap.push { cls:=.type "list",data:=.seq #[] }).update s.heap.objs.size (Obj.mapSeq (λ_=>(#[]:Array Value)))=h2 at hS2 up2
 apply wpAny_bind;apply wpAny_letGo
 have neI:I≠s.heap.objs.size:=Nat.ne_of_lt ltI
 have nel:l≠s.heap.objs.size:=Nat.ne_of_lt ltl
 have hi2:h2.IsRevIter I l ((items.size:Int)-1):=hi.at λo e=>up2 _ o neI e
 have hl2:h2.IsList l items:=hl.at λo e=>up2 _ o nel e
 unfold Builtin.List.listExtendWith
 apply wpAny_bind;refine wpAny_typeOf (T:="list_reverseiterator") hi2.typeIs ?_
 have g1:Builtin.List.listSameRef (.ref s.heap.objs.size) (.ref I)=false:=by simp[Builtin.List.listSameRef,Nat.ne_of_gt ltI]
 have g2:(Value.type "list_reverseiterator" == Value.type "list")=false:=by decide
 have g3:(Value.type "list_reverseiterator" == Value.type "tuple")=false:=by decide
 simp only[g1,g2,g3,Bool.or_false,Bool.false_eq_true,if_false]
 apply wpAny_bind;refine wpAny_pyIter_revIter hi2 ?_
 apply wpAny_bind;apply wpAny_holding;refine OX hi2.typeIs ?_
 have key:∀(c:Bool) (X Y:Sem Fin) {Q':Fin->Shared->Prop} {E':Value->Shared->Prop} {s':Shared} {A':Around},c=false->wpAny (model prog w) A' Y Q' E' s'->wpAny (model prog w) A' (if c=true then X else Y) Q' E' s':=λc X Y _ _ _ _ hc h=>by rw[hc,if_neg Bool.false_ne_true];exact h
 refine key _ _ _ (by decide +kernel) ?_
 apply wpAny_pure;refine⟨plainId_quiet PySem.F.plain_extend_loop _,?_⟩
 refine tP (s0:=s) (n:=items.size) (J:=λacc h=>h.IsRevIter I l ((items.size:Int)-1-(acc.length:Int))/\h.IsList l items/\acc=items.toList.reverse.take acc.length/\∀b o,b≠I->b≠s.heap.objs.size->s.heap.get? b=some o->h.get? b=some o)
  (F:=λacc h=>acc=items.toList.reverse/\∀b o,b≠I->b≠s.heap.objs.size->s.heap.get? b=some o->h.get? b=some o) .none hz ?_ ?_ ?_ (λh' acc c hsz hF hS'=>⟨rfl,?_⟩) items.size #[] h2 _ rfl (Nat.zero_le _) ?_ hS2
 ·rintro acc h h' ⟨J1,J2,J3,J4⟩ hSo hz up
  exact⟨J1.at λo e=>up _ o neI e,J2.at λo e=>up _ o nel e,J3,λb o n1 n2 e=>up b o n2 (J4 b o n1 n2 e)⟩
 ·rintro acc s' o Q' E' hlt ⟨J1,J2,J3,J4⟩ hSo k
  have e:items[items.size-1-acc.length]? = some (items[items.size-1-acc.length]'(by omega)):=Array.getElem?_eq_getElem _
  refine wpAny_pyNext_rev_item (i:=items.size-1-acc.length) (by rw[show ((items.size-1-acc.length:Nat):Int)=(items.size:Int)-1-(acc.length:Int) by omega];exact J1) J2 e λh' it' sb=>k _ h' ⟨?_,J2.at λo e=>?_,?_,λb o n1 n2 e=>?_⟩ ?_
  ·rw[show ((items.size-1-acc.length:Nat):Int)-1=(items.size:Int)-1-((acc++[items[items.size-1-acc.length]'(by omega)]).length:Int) by simp;omega] at it'
   exact it'
  ·rw[sb.2 _ ne];exact e
  ·rw[List.length_append,List.length_singleton,List.take_succ,<-J3]
   congr 1
   rw[List.getElem?_eq_getElem (by simp;omega),List.getElem_reverse]
   simp
  ·rw[sb.2 b n1];exact J4 b o n1 n2 e
  ·rw[sb.2 _ (Ne.symm neI)];exact hSo
 ·rintro acc s' o Q' E' hlen ⟨J1,J2,J3,J4⟩ hSo k
  rw[hlen] at J3
  refine wpAny_pyNext_rev_end (l:=l) (by simp[hh]) (by rw[show (-1:Int)=(items.size:Int)-1-(acc.length:Int) by omega];exact J1) λh' eb=>k h' ⟨?_,λb o n1 n2 e=>eb b o n1 (J4 b o n1 n2 e)⟩ (eb _ _ (Ne.symm neI) hSo)
  rw[J3,List.take_of_length_le]
  simp
 ·exact⟨by simpa using hi2,hl2,rfl,λb o _ n2 e=>up2 b o n2 e⟩
 ·refine q h' c ?_ λb o n1 e=>hF.2 b o n1 (Nat.ne_of_lt (Heap.lt_size e)) e
  rw[hS',<-hF.1]
end
end L2.R2
set_option Elab.async false
set_option linter.all false
set_option maxRecDepth 100000
set_option maxHeartbeats 1000000
namespace L2.R2
open PySem PySem.Spec PyProof.Rows L2
theorem AO:bootBuiltins "sorted" = some (.builtin "sorted"):=by decide +kernel
theorem LZ:bootBuiltins "set" = some (.type "set"):=by decide +kernel
theorem BQ {prog:Program} {w:World}:∀{ns:List Int} {us:List Value},Vals (ns.map V.int) us->ItemsAre (intKind prog w) ns us
 | [],_,h=>by cases h;exact .nil
 | n::ns,_,h=>by
  cases h with
  | cons h1 t =>
   obtain⟨t',rfl⟩:=h1
   exact .cons (intKind_is _ _ _ _) (BQ t)
noncomputable def uP (te:RE):RA:=λρ Q=>te ρ λx=>∃nss:List (List Int),x = .lst (nss.map jS)/\nss.length<64/\(∀ns∈nss,ns≠[])/\∀mss:List (List Int),mss.Pairwise (λx y=>dY y x=false)->(∀ns,ns∈mss↔ns∈nss)->mss.length<=nss.length->Q (mss.map jS)
noncomputable def uO (te:RE):RA:=λρ Q=>te ρ λx=>∃ds:List D,x = .lst ds/\Q ds.reverse
theorem CV {K:PySem.W.Frag} {H:Hp}:∀(out:List Value) (mss:List (List Int)),out.length=mss.length->(∀(i:Nat) (v:Value),out[i]? = some v->∃a,v = .ref a/\H a=some (.tup ((mss.getD i []).map V.int)))->∃ws:List V,Vals ws out/\Reps K H (mss.map jS) ws
 | [],[],_,_=>⟨[],.nil,.nil⟩
 | [],_::_,h,_=>by simp at h
 | _::_,[],h,_=>by simp at h
 | v::out,ms::mss,h,k=>by
  obtain⟨ws,h1,h2⟩:=CV (K:=K) (H:=H) out mss (by simpa using h) λi v e=>k (i+1) v (by simpa using e)
  obtain⟨a,rfl,ha⟩:=k 0 v rfl
  exact⟨.ref a::ws,.cons rfl h1,.cons (.tup ha Reps.ints) h2⟩
section
variable {X:Cx} {e:Expr} {te:RE} {p pz pos posz:Pos}
theorem EL {k:Nat} (hr:Room k X.A) (hms:X.mg "sorted" = none) (hmz:X.mg "set" = none) (hc:X.calm=true) (h:DB X e te) (hgs:Gl X "sorted":=by rfl) (hgz:Gl X "set":=by rfl)
  (hs:starEach [.Call (.Name "set" pz) [e] [] posz] X.env=[(false,eval (.Call (.Name "set" pz) [e] [] posz) X.env)]:=by rfl) (hn:starEach [] X.env=[]:=by rfl) (h1:starEach [e] X.env=[(false,eval e X.env)]:=by rfl) :
  DO X (.Call (.Name "sorted" p) [.Call (.Name "set" pz) [e] [] posz] [] pos) (uP te):=by
 intro pins s σ H Q I hh_0
 obtain⟨ρ,P,st,q,kq⟩:=hh_0
 refine wpAny_Call_Name_kw (gN I hgs hms AO ?_)
 refine PyProof.Rows.callWith_builtin1 ?_ (by rw[hs,hn]) (by rw[hn];rfl)
 rw[hs]
 show wpAny _ _ (spliced ((false,eval (.Call (.Name "set" pz) [e] [] posz) X.env)::backTo pos [])) _ _ s
 refine Calls.spliced_cons (wpAny_Call_Name_kw (gN I hgz hmz LZ ?_))
 refine PyProof.Rows.callWith_type1 (thn (iC h h1 hn posz pins s σ H (λvs H1=>∃(nss:List (List Int)) (v:V),vs=[v]/\Same H H1/\RepB X.K H1 (.lst (nss.map jS)) v/\nss.length<64/\(∀ns∈nss,ns≠[])/\∀mss:List (List Int),mss.Pairwise (λx y=>dY y x=false)->(∀ns,ns∈mss↔ns∈nss)->mss.length<=nss.length->P (mss.map jS)) I
  ⟨ρ,_,st,q,λx v H1 hx s1 r1=>?_⟩) λus s1 ⟨vs,H1,I1,r1,q1⟩=>?_) (by rw[h1,hn]) (by rw[hn];rfl)
 ·obtain⟨nss,rfl,a1,a2,a3⟩:=hx
  exact⟨nss,v,rfl,s1,r1,a1,a2,a3⟩
 obtain⟨nss,v,rfl,s01,rb,h64,hne,hP⟩:=q1
 obtain⟨l,vs,rfl,hq,rr⟩:=rb.lst
 obtain⟨u,rfl,rx⟩:=jT r1
 cases rx
 obtain⟨its,rv,pl,hz⟩:=I1.list hq
 have l1:=rr.length
 have l2:=rv.length
 rw[List.length_map] at l1
 have each:∀(i:Nat) (u:Value),its[i]? = some u->∃ns a,nss[i]? = some ns/\vs[i]? = some (.ref a)/\u = .ref a/\IsTupleKey (intKind X.prog X.w) s1.heap ns a:=λi u e=>by
  have hi:i<nss.length:=by have:=(List.getElem?_eq_some_iff.mp e).1;omega
  obtain⟨v,e1,e2⟩:=rr.get (i:=i) (d:=jS nss[i]) (by rw[List.getElem?_map,List.getElem?_eq_getElem hi];rfl)
  obtain⟨a,rfl,ha⟩:=Reps.tupI_inv e2
  obtain⟨u',f1,f2⟩:=rv.get e1
  rw[e] at f1;cases f1
  cases f2
  obtain⟨ts,g1,g2,_⟩:=I1.tuple (SqT.of (K:=X.K) ha)
  obtain⟨o,go,gc,n,gd⟩:=g2
  exact⟨_,a,List.getElem?_eq_getElem hi,e1,rfl,o,ts.toArray,n,go,gc,gd,by simpa using BQ g1⟩
 have hu:=hr.un
 refine vL (key:=λi=>nss.getD i []) (I1.ok.hd hc) (by omega) pl.isList (λi u e=>?_) (by simp;omega) λh2 tk D up=>?_
 ·obtain⟨ns,a,n1,_,rfl,hk⟩:=each i u (by simpa using e)
  refine⟨a,rfl,?_⟩
  have:nss.getD i []=ns:=by rw[List.getD_eq_getElem?_getD,n1];rfl
  rw[this];exact hk
 refine Calls.spliced_nil ?_
 obtain⟨es,ST,d1,d2,d3⟩:=D
 have keyAt:∀{ns:List Int} {a:Addr},IsTupleKey (intKind X.prog X.w) s1.heap ns a->IsTupleKey (intKind X.prog X.w) h2 ns a:=λ⟨o,its,n,g1,g2⟩=>⟨o,its,n,up _ _ g1,g2⟩
 have elem:∀e∈es.toList,∃(i:Nat) (ns:List Int) (a:Addr),nss[i]? = some ns/\vs[i]? = some (.ref a)/\e.2 = .ref a/\IsTupleKey (intKind X.prog X.w) h2 ns a:=λe he=>by
  obtain⟨j,hj,ej⟩:=d1 e he
  obtain⟨ns,a,n1,n2,n3,hk⟩:=each j e.2 (by simpa using ej)
  exact⟨j,ns,a,n1,n2,n3,keyAt hk⟩
 refine rK (s:={ s1 with heap:=h2,toks:=tk }) (A:=X.A) (I1.ok.hd hc) ST (by simp at d3;omega) (nss:=nss) hne (λe he=>?_) λh3 Dd out mss c big g1 g2 g3 g4 g5 g6 up3=>?_
 ·obtain⟨i,ns,a,n1,n2,n3,hk⟩:=elem e he
  exact⟨ns,List.mem_of_getElem? n1,a,n3,hk⟩
 have kp:∀b o,s1.heap.get? b=some o->h3.get? b=some o:=λb o e=>up3 b o (up b o e)
 have I3:Inv X pins σ H1 { s1 with heap:=h3,toks:=tk }:=I1.kept kp
 have szS:s1.heap.objs.size<h2.objs.size:=by obtain⟨⟨ep,t,ho,_⟩,_⟩:=ST;exact Heap.lt_size ho
 have big2:s1.heap.objs.size<=Dd:=by have:h2.objs.size<=Dd:=big;omega
 have hS0:H1 Dd=none:=I1.hok.fresh big2
 have tupAt:∀{i:Nat} {ns:List Int} {a:Addr},nss[i]? = some ns->vs[i]? = some (.ref a)->H1 a=some (.tup (ns.map V.int)):=λ{i ns a} n1 n2=>by
  obtain⟨w,f1,f2⟩:=rr.get (i:=i) (d:=jS ns) (by rw[List.getElem?_map,n1];rfl)
  rw[n2] at f1;cases f1
  obtain⟨b,e,hb⟩:=Reps.tupI_inv f2
  cases e;exact hb
 obtain⟨ws,VV,RR⟩:=CV (K:=X.K) (H:=H1) out mss g2.1 λi v e=>by
  obtain⟨x,hx,ex⟩:=g3 v (List.mem_of_getElem? e)
  obtain⟨j,ns,a,n1,n2,n3,hk⟩:=elem x hx
  obtain⟨b,eb,hb⟩:=g2.2 i v e
  rw[<-ex,n3] at eb;cases eb
  refine⟨a,by rw[<-ex,n3],?_⟩
  have hk3:IsTupleKey (intKind X.prog X.w) h3 ns a:=by obtain⟨o,its,n,q1,q2⟩:=hk;exact⟨o,its,n,up3 _ _ q1,q2⟩
  rw[hb.inj hk3]
  exact tupAt n1 n2
 have lo:out.length<=64:=by rw[g2.1,g6];simp at d3;omega
 have lw:=VV.length
 have I4:=I1.trackO (a:=Dd) (w:=.lst ws) I3 big2 hS0 ⟨by rw[sizeLine_eq];omega,out,c,VV,g1⟩
 refine⟨.ref Dd,_,I4,rfl,kq _ _ _ H1 (hP mss g5 (λns=>?_) (by rw[g6];simp at d3;omega)) s01 hS0 RR⟩
 rw[g4 ns]
 constructor
 ·rintro⟨x,hx,a,e1,e2⟩
  obtain⟨j,ms,b,n1,n2,n3,hk⟩:=elem x hx
  rw[e1] at n3;cases n3
  rw[e2.inj hk];exact List.mem_of_getElem? n1
 ·intro h
  obtain⟨j,hj,rfl⟩:=List.getElem_of_mem h
  obtain⟨y,hy,b,e1,e2⟩:=d2 j (by simp;omega)
  refine⟨y,hy,b,e1,?_⟩
  have:nss.getD j []=nss[j]:=by simp[hj]
  rw[this] at e2;exact e2
theorem EK (hml:X.mg "list" = none) (hmz:X.mg "reversed" = none) (hc:X.calm=true) (h:DB X e te) (hgl:Gl X "list":=by rfl) (hgz:Gl X "reversed":=by rfl)
  (hs:starEach [.Call (.Name "reversed" pz) [e] [] posz] X.env=[(false,eval (.Call (.Name "reversed" pz) [e] [] posz) X.env)]:=by rfl) (hn:starEach [] X.env=[]:=by rfl) (h1:starEach [e] X.env=[(false,eval e X.env)]:=by rfl) :
  DO X (.Call (.Name "list" p) [.Call (.Name "reversed" pz) [e] [] posz] [] pos) (uO te):=by
 intro pins s σ H Q I hh_0
 obtain⟨ρ,P,st,q,kq⟩:=hh_0
 refine wpAny_Call_Name_kw (gN I hgl hml wQ ?_)
 refine PyProof.Rows.callWith_type1 ?_ (by rw[hs,hn]) (by rw[hn];rfl)
 rw[hs]
 show wpAny _ _ (spliced ((false,eval (.Call (.Name "reversed" pz) [e] [] posz) X.env)::backTo pos [])) _ _ s
 refine Calls.spliced_cons (wpAny_Call_Name_kw (gN I hgz hmz mL ?_))
 refine PyProof.Rows.callWith_type1 (thn (iC h h1 hn posz pins s σ H (λvs H1=>∃(ds:List D) (v:V),vs=[v]/\Same H H1/\RepB X.K H1 (.lst ds) v/\P ds.reverse) I
  ⟨ρ,_,st,q,λx v H1 hx s1 r1=>?_⟩) λus s1 ⟨vs,H1,I1,r1,q1⟩=>?_) (by rw[h1,hn]) (by rw[hn];rfl)
 ·obtain⟨ds,rfl,a1⟩:=hx
  exact⟨ds,v,rfl,s1,r1,a1⟩
 obtain⟨ds,v,rfl,s01,rb,hP⟩:=q1
 obtain⟨l,vs,rfl,hq,rr⟩:=rb.lst
 obtain⟨u,rfl,rx⟩:=jT r1
 cases rx
 obtain⟨its,rv,pl,hz⟩:=I1.list hq
 have l1:=rr.length
 have l2:=rv.length
 have lt:l<s1.heap.objs.size:=by obtain⟨o,e,_⟩:=pl.isList;exact Heap.lt_size e
 refine call_reversed_list pl.isList ?_
 refine Calls.spliced_nil ?_
 have g0:(s1.heap.push (revObj l ((its.toArray.size:Int)-1))).get? s1.heap.objs.size=some (revObj l ((its.toArray.size:Int)-1)):=Heap.get?_push_size _ rfl
 have k1:∀b o,s1.heap.get? b=some o->(s1.heap.push (revObj l ((its.toArray.size:Int)-1))).get? b=some o:=λb o e=>Heap.get?_push_of_some _ e
 have z1:(s1.heap.push (revObj l ((its.toArray.size:Int)-1))).objs.size=s1.heap.objs.size+1:=Heap.size_push ..
 generalize s1.heap.push (revObj l ((its.toArray.size:Int)-1))=h2 at g0 k1 z1
 refine vJ (s:={ s1 with heap:=h2 }) (A:=X.A) (l:=l) (I1.ok.hd hc) (Nat.ne_of_lt lt) (by simp;omega) ⟨_,g0,rfl,rfl⟩ (pl.isList.at λo e=>k1 _ o e) λh3 c g1 up=>?_
 show EP X pins σ Q (.ref h2.objs.size) _
 rw[show (Shared.heap { s1 with heap:=h2 }).objs.size=s1.heap.objs.size+1 from z1] at g1
 rw[z1]
 have kp:∀b o,s1.heap.get? b=some o->h3.get? b=some o:=λb o e=>up b o (Nat.ne_of_lt (Heap.lt_size e)) (k1 b o e)
 have I3:Inv X pins σ H1 { s1 with heap:=h3 }:=I1.kept (t':=s1.toks) kp
 have hS0:H1 (s1.heap.objs.size+1)=none:=I1.hok.fresh (Nat.le_succ _)
 have VV:Vals vs.reverse its.reverse:=by
  clear hq pl hz l1 l2 rr g1 g0
  induction rv with
  | nil=>exact .nil
  | cons r t ih =>
   simp only[List.reverse_cons]
   exact Vals.append ih (.cons r .nil)
 have I4:=I1.trackO (a:=s1.heap.objs.size+1) (w:=.lst vs.reverse) I3 (Nat.le_succ _) hS0 ⟨by simp;omega,its.reverse,c,VV,by simpa using g1⟩
 exact⟨.ref (s1.heap.objs.size+1),_,I4,rfl,kq _ _ _ H1 hP s01 hS0 rr.reverse⟩
end
section
variable {X:Cx} {tg:Expr}
noncomputable def ZA (lo:Int) (n:Nat):List D:=(List.range n).map λk:Nat=>D.int (lo+(k:Int)*2)
structure StpOk (j:Int):Prop where
 lo:-(2 ^ 60)<=j
 hi:j<2 ^ 60
noncomputable def XA (t:RA):RA:=λρ Q=>t ρ λds=>match ds with
 | [.int i,.int j,.int c]=>(StpOk i/\StpOk j/\c=2)/\Q (ZA i ((j-i+1) / 2).toNat)
 | _=>False
end
noncomputable def dN:RS :=
 aW (bE 4 (r2 dC (aB 2) (aB 3)))
 (aW (bE 2 (aU 3))
 (bE 3 (aU 4)))
noncomputable def dF:RS :=
 aW (bE 2 (rCB yR (aD (aU 0) (aN))))
 (aW (bE 3 (rCB yR (aD (aU 1) (aN))))
 (aW (nX (bD (r2 (jF true) (aB 3) (rC (.int 0)))) (dN))
 (bT (aU 2))))
noncomputable def gB:RS :=
 bT (qZ (r1 (vO "int") (aU 0)) (OQ (r1 (vO "bool") (aU 0))))
noncomputable def eO:RS :=
 WX 0 1 (aD (aU 1) (aD (r2 dC (aB 0) (aB 1)) (aN)))
noncomputable def eD:RS :=
 aW (bE 0 (rCB yR (aD (aU 0) (aN))))
 (aW (bE 1 (rCB yR (aD (aU 1) (aN))))
 (aW (nX (bD (r2 (dH λi j=>decide (j<i)) (aB 1) (rC (.int 0)))) (eO))
 (bT (aU 0))))
noncomputable def sO:RS :=
 aW (bE 3 (r2 bJ (r2 cK (r2 dIx (aB 1) (rC (.int 0))) (r2 dIx (aB 0) (rC (.int 0)))) (r2 cK (r2 dIx (aB 2) (rC (.int 1))) (r2 dIx (aB 0) (rC (.int 1))))))
 (aW (bE 4 (r2 bJ (r2 cK (r2 dIx (aB 1) (rC (.int 1))) (r2 dIx (aB 0) (rC (.int 1)))) (r2 cK (r2 dIx (aB 2) (rC (.int 0))) (r2 dIx (aB 0) (rC (.int 0))))))
 (bT (r2 cK (aB 3) (aB 4))))
noncomputable def dR:RS :=
 IB 1
noncomputable def jP (dU:FD):RS :=
 aW (nX (CU (bD (r2 (dH λi j=>decide (j<i)) (r1 gH (aB 1)) (rC (.int 1)))) (bD (r2 (dH λi j=>decide (i<=j)) (bC dU (aD (r2 dIx (aB 1) (r1 jG (rC (.int 2)))) (aD (r2 dIx (aB 1) (r1 jG (rC (.int 1)))) (aD (aU 2) (aN))))) (rC (.int 0))))) (dR))
 (rA 1 (aU 2))
noncomputable def gC (dU:FD):RS :=
 aW (iF 1 (wF (aN)))
 (aW (iZ (riL (aU 0)) (aZ 2) (jP dU))
 (bT (zZ (aB 1) (fX) (mU (r1 jG (rC (.int 1)))))))
noncomputable def kM (F_half_round:FD):RS :=
 aW (bE 1 ((λρ Q=>(uP (aB 0)) ρ λds=>Q (.lst ds))))
 (bT (r2 lF (bC F_half_round (aD (aU 1) (aN))) (bC F_half_round (aD ((λρ Q=>(uO (aB 1)) ρ λds=>Q (.lst ds))) (aN)))))
noncomputable def mW (F_shared_divisor:FD):RS :=
 bE 3 (bC F_shared_divisor (aD (bC F_shared_divisor (aD (aU 3) (aD (aU 4) (aN)))) (aD (aU 5) (aN))))
noncomputable def kN (cN:FD) (F_shared_divisor:FD):RS :=
 aW (bE 2 (bC cN (aD (aU 1) (aN))))
 (aW (dZ (bD (r2 (dH λi j=>decide (i<j)) (r1 gH (aB 2)) (rC (.int 3)))) (bT (rC .non)) (cJ))
 (aW (bE 3 (aU 0))
 (aW (iZ (riL (aU 2)) (iH 2 (bU (aZ 4) (bU (aZ 5) (iG)))) (mW F_shared_divisor))
 (bT (gJ (aD (r2 cV (aB 0) (aB 3)) (aD (r1 tH ((λρ Q=>(fH (riL (aU 2)) 2 [3] (iH 2 (bU (aZ 0) (bU (aZ 1) (iG)))) (gJ (aD (r2 cV (aB 0) (aB 2)) (aD (r2 cV (aB 1) (aB 2)) (aN))))) ρ λds=>Q (.lst ds)))) (aN))))))))
noncomputable def jN:RS :=
 bE 0 (r2 cV (aB 0) (aB 1))
noncomputable def fY:RS :=
 aW (iZ (qQ (aD (aU 2) (aN))) (aZ 3) (jN))
 (bT (r2 dC (aB 0) (aB 1)))
noncomputable def eQ:RS :=
 aW (bE 4 (rC (.int 0)))
 (aW (dZ (bD (r2 (dH λi j=>decide (j<i)) (r1 gH (aB 0)) (rC (.int 0)))) (bE 4 (r2 dC (r2 dIx (aB 0) (r2 dC (aB 3) (rCB wY (aD (r1 gH (aB 0)) (aD (rC (.int 63)) (aN)))))) (r2 cT (r2 pT (rC (.int 10)) (rC (.int 60))) (rC (.int 7))))) (cJ))
 (aW (bE 5 (r2 dC (aB 3) (aB 1)))
 (qO 2 (r2 dC (r2 cT (r2 cT (r2 bJ (r2 dIx (aB 2) (aB 5)) (rC (.int 48271))) (aB 4)) (r2 bJ (aB 3) (aB 3))) (r2 cT (r2 pT (rC (.int 10)) (rC (.int 60))) (rC (.int 7)))) (aU 5))))
noncomputable def eF:RS :=
 aW (iF 2 (fH (qQ (aD (aU 1) (aN))) 1 [] (aZ 0) (rC (.int 0))))
 (aW (iZ (qQ (aD (rCB wX (aD (aU 1) (aD (rCB wY (aD (r1 gH (aB 0)) (aD (rC (.int 63)) (aN)))) (aN)))) (aN))) (aZ 3) (eQ))
 ((λE ρ=>(bT (aU 2)) E (tR 2 ρ))))
noncomputable def jO:RS :=
 rA 2 (r2 cT (r2 cT (r2 dIx (aB 2) (r1 jG (rC (.int 1)))) (rC (.int 1))) (r2 dC (r2 cV (aB 0) (r2 cT (rC (.int 4)) (r2 bJ (rC (.int 3)) (aB 3)))) (rC (.int 3))))
noncomputable def fZ:RS :=
 aW (iF 2 (wF (aD (r2 cK (r2 dC (aB 0) (rC (.int 4))) (rC (.int 4))) (aN))))
 (aW (iZ (qQ (aD (r2 cK (aB 1) (rC (.int 1))) (aN))) (aZ 3) (jO))
 ((λE ρ=>(bT (aU 2)) E (tR 2 ρ))))
noncomputable def eI:RS :=
 bT (r2 dIx ((λρ Q=>(wF (aD (rC (.int 1)) (aD (r2 cT (rC (.int 1)) (r2 dC (r2 cV (aB 0) (rC (.int 3))) (rC (.int 12)))) (aD (r2 cT (rC (.int 1)) (r2 dC (r2 cV (aB 0) (rC (.int 3))) (r2 pT (rC (.int 10)) (rC (.int 9))))) (aN))))) ρ λds=>Q (.lst ds))) (r2 dC (aB 0) (rC (.int 3))))
noncomputable def lR (As:FD):RS :=
 bE 2 (bC As (aD (bC As (aD (aU 2) (aD (aU 3) (aN)))) (aD (aU 4) (aN))))
noncomputable def iR (As:FD):RS :=
 aW (bE 2 (aU 0))
 (aW (iZ (riL (aU 1)) (iH 2 (bU (aZ 3) (bU (aZ 4) (iG)))) (lR As))
 (aW (iF 5 (fH (riL (aU 1)) 2 [2] (iH 2 (bU (aZ 0) (bU (aZ 1) (iG)))) (gJ (aD (r2 cV (aB 0) (aB 2)) (aD (r2 cV (aB 1) (aB 2)) (aN))))))
 (aW (bE 6 (FN (aB 5) (r1 GU (aB 5))))
 (bT (gJ (aD (r2 cV (aB 0) (aB 2)) (aD (r1 tH (r2 lF (zZ (aB 5) (mU (aU 6)) (fX)) (zZ (aB 5) (fX) (mU (aU 6))))) (aN))))))))
noncomputable def gD:RS :=
 bT ((λρ Q=>(FO (aB 0) (r2 lF (zZ (aB 0) (mU (rC (.int 1))) (fX)) (zZ (aB 0) (fX) (mU (rC (.int 1)))))) ρ λds=>Q (.lst ds)))
noncomputable def mE:RS :=
 bT (r2 cK (r2 cT (r2 bJ (r2 dIx (aB 0) (rC (.int 0))) (r2 dIx (aB 1) (rC (.int 0)))) (r2 bJ (r2 dIx (aB 0) (rC (.int 1))) (r2 dIx (aB 1) (rC (.int 1))))) (r2 bJ (r2 dIx (aB 0) (rC (.int 2))) (aB 2)))
noncomputable def kU (Bg:FD):RS :=
 rA 2 (rCB wX (aD (r2 cK (bC Bg (aD (aU 1) (aD (rC (.int 11)) (aD (aU 3) (aN))))) (rC (.int 5))) (aD (r1 jG (rC (.int 1))) (aN))))
noncomputable def gW (Bg:FD):RS :=
 aW (bE 1 (r2 cT (r2 bJ (aB 1) (rC (.int 982451653))) (r2 bJ (rC (.int 314159265358979)) (r2 pT (rC (.int 10)) (rC (.int 11))))))
 (aW (iF 2 (wF (aN)))
 (aW (iZ (qQ (aD (r1 gH (aB 0)) (aN))) (aZ 3) (kU Bg))
 (aW (qO 2 (rCB wX (aD (rC (.int 1)) (aD (r2 cT (r2 cK (rC (.int 1)) (r1 EJ (aB 2))) (r2 dIx (aB 2) (r2 dC (aB 1) (r1 gH (aB 0))))) (aN)))) (r2 dC (aB 1) (r1 gH (aB 0))))
 (aW ((λE ρ=>(bE 4 (r1 EJ ((λρ Q=>(fH (IC (aU 2) (aU 0)) 2 [] (iH 2 (bU (aZ 0) (bU (aZ 1) (iG)))) (r2 bJ (aB 0) (r2 dIx (aB 1) (rC (.int 0))))) ρ λds=>Q (.lst ds))))) E (tR 2 ρ)))
 (aW ((λE ρ=>(bE 5 (r1 EJ ((λρ Q=>(fH (IC (aU 2) (aU 0)) 2 [] (iH 2 (bU (aZ 0) (bU (aZ 1) (iG)))) (r2 bJ (aB 0) (r2 dIx (aB 1) (rC (.int 1))))) ρ λds=>Q (.lst ds))))) E (tR 2 ρ)))
 (bT (gJ (aD (aU 4) (aD (aU 5) (aD (r1 EJ (aB 2)) (aN)))))))))))
noncomputable def iU:RS :=
 aW (bE 4 (rCB yR (aD (aU 1) (aN))))
 (aW (bE 5 (rCB yR (aD (aU 3) (aN))))
 (bT (gJ (aD (r2 cT (r2 bJ (r2 dIx (aB 0) (rC (.int 0))) (aB 5)) (r2 bJ (r2 dIx (aB 2) (rC (.int 0))) (aB 4))) (aD (r2 cT (r2 bJ (r2 dIx (aB 0) (rC (.int 1))) (aB 5)) (r2 bJ (r2 dIx (aB 2) (rC (.int 1))) (aB 4))) (aD (r2 cT (aB 4) (aB 5)) (aN)))))))
noncomputable def gQ (F_crossing:FD):RS :=
 aW (dZ (bD (r2 (dH λi j=>decide (i<=j)) (r2 dIx (aB 3) (rC (.int 1))) (rC (.int 0)))) (rA 2 (gJ (aD (r2 dIx (r2 dIx (aB 3) (rC (.int 0))) (rC (.int 0))) (aD (r2 dIx (r2 dIx (aB 3) (rC (.int 0))) (rC (.int 1))) (aD (rC (.int 1)) (aN)))))) (cJ))
 (dZ (bD (r2 (dH λi j=>decide (i<j)) (r2 bJ (r2 dIx (aB 3) (rC (.int 1))) (r2 dIx (aB 4) (rC (.int 1)))) (rC (.int 0)))) (rA 2 (bC F_crossing (aD (r2 dIx (aB 3) (rC (.int 0))) (aD (r2 dIx (aB 3) (rC (.int 1))) (aD (r2 dIx (aB 4) (rC (.int 0))) (aD (r2 dIx (aB 4) (rC (.int 1))) (aN))))))) (cJ))
noncomputable def dS (F_crossing:FD) (F_neighbours:FD):RS :=
 aW (iF 2 (wF (aN)))
 (aW (iZ (riL (bC F_neighbours (aD ((λρ Q=>(FO (aB 0) (aB 1)) ρ λds=>Q (.lst ds))) (aN)))) (iH 2 (bU (aZ 3) (bU (aZ 4) (iG)))) (gQ F_crossing))
 ((λE ρ=>(bT (aU 2)) E (tR 2 ρ))))
noncomputable def iV:RS :=
 bE 5 (r2 bJ (aB 5) (r2 dIx (aB 6) (rC (.int 2))))
noncomputable def fE (cZ:FD) (F_points_within:FD) (cO:FD):RS :=
 aW (bE 2 (r2 dIx (aB 0) (rC (.int 0))))
 (aW (iF 3 (fH (riT (r2 dIx (aB 0) (rC (.int 1)))) 1 [1,2] (aZ 0) (bC cZ (aD (aU 1) (aD (aU 0) (aD (aU 2) (aN)))))))
 (aW (dZ (bD (r2 (dH λi j=>decide (i<=j)) (r1 AZ (aB 3)) (rC (.int 0)))) (bT (aU 0)) (cJ))
 (aW (dZ (bD (r2 (dH λi j=>decide (j<=i)) (r1 GT (aB 3)) (rC (.int 0)))) (bT (rC .non)) (cJ))
 (aW ((λE ρ=>(bE 4 (bC F_points_within (aD (r2 dIx (aB 0) (rC (.int 1))) (aD (aU 3) (aN))))) E (tR 3 ρ)))
 (aW (bE 5 (rC (.int 1)))
 (aW (iZ (riL (aU 4)) (aZ 6) (iV))
 (aW (iF 7 (fH (riL (aU 4)) 3 [5] (iH 3 (bU (aZ 0) (bU (aZ 1) (bU (aZ 2) (iG))))) (gJ (aD (r2 bJ (aB 0) (r2 cV (aB 3) (aB 2))) (aD (r2 bJ (aB 1) (r2 cV (aB 3) (aB 2))) (aN))))))
 ((λE ρ=>(bT (bC cO (aD (r2 bJ (aB 2) (aB 5)) (aD (aU 7) (aN))))) E (tR 7 ρ))))))))))
noncomputable def AA (F_part_within:FD):RS :=
 aW (bE 2 (gJ (aD (r1 jG (r2 dIx (aB 1) (rC (.int 0)))) (aD (r1 jG (r2 dIx (aB 1) (rC (.int 1)))) (aD (r1 jG (r2 dIx (aB 1) (rC (.int 2)))) (aN))))))
 (bT (gJ (aD (bC F_part_within (aD (aU 0) (aD (aU 1) (aN)))) (aD (bC F_part_within (aD (aU 0) (aD (aU 2) (aN)))) (aN)))))
noncomputable def dM (Bm:FD):RS :=
 aW (bE 2 (bC Bm (aD (r2 cV (r2 dIx (aB 0) (rC (.int 0))) (rC (.int 4))) (aD (r2 cT (rC (.int 2)) (r2 dC (r2 dIx (aB 0) (rC (.int 0))) (rC (.int 3)))) (aN)))))
 (aW (bE 3 (bC Bm (aD (r2 cV (r2 dIx (aB 0) (rC (.int 1))) (rC (.int 4))) (aD (r2 cT (rC (.int 1)) (r2 dC (r2 dIx (aB 0) (rC (.int 1))) (rC (.int 3)))) (aN)))))
 (aW (bE 4 (r2 cT (r2 cT (r2 bJ (rC (.int 2)) (r1 AZ ((λρ Q=>(fH (riL (r2 lF (aB 2) (aB 3))) 1 [] (aZ 0) (r2 bJ (aB 0) (aB 0))) ρ λds=>Q (.lst ds))))) (rC (.int 1))) (r2 dC (r2 dIx (aB 0) (rC (.int 2))) (rC (.int 9)))))
 (aW (bE 5 (r2 lF ((λρ Q=>(fH (riL (aU 2)) 1 [] (aZ 0) (gJ (aD (aU 0) (aD (r2 bJ (aB 0) (aB 0)) (aN))))) ρ λds=>Q (.lst ds))) ((λρ Q=>(fH (OY (aU 3)) 1 [4] (aZ 0) (gJ (aD (aU 0) (aD (r2 cK (aB 1) (r2 bJ (aB 0) (aB 0))) (aN))))) ρ λds=>Q (.lst ds)))))
 (aW (bE 6 (r2 cT (rC (.int 1)) (r2 dC (r2 dIx (aB 0) (rC (.int 3))) (rC (.int 3)))))
 (aW (bE 7 (r2 cK (r2 dC (r2 cV (r2 dIx (aB 0) (rC (.int 3))) (rC (.int 3))) (rC (.int 7))) (rC (.int 3))))
 (aW (bE 8 (r2 cK (r2 dC (r2 dIx (aB 0) (rC (.int 4))) (rC (.int 7))) (rC (.int 3))))
 (aW (bE 9 (r2 cT (r2 cT (r2 cV (r2 bJ (aB 7) (aB 8)) (aB 6)) (rC (.int 1))) (r2 dC (r2 cV (r2 dIx (aB 0) (rC (.int 4))) (rC (.int 7))) (rC (.int 3)))))
 (aW (bE 10 (gJ (aD (r2 cK (r2 dC (r2 dIx (aB 0) (rC (.int 5))) (r2 cT (r2 bJ (rC (.int 2)) (aB 1)) (rC (.int 1)))) (aB 1)) (aD (r2 cK (r2 dC (r2 dIx (aB 0) (rC (.int 6))) (r2 cT (r2 bJ (rC (.int 2)) (aB 1)) (rC (.int 1)))) (aB 1)) (aN)))))
 (bT ((λρ Q=>(fH (riL (aU 5)) 2 [6,7,10,8,9] (iH 2 (bU (aZ 0) (bU (aZ 1) (iG)))) (gJ (aD (r2 cT (r2 cT (r2 bJ (aB 2) (aB 0)) (r2 bJ (aB 3) (aB 1))) (r2 dIx (aB 4) (rC (.int 0)))) (aD (r2 cT (r2 cT (r2 bJ (aB 5) (aB 0)) (r2 bJ (aB 6) (aB 1))) (r2 dIx (aB 4) (rC (.int 1)))) (aN))))) ρ λds=>Q (.lst ds))))))))))))
noncomputable def gU:RS :=
 aW (bE 2 (r2 cK (r2 bJ (r2 dIx (aB 0) (rC (.int 1))) (r2 dIx (aB 1) (rC (.int 2)))) (r2 bJ (r2 dIx (aB 1) (rC (.int 1))) (r2 dIx (aB 0) (rC (.int 2))))))
 (aW (bE 3 (r2 cK (r2 bJ (r2 dIx (aB 1) (rC (.int 0))) (r2 dIx (aB 0) (rC (.int 2)))) (r2 bJ (r2 dIx (aB 0) (rC (.int 0))) (r2 dIx (aB 1) (rC (.int 2))))))
 (aW (dZ (CU (bD (r2 (jF false) (aB 2) (rC (.int 0)))) (bD (r2 (jF false) (aB 3) (rC (.int 0))))) (bT (gJ (aD (rC (.int 1)) (aD (rC (.int 0)) (aD (r2 cV (r2 dIx (aB 0) (rC (.int 0))) (r2 dIx (aB 0) (rC (.int 2)))) (aN)))))) (cJ))
 (bT (gJ (aD (aU 2) (aD (aU 3) (aD (r2 cK (r2 bJ (r2 dIx (aB 0) (rC (.int 1))) (r2 dIx (aB 1) (rC (.int 0)))) (r2 bJ (r2 dIx (aB 0) (rC (.int 0))) (r2 dIx (aB 1) (rC (.int 1))))) (aN))))))))
noncomputable def iS:RS :=
 aW (bE 6 (r2 dIx (aB 3) (r2 cK (aB 5) (rC (.int 1)))))
 (aW (bE 7 (r2 cK (r2 bJ (r2 dIx (aB 1) (rC (.int 0))) (aB 2)) (r2 bJ (r2 dIx (aB 6) (rC (.int 0))) (r2 dIx (aB 1) (rC (.int 2))))))
 (aW (bE 8 (r2 cK (r2 bJ (r2 dIx (aB 1) (rC (.int 1))) (aB 2)) (r2 bJ (r2 dIx (aB 6) (rC (.int 1))) (r2 dIx (aB 1) (rC (.int 2))))))
 (aW (bE 9 (r2 cK (r2 bJ (r2 cK (r2 dIx (r2 dIx (aB 3) (aB 5)) (rC (.int 0))) (r2 dIx (aB 6) (rC (.int 0)))) (aB 8)) (r2 bJ (r2 cK (r2 dIx (r2 dIx (aB 3) (aB 5)) (rC (.int 1))) (r2 dIx (aB 6) (rC (.int 1)))) (aB 7))))
 (dZ (rOr (bD (r2 (tF false) (aB 4) (rC .non))) (bD (r2 (dH λi j=>decide (i<j)) (aB 9) (aB 4)))) (bE 4 (aU 9)) (cJ)))))
noncomputable def fC:RS :=
 aW (SM (aU 0) (iH 2 (bU (aZ 2) (bU (aZ 3) (iG)))))
 (aW (bE 4 (rC .non))
 (aW (iZ (qQ (aD (r1 gH (aB 3)) (aN))) (aZ 5) (iS))
 (bT (r2 cK (rCB MJ (aD (r2 (dH λi j=>decide (j<i)) (aB 4) (rC (.int 0))) (aN))) (rCB MJ (aD (r2 (dH λi j=>decide (i<j)) (aB 4) (rC (.int 0))) (aN)))))))
noncomputable def kT:RS :=
 aW (bE 3 (r2 dIx (r2 dIx (aB 0) (rC (.int 1))) (r2 cK (aB 2) (rC (.int 1)))))
 (aW (bE 4 (r2 dIx (r2 dIx (aB 0) (rC (.int 1))) (aB 2)))
 (bE 1 (r2 cK (r2 cT (aB 1) (r2 bJ (r2 dIx (aB 3) (rC (.int 0))) (r2 dIx (aB 4) (rC (.int 1))))) (r2 bJ (r2 dIx (aB 3) (rC (.int 1))) (r2 dIx (aB 4) (rC (.int 0)))))))
noncomputable def eY:RS :=
 aW (dZ (bD (r2 (tF false) (aB 0) (rC .non))) (bT (gJ (aD (rC (.int 0)) (aD (rC (.int 1)) (aN))))) (cJ))
 (aW (bE 1 (rC (.int 0)))
 (aW (iZ (qQ (aD (r1 gH (r2 dIx (aB 0) (rC (.int 1)))) (aN))) (aZ 2) (kT))
 (bT (gJ (aD (aU 1) (aD (r2 bJ (r2 dIx (aB 0) (rC (.int 0))) (r2 dIx (aB 0) (rC (.int 0)))) (aN)))))))
noncomputable def gX:RS :=
 aW (bE 3 (r2 bJ (r2 cK (r2 dIx (aB 1) (rC (.int 0))) (r2 dIx (aB 0) (rC (.int 0)))) (r2 cK (r2 dIx (aB 2) (rC (.int 1))) (r2 dIx (aB 1) (rC (.int 1))))))
 (bT (r2 cK (aB 3) (r2 bJ (r2 cK (r2 dIx (aB 1) (rC (.int 1))) (r2 dIx (aB 0) (rC (.int 1)))) (r2 cK (r2 dIx (aB 2) (rC (.int 0))) (r2 dIx (aB 1) (rC (.int 0)))))))
noncomputable def eA (Bb:FD):RS :=
 aW (dZ (rOr (nW (bD (r1 (vO "tuple") (aU 1)))) (bD (r2 (jF true) (r1 gH (aB 1)) (rC (.int 2))))) (bT (rC (.bl false))) (cJ))
 (dZ (rOr (nW (bD (bC Bb (aD (r2 dIx (aB 1) (rC (.int 0))) (aN))))) (nW (bD (bC Bb (aD (r2 dIx (aB 1) (rC (.int 1))) (aN)))))) (bT (rC (.bl false))) (cJ))
noncomputable def cM (Bb:FD):RS :=
 aW (dZ (rOr (nW (bD (r1 (vO "tuple") (aU 0)))) (rOr (bD (r2 (jF true) (r1 gH (aB 0)) (rC (.int 2)))) (rOr (nW (bD (bC Bb (aD (r2 dIx (aB 0) (rC (.int 0))) (aN))))) (bD (r2 (dH λi j=>decide (i<j)) (r2 dIx (aB 0) (rC (.int 0))) (rC (.int 1))))))) (bT (rC (.bl false))) (cJ))
 (aW (dZ (rOr (nW (bD (r1 (vO "tuple") (r2 dIx (aB 0) (rC (.int 1)))))) (bD (r2 (dH λi j=>decide (i<j)) (r1 gH (r2 dIx (aB 0) (rC (.int 1)))) (rC (.int 3))))) (bT (rC (.bl false))) (cJ))
 (aW (iZ (riT (r2 dIx (aB 0) (rC (.int 1)))) (aZ 1) (eA Bb))
 (bT (rC (.bl true)))))
noncomputable def gP (As:FD) (Bp:FD):RS :=
 aW (bE 3 (bC As (aD (bC As (aD (aU 3) (aD (r2 dIx (r2 dIx (aB 2) (aB 5)) (rC (.int 0))) (aN)))) (aD (r2 dIx (r2 dIx (aB 2) (aB 5)) (rC (.int 1))) (aN)))))
 (aW (dZ (bD (r2 (dH λi j=>decide (i<=j)) (bC Bp (aD (r2 dIx (aB 2) (r2 cK (aB 5) (rC (.int 2)))) (aD (r2 dIx (aB 2) (r2 cK (aB 5) (rC (.int 1)))) (aD (r2 dIx (aB 2) (aB 5)) (aN))))) (rC (.int 0)))) (bT (rC (.bl false))) (cJ))
 (dZ (CU (bD (r2 (QP) (r2 dIx (aB 2) (r2 cK (aB 5) (rC (.int 1)))) (r2 dIx (aB 2) (r2 cK (aB 5) (rC (.int 2)))))) (bD (r2 (QP) (r2 dIx (aB 2) (r2 cK (aB 5) (rC (.int 1)))) (r2 dIx (aB 2) (aB 5))))) (bE 4 (r2 cT (aB 4) (rC (.int 1)))) (cJ)))
noncomputable def dQ (As:FD) (Ax:FD) (Bp:FD):RS :=
 aW (dZ (nW (bD (bC Ax (aD (aU 0) (aN))))) (bT (rC (.bl false))) (cJ))
 (aW (SM (aU 0) (iH 2 (bU (aZ 1) (bU (aZ 2) (iG)))))
 (aW (bE 3 (aU 1))
 (aW (bE 4 (rC (.int 0)))
 (aW (iZ (qQ (aD (r1 gH (aB 2)) (aN))) (aZ 5) (gP As Bp))
 (bT (qZ (r2 (jF false) (aB 3) (rC (.int 1))) (qZ (r2 (jF false) (aB 4) (rC (.int 1))) (r2 (dEq) (r2 dIx (aB 2) (rC (.int 0))) (r1 GU (aB 2))))))))))
noncomputable def eE (Av:FD):RS :=
 aW (dZ (bD (r2 (jF false) (r2 dC (aB 2) (rC (.int 3))) (rC (.int 0)))) (aW (bE 3 (r2 dIx (aB 0) (r2 dC (r2 cV (aB 2) (rC (.int 3))) (r1 gH (aB 0)))))
 (bT (gJ (aD (r2 dIx (aB 3) (rC (.int 0))) (aD (r2 dIx (aB 3) (rC (.int 1))) (aD (aU 1) (aN))))))) (cJ))
 (aW (bE 4 (bC Av (aD (aU 0) (aD (r2 cV (aB 2) (rC (.int 3))) (aN)))))
 (bT (gJ (aD (r2 dIx (aB 4) (rC (.int 0))) (aD (r2 dIx (aB 4) (rC (.int 1))) (aD (r2 bJ (r2 dIx (aB 4) (rC (.int 2))) (aB 1)) (aN)))))))
noncomputable def gA:RS :=
 bT (r2 cK (r2 cT (r2 bJ (r2 dIx (aB 0) (rC (.int 0))) (r2 dIx (aB 1) (rC (.int 0)))) (r2 bJ (r2 dIx (aB 0) (rC (.int 1))) (r2 dIx (aB 1) (rC (.int 1))))) (r2 bJ (r2 dIx (aB 0) (rC (.int 2))) (r2 dIx (aB 1) (rC (.int 2)))))
noncomputable def iT (At:FD) (Au:FD):RS :=
 aW (bE 6 (gJ (aD (aU 4) (aD (aU 5) (aD (r2 dIx (aB 0) (rC (.int 0))) (aN))))))
 (dZ (rOr (bD (r2 (dH λi j=>decide (i<j)) (r2 bJ (bC Au (aD (aU 2) (aD (aU 6) (aN)))) (aB 3)) (rC (.int 0)))) (bD (r2 (dH λi j=>decide (i<j)) (bC At (aD (aU 1) (aD (aU 6) (aN)))) (rC (.int 0))))) (bT (rC (.bl false))) (cJ))
noncomputable def fD (Be:FD) (At:FD) (Au:FD):RS :=
 aW (dZ (bD (r2 (tF false) (aB 0) (rC .non))) (bT (rC (.bl true))) (cJ))
 (aW (dZ (nW (bD (bC Be (aD (aU 0) (aN))))) (bT (rC (.bl false))) (cJ))
 (aW (iZ (riT (r2 dIx (aB 0) (rC (.int 1)))) (iH 2 (bU (aZ 4) (bU (aZ 5) (iG)))) (iT At Au))
 (bT (rC (.bl true)))))
noncomputable def cY (Bn:FD):RS :=
 aW (bE 2 (bC Bn (aD (r2 dIx (aB 0) (rC (.int 0))) (aN))))
 (aW (bE 3 (bC Bn (aD (r2 dIx (aB 0) (rC (.int 1))) (aN))))
 (aW (bE 4 (bC Bn (aD (aU 1) (aN))))
 (aW (bE 5 (r2 bJ (r2 cT (r2 bJ (r2 dIx (aB 2) (rC (.int 0))) (r2 dIx (aB 3) (rC (.int 1)))) (r2 bJ (r2 dIx (aB 3) (rC (.int 0))) (r2 dIx (aB 2) (rC (.int 1))))) (r2 dIx (aB 4) (rC (.int 1)))))
 (bT (r2 (jF false) (aB 5) (r2 bJ (r2 bJ (r2 dIx (aB 4) (rC (.int 0))) (r2 dIx (aB 2) (rC (.int 1)))) (r2 dIx (aB 3) (rC (.int 1)))))))))
noncomputable def dL (At:FD):RS :=
 bT (qZ (r2 (tF true) (aB 0) (rC .non)) (r2 (jF false) (bC At (aD (aU 0) (aD (aU 1) (aN)))) (rC (.int 1))))
noncomputable def eG (Bh:FD) (At:FD) (Bt:FD) (Au:FD) (Az:FD):RS :=
 aW (dZ (rOr (nW (bD (r1 (vO "tuple") (aU 0)))) (rOr (bD (r2 (jF true) (r1 gH (aB 0)) (rC (.int 2)))) (nW (bD (bC Bt (aD (r2 dIx (aB 0) (rC (.int 0))) (aD (aU 1) (aD (aU 2) (aD (r1 jG (rC (.int 1))) (aN)))))))))) (bT (rC (.bl false))) (cJ))
 (aW (dZ (rOr (nW (bD (bC Bt (aD (r2 dIx (aB 0) (rC (.int 1))) (aD (aU 1) (aD (aU 2) (aD (rC (.int 1)) (aN)))))))) (nW (bD (bC Az (aD (aU 0) (aD (aU 1) (aN))))))) (bT (rC (.bl false))) (cJ))
 (aW (iF 4 (fH (riT (r2 dIx (aB 1) (rC (.int 1)))) 2 [2,1] (iH 2 (bU (aZ 0) (bU (aZ 1) (iG)))) (bC Au (aD (aU 2) (aD (gJ (aD (aU 0) (aD (aU 1) (aD (r2 dIx (aB 3) (rC (.int 0))) (aN))))) (aN))))))
 (aW (dZ (bD (r2 (dH λi j=>decide (i<=j)) (r1 AZ (aB 4)) (rC (.int 0)))) (bT (qZ (r2 (tF false) (r2 dIx (aB 0) (rC (.int 1))) (rC .non)) (r2 (dEq) (r2 dIx (aB 0) (rC (.int 0))) (aB 1)))) (cJ))
 (aW (dZ (bD (r2 (dH λi j=>decide (j<=i)) (r1 GT (aB 4)) (rC (.int 0)))) (bT (qZ (r2 (tF false) (r2 dIx (aB 0) (rC (.int 0))) (rC .non)) (r2 (dEq) (r2 dIx (aB 0) (rC (.int 1))) (aB 1)))) (cJ))
 (aW (bE 5 (bC Au (aD (aU 2) (aD (aU 3) (aN)))))
 (aW (dZ (rOr (bD (r2 (dH λi j=>decide (i<j)) (bC At (aD (aU 1) (aD (aU 3) (aN)))) (rC (.int 1)))) (bD (r2 (jF false) (aB 5) (rC (.int 0))))) (bT (rC (.bl true))) (cJ))
 (aW (dZ (bD (r2 (jF true) (bC Bh (aD (r2 dIx (aB 0) (rC (.int 0))) (aD (aU 3) (aN)))) (r2 (dH λi j=>decide (i<j)) (aB 5) (rC (.int 0))))) (bT (rC (.bl false))) (cJ))
 (bT (r2 (jF false) (bC Bh (aD (r2 dIx (aB 0) (rC (.int 1))) (aD (aU 3) (aN)))) (r2 (dH λi j=>decide (j<i)) (aB 5) (rC (.int 0))))))))))))
noncomputable def mV (Bd:FD) (Bo:FD) (Av:FD) (Bi:FD) (iM:FD):RS :=
 aW (bE 5 (r2 dC (aB 5) (r2 pT (rC (.int 10)) (rC (.int 24)))))
 (aW (bE 6 (bC Bo (aD (bC Bd (aD (aU 2) (aD (aU 3) (aD (aU 5) (aN))))) (aD (bC Bd (aD (aU 2) (aD (aU 3) (aD (r2 dC (r2 cV (r2 bJ (aB 5) (aB 5)) (rC (.int 7))) (r2 pT (rC (.int 10)) (rC (.int 24)))) (aN))))) (aN)))))
 (aW (bE 7 (r2 dIx ((λρ Q=>(wF (aD (rC (.int 1)) (aD (rC (.int 1)) (aD (rC (.int 1)) (aD (rC (.int 1)) (aD (r1 jG (rC (.int 1))) (aD (r1 jG (rC (.int 2))) (aD (r1 jG (rC (.int 3))) (aD (rC (.int 2)) (aD (rC (.int 3)) (aD (r1 jG (rC (.int 1))) (aN)))))))))))) ρ λds=>Q (.lst ds))) (r2 dC (aB 5) (rC (.int 10)))))
 (aW (bE 6 (gJ (aD (r2 bJ (r2 dIx (aB 6) (rC (.int 0))) (aB 7)) (aD (r2 bJ (r2 dIx (aB 6) (rC (.int 1))) (aB 7)) (aD (r2 bJ (r2 dIx (aB 6) (rC (.int 2))) (aB 7)) (aN))))))
 (aW (bE 8 (bC Av (aD (aU 2) (aD (r2 cT (r2 cV (aB 5) (rC (.int 13))) (r2 dC (r2 dIx (aB 1) (rC (.int 8))) (r2 pT (rC (.int 10)) (rC (.int 12))))) (aN)))))
 (dZ (nW (bD (bC Bi (aD (bC iM (aD (aU 4) (aD (aU 6) (aN)))) (aD (aU 4) (aD (aU 6) (aD (gJ (aD (r2 dIx (aB 8) (rC (.int 0))) (aD (r2 dIx (aB 8) (rC (.int 1))) (aD (r2 bJ (r2 dIx (aB 8) (rC (.int 2))) (aB 3)) (aN))))) (aN)))))))) (bT (rC (.bl false))) (cJ))))))
noncomputable def kL (Bd:FD) (Ce:FD) (Bo:FD) (Av:FD) (Bk:FD) (Bi:FD) (Bz:FD) (Bu:FD) (iM:FD):RS :=
 aW (bE 1 (bC Bk (aD (aU 0) (aD (rC (.int 9)) (aN)))))
 (aW (bE 2 (bC Bz (aD (aU 1) (aD (r2 dIx ((λρ Q=>(wF (aD (rC (.int 10)) (aD (r2 pT (rC (.int 10)) (rC (.int 30))) (aN)))) ρ λds=>Q (.lst ds))) (r2 dC (r2 dIx (aB 1) (rC (.int 7))) (rC (.int 2)))) (aN)))))
 (aW (bE 3 (bC Bu (aD (r2 cV (r2 dIx (aB 1) (rC (.int 7))) (rC (.int 2))) (aN))))
 (aW (bE 4 (bC Ce (aD (aU 3) (aD (aU 2) (aN)))))
 (aW (iZ (riL (r2 lF ((λρ Q=>(OR (aB 0) (fX) (mU (rC (.int 4)))) ρ λds=>Q (.lst ds))) ((λρ Q=>(wF (aD (r2 dIx (aB 1) (rC (.int 8))) (aN))) ρ λds=>Q (.lst ds))))) (aZ 5) (mV Bd Bo Av Bi iM))
 (bT (rC (.bl true)))))))
theorem XQ {α:Type} (x:α) (xs:List α):atI (x::xs) 0=some x:=by
 unfold atI ixN;simp
theorem XR {α:Type} (x y:α) (xs:List α):atI (x::y::xs) 1=some y:=by
 unfold atI ixN
 rw[if_pos (by decide),if_pos (by simp only[List.length_cons];omega)];rfl
theorem XS {α:Type} (x y z:α) (xs:List α):atI (x::y::z::xs) 2=some z:=by
 unfold atI ixN
 rw[if_pos (by decide),if_pos (by simp only[List.length_cons];omega)];rfl
theorem LT {α:Type} {xs:List α} {i:Int} {j:Nat} {x:α} (h:i=(j:Int)) (e:xs[j]? = some x):atI xs i=some x:=by
 subst h;exact GL e
theorem UW {x y:D} {Q:D->Prop}:dEq x y Q=(match eqF 6 x y with | some b=>Q (.bl b) | none=>False):=rfl
theorem BL.const {n:Nat} {i:Int} (h:i.natAbs<2 ^ n:=by decide):BL n i:=h
theorem FM {i j:Int} (h:0<=j/\j<=1000000/\i.natAbs<2 ^ 64:=by decide):PowOk i j:=⟨h⟩
theorem zL {j:Int} (h:j≠0:=by decide):ModOk j:=⟨h⟩
theorem HL {n:Nat} (h:n<=1000):n<=sizeLine:=Nat.le_trans h (by decide)
theorem oO {x:D} {xs:List D} {Q:D->Prop}:dIx (.tup (x::xs)) (.int 0) Q=Q x:=by simp only[dIx,XQ]
theorem iB {x y:D} {xs:List D} {Q:D->Prop}:dIx (.tup (x::y::xs)) (.int 1) Q=Q y:=by simp only[dIx,XR]
theorem tG {x y z:D} {xs:List D} {Q:D->Prop}:dIx (.tup (x::y::z::xs)) (.int 2) Q=Q z:=by simp only[dIx,XS]
theorem jX {xs:List D} {i:Int} {Q:D->Prop} {x:D} (e:atI xs i=some x) (h:Q x):dIx (.lst xs) (.int i) Q:=by simp only[dIx,e];exact h
theorem oN {xs:List D} {i:Int} {Q:D->Prop} (h0:0<=i) (h1:i<xs.length) (h:∀x,x∈xs->Q x):dIx (.lst xs) (.int i) Q:=by
 have hj:i.toNat<xs.length:=by omega
 exact jX (LT (j:=i.toNat) (by omega) (List.getElem?_eq_getElem hj)) (h _ (List.getElem_mem hj))
theorem gM {xs:List D} {k:Nat} {x:D} {Q:D->Prop} (e:xs[k]? = some x):dIx (.lst xs) (.int (k:Int)) Q=Q x:=by simp only[dIx,GL e]
theorem ML {a0:D} {r:List D} {Q:D->Prop}:dIx (.lst (a0::r)) (.int 0) Q=Q a0:=gM (k:=0) rfl
theorem MM {a0 a1:D} {r:List D} {Q:D->Prop}:dIx (.lst (a0::a1::r)) (.int 1) Q=Q a1:=gM (k:=1) rfl
theorem MN {a0 a1 a2:D} {r:List D} {Q:D->Prop}:dIx (.lst (a0::a1::a2::r)) (.int 2) Q=Q a2:=gM (k:=2) rfl
theorem MO {a0 a1 a2 a3:D} {r:List D} {Q:D->Prop}:dIx (.lst (a0::a1::a2::a3::r)) (.int 3) Q=Q a3:=gM (k:=3) rfl
theorem MP {a0 a1 a2 a3 a4:D} {r:List D} {Q:D->Prop}:dIx (.lst (a0::a1::a2::a3::a4::r)) (.int 4) Q=Q a4:=gM (k:=4) rfl
theorem MQ {a0 a1 a2 a3 a4 a5:D} {r:List D} {Q:D->Prop}:dIx (.lst (a0::a1::a2::a3::a4::a5::r)) (.int 5) Q=Q a5:=gM (k:=5) rfl
theorem MR {a0 a1 a2 a3 a4 a5 a6:D} {r:List D} {Q:D->Prop}:dIx (.lst (a0::a1::a2::a3::a4::a5::a6::r)) (.int 6) Q=Q a6:=gM (k:=6) rfl
theorem MS {a0 a1 a2 a3 a4 a5 a6 a7:D} {r:List D} {Q:D->Prop}:dIx (.lst (a0::a1::a2::a3::a4::a5::a6::a7::r)) (.int 7) Q=Q a7:=gM (k:=7) rfl
theorem MT {a0 a1 a2 a3 a4 a5 a6 a7 a8:D} {r:List D} {Q:D->Prop}:dIx (.lst (a0::a1::a2::a3::a4::a5::a6::a7::a8::r)) (.int 8) Q=Q a8:=gM (k:=8) rfl
theorem MU {a0 a1 a2 a3 a4 a5 a6 a7 a8 a9:D} {r:List D} {Q:D->Prop}:dIx (.lst (a0::a1::a2::a3::a4::a5::a6::a7::a8::a9::r)) (.int 9) Q=Q a9:=gM (k:=9) rfl
theorem JD {a0 a1 a2 a3 a4 a5 a6 a7 a8 a9 a10:D} {r:List D} {Q:D->Prop}:dIx (.lst (a0::a1::a2::a3::a4::a5::a6::a7::a8::a9::a10::r)) (.int 10) Q=Q a10:=gM (k:=10) rfl
theorem JE {a0 a1 a2 a3 a4 a5 a6 a7 a8 a9 a10 a11:D} {r:List D} {Q:D->Prop}:dIx (.lst (a0::a1::a2::a3::a4::a5::a6::a7::a8::a9::a10::a11::r)) (.int 11) Q=Q a11:=gM (k:=11) rfl
noncomputable def cL (n:Nat) (ds:List D):En:=ds.map (λd=>some (.d d))++List.replicate n none
theorem aV {N:List Str} {ds:List D} (n:Nat) (h:N.length=ds.length+n):aP N ds=cL n ds:=by
 unfold aP cL;rw[h,Nat.add_sub_cancel_left]
theorem VN {i:Int}:JK "int" (.int i)=some true:=rfl
theorem VL {i:Int}:JK "bool" (.int i)=some false:=rfl
theorem VM {i:Bool}:JK "int" (.bl i)=some true:=rfl
theorem VJ {i:Bool}:JK "bool" (.bl i)=some true:=rfl
theorem VO {xs:List D}:JK "tuple" (.tup xs)=some true:=rfl
theorem Ac {α:Type} {x:α}:List.replicate 0 x=[]:=rfl
theorem OU {α:Type} {x:α}:List.replicate 1 x=[x]:=rfl
theorem OV {α:Type} {x:α}:List.replicate 2 x=[x,x]:=rfl
theorem SN {α:Type} {x:α}:List.replicate 3 x=[x,x,x]:=rfl
theorem OW {α:Type} {x:α}:List.replicate 4 x=[x,x,x,x]:=rfl
theorem WY {α:Type} {x:α}:List.replicate 5 x=[x,x,x,x,x]:=rfl
theorem YV {α:Type} {x:α}:List.replicate 6 x=[x,x,x,x,x,x]:=rfl
theorem Ad {α:Type} {x:α}:List.replicate 7 x=[x,x,x,x,x,x,x]:=rfl
theorem WZ {α:Type} {x:α}:List.replicate 8 x=[x,x,x,x,x,x,x,x]:=rfl
theorem YW {α:Type} {x:α}:List.replicate 9 x=[x,x,x,x,x,x,x,x,x]:=rfl
theorem YS {α:Type} {x:α}:List.replicate 10 x=[x,x,x,x,x,x,x,x,x,x]:=rfl
theorem YT {α:Type} {x:α}:List.replicate 11 x=[x,x,x,x,x,x,x,x,x,x,x]:=rfl
theorem YU {α:Type} {x:α}:List.replicate 12 x=[x,x,x,x,x,x,x,x,x,x,x,x]:=rfl
theorem sz2:Sz (0+1+1):=⟨by decide⟩
theorem sz3:Sz (0+1+1+1):=⟨by decide⟩
theorem sz4:Sz (0+1+1+1+1):=⟨by decide⟩
theorem sz1:Sz (0+1):=⟨by decide⟩
theorem sz0:Sz 0:=⟨by decide⟩
local macro_rules | `(tactic| walk_at "rd")=>do
 let a <- ("aW cJ bT YQ dZ bE iF WX SM aZ iH bU iG aU aB rC r2 r1 bD CU rOr nW qZ ZY OQ rIf aN aD gJ wF bC rCB fX mU OR iZ Ae riL riT qQ Af XA fH jE nM yO tR rA IB qO FO KS zZ lF QO tH EJ dNe FN OY IC cT cK bJ cV dC pT jG dH jF tF UW xD oO iB tG ML MM MN MO MP MQ MR MS MT MU JD JE yR MJ wX wY gH vO VN VL VM VJ VO S.val cL Ac OU OV SN OW WY YV Ad WZ YW YS YT YU List.map_cons List.map_nil List.cons_append List.nil_append List.length_cons List.length_nil List.getElem?_cons_zero List.getElem?_cons_succ List.set_cons_zero List.set_cons_succ List.append_nil Bool.or_false Bool.or_true Bool.false_or Bool.true_or Bool.not_true Bool.not_false if_true if_false Bool.false_eq_true sz0 sz1 sz2 sz3 sz4 true_and decide_eq_true_eq Int.reduceToNat Int.reducePow Int.reduceMul Int.reduceSub Int.reduceAdd Int.reduceNeg".splitOn " ").toArray.mapM λx=>`(Lean.Parser.Tactic.simpLemma| $(Lean.mkIdent x.toName):term)
 `(tactic| simp only[$a,*])
local macro_rules | `(tactic| walk_at "side")=>`(tactic| first | exact FM | exact zL | exact (BL.const (n:=9000) (by decide)).divOk (by decide) | exact (BL.const (n:=300) (by decide)).mulOk (BL.const (n:=300) (by decide)))
local macro_rules | `(tactic| walk_at "sides")=>`(tactic| repeat (refine And.intro (by walk_at "side") ?_))
theorem oH (i:Int):(if i<0 then -i else i)=((i.natAbs:Nat):Int):=by split <;> omega
theorem xB (x y:Nat):((x:Nat):Int).fmod (y:Nat)=((x % y:Nat):Int):=by
 rw[Int.fmod_eq_emod_of_nonneg _ (Int.natCast_nonneg y)];exact (Int.natCast_emod x y).symm
noncomputable def qT:FD:=λds Q=>∃a b:Int,ds=[.int a,.int b]/\Q (.int (Int.gcd a b:Nat))
theorem HM:∀ds Q,qT ds Q->ds.length=2:=by rintro ds Q ⟨a,b,rfl,_⟩;rfl
theorem qE (E:DEnds):∀(y x:Nat),E.nx [some (.d (.int (Nat.gcd x y:Nat))),some (.d (.int (0:Nat)))] ->
  nX (bD (r2 (dH λi j=>decide (j<i)) (aB 1) (rC (.int 0)))) eO E [some (.d (.int (x:Nat))),some (.d (.int (y:Nat)))]:=by
 intro y
 induction y using Nat.strongRecOn with
 | ind y ih =>
  intro x h
  cases Nat.eq_zero_or_pos y with
  | inl hy =>
   subst hy
   refine⟨1,?_⟩
   unfold fG
   walk_at "rd"
   rw[if_neg (by decide)]
   rw[Nat.gcd_zero_right] at h
   exact h
  | inr hy =>
   have h2:=ih (x % y) (Nat.mod_lt x hy) y (by
    rw[Nat.gcd_comm y,<-Nat.gcd_rec,Nat.gcd_comm];exact h)
   obtain⟨n,hn⟩:=h2
   refine⟨n+1,?_⟩
   unfold fG eO
   walk_at "rd"
   rw[if_pos (by omega)]
   refine⟨⟨by omega⟩,?_⟩
   rw[xB]
   exact hn
theorem qI:∀ds Q,qT ds Q->eD { nx:=λ_=>Q .non,rt:=Q } (aP ["_law_one","_law_other"] ds):=by
 rintro ds Q ⟨a,b,rfl,q⟩
 rw[aV 0 rfl]
 unfold eD
 walk_at "rd"
 rw[oH,oH]
 refine qE _ _ _ ?_
 walk_at "rd"
 exact q
theorem mH (E:DEnds) (u v:Option S):∀(y x:Nat) (r:Option S),(∀r,E.nx [u,v,some (.d (.int (Nat.gcd x y:Nat))),some (.d (.int (0:Nat))),r]) ->
  nX (bD (r2 (jF true) (aB 3) (rC (.int 0)))) dN E [u,v,some (.d (.int (x:Nat))),some (.d (.int (y:Nat))),r]:=by
 intro y
 induction y using Nat.strongRecOn with
 | ind y ih =>
  intro x r h
  cases Nat.eq_zero_or_pos y with
  | inl hy =>
   subst hy
   refine⟨1,?_⟩
   unfold fG
   walk_at "rd"
   rw[if_neg (by simp)]
   rw[Nat.gcd_zero_right] at h
   exact h r
  | inr hy =>
   obtain⟨n,hn⟩:=ih (x % y) (Nat.mod_lt x hy) y (some (.d (.int ((x % y:Nat))))) (by
    rw[Nat.gcd_comm y,<-Nat.gcd_rec,Nat.gcd_comm];exact h)
   refine⟨n+1,?_⟩
   unfold fG dN
   walk_at "rd"
   rw[if_pos (by simp;omega)]
   refine⟨⟨by omega⟩,?_⟩
   rw[xB]
   exact hn
theorem mJ:∀ds Q,qT ds Q->dF { nx:=λ_=>Q .non,rt:=Q } (aP ["one","other","larger","smaller","rest"] ds):=by
 rintro ds Q ⟨a,b,rfl,q⟩
 rw[aV 3 rfl]
 unfold dF
 walk_at "rd"
 rw[oH,oH]
 refine mH _ _ _ _ _ _ λr=>?_
 walk_at "rd"
 exact q
noncomputable abbrev fr (a b:Int):D:=.tup [.int a,.int b]
noncomputable def sK:FD:=λds Q=>∃a:Int,ds=[.int a]/\Q (.bl true)
theorem JY:∀ds Q,sK ds Q->ds.length=1:=by rintro ds Q ⟨a,rfl,_⟩;rfl
theorem uN:∀ds Q,sK ds Q->gB { nx:=λ_=>Q .non,rt:=Q } (aP ["_law_found"] ds):=by
 rintro ds Q ⟨a,rfl,q⟩
 rw[aV 0 rfl]
 unfold gB
 walk_at "rd"
 exact q
theorem bA {a b:Int} (h:0<b):0<=a.fmod b/\a.fmod b<b:=⟨Int.fmod_nonneg_of_pos a h,Int.fmod_lt_of_pos a h⟩
theorem RC:∀ds Q,IN 63 ds Q->ds.length=1:=by rintro ds Q ⟨a,rfl,_⟩;rfl
theorem cX {g:RG} {t:RS} {E:DEnds} (J:List D->En->Prop)
  (step:∀x xs ρ,J (x::xs) ρ->∀F:DEnds,F.rt=E.rt->F.bk=E.nx->(∀ρ',J xs ρ'->F.nx ρ')->(∀ρ',J xs ρ'->F.ct ρ')->g x ρ λρ1=>t F ρ1) (last:∀ρ,J [] ρ->E.nx ρ):∀xs ρ,J xs ρ->zB g t xs E ρ
 | [],ρ,h=>last ρ h
 | x::xs,ρ,h=>step x xs ρ h _ rfl rfl (λρ' h'=>cX J step last xs ρ' h') λρ' h'=>cX J step last xs ρ' h'
theorem AU {α:Type} {g:RG} {te:RE} (R:En->Prop) (enc f:α->D):∀(src:List α) {Q:List D->Prop},(∀a∈src,∀ρ,R ρ->∀K:En->D->Prop,(∀ρ1,R ρ1->K ρ1 (f a))->g (enc a) ρ λρ1=>te ρ1 λd=>K ρ1 d) ->
  ∀(ρ:En) (acc:List D),R ρ->Q (acc++src.map f)->jE g te (src.map enc) ρ acc Q
 | [],Q,_,ρ,acc,_,q=>by
  show Q acc
  simpa using q
 | a::src,Q,step,ρ,acc,h,q=>by
  show g (enc a) ρ λρ'=>te ρ' λd=>jE g te (src.map enc) ρ' (acc++[d]) Q
  refine step a List.mem_cons_self ρ h (λρ1 d=>jE g te (src.map enc) ρ1 (acc++[d]) Q) λρ1 h1=>?_
  exact AU R enc f src (λb hb=>step b (List.mem_cons_of_mem _ hb)) ρ1 _ h1 (by simpa using q)
theorem dA {α:Type} {g:RG} {te:RE} (R:En->Prop) (enc f:α->D) (src:List α) {Q:List D->Prop} {ρ:En} (step:∀a∈src,∀ρ,R ρ->∀K:En->D->Prop,(∀ρ1,R ρ1->K ρ1 (f a))->g (enc a) ρ λρ1=>te ρ1 λd=>K ρ1 d)
  (h:R ρ) (q:Q (src.map f)):jE g te (src.map enc) ρ [] Q:=AU R enc f src step ρ [] h (by simpa using q)
noncomputable abbrev il (ns:List Int):D:=.lst (ns.map .int)
noncomputable abbrev pt (p:Int × Int):D:=.tup [.int p.1,.int p.2]
noncomputable abbrev pts (ps:List (Int × Int)):D:=.lst (ps.map pt)
theorem MK {ns:List Int} {i:Int} {Q:D->Prop} (h0:0<=i) (h1:i<ns.length) (q:∀n∈ns,Q (.int n)):dIx (il ns) (.int i) Q:=by
 refine oN h0 (by simpa using h1) λx hx=>?_
 obtain⟨n,hn,rfl⟩:=List.mem_map.mp hx
 exact q n hn
theorem dG {n:Nat} (h:n<=100000):Sz n:=⟨Nat.le_trans h (by decide)⟩
theorem NI {n:Nat} {i:Int} (h0:0<=i) (h1:i<n):ixN n i=some i.toNat:=by
 unfold ixN
 rw[if_pos h0,if_pos (by omega)]
noncomputable abbrev big:Int:=1000000000000000000000000000000000000000000000000000000000007
structure Drawn (m:Nat) (xs:List Int):Prop where
 len:xs.length=m
 lo:∀x∈xs,0<=x
 hi:∀x∈xs,x<big
theorem Drawn.bl {m:Nat} {xs:List Int} (h:Drawn m xs) {x:Int} (hx:x∈xs):BL 200 x:=by
 have h0:=h.lo x hx
 have h1:=h.hi x hx
 have e:big<((2 ^ 200:Nat):Int):=by decide
 exact BL.of_lt (by omega) (by omega)
noncomputable def lX:FD:=λds Q=>∃(ns:List Int) (m:Nat),ds=[il ns,.int m]/\(ns.length<=100/\1<=m/\m<=100)/\∀xs,Drawn m xs->Q (il xs)
theorem BV:∀ds Q,lX ds Q->ds.length=2:=by rintro ds Q ⟨a,b,rfl,_⟩;rfl
noncomputable def kE:RS:=aW (bE 5 (r2 dC (aB 3) (aB 1)))
 (qO 2 (r2 dC (r2 cT (r2 cT (r2 bJ (r2 dIx (aB 2) (aB 5)) (rC (.int 48271))) (aB 4)) (r2 bJ (aB 3) (aB 3))) (r2 cT (r2 pT (rC (.int 10)) (rC (.int 60))) (rC (.int 7)))) (aU 5))
theorem FG:eQ=aW (bE 4 (rC (.int 0)))
 (aW (dZ (bD (r2 (dH λi j=>decide (j<i)) (r1 gH (aB 0)) (rC (.int 0)))) (bE 4 (r2 dC (r2 dIx (aB 0) (r2 dC (aB 3) (rCB wY (aD (r1 gH (aB 0)) (aD (rC (.int 63)) (aN)))))) (r2 cT (r2 pT (rC (.int 10)) (rC (.int 60))) (rC (.int 7))))) (cJ)) kE):=rfl
theorem zK {ns:List Int} {m:Nat} (hm:1<=m/\m<=100) {E:DEnds} (q:∀xs a b c,Drawn m xs->E.nx [some (.d (il ns)),some (.d (.int m)),some (.own (xs.map .int)),a,b,c]) (xs:List D) (ρ:En)
  (hx:∀x∈xs,∃j:Int,x = .int j/\0<=j/\j<=1000) (hρ:∃ys a b c,ρ=[some (.d (il ns)),some (.d (.int m)),some (.own (ys.map .int)),a,b,c]/\Drawn m ys):zB (aZ 3) eQ xs E ρ:=by
 refine cX (λxs ρ=>(∀x∈xs,∃j:Int,x = .int j/\0<=j/\j<=1000)/\∃ys a b c,ρ=[some (.d (il ns)),some (.d (.int m)),some (.own (ys.map .int)),a,b,c]/\Drawn m ys) ?_ ?_ xs ρ ⟨hx,hρ⟩
 ·rintro x xs ρ ⟨hx,ys,a,b,c,rfl,hd⟩ F _ _ hn _
  obtain⟨j,rfl,j0,j1⟩:=hx x List.mem_cons_self
  have hx':∀x∈xs,∃j:Int,x = .int j/\0<=j/\j<=1000:=λx h=>hx x (List.mem_cons_of_mem _ h)
  have done:∀cell:Int,kE F [some (.d (il ns)),some (.d (.int m)),some (.own (ys.map .int)),some (.d (.int j)),some (.d (.int cell)),c]:=λcell=>by
   unfold kE
   walk_at "rd"
   have hm':(0:Int)<m:=by omega
   obtain⟨a0,a1⟩:=bA (a:=j) hm'
   refine⟨⟨by omega⟩,?_⟩
   refine MK a0 (by rw[hd.len];exact a1) λy hy=>?_
   have by':=hd.bl hy
   refine⟨by'.mulOk (BL.const (n:=20)),(BL.of_lt (m:=20) (by omega) (by omega)).mulOk (BL.of_lt (m:=20) (by omega) (by omega)),?_⟩
   walk_at "sides"
   obtain⟨e0,e1⟩:=bA (a:=y*48271+cell+j*j) (b:=big) (by decide)
   generalize (y*48271+cell+j*j).fmod big=z at *
   generalize j.fmod m=i at *
   rw[NI a0 (by simpa [hd.len] using a1)]
   refine hn _ ⟨hx',ys.set i.toNat z,_,_,_,by rw[<-List.map_set],⟨by simpa using hd.len,λx hx=>?_,λx hx=>?_⟩⟩
   ·rcases List.mem_or_eq_of_mem_set hx with h | rfl
    ·exact hd.lo x h
    ·exact e0
   ·rcases List.mem_or_eq_of_mem_set hx with h | rfl
    ·exact hd.hi x h
    ·exact e1
  rw[FG]
  walk_at "rd"
  split
  ·rename_i hl
   have hl':0<ns.length:=by simpa using hl
   have hpos:(0:Int)<(if (63:Int)<((ns.map D.int).length:Int) then 63 else ((ns.map D.int).length:Int)):=by split <;> simp <;> omega
   obtain⟨a0,a1⟩:=bA (a:=j) hpos
   have a2:(if (63:Int)<((ns.map D.int).length:Int) then 63 else ((ns.map D.int).length:Int))<=ns.length:=by split <;> simp at * <;> omega
   exact⟨⟨Int.ne_of_gt hpos⟩,MK a0 (Int.lt_of_lt_of_le a1 a2) λy _=>⟨FM,zL,done _⟩⟩
  ·exact done 0
 ·rintro ρ ⟨_,ys,a,b,c,rfl,hd⟩
  exact q ys a b c hd
theorem nR {lo:Int} {n:Nat} {x:D} (h:x∈fR lo n):∃j:Int,x = .int j/\lo<=j/\j<lo+n:=by
 unfold fR at h
 obtain⟨k,hk,rfl⟩:=List.mem_map.mp h
 have:=List.mem_range.mp hk
 exact⟨_,rfl,by omega,by omega⟩
theorem kK {lo:Int} {n:Nat}:(fR lo n).length=n:=by simp[fR]
theorem qK:∀ds Q,lX ds Q->eF { nx:=λ_=>Q .non,rt:=Q } (aP ["_law_script","_law_many","_law_found","_law_k","_law_cell","_law_at"] ds):=by
 rintro ds Q ⟨ns,m,rfl,⟨hn,hm⟩,q⟩
 rw[aV 4 rfl]
 unfold eF
 walk_at "rd"
 refine⟨⟨by omega,by omega⟩,dG (by rw[kK];omega),?_⟩
 unfold fR
 refine dA (λρ=>∃a,ρ=[a]) (λk:Nat=>D.int (0+(k:Int))) (λ_=>D.int 0) _ ?_ ⟨_,rfl⟩ ?_
 ·rintro a _ ρ ⟨b,rfl⟩ K hK
  exact hK _ ⟨_,rfl⟩
 ·have len:(ns.map D.int).length=ns.length:=by simp
  have e0:∃M:Int,(if (m:Int)<(if (63:Int)<((ns.map D.int).length:Int) then 63 else ((ns.map D.int).length:Int)) then (if (63:Int)<((ns.map D.int).length:Int) then 63 else ((ns.map D.int).length:Int)) else (m:Int))=M/\0<=M/\M<=100:=⟨_,rfl,by rw[len];split <;> (try split) <;> omega,by rw[len];split <;> (try split) <;> omega⟩
  obtain⟨M,eM,M0,M1⟩:=e0
  rw[eM]
  refine⟨⟨by omega,by omega⟩,?_⟩
  refine zK (ns:=ns) hm (λxs a b c hd=>?_) _ _ (λx hx=>?_) ⟨List.replicate m 0,none,none,none,?_,⟨by simp,λx hx=>?_,λx hx=>?_⟩⟩
  ·walk_at "rd"
   exact q xs hd
  ·obtain⟨j,rfl,j0,j1⟩:=nR hx
   exact⟨j,rfl,j0,by omega⟩
  ·congr 5
   apply List.ext_getElem
   ·simp
   ·intro i h1 h2;simp
  ·rw[(List.mem_replicate.mp hx).2];decide
  ·rw[(List.mem_replicate.mp hx).2];decide
theorem AH {α:Type} {xs:List α} {x:α} (h:xs.getLast? = some x):atI xs (-1)=some x:=by
 have hne:xs≠[]:=λe=>by rw[e] at h;cases h
 have hl:0<xs.length:=List.length_pos_iff.mpr hne
 unfold atI ixN
 rw[if_neg (by decide),if_pos (by omega)]
 rw[List.getLast?_eq_getElem?] at h
 show xs[((-1:Int)+(xs.length:Int)).toNat]? = some x
 rw[<-h];congr 1;omega
structure Rises (xs:List Int):Prop where
 first:∀a,xs[0]? = some a->-4<=a/\a<=-1
 step:∀(i:Nat) a b,xs[i]? = some a->xs[i+1]? = some b->a+1<=b/\b<=a+3
theorem Rises.snoc {xs:List Int} {a b:Int} (h:Rises xs) (hl:xs.getLast? = some a) (h1:a+1<=b) (h2:b<=a+3):Rises (xs++[b]):=by
 have hne:0<xs.length:=by
  cases xs with
  | nil=>cases hl
  | cons _ _=>simp
 refine⟨λx e=>h.first x (by rwa [List.getElem?_append_left hne] at e),λi x y e1 e2=>?_⟩
 by_cases hi:i+1<xs.length
 ·rw[List.getElem?_append_left hi] at e2
  rw[List.getElem?_append_left (by omega)] at e1
  exact h.step i x y e1 e2
 ·have hi2:i+1=xs.length:=by
   have:=(List.getElem?_eq_some_iff.mp e2).1
   simp at this;omega
  rw[hi2,List.getElem?_append_right (Nat.le_refl _)] at e2
  simp at e2;subst e2
  rw[List.getElem?_append_left (by omega)] at e1
  rw[List.getLast?_eq_getElem?,<-hi2] at hl
  simp at hl
  rw[hl] at e1;cases e1
  exact⟨h1,h2⟩
theorem Rises.bound {xs:List Int} (h:Rises xs):∀(i:Nat) a,xs[i]? = some a->-4<=a/\a<=3*(i:Int)-1
 | 0,a,e=>by have:=h.first a e;omega
 | i+1,a,e=>by
  have hi:i<xs.length:=by have:=(List.getElem?_eq_some_iff.mp e).1;omega
  have e1:xs[i]? = some xs[i]:=List.getElem?_eq_getElem hi
  have b:=Rises.bound h i _ e1
  have c:=h.step i _ _ e1 e
  omega
noncomputable def oF:FD:=λds Q=>∃n m:Int,ds=[.int n,.int m]/\(1<=m/\m<=40)/\∀xs,Rises xs->(xs.length:Int)=m->Q (il xs)
theorem JU:∀ds Q,oF ds Q->ds.length=2:=by rintro ds Q ⟨a,b,rfl,_⟩;rfl
theorem uL:∀ds Q,oF ds Q->fZ { nx:=λ_=>Q .non,rt:=Q } (aP ["_law_number","_law_many","_law_found","_law_k"] ds):=by
 rintro ds Q ⟨n,m,rfl,⟨hm1,hm2⟩,q⟩
 rw[aV 2 rfl]
 unfold fZ
 walk_at "rd"
 walk_at "sides"
 refine⟨⟨by omega,by omega⟩,?_⟩
 obtain⟨a0,a1⟩:=bA (a:=n) (b:=4) (by decide)
 generalize n.fmod 4=c at *
 refine cX (λxs ρ=>(∀x∈xs,∃j:Int,x = .int j/\0<=j/\j<=1000)/\∃(ys:List Int) (u:Option S),ρ=[some (.d (.int n)),some (.d (.int m)),some (.own (ys.map .int)),u]/\Rises ys/\ys≠[]/\(ys.length+xs.length:Int)=m) ?_ ?_ _ _ ⟨λx hx=>?_,[c-4],none,rfl,⟨λa e=>?_,λi a b e1 e2=>?_⟩,by simp,?_⟩
 ·rintro x xs ρ ⟨hx,ys,u,rfl,hr,hne,hl⟩ F _ _ hn _
  obtain⟨j,rfl,j0,j1⟩:=hx x List.mem_cons_self
  unfold jO
  walk_at "rd"
  have hlast:ys.getLast? = some (ys.getLast hne):=List.getLast?_eq_some_getLast hne
  refine jX (x:=.int (ys.getLast hne)) (AH (by rw[List.getLast?_map,hlast];rfl)) ?_
  walk_at "rd"
  obtain⟨b0,b1⟩:=bA (a:=n.fdiv (4+3*j)) (b:=3) (by decide)
  generalize (n.fdiv (4+3*j)).fmod 3=z at *
  have b4:BL 9000 (4+3*j):=(BL.of_lt (m:=20) (by omega) (by omega)).mono (by decide)
  refine⟨(BL.const (n:=20)).mulOk (BL.of_lt (m:=20) (i:=j) (by omega) (by omega)),b4.divOk (by omega),zL,dG ?_,?_⟩
  ·simp at hl ⊢;omega
  ·refine hn _ ⟨λx h=>hx x (List.mem_cons_of_mem _ h),ys++[ys.getLast hne+1+z],some (.d (.int j)),by simp,hr.snoc hlast (by omega) (by omega),by simp,?_⟩
   simp at hl ⊢;omega
 ·rintro ρ ⟨_,ys,u,rfl,hr,hne,hl⟩
  walk_at "rd"
  exact q ys hr (by simpa using hl)
 ·obtain⟨j,rfl,j0,j1⟩:=nR hx
  exact⟨j,rfl,j0,by omega⟩
 ·simp at e;subst e;omega
 ·simp at e2
 ·rw[kK];simp;omega
noncomputable abbrev aff (p q r s ox oy:Int) (z:Int × Int):Int × Int:=(p*z.1+q*z.2+ox,r*z.1+s*z.2+oy)
noncomputable def eT (lows highs:List Int) (top:Int):List (Int × Int):=lows.map (λx=>(x,x*x))++highs.reverse.map λx=>(x,top-x*x)
structure RingForm (lows highs:List Int) (top p q r s ox oy:Int):Prop where
 lowsR:Rises lows
 highsR:Rises highs
 lowsN:2<=lows.length/\lows.length<=21
 highsN:1<=highs.length/\highs.length<=3
 topL:∀x∈lows++highs,2*(x*x)+1<=top
 topH:top<=10000
 pB:1<=p/\p<=3
 qB:-3<=q/\q<=3
 rB:-3<=r/\r<=3
 sB:-9<=s/\s<=12
 det:0<p*s-q*r
 oxB:BL 202 ox
 oyB:BL 202 oy
noncomputable abbrev lT (lows highs:List Int) (top p q r s ox oy:Int):List (Int × Int):=(eT lows highs top).map (aff p q r s ox oy)
theorem aM {t u:RS} {E:DEnds} {ρ:En} (I:En->Prop) (h1:∀K:En->Prop,(∀ρ',I ρ'->K ρ')->t { E with nx:=K } ρ) (h2:∀ρ',I ρ'->u E ρ'):aW t u E ρ:=h1 (u E) h2
noncomputable def yA:FD:=λds Q=>∃(h0 h1 h2 h3 h4 h5 h6:Int) (rest:List D) (far:Int),ds=[.lst (.int h0 :: .int h1 :: .int h2 :: .int h3 :: .int h4 :: .int h5 :: .int h6::rest),.int far]/\(0<=far/\BL 200 far) /\
 ∀lows highs top p q r s ox oy,RingForm lows highs top p q r s ox oy->Q (pts (lT lows highs top p q r s ox oy))
theorem NO:∀ds Q,yA ds Q->ds.length=2:=by rintro ds Q ⟨_,_,_,_,_,_,_,_,_,rfl,_⟩;rfl
theorem UL (x:Int):0<=x*x:=by
 rcases Int.le_total 0 x with h | h
 ·exact Int.mul_nonneg h h
 ·have:=Int.mul_nonneg (Int.neg_nonneg.mpr h) (Int.neg_nonneg.mpr h)
  rwa [Int.neg_mul_neg] at this
theorem OA {a far:Int} (h0:0<=far) (h:BL 200 far):BL 202 (a.fmod (2*far+1)-far):=by
 obtain⟨a0,a1⟩:=bA (a:=a) (b:=2*far+1) (by omega)
 have:far.natAbs<2 ^ 200:=h
 refine BL.of_lt (m:=202) ?_ ?_
 ·have:(far.natAbs:Int)<((2 ^ 200:Nat):Int):=by exact_mod_cast this
  have e:((2 ^ 200:Nat):Int)<((2 ^ 202:Nat):Int):=by decide
  omega
 ·have:(far.natAbs:Int)<((2 ^ 200:Nat):Int):=by exact_mod_cast this
  have e:((2 ^ 200:Nat):Int)<((2 ^ 202:Nat):Int):=by decide
  omega
theorem Rises.pair {xs:List Int} (h:Rises xs):xs.Pairwise (· < ·):=by
 have key:∀(n i:Nat) (a b:Int),xs[i]? = some a->xs[i+1+n]? = some b->a<b:=by
  intro n
  induction n with
  | zero=>intro i a b e1 e2;have:=h.step i a b e1 e2;omega
  | succ n ih =>
   intro i a b e1 e2
   have hl:i+1+(n+1)<xs.length:=(List.getElem?_eq_some_iff.mp e2).1
   have e3:xs[i+1+n]? = some (xs[i+1+n]'(by omega)):=List.getElem?_eq_getElem _
   have h1:=ih i a _ e1 e3
   have h2:=h.step (i+1+n) _ b e3 (by rw[<-e2];congr 1)
   omega
 refine List.pairwise_iff_getElem.mpr λi j hi hj hij=>?_
 refine key (j-i-1) i _ _ (List.getElem?_eq_getElem hi) ?_
 rw[show i+1+(j-i-1)=j by omega]
 exact List.getElem?_eq_getElem hj
theorem VH {xs l r:List Int} {x y:Int} (h:xs.Pairwise (· < ·)) (e:xs=l++x::y::r) {v:Int} (hv:v∈xs):v<=x\/y<=v:=by
 subst e
 have h1:=List.pairwise_append.mp h
 have h2:=List.pairwise_cons.mp h1.2.1
 have h3:=List.pairwise_cons.mp h2.2
 simp only[List.mem_append,List.mem_cons] at hv
 rcases hv with hv | hv | hv | hv
 ·exact Or.inl (Int.le_of_lt (h1.2.2 v hv x (by simp)))
 ·exact Or.inl (by omega)
 ·exact Or.inr (by omega)
 ·exact Or.inr (Int.le_of_lt (h3.1 v hv))
theorem HI {xs l r:List Int} {x y:Int} (h:xs.Pairwise (· < ·)) (e:xs=l++x::y::r) {v:Int} (hv:v∈xs) (n1:v≠x) (n2:v≠y):v<x\/y<v :=
 (VH h e hv).imp (λh=>(Int.lt_or_eq_of_le h).resolve_right n1) λh=>(Int.lt_or_eq_of_le h).resolve_right λe=>n2 e.symm
theorem YZ {x m:Int} (h1:-m<=x) (h2:x<=m):x*x<=m*m:=by
 have:0<=(m-x)*(m+x):=Int.mul_nonneg (by omega) (by omega)
 have e:(m-x)*(m+x)=m*m-x*x:=by grind
 omega
theorem sS {x:Int} {n:Nat} (h:x.natAbs<=n):-(n:Int)<=x/\x<=n:=by omega
theorem ZP (top a b c:Int) (ha:2*(a*a)+1<=top) (hb:2*(b*b)+1<=top) (hc:2*(c*c)+1<=top):∃m:Nat,2*((m:Int)*m)+1<=top/\a.natAbs<=m/\b.natAbs<=m/\c.natAbs<=m:=by
 have ab (x:Int) (h:2*(x*x)+1<=top):2*((x.natAbs:Int)*x.natAbs)+1<=top:=by rw[Int.natAbs_mul_self'];exact h
 rcases Nat.le_total a.natAbs b.natAbs with h1 | h1
 ·rcases Nat.le_total b.natAbs c.natAbs with h2 | h2
  ·exact⟨_,ab c hc,Nat.le_trans h1 h2,h2,Nat.le_refl _⟩
  ·exact⟨_,ab b hb,h1,Nat.le_refl _,h2⟩
 ·rcases Nat.le_total a.natAbs c.natAbs with h2 | h2
  ·exact⟨_,ab c hc,h2,Nat.le_trans h1 h2,Nat.le_refl _⟩
  ·exact⟨_,ab a ha,Nat.le_refl _,h1,h2⟩
noncomputable abbrev lo (x:Int):Pt:=(x,x*x)
noncomputable abbrev hi (top x:Int):Pt:=(x,top-x*x)
section
variable {top:Int}
theorem xR {x y v:Int} (h:x<y) (hv:v<x\/y<v):0<aH (lo x) (lo y) (lo v):=by
 have e:aH (lo x) (lo y) (lo v)=(y-x)*((v-x)*(v-y)):=by unfold aH;dsimp only;grind
 rw[e]
 refine Int.mul_pos (by omega) ?_
 rcases hv with hv | hv
 ·have e2:(v-x)*(v-y)=(x-v)*(y-v):=by grind
  rw[e2];exact Int.mul_pos (by omega) (by omega)
 ·exact Int.mul_pos (by omega) (by omega)
theorem YY {m b l v:Int} (m0:0<=m) (hb:-m<=b/\b<=m) (hl:-m<=l/\l<=m) (hv:-m<=v/\v<=m):0<=m*m+l*v-b*(l+v):=by
 have pl {x:Int} (h:-m<=x/\x<=m):0<=m+x:=by omega
 have mi {x:Int} (h:-m<=x/\x<=m):0<=m-x:=by omega
 have g:=Int.add_nonneg (Int.mul_nonneg (pl hb) (Int.mul_nonneg (mi hl) (mi hv))) (Int.mul_nonneg (mi hb) (Int.mul_nonneg (pl hl) (pl hv)))
 rw[show (m+b)*((m-l)*(m-v))+(m-b)*((m+l)*(m+v))=2*m*(m*m+l*v-b*(l+v)) by grind] at g
 rcases Int.lt_or_eq_of_le m0 with hm | rfl
 ·exact Int.nonneg_of_mul_nonneg_right g (Int.mul_pos (by decide) hm)
 ·rw[show l=0 from Int.le_antisymm hl.2 hl.1,show b=0 from Int.le_antisymm hb.2 hb.1];simp only[Int.zero_mul];decide
theorem lQ {l b v:Int} (hl:2*(l*l)+1<=top) (hb:2*(b*b)+1<=top) (hv:2*(v*v)+1<=top):0<top-b*b-b*(l+v)+l*v:=by
 obtain⟨m,mt,a1,a2,a3⟩:=ZP top l b v hl hb hv
 have h1:=YY (Int.natCast_nonneg m) (sS a2) (sS a1) (sS a3)
 have h2:=YZ (sS a2).1 (sS a2).2
 generalize (m:Int)*m=M at *
 generalize b*(l+v)=N at *
 generalize l*v=O at *
 generalize b*b=P at *
 omega
theorem uV {x y v:Int} (h:x<y) (hx:2*(x*x)+1<=top) (hy:2*(y*y)+1<=top) (hv:2*(v*v)+1<=top):0<aH (lo x) (lo y) (hi top v):=by
 have e:aH (lo x) (lo y) (hi top v)=(y-x)*(top-v*v-v*(x+y)+x*y):=by unfold aH;dsimp only;grind
 rw[e]
 exact Int.mul_pos (Int.sub_pos_of_lt h) (lQ hx hv hy)
theorem DF {x y v:Int} (h:x<y) (hv:v<x\/y<v):0<aH (hi top y) (hi top x) (hi top v):=by
 have e:aH (hi top y) (hi top x) (hi top v)=aH (lo x) (lo y) (lo v):=by unfold aH;dsimp only;grind
 rw[e];exact xR h hv
theorem FY {x y v:Int} (h:x<y) (hx:2*(x*x)+1<=top) (hy:2*(y*y)+1<=top) (hv:2*(v*v)+1<=top):0<aH (hi top y) (hi top x) (lo v):=by
 have e:aH (hi top y) (hi top x) (lo v)=aH (lo x) (lo y) (hi top v):=by unfold aH;dsimp only;grind
 rw[e];exact uV h hx hy hv
theorem PR {l b v:Int} (h:v<l) (hl:2*(l*l)+1<=top) (hb:2*(b*b)+1<=top) (hv:2*(v*v)+1<=top):0<aH (lo l) (hi top b) (lo v):=by
 have e:aH (lo l) (hi top b) (lo v)=(l-v)*(top-b*b-b*(l+v)+l*v):=by unfold aH;dsimp only;grind
 rw[e]
 exact Int.mul_pos (Int.sub_pos_of_lt h) (lQ hl hb hv)
theorem KZ {l b v:Int} (h:v<b) (hl:2*(l*l)+1<=top) (hb:2*(b*b)+1<=top) (hv:2*(v*v)+1<=top):0<aH (lo l) (hi top b) (hi top v):=by
 have e:aH (lo l) (hi top b) (hi top v)=(b-v)*(top-l*l-l*(b+v)+b*v):=by unfold aH;dsimp only;grind
 rw[e]
 exact Int.mul_pos (Int.sub_pos_of_lt h) (lQ hb hl hv)
theorem PQ {l b v:Int} (h:l<v) (hl:2*(l*l)+1<=top) (hb:2*(b*b)+1<=top) (hv:2*(v*v)+1<=top):0<aH (hi top b) (lo l) (lo v):=by
 have e:aH (hi top b) (lo l) (lo v)=(v-l)*(top-b*b-b*(l+v)+l*v):=by unfold aH;dsimp only;grind
 rw[e]
 exact Int.mul_pos (Int.sub_pos_of_lt h) (lQ hl hb hv)
theorem KY {l b v:Int} (h:b<v) (hl:2*(l*l)+1<=top) (hb:2*(b*b)+1<=top) (hv:2*(v*v)+1<=top):0<aH (hi top b) (lo l) (hi top v):=by
 have e:aH (hi top b) (lo l) (hi top v)=(v-b)*(top-l*l-l*(b+v)+b*v):=by unfold aH;dsimp only;grind
 rw[e]
 exact Int.mul_pos (Int.sub_pos_of_lt h) (lQ hb hl hv)
end
theorem CH {f:Int->Pt} {L:List Int} {a b:Pt} (h:Nxt (L.map f) a b):∃l x y r,L=l++x::y::r/\a=f x/\b=f y:=by
 obtain⟨l,r,e⟩:=h
 obtain⟨l1,l2,rfl,rfl,e2⟩:=List.map_eq_append_iff.mp e
 obtain⟨x,l3,rfl,rfl,e3⟩:=List.map_eq_cons_iff.mp e2
 obtain⟨y,l4,rfl,rfl,e4⟩:=List.map_eq_cons_iff.mp e3
 exact⟨l1,x,y,l4,rfl,rfl,rfl⟩
theorem HN {xs l:List Int} {x:Int} (h:xs.Pairwise (· < ·)) (e:xs=l++[x]) {v:Int} (hv:v∈xs):v=x\/v<x:=by
 subst e
 rcases List.mem_append.mp hv with hv | hv
 ·exact Or.inr ((List.pairwise_append.mp h).2.2 v hv x (by simp))
 ·exact Or.inl (by simpa using hv)
theorem CC {xs r:List Int} {x:Int} (h:xs.Pairwise (· < ·)) (e:xs=x::r) {v:Int} (hv:v∈xs):v=x\/x<v:=by
 subst e
 rcases List.mem_cons.mp hv with hv | hv
 ·exact Or.inl hv
 ·exact Or.inr ((List.pairwise_cons.mp h).1 v hv)
theorem IS {lows highs:List Int} {top:Int} (hl:lows.Pairwise (· < ·)) (hh:highs.Pairwise (· < ·)) (nl:2<=lows.length) (nh:1<=highs.length) (ht:∀x∈lows++highs,2*(x*x)+1<=top):Cvx (eT lows highs top):=by
 have tl:∀x∈lows,2*(x*x)+1<=top:=λx h=>ht x (List.mem_append_left _ h)
 have th:∀x∈highs,2*(x*x)+1<=top:=λx h=>ht x (List.mem_append_right _ h)
 have memB:∀q∈eT lows highs top,(∃v∈lows,q=lo v)\/(∃v∈highs,q=hi top v):=by
  intro q hq
  rcases List.mem_append.mp hq with h | h
  ·obtain⟨v,hv,rfl⟩:=List.mem_map.mp h;exact Or.inl ⟨v,hv,rfl⟩
  ·obtain⟨v,hv,rfl⟩:=List.mem_map.mp h;exact Or.inr ⟨v,List.mem_reverse.mp hv,rfl⟩
 refine⟨by simp[eT];omega,?_,λa b hab q hq n1 n2=>?_⟩
 ·unfold eT
  rw[List.nodup_append]
  refine⟨?_,?_,λa ha b hb e=>?_⟩
  ·exact List.Pairwise.map _ (λx y h e=>by simp at e;omega) hl
  ·rw[List.map_reverse]
   exact List.pairwise_reverse.mpr (List.Pairwise.map _ (λx y h e=>by simp at e;omega) hh)
  ·obtain⟨x,hx,rfl⟩:=List.mem_map.mp ha
   obtain⟨y,hy,rfl⟩:=List.mem_map.mp hb
   simp at e
   obtain⟨rfl,e⟩:=e
   have:=tl x hx
   omega
 ·obtain⟨l0,l1,ls,hls⟩:∃x y r,lows=x::y::r:=by
   match lows,nl with
   | x::y::r,_=>exact⟨x,y,r,rfl⟩
  have t1:(eT lows highs top).take 1=[lo l0]:=by rw[hls];rfl
  unfold Cyc at hab
  rw[t1] at hab
  unfold eT at hab
  rw[List.append_assoc] at hab
  rcases kF _ _ a b hab with h | ⟨⟨A',h1⟩,B',h2⟩ | h
  ·-- two low ones
   obtain⟨l,x,y,r,e,rfl,rfl⟩:=CH h
   have hxy:x<y:=by rw[e] at hl;exact (List.pairwise_cons.mp (List.pairwise_append.mp hl).2.1).1 y (.head _)
   have mx:x∈lows:=e ▸ List.mem_append_right _ (.head _)
   have my:y∈lows:=e ▸ List.mem_append_right _ (.tail _ (.head _))
   rcases memB q hq with ⟨v,hv,rfl⟩ | ⟨v,hv,rfl⟩
   ·exact xR hxy (HI hl e hv (λh=>n1 (h ▸ rfl)) λh=>n2 (h ▸ rfl))
   ·exact uV hxy (tl x mx) (tl y my) (th v hv)
  ·-- the last low one and the first high one
   obtain⟨m1,m2,e,e1,e2⟩:=List.map_eq_append_iff.mp h1
   obtain⟨x,m3,rfl,rfl,e3⟩:=List.map_eq_cons_iff.mp e2
   have:m3=[]:=by simpa using e3
   subst this
   have hr:highs.reverse≠[]:=by
    intro h0
    have:=congrArg List.length h0
    simp at this
    subst this;simp at nh
   obtain⟨y,hr',ey⟩:∃y hr',highs.reverse=y::hr':=by
    cases hq':highs.reverse with
    | nil=>exact absurd hq' hr
    | cons y r=>exact⟨y,r,rfl⟩
   rw[ey] at h2
   simp at h2
   obtain⟨rfl,_⟩:=h2
   have eh:highs=hr'.reverse++[y]:=by
    have:=congrArg List.reverse ey
    simpa using this
   have mx:x∈lows:=e ▸ List.mem_append_right _ (.head _)
   have my:y∈highs:=eh ▸ List.mem_append_right _ (.head _)
   rcases memB q hq with ⟨v,hv,rfl⟩ | ⟨v,hv,rfl⟩
   ·exact PR ((HN hl e hv).resolve_left λh=>n1 (h ▸ rfl)) (tl x mx) (th y my) (tl v hv)
   ·exact KZ ((HN hh eh hv).resolve_left λh=>n2 (h ▸ rfl)) (tl x mx) (th y my) (th v hv)
  ·rcases kF _ _ a b h with h | ⟨⟨A',h1⟩,B',h2⟩ | ⟨l,r,h⟩
   ·-- two high ones
    obtain⟨l,x,y,r,e,rfl,rfl⟩:=CH h
    have e':highs=r.reverse++y::x::l.reverse:=by
     have:=congrArg List.reverse e
     simpa using this
    have hxy:y<x:=by rw[e'] at hh;exact (List.pairwise_cons.mp (List.pairwise_append.mp hh).2.1).1 x (.head _)
    have mx:x∈highs:=e' ▸ List.mem_append_right _ (.tail _ (.head _))
    have my:y∈highs:=e' ▸ List.mem_append_right _ (.head _)
    rcases memB q hq with ⟨v,hv,rfl⟩ | ⟨v,hv,rfl⟩
    ·exact FY hxy (th y my) (th x mx) (tl v hv)
    ·exact DF hxy (HI hh e' hv (λh=>n2 (h ▸ rfl)) λh=>n1 (h ▸ rfl))
   ·-- the last high one and the first low one
    simp at h2
    obtain⟨rfl,_⟩:=h2
    obtain⟨m1,m2,e,e1,e2⟩:=List.map_eq_append_iff.mp h1
    obtain⟨y,m3,rfl,rfl,e3⟩:=List.map_eq_cons_iff.mp e2
    have:m3=[]:=by simpa using e3
    subst this
    have eh:highs=y::m1.reverse:=by
     have:=congrArg List.reverse e
     simpa using this
    have my:y∈highs:=eh ▸ .head _
    have ml:l0∈lows:=hls ▸ .head _
    rcases memB q hq with ⟨v,hv,rfl⟩ | ⟨v,hv,rfl⟩
    ·exact PQ ((CC hl hls hv).resolve_left λh=>n2 (h ▸ rfl)) (tl l0 ml) (th y my) (tl v hv)
    ·exact KY ((CC hh eh hv).resolve_left λh=>n1 (h ▸ rfl)) (tl l0 ml) (th y my) (th v hv)
   ·have:=congrArg List.length h
    simp at this
    omega
theorem LO (p q r s ox oy:Int) (a b c:Pt):aH (aff p q r s ox oy a) (aff p q r s ox oy b) (aff p q r s ox oy c)=(p*s-q*r)*aH a b c:=by
 unfold aH aff;dsimp only;grind
theorem QG {p q r s ox oy:Int} (hd:0<p*s-q*r) (a b:Pt) (h:aff p q r s ox oy a=aff p q r s ox oy b):a=b:=by
 unfold aff at h
 simp only[Prod.mk.injEq] at h
 obtain⟨h1,h2⟩:=h
 have e1:(p*s-q*r)*(a.1-b.1)=0:=by grind
 have e2:(p*s-q*r)*(a.2-b.2)=0:=by grind
 have k1:=(Int.mul_eq_zero.mp e1).resolve_left (by omega)
 have k2:=(Int.mul_eq_zero.mp e2).resolve_left (by omega)
 exact Prod.ext (by omega) (by omega)
theorem FR {lows highs:List Int} {top p q r s ox oy:Int} (F:RingForm lows highs top p q r s ox oy):Cvx (lT lows highs top p q r s ox oy) :=
 (IS F.lowsR.pair F.highsR.pair F.lowsN.1 F.highsN.1 F.topL).map F.det (LO p q r s ox oy) (QG F.det)
noncomputable def sI:FD:=λds Q=>∃n:Int,ds=[.int n]/\∀s,1<=s->s<=1000000000->Q (.int s)
theorem JV:∀ds Q,sI ds Q->ds.length=1:=by rintro ds Q ⟨_,rfl,_⟩;rfl
theorem qM:∀ds Q,sI ds Q->eI { nx:=λ_=>Q .non,rt:=Q } (aP ["_law_number"] ds):=by
 rintro ds Q ⟨n,rfl,q⟩
 rw[aV 0 rfl]
 unfold eI
 walk_at "rd"
 walk_at "sides"
 obtain⟨a0,a1⟩:=bA (a:=n) (b:=3) (by decide)
 obtain⟨b0,b1⟩:=bA (a:=n.fdiv 3) (b:=12) (by decide)
 obtain⟨c0,c1⟩:=bA (a:=n.fdiv 3) (b:=1000000000) (by decide)
 refine oN a0 (by simpa using a1) λx hx=>?_
 simp only[List.mem_cons,List.not_mem_nil,or_false] at hx
 rcases hx with rfl | rfl | rfl
 ·exact q _ (by decide) (by decide)
 ·exact q _ (by omega) (by omega)
 ·exact q _ (by omega) (by omega)
structure DueOf (share:Int) (cs:List (Int × Int)) (m sh:Int) (ds:List (Int × Int)) (j:Nat):Prop where
 mpos:0<m
 sh_eq:share=m*sh
 cs_eq:cs=ds.map λz=>(m*z.1,m*z.2)
 j_lt:j<ds.length
 least:∀z∈ds,∀w,ds[j]? = some w->HT.lexLt [z.1,z.2] [w.1,w.2]=false
 cop:∀d:Nat,(d:Int)∣sh->(∀z∈ds,(d:Int)∣z.1/\(d:Int)∣z.2)->d=1
noncomputable abbrev turned {α:Type} (j:Nat) (ds:List α):List α:=ds.drop j++ds.take j
noncomputable def GF:FD:=λds Q=>∃(share:Int) (cs:List (Int × Int)),ds=[.int share,pts cs]/\(0<share/\BL 100 share)/\(cs≠[]/\cs.length<=100) /\
 ∀m sh zs j,DueOf share cs m sh zs j->Q (.tup [.int sh,.tup ((turned j zs).map pt)])
theorem QZ:∀ds Q,GF ds Q->ds.length=2:=by rintro ds Q ⟨_,_,rfl,_⟩;rfl
structure GcdOf (share:Int) (zs:List (Int × Int)) (g:Nat):Prop where
 pos:0<g
 sh:(g:Int)∣share
 all:∀z∈zs,(g:Int)∣z.1/\(g:Int)∣z.2
 most:∀d:Nat,(d:Int)∣share->(∀z∈zs,(d:Int)∣z.1/\(d:Int)∣z.2)->d∣g
theorem GcdOf.bl {share:Int} {zs:List (Int × Int)} {g:Nat} (h:GcdOf share zs g) (hs:0<share) {n:Nat} (b:BL n share):BL n (g:Int):=by
 refine b.le ?_
 have:=Int.le_of_dvd hs h.sh
 omega
theorem GcdOf.snoc {share:Int} {zs:List (Int × Int)} {g:Nat} (h:GcdOf share zs g) (z:Int × Int):GcdOf share (zs++[z]) (Int.gcd (Int.gcd g z.1:Nat) z.2):=by
 have d1:((Int.gcd (Int.gcd g z.1:Nat) z.2:Nat):Int)∣((Int.gcd g z.1:Nat):Int):=Int.gcd_dvd_left ..
 have d2:((Int.gcd g z.1:Nat):Int)∣(g:Int):=Int.gcd_dvd_left ..
 have d3:((Int.gcd g z.1:Nat):Int)∣z.1:=Int.gcd_dvd_right ..
 have d4:((Int.gcd (Int.gcd g z.1:Nat) z.2:Nat):Int)∣z.2:=Int.gcd_dvd_right ..
 have dg:=Int.dvd_trans d1 d2
 refine⟨?_,Int.dvd_trans dg h.sh,λw hw=>?_,λd e1 e2=>?_⟩
 ·have:=h.pos
  have h1:0<Int.gcd g z.1:=Int.gcd_pos_of_ne_zero_left _ (by omega)
  exact Int.gcd_pos_of_ne_zero_left _ (by omega)
 ·rcases List.mem_append.mp hw with h' | h'
  ·obtain⟨a,b⟩:=h.all w h'
   exact⟨Int.dvd_trans dg a,Int.dvd_trans dg b⟩
  ·rw[List.mem_singleton.mp h']
   exact⟨Int.dvd_trans d1 d3,d4⟩
 ·obtain⟨a,b⟩:=e2 z (by simp)
  have:=h.most d e1 λw hw=>e2 w (List.mem_append_left _ hw)
  have h1:(d:Int)∣((Int.gcd g z.1:Nat):Int):=Int.dvd_coe_gcd (by exact_mod_cast this) a
  exact_mod_cast Int.dvd_coe_gcd h1 b
theorem wV {xs:List D} {j:Nat} (h:j<=xs.length):jU xs (some (j:Int)) none=xs.drop j:=by
 unfold jU
 rw[HT.sIx_nat,HT.sIx_none,Nat.min_eq_left h,List.take_of_length_le (by simp)]
theorem GR {xs:List D} {j:Nat} (h:j<=xs.length):jU xs none (some (j:Int))=xs.take j:=by
 unfold jU
 rw[HT.sIx_nat,HT.sIx_none,Nat.min_eq_left h];simp
theorem yY (z w:Int × Int):eqF 6 (pt z) (pt w)=some (decide (z=w)):=by
 obtain⟨a,b⟩:=z
 obtain⟨c,d⟩:=w
 simp only[eqF,eqL]
 congr 1
 by_cases h1:a=c <;> by_cases h2:b=d <;> simp[h1,h2]
theorem zW:∀ds Q,GF ds Q->iR qT { nx:=λ_=>Q .non,rt:=Q } (aP ["_law_share_here","_law_ring_here","_law_most","_law_x","_law_y","_law_corners","_law_at"] ds):=by
 rintro ds Q ⟨share,cs,rfl,⟨hs,bs⟩,⟨hne,hlen⟩,q⟩
 rw[aV 5 rfl]
 unfold iR
 simp only[cL,WY,List.map_cons,List.map_nil,List.cons_append,List.nil_append]
 refine aM (λρ=>ρ=[some (.d (.int share)),some (.d (pts cs)),some (.d (.int share)),none,none,none,none]) (λK hK=>?_) ?_
 ·walk_at "rd"
  exact hK _ rfl
 rintro ρ rfl
 refine aM (λρ=>∃(g:Nat) (x y:Option S),GcdOf share cs g/\ρ=[some (.d (.int share)),some (.d (pts cs)),some (.d (.int g)),x,y,none,none]) (λK hK=>?_) ?_
 ·walk_at "rd"
  refine cX (λxs ρ=>∃(done rest:List (Int × Int)) (g:Nat) (x y:Option S),cs=done++rest/\xs=rest.map pt/\GcdOf share done g/\ρ=[some (.d (.int share)),some (.d (pts cs)),some (.d (.int g)),x,y,none,none]) ?_ ?_ _ _ ⟨[],cs,share.toNat,none,none,rfl,rfl,⟨by omega,?_,by simp,λd e1 _=>?_⟩,?_⟩
  ·rintro x xs ρ ⟨done,rest,g,u,v,e,ex,hg,rfl⟩ F _ _ hn _
   cases rest with
   | nil=>cases ex
   | cons z rest =>
    cases ex
    unfold lR
    walk_at "rd"
    refine⟨_,_,rfl,_,_,rfl,?_⟩
    exact hn _ ⟨done++[z],rest,_,_,_,by simpa using e,rfl,hg.snoc z,rfl⟩
  ·rintro ρ ⟨done,rest,g,u,v,e,ex,hg,rfl⟩
   have:rest=[]:=by simpa using ex.symm
   subst this
   rw[List.append_nil] at e
   subst e
   exact hK _ ⟨g,u,v,hg,rfl⟩
  ·have:(share.toNat:Int)=share:=by omega
   rw[this];exact Int.dvd_refl _
  ·have:(share.toNat:Int)=share:=by omega
   exact_mod_cast (by rw[this];exact e1:(d:Int)∣(share.toNat:Int))
  ·have:(share.toNat:Int)=share:=by omega
   rw[this]
 rintro ρ ⟨g,x,y,hg,rfl⟩
 have gp:(0:Int)<g:=by have:=hg.pos;omega
 have gb:BL 9000 (g:Int):=(hg.bl hs bs).mono (by decide)
 obtain⟨zs,ez⟩:∃zs,zs=cs.map λz=>(z.1 / (g:Int),z.2 / (g:Int)):=⟨_,rfl⟩
 have ec:cs=zs.map λz=>((g:Int)*z.1,(g:Int)*z.2):=by
  rw[ez,List.map_map]
  symm
  conv=>rhs;rw[<-List.map_id cs]
  refine List.map_congr_left λz hz=>?_
  obtain⟨a,b⟩:=hg.all z hz
  simp only[Function.comp,id,Int.mul_ediv_cancel' a,Int.mul_ediv_cancel' b]
 refine aM (λρ=>ρ=[some (.d (.int share)),some (.d (pts cs)),some (.d (.int g)),x,y,some (.own (zs.map pt)),none]) (λK hK=>?_) ?_
 ·walk_at "rd"
  refine⟨dG (by simp;omega),?_⟩
  refine dA (λρ=>∃a b,ρ=[a,b,some (.d (.int g))]) pt (λz=>pt (z.1 / (g:Int),z.2 / (g:Int))) cs ?_ ⟨_,_,rfl⟩ ?_
  ·rintro z hz ρ ⟨a,b,rfl⟩ K' hK'
   walk_at "rd"
   refine⟨gb.divOk (by omega),gb.divOk (by omega),?_⟩
   rw[Int.fdiv_eq_ediv_of_nonneg _ (by omega),Int.fdiv_eq_ediv_of_nonneg _ (by omega)]
   exact hK' _ ⟨_,_,rfl⟩
  ·refine hK _ ?_
   rw[ez,List.map_map];rfl
 rintro ρ rfl
 have lz:zs.length=cs.length:=by rw[ez];simp
 have hz:zs≠[]:=by intro e;rw[e] at lz;exact hne (List.length_eq_zero_iff.mp lz.symm)
 refine aM (λρ=>∃j:Nat,(j<zs.length/\∀z∈zs,∀w,zs[j]? = some w->HT.lexLt [z.1,z.2] [w.1,w.2]=false)/\ρ=[some (.d (.int share)),some (.d (pts cs)),some (.d (.int g)),x,y,some (.own (zs.map pt)),some (.d (.int j))]) (λK hK=>?_) ?_
 ·walk_at "rd"
  refine⟨⟨_,rfl⟩,zs.map λz=>[z.1,z.2],by rw[List.map_map];rfl,by simpa using hz,λM hM hmin=>?_⟩
  obtain⟨w,hw,rfl⟩:=List.mem_map.mp hM
  have hlt:zs.findIdx (λz=>decide (z=w))<zs.length:=List.findIdx_lt_length_of_exists ⟨w,hw,by simp⟩
  have hat:=List.findIdx_getElem (w:=hlt)
  have hat':zs[zs.findIdx (λz=>decide (z=w))]=w:=by simpa using hat
  refine⟨zs.findIdx (λz=>decide (z=w)),⟨pt w,?_,?_⟩,λi d hi ed=>?_,λd hd=>?_,hK _ ⟨_,⟨hlt,λz hz v ev=>?_⟩,rfl⟩⟩
  ·rw[List.getElem?_map,List.getElem?_eq_getElem hlt,hat'];rfl
  ·show eqF 6 (pt w) (pt w)=_
   rw[yY];simp
  ·rw[List.getElem?_map] at ed
   cases e:zs[i]? with
   | none=>rw[e] at ed;cases ed
   | some z =>
    rw[e] at ed;cases ed
    show eqF 6 (pt z) (pt w)=_
    have hil:i<zs.length:=(List.getElem?_eq_some_iff.mp e).1
    have:=List.not_of_lt_findIdx hi
    rw[yY]
    have e2:zs[i]=z:=by rw[List.getElem?_eq_getElem hil] at e;exact Option.some.inj e
    rw[e2] at this
    simpa using this
  ·obtain⟨z,_,rfl⟩:=List.mem_map.mp hd
   exact⟨_,yY z w⟩
  ·rw[List.getElem?_eq_getElem hlt,hat'] at ev;cases ev
   exact hmin _ (List.mem_map.mpr ⟨z,hz,rfl⟩)
 rintro ρ ⟨j,⟨hj,hleast⟩,rfl⟩
 walk_at "rd"
 have lm:(zs.map pt).length=zs.length:=by simp
 rw[wV (by omega),GR (by omega)]
 refine⟨gb.divOk (by omega),dG (by simp;omega),?_⟩
 rw[Int.fdiv_eq_ediv_of_nonneg _ (by omega)]
 have:=q g (share / g) zs j ⟨gp,(Int.mul_ediv_cancel' hg.sh).symm,ec,hj,hleast,λd e1 e2=>?_⟩
 ·rw[List.map_append,List.map_drop,List.map_take] at this
  exact this
 ·have h1:((g*d:Nat):Int)∣share:=by
   rw[<-Int.mul_ediv_cancel' hg.sh]
   push_cast
   exact Int.mul_dvd_mul (Int.dvd_refl _) e1
  have h2:=hg.most (g*d) h1 λz hz=>by
   rw[ec] at hz
   obtain⟨w,hw,rfl⟩:=List.mem_map.mp hz
   obtain⟨a,b⟩:=e2 w hw
   push_cast
   exact⟨Int.mul_dvd_mul (Int.dvd_refl _) a,Int.mul_dvd_mul (Int.dvd_refl _) b⟩
  have h3:=Nat.le_of_dvd hg.pos h2
  have h4:d≠0:=λe=>by
   subst e
   simp at h2
   have:=hg.pos;omega
  have h5:=hg.pos
  rcases Nat.lt_or_ge 1 d with h | h
  ·have:g*2<=g*d:=Nat.mul_le_mul_left _ h
   omega
  ·omega
noncomputable def BP (z:Pt):Prop:=BL 20000 z.1/\BL 20000 z.2
noncomputable def dU:FD:=λds Q=>∃a b c:Pt,ds=[pt a,pt b,pt c]/\(BP a/\BP b/\BP c)/\Q (.int (aH a b c))
theorem NP:∀ds Q,dU ds Q->ds.length=3:=by rintro ds Q ⟨_,_,_,rfl,_⟩;rfl
theorem KP:∀ds Q,dU ds Q->sO { nx:=λ_=>Q .non,rt:=Q } (aP ["one","middle","other","along","across"] ds):=by
 rintro ds Q ⟨a,b,c,rfl,⟨ba,bb,bc⟩,q⟩
 rw[aV 2 rfl]
 unfold sO
 walk_at "rd"
 exact⟨(bb.1.sub ba.1).mulOk (bc.2.sub ba.2),(bb.2.sub ba.2).mulOk (bc.1.sub ba.1),q⟩
noncomputable def xX:FD:=λds Q=>∃ps:List Pt,ds=[pts ps]/\(∀z∈ps,BP z)/\ps.length<=900/\Q (pts (gO ps))
theorem NK:∀ds Q,xX ds Q->ds.length=1:=by rintro ds Q ⟨_,rfl,_⟩;rfl
theorem LR {α:Type} (xs:List α) (x:α):atI (xs++[x]) (-1)=some x:=by
 unfold atI ixN
 rw[if_neg (by decide),if_pos (by simp;omega)]
 have:((-1:Int)+((xs++[x]).length:Nat)).toNat=xs.length:=by simp;omega
 simp only[this,Option.bind_some]
 simp
theorem LS {α:Type} (xs:List α) (x y:α):atI (xs++[x,y]) (-2)=some x:=by
 unfold atI ixN
 rw[if_neg (by decide),if_pos (by simp;omega)]
 have:((-2:Int)+((xs++[x,y]).length:Nat)).toNat=xs.length:=by simp;omega
 simp only[this,Option.bind_some]
 simp
theorem tT (E:DEnds) (u:Option S) (p:Pt) (hp:BP p):∀s:List Pt,(∀z∈s,BP z)->E.nx [u,some (.own ((cE p s).reverse.map pt)),some (.d (pt p))] ->
  nX (CU (bD (r2 (dH λi j=>decide (j<i)) (r1 gH (aB 1)) (rC (.int 1)))) (bD (r2 (dH λi j=>decide (i<=j)) (bC dU (aD (r2 dIx (aB 1) (r1 jG (rC (.int 2)))) (aD (r2 dIx (aB 1) (r1 jG (rC (.int 1)))) (aD (aU 2) (aN))))) (rC (.int 0))))) (dR) E [u,some (.own (s.reverse.map pt)),some (.d (pt p))]
 | [],_,h=>by
  refine⟨1,?_⟩
  unfold fG
  walk_at "rd"
  simp
  exact h
 | [x],_,h=>by
  refine⟨1,?_⟩
  unfold fG
  walk_at "rd"
  simp
  exact h
 | b::a::r,hs,h=>by
  have ea:((b::a::r).reverse.map pt)=(r.reverse.map pt)++[pt a,pt b]:=by simp
  have eb:((b::a::r).reverse.map pt)=((a::r).reverse.map pt)++[pt b]:=by simp
  have i2:=LS (r.reverse.map pt) (pt a) (pt b)
  have i1:=LR ((a::r).reverse.map pt) (pt b)
  rw[<-ea] at i2;rw[<-eb] at i1
  by_cases ht:aH a b p<=0
  ·have e:cE p (b::a::r)=cE p (a::r):=by rw[cE,if_pos ht]
   rw[e] at h
   obtain⟨n,hn⟩:=tT E u p hp (a::r) (λz hz=>hs z (List.mem_cons_of_mem _ hz)) h
   refine⟨n+1,?_⟩
   unfold fG
   generalize hW:fG (CU (bD (r2 (dH λi j=>decide (j<i)) (r1 gH (aB 1)) (rC (.int 1)))) (bD (r2 (dH λi j=>decide (i<=j)) (bC dU (aD (r2 dIx (aB 1) (r1 jG (rC (.int 2)))) (aD (r2 dIx (aB 1) (r1 jG (rC (.int 1)))) (aD (aU 2) (aN))))) (rC (.int 0))))) dR n E=W at hn
   walk_at "rd"
   rw[if_pos (by simp;omega)]
   refine jX i2 (jX i1 ⟨a,b,p,rfl,⟨hs a (by simp),hs b (by simp),hp⟩,?_⟩)
   show if aH a b p<=0 then _ else _
   rw[if_pos ht]
   unfold dR
   walk_at "rd"
   refine⟨by simp,?_⟩
   rw[eb,List.dropLast_concat]
   exact hn
  ·have e:cE p (b::a::r)=b::a::r:=by rw[cE,if_neg ht]
   rw[e] at h
   refine⟨1,?_⟩
   unfold fG
   walk_at "rd"
   rw[if_pos (by simp;omega)]
   refine jX i2 (jX i1 ⟨a,b,p,rfl,⟨hs a (by simp),hs b (by simp),hp⟩,?_⟩)
   show if aH a b p<=0 then _ else _
   rw[if_neg ht]
   exact h
theorem CO (p:Pt) (s:List Pt):(cE p s).length<=s.length:=(jM p s).length_le
theorem rS:∀ds Q,xX ds Q->gC dU { nx:=λ_=>Q .non,rt:=Q } (aP ["points","chain","point"] ds):=by
 rintro ds Q ⟨ps,rfl,hb,hl,q⟩
 rw[aV 2 rfl]
 unfold gC
 simp only[cL,OV,List.map_cons,List.map_nil,List.cons_append,List.nil_append]
 refine aM (λρ=>ρ=[some (.d (pts ps)),some (.own []),none]) (λK hK=>?_) ?_
 ·walk_at "rd"
  exact hK _ rfl
 rintro ρ rfl
 refine aM (λρ=>∃x:Option S,ρ=[some (.d (pts ps)),some (.own ((cH ps).reverse.map pt)),x]) (λK hK=>?_) ?_
 ·walk_at "rd"
  refine cX (λxs ρ=>∃(done rest:List Pt) (x:Option S),ps=done++rest/\xs=rest.map pt/\ρ=[some (.d (pts ps)),some (.own ((cH done).reverse.map pt)),x]) ?_ ?_ _ _ ⟨[],ps,none,rfl,rfl,rfl⟩
  ·rintro x xs ρ ⟨done,rest,u,e,ex,rfl⟩ F _ _ hn _
   cases rest with
   | nil=>cases ex
   | cons z rest =>
    cases ex
    have bd:∀w∈done,BP w:=λw hw=>hb w (by rw[e];simp[hw])
    have bz:BP z:=hb z (by rw[e];simp)
    have ld:done.length<ps.length:=by rw[e];simp
    have sub:∀(L s:List Pt),(∀q∈L.foldl (λs p=>p::cE p s) s,q∈L\/q∈s)/\(L.foldl (λs p=>p::cE p s) s).length<=L.length+s.length:=by
     intro L
     induction L with
     | nil=>intro s;exact⟨λq h=>Or.inr h,by simp⟩
     | cons y L ih =>
      intro s
      obtain⟨i1,i2⟩:=ih (y::cE y s)
      refine⟨λq h=>?_,?_⟩
      ·rcases i1 q h with h | h
       ·exact Or.inl (by simp[h])
       ·rcases List.mem_cons.mp h with h | h
        ·exact Or.inl (by simp[h])
        ·exact Or.inr ((jM y s).subset h)
      ·have:=CO y s
       simp only[List.foldl_cons,List.length_cons] at i2 ⊢
       omega
    obtain⟨s1,s2⟩:=sub done []
    unfold jP
    simp only[aZ,List.set_cons_zero,List.set_cons_succ]
    refine tT _ _ z bz (cH done) (λw hw=>?_) ?_
    ·rcases s1 w hw with h | h
     ·exact bd w h
     ·cases h
    ·walk_at "rd"
     have l1:=CO z (cH done)
     have l2:(cH done).length<=done.length:=by simpa [cH] using s2
     refine⟨⟨HL (by simp;omega)⟩,hn _ ⟨done++[z],rest,some (.d (pt z)),by simpa using e,rfl,?_⟩⟩
     unfold cH
     simp
  ·rintro ρ ⟨done,rest,u,e,ex,rfl⟩
   have:rest=[]:=by simpa using ex.symm
   subst this
   rw[List.append_nil] at e
   subst e
   exact hK _ ⟨u,rfl⟩
 rintro ρ ⟨x,rfl⟩
 walk_at "rd"
 have e:jU ((cH ps).reverse.map pt) none (some (-1))=(gO ps).map pt:=by
  unfold jU gO
  rw[List.map_dropLast]
  generalize (cH ps).reverse.map pt=xs
  have h1:HT.sIx xs.length 0 none=0:=rfl
  have h2:HT.sIx xs.length xs.length (some (-1))=xs.length-1:=by
   unfold HT.sIx
   simp
   omega
  rw[h1,h2,List.drop_zero,Nat.sub_zero,List.dropLast_eq_take]
 rw[e]
 exact q
theorem RD (z w:Pt):dY [z.1,z.2] [w.1,w.2]=decide (ltP z w):=by
 unfold ltP
 simp only[dY]
 by_cases h:z.1=w.1
 ·rw[if_pos h]
  by_cases h2:z.2=w.2
  ·rw[if_pos h2];simp[h,h2]
  ·rw[if_neg h2];simp[h]
 ·rw[if_neg h];simp[h]
noncomputable def cN:FD:=λds Q=>∃ps:List Pt,ds=[pts ps]/\(∀z∈ps,BP z)/\ps.length<64/\∀D r:List Pt,Inc D->(∀z,z∈D↔z∈ps)->(2<=D.length->r=mT D)->(D.length<=1->r.length<3)->r.length<=200->Q (pts r)
theorem BW:∀ds Q,cN ds Q->ds.length=1:=by rintro ds Q ⟨_,rfl,_⟩;rfl
theorem zX:∀ds Q,cN ds Q->kM xX { nx:=λ_=>Q .non,rt:=Q } (aP ["points","rising"] ds):=by
 rintro ds Q ⟨ps,rfl,hb,hl,q⟩
 rw[aV 1 rfl]
 unfold kM
 walk_at "rd"
 unfold uP uO
 walk_at "rd"
 refine⟨ps.map λz=>[z.1,z.2],by rw[List.map_map];rfl,by simpa using hl,λns h=>?_,λmss hs hm hlen=>?_⟩
 ·obtain⟨z,_,rfl⟩:=List.mem_map.mp h;simp
 obtain⟨L,hL⟩:∃L:List Pt,mss=L.map λz=>[z.1,z.2]:=by
  have:∀ms∈mss,∃z:Pt,ms=[z.1,z.2]:=λms h=>by
   obtain⟨z,_,e⟩:=List.mem_map.mp ((hm ms).mp h)
   exact⟨z,e.symm⟩
  clear hs hm hlen
  induction mss with
  | nil=>exact⟨[],rfl⟩
  | cons m mss ih =>
   obtain⟨L,e⟩:=ih λms h=>this ms (List.mem_cons_of_mem _ h)
   obtain⟨z,e2⟩:=this m (by simp)
   exact⟨z::L,by rw[e,e2];rfl⟩
 subst hL
 have inj:∀z w:Pt,[z.1,z.2]=[w.1,w.2]->z=w:=λz w h=>by simp at h;exact Prod.ext h.1 h.2
 have memL:∀z,z∈L↔z∈ps:=λz=>by
  have:=hm [z.1,z.2]
  constructor
  ·intro h
   obtain⟨w,hw,e⟩:=List.mem_map.mp (this.mp (List.mem_map.mpr ⟨z,h,rfl⟩))
   rw[<-inj _ _ e];exact hw
  ·intro h
   obtain⟨w,hw,e⟩:=List.mem_map.mp (this.mpr (List.mem_map.mpr ⟨z,h,rfl⟩))
   rw[<-inj _ _ e];exact hw
 have wL:DY L:=by
  unfold DY
  refine (List.pairwise_map.mp hs).imp λ{a b} h=>?_
  rw[RD] at h
  simpa using h
 have eL:D.lst (List.map jS (List.map (λz:Pt=>[z.1,z.2]) L))=pts L:=by rw[List.map_map];rfl
 have lL:L.length<=63:=by simp at hlen;omega
 have bL:∀z∈L,BP z:=λz hz=>hb z ((memL z).mp hz)
 obtain⟨D,HD⟩:=NA L wL
 obtain⟨o1,o2⟩:=BF wL HD.inc HD.mem
 have h1:∀M:List Pt,(gO M).length<=M.length:=λM=>by
  unfold gO
  have:=NG M
  simp;omega
 rw[eL]
 refine⟨L,rfl,bL,by omega,L.map pt,rfl,L.reverse,by rw[<-List.map_reverse],λz hz=>bL z (List.mem_reverse.mp hz),by simp;omega,?_⟩
 have a1:=h1 L
 have a2:=h1 L.reverse
 rw[List.length_reverse] at a2
 show Sz (((gO L).map pt).length+((gO L.reverse).map pt).length)/\Q (.lst ((gO L).map pt++(gO L.reverse).map pt))
 refine⟨⟨HL (by simp;omega)⟩,?_⟩
 rw[<-List.map_append]
 exact q D (mT L) HD.inc (λz=>(HD.mem z).trans (memL z)) o1 o2 (by unfold mT;simp;omega)
structure NormOf (share:Int) (cs:List Pt) (m sh:Int) (zs:List Pt):Prop where
 mpos:0<m
 sh_eq:share=m*sh
 cs_eq:cs=zs.map λz=>(m*z.1,m*z.2)
 cop:∀d:Nat,(d:Int)∣sh->(∀z∈zs,(d:Int)∣z.1/\(d:Int)∣z.2)->d=1
structure RingIn (ps:List Pt) (z:Pt) (T:List Pt):Prop where
 cvx:Cvx (z::T)
 least:∀q∈T,¬ltP q z
 mem:∀q∈z::T,q∈ps
 left:∀a b,Cyc (z::T) a b->∀q∈ps,0<=aH a b q
noncomputable def ZL (ps:List Pt):Prop:=∀D,Inc D->(∀z,z∈D↔z∈ps)->2<=D.length->(mT D).length<3
noncomputable def cO:FD:=λds Q=>∃(share:Int) (ps:List Pt),ds=[.int share,pts ps]/\(0<share/\BL 9000 share)/\(∀z∈ps,BP z)/\ps.length<64 /\
 ((∃z T,RingIn ps z T/\∀m sh zs,NormOf share (z::T) m sh zs->Q (.tup [.int sh,.tup (zs.map pt)]))\/(ZL ps/\Q .non))
theorem BX:∀ds Q,cO ds Q->ds.length=2:=by rintro ds Q ⟨_,_,rfl,_⟩;rfl
theorem zY:∀ds Q,cO ds Q->kN cN qT { nx:=λ_=>Q .non,rt:=Q } (aP ["share","points","corners","divisor","x","y"] ds):=by
 rintro ds Q ⟨share,ps,rfl,⟨hs,bs⟩,hb,hl,hq⟩
 rw[aV 4 rfl]
 unfold kN
 simp only[cL,OW,List.map_cons,List.map_nil,List.cons_append,List.nil_append]
 refine aM (λρ=>∃r:List Pt,r.length<=200/\((r.length<3/\Q .non)\/(3<=r.length/\∀m sh zs,NormOf share r m sh zs->Q (.tup [.int sh,.tup (zs.map pt)])))/\ρ=[some (.d (.int share)),some (.d (pts ps)),some (.d (pts r)),none,none,none]) (λK hK=>?_) ?_
 ·walk_at "rd"
  refine⟨ps,rfl,hb,hl,λD r iD hm h2 h1 hr=>hK _ ⟨r,hr,?_,rfl⟩⟩
  rcases hq with ⟨z,T,R,q⟩ | ⟨fl,q⟩
  ·have sub:3<=D.length:=by
    have:=iY (z::T) D R.cvx.nodup λx hx=>(hm x).mpr (R.mem x hx)
    have:=R.cvx.len
    omega
   have e:=AC (L:=ps) iD R.cvx R.least (λx hx=>(hm x).mpr (R.mem x hx)) λa b hab x hx=>R.left a b hab x ((hm x).mp hx)
   have er:=h2 (by omega)
   rw[e] at er
   subst er
   exact Or.inr ⟨R.cvx.len,q⟩
  ·refine Or.inl ⟨?_,q⟩
   by_cases hd:2<=D.length
   ·rw[h2 hd];exact fl D iD hm hd
   ·exact h1 (by omega)
 rintro ρ ⟨r,hr,hq,rfl⟩
 rcases hq with ⟨h3,q⟩ | ⟨h3,q⟩
 ·walk_at "rd"
  rw[if_pos (by simp;omega)]
  exact q
 refine aM (λρ=>ρ=[some (.d (.int share)),some (.d (pts ps)),some (.d (pts r)),none,none,none]) (λK hK=>?_) ?_
 ·walk_at "rd"
  rw[if_neg (by simp;omega)]
  exact hK _ rfl
 rintro ρ rfl
 refine aM (λρ=>ρ=[some (.d (.int share)),some (.d (pts ps)),some (.d (pts r)),some (.d (.int share)),none,none]) (λK hK=>?_) ?_
 ·walk_at "rd"
  exact hK _ rfl
 rintro ρ rfl
 refine aM (λρ=>∃(g:Nat) (x y:Option S),GcdOf share r g/\ρ=[some (.d (.int share)),some (.d (pts ps)),some (.d (pts r)),some (.d (.int g)),x,y]) (λK hK=>?_) ?_
 ·walk_at "rd"
  refine cX (λxs ρ=>∃(done rest:List Pt) (g:Nat) (x y:Option S),r=done++rest/\xs=rest.map pt/\GcdOf share done g/\ρ=[some (.d (.int share)),some (.d (pts ps)),some (.d (pts r)),some (.d (.int g)),x,y]) ?_ ?_ _ _ ⟨[],r,share.toNat,none,none,rfl,rfl,⟨by omega,?_,by simp,λd e1 _=>?_⟩,?_⟩
  ·rintro x xs ρ ⟨done,rest,g,u,v,e,ex,hg,rfl⟩ F _ _ hn _
   cases rest with
   | nil=>cases ex
   | cons z rest =>
    cases ex
    unfold mW
    walk_at "rd"
    refine⟨_,_,rfl,_,_,rfl,?_⟩
    exact hn _ ⟨done++[z],rest,_,_,_,by simpa using e,rfl,hg.snoc z,rfl⟩
  ·rintro ρ ⟨done,rest,g,u,v,e,ex,hg,rfl⟩
   have:rest=[]:=by simpa using ex.symm
   subst this
   rw[List.append_nil] at e
   subst e
   exact hK _ ⟨g,u,v,hg,rfl⟩
  ·have:(share.toNat:Int)=share:=by omega
   rw[this];exact Int.dvd_refl _
  ·have:(share.toNat:Int)=share:=by omega
   exact_mod_cast (by rw[this];exact e1:(d:Int)∣(share.toNat:Int))
  ·have:(share.toNat:Int)=share:=by omega
   rw[this]
 rintro ρ ⟨g,x,y,hg,rfl⟩
 have gp:(0:Int)<g:=by have:=hg.pos;omega
 have gb:BL 9000 (g:Int):=hg.bl hs bs
 obtain⟨zs,ez⟩:∃zs,zs=r.map λz=>(z.1 / (g:Int),z.2 / (g:Int)):=⟨_,rfl⟩
 have ec:r=zs.map λz=>((g:Int)*z.1,(g:Int)*z.2):=by
  rw[ez,List.map_map]
  symm
  conv=>rhs;rw[<-List.map_id r]
  refine List.map_congr_left λz hz=>?_
  obtain⟨a,b⟩:=hg.all z hz
  simp only[Function.comp,id,Int.mul_ediv_cancel' a,Int.mul_ediv_cancel' b]
 obtain⟨sh,es⟩:=hg.sh
 have ediv:share.fdiv g=sh:=by
  rw[Int.fdiv_eq_ediv_of_nonneg _ (by omega),es,Int.mul_ediv_cancel_left _ (by omega)]
 walk_at "rd"
 refine⟨gb.divOk (by omega),?_⟩
 refine⟨dG (by simp;omega),?_⟩
 refine dA (λρ=>∃a b,ρ=[a,b,some (.d (.int g))]) pt (λz=>pt (z.1 / (g:Int),z.2 / (g:Int))) r ?_ ⟨_,_,rfl⟩ ?_
 ·rintro z hz ρ ⟨a,b,rfl⟩ K' hK'
  walk_at "rd"
  refine⟨gb.divOk (by omega),gb.divOk (by omega),?_⟩
  rw[Int.fdiv_eq_ediv_of_nonneg _ (by omega),Int.fdiv_eq_ediv_of_nonneg _ (by omega)]
  exact hK' _ ⟨_,_,rfl⟩
 ·have e:List.map (λz:Pt=>pt (z.1 / (g:Int),z.2 / (g:Int))) r=zs.map pt:=by rw[ez,List.map_map];rfl
  rw[ediv,e]
  refine q g sh zs ⟨gp,es,ec,λd h1 h2=>?_⟩
  have:=hg.most (d*g) (by
   rw[es];push_cast
   obtain⟨c,ec⟩:=h1
   exact⟨c,by rw[ec];grind⟩) λz hz=>by
   rw[ec] at hz
   obtain⟨w,hw,rfl⟩:=List.mem_map.mp hz
   obtain⟨⟨c1,e1⟩,c2,e2⟩:=h2 w hw
   push_cast
   exact⟨⟨c1,by rw[e1];grind⟩,c2,by rw[e2];grind⟩
  have le:=Nat.le_of_dvd hg.pos this
  have d0:d≠0:=by
   rintro rfl
   rw[Nat.zero_mul] at this
   have:=Nat.eq_zero_of_zero_dvd this
   have:=hg.pos
   omega
  apply Nat.le_antisymm ?_ (by omega)
  apply Nat.not_lt.mp
  intro h
  have:2*g<=d*g:=Nat.mul_le_mul_right _ h
  have:=hg.pos
  omega
noncomputable def Rot {α:Type} (A B:List α):Prop:=∃X Y,A=X++Y/\B=Y++X
theorem Rot.symm {α:Type} {A B:List α} (h:Rot A B):Rot B A:=by obtain⟨X,Y,a,b⟩:=h;exact⟨Y,X,b,a⟩
theorem Rot.trans {α:Type} {A B C:List α} (h:Rot A B) (k:Rot B C):Rot A C:=by
 obtain⟨X,Y,rfl,rfl⟩:=h
 obtain⟨X',Y',e,rfl⟩:=k
 rcases List.append_eq_append_iff.mp e with ⟨W,e1,e2⟩ | ⟨W,e1,e2⟩
 ·-- X'=Y++W
  exact⟨W,Y'++Y,by rw[e2];simp,by rw[e1];simp⟩
 ·exact⟨X++X',W,by rw[e1];simp,by rw[e2];simp⟩
theorem Rot.map {α β:Type} {A B:List α} (f:α->β) (h:Rot A B):Rot (A.map f) (B.map f):=by
 obtain⟨X,Y,rfl,rfl⟩:=h;exact⟨X.map f,Y.map f,by simp,by simp⟩
theorem Rot.mem {α:Type} {A B:List α} (h:Rot A B) (x:α):x∈A↔x∈B:=by
 obtain⟨X,Y,rfl,rfl⟩:=h;simp[or_comm]
theorem Cvx.rot {A B:List Pt} (h:Rot A B) (c:Cvx A):Cvx B:=by obtain⟨X,Y,rfl,rfl⟩:=h;exact c.swap
theorem BU (cs:List Pt) (hne:cs≠[]):∃z T,Rot cs (z::T)/\∀q∈T,¬ltP q z:=by
 have:∃z∈cs,∀q∈cs,¬ltP q z:=by
  induction cs with
  | nil=>exact absurd rfl hne
  | cons c cs ih =>
   by_cases hc:cs=[]
   ·subst hc;exact⟨c,by simp,λq hq=>by simp at hq;subst hq;exact gS⟩
   ·obtain⟨z,hz,hl⟩:=ih hc
    rcases fV c z with h | h | h
    ·refine⟨c,by simp,λq hq=>?_⟩
     rcases List.mem_cons.mp hq with rfl | hq
     ·exact gS
     ·exact λk=>hl q hq (fP k h)
    ·subst h
     refine⟨c,by simp,λq hq=>?_⟩
     rcases List.mem_cons.mp hq with rfl | hq
     ·exact gS
     ·exact hl q hq
    ·refine⟨z,by simp[hz],λq hq=>?_⟩
     rcases List.mem_cons.mp hq with rfl | hq
     ·exact hE h
     ·exact hl q hq
 obtain⟨z,hz,hl⟩:=this
 obtain⟨X,Y,rfl⟩:=List.append_of_mem hz
 exact⟨z,Y++X,⟨X,z::Y,rfl,rfl⟩,λq hq=>hl q (by simp at hq ⊢;rcases hq with h | h <;> simp[h])⟩
noncomputable abbrev scl (k:Int) (z:Pt):Pt:=(k*z.1,k*z.2)
theorem FT {k:Int} (hk:0<k) {a b:Pt}:ltP (scl k a) (scl k b)↔ltP a b:=by
 unfold ltP scl
 dsimp only
 rw[Int.mul_lt_mul_left hk,Int.mul_lt_mul_left hk]
 constructor
 ·rintro (h | ⟨h,h'⟩)
  ·exact Or.inl h
  ·exact Or.inr ⟨Int.eq_of_mul_eq_mul_left (by omega) h,h'⟩
 ·rintro (h | ⟨h,h'⟩)
  ·exact Or.inl h
  ·exact Or.inr ⟨by rw[h],h'⟩
theorem IF {k:Int} (hk:0<k) {a b:Pt} (h:scl k a=scl k b):a=b:=by
 simp only[scl,Prod.mk.injEq] at h
 exact Prod.ext (Int.eq_of_mul_eq_mul_left (by omega) h.1) (Int.eq_of_mul_eq_mul_left (by omega) h.2)
theorem PH (k:Int) (a b c:Pt):aH (scl k a) (scl k b) (scl k c)=k*k*aH a b c:=by unfold aH scl;dsimp only;grind
theorem Cvx.unscl {k:Int} (hk:0<k) {cs:List Pt} (h:Cvx (cs.map (scl k))):Cvx cs:=by
 refine⟨by simpa using h.len,?_,λa b hab q hq n1 n2=>?_⟩
 ·exact List.Pairwise.of_map (scl k) (λa b hn e=>hn (by rw[e])) h.nodup
 ·have c:Cyc (cs.map (scl k)) (scl k a) (scl k b):=by
   obtain⟨l,r,e⟩:=hab
   refine⟨l.map (scl k),r.map (scl k),?_⟩
   rw[<-List.map_take,<-List.map_append,e];simp
  have:=h.strict _ _ c (scl k q) (List.mem_map_of_mem hq) (λe=>n1 (IF hk e)) λe=>n2 (IF hk e)
  rw[PH] at this
  exact Int.pos_of_mul_pos_left (by rw[Int.mul_comm];exact this) (Int.mul_pos hk hk)
noncomputable abbrev mv (k r w:Int) (z:Pt):Pt:=(k*z.1+r,k*z.2+w)
theorem hV {x lo hi:Int} (h:lo<=x/\x<=hi) (h1:-1000000<lo) (h2:hi<1000000):BL 20 x:=by unfold BL;omega
theorem XV {a b:Int} (c hi:Int) (hb:0<b) (h:c+b<=hi+1):c<=c+a.fmod b/\c+a.fmod b<=hi:=by
 obtain⟨h1,h2⟩:=bA (a:=a) hb
 exact⟨by omega,by omega⟩
theorem TY {a b:Int} (c hi:Int) (hb:0<b) (h:b<=c+hi+1):-c<=a.fmod b-c/\a.fmod b-c<=hi:=by
 obtain⟨h1,h2⟩:=bA (a:=a) hb
 exact⟨by omega,by omega⟩
theorem LN {x:Int} {n:Nat} (h:-(n:Int)<=x/\x<=n):x.natAbs<=n:=by omega
theorem VI {x:Int} {n:Nat} (h:x.natAbs<=n):-(n:Int)<=x/\x<=n:=by omega
noncomputable def QE:FD:=λds Q=>∃(h0 h1 h2 h3 h4 h5 h6:Int) (rest:List D) (far:Int),ds=[.lst (.int h0 :: .int h1 :: .int h2 :: .int h3 :: .int h4 :: .int h5 :: .int h6::rest),.int far]/\(0<=far/\BL 200 far) /\
 ∀lows highs top p q r s ox oy,RingForm lows highs top p q r s ox oy->lows.length<=4->Q (pts (lT lows highs top p q r s ox oy))
theorem rY:∀ds Q,QE ds Q->dM oF { nx:=λ_=>Q .non,rt:=Q } (aP ["_law_head","_law_far","_law_lows","_law_highs","_law_top","_law_ring_here","_law_p","_law_q","_law_r","_law_s","_law_off"] ds):=by
 rintro ds Q ⟨h0,h1,h2,h3,h4,h5,h6,rest,far,rfl,⟨hf0,hf1⟩,hQ⟩
 rw[aV 9 rfl]
 unfold dM
 generalize hH:D.lst (.int h0 :: .int h1 :: .int h2 :: .int h3 :: .int h4 :: .int h5 :: .int h6::rest)=HD
 simp only[cL,YW,List.map_cons,List.map_nil,List.cons_append,List.nil_append]
 refine aM (λρ=>∃lows,Rises lows/\(2<=lows.length/\lows.length<=4)/\ρ=[some (.d HD),some (.d (.int far)),some (.d (il lows)),none,none,none,none,none,none,none,none]) (λK hK=>?_) ?_
 ·rw[<-hH] at hK ⊢
  walk_at "rd"
  walk_at "sides"
  obtain⟨a0,a1⟩:=bA (a:=h0) (b:=3) (by decide)
  exact⟨_,_,rfl,⟨by omega,by omega⟩,λxs hr hl=>hK _ ⟨xs,hr,⟨by omega,by omega⟩,rfl⟩⟩
 rintro ρ ⟨lows,hlr,hln,rfl⟩
 refine aM (λρ=>∃highs,Rises highs/\(1<=highs.length/\highs.length<=3)/\ρ=[some (.d HD),some (.d (.int far)),some (.d (il lows)),some (.d (il highs)),none,none,none,none,none,none,none]) (λK hK=>?_) ?_
 ·rw[<-hH] at hK ⊢
  walk_at "rd"
  walk_at "sides"
  obtain⟨a0,a1⟩:=bA (a:=h1) (b:=3) (by decide)
  exact⟨_,_,rfl,⟨by omega,by omega⟩,λxs hr hl=>hK _ ⟨xs,hr,⟨by omega,by omega⟩,rfl⟩⟩
 rintro ρ ⟨highs,hhr,hhn,rfl⟩
 have small:∀x∈lows++highs,-4<=x/\x<=60:=λx hx=>by
  rcases List.mem_append.mp hx with h | h
  ·obtain⟨i,hi,rfl⟩:=List.getElem_of_mem h
   have:=hlr.bound i _ (List.getElem?_eq_getElem hi)
   omega
  ·obtain⟨i,hi,rfl⟩:=List.getElem_of_mem h
   have:=hhr.bound i _ (List.getElem?_eq_getElem hi)
   omega
 have sq:∀x∈lows++highs,0<=x*x/\x*x<=3600:=λx hx=>by
  have:=small x hx
  constructor
  ·exact UL x
  ·by_cases h:0<=x
   ·exact Int.le_trans (Int.mul_le_mul this.2 this.2 h (by decide)) (by decide)
   ·have:x = -4\/x = -3\/x = -2\/x = -1:=by omega
    rcases this with rfl | rfl | rfl | rfl <;> decide
 refine aM (λρ=>∃top,(∀x∈lows++highs,2*(x*x)+1<=top)/\top<=10000/\ρ=[some (.d HD),some (.d (.int far)),some (.d (il lows)),some (.d (il highs)),some (.d (.int top)),none,none,none,none,none,none]) (λK hK=>?_) ?_
 ·rw[<-hH] at hK ⊢
  walk_at "rd"
  refine⟨dG (by simp;omega),dG (by simp;omega),?_⟩
  rw[<-List.map_append]
  refine dA (λρ=>∃a,ρ=[a]) D.int (λx=>D.int (x*x)) (lows++highs) ?_ ⟨_,rfl⟩ ?_
  ·rintro x hx ρ ⟨b,rfl⟩ K' hK'
   walk_at "rd"
   have b:=hV (small x hx) (by decide) (by decide)
   exact⟨b.mulOk b,hK' _ ⟨_,rfl⟩⟩
  ·refine⟨(lows++highs).map λx=>x*x,by rw[List.map_map];rfl,by intro e;simp at e;rw[e.1] at hln;simp at hln,λM hM hmax=>?_⟩
   obtain⟨x0,hx0,rfl⟩:=List.mem_map.mp hM
   have s0:=sq x0 hx0
   walk_at "rd"
   generalize x0*x0=M at *
   refine⟨(BL.const (n:=20)).mulOk (hV s0 (by decide) (by decide)),zL,?_⟩
   obtain⟨d0,d1⟩:=bA (a:=h2) (b:=9) (by decide)
   refine hK _ ⟨_,λx hx=>?_,?_,rfl⟩
   ·have:=hmax (x*x) (List.mem_map.mpr ⟨x,hx,rfl⟩)
    omega
   ·omega
 rintro ρ ⟨top,topL,topH,rfl⟩
 have topB:1<=top:=by
  have hne:lows++highs≠[]:=by intro e;simp at e;rw[e.1] at hln;simp at hln
  obtain⟨x,hx⟩:=List.exists_mem_of_ne_nil _ hne
  have:=topL x hx
  have:=sq x hx
  omega
 refine aM (λρ=>ρ=[some (.d HD),some (.d (.int far)),some (.d (il lows)),some (.d (il highs)),some (.d (.int top)),some (.d (pts (eT lows highs top))),none,none,none,none,none]) (λK hK=>?_) ?_
 ·walk_at "rd"
  refine⟨dG (by simp;omega),?_⟩
  refine dA (λρ=>∃a,ρ=[a]) D.int (λx=>pt (x,x*x)) lows ?_ ⟨_,rfl⟩ ?_
  ·rintro x hx ρ ⟨b,rfl⟩ K' hK'
   walk_at "rd"
   have b:=hV (small x (List.mem_append_left _ hx)) (by decide) (by decide)
   exact⟨b.mulOk b,hK' _ ⟨_,rfl⟩⟩
  ·refine⟨dG (by simp;omega),?_⟩
   rw[<-List.map_reverse]
   refine dA (λρ=>∃a,ρ=[a,some (.d (.int top))]) D.int (λx=>pt (x,top-x*x)) highs.reverse ?_ ⟨_,rfl⟩ ?_
   ·rintro x hx ρ ⟨b,rfl⟩ K' hK'
    walk_at "rd"
    have b:=hV (small x (List.mem_append_right _ (List.mem_reverse.mp hx))) (by decide) (by decide)
    exact⟨b.mulOk b,hK' _ ⟨_,rfl⟩⟩
   ·refine⟨dG (by simp;omega),hK _ ?_⟩
    unfold eT pts
    simp only[List.map_append,List.map_map]
    rfl
 rintro ρ rfl
 refine aM (λρ=>∃p,(1<=p/\p<=3)/\ρ=[some (.d HD),some (.d (.int far)),some (.d (il lows)),some (.d (il highs)),some (.d (.int top)),some (.d (pts (eT lows highs top))),some (.d (.int p)),none,none,none,none]) (λK hK=>?_) ?_
 ·rw[<-hH] at hK ⊢
  walk_at "rd"
  walk_at "sides"
  exact hK _ ⟨_,XV 1 3 (by decide) (by decide),rfl⟩
 rintro ρ ⟨p,hp,rfl⟩
 refine aM (λρ=>∃q,(-3<=q/\q<=3)/\ρ=[some (.d HD),some (.d (.int far)),some (.d (il lows)),some (.d (il highs)),some (.d (.int top)),some (.d (pts (eT lows highs top))),some (.d (.int p)),some (.d (.int q)),none,none,none]) (λK hK=>?_) ?_
 ·rw[<-hH] at hK ⊢
  walk_at "rd"
  walk_at "sides"
  exact hK _ ⟨_,TY 3 3 (by decide) (by decide),rfl⟩
 rintro ρ ⟨q,hq,rfl⟩
 refine aM (λρ=>∃r,(-3<=r/\r<=3)/\ρ=[some (.d HD),some (.d (.int far)),some (.d (il lows)),some (.d (il highs)),some (.d (.int top)),some (.d (pts (eT lows highs top))),some (.d (.int p)),some (.d (.int q)),some (.d (.int r)),none,none]) (λK hK=>?_) ?_
 ·rw[<-hH] at hK ⊢
  walk_at "rd"
  walk_at "sides"
  exact hK _ ⟨_,TY 3 3 (by decide) (by decide),rfl⟩
 rintro ρ ⟨r,hr,rfl⟩
 have qr:-9<=q*r/\q*r<=9:=VI (n:=9) (by rw[Int.natAbs_mul];exact Nat.mul_le_mul (LN (n:=3) hq) (LN (n:=3) hr))
 refine aM (λρ=>∃s,(-9<=s/\s<=12)/\0<p*s-q*r/\ρ=[some (.d HD),some (.d (.int far)),some (.d (il lows)),some (.d (il highs)),some (.d (.int top)),some (.d (pts (eT lows highs top))),some (.d (.int p)),some (.d (.int q)),some (.d (.int r)),some (.d (.int s)),none]) (λK hK=>?_) ?_
 ·rw[<-hH] at hK ⊢
  walk_at "rd"
  obtain⟨d0,d1⟩:=bA (a:=h4.fdiv 7) (b:=3) (by decide)
  refine⟨(hV hq (by decide) (by decide)).mulOk (hV hr (by decide) (by decide)),((hV hp (by decide) (by decide)).mono (by decide)).divOk (by omega),?_⟩
  walk_at "sides"
  generalize (h4.fdiv 7).fmod 3=z at *
  have e:(q*r).fdiv p=(q*r) / p:=Int.fdiv_eq_ediv_of_nonneg _ (by omega)
  rw[e]
  generalize q*r=m at *
  have hp':p=1\/p=2\/p=3:=by omega
  refine hK _ ⟨_,?_,?_,rfl⟩
  ·rcases hp' with rfl | rfl | rfl <;> omega
  ·rcases hp' with rfl | rfl | rfl <;> omega
 rintro ρ ⟨s,hs,det,rfl⟩
 refine aM (λρ=>∃ox oy,BL 202 ox/\BL 202 oy/\ρ=[some (.d HD),some (.d (.int far)),some (.d (il lows)),some (.d (il highs)),some (.d (.int top)),some (.d (pts (eT lows highs top))),some (.d (.int p)),some (.d (.int q)),some (.d (.int r)),some (.d (.int s)),some (.d (pt (ox,oy)))]) (λK hK=>?_) ?_
 ·rw[<-hH] at hK ⊢
  walk_at "rd"
  refine⟨(BL.const (n:=20)).mulOk hf1,⟨by omega⟩,(BL.const (n:=20)).mulOk hf1,⟨by omega⟩,?_⟩
  exact hK _ ⟨_,_,OA hf0 hf1,OA hf0 hf1,rfl⟩
 rintro ρ ⟨ox,oy,hox,hoy,rfl⟩
 have RF:RingForm lows highs top p q r s ox oy:=⟨hlr,hhr,⟨hln.1,by omega⟩,hhn,topL,topH,hp,hq,hr,hs,det,hox,hoy⟩
 have bow:∀z∈eT lows highs top,BL 20 z.1/\BL 20 z.2:=λz hz=>by
  unfold eT at hz
  rcases List.mem_append.mp hz with h | h
  ·obtain⟨x,hx,rfl⟩:=List.mem_map.mp h
   exact⟨hV (small x (List.mem_append_left _ hx)) (by decide) (by decide),hV (sq x (List.mem_append_left _ hx)) (by decide) (by decide)⟩
  ·obtain⟨x,hx,rfl⟩:=List.mem_map.mp h
   have hx:=List.mem_reverse.mp hx
   obtain⟨q0,q1⟩:=sq x (List.mem_append_right _ hx)
   exact⟨hV (small x (List.mem_append_right _ hx)) (by decide) (by decide),hV (lo:=0-3600) (hi:=10000) (x:=top-x*x) ⟨Int.sub_le_sub (Int.le_trans (show (0:Int)<=1 by decide) topB) q1,Int.le_trans (Int.sub_le_self _ q0) topH⟩ (by decide) (by decide)⟩
 walk_at "rd"
 refine⟨dG (by unfold eT;simp;omega),?_⟩
 refine dA (λρ=>∃a b,ρ=[a,b,some (.d (.int p)),some (.d (.int q)),some (.d (pt (ox,oy))),some (.d (.int r)),some (.d (.int s))]) pt (λz=>pt (aff p q r s ox oy z)) (eT lows highs top) ?_ ⟨_,_,rfl⟩ ?_
 ·rintro z hz ρ ⟨a,b,rfl⟩ K' hK'
  obtain⟨b1,b2⟩:=bow z hz
  walk_at "rd"
  have cp:BL 20 p:=hV hp (by decide) (by decide)
  have cq:BL 20 q:=hV hq (by decide) (by decide)
  have cr:BL 20 r:=hV hr (by decide) (by decide)
  have cs:BL 20 s:=hV hs (by decide) (by decide)
  exact⟨cp.mulOk b1,cq.mulOk b2,cr.mulOk b1,cs.mulOk b2,hK' _ ⟨_,_,rfl⟩⟩
 ·have:=hQ lows highs top p q r s ox oy RF hln.2
  unfold pts lT at this
  rw[List.map_map] at this
  exact this
theorem rX:∀ds Q,yA ds Q->dM oF { nx:=λ_=>Q .non,rt:=Q } (aP ["_law_head","_law_far","_law_lows","_law_highs","_law_top","_law_ring_here","_law_p","_law_q","_law_r","_law_s","_law_off"] ds) :=
 by
 rintro ds Q ⟨h0,h1,h2,h3,h4,h5,h6,rest,far,e,hf,q⟩
 exact rY ds Q ⟨h0,h1,h2,h3,h4,h5,h6,rest,far,e,hf,λl h t p q' r s ox oy R _=>q l h t p q' r s ox oy R⟩
noncomputable def sE:FD:=λds Q=>∃(x:D) (a b:D) (t:List D),ds=[x]/\(x = .tup (a::b::t)\/x = .lst (a::b::t))/\t.length<=1000/\Q (.lst (List.zipWith (λu v=>D.tup [u,v]) (a::b::t) (b::t++[a])))
theorem JR:∀ds Q,sE ds Q->ds.length=1:=by rintro ds Q ⟨_,_,_,_,rfl,_⟩;rfl
theorem rZ:∀ds Q,sE ds Q->gD { nx:=λ_=>Q .non,rt:=Q } (aP ["ones"] ds):=by
 rintro ds Q ⟨x,a,b,t,rfl,hx,hl,q⟩
 rw[aV 0 rfl]
 unfold gD
 have c1:jU (a::b::t) (some 1) none=b::t:=wV (j:=1) (by simp)
 have c2:jU (a::b::t) none (some 1)=[a]:=GR (j:=1) (by simp)
 have s1:HT.sIx (a::b::t).length 0 (some 1)=1:=by rw[show (some (1:Int))=some ((1:Nat):Int) from rfl,HT.sIx_nat];simp
 have s2:HT.sIx (a::b::t).length (a::b::t).length (some 1)=1:=by rw[show (some (1:Int))=some ((1:Nat):Int) from rfl,HT.sIx_nat];simp
 rcases hx with rfl | rfl
 ·simp only[cL,bT,FO,aB,r2,zZ,mU,fX,rC,lF,List.map_cons,List.map_nil,List.replicate_zero,List.append_nil,List.getElem?_cons_zero,S.val]
  refine⟨λh=>by rw[s1] at h;exact absurd h.1 (by decide),λh=>by rw[s2] at h;have:=h.2;simp at this,?_⟩
  rw[c1,c2]
  refine⟨by simp,dG (by simp;omega),_,_,rfl,rfl,by simp,q⟩
 ·simp only[cL,bT,FO,aB,r2,zZ,mU,fX,rC,lF,List.map_cons,List.map_nil,List.replicate_zero,List.append_nil,List.getElem?_cons_zero,S.val]
  rw[c1,c2]
  refine⟨dG (by simp;omega),_,_,rfl,rfl,by simp,q⟩
noncomputable abbrev cr (a b:Int × Int):Int:=a.1*b.2-a.2*b.1
noncomputable def chain (a:Int × Int):List (Int × Int)->Int
 | []=>0
 | b::r=>cr a b+chain b r
noncomputable def eS (n:Nat) (zs:List (Int × Int)):Prop:=∀z∈zs,BL n z.1/\BL n z.2
theorem LX {n:Nat}:∀{xs:List Int} {k:Nat},(∀x∈xs,BL n x)->xs.length<=k->BL (n+k) xs.sum
 | [],k,_,_=>by
  show (0:Int).natAbs<_
  exact Nat.two_pow_pos _
 | x::xs,0,_,h=>by simp at h
 | x::xs,k+1,hb,hl=>by
  rw[List.sum_cons]
  have h1:=hb x List.mem_cons_self
  have h2:=LX (k:=k) (λy hy=>hb y (List.mem_cons_of_mem _ hy)) (by simpa using hl)
  exact (h1.add h2).mono (by omega)
theorem RingForm.small {lows highs:List Int} {top p q r s ox oy:Int} (R:RingForm lows highs top p q r s ox oy):eS 210 (lT lows highs top p q r s ox oy):=by
 have sm:∀x∈lows++highs,-4<=x/\x<=60:=λx hx=>by
  have:=R.lowsN
  have:=R.highsN
  rcases List.mem_append.mp hx with h | h
  ·obtain⟨i,hi,rfl⟩:=List.getElem_of_mem h
   have:=R.lowsR.bound i _ (List.getElem?_eq_getElem hi)
   omega
  ·obtain⟨i,hi,rfl⟩:=List.getElem_of_mem h
   have:=R.highsR.bound i _ (List.getElem?_eq_getElem hi)
   omega
 have tp:∀x∈lows++highs,0<=x*x/\x*x<=top/\top<=10000:=λx hx=>by
  have:=R.topL x hx
  have:=R.topH
  have:=UL x
  omega
 intro z hz
 obtain⟨w,hw,rfl⟩:=List.mem_map.mp hz
 have hw':BL 20 w.1/\BL 20 w.2:=by
  unfold eT at hw
  rcases List.mem_append.mp hw with h | h
  ·obtain⟨x,hx,rfl⟩:=List.mem_map.mp h
   have:=sm x (List.mem_append_left _ hx)
   have:=tp x (List.mem_append_left _ hx)
   exact⟨BL.of_lt (by simp;omega) (by simp;omega),BL.of_lt (by simp;omega) (by simp;omega)⟩
  ·obtain⟨x,hx,rfl⟩:=List.mem_map.mp h
   have hx:=List.mem_reverse.mp hx
   have:=sm x (List.mem_append_right _ hx)
   have:=tp x (List.mem_append_right _ hx)
   exact⟨BL.of_lt (by simp;omega) (by simp;omega),BL.of_lt (by simp;omega) (by simp;omega)⟩
 have:=R.pB
 have:=R.qB
 have:=R.rB
 have:=R.sB
 have cp:BL 20 p:=BL.of_lt (by omega) (by omega)
 have cq:BL 20 q:=BL.of_lt (by omega) (by omega)
 have cr:BL 20 r:=BL.of_lt (by omega) (by omega)
 have cs:BL 20 s:=BL.of_lt (by omega) (by omega)
 exact⟨(((cp.mul hw'.1).add (cq.mul hw'.2)).add R.oxB).mono (by decide),(((cr.mul hw'.1).add (cs.mul hw'.2)).add R.oyB).mono (by decide)⟩
theorem RingForm.len {lows highs:List Int} {top p q r s ox oy:Int} (R:RingForm lows highs top p q r s ox oy):3<=(lT lows highs top p q r s ox oy).length/\(lT lows highs top p q r s ox oy).length<=24:=by
 have h1:=R.lowsN
 have h2:=R.highsN
 simp only[lT,eT,List.length_map,List.length_append,List.length_reverse]
 omega
theorem fW {m a:Int} (hm:0<m):a.natAbs<=(m*a).natAbs:=by
 rw[Int.natAbs_mul]
 have:1<=m.natAbs:=by omega
 calc a.natAbs=1*a.natAbs:=(Nat.one_mul _).symm
  _<=m.natAbs*a.natAbs:=Nat.mul_le_mul_right _ this
theorem DueOf.small {share:Int} {cs:List (Int × Int)} {m sh:Int} {ds:List (Int × Int)} {j n:Nat} (h:DueOf share cs m sh ds j) (hs:eS n cs):eS n ds:=λz hz=>by
 have:=hs (m*z.1,m*z.2) (by rw[h.cs_eq];exact List.mem_map.mpr ⟨z,hz,rfl⟩)
 exact⟨this.1.le (fW h.mpos),this.2.le (fW h.mpos)⟩
theorem DueOf.sh_pos {share:Int} {cs:List (Int × Int)} {m sh:Int} {ds:List (Int × Int)} {j:Nat} (h:DueOf share cs m sh ds j) (hs:0<share):0<sh:=by
 have:=h.mpos
 have e:=h.sh_eq
 rcases Int.lt_or_le 0 sh with h' | h'
 ·exact h'
 ·have:=Int.mul_nonpos_of_nonneg_of_nonpos (Int.le_of_lt this) h'
  omega
theorem DueOf.sh_bl {share:Int} {cs:List (Int × Int)} {m sh:Int} {ds:List (Int × Int)} {j n:Nat} (h:DueOf share cs m sh ds j) (hb:BL n share):BL n sh:=hb.le (by rw[h.sh_eq];exact fW h.mpos)
theorem DueOf.len {share:Int} {cs:List (Int × Int)} {m sh:Int} {ds:List (Int × Int)} {j:Nat} (h:DueOf share cs m sh ds j):ds.length=cs.length:=by rw[h.cs_eq];simp
theorem GB {α:Type} {j:Nat} {ds:List α} (h:j<=ds.length):(turned j ds).length=ds.length:=by simp[turned];omega
theorem GC {α:Type} {j:Nat} {ds:List α} {x:α} (h:x∈turned j ds):x∈ds:=by
 rcases List.mem_append.mp h with h | h
 ·exact List.mem_of_mem_drop h
 ·exact List.mem_of_mem_take h
theorem PM {s:Int} (h0:1<=s) (h1:s<=1000000000):BL 100 s:=by
 have e:(1000000000:Int)<((2 ^ 100:Nat):Int):=by decide
 exact BL.of_lt (by omega) (by omega)
namespace K12
end K12
structure Line where
 a:Int
 b:Int
 c:Int
noncomputable abbrev ln (l:Line):D:=.tup [.int l.a,.int l.b,.int l.c]
noncomputable def Line.BLn (n:Nat) (l:Line):Prop:=BL n l.a/\BL n l.b/\BL n l.c
noncomputable abbrev exc (l:Line) (p:Int × Int) (s:Int):Int:=l.a*p.1+l.b*p.2-l.c*s
noncomputable def cZ:FD:=λds Q=>∃(l:Line) (p:Int × Int) (s:Int),ds=[ln l,pt p,.int s]/\(l.BLn 100000/\BL 100000 p.1/\BL 100000 p.2/\BL 100000 s)/\Q (.int (exc l p s))
theorem ET:∀ds Q,cZ ds Q->ds.length=3:=by rintro ds Q ⟨_,_,_,rfl,_⟩;rfl
theorem CT:∀ds Q,cZ ds Q->mE { nx:=λ_=>Q .non,rt:=Q } (aP ["line","point","share"] ds):=by
 rintro ds Q ⟨l,p,s,rfl,⟨⟨b1,b2,b3⟩,b4,b5,b6⟩,q⟩
 rw[aV 0 rfl]
 unfold mE
 walk_at "rd"
 exact⟨b1.mulOk b4,b2.mulOk b5,b3.mulOk b6,q⟩
noncomputable abbrev cyc (z:Int × Int) (t:List (Int × Int)):List ((Int × Int) × (Int × Int)):=List.zip (z::t) (t++[z])
theorem QN {z:Int × Int} {t:List (Int × Int)} {w:(Int × Int) × (Int × Int)} (h:w∈cyc z t):w.1∈z::t/\w.2∈z::t:=by
 obtain⟨w1,w2⟩:=w
 have m:=List.of_mem_zip h
 refine⟨m.1,?_⟩
 rcases List.mem_append.mp m.2 with h | h
 ·exact List.mem_cons_of_mem _ h
 ·rw[List.mem_singleton.mp h];exact List.mem_cons_self
noncomputable def sC:FD:=λds Q=>∃n b p:Int,ds=[.int n,.int b,.int p]/\(0<b/\BL 9000 b)/\(0<=p/\p<=1000)/\∀x,0<=x->x<b->Q (.int x)
theorem JO:∀ds Q,sC ds Q->ds.length=3:=by rintro ds Q ⟨_,_,_,rfl,_⟩;rfl
theorem uK:∀ds Q,sC ds Q->fY { nx:=λ_=>Q .non,rt:=Q } (aP ["_law_number","_law_base","_law_place","_law_k"] ds):=by
 rintro ds Q ⟨n,b,p,rfl,⟨b0,b1⟩,⟨p0,p1⟩,q⟩
 rw[aV 1 rfl]
 unfold fY
 simp only[cL,OU,List.map_cons,List.map_nil,List.cons_append,List.nil_append]
 refine aM (λρ=>∃(m:Int) (o:Option S),ρ=[some (.d (.int m)),some (.d (.int b)),some (.d (.int p)),o]) (λK hK=>?_) ?_
 ·walk_at "rd"
  refine⟨⟨by omega,by omega⟩,?_⟩
  refine cX (λ_ ρ=>∃(m:Int) (o:Option S),ρ=[some (.d (.int m)),some (.d (.int b)),some (.d (.int p)),o]) ?_ ?_ _ _ ⟨n,none,rfl⟩
  ·rintro x xs ρ ⟨m,o,rfl⟩ F _ _ hn _
   unfold jN
   walk_at "rd"
   exact⟨b1.divOk (by omega),hn _ ⟨m.fdiv b,some (.d x),rfl⟩⟩
  ·rintro ρ ⟨m,o,rfl⟩
   exact hK _ ⟨m,o,rfl⟩
 rintro ρ ⟨m,o,rfl⟩
 walk_at "rd"
 obtain⟨a0,a1⟩:=bA (a:=m) b0
 exact⟨⟨by omega⟩,q _ a0 a1⟩
structure SpotOk (x y w:Int):Prop where
 x:BL 400 x
 y:BL 400 y
 w1:1<=w
 w2:w<=100000
noncomputable abbrev sp3 (x y w:Int):D:=.tup [.int x,.int y,.int w]
noncomputable def sQ:FD:=λds Q=>∃(cs:List (Int × Int)) (c:Int),ds=[pts cs,.int c]/\BL 1000 c/\(eS 300 cs/\1<=cs.length/\cs.length<=40)/\∀x y w,SpotOk x y w->Q (sp3 x y w)
theorem NM:∀ds Q,sQ ds Q->ds.length=2:=by rintro ds Q ⟨_,_,rfl,_⟩;rfl
theorem XI {xs:List Int} {a b:Int}:(∀x∈xs,a<=x/\x<=b)->a*xs.length<=xs.sum/\xs.sum<=b*xs.length:=by
 induction xs with
 | nil=>intro _;simp
 | cons x xs ih =>
  intro h
  have h1:=h x List.mem_cons_self
  have h2:=ih λy hy=>h y (List.mem_cons_of_mem _ hy)
  simp only[List.sum_cons,List.length_cons]
  push_cast
  rw[Int.mul_add,Int.mul_add]
  omega
theorem SW {xs:List Int} {i:Nat} {v:Int} (h:i<xs.length):(xs.set i v).sum=xs.sum-xs[i]+v:=by
 induction xs generalizing i with
 | nil=>simp at h
 | cons x xs ih =>
  cases i with
  | zero=>simp;omega
  | succ i =>
   have h':i<xs.length:=by simpa using h
   simp only[List.set_cons_succ,List.sum_cons,List.getElem_cons_succ,ih h']
   omega
theorem QC (ws:List Int):∀(cs:List (Int × Int)),List.zipWith (λu v=>D.tup [u,v]) (ws.map D.int) (cs.map pt)=(List.zip ws cs).map λw=>D.tup [.int w.1,pt w.2]:=by
 induction ws with
 | nil=>intro cs;simp
 | cons x xs ih =>
  intro cs
  cases cs with
  | nil=>simp
  | cons y ys=>simp[ih]
theorem gG {x:Int} (h:-1<=x/\x<=100000):BL 20 x:=by
 have e:(100000:Int)<((2 ^ 20:Nat):Int):=by decide
 exact BL.of_lt (by omega) (by omega)
theorem wD:∀ds Q,sQ ds Q->gW sC { nx:=λ_=>Q .non,rt:=Q } (aP ["_law_ring_here","_law_cell","_law_weights","_law_k","_law_x","_law_y"] ds):=by
 rintro ds Q ⟨cs,c,rfl,bc,⟨hB,l1,l2⟩,q⟩
 rw[aV 4 rfl]
 unfold gW
 simp only[cL,OW,List.map_cons,List.map_nil,List.cons_append,List.nil_append]
 have lc:(cs.map pt).length=cs.length:=by simp
 refine aM (λρ=>∃c:Int,ρ=[some (.d (pts cs)),some (.d (.int c)),none,none,none,none]) (λK hK=>?_) ?_
 ·walk_at "rd"
  refine⟨bc.mulOk (BL.const (n:=40)),FM,(BL.const (n:=60)).mulOk (BL.const (n:=60)),?_⟩
  exact hK _ ⟨_,rfl⟩
 rintro ρ ⟨c,rfl⟩
 refine aM (λρ=>ρ=[some (.d (pts cs)),some (.d (.int c)),some (.own []),none,none,none]) (λK hK=>?_) ?_
 ·walk_at "rd"
  exact hK _ rfl
 rintro ρ rfl
 refine aM (λρ=>∃(ws:List Int) (o:Option S),(ws.length=cs.length/\∀w∈ws,-1<=w/\w<=10)/\ρ=[some (.d (pts cs)),some (.d (.int c)),some (.own (ws.map .int)),o,none,none]) (λK hK=>?_) ?_
 ·walk_at "rd"
  rw[lc]
  refine⟨⟨by omega,by omega⟩,?_⟩
  refine cX (λxs ρ=>(∀x∈xs,∃j:Int,x = .int j/\0<=j/\j<=1000)/\∃(ws:List Int) (o:Option S),(ws.length+xs.length=cs.length/\∀w∈ws,-1<=w/\w<=10)/\ρ=[some (.d (pts cs)),some (.d (.int c)),some (.own (ws.map .int)),o,none,none]) ?_ ?_ _ _ ⟨λx hx=>?_,[],none,⟨by rw[kK];simp,by simp⟩,rfl⟩
  ·rintro x xs ρ ⟨hx,ws,o,⟨hl,hw⟩,rfl⟩ F _ _ hn _
   obtain⟨j,rfl,j0,j1⟩:=hx x List.mem_cons_self
   unfold kU
   walk_at "rd"
   refine⟨c,11,j,rfl,⟨by decide,(BL.const (n:=20)).mono (by decide)⟩,⟨j0,j1⟩,λy y0 y1=>?_⟩
   walk_at "rd"
   refine⟨dG (by simp at hl ⊢;omega),?_⟩
   obtain⟨v,ev⟩:∃v:Int,v=(if y-5 < -1 then -1 else y-5):=⟨_,rfl⟩
   have hv:-1<=v/\v<=10:=by rw[ev];split <;> omega
   rw[<-ev]
   refine hn _ ⟨λx h=>hx x (List.mem_cons_of_mem _ h),ws++[v],some (.d (.int j)),⟨by simp at hl ⊢;omega,λw h=>?_⟩,by simp⟩
   rcases List.mem_append.mp h with h | h
   ·exact hw w h
   ·rw[List.mem_singleton.mp h];exact hv
  ·rintro ρ ⟨_,ws,o,⟨hl,hw⟩,rfl⟩
   exact hK _ ⟨ws,o,⟨by simpa using hl,hw⟩,rfl⟩
  ·obtain⟨j,rfl,j0,j1⟩:=nR hx
   exact⟨j,rfl,j0,by omega⟩
 rintro ρ ⟨ws,o,⟨hl,hw⟩,rfl⟩
 refine aM (λρ=>∃(ws:List Int),(ws.length=cs.length/\(∀w∈ws,-1<=w/\w<=100)/\1<=ws.sum/\ws.sum<=10000)/\ρ=[some (.d (pts cs)),some (.d (.int c)),some (.own (ws.map .int)),o,none,none]) (λK hK=>?_) ?_
 ·walk_at "rd"
  refine⟨ws,rfl,?_⟩
  rw[lc]
  have hpos:(0:Int)<cs.length:=by omega
  obtain⟨a0,a1⟩:=bA (a:=c) hpos
  refine⟨⟨by omega⟩,?_⟩
  generalize c.fmod cs.length=i at *
  have hi:i.toNat<ws.length:=by omega
  refine jX (x:=.int ws[i.toNat]) (LT (j:=i.toNat) (by omega) (by rw[List.getElem?_map,List.getElem?_eq_getElem hi];rfl)) ?_
  walk_at "rd"
  refine⟨⟨by omega⟩,?_⟩
  rw[NI a0 (by simp;omega)]
  have hs:=XI hw
  have h1:=hw _ (List.getElem_mem hi)
  have hss:=SW (xs:=ws) (i:=i.toNat) (v:=if 1<1-ws.sum+ws[i.toNat] then 1-ws.sum+ws[i.toNat] else 1) hi
  refine hK _ ⟨ws.set i.toNat (if 1<1-ws.sum+ws[i.toNat] then 1-ws.sum+ws[i.toNat] else 1),⟨by simpa using hl,λw h=>?_,?_,?_⟩,by rw[<-List.map_set]⟩
  ·rcases List.mem_or_eq_of_mem_set h with h | rfl
   ·have:=hw w h;omega
   ·split <;> omega
  ·rw[hss];split <;> omega
  ·rw[hss];split <;> omega
 rintro ρ ⟨ws,⟨hl,hw,s1,s2⟩,rfl⟩
 have each:∀(f:Int × Int->Int) (g:D->D) ,True:=λ_ _=>trivial
 have bsum:∀(f:Int × Int->Int),(∀z∈cs,BL 300 (f z))->BL 400 (((List.zip ws cs).map λw=>w.1*f w.2).sum):=λf hf=>by
  refine (LX (n:=320) (k:=40) (λx hx=>?_) (by simp;omega)).mono (by decide)
  obtain⟨w,hw',rfl⟩:=List.mem_map.mp hx
  obtain⟨w1,w2⟩:=w
  have m:=List.of_mem_zip hw'
  have a:=hw _ m.1
  exact ((gG ⟨a.1,by omega⟩).mul (hf _ m.2)).mono (by decide)
 obtain⟨sx,ex⟩:∃s,s=((List.zip ws cs).map λw=>w.1*w.2.1).sum:=⟨_,rfl⟩
 obtain⟨sy,ey⟩:∃s,s=((List.zip ws cs).map λw=>w.1*w.2.2).sum:=⟨_,rfl⟩
 have bx:BL 400 sx:=by rw[ex];exact bsum (λz=>z.1) λz hz=>(hB z hz).1
 have by':BL 400 sy:=by rw[ey];exact bsum (λz=>z.2) λz hz=>(hB z hz).2
 refine aM (λρ=>ρ=[some (.d (pts cs)),some (.d (.int c)),some (.d (il ws)),o,some (.d (.int sx)),none]) (λK hK=>?_) ?_
 ·walk_at "rd"
  refine⟨dG (by simp;omega),?_⟩
  rw[QC]
  refine dA (λρ=>∃a b,ρ=[a,b]) (λw:Int × (Int × Int)=>D.tup [.int w.1,pt w.2]) (λw=>D.int (w.1*w.2.1)) _ ?_ ⟨none,none,rfl⟩ ?_
  ·rintro w hw' ρ ⟨a,b,rfl⟩ K' hK'
   obtain⟨w1,w2⟩:=w
   have m:=List.of_mem_zip hw'
   have a':=hw _ m.1
   walk_at "rd"
   exact⟨(gG ⟨a'.1,by omega⟩).mulOk (hB _ m.2).1,hK' _ ⟨_,_,rfl⟩⟩
  ·refine⟨(List.zip ws cs).map λw=>w.1*w.2.1,by rw[List.map_map];rfl,?_⟩
   rw[<-ex];exact hK _ rfl
 rintro ρ rfl
 refine aM (λρ=>ρ=[some (.d (pts cs)),some (.d (.int c)),some (.d (il ws)),o,some (.d (.int sx)),some (.d (.int sy))]) (λK hK=>?_) ?_
 ·walk_at "rd"
  refine⟨dG (by simp;omega),?_⟩
  rw[QC]
  refine dA (λρ=>∃a b,ρ=[a,b]) (λw:Int × (Int × Int)=>D.tup [.int w.1,pt w.2]) (λw=>D.int (w.1*w.2.2)) _ ?_ ⟨none,none,rfl⟩ ?_
  ·rintro w hw' ρ ⟨a,b,rfl⟩ K' hK'
   obtain⟨w1,w2⟩:=w
   have m:=List.of_mem_zip hw'
   have a':=hw _ m.1
   walk_at "rd"
   exact⟨(gG ⟨a'.1,by omega⟩).mulOk (hB _ m.2).2,hK' _ ⟨_,_,rfl⟩⟩
  ·refine⟨(List.zip ws cs).map λw=>w.1*w.2.2,by rw[List.map_map];rfl,?_⟩
   rw[<-ey];exact hK _ rfl
 rintro ρ rfl
 walk_at "rd"
 exact⟨ws,rfl,q _ _ _ ⟨bx,by',s1,by omega⟩⟩
theorem BK {g:RG} {t:RS} {E:DEnds} (xs:List D) (J:Nat->En->Prop) (step:∀i x ρ,xs[i]? = some x->J i ρ->∀F:DEnds,F.rt=E.rt->F.bk=E.nx->(∀ρ',J (i+1) ρ'->F.nx ρ')->(∀ρ',J (i+1) ρ'->F.ct ρ')->g x ρ λρ1=>t F ρ1)
  (last:∀ρ,J xs.length ρ->E.nx ρ) (ρ:En) (h:J 0 ρ):zB g t xs E ρ:=by
 refine cX (λys ρ=>∃i,i<=xs.length/\ys=xs.drop i/\J i ρ) ?_ ?_ xs ρ ⟨0,Nat.zero_le _,rfl,h⟩
 ·rintro x ys ρ ⟨i,hi,e,hJ⟩ F f1 f2 f3 f4
  have hlt:i<xs.length:=by
   apply Nat.not_le.mp
   intro hn
   rw[List.drop_of_length_le hn] at e;cases e
  rw[List.drop_eq_getElem_cons hlt] at e
  cases e
  exact step i _ ρ (List.getElem?_eq_getElem hlt) hJ F f1 f2 (λρ' h=>f3 ρ' ⟨i+1,by omega,rfl,h⟩) λρ' h=>f4 ρ' ⟨i+1,by omega,rfl,h⟩
 ·rintro ρ ⟨i,hi,e,hJ⟩
  have:i=xs.length:=by
   have:=congrArg List.length e
   simp at this;omega
  subst this
  exact last ρ hJ
theorem FP {lo:Int} {n i:Nat} {x:D} (h:(fR lo n)[i]? = some x):x = .int (lo+i)/\i<n:=by
 unfold fR at h
 rw[List.getElem?_map] at h
 by_cases hi:i<n
 ·rw[List.getElem?_range hi] at h;cases h;exact⟨rfl,hi⟩
 ·rw[List.getElem?_eq_none (by simpa using hi)] at h;cases h
theorem zC {g:RG} {t:RS} {E:DEnds} (lo:Int) (n:Nat) (J:Nat->En->Prop) (step:∀i ρ,i<n->J i ρ->∀F:DEnds,F.rt=E.rt->F.bk=E.nx->(∀ρ',J (i+1) ρ'->F.nx ρ')->(∀ρ',J (i+1) ρ'->F.ct ρ')->g (.int (lo+i)) ρ λρ1=>t F ρ1)
  (last:∀ρ,J n ρ->E.nx ρ) (ρ:En) (h:J 0 ρ):zB g t (fR lo n) E ρ:=by
 refine BK _ J (λi x ρ e hJ=>?_) (λρ h=>last ρ (by rwa [kK] at h)) ρ h
 obtain⟨rfl,hi⟩:=FP e
 exact step i ρ hi hJ
theorem oU (z w:Pt):HT.lexLt [z.1,z.2] [w.1,w.2]=decide (ltP z w):=by
 unfold ltP
 simp only[HT.lexLt]
 by_cases h:z.1=w.1
 ·rw[if_pos h]
  by_cases h2:z.2=w.2
  ·rw[if_pos h2];simp[h,h2]
  ·rw[if_neg h2];simp[h]
 ·rw[if_neg h];simp[h]
theorem nZ {α:Type} (j:Nat) (xs:List α):Rot xs (turned j xs):=⟨xs.take j,xs.drop j,by rw[List.take_append_drop],rfl⟩
theorem uX {α β:Type} (j:Nat) (f:α->β) (xs:List α):turned j (xs.map f)=(turned j xs).map f:=by unfold turned;simp
theorem DueOf.norm {share:Int} {cs:List Pt} {m sh:Int} {ds:List Pt} {j:Nat} (h:DueOf share cs m sh ds j):NormOf share (turned j cs) m sh (turned j ds):=by
 refine⟨h.mpos,h.sh_eq,?_,λd h1 h2=>h.cop d h1 λz hz=>h2 z (((nZ j ds).mem z).mp hz)⟩
 conv=>lhs;rw[h.cs_eq]
 exact uX j _ ds
theorem DueOf.first {share:Int} {cs:List Pt} {m sh:Int} {ds:List Pt} {j:Nat} (h:DueOf share cs m sh ds j):∃w T,turned j cs=w::T/\∀x∈T,¬ltP x w:=by
 obtain⟨z,T,e⟩:∃z T,turned j ds=z::T:=by
  have hj:=h.j_lt
  refine⟨ds[j],ds.drop (j+1)++ds.take j,?_⟩
  show ds.drop j++ds.take j=_
  rw[List.drop_eq_getElem_cons hj];rfl
 have ez:ds[j]? = some z:=by
  have:(turned j ds)[0]? = some z:=by rw[e];rfl
  have hj:=h.j_lt
  unfold turned at this
  rw[List.getElem?_append_left (by simp;omega),List.getElem?_drop] at this
  simpa using this
 refine⟨scl m z,T.map (scl m),?_,λx hx=>?_⟩
 ·conv=>lhs;rw[h.cs_eq]
  rw[uX,e];rfl
 ·obtain⟨y,hy,rfl⟩:=List.mem_map.mp hx
  rw[FT h.mpos]
  have:=h.least y (((nZ j ds).mem y).mpr (by rw[e];simp[hy])) z ez
  rw[oU] at this
  simpa using this
theorem DueOf.cvx {share:Int} {cs:List Pt} {m sh:Int} {ds:List Pt} {j:Nat} (h:DueOf share cs m sh ds j) (c:Cvx cs):Cvx (turned j ds):=by
 have:Cvx ds:=by
  have c':=c
  rw[h.cs_eq] at c'
  exact Cvx.unscl h.mpos c'
 exact Cvx.rot (nZ j ds) this
theorem oR {f:D->D->Option Bool}:∀(xs:List D),(∀x∈xs,f x x=some true)->eqL f xs xs=some true
 | [],_=>rfl
 | x::xs,h=>by
  simp only[eqL,h x (by simp),oR xs λy hy=>h y (by simp[hy])]
  rfl
theorem HF (n:Nat) (i:Int):eqF (n+1) (.int i) (.int i)=some true:=by simp[eqF]
theorem QR (n:Nat) (z:Pt):eqF (n+2) (pt z) (pt z)=some true:=by
 show eqL (eqF (n+1)) _ _=_
 refine oR _ λx hx=>?_
 simp only[List.mem_cons,List.not_mem_nil,or_false] at hx
 rcases hx with rfl | rfl <;> exact HF n _
theorem VD (n:Nat) (sh:Int) (zs:List Pt):eqL (eqF (n+3)) [.int sh,.tup (zs.map pt)] [.int sh,.tup (zs.map pt)]=some true:=by
 refine oR _ λx hx=>?_
 simp only[List.mem_cons,List.not_mem_nil,or_false] at hx
 rcases hx with rfl | rfl
 ·exact HF _ _
 ·show eqL (eqF (n+2)) _ _=_
  refine oR _ λy hy=>?_
  obtain⟨z,_,rfl⟩:=List.mem_map.mp hy
  exact QR _ _
section
variable {L:CLine} {cs:List Pt}
noncomputable abbrev gF (F:Int) (t:H3):Pt:=(t.1*(F / t.2.2),t.2.1*(F / t.2.2))
structure Fits (F:Int) (t:H3):Prop where
 w:0<t.2.2
 f:0<F / t.2.2
 e:F / t.2.2*t.2.2=F
theorem Fits.of {F:Int} {t:H3} (hF:0<F) (hw:0<t.2.2) (hd:t.2.2∣F):Fits F t:=by
 have e:=Int.ediv_mul_cancel hd
 refine⟨hw,?_,e⟩
 apply Int.not_le.mp
 intro h
 have:F / t.2.2*t.2.2<=0:=Int.mul_nonpos_of_nonpos_of_nonneg h (by omega)
 omega
theorem zD {F:Int} {p q r:H3} (hp:Fits F p) (hq:Fits F q) (hr:Fits F r):F*aH (gF F p) (gF F q) (gF F r)=(F / p.2.2*(F / q.2.2)*(F / r.2.2))*bI p q r:=by
 have e1:=hp.e
 have e2:=hq.e
 have e3:=hr.e
 unfold aH gF bI
 dsimp only
 generalize F / p.2.2=f1 at *
 generalize F / q.2.2=f2 at *
 generalize F / r.2.2=f3 at *
 grind
theorem EO {F:Int} {p q r:H3} (hp:Fits F p) (hq:Fits F q) (hr:Fits F r):0<F / p.2.2*(F / q.2.2)*(F / r.2.2):=Int.mul_pos (Int.mul_pos hp.f hq.f) hr.f
theorem nU {a b:Int} (ha:0<a) (h:0<a*b):0<b:=by
 apply Int.not_le.mp
 intro hb
 have:a*b<=0:=Int.mul_nonpos_of_nonneg_of_nonpos (by omega) hb
 omega
theorem vQ {a b:Int} (ha:0<a) (h:0<=a*b):0<=b:=by
 apply Int.not_lt.mp
 intro hb
 have:0<a*(-b):=Int.mul_pos ha (by omega)
 have:a*(-b) = -(a*b):=Int.mul_neg ..
 omega
theorem Pm.w_pos {t:H3} (h:Pm L cs t):0<t.2.2:=by
 cases h with
 | corner hu h=>exact (by decide:(0:Int)<1)
 | cross hc h=>have:=oA h;omega
theorem CG {f:H3->Pt} {l:List H3} {a b:Pt} (h:Nxt (l.map f) a b):∃p q,nI l p q/\a=f p/\b=f q:=by
 obtain⟨x,y,e⟩:=h
 obtain⟨l1,l2,rfl,e1,e2⟩:=List.map_eq_append_iff.mp e
 obtain⟨p,l3,rfl,e3,e4⟩:=List.map_eq_cons_iff.mp e2
 obtain⟨q,l4,rfl,e5,e6⟩:=List.map_eq_cons_iff.mp e4
 exact⟨p,q,⟨l1,l4,rfl⟩,e3.symm,e5.symm⟩
theorem YG {P:List H3} {p:H3} (hp:p∈P):∃q∈P,nI (P++P.take 1) p q:=by
 obtain⟨X,Y,rfl⟩:=List.append_of_mem hp
 cases Y with
 | cons q Y=>exact⟨q,by simp,X,Y++(X++p::q::Y).take 1,by simp⟩
 | nil =>
  cases X with
  | nil=>exact⟨p,by simp,[],[],by simp⟩
  | cons x X=>exact⟨x,by simp,x::X,[],by simp⟩
theorem SZ (a b:Pt):aH a a b=0:=by unfold aH;grind
theorem VG (c:Cvx cs) (hpos:∃w∈cs,0<cxc L w) (hneg:∃w∈cs,cxc L w<0) {P:List H3} (h:CutOf L cs P) {F:Int} (hF:0<F) (fit:∀t∈P,Fits F t):Cvx (P.map (gF F)):=by
 have inj:∀p∈P,∀q∈P,gF F p=gF F q->p=q:=by
  intro p hp q hq e
  apply Classical.byContradiction
  intro ne
  obtain⟨q',hq',hn⟩:=YG hp
  have A:=h.adj p q' hn
  by_cases e':q'=q
  ·subst e'
   have:∃r∈P,r≠p/\r≠q':=by
    apply Classical.byContradiction
    intro hno
    have:=mB P [p,q'] h.nodup λx hx=>by
     apply Classical.byContradiction
     intro hx'
     simp at hx'
     exact hno ⟨x,hx,hx'.1,hx'.2⟩
    have:=h.len
    simp at *
    omega
   obtain⟨r,hr,r1,r2⟩:=this
   have s:=nJ c hpos hneg A (h.pm r hr) r1 r2
   have t:=zD (fit p hp) (fit q' hq') (fit r hr)
   rw[e,SZ] at t
   have:=Int.mul_pos (EO (fit p hp) (fit q' hq') (fit r hr)) s
   omega
  ·have s:=nJ c hpos hneg A (h.pm q hq) (Ne.symm ne) (Ne.symm e')
   have t:=zD (fit p hp) (fit q' hq') (fit q hq)
   rw[<-e,PV] at t
   have:=Int.mul_pos (EO (fit p hp) (fit q' hq') (fit q hq)) s
   omega
 refine⟨by simpa using h.len,?_,λa b hab q hq n1 n2=>?_⟩
 ·unfold List.Nodup
  rw[List.pairwise_map]
  refine List.Pairwise.imp_of_mem ?_ h.nodup
  intro a b ha hb hn e
  exact hn (inj a ha b hb e)
 ·have hab':Nxt ((P++P.take 1).map (gF F)) a b:=by rw[List.map_append,List.map_take];exact hab
  obtain⟨p,p',hn,rfl,rfl⟩:=CG hab'
  obtain⟨r,hr,rfl⟩:=List.mem_map.mp hq
  have mem:p∈P/\p'∈P:=by
   obtain⟨x,y,e⟩:=hn
   have sub:∀t,t∈P++P.take 1->t∈P:=λt ht=>by
    rcases List.mem_append.mp ht with h | h
    ·exact h
    ·exact List.mem_of_mem_take h
   exact⟨sub p (by rw[e];simp),sub p' (by rw[e];simp)⟩
  have s:=nJ c hpos hneg (h.adj p p' hn) (h.pm r hr) (λe=>n1 (by rw[e])) λe=>n2 (by rw[e])
  have t:=zD (fit p mem.1) (fit p' mem.2) (fit r hr)
  have u:=Int.mul_pos (EO (fit p mem.1) (fit p' mem.2) (fit r hr)) s
  rw[<-t] at u
  exact nU hF u
theorem xS (c:Cvx cs) (hpos:∃w∈cs,0<cxc L w) {P:List H3} (h:CutOf L cs P):(P.filter λt=>decide (t.2.2≠1)).length<=2:=by
 obtain⟨p,q,hp,hq,_⟩:=h.line
 have:=mB (P.filter λt=>decide (t.2.2≠1)) [p,q] (h.nodup.filter _) λx hx=>by
  obtain⟨hx,hw⟩:=List.mem_filter.mp hx
  simp only[decide_eq_true_eq] at hw
  have pm:=h.pm x hx
  have z:Exc L x=0:=by
   cases pm with
   | corner hu h=>exact absurd rfl hw
   | cross hc h=>exact lA h
  rcases xU c hpos pm z with k | k
  ·rw[BH c k hp];simp
  ·rw[xA c k hq];simp
 simpa using this
noncomputable def cA:List H3->Int
 | []=>1
 | t::P=>t.2.2*cA P
theorem oZ:∀(A B:List H3),cA (A++B)=cA A*cA B
 | [],B=>by simp[cA]
 | a::A,B=>by show a.2.2*cA (A++B)=a.2.2*cA A*cA B;rw[oZ A B];grind
theorem kH:∀(P:List H3),cA P=cA (P.filter λt=>decide (t.2.2≠1))
 | []=>rfl
 | t::P=>by
  rw[List.filter_cons]
  by_cases h:t.2.2=1
  ·rw[if_neg (by simp[h])]
   show t.2.2*cA P=_
   rw[h,Int.one_mul];exact kH P
  ·rw[if_pos (by simp[h])]
   show t.2.2*cA P=t.2.2*_
   rw[kH P]
theorem xK:∀(P:List H3),∀t∈P,t.2.2∣cA P
 | [],t,h=>by simp at h
 | a::P,t,h=>by
  rcases List.mem_cons.mp h with rfl | h
  ·exact Int.dvd_mul_right ..
  ·exact Int.dvd_trans (xK P t h) (Int.dvd_mul_left ..)
theorem xL:∀(P:List H3),(∀t∈P,0<t.2.2)->0<cA P
 | [],_=>by simp[cA]
 | a::P,h=>Int.mul_pos (h a (by simp)) (xL P λt ht=>h t (by simp[ht]))
end
noncomputable def crs (x y:Pt):Int:=x.1*y.2-x.2*y.1
theorem PX (o x y:Pt):aH o x y=crs x y+crs o x-crs o y:=by unfold aH crs;grind
theorem xN (o:Pt):∀(a:Pt) (l:List Pt),pth (aH o) a l=pth crs a l+crs o a-crs o (cF a l)
 | a,[]=>by show (0:Int)=0+crs o a-crs o a;omega
 | a,b::l=>by
  show aH o a b+pth (aH o) b l=crs a b+pth crs b l+crs o a-crs o (cF b l)
  rw[xN o b l,PX];omega
theorem tE (o:Pt) (l:List Pt):cD (aH o) l=cD crs l:=by
 cases l with
 | nil=>rfl
 | cons z T =>
  show pth (aH o) z (T++[z])=pth crs z (T++[z])
  rw[xN,cQ];omega
theorem HZ {α β:Type} (f:β->β->Int) (g:α->β):∀(a:α) (l:List α),pth f (g a) (l.map g)=pth (λx y=>f (g x) (g y)) a l
 | a,[]=>rfl
 | a,b::l=>by
  show f (g a) (g b)+pth f (g b) (l.map g)=f (g a) (g b)+_
  rw[HZ f g b l]
theorem sZ {α β:Type} (f:β->β->Int) (g:α->β) (l:List α):cD f (l.map g)=cD (λx y=>f (g x) (g y)) l:=by
 cases l with
 | nil=>rfl
 | cons z T =>
  show pth f (g z) (T.map g++[g z])=pth _ z (T++[z])
  rw[<-HZ f g z (T++[z])];simp
theorem xM {α:Type} {f g:α->α->Int}:∀(a:α) (l:List α),Run (λx y=>f x y=g x y) a l->pth f a l=pth g a l
 | a,[],_=>rfl
 | a,b::l,h=>by
  show f a b+pth f b l=g a b+pth g b l
  rw[h.1,xM b l h.2]
theorem EH {f g:Pt->Pt->Int} {cs:List Pt} (h:∀a b,Cyc cs a b->f a b=g a b):cD f cs=cD g cs:=by
 cases cs with
 | nil=>rfl
 | cons z T=>exact xM z (T++[z]) (FS z (T++[z]) λa b hab=>h a b hab)
theorem HY {α:Type} (f g:α->α->Int):∀(a:α) (l:List α),pth (λx y=>f x y+g x y) a l=pth f a l+pth g a l
 | a,[]=>rfl
 | a,b::l=>by
  show f a b+g a b+pth _ b l=(f a b+pth f b l)+(g a b+pth g b l)
  rw[HY f g b l];omega
theorem MG {α:Type} (f g:α->α->Int) (l:List α):cD (λx y=>f x y+g x y) l=cD f l+cD g l:=by
 cases l with
 | nil=>rfl
 | cons z T=>exact HY f g z (T++[z])
theorem IA {α:Type} (k:Int) (f:α->α->Int):∀(a:α) (l:List α),pth (λx y=>k*f x y) a l=k*pth f a l
 | a,[]=>by show (0:Int)=k*0;omega
 | a,b::l=>by
  show k*f a b+pth _ b l=k*(f a b+pth f b l)
  rw[IA k f b l,Int.mul_add]
theorem MH {α:Type} (k:Int) (f:α->α->Int) (l:List α):cD (λx y=>k*f x y) l=k*cD f l:=by
 cases l with
 | nil=>show (0:Int)=k*0;omega
 | cons z T=>exact IA k f z (T++[z])
theorem oK (k:Int) (l:List Pt):cD crs (l.map (scl k))=k*k*cD crs l:=by
 rw[sZ,<-MH]
 congr 1
 funext x y
 unfold crs scl;dsimp only;grind
theorem tD {f:Pt->Pt->Int} {A B:List Pt} (h:Rot A B):cD f A=cD f B:=by
 obtain⟨X,Y,rfl,rfl⟩:=h;exact AW f X Y
section
variable {L:CLine} {cs:List Pt}
noncomputable def onL (L:CLine) (G:Int) (x:Pt):Prop:=L.a*x.1+L.b*x.2=L.k*G
theorem oX {G:Int} {x y z:Pt} (hab:L.a≠0\/L.b≠0) (hx:onL L G x) (hy:onL L G y) (hz:onL L G z):aH x y z=0:=by
 unfold onL at *
 rcases hab with h | h
 ·refine Int.eq_of_mul_eq_mul_left h ?_
  have e1:L.a*(y.1-x.1) = -(L.b*(y.2-x.2)):=by grind
  have e2:L.a*(z.1-x.1) = -(L.b*(z.2-x.2)):=by grind
  have:L.a*aH x y z=(L.a*(y.1-x.1))*(z.2-x.2)-(L.a*(z.1-x.1))*(y.2-x.2):=by unfold aH;grind
  rw[this,e1,e2];grind
 ·refine Int.eq_of_mul_eq_mul_left h ?_
  have e1:L.b*(y.2-x.2) = -(L.a*(y.1-x.1)):=by grind
  have e2:L.b*(z.2-x.2) = -(L.a*(z.1-x.1)):=by grind
  have:L.b*aH x y z=(L.b*(z.2-x.2))*(y.1-x.1)-(L.b*(y.2-x.2))*(z.1-x.1):=by unfold aH;grind
  rw[this,e1,e2];grind
theorem uG {G:Int} {t:H3} (ft:Fits G t) (h:Exc L t=0):onL L G (gF G t):=by
 have e:=ft.e
 unfold onL gF
 unfold Exc at h
 dsimp only
 generalize G / t.2.2=f at *
 grind
theorem tS (G:Int) (u:Pt):gF G (up3 u)=scl G u:=by
 refine Prod.ext ?_ ?_
 ·show u.1*(G / 1)=G*u.1;rw[Int.ediv_one,Int.mul_comm]
 ·show u.2*(G / 1)=G*u.2;rw[Int.ediv_one,Int.mul_comm]
theorem HG {G:Int} (hG:0<G) (u:Pt):Fits G (up3 u):=Fits.of hG (by show (0:Int)<1;decide) ⟨G,by show G=1*G;omega⟩
noncomputable def nN (L:CLine) (G:Int) (o:Pt) (u v:Pt):Int :=
 if cxc L u<=0 then (if cxc L v<=0 then aH o (scl G u) (scl G v) else if cxc L u<0 then aH o (scl G u) (gF G (bZ L u v)) else 0)
 else (if cxc L v<0 then aH o (gF G (bZ L u v)) (scl G v) else 0)
theorem MD {G:Int} (hG:0<G) {o:Pt} (ho:onL L G o) (hab:L.a≠0\/L.b≠0) (fit:∀t,Pm L cs t->Fits G t):∀l u w v,StC L cs l u w->Cyc cs w v->pth (λp q=>aH o (gF G p) (gF G q)) l (blk L w v)=(if cxc L w<=0 then nN L G o u w else 0)+(if cxc L v<=0 then 0 else nN L G o w v):=by
 intro l u w v hs hc
 have ex0:∀{t},Exit L cs t->onL L G (gF G t):=λh=>uG (fit _ h.pm.1) h.pm.2
 have z0:∀{x:Pt},cxc L x=0->onL L G (scl G x):=λ{x} h=>by rw[<-tS];exact uG (HG hG x) (by rw[cS];exact h)
 rcases hs.2 with ⟨hw,hl⟩ | ⟨hw,hl⟩ | ⟨hw,hl⟩
 ·have d:aH o (gF G l) (scl G w)=nN L G o u w:=by
   unfold nN
   rcases hl with ⟨hu,rfl⟩ | ⟨hu,rfl⟩
   ·rw[if_pos hu,if_pos (by omega),tS]
   ·rw[if_neg (by omega),if_pos hw]
  rw[if_pos (by omega:cxc L w<=0),<-d]
  unfold blk
  rw[if_pos (by omega:cxc L w<=0)]
  by_cases hv:cxc L v<=0
  ·rw[if_pos hv,if_neg (λh=>by rcases opp h with ⟨_,k⟩ | ⟨k,_⟩ <;> omega)]
   show aH o (gF G l) (gF G (up3 w))+0=_
   rw[tS]
  ·rw[if_neg hv,if_pos (dD (Or.inl ⟨hw,by omega⟩))]
   show aH o (gF G l) (gF G (up3 w))+(aH o (gF G (up3 w)) (gF G (bZ L w v))+0)=_
   unfold nN
   rw[if_pos (by omega:cxc L w<=0),if_neg hv,if_pos hw,tS]
   omega
 ·have d:aH o (gF G l) (scl G w)=nN L G o u w:=by
   unfold nN
   rcases hl with ⟨hu,rfl⟩ | ⟨hu,h⟩
   ·rw[if_pos hu,if_pos (by omega),tS]
   ·rw[if_neg (by omega),if_neg (by omega)]
    exact oX hab ho (ex0 h) (z0 hw)
  rw[if_pos (by omega:cxc L w<=0),<-d]
  unfold blk
  rw[if_pos (by omega:cxc L w<=0),if_neg (by rw[hw];omega)]
  show aH o (gF G l) (gF G (up3 w))+0=_
  rw[tS]
  by_cases hv:cxc L v<=0
  ·rw[if_pos hv]
  ·rw[if_neg hv]
   unfold nN
   rw[if_pos (by omega:cxc L w<=0),if_neg hv,if_neg (by omega)]
 ·rw[if_neg (by omega:¬cxc L w<=0)]
  unfold blk
  rw[if_neg (by omega:¬cxc L w<=0)]
  by_cases hv:cxc L v<0
  ·have hx:=dD (x:=cxc L w) (y:=cxc L v) (Or.inr ⟨hw,hv⟩)
   rw[if_pos hx,if_pos (by omega)]
   show aH o (gF G l) (gF G (bZ L w v))+0=0+0
   rw[oX hab ho (ex0 hl) (uG (fit _ (Pm.cross hc hx)) (lA hx))]
  ·rw[if_neg (λh=>by rcases opp h with ⟨k,_⟩ | ⟨_,k⟩ <;> omega)]
   unfold nN
   rw[if_neg (by omega:¬cxc L w<=0),if_neg hv]
   split <;> rfl
noncomputable def opL (L:CLine):CLine:=⟨-L.a,-L.b,-L.k⟩
theorem jW (u:Pt):cxc (opL L) u = -cxc L u:=by unfold cxc opL;dsimp only;grind
theorem LG (t:H3):Exc (opL L) t = -Exc L t:=by unfold Exc opL;dsimp only;grind
theorem TH (u v:Pt):bZ (opL L) u v=bZ L u v:=by unfold bZ;rw[jW,jW,Int.natAbs_neg,Int.natAbs_neg]
theorem WA {G:Int} {x:Pt} (h:onL L G x):onL (opL L) G x:=by unfold onL opL at *;dsimp only;grind
theorem wU {G:Int} {o u v:Pt} (hx:cxc L u*cxc L v<0) (ft:Fits G (bZ L u v)):aH o (scl G u) (gF G (bZ L u v))+aH o (gF G (bZ L u v)) (scl G v)=aH o (scl G u) (scl G v):=by
 have e:=ft.e
 have e2:(bZ L u v).2.2=((cxc L v).natAbs:Int)+(cxc L u).natAbs:=by unfold bZ jD up3;dsimp only;omega
 have e3:(bZ L u v).1=((cxc L v).natAbs:Int)*u.1+(cxc L u).natAbs*v.1:=rfl
 have e4:(bZ L u v).2.1=((cxc L v).natAbs:Int)*u.2+(cxc L u).natAbs*v.2:=rfl
 unfold gF scl aH
 dsimp only
 rw[e3,e4]
 generalize G / (bZ L u v).2.2=f at *
 rw[e2] at e
 generalize ((cxc L v).natAbs:Int)=α at *
 generalize ((cxc L u).natAbs:Int)=β at *
 subst e
 grind
theorem JA {G:Int} (hG:0<G) {o:Pt} (ho:onL L G o) (hab:L.a≠0\/L.b≠0) (fit:∀t,Pm L cs t->Fits G t) {u v:Pt} (hc:Cyc cs u v):nN L G o u v+nN (opL L) G o u v=aH o (scl G u) (scl G v):=by
 have z0:∀{x:Pt},cxc L x=0->onL L G (scl G x):=λ{x} h=>by rw[<-tS];exact uG (HG hG x) (by rw[cS];exact h)
 unfold nN
 rw[jW,jW,TH]
 rcases Int.lt_trichotomy (cxc L u) 0 with hu | hu | hu
 ·rcases Int.lt_trichotomy (cxc L v) 0 with hv | hv | hv
  ·rw[if_pos (by omega),if_pos (by omega),if_neg (by omega),if_neg (by omega)];omega
  ·rw[if_pos (by omega),if_pos (by omega),if_neg (by omega),if_neg (by omega)];omega
  ·have hx:=dD (x:=cxc L u) (y:=cxc L v) (Or.inl ⟨hu,hv⟩)
   rw[if_pos (by omega),if_neg (by omega),if_pos (by omega),if_neg (by omega),if_pos (by omega)]
   exact wU hx (fit _ (Pm.cross hc hx))
 ·rcases Int.lt_trichotomy (cxc L v) 0 with hv | hv | hv
  ·rw[if_pos (by omega),if_pos (by omega),if_pos (by omega),if_neg (by omega),if_neg (by omega)];omega
  ·rw[if_pos (by omega),if_pos (by omega),if_pos (by omega),if_pos (by omega),oX hab ho (z0 hu) (z0 hv)];rfl
  ·rw[if_pos (by omega),if_neg (by omega),if_neg (by omega),if_pos (by omega),if_pos (by omega)];omega
 ·rcases Int.lt_trichotomy (cxc L v) 0 with hv | hv | hv
  ·have hx:=dD (x:=cxc L u) (y:=cxc L v) (Or.inr ⟨hu,hv⟩)
   rw[if_neg (by omega),if_pos (by omega),if_pos (by omega),if_neg (by omega),if_pos (by omega),Int.add_comm]
   exact wU hx (fit _ (Pm.cross hc hx))
  ·rw[if_neg (by omega),if_neg (by omega),if_pos (by omega),if_pos (by omega)];omega
  ·rw[if_neg (by omega),if_neg (by omega),if_pos (by omega),if_pos (by omega)];omega
theorem DX:∀(X:List Pt) (u v:Pt),Nxt X u v->∀t∈blk L u v,t∈Pl L X
 | [],u,v,h,t,ht=>by obtain⟨a,b,e⟩:=h;simp at e
 | [x],u,v,h,t,ht=>by
  obtain⟨a,b,e⟩:=h
  have:=congrArg List.length e
  simp at this;omega
 | x::y::X,u,v,h,t,ht=>by
  rw[Pl]
  obtain⟨a,b,e⟩:=h
  cases a with
  | nil =>
   simp at e
   obtain⟨rfl,rfl,_⟩:=e
   exact List.mem_append_left _ ht
  | cons a0 a =>
   simp at e
   exact List.mem_append_right _ (DX (y::X) u v ⟨a,b,e.2⟩ t ht)
theorem Pm.mem (c:Cvx cs) {t:H3} (h:Pm L cs t):t∈Pl L (cs++cs.take 1):=by
 cases h with
 | @corner u hu h =>
  obtain⟨_,v,_,hv,_⟩:=AX c hu
  refine DX _ u v hv _ ?_
  unfold blk;rw[if_pos h];simp
 | @cross u v hc h =>
  refine DX _ u v hc _ ?_
  unfold blk;rw[if_pos h];simp
theorem TV (hpos:∃w∈cs,0<cxc L w) (hneg:∃w∈cs,cxc L w<0):L.a≠0\/L.b≠0:=by
 apply Classical.byContradiction
 intro h
 have h1:L.a=0:=Classical.byContradiction λk=>h (Or.inl k)
 have h2:L.b=0:=Classical.byContradiction λk=>h (Or.inr k)
 obtain⟨w,_,hw⟩:=hpos
 obtain⟨v,_,hv⟩:=hneg
 unfold cxc at hw hv
 rw[h1,h2] at hw hv
 simp at hw hv
 omega
theorem NE {F H:Int} {t:H3} (ft:Fits F t):gF (F*H) t=scl H (gF F t):=by
 have e:F*H / t.2.2=F / t.2.2*H:=by
  have:F*H=F / t.2.2*H*t.2.2:=by
   have:=ft.e
   generalize F / t.2.2=f at *
   subst this
   grind
  rw[this,Int.mul_ediv_cancel _ (by have:=ft.w;omega)]
 unfold gF scl
 dsimp only
 rw[e]
 refine Prod.ext ?_ ?_ <;> (dsimp only;grind)
theorem BI {F H:Int} (hF:0<F) (hH:0<H) {t:H3} (ft:Fits F t):Fits (F*H) t :=
 Fits.of (Int.mul_pos hF hH) ft.w (Int.dvd_trans ⟨F / t.2.2,by rw[Int.mul_comm];exact ft.e.symm⟩ (Int.dvd_mul_right ..))
theorem xC (c:Cvx cs) (hpos:∃w∈cs,0<cxc L w) (hneg:∃w∈cs,cxc L w<0) {G:Int} (hG:0<G) {o:Pt} (ho:onL L G o) (fit:∀t,Pm L cs t->Fits G t):cD crs ((Pl L (cs++cs.take 1)).map (gF G))=cD (nN L G o) cs:=by
 obtain⟨P',rot,cut,sum⟩:=lE c hpos hneg
 have hab:=TV hpos hneg
 have e:=sum _ _ _ (MD hG ho hab fit)
 have e1:cD crs ((Pl L (cs++cs.take 1)).map (gF G))=cD crs (P'.map (gF G)):=tD (by
  obtain⟨X,Y,a,b⟩:=rot
  exact⟨X.map (gF G),Y.map (gF G),by rw[a,List.map_append],by rw[b,List.map_append]⟩)
 rw[e1,<-tE o,sZ,e]
 congr 1
 funext u v
 split <;> omega
theorem LQ (c:Cvx cs) (hpos:∃w∈cs,0<cxc L w) (hneg:∃w∈cs,cxc L w<0) {F1 F2:Int} (h1:0<F1) (h2:0<F2) (fit1:∀t∈Pl L (cs++cs.take 1),Fits F1 t) (fit2:∀t∈Pl (opL L) (cs++cs.take 1),Fits F2 t) :
  F2*F2*cD crs ((Pl L (cs++cs.take 1)).map (gF F1))+F1*F1*cD crs ((Pl (opL L) (cs++cs.take 1)).map (gF F2))=F1*F2*(F1*F2)*cD crs cs:=by
 have hpos':∃w∈cs,0<cxc (opL L) w:=by obtain⟨w,hw,k⟩:=hneg;exact⟨w,hw,by rw[jW];omega⟩
 have hneg':∃w∈cs,cxc (opL L) w<0:=by obtain⟨w,hw,k⟩:=hpos;exact⟨w,hw,by rw[jW];omega⟩
 obtain⟨P',rot,cut,_⟩:=lE c hpos hneg
 obtain⟨p,q,hp,hq,_⟩:=cut.line
 have fA:∀t,Pm L cs t->Fits (F1*F2) t:=λt ht=>BI h1 h2 (fit1 t (ht.mem c))
 have fB:∀t,Pm (opL L) cs t->Fits (F1*F2) t:=λt ht=>by rw[Int.mul_comm];exact BI h2 h1 (fit2 t (ht.mem c))
 have hG:=Int.mul_pos h1 h2
 have ho:=uG (fA p hp.pm.1) hp.pm.2
 have a1:=xC c hpos hneg hG ho fA
 have a2:=xC c hpos' hneg' hG (WA ho) fB
 have s:cD (nN L (F1*F2) (gF (F1*F2) p)) cs+cD (nN (opL L) (F1*F2) (gF (F1*F2) p)) cs=F1*F2*(F1*F2)*cD crs cs:=by
  rw[<-MG,<-oK,<-tE (gF (F1*F2) p),sZ]
  exact EH λu v huv=>JA hG ho (TV hpos hneg) fA huv
 have m1:(Pl L (cs++cs.take 1)).map (gF (F1*F2))=((Pl L (cs++cs.take 1)).map (gF F1)).map (scl F2):=by
  rw[List.map_map]
  exact List.map_congr_left λt ht=>NE (fit1 t ht)
 have m2:(Pl (opL L) (cs++cs.take 1)).map (gF (F1*F2))=((Pl (opL L) (cs++cs.take 1)).map (gF F2)).map (scl F1):=by
  rw[List.map_map]
  refine List.map_congr_left λt ht=>?_
  rw[Int.mul_comm F1 F2]
  exact NE (fit2 t ht)
 rw[m1,oK] at a1
 rw[m2,oK] at a2
 rw[a1,a2]
 exact s
end
noncomputable abbrev h3 (t:H3):D:=.tup [.int t.1,.int t.2.1,.int t.2.2]
noncomputable abbrev gL (l:Line) (sh:Int):CLine:=⟨l.a,l.b,l.c*sh⟩
theorem yL {n:Nat} {i:Int} (h:BL n i):BL n (i.natAbs:Int):=by unfold BL at *;simpa using h
noncomputable def sA:FD:=λds Q=>∃(L:CLine) (u v:Pt),ds=[pt u,.int (cxc L u),pt v,.int (cxc L v)]/\(BL 2000 u.1/\BL 2000 u.2/\BL 2000 v.1/\BL 2000 v.2)/\(BL 2000 (cxc L u)/\BL 2000 (cxc L v))/\Q (h3 (bZ L u v))
theorem JN:∀ds Q,sA ds Q->ds.length=4:=by rintro ds Q ⟨_,_,_,rfl,_⟩;rfl
theorem TF (L:CLine) (u v:Pt):h3 (bZ L u v) = .tup [.int (u.1*((cxc L v).natAbs:Int)+v.1*((cxc L u).natAbs:Int)),.int (u.2*((cxc L v).natAbs:Int)+v.2*((cxc L u).natAbs:Int)),.int (((cxc L u).natAbs:Int)+((cxc L v).natAbs:Int))]:=by
 have e1:(bZ L u v).1=u.1*((cxc L v).natAbs:Int)+v.1*((cxc L u).natAbs:Int):=by unfold bZ jD up3;dsimp only;rw[Int.mul_comm,Int.mul_comm v.1]
 have e2:(bZ L u v).2.1=u.2*((cxc L v).natAbs:Int)+v.2*((cxc L u).natAbs:Int):=by unfold bZ jD up3;dsimp only;rw[Int.mul_comm,Int.mul_comm v.2]
 have e3:(bZ L u v).2.2=((cxc L u).natAbs:Int)+((cxc L v).natAbs:Int):=by unfold bZ jD up3;dsimp only;omega
 show D.tup [.int (bZ L u v).1,.int (bZ L u v).2.1,.int (bZ L u v).2.2]=_
 rw[e1,e2,e3]
theorem wA:∀ds Q,sA ds Q->iU { nx:=λ_=>Q .non,rt:=Q } (aP ["one","one_excess","other","other_excess","near","far"] ds):=by
 rintro ds Q ⟨L,u,v,rfl,⟨b1,b2,b3,b4⟩,⟨c1,c2⟩,q⟩
 rw[aV 2 rfl]
 rw[TF] at q
 have a1:=yL c1
 have a2:=yL c2
 unfold iU
 walk_at "rd"
 have ab:∀i:Int,(if i<0 then -i else i)=(i.natAbs:Int):=λi=>by split <;> omega
 simp only[ab]
 exact⟨b1.mulOk a2,b3.mulOk a1,b2.mulOk a2,b4.mulOk a1,q⟩
theorem TK {α β:Type} (f:α->D) (g:β->D) (xs:List α):∀(ys:List β),List.zipWith (λu v=>D.tup [u,v]) (xs.map f) (ys.map g)=(List.zip xs ys).map λw=>D.tup [f w.1,g w.2]:=by
 induction xs with
 | nil=>intro ys;simp
 | cons x xs ih =>
  intro ys
  cases ys with
  | nil=>simp
  | cons y ys=>simp[ih]
noncomputable def pP (L:CLine) (ws:List (Pt × Pt)):List H3:=ws.flatMap λw=>blk L w.1 w.2
theorem GI (L:CLine):∀(r:List Pt) (a z:Pt),Pl L (a::(r++[z]))=pP L (List.zip (a::r) (r++[z]))
 | [],a,z=>by simp[Pl,pP]
 | b::r,a,z=>by
  have ih:=GI L r b z
  show blk L a b++Pl L (b::(r++[z]))=blk L a b++pP L (List.zip (b::r) (r++[z]))
  rw[ih]
noncomputable abbrev enc (L:CLine) (z:Pt):D:=.tup [pt z,.int (cxc L z)]
noncomputable def oE:FD:=λds Q=>∃(L:CLine) (z u:Pt) (r:List Pt),ds=[.tup ((z::u::r).map pt),il ((z::u::r).map (cxc L))]/\(∀w∈z::u::r,BL 2000 w.1/\BL 2000 w.2/\BL 2000 (cxc L w))/\r.length<=900/\Q (.lst ((Pl L ((z::u::r)++(z::u::r).take 1)).map h3))
theorem EX:∀ds Q,oE ds Q->ds.length=2:=by rintro ds Q ⟨_,_,_,_,rfl,_⟩;rfl
theorem QJ (L:CLine) (u v:Pt):(blk L u v).length<=2:=by
 unfold blk
 split <;> split <;> simp
theorem AM (L:CLine):∀ws,(pP L ws).length<=2*ws.length
 | []=>by simp[pP]
 | w::ws=>by
  have:=AM L ws
  have:=QJ L w.1 w.2
  unfold pP at *
  rw[List.flatMap_cons,List.length_append,List.length_cons];omega
theorem IR (L:CLine) (ws:List (Pt × Pt)) (w:Pt × Pt):pP L (ws++[w])=pP L ws++blk L w.1 w.2:=by unfold pP;simp
theorem nV:∀ds Q,oE ds Q->dS sA sE { nx:=λ_=>Q .non,rt:=Q } (aP ["corners","excesses","points","one","other"] ds):=by
 rintro ds Q ⟨L,z,u,r,rfl,hB,hl,q⟩
 rw[aV 3 rfl]
 unfold dS
 have eP:Pl L ((z::u::r)++(z::u::r).take 1)=pP L (cyc z (u::r)):=GI L (u::r) z z
 rw[eP] at q
 have lc:(cyc z (u::r)).length=r.length+2:=by simp
 simp only[cL,SN,List.cons_append,List.nil_append]
 generalize hA:D.tup ((z::u::r).map pt)=A
 generalize hX:il ((z::u::r).map (cxc L))=X
 simp only[List.map_cons,List.map_nil,List.cons_append,List.nil_append]
 refine aM (λρ=>ρ=[some (.d A),some (.d X),some (.own []),none,none]) (λK hK=>?_) ?_
 ·walk_at "rd"
  exact hK _ rfl
 rintro ρ rfl
 refine aM (λρ=>∃a b:Option S,ρ=[some (.d A),some (.d X),some (.own ((pP L (cyc z (u::r))).map h3)),a,b]) (λK hK=>?_) ?_
 ·rw[<-hA,<-hX] at hK ⊢
  simp only[iZ,riL,bC,aD,aN,FO,aB,List.getElem?_cons_zero,List.getElem?_cons_succ,S.val]
  refine⟨_,_,rfl,rfl,by simp,?_⟩
  have e1:List.zipWith (λa b=>D.tup [a,b]) ((z::u::r).map pt) (((z::u::r).map (cxc L)).map D.int)=(z::u::r).map (enc L):=by
   rw[List.map_map,List.zipWith_map,List.zipWith_self];rfl
  rw[e1]
  refine⟨_,enc L z,enc L u,r.map (enc L),rfl,Or.inr rfl,by simp;omega,?_⟩
  have e2:List.zipWith (λa b=>D.tup [a,b]) (enc L z::enc L u::r.map (enc L)) (enc L u::r.map (enc L)++[enc L z])=(cyc z (u::r)).map λw=>D.tup [enc L w.1,enc L w.2]:=by
   rw[<-TK (enc L) (enc L)];simp
  rw[e2]
  refine cX (λxs ρ=>∃(done rest:List (Pt × Pt)) (a b:Option S),cyc z (u::r)=done++rest/\xs=rest.map (λw=>D.tup [enc L w.1,enc L w.2])/\ρ=[some (.d (.tup ((z::u::r).map pt))),some (.d (il ((z::u::r).map (cxc L)))),some (.own ((pP L done).map h3)),a,b]) ?_ ?_ _ _ ⟨[],cyc z (u::r),none,none,rfl,rfl,rfl⟩
  ·rintro x xs ρ ⟨done,rest,a,b,e,ex,rfl⟩ F _ _ hn _
   cases rest with
   | nil=>cases ex
   | cons w rest =>
    cases ex
    have mw:=QN (z:=z) (t:=u::r) (w:=w) (by rw[e];simp)
    obtain⟨p1,p2,p3⟩:=hB _ mw.1
    obtain⟨q1,q2,q3⟩:=hB _ mw.2
    have ld:done.length<r.length+2:=by rw[<-lc,e];simp
    have lb:=AM L done
    generalize hA':D.tup ((z::u::r).map pt)=A' at *
    generalize hX':il ((z::u::r).map (cxc L))=X' at *
    have fin:∀ρ,ρ=[some (.d A'),some (.d X'),some (.own ((pP L (done++[w])).map h3)),some (.d (enc L w.1)),some (.d (enc L w.2))]->F.nx ρ:=λρ h=>hn _ ⟨done++[w],rest,some (.d (enc L w.1)),some (.d (enc L w.2)),by simpa using e,rfl,h⟩
    rw[IR] at fin
    unfold blk at fin
    unfold gQ
    walk_at "rd"
    by_cases h1:cxc L w.1<=0
    ·rw[if_pos h1] at fin ⊢
     refine⟨dG (by simp;omega),p3.mulOk q3,?_⟩
     by_cases h2:cxc L w.1*cxc L w.2<0
     ·rw[if_pos h2] at fin ⊢
      refine⟨L,w.1,w.2,rfl,⟨p1,p2,q1,q2⟩,⟨p3,q3⟩,dG (by simp;omega),fin _ (by simp)⟩
     ·rw[if_neg h2] at fin ⊢
      exact fin _ (by simp)
    ·rw[if_neg h1] at fin ⊢
     refine⟨p3.mulOk q3,?_⟩
     by_cases h2:cxc L w.1*cxc L w.2<0
     ·rw[if_pos h2] at fin ⊢
      refine⟨L,w.1,w.2,rfl,⟨p1,p2,q1,q2⟩,⟨p3,q3⟩,dG (by simp;omega),fin _ (by simp)⟩
     ·rw[if_neg h2] at fin ⊢
      exact fin _ (by simp)
  ·rintro ρ ⟨done,rest,a,b,e,ex,rfl⟩
   have:rest=[]:=by simpa using ex.symm
   subst this
   rw[List.append_nil] at e
   rw[e] at hK
   exact hK _ ⟨a,b,rfl⟩
 rintro ρ ⟨a,b,rfl⟩
 walk_at "rd"
 exact q
noncomputable abbrev pc (sh:Int) (zs:List Pt):D:=.tup [.int sh,.tup (zs.map pt)]
noncomputable abbrev rF (L:CLine) (cs:List Pt):List H3:=Pl L (cs++cs.take 1)
structure PartOf (L:CLine) (sh:Int) (cs:List Pt) (sh':Int) (zs:List Pt):Prop where
 ex:∃(F m:Int) (z:Pt) (T:List Pt),0<F/\(∀t∈rF L cs,Fits F t)/\Rot ((rF L cs).map (gF F)) (z::T)/\(∀q∈T,¬ltP q z)/\Cvx (z::T)/\NormOf (sh*F) (z::T) m sh' zs/\(BL 4003 F/\zs.length<=cs.length+2)
inductive PartR (L:CLine) (sh:Int) (cs:List Pt):D->Prop
 | whole (h:∀z∈cs,cxc L z<=0):PartR L sh cs (pc sh cs)
 | nothing (h:∀z∈cs,0<=cxc L z) (n:¬ ∀z∈cs,cxc L z<=0):PartR L sh cs .non
 | part (hp:∃z∈cs,0<cxc L z) (hn:∃z∈cs,cxc L z<0) {sh':Int} {zs:List Pt} (h:PartOf L sh cs sh' zs):PartR L sh cs (pc sh' zs)
noncomputable def xZ:FD:=λds Q=>∃(l:Line) (sh:Int) (cs:List Pt),ds=[pc sh cs,ln l]/\(0<sh/\BL 2000 sh/\l.BLn 10000)/\(∀w∈cs,BL 2000 w.1/\BL 2000 w.2/\BL 2000 (exc l w sh))/\(Cvx cs/\cs.length<60)/\∀d,PartR (gL l sh) sh cs d->Q d
theorem NN:∀ds Q,xZ ds Q->ds.length=2:=by rintro ds Q ⟨_,_,_,rfl,_⟩;rfl
theorem sW {n:Nat}:∀(P:List H3),(∀t∈P,BL n t.2.2)->BL (n*P.length+1) (cA P)
 | [],_=>BL.mono (m:=1) (BL.const (by decide)) (by omega)
 | t::P,h=>by
  have a:=(h t (by simp)).mul (sW P λx hx=>h x (by simp[hx]))
  exact a.mono (by rw[List.length_cons,Nat.mul_add,Nat.mul_one];omega)
theorem UK {L:CLine} {cs:List Pt} (hB:∀w∈cs,BL 2000 w.1/\BL 2000 w.2/\BL 2000 (cxc L w)) {t:H3} (h:Pm L cs t):BL 4001 t.1/\BL 4001 t.2.1/\BL 2001 t.2.2:=by
 cases h with
 | @corner u hu h =>
  obtain⟨a,b,_⟩:=hB u hu
  exact⟨a.mono (by decide),b.mono (by decide),(BL.const (n:=1) (i:=1) (by decide)).mono (by decide)⟩
 | @cross u v hc h =>
  obtain⟨a,b,c⟩:=hB u hc.mem.1
  obtain⟨a',b',c'⟩:=hB v hc.mem.2
  have c:=yL c
  have c':=yL c'
  refine⟨((c'.mul a).add (c.mul a')).mono (by decide),((c'.mul b).add (c.mul b')).mono (by decide),?_⟩
  have e:(bZ L u v).2.2=((cxc L u).natAbs:Int)+((cxc L v).natAbs:Int):=by unfold bZ jD up3;dsimp only;omega
  rw[e]
  exact (c.add c').mono (by decide)
theorem tQ {α:Type} (p:α->Bool):∀l:List α,l.length=(l.filter p).length+(l.filter λx=>!p x).length
 | []=>rfl
 | x::l=>by
  have:=tQ p l
  rw[List.filter_cons,List.filter_cons]
  cases h:p x <;> simp <;> omega
theorem KU {L:CLine} {cs:List Pt} (c:Cvx cs) (hp:∃z∈cs,0<cxc L z) {P:List H3} (h:CutOf L cs P):P.length<=cs.length+2:=by
 have h2:=xS c hp h
 have h1:=mB (P.filter λt=>!decide (t.2.2≠1)) (cs.map up3) (h.nodup.filter _) λx hx=>by
  obtain⟨hx,hw⟩:=List.mem_filter.mp hx
  simp only[ne_eq,decide_not,Bool.not_not,decide_eq_true_eq] at hw
  have pm:=h.pm x hx
  cases pm with
  | @corner u hu h=>exact List.mem_map_of_mem hu
  | cross hc h=>have:=oA h;omega
 have e:=tQ (λt:H3=>decide (t.2.2≠1)) P
 rw[List.length_map] at h1
 omega
theorem qN:∀ds Q,xZ ds Q->fE cZ oE cO { nx:=λ_=>Q .non,rt:=Q } (aP ["piece","line","share","excesses","points","factor","point","grown"] ds):=by
 rintro ds Q ⟨l,sh,cs,rfl,⟨h0,b0,bl⟩,hB,⟨cv,hl⟩,q⟩
 rw[aV 6 rfl]
 unfold fE
 obtain⟨z0,u0,r0,ecs⟩:∃z u r,cs=z::u::r:=by
  have:=cv.len
  match cs,this with
  | z::u::r,_=>exact⟨z,u,r,rfl⟩
 have cne:cs.map (λz=>exc l z sh)≠[]:=by rw[ecs];simp
 simp only[cL,YV,List.cons_append,List.nil_append]
 generalize hP:pc sh cs=PD
 generalize hL:ln l=LD
 simp only[List.map_cons,List.map_nil,List.cons_append,List.nil_append]
 refine aM (λρ=>ρ=[some (.d PD),some (.d LD),some (.d (.int sh)),none,none,none,none,none]) (λK hK=>?_) ?_
 ·rw[<-hP] at hK ⊢
  walk_at "rd"
  exact hK _ rfl
 rintro ρ rfl
 refine aM (λρ=>ρ=[some (.d PD),some (.d LD),some (.d (.int sh)),some (.own ((cs.map λz=>exc l z sh).map D.int)),none,none,none,none]) (λK hK=>?_) ?_
 ·rw[<-hP,<-hL] at hK ⊢
  simp only[iF,fH,riT,r2,aB,rC,iB,nM,yO,List.getElem?_cons_zero,List.getElem?_cons_succ,List.map_cons,List.map_nil,OU,List.cons_append,List.nil_append,S.val]
  refine⟨dG (by simp;omega),?_⟩
  refine dA (λρ=>∃a,ρ=[a,some (.d (ln l)),some (.d (.int sh))]) pt (λz=>D.int (exc l z sh)) cs ?_ ⟨none,rfl⟩ ?_
  ·rintro z hz ρ ⟨a,rfl⟩ K' hK'
   obtain⟨z1,z2,_⟩:=hB z hz
   walk_at "rd"
   exact⟨l,z,sh,rfl,⟨⟨bl.1.mono (by decide),bl.2.1.mono (by decide),bl.2.2.mono (by decide)⟩,z1.mono (by decide),z2.mono (by decide),b0.mono (by decide)⟩,hK' _ ⟨some (.d (pt z)),rfl⟩⟩
  ·refine hK _ ?_
   rw[List.map_map];rfl
 rintro ρ rfl
 by_cases hw:∀z∈cs,exc l z sh<=0
 ·have fin:=q _ (PartR.whole hw)
  refine aM (λρ=>False) (λK hK=>?_) (λρ h=>h.elim)
  walk_at "rd"
  refine⟨_,rfl,cne,λM m1 m2=>?_⟩
  obtain⟨z,hz,rfl⟩:=List.mem_map.mp m1
  dsimp only
  rw[if_pos (hw z hz),<-hP]
  exact fin
 refine aM (λρ=>ρ=[some (.d PD),some (.d LD),some (.d (.int sh)),some (.own ((cs.map λz=>exc l z sh).map D.int)),none,none,none,none]) (λK hK=>?_) ?_
 ·walk_at "rd"
  refine⟨_,rfl,cne,λM m1 m2=>?_⟩
  dsimp only
  rw[if_neg (λh=>hw λz hz=>Int.le_trans (m2 _ (List.mem_map_of_mem hz)) h)]
  exact hK _ rfl
 rintro ρ rfl
 by_cases hg:∀z∈cs,0<=exc l z sh
 ·have fin:=q _ (PartR.nothing hg hw)
  refine aM (λρ=>False) (λK hK=>?_) (λρ h=>h.elim)
  walk_at "rd"
  refine⟨_,rfl,cne,λM m1 m2=>?_⟩
  obtain⟨z,hz,rfl⟩:=List.mem_map.mp m1
  dsimp only
  rw[if_pos (hg z hz)]
  exact fin
 refine aM (λρ=>ρ=[some (.d PD),some (.d LD),some (.d (.int sh)),some (.own ((cs.map λz=>exc l z sh).map D.int)),none,none,none,none]) (λK hK=>?_) ?_
 ·walk_at "rd"
  refine⟨_,rfl,cne,λM m1 m2=>?_⟩
  dsimp only
  rw[if_neg (λh=>hg λz hz=>Int.le_trans h (m2 _ (List.mem_map_of_mem hz)))]
  exact hK _ rfl
 rintro ρ rfl
 have hp:∃z∈cs,0<cxc (gL l sh) z:=Classical.byContradiction λk=>hw λz hz=>Int.not_lt.mp λh=>k ⟨z,hz,h⟩
 have hn:∃z∈cs,cxc (gL l sh) z<0:=Classical.byContradiction λk=>hg λz hz=>Int.not_lt.mp λh=>k ⟨z,hz,h⟩
 obtain⟨P',rot,cut,_⟩:=lE cv hp hn
 have rot':Rot (rF (gL l sh) cs) P':=rot
 have lP':=KU cv hp cut
 generalize hSp:rF (gL l sh) cs=SP at *
 have lSP:SP.length=P'.length:=by obtain⟨X,Y,e1,e2⟩:=rot';rw[e1,e2];simp;omega
 have pmS:∀t∈SP,Pm (gL l sh) cs t:=λt ht=>cut.pm t ((rot'.mem t).mp ht)
 have pmB:∀t∈SP,BL 4001 t.1/\BL 4001 t.2.1/\BL 2001 t.2.2:=λt ht=>UK (L:=gL l sh) (λw hw=>hB w hw) (pmS t ht)
 have Fpos:0<cA SP:=xL SP λt ht=>(pmS t ht).w_pos
 have fitS:∀t∈SP,Fits (cA SP) t:=λt ht=>Fits.of Fpos (pmS t ht).w_pos (xK SP t ht)
 have Fbl:BL 4003 (cA SP):=by
  rw[kH]
  have l2:(SP.filter λt=>decide (t.2.2≠1)).length<=2:=by
   have:=xS cv hp cut
   obtain⟨X,Y,e1,e2⟩:=rot'
   rw[e2] at this
   rw[e1]
   rw[List.filter_append,List.length_append] at this ⊢
   omega
  refine (sW _ λt ht=>(pmB t (List.mem_filter.mp ht).1).2.2).mono ?_
  omega
 refine aM (λρ=>ρ=[some (.d PD),some (.d LD),some (.d (.int sh)),some (.d (il (cs.map λz=>exc l z sh))),some (.d (.lst (SP.map h3))),none,none,none]) (λK hK=>?_) ?_
 ·rw[<-hP] at hK ⊢
  walk_at "rd"
  subst ecs
  refine⟨gL l sh,z0,u0,r0,rfl,hB,by simp at hl;omega,?_⟩
  show K _
  rw[show Pl (gL l sh) ((z0::u0::r0)++(z0::u0::r0).take 1)=SP from hSp]
  exact hK _ rfl
 rintro ρ rfl
 refine aM (λρ=>ρ=[some (.d PD),some (.d LD),some (.d (.int sh)),some (.d (il (cs.map λz=>exc l z sh))),some (.d (.lst (SP.map h3))),some (.d (.int 1)),none,none]) (λK hK=>?_) ?_
 ·walk_at "rd"
  exact hK _ rfl
 rintro ρ rfl
 refine aM (λρ=>∃a:Option S,ρ=[some (.d PD),some (.d LD),some (.d (.int sh)),some (.d (il (cs.map λz=>exc l z sh))),some (.d (.lst (SP.map h3))),some (.d (.int (cA SP))),a,none]) (λK hK=>?_) ?_
 ·walk_at "rd"
  refine cX (λxs ρ=>∃(done rest:List H3) (a:Option S),SP=done++rest/\xs=rest.map h3/\ρ=[some (.d PD),some (.d LD),some (.d (.int sh)),some (.d (il (cs.map λz=>exc l z sh))),some (.d (.lst (SP.map h3))),some (.d (.int (cA done))),a,none]) ?_ ?_ _ _ ⟨[],SP,none,rfl,rfl,rfl⟩
  ·rintro x xs ρ ⟨done,rest,a,e,ex,rfl⟩ E _ _ hnx _
   cases rest with
   | nil=>cases ex
   | cons t rest =>
    cases ex
    have bt:=(pmB t (by rw[e];simp)).2.2
    have bd:=sW done λx hx=>(pmB x (by rw[e];simp[hx])).2.2
    have ld:done.length<=64:=by have:=congrArg List.length e;simp at this;omega
    have e2:cA (done++[t])=cA done*t.2.2:=by rw[oZ];show _*(t.2.2*1)=_;rw[Int.mul_one]
    unfold iV
    walk_at "rd"
    refine⟨bd.mulOk bt (by omega),hnx _ ⟨done++[t],rest,some (.d (h3 t)),by simpa using e,rfl,by rw[e2]⟩⟩
  ·rintro ρ ⟨done,rest,a,e,ex,rfl⟩
   have:rest=[]:=by simpa using ex.symm
   subst this
   rw[List.append_nil] at e
   subst e
   exact hK _ ⟨a,rfl⟩
 rintro ρ ⟨a,rfl⟩
 refine aM (λρ=>ρ=[some (.d PD),some (.d LD),some (.d (.int sh)),some (.d (il (cs.map λz=>exc l z sh))),some (.d (.lst (SP.map h3))),some (.d (.int (cA SP))),a,some (.own ((SP.map (gF (cA SP))).map pt))]) (λK hK=>?_) ?_
 ·simp only[iF,fH,riL,aU,nM,yO,List.getElem?_cons_zero,List.getElem?_cons_succ,List.map_cons,List.map_nil,SN,List.cons_append,List.nil_append,S.val]
  refine⟨dG (by simp;omega),?_⟩
  refine dA (λρ=>∃a b c,ρ=[a,b,c,some (.d (.int (cA SP)))]) h3 (λt=>pt (gF (cA SP) t)) SP ?_ ⟨none,none,none,rfl⟩ ?_
  ·rintro t ht ρ ⟨a,b,c,rfl⟩ K' hK'
   obtain⟨t1,t2,t3⟩:=pmB t ht
   have tw:=(pmS t ht).w_pos
   have bq:BL 4003 ((cA SP).fdiv t.2.2):=Fbl.fdiv
   walk_at "rd"
   refine⟨(t3.mono (by decide)).divOk (by omega),t1.mulOk bq,(t3.mono (by decide)).divOk (by omega),t2.mulOk bq,?_⟩
   rw[Int.fdiv_eq_ediv_of_nonneg _ (by omega)]
   exact hK' _ ⟨some (.d (.int t.1)),some (.d (.int t.2.1)),some (.d (.int t.2.2)),rfl⟩
  ·refine hK _ ?_
   rw[List.map_map];rfl
 rintro ρ rfl
 walk_at "rd"
 refine⟨b0.mulOk Fbl,?_⟩
 have fitP:∀t∈P',Fits (cA SP) t:=λt ht=>fitS t ((rot'.mem t).mpr ht)
 have cvP:=VG cv hp hn cut Fpos fitP
 have cvS:Cvx (SP.map (gF (cA SP))):=Cvx.rot ((rot'.map (gF (cA SP))).symm) cvP
 obtain⟨z,T,rt,least⟩:=BU (SP.map (gF (cA SP))) (by intro e;have:=cvS.len;rw[e] at this;simp at this)
 have cz:=Cvx.rot rt cvS
 refine⟨sh*cA SP,SP.map (gF (cA SP)),rfl,⟨Int.mul_pos h0 Fpos,(b0.mul Fbl).mono (by decide)⟩,λw hw=>?_,by simp;omega,Or.inl ⟨z,T,⟨cz,least,λa ha=>(rt.mem a).mpr ha,λa b hab c hc=>cz.side hab ((rt.mem c).mp hc)⟩,λm sh' zs N=>q _ (PartR.part hp hn ⟨cA SP,m,z,T,Fpos,?_,?_,least,cz,N,Fbl,?_⟩)⟩⟩
 ·obtain⟨t,ht,rfl⟩:=List.mem_map.mp hw
  obtain⟨t1,t2,t3⟩:=pmB t ht
  have bq:BL 4003 (cA SP / t.2.2):=by
   have:BL 4003 ((cA SP).fdiv t.2.2):=Fbl.fdiv
   rwa [Int.fdiv_eq_ediv_of_nonneg _ (by have:=(pmS t ht).w_pos;omega)] at this
  exact⟨(t1.mul bq).mono (by decide),(t2.mul bq).mono (by decide)⟩
 ·rw[hSp];exact fitS
 ·rw[hSp];exact rt
 ·have e1:=congrArg List.length N.cs_eq
  have e2:(z::T).length=SP.length:=by obtain⟨X,Y,a1,a2⟩:=rt;have:=congrArg List.length a1;rw[a2];simp at this ⊢;omega
  rw[e2,List.length_map] at e1
  omega
noncomputable def rg (cs:List Pt) (i:Nat):Pt:=cs.getD (i % cs.length) (0,0)
section
variable {cs:List Pt}
theorem qP (h:0<cs.length) (i:Nat):cs[i % cs.length]? = some (rg cs i):=by
 unfold rg
 rw[List.getD_eq_getElem?_getD,List.getElem?_eq_getElem (Nat.mod_lt _ h)];rfl
theorem jA (h:0<cs.length) (i:Nat):rg cs i∈cs:=List.mem_of_getElem? (qP h i)
theorem mX {i:Nat} (h:i<cs.length):cs[i]? = some (rg cs i):=by
 have:=qP (cs:=cs) (by omega) i
 rwa [Nat.mod_eq_of_lt h] at this
theorem FH {l:List Pt} {i:Nat} {a b:Pt} (h1:l[i]? = some a) (h2:l[i+1]? = some b):Nxt l a b:=by
 obtain⟨l1,e1⟩:=List.getElem?_eq_some_iff.mp h1
 obtain⟨l2,e2⟩:=List.getElem?_eq_some_iff.mp h2
 refine⟨l.take i,l.drop (i+2),?_⟩
 conv=>lhs;rw[<-List.take_append_drop i l]
 rw[List.drop_eq_getElem_cons l1,List.drop_eq_getElem_cons l2,e1,e2]
theorem EQ {l:List Pt} {a b:Pt} (h:Nxt l a b):∃i,l[i]? = some a/\l[i+1]? = some b:=by
 obtain⟨x,y,e⟩:=h
 refine⟨x.length,?_,?_⟩
 ·rw[e,List.getElem?_append_right (by omega)];simp
 ·rw[e,List.getElem?_append_right (by omega)];simp
theorem EI (h:0<cs.length) (i:Nat):Cyc cs (rg cs i) (rg cs (i+1)):=by
 have hj:=Nat.mod_lt i h
 refine FH (i:=i % cs.length) ?_ ?_
 ·rw[List.getElem?_append_left hj];exact qP h i
 ·have g:=qP h (i+1)
  by_cases hl:i % cs.length+1<cs.length
  ·rw[List.getElem?_append_left hl,<-g]
   congr 1
   rw[Nat.add_mod]
   by_cases h1:cs.length=1
   ·omega
   ·rw[show 1 % cs.length=1 from Nat.mod_eq_of_lt (by omega),Nat.mod_eq_of_lt hl]
  ·rw[List.getElem?_append_right (by omega),show i % cs.length+1-cs.length=0 by omega,List.getElem?_take,if_pos (by omega),<-g]
   congr 1
   rw[Nat.add_mod]
   by_cases h1:cs.length=1
   ·rw[h1];omega
   ·rw[show 1 % cs.length=1 from Nat.mod_eq_of_lt (by omega),show i % cs.length+1=cs.length by omega,Nat.mod_self]
theorem nY (i:Nat):rg cs (i+cs.length)=rg cs i:=by unfold rg;rw[Nat.add_mod_right]
theorem QL {a b:Pt} (h:Cyc cs a b):∃k,k<cs.length/\a=rg cs (k+(cs.length-1))/\b=rg cs k:=by
 obtain⟨i,h1,h2⟩:=EQ h
 have l2:i+1<(cs++cs.take 1).length:=(List.getElem?_eq_some_iff.mp h2).1
 rw[List.length_append,List.length_take] at l2
 have hi:i<cs.length:=by omega
 have hpos:0<cs.length:=by omega
 rw[List.getElem?_append_left hi,mX hi] at h1
 have h1:rg cs i=a:=Option.some.inj h1
 by_cases hl:i+1<cs.length
 ·rw[List.getElem?_append_left hl,mX hl] at h2
  refine⟨i+1,hl,?_,(Option.some.inj h2).symm⟩
  rw[show i+1+(cs.length-1)=i+cs.length by omega,nY,h1]
 ·rw[List.getElem?_append_right (by omega),show i+1-cs.length=0 by omega,List.getElem?_take,if_pos (by omega),mX hpos] at h2
  refine⟨0,hpos,?_,(Option.some.inj h2).symm⟩
  rw[show 0+(cs.length-1)=i by omega,h1]
theorem AY (h:0<cs.length) (k:Nat):Cyc cs (rg cs (k+(cs.length-1))) (rg cs k):=by
 have:=EI h (k+(cs.length-1))
 rwa [show k+(cs.length-1)+1=k+cs.length by omega,nY] at this
theorem AB (n:cs.Nodup) (h:0<cs.length) {i j:Nat} (e:rg cs i=rg cs j):i % cs.length=j % cs.length:=by
 refine (List.getElem?_inj (Nat.mod_lt i h) n).mp ?_
 rw[qP h i,qP h j,e]
theorem FC {n i d:Nat} (h:0<d) (hd:d<n):(i+d) % n≠i % n:=by
 have h0:=Nat.mod_lt i (show 0<n by omega)
 rw[Nat.add_mod,Nat.mod_eq_of_lt hd]
 rcases Nat.lt_or_ge (i % n+d) n with h' | h'
 ·rw[Nat.mod_eq_of_lt h'];omega
 ·rw[Nat.mod_eq_sub_mod h',Nat.mod_eq_of_lt (by omega)];omega
theorem Cvx.bend_rg (c:Cvx cs) (i:Nat):0<aH (rg cs i) (rg cs (i+1)) (rg cs (i+2)):=by
 have h3:=c.len
 refine c.strict _ _ (EI (by omega) i) _ (jA (by omega) _) (λe=>?_) λe=>?_
 ·exact FC (i:=i) (d:=2) (by omega) (by omega) (AB c.nodup (by omega) e)
 ·exact FC (i:=i+1) (d:=1) (by omega) (by omega) (AB c.nodup (by omega) e)
theorem IM:∀(l:List Pt),∃M:Int,0<M/\∀p∈l,-M<p.2/\p.2<M
 | []=>⟨1,by decide,by simp⟩
 | p::l=>by
  obtain⟨M,h,hM⟩:=IM l
  refine⟨M+p.2.natAbs+1,by omega,λq hq=>?_⟩
  rcases List.mem_cons.mp hq with rfl | hq
  ·omega
  ·have:=hM q hq;omega
theorem CB (c:Cvx cs) {t u v:Pt} (h1:Cyc cs t u) (h2:Cyc cs u v) (nt:t≠v) (e1:ltP u t) (e2:ltP u v):∀w∈cs,¬ltP w u:=by
 obtain⟨M,hM,hb⟩:=IM cs
 have mono:∀p∈cs,∀q∈cs,ltP p q->cxc ⟨2*M,1,0⟩ p<cxc ⟨2*M,1,0⟩ q:=by
  intro p hp q hq hl
  have b1:=hb p hp
  have b2:=hb q hq
  unfold cxc
  dsimp only
  rcases hl with h | ⟨h,h'⟩
  ·have:2*M*(q.1-p.1-1) ≥ 0:=Int.mul_nonneg (by omega) (by omega)
   have e:2*M*(q.1-p.1-1)=2*M*q.1-2*M*p.1-2*M:=by grind
   omega
  ·rw[h];omega
 have mu:=(Cyc.mem h1).2
 have mt:=(Cyc.mem h1).1
 have mv:=(Cyc.mem h2).2
 have lb:=xF (L:=⟨2*M,1,0⟩) c h1 h2 nt (Int.le_of_lt (mono u mu t mt e1)) (Int.le_of_lt (mono u mu v mv e2))
 intro w hw hl
 have:=mono w hw u mu hl
 have:=lb w hw
 omega
theorem JG {z:Pt} {T:List Pt} (c:Cvx (z::T)) (least:∀q∈T,¬ltP q z) {k:Nat} (hk:k<(z::T).length):(ltP (rg (z::T) (k+((z::T).length-1))) (rg (z::T) (k+((z::T).length-2)))/\ltP (rg (z::T) (k+((z::T).length-1))) (rg (z::T) k))↔k=1:=by
 have h3:=c.len
 have z0:rg (z::T) 0=z:=by have:=mX (cs:=z::T) (i:=0) (by omega);simp at this;exact this.symm
 have lt_of:∀i,i % (z::T).length≠0->ltP z (rg (z::T) i):=by
  intro i hi
  have m:=jA (cs:=z::T) (by omega) i
  have ne:rg (z::T) i≠z:=λe=>hi (by
   have:=AB c.nodup (by omega) (i:=i) (j:=0) (by rw[e,z0])
   rwa [Nat.zero_mod] at this)
  rcases fV z (rg (z::T) i) with h | h | h
  ·exact h
  ·exact absurd h.symm ne
  ·rcases List.mem_cons.mp m with e | m
   ·exact absurd e ne
   ·exact absurd h (least _ m)
 generalize hn:(z::T).length=n at *
 constructor
 ·rintro⟨a,b⟩
  have c1:Cyc (z::T) (rg (z::T) (k+(n-2))) (rg (z::T) (k+(n-1))):=by
   have:=EI (cs:=z::T) (by omega) (k+(n-2))
   rwa [show k+(n-2)+1=k+(n-1) by omega] at this
  have c2:Cyc (z::T) (rg (z::T) (k+(n-1))) (rg (z::T) k):=by
   have:=AY (cs:=z::T) (by omega) k
   rwa [hn] at this
  have nt:rg (z::T) (k+(n-2))≠rg (z::T) k:=λe=>by
   have:=AB c.nodup (by omega) e
   rw[hn] at this
   exact FC (by omega) (by omega) this
  have ll:=CB c c1 c2 nt a b z (by simp)
  apply Classical.byContradiction
  intro hk1
  refine ll (lt_of _ ?_)
  intro e
  by_cases h0:k=0
  ·subst h0
   rw[Nat.mod_eq_of_lt (by omega)] at e;omega
  ·rw[show k+(n-1)=(k-1)+n by omega,Nat.add_mod_right,Nat.mod_eq_of_lt (by omega)] at e;omega
 ·rintro rfl
  have e1:rg (z::T) (1+(n-1))=z:=by rw[show 1+(n-1)=0+(z::T).length by omega,nY,z0]
  rw[e1]
  exact⟨lt_of _ (by rw[Nat.mod_eq_of_lt (by omega)];omega),lt_of _ (by rw[Nat.mod_eq_of_lt (by omega)];omega)⟩
end
section
variable {L:CLine} {cs zs:List Pt} {sh sh':Int}
structure PartF (L:CLine) (sh:Int) (cs:List Pt) (sh':Int) (zs:List Pt):Prop where
 pos:0<sh'
 cvx:Cvx zs
 first:∃z T,zs=z::T/\∀q∈T,¬ltP q z
 cop:∀d:Nat,(d:Int)∣sh'->(∀z∈zs,(d:Int)∣z.1/\(d:Int)∣z.2)->d=1
 corner:∀z∈zs,∃(t:H3) (k f:Int),Pm L cs t/\0<k/\0<f/\k*(sh*z.1)=f*t.1/\k*(sh*z.2)=f*t.2.1/\k*sh'=f*t.2.2
 side:∀a b,Cyc zs a b->∃(t1 t2:H3) (κ μ:Int),Adj L cs t1 t2/\0<κ/\0<μ/\∀X Y W,κ*bI (up3 a) (up3 b) (sh'*X,sh'*Y,W)=μ*bI t1 t2 (sh*X,sh*Y,W)
 line:∃(a b:Pt) (t1 t2:H3) (κ μ:Int),Cyc zs a b/\Exit L cs t1/\Entry L cs t2/\0<κ/\0<μ/\∀X Y W,κ*bI (up3 a) (up3 b) (sh'*X,sh'*Y,W)=μ*bI t1 t2 (sh*X,sh*Y,W)
 area:∃F m:Int,0<F/\0<m/\m*sh'=sh*F/\m*m*cD crs zs=cD crs ((rF L cs).map (gF F))/\∀t∈rF L cs,Fits F t
 len:zs.length<=cs.length+2
theorem GS {A B:List Pt} (h:Rot A B) {a b:Pt} (k:Cyc B a b):Cyc A a b:=by
 obtain⟨X,Y,rfl,rfl⟩:=h;exact oM k
theorem QM {f:Pt->Pt} {l:List Pt} {a b:Pt} (h:Cyc l a b):Cyc (l.map f) (f a) (f b):=by
 obtain⟨x,y,e⟩:=h
 refine⟨x.map f,y.map f,?_⟩
 rw[<-List.map_take,<-List.map_append,e];simp
theorem IG {F m:Int} {p q:H3} {a b:Pt} (fp:Fits F p) (fq:Fits F q) (ea:scl m a=gF F p) (eb:scl m b=gF F q) (es:m*sh'=sh*F) (X Y W:Int):m*m*bI (up3 a) (up3 b) (sh'*X,sh'*Y,W)=(F / p.2.2*(F / q.2.2))*bI p q (sh*X,sh*Y,W):=by
 have e1:=fp.e
 have e2:=fq.e
 unfold scl gF at ea eb
 simp only[Prod.mk.injEq] at ea eb
 obtain⟨a1,a2⟩:=ea
 obtain⟨b1,b2⟩:=eb
 generalize F / p.2.2=f1 at *
 generalize F / q.2.2=f2 at *
 have l:m*m*bI (up3 a) (up3 b) (sh'*X,sh'*Y,W)=(m*a.1)*((m*b.2)*W-(m*sh')*Y)-(m*a.2)*((m*b.1)*W-(m*sh')*X)+(m*sh')*((m*b.1)*Y-(m*b.2)*X):=by unfold bI up3;dsimp only;grind
 rw[l,a1,a2,b1,b2,es]
 unfold bI
 dsimp only
 have g1:(p.1*f1)*((q.2.1*f2)*W-sh*F*Y)=f1*f2*(p.1*(q.2.1*W-q.2.2*(sh*Y))):=by rw[<-e2];grind
 have g2:(p.2.1*f1)*((q.1*f2)*W-sh*F*X)=f1*f2*(p.2.1*(q.1*W-q.2.2*(sh*X))):=by rw[<-e2];grind
 have g3:sh*F*((q.1*f2)*Y-(q.2.1*f2)*X)=f1*f2*(p.2.2*(q.1*(sh*Y)-q.2.1*(sh*X))):=by rw[<-e1];grind
 rw[g1,g2,g3];grind
theorem PartOf.facts (c:Cvx cs) (hp:∃z∈cs,0<cxc L z) (hn:∃z∈cs,cxc L z<0) (h0:0<sh) (h:PartOf L sh cs sh' zs):PartF L sh cs sh' zs:=by
 obtain⟨F,m,z,T,hF,fit,rot,least,cz,N,_,hl⟩:=h
 obtain⟨P',rot',cut,_⟩:=lE c hp hn
 have rot':Rot (rF L cs) P':=rot'
 have fit':∀t∈P',Fits F t:=λt ht=>fit t ((rot'.mem t).mpr ht)
 have mp:=N.mpos
 have es:=N.sh_eq
 have ec:z::T=zs.map (scl m):=N.cs_eq
 have sF:0<sh*F:=Int.mul_pos h0 hF
 have pos:0<sh':=by rw[es] at sF;exact nU mp sF
 have rotP:Rot (P'.map (gF F)) (z::T):=((rot'.map (gF F)).symm).trans rot
 have memP:∀p q,nI (P'++P'.take 1) p q->p∈P'/\q∈P':=λp q ⟨x,y,e⟩=>by
  have sub:∀t,t∈P'++P'.take 1->t∈P':=λt ht=>by
   rcases List.mem_append.mp ht with h | h
   ·exact h
   ·exact List.mem_of_mem_take h
  exact⟨sub p (by rw[e];simp),sub q (by rw[e];simp)⟩
 refine⟨pos,Cvx.unscl mp (by rw[<-ec];exact cz),?_,N.cop,?_,?_,?_,⟨F,m,hF,mp,es.symm,?_,fit⟩,hl⟩
 ·cases zs with
  | nil=>simp at ec
  | cons z' T' =>
   simp only[List.map_cons,List.cons.injEq] at ec
   refine⟨z',T',rfl,λq hq hlt=>?_⟩
   refine least (scl m q) (by rw[ec.2];exact List.mem_map_of_mem hq) ?_
   rw[ec.1];exact (FT mp).mpr hlt
 ·intro x hx
  have m1:scl m x∈z::T:=by rw[ec];exact List.mem_map_of_mem hx
  obtain⟨t,ht,e⟩:=List.mem_map.mp ((rotP.mem _).mpr m1)
  have ft:=fit' t ht
  have ee:=ft.e
  have ff:=ft.f
  unfold scl gF at e
  simp only[Prod.mk.injEq] at e
  refine⟨t,m,sh*(F / t.2.2),cut.pm t ht,mp,Int.mul_pos h0 ff,?_,?_,?_⟩
  ·have:=e.1;grind
  ·have:=e.2;grind
  ·rw[<-es,Int.mul_assoc,ee]
 ·intro a b hab
  have k1:Cyc (z::T) (scl m a) (scl m b):=by rw[ec];exact QM hab
  have k2:Nxt ((P'++P'.take 1).map (gF F)) (scl m a) (scl m b):=by
   have:=GS rotP k1
   rw[List.map_append,List.map_take];exact this
  obtain⟨p,q,hpq,ea,eb⟩:=CG k2
  obtain⟨mp1,mq1⟩:=memP p q hpq
  exact⟨p,q,m*m,_,cut.adj p q hpq,Int.mul_pos mp mp,Int.mul_pos (fit' p mp1).f (fit' q mq1).f,λX Y W=>IG (fit' p mp1) (fit' q mq1) ea eb es.symm X Y W⟩
 ·obtain⟨p,q,hx,hy,hpq⟩:=cut.line
  obtain⟨mp1,mq1⟩:=memP p q hpq
  have k1:Cyc (P'.map (gF F)) (gF F p) (gF F q):=by
   obtain⟨x,y,e⟩:=hpq
   refine⟨x.map (gF F),y.map (gF F),?_⟩
   rw[<-List.map_take,<-List.map_append,e];simp
  have k2:Cyc (zs.map (scl m)) (gF F p) (gF F q):=by rw[<-ec];exact GS rotP.symm k1
  have k3:Nxt ((zs++zs.take 1).map (scl m)) (gF F p) (gF F q):=by rw[List.map_append,List.map_take];exact k2
  obtain⟨a,b,hab,ea,eb⟩:=HR k3
  exact⟨a,b,p,q,m*m,_,hab,hx,hy,Int.mul_pos mp mp,Int.mul_pos (fit' p mp1).f (fit' q mq1).f,λX Y W=>IG (fit' p mp1) (fit' q mq1) ea.symm eb.symm es.symm X Y W⟩
 ·rw[<-oK,<-ec]
  exact (tD rot).symm
theorem JF (p q:H3) {k f:Int} {r t:H3} (h1:k*r.1=f*t.1) (h2:k*r.2.1=f*t.2.1) (h3:k*r.2.2=f*t.2.2):k*bI p q r=f*bI p q t:=by
 have l:k*bI p q r=p.1*(q.2.1*(k*r.2.2)-q.2.2*(k*r.2.1))-p.2.1*(q.1*(k*r.2.2)-q.2.2*(k*r.1))+p.2.2*(q.1*(k*r.2.1)-q.2.1*(k*r.1)):=by unfold bI;grind
 rw[l,h1,h2,h3];unfold bI;grind
theorem PartF.left (c:Cvx cs) (h:PartF L sh cs sh' zs) {z:Pt} (hz:z∈zs) {u v:Pt} (hc:Cyc cs u v):0<=bI (up3 u) (up3 v) (sh*z.1,sh*z.2,sh'):=by
 obtain⟨t,k,f,pm,hk,hf,e1,e2,e3⟩:=h.corner z hz
 have e:=JF (up3 u) (up3 v) (r:=(sh*z.1,sh*z.2,sh')) e1 e2 e3
 have p:=SD c pm hc
 exact vQ hk (by rw[e];exact Int.mul_nonneg (by omega) p)
theorem PartF.value (h:PartF L sh cs sh' zs) {z:Pt} (hz:z∈zs):Exc L (sh*z.1,sh*z.2,sh')<=0:=by
 obtain⟨t,k,f,pm,hk,hf,e1,e2,e3⟩:=h.corner z hz
 have e:k*Exc L (sh*z.1,sh*z.2,sh')=f*Exc L t:=by
  have l:k*Exc L (sh*z.1,sh*z.2,sh')=L.a*(k*(sh*z.1))+L.b*(k*(sh*z.2))-L.k*(k*sh'):=by unfold Exc;dsimp only;grind
  rw[l,e1,e2,e3];unfold Exc;grind
 have:=pm.exc_le
 apply Int.not_lt.mp
 intro hp
 have h1:=Int.mul_pos hk hp
 have h2:f*Exc L t<=0:=Int.mul_nonpos_of_nonneg_of_nonpos (by omega) this
 omega
theorem PartF.inside (c:Cvx cs) (hn:∃z∈cs,cxc L z<0) (h:PartF L sh cs sh' zs) {X Y W:Int} (hr:∀u v,Cyc cs u v->0<bI (up3 u) (up3 v) (sh*X,sh*Y,W)) (he:Exc L (sh*X,sh*Y,W)<0):∀a b,Cyc zs a b->0<bI (up3 a) (up3 b) (sh'*X,sh'*Y,W):=by
 intro a b hab
 obtain⟨t1,t2,κ,μ,A,hk,hm,e⟩:=h.side a b hab
 have:=DZ c hn A hr he
 exact nU hk (by rw[e];exact Int.mul_pos hm this)
theorem PartF.outside (c:Cvx cs) (hn:∃z∈cs,cxc L z<0) (h:PartF L sh cs sh' zs) {X Y W:Int} (he:0<Exc L (sh*X,sh*Y,W)):∃a b,Cyc zs a b/\bI (up3 a) (up3 b) (sh'*X,sh'*Y,W)<0:=by
 obtain⟨a,b,t1,t2,κ,μ,hab,hx,hy,hk,hm,e⟩:=h.line
 refine⟨a,b,hab,?_⟩
 obtain⟨k,m,kp,mp,hr⟩:=qC c hx hy (fT c hn hx hy)
 have e2:=hr (sh*X,sh*Y,W)
 have p1:=Int.mul_pos mp he
 have d:bI t1 t2 (sh*X,sh*Y,W)<0:=by
  apply Int.not_le.mp
  intro hh
  have:=Int.mul_nonneg (Int.le_of_lt kp) hh
  omega
 have d2:μ*bI t1 t2 (sh*X,sh*Y,W)<0:=Int.mul_neg_of_pos_of_neg hm d
 apply Int.not_le.mp
 intro hh
 have:=Int.mul_nonneg (Int.le_of_lt hk) hh
 have:=e X Y W
 omega
theorem FK (c:Cvx cs) (hp:∃z∈cs,0<cxc L z) (hn:∃z∈cs,cxc L z<0) (h0:0<sh) {s1 s2:Int} {z1 z2:List Pt} (h1:PartF L sh cs s1 z1) (h2:PartF (opL L) sh cs s2 z2):(cD crs z1*(s2*s2)+cD crs z2*(s1*s1))*(sh*sh)=cD crs cs*(s1*s1)*(s2*s2):=by
 obtain⟨F1,m1,f1,p1,e1,a1,fit1⟩:=h1.area
 obtain⟨F2,m2,f2,p2,e2,a2,fit2⟩:=h2.area
 have A:=LQ c hp hn f1 f2 fit1 fit2
 rw[<-a1,<-a2] at A
 have k1:(0:Int)<m1*m1*(m2*m2):=Int.mul_pos (Int.mul_pos p1 p1) (Int.mul_pos p2 p2)
 refine Int.eq_of_mul_eq_mul_left (a:=m1*m1*(m2*m2)) (by omega) ?_
 have r:m1*m1*(m2*m2)*(cD crs cs*(s1*s1)*(s2*s2))=cD crs cs*((m1*s1)*(m1*s1))*((m2*s2)*(m2*s2)):=by grind
 have l:m1*m1*(m2*m2)*((cD crs z1*(s2*s2)+cD crs z2*(s1*s1))*(sh*sh))=(m1*m1*cD crs z1*((m2*s2)*(m2*s2))+m2*m2*cD crs z2*((m1*s1)*(m1*s1)))*(sh*sh):=by grind
 rw[r,l,e1,e2]
 have l2:(m1*m1*cD crs z1*(sh*F2*(sh*F2))+m2*m2*cD crs z2*(sh*F1*(sh*F1)))*(sh*sh)=(F2*F2*(m1*m1*cD crs z1)+F1*F1*(m2*m2*cD crs z2))*(sh*sh*(sh*sh)):=by grind
 rw[l2,A];grind
end
theorem yD {cs:List Pt} {k j:Nat} (hk:k<cs.length) (hj:j<=cs.length):atI (cs.map pt) (0+(k:Int)-(j:Int))=some (pt (rg cs (k+(cs.length-j)))):=by
 unfold atI ixN
 rw[List.length_map]
 by_cases h:j<=k
 ·rw[if_pos (by omega),if_pos (by omega)]
  have e:(0+(k:Int)-(j:Int)).toNat=k-j:=by omega
  rw[e]
  show (cs.map pt)[k-j]? = _
  rw[List.getElem?_map,mX (by omega),show k+(cs.length-j)=(k-j)+cs.length by omega,nY];rfl
 ·rw[if_neg (by omega),if_pos (by omega)]
  have e:(0+(k:Int)-(j:Int)+(cs.length:Int)).toNat=k+(cs.length-j):=by omega
  rw[e]
  show (cs.map pt)[k+(cs.length-j)]? = _
  rw[List.getElem?_map,mX (by omega)];rfl
theorem lI {cs:List Pt} {k:Nat} (hk:k<cs.length) {Q:D->Prop}:dIx (.tup (cs.map pt)) (.int (0+(k:Int))) Q=Q (pt (rg cs k)):=by
 have:=yD hk (j:=0) (by omega)
 simp only[Int.natCast_zero,Int.sub_zero,Nat.sub_zero,nY] at this
 simp only[dIx,this]
theorem oT {cs:List Pt} {k:Nat} (hk:k<cs.length) {Q:D->Prop}:dIx (.tup (cs.map pt)) (.int (0+(k:Int)-1)) Q=Q (pt (rg cs (k+(cs.length-1)))):=by
 have:=yD hk (j:=1) (by omega)
 simp only[Int.natCast_one] at this
 simp only[dIx,this]
theorem BR {cs:List Pt} {k:Nat} (hk:k<cs.length) (h2:2<=cs.length) {Q:D->Prop}:dIx (.tup (cs.map pt)) (.int (0+(k:Int)-2)) Q=Q (pt (rg cs (k+(cs.length-2)))):=by
 have:=yD hk (j:=2) (by omega)
 have e:((2:Nat):Int)=2:=rfl
 rw[e] at this
 simp only[dIx,this]
theorem BS {zs:List Pt}:∀{i:Nat},i<=zs.length->cF (rg zs (zs.length-1)) (zs.take i)=rg zs (i+(zs.length-1))
 | 0,_=>by rw[Nat.zero_add];rfl
 | j+1,h=>by
  rw[List.take_succ,mX (by omega)]
  show cF _ (zs.take j++[rg zs j])=_
  rw[cQ,show j+1+(zs.length-1)=j+zs.length by omega,nY]
theorem ON (f:Pt->Pt->Int) {zs:List Pt} {i:Nat} (h:i<zs.length):pth f (rg zs (zs.length-1)) (zs.take (i+1))=pth f (rg zs (zs.length-1)) (zs.take i)+f (rg zs (i+(zs.length-1))) (rg zs i):=by
 rw[List.take_succ,mX h,fQ,BS (by omega)]
 show _+(f _ _+0)=_
 rw[Int.add_zero]
theorem SJ (f:Pt->Pt->Int) {zs:List Pt} (h:0<zs.length):pth f (rg zs (zs.length-1)) zs=cD f zs:=by
 refine wW f (X:=zs.take (zs.length-1)) ?_
 conv=>lhs;rw[<-List.take_length (l:=zs),show zs.length=(zs.length-1)+1 by omega]
 rw[List.take_succ,mX (by omega)];rfl
noncomputable def oG:FD:=λds Q=>∃(l:Line) (x y w:Int),ds=[ln l,sp3 x y w]/\l.BLn 20000/\(BL 20000 x/\BL 20000 y/\BL 20000 w)/\Q (.int (l.a*x+l.b*y-l.c*w))
theorem JW:∀ds Q,oG ds Q->ds.length=2:=by rintro ds Q ⟨_,_,_,_,rfl,_⟩;rfl
theorem uM:∀ds Q,oG ds Q->gA { nx:=λ_=>Q .non,rt:=Q } (aP ["_law_line_here","_law_spot"] ds):=by
 rintro ds Q ⟨l,x,y,w,rfl,⟨b1,b2,b3⟩,⟨b4,b5,b6⟩,q⟩
 rw[aV 0 rfl]
 unfold gA
 walk_at "rd"
 exact⟨b1.mulOk b4,b2.mulOk b5,b3.mulOk b6,q⟩
noncomputable def sD:FD:=λds Q=>∃a b c:Pt,ds=[pt a,pt b,pt c]/\(BP a/\BP b/\BP c)/\Q (.int (aH a b c))
theorem JQ:∀ds Q,sD ds Q->ds.length=3:=by rintro ds Q ⟨_,_,_,rfl,_⟩;rfl
theorem wE:∀ds Q,sD ds Q->gX { nx:=λ_=>Q .non,rt:=Q } (aP ["_law_one","_law_two","_law_three","_law_ahead"] ds):=by
 rintro ds Q ⟨a,b,c,rfl,⟨ba,bb,bc⟩,q⟩
 rw[aV 1 rfl]
 unfold gX
 walk_at "rd"
 have e:(b.1-a.1)*(c.2-b.2)-(b.2-a.2)*(c.1-b.1)=aH a b c:=by unfold aH;grind
 refine⟨(bb.1.sub ba.1).mulOk (bc.2.sub bb.2),(bb.2.sub ba.2).mulOk (bc.1.sub bb.1),?_⟩
 rw[e];exact q
noncomputable def xY:FD:=λds Q=>∃x y w x' y' w':Int,ds=[sp3 x y w,sp3 x' y' w']/\(BL 400 x/\BL 400 y/\BL 200 w)/\(BL 400 x'/\BL 400 y'/\BL 200 w')/\w≠0/\∀l:Line,(l.a≠0\/l.b≠0)->l.BLn 802->Q (ln l)
theorem NL:∀ds Q,xY ds Q->ds.length=2:=by rintro ds Q ⟨_,_,_,_,_,_,rfl,_⟩;rfl
theorem wC:∀ds Q,xY ds Q->gU { nx:=λ_=>Q .non,rt:=Q } (aP ["_law_one","_law_other","_law_a","_law_b"] ds):=by
 rintro ds Q ⟨x,y,w,x',y',w',rfl,⟨b1,b2,b3⟩,⟨c1,c2,c3⟩,hw,q⟩
 rw[aV 2 rfl]
 unfold gU
 walk_at "rd"
 refine⟨b2.mulOk c3,c2.mulOk b3,c1.mulOk b3,b1.mulOk c3,?_⟩
 by_cases h1:y*w'-y'*w=0
 ·rw[if_pos h1]
  by_cases h2:x'*w-x*w'=0
  ·rw[if_pos h2]
   refine⟨(b3.mono (by decide)).divOk hw,?_⟩
   exact q ⟨1,0,x.fdiv w⟩ (Or.inl (show (1:Int)≠0 by decide)) ⟨(BL.const (n:=1) (i:=1) (by decide)).mono (by decide),(BL.const (n:=1) (i:=0) (by decide)).mono (by decide),b1.fdiv.mono (by decide)⟩
  ·rw[if_neg h2]
   refine⟨b2.mulOk c1,b1.mulOk c2,?_⟩
   exact q ⟨_,_,_⟩ (Or.inr h2) ⟨((b2.mul c3).sub (c2.mul b3)).mono (by decide),((c1.mul b3).sub (b1.mul c3)).mono (by decide),((b2.mul c1).sub (b1.mul c2)).mono (by decide)⟩
 ·rw[if_neg h1]
  refine⟨b2.mulOk c1,b1.mulOk c2,?_⟩
  exact q ⟨_,_,_⟩ (Or.inl h1) ⟨((b2.mul c3).sub (c2.mul b3)).mono (by decide),((c1.mul b3).sub (b1.mul c3)).mono (by decide),((b2.mul c1).sub (b1.mul c2)).mono (by decide)⟩
noncomputable def oB:FD:=λds Q=>∃(cs:List Pt) (share c:Int),ds=[pts cs,.int share,.int c]/\BL 1000 c/\(eS 300 cs/\1<=cs.length/\cs.length<=40)/\(1<=share/\BL 100 share)/\∀x y w,BL 400 x->BL 400 y->BL 200 w->1<=w->Q (sp3 x y w)
theorem ES:∀ds Q,oB ds Q->ds.length=3:=by rintro ds Q ⟨_,_,_,rfl,_⟩;rfl
theorem qJ:∀ds Q,oB ds Q->eE sQ { nx:=λ_=>Q .non,rt:=Q } (aP ["_law_ring_here","_law_share_here","_law_cell","_law_corner","_law_spot"] ds):=by
 rintro ds Q ⟨cs,share,c,rfl,bc,⟨hS,l1,l2⟩,⟨s1,bs⟩,q⟩
 rw[aV 2 rfl]
 unfold eE
 simp only[cL,OV,List.map_cons,List.map_nil,List.cons_append,List.nil_append]
 by_cases h3:c.fmod 3=0
 ·refine aM (λρ=>False) (λK hK=>?_) (λρ h=>h.elim)
  walk_at "rd"
  refine⟨by walk_at "side",?_⟩
  rw[if_pos h3]
  have lc:(List.map pt cs).length=cs.length:=by simp
  obtain⟨a0,a1⟩:=bA (a:=c.fdiv 3) (b:=((List.map pt cs).length:Int)) (by omega)
  refine⟨by walk_at "side",⟨by omega⟩,?_⟩
  refine oN a0 a1 λx hx=>?_
  obtain⟨z,hz,rfl⟩:=List.mem_map.mp hx
  obtain⟨z1,z2⟩:=hS z hz
  walk_at "rd"
  exact q _ _ _ (z1.mono (by decide)) (z2.mono (by decide)) (bs.mono (by decide)) s1
 ·refine aM (λρ=>ρ=[some (.d (pts cs)),some (.d (.int share)),some (.d (.int c)),none,none]) (λK hK=>?_) ?_
  ·walk_at "rd"
   refine⟨by walk_at "side",?_⟩
   rw[if_neg h3]
   exact hK _ rfl
  rintro ρ rfl
  walk_at "rd"
  refine⟨by walk_at "side",cs,c.fdiv 3,rfl,bc.fdiv,⟨hS,l1,l2⟩,λx y w sp=>?_⟩
  walk_at "rd"
  have bw:BL 20 w:=gG ⟨by have:=sp.w1;omega,sp.w2⟩
  refine⟨bw.mulOk bs,q _ _ _ sp.x sp.y ((bw.mul bs).mono (by decide)) ?_⟩
  have:=Int.mul_pos (a:=w) (b:=share) (by have:=sp.w1;omega) (by omega)
  omega
noncomputable abbrev sgI (m:Int):Int:=(if 0<m then 1 else 0)-(if m<0 then 1 else 0)
noncomputable abbrev sdd (sh X Y W:Int) (a b:Pt):Int:=bI (up3 a) (up3 b) (sh*X,sh*Y,W)
noncomputable def jC:FD:=λds Q=>∃(sh:Int) (cs:List Pt) (X Y W:Int),ds=[pc sh cs,sp3 X Y W]/\(BL 9000 sh/\eS 9000 cs/\1<=cs.length/\cs.length<=100)/\(BL 9000 X/\BL 9000 Y/\BL 9000 W) /\
 ∀M,(∃a b,Cyc cs a b/\M=sdd sh X Y W a b)->(∀a b,Cyc cs a b->M<=sdd sh X Y W a b)->Q (.int (sgI M))
theorem EV:∀ds Q,jC ds Q->ds.length=2:=by rintro ds Q ⟨_,_,_,_,_,rfl,_⟩;rfl
theorem XE (sh X Y W:Int) (a b:Pt):(b.1-a.1)*(Y*sh-a.2*W)-(b.2-a.2)*(X*sh-a.1*W)=sdd sh X Y W a b:=by unfold sdd bI up3;dsimp only;grind
theorem rV:∀ds Q,jC ds Q->fC { nx:=λ_=>Q .non,rt:=Q } (aP ["_law_piece","_law_spot","_law_share_here","_law_corners","_law_least","_law_k","_law_one","_law_x","_law_y","_law_side"] ds):=by
 rintro ds Q ⟨sh,cs,X,Y,W,rfl,⟨bs,hS,l1,l2⟩,⟨bX,bY,bW⟩,q⟩
 rw[aV 8 rfl]
 unfold fC
 simp only[cL,WZ,List.map_cons,List.map_nil,List.cons_append,List.nil_append]
 generalize hP:pc sh cs=PD
 generalize hT:sp3 X Y W=TD
 have pos:0<cs.length:=by omega
 refine aM (λρ=>ρ=[some (.d PD),some (.d TD),some (.d (.int sh)),some (.d (.tup (cs.map pt))),none,none,none,none,none,none]) (λK hK=>?_) ?_
 ·rw[<-hP] at hK ⊢
  walk_at "rd"
  exact hK _ rfl
 rintro ρ rfl
 refine aM (λρ=>ρ=[some (.d PD),some (.d TD),some (.d (.int sh)),some (.d (.tup (cs.map pt))),some (.d .non),none,none,none,none,none]) (λK hK=>?_) ?_
 ·walk_at "rd"
  exact hK _ rfl
 rintro ρ rfl
 refine aM (λρ=>∃(M:Int) (a b c d e:Option S),((∃a b,Cyc cs a b/\M=sdd sh X Y W a b)/\∀a b,Cyc cs a b->M<=sdd sh X Y W a b)/\ρ=[some (.d PD),some (.d TD),some (.d (.int sh)),some (.d (.tup (cs.map pt))),some (.d (.int M)),a,b,c,d,e]) (λK hK=>?_) ?_
 ·simp only[iZ,qQ,aD,aN,r1,gH,aB,List.getElem?_cons_zero,List.getElem?_cons_succ,S.val,List.length_map]
  refine⟨by constructor <;> omega,?_⟩
  have nn:(((cs.length:Nat):Int)).toNat=cs.length:=by omega
  simp only[nn]
  refine zC 0 cs.length (λi ρ=>∃(lo:D) (a b c d e:Option S),((i=0/\lo = .non)\/(∃M k0:Int × Nat,k0.2<i/\M.1=sdd sh X Y W (rg cs (k0.2+(cs.length-1))) (rg cs k0.2)/\(∀k,k<i->M.1<=sdd sh X Y W (rg cs (k+(cs.length-1))) (rg cs k))/\lo = .int M.1))/\ρ=[some (.d PD),some (.d TD),some (.d (.int sh)),some (.d (.tup (cs.map pt))),some (.d lo),a,b,c,d,e]) ?_ ?_ _ ⟨.non,none,none,none,none,none,Or.inl ⟨rfl,rfl⟩,rfl⟩
  ·rintro i ρ hi ⟨lo,a,b,c,d,e,hlo,rfl⟩ F _ _ hn _
   obtain⟨p1,p2⟩:=hS _ (jA pos (i+(cs.length-1)))
   obtain⟨q1,q2⟩:=hS _ (jA pos i)
   unfold iS
   subst hT
   obtain⟨u,hu⟩:∃u,u=rg cs (i+(cs.length-1)):=⟨_,rfl⟩
   have bx:=(bX.mul bs).sub (p1.mul bW)
   have by':=(bY.mul bs).sub (p2.mul bW)
   have e1:∀{Q:D->Prop},dIx (.tup (cs.map pt)) (.int (0+(i:Int)-1)) Q=Q (pt u):=λ{Q}=>by rw[hu];exact oT hi
   rw[<-hu] at p1 p2 bx by'
   simp only[aZ,List.set_cons_succ,List.set_cons_zero]
   refine aM (λρ=>ρ=[some (.d PD),some (.d (sp3 X Y W)),some (.d (.int sh)),some (.d (.tup (cs.map pt))),some (.d lo),some (.d (.int (0+(i:Int)))),some (.d (pt u)),c,d,e]) (λK' hK'=>?_) ?_
   ·simp only[bE,r2,aB,rC,S.val,cK,List.getElem?_cons_succ,List.getElem?_cons_zero,e1,List.set_cons_succ,List.set_cons_zero]
    exact hK' _ rfl
   rintro ρ rfl
   refine aM (λρ=>ρ=[some (.d PD),some (.d (sp3 X Y W)),some (.d (.int sh)),some (.d (.tup (cs.map pt))),some (.d lo),some (.d (.int (0+(i:Int)))),some (.d (pt u)),some (.d (.int (X*sh-u.1*W))),d,e]) (λK' hK'=>?_) ?_
   ·simp only[bE,r2,aB,rC,S.val,cK,bJ,oO,tG,List.getElem?_cons_succ,List.getElem?_cons_zero,List.set_cons_succ,List.set_cons_zero]
    exact⟨bX.mulOk bs,p1.mulOk bW,hK' _ rfl⟩
   rintro ρ rfl
   refine aM (λρ=>ρ=[some (.d PD),some (.d (sp3 X Y W)),some (.d (.int sh)),some (.d (.tup (cs.map pt))),some (.d lo),some (.d (.int (0+(i:Int)))),some (.d (pt u)),some (.d (.int (X*sh-u.1*W))),some (.d (.int (Y*sh-u.2*W))),e]) (λK' hK'=>?_) ?_
   ·simp only[bE,r2,aB,rC,S.val,cK,bJ,iB,tG,List.getElem?_cons_succ,List.getElem?_cons_zero,List.set_cons_succ,List.set_cons_zero]
    exact⟨bY.mulOk bs,p2.mulOk bW,hK' _ rfl⟩
   rintro ρ rfl
   refine aM (λρ=>ρ=[some (.d PD),some (.d (sp3 X Y W)),some (.d (.int sh)),some (.d (.tup (cs.map pt))),some (.d lo),some (.d (.int (0+(i:Int)))),some (.d (pt u)),some (.d (.int (X*sh-u.1*W))),some (.d (.int (Y*sh-u.2*W))),some (.d (.int (sdd sh X Y W u (rg cs i))))]) (λK' hK'=>?_) ?_
   ·simp only[bE,r2,aB,rC,S.val,cK,bJ,lI hi,oO,iB,List.getElem?_cons_succ,List.getElem?_cons_zero,List.set_cons_succ,List.set_cons_zero]
    refine⟨(q1.sub p1).mulOk by',(q2.sub p2).mulOk bx,?_⟩
    rw[XE]
    exact hK' _ rfl
   rintro ρ rfl
   subst hu
   walk_at "rd"
   have mk:∀(M:Int) (k0:Nat) (a b c d e:Option S),k0<i+1->M=sdd sh X Y W (rg cs (k0+(cs.length-1))) (rg cs k0)->(∀k,k<i+1->M<=sdd sh X Y W (rg cs (k+(cs.length-1))) (rg cs k))->F.nx [some (.d PD),some (.d (sp3 X Y W)),some (.d (.int sh)),some (.d (.tup (cs.map pt))),some (.d (.int M)),a,b,c,d,e] :=
    λM k0 a b c d e h1 h2 h3=>hn _ ⟨_,a,b,c,d,e,Or.inr ⟨(M,0),(0,k0),h1,h2,h3,rfl⟩,rfl⟩
   have le:∀{M:Int},M<=sdd sh X Y W (rg cs (i+(cs.length-1))) (rg cs i)->(∀k,k<i->M<=sdd sh X Y W (rg cs (k+(cs.length-1))) (rg cs k))->∀k,k<i+1->M<=sdd sh X Y W (rg cs (k+(cs.length-1))) (rg cs k):=λh h' k hk=>by
    rcases Nat.lt_or_eq_of_le (Nat.le_of_lt_succ hk) with h0 | rfl
    ·exact h' k h0
    ·exact h
   rcases hlo with ⟨h0,rfl⟩ | ⟨M,k0,h1,h2,h3,rfl⟩
   ·subst h0
    simp only[if_true]
    exact mk _ 0 _ _ _ _ _ (Nat.zero_lt_succ _) rfl (le (Int.le_refl _) λk hk=>absurd hk (Nat.not_lt_zero k))
   ·simp only[Bool.false_eq_true,if_false]
    split
    ·rename_i hlt
     exact mk _ i _ _ _ _ _ (Nat.lt_succ_self i) rfl (le (Int.le_refl _) λk hk=>Int.le_trans (Int.le_of_lt hlt) (h3 k hk))
    ·rename_i hlt
     exact mk _ k0.2 _ _ _ _ _ (Nat.lt_succ_of_lt h1) h2 (le (Int.not_lt.mp hlt) h3)
  ·rintro ρ ⟨lo,a,b,c,d,e,hlo,rfl⟩
   rcases hlo with ⟨h0,rfl⟩ | ⟨M,k0,h1,h2,h3,rfl⟩
   ·omega
   ·refine hK _ ⟨M.1,a,b,c,d,e,⟨⟨_,_,AY pos k0.2,h2⟩,λx y hxy=>?_⟩,rfl⟩
    obtain⟨k,hk,rfl,rfl⟩:=QL hxy
    exact h3 k hk
 rintro ρ ⟨M,a,b,c,d,e,⟨m1,m2⟩,rfl⟩
 have fin:=q M m1 m2
 walk_at "rd"
 exact fin
noncomputable def oC:FD:=λds Q=>(ds=[.non]/\Q (.tup [.int 0,.int 1]))\/∃(sh:Int) (zs:List Pt),ds=[pc sh zs]/\(BL 9000 sh/\eS 9000 zs/\1<=zs.length/\zs.length<=100)/\Q (.tup [.int (cD crs zs),.int (sh*sh)])
theorem JP:∀ds Q,oC ds Q->ds.length=1:=by rintro ds Q (⟨rfl,_⟩ | ⟨_,_,rfl,_⟩) <;> rfl
theorem wB:∀ds Q,oC ds Q->eY { nx:=λ_=>Q .non,rt:=Q } (aP ["_law_piece","_law_total","_law_k","_law_one","_law_two"] ds):=by
 rintro ds Q (⟨rfl,q⟩ | ⟨sh,zs,rfl,⟨bs,hS,l1,l2⟩,q⟩)
 ·rw[aV 4 rfl]
  unfold eY
  walk_at "rd"
  exact q
 rw[aV 4 rfl]
 unfold eY
 simp only[cL,OW,List.map_cons,List.map_nil,List.cons_append,List.nil_append]
 have pos:0<zs.length:=by omega
 refine aM (λρ=>ρ=[some (.d (pc sh zs)),none,none,none,none]) (λK hK=>?_) ?_
 ·walk_at "rd"
  exact hK _ rfl
 rintro ρ rfl
 refine aM (λρ=>ρ=[some (.d (pc sh zs)),some (.d (.int 0)),none,none,none]) (λK hK=>?_) ?_
 ·walk_at "rd"
  exact hK _ rfl
 rintro ρ rfl
 refine aM (λρ=>∃a b c:Option S,ρ=[some (.d (pc sh zs)),some (.d (.int (cD crs zs))),a,b,c]) (λK hK=>?_) ?_
 ·simp only[iZ,qQ,aD,aN,r1,r2,rC,iB,gH,aB,List.getElem?_cons_zero,List.getElem?_cons_succ,S.val,List.length_map]
  refine⟨by constructor <;> omega,?_⟩
  have nn:(((zs.length:Nat):Int)).toNat=zs.length:=by omega
  simp only[nn]
  refine zC 0 zs.length (λi ρ=>∃a b c:Option S,ρ=[some (.d (pc sh zs)),some (.d (.int (pth crs (rg zs (zs.length-1)) (zs.take i)))),a,b,c]) ?_ ?_ _ ⟨none,none,none,rfl⟩
  ·rintro i ρ hi ⟨a,b,c,rfl⟩ F _ _ hn _
   obtain⟨p1,p2⟩:=hS _ (jA pos (i+(zs.length-1)))
   obtain⟨q1,q2⟩:=hS _ (jA pos i)
   unfold kT
   walk_at "rd"
   rw[oT hi]
   walk_at "rd"
   simp only[lI hi]
   walk_at "rd"
   refine⟨p1.mulOk q2,p2.mulOk q1,hn _ ⟨some (.d (.int (0+(i:Int)))),some (.d (pt (rg zs (i+(zs.length-1))))),some (.d (pt (rg zs i))),?_⟩⟩
   rw[ON crs hi]
   unfold crs
   rw[Int.add_sub_assoc]
  ·rintro ρ ⟨a,b,c,rfl⟩
   rw[List.take_length,SJ crs pos]
   exact hK _ ⟨a,b,c,rfl⟩
 rintro ρ ⟨a,b,c,rfl⟩
 walk_at "rd"
 exact⟨bs.mulOk bs,q⟩
noncomputable def oD:FD:=λds Q=>∃(sh:Int) (zs:List Pt),ds=[pc sh zs]/\1<=sh/\3<=zs.length/\Q (.bl true)
theorem EW:∀ds Q,oD ds Q->ds.length=1:=by rintro ds Q ⟨_,_,rfl,_⟩;rfl
theorem kJ:∀ds Q,oD ds Q->cM sK { nx:=λ_=>Q .non,rt:=Q } (aP ["_law_piece","_law_corner"] ds):=by
 rintro ds Q ⟨sh,zs,rfl,h1,h3,q⟩
 rw[aV 1 rfl]
 unfold cM
 simp only[cL,OU,List.map_cons,List.map_nil,List.cons_append,List.nil_append]
 refine aM (λρ=>ρ=[some (.d (pc sh zs)),none]) (λK hK=>?_) ?_
 ·walk_at "rd"
  refine⟨sh,rfl,?_⟩
  walk_at "rd"
  rw[if_neg (by omega)]
  exact hK _ rfl
 rintro ρ rfl
 refine aM (λρ=>ρ=[some (.d (pc sh zs)),none]) (λK hK=>?_) ?_
 ·walk_at "rd"
  rw[if_neg (by simp;omega)]
  exact hK _ rfl
 rintro ρ rfl
 refine aM (λρ=>True) (λK hK=>?_) ?_
 ·walk_at "rd"
  refine cX (λxs ρ=>∃(rest:List Pt) (x:Option S),xs=rest.map pt/\ρ=[some (.d (pc sh zs)),x]) ?_ ?_ _ _ ⟨zs,none,rfl,rfl⟩
  ·rintro x xs ρ ⟨rest,u,ex,rfl⟩ F _ _ hn _
   cases rest with
   | nil=>cases ex
   | cons z rest =>
    cases ex
    unfold eA
    walk_at "rd"
    exact⟨_,rfl,_,rfl,hn _ ⟨rest,some (.d (pt z)),rfl,rfl⟩⟩
  ·rintro ρ _;exact hK _ trivial
 rintro ρ _
 walk_at "rd"
 exact q
structure IsPc (sh:Int) (zs:List Pt):Prop where
 pos:0<sh
 cvx:Cvx zs
 first:∃z T,zs=z::T/\∀q∈T,¬ltP q z
 cop:∀d:Nat,(d:Int)∣sh->(∀z∈zs,(d:Int)∣z.1/\(d:Int)∣z.2)->d=1
noncomputable def GG:FD:=λds Q=>∃(sh:Int) (zs:List Pt),ds=[pc sh zs]/\IsPc sh zs/\(∀z∈zs,BP z)/\zs.length<=100/\Q (.bl true)
theorem RB:∀ds Q,GG ds Q->ds.length=1:=by rintro ds Q ⟨_,_,rfl,_⟩;rfl
theorem pA:∀ds Q,GG ds Q->dQ qT oD sD { nx:=λ_=>Q .non,rt:=Q } (aP ["_law_piece","_law_share_here","_law_corners","_law_most","_law_falls","_law_k"] ds):=by
 rintro ds Q ⟨sh,zs,rfl,ip,hB,hl,q⟩
 have h3:=ip.cvx.len
 have pos:0<zs.length:=by omega
 rw[aV 5 rfl]
 unfold dQ
 simp only[cL,WY,List.map_cons,List.map_nil,List.cons_append,List.nil_append]
 generalize hP:pc sh zs=PD
 refine aM (λρ=>ρ=[some (.d PD),none,none,none,none,none]) (λK hK=>?_) ?_
 ·walk_at "rd"
  refine⟨sh,zs,by rw[hP],by have:=ip.pos;omega,h3,?_⟩
  walk_at "rd"
  exact hK _ rfl
 rintro ρ rfl
 refine aM (λρ=>ρ=[some (.d PD),some (.d (.int sh)),some (.d (.tup (zs.map pt))),none,none,none]) (λK hK=>?_) ?_
 ·rw[<-hP] at hK ⊢
  walk_at "rd"
  exact hK _ rfl
 rintro ρ rfl
 refine aM (λρ=>ρ=[some (.d PD),some (.d (.int sh)),some (.d (.tup (zs.map pt))),some (.d (.int sh)),none,none]) (λK hK=>?_) ?_
 ·walk_at "rd"
  exact hK _ rfl
 rintro ρ rfl
 refine aM (λρ=>ρ=[some (.d PD),some (.d (.int sh)),some (.d (.tup (zs.map pt))),some (.d (.int sh)),some (.d (.int 0)),none]) (λK hK=>?_) ?_
 ·walk_at "rd"
  exact hK _ rfl
 rintro ρ rfl
 refine aM (λρ=>∃(a:Option S),ρ=[some (.d PD),some (.d (.int sh)),some (.d (.tup (zs.map pt))),some (.d (.int 1)),some (.d (.int 1)),a]) (λK hK=>?_) ?_
 ·simp only[iZ,qQ,aD,aN,r1,gH,aB,List.getElem?_cons_zero,List.getElem?_cons_succ,S.val,List.length_map]
  refine⟨by constructor <;> omega,?_⟩
  have nn:(((zs.length:Nat):Int)).toNat=zs.length:=by omega
  have sn:(sh.toNat:Int)=sh:=by have:=ip.pos;omega
  simp only[nn]
  refine zC 0 zs.length (λi ρ=>∃(g:Nat) (a:Option S),GcdOf sh (zs.take i) g/\ρ=[some (.d PD),some (.d (.int sh)),some (.d (.tup (zs.map pt))),some (.d (.int g)),some (.d (.int (if 2<=i then 1 else 0))),a]) ?_ ?_ _ ⟨sh.toNat,none,⟨by have:=ip.pos;omega,?_,by simp,λd e1 _=>?_⟩,by rw[sn];rfl⟩
  ·rintro i ρ hi ⟨g,a,hg,rfl⟩ F hrt _ hn _
   have p0:=hB _ (jA pos i)
   have p1:=hB _ (jA pos (i+(zs.length-1)))
   have p2:=hB _ (jA pos (i+(zs.length-2)))
   have tp:0<aH (rg zs (i+(zs.length-2))) (rg zs (i+(zs.length-1))) (rg zs i):=by
    have:=ip.cvx.bend_rg (i+(zs.length-2))
    rwa [show i+(zs.length-2)+1=i+(zs.length-1) by omega,show i+(zs.length-2)+2=i+zs.length by omega,nY] at this
   have ff:(ltP (rg zs (i+(zs.length-1))) (rg zs (i+(zs.length-2)))/\ltP (rg zs (i+(zs.length-1))) (rg zs i))↔i=1:=by
    obtain⟨z,T,e,least⟩:=ip.first
    have cv:=ip.cvx
    subst e
    exact JG cv least hi
   have hg':GcdOf sh (zs.take (i+1)) (Int.gcd (Int.gcd g (rg zs i).1:Nat) (rg zs i).2):=by
    rw[List.take_succ,mX hi];exact hg.snoc _
   have fin:∀v:Int,v=(if 2<=i+1 then 1 else 0)->F.nx [some (.d PD),some (.d (.int sh)),some (.d (.tup (zs.map pt))),some (.d (.int (Int.gcd (Int.gcd g (rg zs i).1:Nat) (rg zs i).2:Nat))),some (.d (.int v)),some (.d (.int (0+(i:Int))))]:=λv hv=>hn _ ⟨_,some (.d (.int (0+(i:Int)))),hg',by rw[hv]⟩
   unfold gP
   simp only[aZ,List.set_cons_succ,List.set_cons_zero]
   refine aM (λρ=>ρ=[some (.d PD),some (.d (.int sh)),some (.d (.tup (zs.map pt))),some (.d (.int (Int.gcd (Int.gcd g (rg zs i).1:Nat) (rg zs i).2:Nat))),some (.d (.int (if 2<=i then 1 else 0))),some (.d (.int (0+(i:Int))))]) (λK' hK'=>?_) ?_
   ·simp only[bE,bC,aD,aN,r2,aU,aB,rC,S.val,lI hi,oO,iB,List.getElem?_cons_succ,List.getElem?_cons_zero,List.set_cons_succ,List.set_cons_zero]
    exact⟨_,_,rfl,_,_,rfl,hK' _ rfl⟩
   rintro ρ rfl
   refine aM (λρ=>ρ=[some (.d PD),some (.d (.int sh)),some (.d (.tup (zs.map pt))),some (.d (.int (Int.gcd (Int.gcd g (rg zs i).1:Nat) (rg zs i).2:Nat))),some (.d (.int (if 2<=i then 1 else 0))),some (.d (.int (0+(i:Int))))]) (λK' hK'=>?_) ?_
   ·simp only[dZ,bD,bC,aD,aN,r2,aB,rC,cJ,S.val,cK,dH,lI hi,oT hi,BR hi (show 2<=zs.length by omega),List.getElem?_cons_succ,List.getElem?_cons_zero]
    refine⟨_,_,_,rfl,⟨p2,p1,p0⟩,?_⟩
    dsimp only
    rw[if_neg (by simp only[decide_eq_true_eq];omega)]
    exact hK' _ rfl
   rintro ρ rfl
   simp only[dZ,CU,bD,bE,cJ,r2,aB,rC,S.val,cK,cT,QP,lI hi,oT hi,BR hi (show 2<=zs.length by omega),List.getElem?_cons_succ,List.getElem?_cons_zero,List.set_cons_succ,List.set_cons_zero]
   refine⟨[_,_],[_,_],rfl,rfl,?_⟩
   rw[oU]
   by_cases h1:ltP (rg zs (i+(zs.length-1))) (rg zs (i+(zs.length-2)))
   ·simp only[h1,decide_true,if_true]
    refine⟨[_,_],[_,_],rfl,rfl,?_⟩
    rw[oU]
    by_cases h2:ltP (rg zs (i+(zs.length-1))) (rg zs i)
    ·simp only[h2,decide_true,if_true]
     have:=ff.mp ⟨h1,h2⟩
     subst this
     exact fin _ (by simp)
    ·simp only[h2,decide_false,if_false,Bool.false_eq_true]
     have:i≠1:=λe=>h2 (ff.mpr e).2
     refine fin _ ?_
     by_cases h4:2<=i
     ·rw[if_pos h4,if_pos (by omega)]
     ·rw[if_neg h4,if_neg (by omega)]
   ·simp only[h1,decide_false,if_false,Bool.false_eq_true]
    have:i≠1:=λe=>h1 (ff.mpr e).1
    refine fin _ ?_
    by_cases h4:2<=i
    ·rw[if_pos h4,if_pos (by omega)]
    ·rw[if_neg h4,if_neg (by omega)]
  ·rintro ρ ⟨g,a,hg,rfl⟩
   rw[List.take_length] at hg
   have:=ip.cop g hg.sh hg.all
   subst this
   refine hK _ ⟨a,?_⟩
   rw[if_pos (by omega)];rfl
  ·rw[sn];exact Int.dvd_refl _
  ·exact_mod_cast (by rw[sn];exact e1:(d:Int)∣(sh.toNat:Int))
 rintro ρ ⟨a,rfl⟩
 obtain⟨z,T,e,least⟩:=ip.first
 subst e
 walk_at "rd"
 refine⟨(z::T).map λp=>[p.1,p.2],by rw[List.map_map];rfl,by simp,λM m1 m2=>?_⟩
 obtain⟨p,hp,rfl⟩:=List.mem_map.mp m1
 have ep:z=p:=by
  rcases List.mem_cons.mp hp with h | h
  ·exact h.symm
  ·have h1:=least p h
   have h2:=m2 [z.1,z.2] (by simp)
   rw[oU] at h2
   simp only[decide_eq_false_iff_not] at h2
   rcases fV z p with k | k | k
   ·exact absurd k h2
   ·exact k
   ·exact absurd k h1
 subst ep
 have ee:eqF 6 (pt z) (pt z)=some true:=by rw[yY];simp
 rw[show jS [z.1,z.2]=pt z from rfl]
 first
  | (rw[ee];exact q)
  | (show (match eqF 6 (pt z) (pt z) with | some b=>Q (.bl b) | none=>False);rw[ee];exact q)
theorem PartF.isPc {L:CLine} {sh sh':Int} {cs zs:List Pt} (h:PartF L sh cs sh' zs):IsPc sh' zs:=⟨h.pos,h.cvx,h.first,h.cop⟩
noncomputable def sG:FD:=λds Q=>∃(d:D) (l:Line) (sh:Int) (cs:List Pt) (s:Int),ds=[d,pc sh cs,ln l,.int s]/\l.BLn 9000/\(BL 9000 sh/\eS 9000 cs/\1<=cs.length/\cs.length<=100)/\BL 10 s /\
 (d = .non\/∃(sh':Int) (zs:List Pt),d=pc sh' zs/\IsPc sh' zs/\(BL 9000 sh'/\eS 9000 zs/\zs.length<=100)/\∀z∈zs,0<=(l.a*z.1+l.b*z.2-l.c*sh')*s/\∀a b,Cyc cs a b->0<=sdd sh z.1 z.2 sh' a b)/\Q (.bl true)
theorem JS:∀ds Q,sG ds Q->ds.length=4:=by rintro ds Q ⟨_,_,_,_,_,rfl,_⟩;rfl
theorem rW:∀ds Q,sG ds Q->fD GG jC oG { nx:=λ_=>Q .non,rt:=Q } (aP ["_law_part_here","_law_piece","_law_line_here","_law_sign","_law_x","_law_y","_law_corner"] ds):=by
 rintro ds Q ⟨d,l,sh,cs,s,rfl,bl,⟨bs,hS,l1,l2⟩,b1,hd,q⟩
 rw[aV 3 rfl]
 unfold fD
 simp only[cL,SN,List.map_cons,List.map_nil,List.cons_append,List.nil_append]
 rcases hd with rfl | ⟨sh',zs,rfl,ip,⟨bs',hS',lz⟩,hz⟩
 ·walk_at "rd"
  exact q
 generalize hP:pc sh cs=PD
 generalize hL:ln l=LD
 refine aM (λρ=>ρ=[some (.d (pc sh' zs)),some (.d PD),some (.d LD),some (.d (.int s)),none,none,none]) (λK hK=>?_) ?_
 ·walk_at "rd"
  exact hK _ rfl
 rintro ρ rfl
 refine aM (λρ=>ρ=[some (.d (pc sh' zs)),some (.d PD),some (.d LD),some (.d (.int s)),none,none,none]) (λK hK=>?_) ?_
 ·walk_at "rd"
  refine⟨sh',zs,rfl,ip,λz hz=>⟨(hS' z hz).1.mono (by decide),(hS' z hz).2.mono (by decide)⟩,lz,?_⟩
  walk_at "rd"
  exact hK _ rfl
 rintro ρ rfl
 refine aM (λρ=>True) (λK hK=>?_) ?_
 ·walk_at "rd"
  refine cX (λxs ρ=>∃(rest:List Pt) (x y w:Option S),(∀z∈rest,z∈zs)/\xs=rest.map pt/\ρ=[some (.d (pc sh' zs)),some (.d PD),some (.d LD),some (.d (.int s)),x,y,w]) ?_ ?_ _ _ ⟨zs,none,none,none,λz h=>h,rfl,rfl⟩
  ·rintro x xs ρ ⟨rest,u,v,w,sub,ex,rfl⟩ F hrt _ hn _
   cases rest with
   | nil=>cases ex
   | cons z rest =>
    cases ex
    obtain⟨v0,v1⟩:=hz z (sub z (by simp))
    obtain⟨z1,z2⟩:=hS' z (sub z (by simp))
    unfold iT
    walk_at "rd"
    have bv:BL 18010 (l.a*z.1+l.b*z.2-l.c*sh'):=(((bl.1.mul z1).add (bl.2.1.mul z2)).sub (bl.2.2.mul bs')).mono (by decide)
    refine⟨l,z.1,z.2,sh',by rw[hL],⟨bl.1.mono (by decide),bl.2.1.mono (by decide),bl.2.2.mono (by decide)⟩,⟨z1.mono (by decide),z2.mono (by decide),bs'.mono (by decide)⟩,?_⟩
    dsimp only
    refine⟨bv.mulOk b1,?_⟩
    rw[if_neg (by omega)]
    refine⟨sh,cs,z.1,z.2,sh',by rw[hP],⟨bs,hS,l1,l2⟩,⟨z1,z2,bs'⟩,λM ⟨a,b,hab,eM⟩ _=>?_⟩
    have mp:0<=M:=by rw[eM];exact v1 a b hab
    dsimp only
    rw[if_neg (by unfold sgI;rw[if_neg (by omega:¬M<0)];split <;> decide)]
    exact hn _ ⟨rest,some (.d (.int z.1)),some (.d (.int z.2)),some (.d (sp3 z.1 z.2 sh')),λy hy=>sub y (by simp[hy]),rfl,rfl⟩
  ·rintro ρ _;exact hK _ trivial
 rintro ρ _
 walk_at "rd"
 exact q
theorem yM {n:Nat}:BL (n+1) 0:=(BL.const (n:=1) (i:=0) (by decide)).mono (by omega)
theorem LW {n:Nat}:∀(l:List Pt) (a:Pt),(BL n a.1/\BL n a.2)->eS n l->BL (2*n+1+l.length) (pth crs a l)
 | [],a,_,_=>yM
 | b::l,a,ha,hl=>by
  obtain⟨b1,b2⟩:=hl b (by simp)
  have ih:=LW l b ⟨b1,b2⟩ λz hz=>hl z (by simp[hz])
  have c:BL (2*n+1) (crs a b):=((ha.1.mul b2).sub (ha.2.mul b1)).mono (by omega)
  refine (c.add ih).mono ?_
  rw[List.length_cons];omega
theorem UU {n:Nat} {zs:List Pt} (h:eS n zs):BL (2*n+1+zs.length) (cD crs zs):=by
 cases zs with
 | nil=>exact yM
 | cons z T =>
  have:=LW (T++[z]) z (h z (by simp)) λw hw=>h w (by simp at hw ⊢;rcases hw with k | k <;> simp[k])
  rw[List.length_append] at this
  exact this
inductive AreaD:D->Int->Int->Prop
 | non:AreaD .non 0 1
 | pc {sh:Int} {zs:List Pt} (h:BL 9000 sh/\eS 9000 zs/\1<=zs.length/\zs.length<=100):AreaD (pc sh zs) (cD crs zs) (sh*sh)
theorem AreaD.bl {d:D} {n m:Int} (h:AreaD d n m):BL 18200 n/\BL 18200 m:=by
 cases h with
 | non=>exact⟨yM,(BL.const (n:=1) (i:=1) (by decide)).mono (by decide)⟩
 | pc h=>exact⟨(UU h.2.1).mono (by omega),(h.1.mul h.1).mono (by decide)⟩
theorem AreaD.run {d:D} {n m:Int} (h:AreaD d n m) {Q:D->Prop} (q:Q (.tup [.int n,.int m])):oC [d] Q:=by
 cases h with
 | non=>exact Or.inl ⟨rfl,q⟩
 | pc h=>exact Or.inr ⟨_,_,rfl,h,q⟩
noncomputable def sJ:FD:=λds Q=>∃(d1 d2 d:D) (n1 m1 n2 m2 n m:Int),ds=[.tup [d1,d2],d]/\AreaD d1 n1 m1/\AreaD d2 n2 m2/\AreaD d n m/\(n1*m2+n2*m1)*m=n*m1*m2/\Q (.bl true)
theorem JX:∀ds Q,sJ ds Q->ds.length=2:=by rintro ds Q ⟨_,_,_,_,_,_,_,_,_,rfl,_⟩;rfl
theorem mI:∀ds Q,sJ ds Q->cY oC { nx:=λ_=>Q .non,rt:=Q } (aP ["_law_both","_law_piece","_law_one","_law_other","_law_due_here","_law_total"] ds):=by
 rintro ds Q ⟨d1,d2,d,n1,m1,n2,m2,n,m,rfl,a1,a2,a,e,q⟩
 obtain⟨b1,c1⟩:=a1.bl
 obtain⟨b2,c2⟩:=a2.bl
 obtain⟨b,c⟩:=a.bl
 rw[aV 4 rfl]
 unfold cY
 simp only[cL,OW,List.map_cons,List.map_nil,List.cons_append,List.nil_append]
 refine aM (λρ=>ρ=[some (.d (.tup [d1,d2])),some (.d d),some (.d (.tup [.int n1,.int m1])),none,none,none]) (λK hK=>?_) ?_
 ·walk_at "rd"
  exact a1.run (hK _ rfl)
 rintro ρ rfl
 refine aM (λρ=>ρ=[some (.d (.tup [d1,d2])),some (.d d),some (.d (.tup [.int n1,.int m1])),some (.d (.tup [.int n2,.int m2])),none,none]) (λK hK=>?_) ?_
 ·walk_at "rd"
  exact a2.run (hK _ rfl)
 rintro ρ rfl
 refine aM (λρ=>ρ=[some (.d (.tup [d1,d2])),some (.d d),some (.d (.tup [.int n1,.int m1])),some (.d (.tup [.int n2,.int m2])),some (.d (.tup [.int n,.int m])),none]) (λK hK=>?_) ?_
 ·walk_at "rd"
  exact a.run (hK _ rfl)
 rintro ρ rfl
 walk_at "rd"
 refine⟨b1.mulOk c2,b2.mulOk c1,((b1.mul c2).add (b2.mul c1)).mulOk c,b.mulOk c1,(b.mul c1).mulOk c2,?_⟩
 rw[e]
 simpa using q
noncomputable def lB:FD:=λds Q=>∃(d:D) (X Y W:Int),ds=[d,sp3 X Y W]/\(BL 9000 X/\BL 9000 Y/\BL 9000 W) /\
 ((d = .non/\Q (.bl false))\/∃(sh:Int) (zs:List Pt),d=pc sh zs/\(BL 9000 sh/\eS 9000 zs/\1<=zs.length/\zs.length<=100)/\(((∀a b,Cyc zs a b->0<sdd sh X Y W a b)/\Q (.bl true))\/((∃a b,Cyc zs a b/\sdd sh X Y W a b<0)/\Q (.bl false))))
theorem EU:∀ds Q,lB ds Q->ds.length=2:=by rintro ds Q ⟨_,_,_,_,rfl,_⟩;rfl
theorem rT:∀ds Q,lB ds Q->dL jC { nx:=λ_=>Q .non,rt:=Q } (aP ["_law_part_here","_law_spot"] ds):=by
 rintro ds Q ⟨d,X,Y,W,rfl,bb,⟨rfl,q⟩ | ⟨sh,zs,rfl,hb,h⟩⟩
 ·rw[aV 0 rfl]
  unfold dL
  walk_at "rd"
  exact q
 ·rw[aV 0 rfl]
  unfold dL
  walk_at "rd"
  refine⟨sh,zs,X,Y,W,rfl,hb,bb,λM ⟨a,b,hab,eM⟩ hM=>?_⟩
  dsimp only
  rcases h with ⟨h,q⟩ | ⟨⟨a',b',hab',h⟩,q⟩
  ·have:0<M:=by rw[eM];exact h a b hab
   have e:sgI M=1:=by unfold sgI;rw[if_pos this,if_neg (by omega)];rfl
   rw[e];exact q
  ·have:=hM a' b' hab'
   have e:sgI M = -1:=by unfold sgI;rw[if_neg (by omega),if_pos (by omega)];rfl
   rw[e];exact q
structure CutIn (l:Line) (sh:Int) (cs:List Pt):Prop where
 ip:IsPc sh cs
 bs:BL 2000 sh
 bl:l.BLn 2000
 hB:∀w∈cs,BL 2000 w.1/\BL 2000 w.2/\BL 2000 (exc l w sh)
 len:cs.length<60
 ab:l.a≠0\/l.b≠0
noncomputable def P2 (l:Line) (sh:Int) (cs:List Pt) (s:Int) (d:D):Prop:=d = .non\/∃(sh':Int) (zs:List Pt),d=pc sh' zs/\IsPc sh' zs/\(BL 9000 sh'/\eS 9000 zs/\zs.length<=100)/\∀z∈zs,0<=(l.a*z.1+l.b*z.2-l.c*sh')*s/\∀a b,Cyc cs a b->0<=sdd sh z.1 z.2 sh' a b
noncomputable def Ins (X Y W:Int) (d:D) (b:Bool):Prop:=∃(sh:Int) (zs:List Pt),d=pc sh zs/\(BL 9000 sh/\eS 9000 zs/\1<=zs.length/\zs.length<=100)/\(((∀a b,Cyc zs a b->0<sdd sh X Y W a b)/\b=true)\/((∃a b,Cyc zs a b/\sdd sh X Y W a b<0)/\b=false))
structure RightIn (l:Line) (sh:Int) (cs:List Pt) (d1 d2:D):Prop where
 p1:P2 l sh cs (-1) d1
 p2:P2 l sh cs 1 d2
 area:∃n1 m1 n2 m2,AreaD d1 n1 m1/\AreaD d2 n2 m2/\(n1*m2+n2*m1)*(sh*sh)=cD crs cs*m1*m2
 c1:(∀z∈cs,exc l z sh<=0)->d1=pc sh cs/\d2 = .non
 c2:(¬ ∀z∈cs,exc l z sh<=0)->(∀z∈cs,0<=exc l z sh)->d1 = .non/\d2=pc sh cs
 c3:(¬ ∀z∈cs,exc l z sh<=0)->(¬ ∀z∈cs,0<=exc l z sh)->∀X Y W,(∀a b,Cyc cs a b->0<sdd sh X Y W a b)->l.a*X+l.b*Y-l.c*W≠0->Ins X Y W d1 (decide (l.a*X+l.b*Y-l.c*W<0))/\Ins X Y W d2 (decide (0<l.a*X+l.b*Y-l.c*W))
theorem CutIn.small {l:Line} {sh:Int} {cs:List Pt} (h:CutIn l sh cs):BL 9000 sh/\eS 9000 cs/\1<=cs.length/\cs.length<=100 :=
 ⟨h.bs.mono (by decide),λz hz=>⟨(h.hB z hz).1.mono (by decide),(h.hB z hz).2.1.mono (by decide)⟩,by have:=h.ip.cvx.len;omega,by have:=h.len;omega⟩
theorem NW {cs:List Pt} {L:CLine} (c:Cvx cs) (hab:L.a≠0\/L.b≠0):¬ ∀z∈cs,cxc L z=0:=by
 intro h
 have h3:=c.len
 have on:∀i,onL L 1 (rg cs i):=λi=>by
  have:=h _ (jA (cs:=cs) (by omega) i)
  unfold cxc at this
  unfold onL
  omega
 have:=c.bend_rg 0
 rw[oX hab (on _) (on _) (on _)] at this
 omega
theorem pO {n:Nat} {m b:Int} (hm:0<m) (h:BL n (m*b)):BL n b:=h.le (fW hm)
theorem PartOf.small {L:CLine} {sh sh':Int} {cs zs:List Pt} (hB:∀w∈cs,BL 2000 w.1/\BL 2000 w.2/\BL 2000 (cxc L w)) (bs:BL 2000 sh) (c:Cvx cs) (hp:∃z∈cs,0<cxc L z) (hn:∃z∈cs,cxc L z<0) (h:PartOf L sh cs sh' zs):BL 9000 sh'/\eS 9000 zs:=by
 obtain⟨F,m,z,T,hF,fit,rot,least,cz,N,bF,hl⟩:=h
 obtain⟨P',rot',cut,_⟩:=lE c hp hn
 have rot':Rot (rF L cs) P':=rot'
 refine⟨pO N.mpos (by rw[<-N.sh_eq];exact (bs.mul bF).mono (by decide)),λx hx=>?_⟩
 have ec:z::T=zs.map (scl m):=N.cs_eq
 have m1:scl m x∈z::T:=by rw[ec];exact List.mem_map_of_mem hx
 obtain⟨t,ht,e⟩:=List.mem_map.mp ((rot.mem _).mpr m1)
 obtain⟨t1,t2,t3⟩:=UK hB (cut.pm t ((rot'.mem t).mp ht))
 have bq:BL 4003 (F / t.2.2):=by
  have:BL 4003 (F.fdiv t.2.2):=bF.fdiv
  rwa [Int.fdiv_eq_ediv_of_nonneg _ (by have:=(fit t ht).w;omega)] at this
 unfold scl gF at e
 simp only[Prod.mk.injEq] at e
 exact⟨pO N.mpos (by rw[<-e.1];exact (t1.mul bq).mono (by decide)),pO N.mpos (by rw[<-e.2];exact (t2.mul bq).mono (by decide))⟩
theorem xW (l:Line) (sh X Y W:Int):Exc (gL l sh) (sh*X,sh*Y,W)=sh*(l.a*X+l.b*Y-l.c*W):=by unfold Exc gL;dsimp only;grind
theorem FU (sh:Int) (a b z:Pt):sdd sh z.1 z.2 sh a b=sh*aH a b z:=by unfold sdd bI up3 aH;dsimp only;grind
theorem DN {l:Line} {sh:Int} {cs:List Pt} (h:CutIn l sh cs) {s:Int} (hs:∀z∈cs,0<=exc l z sh*s):P2 l sh cs s (pc sh cs) :=
 Or.inr ⟨sh,cs,rfl,h.ip,⟨h.small.1,h.small.2.1,h.small.2.2.2⟩,λz hz=>⟨hs z hz,λa b hab=>by
  rw[FU];exact Int.mul_nonneg (by have:=h.ip.pos;omega) (h.ip.cvx.side hab hz)⟩⟩
theorem HU {x:Int} (h:-x<=0):0<=x:=by omega
theorem OB {x:Int} (h:0<=-x):x<=0:=by omega
theorem OE {x:Int} (h:-x<0) (k:x<=0):False:=by omega
theorem OC {x:Int} (h:0 < -x) (k:0<=x):False:=by omega
theorem OZ {l:Line} {sh:Int} {cs:List Pt} (h:CutIn l sh cs) {d1 d2:D} (r1:PartR (gL l sh) sh cs d1) (r2:PartR (opL (gL l sh)) sh cs d2):RightIn l sh cs d1 d2:=by
 have c:=h.ip.cvx
 have h0:=h.ip.pos
 have nf:=NW (L:=gL l sh) c h.ab
 have opx:∀z,cxc (opL (gL l sh)) z = -exc l z sh:=λz=>jW z
 by_cases hw:∀z∈cs,exc l z sh<=0
 ·-- all on this side
  have e1:d1=pc sh cs:=by
   cases r1 with
   | whole _=>rfl
   | nothing _ n=>exact absurd hw n
   | part hp _ _=>obtain⟨z,hz,k⟩:=hp;exact absurd (hw z hz) (Int.not_le.mpr k)
  have e2:d2 = .non:=by
   cases r2 with
   | whole k=>exact absurd (λz hz=>Int.le_antisymm (hw z hz) (HU (opx z ▸ k z hz))) nf
   | nothing _ _=>rfl
   | part _ hn _=>obtain⟨z,hz,k⟩:=hn;exact (OE (opx z ▸ k) (hw z hz)).elim
  subst e1 e2
  refine⟨DN h λz hz=>by have:=hw z hz;omega,Or.inl rfl,⟨_,_,_,_,AreaD.pc h.small,AreaD.non,by grind⟩,λ_=>⟨rfl,rfl⟩,λn _=>absurd hw n,λn=>absurd hw n⟩
 by_cases hg:∀z∈cs,0<=exc l z sh
 ·have e1:d1 = .non:=by
   cases r1 with
   | whole k=>exact absurd k hw
   | nothing _ _=>rfl
   | part _ hn _=>obtain⟨z,hz,k⟩:=hn;exact absurd (hg z hz) (Int.not_le.mpr k)
  have e2:d2=pc sh cs:=by
   cases r2 with
   | whole _=>rfl
   | nothing _ n=>exact absurd (λz hz=>by rw[opx];exact Int.neg_nonpos_of_nonneg (hg z hz)) n
   | part hp _ _=>obtain⟨z,hz,k⟩:=hp;exact (OC (opx z ▸ k) (hg z hz)).elim
  subst e1 e2
  refine⟨Or.inl rfl,DN h λz hz=>by have:=hg z hz;omega,⟨_,_,_,_,AreaD.non,AreaD.pc h.small,by grind⟩,λk=>absurd k hw,λ_ _=>⟨rfl,rfl⟩,λ_ n=>absurd hg n⟩
 have hp:∃z∈cs,0<cxc (gL l sh) z:=Classical.byContradiction λk=>hw λz hz=>Int.not_lt.mp λh=>k ⟨z,hz,h⟩
 have hn:∃z∈cs,cxc (gL l sh) z<0:=Classical.byContradiction λk=>hg λz hz=>Int.not_lt.mp λh=>k ⟨z,hz,h⟩
 have hp':∃z∈cs,0<cxc (opL (gL l sh)) z:=by obtain⟨z,hz,k⟩:=hn;exact⟨z,hz,by rw[jW];exact Int.neg_pos_of_neg k⟩
 have hn':∃z∈cs,cxc (opL (gL l sh)) z<0:=by obtain⟨z,hz,k⟩:=hp;exact⟨z,hz,by rw[jW];exact Int.neg_neg_of_pos k⟩
 have q1:∃s1 z1,d1=pc s1 z1/\PartOf (gL l sh) sh cs s1 z1:=by
  cases r1 with
  | whole k=>exact absurd k hw
  | nothing k _=>exact absurd k hg
  | part _ _ k=>exact⟨_,_,rfl,k⟩
 have q2:∃s2 z2,d2=pc s2 z2/\PartOf (opL (gL l sh)) sh cs s2 z2:=by
  cases r2 with
  | whole k=>exact absurd (λz hz=>HU (opx z ▸ k z hz)) hg
  | nothing k _=>exact absurd (λz hz=>OB (opx z ▸ k z hz)) hw
  | part _ _ k=>exact⟨_,_,rfl,k⟩
 obtain⟨s1,z1,rfl,o1⟩:=q1
 obtain⟨s2,z2,rfl,o2⟩:=q2
 have f1:=o1.facts c hp hn h0
 have f2:=o2.facts c hp' hn' h0
 obtain⟨b1,S1⟩:=PartOf.small (L:=gL l sh) (λw hw=>h.hB w hw) h.bs c hp hn o1
 obtain⟨b2,S2⟩:=o2.small (λw hw=>by
  obtain⟨x,y,z⟩:=h.hB w hw
  exact⟨x,y,by rw[opx];exact z.neg⟩) h.bs c hp' hn'
 have len:=h.len
 have l1:=f1.len
 have l2:=f2.len
 have k1:=f1.cvx.len
 have k2:=f2.cvx.len
 refine⟨Or.inr ⟨s1,z1,rfl,f1.isPc,⟨b1,S1,by omega⟩,λz hz=>⟨?_,λa b hab=>f1.left c hz hab⟩⟩,Or.inr ⟨s2,z2,rfl,f2.isPc,⟨b2,S2,by omega⟩,λz hz=>⟨?_,λa b hab=>f2.left c hz hab⟩⟩,⟨_,_,_,_,AreaD.pc ⟨b1,S1,by omega,by omega⟩,AreaD.pc ⟨b2,S2,by omega,by omega⟩,FK c hp hn h0 f1 f2⟩,λk=>absurd k hw,λ_ k=>absurd k hg,λ_ _ X Y W hs hv=>?_⟩
 ·have:=f1.value hz
  rw[xW] at this
  have:l.a*z.1+l.b*z.2-l.c*s1<=0:=by
   apply Int.not_lt.mp
   intro k
   have:=Int.mul_pos h0 k
   omega
  omega
 ·have:=f2.value hz
  rw[LG,xW] at this
  have:0<=l.a*z.1+l.b*z.2-l.c*s2:=by
   apply Int.not_lt.mp
   intro k
   have:=Int.mul_neg_of_pos_of_neg h0 k
   omega
  omega
 ·have ev:=xW l sh X Y W
  have eo:Exc (opL (gL l sh)) (sh*X,sh*Y,W) = -(sh*(l.a*X+l.b*Y-l.c*W)):=by rw[LG,ev]
  rcases Int.lt_or_gt_of_ne hv with k | k
  ·have neg:=Int.mul_neg_of_pos_of_neg h0 k
   refine⟨⟨s1,z1,rfl,⟨b1,S1,by omega,by omega⟩,Or.inl ⟨f1.inside c hn hs (by rw[ev];exact neg),by simpa using k⟩⟩,⟨s2,z2,rfl,⟨b2,S2,by omega,by omega⟩,Or.inr ⟨f2.outside c hn' (by rw[eo];omega),?_⟩⟩⟩
   simp only[decide_eq_false_iff_not];omega
  ·have pp:=Int.mul_pos h0 k
   refine⟨⟨s1,z1,rfl,⟨b1,S1,by omega,by omega⟩,Or.inr ⟨f1.outside c hn (by rw[ev];exact pp),?_⟩⟩,⟨s2,z2,rfl,⟨b2,S2,by omega,by omega⟩,Or.inl ⟨f2.inside c hn' hs (by rw[eo];omega),by simpa using k⟩⟩⟩
   simp only[decide_eq_false_iff_not];omega
noncomputable def sH:FD:=λds Q=>∃(l:Line) (sh:Int) (cs:List Pt) (X Y W:Int) (d1 d2:D),ds=[.tup [d1,d2],pc sh cs,ln l,sp3 X Y W]/\CutIn l sh cs/\RightIn l sh cs d1 d2/\(BL 2000 X/\BL 2000 Y/\BL 2000 W)/\Q (.bl true)
theorem JT:∀ds Q,sH ds Q->ds.length=4:=by rintro ds Q ⟨_,_,_,_,_,_,_,_,rfl,_⟩;rfl
theorem Ins.run {X Y W:Int} {d:D} {b:Bool} (h:Ins X Y W d b) (hb:BL 9000 X/\BL 9000 Y/\BL 9000 W) {Q:D->Prop} (q:Q (.bl b)):lB [d,sp3 X Y W] Q:=by
 obtain⟨sh,zs,rfl,k,h⟩:=h
 refine⟨_,X,Y,W,rfl,hb,Or.inr ⟨sh,zs,rfl,k,?_⟩⟩
 rcases h with ⟨h,rfl⟩ | ⟨h,rfl⟩
 ·exact Or.inl ⟨h,q⟩
 ·exact Or.inr ⟨h,q⟩
theorem TX (sh:Int) (cs:List Pt):eqF 6 (pc sh cs) (pc sh cs)=some true:=VD 2 sh cs
theorem qL:∀ds Q,sH ds Q->eG lB jC sG oG sJ { nx:=λ_=>Q .non,rt:=Q } (aP ["_law_found","_law_piece","_law_line_here","_law_spot","_law_values","_law_value_here"] ds):=by
 rintro ds Q ⟨l,sh,cs,X,Y,W,d1,d2,rfl,ci,ri,⟨bX,bY,bW⟩,q⟩
 have bl9:l.BLn 9000:=⟨ci.bl.1.mono (by decide),ci.bl.2.1.mono (by decide),ci.bl.2.2.mono (by decide)⟩
 have bl20:l.BLn 20000:=⟨ci.bl.1.mono (by decide),ci.bl.2.1.mono (by decide),ci.bl.2.2.mono (by decide)⟩
 have bb:BL 9000 X/\BL 9000 Y/\BL 9000 W:=⟨bX.mono (by decide),bY.mono (by decide),bW.mono (by decide)⟩
 have cne:cs.map (λz=>exc l z sh)≠[]:=by
  have h3:=ci.ip.cvx.len
  intro e
  have:=List.map_eq_nil_iff.mp e
  rw[this] at h3;simp at h3
 rw[aV 2 rfl]
 unfold eG
 simp only[cL,OV,List.map_cons,List.map_nil,List.cons_append,List.nil_append]
 generalize hP:pc sh cs=PD
 generalize hL:ln l=LD
 generalize hT:sp3 X Y W=TD
 refine aM (λρ=>ρ=[some (.d (.tup [d1,d2])),some (.d PD),some (.d LD),some (.d TD),none,none]) (λK hK=>?_) ?_
 ·walk_at "rd"
  refine⟨d1,l,sh,cs,-1,by rw[hP,hL],bl9,ci.small,BL.const (by decide),ri.p1,?_⟩
  walk_at "rd"
  exact hK _ rfl
 rintro ρ rfl
 refine aM (λρ=>ρ=[some (.d (.tup [d1,d2])),some (.d PD),some (.d LD),some (.d TD),none,none]) (λK hK=>?_) ?_
 ·walk_at "rd"
  refine⟨d2,l,sh,cs,1,by rw[hP,hL],bl9,ci.small,BL.const (by decide),ri.p2,?_⟩
  walk_at "rd"
  obtain⟨n1,m1,n2,m2,a1,a2,e⟩:=ri.area
  refine⟨d1,d2,pc sh cs,n1,m1,n2,m2,_,_,by rw[hP],a1,a2,AreaD.pc ci.small,e,?_⟩
  walk_at "rd"
  exact hK _ rfl
 rintro ρ rfl
 refine aM (λρ=>ρ=[some (.d (.tup [d1,d2])),some (.d PD),some (.d LD),some (.d TD),some (.own ((cs.map λz=>exc l z sh).map D.int)),none]) (λK hK=>?_) ?_
 ·rw[<-hP] at hK ⊢
  simp only[iF,fH,riT,r2,aB,rC,iB,nM,yO,List.getElem?_cons_zero,List.getElem?_cons_succ,List.map_cons,List.map_nil,OV,List.cons_append,List.nil_append,S.val]
  refine⟨dG (by have:=ci.len;simp;omega),?_⟩
  refine dA (λρ=>∃a b,ρ=[a,b,some (.d LD),some (.d (pc sh cs))]) pt (λz=>D.int (exc l z sh)) cs ?_ ⟨none,none,rfl⟩ ?_
  ·rintro z hz ρ ⟨a,b,rfl⟩ K' hK'
   obtain⟨z1,z2,_⟩:=ci.hB z hz
   walk_at "rd"
   exact⟨l,z.1,z.2,sh,by rw[hL],bl20,⟨z1.mono (by decide),z2.mono (by decide),ci.bs.mono (by decide)⟩,hK' _ ⟨some (.d (.int z.1)),some (.d (.int z.2)),rfl⟩⟩
  ·refine hK _ ?_
   rw[List.map_map];rfl
 rintro ρ rfl
 by_cases hw:∀z∈cs,exc l z sh<=0
 ·obtain⟨e1,e2⟩:=ri.c1 hw
  refine aM (λρ=>False) (λK hK=>?_) (λρ h=>h.elim)
  walk_at "rd"
  refine⟨_,rfl,cne,λM m1 m2=>?_⟩
  obtain⟨z,hz,rfl⟩:=List.mem_map.mp m1
  dsimp only
  rw[if_pos (hw z hz),e1,e2,<-hP]
  simp only[xD,if_true,TX]
  exact q
 refine aM (λρ=>ρ=[some (.d (.tup [d1,d2])),some (.d PD),some (.d LD),some (.d TD),some (.own ((cs.map λz=>exc l z sh).map D.int)),none]) (λK hK=>?_) ?_
 ·walk_at "rd"
  refine⟨_,rfl,cne,λM m1 m2=>?_⟩
  dsimp only
  rw[if_neg (λh=>hw λz hz=>Int.le_trans (m2 _ (List.mem_map_of_mem hz)) h)]
  exact hK _ rfl
 rintro ρ rfl
 by_cases hg:∀z∈cs,0<=exc l z sh
 ·obtain⟨e1,e2⟩:=ri.c2 hw hg
  refine aM (λρ=>False) (λK hK=>?_) (λρ h=>h.elim)
  walk_at "rd"
  refine⟨_,rfl,cne,λM m1 m2=>?_⟩
  obtain⟨z,hz,rfl⟩:=List.mem_map.mp m1
  dsimp only
  rw[if_pos (hg z hz),e1,e2,<-hP]
  simp only[xD,if_true,TX]
  exact q
 refine aM (λρ=>ρ=[some (.d (.tup [d1,d2])),some (.d PD),some (.d LD),some (.d TD),some (.own ((cs.map λz=>exc l z sh).map D.int)),none]) (λK hK=>?_) ?_
 ·walk_at "rd"
  refine⟨_,rfl,cne,λM m1 m2=>?_⟩
  dsimp only
  rw[if_neg (λh=>hg λz hz=>Int.le_trans h (m2 _ (List.mem_map_of_mem hz)))]
  exact hK _ rfl
 rintro ρ rfl
 obtain⟨v,hv⟩:∃v,v=l.a*X+l.b*Y-l.c*W:=⟨_,rfl⟩
 refine aM (λρ=>ρ=[some (.d (.tup [d1,d2])),some (.d PD),some (.d LD),some (.d TD),some (.own ((cs.map λz=>exc l z sh).map D.int)),some (.d (.int v))]) (λK hK=>?_) ?_
 ·walk_at "rd"
  refine⟨l,X,Y,W,by rw[hL,hT],bl20,⟨bX.mono (by decide),bY.mono (by decide),bW.mono (by decide)⟩,?_⟩
  rw[<-hv]
  exact hK _ rfl
 rintro ρ rfl
 have c3:=ri.c3 hw hg X Y W
 rw[<-hv] at c3
 refine aM (λρ=>((∀a b,Cyc cs a b->0<sdd sh X Y W a b)/\v≠0)/\ρ=[some (.d (.tup [d1,d2])),some (.d PD),some (.d LD),some (.d TD),some (.own ((cs.map λz=>exc l z sh).map D.int)),some (.d (.int v))]) (λK hK=>?_) ?_
 ·walk_at "rd"
  refine⟨sh,cs,X,Y,W,by rw[hP,hT],ci.small,bb,λM _ hM=>?_⟩
  dsimp only
  by_cases h1:0<M
  ·have e:sgI M=1:=by unfold sgI;rw[if_pos h1,if_neg (by omega)];rfl
   rw[e,if_neg (by decide)]
   by_cases h2:v=0
   ·rw[if_pos h2];exact q
   ·rw[if_neg h2]
    exact hK _ ⟨⟨λa b hab=>Int.lt_of_lt_of_le h1 (hM a b hab),h2⟩,rfl⟩
  ·have e:sgI M<1:=by unfold sgI;rw[if_neg h1];split <;> decide
   rw[if_pos e];exact q
 rintro ρ ⟨⟨hs,hv0⟩,rfl⟩
 obtain⟨i1,i2⟩:=c3 hs hv0
 refine aM (λρ=>ρ=[some (.d (.tup [d1,d2])),some (.d PD),some (.d LD),some (.d TD),some (.own ((cs.map λz=>exc l z sh).map D.int)),some (.d (.int v))]) (λK hK=>?_) ?_
 ·walk_at "rd"
  rw[<-hT] at hK ⊢
  refine i1.run bb ?_
  dsimp only
  simp only[decide_true,Bool.not_true,Bool.false_eq_true,if_false]
  exact hK _ rfl
 rintro ρ rfl
 walk_at "rd"
 rw[<-hT]
 refine i2.run bb ?_
 dsimp only
 simp only[decide_true]
 exact q
noncomputable def iM:FD:=λds Q=>∃(l:Line) (sh:Int) (cs:List Pt),ds=[pc sh cs,ln l]/\CutIn l sh cs/\∀d1 d2,RightIn l sh cs d1 d2->Q (.tup [d1,d2])
theorem QY:∀ds Q,iM ds Q->ds.length=2:=by rintro ds Q ⟨_,_,_,rfl,_⟩;rfl
theorem OO:∀ds Q,iM ds Q->AA xZ { nx:=λ_=>Q .non,rt:=Q } (aP ["piece","line","opposite"] ds):=by
 rintro ds Q ⟨l,sh,cs,rfl,ci,q⟩
 have b10:l.BLn 10000:=⟨ci.bl.1.mono (by decide),ci.bl.2.1.mono (by decide),ci.bl.2.2.mono (by decide)⟩
 rw[aV 1 rfl]
 unfold AA
 simp only[cL,OU,List.map_cons,List.map_nil,List.cons_append,List.nil_append]
 obtain⟨lo,hlo⟩:∃lo:Line,lo=⟨-l.a,-l.b,-l.c⟩:=⟨_,rfl⟩
 refine aM (λρ=>ρ=[some (.d (pc sh cs)),some (.d (ln l)),some (.d (ln lo))]) (λK hK=>?_) ?_
 ·walk_at "rd"
  rw[hlo] at hK
  exact hK _ rfl
 rintro ρ rfl
 have eo:gL lo sh=opL (gL l sh):=by
  rw[hlo];show (⟨-l.a,-l.b,-l.c*sh⟩:CLine)=⟨-l.a,-l.b,-(l.c*sh)⟩
  rw[Int.neg_mul]
 have ex:∀w,exc lo w sh = -exc l w sh:=λw=>by rw[hlo];unfold exc;dsimp only;grind
 have bo:lo.BLn 10000:=by rw[hlo];exact⟨b10.1.neg,b10.2.1.neg,b10.2.2.neg⟩
 generalize hP:pc sh cs=PD
 generalize hL:ln l=LD
 generalize hO:ln lo=OD
 walk_at "rd"
 refine⟨l,sh,cs,by rw[hP,hL],⟨ci.ip.pos,ci.bs,b10⟩,ci.hB,⟨ci.ip.cvx,ci.len⟩,λd1 r1=>?_⟩
 refine⟨lo,sh,cs,by rw[hP,hO],⟨ci.ip.pos,ci.bs,bo⟩,λw hw=>?_,⟨ci.ip.cvx,ci.len⟩,λd2 r2=>?_⟩
 ·obtain⟨x,y,z⟩:=ci.hB w hw
  exact⟨x,y,by rw[ex];exact z.neg⟩
 ·rw[eo] at r2
  exact q d1 d2 (OZ ci r1 r2)
theorem NC {x:D} (h:x∈[D.int 10,D.int 1000000000000000000000000000000]):∃f:Int,x = .int f/\0<=f/\BL 200 f:=by
 simp only[List.mem_cons,List.not_mem_nil,or_false] at h
 rcases h with rfl | rfl
 ·exact⟨_,rfl,by decide,BL.const (by decide)⟩
 ·exact⟨_,rfl,by decide,BL.const (by decide)⟩
theorem JC {xs:List D} {l u:Option Int} {x:D} (h:x∈jU xs l u):x∈xs:=by
 unfold jU at h
 exact List.mem_of_mem_drop (List.mem_of_mem_take h)
theorem DueOf.isPc {share:Int} {cs:List Pt} {m sh:Int} {zs:List Pt} {j:Nat} (h:DueOf share cs m sh zs j) (hs:0<share) (c:Cvx cs):IsPc sh (turned j zs):=by
 refine⟨h.sh_pos hs,h.cvx c,?_,h.norm.cop⟩
 obtain⟨w,T,e,least⟩:=h.first
 have ec:w::T=(turned j zs).map (scl m):=by rw[<-e];exact h.norm.cs_eq
 generalize turned j zs=ts at *
 cases ts with
 | nil=>simp at ec
 | cons z' T' =>
  simp only[List.map_cons,List.cons.injEq] at ec
  refine⟨z',T',rfl,λq hq hlt=>?_⟩
  refine least (scl m q) (by rw[ec.2];exact List.mem_map_of_mem hq) ?_
  rw[ec.1];exact (FT h.mpos).mpr hlt
theorem UZ {xs:List Int} (h:Drawn 9 xs):∃a b c d e f g k l,xs=[a,b,c,d,e,f,g,k,l]:=by
 have hl:=h.len
 match xs,hl with
 | [a,b,c,d,e,f,g,k,l],_=>exact⟨a,b,c,d,e,f,g,k,l,rfl⟩
theorem XT {x:D} (h:x∈[D.int 1,.int 1,.int 1,.int 1,.int (-1),.int (-2),.int (-3),.int 2,.int 3,.int (-1)]):∃f:Int,x = .int f/\f≠0/\BL 2 f:=by
 simp only[List.mem_cons,List.not_mem_nil,or_false] at h
 rcases h with rfl | rfl | rfl | rfl | rfl | rfl | rfl | rfl | rfl | rfl <;> exact⟨_,rfl,by decide,BL.const (by decide)⟩
theorem OP:∀ds Q,IN 63 ds Q->kL oB GF xY sQ lX sH yA sI iM { nx:=λ_=>Q .non,rt:=Q } (aP ["_law_script","_law_head","_law_ring_here","_law_share_here","_law_piece","_law_cell","_law_line_here","_law_by","_law_spot"] ds):=by
 rintro ds Q ⟨ns,rfl,hn,q⟩
 rw[aV 8 rfl]
 unfold kL
 simp only[cL,WZ,List.map_cons,List.map_nil,List.cons_append,List.nil_append]
 refine aM (λρ=>∃a b c d e f g k l:Int,ρ=[some (.d (il ns)),some (.d (.lst [.int a,.int b,.int c,.int d,.int e,.int f,.int g,.int k,.int l])),none,none,none,none,none,none,none]) (λK hK=>?_) ?_
 ·walk_at "rd"
  refine⟨ns,9,rfl,⟨by omega,by decide,by decide⟩,λxs hx=>?_⟩
  obtain⟨a,b,c,d,e,f,g,k,l,rfl⟩:=UZ hx
  exact hK _ ⟨a,b,c,d,e,f,g,k,l,rfl⟩
 rintro ρ ⟨a,b,c,d,e,f,g,k,h8,rfl⟩
 generalize hH:D.lst [.int a,.int b,.int c,.int d,.int e,.int f,.int g,.int k,.int h8]=HD
 refine aM (λρ=>∃cs:List Pt,Cvx cs/\eS 210 cs/\(3<=cs.length/\cs.length<=24)/\ρ=[some (.d (il ns)),some (.d HD),some (.d (pts cs)),none,none,none,none,none,none]) (λK hK=>?_) ?_
 ·rw[<-hH] at hK ⊢
  walk_at "rd"
  walk_at "sides"
  obtain⟨a0,a1⟩:=bA (a:=k) (b:=2) (by decide)
  refine oN a0 (by simpa using a1) λx hx=>?_
  obtain⟨far,rfl,f0,f1⟩:=NC hx
  exact⟨_,_,_,_,_,_,_,_,far,rfl,⟨f0,f1⟩,λlows highs top p q r s ox oy R=>hK _ ⟨_,FR R,R.small,R.len,rfl⟩⟩
 rintro ρ ⟨cs,cv,csS,csL,rfl⟩
 refine aM (λρ=>∃share:Int,(0<share/\BL 100 share)/\ρ=[some (.d (il ns)),some (.d HD),some (.d (pts cs)),some (.d (.int share)),none,none,none,none,none]) (λK hK=>?_) ?_
 ·rw[<-hH] at hK ⊢
  walk_at "rd"
  walk_at "sides"
  exact⟨_,rfl,λshare s0 s1=>hK _ ⟨share,⟨by omega,PM s0 s1⟩,rfl⟩⟩
 rintro ρ ⟨share,⟨hs,bs⟩,rfl⟩
 refine aM (λρ=>∃m sh zs j,DueOf share cs m sh zs j/\ρ=[some (.d (il ns)),some (.d HD),some (.d (pts cs)),some (.d (.int share)),some (.d (pc sh (turned j zs))),none,none,none,none]) (λK hK=>?_) ?_
 ·walk_at "rd"
  exact⟨share,cs,rfl,⟨hs,bs⟩,⟨by intro e;rw[e] at csL;simp at csL,by omega⟩,λm sh zs j hd=>hK _ ⟨m,sh,zs,j,hd,rfl⟩⟩
 rintro ρ ⟨m,sh,zs,j,hd,rfl⟩
 have ip:=hd.isPc hs cv
 have shb:=hd.sh_bl bs
 have zsS:=hd.small csS
 have tsS:eS 210 (turned j zs):=λw hw=>zsS w (GC hw)
 have tl:(turned j zs).length<60:=by
  have:=GB (Nat.le_of_lt hd.j_lt)
  have:=hd.len
  omega
 generalize turned j zs=ts at *
 have csS3:eS 300 cs:=λw hw=>⟨(csS w hw).1.mono (by decide),(csS w hw).2.mono (by decide)⟩
 have small24:∀x:Int,BL 100 (x.fmod 1000000000000000000000000):=λx=>by
  obtain⟨a0,a1⟩:=bA (a:=x) (b:=1000000000000000000000000) (by decide)
  have e:(1000000000000000000000000:Int)<((2 ^ 100:Nat):Int):=by decide
  exact BL.of_lt (m:=100) (by omega) (by omega)
 refine aM (λρ=>∃o1 o2 o3 o4,ρ=[some (.d (il ns)),some (.d HD),some (.d (pts cs)),some (.d (.int share)),some (.d (pc sh ts)),o1,o2,o3,o4]) (λK hK=>?_) ?_
 ·rw[<-hH] at hK ⊢
  walk_at "rd"
  refine⟨dG (by unfold jU;simp;omega),?_⟩
  have all:∀x∈jU (List.map D.int ns) none (some 4)++[D.int h8],∃c:Int,x = .int c:=λx hx=>by
   rcases List.mem_append.mp hx with h | h
   ·obtain⟨c,_,rfl⟩:=List.mem_map.mp (JC h)
    exact⟨c,rfl⟩
   ·exact⟨h8,List.mem_singleton.mp h⟩
  refine cX (λxs ρ=>(∀x∈xs,∃c:Int,x = .int c)/\∃o1 o2 o3 o4,ρ=[some (.d (il ns)),some (.d (D.lst [.int a,.int b,.int c,.int d,.int e,.int f,.int g,.int k,.int h8])),some (.d (pts cs)),some (.d (.int share)),some (.d (pc sh ts)),o1,o2,o3,o4]) ?_ ?_ _ _ ⟨all,none,none,none,none,rfl⟩
  ·rintro x xs ρ ⟨hx,o1,o2,o3,o4,rfl⟩ F hrt _ hnx _
   obtain⟨cell0,rfl⟩:=hx x List.mem_cons_self
   have hx':∀x∈xs,∃c:Int,x = .int c:=λx h=>hx x (List.mem_cons_of_mem _ h)
   generalize hHD:D.lst [.int a,.int b,.int c,.int d,.int e,.int f,.int g,.int k,.int h8]=HD' at *
   unfold mV
   simp only[aZ,List.set_cons_zero,List.set_cons_succ]
   refine aM (λρ=>∃cell:Int,(0<=cell/\BL 100 cell)/\ρ=[some (.d (il ns)),some (.d HD'),some (.d (pts cs)),some (.d (.int share)),some (.d (pc sh ts)),some (.d (.int cell)),o2,o3,o4]) (λK' hK'=>?_) ?_
   ·walk_at "rd"
    walk_at "sides"
    obtain⟨a0,a1⟩:=bA (a:=cell0) (b:=1000000000000000000000000) (by decide)
    exact hK' _ ⟨_,⟨a0,small24 cell0⟩,rfl⟩
   rintro ρ ⟨cell,⟨c0,bc⟩,rfl⟩
   refine aM (λρ=>∃l:Line,((l.a≠0\/l.b≠0)/\l.BLn 802)/\ρ=[some (.d (il ns)),some (.d HD'),some (.d (pts cs)),some (.d (.int share)),some (.d (pc sh ts)),some (.d (.int cell)),some (.d (ln l)),o3,o4]) (λK' hK'=>?_) ?_
   ·walk_at "rd"
    refine⟨cs,share,cell,rfl,bc.mono (by decide),⟨csS3,by omega,by omega⟩,⟨by omega,bs⟩,λx y w bx by' bw w1=>?_⟩
    walk_at "rd"
    refine⟨bc.mulOk bc,?_⟩
    walk_at "sides"
    refine⟨cs,share,_,rfl,(small24 _).mono (by decide),⟨csS3,by omega,by omega⟩,⟨by omega,bs⟩,λx' y' w' bx' by2 bw' w1'=>?_⟩
    exact⟨x,y,w,x',y',w',rfl,⟨bx,by',bw⟩,⟨bx',by2,bw'⟩,by omega,λl hab hb=>hK' _ ⟨l,⟨hab,hb⟩,rfl⟩⟩
   rintro ρ ⟨l0,⟨hab0,bl0⟩,rfl⟩
   refine aM (λρ=>∃v:Int,(v≠0/\BL 2 v)/\ρ=[some (.d (il ns)),some (.d HD'),some (.d (pts cs)),some (.d (.int share)),some (.d (pc sh ts)),some (.d (.int cell)),some (.d (ln l0)),some (.d (.int v)),o4]) (λK' hK'=>?_) ?_
   ·walk_at "rd"
    refine⟨dG (by decide),?_⟩
    walk_at "sides"
    obtain⟨a0,a1⟩:=bA (a:=cell) (b:=10) (by decide)
    refine oN a0 (by simpa using a1) λx hx=>?_
    obtain⟨v,rfl,v0,bv⟩:=XT hx
    exact hK' _ ⟨v,⟨v0,bv⟩,rfl⟩
   rintro ρ ⟨v,⟨v0,bv⟩,rfl⟩
   obtain⟨l,el⟩:∃l:Line,l=⟨l0.a*v,l0.b*v,l0.c*v⟩:=⟨_,rfl⟩
   have bl:l.BLn 804:=by rw[el];exact⟨bl0.1.mul bv,bl0.2.1.mul bv,bl0.2.2.mul bv⟩
   have hab:l.a≠0\/l.b≠0:=by
    rw[el]
    rcases hab0 with h | h
    ·exact Or.inl (Int.mul_ne_zero h v0)
    ·exact Or.inr (Int.mul_ne_zero h v0)
   have ci:CutIn l sh ts:=⟨ip,shb.mono (by decide),⟨bl.1.mono (by decide),bl.2.1.mono (by decide),bl.2.2.mono (by decide)⟩,λw hw=>by
    obtain⟨w1,w2⟩:=tsS w hw
    exact⟨w1.mono (by decide),w2.mono (by decide),(((bl.1.mul w1).add (bl.2.1.mul w2)).sub (bl.2.2.mul shb)).mono (by decide)⟩,tl,hab⟩
   refine aM (λρ=>ρ=[some (.d (il ns)),some (.d HD'),some (.d (pts cs)),some (.d (.int share)),some (.d (pc sh ts)),some (.d (.int cell)),some (.d (ln l)),some (.d (.int v)),o4]) (λK' hK'=>?_) ?_
   ·walk_at "rd"
    rw[el] at hK'
    exact⟨bl0.1.mulOk bv,bl0.2.1.mulOk bv,bl0.2.2.mulOk bv,hK' _ rfl⟩
   rintro ρ rfl
   refine aM (λρ=>∃x y w:Int,SpotOk x y w/\ρ=[some (.d (il ns)),some (.d HD'),some (.d (pts cs)),some (.d (.int share)),some (.d (pc sh ts)),some (.d (.int cell)),some (.d (ln l)),some (.d (.int v)),some (.d (sp3 x y w))]) (λK' hK'=>?_) ?_
   ·rw[<-hHD] at hK' ⊢
    walk_at "rd"
    walk_at "sides"
    refine⟨cs,_,rfl,?_,⟨csS3,by omega,by omega⟩,λx y w ok=>hK' _ ⟨x,y,w,ok,rfl⟩⟩
    obtain⟨a0,a1⟩:=bA (a:=h8) (b:=1000000000000) (by decide)
    obtain⟨b0,b1⟩:0<=cell.fdiv 13/\cell.fdiv 13<=cell:=by
     rw[Int.fdiv_eq_ediv_of_nonneg _ (by decide)]
     exact⟨Int.ediv_nonneg c0 (by decide),Int.ediv_le_self _ c0⟩
    have b3:BL 100 (h8.fmod 1000000000000):=BL.of_lt (by omega) (Int.lt_trans a1 (by decide))
    exact ((bc.fdiv (j:=13)).add b3).mono (by decide)
   rintro ρ ⟨x,y,w,ok,rfl⟩
   have bw:BL 20 w:=gG ⟨by have:=ok.w1;omega,ok.w2⟩
   generalize hP:pc sh ts=PD at *
   generalize hL:ln l=LD at *
   walk_at "rd"
   refine⟨l,sh,ts,by rw[hP,hL],ci,λd1 d2 ri=>?_⟩
   walk_at "rd"
   refine⟨bw.mulOk bs,l,sh,ts,x,y,w*share,d1,d2,by rw[hP,hL],ci,ri,⟨ok.x.mono (by decide),ok.y.mono (by decide),(bw.mul bs).mono (by decide)⟩,?_⟩
   walk_at "rd"
   exact hnx _ ⟨hx',_,_,_,_,rfl⟩
  ·rintro ρ ⟨_,o1,o2,o3,o4,rfl⟩
   rw[hH]
   exact hK _ ⟨o1,o2,o3,o4,by rw[hH]⟩
 rintro ρ ⟨o1,o2,o3,o4,rfl⟩
 walk_at "rd"
 exact q
namespace K14
noncomputable def top (i:Nat):Stmt:=PySem.Challenge.pw_recut_k14_a_piece_cut.main.body.getD i (.Pass ⟨0,0,0,0⟩)
noncomputable abbrev s__law_digit:Stmt:=top 14
noncomputable abbrev s__law_mean:Stmt:=top 22
noncomputable abbrev s__law_drawn:Stmt:=top 29
noncomputable abbrev s__law_divisor:Stmt:=top 17
noncomputable abbrev s__law_due:Stmt:=top 21
noncomputable abbrev s__law_line:Stmt:=top 23
noncomputable abbrev s__law_numbers:Stmt:=top 16
noncomputable abbrev s__law_lies:Stmt:=top 24
noncomputable abbrev s__law_inside:Stmt:=top 33
noncomputable abbrev s__law_whole:Stmt:=top 15
noncomputable abbrev s__law_numbers_whole:Stmt:=top 27
noncomputable abbrev s__law_turn:Stmt:=top 26
noncomputable abbrev s__law_is_piece:Stmt:=top 28
noncomputable abbrev s__law_value:Stmt:=top 30
noncomputable abbrev s__law_part:Stmt:=top 31
noncomputable abbrev s__law_area:Stmt:=top 25
noncomputable abbrev s__law_whole_area:Stmt:=top 32
noncomputable abbrev s__law_right:Stmt:=top 34
noncomputable abbrev s__law_rises:Stmt:=top 18
noncomputable abbrev s__law_ring:Stmt:=top 19
noncomputable abbrev s__law_share:Stmt:=top 20
noncomputable abbrev s_excess:Stmt:=top 8
noncomputable abbrev s_crossing:Stmt:=top 9
noncomputable abbrev s_neighbours:Stmt:=top 3
noncomputable abbrev s_points_within:Stmt:=top 10
noncomputable abbrev s_turn:Stmt:=top 4
noncomputable abbrev s_half_round:Stmt:=top 5
noncomputable abbrev s_outline:Stmt:=top 6
noncomputable abbrev s_shared_divisor:Stmt:=top 1
noncomputable abbrev s_settled:Stmt:=top 7
noncomputable abbrev s_part_within:Stmt:=top 11
noncomputable abbrev s_cut:Stmt:=top 12
noncomputable abbrev s_law:Stmt:=top 35
section
variable {P:Program} {w:World} {K:PySem.W.Frag} {mg:Str->Option Value} {base:Heap}
theorem mY:FnScope ["_law_number","_law_base","_law_place","_law_k"] ["_law_number","_law_base","_law_place"] (aE s__law_digit):=⟨rfl,rfl,rfl,by decide +kernel,rfl,by decide +kernel,by decide +kernel⟩
theorem vA {f:Addr} {cdv:Value} {A:Around} {outer:List Env} {s:Shared} {H:Hp} {E:XK} (m_range:mg "range" = none) (hr:Room 0 (A.deeper (envOfC "_law_digit" (aE s__law_digit) s.heap.objs.size f cdv))) :
  DSs (cR CX0 P w K mg base ["_law_number","_law_base","_law_place","_law_k"] "_law_digit" (aE s__law_digit) f cdv A outer s H E).nox (aL s__law_digit) (fY) :=
 have nd:=mY.nd
 aF (eK PassesOwn.never rfl (eU m_range (aC (dv 2) (aJ))) (aY nd) (aK (aQ nd (aG bS (dvb 0) (dvb 1)))))
 (aK (aX (aG bR (dvb 0) (dvb 1))))
theorem vR (Z:DefAt K mg "_law_digit" s__law_digit ["_law_number","_law_base","_law_place"]) (m_range:mg "range" = none) {F:FD} (len:∀ds Q,F ds Q->ds.length=3) (pure:∀ds Q,F ds Q->fY { nx:=λ_=>Q .non,rt:=Q } (aP ["_law_number","_law_base","_law_place","_law_k"] ds)):FnAt P w K mg base "_law_digit" ["_law_number","_law_base","_law_place"] 1 F :=
 Z.ok mY (λcdv A outer s H E hr=>vA m_range hr) len pure
theorem pF:FnScope ["_law_ring_here","_law_cell","_law_weights","_law_k","_law_x","_law_y"] ["_law_ring_here","_law_cell"] (aE s__law_mean):=⟨rfl,rfl,rfl,by decide +kernel,rfl,by decide +kernel,by decide +kernel⟩
theorem kP:List.Nodup (["_law_weight","_law_corner"]:List Str):=by decide +kernel
theorem kQ:List.Nodup (["_law_weight","_law_corner"]:List Str):=by decide +kernel
theorem yH {f:Addr} {cdv:Value} {A:Around} {outer:List Env} {s:Shared} {H:Hp} {E:XK} {Bg:FD} (Cf:FnAt P w K mg base "_law_digit" ["_law_number","_law_base","_law_place"] 1 Bg) (m_sum:mg "sum" = none) (m_zip:mg "zip" = none) (m_len:mg "len" = none) (m_max:mg "max" = none) (m_range:mg "range" = none) (hr:Room 1 (A.deeper (envOfC "_law_mean" (aE s__law_mean) s.heap.objs.size f cdv))) :
  DSs (cR CX0 P w K mg base ["_law_ring_here","_law_cell","_law_weights","_law_k","_law_x","_law_y"] "_law_mean" (aE s__law_mean) f cdv A outer s H E).nox (aL s__law_mean) (gW Bg) :=
 have nd:=pF.nd
 aF (aQ nd (aG bM (DE.bor (aG aT (dvb 1) (DE.bor (aA)))) (DE.bor (aG aT (DE.bor (aA)) (DE.bor (aG lP (DE.bor (aA)) (DE.bor (aA))))))))
 (aF (sM nd (lH (aJ)))
 (aF (eK PassesOwn.never rfl (eU m_range (aC (dX m_len (dvb 0)) (aJ))) (aY nd) (aK (jI 2 (dI (yQ rfl) m_max pR (aC (aG bH (DE.bor (aO Cf (hr.mono (by decide)) (aC (dv 1) (aC (aA) (aC (dv 3) (aJ)))))) (DE.bor (aA))) (aC (jH fS (DE.bor (aA))) (aJ)))))))
 (aF (BD 2 (dI (yQ rfl) m_max pR (aC (aA) (aC (aG bM (DE.bor (aG bH (DE.bor (aA)) (DE.bor (yT m_sum rfl (dvb 2))))) (DE.bor (aI (dvb 2) (DE.bor (aG bR (dvb 1) (DE.bor (dX m_len (dvb 0)))))))) (aJ)))) (aG bR (dvb 1) (DE.bor (dX m_len (dvb 0)))))
 (aF (tK 2 (aQ nd (yT m_sum rfl (DE.bor (DO.val (jZ ["_law_weight","_law_corner"] 2 [] (MX m_zip (dv 2) (dv 0)) (λcl C s H fp=>fJ rfl (bG (aY kQ) (bG (aY kQ) (dP)))) (λcl C s H fp=>aG aT (dvb 0) (DE.bor (aI (dvb 1) (DE.bor (aA)))))))))))
 (aF (tK 2 (aQ nd (yT m_sum rfl (DE.bor (DO.val (jZ ["_law_weight","_law_corner"] 2 [] (MX m_zip (dv 2) (dv 0)) (λcl C s H fp=>fJ rfl (bG (aY kP) (bG (aY kP) (dP)))) (λcl C s H fp=>aG aT (dvb 0) (DE.bor (aI (dvb 1) (DE.bor (aA)))))))))))
 (aK (aX (cI (aC (dv 4) (aC (dv 5) (aC (yT m_sum rfl (dvb 2)) (aJ))))))))))))
theorem zQ (Z:DefAt K mg "_law_mean" s__law_mean ["_law_ring_here","_law_cell"]) {Bg:FD} (Cf:FnAt P w K mg base "_law_digit" ["_law_number","_law_base","_law_place"] 1 Bg) (m_sum:mg "sum" = none) (m_zip:mg "zip" = none) (m_len:mg "len" = none) (m_max:mg "max" = none) (m_range:mg "range" = none) {F:FD} (len:∀ds Q,F ds Q->ds.length=2) (pure:∀ds Q,F ds Q->gW Bg { nx:=λ_=>Q .non,rt:=Q } (aP ["_law_ring_here","_law_cell","_law_weights","_law_k","_law_x","_law_y"] ds)):FnAt P w K mg base "_law_mean" ["_law_ring_here","_law_cell"] 2 F :=
 Z.ok pF (λcdv A outer s H E hr=>yH Cf m_sum m_zip m_len m_max m_range hr) len pure
theorem mZ:FnScope ["_law_ring_here","_law_share_here","_law_cell","_law_corner","_law_spot"] ["_law_ring_here","_law_share_here","_law_cell"] (aE s__law_drawn):=⟨rfl,rfl,rfl,by decide +kernel,rfl,by decide +kernel,by decide +kernel⟩
theorem vB {f:Addr} {cdv:Value} {A:Around} {outer:List Env} {s:Shared} {H:Hp} {E:XK} {Av:FD} (Bj:FnAt P w K mg base "_law_mean" ["_law_ring_here","_law_cell"] 2 Av) (m_len:mg "len" = none) (hr:Room 2 (A.deeper (envOfC "_law_drawn" (aE s__law_drawn) s.heap.objs.size f cdv))) :
  DSs (cR CX0 P w K mg base ["_law_ring_here","_law_share_here","_law_cell","_law_corner","_law_spot"] "_law_drawn" (aE s__law_drawn) f cdv A outer s H E).nox (aL s__law_drawn) (eE Av) :=
 have nd:=mZ.nd
 aF (cU (bO kG (DE.bor (aG bR (dvb 2) (DE.bor (aA)))) (DE.bor (aA))) (aF (aQ nd (aI (dvb 0) (DE.bor (aG bR (DE.bor (aG bS (dvb 2) (DE.bor (aA)))) (DE.bor (dX m_len (dvb 0)))))))
 (aK (aX (cI (aC (aI (dvb 3) (DE.bor (aA))) (aC (aI (dvb 3) (DE.bor (aA))) (aC (dv 1) (aJ)))))))) (bK))
 (aF (aQ nd (aO Bj (hr.mono (by decide)) (aC (dv 0) (aC (aG bS (dvb 2) (DE.bor (aA))) (aJ)))))
 (aK (aX (cI (aC (aI (dvb 4) (DE.bor (aA))) (aC (aI (dvb 4) (DE.bor (aA))) (aC (aG aT (DE.bor (aI (dvb 4) (DE.bor (aA)))) (dvb 1)) (aJ))))))))
theorem vS (Z:DefAt K mg "_law_drawn" s__law_drawn ["_law_ring_here","_law_share_here","_law_cell"]) {Av:FD} (Bj:FnAt P w K mg base "_law_mean" ["_law_ring_here","_law_cell"] 2 Av) (m_len:mg "len" = none) {F:FD} (len:∀ds Q,F ds Q->ds.length=3) (pure:∀ds Q,F ds Q->eE Av { nx:=λ_=>Q .non,rt:=Q } (aP ["_law_ring_here","_law_share_here","_law_cell","_law_corner","_law_spot"] ds)):FnAt P w K mg base "_law_drawn" ["_law_ring_here","_law_share_here","_law_cell"] 3 F :=
 Z.ok mZ (λcdv A outer s H E hr=>vB Bj m_len hr) len pure
theorem kW:FnScope ["_law_one","_law_other"] ["_law_one","_law_other"] (aE s__law_divisor):=⟨rfl,rfl,rfl,by decide +kernel,rfl,by decide +kernel,by decide +kernel⟩
theorem rH {f:Addr} {cdv:Value} {A:Around} {outer:List Env} {s:Shared} {H:Hp} {E:XK} (m_abs:mg "abs" = none) (hr:Room 0 (A.deeper (envOfC "_law_divisor" (aE s__law_divisor) s.heap.objs.size f cdv))) :
  DSs (cR CX0 P w K mg base ["_law_one","_law_other"] "_law_divisor" (aE s__law_divisor) f cdv A outer s H E).nox (aL s__law_divisor) (eD) :=
 have nd:=kW.nd
 aF (aQ nd (dI pS m_abs gY (aC (dv 0) (aJ))))
 (aF (aQ nd (dI pS m_abs gY (aC (dv 1) (aJ))))
 (aF (tL PassesOwn.never (bO CI (dvb 1) (DE.bor (aA))) (aK (VA rfl nd (aC (dv 1) (aC (aG bR (dvb 0) (dvb 1)) (aJ))))))
 (aK (aX (dv 0)))))
theorem rP (Z:DefAt K mg "_law_divisor" s__law_divisor ["_law_one","_law_other"]) (m_abs:mg "abs" = none) {F:FD} (len:∀ds Q,F ds Q->ds.length=2) (pure:∀ds Q,F ds Q->eD { nx:=λ_=>Q .non,rt:=Q } (aP ["_law_one","_law_other"] ds)):FnAt P w K mg base "_law_divisor" ["_law_one","_law_other"] 1 F :=
 Z.ok kW (λcdv A outer s H E hr=>rH m_abs hr) len pure
theorem rD:FnScope ["_law_share_here","_law_ring_here","_law_most","_law_x","_law_y","_law_corners","_law_at"] ["_law_share_here","_law_ring_here"] (aE s__law_due):=⟨rfl,rfl,rfl,by decide +kernel,rfl,by decide +kernel,by decide +kernel⟩
theorem lN:List.Nodup (["_law_x","_law_y","_law_most"]:List Str):=by decide +kernel
theorem AJ {f:Addr} {cdv:Value} {A:Around} {outer:List Env} {s:Shared} {H:Hp} {E:XK} {As:FD} (Aw:FnAt P w K mg base "_law_divisor" ["_law_one","_law_other"] 1 As) (m_tuple:mg "tuple" = none) (m_min:mg "min" = none) (hr:Room 1 (A.deeper (envOfC "_law_due" (aE s__law_due) s.heap.objs.size f cdv))) :
  DSs (cR CX0 P w K mg base ["_law_share_here","_law_ring_here","_law_most","_law_x","_law_y","_law_corners","_law_at"] "_law_due" (aE s__law_due) f cdv A outer s H E).nox (aL s__law_due) (iR As) :=
 have nd:=rD.nd
 aF (aQ nd (dv 0))
 (aF (eK PassesOwn.never rfl (eB (dv 1)) (fJ rfl (bG (aY nd) (bG (aY nd) (dP)))) (aK (aQ nd (aO Aw (hr.mono (by decide)) (aC (aO Aw (hr.mono (by decide)) (aC (dv 2) (aC (dv 3) (aJ)))) (aC (dv 4) (aJ)))))))
 (aF (oP ["_law_x","_law_y","_law_most"] 2 [2] nd (eB (dv 1)) (λcl C s H fp=>fJ rfl (bG (aY lN) (bG (aY lN) (dP)))) (λcl C s H fp=>cI (aC (aG bS (dvb 0) (dvb 2)) (aC (aG bS (dvb 1) (dvb 2)) (aJ)))))
 (aF (aQ nd (MV hr (dvb 5) (GW hr m_min rfl (dvb 5))))
 (aK (aX (cI (aC (aG bS (dvb 0) (dvb 2)) (aC (BA m_tuple (DE.bor (aG mD (DE.bor (lG (dvb 5) (lZ (dv 6)) (lY))) (DE.bor (lG (dvb 5) (lY) (lZ (dv 6))))))) (aJ)))))))))
theorem CK (Z:DefAt K mg "_law_due" s__law_due ["_law_share_here","_law_ring_here"]) {As:FD} (Aw:FnAt P w K mg base "_law_divisor" ["_law_one","_law_other"] 1 As) (m_tuple:mg "tuple" = none) (m_min:mg "min" = none) {F:FD} (len:∀ds Q,F ds Q->ds.length=2) (pure:∀ds Q,F ds Q->iR As { nx:=λ_=>Q .non,rt:=Q } (aP ["_law_share_here","_law_ring_here","_law_most","_law_x","_law_y","_law_corners","_law_at"] ds)):FnAt P w K mg base "_law_due" ["_law_share_here","_law_ring_here"] 2 F :=
 Z.ok rD (λcdv A outer s H E hr=>AJ Aw m_tuple m_min hr) len pure
theorem pE:FnScope ["_law_one","_law_other","_law_a","_law_b"] ["_law_one","_law_other"] (aE s__law_line):=⟨rfl,rfl,rfl,by decide +kernel,rfl,by decide +kernel,by decide +kernel⟩
theorem yG {f:Addr} {cdv:Value} {A:Around} {outer:List Env} {s:Shared} {H:Hp} {E:XK} (hr:Room 0 (A.deeper (envOfC "_law_line" (aE s__law_line) s.heap.objs.size f cdv))) :
  DSs (cR CX0 P w K mg base ["_law_one","_law_other","_law_a","_law_b"] "_law_line" (aE s__law_line) f cdv A outer s H E).nox (aL s__law_line) (gU) :=
 have nd:=pE.nd
 aF (aQ nd (aG bH (DE.bor (aG aT (DE.bor (aI (dvb 0) (DE.bor (aA)))) (DE.bor (aI (dvb 1) (DE.bor (aA)))))) (DE.bor (aG aT (DE.bor (aI (dvb 1) (DE.bor (aA)))) (DE.bor (aI (dvb 0) (DE.bor (aA))))))))
 (aF (aQ nd (aG bH (DE.bor (aG aT (DE.bor (aI (dvb 1) (DE.bor (aA)))) (DE.bor (aI (dvb 0) (DE.bor (aA)))))) (DE.bor (aG aT (DE.bor (aI (dvb 0) (DE.bor (aA)))) (DE.bor (aI (dvb 1) (DE.bor (aA))))))))
 (aF (cU (DW.tst (EM (bO kG (dvb 2) (DE.bor (aA))) (yW (bO kG (dvb 3) (DE.bor (aA)))))) (aK (aX (cI (aC (aA) (aC (aA) (aC (aG bS (DE.bor (aI (dvb 0) (DE.bor (aA)))) (DE.bor (aI (dvb 0) (DE.bor (aA))))) (aJ))))))) (bK))
 (aK (aX (cI (aC (dv 2) (aC (dv 3) (aC (aG bH (DE.bor (aG aT (DE.bor (aI (dvb 0) (DE.bor (aA)))) (DE.bor (aI (dvb 1) (DE.bor (aA)))))) (DE.bor (aG aT (DE.bor (aI (dvb 0) (DE.bor (aA)))) (DE.bor (aI (dvb 1) (DE.bor (aA))))))) (aJ)))))))))
theorem zP (Z:DefAt K mg "_law_line" s__law_line ["_law_one","_law_other"]) {F:FD} (len:∀ds Q,F ds Q->ds.length=2) (pure:∀ds Q,F ds Q->gU { nx:=λ_=>Q .non,rt:=Q } (aP ["_law_one","_law_other","_law_a","_law_b"] ds)):FnAt P w K mg base "_law_line" ["_law_one","_law_other"] 1 F :=
 Z.ok pE (λcdv A outer s H E hr=>yG hr) len pure
theorem kX:FnScope ["_law_script","_law_many","_law_found","_law_k","_law_cell","_law_at"] ["_law_script","_law_many"] (aE s__law_numbers):=⟨rfl,rfl,rfl,by decide +kernel,rfl,by decide +kernel,by decide +kernel⟩
theorem nS:List.Nodup (["_law_k"]:List Str):=by decide +kernel
theorem rJ {f:Addr} {cdv:Value} {A:Around} {outer:List Env} {s:Shared} {H:Hp} {E:XK} (m_len:mg "len" = none) (m_min:mg "min" = none) (m_max:mg "max" = none) (m_range:mg "range" = none) (hr:Room 0 (A.deeper (envOfC "_law_numbers" (aE s__law_numbers) s.heap.objs.size f cdv))) :
  DSs (cR CX0 P w K mg base ["_law_script","_law_many","_law_found","_law_k","_law_cell","_law_at"] "_law_numbers" (aE s__law_numbers) f cdv A outer s H E).nox (aL s__law_numbers) (eF) :=
 have nd:=kX.nd
 aF (oP ["_law_k"] 1 [] nd (eU m_range (aC (dv 1) (aJ))) (λcl C s H fp=>aY nS) (λcl C s H fp=>aA))
 (aF (eK PassesOwn.never rfl (eU m_range (aC (dI (yQ rfl) m_max pR (aC (dv 1) (aC (dI (GO rfl) m_min wR (aC (dX m_len (dvb 0)) (aC (aA) (aJ)))) (aJ)))) (aJ))) (aY nd) (aF (aQ nd (aA))
 (aF (cU (bO CI (DE.bor (dX m_len (dvb 0))) (DE.bor (aA))) (aK (aQ nd (aG bR (DE.bor (aI (dvb 0) (DE.bor (aG bR (dvb 3) (DE.bor (dI (GO rfl) m_min wR (aC (dX m_len (dvb 0)) (aC (aA) (aJ))))))))) (DE.bor (aG bM (DE.bor (aG lP (DE.bor (aA)) (DE.bor (aA)))) (DE.bor (aA))))))) (bK))
 (aF (aQ nd (aG bR (dvb 3) (dvb 1)))
 (aK (BD 2 (aG bR (DE.bor (aG bM (DE.bor (aG bM (DE.bor (aG aT (DE.bor (aI (dvb 2) (dvb 5))) (DE.bor (aA)))) (dvb 4))) (DE.bor (aG aT (dvb 3) (dvb 3))))) (DE.bor (aG bM (DE.bor (aG lP (DE.bor (aA)) (DE.bor (aA)))) (DE.bor (aA))))) (dv 5)))))))
 (aK (tK 2 (aX (dv 2)))))
theorem rQ (Z:DefAt K mg "_law_numbers" s__law_numbers ["_law_script","_law_many"]) (m_len:mg "len" = none) (m_min:mg "min" = none) (m_max:mg "max" = none) (m_range:mg "range" = none) {F:FD} (len:∀ds Q,F ds Q->ds.length=2) (pure:∀ds Q,F ds Q->eF { nx:=λ_=>Q .non,rt:=Q } (aP ["_law_script","_law_many","_law_found","_law_k","_law_cell","_law_at"] ds)):FnAt P w K mg base "_law_numbers" ["_law_script","_law_many"] 1 F :=
 Z.ok kX (λcdv A outer s H E hr=>rJ m_len m_min m_max m_range hr) len pure
theorem pD:FnScope ["_law_piece","_law_spot","_law_share_here","_law_corners","_law_least","_law_k","_law_one","_law_x","_law_y","_law_side"] ["_law_piece","_law_spot"] (aE s__law_lies):=⟨rfl,rfl,rfl,by decide +kernel,rfl,by decide +kernel,by decide +kernel⟩
theorem yF {f:Addr} {cdv:Value} {A:Around} {outer:List Env} {s:Shared} {H:Hp} {E:XK} (m_int:mg "int" = none) (m_len:mg "len" = none) (m_range:mg "range" = none) (hr:Room 0 (A.deeper (envOfC "_law_lies" (aE s__law_lies) s.heap.objs.size f cdv))) :
  DSs (cR CX0 P w K mg base ["_law_piece","_law_spot","_law_share_here","_law_corners","_law_least","_law_k","_law_one","_law_x","_law_y","_law_side"] "_law_lies" (aE s__law_lies) f cdv A outer s H E).nox (aL s__law_lies) (fC) :=
 have nd:=pD.nd
 aF (MZ (dv 0) (fJ rfl (bG (aY nd) (bG (aY nd) (dP)))))
 (aF (aQ nd (jY))
 (aF (eK PassesOwn.never rfl (eU m_range (aC (dX m_len (dvb 3)) (aJ))) (aY nd) (aF (aQ nd (aI (dvb 3) (DE.bor (aG bH (dvb 5) (DE.bor (aA))))))
 (aF (aQ nd (aG bH (DE.bor (aG aT (DE.bor (aI (dvb 1) (DE.bor (aA)))) (dvb 2))) (DE.bor (aG aT (DE.bor (aI (dvb 6) (DE.bor (aA)))) (DE.bor (aI (dvb 1) (DE.bor (aA))))))))
 (aF (aQ nd (aG bH (DE.bor (aG aT (DE.bor (aI (dvb 1) (DE.bor (aA)))) (dvb 2))) (DE.bor (aG aT (DE.bor (aI (dvb 6) (DE.bor (aA)))) (DE.bor (aI (dvb 1) (DE.bor (aA))))))))
 (aF (aQ nd (aG bH (DE.bor (aG aT (DE.bor (aG bH (DE.bor (aI (DE.bor (aI (dvb 3) (dvb 5))) (DE.bor (aA)))) (DE.bor (aI (dvb 6) (DE.bor (aA)))))) (dvb 8))) (DE.bor (aG aT (DE.bor (aG bH (DE.bor (aI (DE.bor (aI (dvb 3) (dvb 5))) (DE.bor (aA)))) (DE.bor (aI (dvb 6) (DE.bor (aA)))))) (dvb 7)))))
 (aK (cU (DW.tst (kO (bO uB (dvb 4) (DE.bor (jY))) (kA (bO mS (dvb 9) (dvb 4))))) (aK (aQ nd (dv 9))) (bK))))))))
 (aK (aX (aG bH (DE.bor (wZ MC m_int pQ (aC (eJ CI (dvb 4) (DE.bor (aA))) (aJ)))) (DE.bor (wZ MC m_int pQ (aC (eJ mS (dvb 4) (DE.bor (aA))) (aJ)))))))))
theorem zO (Z:DefAt K mg "_law_lies" s__law_lies ["_law_piece","_law_spot"]) (m_int:mg "int" = none) (m_len:mg "len" = none) (m_range:mg "range" = none) {F:FD} (len:∀ds Q,F ds Q->ds.length=2) (pure:∀ds Q,F ds Q->fC { nx:=λ_=>Q .non,rt:=Q } (aP ["_law_piece","_law_spot","_law_share_here","_law_corners","_law_least","_law_k","_law_one","_law_x","_law_y","_law_side"] ds)):FnAt P w K mg base "_law_lies" ["_law_piece","_law_spot"] 1 F :=
 Z.ok pD (λcdv A outer s H E hr=>yF m_int m_len m_range hr) len pure
theorem lU:FnScope ["_law_part_here","_law_spot"] ["_law_part_here","_law_spot"] (aE s__law_inside):=⟨rfl,rfl,rfl,by decide +kernel,rfl,by decide +kernel,by decide +kernel⟩
theorem sT {f:Addr} {cdv:Value} {A:Around} {outer:List Env} {s:Shared} {H:Hp} {E:XK} {At:FD} (Ay:FnAt P w K mg base "_law_lies" ["_law_piece","_law_spot"] 1 At) (hr:Room 1 (A.deeper (envOfC "_law_inside" (aE s__law_inside) s.heap.objs.size f cdv))) :
  DSs (cR CX0 P w K mg base ["_law_part_here","_law_spot"] "_law_inside" (aE s__law_inside) f cdv A outer s H E).nox (aL s__law_inside) (dL At) :=
 have nd:=lU.nd
 aK (aX (pU (eJ RL (dvb 0) (DE.bor (jY))) (tI (eJ kG (DE.bor (aO Ay (hr.mono (by decide)) (aC (dv 0) (aC (dv 1) (aJ))))) (DE.bor (aA))))))
theorem uE (Z:DefAt K mg "_law_inside" s__law_inside ["_law_part_here","_law_spot"]) {At:FD} (Ay:FnAt P w K mg base "_law_lies" ["_law_piece","_law_spot"] 1 At) {F:FD} (len:∀ds Q,F ds Q->ds.length=2) (pure:∀ds Q,F ds Q->dL At { nx:=λ_=>Q .non,rt:=Q } (aP ["_law_part_here","_law_spot"] ds)):FnAt P w K mg base "_law_inside" ["_law_part_here","_law_spot"] 2 F :=
 Z.ok lU (λcdv A outer s H E hr=>sT Ay hr) len pure
theorem nF:FnScope ["_law_found"] ["_law_found"] (aE s__law_whole):=⟨rfl,rfl,rfl,by decide +kernel,rfl,by decide +kernel,by decide +kernel⟩
theorem vG {f:Addr} {cdv:Value} {A:Around} {outer:List Env} {s:Shared} {H:Hp} {E:XK} (m_isinstance:mg "isinstance" = none) (m_bool:mg "bool" = none) (m_int:mg "int" = none) (hr:Room 0 (A.deeper (envOfC "_law_whole" (aE s__law_whole) s.heap.objs.size f cdv))) :
  DSs (cR CX0 P w K mg base ["_law_found"] "_law_whole" (aE s__law_whole) f cdv A outer s H E).nox (aL s__law_whole) (gB) :=
 have nd:=nF.nd
 aK (aX (pU (pV (SY _) m_isinstance m_int pQ (dv 0)) (tI (UX (pV (PU _) m_isinstance m_bool EE (dv 0))))))
theorem vX (Z:DefAt K mg "_law_whole" s__law_whole ["_law_found"]) (m_isinstance:mg "isinstance" = none) (m_bool:mg "bool" = none) (m_int:mg "int" = none) {F:FD} (len:∀ds Q,F ds Q->ds.length=1) (pure:∀ds Q,F ds Q->gB { nx:=λ_=>Q .non,rt:=Q } (aP ["_law_found"] ds)):FnAt P w K mg base "_law_whole" ["_law_found"] 1 F :=
 Z.ok nF (λcdv A outer s H E hr=>vG m_isinstance m_bool m_int hr) len pure
theorem fI:FnScope ["_law_piece","_law_corner"] ["_law_piece"] (aE s__law_numbers_whole):=⟨rfl,rfl,rfl,by decide +kernel,rfl,by decide +kernel,by decide +kernel⟩
theorem kY {f:Addr} {cdv:Value} {A:Around} {outer:List Env} {s:Shared} {H:Hp} {E:XK} {Bb:FD} (Br:FnAt P w K mg base "_law_whole" ["_law_found"] 1 Bb) (m_len:mg "len" = none) (m_isinstance:mg "isinstance" = none) (m_tuple:mg "tuple" = none) (hr:Room 1 (A.deeper (envOfC "_law_numbers_whole" (aE s__law_numbers_whole) s.heap.objs.size f cdv))) :
  DSs (cR CX0 P w K mg base ["_law_piece","_law_corner"] "_law_numbers_whole" (aE s__law_numbers_whole) f cdv A outer s H E).nox (aL s__law_numbers_whole) (cM Bb) :=
 have nd:=fI.nd
 aF (cU (DW.tst (kO (fK (fL (pV (mG _) m_isinstance m_tuple iO (dv 0)))) (kO (bO uC (DE.bor (dX m_len (dvb 0))) (DE.bor (aA))) (kO (fK (fL (aO Br (hr.mono (by decide)) (aC (aI (dvb 0) (DE.bor (aA))) (aJ))))) (kA (bO mS (DE.bor (aI (dvb 0) (DE.bor (aA)))) (DE.bor (aA)))))))) (aK (aX (gI))) (bK))
 (aF (cU (DW.tst (kO (fK (fL (pV (mG _) m_isinstance m_tuple iO (aI (dvb 0) (DE.bor (aA)))))) (kA (bO mS (DE.bor (dX m_len (DE.bor (aI (dvb 0) (DE.bor (aA)))))) (DE.bor (aA)))))) (aK (aX (gI))) (bK))
 (aF (eK PassesOwn.never rfl (yU (aI (dvb 0) (DE.bor (aA)))) (aY nd) (aF (cU (DW.tst (kO (fK (fL (pV (mG _) m_isinstance m_tuple iO (dv 1)))) (kA (bO uC (DE.bor (dX m_len (dvb 1))) (DE.bor (aA)))))) (aK (aX (gI))) (bK))
 (aK (cU (DW.tst (kO (fK (fL (aO Br (hr.mono (by decide)) (aC (aI (dvb 1) (DE.bor (aA))) (aJ))))) (kA (fK (fL (aO Br (hr.mono (by decide)) (aC (aI (dvb 1) (DE.bor (aA))) (aJ)))))))) (aK (aX (gI))) (bK)))))
 (aK (aX (gI)))))
theorem kZ (Z:DefAt K mg "_law_numbers_whole" s__law_numbers_whole ["_law_piece"]) {Bb:FD} (Br:FnAt P w K mg base "_law_whole" ["_law_found"] 1 Bb) (m_len:mg "len" = none) (m_isinstance:mg "isinstance" = none) (m_tuple:mg "tuple" = none) {F:FD} (len:∀ds Q,F ds Q->ds.length=1) (pure:∀ds Q,F ds Q->cM Bb { nx:=λ_=>Q .non,rt:=Q } (aP ["_law_piece","_law_corner"] ds)):FnAt P w K mg base "_law_numbers_whole" ["_law_piece"] 2 F :=
 Z.ok fI (λcdv A outer s H E hr=>kY Br m_len m_isinstance m_tuple hr) len pure
theorem pI:FnScope ["_law_one","_law_two","_law_three","_law_ahead"] ["_law_one","_law_two","_law_three"] (aE s__law_turn):=⟨rfl,rfl,rfl,by decide +kernel,rfl,by decide +kernel,by decide +kernel⟩
theorem yK {f:Addr} {cdv:Value} {A:Around} {outer:List Env} {s:Shared} {H:Hp} {E:XK} (hr:Room 0 (A.deeper (envOfC "_law_turn" (aE s__law_turn) s.heap.objs.size f cdv))) :
  DSs (cR CX0 P w K mg base ["_law_one","_law_two","_law_three","_law_ahead"] "_law_turn" (aE s__law_turn) f cdv A outer s H E).nox (aL s__law_turn) (gX) :=
 have nd:=pI.nd
 aF (aQ nd (aG aT (DE.bor (aG bH (DE.bor (aI (dvb 1) (DE.bor (aA)))) (DE.bor (aI (dvb 0) (DE.bor (aA)))))) (DE.bor (aG bH (DE.bor (aI (dvb 2) (DE.bor (aA)))) (DE.bor (aI (dvb 1) (DE.bor (aA))))))))
 (aK (aX (aG bH (dvb 3) (DE.bor (aG aT (DE.bor (aG bH (DE.bor (aI (dvb 1) (DE.bor (aA)))) (DE.bor (aI (dvb 0) (DE.bor (aA)))))) (DE.bor (aG bH (DE.bor (aI (dvb 2) (DE.bor (aA)))) (DE.bor (aI (dvb 1) (DE.bor (aA)))))))))))
theorem zU (Z:DefAt K mg "_law_turn" s__law_turn ["_law_one","_law_two","_law_three"]) {F:FD} (len:∀ds Q,F ds Q->ds.length=3) (pure:∀ds Q,F ds Q->gX { nx:=λ_=>Q .non,rt:=Q } (aP ["_law_one","_law_two","_law_three","_law_ahead"] ds)):FnAt P w K mg base "_law_turn" ["_law_one","_law_two","_law_three"] 1 F :=
 Z.ok pI (λcdv A outer s H E hr=>yK hr) len pure
theorem jQ:FnScope ["_law_piece","_law_share_here","_law_corners","_law_most","_law_falls","_law_k"] ["_law_piece"] (aE s__law_is_piece):=⟨rfl,rfl,rfl,by decide +kernel,rfl,by decide +kernel,by decide +kernel⟩
theorem pM {f:Addr} {cdv:Value} {A:Around} {outer:List Env} {s:Shared} {H:Hp} {E:XK} {As:FD} (Aw:FnAt P w K mg base "_law_divisor" ["_law_one","_law_other"] 1 As) {Ax:FD} (Bc:FnAt P w K mg base "_law_numbers_whole" ["_law_piece"] 2 Ax) {Bp:FD} (Cl:FnAt P w K mg base "_law_turn" ["_law_one","_law_two","_law_three"] 1 Bp) (m_min:mg "min" = none) (m_len:mg "len" = none) (m_range:mg "range" = none) (hr:Room 2 (A.deeper (envOfC "_law_is_piece" (aE s__law_is_piece) s.heap.objs.size f cdv))) :
  DSs (cR CX0 P w K mg base ["_law_piece","_law_share_here","_law_corners","_law_most","_law_falls","_law_k"] "_law_is_piece" (aE s__law_is_piece) f cdv A outer s H E).nox (aL s__law_is_piece) (dQ As Ax Bp) :=
 have nd:=jQ.nd
 aF (cU (fK (fL (aO Bc (hr.mono (by decide)) (aC (dv 0) (aJ))))) (aK (aX (gI))) (bK))
 (aF (MZ (dv 0) (fJ rfl (bG (aY nd) (bG (aY nd) (dP)))))
 (aF (aQ nd (dv 1))
 (aF (aQ nd (aA))
 (aF (eK PassesOwn.never rfl (eU m_range (aC (dX m_len (dvb 2)) (aJ))) (aY nd) (aF (aQ nd (aO Aw (hr.mono (by decide)) (aC (aO Aw (hr.mono (by decide)) (aC (dv 3) (aC (aI (DE.bor (aI (dvb 2) (dvb 5))) (DE.bor (aA))) (aJ)))) (aC (aI (DE.bor (aI (dvb 2) (dvb 5))) (DE.bor (aA))) (aJ)))))
 (aF (cU (bO CJ (DE.bor (aO Cl (hr.mono (by decide)) (aC (aI (dvb 2) (DE.bor (aG bH (dvb 5) (DE.bor (aA))))) (aC (aI (dvb 2) (DE.bor (aG bH (dvb 5) (DE.bor (aA))))) (aC (aI (dvb 2) (dvb 5)) (aJ)))))) (DE.bor (aA))) (aK (aX (gI))) (bK))
 (aK (cU (DW.tst (EM (bO (NZ hr) (DE.bor (aI (dvb 2) (DE.bor (aG bH (dvb 5) (DE.bor (aA)))))) (DE.bor (aI (dvb 2) (DE.bor (aG bH (dvb 5) (DE.bor (aA))))))) (yW (bO (NZ hr) (DE.bor (aI (dvb 2) (DE.bor (aG bH (dvb 5) (DE.bor (aA)))))) (DE.bor (aI (dvb 2) (dvb 5))))))) (aK (aQ nd (aG bM (dvb 4) (DE.bor (aA))))) (bK))))))
 (aK (aX (pU (eJ kG (dvb 3) (DE.bor (aA))) (pU (eJ kG (dvb 4) (DE.bor (aA))) (tI (eJ (NY hr) (DE.bor (aI (dvb 2) (DE.bor (aA)))) (DE.bor (GW hr m_min rfl (dvb 2)))))))))))))
theorem qG (Z:DefAt K mg "_law_is_piece" s__law_is_piece ["_law_piece"]) {As:FD} (Aw:FnAt P w K mg base "_law_divisor" ["_law_one","_law_other"] 1 As) {Ax:FD} (Bc:FnAt P w K mg base "_law_numbers_whole" ["_law_piece"] 2 Ax) {Bp:FD} (Cl:FnAt P w K mg base "_law_turn" ["_law_one","_law_two","_law_three"] 1 Bp) (m_min:mg "min" = none) (m_len:mg "len" = none) (m_range:mg "range" = none) {F:FD} (len:∀ds Q,F ds Q->ds.length=1) (pure:∀ds Q,F ds Q->dQ As Ax Bp { nx:=λ_=>Q .non,rt:=Q } (aP ["_law_piece","_law_share_here","_law_corners","_law_most","_law_falls","_law_k"] ds)):FnAt P w K mg base "_law_is_piece" ["_law_piece"] 3 F :=
 Z.ok jQ (λcdv A outer s H E hr=>pM Aw Bc Cl m_min m_len m_range hr) len pure
theorem nE:FnScope ["_law_line_here","_law_spot"] ["_law_line_here","_law_spot"] (aE s__law_value):=⟨rfl,rfl,rfl,by decide +kernel,rfl,by decide +kernel,by decide +kernel⟩
theorem vF {f:Addr} {cdv:Value} {A:Around} {outer:List Env} {s:Shared} {H:Hp} {E:XK} (hr:Room 0 (A.deeper (envOfC "_law_value" (aE s__law_value) s.heap.objs.size f cdv))) :
  DSs (cR CX0 P w K mg base ["_law_line_here","_law_spot"] "_law_value" (aE s__law_value) f cdv A outer s H E).nox (aL s__law_value) (gA) :=
 have nd:=nE.nd
 aK (aX (aG bH (DE.bor (aG bM (DE.bor (aG aT (DE.bor (aI (dvb 0) (DE.bor (aA)))) (DE.bor (aI (dvb 1) (DE.bor (aA)))))) (DE.bor (aG aT (DE.bor (aI (dvb 0) (DE.bor (aA)))) (DE.bor (aI (dvb 1) (DE.bor (aA)))))))) (DE.bor (aG aT (DE.bor (aI (dvb 0) (DE.bor (aA)))) (DE.bor (aI (dvb 1) (DE.bor (aA))))))))
theorem vW (Z:DefAt K mg "_law_value" s__law_value ["_law_line_here","_law_spot"]) {F:FD} (len:∀ds Q,F ds Q->ds.length=2) (pure:∀ds Q,F ds Q->gA { nx:=λ_=>Q .non,rt:=Q } (aP ["_law_line_here","_law_spot"] ds)):FnAt P w K mg base "_law_value" ["_law_line_here","_law_spot"] 1 F :=
 Z.ok nE (λcdv A outer s H E hr=>vF hr) len pure
theorem pG:FnScope ["_law_part_here","_law_piece","_law_line_here","_law_sign","_law_x","_law_y","_law_corner"] ["_law_part_here","_law_piece","_law_line_here","_law_sign"] (aE s__law_part):=⟨rfl,rfl,rfl,by decide +kernel,rfl,by decide +kernel,by decide +kernel⟩
theorem yI {f:Addr} {cdv:Value} {A:Around} {outer:List Env} {s:Shared} {H:Hp} {E:XK} {Be:FD} (Bq:FnAt P w K mg base "_law_is_piece" ["_law_piece"] 3 Be) {At:FD} (Ay:FnAt P w K mg base "_law_lies" ["_law_piece","_law_spot"] 1 At) {Au:FD} (Ba:FnAt P w K mg base "_law_value" ["_law_line_here","_law_spot"] 1 Au) (hr:Room 3 (A.deeper (envOfC "_law_part" (aE s__law_part) s.heap.objs.size f cdv))) :
  DSs (cR CX0 P w K mg base ["_law_part_here","_law_piece","_law_line_here","_law_sign","_law_x","_law_y","_law_corner"] "_law_part" (aE s__law_part) f cdv A outer s H E).nox (aL s__law_part) (fD Be At Au) :=
 have nd:=pG.nd
 aF (cU (bO uB (dvb 0) (DE.bor (jY))) (aK (aX (gI))) (bK))
 (aF (cU (fK (fL (aO Bq (hr.mono (by decide)) (aC (dv 0) (aJ))))) (aK (aX (gI))) (bK))
 (aF (eK PassesOwn.never rfl (yU (aI (dvb 0) (DE.bor (aA)))) (fJ rfl (bG (aY nd) (bG (aY nd) (dP)))) (aF (aQ nd (cI (aC (dv 4) (aC (dv 5) (aC (aI (dvb 0) (DE.bor (aA))) (aJ))))))
 (aK (cU (DW.tst (kO (bO mS (DE.bor (aG aT (DE.bor (aO Ba (hr.mono (by decide)) (aC (dv 2) (aC (dv 6) (aJ))))) (dvb 3))) (DE.bor (aA))) (kA (bO mS (DE.bor (aO Ay (hr.mono (by decide)) (aC (dv 1) (aC (dv 6) (aJ))))) (DE.bor (aA)))))) (aK (aX (gI))) (bK)))))
 (aK (aX (gI)))))
theorem zR (Z:DefAt K mg "_law_part" s__law_part ["_law_part_here","_law_piece","_law_line_here","_law_sign"]) {Be:FD} (Bq:FnAt P w K mg base "_law_is_piece" ["_law_piece"] 3 Be) {At:FD} (Ay:FnAt P w K mg base "_law_lies" ["_law_piece","_law_spot"] 1 At) {Au:FD} (Ba:FnAt P w K mg base "_law_value" ["_law_line_here","_law_spot"] 1 Au) {F:FD} (len:∀ds Q,F ds Q->ds.length=4) (pure:∀ds Q,F ds Q->fD Be At Au { nx:=λ_=>Q .non,rt:=Q } (aP ["_law_part_here","_law_piece","_law_line_here","_law_sign","_law_x","_law_y","_law_corner"] ds)):FnAt P w K mg base "_law_part" ["_law_part_here","_law_piece","_law_line_here","_law_sign"] 4 F :=
 Z.ok pG (λcdv A outer s H E hr=>yI Bq Ay Ba hr) len pure
theorem pC:FnScope ["_law_piece","_law_total","_law_k","_law_one","_law_two"] ["_law_piece"] (aE s__law_area):=⟨rfl,rfl,rfl,by decide +kernel,rfl,by decide +kernel,by decide +kernel⟩
theorem yE {f:Addr} {cdv:Value} {A:Around} {outer:List Env} {s:Shared} {H:Hp} {E:XK} (m_len:mg "len" = none) (m_range:mg "range" = none) (hr:Room 0 (A.deeper (envOfC "_law_area" (aE s__law_area) s.heap.objs.size f cdv))) :
  DSs (cR CX0 P w K mg base ["_law_piece","_law_total","_law_k","_law_one","_law_two"] "_law_area" (aE s__law_area) f cdv A outer s H E).nox (aL s__law_area) (eY) :=
 have nd:=pC.nd
 aF (cU (bO uB (dvb 0) (DE.bor (jY))) (aK (aX (cI (aC (aA) (aC (aA) (aJ)))))) (bK))
 (aF (aQ nd (aA))
 (aF (eK PassesOwn.never rfl (eU m_range (aC (dX m_len (DE.bor (aI (dvb 0) (DE.bor (aA))))) (aJ))) (aY nd) (aF (aQ nd (aI (DE.bor (aI (dvb 0) (DE.bor (aA)))) (DE.bor (aG bH (dvb 2) (DE.bor (aA))))))
 (aF (aQ nd (aI (DE.bor (aI (dvb 0) (DE.bor (aA)))) (dvb 2)))
 (aK (aQ nd (aG bH (DE.bor (aG bM (dvb 1) (DE.bor (aG aT (DE.bor (aI (dvb 3) (DE.bor (aA)))) (DE.bor (aI (dvb 4) (DE.bor (aA)))))))) (DE.bor (aG aT (DE.bor (aI (dvb 3) (DE.bor (aA)))) (DE.bor (aI (dvb 4) (DE.bor (aA))))))))))))
 (aK (aX (cI (aC (dv 1) (aC (aG aT (DE.bor (aI (dvb 0) (DE.bor (aA)))) (DE.bor (aI (dvb 0) (DE.bor (aA))))) (aJ))))))))
theorem zN (Z:DefAt K mg "_law_area" s__law_area ["_law_piece"]) (m_len:mg "len" = none) (m_range:mg "range" = none) {F:FD} (len:∀ds Q,F ds Q->ds.length=1) (pure:∀ds Q,F ds Q->eY { nx:=λ_=>Q .non,rt:=Q } (aP ["_law_piece","_law_total","_law_k","_law_one","_law_two"] ds)):FnAt P w K mg base "_law_area" ["_law_piece"] 1 F :=
 Z.ok pC (λcdv A outer s H E hr=>yE m_len m_range hr) len pure
theorem iI:FnScope ["_law_both","_law_piece","_law_one","_law_other","_law_due_here","_law_total"] ["_law_both","_law_piece"] (aE s__law_whole_area):=⟨rfl,rfl,rfl,by decide +kernel,rfl,by decide +kernel,by decide +kernel⟩
theorem nK {f:Addr} {cdv:Value} {A:Around} {outer:List Env} {s:Shared} {H:Hp} {E:XK} {Bn:FD} (By:FnAt P w K mg base "_law_area" ["_law_piece"] 1 Bn) (hr:Room 1 (A.deeper (envOfC "_law_whole_area" (aE s__law_whole_area) s.heap.objs.size f cdv))) :
  DSs (cR CX0 P w K mg base ["_law_both","_law_piece","_law_one","_law_other","_law_due_here","_law_total"] "_law_whole_area" (aE s__law_whole_area) f cdv A outer s H E).nox (aL s__law_whole_area) (cY Bn) :=
 have nd:=iI.nd
 aF (aQ nd (aO By (hr.mono (by decide)) (aC (aI (dvb 0) (DE.bor (aA))) (aJ))))
 (aF (aQ nd (aO By (hr.mono (by decide)) (aC (aI (dvb 0) (DE.bor (aA))) (aJ))))
 (aF (aQ nd (aO By (hr.mono (by decide)) (aC (dv 1) (aJ))))
 (aF (aQ nd (aG aT (DE.bor (aG bM (DE.bor (aG aT (DE.bor (aI (dvb 2) (DE.bor (aA)))) (DE.bor (aI (dvb 3) (DE.bor (aA)))))) (DE.bor (aG aT (DE.bor (aI (dvb 3) (DE.bor (aA)))) (DE.bor (aI (dvb 2) (DE.bor (aA)))))))) (DE.bor (aI (dvb 4) (DE.bor (aA))))))
 (aK (aX (eJ kG (dvb 5) (DE.bor (aG aT (DE.bor (aG aT (DE.bor (aI (dvb 4) (DE.bor (aA)))) (DE.bor (aI (dvb 2) (DE.bor (aA)))))) (DE.bor (aI (dvb 3) (DE.bor (aA))))))))))))
theorem nT (Z:DefAt K mg "_law_whole_area" s__law_whole_area ["_law_both","_law_piece"]) {Bn:FD} (By:FnAt P w K mg base "_law_area" ["_law_piece"] 1 Bn) {F:FD} (len:∀ds Q,F ds Q->ds.length=2) (pure:∀ds Q,F ds Q->cY Bn { nx:=λ_=>Q .non,rt:=Q } (aP ["_law_both","_law_piece","_law_one","_law_other","_law_due_here","_law_total"] ds)):FnAt P w K mg base "_law_whole_area" ["_law_both","_law_piece"] 2 F :=
 Z.ok iI (λcdv A outer s H E hr=>nK By hr) len pure
theorem nA:FnScope ["_law_found","_law_piece","_law_line_here","_law_spot","_law_values","_law_value_here"] ["_law_found","_law_piece","_law_line_here","_law_spot"] (aE s__law_right):=⟨rfl,rfl,rfl,by decide +kernel,rfl,by decide +kernel,by decide +kernel⟩
theorem jL:List.Nodup (["_law_x","_law_y","_law_line_here","_law_piece"]:List Str):=by decide +kernel
theorem vC {f:Addr} {cdv:Value} {A:Around} {outer:List Env} {s:Shared} {H:Hp} {E:XK} {Bh:FD} (Bv:FnAt P w K mg base "_law_inside" ["_law_part_here","_law_spot"] 2 Bh) {At:FD} (Ay:FnAt P w K mg base "_law_lies" ["_law_piece","_law_spot"] 1 At) {Bt:FD} (Cd:FnAt P w K mg base "_law_part" ["_law_part_here","_law_piece","_law_line_here","_law_sign"] 4 Bt) {Au:FD} (Ba:FnAt P w K mg base "_law_value" ["_law_line_here","_law_spot"] 1 Au) {Az:FD} (Bl:FnAt P w K mg base "_law_whole_area" ["_law_both","_law_piece"] 2 Az) (m_min:mg "min" = none) (m_max:mg "max" = none) (m_len:mg "len" = none) (m_isinstance:mg "isinstance" = none) (m_tuple:mg "tuple" = none) (hr:Room 4 (A.deeper (envOfC "_law_right" (aE s__law_right) s.heap.objs.size f cdv))) :
  DSs (cR CX0 P w K mg base ["_law_found","_law_piece","_law_line_here","_law_spot","_law_values","_law_value_here"] "_law_right" (aE s__law_right) f cdv A outer s H E).nox (aL s__law_right) (eG Bh At Bt Au Az) :=
 have nd:=nA.nd
 aF (cU (DW.tst (kO (fK (fL (pV (mG _) m_isinstance m_tuple iO (dv 0)))) (kO (bO uC (DE.bor (dX m_len (dvb 0))) (DE.bor (aA))) (kA (fK (fL (aO Cd (hr.mono (by decide)) (aC (aI (dvb 0) (DE.bor (aA))) (aC (dv 1) (aC (dv 2) (aC (jH fS (DE.bor (aA))) (aJ)))))))))))) (aK (aX (gI))) (bK))
 (aF (cU (DW.tst (kO (fK (fL (aO Cd (hr.mono (by decide)) (aC (aI (dvb 0) (DE.bor (aA))) (aC (dv 1) (aC (dv 2) (aC (aA) (aJ)))))))) (kA (fK (fL (aO Bl (hr.mono (by decide)) (aC (dv 0) (aC (dv 1) (aJ))))))))) (aK (aX (gI))) (bK))
 (aF (oP ["_law_x","_law_y","_law_line_here","_law_piece"] 2 [2,1] nd (yU (aI (dvb 1) (DE.bor (aA)))) (λcl C s H fp=>fJ rfl (bG (aY jL) (bG (aY jL) (dP)))) (λcl C s H fp=>aO Ba (hr.mono (by decide)) (aC (dv 2) (aC (cI (aC (dv 0) (aC (dv 1) (aC (aI (dvb 3) (DE.bor (aA))) (aJ))))) (aJ)))))
 (aF (cU (bO CJ (DE.bor (yS m_max rfl (dvb 4))) (DE.bor (aA))) (aK (aX (pU (eJ uB (DE.bor (aI (dvb 0) (DE.bor (aA)))) (DE.bor (jY))) (tI (eJ (NY hr) (DE.bor (aI (dvb 0) (DE.bor (aA)))) (dvb 1)))))) (bK))
 (aF (cU (bO UG (DE.bor (GV m_min rfl (dvb 4))) (DE.bor (aA))) (aK (aX (pU (eJ uB (DE.bor (aI (dvb 0) (DE.bor (aA)))) (DE.bor (jY))) (tI (eJ (NY hr) (DE.bor (aI (dvb 0) (DE.bor (aA)))) (dvb 1)))))) (bK))
 (aF (aQ nd (aO Ba (hr.mono (by decide)) (aC (dv 2) (aC (dv 3) (aJ)))))
 (aF (cU (DW.tst (kO (bO mS (DE.bor (aO Ay (hr.mono (by decide)) (aC (dv 1) (aC (dv 3) (aJ))))) (DE.bor (aA))) (kA (bO kG (dvb 5) (DE.bor (aA)))))) (aK (aX (gI))) (bK))
 (aF (cU (bO uC (DE.bor (aO Bv (hr.mono (by decide)) (aC (aI (dvb 0) (DE.bor (aA))) (aC (dv 3) (aJ))))) (DE.bor (eJ mS (dvb 5) (DE.bor (aA))))) (aK (aX (gI))) (bK))
 (aK (aX (eJ kG (DE.bor (aO Bv (hr.mono (by decide)) (aC (aI (dvb 0) (DE.bor (aA))) (aC (dv 3) (aJ))))) (DE.bor (eJ CI (dvb 5) (DE.bor (aA))))))))))))))
theorem vT (Z:DefAt K mg "_law_right" s__law_right ["_law_found","_law_piece","_law_line_here","_law_spot"]) {Bh:FD} (Bv:FnAt P w K mg base "_law_inside" ["_law_part_here","_law_spot"] 2 Bh) {At:FD} (Ay:FnAt P w K mg base "_law_lies" ["_law_piece","_law_spot"] 1 At) {Bt:FD} (Cd:FnAt P w K mg base "_law_part" ["_law_part_here","_law_piece","_law_line_here","_law_sign"] 4 Bt) {Au:FD} (Ba:FnAt P w K mg base "_law_value" ["_law_line_here","_law_spot"] 1 Au) {Az:FD} (Bl:FnAt P w K mg base "_law_whole_area" ["_law_both","_law_piece"] 2 Az) (m_min:mg "min" = none) (m_max:mg "max" = none) (m_len:mg "len" = none) (m_isinstance:mg "isinstance" = none) (m_tuple:mg "tuple" = none) {F:FD} (len:∀ds Q,F ds Q->ds.length=4) (pure:∀ds Q,F ds Q->eG Bh At Bt Au Az { nx:=λ_=>Q .non,rt:=Q } (aP ["_law_found","_law_piece","_law_line_here","_law_spot","_law_values","_law_value_here"] ds)):FnAt P w K mg base "_law_right" ["_law_found","_law_piece","_law_line_here","_law_spot"] 5 F :=
 Z.ok nA (λcdv A outer s H E hr=>vC Bv Ay Cd Ba Bl m_min m_max m_len m_isinstance m_tuple hr) len pure
theorem nB:FnScope ["_law_number","_law_many","_law_found","_law_k"] ["_law_number","_law_many"] (aE s__law_rises):=⟨rfl,rfl,rfl,by decide +kernel,rfl,by decide +kernel,by decide +kernel⟩
theorem vD {f:Addr} {cdv:Value} {A:Around} {outer:List Env} {s:Shared} {H:Hp} {E:XK} (m_range:mg "range" = none) (hr:Room 0 (A.deeper (envOfC "_law_rises" (aE s__law_rises) s.heap.objs.size f cdv))) :
  DSs (cR CX0 P w K mg base ["_law_number","_law_many","_law_found","_law_k"] "_law_rises" (aE s__law_rises) f cdv A outer s H E).nox (aL s__law_rises) (fZ) :=
 have nd:=nB.nd
 aF (sM nd (lH (aC (aG bH (DE.bor (aG bR (dvb 0) (DE.bor (aA)))) (DE.bor (aA))) (aJ))))
 (aF (eK PassesOwn.never rfl (eU m_range (aC (aG bH (dvb 1) (DE.bor (aA))) (aJ))) (aY nd) (aK (jI 2 (aG bM (DE.bor (aG bM (DE.bor (aI (dvb 2) (DE.bor (jH fS (DE.bor (aA)))))) (DE.bor (aA)))) (DE.bor (aG bR (DE.bor (aG bS (dvb 0) (DE.bor (aG bM (DE.bor (aA)) (DE.bor (aG aT (DE.bor (aA)) (dvb 3))))))) (DE.bor (aA))))))))
 (aK (tK 2 (aX (dv 2)))))
theorem vU (Z:DefAt K mg "_law_rises" s__law_rises ["_law_number","_law_many"]) (m_range:mg "range" = none) {F:FD} (len:∀ds Q,F ds Q->ds.length=2) (pure:∀ds Q,F ds Q->fZ { nx:=λ_=>Q .non,rt:=Q } (aP ["_law_number","_law_many","_law_found","_law_k"] ds)):FnAt P w K mg base "_law_rises" ["_law_number","_law_many"] 1 F :=
 Z.ok nB (λcdv A outer s H E hr=>vD m_range hr) len pure
theorem pH:FnScope ["_law_head","_law_far","_law_lows","_law_highs","_law_top","_law_ring_here","_law_p","_law_q","_law_r","_law_s","_law_off"] ["_law_head","_law_far"] (aE s__law_ring):=⟨rfl,rfl,rfl,by decide +kernel,rfl,by decide +kernel,by decide +kernel⟩
theorem kR:List.Nodup (["_law_x","_law_y","_law_p","_law_q","_law_off","_law_r","_law_s"]:List Str):=by decide +kernel
theorem rM:List.Nodup (["_law_x"]:List Str):=by decide +kernel
theorem rN:List.Nodup (["_law_x","_law_top"]:List Str):=by decide +kernel
theorem rO:List.Nodup (["_law_x"]:List Str):=by decide +kernel
theorem yJ {f:Addr} {cdv:Value} {A:Around} {outer:List Env} {s:Shared} {H:Hp} {E:XK} {Bm:FD} (Cb:FnAt P w K mg base "_law_rises" ["_law_number","_law_many"] 1 Bm) (m_reversed:mg "reversed" = none) (m_max:mg "max" = none) (hr:Room 1 (A.deeper (envOfC "_law_ring" (aE s__law_ring) s.heap.objs.size f cdv))) :
  DSs (cR CX0 P w K mg base ["_law_head","_law_far","_law_lows","_law_highs","_law_top","_law_ring_here","_law_p","_law_q","_law_r","_law_s","_law_off"] "_law_ring" (aE s__law_ring) f cdv A outer s H E).nox (aL s__law_ring) (dM Bm) :=
 have nd:=pH.nd
 aF (aQ nd (aO Cb (hr.mono (by decide)) (aC (aG bS (DE.bor (aI (dvb 0) (DE.bor (aA)))) (DE.bor (aA))) (aC (aG bM (DE.bor (aA)) (DE.bor (aG bR (DE.bor (aI (dvb 0) (DE.bor (aA)))) (DE.bor (aA))))) (aJ)))))
 (aF (aQ nd (aO Cb (hr.mono (by decide)) (aC (aG bS (DE.bor (aI (dvb 0) (DE.bor (aA)))) (DE.bor (aA))) (aC (aG bM (DE.bor (aA)) (DE.bor (aG bR (DE.bor (aI (dvb 0) (DE.bor (aA)))) (DE.bor (aA))))) (aJ)))))
 (aF (aQ nd (aG bM (DE.bor (aG bM (DE.bor (aG aT (DE.bor (aA)) (DE.bor (yS m_max rfl (DE.bor (DO.val (jZ ["_law_x"] 1 [] (eB (aG mD (dvb 2) (dvb 3))) (λcl C s H fp=>aY rO) (λcl C s H fp=>aG aT (dvb 0) (dvb 0))))))))) (DE.bor (aA)))) (DE.bor (aG bR (DE.bor (aI (dvb 0) (DE.bor (aA)))) (DE.bor (aA))))))
 (aF (aQ nd (aG mD (DE.bor (DO.val (jZ ["_law_x"] 1 [] (eB (dv 2)) (λcl C s H fp=>aY rM) (λcl C s H fp=>cI (aC (dv 0) (aC (aG aT (dvb 0) (dvb 0)) (aJ))))))) (DE.bor (DO.val (jZ ["_law_x","_law_top"] 1 [4] (UY m_reversed (dv 3)) (λcl C s H fp=>aY rN) (λcl C s H fp=>cI (aC (dv 0) (aC (aG bH (dvb 1) (DE.bor (aG aT (dvb 0) (dvb 0)))) (aJ)))))))))
 (aF (aQ nd (aG bM (DE.bor (aA)) (DE.bor (aG bR (DE.bor (aI (dvb 0) (DE.bor (aA)))) (DE.bor (aA))))))
 (aF (aQ nd (aG bH (DE.bor (aG bR (DE.bor (aG bS (DE.bor (aI (dvb 0) (DE.bor (aA)))) (DE.bor (aA)))) (DE.bor (aA)))) (DE.bor (aA))))
 (aF (aQ nd (aG bH (DE.bor (aG bR (DE.bor (aI (dvb 0) (DE.bor (aA)))) (DE.bor (aA)))) (DE.bor (aA))))
 (aF (aQ nd (aG bM (DE.bor (aG bM (DE.bor (aG bS (DE.bor (aG aT (dvb 7) (dvb 8))) (dvb 6))) (DE.bor (aA)))) (DE.bor (aG bR (DE.bor (aG bS (DE.bor (aI (dvb 0) (DE.bor (aA)))) (DE.bor (aA)))) (DE.bor (aA))))))
 (aF (aQ nd (cI (aC (aG bH (DE.bor (aG bR (DE.bor (aI (dvb 0) (DE.bor (aA)))) (DE.bor (aG bM (DE.bor (aG aT (DE.bor (aA)) (dvb 1))) (DE.bor (aA)))))) (dvb 1)) (aC (aG bH (DE.bor (aG bR (DE.bor (aI (dvb 0) (DE.bor (aA)))) (DE.bor (aG bM (DE.bor (aG aT (DE.bor (aA)) (dvb 1))) (DE.bor (aA)))))) (dvb 1)) (aJ)))))
 (aK (aX (DO.val (jZ ["_law_x","_law_y","_law_p","_law_q","_law_off","_law_r","_law_s"] 2 [6,7,10,8,9] (eB (dv 5)) (λcl C s H fp=>fJ rfl (bG (aY kR) (bG (aY kR) (dP)))) (λcl C s H fp=>cI (aC (aG bM (DE.bor (aG bM (DE.bor (aG aT (dvb 2) (dvb 0))) (DE.bor (aG aT (dvb 3) (dvb 1))))) (DE.bor (aI (dvb 4) (DE.bor (aA))))) (aC (aG bM (DE.bor (aG bM (DE.bor (aG aT (dvb 5) (dvb 0))) (DE.bor (aG aT (dvb 6) (dvb 1))))) (DE.bor (aI (dvb 4) (DE.bor (aA))))) (aJ))))))))))))))))
theorem zT (Z:DefAt K mg "_law_ring" s__law_ring ["_law_head","_law_far"]) {Bm:FD} (Cb:FnAt P w K mg base "_law_rises" ["_law_number","_law_many"] 1 Bm) (m_reversed:mg "reversed" = none) (m_max:mg "max" = none) {F:FD} (len:∀ds Q,F ds Q->ds.length=2) (pure:∀ds Q,F ds Q->dM Bm { nx:=λ_=>Q .non,rt:=Q } (aP ["_law_head","_law_far","_law_lows","_law_highs","_law_top","_law_ring_here","_law_p","_law_q","_law_r","_law_s","_law_off"] ds)):FnAt P w K mg base "_law_ring" ["_law_head","_law_far"] 2 F :=
 Z.ok pH (λcdv A outer s H E hr=>yJ Cb m_reversed m_max hr) len pure
theorem nD:FnScope ["_law_number"] ["_law_number"] (aE s__law_share):=⟨rfl,rfl,rfl,by decide +kernel,rfl,by decide +kernel,by decide +kernel⟩
theorem vE {f:Addr} {cdv:Value} {A:Around} {outer:List Env} {s:Shared} {H:Hp} {E:XK} (hr:Room 0 (A.deeper (envOfC "_law_share" (aE s__law_share) s.heap.objs.size f cdv))) :
  DSs (cR CX0 P w K mg base ["_law_number"] "_law_share" (aE s__law_share) f cdv A outer s H E).nox (aL s__law_share) (eI) :=
 have nd:=nD.nd
 aK (aX (aI (DE.bor (DO.val (lH (aC (aA) (aC (aG bM (DE.bor (aA)) (DE.bor (aG bR (DE.bor (aG bS (dvb 0) (DE.bor (aA)))) (DE.bor (aA))))) (aC (aG bM (DE.bor (aA)) (DE.bor (aG bR (DE.bor (aG bS (dvb 0) (DE.bor (aA)))) (DE.bor (aG lP (DE.bor (aA)) (DE.bor (aA))))))) (aJ))))))) (DE.bor (aG bR (dvb 0) (DE.bor (aA))))))
theorem vV (Z:DefAt K mg "_law_share" s__law_share ["_law_number"]) {F:FD} (len:∀ds Q,F ds Q->ds.length=1) (pure:∀ds Q,F ds Q->eI { nx:=λ_=>Q .non,rt:=Q } (aP ["_law_number"] ds)):FnAt P w K mg base "_law_share" ["_law_number"] 1 F :=
 Z.ok nD (λcdv A outer s H E hr=>vE hr) len pure
theorem xO:FnScope ["line","point","share"] ["line","point","share"] (aE s_excess):=⟨rfl,rfl,rfl,by decide +kernel,rfl,by decide +kernel,by decide +kernel⟩
theorem IQ {f:Addr} {cdv:Value} {A:Around} {outer:List Env} {s:Shared} {H:Hp} {E:XK} (hr:Room 0 (A.deeper (envOfC "excess" (aE s_excess) s.heap.objs.size f cdv))) :
  DSs (cR CX0 P w K mg base ["line","point","share"] "excess" (aE s_excess) f cdv A outer s H E).nox (aL s_excess) (mE) :=
 have nd:=xO.nd
 aK (aX (aG bH (DE.bor (aG bM (DE.bor (aG aT (DE.bor (aI (dvb 0) (DE.bor (aA)))) (DE.bor (aI (dvb 1) (DE.bor (aA)))))) (DE.bor (aG aT (DE.bor (aI (dvb 0) (DE.bor (aA)))) (DE.bor (aI (dvb 1) (DE.bor (aA)))))))) (DE.bor (aG aT (DE.bor (aI (dvb 0) (DE.bor (aA)))) (dvb 2)))))
theorem KI (Z:DefAt K mg "excess" s_excess ["line","point","share"]) {F:FD} (len:∀ds Q,F ds Q->ds.length=3) (pure:∀ds Q,F ds Q->mE { nx:=λ_=>Q .non,rt:=Q } (aP ["line","point","share"] ds)):FnAt P w K mg base "excess" ["line","point","share"] 1 F :=
 Z.ok xO (λcdv A outer s H E hr=>IQ hr) len pure
theorem rE:FnScope ["one","one_excess","other","other_excess","near","far"] ["one","one_excess","other","other_excess"] (aE s_crossing):=⟨rfl,rfl,rfl,by decide +kernel,rfl,by decide +kernel,by decide +kernel⟩
theorem AK {f:Addr} {cdv:Value} {A:Around} {outer:List Env} {s:Shared} {H:Hp} {E:XK} (m_abs:mg "abs" = none) (hr:Room 0 (A.deeper (envOfC "crossing" (aE s_crossing) s.heap.objs.size f cdv))) :
  DSs (cR CX0 P w K mg base ["one","one_excess","other","other_excess","near","far"] "crossing" (aE s_crossing) f cdv A outer s H E).nox (aL s_crossing) (iU) :=
 have nd:=rE.nd
 aF (aQ nd (dI pS m_abs gY (aC (dv 1) (aJ))))
 (aF (aQ nd (dI pS m_abs gY (aC (dv 3) (aJ))))
 (aK (aX (cI (aC (aG bM (DE.bor (aG aT (DE.bor (aI (dvb 0) (DE.bor (aA)))) (dvb 5))) (DE.bor (aG aT (DE.bor (aI (dvb 2) (DE.bor (aA)))) (dvb 4)))) (aC (aG bM (DE.bor (aG aT (DE.bor (aI (dvb 0) (DE.bor (aA)))) (dvb 5))) (DE.bor (aG aT (DE.bor (aI (dvb 2) (DE.bor (aA)))) (dvb 4)))) (aC (aG bM (dvb 4) (dvb 5)) (aJ))))))))
theorem CL (Z:DefAt K mg "crossing" s_crossing ["one","one_excess","other","other_excess"]) (m_abs:mg "abs" = none) {F:FD} (len:∀ds Q,F ds Q->ds.length=4) (pure:∀ds Q,F ds Q->iU { nx:=λ_=>Q .non,rt:=Q } (aP ["one","one_excess","other","other_excess","near","far"] ds)):FnAt P w K mg base "crossing" ["one","one_excess","other","other_excess"] 1 F :=
 Z.ok rE (λcdv A outer s H E hr=>AK m_abs hr) len pure
theorem nH:FnScope ["ones"] ["ones"] (aE s_neighbours):=⟨rfl,rfl,rfl,by decide +kernel,rfl,by decide +kernel,by decide +kernel⟩
theorem vI {f:Addr} {cdv:Value} {A:Around} {outer:List Env} {s:Shared} {H:Hp} {E:XK} (m_list:mg "list" = none) (m_zip:mg "zip" = none) (hr:Room 0 (A.deeper (envOfC "neighbours" (aE s_neighbours) s.heap.objs.size f cdv))) :
  DSs (cR CX0 P w K mg base ["ones"] "neighbours" (aE s_neighbours) f cdv A outer s H E).nox (aL s_neighbours) (gD) :=
 have nd:=nH.nd
 aK (aX (DO.val (tJ m_list m_zip rfl (dvb 0) (DE.bor (aG mD (DE.bor (lG (dvb 0) (lZ (aA)) (lY))) (DE.bor (lG (dvb 0) (lY) (lZ (aA)))))))))
theorem vZ (Z:DefAt K mg "neighbours" s_neighbours ["ones"]) (m_list:mg "list" = none) (m_zip:mg "zip" = none) {F:FD} (len:∀ds Q,F ds Q->ds.length=1) (pure:∀ds Q,F ds Q->gD { nx:=λ_=>Q .non,rt:=Q } (aP ["ones"] ds)):FnAt P w K mg base "neighbours" ["ones"] 1 F :=
 Z.ok nH (λcdv A outer s H E hr=>vI m_list m_zip hr) len pure
theorem jR:FnScope ["corners","excesses","points","one","other"] ["corners","excesses"] (aE s_points_within):=⟨rfl,rfl,rfl,by decide +kernel,rfl,by decide +kernel,by decide +kernel⟩
theorem pN {f:Addr} {cdv:Value} {A:Around} {outer:List Env} {s:Shared} {H:Hp} {E:XK} {F_crossing:FD} (Cn:FnAt P w K mg base "crossing" ["one","one_excess","other","other_excess"] 1 F_crossing) {F_neighbours:FD} (Ci:FnAt P w K mg base "neighbours" ["ones"] 1 F_neighbours) (m_list:mg "list" = none) (m_zip:mg "zip" = none) (hr:Room 1 (A.deeper (envOfC "points_within" (aE s_points_within) s.heap.objs.size f cdv))) :
  DSs (cR CX0 P w K mg base ["corners","excesses","points","one","other"] "points_within" (aE s_points_within) f cdv A outer s H E).nox (aL s_points_within) (dS F_crossing F_neighbours) :=
 have nd:=jR.nd
 aF (sM nd (lH (aJ)))
 (aF (eK PassesOwn.never rfl (eB (aO Ci (hr.mono (by decide)) (aC (DO.val (tJ m_list m_zip rfl (dvb 0) (dvb 1))) (aJ)))) (fJ rfl (bG (aY nd) (bG (aY nd) (dP)))) (aF (cU (bO CJ (DE.bor (aI (dvb 3) (DE.bor (aA)))) (DE.bor (aA))) (aK (jI 2 (cI (aC (aI (DE.bor (aI (dvb 3) (DE.bor (aA)))) (DE.bor (aA))) (aC (aI (DE.bor (aI (dvb 3) (DE.bor (aA)))) (DE.bor (aA))) (aC (aA) (aJ))))))) (bK))
 (aK (cU (bO mS (DE.bor (aG aT (DE.bor (aI (dvb 3) (DE.bor (aA)))) (DE.bor (aI (dvb 4) (DE.bor (aA)))))) (DE.bor (aA))) (aK (jI 2 (aO Cn (hr.mono (by decide)) (aC (aI (dvb 3) (DE.bor (aA))) (aC (aI (dvb 3) (DE.bor (aA))) (aC (aI (dvb 4) (DE.bor (aA))) (aC (aI (dvb 4) (DE.bor (aA))) (aJ)))))))) (bK)))))
 (aK (tK 2 (aX (dv 2)))))
theorem qH (Z:DefAt K mg "points_within" s_points_within ["corners","excesses"]) {F_crossing:FD} (Cn:FnAt P w K mg base "crossing" ["one","one_excess","other","other_excess"] 1 F_crossing) {F_neighbours:FD} (Ci:FnAt P w K mg base "neighbours" ["ones"] 1 F_neighbours) (m_list:mg "list" = none) (m_zip:mg "zip" = none) {F:FD} (len:∀ds Q,F ds Q->ds.length=2) (pure:∀ds Q,F ds Q->dS F_crossing F_neighbours { nx:=λ_=>Q .non,rt:=Q } (aP ["corners","excesses","points","one","other"] ds)):FnAt P w K mg base "points_within" ["corners","excesses"] 2 F :=
 Z.ok jR (λcdv A outer s H E hr=>pN Cn Ci m_list m_zip hr) len pure
theorem IE:FnScope ["one","middle","other","along","across"] ["one","middle","other"] (aE s_turn):=⟨rfl,rfl,rfl,by decide +kernel,rfl,by decide +kernel,by decide +kernel⟩
theorem QI {f:Addr} {cdv:Value} {A:Around} {outer:List Env} {s:Shared} {H:Hp} {E:XK} (hr:Room 0 (A.deeper (envOfC "turn" (aE s_turn) s.heap.objs.size f cdv))) :
  DSs (cR CX0 P w K mg base ["one","middle","other","along","across"] "turn" (aE s_turn) f cdv A outer s H E).nox (aL s_turn) (sO) :=
 have nd:=IE.nd
 aF (aQ nd (aG aT (DE.bor (aG bH (DE.bor (aI (dvb 1) (DE.bor (aA)))) (DE.bor (aI (dvb 0) (DE.bor (aA)))))) (DE.bor (aG bH (DE.bor (aI (dvb 2) (DE.bor (aA)))) (DE.bor (aI (dvb 0) (DE.bor (aA))))))))
 (aF (aQ nd (aG aT (DE.bor (aG bH (DE.bor (aI (dvb 1) (DE.bor (aA)))) (DE.bor (aI (dvb 0) (DE.bor (aA)))))) (DE.bor (aG bH (DE.bor (aI (dvb 2) (DE.bor (aA)))) (DE.bor (aI (dvb 0) (DE.bor (aA))))))))
 (aK (aX (aG bH (dvb 3) (dvb 4)))))
theorem RN (Z:DefAt K mg "turn" s_turn ["one","middle","other"]) {F:FD} (len:∀ds Q,F ds Q->ds.length=3) (pure:∀ds Q,F ds Q->sO { nx:=λ_=>Q .non,rt:=Q } (aP ["one","middle","other","along","across"] ds)):FnAt P w K mg base "turn" ["one","middle","other"] 1 F :=
 Z.ok IE (λcdv A outer s H E hr=>QI hr) len pure
theorem nG:FnScope ["points","chain","point"] ["points"] (aE s_half_round):=⟨rfl,rfl,rfl,by decide +kernel,rfl,by decide +kernel,by decide +kernel⟩
theorem vH {f:Addr} {cdv:Value} {A:Around} {outer:List Env} {s:Shared} {H:Hp} {E:XK} {dU:FD} (Cr:FnAt P w K mg base "turn" ["one","middle","other"] 1 dU) (m_len:mg "len" = none) (hr:Room 1 (A.deeper (envOfC "half_round" (aE s_half_round) s.heap.objs.size f cdv))) :
  DSs (cR CX0 P w K mg base ["points","chain","point"] "half_round" (aE s_half_round) f cdv A outer s H E).nox (aL s_half_round) (gC dU) :=
 have nd:=nG.nd
 aF (sM nd (lH (aJ)))
 (aF (eK PassesOwn.never rfl (eB (dv 0)) (aY nd) (aF (tL PassesOwn.never (DW.tst (EM (bO CI (DE.bor (dX m_len (dvb 1))) (DE.bor (aA))) (yW (bO CJ (DE.bor (aO Cr (hr.mono (by decide)) (aC (aI (dvb 1) (DE.bor (jH fS (DE.bor (aA))))) (aC (aI (dvb 1) (DE.bor (jH fS (DE.bor (aA))))) (aC (dv 2) (aJ)))))) (DE.bor (aA)))))) (aK (VB 1)))
 (aK (jI 1 (dv 2)))))
 (aK (aX (lG (dvb 1) (lY) (lZ (jH fS (DE.bor (aA))))))))
theorem vY (Z:DefAt K mg "half_round" s_half_round ["points"]) {dU:FD} (Cr:FnAt P w K mg base "turn" ["one","middle","other"] 1 dU) (m_len:mg "len" = none) {F:FD} (len:∀ds Q,F ds Q->ds.length=1) (pure:∀ds Q,F ds Q->gC dU { nx:=λ_=>Q .non,rt:=Q } (aP ["points","chain","point"] ds)):FnAt P w K mg base "half_round" ["points"] 2 F :=
 Z.ok nG (λcdv A outer s H E hr=>vH Cr m_len hr) len pure
theorem uS:FnScope ["points","rising"] ["points"] (aE s_outline):=⟨rfl,rfl,rfl,by decide +kernel,rfl,by decide +kernel,by decide +kernel⟩
theorem EC {f:Addr} {cdv:Value} {A:Around} {outer:List Env} {s:Shared} {H:Hp} {E:XK} {F_half_round:FD} (Cc:FnAt P w K mg base "half_round" ["points"] 2 F_half_round) (m_list:mg "list" = none) (m_reversed:mg "reversed" = none) (m_sorted:mg "sorted" = none) (m_set:mg "set" = none) (hr:Room 2 (A.deeper (envOfC "outline" (aE s_outline) s.heap.objs.size f cdv))) :
  DSs (cR CX0 P w K mg base ["points","rising"] "outline" (aE s_outline) f cdv A outer s H E).nox (aL s_outline) (kM F_half_round) :=
 have nd:=uS.nd
 aF (aQ nd (DO.val (EL hr m_sorted m_set rfl (dvb 0))))
 (aK (aX (aG mD (DE.bor (aO Cc (hr.mono (by decide)) (aC (dv 1) (aJ)))) (DE.bor (aO Cc (hr.mono (by decide)) (aC (DO.val (EK m_list m_reversed rfl (dvb 1))) (aJ)))))))
theorem FI (Z:DefAt K mg "outline" s_outline ["points"]) {F_half_round:FD} (Cc:FnAt P w K mg base "half_round" ["points"] 2 F_half_round) (m_list:mg "list" = none) (m_reversed:mg "reversed" = none) (m_sorted:mg "sorted" = none) (m_set:mg "set" = none) {F:FD} (len:∀ds Q,F ds Q->ds.length=1) (pure:∀ds Q,F ds Q->kM F_half_round { nx:=λ_=>Q .non,rt:=Q } (aP ["points","rising"] ds)):FnAt P w K mg base "outline" ["points"] 3 F :=
 Z.ok uS (λcdv A outer s H E hr=>EC Cc m_list m_reversed m_sorted m_set hr) len pure
theorem iW:FnScope ["one","other","larger","smaller","rest"] ["one","other"] (aE s_shared_divisor):=⟨rfl,rfl,rfl,by decide +kernel,rfl,by decide +kernel,by decide +kernel⟩
theorem oJ {f:Addr} {cdv:Value} {A:Around} {outer:List Env} {s:Shared} {H:Hp} {E:XK} (m_abs:mg "abs" = none) (hr:Room 0 (A.deeper (envOfC "shared_divisor" (aE s_shared_divisor) s.heap.objs.size f cdv))) :
  DSs (cR CX0 P w K mg base ["one","other","larger","smaller","rest"] "shared_divisor" (aE s_shared_divisor) f cdv A outer s H E).nox (aL s_shared_divisor) (dF) :=
 have nd:=iW.nd
 aF (aQ nd (dI pS m_abs gY (aC (dv 0) (aJ))))
 (aF (aQ nd (dI pS m_abs gY (aC (dv 1) (aJ))))
 (aF (tL PassesOwn.never (bO uC (dvb 3) (DE.bor (aA))) (aF (aQ nd (aG bR (dvb 2) (dvb 3)))
 (aF (aQ nd (dv 3))
 (aK (aQ nd (dv 4))))))
 (aK (aX (dv 2)))))
theorem oW (Z:DefAt K mg "shared_divisor" s_shared_divisor ["one","other"]) (m_abs:mg "abs" = none) {F:FD} (len:∀ds Q,F ds Q->ds.length=2) (pure:∀ds Q,F ds Q->dF { nx:=λ_=>Q .non,rt:=Q } (aP ["one","other","larger","smaller","rest"] ds)):FnAt P w K mg base "shared_divisor" ["one","other"] 1 F :=
 Z.ok iW (λcdv A outer s H E hr=>oJ m_abs hr) len pure
theorem uT:FnScope ["share","points","corners","divisor","x","y"] ["share","points"] (aE s_settled):=⟨rfl,rfl,rfl,by decide +kernel,rfl,by decide +kernel,by decide +kernel⟩
theorem mR:List.Nodup (["x","y","divisor"]:List Str):=by decide +kernel
theorem ED {f:Addr} {cdv:Value} {A:Around} {outer:List Env} {s:Shared} {H:Hp} {E:XK} {cN:FD} (Co:FnAt P w K mg base "outline" ["points"] 3 cN) {F_shared_divisor:FD} (Bf:FnAt P w K mg base "shared_divisor" ["one","other"] 1 F_shared_divisor) (m_tuple:mg "tuple" = none) (m_len:mg "len" = none) (hr:Room 3 (A.deeper (envOfC "settled" (aE s_settled) s.heap.objs.size f cdv))) :
  DSs (cR CX0 P w K mg base ["share","points","corners","divisor","x","y"] "settled" (aE s_settled) f cdv A outer s H E).nox (aL s_settled) (kN cN F_shared_divisor) :=
 have nd:=uT.nd
 aF (aQ nd (aO Co (hr.mono (by decide)) (aC (dv 1) (aJ))))
 (aF (cU (bO mS (DE.bor (dX m_len (dvb 2))) (DE.bor (aA))) (aK (aX (jY))) (bK))
 (aF (aQ nd (dv 0))
 (aF (eK PassesOwn.never rfl (eB (dv 2)) (fJ rfl (bG (aY nd) (bG (aY nd) (dP)))) (aK (aQ nd (aO Bf (hr.mono (by decide)) (aC (aO Bf (hr.mono (by decide)) (aC (dv 3) (aC (dv 4) (aJ)))) (aC (dv 5) (aJ)))))))
 (aK (aX (cI (aC (aG bS (dvb 0) (dvb 3)) (aC (BA m_tuple (DE.bor (DO.val (jZ ["x","y","divisor"] 2 [3] (eB (dv 2)) (λcl C s H fp=>fJ rfl (bG (aY mR) (bG (aY mR) (dP)))) (λcl C s H fp=>cI (aC (aG bS (dvb 0) (dvb 2)) (aC (aG bS (dvb 1) (dvb 2)) (aJ)))))))) (aJ)))))))))
theorem FJ (Z:DefAt K mg "settled" s_settled ["share","points"]) {cN:FD} (Co:FnAt P w K mg base "outline" ["points"] 3 cN) {F_shared_divisor:FD} (Bf:FnAt P w K mg base "shared_divisor" ["one","other"] 1 F_shared_divisor) (m_tuple:mg "tuple" = none) (m_len:mg "len" = none) {F:FD} (len:∀ds Q,F ds Q->ds.length=2) (pure:∀ds Q,F ds Q->kN cN F_shared_divisor { nx:=λ_=>Q .non,rt:=Q } (aP ["share","points","corners","divisor","x","y"] ds)):FnAt P w K mg base "settled" ["share","points"] 4 F :=
 Z.ok uT (λcdv A outer s H E hr=>ED Co Bf m_tuple m_len hr) len pure
theorem lV:FnScope ["piece","line","share","excesses","points","factor","point","grown"] ["piece","line"] (aE s_part_within):=⟨rfl,rfl,rfl,by decide +kernel,rfl,by decide +kernel,by decide +kernel⟩
theorem eX:List.Nodup (["x","y","own","factor"]:List Str):=by decide +kernel
theorem oV:List.Nodup (["corner","line","share"]:List Str):=by decide +kernel
theorem sU {f:Addr} {cdv:Value} {A:Around} {outer:List Env} {s:Shared} {H:Hp} {E:XK} {cZ:FD} (Cq:FnAt P w K mg base "excess" ["line","point","share"] 1 cZ) {F_points_within:FD} (Bs:FnAt P w K mg base "points_within" ["corners","excesses"] 2 F_points_within) {cO:FD} (Cp:FnAt P w K mg base "settled" ["share","points"] 4 cO) (m_min:mg "min" = none) (m_max:mg "max" = none) (hr:Room 4 (A.deeper (envOfC "part_within" (aE s_part_within) s.heap.objs.size f cdv))) :
  DSs (cR CX0 P w K mg base ["piece","line","share","excesses","points","factor","point","grown"] "part_within" (aE s_part_within) f cdv A outer s H E).nox (aL s_part_within) (fE cZ F_points_within cO) :=
 have nd:=lV.nd
 aF (aQ nd (aI (dvb 0) (DE.bor (aA))))
 (aF (oP ["corner","line","share"] 1 [1,2] nd (yU (aI (dvb 0) (DE.bor (aA)))) (λcl C s H fp=>aY oV) (λcl C s H fp=>aO Cq (hr.mono (by decide)) (aC (dv 1) (aC (dv 0) (aC (dv 2) (aJ))))))
 (aF (cU (bO CJ (DE.bor (yS m_max rfl (dvb 3))) (DE.bor (aA))) (aK (aX (dv 0))) (bK))
 (aF (cU (bO UG (DE.bor (GV m_min rfl (dvb 3))) (DE.bor (aA))) (aK (aX (jY))) (bK))
 (aF (tK 3 (aQ nd (aO Bs (hr.mono (by decide)) (aC (aI (dvb 0) (DE.bor (aA))) (aC (dv 3) (aJ))))))
 (aF (aQ nd (aA))
 (aF (eK PassesOwn.never rfl (eB (dv 4)) (aY nd) (aK (aQ nd (aG aT (dvb 5) (DE.bor (aI (dvb 6) (DE.bor (aA))))))))
 (aF (oP ["x","y","own","factor"] 3 [5] nd (eB (dv 4)) (λcl C s H fp=>fJ rfl (bG (aY eX) (bG (aY eX) (bG (aY eX) (dP))))) (λcl C s H fp=>cI (aC (aG aT (dvb 0) (DE.bor (aG bS (dvb 3) (dvb 2)))) (aC (aG aT (dvb 1) (DE.bor (aG bS (dvb 3) (dvb 2)))) (aJ)))))
 (aK (tK 7 (aX (aO Cp (hr.mono (by decide)) (aC (aG aT (dvb 2) (dvb 5)) (aC (dv 7) (aJ))))))))))))))
theorem uF (Z:DefAt K mg "part_within" s_part_within ["piece","line"]) {cZ:FD} (Cq:FnAt P w K mg base "excess" ["line","point","share"] 1 cZ) {F_points_within:FD} (Bs:FnAt P w K mg base "points_within" ["corners","excesses"] 2 F_points_within) {cO:FD} (Cp:FnAt P w K mg base "settled" ["share","points"] 4 cO) (m_min:mg "min" = none) (m_max:mg "max" = none) {F:FD} (len:∀ds Q,F ds Q->ds.length=2) (pure:∀ds Q,F ds Q->fE cZ F_points_within cO { nx:=λ_=>Q .non,rt:=Q } (aP ["piece","line","share","excesses","points","factor","point","grown"] ds)):FnAt P w K mg base "part_within" ["piece","line"] 5 F :=
 Z.ok lV (λcdv A outer s H E hr=>sU Cq Bs Cp m_min m_max hr) len pure
theorem PC:FnScope ["piece","line","opposite"] ["piece","line"] (aE s_cut):=⟨rfl,rfl,rfl,by decide +kernel,rfl,by decide +kernel,by decide +kernel⟩
theorem UR {f:Addr} {cdv:Value} {A:Around} {outer:List Env} {s:Shared} {H:Hp} {E:XK} {F_part_within:FD} (Bw:FnAt P w K mg base "part_within" ["piece","line"] 5 F_part_within) (hr:Room 5 (A.deeper (envOfC "cut" (aE s_cut) s.heap.objs.size f cdv))) :
  DSs (cR CX0 P w K mg base ["piece","line","opposite"] "cut" (aE s_cut) f cdv A outer s H E).nox (aL s_cut) (AA F_part_within) :=
 have nd:=PC.nd
 aF (aQ nd (cI (aC (jH fS (DE.bor (aI (dvb 1) (DE.bor (aA))))) (aC (jH fS (DE.bor (aI (dvb 1) (DE.bor (aA))))) (aC (jH fS (DE.bor (aI (dvb 1) (DE.bor (aA))))) (aJ))))))
 (aK (aX (cI (aC (aO Bw (hr.mono (by decide)) (aC (dv 0) (aC (dv 1) (aJ)))) (aC (aO Bw (hr.mono (by decide)) (aC (dv 0) (aC (dv 2) (aJ)))) (aJ))))))
theorem VZ (Z:DefAt K mg "cut" s_cut ["piece","line"]) {F_part_within:FD} (Bw:FnAt P w K mg base "part_within" ["piece","line"] 5 F_part_within) {F:FD} (len:∀ds Q,F ds Q->ds.length=2) (pure:∀ds Q,F ds Q->AA F_part_within { nx:=λ_=>Q .non,rt:=Q } (aP ["piece","line","opposite"] ds)):FnAt P w K mg base "cut" ["piece","line"] 6 F :=
 Z.ok PC (λcdv A outer s H E hr=>UR Bw hr) len pure
theorem PF:FnScope ["_law_script","_law_head","_law_ring_here","_law_share_here","_law_piece","_law_cell","_law_line_here","_law_by","_law_spot"] ["_law_script"] (aE s_law):=⟨rfl,rfl,rfl,by decide +kernel,rfl,by decide +kernel,by decide +kernel⟩
theorem US {f:Addr} {cdv:Value} {A:Around} {outer:List Env} {s:Shared} {H:Hp} {E:XK} {Bd:FD} (Ca:FnAt P w K mg base "_law_drawn" ["_law_ring_here","_law_share_here","_law_cell"] 3 Bd) {Ce:FD} (Cm:FnAt P w K mg base "_law_due" ["_law_share_here","_law_ring_here"] 2 Ce) {Bo:FD} (Cj:FnAt P w K mg base "_law_line" ["_law_one","_law_other"] 1 Bo) {Av:FD} (Bj:FnAt P w K mg base "_law_mean" ["_law_ring_here","_law_cell"] 2 Av) {Bk:FD} (Bx:FnAt P w K mg base "_law_numbers" ["_law_script","_law_many"] 1 Bk) {Bi:FD} (Cg:FnAt P w K mg base "_law_right" ["_law_found","_law_piece","_law_line_here","_law_spot"] 5 Bi) {Bz:FD} (Ck:FnAt P w K mg base "_law_ring" ["_law_head","_law_far"] 2 Bz) {Bu:FD} (Ch:FnAt P w K mg base "_law_share" ["_law_number"] 1 Bu) {iM:FD} (Cs:FnAt P w K mg base "cut" ["piece","line"] 6 iM) (hr:Room 6 (A.deeper (envOfC "law" (aE s_law) s.heap.objs.size f cdv))) :
  DSs (cR CX0 P w K mg base ["_law_script","_law_head","_law_ring_here","_law_share_here","_law_piece","_law_cell","_law_line_here","_law_by","_law_spot"] "law" (aE s_law) f cdv A outer s H E).nox (aL s_law) (kL Bd Ce Bo Av Bk Bi Bz Bu iM) :=
 have nd:=PF.nd
 aF (aQ nd (aO Bx (hr.mono (by decide)) (aC (dv 0) (aC (aA) (aJ)))))
 (aF (aQ nd (aO Ck (hr.mono (by decide)) (aC (dv 1) (aC (aI (DE.bor (DO.val (lH (aC (aA) (aC (aG lP (DE.bor (aA)) (DE.bor (aA))) (aJ)))))) (DE.bor (aG bR (DE.bor (aI (dvb 1) (DE.bor (aA)))) (DE.bor (aA))))) (aJ)))))
 (aF (aQ nd (aO Ch (hr.mono (by decide)) (aC (aG bS (DE.bor (aI (dvb 1) (DE.bor (aA)))) (DE.bor (aA))) (aJ))))
 (aF (aQ nd (aO Cm (hr.mono (by decide)) (aC (dv 3) (aC (dv 2) (aJ)))))
 (aF (eK PassesOwn.never rfl (eB (aG mD (DE.bor (DO.val (MY (dvb 0) (lY) (lZ (aA))))) (DE.bor (DO.val (lH (aC (aI (dvb 1) (DE.bor (aA))) (aJ))))))) (aY nd) (aF (aQ nd (aG bR (dvb 5) (DE.bor (aG lP (DE.bor (aA)) (DE.bor (aA))))))
 (aF (aQ nd (aO Cj (hr.mono (by decide)) (aC (aO Ca (hr.mono (by decide)) (aC (dv 2) (aC (dv 3) (aC (dv 5) (aJ))))) (aC (aO Ca (hr.mono (by decide)) (aC (dv 2) (aC (dv 3) (aC (aG bR (DE.bor (aG bS (DE.bor (aG aT (dvb 5) (dvb 5))) (DE.bor (aA)))) (DE.bor (aG lP (DE.bor (aA)) (DE.bor (aA))))) (aJ))))) (aJ)))))
 (aF (aQ nd (aI (DE.bor (DO.val (lH (aC (aA) (aC (aA) (aC (aA) (aC (aA) (aC (jH fS (DE.bor (aA))) (aC (jH fS (DE.bor (aA))) (aC (jH fS (DE.bor (aA))) (aC (aA) (aC (aA) (aC (jH fS (DE.bor (aA))) (aJ)))))))))))))) (DE.bor (aG bR (dvb 5) (DE.bor (aA))))))
 (aF (aQ nd (cI (aC (aG aT (DE.bor (aI (dvb 6) (DE.bor (aA)))) (dvb 7)) (aC (aG aT (DE.bor (aI (dvb 6) (DE.bor (aA)))) (dvb 7)) (aC (aG aT (DE.bor (aI (dvb 6) (DE.bor (aA)))) (dvb 7)) (aJ))))))
 (aF (aQ nd (aO Bj (hr.mono (by decide)) (aC (dv 2) (aC (aG bM (DE.bor (aG bS (dvb 5) (DE.bor (aA)))) (DE.bor (aG bR (DE.bor (aI (dvb 1) (DE.bor (aA)))) (DE.bor (aG lP (DE.bor (aA)) (DE.bor (aA))))))) (aJ)))))
 (aK (cU (fK (fL (aO Cg (hr.mono (by decide)) (aC (aO Cs (hr.mono (by decide)) (aC (dv 4) (aC (dv 6) (aJ)))) (aC (dv 4) (aC (dv 6) (aC (cI (aC (aI (dvb 8) (DE.bor (aA))) (aC (aI (dvb 8) (DE.bor (aA))) (aC (aG aT (DE.bor (aI (dvb 8) (DE.bor (aA)))) (dvb 3)) (aJ))))) (aJ)))))))) (aK (aX (gI))) (bK)))))))))
 (aK (aX (gI)))))))
theorem VE {Bd:FD} (Ca:FnAt P w K mg base "_law_drawn" ["_law_ring_here","_law_share_here","_law_cell"] 3 Bd) {Ce:FD} (Cm:FnAt P w K mg base "_law_due" ["_law_share_here","_law_ring_here"] 2 Ce) {Bo:FD} (Cj:FnAt P w K mg base "_law_line" ["_law_one","_law_other"] 1 Bo) {Av:FD} (Bj:FnAt P w K mg base "_law_mean" ["_law_ring_here","_law_cell"] 2 Av) {Bk:FD} (Bx:FnAt P w K mg base "_law_numbers" ["_law_script","_law_many"] 1 Bk) {Bi:FD} (Cg:FnAt P w K mg base "_law_right" ["_law_found","_law_piece","_law_line_here","_law_spot"] 5 Bi) {Bz:FD} (Ck:FnAt P w K mg base "_law_ring" ["_law_head","_law_far"] 2 Bz) {Bu:FD} (Ch:FnAt P w K mg base "_law_share" ["_law_number"] 1 Bu) {iM:FD} (Cs:FnAt P w K mg base "cut" ["piece","line"] 6 iM) {F:FD} {f:Addr} {fd:FuncData} (Fu:Fun K "law" "law" s_law f fd) (len:∀ds Q,F ds Q->ds.length=1) (pure:∀ds Q,F ds Q->kL Bd Ce Bo Av Bk Bi Bz Bu iM { nx:=λ_=>Q .non,rt:=Q } (aP ["_law_script","_law_head","_law_ring_here","_law_share_here","_law_piece","_law_cell","_law_line_here","_law_by","_law_spot"] ds)):FnOk P w K mg base CX0 7 f fd ["_law_script"] (spD K F) :=
 TZ Fu PF (λcdv A outer s H E hr=>US Ca Cm Cj Bj Bx Cg Ck Ch Cs hr) len pure
end
structure TopF (K:PySem.W.Frag) (mg:Str->Option Value):Prop where
 d__law_digit:DefAt K mg "_law_digit" s__law_digit ["_law_number","_law_base","_law_place"]
 d__law_mean:DefAt K mg "_law_mean" s__law_mean ["_law_ring_here","_law_cell"]
 d__law_drawn:DefAt K mg "_law_drawn" s__law_drawn ["_law_ring_here","_law_share_here","_law_cell"]
 d__law_divisor:DefAt K mg "_law_divisor" s__law_divisor ["_law_one","_law_other"]
 d__law_due:DefAt K mg "_law_due" s__law_due ["_law_share_here","_law_ring_here"]
 d__law_line:DefAt K mg "_law_line" s__law_line ["_law_one","_law_other"]
 d__law_numbers:DefAt K mg "_law_numbers" s__law_numbers ["_law_script","_law_many"]
 d__law_lies:DefAt K mg "_law_lies" s__law_lies ["_law_piece","_law_spot"]
 d__law_inside:DefAt K mg "_law_inside" s__law_inside ["_law_part_here","_law_spot"]
 d__law_whole:DefAt K mg "_law_whole" s__law_whole ["_law_found"]
 d__law_numbers_whole:DefAt K mg "_law_numbers_whole" s__law_numbers_whole ["_law_piece"]
 d__law_turn:DefAt K mg "_law_turn" s__law_turn ["_law_one","_law_two","_law_three"]
 d__law_is_piece:DefAt K mg "_law_is_piece" s__law_is_piece ["_law_piece"]
 d__law_value:DefAt K mg "_law_value" s__law_value ["_law_line_here","_law_spot"]
 d__law_part:DefAt K mg "_law_part" s__law_part ["_law_part_here","_law_piece","_law_line_here","_law_sign"]
 d__law_area:DefAt K mg "_law_area" s__law_area ["_law_piece"]
 d__law_whole_area:DefAt K mg "_law_whole_area" s__law_whole_area ["_law_both","_law_piece"]
 d__law_right:DefAt K mg "_law_right" s__law_right ["_law_found","_law_piece","_law_line_here","_law_spot"]
 d__law_rises:DefAt K mg "_law_rises" s__law_rises ["_law_number","_law_many"]
 d__law_ring:DefAt K mg "_law_ring" s__law_ring ["_law_head","_law_far"]
 d__law_share:DefAt K mg "_law_share" s__law_share ["_law_number"]
 d_excess:DefAt K mg "excess" s_excess ["line","point","share"]
 d_crossing:DefAt K mg "crossing" s_crossing ["one","one_excess","other","other_excess"]
 d_neighbours:DefAt K mg "neighbours" s_neighbours ["ones"]
 d_points_within:DefAt K mg "points_within" s_points_within ["corners","excesses"]
 d_turn:DefAt K mg "turn" s_turn ["one","middle","other"]
 d_half_round:DefAt K mg "half_round" s_half_round ["points"]
 d_outline:DefAt K mg "outline" s_outline ["points"]
 d_shared_divisor:DefAt K mg "shared_divisor" s_shared_divisor ["one","other"]
 d_settled:DefAt K mg "settled" s_settled ["share","points"]
 d_part_within:DefAt K mg "part_within" s_part_within ["piece","line"]
 d_cut:DefAt K mg "cut" s_cut ["piece","line"]
 d_law:DefAt K mg "law" s_law ["_law_script"]
 m_range:mg "range" = none
 m_sum:mg "sum" = none
 m_zip:mg "zip" = none
 m_len:mg "len" = none
 m_max:mg "max" = none
 m_abs:mg "abs" = none
 m_tuple:mg "tuple" = none
 m_min:mg "min" = none
 m_int:mg "int" = none
 m_isinstance:mg "isinstance" = none
 m_bool:mg "bool" = none
 m_reversed:mg "reversed" = none
 m_list:mg "list" = none
 m_sorted:mg "sorted" = none
 m_set:mg "set" = none
theorem top_mk {K:PySem.W.Frag} {h:Heap} {mg:Str->Option Value} (X:K.In h) (G:h.Ns mainGlobals mg)
  {f0:Addr} {od0 an0:Option Addr} {sl0:Array (Option Value)} {oc0 kV0 dc0 pm0 cd0 ct0:Value}
  {f1:Addr} {od1 an1:Option Addr} {sl1:Array (Option Value)} {oc1 kV1 dc1 pm1 cd1 ct1:Value}
  {f2:Addr} {od2 an2:Option Addr} {sl2:Array (Option Value)} {oc2 kV2 dc2 pm2 cd2 ct2:Value}
  {f3:Addr} {od3 an3:Option Addr} {sl3:Array (Option Value)} {oc3 kV3 dc3 pm3 cd3 ct3:Value}
  {f4:Addr} {od4 an4:Option Addr} {sl4:Array (Option Value)} {oc4 kV4 dc4 pm4 cd4 ct4:Value}
  {f5:Addr} {od5 an5:Option Addr} {sl5:Array (Option Value)} {oc5 kV5 dc5 pm5 cd5 ct5:Value}
  {f6:Addr} {od6 an6:Option Addr} {sl6:Array (Option Value)} {oc6 kV6 dc6 pm6 cd6 ct6:Value}
  {f7:Addr} {od7 an7:Option Addr} {sl7:Array (Option Value)} {oc7 kV7 dc7 pm7 cd7 ct7:Value}
  {f8:Addr} {od8 an8:Option Addr} {sl8:Array (Option Value)} {oc8 kV8 dc8 pm8 cd8 ct8:Value}
  {f9:Addr} {od9 an9:Option Addr} {sl9:Array (Option Value)} {oc9 kV9 dc9 pm9 cd9 ct9:Value}
  {f10:Addr} {od10 an10:Option Addr} {sl10:Array (Option Value)} {oc10 kV10 dc10 pm10 cd10 ct10:Value}
  {f11:Addr} {od11 an11:Option Addr} {sl11:Array (Option Value)} {oc11 kV11 dc11 pm11 cd11 ct11:Value}
  {f12:Addr} {od12 an12:Option Addr} {sl12:Array (Option Value)} {oc12 kV12 dc12 pm12 cd12 ct12:Value}
  {f13:Addr} {od13 an13:Option Addr} {sl13:Array (Option Value)} {oc13 kV13 dc13 pm13 cd13 ct13:Value}
  {f14:Addr} {od14 an14:Option Addr} {sl14:Array (Option Value)} {oc14 kV14 dc14 pm14 cd14 ct14:Value}
  {f15:Addr} {od15 an15:Option Addr} {sl15:Array (Option Value)} {oc15 kV15 dc15 pm15 cd15 ct15:Value}
  {f16:Addr} {od16 an16:Option Addr} {sl16:Array (Option Value)} {oc16 kV16 dc16 pm16 cd16 ct16:Value}
  {f17:Addr} {od17 an17:Option Addr} {sl17:Array (Option Value)} {oc17 kV17 dc17 pm17 cd17 ct17:Value}
  {f18:Addr} {od18 an18:Option Addr} {sl18:Array (Option Value)} {oc18 kV18 dc18 pm18 cd18 ct18:Value}
  {f19:Addr} {od19 an19:Option Addr} {sl19:Array (Option Value)} {oc19 kV19 dc19 pm19 cd19 ct19:Value}
  {f20:Addr} {od20 an20:Option Addr} {sl20:Array (Option Value)} {oc20 kV20 dc20 pm20 cd20 ct20:Value}
  {f21:Addr} {od21 an21:Option Addr} {sl21:Array (Option Value)} {oc21 kV21 dc21 pm21 cd21 ct21:Value}
  {f22:Addr} {od22 an22:Option Addr} {sl22:Array (Option Value)} {oc22 kV22 dc22 pm22 cd22 ct22:Value}
  {f23:Addr} {od23 an23:Option Addr} {sl23:Array (Option Value)} {oc23 kV23 dc23 pm23 cd23 ct23:Value}
  {f24:Addr} {od24 an24:Option Addr} {sl24:Array (Option Value)} {oc24 kV24 dc24 pm24 cd24 ct24:Value}
  {f25:Addr} {od25 an25:Option Addr} {sl25:Array (Option Value)} {oc25 kV25 dc25 pm25 cd25 ct25:Value}
  {f26:Addr} {od26 an26:Option Addr} {sl26:Array (Option Value)} {oc26 kV26 dc26 pm26 cd26 ct26:Value}
  {f27:Addr} {od27 an27:Option Addr} {sl27:Array (Option Value)} {oc27 kV27 dc27 pm27 cd27 ct27:Value}
  {f28:Addr} {od28 an28:Option Addr} {sl28:Array (Option Value)} {oc28 kV28 dc28 pm28 cd28 ct28:Value}
  {f29:Addr} {od29 an29:Option Addr} {sl29:Array (Option Value)} {oc29 kV29 dc29 pm29 cd29 ct29:Value}
  {f30:Addr} {od30 an30:Option Addr} {sl30:Array (Option Value)} {oc30 kV30 dc30 pm30 cd30 ct30:Value}
  {f31:Addr} {od31 an31:Option Addr} {sl31:Array (Option Value)} {oc31 kV31 dc31 pm31 cd31 ct31:Value}
  {f32:Addr} {od32 an32:Option Addr} {sl32:Array (Option Value)} {oc32 kV32 dc32 pm32 cd32 ct32:Value}
  (a0:PySem.W.nsIn K mainGlobals "_law_digit" = some (some (.ref f0))) (l0:K.lookup f0=some ⟨oc0,od0,.func (PySem.W.fnOf "_law_digit" "_law_digit" (bB s__law_digit) (aL s__law_digit) (aE s__law_digit) .none kV0 dc0 pm0 an0 cd0 ct0),sl0⟩) (c0:PySem.W.codeIn K cd0 "_law_digit" = true) (k0:PySem.W.keepIn K (.ref f0)=true)
  (a1:PySem.W.nsIn K mainGlobals "_law_mean" = some (some (.ref f1))) (l1:K.lookup f1=some ⟨oc1,od1,.func (PySem.W.fnOf "_law_mean" "_law_mean" (bB s__law_mean) (aL s__law_mean) (aE s__law_mean) .none kV1 dc1 pm1 an1 cd1 ct1),sl1⟩) (c1:PySem.W.codeIn K cd1 "_law_mean" = true) (k1:PySem.W.keepIn K (.ref f1)=true)
  (a2:PySem.W.nsIn K mainGlobals "_law_drawn" = some (some (.ref f2))) (l2:K.lookup f2=some ⟨oc2,od2,.func (PySem.W.fnOf "_law_drawn" "_law_drawn" (bB s__law_drawn) (aL s__law_drawn) (aE s__law_drawn) .none kV2 dc2 pm2 an2 cd2 ct2),sl2⟩) (c2:PySem.W.codeIn K cd2 "_law_drawn" = true) (k2:PySem.W.keepIn K (.ref f2)=true)
  (a3:PySem.W.nsIn K mainGlobals "_law_divisor" = some (some (.ref f3))) (l3:K.lookup f3=some ⟨oc3,od3,.func (PySem.W.fnOf "_law_divisor" "_law_divisor" (bB s__law_divisor) (aL s__law_divisor) (aE s__law_divisor) .none kV3 dc3 pm3 an3 cd3 ct3),sl3⟩) (c3:PySem.W.codeIn K cd3 "_law_divisor" = true) (k3:PySem.W.keepIn K (.ref f3)=true)
  (a4:PySem.W.nsIn K mainGlobals "_law_due" = some (some (.ref f4))) (l4:K.lookup f4=some ⟨oc4,od4,.func (PySem.W.fnOf "_law_due" "_law_due" (bB s__law_due) (aL s__law_due) (aE s__law_due) .none kV4 dc4 pm4 an4 cd4 ct4),sl4⟩) (c4:PySem.W.codeIn K cd4 "_law_due" = true) (k4:PySem.W.keepIn K (.ref f4)=true)
  (a5:PySem.W.nsIn K mainGlobals "_law_line" = some (some (.ref f5))) (l5:K.lookup f5=some ⟨oc5,od5,.func (PySem.W.fnOf "_law_line" "_law_line" (bB s__law_line) (aL s__law_line) (aE s__law_line) .none kV5 dc5 pm5 an5 cd5 ct5),sl5⟩) (c5:PySem.W.codeIn K cd5 "_law_line" = true) (k5:PySem.W.keepIn K (.ref f5)=true)
  (a6:PySem.W.nsIn K mainGlobals "_law_numbers" = some (some (.ref f6))) (l6:K.lookup f6=some ⟨oc6,od6,.func (PySem.W.fnOf "_law_numbers" "_law_numbers" (bB s__law_numbers) (aL s__law_numbers) (aE s__law_numbers) .none kV6 dc6 pm6 an6 cd6 ct6),sl6⟩) (c6:PySem.W.codeIn K cd6 "_law_numbers" = true) (k6:PySem.W.keepIn K (.ref f6)=true)
  (a7:PySem.W.nsIn K mainGlobals "_law_lies" = some (some (.ref f7))) (l7:K.lookup f7=some ⟨oc7,od7,.func (PySem.W.fnOf "_law_lies" "_law_lies" (bB s__law_lies) (aL s__law_lies) (aE s__law_lies) .none kV7 dc7 pm7 an7 cd7 ct7),sl7⟩) (c7:PySem.W.codeIn K cd7 "_law_lies" = true) (k7:PySem.W.keepIn K (.ref f7)=true)
  (a8:PySem.W.nsIn K mainGlobals "_law_inside" = some (some (.ref f8))) (l8:K.lookup f8=some ⟨oc8,od8,.func (PySem.W.fnOf "_law_inside" "_law_inside" (bB s__law_inside) (aL s__law_inside) (aE s__law_inside) .none kV8 dc8 pm8 an8 cd8 ct8),sl8⟩) (c8:PySem.W.codeIn K cd8 "_law_inside" = true) (k8:PySem.W.keepIn K (.ref f8)=true)
  (a9:PySem.W.nsIn K mainGlobals "_law_whole" = some (some (.ref f9))) (l9:K.lookup f9=some ⟨oc9,od9,.func (PySem.W.fnOf "_law_whole" "_law_whole" (bB s__law_whole) (aL s__law_whole) (aE s__law_whole) .none kV9 dc9 pm9 an9 cd9 ct9),sl9⟩) (c9:PySem.W.codeIn K cd9 "_law_whole" = true) (k9:PySem.W.keepIn K (.ref f9)=true)
  (a10:PySem.W.nsIn K mainGlobals "_law_numbers_whole" = some (some (.ref f10))) (l10:K.lookup f10=some ⟨oc10,od10,.func (PySem.W.fnOf "_law_numbers_whole" "_law_numbers_whole" (bB s__law_numbers_whole) (aL s__law_numbers_whole) (aE s__law_numbers_whole) .none kV10 dc10 pm10 an10 cd10 ct10),sl10⟩) (c10:PySem.W.codeIn K cd10 "_law_numbers_whole" = true) (k10:PySem.W.keepIn K (.ref f10)=true)
  (a11:PySem.W.nsIn K mainGlobals "_law_turn" = some (some (.ref f11))) (l11:K.lookup f11=some ⟨oc11,od11,.func (PySem.W.fnOf "_law_turn" "_law_turn" (bB s__law_turn) (aL s__law_turn) (aE s__law_turn) .none kV11 dc11 pm11 an11 cd11 ct11),sl11⟩) (c11:PySem.W.codeIn K cd11 "_law_turn" = true) (k11:PySem.W.keepIn K (.ref f11)=true)
  (a12:PySem.W.nsIn K mainGlobals "_law_is_piece" = some (some (.ref f12))) (l12:K.lookup f12=some ⟨oc12,od12,.func (PySem.W.fnOf "_law_is_piece" "_law_is_piece" (bB s__law_is_piece) (aL s__law_is_piece) (aE s__law_is_piece) .none kV12 dc12 pm12 an12 cd12 ct12),sl12⟩) (c12:PySem.W.codeIn K cd12 "_law_is_piece" = true) (k12:PySem.W.keepIn K (.ref f12)=true)
  (a13:PySem.W.nsIn K mainGlobals "_law_value" = some (some (.ref f13))) (l13:K.lookup f13=some ⟨oc13,od13,.func (PySem.W.fnOf "_law_value" "_law_value" (bB s__law_value) (aL s__law_value) (aE s__law_value) .none kV13 dc13 pm13 an13 cd13 ct13),sl13⟩) (c13:PySem.W.codeIn K cd13 "_law_value" = true) (k13:PySem.W.keepIn K (.ref f13)=true)
  (a14:PySem.W.nsIn K mainGlobals "_law_part" = some (some (.ref f14))) (l14:K.lookup f14=some ⟨oc14,od14,.func (PySem.W.fnOf "_law_part" "_law_part" (bB s__law_part) (aL s__law_part) (aE s__law_part) .none kV14 dc14 pm14 an14 cd14 ct14),sl14⟩) (c14:PySem.W.codeIn K cd14 "_law_part" = true) (k14:PySem.W.keepIn K (.ref f14)=true)
  (a15:PySem.W.nsIn K mainGlobals "_law_area" = some (some (.ref f15))) (l15:K.lookup f15=some ⟨oc15,od15,.func (PySem.W.fnOf "_law_area" "_law_area" (bB s__law_area) (aL s__law_area) (aE s__law_area) .none kV15 dc15 pm15 an15 cd15 ct15),sl15⟩) (c15:PySem.W.codeIn K cd15 "_law_area" = true) (k15:PySem.W.keepIn K (.ref f15)=true)
  (a16:PySem.W.nsIn K mainGlobals "_law_whole_area" = some (some (.ref f16))) (l16:K.lookup f16=some ⟨oc16,od16,.func (PySem.W.fnOf "_law_whole_area" "_law_whole_area" (bB s__law_whole_area) (aL s__law_whole_area) (aE s__law_whole_area) .none kV16 dc16 pm16 an16 cd16 ct16),sl16⟩) (c16:PySem.W.codeIn K cd16 "_law_whole_area" = true) (k16:PySem.W.keepIn K (.ref f16)=true)
  (a17:PySem.W.nsIn K mainGlobals "_law_right" = some (some (.ref f17))) (l17:K.lookup f17=some ⟨oc17,od17,.func (PySem.W.fnOf "_law_right" "_law_right" (bB s__law_right) (aL s__law_right) (aE s__law_right) .none kV17 dc17 pm17 an17 cd17 ct17),sl17⟩) (c17:PySem.W.codeIn K cd17 "_law_right" = true) (k17:PySem.W.keepIn K (.ref f17)=true)
  (a18:PySem.W.nsIn K mainGlobals "_law_rises" = some (some (.ref f18))) (l18:K.lookup f18=some ⟨oc18,od18,.func (PySem.W.fnOf "_law_rises" "_law_rises" (bB s__law_rises) (aL s__law_rises) (aE s__law_rises) .none kV18 dc18 pm18 an18 cd18 ct18),sl18⟩) (c18:PySem.W.codeIn K cd18 "_law_rises" = true) (k18:PySem.W.keepIn K (.ref f18)=true)
  (a19:PySem.W.nsIn K mainGlobals "_law_ring" = some (some (.ref f19))) (l19:K.lookup f19=some ⟨oc19,od19,.func (PySem.W.fnOf "_law_ring" "_law_ring" (bB s__law_ring) (aL s__law_ring) (aE s__law_ring) .none kV19 dc19 pm19 an19 cd19 ct19),sl19⟩) (c19:PySem.W.codeIn K cd19 "_law_ring" = true) (k19:PySem.W.keepIn K (.ref f19)=true)
  (a20:PySem.W.nsIn K mainGlobals "_law_share" = some (some (.ref f20))) (l20:K.lookup f20=some ⟨oc20,od20,.func (PySem.W.fnOf "_law_share" "_law_share" (bB s__law_share) (aL s__law_share) (aE s__law_share) .none kV20 dc20 pm20 an20 cd20 ct20),sl20⟩) (c20:PySem.W.codeIn K cd20 "_law_share" = true) (k20:PySem.W.keepIn K (.ref f20)=true)
  (a21:PySem.W.nsIn K mainGlobals "excess" = some (some (.ref f21))) (l21:K.lookup f21=some ⟨oc21,od21,.func (PySem.W.fnOf "excess" "excess" (bB s_excess) (aL s_excess) (aE s_excess) .none kV21 dc21 pm21 an21 cd21 ct21),sl21⟩) (c21:PySem.W.codeIn K cd21 "excess" = true) (k21:PySem.W.keepIn K (.ref f21)=true)
  (a22:PySem.W.nsIn K mainGlobals "crossing" = some (some (.ref f22))) (l22:K.lookup f22=some ⟨oc22,od22,.func (PySem.W.fnOf "crossing" "crossing" (bB s_crossing) (aL s_crossing) (aE s_crossing) .none kV22 dc22 pm22 an22 cd22 ct22),sl22⟩) (c22:PySem.W.codeIn K cd22 "crossing" = true) (k22:PySem.W.keepIn K (.ref f22)=true)
  (a23:PySem.W.nsIn K mainGlobals "neighbours" = some (some (.ref f23))) (l23:K.lookup f23=some ⟨oc23,od23,.func (PySem.W.fnOf "neighbours" "neighbours" (bB s_neighbours) (aL s_neighbours) (aE s_neighbours) .none kV23 dc23 pm23 an23 cd23 ct23),sl23⟩) (c23:PySem.W.codeIn K cd23 "neighbours" = true) (k23:PySem.W.keepIn K (.ref f23)=true)
  (a24:PySem.W.nsIn K mainGlobals "points_within" = some (some (.ref f24))) (l24:K.lookup f24=some ⟨oc24,od24,.func (PySem.W.fnOf "points_within" "points_within" (bB s_points_within) (aL s_points_within) (aE s_points_within) .none kV24 dc24 pm24 an24 cd24 ct24),sl24⟩) (c24:PySem.W.codeIn K cd24 "points_within" = true) (k24:PySem.W.keepIn K (.ref f24)=true)
  (a25:PySem.W.nsIn K mainGlobals "turn" = some (some (.ref f25))) (l25:K.lookup f25=some ⟨oc25,od25,.func (PySem.W.fnOf "turn" "turn" (bB s_turn) (aL s_turn) (aE s_turn) .none kV25 dc25 pm25 an25 cd25 ct25),sl25⟩) (c25:PySem.W.codeIn K cd25 "turn" = true) (k25:PySem.W.keepIn K (.ref f25)=true)
  (a26:PySem.W.nsIn K mainGlobals "half_round" = some (some (.ref f26))) (l26:K.lookup f26=some ⟨oc26,od26,.func (PySem.W.fnOf "half_round" "half_round" (bB s_half_round) (aL s_half_round) (aE s_half_round) .none kV26 dc26 pm26 an26 cd26 ct26),sl26⟩) (c26:PySem.W.codeIn K cd26 "half_round" = true) (k26:PySem.W.keepIn K (.ref f26)=true)
  (a27:PySem.W.nsIn K mainGlobals "outline" = some (some (.ref f27))) (l27:K.lookup f27=some ⟨oc27,od27,.func (PySem.W.fnOf "outline" "outline" (bB s_outline) (aL s_outline) (aE s_outline) .none kV27 dc27 pm27 an27 cd27 ct27),sl27⟩) (c27:PySem.W.codeIn K cd27 "outline" = true) (k27:PySem.W.keepIn K (.ref f27)=true)
  (a28:PySem.W.nsIn K mainGlobals "shared_divisor" = some (some (.ref f28))) (l28:K.lookup f28=some ⟨oc28,od28,.func (PySem.W.fnOf "shared_divisor" "shared_divisor" (bB s_shared_divisor) (aL s_shared_divisor) (aE s_shared_divisor) .none kV28 dc28 pm28 an28 cd28 ct28),sl28⟩) (c28:PySem.W.codeIn K cd28 "shared_divisor" = true) (k28:PySem.W.keepIn K (.ref f28)=true)
  (a29:PySem.W.nsIn K mainGlobals "settled" = some (some (.ref f29))) (l29:K.lookup f29=some ⟨oc29,od29,.func (PySem.W.fnOf "settled" "settled" (bB s_settled) (aL s_settled) (aE s_settled) .none kV29 dc29 pm29 an29 cd29 ct29),sl29⟩) (c29:PySem.W.codeIn K cd29 "settled" = true) (k29:PySem.W.keepIn K (.ref f29)=true)
  (a30:PySem.W.nsIn K mainGlobals "part_within" = some (some (.ref f30))) (l30:K.lookup f30=some ⟨oc30,od30,.func (PySem.W.fnOf "part_within" "part_within" (bB s_part_within) (aL s_part_within) (aE s_part_within) .none kV30 dc30 pm30 an30 cd30 ct30),sl30⟩) (c30:PySem.W.codeIn K cd30 "part_within" = true) (k30:PySem.W.keepIn K (.ref f30)=true)
  (a31:PySem.W.nsIn K mainGlobals "cut" = some (some (.ref f31))) (l31:K.lookup f31=some ⟨oc31,od31,.func (PySem.W.fnOf "cut" "cut" (bB s_cut) (aL s_cut) (aE s_cut) .none kV31 dc31 pm31 an31 cd31 ct31),sl31⟩) (c31:PySem.W.codeIn K cd31 "cut" = true) (k31:PySem.W.keepIn K (.ref f31)=true)
  (a32:PySem.W.nsIn K mainGlobals "law" = some (some (.ref f32))) (l32:K.lookup f32=some ⟨oc32,od32,.func (PySem.W.fnOf "law" "law" (bB s_law) (aL s_law) (aE s_law) .none kV32 dc32 pm32 an32 cd32 ct32),sl32⟩) (c32:PySem.W.codeIn K cd32 "law" = true) (k32:PySem.W.keepIn K (.ref f32)=true)
  (z0:PySem.W.nsIn K mainGlobals "range" = some none)
  (z1:PySem.W.nsIn K mainGlobals "sum" = some none)
  (z2:PySem.W.nsIn K mainGlobals "zip" = some none)
  (z3:PySem.W.nsIn K mainGlobals "len" = some none)
  (z4:PySem.W.nsIn K mainGlobals "max" = some none)
  (z5:PySem.W.nsIn K mainGlobals "abs" = some none)
  (z6:PySem.W.nsIn K mainGlobals "tuple" = some none)
  (z7:PySem.W.nsIn K mainGlobals "min" = some none)
  (z8:PySem.W.nsIn K mainGlobals "int" = some none)
  (z9:PySem.W.nsIn K mainGlobals "isinstance" = some none)
  (z10:PySem.W.nsIn K mainGlobals "bool" = some none)
  (z11:PySem.W.nsIn K mainGlobals "reversed" = some none)
  (z12:PySem.W.nsIn K mainGlobals "list" = some none)
  (z13:PySem.W.nsIn K mainGlobals "sorted" = some none)
  (z14:PySem.W.nsIn K mainGlobals "set" = some none):TopF K mg :=
 ⟨⟨_,_,bN (st:=s__law_digit) l0 c0 k0,PySem.W.mg_of X G a0,wK (λ_ _ _=>rfl)⟩,
  ⟨_,_,bN (st:=s__law_mean) l1 c1 k1,PySem.W.mg_of X G a1,gE (λ_ _=>rfl)⟩,
  ⟨_,_,bN (st:=s__law_drawn) l2 c2 k2,PySem.W.mg_of X G a2,wK (λ_ _ _=>rfl)⟩,
  ⟨_,_,bN (st:=s__law_divisor) l3 c3 k3,PySem.W.mg_of X G a3,gE (λ_ _=>rfl)⟩,
  ⟨_,_,bN (st:=s__law_due) l4 c4 k4,PySem.W.mg_of X G a4,gE (λ_ _=>rfl)⟩,
  ⟨_,_,bN (st:=s__law_line) l5 c5 k5,PySem.W.mg_of X G a5,gE (λ_ _=>rfl)⟩,
  ⟨_,_,bN (st:=s__law_numbers) l6 c6 k6,PySem.W.mg_of X G a6,gE (λ_ _=>rfl)⟩,
  ⟨_,_,bN (st:=s__law_lies) l7 c7 k7,PySem.W.mg_of X G a7,gE (λ_ _=>rfl)⟩,
  ⟨_,_,bN (st:=s__law_inside) l8 c8 k8,PySem.W.mg_of X G a8,gE (λ_ _=>rfl)⟩,
  ⟨_,_,bN (st:=s__law_whole) l9 c9 k9,PySem.W.mg_of X G a9,mK (λ_=>rfl)⟩,
  ⟨_,_,bN (st:=s__law_numbers_whole) l10 c10 k10,PySem.W.mg_of X G a10,mK (λ_=>rfl)⟩,
  ⟨_,_,bN (st:=s__law_turn) l11 c11 k11,PySem.W.mg_of X G a11,wK (λ_ _ _=>rfl)⟩,
  ⟨_,_,bN (st:=s__law_is_piece) l12 c12 k12,PySem.W.mg_of X G a12,mK (λ_=>rfl)⟩,
  ⟨_,_,bN (st:=s__law_value) l13 c13 k13,PySem.W.mg_of X G a13,gE (λ_ _=>rfl)⟩,
  ⟨_,_,bN (st:=s__law_part) l14 c14 k14,PySem.W.mg_of X G a14,LV (λ_ _ _ _=>rfl)⟩,
  ⟨_,_,bN (st:=s__law_area) l15 c15 k15,PySem.W.mg_of X G a15,mK (λ_=>rfl)⟩,
  ⟨_,_,bN (st:=s__law_whole_area) l16 c16 k16,PySem.W.mg_of X G a16,gE (λ_ _=>rfl)⟩,
  ⟨_,_,bN (st:=s__law_right) l17 c17 k17,PySem.W.mg_of X G a17,LV (λ_ _ _ _=>rfl)⟩,
  ⟨_,_,bN (st:=s__law_rises) l18 c18 k18,PySem.W.mg_of X G a18,gE (λ_ _=>rfl)⟩,
  ⟨_,_,bN (st:=s__law_ring) l19 c19 k19,PySem.W.mg_of X G a19,gE (λ_ _=>rfl)⟩,
  ⟨_,_,bN (st:=s__law_share) l20 c20 k20,PySem.W.mg_of X G a20,mK (λ_=>rfl)⟩,
  ⟨_,_,bN (st:=s_excess) l21 c21 k21,PySem.W.mg_of X G a21,wK (λ_ _ _=>rfl)⟩,
  ⟨_,_,bN (st:=s_crossing) l22 c22 k22,PySem.W.mg_of X G a22,LV (λ_ _ _ _=>rfl)⟩,
  ⟨_,_,bN (st:=s_neighbours) l23 c23 k23,PySem.W.mg_of X G a23,mK (λ_=>rfl)⟩,
  ⟨_,_,bN (st:=s_points_within) l24 c24 k24,PySem.W.mg_of X G a24,gE (λ_ _=>rfl)⟩,
  ⟨_,_,bN (st:=s_turn) l25 c25 k25,PySem.W.mg_of X G a25,wK (λ_ _ _=>rfl)⟩,
  ⟨_,_,bN (st:=s_half_round) l26 c26 k26,PySem.W.mg_of X G a26,mK (λ_=>rfl)⟩,
  ⟨_,_,bN (st:=s_outline) l27 c27 k27,PySem.W.mg_of X G a27,mK (λ_=>rfl)⟩,
  ⟨_,_,bN (st:=s_shared_divisor) l28 c28 k28,PySem.W.mg_of X G a28,gE (λ_ _=>rfl)⟩,
  ⟨_,_,bN (st:=s_settled) l29 c29 k29,PySem.W.mg_of X G a29,gE (λ_ _=>rfl)⟩,
  ⟨_,_,bN (st:=s_part_within) l30 c30 k30,PySem.W.mg_of X G a30,gE (λ_ _=>rfl)⟩,
  ⟨_,_,bN (st:=s_cut) l31 c31 k31,PySem.W.mg_of X G a31,gE (λ_ _=>rfl)⟩,
  ⟨_,_,bN (st:=s_law) l32 c32 k32,PySem.W.mg_of X G a32,mK (λ_=>rfl)⟩,
  PySem.W.mg_none_of X G z0,
  PySem.W.mg_none_of X G z1,
  PySem.W.mg_none_of X G z2,
  PySem.W.mg_none_of X G z3,
  PySem.W.mg_none_of X G z4,
  PySem.W.mg_none_of X G z5,
  PySem.W.mg_none_of X G z6,
  PySem.W.mg_none_of X G z7,
  PySem.W.mg_none_of X G z8,
  PySem.W.mg_none_of X G z9,
  PySem.W.mg_none_of X G z10,
  PySem.W.mg_none_of X G z11,
  PySem.W.mg_none_of X G z12,
  PySem.W.mg_none_of X G z13,
  PySem.W.mg_none_of X G z14⟩
theorem law_fn {P:Program} {w:World} {K:PySem.W.Frag} {mg:Str->Option Value} {base:Heap} {f:Addr} {fd:FuncData} (T:TopF K mg) (Fu:Fun K "law" "law" s_law f fd):FnOk P w K mg base CX0 7 f fd ["_law_script"] (spD K (IN 63)):=by
 have Cf:=vR (P:=P) (w:=w) (base:=base) T.d__law_digit T.m_range (F:=sC) JO uK
 have Bj:=zQ (P:=P) (w:=w) (base:=base) T.d__law_mean Cf T.m_sum T.m_zip T.m_len T.m_max T.m_range (F:=sQ) NM wD
 have Ca:=vS (P:=P) (w:=w) (base:=base) T.d__law_drawn Bj T.m_len (F:=oB) ES qJ
 have Aw:=rP (P:=P) (w:=w) (base:=base) T.d__law_divisor T.m_abs (F:=qT) HM qI
 have Cm:=CK (P:=P) (w:=w) (base:=base) T.d__law_due Aw T.m_tuple T.m_min (F:=GF) QZ zW
 have Cj:=zP (P:=P) (w:=w) (base:=base) T.d__law_line (F:=xY) NL wC
 have Bx:=rQ (P:=P) (w:=w) (base:=base) T.d__law_numbers T.m_len T.m_min T.m_max T.m_range (F:=lX) BV qK
 have Ay:=zO (P:=P) (w:=w) (base:=base) T.d__law_lies T.m_int T.m_len T.m_range (F:=jC) EV rV
 have Bv:=uE (P:=P) (w:=w) (base:=base) T.d__law_inside Ay (F:=lB) EU rT
 have Br:=vX (P:=P) (w:=w) (base:=base) T.d__law_whole T.m_isinstance T.m_bool T.m_int (F:=sK) JY uN
 have Bc:=kZ (P:=P) (w:=w) (base:=base) T.d__law_numbers_whole Br T.m_len T.m_isinstance T.m_tuple (F:=oD) EW kJ
 have Cl:=zU (P:=P) (w:=w) (base:=base) T.d__law_turn (F:=sD) JQ wE
 have Bq:=qG (P:=P) (w:=w) (base:=base) T.d__law_is_piece Aw Bc Cl T.m_min T.m_len T.m_range (F:=GG) RB pA
 have Ba:=vW (P:=P) (w:=w) (base:=base) T.d__law_value (F:=oG) JW uM
 have Cd:=zR (P:=P) (w:=w) (base:=base) T.d__law_part Bq Ay Ba (F:=sG) JS rW
 have By:=zN (P:=P) (w:=w) (base:=base) T.d__law_area T.m_len T.m_range (F:=oC) JP wB
 have Bl:=nT (P:=P) (w:=w) (base:=base) T.d__law_whole_area By (F:=sJ) JX mI
 have Cg:=vT (P:=P) (w:=w) (base:=base) T.d__law_right Bv Ay Cd Ba Bl T.m_min T.m_max T.m_len T.m_isinstance T.m_tuple (F:=sH) JT qL
 have Cb:=vU (P:=P) (w:=w) (base:=base) T.d__law_rises T.m_range (F:=oF) JU uL
 have Ck:=zT (P:=P) (w:=w) (base:=base) T.d__law_ring Cb T.m_reversed T.m_max (F:=yA) NO rX
 have Ch:=vV (P:=P) (w:=w) (base:=base) T.d__law_share (F:=sI) JV qM
 have Cq:=KI (P:=P) (w:=w) (base:=base) T.d_excess (F:=cZ) ET CT
 have Cn:=CL (P:=P) (w:=w) (base:=base) T.d_crossing T.m_abs (F:=sA) JN wA
 have Ci:=vZ (P:=P) (w:=w) (base:=base) T.d_neighbours T.m_list T.m_zip (F:=sE) JR rZ
 have Bs:=qH (P:=P) (w:=w) (base:=base) T.d_points_within Cn Ci T.m_list T.m_zip (F:=oE) EX nV
 have Cr:=RN (P:=P) (w:=w) (base:=base) T.d_turn (F:=dU) NP KP
 have Cc:=vY (P:=P) (w:=w) (base:=base) T.d_half_round Cr T.m_len (F:=xX) NK rS
 have Co:=FI (P:=P) (w:=w) (base:=base) T.d_outline Cc T.m_list T.m_reversed T.m_sorted T.m_set (F:=cN) BW zX
 have Bf:=oW (P:=P) (w:=w) (base:=base) T.d_shared_divisor T.m_abs (F:=qT) HM mJ
 have Cp:=FJ (P:=P) (w:=w) (base:=base) T.d_settled Co Bf T.m_tuple T.m_len (F:=cO) BX zY
 have Bw:=uF (P:=P) (w:=w) (base:=base) T.d_part_within Cq Bs Cp T.m_min T.m_max (F:=xZ) NN qN
 have Cs:=VZ (P:=P) (w:=w) (base:=base) T.d_cut Bw (F:=iM) QY OO
 exact VE Ca Cm Cj Bj Bx Cg Ck Ch Cs (F:=IN 63) Fu RC OP
end K14
end L2.R2
open PySem PySem.W PyProof.Rows
set_option maxRecDepth 100000 in
set_option maxHeartbeats 0 in
theorem PySem.Challenge.cw_recut_k14_a_piece_cut_holds : PySem.Challenge.rw_recut_k14_a_piece_cut.Holds := by
 w_on;o_law;k_head;(case hw=>w_witness2)
 k_fill
 refine L2.R2.walk_law (l:=PySem.Challenge.rw_recut_k14_a_piece_cut) (k:=7) (x:="_law_script") rfl rfl ⟨rfl,by decide,by decide⟩ (λw h Y=>PySem.W.kIn_of Y) rfl ?F
 case F =>
  intro w mg h KX G
  have T:L2.R2.K14.TopF (L2.KOf KX) mg:=by
   dsimp only[L2.KOf]
   refine' L2.R2.K14.top_mk KX G ?a0 ?l0 ?c0 ?k0 ?a1 ?l1 ?c1 ?k1 ?a2 ?l2 ?c2 ?k2 ?a3 ?l3 ?c3 ?k3 ?a4 ?l4 ?c4 ?k4 ?a5 ?l5 ?c5 ?k5 ?a6 ?l6 ?c6 ?k6 ?a7 ?l7 ?c7 ?k7 ?a8 ?l8 ?c8 ?k8 ?a9 ?l9 ?c9 ?k9 ?a10 ?l10 ?c10 ?k10 ?a11 ?l11 ?c11 ?k11 ?a12 ?l12 ?c12 ?k12 ?a13 ?l13 ?c13 ?k13 ?a14 ?l14 ?c14 ?k14 ?a15 ?l15 ?c15 ?k15 ?a16 ?l16 ?c16 ?k16 ?a17 ?l17 ?c17 ?k17 ?a18 ?l18 ?c18 ?k18 ?a19 ?l19 ?c19 ?k19 ?a20 ?l20 ?c20 ?k20 ?a21 ?l21 ?c21 ?k21 ?a22 ?l22 ?c22 ?k22 ?a23 ?l23 ?c23 ?k23 ?a24 ?l24 ?c24 ?k24 ?a25 ?l25 ?c25 ?k25 ?a26 ?l26 ?c26 ?k26 ?a27 ?l27 ?c27 ?k27 ?a28 ?l28 ?c28 ?k28 ?a29 ?l29 ?c29 ?k29 ?a30 ?l30 ?c30 ?k30 ?a31 ?l31 ?c31 ?k31 ?a32 ?l32 ?c32 ?k32 ?z0 ?z1 ?z2 ?z3 ?z4 ?z5 ?z6 ?z7 ?z8 ?z9 ?z10 ?z11 ?z12 ?z13 ?z14
   (case a0=>k_is);(case l0=>k_is);(case c0=>k_is);(case k0=>k_is)
   (case a1=>k_is);(case l1=>k_is);(case c1=>k_is);(case k1=>k_is)
   (case a2=>k_is);(case l2=>k_is);(case c2=>k_is);(case k2=>k_is)
   (case a3=>k_is);(case l3=>k_is);(case c3=>k_is);(case k3=>k_is)
   (case a4=>k_is);(case l4=>k_is);(case c4=>k_is);(case k4=>k_is)
   (case a5=>k_is);(case l5=>k_is);(case c5=>k_is);(case k5=>k_is)
   (case a6=>k_is);(case l6=>k_is);(case c6=>k_is);(case k6=>k_is)
   (case a7=>k_is);(case l7=>k_is);(case c7=>k_is);(case k7=>k_is)
   (case a8=>k_is);(case l8=>k_is);(case c8=>k_is);(case k8=>k_is)
   (case a9=>k_is);(case l9=>k_is);(case c9=>k_is);(case k9=>k_is)
   (case a10=>k_is);(case l10=>k_is);(case c10=>k_is);(case k10=>k_is)
   (case a11=>k_is);(case l11=>k_is);(case c11=>k_is);(case k11=>k_is)
   (case a12=>k_is);(case l12=>k_is);(case c12=>k_is);(case k12=>k_is)
   (case a13=>k_is);(case l13=>k_is);(case c13=>k_is);(case k13=>k_is)
   (case a14=>k_is);(case l14=>k_is);(case c14=>k_is);(case k14=>k_is)
   (case a15=>k_is);(case l15=>k_is);(case c15=>k_is);(case k15=>k_is)
   (case a16=>k_is);(case l16=>k_is);(case c16=>k_is);(case k16=>k_is)
   (case a17=>k_is);(case l17=>k_is);(case c17=>k_is);(case k17=>k_is)
   (case a18=>k_is);(case l18=>k_is);(case c18=>k_is);(case k18=>k_is)
   (case a19=>k_is);(case l19=>k_is);(case c19=>k_is);(case k19=>k_is)
   (case a20=>k_is);(case l20=>k_is);(case c20=>k_is);(case k20=>k_is)
   (case a21=>k_is);(case l21=>k_is);(case c21=>k_is);(case k21=>k_is)
   (case a22=>k_is);(case l22=>k_is);(case c22=>k_is);(case k22=>k_is)
   (case a23=>k_is);(case l23=>k_is);(case c23=>k_is);(case k23=>k_is)
   (case a24=>k_is);(case l24=>k_is);(case c24=>k_is);(case k24=>k_is)
   (case a25=>k_is);(case l25=>k_is);(case c25=>k_is);(case k25=>k_is)
   (case a26=>k_is);(case l26=>k_is);(case c26=>k_is);(case k26=>k_is)
   (case a27=>k_is);(case l27=>k_is);(case c27=>k_is);(case k27=>k_is)
   (case a28=>k_is);(case l28=>k_is);(case c28=>k_is);(case k28=>k_is)
   (case a29=>k_is);(case l29=>k_is);(case c29=>k_is);(case k29=>k_is)
   (case a30=>k_is);(case l30=>k_is);(case c30=>k_is);(case k30=>k_is)
   (case a31=>k_is);(case l31=>k_is);(case c31=>k_is);(case k31=>k_is)
   (case a32=>k_is);(case l32=>k_is);(case c32=>k_is);(case k32=>k_is)
   (case z0=>k_is)
   (case z1=>k_is)
   (case z2=>k_is)
   (case z3=>k_is)
   (case z4=>k_is)
   (case z5=>k_is)
   (case z6=>k_is)
   (case z7=>k_is)
   (case z8=>k_is)
   (case z9=>k_is)
   (case z10=>k_is)
   (case z11=>k_is)
   (case z12=>k_is)
   (case z13=>k_is)
   (case z14=>k_is)
  exact T.d_law.okL λbase f fd Fu=>L2.R2.K14.law_fn T Fu

import PyProof.Rows.All
import Wide.All
import OpenK.AllK
import Wide.FinOn
import Lean
import PyProof.EqAt
import PyProof.EqKinds
import PyProof.TupleCall
import PySem.Challenge.RW_recut_k11_a_piece_of_spots
set_option compiler.extract_closed false
local macro_rules | `(tactic| omega)=>`(tactic| lia)
local macro_rules | `(tactic| walk_at "vis")=>`(tactic| first | exact Or.inl rfl | exact Or.inr (Or.inl rfl) | exact Or.inr (Or.inr rfl) | exact Or.inr rfl)
local macro_rules | `(tactic| walk_at "loc")=>`(tactic| first | exact .inl rfl | exact .inr rfl | assumption)
set_option Elab.async false
set_option linter.all false
set_option maxRecDepth 100000
namespace L2
open PySem PySem.Spec PyProof.Rows
noncomputable abbrev Key:=Sum Int Str
noncomputable def KK:Key->Value->Bool
 | .inl k,v=>Value.isInt k v
 | .inr x,v=>Value.isStrOf x v
noncomputable def RL (w:World):Key->Int
 | .inl k=>hashInt k
 | .inr x=>hashStr w x
theorem bZ:∀{k:Key} {v:Value},KK k v=true->(∃i t,k=Sum.inl i/\v=Value.int i t)\/(∃x t,k=Sum.inr x/\v=Value.str x t)
 | .inl i,v,h=>by
  obtain⟨t,e⟩:=Value.isInt_shape (k:=i) (v:=v) h
  exact .inl ⟨i,t,rfl,e⟩
 | .inr x,v,h=>by
  obtain⟨t,e⟩:=Value.isStrOf_shape (x:=x) (v:=v) h
  exact .inr ⟨x,t,rfl,e⟩
theorem MA (a b:Int):decide ((Sum.inl a:Key)=Sum.inl b)=(a == b):=by
 by_cases e:a=b
 ·subst e;simp
 ·have h:¬(Sum.inl a:Key)=Sum.inl b:=λq=>e (Sum.inl.inj q)
  rw[decide_eq_false h]
  exact (beq_eq_false_iff_ne.mpr e).symm
theorem MD (a b:Str):decide ((Sum.inr a:Key)=Sum.inr b)=decide (a=b):=by
 by_cases e:a=b
 ·subst e;simp
 ·have h:¬(Sum.inr a:Key)=Sum.inr b:=λq=>e (Sum.inr.inj q)
  rw[decide_eq_false h,decide_eq_false e]
theorem MB (a:Int) (b:Str):decide ((Sum.inl a:Key)=Sum.inr b)=false:=decide_eq_false (λq=>nomatch q)
theorem MC (a:Str) (b:Int):decide ((Sum.inr a:Key)=Sum.inl b)=false:=decide_eq_false (λq=>nomatch q)
noncomputable def AJ (prog:Program) (w:World):PySem.KeyKind prog w Key where
 is:=KK
 hash:=RL w
 inj:=λv a b ha hb=>by
  rcases bZ ha with ⟨i,t,rfl,rfl⟩ | ⟨x,t,rfl,rfl⟩
  ·rcases bZ hb with ⟨j,u,rfl,e⟩ | ⟨y,u,rfl,e⟩
   ·injection e with e1 _;rw[e1]
   ·exact nomatch e
  ·rcases bZ hb with ⟨j,u,rfl,e⟩ | ⟨y,u,rfl,e⟩
   ·exact nomatch e
   ·injection e with e1 _;rw[e1]
 byValue:=λk v h=>by
  rcases bZ h with ⟨i,t,rfl,rfl⟩ | ⟨x,t,rfl,rfl⟩ <;> rfl
 pyHash:=λhv h=>by
  rcases bZ hv with ⟨i,t,rfl,rfl⟩ | ⟨x,t,rfl,rfl⟩
  ·exact wpAny_pyHash_int h
  ·exact wpAny_pyHash_str h
 eqBool:=λhu hv h=>by
  rcases bZ hu with ⟨i,t,rfl,rfl⟩ | ⟨x,t,rfl,rfl⟩
  ·rcases bZ hv with ⟨j,u,rfl,rfl⟩ | ⟨y,u,rfl,rfl⟩
   ·rw[MA] at h;exact wpAny_eqBool_int h
   ·rw[MB] at h;exact SeqAt.EqAt.int_str i t y u _ _ _ _ h
  ·rcases bZ hv with ⟨j,u,rfl,rfl⟩ | ⟨y,u,rfl,rfl⟩
   ·rw[MC] at h;exact SeqAt.EqAt.str_int x t j u _ _ _ _ h
   ·rw[MD] at h;exact wpAny_eqBool_str h
 «strs»:=λk x t v h=>by
  rcases bZ h with ⟨i,u,rfl,e⟩ | ⟨y,u,rfl,e⟩
  ·exact nomatch e
  ·injection e with e1 _
   subst e1
   cases v <;> rfl
end L2
namespace L2
open PySem PySem.Spec PyProof.Rows
inductive V where
 | non | bl (b:Bool) | int (i:Int) | str (x:Str) | byt (b:Array UInt8) | flt (b:UInt64) | ref (a:Addr) | ty (n:String)
 deriving DecidableEq
noncomputable def RelV:V->Value->Prop
 | .non,u=>u=Value.none
 | .bl b,u=>u=Value.bool b
 | .int i,u=>∃t,u=Value.int i t
 | .str x,u=>∃t,u=Value.str x t
 | .byt b,u=>∃t,u=Value.bytes b t
 | .flt b,u=>∃t,u=Value.float b t
 | .ref a,u=>u=Value.ref a
 | .ty n,u=>u=Value.type n
noncomputable abbrev Vals:List V->List Value->Prop:=Paired RelV
theorem Vals.length {xs:List V} {us:List Value} (r:Vals xs us):xs.length=us.length:=Paired.length r
theorem Vals.get:∀{xs:List V} {us:List Value} {i:Nat} {x:V},Vals xs us->xs[i]? = some x->∃u,us[i]? = some u/\RelV x u
 | _,_,_,_,.nil,e=>by simp at e
 | _,_,0,_,.cons r _,e=>by simp at e;subst e;exact⟨_,rfl,r⟩
 | _,_,i+1,x,.cons _ t,e=>by
  obtain⟨u,h1,h2⟩:=Vals.get (i:=i) (x:=x) t (by simpa using e)
  exact⟨u,by simpa using h1,h2⟩
theorem Vals.set {x:V} {u:Value} (r:RelV x u):∀{xs:List V} {us:List Value} (i:Nat),Vals xs us->Vals (xs.set i x) (us.set i u)
 | _,_,_,.nil=>.nil
 | _,_,0,.cons _ t=>.cons r t
 | _,_,i+1,.cons q t=>.cons q (Vals.set r i t)
theorem Vals.append:∀{xs ys:List V} {us ws:List Value},Vals xs us->Vals ys ws->Vals (xs++ys) (us++ws)
 | _,_,_,_,.nil,s=>s
 | _,_,_,_,.cons r t,s=>.cons r (Vals.append t s)
theorem Vals.take:∀{xs:List V} {us:List Value} (n:Nat),Vals xs us->Vals (xs.take n) (us.take n)
 | _,_,0,_=>.nil
 | _,_,_+1,.nil=>.nil
 | _,_,n+1,.cons r t=>.cons r (Vals.take n t)
theorem Vals.drop:∀{xs:List V} {us:List Value} (n:Nat),Vals xs us->Vals (xs.drop n) (us.drop n)
 | _,_,0,r=>r
 | _,_,_+1,.nil=>.nil
 | _,_,n+1,.cons _ t=>Vals.drop n t
noncomputable def RelO:Option V->Option Value->Prop
 | some v,some u=>RelV v u
 | none,none=>True
 | _,_=>False
noncomputable def KV {κ:Type}:List (κ × V)->List (κ × Value)->Prop:=Paired λ(p:κ × V) (q:κ × Value)=>p.1=q.1/\RelV p.2 q.2
noncomputable def kV:Key->V
 | .inl i=>.int i
 | .inr x=>.str x
inductive HO where
  | lst (xs:List V)
  | tup (xs:List V)
  | dK (kvs:List (Key × V)) | dT (kvs:List (List Key × V))
  | set (S:Int->Bool) (n:Nat)
  | ins (C dx:Addr) (fs:List (Str × V))
  | own (x:Addr)
  | xd (fs:List (Str × V))
  | met (f x:Addr)
  | rng (lo hi:Int)
  | frz (o:Obj) (u:HO)
  | tbl (ps:Array Value)
  | ext (φ:Heap->Prop)
noncomputable abbrev Hp:=Addr->Option HO
noncomputable def upd (H:Hp) (a:Addr) (o:HO):Hp:=λb=>if b=a then some o else H b
theorem bJ {H:Hp} {a:Addr} {o:HO}:upd H a o a=some o:=by unfold upd;rw[if_pos rfl]
theorem aI {H:Hp} {a b:Addr} {o:HO} (h:b≠a):upd H a o b=H b:=by unfold upd;rw[if_neg h]
theorem dJ {H:Hp} {a b:Addr} {o u:HO} (h:H a=some o) (h':H b=some u) (d:o≠u):a≠b:=by
 intro e;subst e;rw[h] at h';exact d (Option.some.inj h')
theorem aR {H:Hp} {a b:Addr} {o:HO} (h:H a=some o) (h':H b=none):a≠b:=by
 intro e;subst e;rw[h] at h';cases h'
section
variable (P:Program) (w:World)
noncomputable def ObjOk (H:Hp) (h:Heap) (a:Addr):HO->Prop
 | .lst xs=>xs.length<=sizeLine/\∃(its:List Value) (n:Nat),Vals xs its/\h.get? a=some { cls:=.type "list",data:=.seq its.toArray n }
 | .tup xs=>xs.length<=sizeLine/\∃its:List Value,Vals xs its/\IsTup h a its.toArray
 | .dK kvs=>kvs.length<=sizeLine/\(a == sysModules)=false/\∃vs,KV kvs vs/\h.DictOf (AJ P w) a vs
 | .dT kvs=>kvs.length<=sizeLine/\(a == sysModules)=false/\∃xs:List (List Key × Addr × Value),
   Paired (λ(p:List Key × V) (q:List Key × Addr × Value)=>p.1=q.1/\H q.2.1=some (.tup (p.1.map kV))/\RelV p.2 q.2.2) kvs xs /\
   ∃o es ep,h.get? a=some o/\o.ExactDict/\o.data = .dict es ep/\es.toList=xs.map (entryOfKey (tupleKind (AJ P w)))/\(xs.map (·.1)).Nodup
 | .set S n=>h.SetOf (intKind P w) a S n
 | .ins C dx fs=>H dx=some (.own a)/\fs.length<=1000/\dx≠a/\h.get? a=some (PySem.W.instObj C dx) /\
   ∃mA,h.Ns1 dx mA/\(∀f,RelO (fs.lookup f) (mA f))/\PySem.Within mA (fs.map (·.1))
 | .own _=>∃o,h.get? a=some o
 | .xd fs=>∃mA,h.Ns1 a mA/\∀f,RelO (fs.lookup f) (mA f)
 | .rng lo hi=>∃t u v,h.get? a=some { cls:=.type "range",data:=.fields #[.int lo t,.int hi u,.int 1 v] }
 | .frz o u=>h.get? a=some o/\ObjOk H h a u
 | .tbl ps=>h.get? a=some { cls:=.none,data:=.fields ps }
 | .met f x=>h.get? a=some (PySem.W.methodObj (.ref f) (.ref x))
 | .ext φ=>φ h/\(∃o,h.get? a=some o)/\∀h1 h2:Heap,φ h1->(∀o,h1.get? a=some o->h2.get? a=some o)->φ h2
noncomputable def HOk (H:Hp) (h:Heap):Prop:=∀a o,H a=some o->ObjOk P w H h a o
end
section
variable {P:Program} {w:World} {H H':Hp} {h h':Heap} {a:Addr} {o:HO}
theorem ObjOk.lt (x:ObjOk P w H h a o):a<h.objs.size:=by
 cases o with
 | lst xs=>obtain⟨_,_,_,_,e⟩:=x;exact Heap.lt_size e
 | tup xs=>obtain⟨_,_,_,p⟩:=x;exact p.lt
 | dK kvs=>obtain⟨_,_,_,_,o,_,_,e,_⟩:=x;exact Heap.lt_size e
 | dT kvs=>obtain⟨_,_,_,_,o,_,_,e,_⟩:=x;exact Heap.lt_size e
 | set S n=>obtain⟨o,_,_,_,e,_⟩:=x;exact Heap.lt_size e
 | ins C dx fs=>obtain⟨_,_,_,e,_⟩:=x;exact Heap.lt_size e
 | own y=>obtain⟨_,e⟩:=x;exact Heap.lt_size e
 | xd fs=>obtain⟨_,⟨_,_,_,e,_⟩,_⟩:=x;exact Heap.lt_size e
 | rng lo hi=>obtain⟨_,_,_,e⟩:=x;exact Heap.lt_size e
 | frz ob u=>obtain⟨e,_⟩:=x;exact Heap.lt_size e
 | tbl ps=>exact Heap.lt_size (show h.get? a=some _ from x)
 | met f y=>exact Heap.lt_size (show h.get? a=some _ from x)
 | ext φ=>obtain⟨_,⟨_,e⟩,_⟩:=x;exact Heap.lt_size e
theorem Paired.mapP {α β:Type} {F G:α->β->Prop}:∀{l₁:List α} {l₂:List β},Paired F l₁ l₂->(∀a b,F a b->G a b)->Paired G l₁ l₂
 | _,_,.nil,_=>.nil
 | _,_,.cons r t,f=>.cons (f _ _ r) (Paired.mapP t f)
theorem ObjOk.stay (x:ObjOk P w H h a o) (k:∀b u,(b=a\/H b=some (.own a))->h.get? b=some u->h'.get? b=some u)
  (ho:∀b,H b=some (.own a)->H' b=some (.own a)) (ht:∀b xs,H b=some (.tup xs)->H' b=some (.tup xs)):ObjOk P w H' h' a o:=by
 induction o with
 | lst xs=>obtain⟨z,its,n,r,e⟩:=x;exact⟨z,its,n,r,k _ _ (.inl rfl) e⟩
 | tup xs=>obtain⟨z,its,r,ob,e,c⟩:=x;exact⟨z,its,r,ob,k _ _ (.inl rfl) e,c⟩
 | dK kvs=>obtain⟨z,y,vs,r,ob,es,ep,e,c⟩:=x;exact⟨z,y,vs,r,ob,es,ep,k _ _ (.inl rfl) e,c⟩
 | dT kvs =>
  obtain⟨z,y,xs,r,ob,es,ep,e,c⟩:=x
  exact⟨z,y,xs,Paired.mapP r λp q z=>⟨z.1,ht _ _ z.2.1,z.2.2⟩,ob,es,ep,k _ _ (.inl rfl) e,c⟩
 | set S n=>obtain⟨ob,es,ep,t,e,c⟩:=x;exact⟨ob,es,ep,t,k _ _ (.inl rfl) e,c⟩
 | ins C dx fs =>
  obtain⟨d,z,ne,e,mA,⟨od,es,ep,e2,c⟩,r⟩:=x
  exact⟨ho _ d,z,ne,k _ _ (.inl rfl) e,mA,⟨od,es,ep,k _ _ (.inr d) e2,c⟩,r⟩
 | own y=>obtain⟨ob,e⟩:=x;exact⟨ob,k _ _ (.inl rfl) e⟩
 | xd fs=>obtain⟨mA,⟨od,es,ep,e,c⟩,r⟩:=x;exact⟨mA,⟨od,es,ep,k _ _ (.inl rfl) e,c⟩,r⟩
 | rng lo hi=>obtain⟨t,u,v,e⟩:=x;exact⟨t,u,v,k _ _ (.inl rfl) e⟩
 | frz ob u ih=>obtain⟨e,q⟩:=x;exact⟨k _ _ (.inl rfl) e,ih q⟩
 | tbl ps =>
  have e:h.get? a=some { cls:=.none,data:=.fields ps }:=x
  show h'.get? a=some { cls:=.none,data:=.fields ps }
  exact k a _ (.inl rfl) e
 | met f y =>
  have e:h.get? a=some (PySem.W.methodObj (.ref f) (.ref y)):=x
  show h'.get? a=some (PySem.W.methodObj (.ref f) (.ref y))
  exact k a _ (.inl rfl) e
 | ext φ=>obtain⟨p,⟨o,e⟩,st⟩:=x;exact⟨st _ _ p λo q=>k _ _ (.inl rfl) q,⟨o,k _ _ (.inl rfl) e⟩,st⟩
theorem HOk.lt (x:HOk P w H h) (e:H a=some o):a<h.objs.size:=(x a o e).lt
theorem HOk.fresh (x:HOk P w H h) (e:h.objs.size<=a):H a=none:=by
 cases q:H a with
 | none=>rfl
 | some u=>exact absurd (Nat.lt_of_lt_of_le (x.lt q) e) (Nat.lt_irrefl _)
theorem HOk.kept (x:HOk P w H h) (k:∀b u,h.get? b=some u->h'.get? b=some u):HOk P w H h':=λa o e =>
 (x a o e).stay (λb u _ q=>k b u q) (λ_ q=>q) λ_ _ q=>q
theorem HOk.laid (x:HOk P w H h) (k:∀b u,h.get? b=some u->h'.get? b=some u) (hp:h.objs.size<=a) (new:ObjOk P w (upd H a o) h' a o):HOk P w (upd H a o) h':=λb u e=>by
 have hn:=x.fresh hp
 by_cases hb:b=a
 ·subst hb;rw[bJ] at e;cases e;exact new
 ·rw[aI hb] at e
  exact (x b u e).stay (λc v _ q=>k c v q) (λc q=>by rw[aI (aR q hn)];exact q) λc xs q=>by rw[aI (aR q hn)];exact q
end
noncomputable def Rd (H:Hp) (a:Addr) (u:HO):Prop:=H a=some u\/∃o,H a=some (.frz o u)
theorem Rd.ok {P:Program} {w:World} {H:Hp} {h:Heap} {a:Addr} {u:HO} (r:Rd H a u) (x:HOk P w H h):ObjOk P w H h a u:=by
 rcases r with r | ⟨o,r⟩
 ·exact x a u r
 ·obtain⟨_,q⟩:=x a _ r
  exact q
noncomputable def Mut:Option HO->Prop
 | some (.lst _)=>True
 | some (.dK _)=>True
 | some (.dT _)=>True
 | some (.set _ _)=>True
 | some (.ins _ _ _)=>True
 | some (.ext _)=>True
 | _=>False
section
variable {P:Program} {w:World} {H:Hp} {h h':Heap} {x e:Addr} {o':HO}
theorem HOk.write (ok:HOk P w H h) (mu:Mut (H x)) (he:e=x\/H e=some (.own x)) (k:∀b u,b≠e->h.get? b=some u->h'.get? b=some u) (heo:∃u,h'.get? e=some u)
  (new:ObjOk P w (upd H x o') h' x o'):HOk P w (upd H x o') h':=λb u q=>by
 have nown:∀c y,H c=some (.own y)->c≠x:=λc y r z=>by subst z;rw[r] at mu;exact mu
 have ntup:∀c xs,H c=some (.tup xs)->c≠x:=λc xs r z=>by subst z;rw[r] at mu;exact mu
 by_cases hb:b=x
 ·subst hb;rw[bJ] at q;cases q;exact new
 ·rw[aI hb] at q
  by_cases hbe:b=e
  ·have q':H b=some (.own x):=by
    rcases he with z | z
    ·exact absurd (hbe.trans z) hb
    ·rw[hbe];exact z
   rw[q] at q';cases q'
   obtain⟨v,hv⟩:=heo
   exact⟨v,by rw[hbe];exact hv⟩
  ·refine (ok b u q).stay (λc v hc r=>k c v ?_ r) (λc r=>by rw[aI (nown c b r)];exact r) λc xs r=>by rw[aI (ntup c xs r)];exact r
   rcases hc with rfl | hc
   ·exact hbe
   ·rintro rfl
    rcases he with z | z
    ·exact nown c b hc z
    ·rw[hc] at z;cases z;exact hb rfl
end
structure Un (fs ex:List Addr) (H H':Hp) (h h':Heap):Prop where
 keep:∀b o,h.get? b=some o->H b=none->b ∉ fs->b ∉ ex->h'.get? b=some o
 slot:∀b o,h.get? b=some o->H b=none->b∈fs->b ∉ ex->∃sl,h'.get? b=some { o with slots:=sl }
 free:∀b o,h.get? b=some o->H b=none->b ∉ ex->H' b=none
 there:∀b o,h.get? b=some o->b ∉ ex->∃o',h'.get? b=some o'
 tups:∀b xs,H b=some (.tup xs)->H' b=some (.tup xs)
 frzs:∀b o u,H b=some (.frz o u)->H' b=some (.frz o u)
 tbls:∀b ps,H b=some (.tbl ps)->∃more,H' b=some (.tbl (ps++more))
section
variable {fs fs' ex ex':List Addr} {H H1 H2:Hp} {h h1 h2 h':Heap} {a x e:Addr} {o:HO}
theorem Un.any (u:Un fs ex H H1 h h1) {b:Addr} {ob:Obj} (q:h.get? b=some ob) (n:H b=none) (hx:b ∉ ex):∃sl,h1.get? b=some { ob with slots:=sl }:=by
 by_cases hb:b∈fs
 ·exact u.slot b ob q n hb hx
 ·exact⟨ob.slots,u.keep b ob q n hb hx⟩
theorem Un.kept (k:∀b u,h.get? b=some u->h'.get? b=some u):Un fs ex H H h h' :=
 ⟨λb ob q _ _ _=>k b ob q,λb ob q _ _ _=>⟨ob.slots,k b ob q⟩,λ_ _ _ n _=>n,λb ob q _=>⟨ob,k b ob q⟩,λ_ _ q=>q,λ_ _ _ q=>q,λ_ ps q=>⟨#[],by rw[q];simp⟩⟩
theorem Un.refl:Un fs ex H H h h:=Un.kept λ_ _ q=>q
theorem Un.laid (k:∀b u,h.get? b=some u->h'.get? b=some u) (hp:h.objs.size<=a) (hn:H a=none):Un fs ex H (upd H a o) h h' where
 keep:=λb u q _ _ _=>k b u q
 slot:=λb u q _ _ _=>⟨u.slots,k b u q⟩
 free:=λb u q n _=>by rw[aI (Nat.ne_of_lt (Nat.lt_of_lt_of_le (Heap.lt_size q) hp))];exact n
 there:=λb u q _=>⟨u,k b u q⟩
 tups:=λb xs q=>by rw[aI (aR q hn)];exact q
 frzs:=λb u xs q=>by rw[aI (aR q hn)];exact q
 tbls:=λb ps q=>⟨#[],by rw[aI (aR q hn),q];simp⟩
theorem Un.write (mu:Mut (H x)) (he:e=x\/H e=some (.own x)) (k:∀b u,b≠e->h.get? b=some u->h'.get? b=some u) (heo:∃u,h'.get? e=some u):Un fs ex H (upd H x o) h h':=by
 have hx:∀b,H b=none->b≠x:=λb n z=>by subst z;rw[n] at mu;exact mu
 have hb:∀b,H b=none->b≠e:=λb n z=>by
  subst z
  rcases he with r | r
  ·exact hx b n r
  ·rw[n] at r;cases r
 have hm:∀b u,H b=some u->¬Mut (some u)->b≠x:=λb u q nm z=>by subst z;rw[q] at mu;exact nm mu
 refine⟨λb u q n _ _=>k b u (hb b n) q,λb u q n _ _=>⟨u.slots,k b u (hb b n) q⟩,λb u q n _=>by rw[aI (hx b n)];exact n,λb u q _=>?_,
  λb xs q=>by rw[aI (hm b _ q λz=>z)];exact q,λb u xs q=>by rw[aI (hm b _ q λz=>z)];exact q,λb ps q=>⟨#[],by rw[aI (hm b _ q λz=>z),q];simp⟩⟩
 by_cases hbe:b=e
 ·subst hbe;exact heo
 ·exact⟨u,k b u hbe q⟩
theorem Un.mono (u:Un fs ex H H1 h h1) (hs:∀b∈fs,b∈fs') (hx:∀b∈ex,b∈ex'):Un fs' ex' H H1 h h1 :=
 ⟨λb ob q n hb he=>u.keep b ob q n (λz=>hb (hs b z)) λz=>he (hx b z),λ_ _ q n _ he=>u.any q n λz=>he (hx _ z),λb ob q n he=>u.free b ob q n λz=>he (hx b z),λb ob q he=>u.there b ob q λz=>he (hx b z),u.tups,u.frzs,u.tbls⟩
end
noncomputable def trk (h:Heap) (H:Hp):List Addr:=(List.range h.objs.size).filter λa=>(H a).isSome
noncomputable def tM (h:Heap) (H:Hp):Heap:=PySem.W.hideAll h (trk h H)
theorem BQ (h:Heap) (H:Hp):(tM h H).objs.size=h.objs.size:=PySem.W.hideAll_size _ _
theorem FM {h:Heap} {H:Hp} {b:Addr} {o:Obj} (e:h.get? b=some o) (n:H b=none):(tM h H).get? b=some o :=
 PySem.W.hideAll_get _ e λhm=>by
  have q:(H b).isSome=true:=(List.mem_filter.mp hm).2
  rw[n] at q;simp at q
theorem IZ {h:Heap} {H:Hp} {b:Addr} {o:Obj} (e:(tM h H).get? b=some o):h.get? b=some o/\H b=none:=by
 have e':h.get? b=some o:=PySem.W.of_hideAll (trk h H) e
 refine⟨e',?_⟩
 cases q:H b with
 | none=>rfl
 | some x =>
  have hm:b∈trk h H:=List.mem_filter.mpr ⟨List.mem_range.mpr (Heap.lt_size e'),by simp[q]⟩
  have z:(tM h H).get? b=none:=PySem.W.hideAll_none (trk h H) hm
  rw[z] at e;cases e
noncomputable def HS (g h:Heap) (L:Addr):List (Addr × Obj):=(List.range h.objs.size).filterMap λa=>if a=L\/(g.get? a).isSome=true then none else (h.get? a).map λo=>(a,o)
noncomputable def rest (g h:Heap) (L d:Addr):List (Addr × Obj):=(HS g h L).filter λp=>decide (p.1≠d)
end L2
namespace L2
open PySem PySem.Spec PyProof.Rows
structure Mod (K:PySem.W.Frag) (mg:Str->Option Value) (base:Heap):Prop where
 kin:K.In base
 glob:base.Ns mainGlobals mg
 blt:∃mb,base.Ns builtinsNs mb/\∀x:Str,x≠"__name__"->mb x=bootBuiltins x
 nolimit:base.NoLimit
structure Cx where
 prog:Program
 w:World
 K:PySem.W.Frag
 mg:Str->Option Value
 base:Heap
 A:Around
 N:List Str
 s₀:Shared
 H₀:Hp
 env:Env
 outer:List Env
 stack:List Env
 ex:List Addr
 fn:Str->Bool
 calm:Bool
 pn:List (Addr × Obj)
 xe:Value->Shared->Prop
noncomputable def frs (l:List Env):List Addr:=l.filterMap (·.frame)
noncomputable abbrev Cx.fs (X:Cx):List Addr:=frs X.outer
noncomputable def Vis (sc:Scope) (x:Str):Prop:=sc.names.lookup x=some .local\/sc.names.lookup x=some .cell\/sc.names.lookup x=some .free
noncomputable def Loc (sc:Scope) (x:Str):Prop:=sc.names.lookup x=some .local\/sc.names.lookup x=some .cell
noncomputable def QW (env:Env) (h:Heap) (m:Str->Option Value) (x:Str) (u:Value):Prop :=
 (env.kindOf x=some .local/\m x=some u)\/((env.kindOf x=some .cell\/env.kindOf x=some .free)/\∃c,env.cells.lookup x=some c/\h.IsCell c (some u))
structure Cx.Ok (X:Cx):Prop where
 mod:Mod X.K X.mg X.base
 kind:X.env.scope.kind = .function
 glob:X.env.globals=mainGlobals
 blt:X.env.builtins=builtinsNs
 above:X.s₀.heap.objs.size<=X.env.locals
 inj:∀x y c,X.env.cells.lookup x=some c->X.env.cells.lookup y=some c->x=y
 has:∀x,(X.env.kindOf x=some .cell\/X.env.kindOf x=some .free)->∃c,X.env.cells.lookup x=some c
 cab:∀x c,X.fn x=true->X.env.cells.lookup x=some c->X.s₀.heap.objs.size<=c
 hd:X.calm=true->X.A.handled=none
 frames:X.A.frames=some X.stack
 stk:X.stack=X.outer\/(X.stack=X.env::X.outer/\X.env.frame=some X.env.locals)
 exf:∀b∈X.ex,b≠X.env.locals/\∀x c,X.env.cells.lookup x=some c->c≠b
 bs:∀b o,X.base.get? b=some o->X.s₀.heap.get? b=some o/\X.H₀ b=none
 bsz:X.base.objs.size<=X.s₀.heap.objs.size
 noex:∀b o,X.base.get? b=some o->b ∉ X.ex
 exfs:∀b∈X.ex,b ∉ X.fs
 funs:X.s₀.heap.FunFrames X.base X.outer
 frf:∀b∈X.fs,X.H₀ b=none
structure Inv (X:Cx) (pins:List (Addr × Obj)) (σ:List (Option V)) (H:Hp) (s:Shared):Prop where
 ok:X.Ok
 os:s.os=X.s₀.os
 bare:AllBare s.gens
 base:Un X.fs X.ex X.H₀ H X.s₀.heap s.heap
 loc:∃m,s.heap.Ns X.env.locals m/\∀(i:Nat) (x:Str) (v:V),X.N[i]? = some x->σ[i]? = some (some v)->Vis X.env.scope x->∃u,RelV v u/\QW X.env s.heap m x u
 cell:∀x c,X.env.cells.lookup x=some c->∃v,s.heap.IsCell c v
 free:H X.env.locals=none
 freeC:∀x c,X.env.cells.lookup x=some c->H c=none
 pin:∀p∈X.pn++pins,s.heap.get? p.1=some p.2/\H p.1=none/\p.1≠X.env.locals/\p.1 ∉ X.fs/\∀v,p.2.data≠.cell v
 hok:HOk X.prog X.w H s.heap
 len:σ.length=X.N.length
section
variable {X:Cx} {pins:List (Addr × Obj)} {σ:List (Option V)} {H H':Hp} {s:Shared} {h':Heap}
theorem Cx.Ok.nofr (ok:X.Ok) {b:Addr} {o:Obj} (e:X.base.get? b=some o):b ∉ X.fs:=λhb=>by
 have:=(ok.funs.mem hb).1
 rw[e] at this;cases this
theorem Inv.bs (I:Inv X pins σ H s):∀b o,X.base.get? b=some o->s.heap.get? b=some o/\H b=none:=λb o e =>
 ⟨I.base.keep b o (I.ok.bs b o e).1 (I.ok.bs b o e).2 (I.ok.nofr e) (I.ok.noex b o e),I.base.free b o (I.ok.bs b o e).1 (I.ok.bs b o e).2 (I.ok.noex b o e)⟩
theorem Inv.bk (I:Inv X pins σ H s):∀b o,X.base.get? b=some o->s.heap.get? b=some o:=λb o e=>(I.bs b o e).1
theorem Inv.mod (I:Inv X pins σ H s):Mod X.K X.mg X.base:=I.ok.mod
theorem Inv.kIn (I:Inv X pins σ H s):X.K.In s.heap:=I.ok.mod.kin.keeps I.bk
theorem Inv.lt (I:Inv X pins σ H s):X.env.locals<s.heap.objs.size:=let ⟨_,hn,_⟩:=I.loc;hn.lt
theorem Inv.sz (I:Inv X pins σ H s):X.s₀.heap.objs.size<=s.heap.objs.size:=Nat.le_trans I.ok.above (Nat.le_of_lt I.lt)
theorem Inv.nofs (I:Inv X pins σ H s) {a:Addr} (h:s.heap.objs.size<=a):a ∉ X.fs:=λhb=>by
 obtain⟨_,o,ho,_⟩:=I.ok.funs.mem hb
 exact absurd (Nat.lt_of_lt_of_le (Heap.lt_size ho) (Nat.le_trans I.sz h)) (Nat.lt_irrefl _)
theorem Inv.cne (I:Inv X pins σ H s):∀x c,X.env.cells.lookup x=some c->c≠X.env.locals:=λx c e z=>by
 obtain⟨v,o,ho,hd⟩:=I.cell x c e
 obtain⟨m,⟨o',es,ep,ho',hd',_⟩,_⟩:=I.loc
 rw[z,ho'] at ho;cases ho;rw[hd'] at hd;cases hd
theorem Inv.funs (I:Inv X pins σ H s):s.heap.FunFrames X.base X.outer:=by
 have all:∀(l:List Env),(∀b∈frs l,b∈X.fs)->X.s₀.heap.FunFrames X.base l->s.heap.FunFrames X.base l:=by
  intro l
  induction l with
  | nil=>intro _ _;trivial
  | cons env r ih =>
   intro hs hl
   obtain⟨hk,⟨L,o,hf,hn,ho,hd⟩,hr⟩:=hl
   have hL:L∈X.fs:=hs L (by unfold frs;rw[List.filterMap_cons,hf];exact List.mem_cons_self)
   obtain⟨sl,e⟩:=I.base.slot L o ho (I.ok.frf L hL) hL λz=>I.ok.exfs L z hL
   exact⟨hk,⟨L,_,hf,hn,e,hd⟩,ih (λb hb=>hs b (by unfold frs;rw[List.filterMap_cons,hf];exact List.mem_cons_of_mem _ hb)) hr⟩
 exact all X.outer (λ_ hb=>hb) I.ok.funs
theorem Inv.stack (I:Inv X pins σ H s):s.heap.FunFrames X.base X.stack:=by
 rcases I.ok.stk with e | ⟨e,hf⟩
 ·rw[e];exact I.funs
 ·rw[e]
  obtain⟨m,hn,_⟩:=I.loc
  refine .cons (by rw[I.ok.kind];decide) hf hn ?_ I.funs
  exact Heap.get?_none_of_le (Nat.le_trans I.ok.bsz I.ok.above)
theorem Inv.stkSub (I:Inv X pins σ H s):∀b∈frs X.stack,b∈X.env.locals::X.fs:=λb hb=>by
 rcases I.ok.stk with e | ⟨e,hf⟩
 ·rw[e] at hb;exact List.mem_cons_of_mem _ hb
 ·rw[e] at hb
  unfold frs at hb
  rw[List.filterMap_cons,hf] at hb
  exact hb
theorem Inv.stkFree (I:Inv X pins σ H s):∀b∈frs X.stack,H b=none:=λb hb=>by
 rcases List.mem_cons.mp (I.stkSub b hb) with e | hb
 ·rw[e];exact I.free
 ·obtain⟨_,o,ho,_⟩:=I.ok.funs.mem hb
  exact I.base.free b o ho (I.ok.frf b hb) λz=>I.ok.exfs b z hb
theorem Inv.step {g':Array GenState} {t':Nat} {d':Drawn} {ch:List Addr} (I:Inv X pins σ H s)
  (hch:∀b∈ch,(b∈X.ex\/X.s₀.heap.objs.size<=b)/\b≠X.env.locals/\(∀x c,X.env.cells.lookup x=some c->c≠b)/\∀p∈X.pn++pins,p.1≠b)
  (keep:∀b o,b≠X.env.locals->b ∉ X.fs->b ∉ ch->s.heap.get? b=some o->H b=none->h'.get? b=some o)
  (slot:∀b o,b≠X.env.locals->b∈X.fs->b ∉ ch->s.heap.get? b=some o->H b=none->∃sl,h'.get? b=some { o with slots:=sl }) (free:∀b o,b ∉ ch->s.heap.get? b=some o->H b=none->H' b=none)
  (there:∀b o,b ∉ ch->s.heap.get? b=some o->∃o',h'.get? b=some o')
  (tups:∀b xs,H b=some (.tup xs)->H' b=some (.tup xs)) (frzs:∀b o u,H b=some (.frz o u)->H' b=some (.frz o u)) (tbls:∀b ps,H b=some (.tbl ps)->∃more,H' b=some (.tbl (ps++more)))
  (ns:∀m,s.heap.Ns X.env.locals m->h'.Ns X.env.locals m) (hok:HOk X.prog X.w H' h') (hg:AllBare g') :
  Inv X pins σ H' { s with heap:=h',gens:=g',drawn:=d',toks:=t' }:=by
 have neL:∀b o,X.s₀.heap.get? b=some o->b≠X.env.locals:=λb o e=>Nat.ne_of_lt (Nat.lt_of_lt_of_le (Heap.lt_size e) I.ok.above)
 have neC:∀b o,X.s₀.heap.get? b=some o->b ∉ X.ex->b ∉ ch:=λb o e hx hb=>by
  rcases (hch b hb).1 with z | z
  ·exact hx z
  ·exact absurd (Nat.lt_of_lt_of_le (Heap.lt_size e) z) (Nat.lt_irrefl _)
 have cellK:∀x c,X.env.cells.lookup x=some c->∀v,s.heap.IsCell c v->h'.IsCell c v:=λx c e v ⟨o,ho,hd⟩=>by
  have nch:c ∉ ch:=λz=>(hch c z).2.2.1 x c e rfl
  by_cases hc:c∈X.fs
  ·obtain⟨sl,q⟩:=slot c o (I.cne x c e) hc nch ho (I.freeC x c e)
   exact⟨_,q,hd⟩
  ·exact⟨o,keep c o (I.cne x c e) hc nch ho (I.freeC x c e),hd⟩
 refine⟨I.ok,I.os,hg,⟨λb o e n hb hx=>?_,λb o e n hb hx=>?_,λb o e n hx=>?_,λb o e hx=>?_,λb xs e=>tups b xs (I.base.tups b xs e),λb o xs e=>frzs b o xs (I.base.frzs b o xs e),λb ps e=>?_⟩,?_,λx c e=>?_,?_,λx c e=>?_,λp hp=>?_,hok,I.len⟩
 ·exact keep b o (neL b o e) hb (neC b o e hx) (I.base.keep b o e n hb hx) (I.base.free b o e n hx)
 ·obtain⟨sl,e1⟩:=I.base.slot b o e n hb hx
  obtain⟨sl',e2⟩:=slot b _ (neL b o e) hb (neC b o e hx) e1 (I.base.free b o e n hx)
  exact⟨sl',e2⟩
 ·obtain⟨o',e1⟩:=I.base.there b o e hx
  exact free b o' (neC b o e hx) e1 (I.base.free b o e n hx)
 ·obtain⟨o',e1⟩:=I.base.there b o e hx
  exact there b o' (neC b o e hx) e1
 ·obtain⟨m1,e1⟩:=I.base.tbls b ps e
  obtain⟨m2,e2⟩:=tbls b _ e1
  exact⟨m1++m2,by rw[e2,Array.append_assoc]⟩
 ·obtain⟨m,hn,hl⟩:=I.loc
  refine⟨m,ns m hn,λi x v e1 e2 e3=>?_⟩
  obtain⟨u,r,l⟩:=hl i x v e1 e2 e3
  refine⟨u,r,?_⟩
  rcases l with l | ⟨k,c,e,z⟩
  ·exact .inl l
  ·exact .inr ⟨k,c,e,cellK x c e _ z⟩
 ·obtain⟨v,z⟩:=I.cell x c e
  exact⟨v,cellK x c e v z⟩
 ·obtain⟨m,⟨o,_,_,ho,_⟩,_⟩:=I.loc
  exact free _ o (λz=>(hch _ z).2.1 rfl) ho I.free
 ·obtain⟨v,o,ho,hd⟩:=I.cell x c e
  exact free c o (λz=>(hch c z).2.2.1 x c e rfl) ho (I.freeC x c e)
 ·obtain⟨e,n,ne,nf,d⟩:=I.pin p hp
  have nch:p.1 ∉ ch:=λz=>(hch p.1 z).2.2.2 p hp rfl
  exact⟨keep p.1 p.2 ne nf nch e n,free p.1 p.2 nch e n,ne,nf,d⟩
theorem Inv.un {t':Nat} (I:Inv X pins σ H s) (u:Un X.fs [] H H' s.heap h') (hok:HOk X.prog X.w H' h'):Inv X pins σ H' { s with heap:=h',toks:=t' }:=by
 obtain⟨m,⟨o,es,ep,ho,r⟩,_⟩:=id I.loc
 obtain⟨sl,hL⟩:=u.any ho I.free (by simp)
 exact I.step (g':=s.gens) (d':=s.drawn) (ch:=[]) (λ_ z=>nomatch z) (λb o _ hb _ e n=>u.keep b o e n hb (by simp)) (λb o _ hb _ e n=>u.slot b o e n hb (by simp)) (λb o _ e n=>u.free b o e n (by simp)) (λb o _ e=>u.there b o e (by simp)) u.tups u.frzs u.tbls (λm' hm=>by
  obtain⟨o',es',ep',ho',r'⟩:=hm
  rw[ho] at ho';cases ho'
  exact⟨_,es',ep',hL,r'⟩) hok I.bare
theorem Inv.call {g':Array GenState} {t':Nat} {d':Drawn} {ch:List Addr} (I:Inv X pins σ H s) (u:Un (frs X.stack) ch H H' s.heap h') (hok:HOk X.prog X.w H' h') (hg:AllBare g')
  (hch:∀b∈ch,(b∈X.ex\/X.s₀.heap.objs.size<=b)/\b≠X.env.locals/\(∀x c,X.env.cells.lookup x=some c->c≠b)/\∀p∈X.pn++pins,p.1≠b) :
  Inv X pins σ H' { s with heap:=h',gens:=g',drawn:=d',toks:=t' }:=by
 obtain⟨m,⟨o,es,ep,ho,r⟩,_⟩:=id I.loc
 obtain⟨sl,hL⟩:=u.any ho I.free λz=>(hch _ z).2.1 rfl
 exact I.step (ch:=ch) hch (λb o hL hb hc e n=>u.keep b o e n (λz=>(List.mem_cons.mp (I.stkSub b z)).elim hL hb) hc) (λb o _ _ hc e n=>u.any e n hc) (λb o hc e n=>u.free b o e n hc) (λb o hc e=>u.there b o e hc) u.tups u.frzs u.tbls (λm' hm=>by
  obtain⟨o',es',ep',ho',r'⟩:=hm
  rw[ho] at ho';cases ho'
  exact⟨_,es',ep',hL,r'⟩) hok hg
theorem Inv.turned {t':Nat} {it:Addr} (I:Inv X pins σ H s) (k:∀b o,b≠it->s.heap.get? b=some o->h'.get? b=some o) (hn:H it=none) (hL:it≠X.env.locals)
  (h1:it∈X.ex\/X.s₀.heap.objs.size<=it) (h2:∀x c,X.env.cells.lookup x=some c->c≠it) (h3:∀p∈X.pn++pins,p.1≠it):Inv X pins σ H { s with heap:=h',toks:=t' }:=by
 have nit:∀b u,H b=some u->b≠it:=λb u e z=>by rw[z,hn] at e;cases e
 refine I.step (g':=s.gens) (d':=s.drawn) (ch:=[it]) (λb hb=>?_) (λb o _ _ hc e _=>k b o (λz=>hc (by simp[z])) e) (λb o _ _ hc e _=>⟨o.slots,k b o (λz=>hc (by simp[z])) e⟩) (λ_ _ _ _ n=>n)
  (λb o hc e=>⟨o,k b o (λz=>hc (by simp[z])) e⟩) (λ_ _ e=>e) (λ_ _ _ e=>e) (λb ps e=>⟨#[],by rw[e];simp⟩) (λm hm=>?_) (λb u e=>?_) I.bare
 ·have e:b=it:=by simpa using hb
  subst e
  exact⟨h1,hL,h2,h3⟩
 ·obtain⟨o,es,ep,ho,r⟩:=hm
  exact⟨o,es,ep,k _ o (Ne.symm hL) ho,r⟩
 ·refine (I.hok b u e).stay (λc v hc q=>k c v ?_ q) (λ_ q=>q) λ_ _ q=>q
  rcases hc with z | z
  ·rw[z];exact nit b u e
  ·exact nit c _ z
theorem Inv.tok (I:Inv X pins σ H s) (t:Nat):Inv X pins σ H { s with toks:=t }:=I.un (h':=s.heap) (t':=t) Un.refl I.hok
theorem Inv.kept {t':Nat} (I:Inv X pins σ H s) (k:∀b u,s.heap.get? b=some u->h'.get? b=some u):Inv X pins σ H { s with heap:=h',toks:=t' }:=I.un (Un.kept k) (I.hok.kept k)
theorem Inv.laid {a:Addr} {o:HO} {t':Nat} (I:Inv X pins σ H s) (k:∀b u,s.heap.get? b=some u->h'.get? b=some u) (hp:s.heap.objs.size<=a) (new:ObjOk X.prog X.w (upd H a o) h' a o) :
  Inv X pins σ (upd H a o) { s with heap:=h',toks:=t' }:=I.un (Un.laid k hp (I.hok.fresh hp)) (I.hok.laid k hp new)
theorem Inv.write {x e:Addr} {o:HO} {t':Nat} (I:Inv X pins σ H s) (mu:Mut (H x)) (he:e=x\/H e=some (.own x)) (k:∀b u,b≠e->s.heap.get? b=some u->h'.get? b=some u) (heo:∃u,h'.get? e=some u)
  (new:ObjOk X.prog X.w (upd H x o) h' x o):Inv X pins σ (upd H x o) { s with heap:=h',toks:=t' }:=I.un (Un.write mu he k heo) (I.hok.write mu he k heo new)
theorem Inv.pins_of {pins':List (Addr × Obj)} (I:Inv X pins σ H s) (h:∀p∈pins',s.heap.get? p.1=some p.2/\H p.1=none/\p.1≠X.env.locals/\p.1 ∉ X.fs/\∀v,p.2.data≠.cell v):Inv X pins' σ H s :=
 ⟨I.ok,I.os,I.bare,I.base,I.loc,I.cell,I.free,I.freeC,λp hp=>(List.mem_append.mp hp).elim (λz=>I.pin p (List.mem_append_left _ z)) (h p),I.hok,I.len⟩
theorem vX {N:List Str} (hN:N.Nodup) {i j:Nat} {x:Str} (a:N[i]? = some x) (b:N[j]? = some x):i=j:=by
 obtain⟨h1,e1⟩:=List.getElem?_eq_some_iff.mp a
 obtain⟨h2,e2⟩:=List.getElem?_eq_some_iff.mp b
 exact (List.getElem_inj hN).mp (e1.trans e2.symm)
theorem sS {M:Model} {A:Around} {E:Value->Shared->Prop} {i:Nat} {x:Str} {v:V} {u:Value} {Q:Unit->Shared->Prop} (I:Inv X pins σ H s) (hN:X.N.Nodup) (hi:X.N[i]? = some x) (hx:Loc X.env.scope x) (r:RelV v u)
  (h:∀s',Inv X pins (σ.set i (some v)) H s'->(∃a,Heap.SameBut a s.heap s'.heap/\(a=X.env.locals\/X.env.cells.lookup x=some a))->Q () s') (hf:X.fn x=true\/X.env.scope.names.lookup x=some .local:=by walk_at "loc"):wpAny M A (storeName X.env x u) Q E s:=by
 obtain⟨m,hn,hl⟩:=id I.loc
 have hcls:(X.env.scope.kind == .class || (X.env.scope.kind == .module && X.env.locals != X.env.globals))=false:=by rw[I.ok.kind];rfl
 have hiσ:i<σ.length:=by rw[I.len];exact (List.getElem?_eq_some_iff.mp hi).1
 have cne:=I.cne
 have tracked:∀{a:Addr} {h':Heap},(∃o,s.heap.get? a=some o/\H a=none)->Heap.SameBut a s.heap h'->HOk X.prog X.w H h':=λ{a h'} ha hs b ob e=>by
  obtain⟨_,_,hfree⟩:=ha
  refine (I.hok b ob e).stay (λc w' hc q=>(hs.2 c ?_).trans q) (λ_ q=>q) λ_ _ q=>q
  rintro rfl
  rcases hc with rfl | hc
  ·rw[hfree] at e;cases e
  ·rw[hfree] at hc;cases hc
 rcases hx with hk | hk
 ·refine wpAny_storeName_local hk hn (λh' hn' hs=>?_) hcls
  obtain⟨oL,_,_,hoL,_⟩:=id hn
  refine h _ ⟨I.ok,I.os,I.bare,⟨λb o e n hb hx=>?_,λb o e n hb hx=>?_,I.base.free,λb o e hx=>?_,I.base.tups,I.base.frzs,I.base.tbls⟩,⟨_,hn',λj y v' e1 e2 e3=>?_⟩,λy c e=>?_,I.free,I.freeC,λp hp=>?_,tracked ⟨oL,hoL,I.free⟩ hs,by simpa using I.len⟩ ⟨_,hs,.inl rfl⟩
  ·exact (hs.2 b (Nat.ne_of_lt (Nat.lt_of_lt_of_le (Heap.lt_size e) I.ok.above))).trans (I.base.keep b o e n hb hx)
  ·obtain⟨sl,e1⟩:=I.base.slot b o e n hb hx
   exact⟨sl,(hs.2 b (Nat.ne_of_lt (Nat.lt_of_lt_of_le (Heap.lt_size e) I.ok.above))).trans e1⟩
  ·obtain⟨o',e1⟩:=I.base.there b o e hx
   exact⟨o',(hs.2 b (Nat.ne_of_lt (Nat.lt_of_lt_of_le (Heap.lt_size e) I.ok.above))).trans e1⟩
  ·by_cases hj:j=i
   ·subst hj
    rw[hi] at e1;cases e1
    rw[List.getElem?_set_self hiσ] at e2
    cases e2
    exact⟨u,r,.inl ⟨hk,by simp⟩⟩
   ·rw[List.getElem?_set_ne (Ne.symm hj)] at e2
    obtain⟨u',r',q⟩:=hl j y v' e1 e2 e3
    refine⟨u',r',?_⟩
    rcases q with ⟨k,e⟩ | ⟨k,c,e,z⟩
    ·refine .inl ⟨k,?_⟩
     have:y≠x:=λe=>hj (vX hN e1 (e ▸ hi))
     simp[this,e]
    ·exact .inr ⟨k,c,e,z.sameBut hs (cne y c e)⟩
  ·obtain⟨w',z⟩:=I.cell y c e
   exact⟨w',z.sameBut hs (cne y c e)⟩
  ·obtain⟨e,n,ne,nf,d⟩:=I.pin p hp
   exact⟨(hs.2 p.1 ne).trans e,n,ne,nf,d⟩
 ·have hfn:X.fn x=true:=by
   rcases hf with z | z
   ·exact z
   ·rw[z] at hk;cases hk
  obtain⟨c,hc⟩:=I.ok.has x (.inl hk)
  obtain⟨w',z⟩:=I.cell x c hc
  refine wpAny_storeName_cell I.ok.kind hk hc z (λh' hc' hs=>?_)
  obtain⟨oc,hoc,hocd⟩:=id z
  refine h { s with heap:=h' } ⟨I.ok,I.os,I.bare,⟨λb o e n hb hx=>?_,λb o e n hb hx=>?_,I.base.free,λb o e hx=>?_,I.base.tups,I.base.frzs,I.base.tbls⟩,⟨m,hn.sameBut hs (Ne.symm (cne x c hc)),λj y v' e1 e2 e3=>?_⟩,λy c' e=>?_,I.free,I.freeC,λp hp=>?_,tracked ⟨oc,hoc,I.freeC x c hc⟩ hs,by simpa using I.len⟩ ⟨c,hs,.inr hc⟩
  ·exact (hs.2 b (Nat.ne_of_lt (Nat.lt_of_lt_of_le (Heap.lt_size e) (I.ok.cab x c hfn hc)))).trans (I.base.keep b o e n hb hx)
  ·obtain⟨sl,e1⟩:=I.base.slot b o e n hb hx
   exact⟨sl,(hs.2 b (Nat.ne_of_lt (Nat.lt_of_lt_of_le (Heap.lt_size e) (I.ok.cab x c hfn hc)))).trans e1⟩
  ·obtain⟨o',e1⟩:=I.base.there b o e hx
   exact⟨o',(hs.2 b (Nat.ne_of_lt (Nat.lt_of_lt_of_le (Heap.lt_size e) (I.ok.cab x c hfn hc)))).trans e1⟩
  ·by_cases hj:j=i
   ·subst hj
    rw[hi] at e1;cases e1
    rw[List.getElem?_set_self hiσ] at e2
    cases e2
    exact⟨u,r,.inr ⟨.inl hk,c,hc,hc'⟩⟩
   ·rw[List.getElem?_set_ne (Ne.symm hj)] at e2
    obtain⟨u',r',q⟩:=hl j y v' e1 e2 e3
    refine⟨u',r',?_⟩
    rcases q with q | ⟨k,c',e,z'⟩
    ·exact .inl q
    ·refine .inr ⟨k,c',e,z'.sameBut hs ?_⟩
     rintro rfl
     exact hj (vX hN e1 (I.ok.inj _ _ _ e hc ▸ hi))
  ·by_cases hcc:c'=c
   ·subst hcc;exact⟨_,hc'⟩
   ·obtain⟨w2,z2⟩:=I.cell y c' e
    exact⟨w2,z2.sameBut hs hcc⟩
  ·obtain⟨e,n,ne,nf,d⟩:=I.pin p hp
   refine⟨(hs.2 p.1 ?_).trans e,n,ne,nf,d⟩
   intro q
   rw[q,hoc] at e
   have q':oc=p.2:=Option.some.inj e
   exact d w' (by rw[<-q'];exact hocd)
theorem mO {M:Model} {A:Around} {E:Value->Shared->Prop} {i:Nat} {x:Str} {v:V} {u:Value} {Q:Unit->Shared->Prop} (I:Inv X pins σ H s) (hN:X.N.Nodup) (hi:X.N[i]? = some x) (hx:Loc X.env.scope x) (r:RelV v u)
  (h:∀s',Inv X pins (σ.set i (some v)) H s'->Q () s') (hf:X.fn x=true\/X.env.scope.names.lookup x=some .local:=by walk_at "loc"):wpAny M A (storeName X.env x u) Q E s :=
 sS I hN hi hx r (λs' I' _=>h s' I') hf
theorem Inv.call' {s':Shared} {ch:List Addr} (I:Inv X pins σ H s) (ho:s'.os=s.os) (u:Un (frs X.stack) ch H H' s.heap s'.heap) (hok:HOk X.prog X.w H' s'.heap) (hg:AllBare s'.gens)
  (hch:∀b∈ch,(b∈X.ex\/X.s₀.heap.objs.size<=b)/\b≠X.env.locals/\(∀x c,X.env.cells.lookup x=some c->c≠b)/\∀p∈X.pn++pins,p.1≠b):Inv X pins σ H' s':=by
 obtain⟨h',g',d',t',o'⟩:=s'
 have e:o'=s.os:=ho
 subst e
 exact I.call (g':=g') (t':=t') (d':=d') u hok hg hch
end
noncomputable abbrev XK:=Value->Option Addr->Hp->Prop
noncomputable abbrev St:=List (Option V)
noncomputable abbrev VK:=V->Hp->Prop
noncomputable abbrev TE:=St->Hp->VK->Prop
noncomputable abbrev TT:=St->Hp->(Bool->Hp->Prop)->Prop
noncomputable abbrev TA:=St->Hp->(List V->Hp->Prop)->Prop
structure Ends where
 nx:St->Hp->Prop
 rt:VK
 bk:St->Hp->Prop:=λ_ _=>False
 ct:St->Hp->Prop:=λ_ _=>False
noncomputable abbrev TS:=Ends->St->Hp->Prop
noncomputable def EP (X:Cx) (pins:List (Addr × Obj)) (σ:St) (Q:VK) (u:Value) (s':Shared):Prop:=∃v H',Inv X pins σ H' s'/\RelV v u/\Q v H'
noncomputable def TP (X:Cx) (pins:List (Addr × Obj)) (σ:St) (Q:Bool->Hp->Prop) (b:Bool) (s':Shared):Prop:=∃H',Inv X pins σ H' s'/\Q b H'
noncomputable def AP (X:Cx) (pins:List (Addr × Obj)) (σ:St) (Q:List V->Hp->Prop) (us:List Value) (s':Shared):Prop:=∃vs H',Inv X pins σ H' s'/\Vals vs us/\Q vs H'
noncomputable def SP (X:Cx) (pins:List (Addr × Obj)) (D:Ends) (f:Flow) (s':Shared):Prop :=
 match f with
 | .next=>∃σ' H',Inv X pins σ' H' s'/\D.nx σ' H'
 | .brk=>∃σ' H',Inv X pins σ' H' s'/\D.bk σ' H'
 | .cont=>∃σ' H',Inv X pins σ' H' s'/\D.ct σ' H'
 | .ret u=>∃v σ' H',Inv X pins σ' H' s'/\RelV v u/\D.rt v H'
noncomputable def PE (X:Cx) (e:Expr) (t:TE):Prop :=
 ∀(pins:List (Addr × Obj)) (s:Shared) (σ:St) (H:Hp) (Q:VK),Inv X pins σ H s->t σ H Q->wpAny (model X.prog X.w) X.A (eval e X.env) (EP X pins σ Q) X.xe s
noncomputable def PT (X:Cx) (e:Expr) (t:TT):Prop :=
 ∀(pins:List (Addr × Obj)) (s:Shared) (σ:St) (H:Hp) (Q:Bool->Hp->Prop),Inv X pins σ H s->t σ H Q->wpAny (model X.prog X.w) X.A (isTrue e X.env (eval e X.env)) (TP X pins σ Q) X.xe s
noncomputable def PW (X:Cx) (e:Expr) (t:TT):Prop :=
 ∀(whole:Sem Value) (pins:List (Addr × Obj)) (s:Shared) (σ:St) (H:Hp) (Q:Bool->Hp->Prop),Inv X pins σ H s->t σ H Q->wpAny (model X.prog X.w) X.A (isTrue e X.env whole) (TP X pins σ Q) X.xe s
theorem PW.pt {X:Cx} {e:Expr} {t:TT} (h:PW X e t):PT X e t:=h _
noncomputable def PA (X:Cx) (es:List Expr) (t:TA):Prop :=
 ∀(pos:Pos) (pins:List (Addr × Obj)) (s:Shared) (σ:St) (H:Hp) (Q:List V->Hp->Prop),Inv X pins σ H s->t σ H Q->wpAny (model X.prog X.w) X.A (spliced (backTo pos (starEach es X.env))) (AP X pins σ Q) X.xe s
noncomputable def PS (X:Cx) (st:Stmt) (t:TS):Prop :=
 ∀(pins:List (Addr × Obj)) (s:Shared) (σ:St) (H:Hp) (D:Ends),Inv X pins σ H s->t D σ H->wpAny (model X.prog X.w) X.A (exec st X.env) (SP X pins D) X.xe s
noncomputable def PSs (X:Cx) (st:List Stmt) (t:TS):Prop :=
 ∀(pins:List (Addr × Obj)) (s:Shared) (σ:St) (H:Hp) (D:Ends),Inv X pins σ H s->t D σ H->wpAny (model X.prog X.w) X.A (execs st X.env) (SP X pins D) X.xe s
theorem thn {α:Type} {t:Sem α} {Q Q':α->Shared->Prop} {M:Model} {A:Around} {E:Value->Shared->Prop} {s:Shared} (h:wpAny M A t Q E s) (hQ:∀a s,Q a s->Q' a s):wpAny M A t Q' E s:=wpAny_mono h hQ λ_ _ x=>x
end L2
namespace L2
open PySem PySem.Spec PyProof.Rows
section
variable {X:Cx}
noncomputable def QV (i:Nat):TE:=λσ H Q=>∃v,σ[i]? = some (some v)/\Q v H
noncomputable def tC (v:V):TE:=λ_ H Q=>Q v H
theorem MZ {i:Nat} {x:Str} {pos:Pos} (hN:X.N[i]? = some x) (hv:Vis X.env.scope x) (hd:(x == ("__debug__":Str))=false:=by decide) (hcd:(x == ("__classdict__":Str))=false:=by decide):PE X (.Name x pos) (QV i):=by
 intro pins s σ H Q I h
 obtain⟨v,e,h⟩:=h
 obtain⟨m,hn,hl⟩:=I.loc
 obtain⟨u,r,l⟩:=hl i x v hN e hv
 have fin:EP X pins σ Q u s:=⟨v,H,I,r,h⟩
 rcases l with ⟨hk,hm⟩ | ⟨hk,c,hc,hcell⟩
 ·exact wpAny_Name (wpAny_loadName_local I.ok.kind hk hn hm fin) hd
 ·rcases hk with hk | hk
  ·exact wpAny_Name (wpAny_loadName_cell I.ok.kind hk hc hcell fin) hd
  ·exact wpAny_Name (wpAny_loadName_free I.ok.kind hk hc hcell fin hcd) hd
theorem MT {i j pos}:PE X (.Constant (.int i) j pos) (tC (.int i)):=λ_ _ _ H _ I h=>wpAny_Constant_int ⟨.int i,H,I.tok _,⟨_,rfl⟩,h⟩
theorem PK {b j pos}:PE X (.Constant (.bool b) j pos) (tC (.bl b)):=λ_ _ _ H _ I h=>Constant_bool ⟨.bl b,H,I,rfl,h⟩
theorem MV {j pos}:PE X (.Constant .none j pos) (tC .non):=λ_ _ _ H _ I h=>Constant_none ⟨.non,H,I,rfl,h⟩
noncomputable def Gl (X:Cx) (x:Str):Prop:=X.env.kindOf x=some .globalImplicit
theorem IN {E:Value->Shared->Prop} {pins:List (Addr × Obj)} {s:Shared} {σ:St} {H:Hp} {x:Str} {u:Value} {pos:Pos} {Q:Value->Shared->Prop} (I:Inv X pins σ H s) (hg:Gl X x) (hm:X.mg x=some u) (h:Q u s)
  (hd:(x == ("__debug__":Str))=false:=by decide):wpAny (model X.prog X.w) X.A (eval (.Name x pos) X.env) Q E s :=
 Calls.Name_function_global I.ok.kind hg (Calls.loadGlobal_global (by rw[I.ok.glob];exact I.mod.glob.keeps I.bk) hm h) hd
theorem gS {E:Value->Shared->Prop} {pins:List (Addr × Obj)} {s:Shared} {σ:St} {H:Hp} {x:Str} {u:Value} {pos:Pos} {Q:Value->Shared->Prop} (I:Inv X pins σ H s) (hg:Gl X x) (hm:X.mg x=none) (hv:bootBuiltins x=some u) (h:Q u s)
  (hn:x≠"__name__":=by decide) (hd:(x == ("__debug__":Str))=false:=by decide):wpAny (model X.prog X.w) X.A (eval (.Name x pos) X.env) Q E s:=by
 obtain⟨mb,h1,h2⟩:=I.mod.blt
 exact Calls.Name_function_global I.ok.kind hg (Calls.loadGlobal_builtin (by rw[I.ok.glob];exact I.mod.glob.keeps I.bk) hm (by rw[I.ok.blt];exact h1.keeps I.bk) ((h2 x hn).trans hv) h) hd
theorem JD {x:Str} {v:V} {u:Value} {pos:Pos} (hg:Gl X x) (hm:X.mg x=none) (hv:bootBuiltins x=some u) (r:RelV v u) (hn:x≠"__name__":=by decide) (hd:(x == ("__debug__":Str))=false:=by decide):PE X (.Name x pos) (tC v) :=
 λ_ _ _ H _ I h=>gS I hg hm hv ⟨v,H,I,r,h⟩ hn hd
variable {a b:Expr} {ta tb:TE} {pos:Pos}
noncomputable def tB (t:TE):TT:=λσ H Q=>t σ H λx H1=>∃c,x = .bl c/\Q c H1
theorem NI {e:Expr} {t:TE} (h:PE X e t) (he:∀whole,isTrue e X.env whole=(do let v <-whole;standAt e.pos;holding [v] (truthy v)):=by intro _;rfl):PT X e (tB t):=by
 intro pins s σ H Q I hw
 refine isTrue_plain (thn (h pins s σ H _ I hw) λv s1 ⟨x,H1,I1,r1,q1⟩=>?_) (he _)
 obtain⟨d,rfl,q⟩:=q1
 cases r1
 exact wpAny_truthy_bool ⟨H1,I1,q⟩
variable {tA tB':TT} {rest:List Expr}
noncomputable def SK (t u:TT):TT:=λσ H Q=>t σ H λc H1=>if c=true then u σ H1 Q else Q false H1
noncomputable def tOr (t u:TT):TT:=λσ H Q=>t σ H λc H1=>if c=true then Q true H1 else u σ H1 Q
noncomputable def SR (t:TT):TT:=λσ H Q=>t σ H λc H1=>Q (!c) H1
theorem JO (ha:PT X a tA):PW X (.BoolOp .And [a] pos) tA:=by
 intro wh pins s σ H Q I h
 refine isTrue_and (thn (ha pins s σ H Q I h) λc s1 e=>?_)
 cases c with
 | true=>exact isTrue_and_nil e
 | false=>exact e
theorem NL (ha:PT X a tA):PW X (.BoolOp .Or [a] pos) tA:=by
 intro wh pins s σ H Q I h
 refine isTrue_or (thn (ha pins s σ H Q I h) λc s1 e=>?_)
 cases c with
 | false=>exact isTrue_or_nil e
 | true=>exact e
theorem NK (ha:PT X a tA) (hb:PW X (.BoolOp .And (b::rest) pos) tB'):PW X (.BoolOp .And (a::b::rest) pos) (SK tA tB'):=by
 intro wh pins s σ H Q I h
 refine isTrue_and (thn (ha pins s σ H _ I h) λc s1 ⟨H1,I1,q1⟩=>?_)
 cases c with
 | true=>exact hb wh pins s1 σ H1 Q I1 q1
 | false=>exact⟨H1,I1,q1⟩
theorem PV (ha:PT X a tA) (hb:PW X (.BoolOp .Or (b::rest) pos) tB'):PW X (.BoolOp .Or (a::b::rest) pos) (tOr tA tB'):=by
 intro wh pins s σ H Q I h
 refine isTrue_or (thn (ha pins s σ H _ I h) λc s1 ⟨H1,I1,q1⟩=>?_)
 cases c with
 | true=>exact⟨H1,I1,q1⟩
 | false=>exact hb wh pins s1 σ H1 Q I1 q1
theorem NH (ha:PT X a tA):PT X (.UnaryOp .Not a pos) (SR tA):=by
 intro pins s σ H Q I h
 exact isTrue_not (ha pins s σ H (λc H1=>Q (!c) H1) I h)
noncomputable def QM (ta tb:TE):TE:=λσ H Q=>ta σ H λx H1=>∃c,x = .bl c/\if c=true then tb σ H1 Q else Q (.bl false) H1
noncomputable def QS (ta:TE):TE:=λσ H Q=>ta σ H λx H1=>∃c,x = .bl c/\Q (.bl (!c)) H1
theorem MX {op} {t:TE} (h:PE X a t):PE X (.BoolOp op [a] pos) t:=λpins s σ H Q I hw=>BoolOp_one (h pins s σ H Q I hw)
theorem MR (ha:PE X a ta) (hb:PE X (.BoolOp .And (b::rest) pos) tb):PE X (.BoolOp .And (a::b::rest) pos) (QM ta tb):=by
 intro pins s σ H Q I h
 refine BoolOp_and (thn (ha pins s σ H _ I h) λv s1 ⟨x,H1,I1,r1,q1⟩=>?_)
 obtain⟨c,rfl,q1⟩:=q1
 cases r1
 refine wpAny_truthy_bool ?_
 cases c with
 | true=>exact hb pins s1 σ H1 Q I1 q1
 | false=>exact⟨.bl false,H1,I1,rfl,q1⟩
theorem MW (ha:PE X a ta):PE X (.UnaryOp .Not a pos) (QS ta):=by
 intro pins s σ H Q I h
 refine UnaryOp_ (thn (ha pins s σ H _ I h) λv s1 ⟨x,H1,I1,r1,q1⟩=>?_)
 obtain⟨c,rfl,q1⟩:=q1
 cases r1
 exact not_of (wpAny_truthy_bool ⟨.bl (!c),H1,I1,rfl,q1⟩)
end
end L2
namespace L2
open PySem PySem.Spec PyProof.Rows
noncomputable def SqL (K:PySem.W.Frag) (H:Hp) (a:Addr) (xs:List V):Prop :=
 Rd H a (.lst xs) \/
  ∃(o:Obj) (its:Array Value) (n:Nat),K.lookup a=some o/\o.cls = .type "list"/\o.dict=none/\o.data = .seq its n/\its.size<=sizeLine/\Vals xs its.toList
noncomputable def SqT (K:PySem.W.Frag) (H:Hp) (a:Addr) (xs:List V):Prop :=
 Rd H a (.tup xs) \/
  ∃(o:Obj) (its:Array Value) (n:Nat),K.lookup a=some o/\o.cls = .type "tuple"/\o.data = .seq its n/\its.size<=sizeLine/\Vals xs its.toList
noncomputable def QX:Value->Option V
 | .none=>some .non
 | .bool b=>some (.bl b)
 | .int i _=>some (.int i)
 | .str x _=>some (.str x)
 | .bytes b _=>some (.byt b)
 | .float b _=>some (.flt b)
 | .ref a=>some (.ref a)
 | .type n=>some (.ty n)
 | _=>none
theorem RelV.abs {x:V} {u:Value} (r:RelV x u):QX u=some x:=by
 cases x with
 | non=>cases r;rfl
 | bl _=>cases r;rfl
 | int _=>obtain⟨t,rfl⟩:=r;rfl
 | str _=>obtain⟨t,rfl⟩:=r;rfl
 | byt _=>obtain⟨t,rfl⟩:=r;rfl
 | flt _=>obtain⟨t,rfl⟩:=r;rfl
 | ref _=>cases r;rfl
 | ty _=>cases r;rfl
theorem RelV.inj {x y:V} {u:Value} (r:RelV x u) (q:RelV y u):x=y:=Option.some.inj (r.abs.symm.trans q.abs)
theorem Vals.inj:∀{xs ys:List V} {us:List Value},Vals xs us->Vals ys us->xs=ys
 | _,_,_,.nil,.nil=>rfl
 | _,_,_,.cons r t,.cons r' t'=>by rw[r.inj r',Vals.inj t t']
section
variable {X:Cx} {pins:List (Addr × Obj)} {σ:St} {H:Hp} {s:Shared} {a:Addr} {xs ys:List V}
theorem SqL.of {K:PySem.W.Frag} (h:H a=some (.lst xs)):SqL K H a xs:=.inl (.inl h)
theorem SqT.of {K:PySem.W.Frag} (h:H a=some (.tup xs)):SqT K H a xs:=.inl (.inl h)
theorem Inv.list (I:Inv X pins σ H s) (h:SqL X.K H a xs):∃its:List Value,Vals xs its/\PlainL s.heap a its.toArray/\xs.length<=sizeLine:=by
 rcases h with h | ⟨o,its,n,hk,hc,hd,hs,hz,r⟩
 ·obtain⟨z,its,n,r,e⟩:=h.ok I.hok
  exact⟨its,r,⟨_,n,e,rfl,rfl,rfl⟩,z⟩
 ·refine⟨its.toList,r,⟨o,n,I.kIn a o hk,hc,hd,by simpa using hs⟩,?_⟩
  have e:=r.length
  simp only[Array.length_toList] at e
  omega
theorem Inv.tuple (I:Inv X pins σ H s) (h:SqT X.K H a xs):∃its:List Value,Vals xs its/\IsTup s.heap a its.toArray/\xs.length<=sizeLine:=by
 rcases h with h | ⟨o,its,n,hk,hc,hs,hz,r⟩
 ·obtain⟨z,its,r,p⟩:=h.ok I.hok
  exact⟨its,r,p,z⟩
 ·refine⟨its.toList,r,⟨o,I.kIn a o hk,hc,n,by simpa using hs⟩,?_⟩
  have e:=r.length
  simp only[Array.length_toList] at e
  omega
theorem Inv.list_inj (I:Inv X pins σ H s) (h:SqL X.K H a xs) (h':SqL X.K H a ys):xs=ys:=by
 obtain⟨its,r,⟨o,n,e,_,_,d⟩,_⟩:=I.list h
 obtain⟨its',r',⟨o',n',e',_,_,d'⟩,_⟩:=I.list h'
 rw[e] at e';cases e'
 rw[d] at d'
 injection d' with d1 _
 have:its=its':=by simpa using congrArg Array.toList d1
 subst this
 exact r.inj r'
theorem Inv.tuple_inj (I:Inv X pins σ H s) (h:SqT X.K H a xs) (h':SqT X.K H a ys):xs=ys:=by
 obtain⟨its,r,⟨o,e,_,n,d⟩,_⟩:=I.tuple h
 obtain⟨its',r',⟨o',e',_,n',d'⟩,_⟩:=I.tuple h'
 rw[e] at e';cases e'
 rw[d] at d'
 injection d' with d1 _
 have:its=its':=by simpa using congrArg Array.toList d1
 subst this
 exact r.inj r'
end
noncomputable abbrev Cx.wish (X:Cx) (E:Value->Shared->Prop):Cx:={ X with xe:=E }
noncomputable abbrev Cx.nox (X:Cx):Cx:=X.wish λ_ _=>False
theorem Cx.Ok.wish {X:Cx} (ok:X.Ok) (E:Value->Shared->Prop):(X.wish E).Ok :=
 ⟨ok.mod,ok.kind,ok.glob,ok.blt,ok.above,ok.inj,ok.has,ok.cab,ok.hd,ok.frames,ok.stk,ok.exf,ok.bs,ok.bsz,ok.noex,ok.exfs,ok.funs,ok.frf⟩
theorem Cx.Ok.unwish {X:Cx} {E:Value->Shared->Prop} (ok:(X.wish E).Ok):X.Ok :=
 ⟨ok.mod,ok.kind,ok.glob,ok.blt,ok.above,ok.inj,ok.has,ok.cab,ok.hd,ok.frames,ok.stk,ok.exf,ok.bs,ok.bsz,ok.noex,ok.exfs,ok.funs,ok.frf⟩
section
variable {X:Cx} {pins:List (Addr × Obj)} {σ:St} {H:Hp} {s:Shared} {E:Value->Shared->Prop}
theorem Inv.wish (I:Inv X pins σ H s) (E:Value->Shared->Prop):Inv (X.wish E) pins σ H s:=⟨I.ok.wish E,I.os,I.bare,I.base,I.loc,I.cell,I.free,I.freeC,I.pin,I.hok,I.len⟩
theorem Inv.unwish (I:Inv (X.wish E) pins σ H s):Inv X pins σ H s:=⟨I.ok.unwish,I.os,I.bare,I.base,I.loc,I.cell,I.free,I.freeC,I.pin,I.hok,I.len⟩
theorem SP.unwish {D:Ends} {f:Flow} {s':Shared} (h:SP (X.wish E) pins D f s'):SP X pins D f s':=by
 cases f with
 | next=>obtain⟨σ',H',I,q⟩:=h;exact⟨σ',H',I.unwish,q⟩
 | brk=>obtain⟨σ',H',I,q⟩:=h;exact⟨σ',H',I.unwish,q⟩
 | cont=>obtain⟨σ',H',I,q⟩:=h;exact⟨σ',H',I.unwish,q⟩
 | ret u=>obtain⟨v,σ',H',I,r,q⟩:=h;exact⟨v,σ',H',I.unwish,r,q⟩
theorem PE.nox {e:Expr} {t:TE} (h:PE X.nox e t):PE X e t:=λpins s σ H Q I hw =>
 wpAny_mono (h pins s σ H Q (I.wish _) hw) (λ_ _ ⟨v,H',I',r,q⟩=>⟨v,H',I'.unwish,r,q⟩) λ_ _ z=>False.elim z
theorem PT.nox {e:Expr} {t:TT} (h:PT X.nox e t):PT X e t:=λpins s σ H Q I hw =>
 wpAny_mono (h pins s σ H Q (I.wish _) hw) (λ_ _ ⟨H',I',q⟩=>⟨H',I'.unwish,q⟩) λ_ _ z=>False.elim z
theorem PSs.nox {st:List Stmt} {t:TS} (h:PSs X.nox st t):PSs X st t:=λpins s σ H D I hw =>
 wpAny_mono (h pins s σ H D (I.wish _) hw) (λ_ _ q=>q.unwish) λ_ _ z=>False.elim z
end
section
variable {X:Cx} {st:Stmt} {rest:List Stmt} {t u:TS} {e:Expr} {te:TE} {pos:Pos}
noncomputable def QR:TS:=λD σ H=>D.nx σ H
noncomputable def SV (t u:TS):TS:=λD σ H=>t { D with nx:=u D } σ H
theorem JL:PSs X [] QR:=λ_ _ σ H _ I h=>wpAny_execs_nil ⟨σ,H,I,h⟩
theorem GM (h1:PS X st t) (h2:PSs X rest u):PSs X (st::rest) (SV t u):=by
 intro pins s σ H D I h
 refine wpAny_execs_cons (thn (h1 pins s σ H { D with nx:=u D } I h) λf s1 q=>?_)
 cases f with
 | next =>
  obtain⟨σ',H',I',q⟩:=q
  exact h2 pins s1 σ' H' D I' q
 | ret v=>exact q
 | brk=>exact q
 | cont=>exact q
theorem JM (h1:PS X st t):PSs X [st] t:=by
 intro pins s σ H D I h
 refine wpAny_execs_cons (thn (h1 pins s σ H D I h) λf s1 q=>?_)
 cases f with
 | next=>exact wpAny_execs_nil q
 | ret v=>exact q
 | brk=>exact q
 | cont=>exact q
theorem Inv.quiet {pins:List (Addr × Obj)} {σ:St} {H:Hp} {s:Shared} (I:Inv X pins σ H s):interactive X.env=false:=by simp[interactive,I.ok.kind]
noncomputable def QQ (te:TE):TS:=λD σ H=>te σ H λ_ H1=>D.nx σ H1
theorem AN (he:PE X e te) (hs:swapsWith e none pos.line X.env=pure false:=by rfl):PS X (.Expr e pos) (QQ te):=by
 intro pins s σ H D I h
 exact wpAny_Expr_any (thn (he pins s σ H _ I h) λv s1 ⟨x,H1,I1,r1,q1⟩=>⟨σ,H1,I1,q1⟩) I.quiet hs
noncomputable def SU (te:TE):TS:=λD σ H=>te σ H D.rt
theorem NG (he:PE X e te):PS X (.Return (some e) pos) (SU te):=by
 intro pins s σ H D I h
 exact wpAny_Return_some (thn (he pins s σ H _ I h) λv s1 ⟨x,H1,I1,r1,q1⟩=>⟨x,σ,H1,I1,r1,q1⟩)
noncomputable def SN (c:TT) (t u:TS):TS:=λD σ H=>c σ H λb H1=>if b=true then t D σ H1 else u D σ H1
theorem PQ {c:Expr} {a b:List Stmt} {tc:TT} (hc:PT X c tc) (ha:PSs X a t) (hb:PSs X b u):PS X (.If c a b pos) (SN tc t u):=by
 intro pins s σ H D I h
 refine wpAny_If (thn (hc pins s σ H _ I h) λd s1 ⟨H1,I1,q1⟩=>?_)
 cases d with
 | true=>exact ha pins s1 σ H1 D I1 q1
 | false=>exact hb pins s1 σ H1 D I1 q1
end
noncomputable abbrev TG:=V->St->Hp->(St->Hp->Prop)->Prop
noncomputable abbrev TGs:=List V->St->Hp->(St->Hp->Prop)->Prop
noncomputable def PG (X:Cx) (target:Expr) (t:TG):Prop :=
 ∀(pins:List (Addr × Obj)) (s:Shared) (σ:St) (H:Hp) (v:V) (u:Value) (Q:St->Hp->Prop),Inv X pins σ H s->RelV v u->t v σ H Q ->
  wpAny (model X.prog X.w) X.A (assign target X.env u) (λ_ s'=>∃σ' H',Inv X pins σ' H' s'/\Q σ' H') X.xe s
noncomputable def PGs (X:Cx) (ts:List Expr) (t:TGs):Prop :=
 ∀(pins:List (Addr × Obj)) (s:Shared) (σ:St) (H:Hp) (vs:List V) (us:List Value) (Q:St->Hp->Prop),Inv X pins σ H s->Vals vs us->t vs σ H Q ->
  wpAny (model X.prog X.w) X.A (assignInOrder ((assignEach ts X.env).map (·.2)) us) (λ_ s'=>∃σ' H',Inv X pins σ' H' s'/\Q σ' H') X.xe s
noncomputable abbrev KZ:=V->V->V->Hp->(Hp->Prop)->Prop
noncomputable def OF (X:Cx) (t:KZ):Prop :=
 ∀(pins:List (Addr × Obj)) (s:Shared) (σ:St) (H:Hp) (o i v:V) (ov iv u:Value) (Q:Hp->Prop),Inv X pins σ H s->RelV o ov->RelV i iv->RelV v u->t o i v H Q ->
  wpAny (model X.prog X.w) X.A (setItem ov iv u) (λ_ s'=>∃H',Inv X pins σ H' s'/\Q H') X.xe s
section
variable {X:Cx} {pos:Pos}
noncomputable def KJ (i:Nat):TG:=λv σ H Q=>Q (σ.set i (some v)) H
theorem JG {i:Nat} {x:Str} (hN:X.N.Nodup) (hi:X.N[i]? = some x) (hx:Loc X.env.scope x) (hf:X.fn x=true\/X.env.scope.names.lookup x=some .local:=by walk_at "loc"):PG X (.Name x pos) (KJ i):=by
 intro pins s σ H v u Q I r h
 exact wpAny_assign_Name (mO I hN hi hx r (λs' I'=>⟨_,H,I',h⟩) hf)
noncomputable def RH:TGs:=λvs σ H Q=>vs=[]/\Q σ H
noncomputable def OP (t:TG) (u:TGs):TGs:=λvs σ H Q=>∃v r,vs=v::r/\t v σ H λσ' H'=>u r σ' H' Q
theorem JH:PGs X [] RH:=by
 intro pins s σ H vs us Q I r h
 obtain⟨e,h⟩:=h
 subst e
 cases r
 exact assignInOrder_nil ⟨σ,H,I,h⟩
theorem GH {e:Expr} {es:List Expr} {t:TG} {u:TGs} (h1:PG X e t) (h2:PGs X es u)
  (hs:(assignEach (e::es) X.env).map (·.2)=assign e X.env::(assignEach es X.env).map (·.2):=by rfl):PGs X (e::es) (OP t u):=by
 intro pins s σ H vs us Q I r h
 obtain⟨v,vr,e1,h⟩:=h
 subst e1
 cases r with
 | cons r rr =>
  rw[hs]
  refine assignInOrder_cons (thn (h1 pins s σ H _ _ _ I r h) λ_ s1 ⟨σ1,H1,I1,q1⟩=>?_)
  exact h2 pins s1 σ1 H1 _ _ Q I1 rr q1
noncomputable def RJ (K:PySem.W.Frag) (n:Nat) (t:TGs):TG:=λv σ H Q=>∃a xs,v = .ref a/\SqT K H a xs/\xs.length=n/\t xs σ H Q
theorem NB {es:List Expr} {k:Nat} {t:TGs} {n:Nat} (hc:X.calm=true) (h:PGs X es t)
  (hn:(assignEach es X.env).length=n:=by rfl) (hst:(assignEach es X.env).findIdx? (·.1)=none:=by rfl):PG X (.Tuple es k pos) (RJ X.K n t):=by
 intro pins s σ H v u Q I r hw
 obtain⟨a,xs,e1,hq,hl,hw⟩:=hw
 subst e1
 cases r
 obtain⟨its,rv,ht,hz⟩:=I.tuple hq
 refine assign_Tuple_tuple (I.ok.hd hc) ht (by simp[hn,<-hl,rv.length]) hst λh' hx=>?_
 have I1:Inv X pins σ H { s with heap:=h' }:=I.kept (t':=s.toks) λb o e=>hx b o (Nat.ne_of_lt (Heap.lt_size e)) e
 exact h pins _ σ H xs _ Q I1 (by simpa using rv) hw
noncomputable def RI (to ti:TE) (t:KZ):TG:=λv σ H Q=>to σ H λo H1=>ti σ H1 λi H2=>t o i v H2 λH3=>Q σ H3
theorem NA {o i:Expr} {to ti:TE} {t:KZ} (ho:PE X o to) (hi:PE X i ti) (hs:OF X t)
  (ha:∀v,assign (.Subscript o i pos) X.env v=(do
   let ov <-holding [v] (eval o X.env)
   let iv <-holding [v,ov] (eval i X.env)
   standAt pos
   holding [v,ov,iv] (setItem ov iv v)
   release [v,ov,iv] []):=by intro _;rfl):PG X (.Subscript o i pos) (RI to ti t):=by
 intro pins s σ H v u Q I r h
 rw[ha]
 refine wpAny_bind (wpAny_holding (thn (ho pins s σ H _ I h) λov s1 ⟨x,H1,I1,r1,q1⟩=>?_))
 refine wpAny_bind (wpAny_holding (thn (hi pins s1 σ H1 _ I1 q1) λiv s2 ⟨y,H2,I2,r2,q2⟩=>?_))
 refine wpAny_bind (wpAny_standAt (wpAny_bind (wpAny_holding (thn (hs pins s2 σ H2 x y v ov iv u _ I2 r1 r2 r q2) λ_ s3 ⟨H3,I3,q3⟩=>?_))))
 exact wpAny_release ⟨σ,H3,I3,q3⟩
noncomputable def QN (te:TE) (g:TG):TS:=λD σ H=>te σ H λx H1=>g x σ H1 D.nx
theorem ND {tg e:Expr} {te:TE} {g:TG} (he:PE X e te) (hg:PG X tg g) (hs:swapsWithSole [tg] e pos.line X.env=pure false:=by rfl) (hw:swappedStores [tg] e X.env=pure none:=by rfl)
  (h1:(assignEach [tg] X.env).map (·.2)=[assign tg X.env]:=by rfl):PS X (.Assign [tg] e pos) (QN te g):=by
 intro pins s σ H D I h
 refine wpAny_Assign_stores (thn (he pins s σ H _ I h) λv s1 ⟨x,H1,I1,r1,q1⟩=>?_) hs hw
 rw[h1]
 exact thn (hg pins s1 σ H1 x v _ I1 r1 q1) λ_ s2 q=>q
theorem GK {i:Nat} {x:Str} {e:Expr} {te:TE} {pos':Pos} (hN:X.N.Nodup) (hi:X.N[i]? = some x) (hx:Loc X.env.scope x) (he:PE X e te) (hs:swapsWith e (some (.Name x pos')) pos.line X.env=pure false:=by rfl) (hf:X.fn x=true\/X.env.scope.names.lookup x=some .local:=by walk_at "loc") :
  PS X (.Assign [.Name x pos'] e pos) (QN te (KJ i)):=by
 intro pins s σ H D I h
 refine wpAny_Assign_Name (thn (he pins s σ H _ I h) λv s1 ⟨y,H1,I1,r1,q1⟩=>?_) hs
 exact mO I1 hN hi hx r1 (λs2 I2=>⟨_,H1,I2,q1⟩) hf
noncomputable def SS (i j:Nat) (ta:TA):TS:=λD σ H=>ta σ H λvs H1=>∃v w,vs=[v,w]/\D.nx ((σ.set i (some v)).set j (some w)) H1
theorem NF {i j:Nat} {x y:Str} {a b:Expr} {ta:TA} {px py pt:Pos} {kt k2 pt2} (hc:X.calm=true) (hN:X.N.Nodup) (hi:X.N[i]? = some x) (hj:X.N[j]? = some y) (hij:i≠j)
  (hx:X.env.scope.names.lookup x=some .local) (hy:X.env.scope.names.lookup y=some .local) (ha:PA X [a,b] ta)
  (hw:swappedStores [.Tuple [.Name x px,.Name y py] kt pt] (.Tuple [a,b] k2 pt2) X.env=pure (some [x,y]))
  (hs:swapsWithSole [.Tuple [.Name x px,.Name y py] kt pt] (.Tuple [a,b] k2 pt2) pos.line X.env=pure false:=by rfl) :
  PS X (.Assign [.Tuple [.Name x px,.Name y py] kt pt] (.Tuple [a,b] k2 pt2) pos) (SS i j ta):=by
 intro pins s σ H D I h
 rw[exec_Assign_arm]
 refine wpAny_bind (wpAny_standAt ?_)
 rw[hs]
 refine wpAny_bind (wpAny_pure ?_)
 rw[if_neg (by decide)]
 refine wpAny_bind (Tuple_ (thn (ha _ pins s σ H _ I h) λus s1 ⟨vs,H1,I1,r1,q1⟩=>?_))
 obtain⟨v,w,e1,q1⟩:=q1
 subst e1
 obtain⟨u1,u2,rfl,rv,rw'⟩:∃u1 u2,us=[u1,u2]/\RelV v u1/\RelV w u2:=by
  cases r1 with
  | cons p q =>
   cases q with
   | cons p' q' =>
    cases q'
    exact⟨_,_,rfl,p,p'⟩
 refine wpAny_newObj_type ?_ (by show 2<=sizeLine;decide)
 have I2:Inv X pins σ H1 { s1 with heap:=s1.heap.push { cls:=.type "tuple",data:=.seq [u1,u2].toArray } }:=I1.kept (t':=s1.toks) λb o e=>Heap.get?_push_of_some _ e
 rw[hw]
 refine wpAny_bind (wpAny_pure ?_)
 show wpAny (model X.prog X.w) X.A (do rule "assign.swapped-stores";let items <-unpackItems (.ref s1.heap.objs.size) 2 none;assignInOrder [λv=>bindName X.env y v,λv=>bindName X.env x v] items.reverse;pure Flow.next) _ _ _
 refine wpAny_bind (wpAny_rule (wpAny_bind (unpackItems_tuple (items:=#[u1,u2]) (I.ok.hd hc) (IsTup.new s1.heap _) λh' hx'=>?_)))
 have I3:=I2.kept (h':=h') (t':=s1.toks) λb o e=>hx' b o (Nat.ne_of_lt (Heap.lt_size e)) e
 show wpAny _ _ (assignInOrder [λv=>bindName X.env y v,λv=>bindName X.env x v] [u2,u1] >>= λ_=>pure Flow.next) _ _ _
 refine wpAny_bind (assignInOrder_cons (wpAny_bindName (mO I3 hN hj (.inl hy) rw' (λs2 I4=>?_) (.inr hy))))
 refine assignInOrder_cons (wpAny_bindName (mO I4 hN hi (.inl hx) rv (λs3 I5=>assignInOrder_nil (wpAny_pure ?_)) (.inr hx)))
 rw[List.set_comm _ _ (Ne.symm hij)] at I5
 exact⟨_,H1,I5,q1⟩
end
section
variable {X:Cx} {pos:Pos}
noncomputable def OA (c:TT) (tb:TS):TS:=λD σ H=>∃W:Nat->St->Hp->Prop,(∃m,W m σ H)/\∀m σ H,W m σ H ->
 c σ H λb H1=>if b=true then ∃N:St->Hp->Prop,(∀σ' H',N σ' H'->∃m',m'<m/\W m' σ' H')/\tb { D with nx:=N,ct:=N,bk:=D.nx } σ H1 else D.nx σ H1
theorem GL {c:Expr} {body:List Stmt} {tc:TT} {tb:TS} (hp:PassesOwn (model X.prog X.w) X.A X.env X.xe) (hc:PT X c tc) (hb:PSs X body tb):PS X (.While c body [] pos) (OA tc tb):=by
 intro pins s σ H D I h
 obtain⟨W,⟨m0,w0⟩,turn⟩:=h
 refine wpAny_While (codeAny_whileLoop (λn s'=>∃σ' H',Inv X pins σ' H' s'/\W n σ' H') ?_ m0 ⟨σ,H,I,w0⟩)
 rintro n s1 ⟨σ1,H1,I1,w1⟩
 refine wpAny_passesOwn hp (thn (hc pins s1 σ1 H1 _ I1 (turn n σ1 H1 w1)) λb s2 ⟨H2,I2,q2⟩=>?_)
 cases b with
 | true =>
  obtain⟨N,hN,q2⟩:=q2
  rw[if_pos rfl]
  refine wpAny_passesOwn hp (thn (hb pins s2 σ1 H2 _ I2 q2) λf s3 q3=>?_)
  cases f with
  | next =>
   obtain⟨σ3,H3,I3,n3⟩:=q3
   obtain⟨m',hm,w3⟩:=hN σ3 H3 n3
   exact⟨m',hm,σ3,H3,I3,w3⟩
  | cont =>
   obtain⟨σ3,H3,I3,n3⟩:=q3
   obtain⟨m',hm,w3⟩:=hN σ3 H3 n3
   exact⟨m',hm,σ3,H3,I3,w3⟩
  | brk=>exact q3
  | ret v=>exact q3
 | false =>
  rw[if_neg Bool.false_ne_true]
  exact wpAny_execs_nil ⟨σ1,H2,I2,q2⟩
end
structure It where
 go:Nat->Hp->Prop
 yld:Nat->Hp->V->Hp->Prop
 stop:Nat->Hp->Prop
noncomputable def qQ (X:Cx) (pins:List (Addr × Obj)) (H:Hp) (b:Addr):Prop :=
 H b=none/\b≠X.env.locals/\b ∉ X.fs/\(b∈X.ex\/X.s₀.heap.objs.size<=b)/\(∀x c,X.env.cells.lookup x=some c->c≠b)/\∀p∈X.pn++pins,p.1≠b
theorem Inv.fpOk {X:Cx} {pins:List (Addr × Obj)} {σ:St} {H H':Hp} {s:Shared} {b:Addr} (I:Inv X pins σ H s) (hb:s.heap.objs.size<=b) (hn:H' b=none):qQ X pins H' b:=by
 refine⟨hn,Nat.ne_of_gt (Nat.lt_of_lt_of_le I.lt hb),I.nofs hb,.inr (Nat.le_trans I.sz hb),λx c e z=>?_,λp hp z=>?_⟩
 ·obtain⟨v,q⟩:=I.cell x c e
  exact absurd (Nat.lt_of_lt_of_le q.lt (by rw[z];exact hb)) (Nat.lt_irrefl _)
 ·exact absurd (Nat.lt_of_lt_of_le (Heap.lt_size (I.pin p hp).1) (by rw[z];exact hb)) (Nat.lt_irrefl _)
structure Turn (P:Program) (w:World) (K:PySem.W.Frag) (tg:Expr) (J:It) (fp:List Addr) (it:Addr) (tn:Nat->Heap->Prop):Prop where
 mem:it∈fp
 obj:∀i h,tn i h->∀b∈fp,∃o,h.get? b=some o/\∀v,o.data≠.cell v
 keep:∀i h h',tn i h->(∀b∈fp,∀o,h.get? b=some o->h'.get? b=some o)->tn i h'
 item:∀(X:Cx),X.prog=P->X.w=w->X.K=K->X.calm=true->∀(i:Nat) (pins:List (Addr × Obj)) (s:Shared) (σ:St) (H:Hp) (E:Value->Shared->Prop),Inv X pins σ H s->(∀b∈fp,qQ X pins H b)->tn i s.heap->J.go i H ->
  wpAny (model P w) X.A (pyNext (.ref it)) (λr s1=>∃u,r=some u /\
   wpAny (model P w) X.A (letOwnedTupleGo tg (.ref it) u) (λ_ s2=>∃x H',Inv X pins σ H' s2/\RelV x u/\J.yld i H x H'/\tn (i+1) s2.heap/\∀b∈fp,H' b=none) E s1) E s
 done:∀(X:Cx),X.prog=P->X.w=w->X.K=K->X.calm=true->∀(i:Nat) (pins:List (Addr × Obj)) (s:Shared) (σ:St) (H:Hp) (E:Value->Shared->Prop),Inv X pins σ H s->(∀b∈fp,qQ X pins H b)->tn i s.heap->J.stop i H ->
  wpAny (model P w) X.A (pyNext (.ref it)) (λr s1=>r=none/\Inv X pins σ H s1) E s
 self:∀(A:Around) (i:Nat) (s:Shared) (Q:Value->Shared->Prop) (E:Value->Shared->Prop),tn i s.heap->Q (.ref it) s->wpAny (model P w) A (pyIter (.ref it)) Q E s
noncomputable abbrev TI:=St->Hp->(It->Hp->Prop)->Prop
noncomputable def PIE (X:Cx) (pins:List (Addr × Obj)) (σ:St) (tg:Expr) (R:It->Hp->Prop) (itv:Value) (s2:Shared):Prop :=
 ∃(it:Addr) (fp:List Addr) (tn:Nat->Heap->Prop) (J:It) (H':Hp),itv = .ref it/\Inv X pins σ H' s2/\Turn X.prog X.w X.K tg J fp it tn/\tn 0 s2.heap/\(∀b∈fp,qQ X pins H' b)/\R J H'
noncomputable def PI (X:Cx) (tg iter:Expr) (wi:TI):Prop :=
 ∀(pins:List (Addr × Obj)) (s:Shared) (σ:St) (H:Hp) (R:It->Hp->Prop),Inv X pins σ H s->wi σ H R ->
  wpAny (model X.prog X.w) X.A (eval iter X.env) (λv s1=>wpAny (model X.prog X.w) X.A (pyIter v) (PIE X pins σ tg R) X.xe s1) X.xe s
theorem zZ {M:Model} {A:Around} {E:Value->Shared->Prop} {s:Shared} {tg:Expr} {it:Addr} {u:Value} {o:Obj} {n:String} {vs:Array Value} {Q:Unit->Shared->Prop} (ho:s.heap.get? it=some o) (hc:o.cls = .type n) (hd:o.data = .fields vs)
  (hn:["enumerate","zip","dict_itemiterator","dict_reverseitemiterator","odict_iterator","itertools.zip_longest","itertools.pairwise"].contains n=false) (hQ:Q () s):wpAny M A (letOwnedTupleGo tg (.ref it) u) Q E s:=by
 unfold letOwnedTupleGo
 cases tg <;> first
  | exact wpAny_pure hQ
  | (cases u <;> first
    | exact wpAny_pure hQ
    | (refine wpAny_bind (wpAny_load ho ?_);rw[hc,hd];show wpAny M A (if (["enumerate","zip","dict_itemiterator","dict_reverseitemiterator","odict_iterator","itertools.zip_longest","itertools.pairwise"].contains n && vs[0]? == some (rawInt _))=true then _ else _) Q E s;rw[if_neg (by intro h;rw[hn,Bool.false_and] at h;cases h)];exact wpAny_pure hQ))
noncomputable def Itl (K:PySem.W.Frag) (a:Addr):It :=
 ⟨λi H=>∃xs x,SqL K H a xs/\xs[i]? = some x,λi H x H'=>H'=H/\∀xs,SqL K H a xs->xs[i]? = some x,λi H=>∃xs,SqL K H a xs/\xs.length<=i⟩
noncomputable def Itt (K:PySem.W.Frag) (a:Addr):It :=
 ⟨λi H=>∃xs x,SqT K H a xs/\xs[i]? = some x,λi H x H'=>H'=H/\∀xs,SqT K H a xs->xs[i]? = some x,λi H=>∃xs,SqT K H a xs/\xs.length<=i⟩
noncomputable def Itr (lo:Int) (n:Nat):It:=⟨λi _=>i<n,λi H x H'=>H'=H/\x = .int (lo+i),λi _=>n<=i⟩
theorem DF {P:Program} {w:World} {K:PySem.W.Frag} {tg:Expr} (a it:Addr):Turn P w K tg (Itl K a) [it] it (λi h=>h.IsListIter it a i) where
 mem:=by simp
 obj:=λi h st b hb=>by
  have e:b=it:=by simpa using hb
  subst e
  obtain⟨o,e,c,d⟩:=st
  exact⟨o,e,λv z=>by rw[d] at z;cases z⟩
 keep:=λi h h' st k=>st.at λo e=>k it (by simp) o e
 item:=by
  intro X hP hw hK hc i pins s σ H E I hf st hg
  subst hP hw hK
  obtain⟨xs,x,hq,hx⟩:=hg
  obtain⟨its,rv,p,hz⟩:=I.list hq
  obtain⟨u,hu,ru⟩:=rv.get hx
  obtain⟨f0,f1,f2,f3,f4,f5⟩:=hf it (by simp)
  refine wpAny_pyNext_list_item st p.isList (x:=u) (by simpa using hu) λh' st' sb=>?_
  have I1:Inv X pins σ H { s with heap:=h' }:=I.turned (t':=s.toks) (λb o hb e=>(sb.2 b hb).trans e) f0 f1 f3 f4 f5
  obtain⟨o,e,c,d⟩:=id st'
  exact⟨u,rfl,zZ (s:={ s with heap:=h' }) e c d (by decide) ⟨x,H,I1,ru,⟨rfl,λys hy=>by rw[I.list_inj hy hq];exact hx⟩,st',λb hb=>(hf b hb).1⟩⟩
 done:=by
  intro X hP hw hK hc i pins s σ H E I hf st hg
  subst hP hw hK
  obtain⟨xs,hq,hx⟩:=hg
  obtain⟨its,rv,p,hz⟩:=I.list hq
  obtain⟨f0,f1,f2,f3,f4,f5⟩:=hf it (by simp)
  have hl:=rv.length
  exact wpAny_pyNext_list_end (I.ok.hd hc) st p.isList (by simp;omega) λh' eb=>⟨rfl,I.turned (t':=s.toks) (λb o hb e=>eb b o hb e) f0 f1 f3 f4 f5⟩
 self:=λ_ _ _ _ _ st h=>wpAny_pyIter_listiter st h
theorem yU {P:Program} {w:World} {K:PySem.W.Frag} {tg:Expr} (a it:Addr):Turn P w K tg (Itt K a) [it] it (λi h=>h.IsTupleIter it a i) where
 mem:=by simp
 obj:=λi h st b hb=>by
  have e:b=it:=by simpa using hb
  subst e
  obtain⟨o,e,c,d⟩:=st
  exact⟨o,e,λv z=>by rw[d] at z;cases z⟩
 keep:=λi h h' st k=>st.at λo e=>k it (by simp) o e
 item:=by
  intro X hP hw hK hc i pins s σ H E I hf st hg
  subst hP hw hK
  obtain⟨xs,x,hq,hx⟩:=hg
  obtain⟨its,rv,p,hz⟩:=I.tuple hq
  obtain⟨u,hu,ru⟩:=rv.get hx
  obtain⟨f0,f1,f2,f3,f4,f5⟩:=hf it (by simp)
  refine wpAny_pyNext_tuple_item st (show s.heap.IsTuple a its.toArray from p) (x:=u) (by simpa using hu) λh' st' sb=>?_
  have I1:Inv X pins σ H { s with heap:=h' }:=I.turned (t':=s.toks) (λb o hb e=>(sb.2 b hb).trans e) f0 f1 f3 f4 f5
  obtain⟨o,e,c,d⟩:=id st'
  exact⟨u,rfl,zZ (s:={ s with heap:=h' }) e c d (by decide) ⟨x,H,I1,ru,⟨rfl,λys hy=>by rw[I.tuple_inj hy hq];exact hx⟩,st',λb hb=>(hf b hb).1⟩⟩
 done:=by
  intro X hP hw hK hc i pins s σ H E I hf st hg
  subst hP hw hK
  obtain⟨xs,hq,hx⟩:=hg
  obtain⟨its,rv,p,hz⟩:=I.tuple hq
  obtain⟨f0,f1,f2,f3,f4,f5⟩:=hf it (by simp)
  have hl:=rv.length
  exact wpAny_pyNext_tuple_end (I.ok.hd hc) st (show s.heap.IsTuple a its.toArray from p) (by simp;omega) λh' eb=>⟨rfl,I.turned (t':=s.toks) (λb o hb e=>eb b o hb e) f0 f1 f3 f4 f5⟩
 self:=λ_ _ _ _ _ st h=>wpAny_pyIter_tupleiter st h
theorem yT {P:Program} {w:World} {K:PySem.W.Frag} {tg:Expr} (it:Addr) (lo:Int) (n:Nat):Turn P w K tg (Itr lo n) [it] it (λi h=>IsRangeIter h it (lo+(i:Nat)*1) ((n:Int)-(i:Nat)) 1) where
 mem:=by simp
 obj:=λi h st b hb=>by
  have e:b=it:=by simpa using hb
  subst e
  exact⟨_,st,λv z=>by
   have z':Data.fields _=Data.cell v:=z
   cases z'⟩
 keep:=λi h h' st k=>k it (by simp) _ st
 item:=by
  intro X hP hw hK hc i pins s σ H E I hf st hg
  subst hP hw hK
  obtain⟨f0,f1,f2,f3,f4,f5⟩:=hf it (by simp)
  have W:=Walks.range (prog:=X.prog) (w:=X.w) (I.ok.hd hc) it lo 1 n
  refine W.item i s _ _ hg st λv h' tk hv st' kk=>?_
  obtain⟨t,rfl⟩:=hv
  have I1:Inv X pins σ H { s with heap:=h',toks:=tk }:=I.turned (λb o hb e=>kk b o (by simpa using hb) e) f0 f1 f3 f4 f5
  refine⟨_,rfl,zZ (s:={ s with heap:=h',toks:=tk }) (n:="range_iterator") st' rfl rfl (by decide) ⟨.int (lo+i),H,I1,⟨t,?_⟩,⟨rfl,rfl⟩,st',λb hb=>(hf b hb).1⟩⟩
  rw[Int.mul_one]
 done:=by
  intro X hP hw hK hc i pins s σ H E I hf st hg
  subst hP hw hK
  obtain⟨f0,f1,f2,f3,f4,f5⟩:=hf it (by simp)
  exact wpAny_pyNext_range_end (I.ok.hd hc) st (by have:n<=i:=hg;omega) λh' eb=>⟨rfl,I.turned (t':=s.toks) (λb o hb e=>eb b o hb e) f0 f1 f3 f4 f5⟩
 self:=λ_ _ _ _ _ st h=>wpAny_pyIter_rangeiter st h
end L2
namespace L2
open PySem PySem.Spec PyProof.Rows
section
variable {X:Cx} {tg:Expr}
noncomputable def OQ (K:PySem.W.Frag) (tl:TE):TI:=λσ H R=>tl σ H λx H1=>∃a,x = .ref a/\(∃xs,SqL K H1 a xs)/\R (Itl K a) H1
noncomputable def RK (K:PySem.W.Frag) (tl:TE):TI:=λσ H R=>tl σ H λx H1=>∃a,x = .ref a/\(∃xs,SqT K H1 a xs)/\R (Itt K a) H1
theorem JI {l:Expr} {tl:TE} (hl:PE X l tl):PI X tg l (OQ X.K tl):=by
 intro pins s σ H R I h
 refine thn (hl pins s σ H _ I h) λv s1 ⟨x,H1,I1,r1,q1⟩=>?_
 obtain⟨a,e,⟨xs,hq⟩,q⟩:=q1
 subst e
 cases r1
 obtain⟨its,rv,p,hz⟩:=I1.list hq
 refine wpAny_pyIter_list p.isList ?_
 refine⟨s1.heap.objs.size,[s1.heap.objs.size],_,_,H1,rfl,I1.kept (t':=s1.toks) λb o e=>Heap.get?_push_of_some _ e,DF a _,⟨_,Heap.get?_push_size _ rfl,rfl,rfl⟩,λb hb=>?_,q⟩
 have e:b=s1.heap.objs.size:=by simpa using hb
 subst e
 exact I1.fpOk (Nat.le_refl _) (I1.hok.fresh (Nat.le_refl _))
theorem NC {l:Expr} {tl:TE} (hl:PE X l tl):PI X tg l (RK X.K tl):=by
 intro pins s σ H R I h
 refine thn (hl pins s σ H _ I h) λv s1 ⟨x,H1,I1,r1,q1⟩=>?_
 obtain⟨a,e,⟨xs,hq⟩,q⟩:=q1
 subst e
 cases r1
 obtain⟨its,rv,p,hz⟩:=I1.tuple hq
 refine wpAny_pyIter_tuple (show s1.heap.IsTuple a its.toArray from p) ?_
 refine⟨s1.heap.objs.size,[s1.heap.objs.size],_,_,H1,rfl,I1.kept (t':=s1.toks) λb o e=>Heap.get?_push_of_some _ e,yU a _,⟨_,Heap.get?_push_size _ rfl,rfl,rfl⟩,λb hb=>?_,q⟩
 have e:b=s1.heap.objs.size:=by simpa using hb
 subst e
 exact I1.fpOk (Nat.le_refl _) (I1.hok.fresh (Nat.le_refl _))
theorem GP {pins:List (Addr × Obj)} {σ:St} {H:Hp} {s:Shared} {R:It->Hp->Prop} {E:Value->Shared->Prop} {lo hi:Int} {t u v:Tok} {tk:Nat} (I:Inv X pins σ H s) (h1:-(2 ^ 62)<=lo) (h2:lo<2 ^ 62) (h3:-(2 ^ 62)<=hi) (h4:hi<2 ^ 62)
  (q:R (Itr lo (hi-lo).toNat) H):wpAny (model X.prog X.w) X.A (pyIter (.ref s.heap.objs.size)) (PIE X pins σ tg R) E { s with heap:=s.heap.push { cls:=.type "range",data:=.fields #[.int lo t,.int hi u,.int 1 v] },toks:=tk }:=by
 refine wpAny_pyIter_range (IsRange.new ..) (small_one h1 h2 h3 h4) ?_
 have I1:Inv X pins σ H { s with heap:=s.heap.push { cls:=.type "range",data:=.fields #[.int lo t,.int hi u,.int 1 v] },toks:=tk }:=I.kept λb o e=>Heap.get?_push_of_some _ e
 refine⟨(s.heap.push { cls:=.type "range",data:=.fields #[.int lo t,.int hi u,.int 1 v] }).objs.size,[(s.heap.push { cls:=.type "range",data:=.fields #[.int lo t,.int hi u,.int 1 v] }).objs.size],_,_,H,rfl,
  I1.kept (t':=tk) λb o e=>Heap.get?_push_of_some _ e,yT _ lo (hi-lo).toNat,?_,λb hb=>?_,q⟩
 ·have e1:lo+((0:Nat):Int)*1=lo:=by simp
  have e2:(((hi-lo).toNat:Nat):Int)-((0:Nat):Int)=Builtin.Range.rangeSize lo hi 1:=by rw[rangeSize_one];split <;> omega
  show IsRangeIter _ _ (lo+((0:Nat):Int)*1) ((((hi-lo).toNat:Nat):Int)-((0:Nat):Int)) 1
  rw[e1,e2]
  exact Heap.get?_push_size _ rfl
 ·have e:b=(s.heap.push { cls:=.type "range",data:=.fields #[.int lo t,.int hi u,.int 1 v] }).objs.size:=by simpa using hb
  subst e
  exact I1.fpOk (Nat.le_refl _) (I1.hok.fresh (Nat.le_refl _))
noncomputable def OR (ta:TA):TI:=λσ H R=>ta σ H λvs H1=>∃j:Int,vs=[.int j]/\-(2 ^ 62)<=j/\j<2 ^ 62/\R (Itr 0 j.toNat) H1
theorem CP {a:Expr} {ta:TA} {p pos:Pos} (hg:Gl X "range") (hm:X.mg "range" = none) (ha:PA X [a] ta) (hs:starEach [a] X.env=[(false,eval a X.env)]:=by rfl):PI X tg (.Call (.Name "range" p) [a] [] pos) (OR ta):=by
 intro pins s σ H R I h
 refine Call_ (gS I hg hm boot_range (PyProof.Rows.callWith_type1 (thn (ha pos pins s σ H _ I h) λus s1 ⟨vs,H1,I1,r1,q1⟩=>?_) hs rfl))
 obtain⟨j,e,q1,q2,q⟩:=q1
 subst e
 cases r1 with
 | cons r rr =>
  cases rr
  obtain⟨t,rfl⟩:=r
  exact call_range_1 (GP I1 (by omega) (by omega) q1 q2 (by simpa using q))
noncomputable def SM (wi:TI) (g:TG) (tb:TS):TS:=λD σ H=>wi σ H λJ H1=>∃W:Nat->Nat->St->Hp->Prop,(∃m,W 0 m σ H1)/\∀i m σ H,W i m σ H ->
 (J.stop i H/\D.nx σ H)\/(J.go i H/\∃N:St->Hp->Prop,(∀σ' H',N σ' H'->∃m',m'<m/\W (i+1) m' σ' H')/\∀x H',J.yld i H x H'->g x σ H' λσ2 H2=>tb { D with nx:=N,ct:=N,bk:=D.nx } σ2 H2)
noncomputable def uB (fp:List Addr) (h:Heap):List (Addr × Obj):=fp.filterMap λb=>(h.get? b).map λo=>(b,o)
theorem gX {fp:List Addr} {h:Heap} {b:Addr} {o:Obj} (hb:b∈fp) (e:h.get? b=some o):(b,o)∈uB fp h:=List.mem_filterMap.mpr ⟨b,hb,by rw[e];rfl⟩
theorem CM {fp:List Addr} {h:Heap} {p:Addr × Obj} (hp:p∈uB fp h):p.1∈fp/\h.get? p.1=some p.2:=by
 obtain⟨b,hb,e⟩:=List.mem_filterMap.mp hp
 cases q:h.get? b with
 | none=>rw[q] at e;cases e
 | some o =>
  rw[q] at e
  have e':(b,o)=p:=Option.some.inj e
  subst e'
  exact⟨hb,q⟩
theorem Inv.pinned {pins:List (Addr × Obj)} {σ:St} {H:Hp} {s:Shared} {fp:List Addr} (I:Inv X pins σ H s) (hf:∀b∈fp,qQ X pins H b) (ho:∀b∈fp,∃o,s.heap.get? b=some o/\∀v,o.data≠.cell v):Inv X (pins++uB fp s.heap) σ H s :=
 I.pins_of λp hp=>(List.mem_append.mp hp).elim (λz=>I.pin p (List.mem_append_right _ z)) λz=>by
  obtain⟨hb,e⟩:=CM z
  obtain⟨f0,f1,f2,_⟩:=hf p.1 hb
  obtain⟨o,e',d⟩:=ho p.1 hb
  rw[e] at e';cases e'
  exact⟨e,f0,f1,f2,d⟩
theorem Inv.unpinned {pins pl:List (Addr × Obj)} {σ:St} {H:Hp} {s:Shared} (I:Inv X (pins++pl) σ H s):Inv X pins σ H s:=I.pins_of λp hp=>I.pin p (List.mem_append_right _ (List.mem_append_left _ hp))
theorem NE {iter:Expr} {body:List Stmt} {wi:TI} {g:TG} {tb:TS} {pos:Pos} (hp:PassesOwn (model X.prog X.w) X.A X.env X.xe) (hc:X.calm=true) (hi:PI X tg iter wi) (hg:PG X tg g) (hb:PSs X body tb)
  (hs:∀x,foldedSetIterable iter X.env x=pure x:=by intro _;rfl):PS X (.For tg iter body [] pos) (SM wi g tb):=by
 intro pins s σ H D I h
 refine wpAny_For (thn (hi pins s σ H _ I h) λv s1 h1=>thn h1 λitv s2 h2=>?_) hs
 obtain⟨it,fp,tn,J,H2,e,I2,T,st2,f2,W,⟨m0,w0⟩,turn⟩:=h2
 subst e
 have stat:∀{H':Hp},(∀b∈fp,H' b=none)->∀b∈fp,qQ X pins H' b:=λhn b hb=>⟨hn b hb,(f2 b hb).2⟩
 refine codeAny_forLoop_any (λn s'=>∃i σ' H',Inv X pins σ' H' s'/\tn i s'.heap/\(∀b∈fp,H' b=none)/\W i n σ' H') ?_ m0 ⟨0,σ,H2,I2,st2,λb hb=>(f2 b hb).1,w0⟩
 rintro n s3 ⟨i,σ3,H3,I3,st3,fr3,w3⟩
 rcases turn i n σ3 H3 w3 with ⟨stop,qn⟩ | ⟨go,N,hN,step⟩
 ·refine wpAny_passesOwn hp (thn (T.done X rfl rfl rfl hc i pins s3 σ3 H3 X.xe I3 (stat fr3) st3 stop) λr s4 ⟨hr,I4⟩=>?_)
  subst hr
  exact wpAny_execs_nil ⟨σ3,H3,I4,qn⟩
 ·refine wpAny_passesOwn hp (thn (T.item X rfl rfl rfl hc i pins s3 σ3 H3 X.xe I3 (stat fr3) st3 go) λr s4 ⟨u,hr,h4⟩=>?_)
  subst hr
  refine wpAny_passesOwn hp (thn h4 λ_ s5 ⟨x,H5,I5,r5,y5,st5,fr5⟩=>?_)
  have I5':=I5.pinned (stat fr5) (T.obj _ _ st5)
  refine wpAny_passesOwn hp (thn (hg _ s5 σ3 H5 x u _ I5' r5 (step x H5 y5)) λ_ s6 ⟨σ6,H6,I6,q6⟩=>?_)
  refine wpAny_passesOwn hp (thn (hb _ s6 σ6 H6 _ I6 q6) λf s7 q7=>?_)
  have again:∀{σ7:St} {H7:Hp},Inv X (pins++uB fp s5.heap) σ7 H7 s7->N σ7 H7->∃m,m<n/\∃i σ' H',Inv X pins σ' H' s7/\tn i s7.heap/\(∀b∈fp,H' b=none)/\W i m σ' H':=λ{σ7 H7} I7 n7=>by
   obtain⟨m',hm,w7⟩:=hN σ7 H7 n7
   refine⟨m',hm,i+1,σ7,H7,I7.unpinned,T.keep _ _ _ st5 λb hb o e=>(I7.pin (b,o) (List.mem_append_right _ (List.mem_append_right _ (gX hb e)))).1,λb hb=>?_,w7⟩
   obtain⟨o,e,d⟩:=T.obj _ _ st5 b hb
   exact (I7.pin (b,o) (List.mem_append_right _ (List.mem_append_right _ (gX hb e)))).2.1
  cases f with
  | next=>obtain⟨σ7,H7,I7,n7⟩:=q7;exact again I7 n7
  | cont=>obtain⟨σ7,H7,I7,n7⟩:=q7;exact again I7 n7
  | brk=>obtain⟨σ7,H7,I7,q7⟩:=q7;exact⟨σ7,H7,I7.unpinned,q7⟩
  | ret v=>obtain⟨x7,σ7,H7,I7,r7,q7⟩:=q7;exact⟨x7,σ7,H7,I7.unpinned,r7,q7⟩
end
end L2
namespace L2
open PySem PySem.Spec PyProof.Rows
noncomputable abbrev R2:=V->V->Hp->VK->Prop
noncomputable def OpR (X:Cx) (f:Value->Value->Sem Value) (r:R2):Prop :=
 ∀(pins:List (Addr × Obj)) (s:Shared) (σ:St) (H:Hp) (x y:V) (v u:Value) (Q:VK),Inv X pins σ H s->RelV x v->RelV y u->r x y H Q ->
  wpAny (model X.prog X.w) X.A (f v u) (EP X pins σ Q) X.xe s
noncomputable def UnR (X:Cx) (f:Value->Sem Value) (r:V->Hp->VK->Prop):Prop :=
 ∀(pins:List (Addr × Obj)) (s:Shared) (σ:St) (H:Hp) (x:V) (v:Value) (Q:VK),Inv X pins σ H s->RelV x v->r x H Q ->
  wpAny (model X.prog X.w) X.A (f v) (EP X pins σ Q) X.xe s
noncomputable def iB (X:Cx) (f:Value) (r:List V->Hp->VK->Prop):Prop :=
 ∀(pins:List (Addr × Obj)) (s:Shared) (σ:St) (H:Hp) (xs:List V) (us:List Value) (Q:VK),Inv X pins σ H s->Vals xs us->r xs H Q ->
  wpAny (model X.prog X.w) X.A (call f us) (EP X pins σ Q) X.xe s
noncomputable def tOp (r:R2) (ta tb:TE):TE:=λσ H Q=>ta σ H λx H1=>tb σ H1 λy H2=>r x y H2 Q
noncomputable def tUn (r:V->Hp->VK->Prop) (ta:TE):TE:=λσ H Q=>ta σ H λx H1=>r x H1 Q
noncomputable def rI (C:Int->Int->Prop) (g:Int->Int->V):R2:=λx y H Q=>∃i j,x = .int i/\y = .int j/\C i j/\Q (g i j) H
noncomputable def rI0 (g:Int->Int->V):R2:=λx y H Q=>∃i j,x = .int i/\y = .int j/\Q (g i j) H
noncomputable def rU (g:Int->V):V->Hp->VK->Prop:=λx H Q=>∃i,x = .int i/\Q (g i) H
section
variable {X:Cx} {a b c:Expr} {ta tb tc:TE} {pos:Pos}
theorem LB (ha:PE X a ta) (hb:PE X b tb) {pins:List (Addr × Obj)} {s:Shared} {σ:St} {H:Hp} {R:V->V->Hp->Prop} (I:Inv X pins σ H s)
  (h:ta σ H λx H1=>tb σ H1 λy H2=>R x y H2) {Q:Value->Shared->Prop} {f:Value->Value->Sem Value}
  (hf:∀v u s2 x y H2,Inv X pins σ H2 s2->RelV x v->RelV y u->R x y H2->wpAny (model X.prog X.w) X.A (f v u) Q X.xe s2) :
  wpAny (model X.prog X.w) X.A (eval a X.env) (λv s₁=>wpAny (model X.prog X.w) X.A (eval b X.env) (λu s₂=>wpAny (model X.prog X.w) X.A (f v u) Q X.xe s₂) X.xe s₁) X.xe s:=by
 refine thn (ha pins s σ H _ I h) λv s1 ⟨x,H1,I1,r1,q1⟩=>?_
 refine thn (hb pins s1 σ H1 _ I1 q1) λu s2 ⟨y,H2,I2,r2,q2⟩=>?_
 exact hf v u s2 x y H2 I2 r1 r2 q2
theorem PM {op:Operator} {r:R2} (ho:OpR X (binaryOp op) r) (ha:PE X a ta) (hb:PE X b tb):PE X (.BinOp a op b pos) (tOp r ta tb):=by
 intro pins s σ H Q I h
 exact wpAny_BinOp (LB ha hb I h λv u s2 x y H2 I2 rx ry q=>ho pins s2 σ H2 x y v u Q I2 rx ry q)
theorem PN {op:UnaryOp} {r:V->Hp->VK->Prop} (ho:UnR X (unaryOp op) r) (ha:PE X a ta):PE X (.UnaryOp op a pos) (tUn r ta):=by
 intro pins s σ H Q I h
 exact UnaryOp_ (thn (ha pins s σ H _ I h) λv s1 ⟨x,H1,I1,r1,q1⟩=>ho pins s1 σ H1 x v Q I1 r1 q1)
theorem opI {f:Value->Value->Sem Value} {C:Int->Int->Prop} {g:Int->Int->Int}
  (rule:∀(i j:Int) (t u:Tok) (s:Shared) (Q:Value->Shared->Prop) (E:Value->Shared->Prop),C i j->Q (.int (g i j) s.toks) { s with toks:=s.toks+1 }->wpAny (model X.prog X.w) X.A (f (.int i t) (.int j u)) Q E s) :
  OpR X f (rI C λi j=>.int (g i j)):=by
 intro pins s σ H x y v u Q I rx ry h
 obtain⟨i,j,rfl,rfl,hc,q⟩:=h
 obtain⟨t,rfl⟩:=rx
 obtain⟨t',rfl⟩:=ry
 exact rule i j t t' s _ _ hc ⟨.int (g i j),H,I.tok _,⟨_,rfl⟩,q⟩
theorem MO {f:Value->Value->Sem Value} {g:Int->Int->Bool}
  (rule:∀(i j:Int) (t u:Tok) (s:Shared) (Q:Value->Shared->Prop) (E:Value->Shared->Prop),Q (.bool (g i j)) s->wpAny (model X.prog X.w) X.A (f (.int i t) (.int j u)) Q E s) :
  OpR X f (rI0 λi j=>.bl (g i j)):=by
 intro pins s σ H x y v u Q I rx ry h
 obtain⟨i,j,rfl,rfl,q⟩:=h
 obtain⟨t,rfl⟩:=rx
 obtain⟨t',rfl⟩:=ry
 exact rule i j t t' s _ _ ⟨.bl (g i j),H,I,rfl,q⟩
noncomputable def CMul (i j:Int):Prop:=(-(2 ^ 64)<i/\i<2 ^ 64)\/(-(2 ^ 64)<j/\j<2 ^ 64)
theorem CMul.ok {i j:Int} (h:CMul i j):IntMulOk i j:=by
 rcases h with ⟨h1,h2⟩ | ⟨h1,h2⟩
 ·exact .of_left (intBits_le_64 h1 h2)
 ·exact .of_right (intBits_le_64 h1 h2)
theorem unI {f:Value->Sem Value} {g:Int->Int}
  (rule:∀(i:Int) (t:Tok) (s:Shared) (Q:Value->Shared->Prop) (E:Value->Shared->Prop),Q (.int (g i) s.toks) { s with toks:=s.toks+1 }->wpAny (model X.prog X.w) X.A (f (.int i t)) Q E s) :
  UnR X f (rU λi=>.int (g i)):=by
 intro pins s σ H x v Q I rx h
 obtain⟨i,rfl,q⟩:=h
 obtain⟨t,rfl⟩:=rx
 exact rule i t s _ _ ⟨.int (g i),H,I.tok _,⟨_,rfl⟩,q⟩
theorem OC:UnR X (unaryOp .USub) (rU λi=>.int (-i)):=unI λ_ _ _ _ _ q=>neg_int q
end
noncomputable def QI:V->V->Bool
 | .non,.non=>true | .non,.int _=>true | .int _,.non=>true | .non,.bl _=>true | .bl _,.non=>true | .non,.str _=>true | .str _,.non=>true
 | .int _,.int _=>true | .bl _,.bl _=>true | .str _,.str _=>true | .byt _,.byt _=>true
 | .int _,.str _=>true | .str _,.int _=>true | .bl _,.str _=>true | .str _,.bl _=>true
 | _,_=>false
noncomputable def rEq:R2:=λx y H Q=>QI x y=true/\Q (.bl (decide (x=y))) H
noncomputable def rNe:R2:=λx y H Q=>QI x y=true/\Q (.bl (!decide (x=y))) H
theorem zP {i j:Int}:decide (V.int i=V.int j)=(i == j):=by
 rw[Bool.eq_iff_iff]
 simp
theorem FG {i j:Bool}:decide (V.bl i=V.bl j)=(i == j):=by
 rw[Bool.eq_iff_iff]
 simp
theorem zQ {i j:Str}:decide (V.str i=V.str j)=(i == j):=by
 rw[Bool.eq_iff_iff]
 simp
theorem zO {i j:Array UInt8}:decide (V.byt i=V.byt j)=(i.toList == j.toList):=by
 rw[Bool.eq_iff_iff]
 cases i
 cases j
 simp
section
variable {X:Cx} {a b c:Expr} {ta tb tc:TE} {pos:Pos}
theorem bD {pins:List (Addr × Obj)} {σ:St} {H:Hp} {s:Shared} {Q:VK} {k k':Bool} (I:Inv X pins σ H s) (q:Q (.bl k) H) (e:k=k'):EP X pins σ Q (.bool k') s:=by
 subst e
 exact⟨.bl k,H,I,rfl,q⟩
theorem KQ:OpR X (compareOp .Eq) rEq:=by
 intro pins s σ H x y v u Q I rx ry h
 obtain⟨hs,q⟩:=h
 cases x with
 | non =>
  cases rx
  cases y with
  | non=>cases ry;exact PySem.EqNone.eq_none_none (bD I q (by simp))
  | bl j=>cases ry;exact PySem.EqNone.eq_none_bool (bD I q (by simp))
  | int j=>obtain⟨t',rfl⟩:=ry;exact PySem.EqNone.eq_none_int (bD I q (by simp))
  | str j=>obtain⟨t',rfl⟩:=ry;exact PySem.EqNone.eq_none_str (bD I q (by simp))
  | _=>exact absurd (show false=true from hs) Bool.false_ne_true
 | bl i =>
  cases rx
  cases y with
  | non=>cases ry;exact PySem.EqNone.eq_bool_none (bD I q (by simp))
  | bl j=>cases ry;exact eq_bool (bD I q FG)
  | str j=>obtain⟨t',rfl⟩:=ry;exact PySem.EqMixed.eq_bool_str (bD I q (by simp))
  | _=>exact absurd (show false=true from hs) Bool.false_ne_true
 | int i =>
  obtain⟨t,rfl⟩:=rx
  cases y with
  | non=>cases ry;exact PySem.EqNone.eq_int_none (bD I q (by simp))
  | int j=>obtain⟨t',rfl⟩:=ry;exact eq_int (bD I q zP)
  | str j=>obtain⟨t',rfl⟩:=ry;exact PySem.EqMixed.eq_int_str (bD I q (by simp))
  | _=>exact absurd (show false=true from hs) Bool.false_ne_true
 | str i =>
  obtain⟨t,rfl⟩:=rx
  cases y with
  | non=>cases ry;exact PySem.EqNone.eq_str_none (bD I q (by simp))
  | bl j=>cases ry;exact PySem.EqMixed.eq_str_bool (bD I q (by simp))
  | int j=>obtain⟨t',rfl⟩:=ry;exact PySem.EqMixed.eq_str_int (bD I q (by simp))
  | str j=>obtain⟨t',rfl⟩:=ry;exact eq_str (bD I q zQ)
  | _=>exact absurd (show false=true from hs) Bool.false_ne_true
 | byt i =>
  obtain⟨t,rfl⟩:=rx
  cases y with
  | byt j=>obtain⟨t',rfl⟩:=ry;exact PySem.W.eq_bytes (bD I q zO)
  | _=>exact absurd (show false=true from hs) Bool.false_ne_true
 | _=>cases y <;> exact absurd (show false=true from hs) Bool.false_ne_true
theorem KR:OpR X (compareOp .NotEq) rNe:=by
 intro pins s σ H x y v u Q I rx ry h
 obtain⟨hs,q⟩:=h
 cases x with
 | non =>
  cases rx
  cases y with
  | non=>cases ry;exact PySem.EqNone.ne_none_none (bD I q (by simp))
  | bl j=>cases ry;exact PySem.EqNone.ne_none_bool (bD I q (by simp))
  | int j=>obtain⟨t',rfl⟩:=ry;exact PySem.EqNone.ne_none_int (bD I q (by simp))
  | str j=>obtain⟨t',rfl⟩:=ry;exact PySem.EqNone.ne_none_str (bD I q (by simp))
  | _=>exact absurd (show false=true from hs) Bool.false_ne_true
 | bl i =>
  cases rx
  cases y with
  | non=>cases ry;exact PySem.EqNone.ne_bool_none (bD I q (by simp))
  | bl j=>cases ry;exact ne_bool (bD I q (congrArg not FG))
  | str j=>obtain⟨t',rfl⟩:=ry;exact PySem.EqMixed.ne_bool_str (bD I q (by simp))
  | _=>exact absurd (show false=true from hs) Bool.false_ne_true
 | int i =>
  obtain⟨t,rfl⟩:=rx
  cases y with
  | non=>cases ry;exact PySem.EqNone.ne_int_none (bD I q (by simp))
  | int j=>obtain⟨t',rfl⟩:=ry;exact ne_int (bD I q (congrArg not zP))
  | str j=>obtain⟨t',rfl⟩:=ry;exact PySem.EqMixed.ne_int_str (bD I q (by simp))
  | _=>exact absurd (show false=true from hs) Bool.false_ne_true
 | str i =>
  obtain⟨t,rfl⟩:=rx
  cases y with
  | non=>cases ry;exact PySem.EqNone.ne_str_none (bD I q (by simp))
  | bl j=>cases ry;exact PySem.EqMixed.ne_str_bool (bD I q (by simp))
  | int j=>obtain⟨t',rfl⟩:=ry;exact PySem.EqMixed.ne_str_int (bD I q (by simp))
  | str j=>obtain⟨t',rfl⟩:=ry;exact ne_str (bD I q (congrArg not zQ))
  | _=>exact absurd (show false=true from hs) Bool.false_ne_true
 | byt i =>
  obtain⟨t,rfl⟩:=rx
  cases y with
  | byt j=>obtain⟨t',rfl⟩:=ry;exact PySem.W.ne_bytes (bD I q (congrArg not zO))
  | _=>exact absurd (show false=true from hs) Bool.false_ne_true
 | _=>cases y <;> exact absurd (show false=true from hs) Bool.false_ne_true
theorem PH:OpR X (compareOp .Lt) (rI0 λi j=>.bl (decide (i<j))):=MO λ_ _ _ _ _ _ _ q=>lt_int q
theorem PF:OpR X (compareOp .LtE) (rI0 λi j=>.bl (decide (i<=j))):=MO λ_ _ _ _ _ _ _ q=>le_int q
theorem PD:OpR X (compareOp .Gt) (rI0 λi j=>.bl (decide (j<i))):=MO λ_ _ _ _ _ _ _ q=>gt_int q
theorem MQ:OpR X (compareOp .Is) (λx y H Q=>y = .non/\Q (.bl (decide (x = .non))) H):=by
 intro pins s σ H x y v u Q I rx ry h
 obtain⟨rfl,q⟩:=h
 cases ry
 refine is_none_gen (bD I q ?_)
 cases x <;> first
  | (cases rx;rfl)
  | (obtain⟨t,rfl⟩:=rx;rfl)
theorem GC (b:Expr) {op:CmpOp} (h:op≠.In:=by decide) (h2:op≠.NotIn:=by decide):behindInMarks op b=false:=by
 have e1:(op == CmpOp.In)=false:=by cases op <;> first | rfl | exact absurd rfl h
 have e2:(op == CmpOp.NotIn)=false:=by cases op <;> first | rfl | exact absurd rfl h2
 cases b <;> simp[behindInMarks,e1,e2]
theorem JF {op:CmpOp} {r:R2} (ho:OpR X (compareOp op) r) (ha:PE X a ta) (hb:PE X b tb) (hm:behindInMarks op b=false):PE X (.Compare a [op] [b] pos) (tOp r ta tb):=by
 intro pins s σ H Q I h
 exact wpAny_Compare1 (LB ha hb I h λv u s2 x y H2 I2 rx ry q=>ho pins s2 σ H2 x y v u Q I2 rx ry q) hm
noncomputable def QU (t:TE):TT:=λσ H Q=>t σ H λx H'=>∃k,x = .bl k/\Q k H'
theorem JN {op:CmpOp} {r:R2} (ho:OpR X (compareOp op) r) (ha:PE X a ta) (hb:PE X b tb) (hm:behindInMarks op b=false):PT X (.Compare a [op] [b] pos) (QU (tOp r ta tb)):=by
 intro pins s σ H Q I h
 refine wpAny_isTrue_Compare1 (thn (ha pins s σ H _ I h) λv s1 ⟨x,H1,I1,r1,q1⟩=>thn (hb pins s1 σ H1 _ I1 q1) λu s2 ⟨y,H2,I2,r2,q2⟩ =>
  thn (ho pins s2 σ H2 x y v u _ I2 r1 r2 q2) λc s3 ⟨z,H3,I3,r3,k,e,q3⟩=>?_) hm
 subst e
 cases r3
 exact wpAny_truthy_bool ⟨H3,I3,q3⟩
theorem tT:(sizeLine:Nat)<2 ^ 63:=by rw[sizeLine_eq];decide
theorem kN {x:V} {us:List Value} (r:Vals [x] us):∃u,us=[u]/\RelV x u:=by
 cases r with
 | cons r1 r2=>cases r2;exact⟨_,rfl,r1⟩
theorem HM {x y:V} {us:List Value} (r:Vals [x,y] us):∃u w',us=[u,w']/\RelV x u/\RelV y w':=by
 cases r with
 | cons r1 r2 =>
  cases r2 with
  | cons r3 r4=>cases r4;exact⟨_,_,rfl,r1,r3⟩
theorem EH:iB X (.builtin "abs") (λxs H Q=>∃i,xs=[.int i]/\Q (.int (if i<0 then -i else i)) H):=by
 intro pins s σ H xs us Q I r h
 obtain⟨i,rfl,q⟩:=h
 obtain⟨u,rfl,t,rfl⟩:=kN r
 exact call_abs_int λu tk=>⟨.int (if i<0 then -i else i),H,I.tok _,⟨_,rfl⟩,q⟩
theorem BE (hc:X.calm=true):iB X (.builtin "max") (λxs H Q=>∃i j,xs=[.int i,.int j]/\Q (.int (if j > i then j else i)) H):=by
 intro pins s σ H xs us Q I r h
 obtain⟨i,j,rfl,q⟩:=h
 obtain⟨u,w',rfl,⟨t,rfl⟩,⟨t',rfl⟩⟩:=HM r
 refine max_two_ints (I.ok.hd hc) λh' tk k=>⟨_,H,I.kept k,?_,q⟩
 by_cases hj:j > i
 ·rw[if_pos hj,if_pos hj];exact⟨_,rfl⟩
 ·rw[if_neg hj,if_neg hj];exact⟨_,rfl⟩
theorem BG (hc:X.calm=true):iB X (.builtin "min") (λxs H Q=>∃i j,xs=[.int i,.int j]/\Q (.int (if j<i then j else i)) H):=by
 intro pins s σ H xs us Q I r h
 obtain⟨i,j,rfl,q⟩:=h
 obtain⟨u,w',rfl,⟨t,rfl⟩,⟨t',rfl⟩⟩:=HM r
 refine min_two_ints (I.ok.hd hc) λh' tk k=>⟨_,H,I.kept k,?_,q⟩
 by_cases hj:j<i
 ·rw[if_pos hj,if_pos hj];exact⟨_,rfl⟩
 ·rw[if_neg hj,if_neg hj];exact⟨_,rfl⟩
end
end L2
namespace L2
open PySem PySem.Spec PyProof.Rows
structure ObjM (h:Heap) (x dx C:Addr) (mA:Str->Option Value):Prop where
 obj:h.get? x=some (PySem.W.instObj C dx)
 ns:h.Ns1 dx mA
 ne:dx≠x
theorem CH {h:Heap} {dx:Addr} {mA:Str->Option Value} (n:h.Ns1 dx mA):∃od,h.get? dx=some od/\∀name,PySem.W.lookIn name od=some (mA name):=by
 obtain⟨o,es,ep,ho,hd,hk,_,hm⟩:=n
 refine⟨o,ho,λname=>?_⟩
 have e:=hm name
 unfold nsFind findBy at e
 rw[<-Array.find?_toList] at e
 unfold PySem.W.lookIn
 rw[hd]
 dsimp only
 split
 ·rename_i y q
  rw[q] at e
  exact congrArg some e
 ·rename_i q
  rw[q] at e
  have a:es.toList.any (·.refKey)=false:=by
   rw[List.any_eq_false]
   intro y hy
   obtain⟨z,t,hkey⟩:=hk y (Array.mem_toList_iff.mp hy)
   simp[DictEntry.refKey,hkey]
  have a':¬es.toList.any (·.refKey)=true:=by rw[a];exact Bool.false_ne_true
  rw[if_neg a']
  exact congrArg some e
theorem ObjM.look {h:Heap} {x dx C:Addr} {mA:Str->Option Value} (I:ObjM h x dx C mA):∃od,PySem.W.InstAt h x (PySem.W.instObj C dx) C (some od)/\∀name,PySem.W.lookIn name od=some (mA name) :=
 let ⟨od,ho,hl⟩:=CH I.ns
 ⟨od,⟨I.obj,rfl,rfl,ho⟩,hl⟩
section
variable {prog:Program} {w:World} {A:Around} {E:Value->Shared->Prop} {s:Shared} {K:PySem.W.Frag} {x dx C f:Addr} {mA:Str->Option Value} {name:Str} {v:Value}
end
section
variable {P:Program} {w:World} {H H':Hp} {h h':Heap} {a C dx:Addr} {fs fs':List (Str × V)}
theorem IK (hok:HOk P w H h) (e:H a=some (.ins C dx fs)):∃mA,ObjM h a dx C mA/\(∀f,RelO (fs.lookup f) (mA f))/\PySem.Within mA (fs.map (·.1))/\fs.length<=1000/\H dx=some (.own a):=by
 obtain⟨d,z,ne,ob,mA,n,r,q⟩:=(show ObjOk P w H h a (.ins C dx fs) from hok a _ e)
 exact⟨mA,⟨ob,n,ne⟩,r,q,z,d⟩
end
structure Cls (K:PySem.W.Frag) (C:Addr):Prop where
 pg:PySem.W.plainGet K C Str.empty=true
 hd:PySem.W.hasDictIn K C=true
 po:PySem.W.plainOver K C=true
 sa:PySem.W.findIn K (.ref C) "__setattr__" = some (some (.builtin "object.__setattr__"))
theorem Cls.get {K:PySem.W.Frag} {C:Addr} (c:Cls K C) (f:Str):PySem.W.plainGet K C f=true:=c.pg
section
variable {X:Cx} {pins:List (Addr × Obj)} {σ:St} {H:Hp} {s:Shared} {a C dx:Addr} {fs:List (Str × V)} {f:Str} {v:V} {A:Around} {E:Value->Shared->Prop}
end
section
variable {X:Cx} {o e value:Expr} {f:Str} {pos pos' tpos:Pos} {ta tv:TE}
end
section
variable {X:Cx} {pins:List (Addr × Obj)} {σ:St} {H:Hp} {s:Shared} {A:Around} {E:Value->Shared->Prop} {Q:Value->Shared->Prop} {c:Value} {b:Bool}
inductive TyOf (K:PySem.W.Frag) (H:Hp):V->Value->Prop where
 | non:TyOf K H .non (.type "NoneType")
 | bl (x:Bool):TyOf K H (.bl x) (.type "bool")
 | int (i:Int):TyOf K H (.int i) (.type "int")
 | str (x:Str):TyOf K H (.str x) (.type "str")
 | flt (x:UInt64):TyOf K H (.flt x) (.type "float")
 | lst {a:Addr} {xs:List V} (e:H a=some (.lst xs)):TyOf K H (.ref a) (.type "list")
 | frz {a:Addr} {o:Obj} {xs:List V} (e:H a=some (.frz o (.lst xs))):TyOf K H (.ref a) (.type "list")
 | tup {a:Addr} {xs:List V} (e:H a=some (.tup xs)):TyOf K H (.ref a) (.type "tuple")
 | dK {a:Addr} {kvs:List (Key × V)} (e:H a=some (.dK kvs)):TyOf K H (.ref a) (.type "dict")
 | dT {a:Addr} {kvs:List (List Key × V)} (e:H a=some (.dT kvs)):TyOf K H (.ref a) (.type "dict")
 | ins {a C dx:Addr} {fs:List (Str × V)} (e:H a=some (.ins C dx fs)) (cl:Cls K C) (ha:PySem.W.findIn K (.ref C) "__class__" = some (some (.builtin "object.__class__")))
   (hn:PySem.W.specialIn K (.builtin "object.__class__") "__get__" = some (some (.builtin "getset_descriptor.__get__"))) (htk:PySem.W.takesIn K (.builtin "object.__class__")=some true)
   (hm:PySem.W.mroIn K C (.type "object")=some true):TyOf K H (.ref a) (.ref C)
theorem BU {x:V} {u t:Value} (I:Inv X pins σ H s) (rx:RelV x u) (ty:TyOf X.K H x t) (e:PySem.W.kitOne X.K t c=some b) (h:∀tk,Q (.bool b) { s with toks:=tk }) :
  wpAny (model X.prog X.w) A (call (.builtin "isinstance") [u,c]) Q E s:=by
 cases ty with
 | non=>cases (show u=Value.none from rx);exact PySem.W.kia_one PySem.W.kitx_none I.kIn True.intro e (λz=>nomatch z) h
 | bl y=>cases (show u=Value.bool y from rx);exact PySem.W.kia_one PySem.W.kitx_bool I.kIn True.intro e (λz=>nomatch z) h
 | int i=>obtain⟨t,q⟩:=(show ∃t,u=Value.int i t from rx);cases q;exact PySem.W.kia_one PySem.W.kitx_int I.kIn True.intro e (λz=>nomatch z) h
 | str y=>obtain⟨t,q⟩:=(show ∃t,u=Value.str y t from rx);cases q;exact PySem.W.kia_one PySem.W.kitx_str I.kIn True.intro e (λz=>nomatch z) h
 | flt y=>obtain⟨t,q⟩:=(show ∃t,u=Value.float y t from rx);cases q;exact PySem.W.kia_one PySem.W.kitx_float I.kIn True.intro e (λz=>nomatch z) h
 | @lst a xs ea =>
  cases (show u=Value.ref a from rx)
  obtain⟨_,_,n,_,h1⟩:=(show ObjOk X.prog X.w H s.heap a (.lst xs) from I.hok a _ ea)
  exact PySem.W.kia_one PySem.W.kitx_list I.kIn ⟨_,h1,rfl⟩ e (λz=>nomatch z) h
 | @frz a ob xs ea =>
  cases (show u=Value.ref a from rx)
  obtain⟨_,_,_,n,_,h1⟩:=(show ObjOk X.prog X.w H s.heap a (.frz ob (.lst xs)) from I.hok a _ ea)
  exact PySem.W.kia_one PySem.W.kitx_list I.kIn ⟨_,h1,rfl⟩ e (λz=>nomatch z) h
 | @tup a xs ea =>
  cases (show u=Value.ref a from rx)
  obtain⟨_,_,_,p⟩:=(show ObjOk X.prog X.w H s.heap a (.tup xs) from I.hok a _ ea)
  obtain⟨o,h1,h2,_⟩:=p
  exact PySem.W.kia_one PySem.W.kitx_tuple I.kIn ⟨o,h1,h2⟩ e (λz=>nomatch z) h
 | @dK a kvs ea =>
  cases (show u=Value.ref a from rx)
  obtain⟨_,_,vs,_,p⟩:=(show ObjOk X.prog X.w H s.heap a (.dK kvs) from I.hok a _ ea)
  obtain⟨o,es,ep,h1,h2,_⟩:=p
  exact PySem.W.kia_one PySem.W.kitx_dict I.kIn ⟨o,h1,h2.1⟩ e (λz=>nomatch z) h
 | @dT a kvs ea =>
  cases (show u=Value.ref a from rx)
  obtain⟨_,_,xs,_,o,es,ep,h1,h2,_⟩:=(show ObjOk X.prog X.w H s.heap a (.dT kvs) from I.hok a _ ea)
  exact PySem.W.kia_one PySem.W.kitx_dict I.kIn ⟨o,h1,h2.1⟩ e (λz=>nomatch z) h
 | @ins a C dx fs ea cl ha hn htk hm =>
  cases (show u=Value.ref a from rx)
  obtain⟨mA,O,_⟩:=IK I.hok ea
  obtain⟨od,J,_⟩:=O.look
  exact PySem.W.kia_one (PySem.W.kitx_own (cl.get _) cl.hd ha hn htk hm) I.kIn J e (λz=>nomatch z) h
end
end L2
namespace L2
open PySem PySem.Spec PyProof.Rows
structure Room (k:Nat) (A:Around):Prop where
 hd:A.handled=none
 dp:A.depth+3*k+5<recursionLimit
 un:A.units+16*k+200<cLine
theorem Room.mono {j k:Nat} {A:Around} (r:Room k A) (h:j<=k):Room j A:=⟨r.hd,by have:=r.dp;omega,by have:=r.un;omega⟩
theorem Room.deeper {k:Nat} {A:Around} (r:Room (k+1) A) (env:Env):Room k (A.deeper env) :=
 ⟨r.hd,by have:=r.dp;show A.depth+1+3*k+5<_;omega,by have:=r.un;show A.units+3+16*k+200<_;omega⟩
theorem Room.depth {k:Nat} {A:Around} (r:Room k A):A.depth<recursionLimit:=by have:=r.dp;omega
theorem Room.units {k:Nat} {A:Around} (r:Room k A):A.units+64<cLine:=by have:=r.un;omega
noncomputable def SQ:TA:=λ_ H Q=>Q [] H
noncomputable def QP (ta:TE) (tr:TA):TA:=λσ H Q=>ta σ H λx H1=>tr σ H1 λxs H2=>Q (x::xs) H2
section
variable {X:Cx} {e:Expr} {es:List Expr} {te:TE} {t:TA} {pos:Pos}
theorem yH:PA X [] SQ:=λ_ _ _ _ H Q I h=>Calls.spliced_nil ⟨[],H,I,.nil,h⟩
theorem oY (ha:PE X e te) (hr:PA X es t) (hs:starEach (e::es) X.env=(false,eval e X.env)::starEach es X.env:=by rfl):PA X (e::es) (QP te t):=by
 intro pos pins s σ H Q I h
 rw[hs]
 show wpAny _ _ (spliced ((false,eval e X.env)::backTo pos (starEach es X.env))) _ _ s
 refine Calls.spliced_cons (thn (ha pins s σ H _ I h) λu s1 ⟨x,H1,I1,r1,q1⟩=>?_)
 exact thn (hr pos pins s1 σ H1 _ I1 q1) λus s2 ⟨xs,H2,I2,r2,q2⟩=>⟨x::xs,H2,I2,.cons r1 r2,q2⟩
noncomputable def SW (t:TA):TE:=λσ H Q=>t σ H λxs H1=>xs.length<=sizeLine/\∀p,H1 p=none->Q (.ref p) (upd H1 p (.tup xs))
noncomputable def SO (t:TA):TE:=λσ H Q=>t σ H λxs H1=>xs.length<=sizeLine/\∀p,H1 p=none->Q (.ref p) (upd H1 p (.lst xs))
theorem MY {x1} (h:PA X es t):PE X (.Tuple es x1 pos) (SW t):=by
 intro pins s σ H Q I hq
 refine wpAny_Tuple_spliced (thn (h pos pins s σ H _ I hq) λus s1 ⟨xs,H1,I1,r,z,q⟩=>⟨by rw[<-r.length];exact z,?_⟩)
 have hf:H1 s1.heap.objs.size=none:=I1.hok.fresh (Nat.le_refl _)
 refine⟨.ref s1.heap.objs.size,upd H1 s1.heap.objs.size (.tup xs),I1.laid (t':=s1.toks) (λb u e=>Heap.get?_push_of_some _ e) (Nat.le_refl _) ?_,rfl,q _ hf⟩
 exact⟨z,us,r,⟨_,Heap.get?_push_size _ rfl,rfl,_,rfl⟩⟩
theorem MU (h:PA X es t):PE X (.List es pos) (SO t):=by
 intro pins s σ H Q I hq
 refine wpAny_List_spliced (thn (h pos pins s σ H _ I hq) λus s1 ⟨xs,H1,I1,r,z,q⟩=>⟨by rw[<-r.length];exact z,?_⟩)
 have hf:H1 s1.heap.objs.size=none:=I1.hok.fresh (Nat.le_refl _)
 refine⟨.ref s1.heap.objs.size,upd H1 s1.heap.objs.size (.lst xs),I1.laid (t':=s1.toks) (λb u e=>Heap.get?_push_of_some _ e) (Nat.le_refl _) ?_,rfl,q _ hf⟩
 exact⟨z,us,0,r,Heap.get?_push_size _ rfl⟩
end
noncomputable abbrev Sp:=List V->Hp->VK->XK->Prop
noncomputable abbrev CXT:=List Env->Hp->Shared->XK->Value->Shared->Prop
structure Env0 (P:Program) (w:World) (K:PySem.W.Frag) (mg:Str->Option Value) (base:Heap) (A:Around) (outer:List Env) (s:Shared) (H:Hp):Prop where
 frames:A.frames=some outer
 mod:Mod K mg base
 bs:∀b o,base.get? b=some o->s.heap.get? b=some o/\H b=none
 bsz:base.objs.size<=s.heap.objs.size
 funs:s.heap.FunFrames base outer
 frf:∀b∈frs outer,H b=none
 hok:HOk P w H s.heap
 bare:AllBare s.gens
noncomputable def CE (outer:List Env) (P:Program) (w:World) (H:Hp) (s:Shared) (Q:VK) (u:Value) (s':Shared):Prop :=
 ∃v H',s'.os=s.os/\AllBare s'.gens/\Un (frs outer) [] H H' s.heap s'.heap/\HOk P w H' s'.heap/\RelV v u/\Q v H'
noncomputable def CR (CX:CXT) (outer:List Env) (P:Program) (w:World) (H:Hp) (s:Shared) (Q:VK) (E:XK) (r:Result) (s':Shared):Prop :=
 match r with
 | .ok (.ret u)=>CE outer P w H s Q u s'
 | .ok _=>False
 | .error e=>CX outer H s E e s'
structure FnOk (P:Program) (w:World) (K:PySem.W.Frag) (mg:Str->Option Value) (base:Heap) (CX:CXT) (k:Nat) (f:Addr) (fd:FuncData) (ps:List Str) (sp:Sp):Prop where
 len:∀vs H Q E,sp vs H Q E->vs.length=ps.length
 run:∀(A:Around) (outer:List Env) (s:Shared) (H:Hp) (args:Args) (us:List Value) (vs:List V) (Q:VK) (E:XK),Room k A->Env0 P w K mg base A outer s H->BindsTo s fd args (ps.zip us)->Vals vs us->sp vs H Q E ->
  codeAny (model P w) A (.call (.ref f) args) (CR CX outer P w H s Q E) s
theorem FnOk.mono {P:Program} {w:World} {K:PySem.W.Frag} {mg:Str->Option Value} {base:Heap} {CX:CXT} {j k:Nat} {f:Addr} {fd:FuncData} {ps:List Str} {sp:Sp} (F:FnOk P w K mg base CX j f fd ps sp) (h:j<=k) :
  FnOk P w K mg base CX k f fd ps sp:=⟨F.len,λA outer s H args us vs Q E hr=>F.run A outer s H args us vs Q E (hr.mono h)⟩
section
variable {X:Cx} {pins:List (Addr × Obj)} {σ:St} {H:Hp} {s s':Shared}
theorem Inv.env0 (I:Inv X pins σ H s):Env0 X.prog X.w X.K X.mg X.base X.A X.stack s H :=
 ⟨I.ok.frames,I.ok.mod,I.bs,Nat.le_trans I.ok.bsz I.sz,I.stack,I.stkFree,I.hok,I.bare⟩
theorem Inv.after {Q:VK} {u:Value} (I:Inv X pins σ H s) (h:CE X.stack X.prog X.w H s Q u s'):EP X pins σ Q u s':=by
 obtain⟨v,H',os,bare,un,hok,r,q⟩:=h
 obtain⟨hh,g,d,t,os'⟩:=s'
 obtain rfl:os'=s.os:=os
 exact⟨v,H',I.call (h':=hh) (g':=g) (d':=d) (t':=t) (ch:=[]) un hok bare (λb z=>absurd z (by simp)),r,q⟩
end
noncomputable def QO (sp:Sp) (dvs:List V) (E:XK) (t:TA):TE:=λσ H Q=>t σ H λvs H1=>sp (vs++dvs) H1 Q E
noncomputable def Binds (K:PySem.W.Frag) (fd:FuncData) (ps:List Str) (ds:List Value):Prop :=
 ∀(s:Shared) (us:List Value),K.In s.heap->(us++ds).length=ps.length->BindsTo s fd ⟨us,[]⟩ (ps.zip (us++ds))
theorem Binds.all {K:PySem.W.Frag} {fd:FuncData} {ps:List Str} (h:∀us:List Value,us.length=ps.length->bindArgs fd ⟨us,[]⟩=pure (ps.zip us)):Binds K fd ps []:=λs us _ hl=>by
 rw[List.append_nil] at hl ⊢
 exact .of_eq (h us hl)
noncomputable def xE (CX:CXT) (X:Cx) (E:XK):Prop:=∀(pins:List (Addr × Obj)) (σ:St) (H:Hp) (s:Shared) (e:Value) (s':Shared),Inv X pins σ H s->CX X.stack H s E e s'->X.xe e s'
section
variable {X:Cx} {CX:CXT} {k:Nat} {f C:Addr} {fd:FuncData} {ps:List Str} {sp:Sp} {dvs:List V} {ds:List Value} {E:XK} {x m:Str} {p pos apos:Pos} {e o:Expr} {es:List Expr} {ta:TE} {t:TA}
theorem NV {pins:List (Addr × Obj)} {σ:St} {H:Hp} {s:Shared} {Q:VK} {us:List Value} {vs:List V} (F:FnOk X.prog X.w X.K X.mg X.base CX k f fd ps sp) (hr:Room k X.A) (hb:Binds X.K fd ps ds) (hd:Vals dvs ds) (hx:xE CX X E)
  (I:Inv X pins σ H s) (r:Vals vs us) (h:sp (vs++dvs) H Q E):wpAny (model X.prog X.w) X.A (call (.ref f) us) (EP X pins σ Q) X.xe s:=by
 have r2:Vals (vs++dvs) (us++ds):=r.append hd
 have hl:(us++ds).length=ps.length:=by rw[<-r2.length];exact F.len _ _ _ _ h
 refine wpAny_call (codeAny_mono (F.run X.A X.stack s H ⟨us,[]⟩ (us++ds) (vs++dvs) Q E hr I.env0 (hb s us I.kIn hl) r2 h) λr s' hq=>?_)
 cases r with
 | error e=>exact hx pins σ H s e s' I hq
 | ok fl =>
  cases fl with
  | ret u=>exact I.after hq
  | next=>exact False.elim hq
  | brk=>exact False.elim hq
  | cont=>exact False.elim hq
theorem JE (F:FnOk X.prog X.w X.K X.mg X.base CX k f fd ps sp) (hr:Room k X.A) (hg:Gl X x) (hm:X.mg x=some (.ref f)) (hk:PySem.W.keepIn X.K (.ref f)=true) (hb:Binds X.K fd ps ds) (hd:Vals dvs ds) (hx:xE CX X E)
  (ha:PA X (e::es) t) (hdb:(x == ("__debug__":Str))=false:=by decide) (he:starEach (e::es) X.env=(false,eval e X.env)::starEach es X.env:=by rfl) (hpl:(backTo pos (starEach es X.env)).any (·.1)=false:=by rfl) :
  PE X (.Call (.Name x p) (e::es) [] pos) (QO sp dvs E t):=by
 intro pins s σ H Q I h
 refine wpAny_Call_Name_kw (IN I hg hm ?_ hdb)
 refine PySem.W.callWith_K (h₀:=X.base) I.ok.mod.kin hk (thn (ha pos pins s σ H _ I h) λus s1 ⟨vs,H1,I1,r,q⟩=>⟨I1.kIn,?_⟩) he hpl
 exact NV F hr hb hd hx I1 r q
structure Mk (K:PySem.W.Frag) (C f:Addr):Prop where
 makes:PySem.W.makesIn K C=true
 init:PySem.W.findIn K (.ref C) "__init__" = some (some (.ref f))
 fn:PySem.W.isFn K (.ref f)=true
 kp:PySem.W.keepIn K (.ref C)=true
end
section
variable {X:Cx} {CX:CXT} {k:Nat} {f C:Addr} {fd:FuncData} {ps ks:List Str} {sp:Sp} {E:XK} {x m:Str} {p pos apos kpos:Pos} {e o:Expr} {es:List Expr} {kws:List Keyword} {te ta:TE} {t tk:TA} {nm:Option Str}
variable {g:List Value->List Value->List Value} {gV:List V->List V->List V}
end
structure FnScope (N P:List Str) (sc:Scope):Prop where
 kind:sc.kind = .function
 co:sc.isCoroutine=false
 gen:sc.isGenerator=false
 nd:N.Nodup
 pre:N.take P.length=P
 par:∀x∈P,sc.names.lookup x=some .local\/sc.names.lookup x=some .cell
 nofree:∀y∈sc.names,y.2≠.free
theorem rX {kindOf:Str->Option NameKind} {x:Str}:∀{binds:List (Str × Value)} {m:Str->Option Value},(∀v,(x,v) ∉ binds)->bindL kindOf binds m x=m x
 | [],_,_=>rfl
 | (n,v)::r,m,h=>by
  unfold bindL
  rw[rX λw hw=>h w (List.mem_cons_of_mem _ hw)]
  split
  ·have:x≠n:=by rintro rfl;exact h v List.mem_cons_self
   simp[this]
  ·rfl
theorem rV {kindOf:Str->Option NameKind} {x:Str}:∀{binds:List (Str × Value)} {m:Str->Option Value},(∀v,(x,v) ∉ binds)->bindC kindOf binds m x=m x
 | [],_,_=>rfl
 | (n,v)::r,m,h=>by
  unfold bindC
  rw[rV λw hw=>h w (List.mem_cons_of_mem _ hw)]
  split
  ·rfl
  ·have:x≠n:=by rintro rfl;exact h v List.mem_cons_self
   simp[this]
theorem rW {kindOf:Str->Option NameKind} {x:Str} {v:Value}:∀{P:List Str} {vs:List Value} {i:Nat} {m:Str->Option Value},P.Nodup->P[i]? = some x->vs[i]? = some v->kindOf x=some .local ->
  bindL kindOf (P.zip vs) m x=some v
 | [],_,_,_,_,h,_,_=>by simp at h
 | _::_,[],_,_,_,_,h,_=>by simp at h
 | p::P,w::vs,0,m,nd,h1,h2,hk=>by
  simp at h1 h2;subst h1;subst h2
  show bindL kindOf ((p,w)::P.zip vs) m p=_
  unfold bindL
  rw[rX λv hv=>(List.nodup_cons.mp nd).1 (List.of_mem_zip hv).1,if_pos hk]
  simp
 | p::P,w::vs,i+1,m,nd,h1,h2,hk=>by
  show bindL kindOf ((p,w)::P.zip vs) m x=_
  unfold bindL
  exact rW (i:=i) (List.nodup_cons.mp nd).2 (by simpa using h1) (by simpa using h2) hk
theorem rT {kindOf:Str->Option NameKind} {x:Str} {v:Value}:∀{P:List Str} {vs:List Value} {i:Nat} {m:Str->Option Value},P.Nodup->P[i]? = some x->vs[i]? = some v->kindOf x≠some .local ->
  bindC kindOf (P.zip vs) m x=some v
 | [],_,_,_,_,h,_,_=>by simp at h
 | _::_,[],_,_,_,_,h,_=>by simp at h
 | p::P,w::vs,0,m,nd,h1,h2,hk=>by
  simp at h1 h2;subst h1;subst h2
  show bindC kindOf ((p,w)::P.zip vs) m p=_
  unfold bindC
  rw[rV λv hv=>(List.nodup_cons.mp nd).1 (List.of_mem_zip hv).1,if_neg hk]
  simp
 | p::P,w::vs,i+1,m,nd,h1,h2,hk=>by
  show bindC kindOf ((p,w)::P.zip vs) m x=_
  unfold bindC
  exact rT (i:=i) (List.nodup_cons.mp nd).2 (by simpa using h1) (by simpa using h2) hk
noncomputable def jM (N:List Str) (vs:List V):St:=vs.map some++List.replicate (N.length-vs.length) none
noncomputable def dM (CX:CXT) (P:Program) (w:World) (K:PySem.W.Frag) (mg:Str->Option Value) (base:Heap) (N:List Str) (qual:Str) (scope:Scope) (f:Addr) (cd:Value) (A:Around) (outer:List Env) (s:Shared) (H:Hp) (E:XK):Cx where
 prog:=P
 w:=w
 K:=K
 mg:=mg
 base:=base
 A:=A.deeper (envOfC qual scope s.heap.objs.size f cd)
 N:=N
 s₀:=s
 H₀:=H
 env:=envOfC qual scope s.heap.objs.size f cd
 outer:=outer
 stack:=envOfC qual scope s.heap.objs.size f cd::outer
 ex:=[]
 calm:=true
 fn:=λ_=>true
 pn:=[]
 xe:=λe s'=>wpAny (model P w) (A.deeper (envOfC qual scope s.heap.objs.size f cd)) (leaving (envOfC qual scope s.heap.objs.size f cd) e) (λ_ s''=>CX outer H s E e s'') (λe' s''=>CX outer H s E e' s'') s'
theorem uR {sc:Scope} {n:Nat} {x:Str} (h:sc.names.lookup x=some .cell):∃c,(cellsFrom n sc.names []).lookup x=some c:=by
 have q:=PySem.W.cellsFrom_some sc.names n [] (.inl h)
 exact Option.isSome_iff_exists.mp q
theorem BS {CX:CXT} {P:Program} {w:World} {K:PySem.W.Frag} {mg:Str->Option Value} {base:Heap} {N ps:List Str} {qual:Str} {scope:Scope} {f:Addr} {cd:Value} {A:Around} {outer:List Env} {s s1:Shared} {H:Hp} {E:XK} {us:List Value} {vs:List V}
  (S:FnScope N ps scope) (hd:A.handled=none) (e0:Env0 P w K mg base A outer s H) (hl:vs.length=ps.length) (r:Vals vs us)
  (x:InCallC s s.heap.objs.size (bindL (envOfC qual scope s.heap.objs.size f cd).kindOf (ps.zip us) λ_=>none) (cellsFrom (s.heap.objs.size+1) scope.names []) (bindC (envOfC qual scope s.heap.objs.size f cd).kindOf (ps.zip us) λ_=>none) s1) :
  Inv (dM CX P w K mg base N qual scope f cd A outer s H E) [] (jM N vs) H s1:=by
 have hpl:ps.length<=N.length:=by have:=congrArg List.length S.pre;rw[List.length_take] at this;omega
 obtain⟨h1,tk,rfl,hk⟩:=x.done
 have noA:∀b:Addr,b ∉ (dM CX P w K mg base N qual scope f cd A outer s H E).ex:=λb z=>absurd (show b∈([]:List Addr) from z) (by simp)
 refine⟨⟨e0.mod,S.kind,rfl,rfl,Nat.le_refl _,λy z c h1 h2=>?_,λy hy=>?_,λy c _ h=>?_,λ_=>hd,Around.frames_deeper e0.frames,.inr ⟨rfl,rfl⟩,λb z=>absurd z (noA b),e0.bs,e0.bsz,λb _ _=>noA b,λb z=>absurd z (noA b),e0.funs,e0.frf⟩,
  rfl,e0.bare,Un.kept hk,⟨_,x.toInCall.ns,λi y v h1 h2 h3=>?_⟩,λy c h=>⟨_,x.cell y c h⟩,e0.hok.fresh (Nat.le_refl _),λy c h=>?_,λp hp=>absurd (show p∈([]:List (Addr × Obj)) from hp) (by simp),e0.hok.kept hk,?_⟩
 ·exact name_of_addr x.apart (PySem.mem_of_lookup h1) (PySem.mem_of_lookup h2)
 ·have hy:scope.names.lookup y=some .cell\/scope.names.lookup y=some .free:=hy
  rcases hy with hy | hy
  ·exact uR hy
  ·exact absurd rfl (S.nofree _ (PySem.mem_of_lookup hy))
 ·exact Nat.le_of_lt (x.above y c (PySem.mem_of_lookup h))
 ·have hi:i<vs.length:=by
   unfold jM at h2
   by_cases hi:i<vs.length
   ·exact hi
   ·rw[List.getElem?_append_right (by simpa using hi)] at h2
    rw[List.getElem?_replicate] at h2
    split at h2 <;> cases h2
  have ha:vs[i]? = some v:=by
   unfold jM at h2
   rw[List.getElem?_append_left (by simpa using hi),List.getElem?_map] at h2
   cases e:vs[i]? with
   | none=>rw[e] at h2;cases h2
   | some a=>rw[e] at h2;cases h2;rfl
  obtain⟨u,hu,rv⟩:=r.get ha
  have hp:ps[i]? = some y:=by
   rw[<-S.pre,List.getElem?_take_of_lt (by omega)];exact h1
  have ndP:ps.Nodup:=by rw[<-S.pre];exact S.nd.sublist (List.take_sublist _ _)
  refine⟨u,rv,?_⟩
  rcases S.par y (List.mem_of_getElem? hp) with k | k
  ·exact .inl ⟨k,rW ndP hp hu k⟩
  ·obtain⟨c,e⟩:=uR (n:=s.heap.objs.size+1) k
   refine .inr ⟨.inl k,c,e,?_⟩
   have q:=x.cell y c e
   rw[rT ndP hp hu (by show scope.names.lookup y≠_;rw[k];decide)] at q
   exact q
 ·exact e0.hok.fresh (Nat.le_of_lt (x.above y c (PySem.mem_of_lookup h)))
 ·unfold jM
  show _=N.length
  rw[List.length_append,List.length_map,List.length_replicate]
  omega
theorem OO {CX:CXT} {P:Program} {w:World} {K:PySem.W.Frag} {mg:Str->Option Value} {base:Heap} {k:Nat} {f:Addr} {name qual:Str} {params:Arguments} {body:List Stmt} {scope:Scope} {dV kV doc pm cdv ct oc:Value} {an od:Option Addr}
  {osl:Array (Option Value)} {N ps:List Str} {sp:Sp} (lk:K.lookup f=some ⟨oc,od,.func (PySem.W.fnOf name qual params body scope dV kV doc pm an cdv ct),osl⟩) (hcd:PySem.W.codeIn K cdv qual=true) (S:FnScope N ps scope)
  (len:∀vs H Q E,sp vs H Q E->vs.length=ps.length)
  (hbody:∀(A:Around) (outer:List Env) (s:Shared) (H:Hp) (vs:List V) (Q:VK) (E:XK),Room k (A.deeper (envOfC qual scope s.heap.objs.size f cdv))->sp vs H Q E ->
   ∃t,PSs (dM CX P w K mg base N qual scope f cdv A outer s H E) body t/\t { nx:=λ_ H'=>Q .non H',rt:=Q } (jM N vs) H) :
  FnOk P w K mg base CX (k+1) f (PySem.W.fnOf name qual params body scope dV kV doc pm an cdv ct) ps sp:=by
 refine⟨len,λA outer s H args us vs Q E hr e0 hb r hsp=>?_⟩
 have hl:=len _ _ _ _ hsp
 have KX:K.In s.heap:=e0.mod.kin.keeps λb o e=>(e0.bs b o e).1
 have lim:s.heap.NoLimit:=e0.mod.nolimit.keeps λb o e=>(e0.bs b o e).1
 have hkind:∀y∈ps.zip us,scope.names.lookup y.1=some .local\/(scope.names.lookup y.1=some .cell/\((cellsFrom (s.heap.objs.size+1) scope.names []).lookup y.1).isSome=true):=λ⟨n,v⟩ hy=>by
  rcases S.par n (List.of_mem_zip hy).1 with q | q
  ·exact .inl q
  ·exact .inr ⟨q,PySem.W.cellsFrom_some _ _ _ (.inl q)⟩
 refine codeAny_call_function hr.depth (KX _ _ lk) rfl S.co S.gen rfl (PySem.W.codeRec_of KX hcd) (hb _ _ _ _ ?_)
 refine wpAny_newFunctionEnv_cells S.kind hkind λenv he s1 x=>?_
 subst he
 refine⟨lim.keeps x.toInCall.keep,codeAny_func ?_⟩
 obtain⟨t,ht,hq⟩:=hbody A outer s H vs Q E (hr.deeper _) hsp
 have I:Inv (dM CX P w K mg base N qual scope f cdv A outer s H E) [] (jM N vs) H s1:=BS S hr.hd e0 hl r x
 refine wpAny_mono (ht [] s1 (jM N vs) H _ I hq) (λfl s' hs=>?_) λe s' hs=>hs
 have fin:∀{σ':St} {H':Hp} {v:V} {u:Value},Inv (dM CX P w K mg base N qual scope f cdv A outer s H E) [] σ' H' s'->RelV v u->Q v H'->CE outer P w H s Q u s' :=
  λ{σ' H' v u} J rv q=>⟨v,H',J.os,J.bare,J.base,J.hok,rv,q⟩
 cases fl with
 | ret u =>
  obtain⟨v,σ',H',J,rv,q⟩:=hs
  exact fin J rv q
 | next =>
  obtain⟨σ',H',J,q⟩:=hs
  exact fin (v:=V.non) (u:=Value.none) J rfl q
 | brk =>
  obtain⟨_,_,_,q⟩:=hs
  exact False.elim q
 | cont =>
  obtain⟨_,_,_,q⟩:=hs
  exact False.elim q
end L2
namespace L2
open PySem PySem.Spec PyProof.Rows
section
variable {X:Cx} {x:Str} {p pos:Pos} {e:Expr} {es:List Expr} {t:TA} {id T:String} {r:List V->Hp->VK->Prop}
noncomputable def tCB (r:List V->Hp->VK->Prop) (t:TA):TE:=λσ H Q=>t σ H λvs H1=>r vs H1 Q
theorem jD (hc:iB X (.builtin id) r) (hg:Gl X x) (hm:X.mg x=none) (hv:bootBuiltins x=some (.builtin id)) (ha:PA X (e::es) t) (hn:x≠"__name__":=by decide) (hdb:(x == ("__debug__":Str))=false:=by decide)
  (he:starEach (e::es) X.env=(false,eval e X.env)::starEach es X.env:=by rfl) (hpl:(backTo pos (starEach es X.env)).any (·.1)=false:=by rfl):PE X (.Call (.Name x p) (e::es) [] pos) (tCB r t):=by
 intro pins s σ H Q I h
 refine wpAny_Call_Name_kw (gS I hg hm hv ?_ hn hdb)
 exact PyProof.Rows.callWith_builtin1 (thn (ha pos pins s σ H _ I h) λus s1 ⟨vs,H1,I1,r1,q1⟩=>hc pins s1 σ H1 vs us Q I1 r1 q1) he hpl
theorem sN (hc:iB X (.type T) r) (hg:Gl X x) (hm:X.mg x=none) (hv:bootBuiltins x=some (.type T)) (ha:PA X (e::es) t) (hn:x≠"__name__":=by decide) (hdb:(x == ("__debug__":Str))=false:=by decide)
  (he:starEach (e::es) X.env=(false,eval e X.env)::starEach es X.env:=by rfl) (hpl:(backTo pos (starEach es X.env)).any (·.1)=false:=by rfl):PE X (.Call (.Name x p) (e::es) [] pos) (tCB r t):=by
 intro pins s σ H Q I h
 refine wpAny_Call_Name_kw (gS I hg hm hv ?_ hn hdb)
 exact PyProof.Rows.callWith_type1 (thn (ha pos pins s σ H _ I h) λus s1 ⟨vs,H1,I1,r1,q1⟩=>hc pins s1 σ H1 vs us Q I1 r1 q1) he hpl
end
end L2
namespace HT
open PySem PyProof.Rows
noncomputable def lexLt:List Int->List Int->Bool
 | [],[]=>false
 | [],_::_=>true
 | _::_,[]=>false
 | x::xs,y::ys=>if x=y then lexLt xs ys else decide (x<y)
theorem lexLt_cons (x y:Int) (xs ys:List Int):lexLt (x::xs) (y::ys)=if x=y then lexLt xs ys else decide (x<y):=rfl
theorem rE:lexLt [] []=false:=rfl
theorem pV (y:Int) (ys:List Int):lexLt [] (y::ys)=true:=rfl
theorem pU (x:Int) (xs:List Int):lexLt (x::xs) []=false:=rfl
theorem FJ (A:Around) (s:Shared) (a:Int) (t:Tok) (c:Int) (u:Tok):∃e,SeqAt.EqAt A s (.int a t) (.int c u) e/\(e=true↔a=c) :=
 ⟨(a == c),SeqAt.EqAt.int_int a t c u,by simp⟩
theorem GQ (A:Around) (s:Shared) (a:Int) (t:Tok) (c:Int) (u:Tok) (prog:Program) (w:World) (E:Value->Shared->Prop) (Q:Value->Shared->Prop) (h:Q (.bool (decide (a<c))) s) :
  wpAny (model prog w) A (richCompare .Lt (.int a t) (.int c u)) Q E s :=
 (PyProof.Rows.lt_int h:wpAny (model prog w) A (compareOp .Lt (.int a t) (.int c u)) Q E s)
section
open PySem.SeqAt
open PySem.AutoSeq1 (wpAny_loadPart')
open PySem.MeetsSeq PySem.MeetsSeq2 PySem.MeetsSeq3
theorem rR (l b:Addr) (items items2:Array Value) (n n2:Nat) (dd dd2:Option Addr) (sl sl2:Array (Option Value)) (ns ms:List Int) (hi:IntsAre items.toList ns) (hj:IntsAre items2.toList ms) :
  Meets (Builtin.«tuple.__lt__» ⟨[.ref l,.ref b],[]⟩)
   (λ_ R s=>s.heap.get? l=some { cls:=.type "tuple",dict:=dd,data:=.seq items n,slots:=sl }/\s.heap.get? b=some { cls:=.type "tuple",dict:=dd2,data:=.seq items2 n2,slots:=sl2 } /\
    R (.ok (.ret (.bool (lexLt ns ms)))) s) :=
 .of_wp λprog w A R s h=>by
  obtain⟨hp,g,d,tk,os⟩:=s;obtain⟨hl,hb,h⟩:=h
  have f2:=AutoSeq1.sub_tuple_tuple
  have z1:items.size=ns.length:=by rw[<-hi.length];simp
  have z2:items2.size=ms.length:=by rw[<-hj.length];simp
  wp_walk using wpAny_loadPart' hl,wpAny_loadPart' hb,wpAny_forIn_list _ (λrest b s'=>b.1=none/\s'=⟨hp,g,d,tk,os⟩/\∃(vs ws:List Value) (ns' ms':List Int),rest=vs.zip ws /\
   IntsAre vs ns'/\IntsAre ws ms'/\ns'.length+items2.size=ms'.length+items.size/\R (.ok (.ret (.bool (lexLt ns' ms')))) ⟨hp,g,d,tk,os⟩) _
  case turn =>
   rintro⟨y,x⟩ rest b s' ⟨hb',rfl,vs,ws,ns',ms',hz,hvi,hwi,hlen,hR⟩
   cases hvi with
   | nil=>rw[List.zip_nil_left] at hz;cases hz
   | cons a t hvi' =>
    cases hwi with
    | nil=>rw[List.zip_nil_right] at hz;cases hz
    | cons c u hwi' =>
     rw[List.zip_cons_cons] at hz
     injection hz with hyx hrest
     injection hyx with hy hx
     subst hy hx
     rw[lexLt_cons] at hR
     simp only[List.length_cons] at hlen
     obtain⟨e,he,hiff⟩:=FJ A.in1 ⟨hp,g,d,tk,os⟩ a t c u
     refine wpAny_bind (he prog w _ _ ?_)
     cases e with
     | true =>
      rw[if_pos (hiff.mp rfl)] at hR
      wp_walk
      exact⟨rfl,rfl,_,_,_,_,hrest,hvi',hwi',by omega,hR⟩
     | false =>
      rw[if_neg (λq=>absurd (hiff.mpr q) Bool.false_ne_true)] at hR
      have hri:=GQ A.in1 ⟨hp,g,d,tk,os⟩ a t c u prog w
      wp_walk using hri
      exact⟨_,rfl,by simpa using hR⟩
  case fin =>
   rintro⟨b1,b2⟩ s' ⟨hb',rfl,vs,ws,ns',ms',hz,hvi,hwi,hlen,hR⟩
   simp only at hb'
   subst hb'
   have hv:lexLt ns' ms'=decide (items.size<items2.size):=by
    cases hvi with
    | nil =>
     cases hwi with
     | nil =>
      simp only[List.length_nil] at hlen
      rw[rE]
      exact (decide_eq_false (by omega)).symm
     | cons c u hw =>
      simp only[List.length_nil,List.length_cons] at hlen
      rw[pV]
      exact (decide_eq_true (by omega)).symm
    | cons a t hv =>
     cases hwi with
     | nil =>
      simp only[List.length_nil,List.length_cons] at hlen
      rw[pU]
      exact (decide_eq_false (by omega)).symm
     | cons c u hw =>
      rw[List.zip_cons_cons] at hz
      cases hz
   rw[hv] at hR
   wp_walk
   exact⟨_,rfl,by simpa [Builtin.Tuple.tupleCompareSizes] using hR⟩
  case h =>
   exact⟨rfl,rfl,items.toList,items2.toList,ns,ms,rfl,hi,hj,by omega,h⟩
end
section
variable {prog:Program} {w:World} {A:Around} {E:Value->Shared->Prop} {s:Shared}
theorem lt_tupInts {l b:Addr} {items items2:Array Value} {ns ms:List Int} {Q:Value->Shared->Prop} (hl:IsTup s.heap l items) (hb:IsTup s.heap b items2) (hi:IntsAre items.toList ns) (hj:IntsAre items2.toList ms)
  (hu:A.units<cLine) (h:Q (.bool (lexLt ns ms)) s):wpAny (model prog w) A (compareOp .Lt (.ref l) (.ref b)) Q E s:=by
 obtain⟨⟨cls,dd,data,sl⟩,ho,hc,n,hd⟩:=id hl
 obtain⟨⟨cls2,dd2,data2,sl2⟩,ho2,hc2,n2,hd2⟩:=id hb
 simp only at hc hd hc2 hd2
 subst hc hd hc2 hd2
 exact richCompare_meets_room (op:=.Lt) ⟨_,ho,rfl⟩ ⟨_,ho2,rfl⟩ PySem.F.slot_tuple_lt PySem.F.entry_tuple_lt (PySem.F.args_tuple_lt_2 _ _) (rR l b items items2 n n2 dd dd2 sl sl2 ns ms hi hj)
  ⟨ho,ho2,show Value.bool (lexLt ns ms)≠Value.notImplemented/\Q (.bool (lexLt ns ms)) s from ⟨(λx=>nomatch x),h⟩⟩ hu
theorem cat_tup {t b:Addr} {vs ws:List Value} {Q:Value->Shared->Prop} (ht:IsTup s.heap t vs.toArray) (hb:IsTup s.heap b ws.toArray) (hv:vs≠[])
  (h1:ws=[]->Q (.ref t) s) (h2:ws≠[]->Q (.ref s.heap.objs.size) { s with heap:=s.heap.push { cls:=.type "tuple",data:=.seq (vs++ws).toArray } })
  (hsz:vs.length+ws.length<=sizeLine):wpAny (model prog w) A (binaryOp .Add (.ref t) (.ref b)) Q E s:=by
 obtain⟨⟨cls,dd,data,sl⟩,ho,hc,n,hd⟩:=id ht
 obtain⟨⟨cls2,dd2,data2,sl2⟩,ho2,hc2,n2,hd2⟩:=id hb
 simp only at hc hd hc2 hd2
 subst hc hd hc2 hd2
 have e:vs.toArray++ws.toArray=(vs++ws).toArray:=by simp
 by_cases hw:ws=[]
 ·exact concat_meets ⟨_,ho,rfl⟩ ⟨_,ho2,rfl⟩ noFill_tuple_add seq_tuple_add PySem.F.slot_tuple_add PySem.F.entry_tuple_add (PySem.F.args_tuple_add_2 _ _)
   (tuple_addW1 t b vs.toArray ws.toArray n n2 dd dd2 sl sl2 (by simpa using hv) (by simp[hw])) ⟨ho,ho2,h1 hw⟩
 ·refine concat_meets ⟨_,ho,rfl⟩ ⟨_,ho2,rfl⟩ noFill_tuple_add seq_tuple_add PySem.F.slot_tuple_add PySem.F.entry_tuple_add (PySem.F.args_tuple_add_2 _ _)
   (tuple_addW2 t b vs.toArray ws.toArray n n2 dd dd2 sl sl2 (by simpa using hv) (by simpa using hw) (by rw[List.size_toArray,List.size_toArray];exact hsz)) ⟨ho,ho2,?_⟩
  rw[e]
  exact h2 hw
noncomputable def sIx (n d:Nat):Option Int->Nat
 | none=>d
 | some v=>if v<0 then (v+(n:Int)).toNat else min v.toNat n
theorem sIx_none (n d:Nat):sIx n d none=d:=rfl
theorem sIx_nat (n d k:Nat):sIx n d (some (k:Int))=min k n:=by
 show (if (k:Int)<0 then ((k:Int)+(n:Int)).toNat else min (k:Int).toNat n)=min k n
 rw[if_neg (by omega),Int.toNat_natCast]
theorem NW (n d:Nat) (hd:d<=n) (o:Option Int):sIx n d o<=n:=by
 cases o with
 | none=>exact hd
 | some v =>
  show (if v<0 then (v+(n:Int)).toNat else min v.toNat n)<=n
  by_cases hv:v<0
  ·rw[if_pos hv];omega
  ·rw[if_neg hv];exact Nat.min_le_right _ _
theorem zK (v:Int) (n d:Nat):(if v<0 then max (v+(n:Int)) 0 else min v (n:Int))=((sIx n d (some v):Nat):Int):=by
 show (if v<0 then max (v+(n:Int)) 0 else min v (n:Int))=(((if v<0 then (v+(n:Int)).toNat else min v.toNat n):Nat):Int)
 by_cases hv:v<0
 ·simp only[if_pos hv];omega
 ·simp only[if_neg hv];omega
theorem xG (lo hi:Option Int) (n:Nat):Builtin.Slice.sliceAdjust lo hi 1 (n:Int)=(((sIx n 0 lo:Nat):Int),((sIx n n hi:Nat):Int)):=by
 have h1:¬((1:Int)<0):=by omega
 unfold Builtin.Slice.sliceAdjust
 simp only[h1,if_false]
 refine Prod.ext ?_ ?_
 ·cases lo with
  | none=>rfl
  | some v=>exact zK v n 0
 ·cases hi with
  | none=>rfl
  | some v=>exact zK v n n
theorem yI (i j:Nat):Builtin.Slice.slicePlaces (i:Int) (j:Int) 1=j-i:=by
 unfold Builtin.Slice.slicePlaces
 have h1:(1:Int) > 0:=by omega
 simp only[h1,if_true,Int.ediv_one]
 split <;> omega
theorem qL {v:Value} {o:Option Int} {Q:Option Int->Shared->Prop} (p:IsPart v o) (h:Q o s):wpAny (model prog w) A (Builtin.Slice.slicePartIndex v) Q E s:=by
 cases p with
 | none=>exact slicePart_none h
 | int i t=>exact slicePart_int h
theorem nO {sl:Addr} {vl vu:Value} {lo hi:Option Int} {n:Nat} {Q:Int × Int × Nat->Shared->Prop} (hs:s.heap.IsSliceOf sl vl vu .none) (pl:IsPart vl lo) (pu:IsPart vu hi)
  (h:Q (((sIx n 0 lo:Nat):Int),1,sIx n n hi-sIx n 0 lo) s):wpAny (model prog w) A (Builtin.Slice.sliceApplied (.ref sl) (pure (n:Int))) Q E s:=by
 obtain⟨os,hos,hcs,hds⟩:=id hs
 unfold Builtin.Slice.sliceApplied Builtin.Slice.sliceFields
 refine wpAny_bind (wpAny_bind (wpAny_field hos hds (x:=vl) rfl (wpAny_bind (wpAny_field hos hds (x:=vu) rfl (wpAny_bind (wpAny_field hos hds (x:=.none) rfl (wpAny_pure ?_)))))))
 refine wpAny_bind (slicePart_none ?_)
 show wpAny _ _ (if ((1:Int) == 0)=true then _ else _) _ _ s
 rw[if_neg (by decide)]
 refine wpAny_bind (qL pl (wpAny_bind (qL pu (wpAny_bind (wpAny_pure ?_)))))
 show wpAny _ _ (match Builtin.Slice.sliceAdjust lo hi 1 (n:Int) with | (lo,hi)=>pure (lo,(1:Int),Builtin.Slice.slicePlaces lo hi 1)) _ _ s
 rw[xG lo hi n]
 show wpAny _ _ (pure (((sIx n 0 lo:Nat):Int),(1:Int),Builtin.Slice.slicePlaces ((sIx n 0 lo:Nat):Int) ((sIx n n hi:Nat):Int) 1)) _ _ s
 rw[yI]
 exact wpAny_pure h
theorem GI (xs:Array Value) (i k:Nat):((List.range k).filterMap λ(m:Nat)=>xs[((i:Int)+(m:Int)*1).toNat]?).toArray=((xs.toList.drop i).take k).toArray:=by
 have e:(λ(m:Nat)=>xs[((i:Int)+(m:Int)*1).toNat]?)=λm=>xs[i+m]?:=by
  funext m
  have:((i:Int)+(m:Int)*1).toNat=i+m:=by omega
  rw[this]
 rw[e]
 have:=pick_run xs i k
 rw[List.filterMap_map] at this
 have e2:((λx=>xs[x]?) ∘ λx=>i+x)=λm=>xs[i+m]?:=rfl
 rw[e2] at this
 rw[this]
theorem getItem_tuple_cut {t sl:Addr} {items:Array Value} {vl vu:Value} {lo hi:Option Int} {Q:Value->Shared->Prop} (ht:IsTup s.heap t items) (hs:s.heap.IsSliceOf sl vl vu .none) (pl:IsPart vl lo) (pu:IsPart vu hi)
  (hw:¬(sIx items.size 0 lo=0/\sIx items.size items.size hi=items.size))
  (h:Q (.ref s.heap.objs.size) { s with heap:=s.heap.push { cls:=.type "tuple",data:=.seq ((items.toList.drop (sIx items.size 0 lo)).take (sIx items.size items.size hi-sIx items.size 0 lo)).toArray } })
  (hsz:items.size<=sizeLine):wpAny (model prog w) A (getItem (.ref t) (.ref sl)) Q E s:=by
 have htake:sizeOk (.seq ((items.toList.drop (sIx items.size 0 lo)).take (sIx items.size items.size hi-sIx items.size 0 lo)).toArray):=by
  show ((items.toList.drop (sIx items.size 0 lo)).take (sIx items.size items.size hi-sIx items.size 0 lo)).toArray.size<=sizeLine
  rw[List.size_toArray,List.length_take,List.length_drop,Array.length_toList]
  omega
 have hj:sIx items.size items.size hi<=items.size:=NW _ _ (Nat.le_refl _) hi
 obtain⟨os,hos,hcs,hds⟩:=id hs
 have hTs:s.TypeIs (.ref sl) "slice":=⟨os,hos,hcs⟩
 unfold getItem
 try with_reducible refine wpAny_holding ?_
 first | refine wpAny_bind (wpAny_pure ?_) | skip
 refine wpAny_bind (wpAny_sequenceKey ht.typeIs (by decide) ?_)
 refine wpAny_bind (wpAny_callSpecial?_slot (name:=Str.ofString "__getitem__") ht.typeIs PyProof.Rows.slot_tuple_getitem
  (wpAny_call_entry PyProof.Rows.slot_tuple_getitem ht.typeIs entry_tuple_getitem ?_ (args_tuple_getitem _ _)))
 show wpAny _ _ (Builtin.Tuple.tupleItemsOf (.ref t) >>= _) _ _ s
 refine wpAny_bind (tupleItemsOf_ ht ?_)
 refine wpAny_bind (wpAny_typeOf hTs ?_)
 rw[if_pos (by decide)]
 refine wpAny_bind (nO hs pl pu ?_)
 have hno:¬((((sIx items.size 0 lo:Nat):Int) == 0 && (1:Int) == 1 && (sIx items.size items.size hi-sIx items.size 0 lo) == items.size)=true):=by
  intro q
  rw[Bool.and_eq_true,Bool.and_eq_true] at q
  have q1:((sIx items.size 0 lo:Nat):Int)=0:=eq_of_beq q.1.1
  have q2:sIx items.size items.size hi-sIx items.size 0 lo=items.size:=eq_of_beq q.2
  exact hw ⟨by omega,by omega⟩
 show wpAny _ _ (if (((sIx items.size 0 lo:Nat):Int) == 0 && (1:Int) == 1 && (sIx items.size items.size hi-sIx items.size 0 lo) == items.size)=true then _ else _) _ _ s
 rw[if_neg hno,GI]
 first
  | exact wpAny_bind (m:=Builtin.Tuple.tupleExact _) (wpAny_newObj_type (wpAny_pure ⟨_,rfl,wpAny_pure h⟩) htake)
  | exact wpAny_bind (m:=Builtin.Tuple.tupleExact _) (wpAny_newObj_type (wpAny_bind (wpAny_pure (wpAny_pure ⟨_,rfl,wpAny_pure h⟩))) htake)
  | exact wpAny_bind (wpAny_bind (m:=Builtin.Tuple.tupleExact _) (wpAny_newObj_type (wpAny_pure (wpAny_pure ⟨_,rfl,wpAny_pure h⟩)) htake))
  | exact wpAny_bind (wpAny_bind (m:=Builtin.Tuple.tupleExact _) (wpAny_newObj_type (wpAny_pure ⟨_,rfl,wpAny_pure h⟩) htake))
end
end HT
namespace L2
open PySem PySem.Spec PyProof.Rows
noncomputable abbrev TO:=St->Hp->(Option Int->Hp->Prop)->Prop
noncomputable def PO (X:Cx) (e:Option Expr) (t:TO):Prop :=
 ∀(pins:List (Addr × Obj)) (s:Shared) (σ:St) (H:Hp) (Q:Option Int->Hp->Prop),Inv X pins σ H s->t σ H Q ->
  wpAny (model X.prog X.w) X.A (evalPart e X.env) (λu s'=>∃o H',Inv X pins σ H' s'/\IsPart u o/\Q o H') X.xe s
noncomputable def JY:TO:=λ_ H Q=>Q none H
noncomputable def QT (t:TE):TO:=λσ H Q=>t σ H λx H1=>∃i,x = .int i/\Q (some i) H1
theorem gR {ns:List Int}:∀{us:List Value},Vals (ns.map V.int) us->IntsAre us ns:=by
 induction ns with
 | nil=>intro us r;rw[List.map_nil] at r;cases r;exact .nil
 | cons n ns ih =>
  intro us r
  rw[List.map_cons] at r
  cases r with
  | cons r1 r2 =>
   obtain⟨t,e⟩:=r1
   subst e
   exact .cons n t (ih r2)
section
variable {X:Cx} {e:Expr} {te:TE} {lo hi:Option Expr} {tl th:TO} {pos p2:Pos}
theorem JJ:PO X none JY:=by
 intro pins s σ H Q I h
 rw[evalPart_none]
 exact wpAny_pure ⟨none,H,I,.none,h⟩
theorem JK (h:PE X e te):PO X (some e) (QT te):=by
 intro pins s σ H Q I hw
 rw[evalPart_some]
 refine thn (h pins s σ H _ I hw) λu s1 ⟨x,H1,I1,r1,q1⟩=>?_
 obtain⟨i,rfl,q⟩:=q1
 obtain⟨t,rfl⟩:=r1
 exact⟨some i,H1,I1,.int i t,q⟩
noncomputable def SlR (X:Cx) (r:V->Option Int->Option Int->Hp->VK->Prop):Prop :=
 ∀(pins:List (Addr × Obj)) (s:Shared) (σ:St) (H:Hp) (x:V) (v vl vu:Value) (lo hi:Option Int) (sl:Addr) (Q:VK),Inv X pins σ H s->RelV x v->s.heap.IsSliceOf sl vl vu .none->IsPart vl lo->IsPart vu hi->r x lo hi H Q ->
  ∃T id,typeLookup (.type T) "__getitem__" = pure (some (.builtin id))/\s.TypeIs v T/\wpAny (model X.prog X.w) X.A (getItem v (.ref sl)) (EP X pins σ Q) X.xe s
theorem SlR.or {r r':V->Option Int->Option Int->Hp->VK->Prop} (h:SlR X r) (h':SlR X r'):SlR X (λx lo hi H Q=>r x lo hi H Q\/r' x lo hi H Q):=by
 intro pins s σ H x v vl vu lo hi sl Q I rx hs pl pu q
 rcases q with q | q
 ·exact h pins s σ H x v vl vu lo hi sl Q I rx hs pl pu q
 ·exact h' pins s σ H x v vl vu lo hi sl Q I rx hs pl pu q
noncomputable def tSl (r:V->Option Int->Option Int->Hp->VK->Prop) (te:TE) (tl th:TO):TE:=λσ H Q=>te σ H λx H1=>tl σ H1 λl H2=>th σ H2 λu H3=>r x l u H3 Q
theorem GG {r:V->Option Int->Option Int->Hp->VK->Prop} (hr:SlR X r) (he:PE X e te) (hl:PO X lo tl) (hu:PO X hi th):PE X (.Subscript e (.Slice lo hi none p2) pos) (tSl r te tl th):=by
 intro pins s σ H Q I h
 refine Subscript_ (thn (he pins s σ H _ I h) λv s1 ⟨x,H1,I1,r1,q1⟩=>?_)
 refine wpAny_Slice (thn (hl pins s1 σ H1 _ I1 q1) λvl s2 ⟨l,H2,I2,pl,q2⟩=>thn (hu pins s2 σ H2 _ I2 q2) λvu s3 ⟨u,H3,I3,pu,q3⟩=>?_)
 rw[evalPart_none]
 refine wpAny_pure ?_
 have I4:Inv X pins σ H3 { s3 with heap:=s3.heap.push { cls:=.type "slice",data:=.fields #[vl,vu,.none] } }:=I3.kept (t':=s3.toks) λb ob q=>Heap.get?_push_of_some _ q
 obtain⟨T,id,hT,ht,hg⟩:=hr pins { s3 with heap:=s3.heap.push { cls:=.type "slice",data:=.fields #[vl,vu,.none] } } σ H3 x v vl vu l u s3.heap.objs.size Q I4 r1 (Heap.IsSliceOf.new ..) pl pu q3
 show wpAny (model X.prog X.w) X.A (subscriptTail e (.Slice lo hi none p2) v (.ref s3.heap.objs.size)) (EP X pins σ Q) X.xe { s3 with heap:=s3.heap.push { cls:=.type "slice",data:=.fields #[vl,vu,.none] } }
 exact tail_any (ops:=[.ref s3.heap.objs.size,v]) ht hT hg (by with_unfolding_all rfl)
noncomputable def uV (xs:List V) (lo hi:Option Int):List V:=(xs.drop (HT.sIx xs.length 0 lo)).take (HT.sIx xs.length xs.length hi-HT.sIx xs.length 0 lo)
theorem nR (xs:List V) (lo hi:Option Int):(uV xs lo hi).length<=xs.length:=by
 unfold uV
 rw[List.length_take,List.length_drop]
 omega
noncomputable def RZ (K:PySem.W.Frag):V->Option Int->Option Int->Hp->VK->Prop:=λx lo hi H Q=>∃a xs,x = .ref a/\SqT K H a xs /\
 ¬(HT.sIx xs.length 0 lo=0/\HT.sIx xs.length xs.length hi=xs.length)/\∀p,H p=none->Q (.ref p) (upd H p (.tup (uV xs lo hi)))
theorem NY:SlR X (RZ X.K):=by
 intro pins s σ H x v vl vu lo hi sl Q I rx hs pl pu h
 obtain⟨a,xs,rfl,hx,hw,q⟩:=h
 cases rx
 obtain⟨its,r,ht,hz⟩:=I.tuple hx
 have hlen:its.toArray.size=xs.length:=by rw[List.size_toArray];exact r.length.symm
 refine⟨"tuple",_,PyProof.Rows.slot_tuple_getitem.lookup,ht.typeIs,?_⟩
 refine HT.getItem_tuple_cut ht hs pl pu (by rw[hlen];exact hw) ?_ (by rw[hlen];exact hz)
 rw[hlen]
 refine⟨.ref s.heap.objs.size,_,I.laid (t':=s.toks) (o:=.tup (uV xs lo hi)) (λb ob q=>Heap.get?_push_of_some _ q) (Nat.le_refl _) ?_,rfl,q _ (I.hok.fresh (Nat.le_refl _))⟩
 exact⟨Nat.le_trans (nR xs lo hi) hz,_,(r.drop (HT.sIx xs.length 0 lo)).take (HT.sIx xs.length xs.length hi-HT.sIx xs.length 0 lo),IsTup.new _ _⟩
noncomputable def PX (K:PySem.W.Frag):R2:=λx y H Q=>∃a b xs ys,x = .ref a/\y = .ref b/\SqT K H a xs/\SqT K H b ys/\xs≠[]/\xs.length+ys.length<=sizeLine /\
 (ys=[]->Q (.ref a) H)/\(ys≠[]->∀p,H p=none->Q (.ref p) (upd H p (.tup (xs++ys))))
theorem Vals.nil_iff {xs:List V} {us:List Value} (r:Vals xs us):us=[]↔xs=[]:=by
 cases r with
 | nil=>simp
 | cons _ _=>simp
theorem JC:OpR X (binaryOp .Add) (PX X.K):=by
 intro pins s σ H x y v u Q I rx ry h
 obtain⟨a,b,xs,ys,rfl,rfl,ha,hb,hx,hz,q1,q2⟩:=h
 cases rx
 cases ry
 obtain⟨its,r1,p1,_⟩:=I.tuple ha
 obtain⟨its2,r2,p2,_⟩:=I.tuple hb
 refine HT.cat_tup p1 p2 (λz=>hx (r1.nil_iff.mp z)) (λz=>⟨.ref a,H,I,rfl,q1 (r2.nil_iff.mp z)⟩) (λz=>?_) (by rw[<-r1.length,<-r2.length];exact hz)
 refine⟨.ref s.heap.objs.size,_,I.laid (t':=s.toks) (o:=.tup (xs++ys)) (λb ob q=>Heap.get?_push_of_some _ q) (Nat.le_refl _) ?_,rfl,q2 (λw=>z (r2.nil_iff.mpr w)) _ (I.hok.fresh (Nat.le_refl _))⟩
 exact⟨by rw[List.length_append];exact hz,_,r1.append r2,IsTup.new _ _⟩
end
end L2
namespace L2
open PySem PySem.Spec PyProof.Rows
noncomputable def ixN (n:Nat) (i:Int):Option Nat:=if 0<=i then (if i<n then some i.toNat else none) else if -(n:Int)<=i then some (i+n).toNat else none
noncomputable def atI {α:Type} (xs:List α) (i:Int):Option α:=(ixN xs.length i).bind λj=>xs[j]?
theorem AC {n:Nat} {i:Int} {j:Nat} (h:ixN n i=some j):seqIndex? i n=some j/\j<n/\-(n:Int)<=i/\i<n:=by
 unfold ixN at h
 by_cases h0:0<=i
 ·rw[if_pos h0] at h
  by_cases h1:i<n
  ·rw[if_pos h1] at h
   have e:i.toNat=j:=Option.some.inj h
   exact⟨by rw[seqIndex_of h0 h1,e],by omega,by omega,h1⟩
  ·rw[if_neg h1] at h;cases h
 ·rw[if_neg h0] at h
  by_cases h1:-(n:Int)<=i
  ·rw[if_pos h1] at h
   have e:(i+n).toNat=j:=Option.some.inj h
   exact⟨by rw[seqIndex_neg (by omega) h1,e],by omega,h1,by omega⟩
  ·rw[if_neg h1] at h;cases h
theorem zF {α:Type} {xs:List α} {i:Int} {v:α} (h:atI xs i=some v):∃j,seqIndex? i xs.length=some j/\xs[j]? = some v/\j<xs.length/\-(xs.length:Int)<=i/\i<xs.length:=by
 unfold atI at h
 cases e:ixN xs.length i with
 | none=>rw[e] at h;cases h
 | some j =>
  rw[e] at h
  obtain⟨h1,h2,h3,h4⟩:=AC e
  exact⟨j,h1,h,h2,h3,h4⟩
theorem sX {α:Type} {xs:List α} {j:Nat} {v:α} (h:xs[j]? = some v):atI xs (j:Int)=some v:=by
 have hj:j<xs.length:=(List.getElem?_eq_some_iff.mp h).1
 have e:ixN xs.length (j:Int)=some j:=by
  unfold ixN
  rw[if_pos (by omega),if_pos (by omega)];simp
 unfold atI;rw[e];exact h
theorem pG {α:Type} (xs:List α) (v:α):atI (xs++[v]) (-1)=some v:=by
 have hl:(xs++[v]).length=xs.length+1:=by simp
 have e:ixN (xs++[v]).length (-1)=some xs.length:=by
  unfold ixN
  rw[hl,if_neg (by decide),if_pos (by omega)]
  congr 1
  omega
 unfold atI
 rw[e]
 show (xs++[v])[xs.length]? = some v
 simp
noncomputable def zE (b:Expr):Prop:=∀o i,subscripted b false o i=operate [o,i] (getItem o i)
noncomputable def IxR (X:Cx) (r:R2):Prop :=
 ∀(value slice:Expr) (pins:List (Addr × Obj)) (s:Shared) (σ:St) (H:Hp) (x y:V) (v u:Value) (Q:VK),Inv X pins σ H s->RelV x v->RelV y u->r x y H Q ->
  subscripted slice false v u=operate [v,u] (getItem v u)->wpAny (model X.prog X.w) X.A (subscriptTail value slice v u) (EP X pins σ Q) X.xe s
noncomputable def MtR (X:Cx) (id:String) (r:V->List V->Hp->VK->Prop):Prop :=
 ∀(pins:List (Addr × Obj)) (s:Shared) (σ:St) (H:Hp) (x:V) (xs:List V) (v:Value) (us:List Value) (Q:VK),Inv X pins σ H s->RelV x v->Vals xs us->r x xs H Q ->
  wpAny (model X.prog X.w) X.A (call (.builtin id) (v::us)) (EP X pins σ Q) X.xe s
section
variable {X:Cx} {a b:Expr} {ta tb:TE} {pos:Pos}
theorem IxR.or {r r':R2} (h:IxR X r) (h':IxR X r'):IxR X (λx y H Q=>r x y H Q\/r' x y H Q):=by
 intro value slice pins s σ H x y v u Q I rx ry q hs
 rcases q with q | q
 ·exact h value slice pins s σ H x y v u Q I rx ry q hs
 ·exact h' value slice pins s σ H x y v u Q I rx ry q hs
theorem PL {r:R2} (hr:IxR X r) (ha:PE X a ta) (hb:PE X b tb) (hs:zE b):PE X (.Subscript a b pos) (tOp r ta tb):=by
 intro pins s σ H Q I h
 exact Subscript_ (LB ha hb I h λv u s2 x y H2 I2 rx ry q=>hr a b pins s2 σ H2 x y v u Q I2 rx ry q (hs _ _))
noncomputable def RP (K:PySem.W.Frag):R2:=λx y H Q=>∃p xs i v,x = .ref p/\y = .int i/\SqL K H p xs/\atI xs i=some v/\Q v H
noncomputable def RQ (K:PySem.W.Frag):R2:=λx y H Q=>∃p xs i v,x = .ref p/\y = .int i/\SqT K H p xs/\atI xs i=some v/\Q v H
theorem IL:IxR X (RP X.K):=by
 intro value slice pins s σ H x y v u Q I rx ry h hs
 obtain⟨p,xs,i,z,rfl,rfl,hq,he,q⟩:=h
 cases rx
 obtain⟨t,rfl⟩:=ry
 obtain⟨its,r,pl,hz⟩:=I.list hq
 obtain⟨j,h1,h2,h3,h4,h5⟩:=zF he
 obtain⟨w,ew,rw'⟩:=r.get h2
 have hl:=r.length
 have hn:=tT
 have fin:EP X pins σ Q w s:=⟨z,H,I,rw',q⟩
 by_cases h0:0<=i
 ·have hj:i.toNat=j:=by
   rw[seqIndex_of h0 h5] at h1
   exact Option.some.inj h1
  exact item_listR pl.isList h0 (by omega) (by rw[hj];simpa using ew) fin hs
 ·have hj:(i+(its.toArray.size:Int)).toNat=j:=by
   rw[seqIndex_neg (by omega) h4] at h1
   rw[List.size_toArray,<-hl]
   exact Option.some.inj h1
  exact subscriptTail_builtinR (x:=w) pl.isList.typeIs slot_list_getitem.lookup
   (wpAny_getItem_list_neg (Q:=λr s'=>r=w/\EP X pins σ Q r s') pl.isList (by omega) (by rw[List.size_toArray] <;> omega) (by omega) (by rw[hj];simpa using ew) ⟨rfl,fin⟩) hs
theorem LZ:IxR X (RQ X.K):=by
 intro value slice pins s σ H x y v u Q I rx ry h hs
 obtain⟨p,xs,i,z,rfl,rfl,hq,he,q⟩:=h
 cases rx
 obtain⟨t,rfl⟩:=ry
 obtain⟨its,r,pl,hz⟩:=I.tuple hq
 obtain⟨j,h1,h2,h3,h4,h5⟩:=zF he
 obtain⟨w,ew,rw'⟩:=r.get h2
 have hl:=r.length
 have hn:=tT
 have fin:EP X pins σ Q w s:=⟨z,H,I,rw',q⟩
 exact subscriptTail_builtinR (x:=w) pl.typeIs slot_tuple_getitem.lookup
  (getItem_tuple (j:=j) (Q:=λr s'=>r=w/\EP X pins σ Q r s') pl (by omega) (by omega) (by rw[List.size_toArray,<-hl];exact h1) (by simpa using ew) ⟨rfl,fin⟩) hs
theorem yB (its:List Value) (n j:Nat) (u:Value):Obj.mapSeq (·.setIfInBounds j u) { cls:=.type "list",data:=.seq its.toArray n } = { cls:=.type "list",data:=.seq (its.set j u).toArray n }:=by
 simp[Obj.mapSeq]
theorem Inv.lst {pins:List (Addr × Obj)} {σ:St} {H:Hp} {s:Shared} {p:Addr} {xs:List V} (I:Inv X pins σ H s) (h:H p=some (.lst xs)) :
  ∃(its:List Value) (n:Nat),Vals xs its/\s.heap.get? p=some { cls:=.type "list",data:=.seq its.toArray n }/\xs.length<=sizeLine:=by
 obtain⟨z,its,n,r,e⟩:=I.hok p _ h
 exact⟨its,n,r,e,z⟩
theorem Inv.lstUpd {pins:List (Addr × Obj)} {σ:St} {H:Hp} {s:Shared} {p:Addr} {xs ys:List V} {its its':List Value} {n n':Nat} {f:Obj->Obj} (I:Inv X pins σ H s) (h:H p=some (.lst xs))
  (ho:s.heap.get? p=some { cls:=.type "list",data:=.seq its.toArray n }) (hf:f { cls:=.type "list",data:=.seq its.toArray n } = { cls:=.type "list",data:=.seq its'.toArray n' }) (r:Vals ys its') (hz:ys.length<=sizeLine) (t:Nat) :
  Inv X pins σ (upd H p (.lst ys)) { s with heap:=s.heap.update p f,toks:=t }:=by
 have e:(s.heap.update p f).get? p=some { cls:=.type "list",data:=.seq its'.toArray n' }:=by
  rw[Heap.get?_update_self f ho (by rw[hf] <;> rfl),hf]
 refine I.write (x:=p) (e:=p) (by rw[h];trivial) (.inl rfl) (λb u hb q=>(Heap.get?_update_other _ _ (Ne.symm hb)).trans q) ⟨_,e⟩ ?_
 exact⟨hz,its',n',r,e⟩
noncomputable def PZ:V->V->V->Hp->(Hp->Prop)->Prop:=λo i v H Q=>∃p xs k j,o = .ref p/\i = .int k/\H p=some (.lst xs)/\ixN xs.length k=some j/\Q (upd H p (.lst (xs.set j v)))
theorem GW:OF X PZ:=by
 intro pins s σ H o i v ov iv u Q I ro ri rv h
 obtain⟨p,xs,k,j,rfl,rfl,hp,hj,q⟩:=h
 cases ro
 obtain⟨t,rfl⟩:=ri
 obtain⟨its,n,r,ho,hz⟩:=I.lst hp
 obtain⟨h1,h2,h3,h4⟩:=AC hj
 have hl:=r.length
 have hn:=tT
 have I':Inv X pins σ (upd H p (.lst (xs.set j v))) { s with heap:=s.heap.update p (Obj.mapSeq (·.setIfInBounds j u)) } :=
  I.lstUpd hp ho (yB its n j u) (r.set rv j) (by rw[List.length_set];exact hz) s.toks
 by_cases h0:0<=k
 ·have hk:k.toNat=j:=by
   rw[seqIndex_of h0 h4] at h1
   exact Option.some.inj h1
  exact PySem.W.ki_setAt ho h0 (by omega) (by rw[List.size_toArray,<-hl];exact h4) (by rw[hk];exact⟨_,I',q⟩)
 ·have hk:(k+(its.toArray.size:Int)).toNat=j:=by
   rw[seqIndex_neg (by omega) h3] at h1
   rw[List.size_toArray,<-hl]
   exact Option.some.inj h1
  exact PySem.W.ki_setBack ho (by omega) (by rw[List.size_toArray,<-hl];exact h3) (by omega) (by rw[hk];exact⟨_,I',q⟩)
theorem uG (lo hi:Option Int) (n:Nat):(sliceBounds lo hi none n).1=((HT.sIx n 0 lo:Nat):Int)/\(sliceBounds lo hi none n).2.1=((HT.sIx n n hi:Nat):Int)/\(sliceBounds lo hi none n).2.2=1:=by
 refine⟨?_,?_,rfl⟩
 ·cases lo with
  | none=>simp[sliceBounds,HT.sIx]
  | some i =>
   simp only[sliceBounds,HT.sIx,Option.getD_none,show (1:Int) > 0 by decide,if_true]
   by_cases h:i<0
   ·simp only[h,if_true] <;> omega
   ·simp only[h,if_false] <;> omega
 ·cases hi with
  | none=>simp[sliceBounds,HT.sIx]
  | some i =>
   simp only[sliceBounds,HT.sIx,Option.getD_none,show (1:Int) > 0 by decide,if_true]
   by_cases h:i<0
   ·simp only[h,if_true] <;> omega
   ·simp only[h,if_false] <;> omega
theorem rQ (its:List Value) (lo hi:Option Int):slicePick its.toArray lo hi none=((its.drop (HT.sIx its.length 0 lo)).take (HT.sIx its.length its.length hi-HT.sIx its.length 0 lo)).toArray:=by
 obtain⟨h1,h2,h3⟩:=uG lo hi its.toArray.size
 unfold slicePick
 rw[h1,h2,h3]
 simp only[sliceRange_one,pick_run,List.size_toArray] <;> rfl
noncomputable def RY (K:PySem.W.Frag):V->Option Int->Option Int->Hp->VK->Prop:=λx lo hi H Q=>∃a xs,x = .ref a/\SqL K H a xs/\∀p,H p=none->Q (.ref p) (upd H p (.lst (uV xs lo hi)))
theorem JT:SlR X (RY X.K):=by
 intro pins s σ H x v vl vu lo hi sl Q I rx hs pl pu h
 obtain⟨a,xs,rfl,hx,q⟩:=h
 cases rx
 obtain⟨its,r,ht,hz⟩:=I.list hx
 have hlen:=r.length
 refine⟨"list",_,slot_list_getitem.lookup,ht.isList.typeIs,?_⟩
 refine wpAny_getItem_list_slice ht.isList hs pl pu .none (by simp) ?_ (by rw[List.size_toArray] <;> omega)
 rw[rQ,<-hlen]
 refine⟨.ref s.heap.objs.size,_,I.laid (t':=s.toks) (o:=.lst (uV xs lo hi)) (λb ob q=>Heap.get?_push_of_some _ q) (Nat.le_refl _) ?_,rfl,q _ (I.hok.fresh (Nat.le_refl _))⟩
 exact⟨Nat.le_trans (nR xs lo hi) hz,_,0,(r.drop (HT.sIx xs.length 0 lo)).take (HT.sIx xs.length xs.length hi-HT.sIx xs.length 0 lo),Heap.get?_push_size _ rfl⟩
theorem tE:iB X (.builtin "len") (λxs H Q=>∃p ys,xs=[.ref p]/\(SqL X.K H p ys\/SqT X.K H p ys)/\Q (.int ys.length) H):=by
 intro pins s σ H xs us Q I r h
 obtain⟨p,ys,rfl,hq,q⟩:=h
 obtain⟨u,rfl,rx⟩:=kN r
 cases rx
 have hn:=tT
 rcases hq with hq | hq
 ·obtain⟨its,r',pl,hz⟩:=I.list hq
  have hlen:=r'.length
  exact Calls.call_len_list pl.isList (by simp only[List.size_toArray] <;> omega) ⟨.int ys.length,H,I.tok _,⟨s.toks+1,by rw[List.size_toArray,hlen]⟩,q⟩
 ·obtain⟨its,r',pl,hz⟩:=I.tuple hq
  have hlen:=r'.length
  exact len_tuple pl (by simp only[List.size_toArray] <;> omega) ⟨.int ys.length,H,I.tok _,⟨s.toks+1,by rw[List.size_toArray,hlen]⟩,q⟩
theorem tF:iB X (.type "list") (λxs H Q=>∃p ys,xs=[.ref p]/\(SqL X.K H p ys\/SqT X.K H p ys)/\∀l,H l=none->Q (.ref l) (upd H l (.lst ys))):=by
 intro pins s σ H xs us Q I r h
 obtain⟨p,ys,rfl,hq,q⟩:=h
 obtain⟨u,rfl,rx⟩:=kN r
 cases rx
 have fin:∀(its:List Value),Vals ys its->ys.length<=sizeLine->∀(h':Heap) (c':Nat),(∀b o',s.heap.get? b=some o'->h'.get? b=some o') ->
   h'.get? s.heap.objs.size=some { cls:=.type "list",dict:=none,data:=.seq its.toArray c',slots:=#[] }->EP X pins σ Q (.ref s.heap.objs.size) { s with heap:=h' }:=λits r' hz h' c' kp e =>
  ⟨.ref s.heap.objs.size,_,I.laid (t':=s.toks) kp (Nat.le_refl _) (show ObjOk X.prog X.w _ h' _ (.lst ys) from ⟨hz,its,c',r',e⟩),rfl,q _ (I.hok.fresh (Nat.le_refl _))⟩
 rcases hq with hq | hq
 ·obtain⟨its,r',pl,hz⟩:=I.list hq
  have hlen:=r'.length
  obtain⟨o,ho,hc,n,hd⟩:=pl.isList
  exact call_list_seq p (.inl rfl) ho hc hd (λh' c' kp e=>fin its r' hz h' c' kp e) (by simp only[List.size_toArray] <;> omega)
 ·obtain⟨its,r',pl,hz⟩:=I.tuple hq
  have hlen:=r'.length
  obtain⟨o,ho,hc,n,hd⟩:=pl
  exact call_list_seq p (.inr rfl) ho hc hd (λh' c' kp e=>fin its r' hz h' c' kp e) (by simp only[List.size_toArray] <;> omega)
theorem qZ:iB X (.type "tuple") (λxs H Q=>∃p ys,xs=[.ref p]/\((SqL X.K H p ys/\∀l,H l=none->Q (.ref l) (upd H l (.tup ys)))\/(SqT X.K H p ys/\Q (.ref p) H))):=by
 intro pins s σ H xs us Q I r h
 obtain⟨p,ys,rfl,h⟩:=h
 obtain⟨u,rfl,rx⟩:=kN r
 cases rx
 rcases h with ⟨hq,q⟩ | ⟨hq,q⟩
 ·obtain⟨its,r',pl,hz⟩:=I.list hq
  have hlen:=r'.length
  refine call_tuple_list pl.isList (λh' kp=>?_) (by simp only[List.size_toArray] <;> omega)
  have I1:Inv X pins σ H { s with heap:=h' }:=I.kept (t':=s.toks) kp
  have I2:Inv X pins σ (upd H h'.objs.size (.tup ys)) { s with heap:=h'.push { cls:=.type "tuple",data:=.seq its.toArray } } :=
   I1.laid (t':=s.toks) (λb o e=>Heap.get?_push_of_some _ e) (Nat.le_refl _) (show ObjOk X.prog X.w _ _ _ (.tup ys) from ⟨hz,its,r',IsTup.new _ _⟩)
  exact⟨.ref h'.objs.size,_,I2,rfl,q _ (I1.hok.fresh (Nat.le_refl _))⟩
 ·obtain⟨its,r',pl,hz⟩:=I.tuple hq
  exact call_tuple_same pl ⟨.ref p,H,I,rfl,q⟩
noncomputable def tyV (K:PySem.W.Frag) (T:String) (x:V) (H:Hp):Prop:=match x with
 | .str _=>T = "str"
 | .int _=>T = "int"
 | .ref p=>(T = "list"/\∃xs,SqL K H p xs)\/(T = "tuple"/\∃o,K.lookup p=some o/\o.cls = .type "tuple"/\o.dict=none) \/
   (T = "dict"/\((∃kvs,H p=some (.dK kvs))\/∃kvs,H p=some (.dT kvs)))\/(T = "set"/\∃S n,H p=some (.set S n))
 | _=>False
theorem HL {pins:List (Addr × Obj)} {σ:St} {H:Hp} {s:Shared} {T:String} {x:V} {v:Value} (I:Inv X pins σ H s) (r:RelV x v) (ty:tyV X.K T x H) :
  s.TypeIs v T/\∀a,v = .ref a->∃ob,s.heap.get? a=some ob/\ob.dict=none:=by
 cases x with
 | str z =>
  obtain⟨t,rfl⟩:=r
  cases (show T = "str" from ty)
  exact⟨typeIs_str s z t,λ_ e=>nomatch e⟩
 | int i =>
  obtain⟨t,rfl⟩:=r
  cases (show T = "int" from ty)
  exact⟨typeIs_int s i t,λ_ e=>nomatch e⟩
 | ref p =>
  cases r
  rcases ty with ⟨rfl,xs,hq⟩ | ⟨rfl,o,hk,hc,hd⟩ | ⟨rfl,hk⟩ | ⟨rfl,S,n,hk⟩
  ·obtain⟨its,_,pl,_⟩:=I.list hq
   refine⟨pl.isList.typeIs,λa e=>?_⟩
   cases e
   obtain⟨o,n,e,c,hd,_⟩:=pl
   exact⟨o,e,hd⟩
  ·refine⟨⟨o,I.kIn p o hk,hc⟩,λa e=>?_⟩
   cases e
   exact⟨o,I.kIn _ o hk,hd⟩
  ·have z:∃o,s.heap.get? p=some o/\o.ExactDict:=by
    rcases hk with ⟨kvs,hk⟩ | ⟨kvs,hk⟩
    ·obtain⟨_,_,_,_,o,_,_,e,ex,_⟩:=I.hok p _ hk
     exact⟨o,e,ex⟩
    ·obtain⟨_,_,_,_,o,_,_,e,ex,_⟩:=I.hok p _ hk
     exact⟨o,e,ex⟩
   obtain⟨o,e,ex⟩:=z
   refine⟨⟨o,e,ex.1⟩,λa e2=>?_⟩
   cases e2
   exact⟨o,e,ex.2.1⟩
  ·obtain⟨o,_,_,_,e,ex,_⟩:=I.hok p _ hk
   refine⟨⟨o,e,ex.1⟩,λa e2=>?_⟩
   cases e2
   exact⟨o,e,ex.2.1⟩
 | _=>exact False.elim ty
noncomputable def SL (K:PySem.W.Frag) (T:String) (r:V->List V->Hp->VK->Prop) (to:TE):TE:=λσ H Q=>to σ H λx H1=>tyV K T x H1/\r x [] H1 Q
noncomputable def tBM (K:PySem.W.Frag) (T:String) (r:V->List V->Hp->VK->Prop) (to:TE) (t:TA):TE:=λσ H Q=>to σ H λx H1=>tyV K T x H1/\t σ H1 λxs H2=>r x xs H2 Q
variable {o e:Expr} {es:List Expr} {to:TE} {t:TA} {name:Str} {apos cpos:Pos} {T id:String} {r:V->List V->Hp->VK->Prop}
theorem MS (pa:PlainAttrs T) (slot:Slot T name id) (hty:typeOf (.builtin id)=pure (.type "method_descriptor")) (hm:MtR X id r) (ho:PE X o to)
  (hbase:attributeBase o name X.env (eval o X.env)=eval o X.env:=by rfl) (hline:(apos.endLine == cpos.line)=true:=by rfl):PE X (.Call (.Attribute o name apos) [] [] cpos) (SL X.K T r to):=by
 intro pins s σ H Q I h
 refine wpAny_Call_method0_late hbase hline (thn (ho pins s σ H _ I h) λv s1 ⟨x,H1,I1,r1,ty,q1⟩=>?_)
 obtain⟨h1,h2⟩:=HL I1 r1 ty
 exact⟨T,id,pa,slot,hty,h1,h2,Calls.callWith_builtin rfl (PySem.evalArgs_none (hm pins s1 σ H1 x [] v [] Q I1 r1 .nil q1))⟩
theorem KS (pa:PlainAttrs T) (slot:Slot T name id) (hty:typeOf (.builtin id)=pure (.type "method_descriptor")) (hm:MtR X id r) (ho:PE X o to) (ha:PA X (e::es) t)
  (hbase:attributeBase o name X.env (eval o X.env)=eval o X.env:=by rfl)
  (hfew:((backTo cpos (starEach (e::es) X.env)).all (λx=>!x.1) && (backToKw cpos (keywordEach [] X.env)).all (λx=>x.1.isSome)
   && decide ((e::es).length+([]:List Keyword).length+(if ([]:List Keyword).isEmpty then 0 else 1)<30))=true:=by rfl)
  (hline:(apos.endLine == cpos.line)=true:=by rfl) (hs:starEach (e::es) X.env=(false,eval e X.env)::starEach es X.env:=by rfl) (hplain:(backTo cpos (starEach es X.env)).any (·.1)=false:=by rfl) :
  PE X (.Call (.Attribute o name apos) (e::es) [] cpos) (tBM X.K T r to t):=by
 intro pins s σ H Q I h
 refine wpAny_Call_method_late hbase hfew hline rfl (thn (ho pins s σ H _ I h) λv s1 ⟨x,H1,I1,r1,ty,q1⟩=>?_)
 obtain⟨h1,h2⟩:=HL I1 r1 ty
 refine⟨T,id,pa,slot,hty,h1,h2,?_⟩
 have hA:=ha cpos pins s1 σ H1 _ I1 q1
 rw[hs] at hA ⊢
 refine Calls.callWith_builtin (by show (false || (backTo cpos (starEach es X.env)).any (·.1))=false;rw[hplain] <;> rfl) (Calls.evalArgs_plain ?_)
 exact thn hA λus s2 ⟨vs,H2,I2,r2,q2⟩=>hm pins s2 σ H2 x vs v us Q I2 r1 r2 q2
end
end L2
namespace L2
open PySem PySem.Spec PyProof.Rows
noncomputable def MtM (X:Cx) (id:String) (r:V->List V->Hp->VK->Prop):Prop :=
 ∀(pins:List (Addr × Obj)) (s:Shared) (σ:St) (H:Hp) (x:V) (xs:List V) (v:Value) (us:List Value) (Q:VK),Inv X pins σ H s->RelV x v->Vals xs us->r x xs H Q ->
  wpAny (model X.prog X.w) X.A (call (.builtin id) (v::us)) (EP X pins σ Q) X.xe s
theorem Vals.one:∀{x:V} {us:List Value},Vals [x] us->∃u,us=[u]/\RelV x u
 | _,_,.cons r .nil=>⟨_,rfl,r⟩
theorem Vals.zero:∀{us:List Value},Vals [] us->us=[]
 | _,.nil=>rfl
theorem Vals.dropLast {xs:List V} {us:List Value} (h:Vals xs us):Vals xs.dropLast us.dropLast:=by
 induction h with
 | nil=>exact .nil
 | cons r t ih =>
  cases t with
  | nil=>exact .nil
  | cons q t'=>exact .cons r ih
theorem xW {α:Type} (l:List α):l.eraseIdx (l.length-1)=l.dropLast:=by
 induction l with
 | nil=>rfl
 | cons a r ih =>
  cases r with
  | nil=>rfl
  | cons b r =>
   have e:(a::b::r).length-1=((b::r).length-1)+1:=by
    have h1:(a::b::r).length=r.length+2:=rfl
    have h2:(b::r).length=r.length+1:=rfl
    omega
   rw[e,List.eraseIdx_cons_succ,ih]
   all_goals rfl
section
variable {X:Cx} {pins:List (Addr × Obj)} {σ:St} {H:Hp} {s:Shared} {l b:Addr} {xs ys zs:List V}
theorem Inv.lset {its its':List Value} {n:Nat} {f:Array Value->Array Value} {t':Nat} (I:Inv X pins σ H s) (hH:H l=some (.lst xs))
  (e:s.heap.get? l=some { cls:=.type "list",data:=.seq its.toArray n }) (hf:f its.toArray=its'.toArray) (hv:Vals ys its') (hz:ys.length<=sizeLine) :
  Inv X pins σ (upd H l (.lst ys)) { s with heap:=s.heap.update l (Obj.mapSeq f),toks:=t' }:=by
 have q:=PySem.IsL.update e f
 rw[hf] at q
 refine I.write (x:=l) (e:=l) (by rw[hH];exact trivial) (.inl rfl) (λb' u hb hu=>(Heap.get?_update_other s.heap (Obj.mapSeq f) (Ne.symm hb)).trans hu) ⟨_,q⟩ ?_
 exact⟨hz,its',_,hv,q⟩
theorem Inv.lnew {its:List Value} {t':Nat} (I:Inv X pins σ H s) (hv:Vals ys its) (hz:ys.length<=sizeLine) :
  Inv X pins σ (upd H s.heap.objs.size (.lst ys)) { s with heap:=s.heap.push { cls:=.type "list",data:=.seq its.toArray },toks:=t' } :=
 I.laid (λ_ _ q=>Heap.get?_push_of_some _ q) (Nat.le_refl _) ⟨hz,its,0,hv,Heap.get?_push_size _ rfl⟩
theorem Inv.fresh (I:Inv X pins σ H s):H s.heap.objs.size=none:=I.hok.fresh (Nat.le_refl _)
theorem Inv.lstM (I:Inv X pins σ H s) (hH:H l=some (.lst xs)):xs.length<=sizeLine/\∃(its:List Value) (n:Nat),Vals xs its/\xs.length=its.length/\s.heap.get? l=some { cls:=.type "list",data:=.seq its.toArray n }:=by
 obtain⟨z,its,n,r,e⟩:=I.hok l _ hH
 exact⟨z,its,n,r,r.length,e⟩
end
section
variable {X:Cx}
noncomputable def JP:V->List V->Hp->VK->Prop:=λx vs H Q=>∃l xs y,x = .ref l/\vs=[y]/\H l=some (.lst xs)/\xs.length<sizeLine/\Q .non (upd H l (.lst (xs++[y])))
theorem CJ:MtM X "list.append" JP:=by
 intro pins s σ H x vs v us Q I rx rv h
 obtain⟨l,xs,y,rfl,rfl,hH,hz,q⟩:=h
 cases rx
 obtain⟨u,rfl,ru⟩:=rv.one
 obtain⟨z,its,n,r,hl,e⟩:=I.lstM hH
 refine call_meets F.slot_list_append ⟨_,e,rfl⟩ F.entry_list_append (F.args_list_append_2 _ _) (PySem.list_append l its.toArray n u (by rw[List.size_toArray];omega)) ⟨e,?_⟩
 refine⟨.non,_,I.lset (its':=its++[u]) hH e (by simp) (r.append (.cons ru .nil)) ?_,rfl,q⟩
 rw[List.length_append,List.length_singleton]
 omega
noncomputable def RW:V->List V->Hp->VK->Prop:=λx vs H Q=>∃l xs y,x = .ref l/\vs=[]/\H l=some (.lst xs)/\xs[xs.length-1]? = some y/\Q y (upd H l (.lst xs.dropLast))
theorem ML:MtM X "list.pop" RW:=by
 intro pins s σ H x vs v us Q I rx rv h
 obtain⟨l,xs,y,rfl,rfl,hH,hy,q⟩:=h
 cases rx
 have hus:=rv.zero
 subst hus
 obtain⟨z,its,n,r,hl,e⟩:=I.lstM hH
 obtain⟨u,hu,ru⟩:=r.get hy
 have hy':its.toArray[its.toArray.size-1]? = some u:=by
  show its.toArray[its.length-1]? = some u
  rw[<-Array.getElem?_toList,<-hl]
  exact hu
 refine call_meets F.slot_list_pop ⟨_,e,rfl⟩ F.entry_list_pop (F.args_list_pop_1 _) (MeetsSeq.list_pop_last l its.toArray n u hy' (by rw[List.size_toArray];omega)) ⟨e,?_⟩
 refine⟨y,_,I.lset (its':=its.dropLast) hH e ?_ r.dropLast ?_,ru,q⟩
 ·show its.toArray.eraseIdxIfInBounds (its.toArray.size-1)=its.dropLast.toArray
  rw[List.size_toArray,List.eraseIdxIfInBounds_toArray,xW]
 ·rw[List.length_dropLast]
  omega
end
section
variable {prog:Program} {w:World} {A:Around} {E:Value->Shared->Prop} {s:Shared}
end
section
variable {X:Cx}
end
end L2
namespace Att
open PySem PySem.W PySem.Calls PyProof.Rows
theorem oF {P:Params} {h:Heap}:∀(ns:List Int) (vs:List Value),WellAll P h vs (ns.map WData.int)->IntsAre vs ns:=by
 intro ns
 induction ns with
 | nil =>
  intro vs w
  rw[List.map_nil] at w
  cases w
  exact .nil
 | cons n ns ih =>
  intro vs w
  rw[List.map_cons] at w
  cases w with
  | cons a b =>
   cases a
   exact .cons _ _ (ih _ b)
theorem CV {l:OpenLaw} {n:Nat} (hn:l.most=some n) {P:Params} {h:Heap} {args:List WData} {vals:List Value}
  (hpre:l.row.toRowW.claim.pre args=true) (hwl:WellAll P h vals args) :
  ∃a vs ns,vals=[Value.ref a]/\args=[WData.list (ns.map WData.int)]/\h.get? a=some { cls:=.type "list",data:=.seq vs.toArray }/\IntsAre vs ns/\ns.length<=n:=by
 have hsh:WShape.hasAll [] args [.list .int]=true:=(pre_splitW hpre).1
 have hc:l.pre.holds [] { args:=args } = true:=(pre_splitW hpre).2
 obtain⟨d,r,rfl,h1,h2⟩:=hasAllW_cons hsh
 obtain rfl:=hasAllW_nil h2
 obtain⟨xs,rfl,h3⟩:=hasW_list h1
 obtain⟨ns,rfl⟩:=items_int h3
 have hlen:ns.length<=n:=by
  unfold OpenLaw.pre at hc
  have h4:(WTm.not (.lt (.lit (.int (n:Int))) (.len (.arg 0)))).holds [] { args:=[.list (ns.map .int)] } = true:=by
   have h4:=(holds_andW hc).1
   rw[hn] at h4
   exact h4
  have h5:=condW_of h4 (w_not (w_lt w_lit (w_len_list (w_arg rfl))))
  rw[List.length_map] at h5
  refine Nat.le_of_not_lt λq=>?_
  have q':(n:Int)<((ns.length:Nat):Int):=by omega
  first
   | (rw[decide_eq_true q'] at h5;exact absurd h5 (by decide))
   | (simp at h5;omega)
 cases hwl with
 | cons w1 w2 =>
  cases w2
  cases w1 with
  | list ho hall=>exact⟨_,_,ns,rfl,rfl,ho,oF ns _ hall,hlen⟩
theorem CS (l:OpenLaw) (args:List WData):l.row.toRowW.claim.post args (.bool true) args=true :=
 postW_of (r:=l.row.toRowW) (X:=(true == true))
  (show WShape.has [] (.bool true) .bool=true by first | rfl | decide | simp[WShape.has,WShape.arms,WShape.armsAll])
  (show (WTm.eq .res (.lit (.bool true))).value [] { args:=args,res:=some (.bool true),after:=args } = some (.bool (true == true)) from w_eq_bool (w_res rfl) w_lit) rfl
theorem attach_call {l:OpenLaw} {n:Nat} {q:Program} {loose:List Str} {XP:(Str->Option Value)->Heap->Prop} {YP:World->Heap->Prop} {d:DefRec}
  (hn:l.most=some n) (hdf:d.params.defaults=[])
  (call:∀(w:World) (s₀ s₁:Shared) (mg mb:Str->Option Value) (fa:Addr) (o:Obj) (pm cd doc:Value) (a:Addr) (vs:List Value) (ns:List Int),
   Ground q loose [] XP w s₀ mg mb s₁.heap->YP w s₁.heap ->
   s₁.heap.get? fa=some o->o.data = .func (docDef d.name d.params d.body d.scope pm cd doc)->s₁.heap.CodeRec cd d.name->mg d.name=some (.ref fa) ->
   s₁.heap.get? a=some { cls:=.type "list",data:=.seq vs.toArray }->IntsAre vs ns->ns.length<=n->s₁.gens = #[] ->
   codeAny (model l.prog w) callerA (.call (.ref fa) ⟨[.ref a],[]⟩) (λr s'=>r = .ok (.ret (.bool true))/\OldK s₁.heap s'.heap/\s'.os=s₁.os/\AllBare s'.gens) s₁) :
  WalkO q loose XP YP l.row.toRowW d [] (λf vs=>PySem.call f vs):=by
 intro w s₀ s₁ mg mb G Y fa o pm cd doc dV kV ho hd hcd hD hmg hg args vals as hpre hlay hrd hwl hlo
 obtain rfl:dV = .none:=Dflts.none hD hdf
 obtain rfl:kV = .none:=Dflts.noKw hD
 obtain⟨a,vs,ns,rfl,rfl,hobj,hints,hlen⟩:=CV hn hpre hwl
 refine enter_call (codeAny_mono (call w s₀ s₁ mg mb fa o pm cd doc a vs ns G Y ho (fd_plain hd) hcd hmg hobj hints hlen hg) λr s' hq=>?_)
 obtain⟨rfl,h2,h3,h4⟩:=hq
 exact⟨.inl ⟨.bool true,.bool true,[],rfl,λ_=>rfl,.bool true,CS l _,λ_=>⟨List.Pairwise.nil,λ_ hm=>(nomatch hm)⟩⟩,h2,h3,h4⟩
section
variable {prog:Program} {w:World} {A:Around} {E:Value->Shared->Prop} {s:Shared} {K:Frag}
end
end Att
namespace L2
open PySem PySem.Spec PyProof.Rows
theorem jU:∀{vs:List Value} {ns:List Int},IntsAre vs ns->Vals (ns.map V.int) vs
 | _,_,.nil=>.nil
 | _,_,.cons n t h=>.cons ⟨t,rfl⟩ (jU h)
noncomputable def HQ (H:Hp):Prop:=∀b,H b=none\/∃o xs,H b=some (.frz o (.lst xs))
theorem FQ {P:Program} {w:World} {K:PySem.W.Frag} {mg mb:Str->Option Value} {CX:CXT} {k:Nat} {fa a:Addr} {fd:FuncData} {x:Str} {sp:Sp} {s₁:Shared} {vs:List Value} {ns:List Int}
  (KX:K.In s₁.heap) (hns:s₁.heap.Ns mainGlobals mg) (hb:s₁.heap.Ns builtinsNs mb) (hbb:∀x:Str,x≠"__name__"->mb x=bootBuiltins x) (hlim:s₁.heap.NoLimit) (hg:s₁.gens = #[])
  (ha:s₁.heap.get? a=some { cls:=.type "list",data:=.seq vs.toArray }) (hi:IntsAre vs ns) (hl:ns.length<=sizeLine) (hr:Room k callerA)
  (F:∀base:Heap,K.In base->base.Ns mainGlobals mg->FnOk P w K mg base CX k fa fd [x] sp) (hbind:∀(s:Shared) (u:Value),BindsTo s fd ⟨[u],[]⟩ [(x,u)])
  (hsp:∀H:Hp,HQ H->SqL K H a (ns.map V.int)->sp [.ref a] H (λv _=>v = .bl true) λ_ _ _=>False)
  (hCX:∀H e s',CX [] H s₁ (λ_ _ _=>False) e s'->False) :
  codeAny (model P w) callerA (.call (.ref fa) ⟨[.ref a],[]⟩) (λr s'=>r = .ok (.ret (.bool true))/\OldK s₁.heap s'.heap/\s'.os=s₁.os/\AllBare s'.gens) s₁:=by
 have rv:=jU hi
 have lenV:=hi.length
 have core:∀H:Hp,HQ H->SqL K H a (ns.map V.int)->HOk P w H s₁.heap->(∀b,H b≠none->b=a)->(H a≠none->K.lookup a=none) ->
   codeAny (model P w) callerA (.call (.ref fa) ⟨[.ref a],[]⟩) (λr s'=>r = .ok (.ret (.bool true))/\OldK s₁.heap s'.heap/\s'.os=s₁.os/\AllBare s'.gens) s₁:=by
  intro H hO hS hok hA hK
  have base_of:∀{b:Addr} {o:Obj},s₁.heap.get? b=some o->H b=none->(tM s₁.heap H).get? b=some o:=λe n=>FM e n
  have noA:∀{b:Addr} {o:Obj} {es:Array DictEntry} {ep:Nat},s₁.heap.get? b=some o->o.data = .dict es ep->H b=none:=λ{b o es ep} e d=>by
   cases q:H b with
   | none=>rfl
   | some u =>
    have e':b=a:=hA b (by rw[q];simp)
    subst e'
    rw[ha] at e;cases e
    have d':Data.seq vs.toArray _=Data.dict es ep:=d
    cases d'
  have nsK:∀{b:Addr} {m:Str->Option Value},s₁.heap.Ns b m->(tM s₁.heap H).Ns b m:=λ{b m} ⟨o,es,ep,e,d,r⟩=>⟨o,es,ep,base_of e (noA e d),d,r⟩
  have hKb:K.In (tM s₁.heap H):=λb o e=>base_of (KX b o e) (by
   cases q:H b with
   | none=>rfl
   | some u =>
    have e':b=a:=hA b (by rw[q];simp)
    subst e'
    rw[hK (by rw[q];simp)] at e;cases e)
  have hM:Mod K mg (tM s₁.heap H):=⟨hKb,nsK hns,⟨mb,nsK hb,hbb⟩,let ⟨mc,h1,h2⟩:=hlim;⟨mc,nsK h1,h2⟩⟩
  have e0:Env0 P w K mg (tM s₁.heap H) callerA [] s₁ H:=⟨rfl,hM,λb o e=>IZ e,Nat.le_of_eq (BQ _ _),trivial,λb hb=>absurd (show b∈([]:List Addr) from hb) (by simp),hok,.of_eq hg⟩
  refine codeAny_mono ((F _ hKb (nsK hns)).run callerA [] s₁ H ⟨[.ref a],[]⟩ [.ref a] [.ref a] _ _ hr e0 (hbind s₁ (.ref a)) (.cons rfl .nil) (hsp H hO hS)) λr s' h=>?_
  cases r with
  | error e=>exact (hCX H e s' h).elim
  | ok fl =>
   cases fl with
   | next=>exact False.elim h
   | brk=>exact False.elim h
   | cont=>exact False.elim h
   | ret u =>
    obtain⟨v,H',os,bare,un,hok',r',q⟩:=h
    have q':v = .bl true:=q
    subst q'
    obtain rfl:u=Value.bool true:=r'
    refine⟨rfl,OldK.of_keep λb o e=>?_,os,bare⟩
    cases q:H b with
    | none=>exact un.keep b o e q (by intro z;exact absurd (show b∈([]:List Addr) from z) (by simp)) (by simp)
    | some u =>
     rcases hO b with z | ⟨ob,xs,z⟩
     ·rw[q] at z;cases z
     ·have z2:=un.frzs b ob _ z
      obtain⟨e1,_⟩:=hok b _ z
      obtain⟨e2,_⟩:=hok' b _ z2
      rw[e] at e1;cases e1
      exact e2
 cases hk:K.lookup a with
 | some o =>
  have e:=KX a o hk
  rw[ha] at e
  cases e
  refine core (λ_=>none) (λ_=>.inl rfl) (.inr ⟨_,vs.toArray,_,hk,rfl,rfl,rfl,by rw[List.size_toArray,lenV];exact hl,by simpa using rv⟩) (λb u z=>by have z':(none:Option HO)=some u:=z;cases z') (λb z=>absurd rfl z) λz=>absurd rfl z
 | none =>
  refine core (λb=>if b=a then some (.frz { cls:=.type "list",data:=.seq vs.toArray } (.lst (ns.map V.int))) else none) (λb=>?_) (.inl (.inr ⟨{ cls:=.type "list",data:=.seq vs.toArray },if_pos rfl⟩)) (λb u z=>?_) (λb z=>?_) λ_=>hk
  ·by_cases hb:b=a
   ·exact .inr ⟨_,_,if_pos hb⟩
   ·exact .inl (if_neg hb)
  ·by_cases hb:b=a
   ·have z':=(if_pos hb).symm.trans z
    cases z'
    subst hb
    exact⟨ha,by rw[List.length_map];exact hl,vs,_,rv,ha⟩
   ·have z':=(if_neg hb).symm.trans z
    cases z'
  ·by_cases hb:b=a
   ·exact hb
   ·exact absurd (if_neg hb) z
end L2
namespace L2
open PySem PySem.Spec PyProof.Rows
noncomputable abbrev KOf {K:PySem.W.Frag} {h:Heap} (_:K.In h):PySem.W.Frag:=K
theorem walk_of {l:PySem.W.OpenLaw} {n k:Nat} {q:Program} {loose:List Str} {XP:(Str->Option Value)->Heap->Prop} {YP:World->Heap->Prop} {d:DefRec} {K:Params->PySem.W.Frag} {CX:World->CXT} {sp:World->Sp} {x:Str}
  (hn:l.most=some n) (hn2:n<=sizeLine) (hdf:d.params.defaults=[]) (hr:Room k callerA)
  (hY:∀(w:World) (h:Heap),YP w h->(K w.params).In h)
  (F:∀(w:World) (mg:Str->Option Value) (fa:Addr) (h:Heap),(K w.params).In h->h.Ns mainGlobals mg->mg d.name=some (.ref fa) ->
   ∃fd:FuncData,(∀(s:Shared) (u:Value),BindsTo s fd ⟨[u],[]⟩ [(x,u)]) /\
    ∀base:Heap,(K w.params).In base->base.Ns mainGlobals mg->FnOk l.prog w (K w.params) mg base (CX w) k fa fd [x] (sp w))
  (hsp:∀(w:World) (H:Hp) (a:Addr) (ns:List Int),ns.length<=n->HQ H->SqL (K w.params) H a (ns.map V.int)->sp w [.ref a] H (λv _=>v = .bl true) λ_ _ _=>False)
  (hCX:∀(w:World) (H:Hp) (s:Shared) (e:Value) (s':Shared),CX w [] H s (λ_ _ _=>False) e s'->False) :
  PySem.W.WalkO q loose XP YP l.row.toRowW d [] (λf vs=>PySem.call f vs):=by
 refine Att.attach_call hn hdf λw s₀ s₁ mg mb fa o pm cd doc a vs ns G Y ho hd hcd hmg hobj hints hlen hg=>?_
 have KX:=hY w _ Y
 obtain⟨fd,hb,hF⟩:=F w mg fa _ KX G.T.g hmg
 exact FQ KX G.T.g G.T.b G.T.builtins G.T.nolimit hg hobj hints (Nat.le_trans hlen hn2) hr hF hb (λH hO hS=>hsp w H a ns hlen hO hS) λH e s'=>hCX w H s₁ e s'
end L2
namespace L2
open PySem PySem.Spec PyProof.Rows
noncomputable def bG (s:Stmt):Arguments:=match s with
 | .FunctionDef _ a _ _ _ _ _ _ _ _=>a
 | _=>{ posonlyargs:=[],args:=[],vararg:=none,kwonlyargs:=[],kw_defaults:=[],kwarg:=none,defaults:=[] }
noncomputable def aM (s:Stmt):List Stmt:=match s with
 | .FunctionDef _ _ b _ _ _ _ _ _ _=>b
 | _=>[]
noncomputable def aE (s:Stmt):Scope:=match s with
 | .FunctionDef _ _ _ _ _ _ sc _ _ _=>sc
 | _=>{ kind:=.function,names:=[],isGenerator:=false,isCoroutine:=false }
noncomputable abbrev CX0:CXT:=λ_ _ _ _ _ _=>False
noncomputable abbrev E0:XK:=λ_ _ _=>False
theorem PJ {X:Cx}:xE CX0 X E0:=λ_ _ _ _ _ _ _ h=>h.elim
structure Fun (K:PySem.W.Frag) (x qual:Str) (st:Stmt) (f:Addr) (fd:FuncData):Prop where
 ex:∃(oc:Value) (od:Option Addr) (kV doc pm:Value) (an:Option Addr) (cdv ct:Value) (osl:Array (Option Value)),
  fd=PySem.W.fnOf x qual (bG st) (aM st) (aE st) .none kV doc pm an cdv ct/\K.lookup f=some ⟨oc,od,.func fd,osl⟩/\PySem.W.codeIn K cdv qual=true
 kp:PySem.W.keepIn K (.ref f)=true
section
variable {P:Program} {w:World} {K:PySem.W.Frag} {mg:Str->Option Value} {base:Heap}
theorem Fun.ok {x qual:Str} {st:Stmt} {f:Addr} {fd:FuncData} {N ps:List Str} {k:Nat} {sp:Sp} (F:Fun K x qual st f fd) (S:FnScope N ps (aE st)) (len:∀vs H Q E,sp vs H Q E->vs.length=ps.length)
  (hbody:∀(cdv:Value) (A:Around) (outer:List Env) (s:Shared) (H:Hp) (vs:List V) (Q:VK) (E:XK),Room k (A.deeper (envOfC qual (aE st) s.heap.objs.size f cdv))->sp vs H Q E ->
   ∃t,PSs (dM CX0 P w K mg base N qual (aE st) f cdv A outer s H E).nox (aM st) t/\t { nx:=λ_ H'=>Q .non H',rt:=Q } (jM N vs) H):FnOk P w K mg base CX0 (k+1) f fd ps sp:=by
 obtain⟨oc,od,kV,doc,pm,an,cdv,ct,osl,rfl,lk,hcd⟩:=F.ex
 refine OO lk hcd S len λA outer s H vs Q E hr hsp=>?_
 obtain⟨t,h,q⟩:=hbody cdv A outer s H vs Q E hr hsp
 exact⟨t,h.nox,q⟩
theorem cC {x qual:Str} {st:Stmt} {f:Addr} {oc:Value} {od an:Option Addr} {osl:Array (Option Value)} {kV doc pm cdv ct:Value} (l:K.lookup f=some ⟨oc,od,.func (PySem.W.fnOf x qual (bG st) (aM st) (aE st) .none kV doc pm an cdv ct),osl⟩)
  (c:PySem.W.codeIn K cdv qual=true) (k:PySem.W.keepIn K (.ref f)=true):Fun K x qual st f (PySem.W.fnOf x qual (bG st) (aM st) (aE st) .none kV doc pm an cdv ct):=⟨⟨oc,od,kV,doc,pm,an,cdv,ct,osl,rfl,l,c⟩,k⟩
end
section
variable {X:Cx}
theorem pv (i:Nat) {x:Str} {pos:Pos} (hN:X.N[i]? = some x:=by rfl) (hv:Vis X.env.scope x:=by walk_at "vis") (hd:(x == ("__debug__":Str))=false:=by decide)
  (hcd:(x == ("__classdict__":Str))=false:=by decide):PE X (.Name x pos) (QV i):=MZ hN hv hd hcd
end
noncomputable def Same (H H':Hp):Prop:=∀b o,H b=some o->H' b=some o
theorem Same.refl (H:Hp):Same H H:=λ_ _ h=>h
theorem Same.trans {H H1 H2:Hp} (a:Same H H1) (b:Same H1 H2):Same H H2:=λc o h=>b c o (a c o h)
theorem Same.free {H H':Hp} (e:Same H H') {l:Addr} (h:H' l=Option.none):H l=Option.none:=by
 cases q:H l with
 | none=>rfl
 | some o =>
  rw[e l o q] at h
  cases h
end L2
set_option linter.all false
namespace L2.R2
noncomputable abbrev Pt:=Int × Int
noncomputable def aH (a b c:Pt):Int:=(b.1-a.1)*(c.2-a.2)-(b.2-a.2)*(c.1-a.1)
noncomputable def ltP (a b:Pt):Prop:=a.1<b.1\/(a.1=b.1/\a.2<b.2)
instance (a b:Pt):Decidable (ltP a b):=by unfold ltP;infer_instance
theorem jS {a:Pt}:¬ltP a a:=λh=>h.elim (Int.lt_irrefl _) λh=>Int.lt_irrefl _ h.2
theorem fA {a b c:Pt} (h:ltP a b) (k:ltP b c):ltP a c:=by
 rcases h with h | ⟨h,h'⟩
 ·exact Or.inl (k.elim (Int.lt_trans h) λk=>k.1 ▸ h)
 ·exact k.elim (λk=>Or.inl (h ▸ k)) λk=>Or.inr ⟨h.trans k.1,Int.lt_trans h' k.2⟩
theorem gW (a b:Pt):ltP a b\/a=b\/ltP b a:=by
 rcases Int.lt_trichotomy a.1 b.1 with h | h | h
 ·exact Or.inl (Or.inl h)
 ·rcases Int.lt_trichotomy a.2 b.2 with k | k | k
  ·exact Or.inl (Or.inr ⟨h,k⟩)
  ·exact Or.inr (Or.inl (Prod.ext h k))
  ·exact Or.inr (Or.inr (Or.inr ⟨h.symm,k⟩))
 ·exact Or.inr (Or.inr (Or.inl h))
theorem gE {a b:Pt} (h:ltP a b):¬ltP b a:=λk=>jS (fA h k)
noncomputable def LP (x y:Int):Prop:=0<x\/(x=0/\0<y)
theorem dN {a b:Pt} (h:ltP a b):LP (b.1-a.1) (b.2-a.2):=h.elim (λh=>Or.inl (Int.sub_pos_of_lt h)) λh=>Or.inr ⟨by rw[h.1,Int.sub_self],Int.sub_pos_of_lt h.2⟩
theorem pE {x y x' y':Int} (h:LP x y) (k:LP x' y'):LP (x+x') (y+y'):=by
 rcases h with h | ⟨rfl,h'⟩ <;> rcases k with k | ⟨rfl,k'⟩
 ·exact Or.inl (Int.add_pos h k)
 ·exact Or.inl (by rw[Int.add_zero];exact h)
 ·exact Or.inl (by rw[Int.zero_add];exact k)
 ·exact Or.inr ⟨rfl,Int.add_pos h' k'⟩
theorem eQ {k x y:Int} (hk:0<k) (h:LP x y):LP (k*x) (k*y):=by
 unfold LP at *
 rcases h with h | ⟨h,h'⟩
 ·exact Or.inl (Int.mul_pos hk h)
 ·exact Or.inr ⟨by rw[h,Int.mul_zero],Int.mul_pos hk h'⟩
theorem zD {k x y z w:Int} (hk:0<=k) (h:LP x y) (h0:LP z w):LP (z+k*x) (w+k*y):=by
 rcases Int.lt_or_eq_of_le hk with h' | rfl
 ·exact pE h0 (eQ h' h)
 ·rw[Int.zero_mul,Int.zero_mul,Int.add_zero,Int.add_zero];exact h0
theorem KF (h:LP 0 0):False:=h.elim (Int.lt_irrefl _) λh=>Int.lt_irrefl _ h.2
theorem xD {k x y:Int} (h:LP x y) (hk:LP (k*x) (k*y)):0<k:=by
 unfold LP at *
 rcases h with h | ⟨h,h'⟩
 ·rcases hk with hk | ⟨hk,_⟩
  ·exact Int.pos_of_mul_pos_left hk h |> λh=>h
  ·rcases Int.mul_eq_zero.mp hk with e | e
   ·subst e;simp at *;
   ·omega
 ·subst h
  rcases hk with hk | ⟨_,hk⟩
  ·simp at hk
  ·exact Int.pos_of_mul_pos_left hk h'
theorem sW {ux uy vx vy wx wy:Int} (hu:LP ux uy) (hv:LP vx vy) (hw:LP wx wy) (h:0<ux*vy-uy*vx) (k:0<vx*wy-vy*wx) :
  0<ux*(vy+wy)-uy*(vx+wx)/\0<(ux+vx)*wy-(uy+vy)*wx:=by
 constructor
 ·refine xD hv (?_:LP _ _)
  have:=pE (eQ h (pE hv hw)) (eQ k hu)
  have e1:(ux*(vy+wy)-uy*(vx+wx))*vx=(ux*vy-uy*vx)*(vx+wx)+(vx*wy-vy*wx)*ux:=by grind
  have e2:(ux*(vy+wy)-uy*(vx+wx))*vy=(ux*vy-uy*vx)*(vy+wy)+(vx*wy-vy*wx)*uy:=by grind
  rw[e1,e2];exact this
 ·refine xD hv (?_:LP _ _)
  have:=pE (eQ h hw) (eQ k (pE hu hv))
  have e1:((ux+vx)*wy-(uy+vy)*wx)*vx=(ux*vy-uy*vx)*wx+(vx*wy-vy*wx)*(ux+vx):=by grind
  have e2:((ux+vx)*wy-(uy+vy)*wx)*vy=(ux*vy-uy*vx)*wy+(vx*wy-vy*wx)*(uy+vy):=by grind
  rw[e1,e2];exact this
theorem wS {a b c d:Pt} (ab:ltP a b) (bc:ltP b c) (cd:ltP c d) (h:0<aH a b c) (k:0<aH b c d):0<aH a b d/\0<aH a c d:=by
 have:=sW (dN ab) (dN bc) (dN cd) (by unfold aH at h;grind) (by unfold aH at k;grind)
 unfold aH
 constructor
 ·have:=this.1;grind
 ·have:=this.2;grind
theorem KE {ux uy vx vy ax ay px py:Int} (A:LP ax ay) (P:LP px py) (V:LP vx vy) (hc:0<ux*vy-uy*vx) (m0:0<=-(ux*ay-uy*ax)) (x0:0<=ax*vy-ay*vx) (y0:0<=ux*py-uy*px) (n0:0<=vx*py-vy*px):0<ax*py-ay*px:=by
 have CA:=eQ hc A
 have S:=zD m0 V CA
 rw[show (ux*vy-uy*vx)*ax + -(ux*ay-uy*ax)*vx=(ax*vy-ay*vx)*ux by grind,show (ux*vy-uy*vx)*ay + -(ux*ay-uy*ax)*vy=(ax*vy-ay*vx)*uy by grind] at S
 have hx:0<ax*vy-ay*vx:=by
  rcases Int.lt_or_eq_of_le x0 with h | h
  ·exact h
  ·rw[<-h,Int.zero_mul,Int.zero_mul] at S;exact (KF S).elim
 have T:=zD n0 CA (eQ hx (eQ hc P))
 rw[show (ax*vy-ay*vx)*((ux*vy-uy*vx)*px)+(vx*py-vy*px)*((ux*vy-uy*vx)*ax)=((ax*py-ay*px)*(ux*vy-uy*vx))*vx by grind,show (ax*vy-ay*vx)*((ux*vy-uy*vx)*py)+(vx*py-vy*px)*((ux*vy-uy*vx)*ay)=((ax*py-ay*px)*(ux*vy-uy*vx))*vy by grind] at T
 exact Int.pos_of_mul_pos_left (xD V T) hc
theorem wV {a0 b c0 a p:Pt} (h0:ltP b c0) (ha:ltP a b) (hp:ltP b p) (hc:0<aH a0 b c0) (h1:0<=aH a0 b a) (h2:0<=aH b c0 a) (h3:0<=aH a0 b p) (h4:0<=aH b c0 p):0<aH a b p:=by
 have A:=dN ha;have P:=dN hp;have U2:=dN h0
 have hc':0<(b.1-a0.1)*(c0.2-b.2)-(b.2-a0.2)*(c0.1-b.1):=by
  have e:aH a0 b c0=(b.1-a0.1)*(c0.2-b.2)-(b.2-a0.2)*(c0.1-b.1):=by { unfold aH;grind }
  rw[<-e];exact hc
 have m0:0<=-((b.1-a0.1)*(b.2-a.2)-(b.2-a0.2)*(b.1-a.1)):=by
  have e:aH a0 b a = -((b.1-a0.1)*(b.2-a.2)-(b.2-a0.2)*(b.1-a.1)):=by unfold aH;grind
  rw[<-e];exact h1
 have x0:0<=(b.1-a.1)*(c0.2-b.2)-(b.2-a.2)*(c0.1-b.1):=by
  have e:aH b c0 a=(b.1-a.1)*(c0.2-b.2)-(b.2-a.2)*(c0.1-b.1):=by unfold aH;grind
  rw[<-e];exact h2
 have y0:0<=(b.1-a0.1)*(p.2-b.2)-(b.2-a0.2)*(p.1-b.1):=by
  have e:aH a0 b p=(b.1-a0.1)*(p.2-b.2)-(b.2-a0.2)*(p.1-b.1):=by unfold aH;grind
  rw[<-e];exact h3
 have n0:0<=(c0.1-b.1)*(p.2-b.2)-(c0.2-b.2)*(p.1-b.1):=by
  have e:aH b c0 p=(c0.1-b.1)*(p.2-b.2)-(c0.2-b.2)*(p.1-b.1):=by unfold aH;grind
  rw[<-e];exact h4
 have goal:aH a b p=(b.1-a.1)*(p.2-b.2)-(b.2-a.2)*(p.1-b.1):=by unfold aH;grind
 rw[goal]
 exact KE A P U2 hc' m0 x0 y0 n0
noncomputable def bI (p:Pt):List Pt->List Pt
 | b::a::r=>if aH a b p<=0 then bI p (a::r) else b::a::r
 | s=>s
noncomputable def bQ (L:List Pt):List Pt:=L.foldl (λs p=>p::bI p s) []
noncomputable def Dec (s:List Pt):Prop:=s.Pairwise λx y=>ltP y x
noncomputable def Inc (s:List Pt):Prop:=s.Pairwise ltP
noncomputable def Tri (s:List Pt):Prop:=∀c b a,[c,b,a].Sublist s->0<aH a b c
noncomputable def OH (p:Pt) (s:List Pt):Prop:=∀b a,[b,a].Sublist s->0<aH a b p
theorem nX (p:Pt):∀s,∃l,s=l++bI p s
 | []=>⟨[],rfl⟩
 | [_]=>⟨[],rfl⟩
 | b::a::r=>by
  unfold bI
  split
  ·obtain⟨l,e⟩:=nX p (a::r)
   exact⟨b::l,by rw[List.cons_append,<-e]⟩
  ·exact⟨[],rfl⟩
theorem fF (p:Pt) (s:List Pt):(bI p s).Sublist s:=by
 obtain⟨l,e⟩:=nX p s
 conv=>rhs;rw[e]
 exact List.sublist_append_right _ _
theorem AM (p:Pt):∀s,s≠[]->bI p s≠[]
 | [],h=>h
 | [_],_=>by simp[bI]
 | b::a::r,_=>by
  unfold bI
  split
  ·exact AM p (a::r) (by simp)
  ·simp
theorem wE (p:Pt):∀s b a r,bI p s=b::a::r->0<aH a b p
 | [],_,_,_,h=>by simp[bI] at h
 | [_],_,_,_,h=>by simp[bI] at h
 | b'::a'::r',b,a,r,h=>by
  unfold bI at h
  split at h
  ·exact wE p (a'::r') b a r h
  ·rename_i hn
   cases h
   omega
theorem Dec.mem {s:List Pt} {b:Pt} {r:List Pt} (h:Dec (b::r)) {a:Pt} (ha:a∈r):ltP a b:=(List.pairwise_cons.mp h).1 a ha
theorem SJ {α:Type} {b a b0:α} {r:List α} (h:[b,a].Sublist (b0::r)):(b=b0/\a∈r)\/[b,a].Sublist r:=by
 cases h with
 | cons _ h=>exact Or.inr h
 | cons_cons _ h=>exact Or.inl ⟨rfl,by simpa using h⟩
theorem wK {p b0 a0:Pt} {r:List Pt} (d:Dec (b0::a0::r)) (t:Tri (b0::a0::r)) (hp:ltP b0 p) (h:0<aH a0 b0 p):OH p (b0::a0::r):=by
 have top:∀a,a∈a0::r->0<aH a b0 p:=by
  intro a ha
  rcases List.mem_cons.mp ha with rfl | ha
  ·exact h
  ·have t1:0<aH a a0 b0:=t b0 a0 a (by simpa using ha)
   exact (wS (Dec.mem (s:=[]) (List.pairwise_cons.mp d).2 ha) (Dec.mem (s:=[]) d (by simp)) hp t1 h).2
 intro b a hs
 rcases SJ hs with ⟨rfl,ha⟩ | hs
 ·exact top a ha
 ·have hb:b∈a0::r:=hs.subset (by simp)
  have t1:0<aH a b b0:=t b0 b a (hs.cons_cons b0)
  have hab:ltP a b:=by
   have d':Dec [b,a]:=List.Pairwise.sublist hs (List.pairwise_cons.mp d).2
   exact (List.pairwise_cons.mp d').1 a (by simp)
  exact (wS hab (Dec.mem (s:=[]) d hb) hp t1 (top b hb)).1
theorem JX {p:Pt} {s:List Pt} (d:Dec s) (t:Tri s) (hp:∀q∈s,ltP q p):Dec (p::bI p s)/\Tri (p::bI p s):=by
 have hs:=fF p s
 have d':Dec (bI p s):=List.Pairwise.sublist hs d
 have t':Tri (bI p s):=λc b a h=>t c b a (h.trans hs)
 have hp':∀q∈bI p s,ltP q p:=λq hq=>hp q (hs.subset hq)
 have sn:OH p (bI p s):=by
  generalize e:bI p s=u at *
  match u,e with
  | [],_=>intro b a h;cases h
  | [x],_=>intro b a h;have:=h.length_le;simp at this
  | b::a::r,e=>exact wK d' t' (hp' b (by simp)) (wE p s b a r e)
 refine⟨List.pairwise_cons.mpr ⟨hp',d'⟩,?_⟩
 intro c b a h
 cases h with
 | cons _ h=>exact t' c b a h
 | cons_cons _ h=>exact sn b a h
structure LowChain (L C:List Pt):Prop where
 inc:Inc C
 mem:∀q∈C,q∈L
 first:∀q∈L,∀c r,C=c::r->¬ltP q c
 last:∀q∈L,∀c l,C=l++[c]->¬ltP c q
 side:∀l a b r,C=l++a::b::r->∀q∈L,0<=aH a b q
 bend:∀l a b c r,C=l++a::b::c::r->0<aH a b c
theorem LowChain.vertex {L C:List Pt} (H:LowChain L C) {a b p:Pt} (hb:b∈C) (ha:a∈L) (hp:p∈L) (ab:ltP a b) (bp:ltP b p):0<aH a b p:=by
 obtain⟨l,r,e⟩:=List.append_of_mem hb
 rcases List.eq_nil_or_concat l with rfl | ⟨l',a0,rfl⟩
 ·exact absurd ab (H.first a ha b r e)
 ·match r with
  | []=>exact absurd bp (H.last p hp b _ e)
  | c0::r' =>
   have e1:C=l'++a0::b::c0::r':=by simpa using e
   have e2:C=(l'++[a0])++b::c0::r':=by simpa using e
   have i:=H.inc
   rw[e2] at i
   have bc:ltP b c0:=(List.pairwise_cons.mp (List.pairwise_append.mp i).2.1).1 c0 (by simp)
   exact wV bc ab bp (H.bend _ _ _ _ _ e1) (H.side _ _ _ _ e1 a ha) (H.side _ _ _ _ e2 a ha) (H.side _ _ _ _ e1 p hp) (H.side _ _ _ _ e2 p hp)
theorem sP {L C:List Pt} (H:LowChain L C) {p:Pt} (hp:p∈L):∀s,Dec s->(∀q∈s,q∈L)->(∀q∈s,ltP q p)->∀c∈C,c∈s->c∈bI p s
 | [],_,_,_,_,_,h=>h
 | [_],_,_,_,_,_,h=>h
 | b::a::r,d,m,lt,c,hc,h=>by
  unfold bI
  split
  ·rename_i ht
   rcases List.mem_cons.mp h with rfl | h
   ·exact absurd (H.vertex hc (m a (by simp)) hp (Dec.mem (s:=[]) d (by simp)) (lt _ (by simp))) (by omega)
   ·exact sP H hp (a::r) (List.pairwise_cons.mp d).2 (λq hq=>m q (List.mem_cons_of_mem _ hq)) (λq hq=>lt q (List.mem_cons_of_mem _ hq)) c hc h
  ·exact h
theorem AU {L C:List Pt} (H:LowChain L C):∀(R:List Pt) (s:List Pt),(∀q∈R,q∈L)->Inc R->Dec s->Tri s->(∀q∈s,q∈L)->(∀q∈s,∀p∈R,ltP q p)->(∀c∈C,c∈s\/c∈R) ->
  let S:=R.foldl (λs p=>p::bI p s) s
  Dec S/\Tri S/\(∀q∈S,q∈L)/\(∀c∈C,c∈S)
 | [],s,_,_,d,t,m,_,hc=>⟨d,t,m,λc h=>by simpa using hc c h⟩
 | p::R,s,hR,i,d,t,m,lt,hc=>by
  have ok:=JX d t (p:=p) (λq hq=>lt q hq p (by simp))
  refine AU H R (p::bI p s) (λq hq=>hR q (List.mem_cons_of_mem _ hq)) (List.pairwise_cons.mp i).2 ok.1 ok.2 ?_ ?_ ?_
  ·intro q hq
   rcases List.mem_cons.mp hq with rfl | hq
   ·exact hR _ (by simp)
   ·exact m q ((fF p s).subset hq)
  ·intro q hq r hr
   rcases List.mem_cons.mp hq with rfl | hq
   ·exact (List.pairwise_cons.mp i).1 r hr
   ·exact lt q ((fF p s).subset hq) r (List.mem_cons_of_mem _ hr)
  ·intro c hcc
   rcases hc c hcc with h | h
   ·exact Or.inl (List.mem_cons_of_mem _ (sP H (hR p (by simp)) s d m (λq hq=>lt q hq p (by simp)) c hcc h))
   ·rcases List.mem_cons.mp h with rfl | h
    ·exact Or.inl (by simp)
    ·exact Or.inr h
theorem zG:∀(C:List Pt) (t:Pt),t ∉ C->(∃c∈C,ltP c t)->(∃d∈C,ltP t d)->Inc C->∃l c d r,C=l++c::d::r/\ltP c t/\ltP t d
 | [],_,_,⟨_,h,_⟩,_,_=>by cases h
 | [x],t,_,⟨c,hc,h⟩,⟨d,hd,k⟩,_=>by
  simp at hc hd;subst hc;subst hd;exact absurd k (gE h)
 | x::y::r,t,ht,⟨c,hc,h⟩,⟨d,hd,k⟩,i=>by
  have hxt:ltP x t:=by
   rcases List.mem_cons.mp hc with rfl | hc
   ·exact h
   ·exact fA ((List.pairwise_cons.mp i).1 c hc) h
  rcases gW y t with hy | rfl | hy
  ·have hd':d∈y::r:=by
    rcases List.mem_cons.mp hd with rfl | hd
    ·exact absurd k (gE hxt)
    ·exact hd
   obtain⟨l,c',d',r',e,h1,h2⟩:=zG (y::r) t (λh=>ht (List.mem_cons_of_mem _ h)) ⟨y,by simp,hy⟩ ⟨d,hd',k⟩ (List.pairwise_cons.mp i).2
   exact⟨x::l,c',d',r',by rw[e];rfl,h1,h2⟩
  ·simp at ht
  ·exact⟨[],x,y,r,rfl,hxt,hy⟩
theorem tO:∀(A B:List Pt),Inc A->Inc B->(∀q,q∈A↔q∈B)->A=B
 | [],[],_,_,_=>rfl
 | [],b::B,_,_,h=>absurd ((h b).mpr (by simp)) (by simp)
 | a::A,[],_,_,h=>absurd ((h a).mp (by simp)) (by simp)
 | a::A,b::B,ia,ib,h=>by
  have ia':=List.pairwise_cons.mp ia;have ib':=List.pairwise_cons.mp ib
  have e:a=b:=by
   rcases List.mem_cons.mp ((h a).mp (by simp)) with e | ha
   ·exact e
   ·rcases List.mem_cons.mp ((h b).mpr (by simp)) with e | hb
    ·exact e.symm
    ·exact absurd (ib'.1 a ha) (gE (ia'.1 b hb))
  subst e
  congr 1
  refine tO A B ia'.2 ib'.2 λq=>⟨λhq=>?_,λhq=>?_⟩
  ·rcases List.mem_cons.mp ((h q).mp (List.mem_cons_of_mem _ hq)) with rfl | h'
   ·exact absurd (ia'.1 q hq) jS
   ·exact h'
  ·rcases List.mem_cons.mp ((h q).mpr (List.mem_cons_of_mem _ hq)) with rfl | h'
   ·exact absurd (ib'.1 q hq) jS
   ·exact h'
theorem IJ (A B:List Pt) (ia:Inc A) (ib:Inc B) (h:∀x∈A,x∈B):A.Sublist B:=by
 induction B generalizing A with
 | nil =>
  cases A with
  | nil=>exact List.Sublist.refl _
  | cons a A=>cases h a (.head _)
 | cons b B ih =>
  cases A with
  | nil=>exact List.nil_sublist _
  | cons a A =>
   have ia':=List.pairwise_cons.mp ia
   have ib':=List.pairwise_cons.mp ib
   rcases List.mem_cons.mp (h a (.head _)) with rfl | ha
   ·exact (ih A ia'.2 ib'.2 λx hx=>(List.mem_cons.mp (h x (.tail _ hx))).resolve_left λe=>jS (e ▸ ia'.1 x hx)).cons_cons a
   ·refine (ih (a::A) ia ib'.2 λx hx=>(List.mem_cons.mp (h x hx)).resolve_left λe=>?_).cons b
    rcases List.mem_cons.mp hx with k | hx
    ·exact jS (k ▸ e ▸ ib'.1 a ha)
    ·exact gE (ia'.1 x hx) (e ▸ ib'.1 a ha)
theorem vP {L C:List Pt} (iL:Inc L) (H:LowChain L C) (hne:C≠[]):(bQ L).reverse=C:=by
 obtain⟨d,t,m,k⟩:=AU H L [] (λ_ h=>h) iL List.Pairwise.nil (λ_ _ _ h=>by cases h) (λ_ h=>by cases h) (λ_ h=>by cases h) (λc hc=>Or.inr (H.mem c hc))
 have inc:Inc (bQ L).reverse:=List.pairwise_reverse.mpr d
 refine tO _ _ inc H.inc λq=>⟨λhq=>?_,λhq=>List.mem_reverse.mpr (k q hq)⟩
 apply Decidable.byContradiction
 intro hn
 have hq':q∈bQ L:=List.mem_reverse.mp hq
 have hL:=m q hq'
 have h1:∃c∈C,ltP c q:=by
  match C,hne with
  | c::r,_ =>
   refine⟨c,by simp,?_⟩
   rcases gW c q with h | rfl | h
   ·exact h
   ·simp at hn
   ·exact absurd h (H.first q hL c r rfl)
 have h2:∃d∈C,ltP q d:=by
  rcases List.eq_nil_or_concat C with e | ⟨l,c,e⟩
  ·exact absurd e hne
  ·refine⟨c,by simp[e],?_⟩
   rcases gW q c with h | rfl | h
   ·exact h
   ·simp[e] at hn
   ·exact absurd h (H.last q hL c l (by simpa using e))
 obtain⟨l,c,e,r,eC,hc,he⟩:=zG C q hn h1 h2 H.inc
 have hs:[e,q,c].Sublist (bQ L):=by
  have i3:Inc [c,q,e]:=by
   exact .cons (λx hx=>(List.mem_cons.mp hx).elim (λe=>e ▸ hc) λh=>List.mem_singleton.mp h ▸ fA hc he) (.cons (λx hx=>List.mem_singleton.mp hx ▸ he) (.cons (λx hx=>by cases hx) .nil))
  have:[c,q,e].Sublist (bQ L).reverse:=by
   refine IJ _ _ i3 inc λx hx=>?_
   rw[List.mem_reverse]
   rcases List.mem_cons.mp hx with rfl | hx
   ·exact k _ (eC ▸ List.mem_append_right _ (.head _))
   ·rcases List.mem_cons.mp hx with rfl | hx
    ·exact hq'
    ·exact k _ (List.mem_singleton.mp hx ▸ eC ▸ List.mem_append_right _ (.tail _ (.head _)))
  simpa using this.reverse
 have t1:=t e q c hs
 have t2:=H.side l c e r eC q hL
 have:aH c e q = - aH c q e:=by unfold aH;grind
 omega
end L2.R2
set_option linter.all false
namespace L2.R2
noncomputable def bP (p:Pt):Pt:=(-p.1,-p.2)
theorem jB (p:Pt):bP (bP p)=p:=by unfold bP;simp
theorem fB (a b c:Pt):aH (bP a) (bP b) (bP c)=aH a b c:=by unfold aH bP;grind
theorem gU {a b:Pt}:ltP (bP a) (bP b)↔ltP b a:=or_congr Int.neg_lt_neg_iff (and_congr (Int.neg_inj.trans eq_comm) Int.neg_lt_neg_iff)
theorem wD (p:Pt):∀s,bI (bP p) (s.map bP)=(bI p s).map bP
 | []=>rfl
 | [_]=>rfl
 | b::a::r=>by
  have ih:=wD p (a::r)
  simp only[List.map_cons] at ih ⊢
  rw[bI,bI,fB]
  split
  ·exact ih
  ·rfl
theorem wW:∀(L s:List Pt),(L.map bP).foldl (λs p=>p::bI p s) (s.map bP)=(L.foldl (λs p=>p::bI p s) s).map bP
 | [],_=>rfl
 | p::L,s=>by
  simp only[List.map_cons,List.foldl_cons]
  rw[wD,<-List.map_cons]
  exact wW L (p::bI p s)
theorem pQ (L:List Pt):bQ (L.map bP)=(bQ L).map bP:=wW L []
theorem kT {L:List Pt} (h:Dec L):Inc (L.map bP):=by
 unfold Inc;rw[List.pairwise_map]
 exact h.imp λk=>gU.mpr k
theorem II {L C:List Pt} (iL:Inc L) (H:LowChain (L.map bP) (C.map bP)) (hne:C≠[]):(bQ L.reverse).reverse=C:=by
 have i1:Inc (L.reverse.map bP):=kT (List.pairwise_reverse.mpr iL)
 have H':LowChain (L.reverse.map bP) (C.map bP):=by
  have m:∀q,q∈L.reverse.map bP↔q∈L.map bP:=by intro q;simp
  exact⟨H.inc,λq h=>(m q).mpr (H.mem q h),λq h=>H.first q ((m q).mp h),λq h=>H.last q ((m q).mp h),λl a b r e q h=>H.side l a b r e q ((m q).mp h),H.bend⟩
 have:=vP i1 H' (by simpa using hne)
 rw[pQ,<-List.map_reverse] at this
 have k:=congrArg (List.map bP) this
 rw[List.map_map,List.map_map] at k
 have e:bP ∘ bP=id:=by funext p;exact jB p
 rwa [e,List.map_id,List.map_id] at k
theorem IT {ax ay vx vy ux uy:Int} (A:LP ax ay) (V:LP vx vy) (U:LP ux uy) (hc:0<ux*vy-uy*vx) (k1:0<=vx*ay-vy*ax) (k2:0<=-(ux*ay-uy*ax)):False:=by
 have S:=zD k2 V (zD k1 U (eQ hc A))
 rw[show (ux*vy-uy*vx)*ax+(vx*ay-vy*ax)*ux + -(ux*ay-uy*ax)*vx=0 by grind,show (ux*vy-uy*vx)*ay+(vx*ay-vy*ax)*uy + -(ux*ay-uy*ax)*vy=0 by grind] at S
 exact KF S
theorem nB {a b c q:Pt} (ba:ltP b a) (bc:ltP b c) (h:0<aH a b c) (h1:0<=aH a b q) (h2:0<=aH b c q):¬ltP q b:=by
 intro hq
 have A:=dN hq;have V:=dN ba;have U:=dN bc
 have hc:0<(c.1-b.1)*(a.2-b.2)-(c.2-b.2)*(a.1-b.1):=by
  have e:aH a b c=(c.1-b.1)*(a.2-b.2)-(c.2-b.2)*(a.1-b.1):=by unfold aH;grind
  rw[<-e];exact h
 have k1:0<=(a.1-b.1)*(b.2-q.2)-(a.2-b.2)*(b.1-q.1):=by
  have e:aH a b q=(a.1-b.1)*(b.2-q.2)-(a.2-b.2)*(b.1-q.1):=by unfold aH;grind
  rw[<-e];exact h1
 have k2:0<=-((c.1-b.1)*(b.2-q.2)-(c.2-b.2)*(b.1-q.1)):=by
  have e:aH b c q = -((c.1-b.1)*(b.2-q.2)-(c.2-b.2)*(b.1-q.1)):=by unfold aH;grind
  rw[<-e];exact h2
 exact IT A V U hc k1 k2
theorem CG {a b c q:Pt} (ab:ltP a b) (cb:ltP c b) (h:0<aH a b c) (h1:0<=aH a b q) (h2:0<=aH b c q):¬ltP b q:=λhq =>
 nB (gU.mpr ab) (gU.mpr cb) (by rw[fB];exact h) (by rw[fB];exact h1) (by rw[fB];exact h2) (gU.mpr hq)
noncomputable def DV (R:List Pt):Prop:=∀l a b c s,R=l++a::b::c::s->¬(ltP b a/\ltP b c)
noncomputable def DX (R:List Pt):Prop:=∀l a b s,R=l++a::b::s->a≠b
theorem vE:∀(s:List Pt) (a b:Pt),ltP b a->DV (a::b::s)->DX (a::b::s)->Dec (a::b::s)
 | [],a,b,h,_,_=>by simp only[Dec,List.pairwise_cons,List.mem_cons,List.not_mem_nil,or_false];exact⟨λx e=>e ▸ h,by simp⟩
 | c::s,a,b,h,nd,nr=>by
  have hc:ltP c b:=by
   rcases gW c b with h' | h' | h'
   ·exact h'
   ·exact absurd h'.symm (nr [a] b c s rfl)
   ·exact absurd ⟨h,h'⟩ (nd [] a b c s rfl)
  have ih:=vE s b c hc (λl x y z w e=>nd (a::l) x y z w (by rw[e];rfl)) (λl x y w e=>nr (a::l) x y w (by rw[e];rfl))
  refine List.pairwise_cons.mpr ⟨λq hq=>?_,ih⟩
  rcases List.mem_cons.mp hq with rfl | hq
  ·exact h
  ·exact fA ((List.pairwise_cons.mp ih).1 q hq) h
theorem vW:∀(R:List Pt),R≠[]->DV R->DX R->∃A m B,R=A++m::B/\Inc (A++[m])/\Dec (m::B)
 | [],h,_,_=>absurd rfl h
 | [x],_,_,_=>⟨[],x,[],rfl,by simp[Inc],by simp[Dec]⟩
 | a::b::s,_,nd,nr=>by
  rcases gW a b with h | h | h
  ·obtain⟨A,m,B,e,i,d⟩:=vW (b::s) (by simp) (λl x y z w e=>nd (a::l) x y z w (by rw[e];rfl)) (λl x y w e=>nr (a::l) x y w (by rw[e];rfl))
   refine⟨a::A,m,B,by rw[e];rfl,?_,d⟩
   refine List.pairwise_cons.mpr ⟨λq hq=>?_,i⟩
   have hb:q=b\/ltP b q:=by
    match A,e,i,hq with
    | [],e,i,hq=>simp at hq;simp at e;exact Or.inl (hq.trans e.1.symm)
    | x::A,e,i,hq =>
     simp at e
     obtain⟨rfl,e⟩:=e
     rcases List.mem_cons.mp hq with rfl | hq
     ·exact Or.inl rfl
     ·exact Or.inr ((List.pairwise_cons.mp i).1 q hq)
   rcases hb with rfl | hb
   ·exact h
   ·exact fA h hb
  ·exact absurd h (nr [] a b s rfl)
  ·exact⟨[],a,b::s,rfl,by simp[Inc],vE s a b h nd nr⟩
structure RingAbout (L:List Pt) (z y:Pt) (t:List Pt):Prop where
 mem:∀q∈z::y::t,q∈L
 least:∀q∈y::t,ltP z q
 side:∀l a b r,(z::y::t)++[z]=l++a::b::r->∀q∈L,0<=aH a b q
 bend:∀l a b c r,(z::y::t)++[z,y]=l++a::b::c::r->0<aH a b c
theorem AT {a b c:Pt} (h:0<aH a b c):a≠b/\b≠c:=by
 constructor <;> rintro rfl <;> unfold aH at h <;> grind
noncomputable def dW (L:List Pt):List Pt:=(bQ L).reverse.dropLast
theorem BR {z b a c:Pt} {T l s:List Pt} (e:(z::T)++[z]=l++a::b::c::s):b∈T:=by
 have h:((z::T)++[z]).dropLast=(l++a::b::c::s).dropLast:=congrArg List.dropLast e
 have h2:(l++a::b::c::s).dropLast=(l++[a])++(b::(c::s).dropLast):=by
  have:l++a::b::c::s=(l++[a,b])++(c::s):=by simp
  rw[this,List.dropLast_append_of_ne_nil (by simp)];simp
 rw[List.dropLast_concat,h2] at h
 cases l with
 | nil=>simp at h;rw[h.2];simp
 | cons l0 l=>simp at h;rw[h.2];simp
theorem CU {L:List Pt} {z y:Pt} {t:List Pt} (iL:Inc L) (H:RingAbout L z y t):dW L++dW L.reverse=z::y::t:=by
 have zlty:ltP z y:=H.least y (by simp)
 have bendR:∀l a b c s,(z::y::t)++[z]=l++a::b::c::s->0<aH a b c:=by
  intro l a b c s e
  refine H.bend l a b c (s++[y]) ?_
  have:(z::y::t)++[z,y]=((z::y::t)++[z])++[y]:=by simp
  rw[this,e];simp
 have rep:DX ((z::y::t)++[z]):=by
  intro l a b s e
  match s with
  | c::s=>exact (AT (bendR l a b c s e)).1
  | [] =>
   have:(z::y::t)++[z,y]=l++a::b::[y]:=by
    have:(z::y::t)++[z,y]=((z::y::t)++[z])++[y]:=by simp
    rw[this,e];simp
   exact (AT (H.bend l a b y [] this)).1
 have memR:∀q∈(z::y::t)++[z],q∈L:=by
  intro q hq
  rcases List.mem_append.mp hq with h | h
  ·exact H.mem q h
  ·simp at h;subst h;exact H.mem _ (by simp)
 have hz:z∈L:=H.mem z (by simp)
 have dip:DV ((z::y::t)++[z]):=by
  intro l a b c s e ⟨h1,h2⟩
  have nb:=nB h1 h2 (bendR l a b c s e) (H.side l a b (c::s) e z hz) (H.side (l++[a]) b c s (by rw[e];simp) z hz)
  exact nb (H.least b (BR e))
 obtain⟨A,m,B,e,iA,dB⟩:=vW _ (by simp) dip rep
 have hA:∃A',A=z::A':=by
  match A,e with
  | [],e =>
   exfalso
   simp at e
   obtain⟨rfl,e5⟩:=e
   have hy:y∈B:=by rw[<-e5];simp
   exact gE zlty ((List.pairwise_cons.mp dB).1 y hy)
  | x::A',e=>simp at e;exact⟨A',by rw[e.1]⟩
 obtain⟨A',rfl⟩:=hA
 have hB:∃B',B=B'++[z]:=by
  rcases List.eq_nil_or_concat B with rfl | ⟨B',x,rfl⟩
  ·exfalso
   have e':(z::y::t)++[z]=(z::A')++[m]:=e
   have:=List.append_inj_right' e' rfl
   simp at this
   subst this
   exact jS ((List.pairwise_cons.mp iA).1 z (by simp))
  ·have e':(z::y::t)++[z]=(z::A'++m::B')++[x]:=by rw[e];simp
   have:=List.append_inj_right' e' rfl
   simp at this
   exact⟨B',by rw[this];simp⟩
 obtain⟨B',rfl⟩:=hB
 have e2:(z::y::t)++[z]=(z::A'++m::B')++[z]:=by rw[e];simp
 have er:z::y::t=z::A'++m::B':=List.append_inj_left' e2 rfl
 have minL:∀q∈L,¬ltP q z:=by
  intro q hq
  rcases List.eq_nil_or_concat (y::t) with h | ⟨u,x,hu⟩
  ·simp at h
  ·have e3:(z::y::t)++[z,y]=(z::u)++x::z::y::[]:=by rw[hu];simp
   have hx:ltP z x:=H.least x (by rw[hu];simp)
   exact nB hx zlty (H.bend _ _ _ _ _ e3) (H.side (z::u) x z [] (by rw[hu];simp) q hq) (H.side [] z y (t++[z]) (by simp) q hq)
 have maxL:∀q∈L,¬ltP m q:=by
  intro q hq
  rcases List.eq_nil_or_concat (z::A') with h | ⟨u,x,hu⟩
  ·simp at h
  ·have hxm:ltP x m:=by
    have iA':=iA
    rw[hu] at iA'
    exact (List.pairwise_append.mp iA').2.2 x (by simp) m (by simp)
   match hB':B'++[z],dB with
   | [],_=>simp at hB'
   | c::s,dB =>
    have e3:(z::y::t)++[z]=u++x::m::c::s:=by rw[e,<-hB',hu];simp
    have hcm:ltP c m:=by
     exact (List.pairwise_cons.mp dB).1 c (by simp)
    exact CG hxm hcm (bendR _ _ _ _ _ e3) (H.side _ _ _ _ e3 q hq) (H.side (u++[x]) m c s (by rw[e3];simp) q hq)
 have low:LowChain L (z::A'++[m]):=by
  refine⟨iA,λq hq=>memR q ?_,λq hq c r ec=>?_,λq hq c l ec=>?_,λl a b r ec q hq=>?_,λl a b c r ec=>?_⟩
  ·rw[e];simp at hq ⊢;rcases hq with h | h | h <;> simp[h]
  ·simp at ec;rw[<-ec.1];exact minL q hq
  ·have:=List.append_inj_right' ec rfl
   simp at this;rw[<-this];exact maxL q hq
  ·refine H.side l a b (r++(B'++[z])) ?_ q hq
   have:z::A'++m::(B'++[z])=(z::A'++[m])++(B'++[z]):=by simp
   rw[e,this,ec];simp
  ·refine bendR l a b c (r++(B'++[z])) ?_
   have:z::A'++m::(B'++[z])=(z::A'++[m])++(B'++[z]):=by simp
   rw[e,this,ec];simp
 have negmem:∀q∈L.map bP,∃p∈L,q=bP p:=by
  intro q hq
  obtain⟨p,hp,rfl⟩:=List.mem_map.mp hq
  exact⟨p,hp,rfl⟩
 have eN:∀(X Y:List Pt),X.map bP=Y->X=Y.map bP:=by
  rintro X Y rfl
  rw[List.map_map]
  have e:bP ∘ bP=id:=by funext p;exact jB p
  rw[e,List.map_id]
 have up:LowChain (L.map bP) ((m::(B'++[z])).map bP):=by
  refine⟨kT dB,λq hq=>?_,λq hq c r ec=>?_,λq hq c l ec=>?_,λl a b r ec q hq=>?_,λl a b c r ec=>?_⟩
  ·obtain⟨p,hp,rfl⟩:=List.mem_map.mp hq
   refine List.mem_map_of_mem (memR p ?_)
   rw[e]
   exact List.mem_append_right _ hp
  ·obtain⟨p,hp,rfl⟩:=negmem q hq
   simp at ec
   rw[<-ec.1,gU]
   exact maxL p hp
  ·obtain⟨p,hp,rfl⟩:=negmem q hq
   have ec':(m::B').map bP++[bP z]=l++[c]:=by simpa using ec
   have:=List.append_inj_right' ec' rfl
   simp at this
   rw[<-this,gU]
   exact minL p hp
  ·obtain⟨p,hp,rfl⟩:=negmem q hq
   have ec':=eN _ _ ec
   simp only[List.map_append,List.map_cons] at ec'
   have:=H.side (z::A'++l.map bP) (bP a) (bP b) (r.map bP) (by rw[e,ec'];simp) p hp
   rw[<-fB,jB,jB] at this
   exact this
  ·have ec':=eN _ _ ec
   simp only[List.map_append,List.map_cons] at ec'
   have:=bendR (z::A'++l.map bP) (bP a) (bP b) (bP c) (r.map bP) (by rw[e,ec'];simp)
   rw[fB] at this
   exact this
 have h1:=vP iL low (by simp)
 have h2:=II iL up (by simp)
 unfold dW
 rw[h1,h2,er]
 have:m::(B'++[z])=(m::B')++[z]:=by simp
 rw[this,List.dropLast_concat,List.dropLast_concat]
end L2.R2
set_option linter.all false
namespace L2.R2
noncomputable def xF (L:List Pt):Prop:=L.Pairwise λx y=>¬ltP y x
theorem sO (p:Pt):∀s,bI p (bI p s)=bI p s
 | []=>rfl
 | [_]=>rfl
 | b::a::r=>by
  by_cases h:aH a b p<=0
  ·rw[bI,if_pos h];exact sO p (a::r)
  ·have e:bI p (b::a::r)=b::a::r:=by rw[bI,if_neg h]
   rw[e,e]
theorem DH (a p:Pt):aH a p p<=0:=by
 unfold aH
 have:(p.1-a.1)*(p.2-a.2)-(p.2-a.2)*(p.1-a.1)=0:=by grind
 omega
theorem qN (a p:Pt):aH a a p<=0:=by
 unfold aH
 have:(a.1-a.1)*(p.2-a.2)-(a.2-a.2)*(p.1-a.1)=0:=by grind
 omega
theorem dX (L:List Pt) (p:Pt):bQ (L++[p])=p::bI p (bQ L):=by unfold bQ;rw[List.foldl_append];rfl
theorem FN:∀(L:List Pt),(bQ L).length<=L.length:=by
 have sub:∀(L s:List Pt),(L.foldl (λs p=>p::bI p s) s).length<=L.length+s.length:=by
  intro L
  induction L with
  | nil=>intro s;simp
  | cons y L ih =>
   intro s
   have i2:=ih (y::bI y s)
   have:=(fF y s).length_le
   simp only[List.foldl_cons,List.length_cons] at i2 ⊢
   omega
 intro L;simpa [bQ] using sub L []
structure DupOk (L D:List Pt):Prop where
 inc:Inc D
 mem:∀z,z∈D↔z∈L
 many:2<=D.length->bQ L=bQ D
 one:∀c,D=[c]->bQ L=[c]\/bQ L=[c,c]
 none:D=[]->bQ L=[]
theorem JQ {α:Type} {P:List α->Prop} (h0:P []) (h1:∀l x,P l->P (l++[x])):∀l,P l:=by
 intro l
 have:∀m:List α,P m.reverse:=by
  intro m
  induction m with
  | nil=>exact h0
  | cons x m ih=>rw[List.reverse_cons];exact h1 _ _ ih
 have:=this l.reverse
 rwa [List.reverse_reverse] at this
theorem FI:∀(L:List Pt),xF L->∃D,DupOk L D:=by
 refine JQ ?_ ?_
 ·intro _
  exact⟨[],List.Pairwise.nil,λz=>Iff.rfl,λh=>absurd h (by simp),λc h=>by simp at h,λ_=>rfl⟩
 ·intro L p ih hw
  have hw':=List.pairwise_append.mp hw
  obtain⟨D,H⟩:=ih hw'.1
  have top:∀z∈L,¬ltP p z:=λz hz=>hw'.2.2 z hz p (by simp)
  rcases List.eq_nil_or_concat D with hD | ⟨D',c,hD⟩
  ·-- nothing so far
   have hL:L=[]:=by
    apply List.eq_nil_iff_forall_not_mem.mpr
    intro z hz
    have:=(H.mem z).mpr hz
    rw[hD] at this;cases this
   subst hL
   refine⟨[p],by simp[Inc],λz=>by simp,λh=>absurd h (by simp),λc h=>?_,λh=>by simp at h⟩
   simp at h;subst h
   exact Or.inl rfl
  ·have hD:D=D'++[c]:=by simpa using hD
   subst hD
   have hcL:c∈L:=(H.mem c).mp (by simp)
   have cl:∀z∈D'++[c],z=c\/ltP z c:=by
    intro z hz
    rcases List.mem_append.mp hz with h | h
    ·exact Or.inr ((List.pairwise_append.mp H.inc).2.2 z h c (by simp))
    ·exact Or.inl (by simpa using h)
   by_cases hpc:p=c
   ·subst hpc
    refine⟨D'++[p],H.inc,λz=>?_,λh2=>?_,λc hc=>?_,λh=>by simp at h⟩
    ·rw[H.mem z];simp only[List.mem_append,List.mem_singleton]
     exact⟨Or.inl,λh=>h.elim id λe=>e ▸ hcL⟩
    ·rw[dX,H.many h2,dX]
     have hne:bQ D'≠[]:=by
      rcases List.eq_nil_or_concat D' with h | ⟨D'',d,h⟩
      ·rw[h] at h2;simp at h2
      ·have:D'=D''++[d]:=by simpa using h
       rw[this,dX];simp
     have hne2:=AM p _ hne
     generalize hu:bI p (bQ D')=u at hne2
     cases u with
     | nil=>exact absurd rfl hne2
     | cons a r =>
      rw[bI,if_pos (DH a p)]
      congr 1
      rw[<-hu,sO]
    ·have hD':D'=[]/\p=c:=by
      cases D' with
      | nil=>simp at hc;exact⟨rfl,hc⟩
      | cons x D'=>simp at hc
     obtain⟨rfl,rfl⟩:=hD'
     rw[dX]
     rcases H.one p rfl with e | e
     ·rw[e];exact Or.inr rfl
     ·rw[e,bI,if_pos (qN p p)];exact Or.inr rfl
   ·have ltcp:ltP c p:=by
     rcases gW c p with h | h | h
     ·exact h
     ·exact absurd h.symm hpc
     ·exact absurd h (top c hcL)
    have inc2:Inc ((D'++[c])++[p]):=by
     refine List.pairwise_append.mpr ⟨H.inc,by simp,λz hz w hw=>?_⟩
     have:w=p:=by simpa using hw
     subst this
     rcases cl z hz with rfl | h
     ·exact ltcp
     ·exact fA h ltcp
    refine⟨(D'++[c])++[p],inc2,λz=>?_,λ_=>?_,λd hd=>by have:=congrArg List.length hd;simp at this,λh=>by simp at h⟩
    ·rw[List.mem_append,H.mem z,List.mem_append]
    ·rw[dX,dX (D'++[c])]
     by_cases h2:2<=(D'++[c]).length
     ·rw[H.many h2]
     ·have:D'=[]:=by
       cases D' with
       | nil=>rfl
       | cons x D'=>simp at h2
      subst this
      rcases H.one c rfl with e | e
      ·rw[e];rfl
      ·rw[e,bI,if_pos (qN c p)];rfl
theorem vF {L D:List Pt} (hw:xF L) (iD:Inc D) (hm:∀z,z∈D↔z∈L):(2<=D.length->bQ L=bQ D)/\(D.length<=1->(bQ L).length<=2):=by
 obtain⟨D1,H⟩:=FI L hw
 have:D1=D:=tO _ _ H.inc iD λq=>(H.mem q).trans (hm q).symm
 subst this
 refine⟨H.many,λh=>?_⟩
 match D1,H,h with
 | [],H,_=>rw[H.none rfl];simp
 | [c],H,_=>rcases H.one c rfl with e | e <;> rw[e] <;> simp
 | _::_::_,_,h=>simp at h
noncomputable def iE (L:List Pt):List Pt:=dW L++dW L.reverse
theorem vG {L D:List Pt} (hw:xF L) (iD:Inc D) (hm:∀z,z∈D↔z∈L):(2<=D.length->iE L=iE D)/\(D.length<=1->(iE L).length<3):=by
 have a:=vF hw iD hm
 have wn:xF (L.reverse.map bP):=by
  unfold xF
  rw[List.pairwise_map,List.pairwise_reverse]
  exact hw.imp λh k=>h (gU.mp k)
 have iN:Inc (D.reverse.map bP):=kT (List.pairwise_reverse.mpr iD)
 have b:=vF wn iN λz=>by simp only[List.mem_map,List.mem_reverse];constructor <;> (rintro⟨w,h1,h2⟩;exact⟨w,by first | exact (hm w).mp h1 | exact (hm w).mpr h1,h2⟩)
 rw[pQ,pQ] at b
 simp only[List.length_map,List.length_reverse] at b
 have inj:∀(X Y:List Pt),X.map bP=Y.map bP->X=Y:=by
  intro X Y h
  have:=congrArg (List.map bP) h
  rw[List.map_map,List.map_map] at this
  have e:bP ∘ bP=id:=by funext p;exact jB p
  rwa [e,List.map_id,List.map_id] at this
 constructor
 ·intro h
  unfold iE dW
  rw[a.1 h,inj _ _ (b.1 h)]
 ·intro h
  have h1:=a.2 h
  have h2:=b.2 h
  unfold iE dW
  simp only[List.length_append,List.length_dropLast,List.length_reverse]
  exact Nat.lt_of_le_of_lt (Nat.add_le_add (Nat.sub_le_sub_right h1 1) (Nat.sub_le_sub_right h2 1)) (by decide)
end L2.R2
set_option linter.all false
namespace L2.R2
noncomputable def Nxt (L:List Pt) (a b:Pt):Prop:=∃l r,L=l++a::b::r
theorem Nxt.cons {L:List Pt} {a b:Pt} (x:Pt) (h:Nxt L a b):Nxt (x::L) a b:=by
 obtain⟨l,r,rfl⟩:=h;exact⟨x::l,r,rfl⟩
theorem Nxt.left {A:List Pt} {a b:Pt} (B:List Pt) (h:Nxt A a b):Nxt (A++B) a b:=by
 obtain⟨l,r,rfl⟩:=h;exact⟨l,r++B,by simp⟩
theorem Nxt.right {B:List Pt} {a b:Pt} (A:List Pt) (h:Nxt B a b):Nxt (A++B) a b:=by
 obtain⟨l,r,rfl⟩:=h;exact⟨A++l,r,by simp⟩
theorem gZ:∀(A B:List Pt) (a b:Pt),Nxt (A++B) a b->Nxt A a b\/((∃A',A=A'++[a])/\∃B',B=b::B')\/Nxt B a b
 | [],B,a,b,h=>Or.inr (Or.inr h)
 | [x],B,a,b,⟨l,r,e⟩=>by
  cases l with
  | nil =>
   simp at e
   obtain⟨rfl,e⟩:=e
   exact Or.inr (Or.inl ⟨⟨[],rfl⟩,r,e⟩)
  | cons y l=>simp at e;exact Or.inr (Or.inr ⟨l,r,e.2⟩)
 | x::y::A,B,a,b,⟨l,r,e⟩=>by
  cases l with
  | nil =>
   simp at e
   obtain⟨rfl,rfl,e⟩:=e
   exact Or.inl ⟨[],A,rfl⟩
  | cons u l =>
   simp at e
   obtain⟨rfl,e⟩:=e
   rcases gZ (y::A) B a b ⟨l,r,by simpa using e⟩ with h | ⟨⟨A',h1⟩,h2⟩ | h
   ·exact Or.inl (h.cons x)
   ·exact Or.inr (Or.inl ⟨⟨x::A',by rw[h1];rfl⟩,h2⟩)
   ·exact Or.inr (Or.inr h)
theorem AK {f:Pt->Pt} {L:List Pt} {a b:Pt} (h:Nxt (L.map f) a b):∃x y,Nxt L x y/\a=f x/\b=f y:=by
 obtain⟨l,r,e⟩:=h
 obtain⟨l1,l2,rfl,rfl,e2⟩:=List.map_eq_append_iff.mp e
 obtain⟨x,l3,rfl,rfl,e3⟩:=List.map_eq_cons_iff.mp e2
 obtain⟨y,l4,rfl,rfl,e4⟩:=List.map_eq_cons_iff.mp e3
 exact⟨x,y,⟨l1,l4,rfl⟩,rfl,rfl⟩
theorem Nxt.mem {L:List Pt} {a b:Pt} (h:Nxt L a b):a∈L/\b∈L:=by
 obtain⟨l,r,rfl⟩:=h;simp
noncomputable def Cyc (cs:List Pt) (a b:Pt):Prop:=Nxt (cs++cs.take 1) a b
structure Cvx (cs:List Pt):Prop where
 len:3<=cs.length
 nodup:cs.Nodup
 strict:∀a b,Cyc cs a b->∀q∈cs,q≠a->q≠b->0<aH a b q
theorem HG (a b:Pt):aH a b a=0:=by unfold aH;grind
theorem HH (a b:Pt):aH a b b=0:=by unfold aH;grind
theorem Cvx.side {cs:List Pt} (h:Cvx cs) {a b:Pt} (hab:Cyc cs a b) {q:Pt} (hq:q∈cs):0<=aH a b q:=by
 by_cases h1:q=a
 ·subst h1;rw[HG];decide
 ·by_cases h2:q=b
  ·subst h2;rw[HH];decide
  ·exact Int.le_of_lt (h.strict a b hab q hq h1 h2)
theorem Cvx.map {cs:List Pt} (h:Cvx cs) {f:Pt->Pt} {k:Int} (hk:0<k) (hf:∀a b c,aH (f a) (f b) (f c)=k*aH a b c) (inj:∀a b,f a=f b->a=b):Cvx (cs.map f):=by
 refine⟨by simpa using h.len,?_,λa b hab q hq n1 n2=>?_⟩
 ·exact List.Pairwise.map f (λa b hn e=>hn (inj a b e)) h.nodup
 ·unfold Cyc at hab
  rw[<-List.map_take,<-List.map_append] at hab
  obtain⟨x,y,hxy,rfl,rfl⟩:=AK hab
  obtain⟨p,hp,rfl⟩:=List.mem_map.mp hq
  rw[hf]
  exact Int.mul_pos hk (h.strict x y hxy p hp (λe=>n1 (by rw[e])) λe=>n2 (by rw[e]))
theorem EK {X Y:List Pt} {a b:Pt} (h:Cyc (Y++X) a b):Cyc (X++Y) a b:=by
 unfold Cyc at *
 cases Y with
 | nil=>simpa using h
 | cons y Y =>
  cases X with
  | nil=>simpa using h
  | cons x X =>
   simp only[List.cons_append,List.take_succ_cons,List.take_zero] at h ⊢
   have e:y::(Y++x::X++[y])=(y::Y)++((x::X)++[y]):=by simp
   rw[e] at h
   have goal1:∀{a b},Nxt ((x::X)++[y]) a b->Nxt (x::(X++y::Y++[x])) a b:=by
    intro a b h
    have:=h.left (Y++[x])
    simpa using this
   have goal2:∀{a b},Nxt ((y::Y)++[x]) a b->Nxt (x::(X++y::Y++[x])) a b:=by
    intro a b h
    have:=h.right (x::X)
    simpa using this
   rcases gZ _ _ a b h with h | ⟨⟨A',h1⟩,B',h2⟩ | h
   ·exact goal2 (h.left _)
   ·simp at h2
    refine goal2 ?_
    rw[h1,<-h2.1]
    exact⟨A',[],by simp⟩
   ·exact goal1 h
theorem Cvx.swap {X Y:List Pt} (h:Cvx (X++Y)):Cvx (Y++X):=by
 refine⟨by have:=h.len;simp at this ⊢;omega,?_,λa b hab q hq=>h.strict a b (EK hab) q (by simp at hq ⊢;exact hq.symm)⟩
 have:=h.nodup
 rw[List.nodup_append] at this ⊢
 exact⟨this.2.1,this.1,λa ha b hb e=>this.2.2 b hb a ha e.symm⟩
theorem Cyc.mem {cs:List Pt} {a b:Pt} (h:Cyc cs a b):a∈cs/\b∈cs:=by
 have k:∀x,x∈cs++cs.take 1->x∈cs:=λx hx=>(List.mem_append.mp hx).elim id List.mem_of_mem_take
 exact⟨k a (Nxt.mem h).1,k b (Nxt.mem h).2⟩
theorem AF {α:Type} [DecidableEq α]:∀(l m:List α),l.Nodup->(∀x∈l,x∈m)->l.length<=m.length
 | [],_,_,_=>Nat.zero_le _
 | x::l,m,hn,hs=>by
  have hx:=hs x (.head _)
  have hn':=List.nodup_cons.mp hn
  have:=AF l (m.erase x) hn'.2 λy hy=>(List.mem_erase_of_ne λ(e:y=x)=>hn'.1 (e ▸ hy)).mpr (hs y (.tail _ hy))
  rw[List.length_erase_of_mem hx] at this
  exact Nat.le_trans (Nat.succ_le_succ this) (Nat.le_of_eq (Nat.succ_pred_eq_of_pos (List.length_pos_of_mem hx)))
theorem Cvx.third {cs:List Pt} (c:Cvx cs) (u v:Pt):∃w∈cs,w≠u/\w≠v:=by
 apply Classical.byContradiction
 intro hn
 have:=AF cs [u,v] c.nodup λw hw=>by
  by_cases h1:w=u
  ·exact h1 ▸ .head _
  ·by_cases h2:w=v
   ·exact h2 ▸ .tail _ (.head _)
   ·exact absurd ⟨w,hw,h1,h2⟩ hn
 exact absurd (Nat.le_trans c.len this) (show ¬ 3<=2 by decide)
theorem Cvx.ne {cs:List Pt} (c:Cvx cs) {u v:Pt} (h:Cyc cs u v):u≠v:=by
 obtain⟨w,hw,n1,n2⟩:=c.third u v
 rintro rfl
 have:=c.strict u u h w hw n1 n2
 rw[show aH u u w=0 by unfold aH;grind] at this
 exact Int.lt_irrefl _ this
theorem IY {cs:List Pt} (c:Cvx cs) {u v:Pt} (h:Cyc cs u v) (h':Cyc cs v u):False:=by
 obtain⟨w,hw,w1,w2⟩:=c.third u v
 have t1:=c.strict _ _ h w hw w1 w2
 rw[show aH u v w = - aH v u w by unfold aH;grind] at t1
 exact Int.lt_asymm (c.strict _ _ h' w hw w2 w1) (Int.neg_pos.mp t1)
theorem Cvx.bend {R:List Pt} (h:Cvx R) {l r:List Pt} {a b c:Pt} (e:R++R.take 2=l++a::b::c::r):0<aH a b c:=by
 obtain⟨x,y,R',eR⟩:∃x y R',R=x::y::R':=by
  match R,h.len with
  | x::y::R',_=>exact⟨x,y,R',rfl⟩
 have t1:R.take 1=[x]:=by rw[eR];rfl
 have t2:R++R.take 2=(R++R.take 1)++[y]:=by rw[t1,List.append_assoc,eR];rfl
 rw[t2] at e
 have ⟨ab,bc⟩:Cyc R a b/\Cyc R b c:=by
  rcases List.eq_nil_or_concat r with rfl | ⟨r',w,rfl⟩
  ·have e':(R++R.take 1)++[y]=(l++[a,b])++[c]:=by rw[e,List.append_assoc];rfl
   have k:=List.append_inj_left' e' rfl
   have ec:=List.append_inj_right' e' rfl
   injection ec with ec _
   refine⟨⟨l,[],k⟩,?_⟩
   have k':R++[x]=(l++[a])++[b]:=by rw[<-t1,k,List.append_assoc];rfl
   have eb:=List.append_inj_right' k' rfl
   injection eb with eb _
   rw[<-eb,<-ec]
   exact⟨[],R'++[x],by rw[t1,eR];rfl⟩
  ·have e':(R++R.take 1)++[y]=(l++a::b::c::r')++[w]:=by rw[e,List.append_assoc,List.concat_eq_append];rfl
   have k:=List.append_inj_left' e' rfl
   exact⟨⟨l,c::r',k⟩,l++[a],r',by rw[k,List.append_assoc];rfl⟩
 exact h.strict a b ab c bc.mem.2 (λhc=>IY h ab (hc ▸ bc)) λhc=>h.ne bc hc.symm
theorem uE {L D:List Pt} {z:Pt} {T:List Pt} (iD:Inc D) (h:Cvx (z::T)) (least:∀q∈T,¬ltP q z) (mem:∀q∈z::T,q∈D) (left:∀a b,Cyc (z::T) a b->∀q∈D,0<=aH a b q):iE D=z::T:=by
 obtain⟨y,t,rfl⟩:∃y t,T=y::t:=by
  have:=h.len
  cases T with
  | nil=>simp at this
  | cons y t=>exact⟨y,t,rfl⟩
 refine CU iD ⟨mem,λq hq=>?_,λl a b r e=>left a b ⟨l,r,e⟩,λl a b c r e=>h.bend (l:=l) (r:=r) e⟩
 rcases gW z q with h' | h' | h'
 ·exact h'
 ·subst h';exact absurd hq (List.nodup_cons.mp h.nodup).1
 ·exact absurd h' (least q hq)
end L2.R2
set_option Elab.async false
set_option linter.all false
set_option maxRecDepth 100000
namespace L2.R2
open PySem PySem.Spec PyProof.Rows L2
inductive D where
 | non | bl (b:Bool) | int (i:Int) | str (x:Str) | tup (xs:List D) | lst (xs:List D) | dct (ks:List Int) (xs:List D)
noncomputable def FzL (K:PySem.W.Frag) (H:Hp) (a:Addr) (vs:List V):Prop :=
 (∃o,H a=some (.frz o (.lst vs))) \/
  ∃(o:Obj) (its:Array Value) (n:Nat),K.lookup a=some o/\o.cls = .type "list"/\o.dict=none/\o.data = .seq its n/\its.size<=sizeLine/\Vals vs its.toList
theorem FzL.sq {K:PySem.W.Frag} {H:Hp} {a:Addr} {vs:List V}:FzL K H a vs->SqL K H a vs
 | .inl ⟨o,h⟩=>.inl (.inr ⟨o,h⟩)
 | .inr h=>.inr h
structure Keep (H H':Hp):Prop where
 tups:∀b xs,H b=some (.tup xs)->H' b=some (.tup xs)
 frzs:∀b o u,H b=some (.frz o u)->H' b=some (.frz o u)
 exts:∀b φ,H b=some (.ext φ)->H' b=some (.ext φ)
 xds:∀b fs,H b=some (.xd fs)->H' b=some (.xd fs)
theorem Keep.refl (H:Hp):Keep H H:=⟨λ_ _ h=>h,λ_ _ _ h=>h,λ_ _ h=>h,λ_ _ h=>h⟩
theorem Keep.trans {H H1 H2:Hp} (a:Keep H H1) (b:Keep H1 H2):Keep H H2 :=
 ⟨λc xs h=>b.tups c xs (a.tups c xs h),λc o u h=>b.frzs c o u (a.frzs c o u h),λc φ h=>b.exts c φ (a.exts c φ h),λc fs h=>b.xds c fs (a.xds c fs h)⟩
theorem Keep.of {H H':Hp} (s:Same H H'):Keep H H':=⟨λb xs h=>s b _ h,λb o u h=>s b _ h,λb φ h=>s b _ h,λb fs h=>s b _ h⟩
noncomputable def lY (ks:List Int) (vs:List V):List (Key × V):=List.zipWith (λk v=>(Sum.inl k,v)) ks vs
mutual
inductive Rep (K:PySem.W.Frag) (H:Hp):D->V->Prop
 | non:Rep K H .non .non
 | bl (b:Bool):Rep K H (.bl b) (.bl b)
 | int (i:Int):Rep K H (.int i) (.int i)
 | str (x:Str):Rep K H (.str x) (.str x)
 | tup {a:Addr} {vs:List V} {ds:List D} (h:H a=some (.tup vs)) (r:Reps K H ds vs):Rep K H (.tup ds) (.ref a)
 | lst {a:Addr} {vs:List V} {ds:List D} (h:FzL K H a vs) (r:Reps K H ds vs):Rep K H (.lst ds) (.ref a)
 | dct {a:Addr} {vs:List V} {ds:List D} {ks:List Int} {o:Obj} (h:H a=some (.frz o (.dK (lY ks vs)))) (hl:ks.length=vs.length) (r:Reps K H ds vs):Rep K H (.dct ks ds) (.ref a)
inductive Reps (K:PySem.W.Frag) (H:Hp):List D->List V->Prop
 | nil:Reps K H [] []
 | cons {d:D} {v:V} {ds:List D} {vs:List V} (h:Rep K H d v) (t:Reps K H ds vs):Reps K H (d::ds) (v::vs)
end
section
variable {K:PySem.W.Frag} {H H':Hp}
theorem FzL.keep {a:Addr} {vs:List V} (k:Keep H H') (h:FzL K H a vs):FzL K H' a vs:=by
 rcases h with ⟨o,h⟩ | h
 ·exact .inl ⟨o,k.frzs _ _ _ h⟩
 ·exact .inr h
mutual
theorem Rep.keep (k:Keep H H'):∀{d:D} {v:V},Rep K H d v->Rep K H' d v
 | _,_,.non=>.non
 | _,_,.bl b=>.bl b
 | _,_,.int i=>.int i
 | _,_,.str x=>.str x
 | _,_,.tup h r=>.tup (k.tups _ _ h) (Reps.keep k r)
 | _,_,.lst h r=>.lst (FzL.keep k h) (Reps.keep k r)
 | _,_,.dct h hl r=>.dct (k.frzs _ _ _ h) hl (Reps.keep k r)
theorem Reps.keep (k:Keep H H'):∀{ds:List D} {vs:List V},Reps K H ds vs->Reps K H' ds vs
 | _,_,.nil=>.nil
 | _,_,.cons h t=>.cons (Rep.keep k h) (Reps.keep k t)
end
theorem Reps.length:∀{ds:List D} {vs:List V},Reps K H ds vs->ds.length=vs.length
 | _,_,.nil=>rfl
 | _,_,.cons _ t=>by simp[Reps.length t]
theorem Reps.get:∀{ds:List D} {vs:List V} {i:Nat} {d:D},Reps K H ds vs->ds[i]? = some d->∃v,vs[i]? = some v/\Rep K H d v
 | _,_,_,_,.nil,e=>by simp at e
 | _,_,0,_,.cons h _,e=>by simp at e;subst e;exact⟨_,rfl,h⟩
 | _,_,i+1,d,.cons _ t,e=>by
  obtain⟨v,h1,h2⟩:=Reps.get (i:=i) (d:=d) t (by simpa using e)
  exact⟨v,by simpa using h1,h2⟩
theorem Reps.append:∀{ds es:List D} {vs us:List V},Reps K H ds vs->Reps K H es us->Reps K H (ds++es) (vs++us)
 | _,_,_,_,.nil,s=>s
 | _,_,_,_,.cons h t,s=>.cons h (Reps.append t s)
theorem Reps.take:∀{ds:List D} {vs:List V} (n:Nat),Reps K H ds vs->Reps K H (ds.take n) (vs.take n)
 | _,_,0,_=>.nil
 | _,_,_+1,.nil=>.nil
 | _,_,n+1,.cons r t=>.cons r (Reps.take n t)
theorem Reps.drop:∀{ds:List D} {vs:List V} (n:Nat),Reps K H ds vs->Reps K H (ds.drop n) (vs.drop n)
 | _,_,0,r=>r
 | _,_,_+1,.nil=>.nil
 | _,_,n+1,.cons _ t=>Reps.drop n t
theorem Reps.set {d:D} {v:V} (r:Rep K H d v):∀{ds:List D} {vs:List V} (i:Nat),Reps K H ds vs->Reps K H (ds.set i d) (vs.set i v)
 | _,_,_,.nil=>.nil
 | _,_,0,.cons _ t=>.cons r t
 | _,_,i+1,.cons q t=>.cons q (Reps.set r i t)
theorem Reps.dropLast:∀{ds:List D} {vs:List V},Reps K H ds vs->Reps K H ds.dropLast vs.dropLast
 | _,_,.nil=>.nil
 | _,_,.cons _ .nil=>.nil
 | _,_,.cons r (.cons r2 t)=>by
  simp only[List.dropLast]
  exact .cons r (Reps.dropLast (.cons r2 t))
theorem Reps.reverse:∀{ds:List D} {vs:List V},Reps K H ds vs->Reps K H ds.reverse vs.reverse
 | _,_,.nil=>.nil
 | _,_,.cons r t=>by
  simp only[List.reverse_cons]
  exact (Reps.reverse t).append (.cons r .nil)
theorem Rep.int_inv {i:Int} {v:V} (h:Rep K H (.int i) v):v = .int i:=by cases h;rfl
theorem Rep.bl_inv {b:Bool} {v:V} (h:Rep K H (.bl b) v):v = .bl b:=by cases h;rfl
theorem Reps.ints:∀{ns:List Int},Reps K H (ns.map D.int) (ns.map V.int)
 | []=>.nil
 | _::_=>.cons (.int _) Reps.ints
theorem Reps.ints_inv:∀{ns:List Int} {vs:List V},Reps K H (ns.map D.int) vs->vs=ns.map V.int
 | [],_,h=>by cases h;rfl
 | n::ns,_,h=>by
  cases h with
  | cons h t=>rw[h.int_inv,Reps.ints_inv t];rfl
end
noncomputable def RepB (K:PySem.W.Frag) (H:Hp) (d:D) (v:V):Prop :=
 Rep K H d v\/∃ds a vs,d = .lst ds/\v = .ref a/\H a=some (.lst vs)/\Reps K H ds vs
theorem RepB.same {K:PySem.W.Frag} {H H':Hp} {d:D} {v:V} (s:Same H H') (h:RepB K H d v):RepB K H' d v:=by
 rcases h with h | ⟨ds,a,vs,e1,e2,e3,r⟩
 ·exact .inl (h.keep (.of s))
 ·exact .inr ⟨ds,a,vs,e1,e2,s _ _ e3,r.keep (.of s)⟩
theorem RepB.lst {K:PySem.W.Frag} {H:Hp} {ds:List D} {v:V} (h:RepB K H (.lst ds) v):∃a vs,v = .ref a/\SqL K H a vs/\Reps K H ds vs:=by
 rcases h with h | ⟨ds',a,vs,e1,e2,e3,r⟩
 ·cases h with
  | lst h r=>exact⟨_,_,rfl,h.sq,r⟩
 ·cases e1;exact⟨a,vs,e2,SqL.of e3,r⟩
theorem RepB.tup {K:PySem.W.Frag} {H:Hp} {ds:List D} {v:V} (h:RepB K H (.tup ds) v):∃a vs,v = .ref a/\H a=some (.tup vs)/\Reps K H ds vs:=by
 rcases h with h | ⟨ds',a,vs,e1,e2,e3,r⟩
 ·cases h with
  | tup h r=>exact⟨_,_,rfl,h,r⟩
 ·cases e1
inductive S where
 | d (x:D) | own (xs:List D) | dcl (kvs:List (Int × List D)) | box (t:Bool) (xss:List (List D)) | exc (C:Addr) (y:Str) (c:Int)
noncomputable def S.val:S->D
 | .d x=>x
 | .own xs=>.lst xs
 | .dcl _=>.non
 | .box _ _=>.non
 | .exc _ _ _=>.non
noncomputable abbrev En:=List (Option S)
inductive Dcl (K:PySem.W.Frag) (H₀ H:Hp):List (Int × List D)->List (Key × V)->List Addr->Prop
 | nil:Dcl K H₀ H [] [] []
 | cons {k:Int} {b:Addr} {vs:List V} {ds:List D} {kvs:List (Int × List D)} {kws:List (Key × V)} {as:List Addr} (h:H b=some (.lst vs)) (h0:H₀ b=none) (r:Reps K H ds vs) (n:b ∉ as) (t:Dcl K H₀ H kvs kws as) :
   Dcl K H₀ H ((k,ds)::kvs) ((Sum.inl k,.ref b)::kws) (b::as)
noncomputable abbrev HP (C e dx:Addr):HO:=.ext λh=>∃oe vs,h.get? e=some oe/\oe.cls = .ref C/\oe.data = .fields vs/\oe.dict=some dx
noncomputable def RelS (K:PySem.W.Frag) (H₀ H:Hp):S->V->Prop
 | .exc C y c,v=>∃e dx,v = .ref e/\H e=some (HP C e dx)/\H dx=some (.xd [(y,.int c)])
 | .d x,v=>Rep K H x v
 | .own xs,v=>∃a vs,v = .ref a/\H a=some (.lst vs)/\H₀ a=none/\Reps K H xs vs
 | .dcl kvs,v=>∃a kws as,v = .ref a/\H a=some (.dK kws)/\H₀ a=none/\Dcl K H₀ H kvs kws as
 | .box false xss,v=>∃a kws as,v = .ref a/\H a=some (.lst (as.map V.ref))/\H₀ a=none/\a ∉ as/\Dcl K H₀ H (xss.map λx=>(0,x)) kws as
 | .box true xss,v=>∃a kws as,v = .ref a/\H a=some (.tup (as.map V.ref))/\Dcl K H₀ H (xss.map λx=>(0,x)) kws as
noncomputable def Ow (H:Hp):S->V->Addr->Prop
 | .exc _ _ _,_,_=>False
 | .d _,_,_=>False
 | .own _,v,a=>v = .ref a
 | .dcl _,v,a=>∃p kws,v = .ref p/\H p=some (.dK kws)/\(a=p\/∃k,(k,V.ref a)∈kws)
 | .box false _,v,a=>∃p vs,v = .ref p/\H p=some (.lst vs)/\(a=p\/V.ref a∈vs)
 | .box true _,v,a=>∃p vs,v = .ref p/\H p=some (.tup vs)/\V.ref a∈vs
structure StOk (X:Cx) (ρ:En) (σ:St) (H:Hp):Prop where
 len:ρ.length=σ.length
 same:Same X.H₀ H
 rel:∀(i:Nat) (x:S),ρ[i]? = some (some x)->∃v,σ[i]? = some (some v)/\RelS X.K X.H₀ H x v
 sep:∀(i j:Nat) (x y:S) (v u:V) (a:Addr),ρ[i]? = some (some x)->ρ[j]? = some (some y)->σ[i]? = some (some v)->σ[j]? = some (some u)->Ow H x v a->Ow H y u a->i=j
section
variable {K:PySem.W.Frag} {H₀ H H':Hp}
theorem Dcl.keep {kvs:List (Int × List D)} {kws:List (Key × V)} {as:List Addr} (k:Keep H H') (t:Dcl K H₀ H kvs kws as) (w:∀a∈as,∀o,H a=some o->H' a=some o):Dcl K H₀ H' kvs kws as:=by
 induction t with
 | nil=>exact .nil
 | cons h h0 r n t ih=>exact .cons (w _ (.head _) _ h) h0 (r.keep k) n (ih λa m=>w a (.tail _ m))
theorem Dcl.mem {kvs:List (Int × List D)} {kws:List (Key × V)} {as:List Addr} {a:Addr} (t:Dcl K H₀ H kvs kws as):a∈as↔∃k,(k,V.ref a)∈kws:=by
 induction t with
 | nil=>simp
 | cons h h0 r n t ih =>
  rw[List.mem_cons,ih]
  constructor
  ·rintro (rfl | ⟨k,e⟩)
   ·exact⟨_,.head _⟩
   ·exact⟨k,.tail _ e⟩
  ·rintro⟨k,e⟩
   rcases List.mem_cons.mp e with e | e
   ·cases e;exact .inl rfl
   ·exact .inr ⟨k,e⟩
theorem Dcl.at {kvs:List (Int × List D)} {kws:List (Key × V)} {as:List Addr} {a:Addr} (t:Dcl K H₀ H kvs kws as) (m:a∈as):H₀ a=none/\∃vs,H a=some (.lst vs):=by
 induction t with
 | nil=>cases m
 | cons h h0 r n t ih =>
  rcases List.mem_cons.mp m with rfl | m
  ·exact⟨h0,_,h⟩
  ·exact ih m
theorem kW:∀{ks:List Int} {vs:List V},ks.length=vs.length->(lY ks vs).map (·.2)=vs
 | [],[],_=>rfl
 | [],_::_,h=>by cases h
 | _::_,[],h=>by cases h
 | k::ks,v::vs,h=>by
  show v::(lY ks vs).map (·.2)=v::vs
  rw[kW (by simpa using h)]
theorem Dcl.refs {kvs:List (Int × List D)} {kws:List (Key × V)} {as:List Addr} (t:Dcl K H₀ H kvs kws as):kws.map (·.2)=as.map V.ref:=by
 induction t with
 | nil=>rfl
 | cons h h0 r n t ih=>rw[List.map_cons,List.map_cons,ih]
theorem Ow.at {x:S} {v:V} {a:Addr} (r:RelS K H₀ H x v) (w:Ow H x v a):H₀ a=none/\((∃vs,H a=some (.lst vs))\/∃kws,H a=some (.dK kws)):=by
 cases x with
 | d x=>exact w.elim
 | exc C y c=>exact w.elim
 | own xs =>
  obtain⟨b,vs,rfl,h,h0,_⟩:=r
  cases w;exact⟨h0,.inl ⟨vs,h⟩⟩
 | dcl kvs =>
  obtain⟨b,kws,as,rfl,h,h0,t⟩:=r
  obtain⟨p,kws',e,h',m⟩:=w
  cases e
  rw[h] at h';cases h'
  rcases m with rfl | m
  ·exact⟨h0,.inr ⟨kws,h⟩⟩
  ·obtain⟨g0,g1⟩:=t.at (t.mem.mpr m)
   exact⟨g0,.inl g1⟩
 | box t xss =>
  cases t with
  | false =>
   obtain⟨b,kws,as,rfl,h,h0,_,t⟩:=r
   obtain⟨p,vs,e,h',m⟩:=w
   cases e
   rw[h] at h';cases h'
   rcases m with rfl | m
   ·exact⟨h0,.inl ⟨_,h⟩⟩
   ·obtain⟨c,hc,e⟩:=List.mem_map.mp m
    cases e
    obtain⟨g0,g1⟩:=t.at hc
    exact⟨g0,.inl g1⟩
  | true =>
   obtain⟨b,kws,as,rfl,h,t⟩:=r
   obtain⟨p,vs,e,h',m⟩:=w
   cases e
   rw[h] at h';cases h'
   obtain⟨c,hc,e⟩:=List.mem_map.mp m
   cases e
   obtain⟨g0,g1⟩:=t.at hc
   exact⟨g0,.inl g1⟩
theorem RelS.move {x:S} {v:V} (k:Keep H H') (r:RelS K H₀ H x v) (w:∀a,Ow H x v a->∀o,H a=some o->H' a=some o):RelS K H₀ H' x v/\∀a,Ow H' x v a->Ow H x v a:=by
 cases x with
 | d x=>exact⟨Rep.keep k r,λa e=>e⟩
 | exc C y c =>
  obtain⟨e,dx,rfl,h1,h2⟩:=r
  exact⟨⟨e,dx,rfl,k.exts _ _ h1,k.xds _ _ h2⟩,λa e=>e⟩
 | own xs =>
  obtain⟨b,vs,rfl,h,h0,rr⟩:=r
  exact⟨⟨b,vs,rfl,w b rfl _ h,h0,rr.keep k⟩,λa e=>e⟩
 | dcl kvs =>
  obtain⟨b,kws,as,rfl,h,h0,t⟩:=r
  have hb:=w b ⟨b,kws,rfl,h,.inl rfl⟩ _ h
  refine⟨⟨b,kws,as,rfl,hb,h0,t.keep k λa m=>w a ⟨b,kws,rfl,h,.inr (t.mem.mp m)⟩⟩,λa e=>?_⟩
  obtain⟨p,kws',e,h',m⟩:=e
  cases e
  rw[hb] at h';cases h'
  exact⟨b,kws,rfl,h,m⟩
 | box t xss =>
  cases t with
  | false =>
   obtain⟨b,kws,as,rfl,h,h0,nb,t⟩:=r
   have hb:=w b ⟨b,_,rfl,h,.inl rfl⟩ _ h
   refine⟨⟨b,kws,as,rfl,hb,h0,nb,t.keep k λa m=>w a ⟨b,_,rfl,h,.inr (List.mem_map_of_mem m)⟩⟩,λa e=>?_⟩
   obtain⟨p,vs,e,h',m⟩:=e
   cases e
   rw[hb] at h';cases h'
   exact⟨b,_,rfl,h,m⟩
  | true =>
   obtain⟨b,kws,as,rfl,h,t⟩:=r
   have hb:=k.tups b _ h
   refine⟨⟨b,kws,as,rfl,hb,t.keep k λa m=>w a ⟨b,_,rfl,h,List.mem_map_of_mem m⟩⟩,λa e=>?_⟩
   obtain⟨p,vs,e,h',m⟩:=e
   cases e
   rw[hb] at h';cases h'
   exact⟨b,_,rfl,h,m⟩
theorem RelS.same {x:S} {v:V} (s:Same H H') (h:RelS K H₀ H x v):RelS K H₀ H' x v:=(h.move (.of s) λa _ o e=>s a o e).1
end
section
variable {X:Cx} {ρ:En} {σ:St} {H H':Hp}
theorem StOk.ext (st:StOk X ρ σ H) (s:Same H H'):StOk X ρ σ H':=by
 refine⟨st.len,st.same.trans s,λi x e=>let ⟨v,h1,h2⟩:=st.rel i x e;⟨v,h1,h2.same s⟩,λi j x y v u a e1 e2 e3 e4 o1 o2=>?_⟩
 obtain⟨v',h1,h2⟩:=st.rel i x e1
 obtain⟨u',g1,g2⟩:=st.rel j y e2
 rw[h1] at e3;cases e3
 rw[g1] at e4;cases e4
 exact st.sep i j x y _ _ a e1 e2 h1 g1 ((h2.move (.of s) λa _ o e=>s a o e).2 a o1) ((g2.move (.of s) λa _ o e=>s a o e).2 a o2)
theorem pA {α:Type} {xs:List (Option α)} {i j:Nat} {x y:α} (e:(xs.set i (some x))[j]? = some (some y)):(j=i/\y=x/\i<xs.length)\/(i≠j/\xs[j]? = some (some y)):=by
 by_cases hj:i=j
 ·subst hj
  by_cases h:i<xs.length
  ·rw[List.getElem?_set_self h] at e;cases e;exact .inl ⟨rfl,rfl,h⟩
  ·rw[List.set_eq_of_length_le (by omega),List.getElem?_eq_none (by omega)] at e;cases e
 ·rw[List.getElem?_set_ne hj] at e;exact .inr ⟨hj,e⟩
theorem StOk.chg (st:StOk X ρ σ H) {i:Nat} {x':S} {v':V} {W:Addr->Prop} (kp:Keep H H') (h0:∀b o,X.H₀ b=some o->H' b=some o) (h1:∀b o,H b=some o->¬W b->H' b=some o) (h2:RelS X.K X.H₀ H' x' v')
  (h3:∀a,Ow H' x' v' a->W a\/H a=none) (h4:∀(j:Nat) (y:S) (u:V) (a:Addr),j≠i->ρ[j]? = some (some y)->σ[j]? = some (some u)->Ow H y u a->¬W a):StOk X (ρ.set i (some x')) (σ.set i (some v')) H':=by
 have old:∀(j:Nat) (y:S),j≠i->ρ[j]? = some (some y)->∃u,σ[j]? = some (some u)/\RelS X.K X.H₀ H y u/\RelS X.K X.H₀ H' y u/\∀a,Ow H' y u a->Ow H y u a:=λj y hj e=>by
  obtain⟨u,g1,g2⟩:=st.rel j y e
  obtain⟨g3,g4⟩:=g2.move kp λa w o e'=>h1 a o e' (h4 j y u a hj e g1 w)
  exact⟨u,g1,g2,g3,g4⟩
 refine⟨by simp[st.len],λb o h=>h0 b o h,λj y e=>?_,λj k y z v u a e1 e2 e3 e4 o1 o2=>?_⟩
 ·rcases pA e with ⟨rfl,rfl,hl⟩ | ⟨hj,e⟩
  ·exact⟨v',by rw[List.getElem?_set_self (by rw[<-st.len];exact hl)],h2⟩
  ·obtain⟨u,g1,_,g3,_⟩:=old j y (Ne.symm hj) e
   exact⟨u,by rw[List.getElem?_set_ne hj];exact g1,g3⟩
 ·have cross:∀(j:Nat) (y:S) (u:V),i≠j->ρ[j]? = some (some y)->σ[j]? = some (some u)->Ow H' y u a->Ow H' x' v' a->False:=λj y u hj e es o1 o2=>by
   obtain⟨u',g1,g2,g3,g4⟩:=old j y (Ne.symm hj) e
   rw[g1] at es;cases es
   rcases h3 a o2 with w | n
   ·exact h4 j y _ a (Ne.symm hj) e g1 (g4 a o1) w
   ·obtain⟨_,⟨_,q⟩ | ⟨_,q⟩⟩:=Ow.at g2 (g4 a o1) <;> rw[n] at q <;> cases q
  rcases pA e1 with ⟨rfl,rfl,hl⟩ | ⟨hj,e1'⟩
  ·rcases pA e2 with ⟨rfl,rfl,_⟩ | ⟨hk,e2'⟩
   ·rfl
   ·rw[List.getElem?_set_self (by rw[<-st.len];exact hl)] at e3;cases e3
    rw[List.getElem?_set_ne hk] at e4
    exact (cross k z u hk e2' e4 o2 o1).elim
  ·rw[List.getElem?_set_ne hj] at e3
   rcases pA e2 with ⟨rfl,rfl,hl⟩ | ⟨hk,e2'⟩
   ·rw[List.getElem?_set_self (by rw[<-st.len];exact hl)] at e4;cases e4
    exact (cross j y v hj e1' e3 o1 o2).elim
   ·rw[List.getElem?_set_ne hk] at e4
    obtain⟨v',g1,g2,g3,g4⟩:=old j y (Ne.symm hj) e1'
    obtain⟨u',f1,f2,f3,f4⟩:=old k z (Ne.symm hk) e2'
    rw[g1] at e3;cases e3
    rw[f1] at e4;cases e4
    exact st.sep j k y z _ _ a e1' e2' g1 f1 (g4 a o1) (f4 a o2)
theorem StOk.put (st:StOk X ρ σ H) {i:Nat} {x':S} {v':V} (s:Same H H') (h2:RelS X.K X.H₀ H' x' v') (h3:∀a,Ow H' x' v' a->H a=none):StOk X (ρ.set i (some x')) (σ.set i (some v')) H' :=
 st.chg (W:=λ_=>False) (.of s) (λb o h=>s b o (st.same b o h)) (λb o h _=>s b o h) h2 (λa o=>.inr (h3 a o)) λ_ _ _ _ _ _ _ _ z=>z
theorem StOk.updW (st:StOk X ρ σ H) {i:Nat} {x x':S} {v v':V} (e:ρ[i]? = some (some x)) (es:σ[i]? = some (some v)) (h1:∀b o,H b=some o->¬Ow H x v b->H' b=some o) (h2:RelS X.K X.H₀ H' x' v')
  (h3:∀a,Ow H' x' v' a->Ow H x v a\/H a=none):StOk X (ρ.set i (some x')) (σ.set i (some v')) H'/\Keep H H':=by
 obtain⟨v0,g1,g2⟩:=st.rel i x e
 rw[g1] at es;cases es
 have no:∀b o,H b=some o->(∀vs,o≠.lst vs)->(∀kws,o≠.dK kws)->¬Ow H x v b:=λb o h n1 n2 w=>by
  obtain⟨_,⟨_,q⟩ | ⟨_,q⟩⟩:=Ow.at g2 w <;> rw[h] at q <;> cases q
  ·exact n1 _ rfl
  ·exact n2 _ rfl
 have kp:Keep H H':=⟨λb xs h=>h1 b _ h (no b _ h (λ_ z=>by cases z) λ_ z=>by cases z),λb o u h=>h1 b _ h (no b _ h (λ_ z=>by cases z) λ_ z=>by cases z),λb φ h=>h1 b _ h (no b _ h (λ_ z=>by cases z) λ_ z=>by cases z),λb fs h=>h1 b _ h (no b _ h (λ_ z=>by cases z) λ_ z=>by cases z)⟩
 refine⟨st.chg (W:=Ow H x v) kp (λb o h=>h1 b o (st.same b o h) λw=>?_) h1 h2 h3 λj y u a hj ej eu o1 o2=>hj (st.sep j i y x u v a ej e eu g1 o1 o2),kp⟩
 rw[(Ow.at g2 w).1] at h;cases h
theorem StOk.set_d (st:StOk X ρ σ H) {i:Nat} {d:D} {v:V} (r:Rep X.K H d v):StOk X (ρ.set i (some (.d d))) (σ.set i (some v)) H:=st.put (x':=.d d) (Same.refl H) r λ_ o=>o.elim
theorem fI {α:Type} {xs:List α} {i:Nat} {x:α} (e:xs[i]? = some x):xs.set i x=xs:=by
 apply List.ext_getElem? ;intro j
 by_cases hj:i=j
 ·subst hj;rw[List.getElem?_set_self (List.getElem?_eq_some_iff.mp e).1,e]
 ·rw[List.getElem?_set_ne hj]
theorem StOk.set_own (st:StOk X ρ σ H) {i:Nat} {ds:List D} {p:Addr} {vs:List V} (hp:H p=none) (r:Reps X.K H ds vs) :
  StOk X (ρ.set i (some (.own ds))) (σ.set i (some (.ref p))) (upd H p (.lst vs)):=by
 have sm:Same H (upd H p (.lst vs)):=λb o h=>by rw[aI (aR h hp)];exact h
 exact st.put sm ⟨p,vs,rfl,bJ,st.same.free hp,r.keep (.of sm)⟩ λa o=>by cases o;exact hp
theorem StOk.upd_own (st:StOk X ρ σ H) {i:Nat} {xs ds:List D} {p:Addr} {us vs:List V} (e:ρ[i]? = some (some (.own xs))) (es:σ[i]? = some (some (.ref p))) (hp:H p=some (.lst us)) (h0:X.H₀ p=none)
  (r:Reps X.K H ds vs):StOk X (ρ.set i (some (.own ds))) σ (upd H p (.lst vs))/\Keep H (upd H p (.lst vs)):=by
 have kp:Keep H (upd H p (.lst vs)):=⟨λb ys h=>by
   rw[aI (dJ h hp (by intro z;cases z))];exact h,λb o u h=>by rw[aI (dJ h hp (by intro z;cases z))];exact h,λb φ h=>by rw[aI (dJ h hp (by intro z;cases z))];exact h,λb fs h=>by rw[aI (dJ h hp (by intro z;cases z))];exact h⟩
 have:=st.updW (x':=.own ds) (v':=.ref p) e es (H':=upd H p (.lst vs)) (λb o h w=>by rw[aI (by rintro rfl;exact w rfl)];exact h) ⟨p,vs,rfl,bJ,h0,r.keep kp⟩ λa o=>.inl o
 rw[fI es] at this
 exact this
end
section
variable {X:Cx} {pins:List (Addr × Obj)} {σ:St} {H:Hp} {s:Shared}
theorem Inv.freezeG {a:Addr} {x:HO} {o:Obj} (I:Inv X pins σ H s) (h:H a=some x) (ho:s.heap.get? a=some o) (n1:∀ys,HO.tup ys≠x) (n2:∀o w,HO.frz o w≠x) (n3:∀ps,HO.tbl ps≠x) (n4:∀c,HO.own c≠x):Inv X pins σ (upd H a (.frz o x)) s:=by
 have ok:=I.hok a _ h
 have ntup:∀b u,H b=some u->u≠x->b≠a:=λb u q d z=>by subst z;rw[h] at q;cases q;exact d rfl
 have st:∀{b:Addr} {u:HO},ObjOk X.prog X.w H s.heap b u->ObjOk X.prog X.w (upd H a (.frz o x)) s.heap b u:=λ{b u} q =>
  q.stay (λc v _ w=>w) (λc w=>by rw[aI (ntup c _ w (n4 _))];exact w) λc ys w=>by rw[aI (ntup c _ w (n1 _))];exact w
 refine I.un (t':=s.toks) (h':=s.heap) ⟨λb o q _ _ _=>q,λb o q _ _ _=>⟨o.slots,q⟩,λb o q n _=>?_,λb o q _=>⟨o,q⟩,λb ys q=>?_,λb o u q=>?_,λb ps q=>⟨#[],?_⟩⟩ λb u q=>?_
 ·rw[aI (λz=>by subst z;rw[h] at n;cases n)];exact n
 ·rw[aI (ntup b _ q (n1 _))];exact q
 ·rw[aI (ntup b _ q (n2 _ _))];exact q
 ·rw[aI (ntup b _ q (n3 _)),q];simp
 ·by_cases hb:b=a
  ·subst hb
   rw[bJ] at q;cases q
   exact⟨ho,st ok⟩
  ·rw[aI hb] at q
   exact st (I.hok b u q)
theorem Inv.freeze {a:Addr} {xs:List V} (I:Inv X pins σ H s) (h:H a=some (.lst xs)):∃o,Inv X pins σ (upd H a (.frz o (.lst xs))) s:=by
 obtain⟨z,its,n,r,e⟩:=I.hok a _ h
 exact⟨_,Inv.freezeG I h e (λ_ z=>by cases z) (λ_ _ z=>by cases z) (λ_ z=>by cases z) λ_ z=>by cases z⟩
theorem Inv.freezeD {a:Addr} {kvs:List (Key × V)} (I:Inv X pins σ H s) (h:H a=some (.dK kvs)):∃o,Inv X pins σ (upd H a (.frz o (.dK kvs))) s:=by
 obtain⟨_,_,vs,r,ob,es,ep,e,_⟩:=I.hok a _ h
 exact⟨ob,Inv.freezeG I h e (λ_ z=>by cases z) (λ_ _ z=>by cases z) (λ_ z=>by cases z) λ_ z=>by cases z⟩
theorem Same.upd_new {a:Addr} {o:HO} {H H1:Hp} (s:Same H H1) (n:H a=none):Same H (upd H1 a o):=λb u h=>by
 rw[aI (aR h n)];exact s b u h
theorem eS:∀(kvs:List (Int × List D)) {kws:List (Key × V)} {as:List Addr} {H:Hp},Inv X pins σ H s->Dcl X.K X.H₀ H kvs kws as ->
  ∃H' vs,Inv X pins σ H' s/\kws=lY (kvs.map (·.1)) vs/\kvs.length=vs.length/\Reps X.K H' (kvs.map λp=>.lst p.2) vs/\Keep H H'/\∀b o,H b=some o->b ∉ as->H' b=some o
 | [],_,_,H,I,t=>by cases t;exact⟨H,[],I,rfl,rfl,.nil,Keep.refl H,λb o h _=>h⟩
 | (k,ds)::kvs,_,_,H,I,t=>by
  cases t with
  | @cons _ b vs _ _ kws as h h0 r n t =>
   obtain⟨o,I1⟩:=Inv.freeze I h
   have kp:Keep H (upd H b (.frz o (.lst vs))):=⟨λc ys q=>by rw[aI (dJ q h (by intro z;cases z))];exact q,λc o u q=>by rw[aI (dJ q h (by intro z;cases z))];exact q,λc φ q=>by rw[aI (dJ q h (by intro z;cases z))];exact q,λc φ q=>by rw[aI (dJ q h (by intro z;cases z))];exact q⟩
   obtain⟨H',us,I2,e1,e2,e3,k2,e4⟩:=eS kvs I1 (t.keep kp λa m o e=>by rw[aI (by rintro rfl;exact n m)];exact e)
   subst e1
   refine⟨H',.ref b::us,I2,rfl,by simp[e2],.cons (.lst (.inl ⟨o,k2.frzs _ _ _ bJ⟩) (r.keep (kp.trans k2))) e3,kp.trans k2,λc u q m=>?_⟩
   rw[List.mem_cons,not_or] at m
   exact e4 c u (by rw[aI m.1];exact q) m.2
noncomputable def S.fz:S->S
 | .own ds=>.d (.lst ds)
 | .dcl kvs=>.d (.dct (kvs.map (·.1)) (kvs.map λp=>.lst p.2))
 | .box false xss=>.d (.lst (xss.map .lst))
 | .box true xss=>.d (.tup (xss.map .lst))
 | .d x=>.d x
 | .exc C y c=>.exc C y c
theorem StOk.fz {ρ:En} {i:Nat} {x:S} (so:StOk X ρ σ H) (I:Inv X pins σ H s) (e:ρ[i]? = some (some x)):∃H',Inv X pins σ H' s/\StOk X (ρ.set i (some x.fz)) σ H'/\Keep H H':=by
 obtain⟨v,h1,h2⟩:=so.rel i _ e
 cases x with
 | d x=>exact⟨H,I,by rw[show S.fz (.d x) = .d x from rfl,fI e];exact so,Keep.refl H⟩
 | exc C y c=>exact⟨H,I,by rw[show S.fz (.exc C y c) = .exc C y c from rfl,fI e];exact so,Keep.refl H⟩
 | own ds =>
  obtain⟨p,vs,ev,hp,h0,rr⟩:=id h2
  subst ev
  obtain⟨o,I2⟩:=Inv.freeze I hp
  have kp:Keep H (upd H p (.frz o (.lst vs))):=⟨λc ys q=>by rw[aI (dJ q hp (by intro z;cases z))];exact q,λc o u q=>by rw[aI (dJ q hp (by intro z;cases z))];exact q,λc φ q=>by rw[aI (dJ q hp (by intro z;cases z))];exact q,λc φ q=>by rw[aI (dJ q hp (by intro z;cases z))];exact q⟩
  obtain⟨so2,k2⟩:=so.updW (x':=.d (.lst ds)) (v':=.ref p) e h1 (H':=upd H p (.frz o (.lst vs))) (λb o h w=>by rw[aI (by rintro rfl;exact w rfl)];exact h) (.lst (.inl ⟨o,bJ⟩) (rr.keep kp)) λa o=>o.elim
  rw[fI h1] at so2
  exact⟨_,I2,so2,k2⟩
 | dcl kvs =>
  obtain⟨p,kws,as,ev,hp,h0,t⟩:=id h2
  subst ev
  obtain⟨H1,vs,I1,e1,e2,e3,k1,e4⟩:=eS kvs I t
  have np:p ∉ as:=λm=>by obtain⟨_,us,q⟩:=t.at m;rw[hp] at q;cases q
  have hp1:=e4 p _ hp np
  obtain⟨o,I2⟩:=Inv.freezeD I1 hp1
  have kp:Keep H1 (upd H1 p (.frz o (.dK kws))):=⟨λc ys q=>by rw[aI (dJ q hp1 (by intro z;cases z))];exact q,λc o u q=>by rw[aI (dJ q hp1 (by intro z;cases z))];exact q,λc φ q=>by rw[aI (dJ q hp1 (by intro z;cases z))];exact q,λc φ q=>by rw[aI (dJ q hp1 (by intro z;cases z))];exact q⟩
  obtain⟨so2,k2⟩:=so.updW (x':=.d (.dct (kvs.map (·.1)) (kvs.map λp=>.lst p.2))) (v':=.ref p) e h1 (H':=upd H1 p (.frz o (.dK kws)))
   (λb o h w=>by
    rw[aI (by rintro rfl;exact w ⟨_,kws,rfl,hp,.inl rfl⟩)]
    exact e4 b o h λm=>w ⟨p,kws,rfl,hp,.inr (t.mem.mp m)⟩)
   (.dct (by rw[bJ,e1]) (by simp[e2]) (e3.keep kp)) λa o=>o.elim
  rw[fI h1] at so2
  exact⟨_,I2,so2,k2⟩
 | box t xss =>
  have emap:(xss.map λx=>((0:Int),x)).map (λp=>D.lst p.2)=xss.map D.lst:=by rw[List.map_map];rfl
  cases t with
  | false =>
   obtain⟨p,kws,as,ev,hp,h0,np,t⟩:=id h2
   subst ev
   obtain⟨H1,vs,I1,e1,e2,e3,k1,e4⟩:=eS _ I t
   rw[emap] at e3
   have ea:as.map V.ref=vs:=by rw[<-t.refs,e1];exact kW (by rw[List.length_map];simpa using e2)
   have hp1:=e4 p _ hp np
   obtain⟨o,I2⟩:=Inv.freeze I1 hp1
   have kp:Keep H1 (upd H1 p (.frz o (.lst (as.map V.ref)))):=⟨λc ys q=>by rw[aI (dJ q hp1 (by intro z;cases z))];exact q,λc o u q=>by rw[aI (dJ q hp1 (by intro z;cases z))];exact q,λc φ q=>by rw[aI (dJ q hp1 (by intro z;cases z))];exact q,λc φ q=>by rw[aI (dJ q hp1 (by intro z;cases z))];exact q⟩
   obtain⟨so2,k2⟩:=so.updW (x':=.d (.lst (xss.map .lst))) (v':=.ref p) e h1 (H':=upd H1 p (.frz o (.lst (as.map V.ref))))
    (λb o h w=>by
     rw[aI (by rintro rfl;exact w ⟨_,_,rfl,hp,.inl rfl⟩)]
     exact e4 b o h λm=>w ⟨p,_,rfl,hp,.inr (List.mem_map_of_mem m)⟩)
    (.lst (vs:=as.map V.ref) (.inl ⟨o,bJ⟩) (by have z:=e3.keep kp;rw[<-ea] at z;exact z)) λa o=>o.elim
   rw[fI h1] at so2
   exact⟨_,I2,so2,k2⟩
  | true =>
   obtain⟨p,kws,as,ev,hp,t⟩:=id h2
   subst ev
   obtain⟨H1,vs,I1,e1,e2,e3,k1,e4⟩:=eS _ I t
   rw[emap] at e3
   have ea:as.map V.ref=vs:=by rw[<-t.refs,e1];exact kW (by rw[List.length_map];simpa using e2)
   obtain⟨so2,k2⟩:=so.updW (x':=.d (.tup (xss.map .lst))) (v':=.ref p) e h1 (H':=H1)
    (λb o h w=>e4 b o h λm=>w ⟨p,_,rfl,hp,List.mem_map_of_mem m⟩)
    (.tup (vs:=as.map V.ref) (k1.tups _ _ hp) (by have z:=e3;rw[<-ea] at z;exact z)) λa o=>o.elim
   rw[fI h1] at so2
   exact⟨_,I1,so2,k2⟩
end
structure Sz (n:Nat):Prop where
 ok:n<=sizeLine
noncomputable abbrev RE:=En->(D->Prop)->Prop
noncomputable abbrev RT:=En->(Bool->Prop)->Prop
noncomputable abbrev RA:=En->(List D->Prop)->Prop
structure DEnds where
 nx:En->Prop
 rt:D->Prop
 bk:En->Prop:=λ_=>False
 ct:En->Prop:=λ_=>False
noncomputable abbrev RS:=DEnds->En->Prop
noncomputable abbrev RG:=D->En->(En->Prop)->Prop
noncomputable def KL (X:Cx) (t:RE):TE:=λσ H Q=>∃ρ P,StOk X ρ σ H/\t ρ P/\∀d v H',P d->Same H H'->Rep X.K H' d v->Q v H'
noncomputable def FZ (X:Cx) (t:RE):TE:=λσ H Q=>∃ρ P,StOk X ρ σ H/\t ρ P/\∀d v H',P d->Same H H'->RepB X.K H' d v->Q v H'
noncomputable def OV (X:Cx) (t:RA):TE:=λσ H Q=>∃ρ P,StOk X ρ σ H/\t ρ P/\∀ds p vs H1,P ds->Same H H1->H1 p=none->Reps X.K H1 ds vs->Q (.ref p) (upd H1 p (.lst vs))
noncomputable def KP (X:Cx) (t:RT):TT:=λσ H Q=>∃ρ P,StOk X ρ σ H/\t ρ P/\∀b H',P b->Same H H'->Q b H'
noncomputable def OS (X:Cx) (t:RA):TA:=λσ H Q=>∃ρ P,StOk X ρ σ H/\t ρ P/\∀ds vs H',P ds->Same H H'->Reps X.K H' ds vs->Q vs H'
noncomputable def KN (X:Cx) (t:RS):TS:=λDe σ H=>∃ρ E,StOk X ρ σ H/\t E ρ/\(∀ρ' σ' H',E.nx ρ'->Keep H H'->StOk X ρ' σ' H'->De.nx σ' H')/\(∀d v H',E.rt d->Keep H H'->Same X.H₀ H'->Rep X.K H' d v->De.rt v H') /\
 (∀ρ' σ' H',E.bk ρ'->Keep H H'->StOk X ρ' σ' H'->De.bk σ' H')/\∀ρ' σ' H',E.ct ρ'->Keep H H'->StOk X ρ' σ' H'->De.ct σ' H'
noncomputable def OT (X:Cx) (g:RG):TG:=λv σ H Q=>∃d ρ P,Rep X.K H d v/\StOk X ρ σ H/\g d ρ P/\∀ρ' σ' H',P ρ'->Keep H H'->StOk X ρ' σ' H'->Q σ' H'
theorem bV {α β:Type} {A B C:α->β->Prop} {R:Prop} (h:∃ρ P,A ρ P/\B ρ P/\C ρ P) (k:∀ρ P,A ρ P->B ρ P->C ρ P->R):R:=let ⟨ρ,P,a,b,c⟩:=h;k ρ P a b c
theorem tK {α β γ:Type} {A B C E:γ->α->β->Prop} {R:Prop} (h:∃d ρ P,A d ρ P/\B d ρ P/\C d ρ P/\E d ρ P) (k:∀d ρ P,A d ρ P->B d ρ P->C d ρ P->E d ρ P->R):R:=let ⟨d,ρ,P,a,b,c,e⟩:=h;k d ρ P a b c e
theorem eO {α β:Type} {A B C E F G:α->β->Prop} {R:Prop} (h:∃ρ P,A ρ P/\B ρ P/\C ρ P/\E ρ P/\F ρ P/\G ρ P) (k:∀ρ P,A ρ P->B ρ P->C ρ P->E ρ P->F ρ P->G ρ P->R):R:=let ⟨ρ,P,a,b,c,e,f,g⟩:=h;k ρ P a b c e f g
noncomputable def DE (X:Cx) (e:Expr) (t:RE):Prop:=PE X e (KL X t)
noncomputable def DB (X:Cx) (e:Expr) (t:RE):Prop:=PE X e (FZ X t)
noncomputable def DO (X:Cx) (e:Expr) (t:RA):Prop:=PE X e (OV X t)
noncomputable def DT (X:Cx) (e:Expr) (t:RT):Prop:=PT X e (KP X t)
noncomputable def DW (X:Cx) (e:Expr) (t:RT):Prop:=PW X e (KP X t)
noncomputable def DA (X:Cx) (es:List Expr) (t:RA):Prop:=PA X es (OS X t)
noncomputable def DS (X:Cx) (st:Stmt) (t:RS):Prop:=PS X st (KN X t)
noncomputable def DSs (X:Cx) (sts:List Stmt) (t:RS):Prop:=PSs X sts (KN X t)
noncomputable def DG (X:Cx) (tg:Expr) (g:RG):Prop:=PG X tg (OT X g)
theorem PE.mono {X:Cx} {e:Expr} {t t':TE} (h:PE X e t) (m:∀σ H Q,t' σ H Q->t σ H Q):PE X e t':=λpins s σ H Q I q=>h pins s σ H Q I (m σ H Q q)
theorem PT.mono {X:Cx} {e:Expr} {t t':TT} (h:PT X e t) (m:∀σ H Q,t' σ H Q->t σ H Q):PT X e t':=λpins s σ H Q I q=>h pins s σ H Q I (m σ H Q q)
theorem PW.mono {X:Cx} {e:Expr} {t t':TT} (h:PW X e t) (m:∀σ H Q,t' σ H Q->t σ H Q):PW X e t':=λwh pins s σ H Q I q=>h wh pins s σ H Q I (m σ H Q q)
theorem PA.mono {X:Cx} {e:List Expr} {t t':TA} (h:PA X e t) (m:∀σ H Q,t' σ H Q->t σ H Q):PA X e t':=λpos pins s σ H Q I q=>h pos pins s σ H Q I (m σ H Q q)
theorem PS.mono {X:Cx} {e:Stmt} {t t':TS} (h:PS X e t) (m:∀D σ H,t' D σ H->t D σ H):PS X e t':=λpins s σ H D I q=>h pins s σ H D I (m D σ H q)
theorem PSs.mono {X:Cx} {e:List Stmt} {t t':TS} (h:PSs X e t) (m:∀D σ H,t' D σ H->t D σ H):PSs X e t':=λpins s σ H D I q=>h pins s σ H D I (m D σ H q)
theorem PG.mono {X:Cx} {e:Expr} {t t':TG} (h:PG X e t) (m:∀v σ H Q,t' v σ H Q->t v σ H Q):PG X e t':=λpins s σ H v u Q I r q=>h pins s σ H v u Q I r (m v σ H Q q)
section
variable {X:Cx} {e a b c:Expr} {pos:Pos}
theorem DE.bor {t:RE} (h:DE X e t):DB X e t:=PE.mono h λσ H Q hh=>bV hh λρ P st q k=>⟨ρ,P,st,q,λd v H' p s r=>k d v H' p s (.inl r)⟩
theorem DO.val {t:RA} (h:DO X e t):DE X e (λρ Q=>t ρ λds=>Q (.lst ds)):=by
 intro pins s σ H Q I hh_0
 obtain⟨ρ,P,st,q,k⟩:=hh_0
 refine thn (h pins s σ H (λv H'=>∃ds p vs H1,v = .ref p/\H'=upd H1 p (.lst vs)/\P (.lst ds)/\Same H H1/\H1 p=none/\Reps X.K H1 ds vs) I ⟨ρ,_,st,q,λds p vs H1 hp s1 hn r=>⟨ds,p,vs,H1,rfl,rfl,hp,s1,hn,r⟩⟩) λu s1 ⟨v,H',I',rv,ds,p,vs,H1,ev,eH,hp,sm,hn,r⟩=>?_
 subst ev eH
 obtain⟨o,I2⟩:=Inv.freeze I' (a:=p) (xs:=vs) bJ
 have sm2:Same H1 (upd (upd H1 p (.lst vs)) p (.frz o (.lst vs))):=λb u e=>by rw[aI (aR e hn),aI (aR e hn)];exact e
 exact⟨.ref p,_,I2,rv,k (.lst ds) (.ref p) _ hp (sm.trans sm2) (.lst (.inl ⟨o,bJ⟩) (r.keep (.of sm2)))⟩
theorem DO.bor {t:RA} (h:DO X e t):DB X e (λρ Q=>t ρ λds=>Q (.lst ds)):=h.val.bor
noncomputable def aU (i:Nat):RE:=λρ Q=>match ρ[i]? with
 | some (some (.d d))=>Q d
 | _=>False
noncomputable def aA (i:Nat):RE:=λρ Q=>match ρ[i]? with
 | some (some (.d d))=>Q d
 | some (some (.own xs))=>Q (.lst xs)
 | _=>False
theorem dv (i:Nat) {x:Str} (hN:X.N[i]? = some x:=by rfl) (hv:Vis X.env.scope x:=by walk_at "vis") (hd:(x == ("__debug__":Str))=false:=by decide)
  (hcd:(x == ("__classdict__":Str))=false:=by decide):DE X (.Name x pos) (aU i):=by
 refine PE.mono (pv i hN hv hd hcd) λσ H Q hh=>bV hh λρ P st q k=>?_
 unfold aU at q
 split at q
 ·rename_i d e
  obtain⟨v,h1,h2⟩:=st.rel i _ e
  exact⟨v,h1,k d v H q (Same.refl H) h2⟩
 ·exact q.elim
theorem dvb (i:Nat) {x:Str} (hN:X.N[i]? = some x:=by rfl) (hv:Vis X.env.scope x:=by walk_at "vis") (hd:(x == ("__debug__":Str))=false:=by decide)
  (hcd:(x == ("__classdict__":Str))=false:=by decide):DB X (.Name x pos) (aA i):=by
 refine PE.mono (pv i hN hv hd hcd) λσ H Q hh=>bV hh λρ P st q k=>?_
 unfold aA at q
 split at q
 ·rename_i d e
  obtain⟨v,h1,h2⟩:=st.rel i _ e
  exact⟨v,h1,k _ v H q (Same.refl H) (.inl h2)⟩
 ·rename_i xs e
  obtain⟨v,h1,h2⟩:=st.rel i _ e
  obtain⟨a,vs,e1,e2,_,r⟩:=h2
  exact⟨v,h1,k _ v H q (Same.refl H) (.inr ⟨xs,a,vs,rfl,e1,e2,r⟩)⟩
 ·exact q.elim
noncomputable def rC (d:D):RE:=λ_ Q=>Q d
theorem aB {i:Int} {j:Nat}:DE X (.Constant (.int i) j pos) (rC (.int i)):=PE.mono MT λσ H Q hh=>bV hh λρ P st q k=>k _ _ H q (Same.refl H) (.int i)
theorem FE {i:Bool} {j:Nat}:DE X (.Constant (.bool i) j pos) (rC (.bl i)):=PE.mono PK λσ H Q hh=>bV hh λρ P st q k=>k _ _ H q (Same.refl H) (.bl i)
theorem kP {j:Nat}:DE X (.Constant .none j pos) (rC .non):=PE.mono MV λσ H Q hh=>bV hh λρ P st q k=>k _ _ H q (Same.refl H) .non
noncomputable abbrev R22:=D->D->(D->Prop)->Prop
noncomputable def KM (X:Cx) (r:R22):R2:=λx y H Q=>∃d e P,RepB X.K H d x/\RepB X.K H e y/\r d e P/\∀z v H',P z->Same H H'->Rep X.K H' z v->Q v H'
noncomputable def OpD (X:Cx) (f:Value->Value->Sem Value) (r:R22):Prop:=OpR X f (KM X r)
noncomputable def r2 (r:R22) (ta tb:RE):RE:=λρ Q=>ta ρ λx=>tb ρ λy=>r x y Q
variable {ta tb tc:RE}
theorem FY {r:R22} {σ:St} {H:Hp} {Q:VK} (h:KL X (r2 r ta tb) σ H Q):tOp (KM X r) (FZ X ta) (FZ X tb) σ H Q:=by
 obtain⟨ρ,P,st,ht,hP⟩:=h
 exact⟨ρ,_,st,ht,λx v H1 h1 s1 r1=>⟨ρ,_,st.ext s1,h1,λy u H2 h2 s2 r2=>⟨x,y,P,r1.same s2,r2,h2,λz w H' hz s3 r3=>hP z w H' hz ((s1.trans s2).trans s3) r3⟩⟩⟩
theorem aG {op:Operator} {r:R22} (ho:OpD X (binaryOp op) r) (ha:DB X a ta) (hb:DB X b tb):DE X (.BinOp a op b pos) (r2 r ta tb):=PE.mono (PM ho ha hb) λσ H Q h=>FY h
theorem xR {op:CmpOp} {r:R22} (ho:OpD X (compareOp op) r) (ha:DB X a ta) (hb:DB X b tb) (hm:behindInMarks op b=false:=by exact GC _):DE X (.Compare a [op] [b] pos) (r2 r ta tb):=PE.mono (JF ho ha hb hm) λσ H Q h=>FY h
noncomputable def bW (t:RE):RT:=λρ Q=>t ρ λd=>match d with
 | .bl k=>Q k
 | _=>False
theorem dC {op:CmpOp} {r:R22} (ho:OpD X (compareOp op) r) (ha:DB X a ta) (hb:DB X b tb) (hm:behindInMarks op b=false:=by exact GC _):DT X (.Compare a [op] [b] pos) (bW (r2 r ta tb)):=by
 refine PT.mono (JN ho ha hb hm) λσ H Q hh=>bV hh λρ P st q k=>?_
 refine FY (Q:=λx H'=>∃k,x = .bl k/\Q k H') ⟨ρ,_,st,q,λd v H' hd s r=>?_⟩
 cases d with
 | bl b=>exact⟨b,r.bl_inv,k b H' hd s⟩
 | _=>exact hd.elim
theorem mX (h:DE X e ta) (he:∀whole,isTrue e X.env whole=(do let v <-whole;standAt e.pos;holding [v] (truthy v)):=by intro _;rfl):DT X e (bW ta):=by
 refine PT.mono (NI h he) λσ H Q hh=>bV hh λρ P st q k=>?_
 refine⟨ρ,_,st,q,λd v H' hd s r=>?_⟩
 cases d with
 | bl b=>exact⟨b,r.bl_inv,k b H' hd s⟩
 | _=>exact hd.elim
noncomputable def GN (t u:RT):RT:=λρ Q=>t ρ λc=>if c=true then u ρ Q else Q false
noncomputable def rOr (t u:RT):RT:=λρ Q=>t ρ λc=>if c=true then Q true else u ρ Q
noncomputable def uD (t:RT):RT:=λρ Q=>t ρ λc=>Q (!c)
variable {tA tB:RT} {rest:List Expr}
theorem IC (ha:DT X a tA):DW X (.BoolOp .And [a] pos) tA:=JO ha
theorem xU (ha:DT X a tA):DW X (.BoolOp .Or [a] pos) tA:=NL ha
theorem LK (ha:DT X a tA) (hb:DW X (.BoolOp .And (b::rest) pos) tB):DW X (.BoolOp .And (a::b::rest) pos) (GN tA tB) :=
 PW.mono (NK ha hb) λσ H Q hh=>bV hh λρ P st q k=>⟨ρ,_,st,q,λc H1 hc s1=>by
  cases c with
  | true=>rw[if_pos rfl] at hc ⊢;exact⟨ρ,P,st.ext s1,hc,λd H2 hd s2=>k d H2 hd (s1.trans s2)⟩
  | false=>rw[if_neg Bool.false_ne_true] at hc ⊢;exact k false H1 hc s1⟩
theorem sG (ha:DT X a tA) (hb:DW X (.BoolOp .Or (b::rest) pos) tB):DW X (.BoolOp .Or (a::b::rest) pos) (rOr tA tB) :=
 PW.mono (PV ha hb) λσ H Q hh=>bV hh λρ P st q k=>⟨ρ,_,st,q,λc H1 hc s1=>by
  cases c with
  | false=>rw[if_neg Bool.false_ne_true] at hc ⊢;exact⟨ρ,P,st.ext s1,hc,λd H2 hd s2=>k d H2 hd (s1.trans s2)⟩
  | true=>rw[if_pos rfl] at hc ⊢;exact k true H1 hc s1⟩
theorem DW.tst (h:DW X e tA):DT X e tA:=PW.pt h
theorem mW (ha:DT X a tA):DT X (.UnaryOp .Not a pos) (uD tA):=PT.mono (NH ha) λσ H Q hh=>bV hh λρ P st q k=>⟨ρ,_,st,q,λc H1 hc s1=>k _ H1 hc s1⟩
noncomputable def sQ (ta tb:RE):RE:=λρ Q=>ta ρ λd=>match d with
 | .bl k=>if k=true then tb ρ Q else Q (.bl false)
 | _=>False
noncomputable def RV (ta tb:RE):RE:=λρ Q=>ta ρ λd=>match d with
 | .bl k=>if k=true then Q (.bl true) else tb ρ Q
 | _=>False
noncomputable def GO (ta:RE):RE:=λρ Q=>ta ρ λd=>match d with
 | .bl k=>Q (.bl (!k))
 | _=>False
theorem xS {op} (h:DE X a ta):DE X (.BoolOp op [a] pos) ta:=MX h
theorem xQ (ha:DE X a ta) (hb:DE X (.BoolOp .And (b::rest) pos) tb):DE X (.BoolOp .And (a::b::rest) pos) (sQ ta tb) :=
 PE.mono (MR ha hb) λσ H Q hh=>bV hh λρ P st q k=>⟨ρ,_,st,q,λd v H1 hd s1 r=>by
  cases d with
  | bl c =>
   refine⟨c,r.bl_inv,?_⟩
   cases c with
   | true=>exact⟨ρ,P,st.ext s1,hd,λd v H2 hd s2=>k d v H2 hd (s1.trans s2)⟩
   | false=>exact k (.bl false) (.bl false) H1 hd s1 (.bl false)
  | _=>exact hd.elim⟩
theorem LE (ha:DE X a ta):DE X (.UnaryOp .Not a pos) (GO ta) :=
 PE.mono (MW ha) λσ H Q hh=>bV hh λρ P st q k=>⟨ρ,_,st,q,λd v H1 hd s1 r=>by
  cases d with
  | bl c=>exact⟨c,r.bl_inv,k (.bl !c) (.bl !c) H1 hd s1 (.bl _)⟩
  | _=>exact hd.elim⟩
noncomputable def rIf (t:RT) (ta tb:RE):RE:=λρ Q=>t ρ λc=>if c=true then ta ρ Q else tb ρ Q
noncomputable def OX (X:Cx) (r:D->(D->Prop)->Prop):V->Hp->VK->Prop:=λx H Q=>∃d P,RepB X.K H d x/\r d P/\∀z v H',P z->Same H H'->Rep X.K H' z v->Q v H'
noncomputable def UnD (X:Cx) (f:Value->Sem Value) (r:D->(D->Prop)->Prop):Prop:=UnR X f (OX X r)
noncomputable def r1 (r:D->(D->Prop)->Prop) (ta:RE):RE:=λρ Q=>ta ρ λx=>r x Q
theorem vC {op:UnaryOp} {r:D->(D->Prop)->Prop} (ho:UnD X (unaryOp op) r) (ha:DB X a ta):DE X (.UnaryOp op a pos) (r1 r ta) :=
 PE.mono (PN ho ha) λσ H Q hh=>bV hh λρ P st q k=>⟨ρ,_,st,q,λd v H1 hd s1 rr=>⟨d,P,rr,hd,λz v H2 hz s2 r2=>k z v H2 hz (s1.trans s2) r2⟩⟩
noncomputable def aK:RA:=λ_ Q=>Q []
noncomputable def aD (t:RE) (u:RA):RA:=λρ Q=>t ρ λx=>u ρ λxs=>Q (x::xs)
variable {es:List Expr} {t:RA}
theorem aJ:DA X [] aK:=PA.mono yH λσ H Q hh=>bV hh λρ P st q k=>k [] [] H q (Same.refl H) .nil
theorem aC (ha:DE X e ta) (hr:DA X es t) (hs:starEach (e::es) X.env=(false,eval e X.env)::starEach es X.env:=by rfl):DA X (e::es) (aD ta t) :=
 PA.mono (oY ha hr hs) λσ H Q hh=>bV hh λρ P st q k=>⟨ρ,_,st,q,λd v H1 hd s1 r1=>⟨ρ,_,st.ext s1,hd,λds vs H2 hds s2 r2=>k (d::ds) (v::vs) H2 hds (s1.trans s2) (.cons (r1.keep (.of s2)) r2)⟩⟩
noncomputable def lD (t:RA):RE:=λρ Q=>t ρ λds=>Sz ds.length/\Q (.tup ds)
theorem fE {x1} (h:DA X es t):DE X (.Tuple es x1 pos) (lD t) :=
 PE.mono (MY h) λσ H Q hh=>bV hh λρ P st q k=>⟨ρ,_,st,q,λds vs H1 hd s1 r=>⟨by rw[<-r.length];exact hd.1.ok,λp hp=>k (.tup ds) (.ref p) _ hd.2 (Same.upd_new s1 (s1.free hp)) (by
  have sm:Same H1 (upd H1 p (.tup vs)):=λb u e=>by rw[aI (aR e hp)];exact e
  exact .tup bJ (r.keep (.of sm)))⟩⟩
noncomputable def rP (t:RA):RA:=λρ Q=>t ρ λds=>Sz ds.length/\Q ds
theorem kR (h:DA X es t):DO X (.List es pos) (rP t) :=
 PE.mono (MU h) λσ H Q hh=>bV hh λρ P st q k=>⟨ρ,_,st,q,λds vs H1 hd s1 r=>⟨by rw[<-r.length];exact hd.1.ok,λp hp=>k ds p vs H1 hd.2 s1 hp r⟩⟩
end
section
variable {X:Cx} {e a b c:Expr} {pos:Pos} {st:Stmt} {rest:List Stmt} {t u:RS} {te:RE} {tA:RT}
noncomputable def aV (t u:RS):RS:=λE ρ=>t { E with nx:=u E } ρ
noncomputable def fG:RS:=λE ρ=>E.nx ρ
theorem dO:DSs X [] fG:=PSs.mono JL λDe σ H hh=>eO hh λρ E st q n r b c=>n ρ σ H q (Keep.refl H) st
theorem aN (h:DS X st t):DSs X [st] t:=JM h
theorem aF (h1:DS X st t) (h2:DSs X rest u):DSs X (st::rest) (aV t u) :=
 PSs.mono (GM h1 h2) λDe σ H hh=>eO hh λρ E st q n r b c=>⟨ρ,_,st,q,λρ' σ' H' h k s=>⟨ρ',E,s,h,λρ2 σ2 H2 x k2=>n ρ2 σ2 H2 x (k.trans k2),λd v H2 x k2=>r d v H2 x (k.trans k2),λρ2 σ2 H2 x k2=>b ρ2 σ2 H2 x (k.trans k2),λρ2 σ2 H2 x k2=>c ρ2 σ2 H2 x (k.trans k2)⟩,r,b,c⟩
noncomputable def dQ (te:RE):RS:=λE ρ=>te ρ E.rt
theorem bR (h:DE X e te):DS X (.Return (some e) pos) (dQ te) :=
 PS.mono (NG h) λDe σ H hh=>eO hh λρ E st q n r b c=>⟨ρ,_,st,q,λd v H1 hd s1 rr=>r d v H1 hd (.of s1) (st.same.trans s1) rr⟩
noncomputable def PY (te:RE):RS:=λE ρ=>te ρ λ_=>E.nx ρ
noncomputable def lC (c:RT) (t u:RS):RS:=λE ρ=>c ρ λk=>if k=true then t E ρ else u E ρ
theorem iT {sa sb:List Stmt} (hc:DT X c tA) (ha:DSs X sa t) (hb:DSs X sb u):DS X (.If c sa sb pos) (lC tA t u) :=
 PS.mono (PQ hc ha hb) λDe σ H hh=>eO hh λρ E st q n r b c=>⟨ρ,_,st,q,λk H1 hk s1=>by
  cases k with
  | true=>rw[if_pos rfl] at hk ⊢;exact⟨ρ,E,st.ext s1,hk,λρ2 σ2 H2 x k2=>n ρ2 σ2 H2 x ((Keep.of s1).trans k2),λd v H2 x k2=>r d v H2 x ((Keep.of s1).trans k2),λρ2 σ2 H2 x k2=>b ρ2 σ2 H2 x ((Keep.of s1).trans k2),λρ2 σ2 H2 x k2=>c ρ2 σ2 H2 x ((Keep.of s1).trans k2)⟩
  | false=>rw[if_neg Bool.false_ne_true] at hk ⊢;exact⟨ρ,E,st.ext s1,hk,λρ2 σ2 H2 x k2=>n ρ2 σ2 H2 x ((Keep.of s1).trans k2),λd v H2 x k2=>r d v H2 x ((Keep.of s1).trans k2),λρ2 σ2 H2 x k2=>b ρ2 σ2 H2 x ((Keep.of s1).trans k2),λρ2 σ2 H2 x k2=>c ρ2 σ2 H2 x ((Keep.of s1).trans k2)⟩⟩
noncomputable def aY (i:Nat):RG:=λd ρ Q=>Q (ρ.set i (some (.d d)))
theorem bA {i:Nat} {x:Str} (hN:X.N.Nodup) (hi:X.N[i]? = some x:=by rfl) (hx:Loc X.env.scope x:=by walk_at "vis") (hf:X.fn x=true\/X.env.scope.names.lookup x=some .local:=by walk_at "loc"):DG X (.Name x pos) (aY i) :=
 PG.mono (JG hN hi hx hf) λv σ H Q hh=>tK hh λd ρ P r st q k=>k _ _ H q (Keep.refl H) (st.set_d r)
noncomputable abbrev RGs:=List D->En->(En->Prop)->Prop
noncomputable def MF (X:Cx) (g:RGs):TGs:=λvs σ H Q=>∃ds ρ P,Reps X.K H ds vs/\StOk X ρ σ H/\g ds ρ P/\∀ρ' σ' H',P ρ'->Keep H H'->StOk X ρ' σ' H'->Q σ' H'
noncomputable def DGs (X:Cx) (ts:List Expr) (g:RGs):Prop:=PGs X ts (MF X g)
theorem PGs.mono {X:Cx} {e:List Expr} {t t':TGs} (h:PGs X e t) (m:∀v σ H Q,t' v σ H Q->t v σ H Q):PGs X e t':=λpins s σ H v u Q I r q=>h pins s σ H v u Q I r (m v σ H Q q)
noncomputable def jI:RGs:=λds ρ Q=>match ds with
 | []=>Q ρ
 | _=>False
noncomputable def cF (g:RG) (u:RGs):RGs:=λds ρ Q=>match ds with
 | []=>False
 | d::r=>g d ρ λρ'=>u r ρ' Q
theorem gQ:DGs X [] jI:=PGs.mono JH λvs σ H Q hh=>tK hh λds ρ P r st q k=>by
 cases r with
 | nil=>exact⟨rfl,k ρ σ H q (Keep.refl H) st⟩
 | cons _ _=>exact q.elim
theorem bY {es:List Expr} {g:RG} {u:RGs} (h1:DG X e g) (h2:DGs X es u) (hs:(assignEach (e::es) X.env).map (·.2)=assign e X.env::(assignEach es X.env).map (·.2):=by rfl):DGs X (e::es) (cF g u) :=
 PGs.mono (GH h1 h2 hs) λvs σ H Q hh=>tK hh λds ρ P r st q k=>by
  cases r with
  | nil=>exact q.elim
  | cons r rs =>
   refine⟨_,_,rfl,_,ρ,_,r,st,q,λρ' σ' H' hq k1 st1=>⟨_,ρ',P,rs.keep k1,st1,hq,λρ2 σ2 H2 p k2 s2=>k ρ2 σ2 H2 p (k1.trans k2) s2⟩⟩
noncomputable def jJ (n:Nat) (g:RGs):RG:=λd ρ Q=>match d with
 | .tup ds=>ds.length=n/\g ds ρ Q
 | _=>False
theorem kQ {es:List Expr} {k:Nat} {g:RGs} {n:Nat} (hc:X.calm=true) (h:DGs X es g) (hn:(assignEach es X.env).length=n:=by rfl) (hst:(assignEach es X.env).findIdx? (·.1)=none:=by rfl):DG X (.Tuple es k pos) (jJ n g) :=
 PG.mono (NB hc h hn hst) λv σ H Q hh=>tK hh λd ρ P r st q kk=>by
  cases d with
  | tup ds =>
   cases r with
   | tup h r=>exact⟨_,_,rfl,SqT.of h,by rw[<-r.length];exact q.1,ds,ρ,P,r,st,q.2,kk⟩
  | _=>exact q.elim
noncomputable def NM (te:RE) (g:RG):RS:=λE ρ=>te ρ λd=>g d ρ E.nx
noncomputable def bE (i:Nat) (te:RE):RS:=λE ρ=>te ρ λd=>E.nx (ρ.set i (some (.d d)))
theorem aS {i:Nat} {x:Str} {pos':Pos} (hN:X.N.Nodup) (he:DE X e te) (hi:X.N[i]? = some x:=by rfl) (hx:Loc X.env.scope x:=by walk_at "vis") (hs:swapsWith e (some (.Name x pos')) pos.line X.env=pure false:=by rfl)
  (hf:X.fn x=true\/X.env.scope.names.lookup x=some .local:=by walk_at "loc"):DS X (.Assign [.Name x pos'] e pos) (bE i te) :=
 PS.mono (GK hN hi hx he hs hf) λDe σ H hh=>eO hh λρ E st q n r b c=>⟨ρ,_,st,q,λd v H1 hd s1 rr=>n _ _ H1 hd (.of s1) ((st.ext s1).set_d rr)⟩
noncomputable def mI (i:Nat) (t:RA):RS:=λE ρ=>t ρ λds=>E.nx (ρ.set i (some (.own ds)))
theorem oU {i:Nat} {x:Str} {pos':Pos} {t:RA} (hN:X.N.Nodup) (he:DO X e t) (hi:X.N[i]? = some x:=by rfl) (hx:Loc X.env.scope x:=by walk_at "vis") (hs:swapsWith e (some (.Name x pos')) pos.line X.env=pure false:=by rfl)
  (hf:X.fn x=true\/X.env.scope.names.lookup x=some .local:=by walk_at "loc"):DS X (.Assign [.Name x pos'] e pos) (mI i t) :=
 PS.mono (GK hN hi hx he hs hf) λDe σ H hh=>eO hh λρ E st q n r b c=>⟨ρ,_,st,q,λds p vs H1 hd s1 hp rr=>n _ _ _ hd ((Keep.of s1).trans (.of λb o h=>by rw[aI (aR h hp)];exact h)) ((st.ext s1).set_own hp rr)⟩
noncomputable def NN (i j:Nat) (t:RA):RS:=λE ρ=>t ρ λds=>match ds with
 | [x,y]=>E.nx ((ρ.set i (some (.d x))).set j (some (.d y)))
 | _=>False
theorem LI {i j:Nat} {x y:Str} {t:RA} {px py pt:Pos} {kt k2 pt2} (hc:X.calm=true) (hN:X.N.Nodup) (ha:DA X [a,b] t) (hi:X.N[i]? = some x:=by rfl) (hj:X.N[j]? = some y:=by rfl) (hij:i≠j:=by decide)
  (hx:X.env.scope.names.lookup x=some .local:=by rfl) (hy:X.env.scope.names.lookup y=some .local:=by rfl)
  (hw:swappedStores [.Tuple [.Name x px,.Name y py] kt pt] (.Tuple [a,b] k2 pt2) X.env=pure (some [x,y]):=by rfl)
  (hs:swapsWithSole [.Tuple [.Name x px,.Name y py] kt pt] (.Tuple [a,b] k2 pt2) pos.line X.env=pure false:=by rfl) :
  DS X (.Assign [.Tuple [.Name x px,.Name y py] kt pt] (.Tuple [a,b] k2 pt2) pos) (NN i j t) :=
 PS.mono (NF hc hN hi hj hij hx hy ha hw hs) λDe σ H hh=>eO hh λρ E st q n r b c=>⟨ρ,_,st,q,λds vs H1 hd s1 rr=>by
  cases rr with
  | nil=>exact hd.elim
  | cons r1 t1 =>
   cases t1 with
   | nil=>exact hd.elim
   | cons r2 t2 =>
    cases t2 with
    | nil=>exact⟨_,_,rfl,n _ _ H1 hd (.of s1) (((st.ext s1).set_d r1).set_d r2)⟩
    | cons _ _=>exact hd.elim⟩
noncomputable def vN (i:Nat) (ρ:En):En:=match ρ[i]? with
 | some (some x)=>ρ.set i (some x.fz)
 | _=>ρ
theorem zR (i:Nat) (h:DS X st t):DS X st (λE ρ=>t E (vN i ρ)):=by
 intro pins s σ H De I ⟨ρ,E,so,q,n,r,b,c⟩
 have q:t E (vN i ρ):=q
 unfold vN at q
 split at q
 ·rename_i x e
  obtain⟨H2,I2,so2,kp⟩:=so.fz I e
  exact h pins s σ _ De I2 ⟨_,E,so2,q,λρ2 σ2 H2 x k2=>n ρ2 σ2 H2 x (kp.trans k2),λd v H2 x k2=>r d v H2 x (kp.trans k2),λρ2 σ2 H2 x k2=>b ρ2 σ2 H2 x (kp.trans k2),λρ2 σ2 H2 x k2=>c ρ2 σ2 H2 x (kp.trans k2)⟩
 ·exact h pins s σ H De I ⟨ρ,E,so,q,n,r,b,c⟩
noncomputable def dU (c:RT) (t:RS):Nat->RS
 | 0,_,_=>False
 | n+1,E,ρ=>c ρ λk=>if k=true then t { E with nx:=dU c t n E,ct:=dU c t n E,bk:=E.nx } ρ else E.nx ρ
noncomputable def lE (c:RT) (t:RS):RS:=λE ρ=>∃n,dU c t n E ρ
theorem pM {body:List Stmt} (hp:PassesOwn (model X.prog X.w) X.A X.env X.xe) (hc:DT X c tA) (hb:DSs X body t):DS X (.While c body [] pos) (lE tA t) :=
 PS.mono (GL hp hc hb) λDe σ H hh=>eO hh λρ E st mq n r b c=>by
  obtain⟨m,q⟩:=mq
  refine⟨λm σ' H'=>∃ρ',StOk X ρ' σ' H'/\Keep H H'/\dU tA t m E ρ',⟨m,ρ,st,Keep.refl H,q⟩,?_⟩
  rintro m σ' H' ⟨ρ',st',kp,hw⟩
  cases m with
  | zero=>exact hw.elim
  | succ m =>
   refine⟨ρ',_,st',hw,λk H1 hk s1=>?_⟩
   have kp1:=kp.trans (.of s1)
   cases k with
   | true =>
    dsimp only at hk ⊢
    rw[if_pos rfl] at hk ⊢
    refine⟨λσ2 H2=>∃ρ2,StOk X ρ2 σ2 H2/\Keep H H2/\dU tA t m E ρ2,λσ2 H2 ⟨ρ2,a1,a2,a3⟩=>⟨m,Nat.lt_succ_self m,ρ2,a1,a2,a3⟩,?_⟩
    exact⟨ρ',_,st'.ext s1,hk,λρ2 σ2 H2 x k2 s2=>⟨ρ2,s2,kp1.trans k2,x⟩,λd v H2 x k2=>r d v H2 x (kp1.trans k2),λρ2 σ2 H2 x k2=>n ρ2 σ2 H2 x (kp1.trans k2),λρ2 σ2 H2 x k2 s2=>⟨ρ2,s2,kp1.trans k2,x⟩⟩
   | false =>
    dsimp only at hk ⊢
    rw[if_neg Bool.false_ne_true] at hk ⊢
    exact n ρ' σ' H1 hk kp1 (st'.ext s1)
noncomputable def DQ (X:Cx) (J:It) (xs:List D) (H0:Hp):Prop:=∀i H,Keep H0 H ->
 (∀d,xs[i]? = some d->J.go i H/\∀x H',J.yld i H x H'->Same H H'/\Rep X.K H' d x)/\(xs.length<=i->J.stop i H)
noncomputable def OU (X:Cx) (t:RA):TI:=λσ H R=>∃ρ P,StOk X ρ σ H/\t ρ P/\∀xs J H',P xs->Same H H'->DQ X J xs H'->R J H'
noncomputable def DI (X:Cx) (tg iter:Expr) (t:RA):Prop:=PI X tg iter (OU X t)
theorem PI.mono {X:Cx} {tg e:Expr} {t t':TI} (h:PI X tg e t) (m:∀σ H Q,t' σ H Q->t σ H Q):PI X tg e t':=λpins s σ H Q I q=>h pins s σ H Q I (m σ H Q q)
noncomputable def xX (g:RG) (t:RS):List D->RS
 | [],E,ρ=>E.nx ρ
 | x::xs,E,ρ=>g x ρ λρ1=>t { E with nx:=xX g t xs E,ct:=xX g t xs E,bk:=E.nx } ρ1
noncomputable def mH (ti:RA) (g:RG) (t:RS):RS:=λE ρ=>ti ρ λxs=>xX g t xs E ρ
theorem fQ {tg iter:Expr} {body:List Stmt} {ti:RA} {g:RG} (hp:PassesOwn (model X.prog X.w) X.A X.env X.xe) (hc:X.calm=true) (hi:DI X tg iter ti) (hg:DG X tg g) (hb:DSs X body t)
  (hs:∀x,foldedSetIterable iter X.env x=pure x:=by intro _;rfl):DS X (.For tg iter body [] pos) (mH ti g t) :=
 PS.mono (NE hp hc hi hg hb hs) λDe σ H hh=>eO hh λρ E st q n r b c=>by
  refine⟨ρ,_,st,q,λxs J H1 hx s1 ok=>?_⟩
  refine⟨λi m σ' H'=>m=xs.length-i/\i<=xs.length/\∃ρ',StOk X ρ' σ' H'/\Keep H1 H'/\xX g t (xs.drop i) E ρ',⟨xs.length,by simp,Nat.zero_le _,ρ,st.ext s1,Keep.refl H1,by simpa using hx⟩,?_⟩
  rintro i m σ' H' ⟨rfl,hi,ρ',st',kp,hf⟩
  obtain⟨o1,o2⟩:=ok i H' kp
  have kp1:Keep H H':=(Keep.of s1).trans kp
  by_cases hlt:i<xs.length
  ·have e:xs.drop i=xs[i]::xs.drop (i+1):=List.drop_eq_getElem_cons hlt
   rw[e] at hf
   obtain⟨go,yl⟩:=o1 xs[i] (List.getElem?_eq_getElem hlt)
   refine .inr ⟨go,λσ2 H2=>∃ρ2,StOk X ρ2 σ2 H2/\Keep H1 H2/\xX g t (xs.drop (i+1)) E ρ2,λσ2 H2 hh=>⟨xs.length-(i+1),by omega,rfl,hlt,hh⟩,λx H2 y=>?_⟩
   obtain⟨s2,rx⟩:=yl x H2 y
   refine⟨xs[i],ρ',_,rx,st'.ext s2,hf,λρ3 σ3 H3 h3 k3 s3=>?_⟩
   have k13:Keep H1 H3:=(kp.trans (.of s2)).trans k3
   have k03:Keep H H3:=(kp1.trans (.of s2)).trans k3
   exact⟨ρ3,_,s3,h3,λρ4 σ4 H4 x4 k4 s4=>⟨ρ4,s4,k13.trans k4,x4⟩,λd v H4 x4 k4=>r d v H4 x4 (k03.trans k4),λρ4 σ4 H4 x4 k4=>n ρ4 σ4 H4 x4 (k03.trans k4),λρ4 σ4 H4 x4 k4 s4=>⟨ρ4,s4,k13.trans k4,x4⟩⟩
  ·have e:i=xs.length:=by omega
   subst e
   rw[List.drop_length] at hf
   exact .inl ⟨o2 (Nat.le_refl _),n ρ' σ' H' hf kp1 st'⟩
end
section
variable {X:Cx} {tg e:Expr} {te:RE} {pos p:Pos}
noncomputable def riL (te:RE):RA:=λρ Q=>te ρ λd=>match d with
 | .lst ds=>Q ds
 | _=>False
theorem eA (h:DE X e te):DI X tg e (riL te):=by
 refine PI.mono (JI h) λσ H R hh=>bV hh λρ P st q k=>⟨ρ,_,st,q,λd v H1 hd s1 r=>?_⟩
 cases d with
 | lst ds =>
  cases r with
  | @lst a vs _ hz r =>
   refine⟨a,rfl,⟨vs,hz.sq⟩,k ds _ H1 hd s1 λi H2 kp=>⟨λd e=>?_,λhl=>⟨vs,(hz.keep kp).sq,by rw[<-r.length];exact hl⟩⟩⟩
   obtain⟨v,h1,h2⟩:=(r.keep kp).get e
   refine⟨⟨vs,v,(hz.keep kp).sq,h1⟩,λx H' y=>?_⟩
   obtain⟨e1,e2⟩:=y
   subst e1
   have e3:=e2 vs (hz.keep kp).sq
   rw[h1] at e3;cases e3
   exact⟨Same.refl _,h2⟩
 | _=>exact hd.elim
noncomputable def riT (te:RE):RA:=λρ Q=>te ρ λd=>match d with
 | .tup ds=>Q ds
 | _=>False
theorem LG (h:DE X e te):DI X tg e (riT te):=by
 refine PI.mono (NC h) λσ H R hh=>bV hh λρ P st q k=>⟨ρ,_,st,q,λd v H1 hd s1 r=>?_⟩
 cases d with
 | tup ds =>
  cases r with
  | @tup a vs _ hz r =>
   refine⟨a,rfl,⟨vs,SqT.of hz⟩,k ds _ H1 hd s1 λi H2 kp=>⟨λd e=>?_,λhl=>⟨vs,SqT.of (kp.tups _ _ hz),by rw[<-r.length];exact hl⟩⟩⟩
   obtain⟨v,h1,h2⟩:=(r.keep kp).get e
   refine⟨⟨vs,v,SqT.of (kp.tups _ _ hz),h1⟩,λx H' y=>?_⟩
   obtain⟨e1,e2⟩:=y
   subst e1
   have e3:=e2 vs (SqT.of (kp.tups _ _ hz))
   rw[h1] at e3;cases e3
   exact⟨Same.refl _,h2⟩
 | _=>exact hd.elim
noncomputable def cQ (lo:Int) (n:Nat):List D:=(List.range n).map λk:Nat=>D.int (lo+(k:Int))
theorem LX {H0:Hp} (lo:Int) (n:Nat):DQ X (Itr lo n) (cQ lo n) H0:=λi H kp=>by
 refine⟨λd e=>?_,λhl=>by show n<=i;simpa [cQ] using hl⟩
 unfold cQ at e
 rw[List.getElem?_map] at e
 by_cases hi:i<n
 ·rw[List.getElem?_range hi] at e
  cases e
  exact⟨hi,λx H' y=>by obtain⟨rfl,rfl⟩:=y;exact⟨Same.refl _,.int _⟩⟩
 ·rw[List.getElem?_eq_none (by simpa using hi)] at e;cases e
structure RngOk (j:Int):Prop where
 lo:-(2 ^ 62)<=j
 hi:j<2 ^ 62
noncomputable def wI (t:RA):RA:=λρ Q=>t ρ λds=>match ds with
 | [.int j]=>RngOk j/\Q (cQ 0 j.toNat)
 | _=>False
noncomputable def NS (t:RA):RA:=λρ Q=>t ρ λds=>match ds with
 | [.int i,.int j]=>(RngOk i/\RngOk j)/\Q (cQ i (j-i).toNat)
 | _=>False
theorem eY {a:Expr} {t:RA} (hm:X.mg "range" = none) (ha:DA X [a] t) (hg:Gl X "range":=by rfl) (hs:starEach [a] X.env=[(false,eval a X.env)]:=by rfl):DI X tg (.Call (.Name "range" p) [a] [] pos) (wI t):=by
 refine PI.mono (CP hg hm ha hs) λσ H R hh=>bV hh λρ P st q k=>⟨ρ,_,st,q,λds vs H1 hd s1 r=>?_⟩
 split at hd
 ·rename_i j
  rw[Reps.ints_inv (ns:=[j]) r]
  exact⟨j,rfl,hd.1.lo,hd.1.hi,k _ _ H1 hd.2 s1 (LX 0 _)⟩
 ·exact hd.elim
end
noncomputable abbrev FD:=List D->(D->Prop)->Prop
noncomputable def spD (K:PySem.W.Frag) (F:FD):Sp:=λvs H Q _=>∃ds P,Reps K H ds vs/\F ds P/\∀d v H',P d->Same H H'->Rep K H' d v->Q v H'
noncomputable def aX (F:FD) (t:RA):RE:=λρ Q=>t ρ λds=>F ds Q
section
variable {X:Cx} {k:Nat} {f:Addr} {fd:FuncData} {ps:List Str} {F:FD} {x:Str} {p pos:Pos} {e:Expr} {es:List Expr} {t:RA}
theorem HY (G:FnOk X.prog X.w X.K X.mg X.base CX0 k f fd ps (spD X.K F)) (hr:Room k X.A) (hm:X.mg x=some (.ref f)) (hk:PySem.W.keepIn X.K (.ref f)=true) (hb:Binds X.K fd ps []) (ha:DA X (e::es) t) (hg:Gl X x:=by rfl)
  (hdb:(x == ("__debug__":Str))=false:=by decide) (he:starEach (e::es) X.env=(false,eval e X.env)::starEach es X.env:=by rfl) (hpl:(backTo pos (starEach es X.env)).any (·.1)=false:=by rfl) :
  DE X (.Call (.Name x p) (e::es) [] pos) (aX F t) :=
 PE.mono (JE (E:=E0) G hr hg hm hk hb .nil PJ ha hdb he hpl) λσ H Q hh=>bV hh λρ P st q kk=>⟨ρ,_,st,q,λds vs H1 hd s1 r=>by
  show spD X.K F (vs++[]) H1 Q E0
  rw[List.append_nil]
  exact⟨ds,P,r,hd,λd v H2 hp s2 r2=>kk d v H2 hp (s1.trans s2) r2⟩⟩
end
noncomputable def aQ (N:List Str) (ds:List D):En:=ds.map (λd=>some (.d d))++List.replicate (N.length-ds.length) none
section
variable {P:Program} {w:World} {K:PySem.W.Frag} {mg:Str->Option Value} {base:Heap}
theorem HA {X:Cx} {N:List Str} {ds:List D} {vs:List V} (r:Reps X.K X.H₀ ds vs):StOk X (aQ N ds) (jM N vs) X.H₀:=by
 have hl:=r.length
 have own:∀(i:Nat) (x:S),(aQ N ds)[i]? = some (some x)->∃d,x = .d d:=λi x e=>by
  unfold aQ at e
  by_cases hi:i<ds.length
  ·rw[List.getElem?_append_left (by simpa using hi),List.getElem?_map,List.getElem?_eq_getElem hi] at e
   cases e;exact⟨_,rfl⟩
  ·rw[List.getElem?_append_right (by simpa using hi),List.getElem?_replicate] at e
   split at e <;> cases e
 refine⟨by simp[aQ,jM,hl],Same.refl _,λi x e=>?_,λi j x y v u a e1 _ _ _ o _=>by
  obtain⟨d,rfl⟩:=own i x e1
  exact o.elim⟩
 unfold aQ at e
 by_cases hi:i<ds.length
 ·rw[List.getElem?_append_left (by simpa using hi),List.getElem?_map,List.getElem?_eq_getElem hi] at e
  cases e
  obtain⟨v,h1,h2⟩:=r.get (List.getElem?_eq_getElem hi)
  refine⟨v,?_,h2⟩
  unfold jM
  rw[List.getElem?_append_left (by simpa [<-hl] using hi),List.getElem?_map,h1];rfl
 ·rw[List.getElem?_append_right (by simpa using hi),List.getElem?_replicate] at e
  split at e <;> cases e
theorem KI {x qual:Str} {st:Stmt} {f:Addr} {fd:FuncData} {N ps:List Str} {k:Nat} {F:FD} {t:RS} (Fu:Fun K x qual st f fd) (Sc:FnScope N ps (aE st))
  (hbody:∀(cdv:Value) (A:Around) (outer:List Env) (s:Shared) (H:Hp) (E:XK),Room k (A.deeper (envOfC qual (aE st) s.heap.objs.size f cdv)) ->
   DSs (dM CX0 P w K mg base N qual (aE st) f cdv A outer s H E).nox (aM st) t)
  (len:∀ds Q,F ds Q->ds.length=ps.length) (pure:∀ds Q,F ds Q->t { nx:=λ_=>Q .non,rt:=Q } (aQ N ds)):FnOk P w K mg base CX0 (k+1) f fd ps (spD K F):=by
 refine Fu.ok Sc (λvs H Q E ⟨ds,P,r,h,_⟩=>by rw[<-r.length];exact len ds P h) λcdv A outer s H vs Q E hr ⟨ds,P',r,h,kk⟩=>⟨_,hbody cdv A outer s H E hr,?_⟩
 exact⟨aQ N ds,_,HA (X:=(dM CX0 P w K mg base N qual (aE st) f cdv A outer s H E).nox) r,pure ds P' h,λρ' σ' H' hq k s'=>kk .non .non H' hq s'.same .non,λd v H' hq k sm rv=>kk d v H' hq sm rv,λ_ _ _ z=>z.elim,λ_ _ _ z=>z.elim⟩
end
noncomputable def BL (n:Nat) (i:Int):Prop:=i.natAbs<2 ^ n
theorem BL.bits {n:Nat} {i:Int} (h:BL n i):Builtin.Int.intBits i<=n:=intBits_le_iff.mpr h
theorem BL.of {n:Nat} {i:Int} (h:Builtin.Int.intBits i<=n):BL n i:=intBits_le_iff.mp h
theorem BL.mono {m n:Nat} {i:Int} (h:BL m i) (l:m<=n):BL n i:=BL.of (Nat.le_trans h.bits l)
theorem BL.add {m n:Nat} {i j:Int} (a:BL m i) (b:BL n j):BL (max m n+1) (i+j):=BL.of (intBits_add_le a.bits b.bits)
theorem BL.sub {m n:Nat} {i j:Int} (a:BL m i) (b:BL n j):BL (max m n+1) (i-j):=BL.of (intBits_sub_le a.bits b.bits)
theorem BL.mul {m n:Nat} {i j:Int} (a:BL m i) (b:BL n j):BL (m+n) (i*j):=BL.of (intBits_mul_le a.bits b.bits)
theorem BL.fdiv {m:Nat} {i j:Int} (a:BL m i):BL m (i.fdiv j):=BL.of (intBits_fdiv_le a.bits)
theorem BL.le {m:Nat} {i j:Int} (a:BL m j) (h:i.natAbs<=j.natAbs):BL m i:=Nat.lt_of_le_of_lt h a
theorem BL.of_lt {m:Nat} {i:Int} (h1:-(2 ^ m:Nat)<i) (h2:i<(2 ^ m:Nat)):BL m i:=by unfold BL;omega
theorem BL.intMulOk {m n:Nat} {i j:Int} (a:BL m i) (b:BL n j) (h:m+n<=134217728):IntMulOk i j:=IntMulOk.of_le a.bits b.bits h
theorem BL.noPy {i j:Int} (h:BL 9000 j):Builtin.divisionGoesByPylong i j=false:=by
 refine PyProof.noPylong_of_log2 ?_
 by_cases h0:j.natAbs=0
 ·rw[h0];decide +kernel
 ·exact (Nat.log2_lt h0).mpr h
section
variable {X:Cx} {e a b c:Expr} {pos:Pos}
theorem RepB.int_inv {K:PySem.W.Frag} {H:Hp} {i:Int} {v:V} (h:RepB K H (.int i) v):v = .int i:=by
 rcases h with h | ⟨ds,a,vs,e1,_⟩
 ·exact h.int_inv
 ·cases e1
theorem RepB.bl_inv {K:PySem.W.Frag} {H:Hp} {i:Bool} {v:V} (h:RepB K H (.bl i) v):v = .bl i:=by
 rcases h with h | ⟨ds,a,vs,e1,_⟩
 ·exact h.bl_inv
 ·cases e1
theorem RepB.non_inv {K:PySem.W.Frag} {H:Hp} {v:V} (h:RepB K H .non v):v = .non:=by
 rcases h with h | ⟨ds,a,vs,e1,_⟩
 ·cases h;rfl
 ·cases e1
theorem RepB.is_non {K:PySem.W.Frag} {H:Hp} {d:D} {v:V} (h:RepB K H d v):decide (v = .non)=(match d with | .non=>true | _=>false):=by
 rcases h with h | ⟨ds,a,vs,e1,e2,_⟩
 ·cases h <;> simp
 ·subst e1 e2;simp
structure MulOk (i j:Int):Prop where
 ok:IntMulOk i j
structure DivOk (i j:Int):Prop where
 nz:j≠0
 np:Builtin.divisionGoesByPylong i j=false
structure ModOk (j:Int):Prop where
 nz:j≠0
structure PowOk (i j:Int):Prop where
 ok:0<=j/\j<=1000000/\i.natAbs<2 ^ 64
theorem BL.mulOk {m n:Nat} {i j:Int} (a:BL m i) (b:BL n j) (h:m+n<=134217728:=by decide):MulOk i j:=⟨a.intMulOk b h⟩
theorem BL.divOk {i j:Int} (h:BL 9000 j) (nz:j≠0):DivOk i j:=⟨nz,h.noPy⟩
noncomputable def cE:R22:=λx y Q=>match x,y with
 | .int i,.int j=>Q (.int (i+j))
 | _,_=>False
noncomputable def eJ:R22:=λx y Q=>match x,y with
 | .int i,.int j=>Q (.int (i-j))
 | _,_=>False
noncomputable def cK:R22:=λx y Q=>match x,y with
 | .int i,.int j=>MulOk i j/\Q (.int (i*j))
 | _,_=>False
noncomputable def bX:R22:=λx y Q=>match x,y with
 | .int i,.int j=>DivOk i j/\Q (.int (i.fdiv j))
 | _,_=>False
noncomputable def cJ:R22:=λx y Q=>match x,y with
 | .int i,.int j=>ModOk j/\Q (.int (i.fmod j))
 | _,_=>False
noncomputable def rD:R22:=λx y Q=>match x,y with
 | .int i,.int j=>PowOk i j/\Q (.int (i ^ j.toNat))
 | _,_=>False
theorem CN {f:Value->Value->Sem Value} {C:Int->Int->Prop} {g:Int->Int->Int} {r:R22} (h:OpR X f (rI C λi j=>.int (g i j)))
  (hr:∀x y Q,r x y Q->∃i j,x = .int i/\y = .int j/\C i j/\Q (.int (g i j))):OpD X f r:=by
 intro pins s σ H x y v u Q I rx ry hh_0
 obtain⟨d,e,P,r1,r2,q,k⟩:=hh_0
 obtain⟨i,j,rfl,rfl,hc,q⟩:=hr _ _ _ q
 exact h pins s σ H x y v u Q I rx ry ⟨i,j,r1.int_inv,r2.int_inv,hc,k _ _ H q (Same.refl H) (.int _)⟩
theorem aZ:OpD X (binaryOp .Add) cE:=CN (C:=λ_ _=>True) (g:=λi j=>i+j) (opI λ_ _ _ _ _ _ _ _ q=>add_int q) λx y Q q=>by
 unfold cE at q;split at q
 ·exact⟨_,_,rfl,rfl,trivial,q⟩
 ·exact q.elim
theorem dD:OpD X (binaryOp .Sub) eJ:=CN (C:=λ_ _=>True) (g:=λi j=>i-j) (opI λ_ _ _ _ _ _ _ _ q=>sub_int q) λx y Q q=>by
 unfold eJ at q;split at q
 ·exact⟨_,_,rfl,rfl,trivial,q⟩
 ·exact q.elim
theorem bO:OpD X (binaryOp .Mult) cK:=CN (C:=λi j=>IntMulOk i j) (g:=λi j=>i*j) (opI λ_ _ _ _ _ _ _ hc q=>mul_int q hc) λx y Q q=>by
 unfold cK at q;split at q
 ·exact⟨_,_,rfl,rfl,q.1.ok,q.2⟩
 ·exact q.elim
theorem bC:OpD X (binaryOp .FloorDiv) bX:=CN (C:=λi j=>j≠0/\Builtin.divisionGoesByPylong i j=false) (g:=λi j=>i.fdiv j) (opI λ_ _ _ _ _ _ _ hc q=>floordiv_int hc.1 q (.inl hc.2)) λx y Q q=>by
 unfold bX at q;split at q
 ·exact⟨_,_,rfl,rfl,⟨q.1.nz,q.1.np⟩,q.2⟩
 ·exact q.elim
theorem bH:OpD X (binaryOp .Mod) cJ:=CN (C:=λ_ j=>j≠0) (g:=λi j=>i.fmod j) (opI λ_ _ _ _ _ _ _ hc q=>mod_int' hc q) λx y Q q=>by
 unfold cJ at q;split at q
 ·exact⟨_,_,rfl,rfl,q.1.nz,q.2⟩
 ·exact q.elim
theorem tX:OpD X (binaryOp .Pow) rD:=CN (C:=λi j=>0<=j/\j<=1000000/\i.natAbs<2 ^ 64) (g:=λi j=>i ^ j.toNat) (opI λ_ _ _ _ _ _ _ hc q=>pow_int_small hc.1 hc.2.1 hc.2.2 q) λx y Q q=>by
 unfold rD at q;split at q
 ·exact⟨_,_,rfl,rfl,q.1.ok,q.2⟩
 ·exact q.elim
noncomputable def oE:D->(D->Prop)->Prop:=λx Q=>match x with
 | .int i=>Q (.int (-i))
 | _=>False
theorem qP:UnD X (unaryOp .USub) oE:=by
 intro pins s σ H x v Q I rx hh_0
 obtain⟨d,P,r,q,k⟩:=hh_0
 unfold oE at q;split at q
 ·rename_i i
  exact OC pins s σ H x v Q I rx ⟨i,r.int_inv,k _ _ H q (Same.refl H) (.int _)⟩
 ·exact q.elim
noncomputable def iS (p:Int->Int->Bool):R22:=λx y Q=>match x,y with
 | .int i,.int j=>Q (.bl (p i j))
 | _,_=>False
theorem MP {f:Value->Value->Sem Value} {p:Int->Int->Bool} (h:OpR X f (rI0 λi j=>.bl (p i j))):OpD X f (iS p):=by
 intro pins s σ H x y v u Q I rx ry hh_0
 obtain⟨d,e,P,r1,r2,q,k⟩:=hh_0
 unfold iS at q;split at q
 ·rename_i i j
  exact h pins s σ H x y v u Q I rx ry ⟨i,j,r1.int_inv,r2.int_inv,k _ _ H q (Same.refl H) (.bl _)⟩
 ·exact q.elim
theorem PB:OpD X (compareOp .Lt) (iS λi j=>decide (i<j)):=MP PH
theorem OZ:OpD X (compareOp .LtE) (iS λi j=>decide (i<=j)):=MP PF
theorem GD:OpD X (compareOp .Gt) (iS λi j=>decide (j<i)):=MP PD
noncomputable def mV (neg:Bool):R22:=λx y Q=>match x,y with
 | .int i,.int j=>Q (.bl (if neg then !decide (i=j) else decide (i=j)))
 | .bl i,.bl j=>Q (.bl (if neg then !decide (i=j) else decide (i=j)))
 | _,_=>False
theorem nF:OpD X (compareOp .Eq) (mV false):=by
 intro pins s σ H x y v u Q I rx ry hh_0
 obtain⟨d,e,P,r1,r2,q,k⟩:=hh_0
 unfold mV at q;split at q
 ·rename_i i j
  rw[r1.int_inv] at rx;rw[r2.int_inv] at ry
  exact KQ pins s σ H _ _ v u Q I rx ry ⟨rfl,by
   have e:decide (V.int i=V.int j)=decide (i=j):=by simp
   rw[e];exact k _ _ H q (Same.refl H) (.bl _)⟩
 ·rename_i i j
  rw[r1.bl_inv] at rx;rw[r2.bl_inv] at ry
  exact KQ pins s σ H _ _ v u Q I rx ry ⟨rfl,by
   have e:decide (V.bl i=V.bl j)=decide (i=j):=by simp
   rw[e];exact k _ _ H q (Same.refl H) (.bl _)⟩
 ·exact q.elim
theorem MN:OpD X (compareOp .NotEq) (mV true):=by
 intro pins s σ H x y v u Q I rx ry hh_0
 obtain⟨d,e,P,r1,r2,q,k⟩:=hh_0
 unfold mV at q;split at q
 ·rename_i i j
  rw[r1.int_inv] at rx;rw[r2.int_inv] at ry
  exact KR pins s σ H _ _ v u Q I rx ry ⟨rfl,by
   have e:decide (V.int i=V.int j)=decide (i=j):=by simp
   rw[e];exact k _ _ H q (Same.refl H) (.bl _)⟩
 ·rename_i i j
  rw[r1.bl_inv] at rx;rw[r2.bl_inv] at ry
  exact KR pins s σ H _ _ v u Q I rx ry ⟨rfl,by
   have e:decide (V.bl i=V.bl j)=decide (i=j):=by simp
   rw[e];exact k _ _ H q (Same.refl H) (.bl _)⟩
 ·exact q.elim
noncomputable def AA:D->Bool
 | .non=>true
 | _=>false
noncomputable def xP (neg:Bool):R22:=λx y Q=>match y with
 | .non=>Q (.bl (if neg then !AA x else AA x))
 | _=>False
theorem FO {K:PySem.W.Frag} {H:Hp} {d:D} {v:V} (h:RepB K H d v):decide (v = .non)=AA d:=by
 rw[h.is_non];cases d <;> rfl
theorem tW:OpD X (compareOp .Is) (xP false):=by
 intro pins s σ H x y v u Q I rx ry hh_0
 obtain⟨d,e,P,r1,r2,q,k⟩:=hh_0
 unfold xP at q;split at q
 ·exact MQ pins s σ H x y v u Q I rx ry ⟨r2.non_inv,by rw[FO r1];exact k _ _ H q (Same.refl H) (.bl _)⟩
 ·exact q.elim
noncomputable def dIx:R22:=λx y Q=>match x,y with
 | .lst ds,.int i=>match atI ds i with
  | some d=>Q d
  | none=>False
 | .tup ds,.int i=>match atI ds i with
  | some d=>Q d
  | none=>False
 | _,_=>False
theorem uL {K:PySem.W.Frag} {H:Hp} {ds:List D} {vs:List V} {i:Int} {d:D} (r:Reps K H ds vs) (h:atI ds i=some d):∃v,atI vs i=some v/\Rep K H d v:=by
 unfold atI at h ⊢
 rw[<-r.length]
 cases e:ixN ds.length i with
 | none=>rw[e] at h;cases h
 | some j =>
  rw[e] at h
  exact r.get h
theorem aL {ta tb:RE} (ha:DB X a ta) (hb:DB X b tb) (hs:zE b:=by intro _ _;rfl):DE X (.Subscript a b pos) (r2 dIx ta tb):=by
 refine PE.mono (PL (IL.or LZ) ha hb hs) λσ H Q h=>?_
 obtain⟨ρ,P,st,ht,hP⟩:=h
 refine⟨ρ,_,st,ht,λx v H1 h1 s1 r1=>⟨ρ,_,st.ext s1,h1,λy u H2 h2 s2 r2=>?_⟩⟩
 have r1':=r1.same s2
 unfold dIx at h2;split at h2
 ·rename_i ds i
  split at h2
  ·rename_i d e
   obtain⟨p,vs,rfl,hq,rr⟩:=r1'.lst
   obtain⟨w',e',rw'⟩:=uL rr e
   exact .inl ⟨p,vs,i,w',rfl,r2.int_inv,hq,e',hP d w' H2 h2 (s1.trans s2) rw'⟩
  ·exact h2.elim
 ·rename_i ds i
  split at h2
  ·rename_i d e
   obtain⟨p,vs,rfl,hq,rr⟩:=r1'.tup
   obtain⟨w',e',rw'⟩:=uL rr e
   exact .inr ⟨p,vs,i,w',rfl,r2.int_inv,SqT.of hq,e',hP d w' H2 h2 (s1.trans s2) rw'⟩
  ·exact h2.elim
 ·exact h2.elim
noncomputable abbrev RO:=En->(Option Int->Prop)->Prop
noncomputable def OW (X:Cx) (t:RO):TO:=λσ H Q=>∃ρ P,StOk X ρ σ H/\t ρ P/\∀o H',P o->Same H H'->Q o H'
noncomputable def DP (X:Cx) (e:Option Expr) (t:RO):Prop:=PO X e (OW X t)
noncomputable def fL:RO:=λ_ Q=>Q none
noncomputable def nY (t:RE):RO:=λρ Q=>t ρ λd=>match d with
 | .int i=>Q (some i)
 | _=>False
theorem jQ:DP X none fL:=λpins s σ H Q I hh=>bV hh λρ P st q k=>JJ pins s σ H Q I (k none H q (Same.refl H))
theorem jR {t:RE} (h:DE X e t):DP X (some e) (nY t):=λpins s σ H Q I hh=>bV hh λρ P st q k=>JK h pins s σ H Q I ⟨ρ,_,st,q,λd v H1 hd s1 r=>by
 cases d with
 | int i=>exact⟨i,r.int_inv,k (some i) H1 hd s1⟩
 | _=>exact hd.elim⟩
noncomputable def lU (xs:List D) (lo hi:Option Int):List D:=(xs.drop (HT.sIx xs.length 0 lo)).take (HT.sIx xs.length xs.length hi-HT.sIx xs.length 0 lo)
noncomputable def QA (te:RE) (tl th:RO):RA:=λρ Q=>te ρ λx=>tl ρ λl=>th ρ λu=>match x with
 | .lst ds=>Q (lU ds l u)
 | _=>False
noncomputable def ME (X:Cx) (r:List D->(D->Prop)->Prop):List V->Hp->VK->Prop:=λxs H Q=>∃ds P,Reps X.K H ds xs/\r ds P/\∀z v H',P z->Same H H'->Rep X.K H' z v->Q v H'
noncomputable def zB (X:Cx) (f:Value) (r:List D->(D->Prop)->Prop):Prop:=iB X f (ME X r)
noncomputable def rCB (r:List D->(D->Prop)->Prop) (t:RA):RE:=λρ Q=>t ρ λds=>r ds Q
variable {x:Str} {p:Pos} {es:List Expr} {t:RA} {id T:String} {r:List D->(D->Prop)->Prop}
theorem fD (hc:zB X (.builtin id) r) (hm:X.mg x=none) (hv:bootBuiltins x=some (.builtin id)) (ha:DA X (e::es) t) (hg:Gl X x:=by rfl) (hn:x≠"__name__":=by decide) (hdb:(x == ("__debug__":Str))=false:=by decide)
  (he:starEach (e::es) X.env=(false,eval e X.env)::starEach es X.env:=by rfl) (hpl:(backTo pos (starEach es X.env)).any (·.1)=false:=by rfl):DE X (.Call (.Name x p) (e::es) [] pos) (rCB r t) :=
 PE.mono (jD hc hg hm hv ha hn hdb he hpl) λσ H Q hh=>bV hh λρ P st q k=>⟨ρ,_,st,q,λds vs H1 hd s1 rr=>⟨ds,P,rr,hd,λz v H2 hz s2 r2=>k z v H2 hz (s1.trans s2) r2⟩⟩
noncomputable def xO:List D->(D->Prop)->Prop:=λds Q=>match ds with
 | [.int i]=>Q (.int (if i<0 then -i else i))
 | _=>False
theorem tH:zB X (.builtin "abs") xO:=by
 intro pins s σ H xs us Q I rv hh_0
 obtain⟨ds,P,r,q,k⟩:=hh_0
 unfold xO at q;split at q
 ·rename_i i
  cases r with
  | cons r1 r2 =>
   cases r2
   rw[r1.int_inv] at rv
   exact EH pins s σ H _ us Q I rv ⟨i,rfl,k _ _ H q (Same.refl H) (.int _)⟩
 ·exact q.elim
noncomputable def QY:List D->(D->Prop)->Prop:=λds Q=>match ds with
 | [.bl b]=>Q (.int (if b then 1 else 0))
 | [.int i]=>Q (.int i)
 | _=>False
noncomputable def zN:List D->(D->Prop)->Prop:=λds Q=>match ds with
 | [.int i,.int j]=>Q (.int (if j > i then j else i))
 | _=>False
noncomputable def sF:List D->(D->Prop)->Prop:=λds Q=>match ds with
 | [.int i,.int j]=>Q (.int (if j<i then j else i))
 | _=>False
theorem HV (hc:X.calm=true:=by rfl):zB X (.builtin "max") zN:=by
 intro pins s σ H xs us Q I rv hh_0
 obtain⟨ds,P,r,q,k⟩:=hh_0
 unfold zN at q;split at q
 ·rename_i i j
  ·rw[Reps.ints_inv (ns:=[i,j]) r] at rv
   exact BE hc pins s σ H _ us Q I rv ⟨i,j,rfl,k _ _ H q (Same.refl H) (.int _)⟩
 ·exact q.elim
theorem zJ (hc:X.calm=true:=by rfl):zB X (.builtin "min") sF:=by
 intro pins s σ H xs us Q I rv hh_0
 obtain⟨ds,P,r,q,k⟩:=hh_0
 unfold sF at q;split at q
 ·rename_i i j
  ·rw[Reps.ints_inv (ns:=[i,j]) r] at rv
   exact BG hc pins s σ H _ us Q I rv ⟨i,j,rfl,k _ _ H q (Same.refl H) (.int _)⟩
 ·exact q.elim
noncomputable def gO:D->(D->Prop)->Prop:=λd Q=>match d with
 | .lst ds=>Q (.int ds.length)
 | .tup ds=>Q (.int ds.length)
 | _=>False
theorem fV {t:TE} (h:PE X e t) (hs:starEach [e] X.env=[(false,eval e X.env)]:=by rfl) (hn:starEach [] X.env=[]:=by rfl):PA X [e] (λσ H Q=>t σ H λv H'=>Q [v] H') :=
 PA.mono (oY h yH (by rw[hs,hn])) λσ H Q q=>q
theorem gP {te:RE} (hm:X.mg "len" = none) (h:DB X e te) (hg:Gl X "len":=by rfl) (hs:starEach [e] X.env=[(false,eval e X.env)]:=by rfl) (hn:starEach [] X.env=[]:=by rfl):DE X (.Call (.Name "len" p) [e] [] pos) (r1 gO te):=by
 refine PE.mono (jD tE hg hm PySem.boot_len (fV h hs hn) (by decide) (by decide) (by rw[hs,hn]) (by rw[hn];rfl)) λσ H Q hh=>bV hh λρ P st q k=>⟨ρ,_,st,q,λd v H1 hd s1 r=>?_⟩
 unfold gO at hd;split at hd
 ·obtain⟨p,vs,rfl,hq,rr⟩:=r.lst
  exact⟨p,vs,rfl,.inl hq,by rw[<-rr.length];exact k _ _ H1 hd s1 (.int _)⟩
 ·obtain⟨p,vs,rfl,hq,rr⟩:=r.tup
  exact⟨p,vs,rfl,.inr (SqT.of hq),by rw[<-rr.length];exact k _ _ H1 hd s1 (.int _)⟩
 ·exact hd.elim
end
section
variable {X:Cx} {pins:List (Addr × Obj)} {σ:St} {H:Hp} {s:Shared} {h':Heap}
end
noncomputable def ON (ds:List D):List D:=ds.zipIdx.map λp=>D.tup [.int (p.2:Int),p.1]
section
variable {X:Cx} {e:Expr} {te:RE} {pos p:Pos} {elts:List Expr} {k:Nat} {tp:Pos}
noncomputable def SH (te:RE):RA:=λρ Q=>te ρ λd=>match d with
 | .lst ds=>Q (ON ds)
 | _=>False
end
noncomputable def BT (T:String):D->Option Bool
 | .non=>some (T == "NoneType")
 | .bl _=>some (T == "bool" || T == "int")
 | .int _=>some (T == "int")
 | .str _=>some (T == "str")
 | .tup _=>some (T == "tuple")
 | .lst _=>some (T == "list")
 | .dct _ _=>none
noncomputable def rA (T:String):D->(D->Prop)->Prop:=λd Q=>match BT T d with
 | some b=>Q (.bl b)
 | none=>False
structure TyTab (K:PySem.W.Frag) (T:String):Prop where
 non:PySem.W.kitOne K (.type "NoneType") (.type T)=some (T == "NoneType")
 bl:PySem.W.kitOne K (.type "bool") (.type T)=some (T == "bool" || T == "int")
 int:PySem.W.kitOne K (.type "int") (.type T)=some (T == "int")
 str:PySem.W.kitOne K (.type "str") (.type T)=some (T == "str")
 tup:PySem.W.kitOne K (.type "tuple") (.type T)=some (T == "tuple")
 lst:PySem.W.kitOne K (.type "list") (.type T)=some (T == "list")
section
variable {X:Cx} {e:Expr} {te:RE} {pos p p2:Pos} {T:String} {x:Str}
theorem pL (tab:TyTab X.K T) (hm:X.mg "isinstance" = none) (hT:X.mg x=none) (hb:bootBuiltins x=some (.type T)) (h:DE X e te) (hg:Gl X "isinstance":=by rfl) (hgT:Gl X x:=by rfl) (hn:x≠"__name__":=by decide) (hd:(x == ("__debug__":Str))=false:=by decide)
  (hs:starEach [e,.Name x p2] X.env=(false,eval e X.env)::starEach [.Name x p2] X.env:=by rfl) (hs2:starEach [.Name x p2] X.env=(false,eval (.Name x p2) X.env)::starEach [] X.env:=by rfl) (hpl:(backTo pos (starEach [.Name x p2] X.env)).any (·.1)=false:=by rfl) :
  DE X (.Call (.Name "isinstance" p) [e,.Name x p2] [] pos) (r1 (rA T) te):=by
 have hc:iB X (.builtin "isinstance") (λxs H Q=>∃d v P,xs=[v,.ty T]/\Rep X.K H d v/\rA T d P/\∀b,P (.bl b)->Q (.bl b) H):=by
  intro pins s σ H xs us Q I r hh_0
  obtain⟨d,v,P,ex,rd,q,k⟩:=hh_0
  subst ex
  obtain⟨u,w',rfl,r1,r2⟩:=HM r
  cases r2
  unfold rA at q
  split at q
  ·rename_i b eb
   have fin:∀{t:Value},TyOf X.K H v t->PySem.W.kitOne X.K t (.type T)=some b->wpAny (model X.prog X.w) X.A (call (.builtin "isinstance") [u,.type T]) (EP X pins σ Q) X.xe s:=λty e=>BU I r1 ty e λtk=>⟨.bl b,H,I.tok tk,rfl,k b q⟩
   cases rd with
   | non=>cases eb;exact fin .non tab.non
   | bl _=>cases eb;exact fin (.bl _) tab.bl
   | int _=>cases eb;exact fin (.int _) tab.int
   | str _=>cases eb;exact fin (.str _) tab.str
   | tup h _=>cases eb;exact fin (.tup h) tab.tup
   | @lst a vs _ h _ =>
    cases eb
    rcases h with ⟨o,h⟩ | ⟨o,its,n,hk,hc,_⟩
    ·exact fin (.frz h) tab.lst
    ·cases (show u=Value.ref a from r1)
     exact PySem.W.kia_one PySem.W.kitx_list I.kIn ⟨o,I.kIn a o hk,hc⟩ tab.lst (λz=>nomatch z) λtk=>⟨.bl _,H,I.tok tk,rfl,k _ q⟩
   | dct _ _ _=>cases eb
  ·exact q.elim
 refine PE.mono (jD hc hg hm PyProof.Rows.boot_isinstance (oY h (oY (JD (v:=.ty T) hgT hT hb rfl hn hd) yH hs2) hs) (by decide) (by decide) hs hpl) λσ H Q hh=>bV hh λρ P st q k=>?_
 refine⟨ρ,_,st,q,λd v H1 hd s1 r=>⟨d,v,P,rfl,r,hd,λb hb=>k _ _ H1 hb s1 (.bl b)⟩⟩
end
theorem jN:bootBuiltins "abs" = some (.builtin "abs"):=by decide +kernel
theorem BC:bootBuiltins "max" = some (.builtin "max"):=by decide +kernel
theorem rZ:bootBuiltins "min" = some (.builtin "min"):=by decide +kernel
theorem BB:bootBuiltins "int" = some (.type "int"):=by decide +kernel
theorem xL:bootBuiltins "bool" = some (.type "bool"):=by decide +kernel
theorem iQ:bootBuiltins "tuple" = some (.type "tuple"):=by decide +kernel
theorem JZ (K:PySem.W.Frag):TyTab K "int":=⟨by rfl,by rfl,by rfl,by rfl,by rfl,by rfl⟩
theorem HF (K:PySem.W.Frag):TyTab K "bool":=⟨by rfl,by rfl,by rfl,by rfl,by rfl,by rfl⟩
theorem nP (K:PySem.W.Frag):TyTab K "tuple":=⟨by rfl,by rfl,by rfl,by rfl,by rfl,by rfl⟩
theorem pI {P:List Value->Prop} (h:∀a,P [a]):∀us:List Value,us.length=1->P us
 | [a],_=>h a
theorem iP {P:List Value->Prop} (h:∀a b,P [a,b]) (us:List Value) (hl:us.length=2):P us:=by
 cases us with
 | nil=>cases hl
 | cons a us=>exact pI (P:=λus=>P (a::us)) (h a) us (Nat.succ.inj hl)
theorem uP {P:List Value->Prop} (h:∀a b c,P [a,b,c]) (us:List Value) (hl:us.length=3):P us:=by
 cases us with
 | nil=>cases hl
 | cons a us=>exact iP (P:=λus=>P (a::us)) (h a) us (Nat.succ.inj hl)
structure FnAt (P:Program) (w:World) (K:PySem.W.Frag) (mg:Str->Option Value) (base:Heap) (x:Str) (ps:List Str) (k:Nat) (F:FD):Prop where
 ex:∃f fd,FnOk P w K mg base CX0 k f fd ps (spD K F)/\Binds K fd ps []/\PySem.W.keepIn K (.ref f)=true/\mg x=some (.ref f)
structure DefAt (K:PySem.W.Frag) (mg:Str->Option Value) (x:Str) (st:Stmt) (ps:List Str):Prop where
 ex:∃f fd,Fun K x x st f fd/\mg x=some (.ref f)/\∀us:List Value,us.length=ps.length->bindArgs fd ⟨us,[]⟩=pure (ps.zip us)
section
variable {P:Program} {w:World} {K:PySem.W.Frag} {mg:Str->Option Value} {base:Heap}
theorem DefAt.ok {x:Str} {st:Stmt} {N ps:List Str} {k:Nat} {F:FD} {t:RS} (Z:DefAt K mg x st ps) (Sc:FnScope N ps (aE st))
  (hbody:∀{f:Addr} (cdv:Value) (A:Around) (outer:List Env) (s:Shared) (H:Hp) (E:XK),Room k (A.deeper (envOfC x (aE st) s.heap.objs.size f cdv)) ->
   DSs (dM CX0 P w K mg base N x (aE st) f cdv A outer s H E).nox (aM st) t)
  (len:∀ds Q,F ds Q->ds.length=ps.length) (pure:∀ds Q,F ds Q->t { nx:=λ_=>Q .non,rt:=Q } (aQ N ds)):FnAt P w K mg base x ps (k+1) F:=by
 obtain⟨f,fd,a,b,c⟩:=Z.ex
 exact⟨f,fd,KI a Sc (λcdv A outer s H E hr=>hbody cdv A outer s H E hr) len pure,.all c,a.kp,b⟩
theorem DefAt.okL {x:Str} {st:Stmt} {ps:List Str} {k:Nat} {F:FD} (Z:DefAt K mg x st ps) (h:∀(base:Heap) (f:Addr) (fd:FuncData),Fun K x x st f fd->FnOk P w K mg base CX0 k f fd ps (spD K F)) :
  ∃f fd,mg x=some (.ref f)/\(∀us:List Value,us.length=ps.length->bindArgs fd ⟨us,[]⟩=pure (ps.zip us))/\∀base,FnOk P w K mg base CX0 k f fd ps (spD K F):=by
 obtain⟨f,fd,a,b,c⟩:=Z.ex
 exact⟨f,fd,b,c,λbase=>h base f fd a⟩
end
section
variable {X:Cx} {k:Nat} {ps:List Str} {F:FD} {x:Str} {p pos:Pos} {e:Expr} {es:List Expr} {t:RA}
theorem aP (C:FnAt X.prog X.w X.K X.mg X.base x ps k F) (hr:Room k X.A) (ha:DA X (e::es) t) (hg:Gl X x:=by rfl)
  (hdb:(x == ("__debug__":Str))=false:=by decide) (he:starEach (e::es) X.env=(false,eval e X.env)::starEach es X.env:=by rfl) (hpl:(backTo pos (starEach es X.env)).any (·.1)=false:=by rfl) :
  DE X (.Call (.Name x p) (e::es) [] pos) (aX F t):=by
 obtain⟨f,fd,G,hb,hk,hm⟩:=C.ex
 exact HY G hr hm hk hb ha hg hdb he hpl
end
noncomputable def xC (n:Nat):FD:=λds Q=>∃ns:List Int,ds=[.lst (ns.map .int)]/\ns.length<=n/\Q (.bl true)
theorem NZ {K:PySem.W.Frag} {H:Hp} {a:Addr} {vs:List V} (hO:HQ H) (h:SqL K H a vs):FzL K H a vs:=by
 rcases h with (h | ⟨o,h⟩) | h
 ·rcases hO a with z | ⟨o,xs,z⟩
  ·rw[z] at h;cases h
  ·rw[z] at h;cases h
 ·exact .inl ⟨o,h⟩
 ·exact .inr h
theorem walk_law {l:PySem.W.OpenLaw} {q:Program} {loose:List Str} {XP:(Str->Option Value)->Heap->Prop} {YP:World->Heap->Prop} {d:DefRec} {K:Params->PySem.W.Frag} {x:Str} {k:Nat}
  (hn:l.most=some 63) (hdf:d.params.defaults=[]) (hr:Room k callerA)
  (hY:∀(w:World) (h:Heap),YP w h->(K w.params).In h) (hd:d.name = "law")
  (F:∀(w:World) (mg:Str->Option Value) (h:Heap),(K w.params).In h->h.Ns mainGlobals mg ->
   ∃f fd,mg "law" = some (.ref f)/\(∀us:List Value,us.length=[x].length->bindArgs fd ⟨us,[]⟩=pure ([x].zip us))/\∀base,FnOk l.prog w (K w.params) mg base CX0 k f fd [x] (spD (K w.params) (xC 63))) :
  PySem.W.WalkO q loose XP YP l.row.toRowW d [] (λf vs=>PySem.call f vs):=by
 refine L2.walk_of (n:=63) (k:=k) (x:=x) (CX:=λ_=>CX0) (sp:=λw=>spD (K w.params) (xC 63)) hn (by decide) hdf hr hY ?_ ?_ λ_ _ _ _ _ z=>z
 ·intro w mg fa h KX G hmg
  rw[hd] at hmg
  obtain⟨f,fd,hm,hb,hF⟩:=F w mg h KX G
  rw[hmg] at hm;cases hm
  exact⟨fd,λs u=>.of_eq (hb [u] rfl),λbase _ _=>hF base⟩
 ·intro w H a ns hl hO hS
  exact⟨[.lst (ns.map .int)],λd=>d = .bl true,.cons (.lst (NZ hO hS) .ints) .nil,⟨ns,rfl,hl,rfl⟩,λd v H' e _ r=>by subst e;exact r.bl_inv⟩
noncomputable def eqL (f:D->D->Option Bool):List D->List D->Option Bool
 | [],[]=>some true
 | [],_::_=>some false
 | _::_,[]=>some false
 | x::xs,y::ys=>match f x y,eqL f xs ys with
  | some a,some b=>some (a && b)
  | _,_=>none
noncomputable def eqF:Nat->D->D->Option Bool
 | 0,_,_=>none
 | n+1,d,e=>match d,e with
  | .int a,.int b=>some (decide (a=b))
  | .bl a,.bl b=>some (decide (a=b))
  | .non,.non=>some true
  | .non,.tup _=>some false
  | .tup _,.non=>some false
  | .tup xs,.tup ys=>eqL (eqF n) xs ys
  | .lst xs,.lst ys=>eqL (eqF n) xs ys
  | _,_=>none
theorem oV {f:D->D->Option Bool}:∀{xs ys:List D} {b:Bool},eqL f xs ys=some b->∀(j:Nat) (x y:D),xs[j]? = some x->ys[j]? = some y->∃c,f x y=some c
 | [],_,_,_,j,x,y,e,_=>by simp at e
 | _::_,[],_,_,j,x,y,_,e=>by simp at e
 | a::xs,c::ys,b,h,j,x,y,e1,e2=>by
  unfold eqL at h
  split at h
  ·rename_i p q hp hq
   cases j with
   | zero=>simp at e1 e2;subst e1 e2;exact⟨p,hp⟩
   | succ j=>exact oV hq j x y (by simpa using e1) (by simpa using e2)
  ·cases h
theorem lW {f:D->D->Option Bool}:∀{xs ys:List D} {b:Bool},eqL f xs ys=some b ->
  ((List.range (min xs.length ys.length)).all (λj=>match xs[j]?,ys[j]? with | some x,some y=>(f x y).getD false | _,_=>false) && xs.length == ys.length)=b
 | [],[],b,h=>by cases h;rfl
 | [],_::_,b,h=>by cases h;rfl
 | _::_,[],b,h=>by cases h;rfl
 | x::xs,y::ys,b,h=>by
  unfold eqL at h
  split at h
  ·rename_i p q hp hq
   cases h
   have ih:=lW hq
   rw[<-ih]
   simp only[List.length_cons,Nat.succ_min_succ,List.range_succ_eq_map,List.all_cons,List.getElem?_cons_zero,hp,Option.getD_some,List.all_map]
   rw[Bool.and_assoc]
   congr 1
   congr 1
   rw[Bool.eq_iff_iff];simp
  ·cases h
section
variable {X:Cx} {pins:List (Addr × Obj)} {σ:St} {H:Hp} {s:Shared}
theorem pN {f:D->D->Option Bool} (hf:∀{d e:D} {v:V} {b:Bool},f d e=some b->Rep X.K H d v->Rep X.K H e v->b=true):∀{xs ys:List D} {vs:List V} {b:Bool},eqL f xs ys=some b->Reps X.K H xs vs->Reps X.K H ys vs->b=true:=by
 intro xs
 induction xs with
 | nil=>intro ys vs b h q1 q2;cases q1;cases q2;cases h;rfl
 | cons x xs ih =>
  intro ys vs b h q1 q2
  cases q1 with
  | cons r t =>
   cases q2 with
   | cons r' t' =>
    unfold eqL at h
    split at h
    ·rename_i p q hp hq
     cases h
     rw[hf hp r r',ih hq t t'];rfl
    ·cases h
theorem lV (I:Inv X pins σ H s):∀(n:Nat) {d e:D} {v:V} {b:Bool},eqF n d e=some b->Rep X.K H d v->Rep X.K H e v->b=true
 | 0,_,_,_,_,h,_,_=>by cases h
 | n+1,d,e,v,b,h,r1,r2=>by
  unfold eqF at h
  split at h
  ·rw[r1.int_inv] at r2;cases r2;cases h;simp
  ·rw[r1.bl_inv] at r2;cases r2;cases h;simp
  ·cases h;rfl
  ·cases r1;cases r2
  ·cases r2;cases r1
  ·rename_i xs ys
   cases r1 with
   | @tup a vs _ h1 q1 =>
    cases r2 with
    | @tup _ ws _ h2 q2 =>
     rw[h1] at h2;cases h2
     exact pN (λ{d e v b}=>lV I n) h q1 q2
  ·rename_i xs ys
   cases r1 with
   | @lst a vs _ h1 q1 =>
    cases r2 with
    | @lst _ ws _ h2 q2 =>
     rw[I.list_inj h2.sq h1.sq] at q2
     exact pN (λ{d e v b}=>lV I n) h q1 q2
  ·cases h
theorem vH (I:Inv X pins σ H s) {n:Nat} {xs ys:List D} {a c:Addr} {vs ws:List V} {b:Bool} {A:Around} (h:eqL (eqF n) xs ys=some b) (h1:SqL X.K H a vs) (q1:Reps X.K H xs vs) (h2:SqL X.K H c ws) (q2:Reps X.K H ys ws) (hu:A.units<cLine)
  (at':∀{d e:D} {v u:V} {x y:Value} {b:Bool},eqF n d e=some b->Rep X.K H d v->Rep X.K H e u->RelV v x->RelV u y->SeqAt.EqAt A.in1 s x y b):SeqAt.RcAt A s (.ref a) (.ref c) b/\SeqAt.EqAt A s (.ref a) (.ref c) b:=by
 obtain⟨its,rv,ht,_⟩:=I.list h1
 obtain⟨its2,rv2,ht2,_⟩:=I.list h2
 have l1:xs.length=its.length:=q1.length.trans rv.length
 have l2:ys.length=its2.length:=q2.length.trans rv2.length
 have rc:SeqAt.RcAt A s (.ref a) (.ref c) b:=by
  by_cases hl:xs.length=ys.length
  ·have:=SeqAt.RcAt.lists (A:=A) (s:=s) (e:=λj=>match xs[j]?,ys[j]? with | some x,some y=>(eqF n x y).getD false | _,_=>false) ht.isList ht2.isList (by simp;omega) hu (λj g1 g2=>?_)
   ·have al:=lW h
    simp only[List.size_toArray,<-l1] at this
    rw[<-hl,Nat.min_self,beq_self_eq_true,Bool.and_true] at al
    rw[al] at this
    exact this
   ·simp only[List.size_toArray] at g1 g2
    have e1:xs[j]? = some (xs[j]'(by omega)):=List.getElem?_eq_getElem _
    have e2:ys[j]? = some (ys[j]'(by omega)):=List.getElem?_eq_getElem _
    obtain⟨k,hk⟩:=oV h j _ _ e1 e2
    rw[e1,e2]
    simp only[hk,Option.getD_some]
    obtain⟨v1,f1,f2⟩:=q1.get e1
    obtain⟨v2,f3,f4⟩:=q2.get e2
    obtain⟨u1,g3,g4⟩:=rv.get f1
    obtain⟨u2,g5,g6⟩:=rv2.get f3
    have a1:its.toArray[j]=u1:=by
     have:=List.getElem?_eq_getElem g1
     rw[this] at g3
     simpa using Option.some.inj g3
    have a2:its2.toArray[j]=u2:=by
     have:=List.getElem?_eq_getElem g2
     rw[this] at g5
     simpa using Option.some.inj g5
    rw[a1,a2]
    exact at' hk f2 f4 g4 g6
  ·have al:=lW h
   have:(xs.length == ys.length)=false:=by simpa using hl
   rw[this,Bool.and_false] at al
   rw[<-al]
   exact SeqAt.RcAt.lists_lengths ht.isList ht2.isList (by simp;omega) hu
 refine⟨rc,?_⟩
 by_cases hac:a=c
 ·subst hac
  rw[I.list_inj h2 h1] at q2
  rw[pN (λ{d e v b}=>lV I n) h q1 q2]
  exact SeqAt.EqAt.same _
 ·exact SeqAt.EqAt.of_refs hac rc
theorem mY (I:Inv X pins σ H s):∀(n:Nat) {d e:D} {v u:V} {x y:Value} {b:Bool} {A:Around},eqF n d e=some b->Rep X.K H d v->Rep X.K H e u->RelV v x->RelV u y->A.units+n<cLine ->
  SeqAt.RcAt A s x y b/\SeqAt.EqAt A s x y b
 | 0,_,_,_,_,_,_,_,_,h,_,_,_,_,_=>by cases h
 | n+1,d,e,v,u,x,y,b,A,h,r1,r2,rx,ry,hu=>by
  have same:=λ(hvu:v=u)=>lV I (n+1) h r1 (hvu ▸ r2)
  unfold eqF at h
  split at h
  ·rename_i i j
   rw[r1.int_inv] at rx;rw[r2.int_inv] at ry
   obtain⟨t,rfl⟩:=rx
   obtain⟨t',rfl⟩:=ry
   cases h
   have e:decide (i=j)=(i == j):=by rw[Bool.beq_eq_decide_eq]
   rw[e]
   exact⟨SeqAt.RcAt.int_int _ _ _ _,SeqAt.EqAt.int_int _ _ _ _⟩
  ·rename_i i j
   rw[r1.bl_inv] at rx;rw[r2.bl_inv] at ry
   cases rx;cases ry
   cases h
   have e:decide (i=j)=(i == j):=by rw[Bool.beq_eq_decide_eq]
   rw[e]
   exact⟨SeqAt.RcAt.bool_bool _ _,SeqAt.EqAt.bool_bool _ _⟩
  ·cases r1;cases r2;cases rx;cases ry;cases h
   exact⟨SeqAt.RcAt.none_none,SeqAt.EqAt.same _⟩
  ·cases r1
   cases r2 with
   | tup h2 q2 =>
    cases rx;cases ry;cases h
    obtain⟨its,rv,ht,_⟩:=I.tuple (SqT.of h2)
    exact⟨SeqAt.RcAt.none_tuple ht (by omega),SeqAt.EqAt.none_tuple ht (by omega)⟩
  ·cases r2
   cases r1 with
   | tup h2 q2 =>
    cases rx;cases ry;cases h
    obtain⟨its,rv,ht,_⟩:=I.tuple (SqT.of h2)
    exact⟨SeqAt.RcAt.tuple_none ht (by omega),SeqAt.EqAt.tuple_none ht (by omega)⟩
  ·rename_i xs ys
   cases r1 with
   | @tup a vs _ h1 q1 =>
    cases r2 with
    | @tup c ws _ h2 q2 =>
     cases rx;cases ry
     obtain⟨its,rv,ht,_⟩:=I.tuple (SqT.of h1)
     obtain⟨its2,rv2,ht2,_⟩:=I.tuple (SqT.of h2)
     have l1:xs.length=its.length:=q1.length.trans rv.length
     have l2:ys.length=its2.length:=q2.length.trans rv2.length
     have rc:SeqAt.RcAt A s (.ref a) (.ref c) b:=by
      have:=SeqAt.RcAt.tuples (A:=A) (s:=s) (e:=λj=>match xs[j]?,ys[j]? with | some x,some y=>(eqF n x y).getD false | _,_=>false) ht ht2 (by omega) (λj g1 g2=>?_)
      ·simp only[List.size_toArray,<-l1,<-l2] at this
       rw[lW h] at this
       exact this
      ·simp only[List.size_toArray] at g1 g2
       have e1:xs[j]? = some (xs[j]'(by omega)):=List.getElem?_eq_getElem _
       have e2:ys[j]? = some (ys[j]'(by omega)):=List.getElem?_eq_getElem _
       obtain⟨k,hk⟩:=oV h j _ _ e1 e2
       rw[e1,e2]
       simp only[hk,Option.getD_some]
       obtain⟨v1,f1,f2⟩:=q1.get e1
       obtain⟨v2,f3,f4⟩:=q2.get e2
       obtain⟨u1,g3,g4⟩:=rv.get f1
       obtain⟨u2,g5,g6⟩:=rv2.get f3
       have a1:its.toArray[j]=u1:=by
        have:=List.getElem?_eq_getElem g1
        rw[this] at g3
        simpa using Option.some.inj g3
       have a2:its2.toArray[j]=u2:=by
        have:=List.getElem?_eq_getElem g2
        rw[this] at g5
        simpa using Option.some.inj g5
       rw[a1,a2]
       exact (mY I n hk f2 f4 g4 g6 (by show A.units+1+n<cLine;omega)).2
     refine⟨rc,?_⟩
     by_cases hac:a=c
     ·subst hac
      rw[same rfl]
      exact SeqAt.EqAt.same _
     ·exact SeqAt.EqAt.of_refs hac rc
  ·rename_i xs ys
   cases r1 with
   | @lst a vs _ h1 q1 =>
    cases r2 with
    | @lst c ws _ h2 q2 =>
     cases rx;cases ry
     exact vH I h h1.sq q1 h2.sq q2 (by omega) λ{d e v u x y b} hk f2 f4 g4 g6=>(mY I n hk f2 f4 g4 g6 (by show A.units+1+n<cLine;omega)).2
  ·cases h
end
noncomputable def dEq:R22:=λx y Q=>match eqF 6 x y with
 | some b=>Q (.bl b)
 | none=>False
section
variable {X:Cx}
theorem LL {X:Cx} {pins:List (Addr × Obj)} {σ:St} {H:Hp} {s:Shared} (I:Inv X pins σ H s) {d e:D} {v u:V} {x y:Value} {b:Bool} {A:Around} (h:eqF 6 d e=some b) (r1:RepB X.K H d v) (r2:RepB X.K H e u) (rx:RelV v x) (ry:RelV u y) (hu:A.units+6<cLine):SeqAt.RcAt A s x y b:=by
 by_cases hl:∃xs ys,d = .lst xs/\e = .lst ys
 ·obtain⟨xs,ys,rfl,rfl⟩:=hl
  obtain⟨a,vs,rfl,h1,q1⟩:=r1.lst
  obtain⟨c,ws,rfl,h2,q2⟩:=r2.lst
  cases rx;cases ry
  exact (vH I (n:=5) h h1 q1 h2 q2 (by omega) λ{d e v u x y b} hk f2 f4 g4 g6=>(mY I 5 hk f2 f4 g4 g6 (by show A.units+1+5<cLine;omega)).2).1
 ·have p1:Rep X.K H d v:=by
   rcases r1 with r | ⟨ds,a,vs,e1,_⟩
   ·exact r
   ·subst e1;cases e <;> first | (cases h;done) | exact absurd ⟨_,_,rfl,rfl⟩ hl
  have p2:Rep X.K H e u:=by
   rcases r2 with r | ⟨ds,a,vs,e1,_⟩
   ·exact r
   ·subst e1;cases d <;> first | (cases h;done) | exact absurd ⟨_,_,rfl,rfl⟩ hl
  exact (mY I 6 h p1 p2 rx ry hu).1
theorem OY {k:Nat} (hr:Room k X.A):OpD X (compareOp .Eq) dEq:=by
 intro pins s σ H x y v u Q I rx ry hh_0
 obtain⟨d,e,P,r1,r2,q,kk⟩:=hh_0
 unfold dEq at q
 split at q
 ·rename_i b hb
  have hu:=hr.units
  exact LL I (A:=X.A) hb r1 r2 rx ry (by omega) _ _ _ _ ⟨.bl b,H,I,rfl,kk _ _ H q (Same.refl H) (.bl b)⟩
 ·exact q.elim
end
theorem iR (env:Env):∀(names:List (Str × NameKind)) (acc:List (Str × Addr)),(∀y∈names,y.2 = .free->∃c,env.cells.lookup y.1=some c) ->
  ∃cl:List (Str × Addr),(do
   let mut cs:=acc
   for (name,kind) in names do
    if kind == .free then cs:=(name,<-cellOf env name)::cs
   return cs:Sem (List (Str × Addr)))=pure cl/\(∀p∈cl,p∈acc\/env.cells.lookup p.1=some p.2)/\(∀p∈acc,p∈cl)/\∀y∈names,y.2 = .free->∃c,(y.1,c)∈cl
 | [],acc,_=>⟨acc,by simp,λp h=>.inl h,λp h=>h,λy h=>by simp at h⟩
 | (n,k)::r,acc,h=>by
  by_cases hk:k = .free
  ·subst hk
   obtain⟨c,hc⟩:=h _ List.mem_cons_self rfl
   obtain⟨cl,e,h1,h2,h3⟩:=iR env r ((n,c)::acc) λy hy=>h y (List.mem_cons_of_mem _ hy)
   refine⟨cl,?_,λp hp=>?_,λp hp=>h2 p (List.mem_cons_of_mem _ hp),λy hy hf=>?_⟩
   ·rw[<-e]
    have hcell:cellOf env n=pure c:=by unfold cellOf;rw[hc]
    simp only[List.forIn_cons,hcell,beq_self_eq_true,if_true,pure_bind]
   ·rcases h1 p hp with q | q
    ·rcases List.mem_cons.mp q with rfl | q
     ·exact .inr hc
     ·exact .inl q
    ·exact .inr q
   ·rcases List.mem_cons.mp hy with rfl | hy
    ·exact⟨c,h2 _ List.mem_cons_self⟩
    ·exact h3 y hy hf
  ·obtain⟨cl,e,h1,h2,h3⟩:=iR env r acc λy hy=>h y (List.mem_cons_of_mem _ hy)
   refine⟨cl,?_,h1,h2,λy hy hf=>?_⟩
   ·rw[<-e]
    have hb:(k == NameKind.free)=false:=by simpa using hk
    simp only[List.forIn_cons,hb,Bool.false_eq_true,if_false,pure_bind]
   ·rcases List.mem_cons.mp hy with rfl | hy
    ·exact absurd hf hk
    ·exact h3 y hy hf
theorem kC {α:Type}:∀{l:List (Str × α)} {x:Str} {c:α},(x,c)∈l->∃c',l.lookup x=some c'
 | [],_,_,h=>by simp at h
 | (y,d)::r,x,c,h=>by
  rw[List.lookup_cons]
  cases e:x == y with
  | true=>exact⟨d,rfl⟩
  | false =>
   rcases List.mem_cons.mp h with q | q
   ·cases q;rw[beq_self_eq_true] at e;cases e
   ·exact kC q
theorem pJ {scope:Scope} {env:Env} (h:∀y∈scope.names,y.2 = .free->∃c,env.cells.lookup y.1=some c) :
  ∃cl,closureFor scope env=pure cl/\(∀x c,cl.lookup x=some c->env.cells.lookup x=some c)/\∀y∈scope.names,y.2 = .free->∃c,cl.lookup y.1=some c:=by
 obtain⟨cl,e,h1,_,h3⟩:=iR env scope.names [] h
 refine⟨cl,e,λx c hx=>?_,λy hy hf=>?_⟩
 ·rcases h1 _ (PySem.mem_of_lookup hx) with q | q
  ·simp at q
  ·exact q
 ·obtain⟨c,hc⟩:=h3 y hy hf
  exact kC hc
noncomputable def fP (X:Cx) (scope:Scope) (N:List Str) (cl:List (Str × Addr)) (C:Addr) (s:Shared) (H:Hp) (fp:List Addr):Cx where
 prog:=X.prog
 w:=X.w
 K:=X.K
 mg:=X.mg
 base:=X.base
 A:=X.A
 N:=N
 s₀:=s
 H₀:=H
 env:=compEnvC scope cl C X.env
 outer:=X.stack
 stack:=X.stack
 ex:=fp
 fn:=λ_=>false
 calm:=X.calm
 pn:=[]
 xe:=λ_ _=>False
structure CScope (X:Cx) (scope:Scope):Prop where
 kind:scope.kind = .function
 nocell:∀y∈scope.names,y.2≠.cell
 locs:∀y∈scope.names,y.2 = .local->scope.names.lookup y.1=some .local
 frees:∀y∈scope.names,y.2 = .free->X.env.kindOf y.1=some .cell\/X.env.kindOf y.1=some .free
theorem dP {env:Env}:∀{names:List (Str × NameKind)} {x:Str} {k:NameKind},(names.map λ(n,k)=>if (k == NameKind.free && env.scope.kind == .function && env.kindOf n == some .cell) then (n,NameKind.cell) else (n,k)).lookup x=some k ->
  (k = .cell\/k = .free)->(∀y∈names,y.2≠.cell)->(x,.free)∈names
 | [],_,_,h,_,_=>by simp at h
 | (n,j)::r,x,k,h,hk,hn=>by
  have h:List.lookup x ((if (j == NameKind.free && env.scope.kind == .function && env.kindOf n == some .cell)=true then (n,NameKind.cell) else (n,j))::r.map λ(n,k)=>if (k == NameKind.free && env.scope.kind == .function && env.kindOf n == some .cell) then (n,NameKind.cell) else (n,k))=some k:=h
  have hn':∀y∈r,y.2≠.cell:=λy hy=>hn y (List.mem_cons_of_mem _ hy)
  cases hx:x == n with
  | true =>
   have e:x=n:=eq_of_beq hx
   subst e
   by_cases hc:(j == NameKind.free && env.scope.kind == .function && env.kindOf x == some .cell)=true
   ·have hj:j = .free:=by
     rw[Bool.and_eq_true,Bool.and_eq_true] at hc
     exact eq_of_beq hc.1.1
    subst hj
    exact List.mem_cons_self
   ·rw[if_neg hc,List.lookup_cons,beq_self_eq_true] at h
    cases h
    rcases hk with rfl | rfl
    ·exact absurd rfl (hn _ List.mem_cons_self)
    ·exact List.mem_cons_self
  | false =>
   by_cases hc:(j == NameKind.free && env.scope.kind == .function && env.kindOf n == some .cell)=true
   ·rw[if_pos hc,List.lookup_cons,hx] at h
    exact List.mem_cons_of_mem _ (dP h hk hn')
   ·rw[if_neg hc,List.lookup_cons,hx] at h
    exact List.mem_cons_of_mem _ (dP h hk hn')
section
variable {X:Cx} {pins:List (Addr × Obj)} {σ:St} {H:Hp} {s:Shared} {scope:Scope} {N:List Str} {cl:List (Str × Addr)} {C:Addr} {fp:List Addr}
theorem HW (I:Inv X pins σ H s) (Sc:CScope X scope) (hcl:∀x c,cl.lookup x=some c->X.env.cells.lookup x=some c) (hall:∀y∈scope.names,y.2 = .free->∃c,cl.lookup y.1=some c)
  (hC:s.heap.objs.size<=C) (hf:∀b∈fp,qQ X pins H b) (hlt:∀b∈fp,b<s.heap.objs.size):(fP X scope N cl C s H fp).Ok:=by
 refine⟨I.ok.mod,Sc.kind,I.ok.glob,I.ok.blt,hC,λx y c h1 h2=>I.ok.inj x y c (hcl x c h1) (hcl y c h2),λx hx=>?_,λx c hx=>absurd (show false=true from hx) Bool.false_ne_true,I.ok.hd,I.ok.frames,.inl rfl,λb hb=>?_,I.bs,Nat.le_trans I.ok.bsz I.sz,λb o e hb=>?_,λb hb hfs=>?_,I.stack,I.stkFree⟩
 ·have hx:(scope.names.map λ(n,k)=>if (k == NameKind.free && X.env.scope.kind == .function && X.env.kindOf n == some .cell) then (n,NameKind.cell) else (n,k)).lookup x=some .cell\/(scope.names.map λ(n,k)=>if (k == NameKind.free && X.env.scope.kind == .function && X.env.kindOf n == some .cell) then (n,NameKind.cell) else (n,k)).lookup x=some .free:=hx
  have:(x,NameKind.free)∈scope.names:=by
   rcases hx with hx | hx
   ·exact dP hx (.inl rfl) Sc.nocell
   ·exact dP hx (.inr rfl) Sc.nocell
  exact hall _ this rfl
 ·obtain⟨f0,f1,f2,f3,f4,f5⟩:=hf b hb
  exact⟨Nat.ne_of_lt (Nat.lt_of_lt_of_le (hlt b hb) hC),λx c e=>f4 x c (hcl x c e)⟩
 ·obtain⟨f0,f1,f2,f3,f4,f5⟩:=hf b hb
  rcases f3 with z | z
  ·exact I.ok.noex b o e z
  ·have h1:=(Heap.lt_size e)
   have h2:=I.ok.bsz
   exact absurd (Nat.lt_of_lt_of_le h1 (Nat.le_trans h2 z)) (Nat.lt_irrefl _)
 ·obtain⟨f0,f1,f2,f3,f4,f5⟩:=hf b hb
  rcases List.mem_cons.mp (I.stkSub b hfs) with e | e
  ·exact f1 e
  ·exact f2 e
noncomputable def tG (σ:St) (k:Nat) (ix:List Nat):St:=List.replicate k none++ix.map λi=>(σ[i]?).join
theorem EI (I:Inv X pins σ H s) (Sc:CScope X scope) (hcl:∀x c,cl.lookup x=some c->X.env.cells.lookup x=some c) (hall:∀y∈scope.names,y.2 = .free->∃c,cl.lookup y.1=some c)
  {s4:Shared} {m:Str->Option Value} {k:Nat} {ix:List Nat} {ys:List Str} (hC:s.heap.objs.size<=C) (hf:∀b∈fp,qQ X pins H b) (hlt:∀b∈fp,b<s.heap.objs.size)
  (hk4:∀b o,s.heap.get? b=some o->s4.heap.get? b=some o) (hos:s4.os=s.os) (hb:AllBare s4.gens) (hns:s4.heap.Ns C m)
  (hN:N.length=k+ys.length) (hdrop:N.drop k=ys) (hix:ix.length=ys.length) (hiy:∀(j:Nat) (y:Str) (i:Nat),ys[j]? = some y->ix[j]? = some i->X.N[i]? = some y/\(y,NameKind.free)∈scope.names)
  (hkind:∀y∈ys,(relabel scope X.env).names.lookup y=some .cell\/(relabel scope X.env).names.lookup y=some .free) :
  Inv (fP X scope N cl C s H fp) [] (tG σ k ix) H s4:=by
 have hfr:H C=none:=I.hok.fresh hC
 refine⟨HW I Sc hcl hall hC hf hlt,hos,hb,Un.kept hk4,⟨m,hns,λi x v e1 e2 e3=>?_⟩,λx c e=>?_,hfr,λx c e=>I.freeC x c (hcl x c e),λp hp=>absurd (show p∈([]:List (Addr × Obj)) from hp) (by simp),I.hok.kept hk4,?_⟩
 ·unfold tG at e2
  by_cases hik:i<k
  ·rw[List.getElem?_append_left (by simpa using hik),List.getElem?_replicate,if_pos hik] at e2
   cases e2
  ·rw[List.getElem?_append_right (by simpa using hik),List.length_replicate,List.getElem?_map] at e2
   cases eo:ix[i-k]? with
   | none=>rw[eo] at e2;cases e2
   | some o =>
    rw[eo] at e2
    have e2:some ((σ[o]?).join)=some (some v):=e2
    have e2':σ[o]? = some (some v):=by
     cases q:σ[o]? with
     | none=>rw[q] at e2;cases e2
     | some z=>rw[q] at e2;cases e2;rfl
    have ey:ys[i-k]? = some x:=by
     rw[<-hdrop,List.getElem?_drop]
     rw[show k+(i-k)=i by omega]
     exact e1
    obtain⟨h1,h2⟩:=hiy _ _ _ ey eo
    have hv:Vis X.env.scope x:=by
     rcases Sc.frees _ h2 rfl with q | q
     ·exact .inr (.inl q)
     ·exact .inr (.inr q)
    obtain⟨m0,hn0,hl0⟩:=I.loc
    obtain⟨u,ru,lu⟩:=hl0 o x v h1 e2' hv
    refine⟨u,ru,.inr ⟨hkind x (List.mem_of_getElem? ey),?_⟩⟩
    obtain⟨c,hc⟩:=hall _ h2 rfl
    refine⟨c,hc,?_⟩
    rcases lu with ⟨q,_⟩ | ⟨_,c',hc',hcell⟩
    ·rcases Sc.frees _ h2 rfl with z | z
     ·rw[z] at q;cases q
     ·rw[z] at q;cases q
    ·have:=hcl x c hc
     rw[this] at hc';cases hc'
     obtain⟨oc,ho,hd⟩:=hcell
     exact⟨oc,hk4 _ _ ho,hd⟩
 ·obtain⟨v,oc,ho,hd⟩:=I.cell x c (hcl x c e)
  exact⟨v,oc,hk4 _ _ ho,hd⟩
 ·unfold tG
  show _=N.length
  rw[List.length_append,List.length_replicate,List.length_map,hix,hN]
end
theorem BJ {prog:Program} {w:World} {A:Around} {R:Result->Shared->Prop} {s:Shared} {elt target iter:Expr} {scope:Scope} {pos:Pos} {it acc:Value} {env:Env} (I:Nat->Shared->Prop)
  (turn:∀n s,I n s->∀E:Value->Shared->Prop,wpAny (model prog w) A (pyNext it) (λr s₁=>match r with
   | none=>R (.ok .next) s₁
   | some v=>wpAny (model prog w) A (letOwnedTupleGo target it v) (λ_ s₁=>wpAny (model prog w) A (assign target env v) (λ_ s₂=>wpAny (model prog w) A (eval elt env) (λx s₃ =>
     wpAny (model prog w) A (call (.builtin "list.append") [acc,x]) (λ_ s₄=>∃m,m<n/\I m s₄) E s₃) E s₂) E s₁) E s₁) E s)
  (n:Nat) (h:I n s):codeAny (model prog w) A (.compLoop (.ListComp elt [⟨target,iter,[],0⟩] scope pos) 0 it acc env) R s:=by
 refine codeAny_loop rfl I (λn s hI=>?_) n h
 show wpAny _ _ ((compTurn (.ListComp elt [⟨target,iter,[],0⟩] scope pos) 0 it acc env).onRaise (λx=>do noteFrame x env;theTreesLotGoes x)) _ _ s
 refine wpAny_noted ?_
 rw[compTurn_list1]
 refine wpAny_bind (wpAny_standAt (wpAny_bind (wpAny_mono (turn n s hI _) (λr s₁ h₁=>?_) λ_ _ h'=>h')))
 cases r with
 | none=>exact wpAny_pure h₁
 | some v =>
  refine wpAny_bind (wpAny_mono h₁ (λ_ s₁' h₁'=>?_) λ_ _ h'=>h')
  exact wpAny_bind (wpAny_mono h₁' (λ_ s₂ h₂=>wpAny_bind (wpAny_bind (wpAny_mono h₂ (λx s₃ h₃=>wpAny_bind (wpAny_mono h₃
   (λ_ s₄ h₄=>wpAny_pure (wpAny_pure ⟨rfl,h₄⟩)) λ_ _ h'=>h')) λ_ _ h'=>h'))) λ_ _ h'=>h')
noncomputable def fZ (g:RG) (te:RE):List D->En->List D->(List D->Prop)->Prop
 | [],_,acc,Q=>Q acc
 | x::xs,ρ,acc,Q=>g x ρ λρ'=>te ρ' λd=>fZ g te xs ρ' (acc++[d]) Q
noncomputable def BI (ρ:En) (i:Nat):Option S:=match ρ[i]? with
 | some (some (.d d))=>some (.d d)
 | _=>none
noncomputable def oD (ρ:En) (k:Nat) (ix:List Nat):En:=List.replicate k none++ix.map (BI ρ)
theorem LC {X X':Cx} {ρ:En} {σ:St} {H:Hp} {k:Nat} {ix:List Nat} (so:StOk X ρ σ H) (hK:X'.K=X.K) (hH:X'.H₀=H):StOk X' (oD ρ k ix) (tG σ k ix) H:=by
 have own:∀(i:Nat) (x:S),(oD ρ k ix)[i]? = some (some x)->∃d,x = .d d:=λi x e=>by
  unfold oD at e
  by_cases hik:i<k
  ·rw[List.getElem?_append_left (by simpa using hik),List.getElem?_replicate,if_pos hik] at e;cases e
  ·rw[List.getElem?_append_right (by simpa using hik),List.getElem?_map] at e
   cases eo:ix[i-(List.replicate k (none:Option S)).length]? with
   | none=>rw[eo] at e;cases e
   | some o =>
    rw[eo] at e
    have e:some (BI ρ o)=some (some x):=e
    have e:=Option.some.inj e
    unfold BI at e
    split at e <;> cases e
    exact⟨_,rfl⟩
 refine⟨by simp[oD,tG],by rw[hH];exact Same.refl H,λi x e=>?_,λi j x y v u a e1 _ _ _ o _=>by
  obtain⟨d,rfl⟩:=own i x e1
  exact o.elim⟩
 unfold oD at e
 by_cases hik:i<k
 ·rw[List.getElem?_append_left (by simpa using hik),List.getElem?_replicate,if_pos hik] at e;cases e
 ·rw[List.getElem?_append_right (by simpa using hik),List.getElem?_map,List.length_replicate] at e
  cases eo:ix[i-k]? with
  | none=>rw[eo] at e;cases e
  | some o =>
   rw[eo] at e
   have e:some (BI ρ o)=some (some x):=e
   have e:=Option.some.inj e
   unfold BI at e
   split at e
   ·rename_i d ed
    cases e
    obtain⟨v,h1,h2⟩:=so.rel o _ ed
    refine⟨v,?_,by rw[hK];exact h2⟩
    unfold tG
    rw[List.getElem?_append_right (by simpa using hik),List.getElem?_map,List.length_replicate,eo,Option.map_some,h1];rfl
   ·cases e
section
variable {X:Cx} {pins:List (Addr × Obj)} {σ:St} {H:Hp} {s2:Shared} {scope:Scope} {N:List Str} {cl:List (Str × Addr)} {fp:List Addr} {it:Addr} {tn:Nat->Heap->Prop} {J:It} {xs:List D} {ρ:En}
 {elt target iter:Expr} {pos:Pos} {g:RG} {te:RE} {k:Nat} {ix:List Nat} {ys:List Str} {P:List D->Prop}
theorem _root_.L2.Inv.track {s s':Shared} {H H':Hp} {a:Addr} {vs:List V} {its:List Value} {n:Nat} (I:Inv X pins σ H s) (I':Inv X pins σ H' s') (ha:s.heap.objs.size<=a) (hn:H' a=none)
  (e:s'.heap.get? a=some { cls:=.type "list",data:=.seq its.toArray n }) (rv:Vals vs its) (hz:vs.length<=sizeLine):Inv X pins σ (upd H' a (.lst vs)) s':=by
 have hL:X.env.locals≠a:=Nat.ne_of_lt (Nat.lt_of_lt_of_le I.lt ha)
 have hcell:∀x c,X.env.cells.lookup x=some c->c≠a:=λx c q z=>by
  obtain⟨v,hv⟩:=I.cell x c q
  exact absurd (Nat.lt_of_lt_of_le hv.lt (by rw[z];exact ha)) (Nat.lt_irrefl _)
 have hs0:∀{b:Addr} {o:Obj},X.s₀.heap.get? b=some o->b≠a:=λ{b o} q=>Nat.ne_of_lt (Nat.lt_of_lt_of_le (Heap.lt_size q) (Nat.le_trans I.sz ha))
 refine⟨I'.ok,I'.os,I'.bare,⟨I'.base.keep,I'.base.slot,λb o q n hx=>?_,I'.base.there,λb ys q=>?_,λb o u q=>?_,λb ps q=>?_⟩,I'.loc,I'.cell,?_,λx c q=>?_,λp hp=>?_,λb u q=>?_,I'.len⟩
 ·rw[aI (hs0 q)];exact I'.base.free b o q n hx
 ·rw[aI (aR (I'.base.tups b ys q) hn)];exact I'.base.tups b ys q
 ·rw[aI (aR (I'.base.frzs b o u q) hn)];exact I'.base.frzs b o u q
 ·obtain⟨m,q2⟩:=I'.base.tbls b ps q
  exact⟨m,by rw[aI (aR q2 hn)];exact q2⟩
 ·rw[aI hL];exact I'.free
 ·rw[aI (hcell x c q)];exact I'.freeC x c q
 ·obtain⟨q1,q2,q3,q4,q5⟩:=I'.pin p hp
  have hp1:p.1≠a:=Nat.ne_of_lt (Nat.lt_of_lt_of_le (Heap.lt_size (I.pin p hp).1) ha)
  exact⟨q1,by rw[aI hp1];exact q2,q3,q4,q5⟩
 ·by_cases hb:b=a
  ·subst hb
   rw[bJ] at q;cases q
   exact⟨hz,its,n,rv,e⟩
  ·rw[aI hb] at q
   exact (I'.hok b u q).stay (λc v _ w=>w) (λc w=>by rw[aI (aR w hn)];exact w) λc ys w=>by rw[aI (aR w hn)];exact w
theorem sD (hc:X.calm=true) (Sc:CScope X scope) (hcl:∀x c,cl.lookup x=some c->X.env.cells.lookup x=some c) (hall:∀y∈scope.names,y.2 = .free->∃c,cl.lookup y.1=some c)
  (hN:N.length=k+ys.length) (hdrop:N.drop k=ys) (hix:ix.length=ys.length) (hiy:∀(j:Nat) (y:Str) (i:Nat),ys[j]? = some y->ix[j]? = some i->X.N[i]? = some y/\(y,NameKind.free)∈scope.names)
  (hkind:∀y∈ys,(relabel scope X.env).names.lookup y=some .cell\/(relabel scope X.env).names.lookup y=some .free)
  (hg:∀C s H fp,DG (fP X scope N cl C s H fp) target g) (he:∀C s H fp,DE (fP X scope N cl C s H fp) elt te)
  (I2:Inv X pins σ H s2) (so:StOk X ρ σ H) (T:Turn X.prog X.w X.K target J fp it tn) (st:tn 0 s2.heap) (hf:∀b∈fp,qQ X pins H b) (ok:DQ X J xs H) (hz:xs.length<=sizeLine)
  (hP:fZ g te xs (oD ρ k ix) [] P) {RR:Value->Addr->Result->Shared->Prop} {E:Value->Shared->Prop}
  (post:∀(ds:List D) (vs:List V) (its:List Value) (n:Nat) (C:Addr) (s':Shared) (H':Hp),P ds->Same H H'->H' s2.heap.objs.size=none->Reps X.K H' ds vs->Vals vs its->vs.length<=sizeLine ->
   s'.heap.get? s2.heap.objs.size=some { cls:=.type "list",data:=.seq its.toArray n }->Inv X pins σ H' s'->(∃m,s'.heap.Ns C m)->s2.heap.objs.size<C->H' C=none->RR (.ref s2.heap.objs.size) C (.ok .next) s') :
  wpAny (model X.prog X.w) X.A (newList []) (λacc s₃=>wpAny (model X.prog X.w) X.A (newFunctionEnv scope X.env.globals cl [] X.env.qual none .none (some X.env)) (λcenv s₄ =>
   codeAny (model X.prog X.w) X.A (.compStart (.ListComp elt [⟨target,iter,[],0⟩] scope pos) 0 (.ref it) acc { cenv with scope:=relabel scope X.env }) (RR acc cenv.locals) s₄) E s₃) E s2:=by
 refine wpAny_newObj_type (wpAny_newFunctionEnv Sc.nocell (by intro y hy;simp at hy) (λh₁ hns₁ hsb₁=>?_) Sc.kind)
 dsimp only at hns₁ hsb₁ ⊢
 generalize hH2:s2.heap.push { cls:=.type "list",dict:=none,data:=.seq ([]:List Value).toArray } = HP2 at hns₁ hsb₁ ⊢
 have hCs:HP2.objs.size=s2.heap.objs.size+1:=by rw[<-hH2,Heap.size_push]
 have hltC:s2.heap.objs.size<HP2.objs.size:=by rw[hCs];exact Nat.lt_succ_self _
 have hlt:∀b∈fp,b<s2.heap.objs.size:=λb hb=>by
  obtain⟨o,ho,_⟩:=T.obj 0 _ st b hb
  exact Heap.lt_size ho
 have old:∀b o,s2.heap.get? b=some o->h₁.get? b=some o:=λb o e =>
  hsb₁.extBut b o (Nat.ne_of_lt (Nat.lt_trans (Heap.lt_size e) hltC)) (Heap.get?_push_of_some _ (hH2 ▸ Heap.get?_push_of_some _ e))
 have hacc:h₁.get? s2.heap.objs.size=some { cls:=.type "list",data:=.seq ([]:List Value).toArray 0 } :=
  hsb₁.extBut _ _ (Nat.ne_of_lt hltC) (Heap.get?_push_of_some _ (hH2 ▸ Heap.get?_push_size _ rfl))
 have hfr:H s2.heap.objs.size=none:=I2.hok.fresh (Nat.le_refl _)
 let X':=fP X scope N cl HP2.objs.size s2 H fp
 have J0:Inv X' [] (tG σ k ix) H { s2 with heap:=h₁,toks:=s2.toks+([]:List (Str × Value)).length } :=
  EI I2 Sc hcl hall (Nat.le_of_lt hltC) hf hlt old rfl I2.bare hns₁ hN hdrop hix hiy hkind
 have S0:StOk X' (oD ρ k ix) (tG σ k ix) H:=LC so rfl rfl
 have hD0fs:s2.heap.objs.size ∉ X'.fs:=λhb=>by
  have hb:s2.heap.objs.size∈frs X.stack:=hb
  rcases List.mem_cons.mp (I2.stkSub _ hb) with e | e
  ·exact absurd (show X.env.locals<X.env.locals from Nat.lt_of_lt_of_eq I2.lt e) (Nat.lt_irrefl _)
  ·exact I2.nofs (Nat.le_refl _) e
 have fpok:∀{H':Hp} {o:Obj},(∀b∈fp,H' b=none)->∀b∈fp,qQ X' [(s2.heap.objs.size,o)] H' b:=λ{H' o} hn b hb=>by
  obtain⟨f0,f1,f2,f3,f4,f5⟩:=hf b hb
  refine⟨hn b hb,Nat.ne_of_lt (Nat.lt_trans (hlt b hb) hltC),λhfs=>?_,.inl hb,λx c e=>f4 x c (hcl x c e),λp hp=>?_⟩
  ·rcases List.mem_cons.mp (I2.stkSub b hfs) with e | e
   ·exact f1 e
   ·exact f2 e
  ·have:p=(s2.heap.objs.size,o):=by simpa [X',fP] using hp
   subst this
   exact Nat.ne_of_gt (hlt b hb)
 have pinD:∀{σ':St} {H':Hp} {s':Shared} {its:List Value} {n:Nat},Inv X' [] σ' H' s'->H' s2.heap.objs.size=none->s'.heap.get? s2.heap.objs.size=some { cls:=.type "list",data:=.seq its.toArray n }->Inv X' [(s2.heap.objs.size,{ cls:=.type "list",data:=.seq its.toArray n })] σ' H' s':=λI' hn e =>
  I'.pins_of λp hp=>by
   have:=List.mem_singleton.mp hp
   subst this
   exact⟨e,hn,Nat.ne_of_lt hltC,hD0fs,λv z=>by cases z⟩
 have loop:∀s₃:Shared,s₃ = { s2 with heap:=h₁,toks:=s2.toks+([]:List (Str × Value)).length } ->
   codeAny (model X.prog X.w) X.A (.compLoop (.ListComp elt [⟨target,iter,[],0⟩] scope pos) 0 (.ref it) (.ref s2.heap.objs.size) (compEnvC scope cl HP2.objs.size X.env)) (RR (.ref s2.heap.objs.size) HP2.objs.size) s₃:=by
  rintro s₃ rfl
  refine BJ (λm s'=>∃(i:Nat) (ρ':En) (σ':St) (H':Hp) (ds:List D) (vs:List V) (its:List Value) (n:Nat),m=xs.length-i/\i<=xs.length/\Inv X' [] σ' H' s'/\StOk X' ρ' σ' H'/\tn i s'.heap/\(∀b∈fp,H' b=none) /\
   H' s2.heap.objs.size=none/\s'.heap.get? s2.heap.objs.size=some { cls:=.type "list",data:=.seq its.toArray n }/\Reps X.K H' ds vs/\Vals vs its/\vs.length=i/\fZ g te (xs.drop i) ρ' ds P) ?_ xs.length
   ⟨0,oD ρ k ix,tG σ k ix,H,[],[],[],0,rfl,Nat.zero_le _,J0,S0,T.keep _ _ _ st (λb hb o e=>old b o e),λb hb=>(hf b hb).1,hfr,hacc,.nil,.nil,rfl,by simpa using hP⟩
  rintro m s' ⟨i,ρ',σ',H',ds,vs,its,n,rfl,hi,I',S',st',fr',hn',e',rr,rv,hl,hD⟩ E'
  obtain⟨o1,o2⟩:=ok i H' (.of S'.same)
  have I1:=pinD I' hn' e'
  by_cases hlt':i<xs.length
  ·have e:xs.drop i=xs[i]::xs.drop (i+1):=List.drop_eq_getElem_cons hlt'
   rw[e] at hD
   obtain⟨go,yl⟩:=o1 xs[i] (List.getElem?_eq_getElem hlt')
   refine thn (T.item X' rfl rfl rfl hc i _ s' σ' H' E' I1 (fpok fr') st' go) λr s4 ⟨u,hr,h4⟩=>?_
   subst hr
   refine thn h4 λ_ s5 ⟨x,H5,I5,r5,y5,st5,fr5⟩=>?_
   obtain⟨s45,rx5⟩:=yl x H5 y5
   have I5':=I5.pinned (fpok fr5) (T.obj _ _ st5)
   refine wpAny_mono (hg _ _ _ _ _ s5 σ' H5 x u (λσ6 H6=>∃ρ6,te ρ6 (λd=>fZ g te (xs.drop (i+1)) ρ6 (ds++[d]) P)/\Keep H5 H6/\StOk X' ρ6 σ6 H6) I5' r5 ⟨xs[i],ρ',_,rx5,S'.ext s45,hD,λρ6 σ6 H6 q6 k6 s6=>⟨ρ6,q6,k6,s6⟩⟩) (λ_ s6 ⟨σ6,H6,I6,ρ6,q6,k6,S6⟩=>?_) λ_ _ z=>z.elim
   refine wpAny_mono (he _ _ _ _ _ s6 σ6 H6 (λv H7=>∃d,fZ g te (xs.drop (i+1)) ρ6 (ds++[d]) P/\Same H6 H7/\Rep X.K H7 d v) I6 ⟨ρ6,_,S6,q6,λd v H7 q7 s7 r7=>⟨d,q7,s7,r7⟩⟩) (λu7 s7 ⟨v7,H7,I7,rv7,d,q7,s67,r7⟩=>?_) λ_ _ z=>z.elim
   obtain⟨e7,n7,_,_,_⟩:=I7.pin (s2.heap.objs.size,_) (List.mem_append_right _ (List.mem_append_left _ List.mem_cons_self))
   have hsz:its.toArray.size+1<=sizeLine:=by
    rw[List.size_toArray,<-rv.length,hl]
    omega
   refine call_meets F.slot_list_append ⟨_,e7,rfl⟩ F.entry_list_append (F.args_list_append_2 _ _) (PySem.list_append s2.heap.objs.size its.toArray n u7 (by omega)) ⟨e7,?_⟩
   have e8:=PySem.IsL.update e7 (λa=>a.push u7)
   have I8:Inv X' [] σ6 H7 s7:=I7.pins_of λp hp=>absurd hp (by simp)
   have upd8:∀b o,b≠s2.heap.objs.size->s7.heap.get? b=some o->(s7.heap.update s2.heap.objs.size (Obj.mapSeq λa=>a.push u7)).get? b=some o:=λb o hb q=>(Heap.get?_update_other s7.heap _ (Ne.symm hb)).trans q
   have I9:Inv X' [] σ6 H7 { s7 with heap:=s7.heap.update s2.heap.objs.size (Obj.mapSeq λa=>a.push u7) } :=
    I8.turned (t':=s7.toks) upd8 n7 (Nat.ne_of_lt hltC) (.inr (Nat.le_refl _)) (λx c q z=>by
     obtain⟨v,hv⟩:=I2.cell x c (hcl x c q)
     exact absurd hv.lt (by rw[z];exact Nat.lt_irrefl _)) (λp hp=>absurd (show p∈([]:List (Addr × Obj)) from hp) (by simp))
   have k57:Keep H5 H7:=k6.trans (.of s67)
   have k':Keep H' H7:=(Keep.of s45).trans k57
   refine⟨xs.length-(i+1),by omega,i+1,ρ6,σ6,H7,ds++[d],vs++[v7],its++[u7],_,rfl,hlt',I9,S6.ext s67,?_,λb hb=>?_,n7,by simpa using e8,(rr.keep k').append (.cons r7 .nil),rv.append (.cons rv7 .nil),by rw[List.length_append,hl];rfl,q7⟩
   ·refine T.keep _ _ _ st5 λb hb o q=>?_
    have q7':=(I7.pin (b,o) (List.mem_append_right _ (List.mem_append_right _ (gX hb q)))).1
    exact upd8 b o (Nat.ne_of_lt (hlt b hb)) q7'
   ·obtain⟨o,q,_⟩:=T.obj _ _ st5 b hb
    exact (I7.pin (b,o) (List.mem_append_right _ (List.mem_append_right _ (gX hb q)))).2.1
  ·have hie:i=xs.length:=by omega
   subst hie
   rw[List.drop_length] at hD
   refine thn (T.done X' rfl rfl rfl hc _ _ s' σ' H' E' I1 (fpok fr') st' (o2 (Nat.le_refl _))) λr s4 ⟨hr,I4⟩=>?_
   subst hr
   obtain⟨e4,n4,_,_,_⟩:=I4.pin (s2.heap.objs.size,_) (List.mem_append_right _ List.mem_cons_self)
   obtain⟨m4,hn4,_⟩:=I4.loc
   have I5:Inv X pins σ H' s4:=I2.call' (ch:=fp) I4.os I4.base I4.hok I4.bare λb hb=>by
    obtain⟨f0,f1,f2,f3,f4,f5⟩:=hf b hb
    exact⟨f3,f1,f4,f5⟩
   exact post ds vs its n HP2.objs.size s4 H' hD S'.same n4 rr rv (by rw[hl];exact hz) e4 I5 ⟨m4,hn4⟩ hltC I4.free
 exact codeAny_compStart_list (loop _ rfl) (T.self X.A 0 _ _ _ (T.keep _ _ _ st λb hb o e=>old b o e) (loop _ rfl))
end
noncomputable def zL (X:Cx) (scope:Scope) (N:List Str) (k:Nat) (ix:List Nat):Bool :=
 scope.kind == .function && scope.names.all (λy=>y.2 != .cell) && scope.names.all (λy=>y.2 != .local || scope.names.lookup y.1 == some .local) &&
 scope.names.all (λy=>y.2 != .free || X.env.kindOf y.1 == some .cell || X.env.kindOf y.1 == some .free) &&
 N.length == k+ix.length && ((N.drop k).zip ix).all (λp=>X.N[p.2]? == some p.1 && scope.names.contains (p.1,.free)) &&
 (N.drop k).all (λy=>(relabel scope X.env).names.lookup y == some .cell || (relabel scope X.env).names.lookup y == some .free)
structure CompF (X:Cx) (scope:Scope) (N:List Str) (k:Nat) (ix:List Nat):Prop where
 sc:CScope X scope
 hN:N.length=k+(N.drop k).length
 hix:ix.length=(N.drop k).length
 hiy:∀(j:Nat) (y:Str) (i:Nat),(N.drop k)[j]? = some y->ix[j]? = some i->X.N[i]? = some y/\(y,NameKind.free)∈scope.names
 hkind:∀y∈N.drop k,(relabel scope X.env).names.lookup y=some .cell\/(relabel scope X.env).names.lookup y=some .free
theorem uT {X:Cx} {scope:Scope} {N:List Str} {k:Nat} {ix:List Nat} (h:zL X scope N k ix=true):CompF X scope N k ix:=by
 unfold zL at h
 simp only[Bool.and_eq_true,List.all_eq_true,bne_iff_ne,ne_eq,Bool.or_eq_true,beq_iff_eq] at h
 obtain⟨⟨⟨⟨⟨⟨h1,h2⟩,h3⟩,h4⟩,h5⟩,h6⟩,h7⟩:=h
 have hl:(N.drop k).length=ix.length:=by rw[List.length_drop];omega
 refine⟨⟨h1,h2,λy hy e=>?_,λy hy e=>?_⟩,by omega,hl.symm,λj y i e1 e2=>?_,h7⟩
 ·rcases h3 y hy with q | q
  ·exact absurd e q
  ·exact q
 ·rcases h4 y hy with (q | q) | q
  ·exact absurd e q
  ·exact .inl q
  ·exact .inr q
 ·have hm:(y,i)∈(N.drop k).zip ix:=by
   refine List.mem_of_getElem? (i:=j) ?_
   rw[List.getElem?_zip_eq_some]
   exact⟨e1,e2⟩
  obtain⟨q1,q2⟩:=h6 _ hm
  exact⟨q1,List.contains_iff_mem.mp q2⟩
noncomputable def jE (ti:RA) (k:Nat) (ix:List Nat) (g:RG) (te:RE):RA:=λρ Q=>ti ρ λxs=>Sz xs.length/\fZ g te xs (oD ρ k ix) [] Q
section
variable {X:Cx} {scope:Scope} {elt target iter:Expr} {pos:Pos} {g:RG} {te:RE} {ti:RA}
theorem nV {pins:List (Addr × Obj)} {σ:St} {H H':Hp} {s s':Shared} {C:Addr} {h':Heap} {t':Nat} (I2:Inv X pins σ H s) {σ':St} (I':Inv X pins σ' H' s') (hC:s.heap.objs.size<=C) (hn:H' C=none) (hs:Heap.SameBut C s'.heap h') :
  Inv X pins σ' H' { s' with heap:=h',toks:=t' } :=
 I'.turned (λb o hb e=>(hs.2 b hb).trans e) hn (Nat.ne_of_gt (Nat.lt_of_lt_of_le I2.lt hC)) (.inr (Nat.le_trans I2.sz hC)) (λx c e z=>by
  obtain⟨v,hv⟩:=I2.cell x c e
  exact absurd (Nat.lt_of_lt_of_le hv.lt (by rw[z];exact hC)) (Nat.lt_irrefl _)) λp hp z=>absurd (Nat.lt_of_lt_of_le (Heap.lt_size (I2.pin p hp).1) (by rw[z];exact hC)) (Nat.lt_irrefl _)
theorem jP (N:List Str) (k:Nat) (ix:List Nat) (hi:DI X target iter ti) (hg:∀cl C s H fp,DG (fP X scope N cl C s H fp) target g) (he:∀cl C s H fp,DE (fP X scope N cl C s H fp) elt te)
  (hc:X.calm=true:=by rfl) (hB:zL X scope N k ix=true:=by rfl) (hs:∀x,foldedSetIterable iter X.env x=pure x:=by intro _;rfl):DO X (.ListComp elt [⟨target,iter,[],0⟩] scope pos) (jE ti k ix g te):=by
 intro pins s σ H Q I hh_0
 obtain⟨ρ,P,so,q,kk⟩:=hh_0
 have F:=uT hB
 obtain⟨cl,hclos,hcl,hall⟩:=pJ (scope:=scope) (env:=X.env) λy hy hf=>I.ok.has _ (F.sc.frees y hy hf)
 rw[eval_ListComp]
 refine wpAny_comprehension_free (use:=none) rfl hs hclos F.sc.kind F.sc.locs (thn (hi pins s σ H (λJ H'=>∃xs,Same H H'/\DQ X J xs H'/\xs.length<=sizeLine/\fZ g te xs (oD ρ k ix) [] P) I ⟨ρ,_,so,q,λxs J H' hx s1 ok=>⟨xs,s1,ok,hx.1.ok,hx.2⟩⟩) λv s1 h1=>thn h1 λitv s2 h2=>?_)
 obtain⟨it,fp,tn,J,H',rfl,I2,T,st,hf,xs,s01,ok,hz,hD⟩:=h2
 refine sD (RR:=λacc C=>compPost (model X.prog X.w) X.A X.xe none (EP X pins σ Q) acc C) hc F.sc hcl hall F.hN rfl F.hix F.hiy F.hkind (hg cl) (he cl) I2 (so.ext s01) T st hf ok hz hD ?_
 intro ds vs its n C s' H2 hP s12 hn rr rv hl e I' ⟨m,hns⟩ hltC hnC
 refine⟨m,hns,λh' hs'=>?_⟩
 have I3:Inv X pins σ H2 { s' with heap:=h' }:=nV (t':=s'.toks) I2 I' (Nat.le_of_lt hltC) hnC hs'
 have e3:h'.get? s2.heap.objs.size=some { cls:=.type "list",data:=.seq its.toArray n }:=(hs'.2 _ (Nat.ne_of_lt hltC)).trans e
 exact⟨.ref s2.heap.objs.size,_,I2.track I3 (Nat.le_refl _) hn e3 rv hl,rfl,kk ds _ vs H2 hP (s01.trans s12) hn rr⟩
theorem zT {i:Nat} {y:Str} {pos' spos:Pos} (N:List Str) (k:Nat) (ix:List Nat) (hN:X.N.Nodup) (hi:DI X target iter ti) (hg:∀cl C s H fp,DG (fP X scope N cl C s H fp) target g) (he:∀cl C s H fp,DE (fP X scope N cl C s H fp) elt te)
  (hy:X.N[i]? = some y:=by rfl) (hx:X.env.scope.names.lookup y=some .local:=by rfl) (hc:X.calm=true:=by rfl) (hB:zL X scope N k ix=true:=by rfl) (hs:∀x,foldedSetIterable iter X.env x=pure x:=by intro _;rfl)
  (hsw:swapsWith (.ListComp elt [⟨target,iter,[],0⟩] scope pos) (some (.Name y pos')) spos.line X.env=pure true:=by rfl) :
  DS X (.Assign [.Name y pos'] (.ListComp elt [⟨target,iter,[],0⟩] scope pos) spos) (mI i (jE ti k ix g te)):=by
 intro pins s σ H De I hh_0
 obtain⟨ρ,E,so,q,nn,rt,bk,ct⟩:=hh_0
 have F:=uT hB
 obtain⟨cl,hclos,hcl,hall⟩:=pJ (scope:=scope) (env:=X.env) λy hy hf=>I.ok.has _ (F.sc.frees y hy hf)
 rw[exec_Assign_Name_used _ _ _ _ hsw]
 refine wpAny_bind (wpAny_standAt (wpAny_bind ?_))
 show wpAny _ X.A (do let _ <-comprehension (.ListComp elt [⟨target,iter,[],0⟩] scope pos) scope X.env _ (newList []) false (eval iter X.env) (some (assign (.Name y pos') X.env))) _ _ s
 refine wpAny_bind (wpAny_mono (wpAny_comprehension_free (use:=some (assign (.Name y pos') X.env)) (Q:=λ_ s'=>SP X pins De .next s') rfl hs hclos F.sc.kind F.sc.locs
  (thn (hi pins s σ H (λJ H'=>∃xs,Same H H'/\DQ X J xs H'/\xs.length<=sizeLine/\fZ g te xs (oD ρ k ix) [] (λds=>E.nx (ρ.set i (some (.own ds))))) I ⟨ρ,_,so,q,λxs J H' hx s1 ok=>⟨xs,s1,ok,hx.1.ok,hx.2⟩⟩) λv s1 h1=>thn h1 λitv s2 h2=>?_)) (λ_ s' hq=>wpAny_pure (wpAny_pure hq)) λ_ _ e=>e)
 obtain⟨it,fp,tn,J,H',rfl,I2,T,st,hf,xs,s01,ok,hz,hD⟩:=h2
 refine sD (RR:=λacc C=>compPost (model X.prog X.w) X.A X.xe (some (assign (.Name y pos') X.env)) (λ_ s'=>SP X pins De .next s') acc C) hc F.sc hcl hall F.hN rfl F.hix F.hiy F.hkind (hg cl) (he cl) I2 (so.ext s01) T st hf ok hz hD ?_
 intro ds vs its n C s' H2 hP s12 hn rr rv hl e I' ⟨m,hns⟩ hltC hnC
 have I3:=I2.track I' (Nat.le_refl _) hn e rv hl
 have hneC:s2.heap.objs.size≠C:=Nat.ne_of_lt hltC
 have so3:StOk X (ρ.set i (some (.own ds))) (σ.set i (some (.ref s2.heap.objs.size))) (upd H2 s2.heap.objs.size (.lst vs)):=(so.ext (s01.trans s12)).set_own hn rr
 have k3:Keep H (upd H2 s2.heap.objs.size (.lst vs)):=(Keep.of (s01.trans s12)).trans (.of λb o h=>by rw[aI (aR h hn)];exact h)
 show wpAny (model X.prog X.w) X.A (assign (.Name y pos') X.env (.ref s2.heap.objs.size)) _ _ s'
 refine wpAny_assign_Name (sS I3 hN hy (.inl hx) (v:=.ref s2.heap.objs.size) rfl (λs4 I4 ⟨a,sb,ha⟩=>?_) (.inr hx))
 have hCa:C≠a:=by
  rcases ha with rfl | ha
  ·exact Nat.ne_of_gt (Nat.lt_trans I2.lt hltC)
  ·obtain⟨v,hv⟩:=I2.cell _ a ha
   exact Nat.ne_of_gt (Nat.lt_trans hv.lt hltC)
 refine⟨m,hns.sameBut sb hCa,λh' hs'=>⟨_,_,nV (t':=s4.toks) I2 I4 (Nat.le_of_lt hltC) (by rw[aI (Ne.symm hneC)];exact hnC) hs',nn _ _ _ hP k3 so3⟩⟩
end
section
variable {X:Cx} {e a b:Expr} {pos apos cpos npos:Pos} {te:RE} {x:Str}
noncomputable def iF (i:Nat) (te:RE):RS:=λE ρ=>match ρ[i]? with
 | some (some (.own xs))=>te ρ λd=>Sz (xs.length+1)/\E.nx (ρ.set i (some (.own (xs++[d]))))
 | _=>False
theorem cS (i:Nat) (he:DE X e te) (hN:X.N[i]? = some x:=by rfl) (hv:Vis X.env.scope x:=by walk_at "vis") (hd:(x == ("__debug__":Str))=false:=by decide) (hcd:(x == ("__classdict__":Str))=false:=by decide)
  (hbase:attributeBase (.Name x npos) "append" X.env (eval (.Name x npos) X.env)=eval (.Name x npos) X.env:=by rfl)
  (hfew:((backTo cpos (starEach [e] X.env)).all (λx=>!x.1) && (backToKw cpos (keywordEach [] X.env)).all (λx=>x.1.isSome) && decide (([e]:List Expr).length+([]:List Keyword).length+(if ([]:List Keyword).isEmpty then 0 else 1)<30))=true:=by rfl)
  (hline:(apos.endLine == cpos.line)=true:=by rfl) (hs:starEach [e] X.env=[(false,eval e X.env)]:=by rfl) (hn:starEach [] X.env=[]:=by rfl) (hsw:swapsWith (.Call (.Attribute (.Name x npos) "append" apos) [e] [] cpos) none pos.line X.env=pure false:=by rfl) :
  DS X (.Expr (.Call (.Attribute (.Name x npos) "append" apos) [e] [] cpos) pos) (iF i te):=by
 refine PS.mono (AN (KS PySem.F.plainAttrs_list PySem.F.slot_list_append PySem.F.type_list_append CJ (pv i hN hv hd hcd) (fV he hs hn) hbase hfew hline (by rw[hs,hn]) (by rw[hn];rfl)) hsw) λDe σ H hh=>eO hh λρ E so q n r bk ct=>?_
 unfold iF at q
 split at q
 ·rename_i xs ex
  obtain⟨v,h1,p,vs,ev,hp,h0,rr⟩:=so.rel i _ ex
  subst ev
  refine⟨.ref p,h1,.inl ⟨rfl,vs,SqL.of hp⟩,ρ,_,so,q,λd v H1 hd s1 rd=>?_⟩
  have hp1:=s1 _ _ hp
  obtain⟨so2,k2⟩:=(so.ext s1).upd_own ex h1 hp1 h0 ((rr.keep (.of s1)).append (.cons rd .nil))
  have hsz:xs.length+1<=sizeLine:=hd.1.ok
  exact⟨p,vs,v,rfl,rfl,hp1,by rw[<-rr.length];omega,n _ _ _ hd.2 ((Keep.of s1).trans k2) so2⟩
 ·exact q.elim
noncomputable def AO (i:Nat):RS:=λE ρ=>match ρ[i]? with
 | some (some (.own xs))=>xs≠[]/\E.nx (ρ.set i (some (.own xs.dropLast)))
 | _=>False
theorem LJ (i:Nat) (hN:X.N[i]? = some x:=by rfl) (hv:Vis X.env.scope x:=by walk_at "vis") (hd:(x == ("__debug__":Str))=false:=by decide) (hcd:(x == ("__classdict__":Str))=false:=by decide)
  (hbase:attributeBase (.Name x npos) "pop" X.env (eval (.Name x npos) X.env)=eval (.Name x npos) X.env:=by rfl)
  (hline:(apos.endLine == cpos.line)=true:=by rfl) (hsw:swapsWith (.Call (.Attribute (.Name x npos) "pop" apos) [] [] cpos) none pos.line X.env=pure false:=by rfl) :
  DS X (.Expr (.Call (.Attribute (.Name x npos) "pop" apos) [] [] cpos) pos) (AO i):=by
 refine PS.mono (AN (MS PySem.F.plainAttrs_list PySem.F.slot_list_pop PySem.F.type_list_pop ML (pv i hN hv hd hcd) hbase hline) hsw) λDe σ H hh=>eO hh λρ E so q n r bk ct=>?_
 unfold AO at q
 split at q
 ·rename_i xs ex
  obtain⟨v,h1,p,vs,ev,hp,h0,rr⟩:=so.rel i _ ex
  subst ev
  have hl:=rr.length
  have hne:0<xs.length:=List.length_pos_iff.mpr q.1
  have hg:vs[vs.length-1]? = some (vs[vs.length-1]'(by omega)):=List.getElem?_eq_getElem _
  obtain⟨so2,k2⟩:=so.upd_own ex h1 hp h0 rr.dropLast
  exact⟨.ref p,h1,.inl ⟨rfl,vs,SqL.of hp⟩,p,vs,_,rfl,rfl,hp,hg,n _ _ _ q.2 k2 so2⟩
 ·exact q.elim
noncomputable def qF (i:Nat) (te tk:RE):RS:=λE ρ=>match ρ[i]? with
 | some (some (.own xs))=>te ρ λd=>tk ρ λkd=>match kd with
  | .int k=>match ixN xs.length k with
   | some j=>E.nx (ρ.set i (some (.own (xs.set j d))))
   | none=>False
  | _=>False
 | _=>False
theorem FH {k:Expr} {tk:RE} {spos:Pos} (i:Nat) (he:DE X e te) (hk:DE X k tk) (hN:X.N[i]? = some x:=by rfl) (hv:Vis X.env.scope x:=by walk_at "vis") (hd:(x == ("__debug__":Str))=false:=by decide) (hcd:(x == ("__classdict__":Str))=false:=by decide)
  (ha:∀v,assign (.Subscript (.Name x npos) k spos) X.env v=(do
   let ov <-holding [v] (eval (.Name x npos) X.env)
   let iv <-holding [v,ov] (eval k X.env)
   standAt spos
   holding [v,ov,iv] (setItem ov iv v)
   release [v,ov,iv] []):=by intro _;rfl)
  (hs:swapsWithSole [.Subscript (.Name x npos) k spos] e pos.line X.env=pure false:=by rfl) (hw:swappedStores [.Subscript (.Name x npos) k spos] e X.env=pure none:=by rfl)
  (h1:(assignEach [.Subscript (.Name x npos) k spos] X.env).map (·.2)=[assign (.Subscript (.Name x npos) k spos) X.env]:=by rfl) :
  DS X (.Assign [.Subscript (.Name x npos) k spos] e pos) (qF i te tk):=by
 refine PS.mono (ND he (NA (pv i hN hv hd hcd) hk GW ha) hs hw h1) λDe σ H hh=>eO hh λρ E so q n r bk ct=>?_
 unfold qF at q
 split at q
 ·rename_i xs ex
  obtain⟨w',h1,p,vs,ev,hp,h0,rr⟩:=so.rel i _ ex
  subst ev
  refine⟨ρ,_,so,q,λd v H1 q1 s1 rd=>⟨.ref p,h1,ρ,_,so.ext s1,q1,λkd u H2 q2 s2 rk=>?_⟩⟩
  cases kd with
  | int k =>
   dsimp only at q2
   split at q2
   ·rename_i j hj
    have hp2:=(s1.trans s2) _ _ hp
    obtain⟨so2,k2⟩:=((so.ext s1).ext s2).upd_own ex h1 hp2 h0 ((rr.keep (.of (s1.trans s2))).set (rd.keep (.of s2)) j)
    exact⟨p,vs,k,j,rfl,rk.int_inv,hp2,by rw[<-rr.length];exact hj,n _ _ _ q2 ((Keep.of (s1.trans s2)).trans k2) so2⟩
   ·exact q2.elim
  | _=>exact q2.elim
 ·exact q.elim
end
section
variable {X:Cx} {e a b:Expr} {pos p:Pos}
theorem JB:OpR X (binaryOp .Add) (λx y H Q=>∃l b xs zs,x = .ref l/\y = .ref b/\SqL X.K H l xs/\SqL X.K H b zs/\xs.length+zs.length<=sizeLine/\∀p,H p=none->Q (.ref p) (upd H p (.lst (xs++zs)))):=by
 intro pins s σ H x y v u Q I rx ry h
 obtain⟨l,b,xs,zs,rfl,rfl,hH,hB,hz,q⟩:=h
 cases rx
 cases ry
 obtain⟨its,r,⟨o,n,e,hc,hd,hs⟩,hl⟩:=I.list hH
 obtain⟨its2,r2,⟨o2,n2,e2,hc2,hd2,hs2⟩,hl2⟩:=I.list hB
 obtain⟨c,d,dt,sl⟩:=o
 obtain⟨c2,d2,dt2,sl2⟩:=o2
 dsimp only at hc hs hd hc2 hs2 hd2
 subst hc hs hd hc2 hs2 hd2
 have hl1:=r.length
 have hl2:=r2.length
 refine concat_meets (T:="list") (id:="list.__add__") ⟨_,e,rfl⟩ ⟨_,e2,rfl⟩ (by kernel_rfl) (by kernel_rfl) PySem.F.slot_list_add PySem.F.entry_list_add (PySem.F.args_list_add_2 _ _)
  (list_addW l b its.toArray its2.toArray n n2 none none sl sl2 (by rw[List.size_toArray,List.size_toArray];omega)) ⟨e,e2,?_⟩
 have ea:its.toArray++its2.toArray=(its++its2).toArray:=by simp
 rw[ea]
 exact⟨.ref _,_,I.lnew (t':=s.toks) (r.append r2) (by rw[List.length_append];omega),rfl,q _ I.fresh⟩
noncomputable def FzQ (X:Cx) (Q:VK):VK:=λv H'=>Q v H'\/∃p vs H1,v = .ref p/\H'=upd H1 p (.lst vs)/\H1 p=none/\∀H2,Same H1 H2->FzL X.K H2 p vs->Q v H2
theorem KH {pins:List (Addr × Obj)} {σ:St} {Q:VK} {u:Value} {s:Shared} (h:EP X pins σ (FzQ X Q) u s):EP X pins σ Q u s:=by
 obtain⟨v,H',I,rv,q | ⟨p,vs,H1,rfl,rfl,hn,q⟩⟩:=h
 ·exact⟨v,H',I,rv,q⟩
 ·obtain⟨o,I2⟩:=Inv.freeze I (a:=p) (xs:=vs) bJ
  exact⟨.ref p,_,I2,rv,q _ (λb u e=>by rw[aI (aR e hn),aI (aR e hn)];exact e) (.inl ⟨o,bJ⟩)⟩
theorem PE.frz {t:TE} (h:PE X e t):PE X e (λσ H Q=>t σ H (FzQ X Q)):=λpins s σ H Q I q=>thn (h pins s σ H _ I q) λ_ _=>KH
theorem OpR.frz {f:Value->Value->Sem Value} {r:R2} (h:OpR X f r):OpR X f (λx y H Q=>r x y H (FzQ X Q)):=λpins s σ H x y v u Q I rx ry q=>thn (h pins s σ H x y v u _ I rx ry q) λ_ _=>KH
noncomputable def nS:R22:=λx y Q=>match x,y with
 | .int i,.int j=>Q (.int (i+j))
 | .lst xs,.lst ys=>Sz (xs.length+ys.length)/\Q (.lst (xs++ys))
 | .tup xs,.tup ys=>xs≠[]/\Sz (xs.length+ys.length)/\Q (.tup (xs++ys))
 | _,_=>False
theorem upd_new {H:Hp} {p:Addr} {o:HO} (hp:H p=none):Same H (upd H p o):=λb u e=>by rw[aI (aR e hp)];exact e
theorem mC:OpD X (binaryOp .Add) nS:=by
 intro pins s σ H x y v u Q I rx ry hh_0
 obtain⟨d,e,P,r1,r2,q,k⟩:=hh_0
 unfold nS at q;split at q
 ·exact aZ pins s σ H x y v u Q I rx ry ⟨_,_,P,r1,r2,q,k⟩
 ·rename_i xs ys
  obtain⟨a,vs,rfl,ha,ra⟩:=r1.lst
  obtain⟨b,ws,rfl,hb,rb⟩:=r2.lst
  have hsz:xs.length+ys.length<=sizeLine:=q.1.ok
  refine OpR.frz JB pins s σ H _ _ v u Q I rx ry ⟨a,b,vs,ws,rfl,rfl,ha,hb,by rw[<-ra.length,<-rb.length];exact hsz,λp hp=>.inr ⟨p,_,H,rfl,rfl,hp,λH2 s2 fz=>k _ _ H2 q.2 s2 (.lst fz ((ra.append rb).keep (.of s2)))⟩⟩
 ·rename_i xs ys
  obtain⟨a,vs,rfl,ha,ra⟩:=r1.tup
  obtain⟨b,ws,rfl,hb,rb⟩:=r2.tup
  have hsz:xs.length+ys.length<=sizeLine:=q.2.1.ok
  have hl:=ra.length
  refine JC pins s σ H _ _ v u Q I rx ry ⟨a,b,vs,ws,rfl,rfl,SqT.of ha,SqT.of hb,λz=>q.1 (List.length_eq_zero_iff.mp (by rw[hl,z];rfl)),by rw[<-ra.length,<-rb.length];exact hsz,λz=>?_,λz p hp=>?_⟩
  ·subst z
   cases rb
   have:=k _ (.ref a) H q.2.2 (Same.refl H)
   rw[List.append_nil] at this
   exact this (.tup ha ra)
  ·exact k _ _ _ q.2.2 (upd_new hp) (.tup bJ ((ra.append rb).keep (.of (upd_new hp))))
 ·exact q.elim
noncomputable def wG (te:RE) (tl th:RO):RE:=λρ Q=>te ρ λx=>tl ρ λl=>th ρ λu=>match x with
 | .lst ds=>Q (.lst (lU ds l u))
 | .tup ds=>¬(HT.sIx ds.length 0 l=0/\HT.sIx ds.length ds.length u=ds.length)/\Q (.tup (lU ds l u))
 | _=>False
theorem uW {K:PySem.W.Frag} {H:Hp} {ds:List D} {vs:List V} (l u:Option Int) (rr:Reps K H ds vs):Reps K H (lU ds l u) (uV vs l u):=by
 unfold lU uV
 rw[<-rr.length]
 exact (rr.drop _).take _
theorem gA {lo hi:Option Expr} {te:RE} {tl th:RO} {p2:Pos} (he:DB X e te) (hl:DP X lo tl) (hu:DP X hi th):DE X (.Subscript e (.Slice lo hi none p2) pos) (wG te tl th):=by
 refine PE.mono (PE.frz (GG (JT.or NY) he hl hu)) λσ H Q hh=>bV hh λρ P st q k=>?_
 refine⟨ρ,_,st,q,λd v H1 hd s1 r1=>⟨ρ,_,st.ext s1,hd,λl H2 h2 s2=>⟨ρ,_,(st.ext s1).ext s2,h2,λu H3 h3 s3=>?_⟩⟩⟩
 have s03:=(s1.trans s2).trans s3
 cases d with
 | lst ds =>
  obtain⟨p,vs,rfl,hq,rr⟩:=(r1.same (s2.trans s3)).lst
  exact .inl ⟨p,vs,rfl,hq,λp' hp'=>.inr ⟨p',_,H3,rfl,rfl,hp',λH4 s4 fz=>k _ _ H4 h3 (s03.trans s4) (.lst fz ((uW l u rr).keep (.of s4)))⟩⟩
 | tup ds =>
  obtain⟨p,vs,rfl,hq,rr⟩:=(r1.same (s2.trans s3)).tup
  refine .inr ⟨p,vs,rfl,SqT.of hq,by rw[<-rr.length];exact h3.1,λp' hp'=>.inl ?_⟩
  exact k _ _ _ h3.2 (s03.trans (upd_new hp')) (.tup bJ ((uW l u rr).keep (.of (upd_new hp'))))
 | _=>exact h3.elim
variable {te:RE}
noncomputable def oS:D->(D->Prop)->Prop:=λd Q=>match d with
 | .lst ds=>Q (.lst ds)
 | .tup ds=>Q (.lst ds)
 | _=>False
theorem rY:bootBuiltins "list" = some (.type "list"):=by decide +kernel
theorem xM:bootBuiltins "tuple" = some (.type "tuple"):=by decide +kernel
theorem BO (hm:X.mg "list" = none) (h:DB X e te) (hg:Gl X "list":=by rfl) (hs:starEach [e] X.env=[(false,eval e X.env)]:=by rfl) (hn:starEach [] X.env=[]:=by rfl):DE X (.Call (.Name "list" p) [e] [] pos) (r1 oS te):=by
 refine PE.mono (PE.frz (sN tF hg hm rY (fV h hs hn) (by decide) (by decide) (by rw[hs,hn]) (by rw[hn];rfl))) λσ H Q hh=>bV hh λρ P st q k=>⟨ρ,_,st,q,λd v H1 hd s1 r=>?_⟩
 unfold oS at hd;split at hd
 ·obtain⟨p,vs,rfl,hq,rr⟩:=r.lst
  exact⟨p,vs,rfl,.inl hq,λp' hp'=>.inr ⟨p',_,H1,rfl,rfl,hp',λH4 s4 fz=>k _ _ H4 hd (s1.trans s4) (.lst fz (rr.keep (.of s4)))⟩⟩
 ·obtain⟨p,vs,rfl,hq,rr⟩:=r.tup
  exact⟨p,vs,rfl,.inr (SqT.of hq),λp' hp'=>.inr ⟨p',_,H1,rfl,rfl,hp',λH4 s4 fz=>k _ _ H4 hd (s1.trans s4) (.lst fz (rr.keep (.of s4)))⟩⟩
 ·exact hd.elim
noncomputable def pK:D->(D->Prop)->Prop:=λd Q=>match d with
 | .lst ds=>Q (.tup ds)
 | .tup ds=>Q (.tup ds)
 | _=>False
theorem vB (hm:X.mg "tuple" = none) (h:DB X e te) (hg:Gl X "tuple":=by rfl) (hs:starEach [e] X.env=[(false,eval e X.env)]:=by rfl) (hn:starEach [] X.env=[]:=by rfl):DE X (.Call (.Name "tuple" p) [e] [] pos) (r1 pK te):=by
 refine PE.mono (sN qZ hg hm xM (fV h hs hn) (by decide) (by decide) (by rw[hs,hn]) (by rw[hn];rfl)) λσ H Q hh=>bV hh λρ P st q k=>⟨ρ,_,st,q,λd v H1 hd s1 r=>?_⟩
 unfold pK at hd;split at hd
 ·obtain⟨p,vs,rfl,hq,rr⟩:=r.lst
  exact⟨p,vs,rfl,.inl ⟨hq,λp' hp'=>k _ _ _ hd (s1.trans (upd_new hp')) (.tup bJ (rr.keep (.of (upd_new hp'))))⟩⟩
 ·obtain⟨p,vs,rfl,hq,rr⟩:=r.tup
  exact⟨p,vs,rfl,.inr ⟨SqT.of hq,k _ _ H1 hd s1 (.tup hq rr)⟩⟩
 ·exact hd.elim
theorem nW:∀{ns:List Int} {its:List Value},Vals (ns.map V.int) its->∃xs:List (Int × Tok),its.toArray=intItems xs.toArray/\xs.map Prod.fst=ns
 | [],_,.nil=>⟨[],by simp[intItems],rfl⟩
 | n::ns,_,.cons ⟨t,rfl⟩ r=>by
  obtain⟨xs,h1,h2⟩:=nW r
  refine⟨(n,t)::xs,?_,by simp[h2]⟩
  have h3:=congrArg Array.toList h1
  simp[intItems] at h3 ⊢
  exact h3
theorem sM {ys:List (Int × Tok)} {ns:List Int} (h:ys.map Prod.fst=ns) {i:Nat} (hi:i<ns.length):numAt ys.toArray i=ns[i]:=by
 subst h
 have hi':i<ys.length:=by simpa using hi
 simp[numAt,hi']
theorem BF (hc:X.calm=true):iB X (.builtin "max") (λxs H Q=>∃(p:Addr) (ns:List Int),xs=[.ref p]/\SqL X.K H p (ns.map V.int)/\ns≠[]/\∀M,M∈ns->(∀a∈ns,a<=M)->Q (.int M) H):=by
 intro pins s σ H xs us Q I r h
 obtain⟨p,ns,rfl,hq,hne,q⟩:=h
 obtain⟨u,rfl,rx⟩:=kN r
 cases rx
 obtain⟨its,r',pl,hz⟩:=I.list hq
 obtain⟨ys,h1,h2⟩:=nW r'
 rw[h1] at pl
 have hl:ys.length=ns.length:=by rw[<-h2];simp
 have hp:0<ns.length:=List.length_pos_iff.mpr hne
 refine max_intList (I.ok.hd hc) pl.isList (by simpa [hl] using hp) λv h' tk hv hk=>?_
 obtain⟨t,rfl⟩:=intItems_at hv
 obtain⟨g1,g2⟩:=argBest_gt (numAt ys.toArray) (ys.toArray.size-1)
 have g3:argBest (λi j=>decide (numAt ys.toArray i > numAt ys.toArray j)) (ys.toArray.size-1)<ns.length:=by rw[<-hl];simp at g1 ⊢;omega
 refine⟨.int _,H,I.kept hk,⟨t,rfl⟩,q _ ?_ λa ha=>?_⟩
 ·rw[sM h2 g3];exact List.getElem_mem g3
 ·obtain⟨j,hj,rfl⟩:=List.getElem_of_mem ha
  rw[<-sM h2 hj]
  exact g2 j (by simp[hl];omega)
noncomputable def RC:D->(D->Prop)->Prop:=λd Q=>match d with
 | .lst ds=>∃ns:List Int,ds=ns.map D.int/\Q (.int ns.sum)
 | _=>False
noncomputable def FA:D->(D->Prop)->Prop:=λd Q=>match d with
 | .lst ds=>∃ns:List Int,ds=ns.map D.int/\ns≠[]/\∀M,M∈ns->(∀a∈ns,a<=M)->Q (.int M)
 | _=>False
noncomputable def dMinL:D->(D->Prop)->Prop:=λd Q=>match d with
 | .lst ds=>∃ns:List Int,ds=ns.map D.int/\ns≠[]/\∀M,M∈ns->(∀a∈ns,M<=a)->Q (.int M)
 | _=>False
theorem ED:bootBuiltins "max" = some (.builtin "max"):=by decide +kernel
theorem EF:bootBuiltins "min" = some (.builtin "min"):=by decide +kernel
theorem HZ (hm:X.mg "max" = none) (hc:X.calm=true) (h:DB X e te) (hg:Gl X "max":=by rfl) (hs:starEach [e] X.env=[(false,eval e X.env)]:=by rfl) (hn:starEach [] X.env=[]:=by rfl):DE X (.Call (.Name "max" p) [e] [] pos) (r1 FA te):=by
 refine PE.mono (jD (BF hc) hg hm ED (fV h hs hn) (by decide) (by decide) (by rw[hs,hn]) (by rw[hn];rfl)) λσ H Q hh=>bV hh λρ P st q k=>⟨ρ,_,st,q,λd v H1 hd s1 r=>?_⟩
 unfold FA at hd;split at hd
 ·obtain⟨ns,rfl,hne,hd⟩:=hd
  obtain⟨p,vs,rfl,hq,rr⟩:=r.lst
  rw[rr.ints_inv] at hq
  exact⟨p,ns,rfl,hq,hne,λM m1 m2=>k _ _ H1 (hd M m1 m2) s1 (.int _)⟩
 ·exact hd.elim
end
noncomputable def Itv (K:PySem.W.Frag) (a:Addr) (n:Nat):It :=
 ⟨λi H=>∃xs x,SqL K H a xs/\xs.length=n/\xs.reverse[i]? = some x,λi H x H'=>H'=H/\∀xs,SqL K H a xs->xs.reverse[i]? = some x,λi H=>∃xs,SqL K H a xs/\xs.length=n/\n<=i⟩
theorem HJ {P:Program} {w:World} {K:PySem.W.Frag} {tg:Expr} (a it:Addr) (n:Nat):Turn P w K tg (Itv K a n) [it] it (λi h=>i<=n/\h.IsRevIter it a ((n:Int)-1-(i:Int))) where
 mem:=by simp
 obj:=λi h st b hb=>by
  have e:b=it:=by simpa using hb
  subst e
  obtain⟨_,o,e,c,d⟩:=st
  exact⟨o,e,λv z=>by rw[d] at z;cases z⟩
 keep:=λi h h' st k=>⟨st.1,st.2.at λo e=>k it (by simp) o e⟩
 item:=by
  intro X hP hw hK hc i pins s σ H E I hf st hg
  subst hP hw hK
  obtain⟨hi,st⟩:=st
  obtain⟨xs,x,hq,hn,hx⟩:=hg
  obtain⟨its,rv,p,hz⟩:=I.list hq
  have hlt:i<n:=by
   have:=(List.getElem?_eq_some_iff.mp hx).1
   simpa [hn] using this
  have hx2:xs[n-1-i]? = some x:=by
   rw[List.getElem?_reverse (by omega)] at hx
   rw[<-hx,hn]
  obtain⟨u,hu,ru⟩:=rv.get hx2
  obtain⟨f0,f1,f2,f3,f4,f5⟩:=hf it (by simp)
  have ei:(n:Int)-1-(i:Int)=((n-1-i:Nat):Int):=by omega
  rw[ei] at st
  refine wpAny_pyNext_rev_item st p.isList (x:=u) (by simpa using hu) λh' st' sb=>?_
  have e2:((n-1-i:Nat):Int)-1=(n:Int)-1-((i+1:Nat):Int):=by omega
  rw[e2] at st'
  have I1:Inv X pins σ H { s with heap:=h' }:=I.turned (t':=s.toks) (λb o hb e=>(sb.2 b hb).trans e) f0 f1 f3 f4 f5
  obtain⟨o,e,c,d⟩:=id st'
  exact⟨u,rfl,zZ (s:={ s with heap:=h' }) e c d (by decide) ⟨x,H,I1,ru,⟨rfl,λys hy=>by rw[I.list_inj hy hq];exact hx⟩,⟨hlt,st'⟩,λb hb=>(hf b hb).1⟩⟩
 done:=by
  intro X hP hw hK hc i pins s σ H E I hf st hg
  subst hP hw hK
  obtain⟨hi,st⟩:=st
  obtain⟨xs,hq,hn,hx⟩:=hg
  obtain⟨f0,f1,f2,f3,f4,f5⟩:=hf it (by simp)
  have e:i=n:=by omega
  subst e
  have ei:(i:Int)-1-(i:Int) = -1:=by omega
  rw[ei] at st
  exact wpAny_pyNext_rev_end (I.ok.hd hc) st λh' eb=>⟨rfl,I.turned (t':=s.toks) (λb o hb e=>eb b o hb e) f0 f1 f3 f4 f5⟩
 self:=λ_ _ _ _ _ st h=>wpAny_pyIter_revIter st.2 h
section
variable {X:Cx} {tg e:Expr} {te:RE} {pos p:Pos}
noncomputable def GS (te:RE):RA:=λρ Q=>te ρ λd=>match d with
 | .lst ds=>Q ds.reverse
 | _=>False
theorem jY:bootBuiltins "reversed" = some (.type "reversed"):=by decide +kernel
theorem LF (hm:X.mg "reversed" = none) (h:DE X e te) (hg:Gl X "reversed":=by rfl) (hs:starEach [e] X.env=[(false,eval e X.env)]:=by rfl) (hn:starEach [] X.env=[]:=by rfl) :
  DI X tg (.Call (.Name "reversed" p) [e] [] pos) (GS te):=by
 intro pins s σ H R I hh_0
 obtain⟨ρ,P,st,q,kk⟩:=hh_0
 refine Call_ (gS I hg hm jY (PyProof.Rows.callWith_type1 (thn (fV h hs hn pos pins s σ H (λvs H1=>∃a ds us,vs=[V.ref a]/\Same H H1/\P ds.reverse/\FzL X.K H1 a us/\Reps X.K H1 ds us) I ⟨ρ,_,st,q,λd v H1 hd s1 r=>?_⟩) λus s1 ⟨vs,H1,I1,r1,q1⟩=>?_) (by rw[hs,hn]) (by rw[hn];rfl)))
 ·cases d with
  | lst ds =>
   cases r with
   | @lst a vs _ hz rr=>exact⟨a,ds,vs,rfl,s1,hd,hz,rr⟩
  | _=>exact hd.elim
 obtain⟨a,ds,ws,rfl,s01,hp,hz,rr⟩:=q1
 obtain⟨u,rfl,ru⟩:=kN r1
 cases ru
 obtain⟨its,rv,pl,hzz⟩:=I1.list hz.sq
 have hl:=rv.length
 refine call_reversed_list pl.isList ?_
 have hit:({ s1 with heap:=s1.heap.push (revObj a ((its.toArray.size:Int)-1)) }:Shared).heap.IsRevIter s1.heap.objs.size a ((ws.length:Int)-1-((0:Nat):Int)):=⟨_,Heap.get?_push_size _ rfl,rfl,by simp[revObj,hl]⟩
 refine wpAny_pyIter_revIter hit ⟨s1.heap.objs.size,[s1.heap.objs.size],_,_,H1,rfl,I1.kept (t':=s1.toks) λb o e=>Heap.get?_push_of_some _ e,HJ a _ ws.length,⟨Nat.zero_le _,hit⟩,λb hb=>?_,?_⟩
 ·rw[List.mem_singleton.mp hb];exact (I1.fpOk (Nat.le_refl _) (I1.hok.fresh (Nat.le_refl _)))
 ·refine kk ds.reverse _ H1 hp s01 λi H2 kp=>⟨λd ed=>?_,λhl=>⟨ws,(hz.keep kp).sq,rfl,by rw[<-rr.length];simpa using hl⟩⟩
  obtain⟨v,h1,h2⟩:=(rr.reverse.keep kp).get ed
  refine⟨⟨ws,v,(hz.keep kp).sq,rfl,h1⟩,λx H' y=>?_⟩
  obtain⟨rfl,hy⟩:=y
  have e3:=hy ws (hz.keep kp).sq
  rw[h1] at e3;cases e3
  exact⟨Same.refl _,h2⟩
end
section
variable {prog:Program} {w:World} {A:Around} {E:Value->Shared->Prop} {s:Shared}
end
section
variable {prog:Program} {w:World} {A:Around} {E:Value->Shared->Prop} {s:Shared} {z TI TO i1 i2 a1 a2:Addr} {vs us:List Value} {T1 T2:Nat->Heap->Prop}
end
noncomputable abbrev AB (c:String) (l:Addr):Obj:={ cls:=.type c,data:=.fields #[.ref l,.int 0 0] }
section
variable {prog:Program} {w:World} {A:Around} {E:Value->Shared->Prop} {s:Shared}
theorem vI {R:Result->Shared->Prop} {S I:Addr} {n:Nat} {J F:List Value->Heap->Prop} {s0:Shared} (res:Value) (hn:n<=sizeLine)
  (stay:∀acc h h',J acc h->(∃o,h.get? S=some o/\o.cls = .type "list")->h'.objs.size=h.objs.size->(∀b o,b≠S->h.get? b=some o->h'.get? b=some o)->J acc h')
  (item:∀acc (s:Shared) (o:Obj) (Q:Option Value->Shared->Prop) (E:Value->Shared->Prop),acc.length<n->J acc s.heap->s.heap.get? S=some o->(∀v h',J (acc++[v]) h'->h'.get? S=some o->Q (some v) { s with heap:=h' })->wpAny (model prog w) A.in1 (pyNext (.ref I)) Q E s)
  (done:∀acc (s:Shared) (o:Obj) (Q:Option Value->Shared->Prop) (E:Value->Shared->Prop),acc.length=n->J acc s.heap->s.heap.get? S=some o->(∀h',F acc h'->h'.get? S=some o->Q none { s with heap:=h' })->wpAny (model prog w) A.in1 (pyNext (.ref I)) Q E s)
  (hR:∀h' acc c,acc.size=n->F acc.toList h'->h'.get? S=some { cls:=.type "list",dict:=none,data:=.seq acc c,slots:=#[] }->R (.ok (.ret res)) { s0 with heap:=h' }) :
  ∀(k:Nat) (acc:Array Value) (h:Heap) (c:Nat),k=n-acc.size->acc.size<=n->J acc.toList h->h.get? S=some { cls:=.type "list",dict:=none,data:=.seq acc c,slots:=#[] } ->
   codeAny (model prog w) A (.builtin "list.extend.loop" ⟨[.ref S,.ref I,res],[]⟩) R { s0 with heap:=h }:=by
 intro k
 induction k with
 | zero =>
  intro acc h c hk hle hJ hS
  refine codeAny_builtin PySem.F.entry_extend_loop ?_
  rw[Around.under_plainId PySem.F.plain_extend_loop _]
  show wpAny _ A.in1 (pyNext (.ref I) >>= _) _ _ _
  apply wpAny_bind;refine done acc.toList { s0 with heap:=h } _ _ _ (by simp;omega) hJ hS λh' hF hS'=>?_
  exact wpAny_pure (hR h' acc c (by omega) hF hS')
 | succ k ih =>
  intro acc h c hk hle hJ hS
  refine codeAny_builtin PySem.F.entry_extend_loop ?_
  rw[Around.under_plainId PySem.F.plain_extend_loop _]
  show wpAny _ A.in1 (pyNext (.ref I) >>= _) _ _ _
  apply wpAny_bind;refine item acc.toList { s0 with heap:=h } _ _ _ (by simp;omega) hJ hS λv h' hJ' hS'=>?_
  show wpAny _ A.in1 (updateSeq S (·.push v) >>= _) _ _ _
  have hs2:acc.size<n:=by omega
  have e1:(acc.push v).size=acc.size+1:=Array.size_push ..
  apply wpAny_bind;refine wpAny_updateSeq hS' rfl ?_ (by omega) (by show (acc.push v).size<=sizeLine+1;omega)
  apply wpAny_pure;refine⟨plainId_quiet PySem.F.plain_extend_loop _,?_⟩
  refine ih (acc.push v) _ _ (by omega) (by omega) (stay _ _ _ (by simpa using hJ') ⟨_,hS',rfl⟩ (Heap.SameBut.update ..).1 λb o hb e=>(Heap.get?_update_other _ _ (Ne.symm hb)).trans e) (Heap.get?_update_self _ hS' rfl)
end
section
variable {prog:Program} {w:World} {A:Around} {E:Value->Shared->Prop} {s:Shared} {z TI TO i1 i2 a1 a2:Addr} {vs us:List Value} {T1 T2:Nat->Heap->Prop}
end
section
variable {X:Cx} {pins:List (Addr × Obj)} {σ:St}
theorem _root_.L2.Inv.trackO {s s':Shared} {H H':Hp} {a:Addr} {w:HO} (I:Inv X pins σ H s) (I':Inv X pins σ H' s') (ha:s.heap.objs.size<=a) (hn:H' a=none) (new:ObjOk X.prog X.w (upd H' a w) s'.heap a w):Inv X pins σ (upd H' a w) s':=by
 have nL:X.env.locals≠a:=Nat.ne_of_lt (Nat.lt_of_lt_of_le I.lt ha)
 have nC:∀x c,X.env.cells.lookup x=some c->c≠a:=λx c q z=>by
  obtain⟨v,hv⟩:=I.cell x c q
  exact absurd (Nat.lt_of_lt_of_le hv.lt (by rw[z];exact ha)) (Nat.lt_irrefl _)
 have n0:∀{b:Addr} {o:Obj},X.s₀.heap.get? b=some o->b≠a:=λ{b o} q=>Nat.ne_of_lt (Nat.lt_of_lt_of_le (Heap.lt_size q) (Nat.le_trans I.sz ha))
 refine⟨I'.ok,I'.os,I'.bare,⟨I'.base.keep,I'.base.slot,λb o q n hx=>by rw[aI (n0 q)];exact I'.base.free b o q n hx,I'.base.there,λb ys q=>by rw[aI (aR (I'.base.tups b ys q) hn)];exact I'.base.tups b ys q,λb o u q=>by rw[aI (aR (I'.base.frzs b o u q) hn)];exact I'.base.frzs b o u q,λb ps q=>?_⟩,I'.loc,I'.cell,by rw[aI nL];exact I'.free,λx c q=>by rw[aI (nC x c q)];exact I'.freeC x c q,λp hp=>?_,λb u q=>?_,I'.len⟩
 ·obtain⟨m,q2⟩:=I'.base.tbls b ps q
  exact⟨m,by rw[aI (aR q2 hn)];exact q2⟩
 ·obtain⟨q1,q2,q3,q4,q5⟩:=I'.pin p hp
  have hp1:p.1≠a:=Nat.ne_of_lt (Nat.lt_of_lt_of_le (Heap.lt_size (I.pin p hp).1) ha)
  exact⟨q1,by rw[aI hp1];exact q2,q3,q4,q5⟩
 ·by_cases hb:b=a
  ·subst hb
   rw[bJ] at q;cases q
   exact new
  ·rw[aI hb] at q
   exact (I'.hok b u q).stay (λc v _ w=>w) (λc w=>by rw[aI (aR w hn)];exact w) λc ys w=>by rw[aI (aR w hn)];exact w
end
noncomputable def NX:D->Option (List D)
 | .lst xs=>some xs
 | .tup xs=>some xs
 | _=>none
noncomputable def SD (ta tb:RE):RA:=λρ Q=>ta ρ λx=>tb ρ λy=>∃xs ys,NX x=some xs/\NX y=some ys/\xs.length=ys.length/\Q (xs.zipWith (λa b=>D.tup [a,b]) ys)
section
variable {X:Cx} {a b:Expr} {ta tb:RE} {p pz pos posz:Pos}
end
section
variable {X:Cx} {a b:Expr} {ta tb:RE} {pos p:Pos} {elts:List Expr} {k:Nat} {tp:Pos}
noncomputable def QH (ta tb:RE):RA:=λρ Q=>ta ρ λx=>tb ρ λy=>match x,y with
 | .lst xs,.lst ys=>Q (xs.zipWith (λa b=>D.tup [a,b]) ys)
 | _,_=>False
end
section
variable {prog:Program} {w:World} {A:Around} {E:Value->Shared->Prop} {s:Shared}
theorem CI {I l S:Addr} {items:Array Value} {bt:Nat->Nat->Bool} {G:Heap->Prop} {R:Result->Shared->Prop} {os0:Shared} (hh:A.handled=none) (hl:l≠I) (hSI:S≠I) (hSl:S≠l)
  (cmp:∀(i j:Nat) (u v:Value) (s:Shared) (Q:Value->Shared->Prop) (E:Value->Shared->Prop),items[i]? = some u->items[j]? = some v->G s.heap->Q (.bool (bt i j)) s->wpAny (model prog w) A.in1 (richCompare .Lt u v) Q E s)
  (gs:∀h h',G h->(∀b o,b≠I->b≠S->h.get? b=some o->h'.get? b=some o)->G h') :
  ∀(k j:Nat) (s:Shared) (vb:Value) (c:Nat),items.size-(j+1)=k->j+1<=items.size->s.heap.IsListIter I l (j+1)->s.heap.IsList l items->items[argBest bt j]? = some vb->G s.heap ->
   s.heap.get? S=some { cls:=.type "list",dict:=none,data:=.seq #[vb,vb] c,slots:=#[] } ->
   (∀v h' tk,items[argBest bt (items.size-1)]? = some v->(∀b o,b≠I->b≠S->s.heap.get? b=some o->h'.get? b=some o)->R (.ok (.ret v)) { s with heap:=h',toks:=tk }) ->
   codeAny (model prog w) A (.builtin "min.loop" ⟨[.ref I,.none,.ref S],[]⟩) R s:=by
 have nm:(toString "min" ++ toString ".loop":String) = "min.loop":=by decide
 have W:=Walks.list (prog:=prog) (w:=w) (A:=A.in1) hh I l hl items
 have wr:∀{b:Addr},b≠I->b ∉ [I]:=λh=>by simpa using h
 intro k
 induction k with
 | zero =>
  intro j s vb c hk hj hi hL hb hG hS q
  refine codeAny_builtin F.entry_min_loop ?_;rw[Around.under_plainId F.plain_min_loop _]
  show wpAny _ A.in1 (seqItems? (.ref S) >>= _) _ _ s
  apply wpAny_bind;apply wpAny_seqItems hS rfl
  show wpAny _ A.in1 (tryCatch (pyNext (.ref I)) _ >>= _) _ _ s
  apply wpAny_bind;apply wpAny_tryCatch;refine W.done s _ _ (by rw[show items.size=j+1 by omega];exact⟨hi,hL⟩) λh' tk kp=>?_
  have hS':=kp S _ (wr hSI) hS
  show wpAny _ A.in1 (updateSeq S (λ_=>#[]) >>= _) _ _ _
  apply wpAny_bind;refine wpAny_updateSeq hS' rfl ?_;apply wpAny_bind;apply wpAny_letGo;apply wpAny_pure
  exact q vb _ tk (by rw[show items.size-1=j by omega];exact hb) λb o b1 b2 e=>(Heap.get?_update_other _ _ (Ne.symm b2)).trans (kp b o (wr b1) e)
 | succ k ih =>
  intro j s vb c hk hj hi hL hb hG hS q
  refine codeAny_builtin F.entry_min_loop ?_;rw[Around.under_plainId F.plain_min_loop _]
  show wpAny _ A.in1 (seqItems? (.ref S) >>= _) _ _ s
  apply wpAny_bind;apply wpAny_seqItems hS rfl
  show wpAny _ A.in1 (tryCatch (pyNext (.ref I)) _ >>= _) _ _ s
  apply wpAny_bind;apply wpAny_tryCatch;refine W.item (j+1) s _ _ (by omega) ⟨hi,hL⟩ λv h' tk hv st' kp=>?_
  have hS':=kp S _ (wr hSI) hS
  have hG':G h':=gs _ _ hG λb o b1 _ e=>kp b o (wr b1) e
  show wpAny _ A.in1 (tryCatch (holding [v,v] (richCompare .Lt v vb >>= _)) _ >>= _) _ _ _
  apply wpAny_bind;apply wpAny_tryCatch;apply wpAny_holding;apply wpAny_bind;refine cmp (j+1) (argBest bt j) v vb _ _ _ hv hb hG' ?_
  apply wpAny_bind;apply wpAny_holding;apply wpAny_truthy_bool;apply wpAny_bind;apply wpAny_letGo;apply wpAny_pure
  cases hbt:bt (j+1) (argBest bt j) with
  | true =>
   simp only[if_true]
   apply wpAny_bind;refine wpAny_updateSeq hS' rfl ?_;apply wpAny_bind;apply wpAny_letGo;rw[nm];apply wpAny_pure
   have up:∀b o,b≠S->h'.get? b=some o->(h'.update S (Obj.mapSeq λ_=>#[v,v])).get? b=some o:=λb o b2 e=>(Heap.get?_update_other _ _ (Ne.symm b2)).trans e
   refine⟨plainId_quiet F.plain_min_loop _,ih (j+1) _ v _ (by omega) (by omega) (st'.1.at λo e=>up _ o hSI.symm e) (st'.2.at λo e=>up _ o hSl.symm e) (by simp only[argBest,hbt,if_true];exact hv) (gs _ _ hG' λb o _ b2 e=>up b o b2 e) (Heap.get?_update_self _ hS' rfl) λv' h'' tk'' e kk=>?_⟩
   exact q v' h'' tk'' e λb o b1 b2 e=>kk b o b1 b2 (up b o b2 (kp b o (wr b1) e))
  | false =>
   simp only[Bool.false_eq_true,if_false]
   apply wpAny_bind;apply wpAny_letGo;rw[nm];apply wpAny_pure
   refine⟨plainId_quiet F.plain_min_loop _,ih (j+1) _ vb c (by omega) (by omega) st'.1 st'.2 (by simp only[argBest,hbt,Bool.false_eq_true,if_false];exact hb) hG' hS' λv' h'' tk'' e kk=>?_⟩
   exact q v' h'' tk'' e λb o b1 b2 e=>kk b o b1 b2 (kp b o (wr b1) e)
theorem BH {l:Addr} {items:Array Value} {bt:Nat->Nat->Bool} {G:Heap->Prop} {Q:Value->Shared->Prop} (hh:A.handled=none) (hL:s.heap.IsList l items) (hne:0<items.size)
  (cmp:∀(i j:Nat) (u v:Value) (s:Shared) (Q:Value->Shared->Prop) (E:Value->Shared->Prop),items[i]? = some u->items[j]? = some v->G s.heap->Q (.bool (bt i j)) s->wpAny (model prog w) A.in1 (richCompare .Lt u v) Q E s)
  (gs:∀h',(∀b o,s.heap.get? b=some o->h'.get? b=some o)->G h') (q:∀v h' tk,items[argBest bt (items.size-1)]? = some v->(∀b o,s.heap.get? b=some o->h'.get? b=some o)->Q v { s with heap:=h',toks:=tk }) :
  wpAny (model prog w) A (call (.builtin "min") [.ref l]) Q E s:=by
 have nm:(toString "min" ++ toString ".loop":String) = "min.loop":=by decide
 have lt:l<s.heap.objs.size:=by obtain⟨_,e,_⟩:=hL;exact Heap.lt_size e
 refine call_function_tree F.kind_min F.plain_min F.entry_min (F.args_min1 _) ?_
 show wpAny _ A.in1 (Builtin.Builtins.bindParams "min" ["key","default"] 0 ⟨[],[]⟩ >>= _) _ _ s
 apply wpAny_bind;refine wpAny_of_eq (show Builtin.Builtins.bindParams "min" ["key","default"] 0 ⟨[],[]⟩=pure [none,none] from rfl) ?_
 apply wpAny_bind;apply wpAny_pure;apply wpAny_bind;refine wpAny_pyIter_list hL ?_
 apply wpAny_bind;refine wpAny_newObj_type ?_;rw[nm];apply wpAny_pure
 have sz1:(s.heap.push (AB "list_iterator" l)).objs.size=s.heap.objs.size+1:=Heap.size_push ..
 generalize hp:s.heap.push (AB "list_iterator" l)=h1 at sz1
 have hI:h1.IsListIter s.heap.objs.size l 0:=by rw[<-hp];exact⟨_,Heap.get?_push_size _ rfl,rfl,rfl⟩
 have k1:∀b o,s.heap.get? b=some o->h1.get? b=some o:=λb o e=>by rw[<-hp];exact Heap.get?_push_of_some _ e
 refine⟨plainId_quiet F.plain_min_loop _,?_⟩
 show codeAny _ A (.builtin "min.loop" ⟨[.ref s.heap.objs.size,.none,.ref h1.objs.size],[]⟩) _ { s with heap:=h1.push { cls:=.type "list",dict:=none,data:=.seq ([]:List Value).toArray } }
 rw[sz1]
 have hS:(h1.push { cls:=.type "list",dict:=none,data:=.seq ([]:List Value).toArray }).get? (s.heap.objs.size+1)=some { cls:=.type "list",dict:=none,data:=.seq #[] 0,slots:=#[] }:=by rw[<-sz1];exact Heap.get?_push_size _ rfl
 have k2:∀b o,h1.get? b=some o->(h1.push { cls:=.type "list",dict:=none,data:=.seq ([]:List Value).toArray }).get? b=some o:=λb o e=>Heap.get?_push_of_some _ e
 generalize h1.push { cls:=.type "list",dict:=none,data:=.seq ([]:List Value).toArray } = h2 at hS k2
 have neI:∀{b:Addr} {o:Obj},s.heap.get? b=some o->b≠s.heap.objs.size/\b≠s.heap.objs.size+1:=λe=>⟨Nat.ne_of_lt (Heap.lt_size e),Nat.ne_of_lt (Nat.lt_succ_of_lt (Heap.lt_size e))⟩
 have W:=Walks.list (prog:=prog) (w:=w) (A:=A.in1) hh s.heap.objs.size l (Nat.ne_of_lt lt) items
 refine codeAny_builtin F.entry_min_loop ?_;rw[Around.under_plainId F.plain_min_loop _]
 show wpAny _ A.in1 (seqItems? (.ref (s.heap.objs.size+1)) >>= _) _ _ _
 apply wpAny_bind;apply wpAny_seqItems hS rfl
 show wpAny _ A.in1 (tryCatch (pyNext (.ref s.heap.objs.size)) _ >>= _) _ _ _
 have hL2:h2.IsList l items:=hL.at λo e=>k2 _ o (k1 _ o e)
 apply wpAny_bind;apply wpAny_tryCatch;refine W.item 0 _ _ _ hne ⟨hI.at λo e=>k2 _ o e,hL2⟩ λv h' tk hv st' kp=>?_
 have wr:∀{b:Addr},b≠s.heap.objs.size->b ∉ [s.heap.objs.size]:=λh=>by simpa using h
 have hS':=kp (s.heap.objs.size+1) _ (wr (Nat.succ_ne_self _)) hS
 show wpAny _ A.in1 (updateSeq (s.heap.objs.size+1) (λ_=>#[v,v]) >>= _) _ _ _
 apply wpAny_bind;refine wpAny_updateSeq hS' rfl ?_;rw[nm];apply wpAny_pure
 have up:∀b o,b≠s.heap.objs.size+1->h'.get? b=some o->(h'.update (s.heap.objs.size+1) (Obj.mapSeq λ_=>#[v,v])).get? b=some o:=λb o b2 e=>(Heap.get?_update_other _ _ (Ne.symm b2)).trans e
 have old:∀b o,s.heap.get? b=some o->(h'.update (s.heap.objs.size+1) (Obj.mapSeq λ_=>#[v,v])).get? b=some o:=λb o e=>up b o (neI e).2 (kp b o (wr (neI e).1) (k2 b o (k1 b o e)))
 have hS'':=Heap.get?_update_self (Obj.mapSeq λ_=>#[v,v]) hS' rfl
 refine⟨plainId_quiet F.plain_min_loop _,?_⟩
 refine CI (A:=A) (G:=λh=>∀b o,s.heap.get? b=some o->h.get? b=some o) (bt:=bt) (items:=items) (I:=s.heap.objs.size) (l:=l) (S:=s.heap.objs.size+1) (os0:=s) hh (Nat.ne_of_lt lt) (Nat.succ_ne_self _) (Nat.ne_of_gt (Nat.lt_succ_of_lt lt)) (λi j u v s' Q' E' e1 e2 g c=>cmp i j u v s' Q' E' e1 e2 (gs _ g) c)
  (λh3 h4 g kk b o e=>kk b o (neI e).1 (neI e).2 (g b o e)) (items.size-1) 0 _ v _ (by omega) (by omega) (st'.1.at λo e=>up _ o (Nat.ne_of_lt (Nat.lt_succ_self _)) e) (st'.2.at λo e=>up _ o (Nat.ne_of_lt (Nat.lt_succ_of_lt lt)) e) (by simpa [argBest] using hv) old hS'' λv' h'' tk'' e kk=>?_
 exact q v' h'' tk'' e λb o e=>kk b o (neI e).1 (neI e).2 (old b o e)
theorem yC {I l S:Addr} {items:Array Value} {bt:Nat->Nat->Bool} {G:Heap->Prop} {R:Result->Shared->Prop} {os0:Shared} (hh:A.handled=none) (hl:l≠I) (hSI:S≠I) (hSl:S≠l)
  (cmp:∀(i j:Nat) (u v:Value) (s:Shared) (Q:Value->Shared->Prop) (E:Value->Shared->Prop),items[i]? = some u->items[j]? = some v->G s.heap->Q (.bool (bt i j)) s->wpAny (model prog w) A.in1 (richCompare .Lt u v) Q E s)
  (gs:∀h h',G h->(∀b o,b≠I->b≠S->h.get? b=some o->h'.get? b=some o)->G h') :
  ∀(k j:Nat) (s:Shared) (vb:Value) (c:Nat),items.size-(j+1)=k->j+1<=items.size->s.heap.IsTupleIter I l (j+1)->s.heap.IsTuple l items->items[argBest bt j]? = some vb->G s.heap ->
   s.heap.get? S=some { cls:=.type "list",dict:=none,data:=.seq #[vb,vb] c,slots:=#[] } ->
   (∀v h' tk,items[argBest bt (items.size-1)]? = some v->(∀b o,b≠I->b≠S->s.heap.get? b=some o->h'.get? b=some o)->R (.ok (.ret v)) { s with heap:=h',toks:=tk }) ->
   codeAny (model prog w) A (.builtin "min.loop" ⟨[.ref I,.none,.ref S],[]⟩) R s:=by
 have nm:(toString "min" ++ toString ".loop":String) = "min.loop":=by decide
 have W:=Walks.tuple (prog:=prog) (w:=w) (A:=A.in1) hh I l hl items
 have wr:∀{b:Addr},b≠I->b ∉ [I]:=λh=>by simpa using h
 intro k
 induction k with
 | zero =>
  intro j s vb c hk hj hi hL hb hG hS q
  refine codeAny_builtin F.entry_min_loop ?_;rw[Around.under_plainId F.plain_min_loop _]
  show wpAny _ A.in1 (seqItems? (.ref S) >>= _) _ _ s
  apply wpAny_bind;apply wpAny_seqItems hS rfl
  show wpAny _ A.in1 (tryCatch (pyNext (.ref I)) _ >>= _) _ _ s
  apply wpAny_bind;apply wpAny_tryCatch;refine W.done s _ _ (by rw[show items.size=j+1 by omega];exact⟨hi,hL⟩) λh' tk kp=>?_
  have hS':=kp S _ (wr hSI) hS
  show wpAny _ A.in1 (updateSeq S (λ_=>#[]) >>= _) _ _ _
  apply wpAny_bind;refine wpAny_updateSeq hS' rfl ?_;apply wpAny_bind;apply wpAny_letGo;apply wpAny_pure
  exact q vb _ tk (by rw[show items.size-1=j by omega];exact hb) λb o b1 b2 e=>(Heap.get?_update_other _ _ (Ne.symm b2)).trans (kp b o (wr b1) e)
 | succ k ih =>
  intro j s vb c hk hj hi hL hb hG hS q
  refine codeAny_builtin F.entry_min_loop ?_;rw[Around.under_plainId F.plain_min_loop _]
  show wpAny _ A.in1 (seqItems? (.ref S) >>= _) _ _ s
  apply wpAny_bind;apply wpAny_seqItems hS rfl
  show wpAny _ A.in1 (tryCatch (pyNext (.ref I)) _ >>= _) _ _ s
  apply wpAny_bind;apply wpAny_tryCatch;refine W.item (j+1) s _ _ (by omega) ⟨hi,hL⟩ λv h' tk hv st' kp=>?_
  have hS':=kp S _ (wr hSI) hS
  have hG':G h':=gs _ _ hG λb o b1 _ e=>kp b o (wr b1) e
  show wpAny _ A.in1 (tryCatch (holding [v,v] (richCompare .Lt v vb >>= _)) _ >>= _) _ _ _
  apply wpAny_bind;apply wpAny_tryCatch;apply wpAny_holding;apply wpAny_bind;refine cmp (j+1) (argBest bt j) v vb _ _ _ hv hb hG' ?_
  apply wpAny_bind;apply wpAny_holding;apply wpAny_truthy_bool;apply wpAny_bind;apply wpAny_letGo;apply wpAny_pure
  cases hbt:bt (j+1) (argBest bt j) with
  | true =>
   simp only[if_true]
   apply wpAny_bind;refine wpAny_updateSeq hS' rfl ?_;apply wpAny_bind;apply wpAny_letGo;rw[nm];apply wpAny_pure
   have up:∀b o,b≠S->h'.get? b=some o->(h'.update S (Obj.mapSeq λ_=>#[v,v])).get? b=some o:=λb o b2 e=>(Heap.get?_update_other _ _ (Ne.symm b2)).trans e
   refine⟨plainId_quiet F.plain_min_loop _,ih (j+1) _ v _ (by omega) (by omega) (st'.1.at λo e=>up _ o hSI.symm e) (st'.2.at λo e=>up _ o hSl.symm e) (by simp only[argBest,hbt,if_true];exact hv) (gs _ _ hG' λb o _ b2 e=>up b o b2 e) (Heap.get?_update_self _ hS' rfl) λv' h'' tk'' e kk=>?_⟩
   exact q v' h'' tk'' e λb o b1 b2 e=>kk b o b1 b2 (up b o b2 (kp b o (wr b1) e))
  | false =>
   simp only[Bool.false_eq_true,if_false]
   apply wpAny_bind;apply wpAny_letGo;rw[nm];apply wpAny_pure
   refine⟨plainId_quiet F.plain_min_loop _,ih (j+1) _ vb c (by omega) (by omega) st'.1 st'.2 (by simp only[argBest,hbt,Bool.false_eq_true,if_false];exact hb) hG' hS' λv' h'' tk'' e kk=>?_⟩
   exact q v' h'' tk'' e λb o b1 b2 e=>kk b o b1 b2 (kp b o (wr b1) e)
theorem xN {l:Addr} {items:Array Value} {bt:Nat->Nat->Bool} {G:Heap->Prop} {Q:Value->Shared->Prop} (hh:A.handled=none) (hL:s.heap.IsTuple l items) (hne:0<items.size)
  (cmp:∀(i j:Nat) (u v:Value) (s:Shared) (Q:Value->Shared->Prop) (E:Value->Shared->Prop),items[i]? = some u->items[j]? = some v->G s.heap->Q (.bool (bt i j)) s->wpAny (model prog w) A.in1 (richCompare .Lt u v) Q E s)
  (gs:∀h',(∀b o,s.heap.get? b=some o->h'.get? b=some o)->G h') (q:∀v h' tk,items[argBest bt (items.size-1)]? = some v->(∀b o,s.heap.get? b=some o->h'.get? b=some o)->Q v { s with heap:=h',toks:=tk }) :
  wpAny (model prog w) A (call (.builtin "min") [.ref l]) Q E s:=by
 have nm:(toString "min" ++ toString ".loop":String) = "min.loop":=by decide
 have lt:l<s.heap.objs.size:=by obtain⟨_,e,_⟩:=hL;exact Heap.lt_size e
 refine call_function_tree F.kind_min F.plain_min F.entry_min (F.args_min1 _) ?_
 show wpAny _ A.in1 (Builtin.Builtins.bindParams "min" ["key","default"] 0 ⟨[],[]⟩ >>= _) _ _ s
 apply wpAny_bind;refine wpAny_of_eq (show Builtin.Builtins.bindParams "min" ["key","default"] 0 ⟨[],[]⟩=pure [none,none] from rfl) ?_
 apply wpAny_bind;apply wpAny_pure;apply wpAny_bind;refine wpAny_pyIter_tuple hL ?_
 apply wpAny_bind;refine wpAny_newObj_type ?_;rw[nm];apply wpAny_pure
 have sz1:(s.heap.push (AB "tuple_iterator" l)).objs.size=s.heap.objs.size+1:=Heap.size_push ..
 generalize hp:s.heap.push (AB "tuple_iterator" l)=h1 at sz1
 have hI:h1.IsTupleIter s.heap.objs.size l 0:=by rw[<-hp];exact⟨_,Heap.get?_push_size _ rfl,rfl,rfl⟩
 have k1:∀b o,s.heap.get? b=some o->h1.get? b=some o:=λb o e=>by rw[<-hp];exact Heap.get?_push_of_some _ e
 refine⟨plainId_quiet F.plain_min_loop _,?_⟩
 show codeAny _ A (.builtin "min.loop" ⟨[.ref s.heap.objs.size,.none,.ref h1.objs.size],[]⟩) _ { s with heap:=h1.push { cls:=.type "list",dict:=none,data:=.seq ([]:List Value).toArray } }
 rw[sz1]
 have hS:(h1.push { cls:=.type "list",dict:=none,data:=.seq ([]:List Value).toArray }).get? (s.heap.objs.size+1)=some { cls:=.type "list",dict:=none,data:=.seq #[] 0,slots:=#[] }:=by rw[<-sz1];exact Heap.get?_push_size _ rfl
 have k2:∀b o,h1.get? b=some o->(h1.push { cls:=.type "list",dict:=none,data:=.seq ([]:List Value).toArray }).get? b=some o:=λb o e=>Heap.get?_push_of_some _ e
 generalize h1.push { cls:=.type "list",dict:=none,data:=.seq ([]:List Value).toArray } = h2 at hS k2
 have neI:∀{b:Addr} {o:Obj},s.heap.get? b=some o->b≠s.heap.objs.size/\b≠s.heap.objs.size+1:=λe=>⟨Nat.ne_of_lt (Heap.lt_size e),Nat.ne_of_lt (Nat.lt_succ_of_lt (Heap.lt_size e))⟩
 have W:=Walks.tuple (prog:=prog) (w:=w) (A:=A.in1) hh s.heap.objs.size l (Nat.ne_of_lt lt) items
 refine codeAny_builtin F.entry_min_loop ?_;rw[Around.under_plainId F.plain_min_loop _]
 show wpAny _ A.in1 (seqItems? (.ref (s.heap.objs.size+1)) >>= _) _ _ _
 apply wpAny_bind;apply wpAny_seqItems hS rfl
 show wpAny _ A.in1 (tryCatch (pyNext (.ref s.heap.objs.size)) _ >>= _) _ _ _
 have hL2:h2.IsTuple l items:=hL.at λo e=>k2 _ o (k1 _ o e)
 apply wpAny_bind;apply wpAny_tryCatch;refine W.item 0 _ _ _ hne ⟨hI.at λo e=>k2 _ o e,hL2⟩ λv h' tk hv st' kp=>?_
 have wr:∀{b:Addr},b≠s.heap.objs.size->b ∉ [s.heap.objs.size]:=λh=>by simpa using h
 have hS':=kp (s.heap.objs.size+1) _ (wr (Nat.succ_ne_self _)) hS
 show wpAny _ A.in1 (updateSeq (s.heap.objs.size+1) (λ_=>#[v,v]) >>= _) _ _ _
 apply wpAny_bind;refine wpAny_updateSeq hS' rfl ?_;rw[nm];apply wpAny_pure
 have up:∀b o,b≠s.heap.objs.size+1->h'.get? b=some o->(h'.update (s.heap.objs.size+1) (Obj.mapSeq λ_=>#[v,v])).get? b=some o:=λb o b2 e=>(Heap.get?_update_other _ _ (Ne.symm b2)).trans e
 have old:∀b o,s.heap.get? b=some o->(h'.update (s.heap.objs.size+1) (Obj.mapSeq λ_=>#[v,v])).get? b=some o:=λb o e=>up b o (neI e).2 (kp b o (wr (neI e).1) (k2 b o (k1 b o e)))
 have hS'':=Heap.get?_update_self (Obj.mapSeq λ_=>#[v,v]) hS' rfl
 refine⟨plainId_quiet F.plain_min_loop _,?_⟩
 refine yC (A:=A) (G:=λh=>∀b o,s.heap.get? b=some o->h.get? b=some o) (bt:=bt) (items:=items) (I:=s.heap.objs.size) (l:=l) (S:=s.heap.objs.size+1) (os0:=s) hh (Nat.ne_of_lt lt) (Nat.succ_ne_self _) (Nat.ne_of_gt (Nat.lt_succ_of_lt lt)) (λi j u v s' Q' E' e1 e2 g c=>cmp i j u v s' Q' E' e1 e2 (gs _ g) c)
  (λh3 h4 g kk b o e=>kk b o (neI e).1 (neI e).2 (g b o e)) (items.size-1) 0 _ v _ (by omega) (by omega) (st'.1.at λo e=>up _ o (Nat.ne_of_lt (Nat.lt_succ_self _)) e) (st'.2.at λo e=>up _ o (Nat.ne_of_lt (Nat.lt_succ_of_lt lt)) e) (by simpa [argBest] using hv) old hS'' λv' h'' tk'' e kk=>?_
 exact q v' h'' tk'' e λb o e=>kk b o (neI e).1 (neI e).2 (old b o e)
end
noncomputable abbrev dY (ns:List Int):D:=.tup (ns.map .int)
theorem iW:∀{a b c:List Int},HT.lexLt a b=true->HT.lexLt b c=true->HT.lexLt a c=true
 | [],[],_,h,_=>by cases h
 | [],_::_,[],_,h=>by cases h
 | [],_::_,_::_,_,_=>rfl
 | _::_,[],_,h,_=>by cases h
 | _::_,_::_,[],_,h=>by cases h
 | x::xs,y::ys,z::zs,h1,h2=>by
  rw[HT.lexLt_cons] at *
  by_cases e1:x=y
  ·subst e1
   rw[if_pos rfl] at h1
   by_cases e2:x=z
   ·rw[if_pos e2] at h2 ⊢;exact iW h1 h2
   ·rw[if_neg e2] at h2 ⊢;exact h2
  ·rw[if_neg e1] at h1
   by_cases e2:y=z
   ·subst e2;rw[if_neg e1];exact h1
   ·rw[if_neg e2] at h2
    simp only[decide_eq_true_eq] at h1 h2
    rw[if_neg (by omega)];simp only[decide_eq_true_eq];omega
theorem nA:∀(a:List Int),HT.lexLt a a=false
 | []=>rfl
 | x::xs=>by rw[HT.lexLt_cons,if_pos rfl];exact nA xs
theorem iM {bt:Nat->Nat->Bool} (tr:∀i j k,bt i j=true->bt j k=true->bt i k=true) (ir:∀i,bt i i=false):∀k,argBest bt k<=k/\∀j,j<=k->bt j (argBest bt k)=false
 | 0=>⟨Nat.le_refl _,λj hj=>by rw[Nat.le_zero.mp hj];exact ir 0⟩
 | k+1=>by
  obtain⟨h1,h2⟩:=iM tr ir k
  cases hb:bt (k+1) (argBest bt k) with
  | true =>
   simp only[argBest,hb,if_true]
   refine⟨Nat.le_refl _,λj hj=>?_⟩
   by_cases e:j=k+1
   ·subst e;exact ir _
   ·cases hc:bt j (k+1) with
    | false=>rfl
    | true =>
     have:=tr j (k+1) _ hc hb
     rw[h2 j (by omega)] at this;cases this
  | false =>
   simp only[argBest,hb,Bool.false_eq_true,if_false]
   refine⟨by omega,λj hj=>?_⟩
   by_cases e:j=k+1
   ·subst e;exact hb
   ·exact h2 j (by omega)
theorem Reps.tupI_inv {K:PySem.W.Frag} {H:Hp} {ns:List Int} {v:V} (r:Rep K H (dY ns) v):∃a,v = .ref a/\H a=some (.tup (ns.map V.int)):=by
 cases r with
 | tup h rr=>rw[rr.ints_inv] at h;exact⟨_,rfl,h⟩
section
variable {X:Cx} {e a b:Expr} {te ta tb:RE} {p pos:Pos}
noncomputable def dLtT:R22:=λx y Q=>∃ns ms:List Int,x=dY ns/\y=dY ms/\Q (.bl (HT.lexLt ns ms))
noncomputable def FB:D->(D->Prop)->Prop:=λd Q=>match d with
 | .lst ds=>∃nss:List (List Int),ds=nss.map dY/\nss≠[]/\∀M,M∈nss->(∀x∈nss,HT.lexLt x M=false)->Q (dY M)
 | .tup ds=>∃nss:List (List Int),ds=nss.map dY/\nss≠[]/\∀M,M∈nss->(∀x∈nss,HT.lexLt x M=false)->Q (dY M)
 | _=>False
theorem IA {k:Nat} (hr:Room k X.A) (hm:X.mg "min" = none) (hc:X.calm=true) (h:DB X e te) (hg:Gl X "min":=by rfl) (hs:starEach [e] X.env=[(false,eval e X.env)]:=by rfl) (hn:starEach [] X.env=[]:=by rfl) :
  DE X (.Call (.Name "min" p) [e] [] pos) (r1 FB te):=by
 have call:iB X (.builtin "min") (λxs H Q=>∃(d:D) (v:V) (P:D->Prop),xs=[v]/\RepB X.K H d v/\FB d P/\∀z w,P z->Rep X.K H z w->Q w H):=by
  intro pins s σ H xs us Q I rs hq
  obtain⟨d,v,P,rfl,rb,hd,kk⟩:=hq
  cases d with
  | lst ds =>
   obtain⟨nss,rfl,hne,hd⟩:=hd
   obtain⟨l,vs,rfl,hq,rr⟩:=rb.lst
   obtain⟨u,rfl,rx⟩:=kN rs
   cases rx
   obtain⟨its,rv,pl,hz⟩:=I.list hq
   have l1:=rr.length
   have l2:=rv.length
   have hpos:0<nss.length:=List.length_pos_iff.mpr hne
   rw[List.length_map] at l1
   have each:∀(i:Nat) (u:Value),its[i]? = some u->∃ns a ts,nss[i]? = some ns/\vs[i]? = some (.ref a)/\u = .ref a/\Vals (ns.map V.int) ts/\IsTup s.heap a ts.toArray:=λi u e=>by
    have hi:i<nss.length:=by have:=(List.getElem?_eq_some_iff.mp e).1;omega
    obtain⟨v,e1,e2⟩:=rr.get (i:=i) (d:=dY nss[i]) (by rw[List.getElem?_map,List.getElem?_eq_getElem hi];rfl)
    obtain⟨a,rfl,ha⟩:=Reps.tupI_inv e2
    obtain⟨u',f1,f2⟩:=rv.get e1
    rw[e] at f1;cases f1
    cases f2
    obtain⟨ts,g1,g2,_⟩:=I.tuple (SqT.of (K:=X.K) ha)
    exact⟨_,a,ts,List.getElem?_eq_getElem hi,e1,rfl,g1,g2⟩
   refine BH (bt:=λi j=>HT.lexLt (nss.getD i []) (nss.getD j [])) (G:=λh=>∀b o,s.heap.get? b=some o->h.get? b=some o) (I.ok.hd hc) pl.isList (by simp;omega) (λi j u v s' Q' E' e1 e2 g c=>?_) (λh' g=>g) λv h' tk ev kp=>?_
   ·obtain⟨ns,a,ts,n1,_,rfl,g1,g2⟩:=each i u (by simpa using e1)
    obtain⟨ms,b,us,n2,_,rfl,g3,g4⟩:=each j v (by simpa using e2)
    have q1:nss.getD i []=ns:=by rw[List.getD_eq_getElem?_getD,n1];rfl
    have q2:nss.getD j []=ms:=by rw[List.getD_eq_getElem?_getD,n2];rfl
    rw[q1,q2] at c
    have hu:=hr.un
    have tupAt:∀{a:Addr} {xs:Array Value},IsTup s.heap a xs->IsTup s'.heap a xs:=λ⟨o,e,r⟩=>⟨o,g _ o e,r⟩
    refine HT.lt_tupInts (A:=X.A.in1) (tupAt g2) (tupAt g4) (gR g1) (gR g3) (by show X.A.units+1<cLine;omega) c
   ·obtain⟨b1,b2⟩:=iM (bt:=λi j=>HT.lexLt (nss.getD i []) (nss.getD j [])) (λ_ _ _=>iW) (λ_=>nA _) (its.toArray.size-1)
    generalize argBest (λi j=>HT.lexLt (nss.getD i []) (nss.getD j [])) (its.toArray.size-1)=m at b1 b2 ev
    obtain⟨ns,a,ts,n1,n2,rfl,g1,g2⟩:=each m v (by simpa using ev)
    have hm:m<nss.length:=(List.getElem?_eq_some_iff.mp n1).1
    refine⟨.ref a,H,I.kept kp,rfl,kk _ _ (hd ns (List.mem_of_getElem? n1) λx hx=>?_) ?_⟩
    ·obtain⟨j,hj,rfl⟩:=List.getElem_of_mem hx
     have:=b2 j (by simp;omega)
     have q1:nss.getD j []=nss[j]:=by rw[List.getD_eq_getElem?_getD,List.getElem?_eq_getElem hj];rfl
     have q2:nss.getD m []=ns:=by rw[List.getD_eq_getElem?_getD,n1];rfl
     rw[q1,q2] at this;exact this
    ·obtain⟨w,f1,f2⟩:=rr.get (i:=m) (d:=dY ns) (by rw[List.getElem?_map,n1];rfl)
     rw[n2] at f1;cases f1;exact f2
  | tup ds =>
   obtain⟨nss,rfl,hne,hd⟩:=hd
   obtain⟨l,vs,rfl,hq,rr⟩:=rb.tup
   obtain⟨u,rfl,rx⟩:=kN rs
   cases rx
   obtain⟨its,rv,pl,hz⟩:=I.tuple (SqT.of (K:=X.K) hq)
   have l1:=rr.length
   have l2:=rv.length
   have hpos:0<nss.length:=List.length_pos_iff.mpr hne
   rw[List.length_map] at l1
   have each:∀(i:Nat) (u:Value),its[i]? = some u->∃ns a ts,nss[i]? = some ns/\vs[i]? = some (.ref a)/\u = .ref a/\Vals (ns.map V.int) ts/\IsTup s.heap a ts.toArray:=λi u e=>by
    have hi:i<nss.length:=by have:=(List.getElem?_eq_some_iff.mp e).1;omega
    obtain⟨v,e1,e2⟩:=rr.get (i:=i) (d:=dY nss[i]) (by rw[List.getElem?_map,List.getElem?_eq_getElem hi];rfl)
    obtain⟨a,rfl,ha⟩:=Reps.tupI_inv e2
    obtain⟨u',f1,f2⟩:=rv.get e1
    rw[e] at f1;cases f1
    cases f2
    obtain⟨ts,g1,g2,_⟩:=I.tuple (SqT.of (K:=X.K) ha)
    exact⟨_,a,ts,List.getElem?_eq_getElem hi,e1,rfl,g1,g2⟩
   refine xN (bt:=λi j=>HT.lexLt (nss.getD i []) (nss.getD j [])) (G:=λh=>∀b o,s.heap.get? b=some o->h.get? b=some o) (I.ok.hd hc) pl (by simp;omega) (λi j u v s' Q' E' e1 e2 g c=>?_) (λh' g=>g) λv h' tk ev kp=>?_
   ·obtain⟨ns,a,ts,n1,_,rfl,g1,g2⟩:=each i u (by simpa using e1)
    obtain⟨ms,b,us,n2,_,rfl,g3,g4⟩:=each j v (by simpa using e2)
    have q1:nss.getD i []=ns:=by rw[List.getD_eq_getElem?_getD,n1];rfl
    have q2:nss.getD j []=ms:=by rw[List.getD_eq_getElem?_getD,n2];rfl
    rw[q1,q2] at c
    have hu:=hr.un
    have tupAt:∀{a:Addr} {xs:Array Value},IsTup s.heap a xs->IsTup s'.heap a xs:=λ⟨o,e,r⟩=>⟨o,g _ o e,r⟩
    refine HT.lt_tupInts (A:=X.A.in1) (tupAt g2) (tupAt g4) (gR g1) (gR g3) (by show X.A.units+1<cLine;omega) c
   ·obtain⟨b1,b2⟩:=iM (bt:=λi j=>HT.lexLt (nss.getD i []) (nss.getD j [])) (λ_ _ _=>iW) (λ_=>nA _) (its.toArray.size-1)
    generalize argBest (λi j=>HT.lexLt (nss.getD i []) (nss.getD j [])) (its.toArray.size-1)=m at b1 b2 ev
    obtain⟨ns,a,ts,n1,n2,rfl,g1,g2⟩:=each m v (by simpa using ev)
    have hm:m<nss.length:=(List.getElem?_eq_some_iff.mp n1).1
    refine⟨.ref a,H,I.kept kp,rfl,kk _ _ (hd ns (List.mem_of_getElem? n1) λx hx=>?_) ?_⟩
    ·obtain⟨j,hj,rfl⟩:=List.getElem_of_mem hx
     have:=b2 j (by simp;omega)
     have q1:nss.getD j []=nss[j]:=by rw[List.getD_eq_getElem?_getD,List.getElem?_eq_getElem hj];rfl
     have q2:nss.getD m []=ns:=by rw[List.getD_eq_getElem?_getD,n1];rfl
     rw[q1,q2] at this;exact this
    ·obtain⟨w,f1,f2⟩:=rr.get (i:=m) (d:=dY ns) (by rw[List.getElem?_map,n1];rfl)
     rw[n2] at f1;cases f1;exact f2
  | _=>exact hd.elim
 refine PE.mono (jD call hg hm EF (fV h hs hn) (by decide) (by decide) (by rw[hs,hn]) (by rw[hn];rfl)) λσ H Q hh=>bV hh λρ P st q k=>⟨ρ,_,st,q,λd v H1 hd s1 r=>⟨d,v,P,rfl,r,hd,λz w hz rz=>k z w H1 hz s1 rz⟩⟩
noncomputable def dNe:R22:=λx y Q=>match x,y with
 | .int i,.int j=>Q (.bl !(decide (i=j)))
 | .bl i,.bl j=>Q (.bl !(decide (i=j)))
 | .tup xs,.tup ys=>match eqL (eqF 5) xs ys with
  | some b=>Q (.bl !b)
  | none=>False
 | .non,.non=>Q (.bl false)
 | _,_=>False
theorem PC {k:Nat} (hr:Room k X.A):OpD X (compareOp .NotEq) dNe:=by
 intro pins s σ H x y v u Q I rx ry hh_0
 obtain⟨d,e,P,r1,r2,q,kk⟩:=hh_0
 have hu:=hr.un
 unfold dNe at q
 split at q
 ·rename_i i j
  rw[r1.int_inv] at rx;rw[r2.int_inv] at ry
  obtain⟨t,rfl⟩:=rx
  obtain⟨t',rfl⟩:=ry
  have e:(!(decide (i=j))) = !(i == j):=by rw[Bool.beq_eq_decide_eq]
  rw[e] at q
  exact SeqAt.RcNeAt.int_int i t j t' _ _ _ _ ⟨.bl _,H,I,rfl,kk _ _ H q (Same.refl H) (.bl _)⟩
 ·rename_i i j
  rw[r1.bl_inv] at rx;rw[r2.bl_inv] at ry
  cases rx;cases ry
  have e:(!(decide (i=j))) = !(i == j):=by rw[Bool.beq_eq_decide_eq]
  rw[e] at q
  exact SeqAt.RcNeAt.bool_bool i j _ _ _ _ ⟨.bl _,H,I,rfl,kk _ _ H q (Same.refl H) (.bl _)⟩
 ·rename_i xs ys
  split at q
  ·rename_i b h
   obtain⟨a,vs,rfl,h1,q1⟩:=r1.tup
   obtain⟨c,ws,rfl,h2,q2⟩:=r2.tup
   cases rx;cases ry
   obtain⟨its,rv,ht,_⟩:=I.tuple (SqT.of h1)
   obtain⟨its2,rv2,ht2,_⟩:=I.tuple (SqT.of h2)
   have l1:xs.length=its.length:=q1.length.trans rv.length
   have l2:ys.length=its2.length:=q2.length.trans rv2.length
   have rc:SeqAt.RcNeAt X.A s (.ref a) (.ref c) (!b):=by
    have:=SeqAt.RcNeAt.tuples (A:=X.A) (s:=s) (e:=λj=>match xs[j]?,ys[j]? with | some x,some y=>(eqF 5 x y).getD false | _,_=>false) ht ht2 (by omega) (λj g1 g2=>?_)
    ·simp only[List.size_toArray,<-l1,<-l2] at this
     have al:=lW h
     rw[<-al]
     exact this
    ·simp only[List.size_toArray] at g1 g2
     have e1:xs[j]? = some (xs[j]'(by omega)):=List.getElem?_eq_getElem _
     have e2:ys[j]? = some (ys[j]'(by omega)):=List.getElem?_eq_getElem _
     obtain⟨k,hk⟩:=oV h j _ _ e1 e2
     rw[e1,e2]
     simp only[hk,Option.getD_some]
     obtain⟨v1,f1,f2⟩:=q1.get e1
     obtain⟨v2,f3,f4⟩:=q2.get e2
     obtain⟨u1,g3,g4⟩:=rv.get f1
     obtain⟨u2,g5,g6⟩:=rv2.get f3
     have a1:its.toArray[j]=u1:=by
      have:=List.getElem?_eq_getElem g1
      rw[this] at g3
      simpa using Option.some.inj g3
     have a2:its2.toArray[j]=u2:=by
      have:=List.getElem?_eq_getElem g2
      rw[this] at g5
      simpa using Option.some.inj g5
     rw[a1,a2]
     exact (mY I 5 hk f2 f4 g4 g6 (by show X.A.units+1+5<cLine;omega)).2
   exact rc _ _ _ _ ⟨.bl _,H,I,rfl,kk _ _ H q (Same.refl H) (.bl _)⟩
  ·exact q.elim
 ·have non:∀{v:V},RepB X.K H .non v->v = .non:=λr=>by
   rcases r with r | ⟨_,_,_,e,_⟩
   ·cases r;rfl
   ·cases e
  rw[non r1] at rx;rw[non r2] at ry
  cases rx;cases ry
  exact SeqAt.RcNeAt.none_none _ _ _ _ ⟨.bl _,H,I,rfl,kk _ _ H q (Same.refl H) (.bl _)⟩
 ·exact q.elim
noncomputable def EM:R22:=λx y Q=>match x with
 | .lst xs=>∃j:Nat,(∃d,xs[j]? = some d/\eqF 6 d y=some true)/\(∀(i:Nat) d,i<j->xs[i]? = some d->eqF 6 d y=some false)/\(∀d∈xs,∃b,eqF 6 d y=some b)/\Q (.int (j:Int))
 | _=>False
theorem RelV.det {v v':V} {u:Value} (h:RelV v u) (h':RelV v' u):v=v':=RelV.inj h h'
end
section
variable {X:Cx} {pins:List (Addr × Obj)} {σ:St} {H:Hp} {s:Shared}
theorem sK:∀{ks ks':List Int} {vs vs':List V},ks.length=vs.length->ks'.length=vs'.length->lY ks vs=lY ks' vs'->ks=ks'/\vs=vs'
 | [],[],[],[],_,_,_=>⟨rfl,rfl⟩
 | [],_::_,[],_::_,_,_,h=>by simp[lY] at h
 | _::_,[],_::_,[],_,_,h=>by simp[lY] at h
 | k::ks,k'::ks',v::vs,v'::vs',h1,h2,h=>by
  simp only[lY,List.zipWith_cons_cons,List.cons.injEq,Prod.mk.injEq,Sum.inl.injEq] at h
  obtain⟨rfl,rfl⟩:=sK (ks:=ks) (ks':=ks') (vs:=vs) (vs':=vs') (by simpa using h1) (by simpa using h2) h.2
  obtain⟨⟨rfl,rfl⟩,_⟩:=h
  exact⟨rfl,rfl⟩
theorem nT (I:Inv X pins σ H s) {a:Addr} {o:Obj} {kvs:List (Key × V)} {vs:List V} (h:H a=some (.frz o (.dK kvs))) (h':FzL X.K H a vs):False:=by
 obtain⟨its,rv,pl,_⟩:=I.list h'.sq
 obtain⟨o',e',c',_⟩:=pl.isList
 obtain⟨_,_,_,us,_,ob,es,ep,e,c,_⟩:=I.hok a _ h
 rw[e] at e';cases e';rw[c.1] at c';simp at c'
mutual
theorem Rep.det (I:Inv X pins σ H s):∀{d d':D} {v:V},Rep X.K H d v->Rep X.K H d' v->d=d'
 | _,_,_,.non,r=>by cases r;rfl
 | _,_,_,.bl b,r=>by cases r;rfl
 | _,_,_,.int i,r=>by cases r;rfl
 | _,_,_,.str x,r=>by cases r;rfl
 | _,_,_,.tup h q,r=>by
  cases r with
  | tup h' q'=>rw[h] at h';cases h';rw[Reps.det I q q']
  | lst h' q' =>
   obtain⟨its,rv,pl,_⟩:=I.list h'.sq
   obtain⟨jts,rv',⟨o,e,c,_⟩,_⟩:=I.tuple (SqT.of (K:=X.K) h)
   obtain⟨o',e',c',_⟩:=pl.isList
   rw[e] at e';cases e';rw[c] at c';simp at c'
  | dct h' _ _=>rw[h] at h';cases h'
 | _,_,_,.dct h hl q,r=>by
  cases r with
  | tup h' q'=>rw[h] at h';cases h'
  | lst h' q'=>exact (nT I h h').elim
  | dct h' hl' q' =>
   rw[h] at h'
   obtain⟨rfl,rfl⟩:=sK hl hl' (by injection h' with e;injection e with _ e;injection e)
   rw[Reps.det I q q']
 | _,_,_,.lst h q,r=>by
  cases r with
  | tup h' q' =>
   obtain⟨its,rv,pl,_⟩:=I.list h.sq
   obtain⟨jts,rv',⟨o,e,c,_⟩,_⟩:=I.tuple (SqT.of (K:=X.K) h')
   obtain⟨o',e',c',_⟩:=pl.isList
   rw[e] at e';cases e';rw[c] at c';simp at c'
  | lst h' q'=>rw[I.list_inj h'.sq h.sq] at q';rw[Reps.det I q q']
  | dct h' _ _=>exact (nT I h' h).elim
theorem Reps.det (I:Inv X pins σ H s):∀{d d':List D} {v:List V},Reps X.K H d v->Reps X.K H d' v->d=d'
 | _,_,_,.nil,r=>by cases r;rfl
 | _,_,_,.cons h t,r=>by
  cases r with
  | cons h' t'=>rw[Rep.det I h h',Reps.det I t t']
end
end
section
variable {X:Cx} {e a b:Expr} {te ta tb:RE} {p pos:Pos}
noncomputable def yJ (ta tb:RE):RE:=λρ Q=>ta ρ λx=>(∃xs,x = .lst xs)/\tb ρ λy=>EM x y Q
theorem FF {k:Nat} {apos cpos:Pos} (hr:Room k X.A) (ha:DB X a ta) (hb:DE X b tb) (hbase:attributeBase a "index" X.env (eval a X.env)=eval a X.env:=by rfl)
  (hfew:((backTo cpos (starEach [b] X.env)).all (λx=>!x.1) && (backToKw cpos (keywordEach [] X.env)).all (λx=>x.1.isSome) && decide (([b]:List Expr).length+([]:List Keyword).length+(if ([]:List Keyword).isEmpty then 0 else 1)<30))=true:=by rfl)
  (hline:(apos.endLine == cpos.line)=true:=by rfl) (hs:starEach [b] X.env=[(false,eval b X.env)]:=by rfl) (hn:starEach [] X.env=[]:=by rfl) :
  DE X (.Call (.Attribute a "index" apos) [b] [] cpos) (yJ ta tb):=by
 have mt:MtR X "list.index" (λx vs H Q=>∃(d e:D) (u:V) (P:D->Prop),vs=[u]/\RepB X.K H d x/\Rep X.K H e u/\EM d e P/\∀z w,P z->Rep X.K H z w->Q w H):=by
  intro pins s σ H x vs v us Q I rx rv hh_0
  obtain⟨d,e,u,P,ev,rd,re,q,kk⟩:=hh_0
  subst ev
  obtain⟨u',rfl,ru⟩:=rv.one
  cases d with
  | lst xs =>
   obtain⟨j,⟨dj,ej,hj⟩,hno,hall,q⟩:=q
   obtain⟨l,vs,rfl,hq,rr⟩:=rd.lst
   cases rx
   obtain⟨its,rw',pl,hz⟩:=I.list hq
   obtain⟨⟨cls,dd,data,sl⟩,ho,hc,n,hd⟩:=pl.isList
   simp only at hc hd
   subst hc hd
   have l1:=rr.length
   have l2:=rw'.length
   have hu:=hr.un
   have hjl:j<xs.length:=(List.getElem?_eq_some_iff.mp ej).1
   let ev:Value->Bool:=λy=>(List.range xs.length).any λi=>match xs[i]?,its[i]? with
    | some d,some z=>z == y && eqF 6 d e == some true
    | _,_=>false
   have each:∀(i:Nat) (y:Value),its[i]? = some y->∃d v,xs[i]? = some d/\Rep X.K H d v/\RelV v y/\∃b,eqF 6 d e=some b:=λi y ey=>by
    have hi:i<xs.length:=by have:=(List.getElem?_eq_some_iff.mp ey).1;omega
    obtain⟨v,e1,e2⟩:=rr.get (List.getElem?_eq_getElem hi)
    obtain⟨y',f1,f2⟩:=rw'.get e1
    rw[ey] at f1;cases f1
    exact⟨_,v,List.getElem?_eq_getElem hi,e2,f2,hall _ (List.getElem_mem hi)⟩
   have evOk:∀(i:Nat) (y:Value) (d:D) (b:Bool),its[i]? = some y->xs[i]? = some d->eqF 6 d e=some b->ev y=b:=λi y d b ey ed hb=>by
    obtain⟨d',v,q1,q2,q3,_⟩:=each i y ey
    rw[ed] at q1;cases q1
    cases b with
    | true =>
     have hi:i<xs.length:=(List.getElem?_eq_some_iff.mp ed).1
     refine List.any_eq_true.mpr ⟨i,List.mem_range.mpr hi,?_⟩
     simp only[ed,ey,hb];simp
    | false =>
     refine List.any_eq_false.mpr λi' hi'=>?_
     cases ex:xs[i']? with
     | none=>simp
     | some d' =>
      cases ez:its[i']? with
      | none=>simp
      | some z =>
       simp only[Bool.and_eq_true,beq_iff_eq,not_and]
       intro hz hd'
       subst hz
       obtain⟨d2,v2,p1,p2,p3,_⟩:=each i' z ez
       rw[ex] at p1;cases p1
       have:=RelV.det q3 p3
       subst this
       rw[Rep.det I q2 p2] at hb
       rw[hb] at hd';cases hd'
   have getI:∀(i:Nat) (h:i<its.toArray.size),its[i]? = some its.toArray[i]:=λi h=>by
    have h':i<its.length:=by simpa using h
    rw[List.getElem?_eq_getElem h'];simp
   refine call_meets F.slot_list_index ⟨_,ho,rfl⟩ F.entry_list_index (F.args_list_index_2 _ _) (SeqAt.list_indexAt l its.toArray n dd sl u' ev j (by simp;omega) ?_ ?_ λm hm hlt=>?_) ⟨ho,λy hy=>?_,?_⟩
   ·have hs:(sizeLine:Int)<2 ^ 63-1:=by decide
    omega
   ·exact evOk j _ dj true (getI j _) ej hj
   ·have hm':m<xs.length:=by simp at hm;omega
    exact evOk m _ xs[m] false (getI m hm) (List.getElem?_eq_getElem hm') (hno m _ hlt (List.getElem?_eq_getElem hm'))
   ·obtain⟨i,hi,rfl⟩:=List.getElem_of_mem (List.mem_toArray.mp hy)
    obtain⟨d,v,q1,q2,q3,b,hb⟩:=each i its[i] (List.getElem?_eq_getElem hi)
    rw[evOk i _ d b (List.getElem?_eq_getElem hi) q1 hb]
    exact (mY I 6 hb q2 re q3 ru (by show X.A.units+1+6<cLine;omega)).2
   ·exact⟨.int (j:Int),H,I.tok _,⟨_,rfl⟩,kk _ _ q (.int _)⟩
  | _=>exact q.elim
 refine PE.mono (KS PySem.F.plainAttrs_list PySem.F.slot_list_index PySem.F.type_list_index mt ha (fV hb hs hn) hbase hfew hline (by rw[hs,hn]) (by rw[hn];rfl)) λσ H Q hh=>bV hh λρ P st q k=>⟨ρ,_,st,q,λx v H1 hx s1 r1=>⟨?_,ρ,_,st.ext s1,hx.2,λy u H2 hy s2 r2=>⟨x,y,u,P,rfl,r1.same s2,r2,hy,λz w hz rz=>k z w H2 hz (s1.trans s2) rz⟩⟩⟩
 obtain⟨⟨xs,rfl⟩,_⟩:=hx
 obtain⟨l,vs,rfl,hq,_⟩:=r1.lst
 exact .inl ⟨rfl,vs,hq⟩
end
end L2.R2
set_option Elab.async false
set_option linter.all false
set_option maxRecDepth 100000
set_option maxHeartbeats 1000000
namespace L2.R2
open PySem PySem.SetTable
noncomputable def hop (N i:Nat):Nat:=(i*5+1) % N
noncomputable def tN (N:Nat):Nat->Nat->Nat
 | 0,i=>i
 | m+1,i=>tN N m (hop N i)
theorem lX (N:Nat):∀a b i,tN N (a+b) i=tN N b (tN N a i)
 | 0,b,i=>by rw[Nat.zero_add];rfl
 | a+1,b,i=>by rw[Nat.add_right_comm];exact lX N a b (hop N i)
noncomputable def AS (N:Nat):Nat->Nat->List Nat
 | 0,_=>[]
 | m+1,i=>i::AS N m (hop N i)
theorem nE {N j:Nat}:∀{m i:Nat},j∈AS N m i->∃k,k<m/\tN N k i=j
 | 0,_,h=>by cases h
 | m+1,i,h=>by
  rcases List.mem_cons.mp h with rfl | h
  ·exact⟨0,by omega,rfl⟩
  ·obtain⟨k,hk,e⟩:=nE h
   exact⟨k+1,by omega,e⟩
noncomputable def Round (N:Nat):Prop:=(∀j,j<N->j∈AS N N 0)/\tN N N 0=0
theorem qH {N:Nat} (h:((List.range N).all λj=>(AS N N 0).contains j)=true) (k:tN N N 0=0):Round N :=
 ⟨λj hj=>by have:=List.all_eq_true.mp h j (List.mem_range.mpr hj);simpa using this,k⟩
theorem NU:Round 8:=qH (by decide +kernel) (by decide +kernel)
theorem JS:Round 32:=qH (by decide +kernel) (by decide +kernel)
theorem GT:Round 128:=qH (by decide +kernel) (by decide +kernel)
theorem Round.reach {N:Nat} (h:Round N) {i j:Nat} (hi:i<N) (hj:j<N):∃k,k<N/\tN N k i=j:=by
 obtain⟨a,ha,ea⟩:=nE (h.1 i hi)
 obtain⟨b,hb,eb⟩:=nE (h.1 j hj)
 by_cases hab:a<=b
 ·refine⟨b-a,by omega,?_⟩
  rw[<-ea,<-lX,show a+(b-a)=b by omega,eb]
 ·refine⟨b+(N-a),by omega,?_⟩
  rw[<-ea,<-lX,show a+(b+(N-a))=N+b by omega,lX,h.2,eb]
noncomputable def Em (P:Nat->Prop) (mask:Nat):Nat->Nat->Nat->Prop
 | 0,i,_=>P i
 | m+1,i,pt=>Em P mask m (leap mask i pt).1 (leap mask i pt).2
theorem zC {P:Nat->Prop} {mask:Nat}:∀m i,P (tN (mask+1) m i)->Em P mask m i 0
 | 0,_,h=>h
 | m+1,i,h=>by
  unfold Em
  have e:leap mask i 0=(hop (mask+1) i,0):=by simp[leap,hop]
  rw[e]
  exact zC m (hop (mask+1) i) h
theorem xB {P:Nat->Prop} {mask:Nat} (R:Round (mask+1)) {j:Nat} (hj:j<=mask) (hP:P j):∀(b i pt:Nat),i<=mask->pt<32 ^ b->∃m,m<=mask+b/\Em P mask m i pt
 | 0,i,pt,hi,hp=>by
  have:pt=0:=by simpa using hp
  subst this
  obtain⟨k,hk,e⟩:=R.reach (i:=i) (j:=j) (by omega) (by omega)
  exact⟨k,by omega,zC k i (by rw[e];exact hP)⟩
 | b+1,i,pt,hi,hp=>by
  have h1:(leap mask i pt).1<=mask:=by unfold leap;exact Nat.le_of_lt_succ (Nat.mod_lt _ (by omega))
  have h2:(leap mask i pt).2<32 ^ b:=by
   unfold leap;dsimp only
   rw[Nat.pow_succ] at hp
   omega
  obtain⟨m,hm,e⟩:=xB R hj hP b _ _ h1 h2
  exact⟨m+1,by omega,e⟩
theorem zH (h:Int):bits h<32 ^ 13:=by
 unfold bits
 have:(h % (2 ^ 64:Int))<2 ^ 64:=Int.emod_lt_of_pos _ (by decide)
 have h2:0<=h % (2 ^ 64:Int):=Int.emod_nonneg _ (by decide)
 have:(h % (2 ^ 64:Int)).toNat<2 ^ 64:=by omega
 exact Nat.lt_of_lt_of_le this (by decide)
theorem fT {α:Type} [DecidableEq α]:∀(l m:List α),l.Nodup->(∀x∈l,x∈m)->l.length<=m.length
 | [],_,_,_=>Nat.zero_le _
 | x::l,m,hn,hs=>by
  have hx:=hs x (by simp)
  have hn':=List.nodup_cons.mp hn
  have:=fT l (m.erase x) hn'.2 λy hy=>by
   have ne:y≠x:=λe=>hn'.1 (e ▸ hy)
   exact (List.mem_erase_of_ne ne).mpr (hs y (by simp[hy]))
  rw[List.length_erase_of_mem hx] at this
  have:0<m.length:=List.length_pos_of_mem hx
  simp;omega
structure TabOk (t:SetTable) (n:Nat):Prop where
 size:t.place.size=n
 dum:t.dummies = #[]
 room:n<=t.mask
 round:Round (t.mask+1)
 ris:t.place.toList.Pairwise (· < ·)
theorem AR {t:SetTable} (hd:t.dummies = #[]) (j:Nat):t.slot j = .empty\/∃i,t.slot j = .live i/\t.place[i]? = some j:=by
 unfold slot
 dsimp only
 by_cases h:(t.place[below t.place j]? == some j)=true
 ·rw[if_pos h];exact Or.inr ⟨_,rfl,by simpa using h⟩
 ·rw[if_neg h,hd,if_neg (by simp[has])];exact Or.inl rfl
theorem yP {t:SetTable} {n:Nat} (T:TabOk t n):∃j,j<=t.mask/\t.slot j = .empty:=by
 apply Classical.byContradiction
 intro hn
 have all:∀j∈List.range (t.mask+1),j∈t.place.toList:=by
  intro j hj
  rcases AR T.dum j with h | ⟨i,h,e⟩
  ·exact absurd ⟨j,by have:=List.mem_range.mp hj;omega,h⟩ hn
  ·rw[Array.mem_toList_iff];exact Array.mem_of_getElem? e
 have:=fT _ _ List.nodup_range all
 rw[List.length_range,Array.length_toList,T.size] at this
 have:=T.room
 omega
noncomputable def rS (t:SetTable) (p:Probe) (m:Nat):Prop:=p.dummy=none/\p.more<=9/\Em (λj=>t.slot j = .empty) t.mask m p.i p.perturb/\(m=0->p.j=p.i)
noncomputable def oM (p:Probe) (m:Nat):Nat:=p.more+10*m
theorem jT (mask i:Nat):runEnd mask i-i<=9:=by unfold runEnd;split <;> omega
theorem uK {t:SetTable} {p:Probe} {m:Nat} (h:rS t p m) (hn:t.slot p.j≠.empty):∃m',rS t (t.advance p) m'/\oM (t.advance p) m'<oM p m:=by
 obtain⟨hd,hm,he,hj⟩:=h
 have m0:m≠0:=by rintro rfl;rw[hj rfl] at hn;exact hn he
 unfold advance
 split
 ·refine⟨m,⟨hd,by dsimp only;omega,he,λe=>absurd e m0⟩,by unfold oM;dsimp only;omega⟩
 ·obtain⟨k,rfl⟩:∃k,m=k+1:=⟨m-1,by omega⟩
  refine⟨k,⟨hd,jT _ _,he,λ_=>rfl⟩,?_⟩
  unfold oM
  have:=jT t.mask (leap t.mask p.i p.perturb).1
  dsimp only
  omega
theorem wF {t:SetTable} (hd:t.dummies = #[]) (hashAt:Nat->Int) (h:Int):∀(fuel:Nat) (p:Probe) (m:Nat),rS t p m->oM p m<fuel ->
  (∃j,probe.go t hashAt h fuel p=some (.empty j none)/\t.slot j = .empty)\/(∃j i next m',probe.go t hashAt h fuel p=some (.candidate j i next)/\t.slot j = .live i/\t.place[i]? = some j/\rS t next m'/\oM next m'<oM p m)
 | 0,_,_,_,h=>absurd h (Nat.not_lt_zero _)
 | fuel+1,p,m,hi,hf=>by
  unfold probe.go
  rcases AR hd p.j with e | ⟨i,e,ep⟩
  ·rw[e];dsimp only;rw[hi.1];exact Or.inl ⟨_,rfl,e⟩
  ·rw[e];dsimp only
   obtain⟨m',hi',hl⟩:=uK hi (by rw[e];exact λx=>nomatch x)
   split
   ·exact Or.inr ⟨_,_,_,m',rfl,e,ep,hi',hl⟩
   ·rcases wF hd hashAt h fuel (t.advance p) m' hi' (by omega) with r | ⟨j,i,nx,m'',r,r2,r3,r4,r5⟩
    ·exact Or.inl r
    ·exact Or.inr ⟨j,i,nx,m'',r,r2,r3,r4,by omega⟩
theorem CY {t:SetTable} {n:Nat} (T:TabOk t n) (h:Int):∃m,rS t (t.probeStart h) m/\oM (t.probeStart h) m<10*turns t.mask:=by
 obtain⟨j,hj,he⟩:=yP T
 obtain⟨m,hm,e⟩:=xB (P:=λj=>t.slot j = .empty) T.round hj he 13 (bits h % (t.mask+1)) (bits h) (Nat.le_of_lt_succ (Nat.mod_lt _ (by omega))) (zH h)
 refine⟨m,⟨rfl,jT _ _,e,λ_=>rfl⟩,?_⟩
 have:=jT t.mask (bits h % (t.mask+1))
 unfold oM probeStart turns
 dsimp only
 omega
theorem zX {mask:Nat} {owner:Array (Option Nat)}:∀(fuel m i pt:Nat),i<=mask->owner.size=mask+1->Em (λj=>owner.getD j (some 0)=none) mask m i pt->m<fuel->∃j,layClean.free mask owner fuel i pt=some j/\j<=mask/\owner.getD j (some 0)=none
 | 0,_,_,_,_,_,_,h=>absurd h (Nat.not_lt_zero _)
 | fuel+1,m,i,pt,hi,hs,he,hf=>by
  unfold layClean.free
  cases hq:(List.range (runEnd mask i+1-i)).find? λk=>(owner.getD (i+k) (some 0)).isNone with
  | some k =>
   have h1:=List.find?_some hq
   have h2:=List.mem_of_find?_eq_some hq
   have h3:=List.mem_range.mp h2
   refine⟨i+k,rfl,?_,by simpa using h1⟩
   have:runEnd mask i<=mask:=by unfold runEnd;split <;> omega
   omega
  | none =>
   dsimp only
   have hn:owner.getD i (some 0)≠none:=by
    have h0:=List.find?_eq_none.mp hq 0 (List.mem_range.mpr (by unfold runEnd;split <;> omega))
    simpa using h0
   obtain⟨k,rfl⟩:∃k,m=k+1:=by
    cases m with
    | zero=>exact absurd he hn
    | succ k=>exact⟨k,rfl⟩
   exact zX fuel k _ _ (by unfold leap;exact Nat.le_of_lt_succ (Nat.mod_lt _ (by omega))) hs he (by omega)
noncomputable def mE (owner:Array (Option Nat)) (n:Nat):List Nat:=(List.range n).filterMap λj=>owner.getD j none
theorem vM {α:Type} {f g:Nat->Option α}:∀(l:List Nat),(∀a∈l,f a=g a)->l.filterMap f=l.filterMap g
 | [],_=>rfl
 | a::l,h=>by rw[List.filterMap_cons,List.filterMap_cons,h a (by simp),vM l λb hb=>h b (by simp[hb])]
theorem kA {α:Type} {f g:Nat->Option α} {x:α} {j:Nat}:∀(l:List Nat),l.Nodup->j∈l->(∀i,i≠j->f i=g i)->f j=none->g j=some x->(l.filterMap g).Perm (x::l.filterMap f)
 | [],_,h,_,_,_=>by cases h
 | i::l,hn,hj,hfg,hf,hg=>by
  have hn':=List.nodup_cons.mp hn
  by_cases e:i=j
  ·subst e
   rw[List.filterMap_cons,List.filterMap_cons,hf,hg]
   dsimp only
   have:l.filterMap g=l.filterMap f:=by
    exact vM l λa ha=>(hfg a (λe=>hn'.1 (e ▸ ha))).symm
   rw[this]
  ·have hj':j∈l:=by rcases List.mem_cons.mp hj with h | h;exact absurd h.symm e;exact h
   have ih:=kA l hn'.2 hj' hfg hf hg
   rw[List.filterMap_cons,List.filterMap_cons,hfg i e]
   cases g i with
   | none=>exact ih
   | some y=>exact (ih.cons y).trans (List.Perm.swap x y _)
theorem CO {owner:Array (Option Nat)} {N c:Nat} (hp:(mE owner N).Perm (List.range c)) (hs:owner.size=N) (hc:c<N):∃j,j<N/\owner.getD j (some 0)=none:=by
 apply Classical.byContradiction
 intro hn
 have key:∀(l:List Nat),(∀j∈l,∃k,owner.getD j none=some k)->(l.filterMap λj=>owner.getD j none).length=l.length:=by
  intro l
  induction l with
  | nil=>intro _;rfl
  | cons j l ih =>
   intro h
   obtain⟨k,e⟩:=h j (by simp)
   rw[List.filterMap_cons,e]
   have:=ih λj hj=>h j (by simp[hj])
   rw[List.length_cons,List.length_cons,this]
 have:=key (List.range N) (by
  intro j hj
  have hj':=List.mem_range.mp hj
  cases h:owner.getD j none with
  | some k=>exact⟨k,rfl⟩
  | none =>
   refine absurd ⟨j,hj',?_⟩ hn
   have lt:j<owner.size:=by omega
   simp[Array.getD,lt] at h ⊢
   exact h)
 have e:=hp.length_eq
 unfold mE at e
 rw[this] at e
 simp at e
 omega
theorem vR {mask:Nat} (R:Round (mask+1)):∀(hs:List Int) (owner:Array (Option Nat)) (c:Nat),owner.size=mask+1->(mE owner (mask+1)).Perm (List.range c)->c+hs.length<=mask+1 ->
  ∃owner' ,(hs.foldl (λacc h=>do
    let (owner,k) <-acc
    let j <-layClean.free mask owner (turns mask) (bits h % (mask+1)) (bits h)
    pure (owner.setIfInBounds j (some k),k+1)) (some (owner,c)))=some (owner',c+hs.length)/\owner'.size=mask+1/\(mE owner' (mask+1)).Perm (List.range (c+hs.length))
 | [],owner,c,hs,hp,_=>⟨owner,rfl,hs,hp⟩
 | h::hs,owner,c,hz,hp,hl=>by
  simp only[List.length_cons] at hl
  obtain⟨j0,hj0,e0⟩:=CO hp hz (by omega)
  obtain⟨m,hm,em⟩:=xB (P:=λj=>owner.getD j (some 0)=none) R (j:=j0) (by omega) e0 13 (bits h % (mask+1)) (bits h) (Nat.le_of_lt_succ (Nat.mod_lt _ (by omega))) (zH h)
  obtain⟨j,ej,hj,ef⟩:=zX (turns mask) m _ _ (Nat.le_of_lt_succ (Nat.mod_lt _ (by omega))) hz em (by unfold turns;omega)
  rw[List.foldl_cons]
  have step:((do
    let (owner,k) <-some (owner,c)
    let j <-layClean.free mask owner (turns mask) (bits h % (mask+1)) (bits h)
    pure (owner.setIfInBounds j (some k),k+1)):Option (Array (Option Nat) × Nat))=some (owner.setIfInBounds j (some c),c+1):=by
   show (layClean.free mask owner (turns mask) (bits h % (mask+1)) (bits h) >>= λj=>_)=_
   rw[ej];rfl
  rw[step]
  have lt:j<owner.size:=by omega
  have perm:(mE (owner.setIfInBounds j (some c)) (mask+1)).Perm (List.range (c+1)):=by
   unfold mE
   refine (kA (f:=λi=>owner.getD i none) (x:=c) (j:=j) _ List.nodup_range (List.mem_range.mpr (by omega)) ?_ ?_ ?_).trans ?_
   ·intro i hi
    simp only[Array.getD_eq_getD_getElem?]
    rw[Array.getElem?_setIfInBounds_ne (Ne.symm hi)]
   ·simp only[Array.getD_eq_getD_getElem?] at ef ⊢
    have:owner[j]? = some owner[j]:=Array.getElem?_eq_getElem lt
    rw[this] at ef ⊢
    exact ef
   ·simp only[Array.getD_eq_getD_getElem?]
    rw[Array.getElem?_setIfInBounds_self_of_lt lt];rfl
   ·rw[List.range_succ (n:=c)]
    exact (List.Perm.cons c hp).trans (List.perm_append_comm (l₁:=[c]))
  obtain⟨o',r1,r2,r3⟩:=vR R hs (owner.setIfInBounds j (some c)) (c+1) (by simp[hz]) perm (by omega)
  refine⟨o',?_,r2,?_⟩
  ·rw[r1,List.length_cons,show c+1+hs.length=c+(hs.length+1) by omega]
  ·rw[List.length_cons,show c+(hs.length+1)=c+1+hs.length by omega];exact r3
theorem IM {mask:Nat} (R:Round (mask+1)) (finger moves:Nat) (led plain:Bool) (hashes:Array Int) (hl:hashes.size<=mask) :
  ∃t order,laid mask finger moves led plain hashes=some (t,order)/\TabOk t hashes.size/\t.mask=mask/\t.led=led/\t.plain=plain/\order.toList.Perm (List.range hashes.size):=by
 obtain⟨o,e,sz,pm⟩:=vR R hashes.toList (Array.replicate (mask+1) none) 0 (by simp) (by
  have:mE (Array.replicate (mask+1) none) (mask+1)=[]:=by
   unfold mE
   rw[List.filterMap_eq_nil_iff]
   intro j hj
   have:=List.mem_range.mp hj
   simp[Array.getD_eq_getD_getElem?,this]
  rw[this];exact List.Perm.refl _) (by rw[Array.length_toList];omega)
 have el:layClean mask hashes=some o:=by
  unfold layClean
  rw[<-Array.foldl_toList]
  have e':=e
  simp only[Nat.zero_add] at e'
  rw[e']
  rfl
 unfold laid
 rw[el]
 simp only[Nat.zero_add,Array.length_toList] at pm
 have e2:∀l:List Nat,(l.filterMap λj=>(o.getD j none).map (j,·)).map (·.2)=l.filterMap λj=>o.getD j none:=by
  intro l
  induction l with
  | nil=>rfl
  | cons j l ih =>
   rw[List.filterMap_cons,List.filterMap_cons]
   cases o.getD j none with
   | none=>exact ih
   | some k=>exact congrArg (k :: ·) ih
 have e3:∀l:List Nat,((l.filterMap λj=>(o.getD j none).map (j,·)).map (·.1)).Sublist l:=by
  intro l
  induction l with
  | nil=>exact List.Sublist.refl _
  | cons j l ih =>
   rw[List.filterMap_cons]
   cases o.getD j none with
   | none=>exact ih.cons j
   | some k=>exact ih.cons_cons j
 refine⟨_,_,rfl,⟨?_,rfl,hl,R,List.Pairwise.sublist (e3 _) List.pairwise_lt_range⟩,rfl,rfl,rfl,?_⟩
 ·have h1:=congrArg List.length (e2 (List.range (mask+1)))
  have h2:=pm.length_eq
  unfold mE at h2
  simp only[List.length_map,List.length_range] at h1 h2
  simp only[List.size_toArray,List.length_map]
  omega
 ·dsimp only
  rw[e2];exact pm
theorem pH {xs:Array Nat} {j:Nat} (hr:xs.toList.Pairwise (· < ·)):∀(fuel lo hi:Nat),lo<=hi->hi<=xs.size->hi-lo<=fuel->(∀i x,i<lo->xs[i]? = some x->x<j)->(∀i x,hi<=i->xs[i]? = some x->j<=x) ->
  below.go xs j fuel lo hi<=xs.size/\(∀i x,i<below.go xs j fuel lo hi->xs[i]? = some x->x<j)/\(∀i x,below.go xs j fuel lo hi<=i->xs[i]? = some x->j<=x)
 | 0,lo,hi,h1,h2,h3,a,b=>by
  have:lo=hi:=by omega
  subst this
  exact⟨h2,a,b⟩
 | fuel+1,lo,hi,h1,h2,h3,a,b=>by
  unfold below.go
  by_cases hl:lo<hi
  ·rw[if_pos hl]
   dsimp only
   have hm:(lo+hi) / 2<xs.size:=by omega
   have em:xs[(lo+hi) / 2]? = some xs[(lo+hi) / 2]:=Array.getElem?_eq_getElem hm
   have eg:xs.getD ((lo+hi) / 2) j=xs[(lo+hi) / 2]:=by simp[Array.getD,hm]
   have mono:∀(i k x y:Nat),i<k->xs[i]? = some x->xs[k]? = some y->x<y:=by
    intro i k x y hik ex ey
    have hk:k<xs.size:=(Array.getElem?_eq_some_iff.mp ey).1
    have:=List.pairwise_iff_getElem.mp hr i k (by simp;omega) (by simpa using hk) hik
    rw[Array.getElem?_eq_getElem (by omega)] at ex
    rw[Array.getElem?_eq_getElem hk] at ey
    cases ex;cases ey
    simpa using this
   rw[eg]
   split
   ·rename_i h
    refine pH hr fuel _ _ (by omega) h2 (by omega) (λi x hq ex=>?_) b
    by_cases he:i=(lo+hi) / 2
    ·subst he;rw[em] at ex;cases ex;exact h
    ·exact Nat.lt_trans (mono i ((lo+hi) / 2) x _ (by omega) ex em) h
   ·rename_i h
    refine pH hr fuel _ _ (by omega) (by omega) (by omega) a (λi x hq ex=>?_)
    by_cases he:i=(lo+hi) / 2
    ·subst he;rw[em] at ex;cases ex;omega
    ·have:=mono ((lo+hi) / 2) i _ x (by omega) em ex
     omega
  ·rw[if_neg hl]
   have:lo=hi:=by omega
   subst this
   exact⟨h2,a,b⟩
theorem uO {xs:Array Nat} (j:Nat) (hr:xs.toList.Pairwise (· < ·)):below xs j<=xs.size/\(∀i x,i<below xs j->xs[i]? = some x->x<j)/\(∀i x,below xs j<=i->xs[i]? = some x->j<=x) :=
 pH hr xs.size 0 xs.size (Nat.zero_le _) (Nat.le_refl _) (by omega) (λi x h=>absurd h (Nat.not_lt_zero _)) λi x h e=>by
  have:=(Array.getElem?_eq_some_iff.mp e).1;omega
theorem fS {α:Type} (xs:Array α) (p:Nat) (x:α) (hp:p<=xs.size):(insertAt xs p x).toList=xs.toList.take p++x::xs.toList.drop p:=by
 unfold insertAt
 rw[Array.toList_append,Array.toList_push,Array.toList_extract,Array.toList_extract]
 simp only[List.extract_eq_drop_take,Nat.sub_zero,List.drop_zero,List.append_assoc,List.singleton_append]
 congr 2
 rw[List.take_of_length_le (by simp)]
theorem kB {α:Type} (xs:Array α) (p:Nat) (x:α) (hp:p<=xs.size):(insertAt xs p x).size=xs.size+1:=by
 rw[<-Array.length_toList,fS xs p x hp];simp;omega
theorem tP {α:Type} (xs:Array α) (p:Nat) (x:α) (hp:p<=xs.size) (y:α):y∈(insertAt xs p x).toList↔y=x\/y∈xs.toList:=by
 rw[fS xs p x hp,List.mem_append,List.mem_cons]
 constructor
 ·rintro (h | h | h)
  ·exact Or.inr (List.mem_of_mem_take h)
  ·exact Or.inl h
  ·exact Or.inr (List.mem_of_mem_drop h)
 ·rintro (h | h)
  ·exact Or.inr (Or.inl h)
  ·rw[<-List.take_append_drop p xs.toList] at h
   rcases List.mem_append.mp h with h | h
   ·exact Or.inl h
   ·exact Or.inr (Or.inr h)
theorem NJ {t:SetTable} {n j:Nat} (T:TabOk t n) (he:t.slot j = .empty) (hr:n+1<=t.mask):TabOk (t.put j).1 (n+1)/\(t.put j).2=below t.place j/\below t.place j<=n/\(t.put j).1.mask=t.mask/\(t.put j).1.led=t.led/\(t.put j).1.plain=t.plain/\(t.put j).1.moves=t.moves:=by
 obtain⟨b1,b2,b3⟩:=uO j T.ris
 have hn:t.place[below t.place j]?≠some j:=by
  intro h
  unfold slot at he
  dsimp only at he
  rw[if_pos (by simpa using h)] at he
  cases he
 have hd:(if has t.dummies j=true then eraseAt t.dummies (below t.dummies j) else t.dummies) = #[]:=by
  rw[T.dum];simp[has]
 refine⟨⟨?_,hd,hr,T.round,?_⟩,rfl,by rw[<-T.size];exact b1,rfl,rfl,rfl,rfl⟩
 ·show (insertAt t.place _ j).size=_
  rw[kB _ _ _ b1,T.size]
 ·show (insertAt t.place _ j).toList.Pairwise _
  rw[fS _ _ _ b1]
  refine List.pairwise_append.mpr ⟨List.Pairwise.sublist (List.take_sublist _ _) T.ris,List.pairwise_cons.mpr ⟨λx hx=>?_,List.Pairwise.sublist (List.drop_sublist _ _) T.ris⟩,λx hx y hy=>?_⟩
  ·obtain⟨i,hi,e⟩:=List.getElem_of_mem hx
   simp only[List.length_drop,Array.length_toList] at hi
   rw[List.getElem_drop] at e
   have ex:t.place[below t.place j+i]? = some x:=by rw[Array.getElem?_eq_getElem (by omega),<-e];simp
   have:=b3 _ x (by omega) ex
   rcases Nat.lt_or_eq_of_le this with h | h
   ·exact h
   ·subst h
    exfalso
    cases i with
    | zero=>exact hn ex
    | succ i =>
     have hp:below t.place j<t.place.size:=by omega
     have e0:t.place[below t.place j]? = some t.place[below t.place j]:=Array.getElem?_eq_getElem hp
     have g1:=b3 _ _ (Nat.le_refl _) e0
     have g2:=List.pairwise_iff_getElem.mp T.ris (below t.place j) (below t.place j+(i+1)) (by simpa using hp) (by simp;omega) (by omega)
     rw[Array.getElem?_eq_getElem (by omega)] at ex
     injection ex with ex
     simp at g2
     omega
  ·obtain⟨i,hi,e⟩:=List.getElem_of_mem hx
   simp only[List.length_take,Array.length_toList] at hi
   rw[List.getElem_take] at e
   have ex:t.place[i]? = some x:=by rw[Array.getElem?_eq_getElem (by omega),<-e];simp
   have lx:=b2 i x (by omega) ex
   rcases List.mem_cons.mp hy with rfl | hy
   ·exact lx
   ·obtain⟨k,hk,e'⟩:=List.getElem_of_mem hy
    simp only[List.length_drop,Array.length_toList] at hk
    rw[List.getElem_drop] at e'
    have ey:t.place[below t.place j+k]? = some y:=by rw[Array.getElem?_eq_getElem (by omega),<-e'];simp
    have:=b3 _ y (by omega) ey
    omega
noncomputable def eT (t:SetTable) (k:Nat):Nat:=if k=0 then 0 else t.place.getD (k-1) 0+1
theorem yD {t:SetTable} {n k:Nat} (T:TabOk t n) (hk:k<=n):below t.place (eT t k)=k:=by
 obtain⟨b1,b2,b3⟩:=uO (eT t k) T.ris
 have mono:∀(i k x y:Nat),i<k->t.place[i]? = some x->t.place[k]? = some y->x<y:=by
  intro i k x y hik ex ey
  have hk:k<t.place.size:=(Array.getElem?_eq_some_iff.mp ey).1
  have:=List.pairwise_iff_getElem.mp T.ris i k (by simp;omega) (by simpa using hk) hik
  rw[Array.getElem?_eq_getElem (by omega)] at ex
  rw[Array.getElem?_eq_getElem hk] at ey
  cases ex;cases ey
  simpa using this
 have sz:=T.size
 have at':∀i,i<n->t.place[i]? = some (t.place.getD i 0):=by
  intro i hi
  rw[Array.getElem?_eq_getElem (by omega)]
  have:i<t.place.size:=by omega
  simp[Array.getD,this]
 rcases Nat.lt_trichotomy (below t.place (eT t k)) k with h | h | h
 ·exfalso
  have:=b3 (k-1) _ (by omega) (at' (k-1) (by omega))
  unfold eT at this
  rw[if_neg (by omega)] at this
  omega
 ·exact h
 ·exfalso
  have ek:=at' k (by omega)
  have h1:=b2 k _ h ek
  unfold eT at h1
  by_cases h0:k=0
  ·rw[if_pos h0] at h1;omega
  ·rw[if_neg h0] at h1
   have:=mono (k-1) k _ _ (by omega) (at' (k-1) (by omega)) ek
   omega
section
variable {prog:Program} {w:World} {A:Around} {E:Value->Shared->Prop} {s:Shared}
theorem wP {ks:List Int} {a:Addr} {Q:Bool->Shared->Prop} (hk:IsTupleKey (intKind prog w) s.heap ks a) (q:Q false s):wpAny (model prog w) A (ofAClassStatement 8 (.ref a)) Q E s:=by
 have hT:=hk.typeIs
 obtain⟨o,items,n,ho,_,hd,hi⟩:=hk
 unfold ofAClassStatement
 refine wpAny_bind (wpAny_typeOf hT ?_)
 dsimp only
 rw[if_pos (by decide)]
 refine wpAny_bind (wpAny_pure ?_)
 simp only[Bool.not_true,Bool.false_eq_true,if_false]
 refine wpAny_bind (wpAny_seqItems ho hd ?_)
 try dsimp only
 refine wpAny_bind ?_
 rw[<-Array.forIn_toList]
 refine wpAny_forIn_list _ (λrest r s'=>r.1=none/\s'=s/\∀v∈rest,carriedByValue v=true) _ ?_ ?_ _ _ ⟨rfl,rfl,hi.byValue⟩
 ·rintro v rest r s' ⟨hr,rfl,hall⟩
  have hv:=hall v List.mem_cons_self
  have e:ofAClassStatement 7 v=pure false:=by
   cases v with
   | ref a=>simp[carriedByValue] at hv
   | _=>first | rfl | (unfold ofAClassStatement;rfl)
  rw[e]
  refine wpAny_bind (wpAny_pure ?_)
  simp only[Bool.false_eq_true,if_false]
  exact wpAny_pure ⟨rfl,rfl,λu hu'=>hall u (List.mem_cons_of_mem _ hu')⟩
 ·rintro⟨r1,r2⟩ s' ⟨hr,rfl,_⟩
  simp only at hr
  subst hr
  exact wpAny_pure q
theorem yR {ks:List Int} {a:Addr} {Q:Bool->Shared->Prop} (hk:IsTupleKey (intKind prog w) s.heap ks a) (q:Q true s):wpAny (model prog w) A (hashByValue 8 (.ref a)) Q E s:=by
 have hT:=hk.typeIs
 obtain⟨o,items,n,ho,_,hd,hi⟩:=hk
 unfold hashByValue
 refine wpAny_bind (wpAny_specialOf hT F.slot_tuple_hash.lookup ?_)
 try dsimp only
 refine wpAny_bind (wpAny_seqItems ho hd ?_)
 try dsimp only
 refine wpAny_bind ?_
 show wpAny _ _ (forIn items _ _) _ _ s
 rw[<-Array.forIn_toList]
 refine wpAny_forIn_list _ (λrest r s'=>r.1=none/\s'=s/\∃ks',ItemsAre (intKind prog w) ks' rest) _ ?_ ?_ _ _ ⟨rfl,rfl,ks,hi⟩
 ·rintro v rest r s' ⟨hr,rfl,ks',hall⟩
  cases hall with
  | @cons k _ ks'' _ h1 h2 =>
   have e:hashByValue 7 v=pure true:=by
    obtain⟨t,rfl⟩:∃t,v = .int k t:=by
     cases v <;> simp[intKind,Value.isInt] at h1
     exact⟨_,by rw[h1]⟩
    rfl
   rw[e]
   refine wpAny_bind (wpAny_pure ?_)
   simp only[Bool.not_true,Bool.false_eq_true,if_false]
   exact wpAny_pure ⟨rfl,rfl,_,h2⟩
 ·rintro⟨r1,r2⟩ s' ⟨hr,rfl,_⟩
  simp only at hr
  subst hr
  exact wpAny_pure q
theorem JW {ks:List Int} {a:Addr} {stored:List Value} {Q:Bool->Shared->Prop} (hk:IsTupleKey (intKind prog w) s.heap ks a) (hs:∀y∈stored,∃ks' b,y = .ref b/\IsTupleKey (intKind prog w) s.heap ks' b) (q:Q false s) :
  wpAny (model prog w) A (searchCouldBeSeen (.ref a) stored) Q E s:=by
 unfold searchCouldBeSeen
 refine wpAny_bind ?_
 refine wpAny_forIn_list _ (λrest r s'=>r.1=none/\s'=s/\∀y∈rest,y∈stored) _ ?_ ?_ _ _ ⟨rfl,rfl,λ_ h=>h⟩
 ·rintro v rest r s' ⟨hr,rfl,hall⟩
  obtain⟨ks',b,rfl,hb⟩:=hs v (hall v List.mem_cons_self)
  have hall':∀y∈rest,y∈stored:=λu hu'=>hall u (List.mem_cons_of_mem _ hu')
  dsimp only
  by_cases hv:((a == b) || (carriedByValue (Value.ref a) && carriedByValue (Value.ref b)))=true
  ·rw[if_pos hv]
   exact wpAny_pure ⟨rfl,rfl,hall'⟩
  ·rw[if_neg hv]
   refine wpAny_bind (wpAny_eqIsQuiet_tuple hk ?_)
   simp only[Bool.not_true,Bool.false_eq_true,if_false]
   refine wpAny_bind (wpAny_eqIsQuiet_tuple hb ?_)
   simp only[Bool.not_true,Bool.false_eq_true,if_false]
   refine wpAny_bind (wP hk ?_)
   simp only[Bool.false_eq_true,if_false]
   refine wpAny_bind (wP hb ?_)
   simp only[Bool.false_eq_true,if_false]
   exact wpAny_pure ⟨rfl,rfl,hall'⟩
 ·rintro⟨r1,r2⟩ s' ⟨hr,rfl,_⟩
  simp only at hr
  subst hr
  exact wpAny_pure q
noncomputable def cH (w:World):Bool:=w.params.followText "set-order"
noncomputable def KY (prog:Program) (w:World) (h:Heap) (es:Array (Int × Value)):Prop:=∀e∈es.toList,∃ks b,e=(tupleKeyHash (intKind prog w) ks,.ref b)/\IsTupleKey (intKind prog w) h ks b
noncomputable def DL (mask n:Nat):Prop:=(mask=7/\n<=4)\/(mask=31/\n<=18)\/(mask=127/\n<=76)
noncomputable def cL (es:Array (Int × Value)) (ep:Nat) (t:SetTable):Obj:={ cls:=.type "set",dict:=none,data:=.set es ep t }
theorem TabOk.fits {t:SetTable} {n:Nat} (T:TabOk t n):t.fits n=true:=by
 unfold SetTable.fits fill
 rw[T.dum,T.size]
 simp
 exact T.room
theorem FL {mask n:Nat} (h:DL mask n):(mask % 2 == 0)=false:=by
 rcases h with ⟨rfl,_⟩ | ⟨rfl,_⟩ | ⟨rfl,_⟩ <;> rfl
theorem sR {S a:Addr} {ks:List Int} {es:Array (Int × Value)} {ep:Nat} {t:SetTable} {Q:SetFound->Shared->Prop} (hu:A.units<cLine) (ho:s.heap.get? S=some (cL es ep t)) (T:TabOk t es.size) (hf:DL t.mask es.size) (he:KY prog w s.heap es)
  (hk:IsTupleKey (intKind prog w) s.heap ks a) (q1:(∃e∈es.toList,∃b,e.2 = .ref b/\IsTupleKey (intKind prog w) s.heap ks b)->Q (.there none) s) (q2:∀j,t.slot j = .empty->Q (.free j false) s) :
  ∀(fuel:Nat) (stand:Option Probe) (m:Nat),rS t (stand.getD (t.probeStart (tupleKeyHash (intKind prog w) ks))) m->oM (stand.getD (t.probeStart (tupleKeyHash (intKind prog w) ks))) m<10*turns t.mask->oM (stand.getD (t.probeStart (tupleKeyHash (intKind prog w) ks))) m<fuel ->
   wpAny (model prog w) A (setSearchFrom S (.ref a) (tupleKeyHash (intKind prog w) ks) true fuel stand) Q E s
 | 0,_,_,_,_,h=>absurd h (Nat.not_lt_zero _)
 | fuel+1,stand,m,hi,hm,hl=>by
  unfold setSearchFrom
  refine wpAny_bind (wpAny_setState_of ho rfl T.fits ?_)
  dsimp only
  rw[if_neg (by unfold SetTable.gaveWay;rw[FL hf];exact Bool.false_ne_true)]
  unfold probe
  rcases wF T.dum _ (tupleKeyHash (intKind prog w) ks) (10*turns t.mask) _ m hi hm with ⟨j,e,ej⟩ | ⟨j,i,next,m',e,ej,ep',hi',hm'⟩
  ·rw[e]
   dsimp only
   exact wpAny_pure (q2 j ej)
  ·rw[e]
   dsimp only
   have hil:i<es.size:=by
    have:=(Array.getElem?_eq_some_iff.mp ep').1
    rw[T.size] at this;exact this
   have ei:es[i]? = some es[i]:=Array.getElem?_eq_getElem hil
   have mi:es[i]∈es.toList:=by simp
   obtain⟨ks',b,ee,hb⟩:=he _ mi
   have rest:wpAny (model prog w) A (match es[i]? with
    | some (fst,y)=>do
     let equal <-holding [y] (eqBool y (Value.ref a))
     let __x <-setState S
     if (true && equal)=true then pure (SetFound.there none)
      else
       match __x.2.snd.sameMemory t.moves t.mask with
       | some same =>
        let still <-match if same=true then __x.2.snd.slot j else Slot.empty with
        | Slot.live i' =>
         match __x.fst[i']? with
         | some (fst,y')=>do pure (if <-isSame y' y then some i' else none)
         | none=>pure none
        | _=>pure none
        match still with
        | none=>do
         rule "set.search.anew"
         setSearchFrom S (Value.ref a) (tupleKeyHash (intKind prog w) ks) true fuel none
        | some i' =>
         if equal=true then pure (SetFound.there (some i'))
         else setSearchFrom S (Value.ref a) (tupleKeyHash (intKind prog w) ks) true fuel (some next)
       | _=>unsupported "set.changed-during-lookup:is-the-new-block-at-the-old-address"
    | _=>unsupported "internal:set-entry") Q E s:=by
    rw[ei,ee]
    dsimp only
    refine wpAny_bind (wpAny_holding (wpAny_eqBool_tuple hu hb hk ?_))
    refine wpAny_bind (wpAny_setState_of ho rfl T.fits ?_)
    dsimp only
    by_cases hkk:ks'=ks
    ·subst hkk
     rw[if_pos (by simp)]
     exact wpAny_pure (q1 ⟨_,mi,b,by rw[ee],hb⟩)
    ·rw[if_neg (by simp[hkk])]
     have sm:t.sameMemory t.moves t.mask=some true:=by unfold sameMemory;rw[if_pos (by simp)]
     rw[sm]
     dsimp only
     rw[if_pos rfl,ej]
     dsimp only
     rw[ei,ee]
     dsimp only
     refine wpAny_bind ?_
     have same:isSame (.ref b) (.ref b)=pure true:=by
      show (if (b == b)=true then pure true else _)=_
      rw[if_pos (by simp)]
     rw[same]
     refine wpAny_pure (wpAny_bind (wpAny_pure ?_))
     rw[if_pos rfl]
     dsimp only
     rw[if_neg (by simp[hkk])]
     exact sR hu ho T hf he hk q1 q2 fuel (some next) m' hi' (Nat.lt_trans hm' hm) (by simp only[Option.getD_some];omega)
   cases hled:t.led with
   | true =>
    simp only[Bool.not_true,Bool.false_eq_true,if_false]
    exact rest
   | false =>
    simp only[Bool.not_false,if_true]
    refine wpAny_bind (JW hk ?_ ?_)
    ·intro y hy
     obtain⟨e0,he0,rfl⟩:=List.mem_map.mp hy
     have:=(Array.mem_filter.mp (Array.mem_toList_iff.mp he0)).1
     obtain⟨ks1,b1,e1,h1⟩:=he e0 (Array.mem_toList_iff.mpr this)
     exact⟨ks1,b1,by rw[e1],h1⟩
    ·simp only[Bool.false_eq_true,if_false]
     exact rest
structure SetTup (prog:Program) (w:World) (h:Heap) (S:Addr) (es:Array (Int × Value)):Prop where
 tab:∃ep t,h.get? S=some (cL es ep t)/\TabOk t es.size/\DL t.mask es.size/\t.led = !cH w/\t.plain=true
 els:KY prog w h es
theorem gD {h h':Heap} {ks:List Int} {S b:Addr} {es:Array (Int × Value)} {ep:Nat} {t:SetTable} (hS:h.get? S=some (cL es ep t)) (up:∀b o,b≠S->h.get? b=some o->h'.get? b=some o) (hk:IsTupleKey (intKind prog w) h ks b):IsTupleKey (intKind prog w) h' ks b:=by
 obtain⟨o,items,n,ho,hc,hd,hi⟩:=hk
 refine⟨o,items,n,up b o ?_ ho,hc,hd,hi⟩
 rintro rfl
 rw[hS] at ho;cases ho
 exact nomatch hd
theorem vO {n:Nat} (h:n<100):SetTable.grown n=n*4:=by
 unfold SetTable.grown;rw[if_neg (by omega)]
theorem yN {S a:Addr} {ks:List Int} {es:Array (Int × Value)} {Q:Bool->Shared->Prop} (hu:A.units<cLine) (H:SetTup prog w s.heap S es) (hk:IsTupleKey (intKind prog w) s.heap ks a) (hn:es.size<76)
  (q:∀b h' tk es',SetTup prog w h' S es'->(∀y∈es'.toList,y∈es.toList\/y.2 = .ref a)->(∀y∈es.toList,y∈es'.toList)->(∃y∈es'.toList,∃b,y.2 = .ref b/\IsTupleKey (intKind prog w) h' ks b)->es'.size<=es.size+1 ->
   (∀b o,b≠S->s.heap.get? b=some o->h'.get? b=some o)->h'.objs.size=s.heap.objs.size->s.toks<=tk->Q b { s with heap:=h',toks:=tk }) :
  wpAny (model prog w) A (setAdd S (.ref a)) Q E s:=by
 obtain⟨⟨ep,t,ho,T,hf,hled,hpl⟩,hels⟩:=H
 unfold setAdd
 refine wpAny_holding (wpAny_bind (wpAny_pyHash_tuple hu hk ?_))
 unfold setAddHashed
 refine wpAny_holding ?_
 unfold setAddHashedIn
 refine wpAny_bind (wpAny_setState_of (s:={ s with toks:=s.toks+(ks.length+1) }) ho rfl T.fits ?_)
 dsimp only
 have nb:byScan (.ref a) es=false:=by unfold byScan;simp[Value.scannable]
 rw[nb]
 simp only[Bool.false_eq_true,if_false]
 obtain⟨m,hi,hm⟩:=CY T (tupleKeyHash (intKind prog w) ks)
 have hm2:oM (t.probeStart (tupleKeyHash (intKind prog w) ks)) m<100000:=by
  refine Nat.lt_of_lt_of_le hm ?_
  unfold turns
  rcases hf with ⟨e,_⟩ | ⟨e,_⟩ | ⟨e,_⟩ <;> rw[e] <;> decide
 unfold setSearch
 refine wpAny_bind (sR (s:={ s with toks:=s.toks+(ks.length+1) }) hu ho T hf hels hk ?_ ?_ 100000 none m hi hm hm2)
 ·rintro⟨e,he,b,e2,hb⟩
  dsimp only
  refine wpAny_pure ?_
  exact q false s.heap _ es ⟨⟨ep,t,ho,T,hf,hled,hpl⟩,hels⟩ (λy hy=>Or.inl hy) (λy hy=>hy) ⟨e,he,b,e2,hb⟩ (by omega) (λb o _ e=>e) rfl (by show s.toks<=s.toks+_;omega)
 ·intro j hj
  dsimp only
  refine wpAny_bind (wpAny_setState_of (s:={ s with toks:=s.toks+(ks.length+1) }) ho rfl T.fits ?_)
  dsimp only
  have room:es.size+1<=t.mask:=by rcases hf with ⟨e,h⟩ | ⟨e,h⟩ | ⟨e,h⟩ <;> omega
  obtain⟨T1,p1,p2,p3,p4,p5,p6⟩:=NJ T hj room
  rw[p5,hpl]
  simp only[if_true]
  refine wpAny_bind (yR (s:={ s with toks:=s.toks+(ks.length+1) }) hk ?_)
  simp only[if_true]
  rw[p1]
  have sz:=kB es (below t.place j) (tupleKeyHash (intKind prog w) ks,Value.ref a) p2
  have mem:=tP es (below t.place j) (tupleKeyHash (intKind prog w) ks,Value.ref a) p2
  generalize insertAt es (below t.place j) (tupleKeyHash (intKind prog w) ks,Value.ref a)=es1 at sz mem
  refine wpAny_bind (wpAny_storeSet_of (s:={ s with toks:=s.toks+(ks.length+1) }) ho rfl ?_ (by rw[sz,sizeLine_eq];omega))
  have up1:∀b o,b≠S->s.heap.get? b=some o->(s.heap.update S (Obj.putSet es1 (t.put j).1)).get? b=some o:=λb o hb e=>(Heap.get?_update_other _ _ (Ne.symm hb)).trans e
  obtain⟨ep1,g1⟩:∃ep1,(s.heap.update S (Obj.putSet es1 (t.put j).1)).get? S=some (cL es1 ep1 (t.put j).1):=⟨_,Heap.get?_update_self _ ho rfl⟩
  have z1:(s.heap.update S (Obj.putSet es1 (t.put j).1)).objs.size=s.heap.objs.size:=(Heap.SameBut.update ..).1
  generalize s.heap.update S (Obj.putSet es1 (t.put j).1)=h1 at up1 g1 z1
  have els1:KY prog w h1 es1:=by
   intro e he
   rcases (mem e).mp he with rfl | he
   ·exact⟨ks,a,rfl,gD ho up1 hk⟩
   ·obtain⟨ks',b,r1,r2⟩:=hels e he
    exact⟨ks',b,r1,gD ho up1 r2⟩
  have T1':TabOk (t.put j).1 es1.size:=by rw[sz];exact T1
  have fill1:(t.put j).1.fill=es1.size:=by unfold fill;rw[T1'.size,T1'.dum];simp
  by_cases tf:(t.put j).1.tooFull=true
  ·rw[tf]
   simp only[Bool.not_false,Bool.and_self,if_true]
   have tf':=tf
   unfold tooFull at tf'
   rw[fill1,p3,sz] at tf'
   simp only[ge_iff_le,decide_eq_true_eq] at tf'
   have cases2:(t.mask=7/\es.size=4)\/(t.mask=31/\es.size=18):=by rcases hf with ⟨e,h⟩ | ⟨e,h⟩ | ⟨e,h⟩ <;> omega
   unfold setRelay
   refine wpAny_bind (wpAny_bind (wpAny_setState_of (s:={ s with heap:=h1,toks:=s.toks+(ks.length+1) }) g1 rfl T1'.fits ?_))
   dsimp only
   have hw:SetTable.sizeAbove (grown (es.size+1))=(if t.mask=7 then 32 else 128):=by
    rw[vO (by omega)]
    rcases cases2 with ⟨e,h⟩ | ⟨e,h⟩ <;> rw[e,h] <;> decide
   rw[if_neg (by rw[hw,sizeLine_eq];split <;> decide)]
   have R:Round ((if t.mask=7 then 31 else 127)+1):=by
    split
    ·exact JS
    ·exact GT
   obtain⟨t2,order,l1,T2,l3,l4,l5,l6⟩:=IM R (t.put j).1.finger ((t.put j).1.movedTo (if t.mask=7 then 31 else 127)) (t.put j).1.led (t.put j).1.plain (es1.map (·.1)) (by rw[Array.size_map,sz];rcases cases2 with ⟨e,h⟩ | ⟨e,h⟩ <;> rw[e,h] <;> decide)
   have er:(t.put j).1.relaid (es1.map (·.1)) (grown (es.size+1))=some (t2,order):=by
    unfold relaid
    rw[hw]
    have:(if t.mask=7 then 32 else 128)-1=(if t.mask=7 then 31 else 127):=by split <;> rfl
    rw[this];exact l1
   rw[er]
   rw[Array.size_map] at T2 l6
   have esl:(order.filterMap (es1[·]?)).toList.Perm es1.toList:=by
    rw[Array.toList_filterMap]
    refine (l6.filterMap _).trans ?_
    have:(List.range es1.size).filterMap (es1[·]?)=es1.toList:=by
     apply List.ext_getElem?
     intro i
     have key:∀n,n<=es1.size->(List.range n).filterMap (es1[·]?)=es1.toList.take n:=by
      intro n
      induction n with
      | zero=>intro _;rfl
      | succ n ih =>
       intro hn
       rw[List.range_succ,List.filterMap_append,ih (by omega)]
       have:es1[n]? = some es1[n]:=Array.getElem?_eq_getElem (by omega)
       simp only[List.filterMap_cons,this,List.filterMap_nil]
       rw[List.take_succ]
       simp[show n<es1.size by omega]
     rw[key _ (Nat.le_refl _),<-Array.length_toList,List.take_length]
    rw[this]
   have es2sz:(order.filterMap (es1[·]?)).size=es1.size:=by rw[<-Array.length_toList,esl.length_eq,Array.length_toList]
   have hne:((order.filterMap (es1[·]?)).size != es1.size)=false:=by rw[es2sz];simp
   refine wpAny_bind ?_
   show wpAny _ _ (if ((order.filterMap (es1[·]?)).size != es1.size)=true then (unsupported "internal:set-table-lost-an-element" >>= λ_=>pure (order.filterMap (es1[·]?),t2)) else pure (order.filterMap (es1[·]?),t2)) _ _ _
   rw[hne]
   simp only[Bool.false_eq_true,if_false]
   refine wpAny_pure ?_
   dsimp only
   have mem2:∀y,y∈(order.filterMap (es1[·]?)).toList↔y∈es1.toList:=λy=>esl.mem_iff
   generalize order.filterMap (es1[·]?)=es2 at es2sz mem2
   refine wpAny_storeSet_of (s:={ s with heap:=h1,toks:=s.toks+(ks.length+1) }) g1 rfl ?_ (by rw[es2sz,sz,sizeLine_eq];omega)
   have up2:∀b o,b≠S->s.heap.get? b=some o->(h1.update S (Obj.putSet es2 t2)).get? b=some o:=λb o hb e=>(Heap.get?_update_other _ _ (Ne.symm hb)).trans (up1 b o hb e)
   have up12:∀b o,b≠S->h1.get? b=some o->(h1.update S (Obj.putSet es2 t2)).get? b=some o:=λb o hb e=>(Heap.get?_update_other _ _ (Ne.symm hb)).trans e
   obtain⟨ep2,g2⟩:∃ep2,(h1.update S (Obj.putSet es2 t2)).get? S=some (cL es2 ep2 t2):=⟨_,Heap.get?_update_self _ g1 rfl⟩
   have z2:(h1.update S (Obj.putSet es2 t2)).objs.size=s.heap.objs.size:=((Heap.SameBut.update ..).1).trans z1
   refine wpAny_pure (q true (h1.update S (Obj.putSet es2 t2)) _ es2 ⟨⟨ep2,t2,g2,by rw[es2sz];exact T2,?_,by rw[l4,p4];exact hled,by rw[l5,p5];exact hpl⟩,?_⟩ (λy hy=>?_) (λy hy=>(mem2 y).mpr ((mem y).mpr (Or.inr hy))) ⟨_,(mem2 _).mpr ((mem _).mpr (Or.inl rfl)),a,rfl,gD ho up2 hk⟩ (by omega) up2 z2 (by show s.toks<=s.toks+_;omega))
   ·rw[l3,es2sz,sz]
    unfold DL
    rcases cases2 with ⟨e,h⟩ | ⟨e,h⟩ <;> rw[e,h] <;> decide
   ·intro e he
    obtain⟨ks',b,r1,r2⟩:=els1 e ((mem2 e).mp he)
    exact⟨ks',b,r1,gD g1 up12 r2⟩
   ·rcases (mem y).mp ((mem2 y).mp hy) with rfl | h
    ·exact Or.inr rfl
    ·exact Or.inl h
  ·have tf0:(t.put j).1.tooFull=false:=by simpa using tf
   rw[tf0]
   simp only[Bool.and_false,Bool.false_eq_true,if_false]
   refine wpAny_pure (q true h1 _ es1 ⟨⟨ep1,_,g1,T1',?_,by rw[p4];exact hled,by rw[p5];exact hpl⟩,els1⟩ (λy hy=>?_) (λy hy=>(mem y).mpr (Or.inr hy)) ⟨_,(mem _).mpr (Or.inl rfl),a,rfl,gD ho up1 hk⟩ (by omega) up1 z1 (by show s.toks<=s.toks+_;omega))
   ·unfold tooFull at tf0
    rw[fill1,p3,sz] at tf0
    simp only[ge_iff_le,decide_eq_false_iff_not] at tf0
    rw[p3,sz]
    unfold DL
    rcases hf with ⟨e,h⟩ | ⟨e,h⟩ | ⟨e,h⟩ <;> omega
   ·rcases (mem y).mp hy with rfl | h
    ·exact Or.inr rfl
    ·exact Or.inl h
end
end L2.R2
set_option Elab.async false
set_option linter.all false
set_option maxRecDepth 100000
set_option maxHeartbeats 3200000
namespace L2.R2
open PySem PySem.SetTable PyProof.Rows
section
variable {prog:Program} {w:World} {A:Around} {E:Value->Shared->Prop} {s:Shared}
theorem SetTup.other {h h':Heap} {S:Addr} {es:Array (Int × Value)} (H:SetTup prog w h S es) (up:∀b o,h.get? b=some o->(∃e∈es.toList,e.2 = .ref b)\/b=S->h'.get? b=some o):SetTup prog w h' S es:=by
 obtain⟨⟨ep,t,ho,r⟩,els⟩:=H
 refine⟨⟨ep,t,up _ _ ho (Or.inr rfl),r⟩,λe he=>?_⟩
 obtain⟨ks,b,e1,o,items,n,h1,h2,h3,h4⟩:=els e he
 exact⟨ks,b,e1,o,items,n,up b o h1 (Or.inl ⟨e,he,by rw[e1]⟩),h2,h3,h4⟩
structure SetDone (prog:Program) (w:World) (items:Array Value) (key:Nat->List Int) (S:Addr) (i:Nat) (h:Heap):Prop where
 ex:∃es,SetTup prog w h S es/\(∀y∈es.toList,∃j,j<i/\items[j]? = some y.2)/\(∀j,j<i->∃y∈es.toList,∃b,y.2 = .ref b/\IsTupleKey (intKind prog w) h (key j) b)/\es.size<=i
theorem GX {R:Result->Shared->Prop} {I l:Addr} {items:Array Value} {key:Nat->List Int} {h0:Heap} (hh:A.in1.handled=none) (hne:l≠I) (hu:A.in1.units<cLine) (S:Addr) (hSI:S≠I) (hSl:S≠l)
  (hi:∀i v,items[i]? = some v->∃a,v = .ref a/\IsTupleKey (intKind prog w) h0 (key i) a/\a≠S/\a≠I) (hb:items.size<=76) :
  ∀(k i:Nat) (s:Shared),items.size-i=k->i<=items.size->s.heap.IsListIter I l i/\s.heap.IsList l items->SetDone prog w items key S i s.heap ->
   (∀b o,b≠S->b≠I->h0.get? b=some o->s.heap.get? b=some o) ->
   (∀h' tk,SetDone prog w items key S items.size h'->(∀b o,b≠S->b≠I->h0.get? b=some o->h'.get? b=some o)->R (.ok (.ret .none)) { s with heap:=h',toks:=tk }) ->
   codeAny (model prog w) A (.builtin "set.update.loop" ⟨[.ref S,.ref I],[]⟩) R s:=by
 have W:=Walks.list (prog:=prog) (w:=w) (A:=A.in1) hh I l hne items
 have wr:∀{b:Addr},b≠I->b ∉ [I]:=λh=>by simpa using h
 have keyAt:∀{h:Heap} {i:Nat} {a:Addr},(∀b o,b≠S->b≠I->h0.get? b=some o->h.get? b=some o)->IsTupleKey (intKind prog w) h0 (key i) a->a≠S->a≠I->IsTupleKey (intKind prog w) h (key i) a:=by
  intro h i a up hk n1 n2
  obtain⟨o,its,n,h1,h2,h3,h4⟩:=hk
  exact⟨o,its,n,up a o n1 n2 h1,h2,h3,h4⟩
 have move:∀{h h':Heap} {i:Nat},i<=items.size->SetDone prog w items key S i h->(∀b o,b≠I->h.get? b=some o->h'.get? b=some o)->SetDone prog w items key S i h':=by
  intro h h' i hi' ⟨es,D,d1,d2,d3⟩ up
  refine⟨es,D.other λb o e hm=>up b o ?_ e,d1,λj hj=>?_,d3⟩
  ·rcases hm with ⟨y,hy,ey⟩ | rfl
   ·obtain⟨j,hj,ej⟩:=d1 y hy
    obtain⟨a,ea,_,_,na⟩:=hi j y.2 ej
    rw[ey] at ea;cases ea;exact na
   ·exact hSI
  ·obtain⟨y,hy,b,e1,o,its,n,h1,h2,h3,h4⟩:=d2 j hj
   refine⟨y,hy,b,e1,o,its,n,up b o ?_ h1,h2,h3,h4⟩
   obtain⟨j',hj',ej⟩:=d1 y hy
   obtain⟨a,ea,_,_,na⟩:=hi j' y.2 ej
   rw[e1] at ea;cases ea;exact na
 intro k
 induction k with
 | zero =>
  intro i s hk hi' st D up hR
  have hin:i=items.size:=by omega
  subst hin
  refine codeAny_builtin F.entry_set_update_loop ?_
  rw[Around.under_plainId F.plain_set_update_loop _]
  show wpAny _ A.in1 (pyNext (.ref I) >>= _) _ _ s
  refine wpAny_bind (W.done s _ _ st λh' tk kp=>?_)
  show wpAny _ A.in1 (ret Value.none) _ _ _
  exact wpAny_pure (hR h' tk (move (Nat.le_refl _) D λb o hb e=>kp b o (wr hb) e) λb o n1 n2 e=>kp b o (wr n2) (up b o n1 n2 e))
 | succ k ih =>
  intro i s hk hi' st D up hR
  have hlt:i<items.size:=by omega
  refine codeAny_builtin F.entry_set_update_loop ?_
  rw[Around.under_plainId F.plain_set_update_loop _]
  show wpAny _ A.in1 (pyNext (.ref I) >>= _) _ _ s
  refine wpAny_bind (W.item i s _ _ hlt st λv h' tk hv st' kp=>?_)
  obtain⟨a,rfl,hka,na1,na2⟩:=hi i v hv
  obtain⟨es,D1,d1,d2,d3⟩:=move hi' D (λb o hb e=>kp b o (wr hb) e)
  have up':∀b o,b≠S->b≠I->h0.get? b=some o->h'.get? b=some o:=λb o n1 n2 e=>kp b o (wr n2) (up b o n1 n2 e)
  show wpAny _ A.in1 (holding [Value.ref a] (setAdd S (.ref a)) >>= _) _ _ _
  refine wpAny_bind (wpAny_holding ?_)
  refine yN (s:={ s with heap:=h',toks:=tk }) hu D1 (keyAt up' hka na1 na2) (by omega) λ_ h2 tk2 es2 D2 m1 m2 m3 m4 up2 z2 _=>?_
  refine wpAny_pure ⟨plainId_quiet F.plain_set_update_loop _,ih (i+1) _ (by omega) hlt ⟨st'.1.at λo e=>up2 _ o (Ne.symm hSI) e,st'.2.at λo e=>up2 _ o (Ne.symm hSl) e⟩ ?_ (λb o n1 n2 e=>up2 b o n1 (up' b o n1 n2 e)) λh3 tk3 D3 up3=>hR h3 tk3 D3 up3⟩
  refine⟨es2,D2,λy hy=>?_,λj hj=>?_,by omega⟩
  ·rcases m1 y hy with h | h
   ·obtain⟨j,hj,ej⟩:=d1 y h
    exact⟨j,by omega,ej⟩
   ·exact⟨i,by omega,by rw[h];exact hv⟩
  ·by_cases hji:j=i
   ·subst hji;exact m3
   ·obtain⟨y,hy,b,e1,o,its,n,h1,h2',h3,h4⟩:=d2 j (by omega)
    refine⟨y,m2 y hy,b,e1,o,its,n,up2 b o ?_ h1,h2',h3,h4⟩
    obtain⟨j',hj',ej⟩:=d1 y hy
    obtain⟨a',ea,_,na,_⟩:=hi j' y.2 ej
    rw[e1] at ea;cases ea;exact na
theorem wN (a:Value) {Q₁:Value->Shared->Prop} (h:Q₁ (.ref s.heap.objs.size) { s with heap:=s.heap.push (cL #[] 0 (.fresh 0 0 (!cH w))) }) :
  codeAny (model prog w) A (.call (.builtin "set.__new__") ⟨[.type "set",a],[]⟩) (wants Q₁ E) s:=by
 apply codeAny_of_tree
 show wpAny _ A.in1 (checkBuiltinCall "set.__new__" ⟨[.type "set",a],[]⟩ >>= λ_=>again (.builtin "set.__new__" ⟨[.type "set",a],[]⟩)) _ _ s
 apply wpAny_bind;refine wpAny_of_eq (PySem.F.newCall_set_1 a) (wpAny_pure ⟨plainId_quiet PySem.F.plain_set_new _,codeAny_builtin PySem.F.entry_set_new ?_⟩)
 rw[Around.under_plainId PySem.F.plain_set_new _];unfold Builtin.«set.__new__» Builtin.Frozenset.newClass
 have hsub:=sub_set_self
 obtain⟨hp,g,d,tk,os⟩:=s;dsimp only;wp_walk
 refine wpAny_askSetting (wpAny_pure ?_);dsimp only;simp only[newObj]
 apply wpAny_bind;refine wpAny_alloc (wpAny_pure ?_)
 exact wpAny_pure h
theorem DD (b:Bool):TabOk (.fresh 0 0 b) 0:=⟨rfl,rfl,Nat.zero_le _,NU,List.Pairwise.nil⟩
noncomputable def vU (l:Addr):Obj:={ cls:=.type "list_iterator",data:=.fields #[.ref l,.int 0 0] }
theorem qY {l:Addr} {items:Array Value} {key:Nat->List Int} {Q:Value->Shared->Prop} (hh:A.handled=none) (hu:A.units+8<cLine) (hl:s.heap.IsList l items)
  (hi:∀i v,items[i]? = some v->∃a,v = .ref a/\IsTupleKey (intKind prog w) s.heap (key i) a) (hb:items.size<=76)
  (q:∀h' tk,SetDone prog w items key s.heap.objs.size items.size h'->(∀b o,s.heap.get? b=some o->h'.get? b=some o)->Q (.ref s.heap.objs.size) { s with heap:=h',toks:=tk }) :
  wpAny (model prog w) A (call (.type "set") [.ref l]) Q E s:=by
 obtain⟨c,tl,hmro⟩:=PySem.F.called_set.mro
 have hmade:=PySem.F.called_set.made;have hsub:=PySem.F.called_set.sub
 apply wpAny_call;apply codeAny_of_tree
 show wpAny _ _ (callAny (.type "set") _) _ _ _
 refine wpAny_pure ⟨Code.quiet_builtin _ (by decide +kernel),codeAny_builtin PySem.F.entry_type_call ?_⟩;rw[Around.under_plain (weight_type_call_type "set" [.ref l] []) rfl]
 have h1:=PySem.F.called_set.notType;have h2:=PySem.F.called_set.canCreate;have hct:=PySem.F.typeCall_set_1 (.ref l)
 repeat (any_goals (first | assumption | wp_step))
 refine codeAny_mono (wN (.ref l) (E:=E) (Q₁:=λobj s₁=>obj = .ref s.heap.objs.size/\s₁ = { s with heap:=s.heap.push (cL #[] 0 (.fresh 0 0 (!cH w))) }) ⟨rfl,rfl⟩) λr s₁ hr=>?_
 match r,hr with
 | .error e,hr=>exact hr
 | .ok (.ret obj),hr =>
  obtain⟨rfl,rfl⟩:=hr
  have hS:(s.heap.push (cL #[] 0 (.fresh 0 0 (!cH w)))).get? s.heap.objs.size=some (cL #[] 0 (.fresh 0 0 (!cH w))):=Heap.get?_push_size _ rfl
  have zS:(s.heap.push (cL #[] 0 (.fresh 0 0 (!cH w)))).objs.size=s.heap.objs.size+1:=Heap.size_push ..
  have kS:∀b o,s.heap.get? b=some o->(s.heap.push (cL #[] 0 (.fresh 0 0 (!cH w)))).get? b=some o:=λb o e=>Heap.get?_push_of_some _ e
  have hT:Shared.TypeIs { s with heap:=s.heap.push (cL #[] 0 (.fresh 0 0 (!cH w))) } (.ref s.heap.objs.size) "set":=⟨_,hS,rfl⟩
  have hli:=PySem.F.called_set.init.lookup;have hbi:=PySem.F.called_set.init.bind (.ref s.heap.objs.size)
  repeat (any_goals (first | assumption | wp_step))
  generalize s.heap.push (cL #[] 0 (.fresh 0 0 (!cH w)))=h2 at hS zS kS hT
  refine codeAny_mono (codeAny_call_builtin (R:=wants (λr s₂=>r = .none/\∃h' tk,s₂ = { s with heap:=h',toks:=tk }/\SetDone prog w items key s.heap.objs.size items.size h'/\(∀b o,s.heap.get? b=some o->h'.get? b=some o)) E) PySem.F.called_set.init.plain PySem.F.entry_set_init (check_set_init_1 hT ?_)) λr₂ s₂ hr₂=>?_
  ·obtain⟨ol,hol,hcl,nl,hdl⟩:=hl
   obtain⟨ocls,odict,odata,oslots⟩:=ol
   simp only at hcl hdl;subst hcl;subst hdl
   have hol2:=kS _ _ hol
   have hsls:=PySem.F.sub_list_set;have hslf:=PySem.F.sub_list_frozenset
   have hne:(Value.type "list" == Value.type "dict")=false:=by decide
   have hl1:h2.IsList l items:=⟨_,hol2,rfl,nl,rfl⟩
   have lt:l<s.heap.objs.size:=Heap.lt_size hol
   unfold Builtin.«set.__init__» noKeywords Builtin.Frozenset.updateFrom;generalize hPI:pyIter=PI
   unfold cL at hS
   wp_walk
   subst hPI
   refine wpAny_pyIter_list hl1 ?_
   apply wpAny_bind;apply wpAny_runValue;rw[zS]
   have zI:(h2.push (vU l)).get? (s.heap.objs.size+1)=some (vU l):=by rw[<-zS];exact Heap.get?_push_size _ rfl
   have kI:∀b o,h2.get? b=some o->(h2.push (vU l)).get? b=some o:=λb o e=>Heap.get?_push_of_some _ e
   show codeAny _ _ _ _ { s with heap:=h2.push (vU l) }
   generalize h2.push (vU l)=h3 at zI kI
   have ne1:∀{b:Addr} {o:Obj},s.heap.get? b=some o->b≠s.heap.objs.size/\b≠s.heap.objs.size+1:=λe=>⟨Nat.ne_of_lt (Heap.lt_size e),Nat.ne_of_lt (Nat.lt_succ_of_lt (Heap.lt_size e))⟩
   refine GX (A:=A.in1.in1) (s:={ s with heap:=h3 }) (key:=key) (h0:=s.heap) (by simp[hh]) (Nat.ne_of_lt (Nat.lt_succ_of_lt lt)) (by show A.units+3<cLine;omega) s.heap.objs.size (Nat.ne_of_lt (Nat.lt_succ_self _)) (Nat.ne_of_gt lt) (λi v e=>?_) hb items.size 0 (Nat.sub_zero _) (Nat.zero_le _) ⟨⟨_,zI,rfl,rfl⟩,hl1.at λo e=>kI _ o e⟩ ?_ (λb o _ _ e=>kI b o (kS b o e)) λh' tk D up=>?_
   ·obtain⟨a,rfl,hk⟩:=hi i v e
    refine⟨a,rfl,hk,?_⟩
    obtain⟨o,_,_,ho,_⟩:=hk
    exact ne1 ho
   ·exact⟨#[],⟨⟨0,_,kI _ _ hS,DD _,Or.inl ⟨rfl,Nat.zero_le _⟩,rfl,rfl⟩,λe he=>by simp at he⟩,λy hy=>by simp at hy,λj hj=>absurd hj (Nat.not_lt_zero _),Nat.zero_le _⟩
   ·show wpAny _ _ _ _ _ _
    apply wpAny_pure
    show wpAny _ _ (ret Value.none) _ _ _
    exact wpAny_pure ⟨rfl,h',tk,rfl,D,λb o e=>up b o (ne1 e).1 (ne1 e).2 e⟩
  ·match r₂,hr₂ with
   | .error e,hr₂=>exact hr₂
   | .ok (.ret r),hr₂ =>
    obtain⟨rfl,h',tk,rfl,D,up⟩:=hr₂
    repeat (any_goals (first | assumption | wp_step))
    exact q _ _ D up
end
theorem AL {α:Type} (next:Nat->Nat):∀(fuel k:Nat) (left:List α) (out:Array α),left.length<=fuel->(pickOrder.go next fuel k left out).toList.Perm (out.toList++left)
 | 0,k,left,out,h=>by
  have:left=[]:=List.eq_nil_of_length_eq_zero (by omega)
  subst this
  simp[pickOrder.go]
 | fuel+1,k,left,out,h=>by
  unfold pickOrder.go
  cases e:left[next k % left.length]? with
  | none =>
   dsimp only
   have:left=[]:=by
    cases left with
    | nil=>rfl
    | cons x r =>
     have:=List.getElem?_eq_none_iff.mp e
     have:=Nat.mod_lt (next k) (show 0<(x::r).length by simp)
     omega
   subst this;simp
  | some x =>
   dsimp only
   have hi:next k % left.length<left.length:=(List.getElem?_eq_some_iff.mp e).1
   refine (AL next fuel (k+1) (left.eraseIdx (next k % left.length)) (out.push x) (by rw[List.length_eraseIdx_of_lt hi];omega)).trans ?_
   rw[Array.toList_push,List.append_assoc]
   refine List.Perm.append_left _ ?_
   have ex:left[next k % left.length]=x:=(List.getElem?_eq_some_iff.mp e).2
   have el:left=left.take (next k % left.length)++x::left.drop (next k % left.length+1):=by
    rw[<-ex,<-List.drop_eq_getElem_cons hi,List.take_append_drop]
   rw[List.eraseIdx_eq_take_drop_succ]
   conv=>rhs;rw[el]
   rw[List.singleton_append];exact (List.perm_middle (a:=x)).symm
theorem CQ {α:Type} (next:Nat->Nat) (xs:Array α):(pickOrder next xs).toList.Perm xs.toList:=by
 have:=AL next xs.size 0 xs.toList #[] (by simp)
 simpa [pickOrder] using this
theorem GF:Manifest.owners.lookup (String.ofList ['r','o','t','a','r','e','t','i','_','t','e','s'].reverse)=some Manifest.sig_set_iterator:=by kernel_rfl
theorem dR:Slot "set_iterator" "__next__" "set_iterator.__next__" :=
 .of (owner:="set_iterator") (n:="__next__") (by rw[typeLookup_type,builtinLookup_eq_fast];kernel_rfl) (by decide +kernel) (by decide +kernel) (by decide +kernel) (by first | exact .inl (by decide +kernel) | exact .inr (by decide +kernel)) (by rw[isSubtype_type];kernel_rfl)
theorem jZ:entryFor table "set_iterator.__next__" = some Builtin.«set_iterator.__next__»:=entryFor_of_tree (by kernel_rfl)
theorem lS (a:Value):argsOk "set_iterator.__next__" ⟨[a],[]⟩:=by
 unfold argsOk;rw[signature?_of (id:="set_iterator.__next__") (n:=['_','_','t','x','e','n','_','_']) (o:=['r','o','t','a','r','e','t','i','_','t','e','s']) (by kernel_rfl) GF];kernel_rfl
theorem tJ:entryFor table "set.__iter__" = some Builtin.«frozenset.__iter__»:=entryFor_alias (id':="frozenset.__iter__") (by kernel_rfl) rfl (by decide +kernel) (by kernel_rfl)
section
variable {prog:Program} {w:World} {A:Around} {E:Value->Shared->Prop} {s:Shared}
noncomputable def bS (w:World) (S:Addr) (ep:Nat) (es:Array (Int × Value)):Array (Int × Value):=if cH w=true then pickOrder (w.params.setOrder S ep) es else es
theorem nQ (S:Addr) (ep:Nat) (es:Array (Int × Value)):(bS w S ep es).toList.Perm es.toList:=by
 unfold bS;split
 ·exact CQ _ _
 ·exact List.Perm.refl _
noncomputable def fJ (w:World) (t:SetTable) (k:Nat):Nat:=if cH w=true then 0 else eT t k
noncomputable def fW (w:World) (S:Addr) (n ep:Nat) (t:SetTable) (k:Nat):Obj:={ cls:=.type "set_iterator",data:=.fields #[rawInt (fJ w t k),rawInt k,.ref S,rawInt n,rawInt ep] }
theorem wO {S:Addr} {es:Array (Int × Value)} {ep k:Nat} {t:SetTable} {Q:Option (Value × Nat)->Shared->Prop} (ho:s.heap.get? S=some (cL es ep t)) (T:TabOk t es.size) (hl:t.led = !cH w) (hp:t.plain=true) (hk:k<=es.size)
  (q:Q ((bS w S ep es)[k]?.map λe=>(e.2,fJ w t (k+1))) s):wpAny (model prog w) A (setNext S (fJ w t k) k ep) Q E s:=by
 unfold setNext
 apply wpAny_bind;refine wpAny_setState_of ho rfl T.fits ?_
 unfold setsByText
 apply wpAny_bind;apply wpAny_bind;refine wpAny_askSetting (wpAny_pure ?_)
 show wpAny _ _ (if cH w=true then _ else _) _ _ _
 by_cases hb:cH w=true
 ·rw[if_pos hb,if_neg (by simp)]
  apply wpAny_bind;unfold setWalk
  apply wpAny_bind;refine wpAny_setState_of ho rfl T.fits ?_
  unfold setsByText
  apply wpAny_bind;apply wpAny_bind;refine wpAny_askSetting (wpAny_pure ?_)
  show wpAny _ _ (if cH w=true then _ else _) _ _ _
  rw[if_pos hb]
  apply wpAny_bind;refine wpAny_askSetting (wpAny_pure (wpAny_pure ?_))
  unfold bS fJ at q
  simp only[if_pos hb] at q
  unfold fJ
  simp only[if_pos hb]
  exact q
 ·have hb0:cH w=false:=by simpa using hb
  rw[if_neg hb]
  show wpAny _ _ (if (!t.plain && decide (es.size > 1))=true then _ else _) _ _ _
  rw[hp]
  simp only[Bool.not_true,Bool.false_and,Bool.false_eq_true,if_false]
  show wpAny _ _ ((if (!t.led && !es.isEmpty)=true then unsupported "set:maker-not-led" else pure ()) >>= _) _ _ _
  rw[hl,hb0]
  simp only[Bool.not_false,Bool.not_true,Bool.false_and,Bool.false_eq_true,if_false]
  apply wpAny_bind;apply wpAny_pure;apply wpAny_pure
  have np:=yD T hk
  unfold bS fJ at q
  simp only[if_neg hb] at q
  unfold fJ
  simp only[if_neg hb]
  rw[np]
  by_cases hlt:k<es.size
  ·have e1:es[k]? = some es[k]:=Array.getElem?_eq_getElem hlt
   have e2:t.place[k]? = some (t.place.getD k 0):=by
    have:k<t.place.size:=by rw[T.size];exact hlt
    rw[Array.getElem?_eq_getElem this];simp[Array.getD,this]
   rw[e1] at q
   rw[e1,e2]
   have e3:eT t (k+1)=t.place.getD k 0+1:=by unfold eT;rw[if_neg (by omega)];simp
   rw[e3] at q
   exact q
  ·have e1:es[k]? = none:=Array.getElem?_eq_none (by omega)
   rw[e1] at q
   rw[e1]
   exact q
theorem jK {I:Addr} {c:Value} {d:Option Addr} {sl:Array (Option Value)} {vs:Array Value} {i:Nat} {x:Value} {Q:Unit->Shared->Prop} (ho:s.heap.get? I=some { cls:=c,dict:=d,data:=.fields vs,slots:=sl }) (hi:i<vs.size)
  (q:∀h',h'.get? I=some { cls:=c,dict:=d,data:=.fields (vs.setIfInBounds i x),slots:=sl }->Heap.SameBut I s.heap h'->Q () { s with heap:=h' }):wpAny (model prog w) A (setField (.ref I) i x) Q E s:=by
 refine wpAny_setField ho rfl hi (q _ ?_ (Heap.SameBut.update ..))
 have:=Heap.get?_update_self (Obj.mapFields λvs=>vs.setIfInBounds i x) ho rfl
 rw[this];rfl
structure SetIt (w:World) (S I:Addr) (es:Array (Int × Value)) (ep:Nat) (t:SetTable) (k:Nat) (h:Heap):Prop where
 set:h.get? S=some (cL es ep t)
 it:h.get? I=some (fW w S es.size ep t k)
theorem CK {S I:Addr} {es:Array (Int × Value)} {ep k:Nat} {t:SetTable} {x:Int × Value} {Q:Option Value->Shared->Prop} (D:SetIt w S I es ep t k s.heap) (ne:S≠I) (T:TabOk t es.size) (hl:t.led = !cH w) (hp:t.plain=true) (hk:k<es.size) (hx:(bS w S ep es)[k]? = some x)
  (q:∀h',SetIt w S I es ep t (k+1) h'->Heap.SameBut I s.heap h'->Q (some x.2) { s with heap:=h' }):wpAny (model prog w) A (pyNext (.ref I)) Q E s:=by
 have ty:s.TypeIs (.ref I) "set_iterator":=⟨_,D.it,rfl⟩
 unfold pyNext
 apply wpAny_bind;apply wpAny_attempt;refine wpAny_callSpecial?_slot (name:=Str.ofString "__next__") ty dR (wpAny_call_entry dR ty jZ ?_ (lS _))
 unfold Builtin.«set_iterator.__next__»
 apply wpAny_bind;refine wpAny_of_eq (a:=(Value.ref I,[])) rfl ?_
 apply wpAny_bind;refine wpAny_fieldsOf D.it rfl ?_
 dsimp only[rawInt]
 apply wpAny_bind;refine wpAny_setEntries_of D.set rfl T.fits ?_
 rw[if_neg (by simp)]
 apply wpAny_bind
 show wpAny _ _ (setNext S ((fJ w t k:Nat):Int).toNat ((k:Nat):Int).toNat ((ep:Nat):Int).toNat) _ _ _
 simp only[Int.toNat_natCast]
 refine wO D.set T hl hp (Nat.le_of_lt hk) ?_
 rw[hx]
 dsimp only[Option.map]
 have dit:=D.it;unfold fW at dit
 apply wpAny_bind;refine jK dit (by simp) λh1 g1 s1=>?_
 apply wpAny_bind;refine jK (s:={ s with heap:=h1 }) g1 (by simp) λh2 g2 s2=>?_
 refine wpAny_pure ⟨x.2,rfl,wpAny_pure (q h2 ⟨?_,?_⟩ (s1.trans s2))⟩
 ·rw[s2.2 S ne,s1.2 S ne];exact D.set
 ·rw[g2];rfl
theorem GB {S I:Addr} {es:Array (Int × Value)} {ep:Nat} {t:SetTable} {Q:Option Value->Shared->Prop} (hh:A.handled=none) (D:SetIt w S I es ep t es.size s.heap) (ne:S≠I) (T:TabOk t es.size) (hl:t.led = !cH w) (hp:t.plain=true)
  (q:∀h',Heap.ExtBut I s.heap h'->Q none { s with heap:=h' }):wpAny (model prog w) A (pyNext (.ref I)) Q E s:=by
 have ty:s.TypeIs (.ref I) "set_iterator":=⟨_,D.it,rfl⟩
 have hx:(bS w S ep es)[es.size]? = none:=by
  apply Array.getElem?_eq_none
  rw[<-Array.length_toList,(nQ S ep es).length_eq,Array.length_toList];exact Nat.le_refl _
 unfold pyNext
 apply wpAny_bind;apply wpAny_attempt;refine wpAny_callSpecial?_slot (name:=Str.ofString "__next__") ty dR (wpAny_call_entry dR ty jZ ?_ (lS _))
 unfold Builtin.«set_iterator.__next__»
 apply wpAny_bind;refine wpAny_of_eq (a:=(Value.ref I,[])) rfl ?_
 apply wpAny_bind;refine wpAny_fieldsOf D.it rfl ?_
 dsimp only[rawInt]
 apply wpAny_bind;refine wpAny_setEntries_of D.set rfl T.fits ?_
 rw[if_neg (by simp)]
 apply wpAny_bind
 show wpAny _ _ (setNext S ((fJ w t es.size:Nat):Int).toNat ((es.size:Nat):Int).toNat ((ep:Nat):Int).toNat) _ _ _
 simp only[Int.toNat_natCast]
 refine wO D.set T hl hp (Nat.le_refl _) ?_
 rw[hx]
 dsimp only[Option.map]
 have dit:=D.it;unfold fW at dit
 apply wpAny_bind;refine jK dit (by simp) λh1 g1 s1=>?_
 show wpAny _ _ (newExc (.type "StopIteration") [] >>= _) _ _ _
 apply wpAny_bind;simp only[newExc,newTuple]
 apply wpAny_bind;refine wpAny_newObj_type ?_ (by size_fits)
 refine wpAny_bind (m:=firstArgMember _ _) ?_
 refine wpAny_of_eq (a:=Value.none) (by first | rfl | (simp only[firstArgMember];rfl)) ?_
 refine wpAny_newObj_type ?_ (by size_fits)
 simp only[raiseNew]
 apply wpAny_bind;apply wpAny_handled
 first | rw[show A.in1.handled=none from hh] | rw[hh]
 refine wpAny_bind (wpAny_pure (wpAny_throw ?_))
 apply wpAny_bind;refine wpAny_isInstance (T:="StopIteration") (b:=true) ⟨_,Heap.get?_push_size _ rfl,rfl⟩ isSubtype_stop ?_
 exact wpAny_pure (q _ ((s1.extBut.push _).push _))
theorem FP {S:Addr} {es:Array (Int × Value)} {ep:Nat} {t:SetTable} {Q:Value->Shared->Prop} (ho:s.heap.get? S=some (cL es ep t)) (T:TabOk t es.size) (hp:t.plain=true)
  (q:Q (.ref s.heap.objs.size) { s with heap:=s.heap.push (fW w S es.size ep t 0) }):wpAny (model prog w) A (pyIter (.ref S)) Q E s:=by
 have ty:s.TypeIs (.ref S) "set":=⟨_,ho,rfl⟩
 refine wpAny_pyIter_slot ty F.slot_set_iter (wpAny_call_entry F.slot_set_iter ty tJ ?_ (F.args_set_iter_1 _))
 unfold Builtin.«frozenset.__iter__» Builtin.Frozenset.slot0 Builtin.Frozenset.sizeOf
 apply wpAny_bind;refine wpAny_of_eq (a:=S) rfl ?_
 apply wpAny_bind;apply wpAny_bind;refine wpAny_setEntries_of ho rfl T.fits (wpAny_pure ?_)
 apply wpAny_bind;unfold setDrawn
 apply wpAny_bind;refine wpAny_setState_of ho rfl T.fits ?_
 unfold setsByText
 apply wpAny_bind;apply wpAny_bind;refine wpAny_askSetting (wpAny_pure (wpAny_pure ?_))
 have dr:(!(model prog w).w.params.followText "set-order" && (!t.plain && decide (es.size > 1)))=false:=by rw[hp];simp
 show wpAny _ _ (if (!(model prog w).w.params.followText "set-order" && (!t.plain && decide (es.size > 1)))=true then _ else _) _ _ _
 rw[dr]
 simp only[Bool.false_eq_true,if_false]
 apply wpAny_bind;apply wpAny_pure
 apply wpAny_bind;refine wpAny_setEpoch_of ho rfl T.fits ?_
 apply wpAny_bind;unfold newFields;refine wpAny_newObj_type ?_
 have e0:fJ w t 0=0:=by unfold fJ eT;split <;> rfl
 refine wpAny_pure ⟨_,rfl,"set_iterator",_,⟨_,Heap.get?_push_size _ rfl,rfl⟩,dR.lookup,?_⟩
 unfold fW at q
 rw[e0] at q
 exact q
end
section
variable {prog:Program} {w:World} {A:Around} {E:Value->Shared->Prop} {s:Shared}
theorem GV {S:Addr} {Q:Bool->Shared->Prop} (ty:s.TypeIs (.ref S) "set") (q:Q false s):wpAny (model prog w) A (Builtin.List.listLengthHint (.ref S)) Q E s:=by
 unfold Builtin.List.listLengthHint
 apply wpAny_bind;refine wpAny_specialOf ty F.slot_set_len.lookup ?_
 dsimp only
 have sp:splitId "set.__len__" = some ("set","__len__"):=by decide +kernel
 rw[sp]
 dsimp only
 apply wpAny_bind;refine wpAny_isInstance (b:=true) ty sub_set_self ?_
 simp only[Bool.not_true,Bool.false_eq_true,if_false]
 have key:∀(c:Bool) (X Y:Sem Bool),c=true->wpAny (model prog w) A X Q E s->wpAny (model prog w) A (if c=true then X else Y) Q E s:=λc X Y hc h=>by rw[if_pos hc];exact h
 refine key _ _ _ (by decide +kernel) ?_
 apply wpAny_bind;refine wpAny_typeOf ty ?_
 exact wpAny_pure q
theorem wM {S I:Addr} {es:Array (Int × Value)} {ep k:Nat} {t:SetTable} {h h':Heap} (D:SetIt w S I es ep t k h) (up:∀b o,b=S\/b=I->h.get? b=some o->h'.get? b=some o):SetIt w S I es ep t k h' :=
 ⟨up _ _ (Or.inl rfl) D.set,up _ _ (Or.inr rfl) D.it⟩
theorem uS {S:Addr} {es:Array (Int × Value)} {ep:Nat} {t:SetTable} {Q:List Value->Shared->Prop} (hh:A.handled=none) (ho:s.heap.get? S=some (cL es ep t)) (T:TabOk t es.size) (hl:t.led = !cH w) (hp:t.plain=true) (hz:es.size<=100)
  (q:∀h',(∀b o,s.heap.get? b=some o->h'.get? b=some o)->s.heap.objs.size<=h'.objs.size->Q ((bS w S ep es).toList.map (·.2)) { s with heap:=h' }):wpAny (model prog w) A (collect (.ref S)) Q E s:=by
 have ltS:S<s.heap.objs.size:=Heap.lt_size ho
 have wl:(bS w S ep es).size=es.size:=by rw[<-Array.length_toList,(nQ S ep es).length_eq,Array.length_toList]
 unfold collect
 apply wpAny_bind;apply wpAny_runValue;refine codeAny_builtin F.entry_proto_collect ?_
 rw[Around.under_plainId F.plain_proto_collect _]
 show wpAny _ A.in1 (newList [] >>= λl=>again (.builtin "list.__iadd__" ⟨[l,.ref S],[]⟩)) _ _ s
 apply wpAny_bind;refine wpAny_newObj_type ?_
 refine wpAny_pure ⟨plainId_quiet F.plain_list_iadd _,codeAny_builtin F.entry_list_iadd ?_⟩
 rw[Around.under_plainId F.plain_list_iadd _]
 show wpAny _ A.in1 (Builtin.List.listExtendWith (.ref s.heap.objs.size) (.ref S) (.ref s.heap.objs.size)) _ _ { s with heap:=s.heap.push { cls:=.type "list",data:=.seq ([]:List Value).toArray } }
 have z1:(s.heap.push { cls:=.type "list",data:=.seq ([]:List Value).toArray }).objs.size=s.heap.objs.size+1:=Heap.size_push ..
 have hL:(s.heap.push { cls:=.type "list",data:=.seq ([]:List Value).toArray }).get? s.heap.objs.size=some { cls:=.type "list",data:=.seq ([]:List Value).toArray }:=Heap.get?_push_size _ rfl
 have k1:∀b o,s.heap.get? b=some o->(s.heap.push { cls:=.type "list",data:=.seq ([]:List Value).toArray }).get? b=some o:=λb o e=>Heap.get?_push_of_some _ e
 generalize s.heap.push { cls:=.type "list",data:=.seq ([]:List Value).toArray } = h1 at z1 hL k1
 have ty:∀{h:Heap} {g d t os},(∀b o,s.heap.get? b=some o->h.get? b=some o)->Shared.TypeIs ⟨h,g,d,t,os⟩ (.ref S) "set":=λup=>⟨_,up _ _ ho,rfl⟩
 unfold Builtin.List.listExtendWith
 apply wpAny_bind;refine wpAny_typeOf (T:="set") (ty k1) ?_
 have g1:Builtin.List.listSameRef (.ref s.heap.objs.size) (.ref S)=false:=by simp[Builtin.List.listSameRef,Nat.ne_of_gt ltS]
 have g2:(Value.type "set" == Value.type "list")=false:=by decide
 have g3:(Value.type "set" == Value.type "tuple")=false:=by decide
 simp only[g1,g2,g3,Bool.or_false,Bool.false_eq_true,if_false]
 apply wpAny_bind;refine FP (s:={ s with heap:=h1 }) (k1 _ _ ho) T hp ?_
 show wpAny _ _ _ _ _ { s with heap:=h1.push (fW w S es.size ep t 0) }
 have hI:(h1.push (fW w S es.size ep t 0)).get? (s.heap.objs.size+1)=some (fW w S es.size ep t 0):=by rw[<-z1];exact Heap.get?_push_size _ rfl
 have k2:∀b o,h1.get? b=some o->(h1.push (fW w S es.size ep t 0)).get? b=some o:=λb o e=>Heap.get?_push_of_some _ e
 rw[z1]
 generalize h1.push (fW w S es.size ep t 0)=h2 at hI k2
 apply wpAny_bind;apply wpAny_holding;refine GV (ty λb o e=>k2 b o (k1 b o e)) ?_
 have key:∀(c:Bool) (X Y:Sem Fin) {Q':Fin->Shared->Prop} {E':Value->Shared->Prop} {s':Shared},c=true->wpAny (model prog w) A.in1 X Q' E' s'->wpAny (model prog w) A.in1 (if c=true then X else Y) Q' E' s':=λc X Y _ _ _ hc h=>by rw[if_pos hc];exact h
 refine key _ _ _ (by decide +kernel) ?_
 have hL2:=k2 _ _ hL
 apply wpAny_bind;apply wpAny_rule;apply wpAny_bind
 show wpAny _ _ (updateSeq s.heap.objs.size (·.push .none) >>= λ_=>updateSeq s.heap.objs.size (·.pop)) _ _ _
 apply wpAny_bind;refine wpAny_updateSeq hL2 rfl ?_
 have hL3:=Heap.get?_update_self (Obj.mapSeq (·.push Value.none)) hL2 rfl
 refine wpAny_updateSeq (hz:=by seq_fits) hL3 rfl ?_
 have hL4:=Heap.get?_update_self (Obj.mapSeq (·.pop)) hL3 rfl
 have up4:∀b o,b≠s.heap.objs.size->h2.get? b=some o->((h2.update s.heap.objs.size (Obj.mapSeq (·.push Value.none))).update s.heap.objs.size (Obj.mapSeq (·.pop))).get? b=some o :=
  λb o hb e=>(Heap.get?_update_other _ _ (Ne.symm hb)).trans ((Heap.get?_update_other _ _ (Ne.symm hb)).trans e)
 generalize (h2.update s.heap.objs.size (Obj.mapSeq (·.push Value.none))).update s.heap.objs.size (Obj.mapSeq (·.pop))=h4 at hL4 up4
 apply wpAny_pure;refine⟨plainId_quiet PySem.F.plain_extend_loop _,?_⟩
 have neSI:S≠s.heap.objs.size+1:=Nat.ne_of_lt (Nat.lt_succ_of_lt ltS)
 have neS:S≠s.heap.objs.size:=Nat.ne_of_lt ltS
 have neI:s.heap.objs.size+1≠s.heap.objs.size:=Nat.succ_ne_self _
 have old:∀{b:Addr} {o:Obj},s.heap.get? b=some o->b≠s.heap.objs.size/\b≠s.heap.objs.size+1:=λe=>⟨Nat.ne_of_lt (Heap.lt_size e),Nat.ne_of_lt (Nat.lt_succ_of_lt (Heap.lt_size e))⟩
 refine vI (A:=A) (s0:=s) (n:=es.size) (J:=λacc h=>SetIt w S (s.heap.objs.size+1) es ep t acc.length h/\acc=((bS w S ep es).toList.map (·.2)).take acc.length/\∀b o,s.heap.get? b=some o->h.get? b=some o)
  (F:=λacc h=>acc=(bS w S ep es).toList.map (·.2)/\∀b o,s.heap.get? b=some o->h.get? b=some o) (.ref s.heap.objs.size) (by rw[sizeLine_eq];omega) ?_ ?_ ?_ (λh' acc c hsz hF hS'=>?_) es.size #[] h4 _ rfl (Nat.zero_le _) ?_ hL4
 ·rintro acc h h' ⟨J1,J2,J3⟩ hSo hz up
  refine⟨wM J1 λb o hb e=>up b o ?_ e,J2,λb o e=>up b o (old e).1 (J3 b o e)⟩
  rcases hb with rfl | rfl
  ·exact neS
  ·exact neI
 ·rintro acc s' o Q' E' hlt ⟨J1,J2,J3⟩ hSo k
  have hw:acc.length<(bS w S ep es).size:=by omega
  refine CK J1 neSI T hl hp hlt (Array.getElem?_eq_getElem hw) λh' D' sb=>k _ h' ⟨by simpa using D',?_,λb o e=>?_⟩ ?_
  ·rw[List.length_append,List.length_singleton,List.take_succ,<-J2]
   simp[hw]
  ·rw[sb.2 b (old e).2];exact J3 b o e
  ·rw[sb.2 _ (Ne.symm neI)];exact hSo
 ·rintro acc s' o Q' E' hlen ⟨J1,J2,J3⟩ hSo k
  rw[hlen] at J1 J2
  refine GB (A:=A.in1) (by simp[hh]) J1 neSI T hl hp λh' eb=>k h' ⟨?_,λb o e=>eb b o (old e).2 (J3 b o e)⟩ (eb _ _ (Ne.symm neI) hSo)
  rw[J2,List.take_of_length_le]
  simp[wl]
 ·show wpAny _ A (load s.heap.objs.size >>= _) _ _ _
  apply wpAny_bind;refine wpAny_load hS' ?_
  refine wpAny_pure ?_
  rw[hF.1]
  exact q h' hF.2 (Nat.le_of_lt (Heap.lt_size hS'))
 ·refine⟨⟨up4 _ _ neS (k2 _ _ (k1 _ _ ho)),up4 _ _ neI hI⟩,rfl,λb o e=>up4 b o (old e).1 (k2 b o (k1 b o e))⟩
end
end L2.R2
set_option Elab.async false
set_option linter.all false
set_option maxRecDepth 100000
set_option maxHeartbeats 1000000
namespace L2.R2
open PySem PySem.W PyProof.Rows
noncomputable def bF {α:Type} (lt:Nat->Nat->Bool):KasT α->α
 | .ret a=>a
 | .ask i j k=>bF lt (k (lt i j))
theorem eZ {α β:Type} {lt:Nat->Nat->Bool} {f:α->KasT β}:∀t:KasT α,bF lt (t.bind f)=bF lt (f (bF lt t))
 | .ret _=>rfl
 | .ask i j k=>eZ (k (lt i j))
noncomputable def kIn {α:Type} (lt:Nat->Nat->Bool) (n:Nat):KasT α->Prop
 | .ret _=>True
 | .ask i j k=>i<n/\j<n/\kIn lt n (k (lt i j))
theorem cP {α β:Type} {lt:Nat->Nat->Bool} {n:Nat} {f:α->KasT β}:∀t:KasT α,kIn lt n t->kIn lt n (f (bF lt t))->kIn lt n (t.bind f)
 | .ret _,_,h=>h
 | .ask i j k,⟨h1,h2,h3⟩,h=>⟨h1,h2,cP (k (lt i j)) h3 h⟩
theorem pS {α:Type} {cmp:Nat->Nat->(Bool->Shared->Prop)->Shared->Prop} {lt:Nat->Nat->Bool} {n:Nat} {s:Shared} {Q:α->Shared->Prop} (hc:∀i j (C:Bool->Shared->Prop),i<n->j<n->C (lt i j) s->cmp i j C s) :
  ∀t:KasT α,kIn lt n t->Q (bF lt t) s->t.kasWp cmp Q s
 | .ret _,_,h=>h
 | .ask i j k,⟨h1,h2,h3⟩,h=>hc i j _ h1 h2 (pS hc (k (lt i j)) h3 h)
section
variable {O:KeyOrd} {key:Nat->O.α} {N:Nat}
noncomputable def ltK (O:KeyOrd) (key:Nat->O.α) (i j:Nat):Bool:=O.blt (key i) (key j)
noncomputable def kk (O:KeyOrd) (key:Nat->O.α) (p:Array Nat) (i:Nat):O.α:=key (p.getD i 0)
noncomputable def Up (O:KeyOrd) (key:Nat->O.α) (p:Array Nat) (n:Nat):Prop:=∀i j,i<=j->j<n->O.kle (kk O key p i) (kk O key p j)
noncomputable def Dn (O:KeyOrd) (key:Nat->O.α) (p:Array Nat) (n:Nat):Prop:=∀i j,i<=j->j<n->O.kle (kk O key p j) (kk O key p i)
noncomputable def Lo (p:Array Nat) (N:Nat):Prop:=∀i,p.getD i 0<N
theorem gT {p q:Array Nat} (h:p.Perm q) (hq:Lo q N):Lo p N:=by
 intro i
 by_cases hi:i<p.size
 ·have m:p[i]∈p:=Array.getElem_mem hi
  have m2:p[i]∈q:=h.mem_iff.mp m
  obtain⟨j,hj,e⟩:=Array.getElem_of_mem m2
  have:=hq j
  simp[Array.getD,hj] at this
  simp[Array.getD,hi]
  rw[<-e];exact this
 ·have h0:=hq q.size
  simp[Array.getD] at h0
  simp[Array.getD,hi];exact h0
theorem iV {p q:Array Nat} {i j:Nat} (h:p[i]? = q[j]?):kk O key p i=kk O key q j:=by
 unfold kk;rw[Array.getD_eq_getD_getElem?,Array.getD_eq_getD_getElem?,h]
theorem xZ {p:Array Nat} {i j:Nat} (hj:j<=p.size) (k:Nat):kk O key (kas_rev p i j) k=if i<=k/\k<j then kk O key p (i+j-1-k) else kk O key p k:=by
 have e:=getElem?_mirror_all (i:=i) hj k
 unfold kas_rev
 by_cases h1:i<=k/\k<j
 ·rw[if_pos h1] at e ⊢;exact iV e
 ·rw[if_neg h1] at e ⊢;exact iV e
theorem mZ {p:Array Nat} {i j:Nat} (hj:j<=p.size) (h:∀k,i<=k->k<j->kk O key p k=kk O key p (j-1)) (k:Nat):kk O key (kas_rev p i j) k=kk O key p k:=by
 rw[xZ hj]
 split
 ·rw[h _ (by omega) (by omega),h k (by omega) (by omega)]
 ·rfl
theorem BV {p:Array Nat} {src d:Nat} (hs:src<p.size) (hd:d<=src) (k:Nat) :
  kk O key (bubble p src d) k=if k=src-d then kk O key p src else if src-d<k/\k<=src then kk O key p (k-1) else kk O key p k:=by
 have e:=getElem?_bubble hs d hd k
 by_cases h1:k=src-d
 ·rw[if_pos h1] at e ⊢;exact iV e
 ·rw[if_neg h1] at e ⊢
  by_cases h2:src-d<k/\k<=src
  ·rw[if_pos h2] at e ⊢;exact iV e
  ·rw[if_neg h2] at e ⊢;exact iV e
theorem jH (p:Array Nat) (i j:Nat):(kas_rev p i j).Perm p:=mirror_perm _ _ _ _
theorem KD {p:Array Nat} {n:Nat} (h1:1<=n) (h:Up O key p n) (hl:O.kle (kk O key p (n-1)) (kk O key p n)):Up O key p (n+1):=by
 intro i j hij hj
 by_cases hjx:j<n
 ·exact h i j hij hjx
 ·have hj':j=n:=by omega
  subst hj'
  by_cases hi':i=j
  ·subst hi';exact KeyOrd.kle_refl _
  ·exact KeyOrd.kle_trans (h i (j-1) (by omega) (by omega)) hl
theorem tI {p:Array Nat} {n:Nat} (h1:1<=n) (h:Dn O key p n) (hl:O.kle (kk O key p n) (kk O key p (n-1))):Dn O key p (n+1):=by
 intro i j hij hj
 by_cases hjx:j<n
 ·exact h i j hij hjx
 ·have hj':j=n:=by omega
  subst hj'
  by_cases hi':i=j
  ·subst hi';exact KeyOrd.kle_refl _
  ·exact KeyOrd.kle_trans hl (h i (j-1) (by omega) (by omega))
theorem xH {p:Array Nat} (lo:Lo p N):∀(f n:Nat),1<=n->Up O key p n->kIn (ltK O key) N (kas_asc p f n)/\n<=bF (ltK O key) (kas_asc p f n)/\bF (ltK O key) (kas_asc p f n)<=n+f/\Up O key p (bF (ltK O key) (kas_asc p f n)) /\
  (bF (ltK O key) (kas_asc p f n)=n+f\/O.klt (kk O key p (bF (ltK O key) (kas_asc p f n))) (kk O key p (bF (ltK O key) (kas_asc p f n)-1)))
 | 0,n,_,h=>⟨trivial,Nat.le_refl _,Nat.le_refl _,h,Or.inl rfl⟩
 | f+1,n,h1,h=>by
  simp only[kas_asc,bF,kIn]
  cases hb:ltK O key (p.getD n 0) (p.getD (n-1) 0) with
  | true =>
   simp only[if_true]
   exact⟨⟨lo _,lo _,trivial⟩,Nat.le_refl _,by simp only[bF];omega,h,Or.inr hb⟩
  | false =>
   simp only[Bool.false_eq_true,if_false]
   obtain⟨i1,i2,i3,i4,i5⟩:=xH lo f (n+1) (by omega) (KD h1 h hb)
   refine⟨⟨lo _,lo _,i1⟩,by omega,by omega,i4,?_⟩
   rcases i5 with e | e
   ·exact Or.inl (by omega)
   ·exact Or.inr e
theorem wR {p:Array Nat} (lo:Lo p N) {n nrem:Nat} (h1:1<=n) (hn:n<=nrem) (hz:nrem<=p.size) (h:Dn O key p n) :
  kIn (ltK O key) N (kas_tail3 n nrem p)/\1<=(bF (ltK O key) (kas_tail3 n nrem p)).1/\(bF (ltK O key) (kas_tail3 n nrem p)).1<=nrem/\(bF (ltK O key) (kas_tail3 n nrem p)).2.Perm p/\Up O key (bF (ltK O key) (kas_tail3 n nrem p)).2 (bF (ltK O key) (kas_tail3 n nrem p)).1:=by
 unfold kas_tail3
 have up:Up O key (kas_rev p 0 n) n:=by
  intro i j hij hj
  rw[xZ (by omega),xZ (by omega),if_pos (by omega),if_pos (by omega)]
  exact h _ _ (by omega) (by omega)
 obtain⟨i1,i2,i3,i4,_⟩:=xH (gT (jH p 0 n) lo) (nrem-n) n h1 up
 rw[eZ]
 refine⟨cP _ i1 trivial,?_,?_,jH p 0 n,i4⟩
 ·show 1<=_;simp only[bF];omega
 ·simp only[bF];omega
theorem oT:∀(f:Nat) (p:Array Nat) (n q:Nat),Lo p N->1<=n->n+f<=p.size->Dn O key p n->q+1<=n->(∀i,n-(q+1)<=i->i<n->kk O key p i=kk O key p (n-1)) ->
  kIn (ltK O key) N (kas_desc f p n q)/\(bF (ltK O key) (kas_desc f p n q)).1.Perm p/\n<=(bF (ltK O key) (kas_desc f p n q)).2.1/\(bF (ltK O key) (kas_desc f p n q)).2.1<=n+f /\
  Dn O key (bF (ltK O key) (kas_desc f p n q)).1 (bF (ltK O key) (kas_desc f p n q)).2.1/\(bF (ltK O key) (kas_desc f p n q)).2.2+1<=(bF (ltK O key) (kas_desc f p n q)).2.1 /\
  (∀i,(bF (ltK O key) (kas_desc f p n q)).2.1-((bF (ltK O key) (kas_desc f p n q)).2.2+1)<=i->i<(bF (ltK O key) (kas_desc f p n q)).2.1->kk O key (bF (ltK O key) (kas_desc f p n q)).1 i=kk O key (bF (ltK O key) (kas_desc f p n q)).1 ((bF (ltK O key) (kas_desc f p n q)).2.1-1))
 | 0,p,n,q,lo,h1,hz,h,hq,he=>⟨trivial,Array.Perm.refl _,Nat.le_refl _,Nat.le_refl _,h,hq,he⟩
 | f+1,p,n,q,lo,h1,hz,h,hq,he=>by
  simp only[kas_desc,bF,kIn]
  cases hb:ltK O key (p.getD n 0) (p.getD (n-1) 0) with
  | true =>
   simp only[if_true]
   by_cases h0:q > 0
   ·simp only[if_pos h0]
    have hk:=mZ (O:=O) (key:=key) (p:=p) (i:=n-(q+1)) (j:=n) (by omega) he
    have pm:=jH p (n-(q+1)) n
    have dn:Dn O key (kas_rev p (n-(q+1)) n) (n+1):=by
     have d0:=tI h1 h (KeyOrd.kle_of_klt hb)
     intro i j hij hj
     rw[hk,hk];exact d0 i j hij hj
    obtain⟨i1,i2,i3,i4,i5,i6,i7⟩:=oT f (kas_rev p (n-(q+1)) n) (n+1) 0 (gT pm lo) (by omega) (by rw[pm.size_eq];omega) dn (by omega) (λi a b=>by congr 1;omega)
    exact⟨⟨lo _,lo _,i1⟩,i2.trans pm,by omega,by omega,i5,i6,i7⟩
   ·simp only[if_neg h0]
    obtain⟨i1,i2,i3,i4,i5,i6,i7⟩:=oT f p (n+1) 0 lo (by omega) (by omega) (tI h1 h (KeyOrd.kle_of_klt hb)) (by omega) (λi a b=>by congr 1;omega)
    exact⟨⟨lo _,lo _,i1⟩,i2,by omega,by omega,i5,i6,i7⟩
  | false =>
   simp only[Bool.false_eq_true,if_false,bF,kIn]
   cases hc:ltK O key (p.getD (n-1) 0) (p.getD n 0) with
   | true =>
    simp only[if_true]
    exact⟨⟨lo _,lo _,lo _,lo _,trivial⟩,Array.Perm.refl _,Nat.le_refl _,by simp only[bF];omega,h,hq,he⟩
   | false =>
    simp only[Bool.false_eq_true,if_false]
    have e:kk O key p n=kk O key p (n-1):=KeyOrd.kle_antisymm hc hb
    obtain⟨i1,i2,i3,i4,i5,i6,i7⟩:=oT f p (n+1) (q+1) lo (by omega) (by omega) (tI h1 h (by rw[e];exact KeyOrd.kle_refl _)) (by omega) (λi a b=>by
     rw[show n+1-1=n by omega]
     by_cases hi:i=n
     ·subst hi;rfl
     ·rw[e];exact he i (by omega) (by omega))
    exact⟨⟨lo _,lo _,lo _,lo _,i1⟩,i2,by omega,by omega,i5,i6,i7⟩
theorem nU {p:Array Nat} (lo:Lo p N) {n nrem:Nat} (hn:n+1<=nrem) (hz:nrem<=p.size) (h:Dn O key p (n+1)) :
  kIn (ltK O key) N (kas_descPart n nrem p)/\1<=(bF (ltK O key) (kas_descPart n nrem p)).1/\(bF (ltK O key) (kas_descPart n nrem p)).1<=nrem/\(bF (ltK O key) (kas_descPart n nrem p)).2.Perm p/\Up O key (bF (ltK O key) (kas_descPart n nrem p)).2 (bF (ltK O key) (kas_descPart n nrem p)).1:=by
 unfold kas_descPart
 obtain⟨i1,i2,i3,i4,i5,i6,i7⟩:=oT (N:=N) (nrem-(n+1)) p (n+1) 0 lo (by omega) (by omega) h (by omega) (λi a b=>by congr 1;omega)
 rw[eZ]
 generalize hr:bF (ltK O key) (kas_desc (nrem-(n+1)) p (n+1) 0)=r at *
 by_cases h0:r.2.2 > 0
 ·have sz:r.1.size=p.size:=i2.size_eq
  have hk:=mZ (O:=O) (key:=key) (p:=r.1) (i:=r.2.1-(r.2.2+1)) (j:=r.2.1) (by omega) i7
  have pm:=(jH r.1 (r.2.1-(r.2.2+1)) r.2.1).trans i2
  have t:=wR (O:=O) (key:=key) (N:=N) (gT pm lo) (n:=r.2.1) (nrem:=nrem) (by omega) (by omega) (by rw[pm.size_eq];omega) (λi j hij hj=>by rw[hk,hk];exact i5 i j hij hj)
  rw[if_pos h0]
  refine⟨cP _ i1 ?_,t.2.1,t.2.2.1,t.2.2.2.1.trans pm,t.2.2.2.2⟩
  rw[hr,if_pos h0];exact t.1
 ·have t:=wR (O:=O) (key:=key) (N:=N) (gT i2 lo) (n:=r.2.1) (nrem:=nrem) (by omega) (by omega) (by rw[i2.size_eq];omega) i5
  rw[if_neg h0]
  refine⟨cP _ i1 ?_,t.2.1,t.2.2.1,t.2.2.2.1.trans i2,t.2.2.2.2⟩
  rw[hr,if_neg h0];exact t.1
theorem EJ {p:Array Nat} (lo:Lo p N) {nrem:Nat} (h1:1<=nrem) (hz:nrem<=p.size) :
  kIn (ltK O key) N (kas_count nrem p)/\1<=(bF (ltK O key) (kas_count nrem p)).1/\(bF (ltK O key) (kas_count nrem p)).1<=nrem/\(bF (ltK O key) (kas_count nrem p)).2.Perm p/\Up O key (bF (ltK O key) (kas_count nrem p)).2 (bF (ltK O key) (kas_count nrem p)).1:=by
 unfold kas_count
 obtain⟨i1,i2,i3,i4,i5⟩:=xH (O:=O) (key:=key) lo (nrem-1) 1 (Nat.le_refl _) (λi j hij hj=>by have:i=j:=(by omega);subst this;exact KeyOrd.kle_refl _)
 rw[eZ]
 generalize hr:bF (ltK O key) (kas_asc p (nrem-1) 1)=n at *
 by_cases hn:n=nrem
 ·rw[if_pos (by simpa using hn)]
  exact⟨cP _ i1 (by rw[hr,if_pos (by simpa using hn)];trivial),i2,by show n<=nrem;omega,Array.Perm.refl _,i4⟩
 ·rw[if_neg (by simpa using hn)]
  have hlt:O.klt (kk O key p n) (kk O key p (n-1)):=i5.resolve_left (by omega)
  by_cases hg:n > 1
  ·rw[if_pos hg]
   simp only[bF]
   cases hb:ltK O key (p.getD 0 0) (p.getD (n-1) 0) with
   | true =>
    simp only[if_true]
    exact⟨cP _ i1 (by rw[hr,if_neg (by simpa using hn),if_pos hg];exact⟨lo _,lo _,by rw[hb];trivial⟩),by show 1<=n;omega,by show n<=nrem;omega,Array.Perm.refl _,i4⟩
   | false =>
    simp only[Bool.false_eq_true,if_false]
    have hall:∀k,0<=k->k<n->kk O key p k=kk O key p (n-1):=by
     intro k _ hk
     have a1:=i4 0 k (by omega) hk
     have a2:=i4 k (n-1) (by omega) (by omega)
     exact KeyOrd.kle_antisymm a2 (KeyOrd.kle_trans hb a1)
    have hk:=mZ (O:=O) (key:=key) (p:=p) (i:=0) (j:=n) (by omega) hall
    have pm:=jH p 0 n
    have t:=nU (O:=O) (key:=key) (N:=N) (gT pm lo) (n:=n) (nrem:=nrem) (by omega) (by rw[pm.size_eq];omega) (λi j hij hj=>by
     rw[hk,hk]
     by_cases hjn:j<n
     ·rw[hall i (by omega) (by omega),hall j (by omega) hjn];exact KeyOrd.kle_refl _
     ·have hj':j=n:=by omega
      subst hj'
      by_cases hi':i=j
      ·subst hi';exact KeyOrd.kle_refl _
      ·rw[hall i (by omega) (by omega)];exact KeyOrd.kle_of_klt hlt)
    exact⟨cP _ i1 (by rw[hr,if_neg (by simpa using hn),if_pos hg];exact⟨lo _,lo _,by rw[hb];exact t.1⟩),t.2.1,t.2.2.1,t.2.2.2.1.trans pm,t.2.2.2.2⟩
  ·rw[if_neg hg]
   have n1:n=1:=by omega
   have t:=nU (O:=O) (key:=key) (N:=N) lo (n:=n) (nrem:=nrem) (by omega) hz (λi j hij hj=>by
    by_cases hi':i=j
    ·subst hi';exact KeyOrd.kle_refl _
    ·have e1:i=n-1:=by omega
     have e2:j=n:=by omega
     rw[e1,e2];exact KeyOrd.kle_of_klt hlt)
   exact⟨cP _ i1 (by rw[hr,if_neg (by simpa using hn),if_neg hg];exact t.1),t.2⟩
theorem pW {p:Array Nat} (lo:Lo p N) {k:Nat} (hs:Up O key p k):∀(f l r:Nat),l<=r->r<=k->r-l<=f->(∀i,i<l->O.kle (kk O key p i) (kk O key p k))->(∀i,r<=i->i<k->O.klt (kk O key p k) (kk O key p i)) ->
  kIn (ltK O key) N (kas_place p k f l r)/\bF (ltK O key) (kas_place p k f l r)<=k/\(∀i,i<bF (ltK O key) (kas_place p k f l r)->O.kle (kk O key p i) (kk O key p k))/\(∀i,bF (ltK O key) (kas_place p k f l r)<=i->i<k->O.klt (kk O key p k) (kk O key p i))
 | 0,l,r,hlr,hrk,hf,a,b=>by
  have:l=r:=by omega
  subst this
  exact⟨trivial,hrk,a,b⟩
 | f+1,l,r,hlr,hrk,hf,a,b=>by
  simp only[kas_place]
  by_cases hge:l ≥ r
  ·have:l=r:=by omega
   subst this
   rw[if_pos hge]
   exact⟨trivial,hrk,a,b⟩
  ·rw[if_neg hge]
   simp only[bF,kIn]
   cases hb:ltK O key (p.getD k 0) (p.getD ((l+r) / 2) 0) with
   | true =>
    simp only[if_true]
    have t:=pW lo hs f l ((l+r) / 2) (by omega) (by omega) (by omega) a (λi h1 h2=>KeyOrd.klt_of_klt_of_kle hb (hs _ _ h1 h2))
    exact⟨⟨lo _,lo _,t.1⟩,t.2⟩
   | false =>
    simp only[Bool.false_eq_true,if_false]
    have t:=pW lo hs f ((l+r) / 2+1) r (by omega) hrk (by omega) (λi h1=>KeyOrd.kle_trans (hs i ((l+r) / 2) (by omega) (by omega)) hb) b
    exact⟨⟨lo _,lo _,t.1⟩,t.2⟩
theorem EC:∀(f:Nat) (p:Array Nat) (k:Nat),Lo p N->k+f<=p.size->Up O key p k->kIn (ltK O key) N (kas_bin f p k)/\(bF (ltK O key) (kas_bin f p k)).Perm p/\Up O key (bF (ltK O key) (kas_bin f p k)) (k+f)
 | 0,p,k,lo,hz,h=>⟨trivial,Array.Perm.refl _,h⟩
 | f+1,p,k,lo,hz,h=>by
  simp only[kas_bin]
  obtain⟨i1,i2,i3,i4⟩:=pW lo h k 0 k (by omega) (by omega) (by omega) (λi hi=>absurd hi (by omega)) (λi h1 h2=>absurd h2 (by omega))
  rw[eZ]
  generalize hr:bF (ltK O key) (kas_place p k k 0 k)=l at *
  have pm:=bubble_perm p k (k-l)
  have hb:=λi=>BV (O:=O) (key:=key) (p:=p) (src:=k) (d:=k-l) (by omega) (by omega) i
  have up:Up O key (bubble p k (k-l)) (k+1):=by
   intro i j hij hj
   rw[hb,hb,show k-(k-l)=l by omega]
   by_cases e1:i=l
   ·rw[if_pos e1]
    by_cases e2:j=l
    ·rw[if_pos e2];exact KeyOrd.kle_refl _
    ·rw[if_neg e2,if_pos (by omega)];exact KeyOrd.kle_of_klt (i4 _ (by omega) (by omega))
   ·rw[if_neg e1]
    by_cases e2:j=l
    ·rw[if_pos e2,if_neg (by omega)];exact i3 _ (by omega)
    ·rw[if_neg e2]
     by_cases e3:l<i/\i<=k
     ·rw[if_pos e3,if_pos (by omega)];exact h _ _ (by omega) (by omega)
     ·rw[if_neg e3]
      by_cases e4:l<j/\j<=k
      ·rw[if_pos e4];exact h _ _ (by omega) (by omega)
      ·rw[if_neg e4];exact h _ _ (by omega) (by omega)
  obtain⟨t1,t2,t3⟩:=EC f (bubble p k (k-l)) (k+1) (gT pm lo) (by rw[pm.size_eq];omega) up
  refine⟨cP _ i1 (by rw[hr];exact t1),t2.trans pm,?_⟩
  rw[show k+(f+1)=k+1+f by omega];exact t3
theorem JU {n:Nat} (h1:1<=n):kIn (ltK O key) n (kas_sort n)/\(bF (ltK O key) (kas_sort n)).Perm (List.toArray (List.range n))/\Up O key (bF (ltK O key) (kas_sort n)) n:=by
 have lo:Lo (List.toArray (List.range n)) n:=by
  intro i
  by_cases hi:i<n
  ·simp[Array.getD,hi]
  ·simp[Array.getD,hi];omega
 unfold kas_sort
 obtain⟨i1,i2,i3,i4,i5⟩:=EJ (O:=O) (key:=key) lo (nrem:=n) h1 (by simp)
 rw[eZ]
 generalize hr:bF (ltK O key) (kas_count n (List.toArray (List.range n)))=r at *
 have sz:r.2.size=n:=by rw[i4.size_eq];simp
 by_cases h:r.1<n
 ·have t:=EC (O:=O) (key:=key) (N:=n) (n-max r.1 1) r.2 (max r.1 1) (gT i4 lo) (by omega) (by rw[show max r.1 1=r.1 by omega];exact i5)
  rw[if_pos h]
  refine⟨cP _ i1 (by rw[hr,if_pos h];exact t.1),t.2.1.trans i4,?_⟩
  have:=t.2.2
  rwa [show max r.1 1+(n-max r.1 1)=n by omega] at this
 ·rw[if_neg h]
  refine⟨cP _ i1 (by rw[hr,if_neg h];trivial),i4,?_⟩
  rw[show n=r.1 by omega];exact i5
end
end L2.R2
set_option Elab.async false
set_option linter.all false
set_option maxRecDepth 100000
set_option maxHeartbeats 3200000
namespace L2.R2
open PySem PySem.W PySem.SetTable PyProof.Rows
noncomputable def cO:List Int->List Int->Bool
 | [],[]=>false
 | [],_::_=>true
 | _::_,[]=>false
 | a::as,b::bs=>if a=b then cO as bs else decide (a<b)
theorem vT:∀a,cO a a=false
 | []=>rfl
 | a::as=>by simp only[cO,if_true];exact vT as
theorem kY:∀a b c,cO a b=true->cO b c=true->cO a c=true
 | [],[],c,h,_=>by simp[cO] at h
 | [],_::_,[],_,h=>by simp[cO] at h
 | [],_::_,_::_,_,_=>rfl
 | _::_,[],_,h,_=>by simp[cO] at h
 | _::_,_::_,[],_,h=>by simp[cO] at h
 | a::as,b::bs,c::cs,h,k=>by
  simp only[cO] at h k ⊢
  by_cases e1:a=b
  ·subst e1
   rw[if_pos rfl] at h
   by_cases e2:a=c
   ·subst e2;rw[if_pos rfl] at k ⊢;exact kY as bs cs h k
   ·rw[if_neg e2] at k ⊢;exact k
  ·rw[if_neg e1] at h
   by_cases e2:b=c
   ·subst e2;rw[if_neg e1];exact h
   ·rw[if_neg e2] at k
    simp only[decide_eq_true_eq] at h k
    rw[if_neg (by omega)]
    simp only[decide_eq_true_eq];omega
theorem kX:∀a b,cO a b=false->cO b a=false->a=b
 | [],[],_,_=>rfl
 | [],_::_,h,_=>by simp[cO] at h
 | _::_,[],_,h=>by simp[cO] at h
 | a::as,b::bs,h,k=>by
  simp only[cO] at h k
  by_cases e:a=b
  ·subst e;rw[if_pos rfl] at h k;rw[kX as bs h k]
  ·rw[if_neg e] at h;rw[if_neg (Ne.symm e)] at k
   simp only[decide_eq_false_iff_not] at h k;omega
theorem FW (a b c:List Int) (h:cO a c=true):cO a b=true\/cO b c=true:=by
 cases h1:cO a b with
 | true=>exact Or.inl rfl
 | false =>
  right
  cases h2:cO b a with
  | true=>exact kY b a c h2 h
  | false=>rw[<-kX a b h1 h2];exact h
noncomputable def CF:KeyOrd:=⟨List Int,cO,vT,kY,FW,kX⟩
section
variable {prog:Program} {w:World} {A:Around} {E:Value->Shared->Prop} {s:Shared}
theorem int_inv {k:Int} {v:Value} (h:(intKind prog w).is k v=true):∃t,v = .int k t:=by
 cases v <;> simp[intKind,Value.isInt] at h
 exact⟨_,by rw[h]⟩
theorem AG {fin:Bool} {Q:Bool->Shared->Prop}:∀(ns ms:List Int) (vs us:List Value) (i:Nat),ItemsAre (intKind prog w) ns vs->ItemsAre (intKind prog w) ms us->fin=decide (vs.length<us.length)->Q (cO ns ms) s->KatLex prog w A true fin Q (vs.zip us) i s:=by
 intro ns
 induction ns with
 | nil =>
  intro ms vs us i h1 h2 hf q
  cases h1
  cases h2 with
  | nil=>simp at hf;subst hf;exact kat_nil q
  | cons _ _=>simp at hf;subst hf;exact kat_nil q
 | cons n ns ih =>
  intro ms vs us i h1 h2 hf q
  cases h1 with
  | cons h1 t1 =>
   cases h2 with
   | nil=>simp at hf;subst hf;exact kat_nil q
   | @cons m u ms us h2 t2 =>
    rw[List.zip_cons_cons]
    refine kat_cons ((intKind prog w).eqBool h1 h2 ?_)
    by_cases e:n=m
    ·subst e
     rw[decide_eq_true rfl]
     exact kat_yes (ih ms _ us (i+1) t1 t2 (by simpa using hf) (by simpa [cO] using q))
    ·rw[decide_eq_false e]
     obtain⟨tn,rfl⟩:=int_inv h1
     obtain⟨tm,rfl⟩:=int_inv h2
     have q':Q (decide (n<m)) s:=by simpa [cO,e] using q
     refine kat_no ?_
     cases hi:(i == 0) with
     | true=>exact oneLt_int q'
     | false=>exact kat_one _ _ (PySem.wpAny_lt_int (by exact q'))
noncomputable def KeysAt (prog:Program) (w:World) (h:Heap) (vs:List Value) (nss:List (List Int)):Prop:=vs.length=nss.length/\∀i v,vs[i]? = some v->∃a,v = .ref a/\IsTupleKey (intKind prog w) h (nss.getD i []) a
theorem kU {h:Heap}:∀(vs:List Value) (nss:List (List Int)),KeysAt prog w h vs nss->(∀ns∈nss,ns≠[])->∃fs:List Value,KatTups h vs fs/\fs.length=vs.length/\∀f∈fs,∃k t,f = .int k t
 | [],nss,_,_=>⟨[],trivial,rfl,λf hf=>by cases hf⟩
 | v::vs,nss,H,hn=>by
  match nss,H with
  | [],H=>exact absurd H.1 (by simp)
  | ns::nss,H =>
   obtain⟨a,rfl,o,items,n,ho,hc,hd,hi⟩:=H.2 0 v rfl
   obtain⟨fs,f1,f2,f3⟩:=kU vs nss ⟨by have:=H.1;simpa using this,λi v e=>H.2 (i+1) v e⟩ λms hm=>hn ms (List.mem_cons_of_mem _ hm)
   simp only[List.getD_cons_zero] at hi
   match ns,hi,hn ns (List.mem_cons_self ..) with
   | [],_,h=>exact absurd rfl h
   | k::ks,hi,_ =>
    generalize e:items.toList=its at hi
    cases hi with
    | cons h1 h2 =>
     obtain⟨t,rfl⟩:=int_inv h1
     refine⟨.int k t::fs,⟨⟨a,o,items,n,rfl,ho,hc,hd,?_⟩,f1⟩,by simp[f2],λf hf=>?_⟩
     ·rw[<-Array.getElem?_toList,e];rfl
     ·rcases List.mem_cons.mp hf with rfl | hf
      ·exact⟨k,t,rfl⟩
      ·exact f3 f hf
theorem KeysAt.other {h h':Heap} {vs:List Value} {nss:List (List Int)} {a:Addr} {xs:Array Value} {n:Nat} (K:KeysAt prog w h vs nss) (ho:h.get? a=some (seqObj "list" xs n)) (up:∀b o,b≠a->h.get? b=some o->h'.get? b=some o):KeysAt prog w h' vs nss:=by
 refine⟨K.1,λi v e=>?_⟩
 obtain⟨b,rfl,o,its,m,h1,h2,h3,h4⟩:=K.2 i v e
 refine⟨b,rfl,o,its,m,up b o ?_ h1,h2,h3,h4⟩
 rintro rfl
 rw[ho] at h1;cases h1
 exact absurd h2 (by simp[seqObj])
theorem yK {α:Type} (d:α) (xs:List α):(List.range xs.length).map (λi=>xs.getD i d)=xs:=by
 apply List.ext_getElem (by simp)
 intro i h1 h2
 simp[h2]
theorem CW {a:Addr} {vs:List Value} {nss:List (List Int)} {n:Nat} {P:PySem.Fin->Shared->Prop} (ho:s.heap.get? a=some (seqObj "list" vs.toArray n)) (K:KeysAt prog w s.heap vs nss) (hn:∀ns∈nss,ns≠[]) (h64:vs.length<64)
  (q:∀h' out mss c,h'.get? a=some (seqObj "list" (List.toArray out) c)->KeysAt prog w h' out mss->(∀v∈out,v∈vs)->mss.Perm nss->mss.Pairwise (λx y=>cO y x=false)->(∀b o,b≠a->s.heap.get? b=some o->h'.get? b=some o)->P (.done (.ret .none)) { s with heap:=h' }) :
  wpAny (model prog w) A (Builtin.«list.sort» ⟨[.ref a],[]⟩) P E s:=by
 have lt:a<s.heap.objs.size:=Heap.lt_size ho
 rw[list_sort_plain]
 apply wpAny_bind;refine listItems_at ho rfl ?_
 apply wpAny_bind;refine listUpdate_at ho rfl ?_ (by rw[List.size_toArray,sizeLine_eq];omega) (Nat.zero_le _)
 obtain⟨e1,ho1⟩:∃e1,(s.heap.update a (Obj.mapSeq λ_=>(#[]:Array Value))).get? a=some (seqObj "list" #[] e1):=⟨_,get?_update_seq ho λ_=>#[]⟩
 have up1:∀b o,b≠a->s.heap.get? b=some o->(s.heap.update a (Obj.mapSeq λ_=>(#[]:Array Value))).get? b=some o:=λb o hb e=>(Heap.get?_update_other _ _ (Ne.symm hb)).trans e
 generalize s.heap.update a (Obj.mapSeq λ_=>(#[]:Array Value))=h1 at ho1 up1
 apply wpAny_bind;refine seqEpoch_at ho1 rfl ?_
 apply wpAny_bind;refine wpAny_newTuple ?_ (by show vs.length<=_;rw[sizeLine_eq];omega)
 apply wpAny_bind;refine wpAny_newList ?_ (Nat.zero_le _)
 apply wpAny_holding
 show wpAny (model prog w) A _ P E { s with heap:=(h1.push (seqObj "tuple" vs.toArray 0)).push (seqObj "list" #[] 0) }
 have up2:∀b o,b≠a->s.heap.get? b=some o->((h1.push (seqObj "tuple" vs.toArray 0)).push (seqObj "list" #[] 0)).get? b=some o:=λb o hb e=>Heap.get?_push_of_some _ (Heap.get?_push_of_some _ (up1 b o hb e))
 have ho2:((h1.push (seqObj "tuple" vs.toArray 0)).push (seqObj "list" #[] 0)).get? a=some (seqObj "list" #[] e1):=Heap.get?_push_of_some _ (Heap.get?_push_of_some _ ho1)
 generalize (h1.push (seqObj "tuple" vs.toArray 0)).push (seqObj "list" #[] 0)=h2 at up2 ho2
 have K2:=K.other ho up2
 have fin:∀(out:List Value) (mss:List (List Int)) (st':SortSt),(arrOf st').map (·.2)=out.toArray->failedOf st'=none->KeysAt prog w h2 out mss->(∀v∈out,v∈vs)->mss.Perm nss->mss.Pairwise (λx y=>cO y x=false)->out.length<=64 ->
   wpAny (model prog w) A (do
    let sorted:=(arrOf st').map (·.2)
    let touched:=(<-seqEpoch a) != e1
    Builtin.List.listUpdate (.ref a) λ_=>sorted
    if let some e:=failedOf st' then rule "list.sort.comparison-raised";throw e
    if touched then rule "list.sort.modified";raiseError "ValueError" "list modified during sort"
    ret .none) P E { s with heap:=h2 }:=by
  intro out mss st' h1 hf KO hv hp hs hlen
  dsimp only
  apply wpAny_bind;refine seqEpoch_at (s:={ s with heap:=h2 }) ho2 rfl ?_
  rw[h1]
  apply wpAny_bind;refine listUpdate_at (s:={ s with heap:=h2 }) ho2 rfl ?_ (Nat.zero_le _) (by show out.toArray.size<=_;rw[List.size_toArray,sizeLine_eq];omega)
  obtain⟨c,hc⟩:∃c,(h2.update a (Obj.mapSeq λ_=>out.toArray)).get? a=some (seqObj "list" out.toArray c):=⟨_,get?_update_seq ho2 λ_=>out.toArray⟩
  have up3:∀b o,b≠a->h2.get? b=some o->(h2.update a (Obj.mapSeq λ_=>out.toArray)).get? b=some o:=λb o hb e=>(Heap.get?_update_other _ _ (Ne.symm hb)).trans e
  generalize h2.update a (Obj.mapSeq λ_=>out.toArray)=h3 at hc up3
  rw[hf]
  simp only[bne_self_eq_false,Bool.false_eq_true,if_false]
  exact wpAny_pure (q h3 out mss c hc (KO.other ho2 up3) hv hp hs λb o hb e=>up3 b o hb (up2 b o hb e))
 have ln:=K.1
 dsimp only
 by_cases h2':vs.length<2
 ·have c2:vs.toArray.size<2:=by rw[List.size_toArray];exact h2'
  rw[if_pos c2,if_pos c2]
  apply wpAny_bind;apply wpAny_pure
  apply wpAny_bind
  show wpAny _ _ (pure ((),SortSt.mk' general' (vs.toArray.zip vs.toArray) #[] 7 none)) _ _ _
  apply wpAny_pure
  refine fin vs nss _ ?_ rfl K2 (λ_ h=>h) (List.Perm.refl _) ?_ (by omega)
  ·show (vs.toArray.zip vs.toArray).map (·.2)=vs.toArray
   apply Array.toList_inj.mp
   simp[List.map_snd_zip]
  ·match nss,ln with
   | [],_=>exact List.Pairwise.nil
   | [x],_=>exact List.pairwise_singleton _ _
   | _::_::_,ln=>simp at ln;omega
 ·have c2:¬vs.toArray.size<2:=by rw[List.size_toArray];exact h2'
  rw[if_neg c2,if_neg c2]
  obtain⟨fs,f1,f2,f3⟩:=kU vs nss K2 hn
  apply wpAny_bind
  refine kat_kind (s:={ s with heap:=h2 }) (T:=.type "int") f1 (by omega) (λv hv=>?_) (by decide) ?_
  ·obtain⟨k,t,rfl⟩:=f3 v hv
   exact Looks.now
  have hT:(Value.type "int" != Value.type "tuple")=true:=by decide
  rw[hT]
  obtain⟨i1,i2,i3⟩:=JU (O:=CF) (key:=λi=>nss.getD i []) (n:=vs.length) (by omega)
  have psz:(bF (ltK CF λi=>nss.getD i []) (kas_sort vs.length)).size=vs.length:=by rw[i2.size_eq];simp
  generalize hp:bF (ltK CF λi=>nss.getD i []) (kas_sort vs.length)=p at i2 i3 psz
  apply wpAny_bind
  refine wpAny_mono (kat_run (ks:=vs) (vs:=vs) (Q:=λst' s'=>s' = { s with heap:=h2 }/\arrOf st'=p.map (kas_item (vs.toArray.zip vs.toArray))/\failedOf st'=none) (G:=λp' s'=>p'=p/\s' = { s with heap:=h2 }) rfl (by omega) h64 (λp' st' s' a1 a2 a3 a4=>⟨a4.2,by rw[a2,a4.1],a3⟩) ?_) ?_ λ_ _ e=>e
  ·refine pS (lt:=ltK CF λi=>nss.getD i []) (n:=vs.length) (s:={ s with heap:=h2 }) (λi j C hi hj c=>?_) _ i1 ⟨hp,rfl⟩
   unfold kas_ask
   obtain⟨x,ex,ox,xs,nx,hx1,hx2,hx3,hx4⟩:=K2.2 i (vs.getD i Value.none) (by simp[hi])
   obtain⟨y,ey,oy,ys,ny,hy1,hy2,hy3,hy4⟩:=K2.2 j (vs.getD j Value.none) (by simp[hj])
   rw[ex,ey]
   refine kat_lt (s:={ s with heap:=h2 }) hx1 hx3 hy1 hy3 (AG _ _ _ _ 0 hx4 hy4 (by simp) ?_)
   exact c
  ·rintro⟨⟨⟩,st'⟩ s' ⟨rfl,har,hf⟩
   have hout:=kat_snds (ks:=vs) (vs:=vs) rfl har
   refine fin (p.toList.map λi=>vs.getD i Value.none) (p.toList.map λi=>nss.getD i []) st' hout hf ⟨by simp,λi v e=>?_⟩ (λv hv=>?_) ?_ ?_ (by simp[psz];omega)
   ·rw[List.getElem?_map] at e
    cases e2:p.toList[i]? with
    | none=>rw[e2] at e;simp at e
    | some j =>
     rw[e2] at e
     simp only[Option.map_some,Option.some.injEq] at e
     have hj:j<vs.length:=by
      have m:j∈p.toList:=List.mem_of_getElem? e2
      have:=(Array.Perm.mem_iff i2).mp (Array.mem_toList_iff.mp m)
      simpa using this
     obtain⟨b,hb1,hb2⟩:=K2.2 j v (by rw[<-e];simp[hj])
     refine⟨b,hb1,?_⟩
     have g:(p.toList.map λi=>nss.getD i []).getD i []=nss.getD j []:=by
      rw[List.getD_eq_getElem?_getD,List.getElem?_map,e2];rfl
     rw[g];exact hb2
   ·obtain⟨j,m,rfl⟩:=List.mem_map.mp hv
    have hj:j<vs.length:=by
     have:=(Array.Perm.mem_iff i2).mp (Array.mem_toList_iff.mp m)
     simpa using this
    simp[hj]
   ·have pl:p.toList.Perm (List.range vs.length):=by simpa using i2.toList
    refine (pl.map _).trans ?_
    rw[ln,yK]
   ·refine List.pairwise_map.mpr (List.pairwise_iff_getElem.mpr λi j hi hj hij=>?_)
    have:=i3 i j (by omega) (by simp at hj;omega)
    unfold kk at this
    simp only[Array.length_toList] at hi hj
    have e1:p.getD i 0=p[i]:=by simp[Array.getD,hi]
    have e2:p.getD j 0=p[j]:=by simp[Array.getD,hj]
    rw[e1,e2] at this
    exact this
end
end L2.R2
set_option Elab.async false
set_option linter.all false
set_option maxRecDepth 100000
set_option maxHeartbeats 3200000
namespace L2.R2
open PySem PySem.W PyProof.Rows
theorem yA:typeLookup (.type "list_reverseiterator") "__len__" = pure none:=by rw[typeLookup_type,builtinLookup_eq_fast];kernel_rfl
theorem GA:typeLookup (.type "list_reverseiterator") "__length_hint__" = pure (some (.builtin "list_reverseiterator.__length_hint__")):=by rw[typeLookup_type,builtinLookup_eq_fast];kernel_rfl
theorem uH:isSubtype (.type "list_reverseiterator") (.type "list_reverseiterator")=pure true:=by rw[isSubtype_type];kernel_rfl
section
variable {prog:Program} {w:World} {A:Around} {E:Value->Shared->Prop} {s:Shared}
theorem GR {I:Addr} {Q:Bool->Shared->Prop} (ty:s.TypeIs (.ref I) "list_reverseiterator") (q:Q false s):wpAny (model prog w) A (Builtin.List.listLengthHint (.ref I)) Q E s:=by
 unfold Builtin.List.listLengthHint
 apply wpAny_bind;refine wpAny_specialOf ty yA ?_
 show wpAny _ _ (specialOf (Value.ref I) (Str.ofString "__length_hint__") >>= _) _ _ _
 apply wpAny_bind;refine wpAny_specialOf ty GA ?_
 dsimp only
 have sp:splitId "list_reverseiterator.__length_hint__" = some ("list_reverseiterator","__length_hint__"):=by decide +kernel
 rw[sp]
 dsimp only
 apply wpAny_bind;refine wpAny_isInstance (b:=true) ty uH ?_
 simp only[Bool.not_true,Bool.false_eq_true,if_false]
 have key:∀(c:Bool) (X Y:Sem Bool),c=true->wpAny (model prog w) A X Q E s->wpAny (model prog w) A (if c=true then X else Y) Q E s:=λc X Y hc h=>by rw[if_pos hc];exact h
 refine key _ _ _ (by decide +kernel) ?_
 rw[if_neg (by decide +kernel)]
 exact wpAny_pure q
theorem qX {I l:Addr} {items:Array Value} {Q:Value->Shared->Prop} (hh:A.handled=none) (ne:l≠I) (hz:items.size<=sizeLine) (hi:s.heap.IsRevIter I l ((items.size:Int)-1)) (hl:s.heap.IsList l items)
  (q:∀h' c,h'.get? s.heap.objs.size=some (seqObj "list" items.toList.reverse.toArray c)->(∀b o,b≠I->s.heap.get? b=some o->h'.get? b=some o)->Q (.ref s.heap.objs.size) { s with heap:=h' }) :
  wpAny (model prog w) A (call (.type "list") [.ref I]) Q E s:=by
 have ltI:I<s.heap.objs.size:=by obtain⟨o,e,_⟩:=hi;exact Heap.lt_size e
 have ltl:l<s.heap.objs.size:=by obtain⟨o,e,_⟩:=hl;exact Heap.lt_size e
 refine callType_codes (Q₁:=λobj s₁=>obj = .ref s.heap.objs.size/\s₁ = { s with heap:=s.heap.push { cls:=.type "list",data:=.seq #[] } }) F.called_list (F.typeCall_list_1 _) F.entry_list_init (code_list_new _ ⟨rfl,rfl⟩) λobj s₁ h₁=>?_
 obtain⟨rfl,rfl⟩:=h₁
 have hS:(s.heap.push { cls:=.type "list",data:=.seq #[] }).get? s.heap.objs.size=some { cls:=.type "list",data:=.seq #[] }:=Heap.get?_push_size _ rfl
 refine⟨⟨_,hS,rfl⟩,F.args_list_init_2 _ _,?_⟩
 show wpAny _ _ (do let old <-Builtin.List.listItems (.ref s.heap.objs.size);Builtin.List.listUpdate (.ref s.heap.objs.size) (λ_=>#[]);letGo old.toList.reverse;Builtin.List.listExtendWith (.ref s.heap.objs.size) (.ref I) .none) _ _ _
 apply wpAny_bind;unfold Builtin.List.listItems
 apply wpAny_bind;apply wpAny_seqItems hS rfl;apply wpAny_pure
 show wpAny _ _ (updateSeq s.heap.objs.size (λ_=>#[]) >>= λ_=>letGo (#[]:Array Value).toList.reverse >>= λ_=>Builtin.List.listExtendWith (.ref s.heap.objs.size) (.ref I) .none) _ _ _
 apply wpAny_bind;refine wpAny_updateSeq hS rfl ?_
 have hS2:=Heap.get?_update_self (Obj.mapSeq (λ_=>(#[]:Array Value))) hS rfl
 have up2:∀b o,b≠s.heap.objs.size->s.heap.get? b=some o->((s.heap.push { cls:=.type "list",data:=.seq #[] }).update s.heap.objs.size (Obj.mapSeq (λ_=>(#[]:Array Value)))).get? b=some o :=
  λb o hb e=>(Heap.get?_update_other _ _ (Ne.symm hb)).trans (Heap.get?_push_of_some _ e)
 generalize (s.heap.push { cls:=.type "list",data:=.seq #[] }).update s.heap.objs.size (Obj.mapSeq (λ_=>(#[]:Array Value)))=h2 at hS2 up2
 apply wpAny_bind;apply wpAny_letGo
 have neI:I≠s.heap.objs.size:=Nat.ne_of_lt ltI
 have nel:l≠s.heap.objs.size:=Nat.ne_of_lt ltl
 have hi2:h2.IsRevIter I l ((items.size:Int)-1):=hi.at λo e=>up2 _ o neI e
 have hl2:h2.IsList l items:=hl.at λo e=>up2 _ o nel e
 unfold Builtin.List.listExtendWith
 apply wpAny_bind;refine wpAny_typeOf (T:="list_reverseiterator") hi2.typeIs ?_
 have g1:Builtin.List.listSameRef (.ref s.heap.objs.size) (.ref I)=false:=by simp[Builtin.List.listSameRef,Nat.ne_of_gt ltI]
 have g2:(Value.type "list_reverseiterator" == Value.type "list")=false:=by decide
 have g3:(Value.type "list_reverseiterator" == Value.type "tuple")=false:=by decide
 simp only[g1,g2,g3,Bool.or_false,Bool.false_eq_true,if_false]
 apply wpAny_bind;refine wpAny_pyIter_revIter hi2 ?_
 apply wpAny_bind;apply wpAny_holding;refine GR hi2.typeIs ?_
 have key:∀(c:Bool) (X Y:Sem Fin) {Q':Fin->Shared->Prop} {E':Value->Shared->Prop} {s':Shared} {A':Around},c=false->wpAny (model prog w) A' Y Q' E' s'->wpAny (model prog w) A' (if c=true then X else Y) Q' E' s':=λc X Y _ _ _ _ hc h=>by rw[hc,if_neg Bool.false_ne_true];exact h
 refine key _ _ _ (by decide +kernel) ?_
 apply wpAny_pure;refine⟨plainId_quiet PySem.F.plain_extend_loop _,?_⟩
 refine vI (s0:=s) (n:=items.size) (J:=λacc h=>h.IsRevIter I l ((items.size:Int)-1-(acc.length:Int))/\h.IsList l items/\acc=items.toList.reverse.take acc.length/\∀b o,b≠I->b≠s.heap.objs.size->s.heap.get? b=some o->h.get? b=some o)
  (F:=λacc h=>acc=items.toList.reverse/\∀b o,b≠I->b≠s.heap.objs.size->s.heap.get? b=some o->h.get? b=some o) .none hz ?_ ?_ ?_ (λh' acc c hsz hF hS'=>⟨rfl,?_⟩) items.size #[] h2 _ rfl (Nat.zero_le _) ?_ hS2
 ·rintro acc h h' ⟨J1,J2,J3,J4⟩ hSo hz up
  exact⟨J1.at λo e=>up _ o neI e,J2.at λo e=>up _ o nel e,J3,λb o n1 n2 e=>up b o n2 (J4 b o n1 n2 e)⟩
 ·rintro acc s' o Q' E' hlt ⟨J1,J2,J3,J4⟩ hSo k
  have e:items[items.size-1-acc.length]? = some (items[items.size-1-acc.length]'(by omega)):=Array.getElem?_eq_getElem _
  refine wpAny_pyNext_rev_item (i:=items.size-1-acc.length) (by rw[show ((items.size-1-acc.length:Nat):Int)=(items.size:Int)-1-(acc.length:Int) by omega];exact J1) J2 e λh' it' sb=>k _ h' ⟨?_,J2.at λo e=>?_,?_,λb o n1 n2 e=>?_⟩ ?_
  ·rw[show ((items.size-1-acc.length:Nat):Int)-1=(items.size:Int)-1-((acc++[items[items.size-1-acc.length]'(by omega)]).length:Int) by simp;omega] at it'
   exact it'
  ·rw[sb.2 _ ne];exact e
  ·rw[List.length_append,List.length_singleton,List.take_succ,<-J3]
   congr 1
   rw[List.getElem?_eq_getElem (by simp;omega),List.getElem_reverse]
   simp
  ·rw[sb.2 b n1];exact J4 b o n1 n2 e
  ·rw[sb.2 _ (Ne.symm neI)];exact hSo
 ·rintro acc s' o Q' E' hlen ⟨J1,J2,J3,J4⟩ hSo k
  rw[hlen] at J3
  refine wpAny_pyNext_rev_end (l:=l) (by simp[hh]) (by rw[show (-1:Int)=(items.size:Int)-1-(acc.length:Int) by omega];exact J1) λh' eb=>k h' ⟨?_,λb o n1 n2 e=>eb b o n1 (J4 b o n1 n2 e)⟩ (eb _ _ (Ne.symm neI) hSo)
  rw[J3,List.take_of_length_le]
  simp
 ·exact⟨by simpa using hi2,hl2,rfl,λb o _ n2 e=>up2 b o n2 e⟩
 ·refine q h' c ?_ λb o n1 e=>hF.2 b o n1 (Nat.ne_of_lt (Heap.lt_size e)) e
  rw[hS',<-hF.1]
end
end L2.R2
set_option Elab.async false
set_option linter.all false
set_option maxRecDepth 100000
set_option maxHeartbeats 1000000
namespace L2.R2
open PySem PySem.Spec PyProof.Rows L2
theorem uQ:bootBuiltins "sorted" = some (.builtin "sorted"):=by decide +kernel
theorem EG:bootBuiltins "set" = some (.type "set"):=by decide +kernel
theorem vQ {prog:Program} {w:World}:∀{ns:List Int} {us:List Value},Vals (ns.map V.int) us->ItemsAre (intKind prog w) ns us
 | [],_,h=>by cases h;exact .nil
 | n::ns,_,h=>by
  cases h with
  | cons h1 t =>
   obtain⟨t',rfl⟩:=h1
   exact .cons (intKind_is _ _ _ _) (vQ t)
noncomputable def qE (te:RE):RA:=λρ Q=>te ρ λx=>∃ds:List D,x = .lst ds/\Q ds.reverse
theorem wH {K:PySem.W.Frag} {H:Hp}:∀(out:List Value) (mss:List (List Int)),out.length=mss.length->(∀(i:Nat) (v:Value),out[i]? = some v->∃a,v = .ref a/\H a=some (.tup ((mss.getD i []).map V.int)))->∃ws:List V,Vals ws out/\Reps K H (mss.map dY) ws
 | [],[],_,_=>⟨[],.nil,.nil⟩
 | [],_::_,h,_=>by simp at h
 | _::_,[],h,_=>by simp at h
 | v::out,ms::mss,h,k=>by
  obtain⟨ws,h1,h2⟩:=wH (K:=K) (H:=H) out mss (by simpa using h) λi v e=>k (i+1) v (by simpa using e)
  obtain⟨a,rfl,ha⟩:=k 0 v rfl
  exact⟨.ref a::ws,.cons rfl h1,.cons (.tup ha Reps.ints) h2⟩
section
variable {X:Cx} {e:Expr} {te:RE} {p pz pos posz:Pos}
theorem xT (hml:X.mg "list" = none) (hmz:X.mg "reversed" = none) (hc:X.calm=true) (h:DB X e te) (hgl:Gl X "list":=by rfl) (hgz:Gl X "reversed":=by rfl)
  (hs:starEach [.Call (.Name "reversed" pz) [e] [] posz] X.env=[(false,eval (.Call (.Name "reversed" pz) [e] [] posz) X.env)]:=by rfl) (hn:starEach [] X.env=[]:=by rfl) (h1:starEach [e] X.env=[(false,eval e X.env)]:=by rfl) :
  DO X (.Call (.Name "list" p) [.Call (.Name "reversed" pz) [e] [] posz] [] pos) (qE te):=by
 intro pins s σ H Q I hh_0
 obtain⟨ρ,P,st,q,kq⟩:=hh_0
 refine wpAny_Call_Name_kw (gS I hgl hml rY ?_)
 refine PyProof.Rows.callWith_type1 ?_ (by rw[hs,hn]) (by rw[hn];rfl)
 rw[hs]
 show wpAny _ _ (spliced ((false,eval (.Call (.Name "reversed" pz) [e] [] posz) X.env)::backTo pos [])) _ _ s
 refine Calls.spliced_cons (wpAny_Call_Name_kw (gS I hgz hmz jY ?_))
 refine PyProof.Rows.callWith_type1 (thn (fV h h1 hn posz pins s σ H (λvs H1=>∃(ds:List D) (v:V),vs=[v]/\Same H H1/\RepB X.K H1 (.lst ds) v/\P ds.reverse) I
  ⟨ρ,_,st,q,λx v H1 hx s1 r1=>?_⟩) λus s1 ⟨vs,H1,I1,r1,q1⟩=>?_) (by rw[h1,hn]) (by rw[hn];rfl)
 ·obtain⟨ds,rfl,a1⟩:=hx
  exact⟨ds,v,rfl,s1,r1,a1⟩
 obtain⟨ds,v,rfl,s01,rb,hP⟩:=q1
 obtain⟨l,vs,rfl,hq,rr⟩:=rb.lst
 obtain⟨u,rfl,rx⟩:=kN r1
 cases rx
 obtain⟨its,rv,pl,hz⟩:=I1.list hq
 have l1:=rr.length
 have l2:=rv.length
 have lt:l<s1.heap.objs.size:=by obtain⟨o,e,_⟩:=pl.isList;exact Heap.lt_size e
 refine call_reversed_list pl.isList ?_
 refine Calls.spliced_nil ?_
 have g0:(s1.heap.push (revObj l ((its.toArray.size:Int)-1))).get? s1.heap.objs.size=some (revObj l ((its.toArray.size:Int)-1)):=Heap.get?_push_size _ rfl
 have k1:∀b o,s1.heap.get? b=some o->(s1.heap.push (revObj l ((its.toArray.size:Int)-1))).get? b=some o:=λb o e=>Heap.get?_push_of_some _ e
 have z1:(s1.heap.push (revObj l ((its.toArray.size:Int)-1))).objs.size=s1.heap.objs.size+1:=Heap.size_push ..
 generalize s1.heap.push (revObj l ((its.toArray.size:Int)-1))=h2 at g0 k1 z1
 refine qX (s:={ s1 with heap:=h2 }) (A:=X.A) (l:=l) (I1.ok.hd hc) (Nat.ne_of_lt lt) (by simp;omega) ⟨_,g0,rfl,rfl⟩ (pl.isList.at λo e=>k1 _ o e) λh3 c g1 up=>?_
 show EP X pins σ Q (.ref h2.objs.size) _
 rw[show (Shared.heap { s1 with heap:=h2 }).objs.size=s1.heap.objs.size+1 from z1] at g1
 rw[z1]
 have kp:∀b o,s1.heap.get? b=some o->h3.get? b=some o:=λb o e=>up b o (Nat.ne_of_lt (Heap.lt_size e)) (k1 b o e)
 have I3:Inv X pins σ H1 { s1 with heap:=h3 }:=I1.kept (t':=s1.toks) kp
 have hS0:H1 (s1.heap.objs.size+1)=none:=I1.hok.fresh (Nat.le_succ _)
 have VV:Vals vs.reverse its.reverse:=by
  clear hq pl hz l1 l2 rr g1 g0
  induction rv with
  | nil=>exact .nil
  | cons r t ih =>
   simp only[List.reverse_cons]
   exact Vals.append ih (.cons r .nil)
 have I4:=I1.trackO (a:=s1.heap.objs.size+1) (w:=.lst vs.reverse) I3 (Nat.le_succ _) hS0 ⟨by simp;omega,its.reverse,c,VV,by simpa using g1⟩
 exact⟨.ref (s1.heap.objs.size+1),_,I4,rfl,kq _ _ _ H1 hP s01 hS0 rr.reverse⟩
end
section
variable {X:Cx} {tg:Expr}
noncomputable def QL (lo:Int) (n:Nat):List D:=(List.range n).map λk:Nat=>D.int (lo+(k:Int)*2)
structure StpOk (j:Int):Prop where
 lo:-(2 ^ 60)<=j
 hi:j<2 ^ 60
noncomputable def NT (t:RA):RA:=λρ Q=>t ρ λds=>match ds with
 | [.int i,.int j,.int c]=>(StpOk i/\StpOk j/\c=2)/\Q (QL i ((j-i+1) / 2).toNat)
 | _=>False
end
end L2.R2
set_option Elab.async false
set_option linter.all false
set_option maxRecDepth 100000
namespace L2
open PySem PySem.Spec PyProof.Rows
section
variable {κ:Type} [DecidableEq κ]
noncomputable def yX (kvs:List (κ × V)) (k:κ):Option V:=(kvs.find? λkv=>decide (kv.1=k)).map (·.2)
theorem wU {p:κ × V} {r:List (κ × V)} {k:κ} (e:p.1=k):yX (p::r) k=some p.2:=by simp[yX,List.find?_cons,e]
theorem wT {p:κ × V} {r:List (κ × V)} {k:κ} (e:¬p.1=k):yX (p::r) k=yX r k:=by simp[yX,List.find?_cons,e]
theorem RelO.getD {o:Option V} {u:Option Value} {d:V} {d':Value} (r:RelO o u) (rd:RelV d d'):RelV (o.getD d) (u.getD d'):=by
 cases o with
 | none=>cases u with
  | none=>exact rd
  | some _=>exact (show False from r).elim
 | some _=>cases u with
  | none=>exact (show False from r).elim
  | some _=>exact r
theorem KV.val {kvs:List (κ × V)} {vs:List (κ × Value)} (r:KV kvs vs) (k:κ):RelO (yX kvs k) (valueAt vs k):=by
 unfold KV at r
 induction r with
 | nil=>exact True.intro
 | @cons p q ps qs h t ih =>
  obtain⟨h1,h2⟩:=h
  by_cases e:p.1=k
  ·have e':q.1=k:=h1.symm.trans e
   have b:valueAt (q::qs) k=some q.2:=by simp[valueAt,List.find?_cons,e']
   rw[wU e,b];exact h2
  ·have e':¬q.1=k:=λz=>e (h1.trans z)
   have b:valueAt (q::qs) k=valueAt qs k:=by simp[valueAt,List.find?_cons,e']
   rw[wT e,b];exact ih
theorem KV.length {kvs:List (κ × V)} {vs:List (κ × Value)} (r:KV kvs vs):kvs.length=vs.length:=Paired.length r
end
noncomputable abbrev KT (H:Hp):List (List Key × V)->List (List Key × Addr × Value)->Prop:=Paired λp q=>p.1=q.1/\H q.2.1=some (.tup (p.1.map kV))/\RelV p.2 q.2.2
theorem KT.val {H:Hp} {kvs:List (List Key × V)} {xs:List (List Key × Addr × Value)} (r:KT H kvs xs) (k:List Key):RelO (yX kvs k) ((atKey xs k).map (·.2)):=by
 induction r with
 | nil=>exact True.intro
 | @cons p q ps qs h t ih =>
  obtain⟨h1,_,h2⟩:=h
  by_cases e:p.1=k
  ·have e':q.1=k:=h1.symm.trans e
   have b:atKey (q::qs) k=some q.2:=by simp[atKey,List.find?_cons,e']
   rw[wU e,b];exact h2
  ·have e':¬q.1=k:=λz=>e (h1.trans z)
   have b:atKey (q::qs) k=atKey qs k:=by simp[atKey,List.find?_cons,e']
   rw[wT e,b];exact ih
section
variable {P:Program} {w:World} {H:Hp} {h:Heap} {a:Addr}
end
section
variable {X:Cx} {pins:List (Addr × Obj)} {σ:St} {H:Hp} {s:Shared} {a:Addr} {y v:V} {u r:Value} {o:Option V} {A:Around} {E:Value->Shared->Prop}
end
section
variable {X:Cx} {pins:List (Addr × Obj)} {σ:St} {H:Hp} {s:Shared} {a:Addr} {kvs:List (Key × V)} {k:Key} {u:Value} {A:Around} {E:Value->Shared->Prop}
end
section
variable {X:Cx} {o i e value:Expr} {pos pos' tpos:Pos} {td ty tv:TE}
end
section
variable {X:Cx} {pos:Pos}
end
noncomputable abbrev VV:List (V × V)->List (Value × Value)->Prop:=Paired λp q=>RelV p.1 q.1/\RelV p.2 q.2
structure M1 (X:Cx) (o:Expr) (m:Str) (apos:Pos) (e:Expr) (cpos:Pos):Prop where
 base:attributeBase o m X.env (eval o X.env)=eval o X.env
 few:((backTo cpos (starEach [e] X.env)).all (λx=>!x.1) && (backToKw cpos (keywordEach [] X.env)).all (λx=>x.1.isSome)
  && decide (([e]:List Expr).length+([]:List Keyword).length+(if ([]:List Keyword).isEmpty then 0 else 1)<30))=true
 line:(apos.endLine == cpos.line)=true
 trees:backTo cpos (starEach [e] X.env)=[(false,eval e X.env)]
section
variable {X:Cx} {pins:List (Addr × Obj)} {σ:St} {H:Hp} {s:Shared} {a:Addr} {y d:V} {u r:Value} {o:Option V} {A:Around} {E:Value->Shared->Prop}
end
section
variable {X:Cx} {o e f:Expr} {apos cpos:Pos} {td ty tx:TE}
end
section
variable {X:Cx} {pins:List (Addr × Obj)} {σ:St} {H:Hp} {s:Shared} {a:Addr} {kvs:List (Key × V)} {A:Around} {E:Value->Shared->Prop}
end
section
variable {X:Cx} {pins:List (Addr × Obj)} {σ:St} {H:Hp} {s:Shared} {a:Addr} {y:V} {u:Value} {A:Around} {E:Value->Shared->Prop}
end
end L2
set_option Elab.async false
set_option linter.all false
set_option maxRecDepth 100000
namespace L2.R2
open PySem PySem.Spec PyProof.Rows L2
section
variable {X:Cx}
end
noncomputable def PR:List (Int × List D)->Int->List (Int × List D)
 | [],k=>[(k,[])]
 | (k',ds)::r,k=>if k'=k then (k',ds)::r else (k',ds)::PR r k
noncomputable def PU:List (Int × List D)->Int->D->List (Int × List D)
 | [],k,d=>[(k,[d])]
 | (k',ds)::r,k,d=>if k'=k then (k',ds++[d])::r else (k',ds)::PU r k d
section
variable {K:PySem.W.Frag} {H₀ H H':Hp} {kvs:List (Int × List D)} {kws:List (Key × V)} {as:List Addr} {k:Int}
end
section
variable {X:Cx} {e k:Expr} {pos pos' p apos cpos npos spos dpos lpos:Pos} {te tk:RE} {x:Str}
noncomputable def rDNew (i:Nat):RS:=λE ρ=>E.nx (ρ.set i (some (.dcl [])))
noncomputable def rDApp (i:Nat) (tk te:RE):RS:=λE ρ=>match ρ[i]? with
 | some (some (.dcl kvs))=>tk ρ λkd=>match kd with
  | .int k=>Sz (kvs.length+1)/\te (ρ.set i (some (.dcl (PR kvs k)))) λd=>(∀p∈kvs,Sz (p.2.length+1))/\E.nx (ρ.set i (some (.dcl (PU kvs k d))))
  | _=>False
 | _=>False
noncomputable def FC:List Int->List D->Int->Option D
 | k'::ks,d::ds,k=>if k'=k then some d else FC ks ds k
 | _,_,_=>none
noncomputable def dKey:R22:=λx y Q=>match x,y with
 | .dct ks ds,.int k=>∃d,FC ks ds k=some d/\Q d
 | _,_=>False
end
end L2.R2
set_option Elab.async false
set_option linter.all false
set_option maxRecDepth 100000
set_option maxHeartbeats 1000000
namespace L2.R2
open PySem PySem.Spec PyProof.Rows L2 PySem.W
theorem jU:∀{ns:List Int} {us:List Value},IntsAre us ns->Vals (ns.map V.int) us
 | [],[],_=>.nil
 | n::ns,u::us,h=>by
  cases h with
  | cons _ t h=>exact .cons ⟨_,rfl⟩ (jU h)
noncomputable def SA (te:RE):RA:=λρ Q=>te ρ λx=>∃ns:List Int,x = .lst (ns.map .int)/\ns.length<64/\∀ms:List Int,ms.Perm ns->ms.Pairwise (·<=·)->Q (ms.map .int)
noncomputable def SC (te:RE):RA:=λρ Q=>te ρ λx=>∃nss:List (List Int),x = .lst (nss.map dY)/\nss.length<64/\(∀ns∈nss,ns≠[])/\∀mss:List (List Int),mss.Perm nss->mss.Pairwise (λx y=>cO y x=false)->Q (mss.map dY)
noncomputable def RU (te:RE):RA:=λρ Q=>te ρ λx=>∃(ks:List Int) (ds:List D),x = .dct ks ds/\ks.length=ds.length/\Q (ks.map .int)
section
variable {X:Cx} {e:Expr} {te:RE} {p pos:Pos}
end
end L2.R2
set_option Elab.async false
set_option linter.all false
set_option maxRecDepth 100000
set_option maxHeartbeats 1000000
namespace L2.R2
open PySem PySem.Spec PyProof.Rows L2
section
variable {X:Cx} {e:Expr} {pos apos cpos npos p2 p3 p4:Pos} {te:RE} {x:Str}
noncomputable def rExtD (i:Nat) (te:RE):RS:=λE ρ=>match ρ[i]? with
 | some (some (.own xs))=>te ρ λd=>match d with
  | .lst ys=>Sz (xs.length+ys.length)/\E.nx (ρ.set i (some (.own (xs++ys))))
  | _=>False
 | _=>False
noncomputable def alt {α:Type}:List α->List α
 | []=>[]
 | [x]=>[x]
 | x::_::r=>x::alt r
noncomputable def rAlt (k:Nat) (te:RE):RA:=λρ Q=>te ρ λx=>match x with
 | .lst ds=>Q (alt (ds.drop k))
 | _=>False
end
section
variable {X:Cx} {tg:Expr}
noncomputable def riFar (t:RA):RA:=λρ Q=>t ρ λds=>match ds with
 | [.int i,.int j]=>Q (cQ i (j-i).toNat)
 | _=>False
noncomputable def dSubB:R22:=λx y Q=>match x,y with
 | .bl a,.bl b=>Q (.int ((if a then 1 else 0)-(if b then 1 else 0)))
 | _,_=>False
end
end L2.R2
set_option Elab.async false
set_option linter.all false
set_option maxRecDepth 100000
set_option maxHeartbeats 1000000
namespace HT
open PySem PyProof.Rows
section
open PySem.SeqAt
open PySem.AutoSeq1 (wpAny_loadPart')
open PySem.MeetsSeq PySem.MeetsSeq2 PySem.MeetsSeq3
end
section
variable {prog:Program} {w:World} {A:Around} {E:Value->Shared->Prop} {s:Shared}
end
end HT
namespace L2.R2
open PySem PySem.Spec PyProof.Rows L2
section
variable {prog:Program} {w:World} {A:Around} {E:Value->Shared->Prop} {s:Shared}
end
section
variable {X:Cx}
noncomputable def RB:List D->(D->Prop)->Prop:=λds Q=>∃ns ms,ds=[dY ns,dY ms]/\Q (dY (if HT.lexLt ms ns=true then ms else ns))
noncomputable def QZ:List D->(D->Prop)->Prop:=λds Q=>∃ns ms,ds=[dY ns,dY ms]/\Q (dY (if HT.lexLt ns ms=true then ms else ns))
end
section
variable {X:Cx} {pins:List (Addr × Obj)} {σ:St} {H:Hp} {s:Shared}
end
section
variable {X:Cx} {e:Expr} {t:RT}
noncomputable def lend (i:Nat) (ρ:En):En:=match ρ[i]? with
 | some (some (.own ds))=>ρ.set i (some (.d (.lst ds)))
 | _=>ρ
end
noncomputable def rSeqN (t u:RS):RS:=λE ρ=>t { nx:=u E,rt:=λ_=>False } ρ
noncomputable def rRetO (i:Nat):RS:=λE ρ=>match ρ[i]? with
 | some (some (.own xs))=>E.rt (.lst xs)
 | _=>False
section
variable {X:Cx} {st:Stmt} {rest:List Stmt} {t u:RS} {x:Str} {p pos:Pos}
end
section
variable {P:Program} {w:World} {K:PySem.W.Frag} {mg:Str->Option Value} {base:Heap}
end
noncomputable def RM (F:FD) (t:RA):RA:=λρ Q=>t ρ λds=>F ds λd=>match d with
 | .lst xs=>Q xs
 | _=>False
section
variable {X:Cx} {k:Nat} {ps:List Str} {F:FD} {x:Str} {p pos:Pos} {e:Expr} {es:List Expr} {t:RA}
end
section
variable {prog:Program} {w:World} {A:Around} {E:Value->Shared->Prop} {s:Shared}
end
section
variable {X:Cx} {tg a:Expr} {t:RA} {pos p pos2 p2:Pos}
structure RvOk (j:Int):Prop where
 lo:0<=j
 hi:j<2 ^ 62
noncomputable def SI (t:RA):RA:=λρ Q=>t ρ λds=>match ds with
 | [.int j]=>RvOk j/\Q (cQ 0 j.toNat).reverse
 | _=>False
end
noncomputable def dNeL:R22:=λx y Q=>match x,y with
 | .lst xs,.lst ys=>xs.length=ys.length/\match eqL (eqF 5) xs ys with
  | some b=>Q (.bl !b)
  | none=>False
 | _,_=>False
section
variable {X:Cx}
end
section
variable {K:PySem.W.Frag} {H₀ H:Hp}
end
section
variable {X:Cx} {e k:Expr} {pos pos' p p1 p2 apos cpos npos spos:Pos} {te tk:RE} {x:Str}
noncomputable def rBNew (i:Nat):RS:=λE ρ=>E.nx (ρ.set i (some (.box false [[],[]])))
noncomputable def rBApp (i:Nat) (tk te:RE):RS:=λE ρ=>match ρ[i]? with
 | some (some (.box false xss))=>tk ρ λkd=>match kd with
  | .int k=>∃(j:Nat) (ds:List D),(k=(j:Int)/\xss[j]? = some ds/\Sz (ds.length+1))/\te ρ λd=>E.nx (ρ.set i (some (.box false (xss.set j (ds++[d])))))
  | _=>False
 | _=>False
end
noncomputable def rRetB (i:Nat) (ta tb:RA):RS:=λE ρ=>match ρ[i]? with
 | some (some (.own xs))=>ta ρ λys=>tb ρ λzs=>E.rt (.tup [.lst xs,.lst ys,.lst zs])
 | _=>False
section
variable {X:Cx} {st:Stmt} {rest:List Stmt} {t u:RS} {x:Str} {p pos tp:Pos} {j:Nat} {e1 e2:Expr} {ta tb:RA}
end
section
variable {P:Program} {w:World} {K:PySem.W.Frag} {mg:Str->Option Value} {base:Heap}
end
noncomputable def rSetB (j:Nat) (F:FD) (t:RA):RS:=λE ρ=>t ρ λds=>F ds λd=>∃xss:List (List D),d = .tup (xss.map .lst)/\E.nx (ρ.set j (some (.box true xss)))
section
variable {X:Cx} {k j:Nat} {ps:List Str} {F:FD} {x y:Str} {p pos pos' cpos:Pos} {e:Expr} {es:List Expr} {t:RA}
end
section
variable {X:Cx} {pins:List (Addr × Obj)} {σ:St} {s:Shared}
end
section
variable {K:PySem.W.Frag} {H₀ H H':Hp}
end
noncomputable def lendB (i:Nat) (ρ:En):En:=match ρ[i]? with
 | some (some (.box true xss))=>ρ.set i (some (.d (.tup (xss.map .lst))))
 | _=>ρ
section
variable {X:Cx} {e:Expr} {t:RT}
end
section
variable {X:Cx} {ρ:En} {σ:St} {H:Hp}
end
noncomputable def rBFor (i j:Nat):RS:=λE ρ=>match ρ[i]? with
 | some (some (.box true xss))=>(j<ρ.length/\∀ds∈xss,Sz (ds.length+1))/\E.nx ((ρ.set j none).set i (some (.box true (xss.map (· ++ [.non])))))
 | _=>False
section
variable {X:Cx} {x y:Str} {pos cpos apos npos pos' xpos epos:Pos} {jn:Nat}
end
noncomputable def rGet2 (ta tk tf:RE):RE:=λρ Q=>ta ρ λx=>match x with
 | .dct ks ds=>tk ρ λy=>match y with
  | .int k=>tf ρ λz=>Q ((FC ks ds k).getD z)
  | _=>False
 | _=>False
section
variable {X:Cx} {a k f:Expr} {ta tk tf:RE} {apos cpos:Pos}
end
noncomputable def dInI:R22:=λx y Q=>match x,y with
 | .int i,.lst ds=>∃ns:List Int,ds=ns.map .int/\Q (.bl (decide (i∈ns)))
 | _,_=>False
section
variable {X:Cx}
end
section
variable {prog:Program} {w:World} {A:Around} {E:Value->Shared->Prop} {s:Shared}
end
noncomputable def rgLst (n:Nat) (g:RGs):RG:=λd ρ Q=>match d with
 | .lst ds=>ds.length=n/\g ds ρ Q
 | _=>False
section
variable {X:Cx} {pos:Pos}
end
noncomputable def dEqD:R22:=λx y Q=>match eqF 9 x y with
 | some b=>Q (.bl b)
 | none=>False
section
variable {X:Cx}
end
open PySem.W in
section
variable {K:PySem.W.Frag} {prog:Program} {w:World} {A:Around} {E:Value->Shared->Prop} {s:Shared} {x C:Addr} {o:Obj}
open PySem.W Builtin Builtin.ObjectAttr Builtin.Getset_descriptor
end
section
variable {P:Program} {w:World} {H H':Hp} {h h':Heap} {a:Addr} {u:HO}
end
structure FlyAt (P:Program) (w:World) (C:Addr) (outer:List Env) (H:Hp) (s:Shared) (a:Addr) (B:Heap) (a0:Value) (H':Hp) (s':Shared):Prop where
 os:s'.os=s.os
 bare:AllBare s'.gens
 same:Same H H'
 free:∀b o,s.heap.get? b=some o->H b=none->H' b=none
 bT:∀b u,H' b=some u->∀o,s'.heap.get? b=some o->B.get? b=some o
 bU:∀b o,s.heap.get? b=some o->H b=none->b ∉ frs outer->B.get? b=some o
 thr:∀b o,s.heap.get? b=some o->∃o',s'.heap.get? b=some o'
 fr:∀b∈frs outer,∀o,s.heap.get? b=some o->∃sl,s'.heap.get? b=some { o with slots:=sl }
 frn:∀b∈frs outer,H b=none/\∀o,s.heap.get? b=some o->∀vs,o.data≠.fields vs
 hok:HOk P w H' s'.heap
 fly:Heap.FlyingW B outer a (.ref C) a0 s'.heap
section
variable {P:Program} {w:World} {C:Addr} {outer:List Env} {H H':Hp} {s s':Shared} {a:Addr} {B:Heap} {a0:Value} {h6:Heap}
end
section
variable {X:Cx} {pins:List (Addr × Obj)} {σ:St} {H H1:Hp} {s s1:Shared} {C e:Addr} {E:XK} {EE:Value->Shared->Prop}
end
open PySem.W in
section
variable {X:Cx} {C:Addr} {x:Str} {np cpos pos:Pos} {msg:Str} {j:Nat} {p:Pos}
end
section
variable {X:Cx} {C:Addr} {k:Nat} {ps:List Str} {F:List D->Prop} {x:Str} {p pos:Pos} {e:Expr} {es:List Expr} {t:RA}
end
section
variable {X:Cx} {pins:List (Addr × Obj)} {σ:St} {H:Hp} {s:Shared}
end
section
variable {K:PySem.W.Frag}
open PySem.W in
end
section
variable {X:Cx} {C e:Addr} {oe:Obj} {b:Bool}
end
section
variable {X:Cx} {C:Addr} {k:Nat} {ps:List Str} {F:List D->Prop} {g:Str} {ea:Expr} {es:List Expr} {t:RA} {q1 q2 q3 q4 q5 q6 q7 q8 q9 q10 q11 q12 q13 q14 q15 q16 q17 q18 q19 q20 q21 q22 q23 q24 q25 q26 q27 q28 q29 q30 q31:Pos} {j1 j2 j3:Nat}
end
section
variable {P:Program} {w:World} {K:PySem.W.Frag} {mg:Str->Option Value} {base:Heap}
end
section
variable {X:Cx} {C:Addr} {c:Expr} {tc:RT} {x:Str} {np cpos pos pos2 p:Pos} {msg:Str} {j:Nat} {rest:List Stmt}
end
section
variable {prog:Program} {w:World} {A:Around} {E:Value->Shared->Prop} {h:Heap} {g:Array GenState} {d:Drawn} {t:Nat} {os:OsState}
variable {nm qn:Str} {C N:Addr} {bs bm bB:List Value} {hd:Bool} {sn:List Str} {sub:List Value} {ab:Bool} {col:Option Bool} {dd:Option Addr} {k0 k1 k2 k3 k5:Option Value} {B nI iI:String}
end
section
variable {K:PySem.W.Frag} {prog:Program} {w:World} {A:Around} {E:Value->Shared->Prop} {s:Shared} {e C:Addr} {oe:Obj} {x:Str} {v:Value}
open PySem.W Builtin Builtin.ObjectAttr
end
section
variable {prog:Program} {w:World} {A:Around} {E:Value->Shared->Prop} {h:Heap} {g:Array GenState} {d:Drawn} {t:Nat} {os:OsState}
variable {nm qn:Str} {C N:Addr} {bs bm:List Value} {hd:Bool} {sn:List Str} {sub:List Value} {ab:Bool} {col:Option Bool} {dd:Option Addr} {k0 k1 k2 k3 k5:Option Value} {nI:String}
end
noncomputable def Kd (e:Addr) (d:Option Addr) (h:Heap):Prop:=e<h.objs.size/\∀o,h.get? e=some o->o.dict=d
open PySem.W in
open PySem.W in
open PySem.W in
section
variable {P:Program} {w:World} {H:Hp} {h:Heap} {C e dx:Addr}
end
section
variable {X:Cx} {C Cb f:Addr} {x y self:Str} {p p0 p1 p2 apos pos pos':Pos} {msg:Str} {j i:Nat}
end
section
variable {X:Cx} {C Cb f:Addr} {y x:Str} {k:Nat} {p pos:Pos} {a:Expr} {ta:TE}
end
noncomputable def CXD (P:Program) (w:World) (C:Addr):CXT:=λouter H s E e s'=>∃a B a0 H' dx,e = .ref a/\FlyAt P w C outer H s a B a0 H' s'/\(Kd a (some dx) s'.heap/\H dx=none)/\E (.ref C) (some dx) H'
section
variable {X:Cx} {pins:List (Addr × Obj)} {σ:St} {H H1:Hp} {s s1:Shared} {C e dx:Addr} {E:XK} {EE:Value->Shared->Prop}
end
section
variable {M:Model} {A:Around} {E:Value->Shared->Prop} {env:Env} {nm q:Str} {C N:Addr} {bs bm:List Value} {hd:Bool} {sn:List Str} {sub:List Value} {ab:Bool} {col:Option Bool} {dd:Option Addr} {k0 k1 k2 k3 k5:Option Value} {nI:String}
end
theorem CXD.mono {P:Program} {w:World} {C:Addr} {outer:List Env} {H:Hp} {s s':Shared} {E E':XK} {v:Value} (h:CXD P w C outer H s E v s') (k:∀u d H',E u d H'->E' u d H'):CXD P w C outer H s E' v s':=by
 obtain⟨a,B,a0,H',dx,e1,F,kd,hE⟩:=h
 exact⟨a,B,a0,H',dx,e1,F,kd,k _ _ _ hE⟩
noncomputable def RX (PP:Int->Prop) (te:RE):RS:=λ_ ρ=>te ρ λd=>match d with
 | .int c=>PP c
 | _=>False
section
variable {X:Cx} {C Cb f:Addr} {y x:Str} {k:Nat} {p np cpos pos:Pos} {a:Expr} {te:RE} {PP:Int->Prop}
end
noncomputable abbrev FDX:=List D->(D->Prop)->(Int->Prop)->Prop
section
variable {P:Program} {w:World} {K:PySem.W.Frag} {mg:Str->Option Value} {base:Heap} {C:Addr} {y x:Str} {ps:List Str} {k:Nat}
end
noncomputable def RN (F:FDX) (PP:Int->Prop) (t:RA):RE:=λρ Q=>t ρ λds=>F ds Q PP
section
variable {X:Cx} {C:Addr} {y x:Str} {k:Nat} {ps:List Str} {F:FDX} {PP:Int->Prop} {p pos:Pos} {e:Expr} {es:List Expr} {t:RA}
end
section
variable {X:Cx} {pins:List (Addr × Obj)} {σ:St} {H:Hp} {s:Shared} {a:Addr} {φ:Heap->Prop}
end
section
variable {X:Cx} {C:Addr} {y:Str} {k:Nat} {ps:List Str} {F:FDX} {PP:Int->Prop} {x:Str} {p pos:Pos} {e:Expr} {es:List Expr} {t:RA}
end
section
variable {X:Cx} {C:Addr} {k:Nat} {ps:List Str} {F:FDX} {g y vn:Str} {ea:Expr} {es:List Expr} {t:RA} {q1 q2 q3 q4 q5 q6 q7 q8 q9 q10 q11 q12 q13 q14:Pos} {j1:Nat}
end
noncomputable abbrev FDE:=List D->(Int->Prop)->Prop
noncomputable def rSetE (j:Nat) (F:FDE) (C:Addr) (y:Str) (t:RA):RS:=λE ρ=>t ρ λds=>∃PP,F ds PP/\∀c,PP c->E.nx (ρ.set j (some (.exc C y c)))
noncomputable def rIsiE (i:Nat) (C:Addr) (b:Bool):RE:=λρ Q=>match ρ[i]? with
 | some (some (.exc C' _ _))=>C'=C/\Q (.bl b)
 | _=>False
noncomputable def rColE (i:Nat) (C:Addr) (y:Str):RE:=λρ Q=>match ρ[i]? with
 | some (some (.exc C' y' c))=>(C'=C/\y'=y)/\Q (.int c)
 | _=>False
noncomputable def rColN (te:RE):RE:=λρ Q=>te ρ λd=>match d with
 | .int c=>Q (.int c)
 | _=>False
section
variable {X:Cx} {k j i:Nat} {ps:List Str} {F:FDE} {x y z:Str} {p p1 p2 p3 p4 pos pos' cpos:Pos} {e:Expr} {es:List Expr} {t:RA} {C:Addr} {b:Bool}
end
section
variable {X:Cx} {k i:Nat} {x y:Str} {p p1 pos cpos:Pos} {a:Expr} {te:RE} {C Cb f:Addr}
end
end L2.R2
set_option Elab.async false
set_option linter.all false
set_option maxRecDepth 100000
set_option maxHeartbeats 1000000
namespace L2.R2
open PySem PySem.W PyProof.Rows
noncomputable def cM:Bool->Keyed->Array Keyed->Nat->Nat->Nat->StateT SortSt Sem (Option Nat):=sortPriv% PySem.Builtin.gallop
noncomputable def mB:Array Keyed->Array Keyed->StateT SortSt Sem (Array Keyed):=sortPriv% PySem.Builtin.mergeLo
noncomputable def lZ:Array Keyed->Array Keyed->StateT SortSt Sem (Array Keyed):=sortPriv% PySem.Builtin.mergeHi
noncomputable def lH:Nat->StateT SortSt Sem Unit:=sortPriv% PySem.Builtin.setMinGallop
theorem LQ (left:Bool) (key:Keyed) (arr:Array Keyed) (base n hint:Nat):cM left key arr base n hint=(do
 let beyond (i:Nat):StateT SortSt Sem (Option Bool):=do
  let x <-elem' arr (base+i)
  if left then lt' x key else return (<-lt' key x).map (!·)
 let mut lastofs:=0
 let mut ofs:=1
 let mut lo:=0
 let mut hi:=0
 let some right <-beyond hint | return none
 if right then
  let maxofs:=n-hint
  for _ in [0:n] do
   if ofs ≥ maxofs then break
   let some more <-beyond (hint+ofs) | return none
   if !more then break
   lastofs:=ofs
   ofs:=2*ofs+1
  lo:=hint+lastofs+1
  hi:=hint+min ofs maxofs
 else
  let maxofs:=hint+1
  for _ in [0:n] do
   if ofs ≥ maxofs then break
   let some found <-beyond (hint-ofs) | return none
   if found then break
   lastofs:=ofs
   ofs:=2*ofs+1
  lo:=hint+1-min ofs maxofs
  hi:=hint-lastofs
 for _ in [0:n] do
  if lo ≥ hi then break
  let m:=lo+(hi-lo) / 2
  let some more <-beyond m | return none
  if more then lo:=m+1 else hi:=m
 return some hi):=rfl
theorem mN (g:Nat):lH g=modify (λs=>SortSt.mk' (kindOf s) (arrOf s) (pendingOf s) g (failedOf s)):=rfl
section
variable {prog:Program} {w:World} {A:Around} {E:Value->Shared->Prop} {s:Shared} {κ:SortKind} {O:KeyOrd} {k:Keyed->O.α} {G:Keyed->Prop}
noncomputable def Cmp (prog:Program) (w:World) (A:Around) (E:Value->Shared->Prop) (s:Shared) (κ:SortKind) (O:KeyOrd) (k:Keyed->O.α) (G:Keyed->Prop):Prop :=
 ∀(x y:Keyed) (st:SortSt) (Q:Option Bool->SortSt->Prop),G x->G y->kindOf st=κ->Q (some (O.blt (k x) (k y))) st->wpS (model prog w) A E s (lt' x y) Q st
noncomputable def at' (a:Array Keyed) (i:Nat):Keyed:=a.getD i (Value.none,Value.none)
theorem bK {a:Array Keyed} {i:Nat} {Q:Keyed->SortSt->Prop} {st:SortSt} (hi:i<a.size) (h:Q (at' a i) st):wpS (model prog w) A E s (elem' a i) Q st:=by
 rw[elem'_eq]
 have e:a[i]? = some (at' a i):=by simp[at',Array.getD,hi]
 rw[e]
 exact wpS_pure h
theorem DJ (C:Cmp prog w A E s κ O k G) {left:Bool} {key:Keyed} {arr:Array Keyed} {base i:Nat} {Q:Option Bool->SortSt->Prop} {st:SortSt} (hi:base+i<arr.size) (g1:G key) (g2:G (at' arr (base+i))) (hk:kindOf st=κ)
  (h:Q (some (if left then O.blt (k (at' arr (base+i))) (k key) else !O.blt (k key) (k (at' arr (base+i))))) st) :
  wpS (model prog w) A E s (do let x <-elem' arr (base+i);if left then lt' x key else return (<-lt' key x).map (!·)) Q st:=by
 refine wpS_bind (bK hi ?_)
 cases left with
 | true=>exact C _ _ _ _ g2 g1 hk h
 | false=>exact wpS_bind (C _ _ _ _ g1 g2 hk (wpS_pure h))
noncomputable def OL (left:Bool) (key:Keyed) (arr:Array Keyed) (base n lo0 hi0:Nat):StateT SortSt Sem (Option Nat):=do
 let beyond (i:Nat):StateT SortSt Sem (Option Bool):=do
  let x <-elem' arr (base+i)
  if left then lt' x key else return (<-lt' key x).map (!·)
 let mut lo:=lo0
 let mut hi:=hi0
 for _ in [0:n] do
  if lo ≥ hi then break
  let m:=lo+(hi-lo) / 2
  let some more <-beyond m | return none
  if more then lo:=m+1 else hi:=m
 return some hi
section
variable {left:Bool} {key:Keyed} {arr:Array Keyed} {base n:Nat} {bey:Nat->Bool} {Q:Option Nat->SortSt->Prop} {st:SortSt}
theorem AV (bb:∀(i:Nat) (R:Option Bool->SortSt->Prop),i<n->R (some (bey i)) st->wpS (model prog w) A E s (do let x <-elem' arr (base+i);if left then lt' x key else return (<-lt' key x).map (!·)) R st)
  (mono:∀i j,i<=j->j<n->bey j=true->bey i=true) (h:∀m,m<=n->(∀i,i<m->bey i=true)->(∀i,m<=i->i<n->bey i=false)->Q (some m) st)
  {lo hi:Nat} (h1:lo<=hi) (h2:hi<=n) (h3:∀i,i<lo->bey i=true) (h4:∀i,hi<=i->i<n->bey i=false):wpS (model prog w) A E s (OL left key arr base n lo hi) Q st:=by
 unfold OL
 dsimp only
 refine wpS_bind (wpS_mono (wpS_forRange (I:=λx c st'=>st'=st/\∃l r,c=(none,l,r)/\l<=r/\r<=n/\r-l<=n-x/\(∀i,i<l->bey i=true)/\∀i,r<=i->i<n->bey i=false)
  (Q:=λc st'=>st'=st/\∃l r,c=(none,l,r)/\r<=n/\(∀i,i<r->bey i=true)/\∀i,r<=i->i<n->bey i=false) ?step ?fin ⟨rfl,lo,hi,rfl,h1,h2,by omega,h3,h4⟩) ?post)
 case fin =>
  rintro c st' ⟨rfl,l,r,rfl,a1,a2,a3,a4,a5⟩
  have:l=r:=by omega
  subst this
  exact⟨rfl,l,l,rfl,a2,a4,a5⟩
 case post =>
  rintro c st' ⟨rfl,l,r,rfl,a2,a4,a5⟩
  exact wpS_pure (h r a2 a4 a5)
 case step =>
  rintro x c st' _ hx ⟨rfl,l,r,rfl,a1,a2,a3,a4,a5⟩
  dsimp only
  by_cases hg:l ≥ r
  ·have:l=r:=by omega
   subst this
   rw[if_pos hg]
   exact wpS_pure ⟨rfl,l,l,rfl,a2,a4,a5⟩
  ·rw[if_neg hg]
   refine wpS_bind (bb _ _ (by omega) ?_)
   dsimp only
   cases hm:bey (l+(r-l) / 2) with
   | true =>
    rw[if_pos rfl]
    exact wpS_pure ⟨rfl,_,_,rfl,by omega,a2,by omega,λi hi=>mono i _ (by omega) (by omega) hm,a5⟩
   | false =>
    rw[if_neg Bool.false_ne_true]
    refine wpS_pure ⟨rfl,_,_,rfl,by omega,by omega,by omega,a4,λi hi hn=>?_⟩
    cases hb:bey i with
    | false=>rfl
    | true=>rw[mono _ i hi hn hb] at hm;cases hm
end
theorem fC (C:Cmp prog w A E s κ O k G) {left:Bool} {key:Keyed} {arr:Array Keyed} {base n hint:Nat} {Q:Option Nat->SortSt->Prop} {st:SortSt} {bey:Nat->Bool} (hz:base+n<=arr.size) (hh:hint<n) (g1:G key) (g2:∀i,i<arr.size->G (at' arr i)) (hk:kindOf st=κ)
  (hb:∀i,i<n->(if left then O.blt (k (at' arr (base+i))) (k key) else !O.blt (k key) (k (at' arr (base+i))))=bey i) (mono:∀i j,i<=j->j<n->bey j=true->bey i=true)
  (h:∀m,m<=n->(∀i,i<m->bey i=true)->(∀i,m<=i->i<n->bey i=false)->Q (some m) st):wpS (model prog w) A E s (cM left key arr base n hint) Q st:=by
 rw[LQ]
 dsimp only
 have bb:∀(i:Nat) (R:Option Bool->SortSt->Prop),i<n->R (some (bey i)) st->wpS (model prog w) A E s (do let x <-elem' arr (base+i);if left then lt' x key else return (<-lt' key x).map (!·)) R st:=λi R hi hr =>
  DJ C (by omega) g1 (g2 _ (by omega)) hk (by rw[hb i hi];exact hr)
 have fls:∀{i j:Nat},i<=j->j<n->bey i=false->bey j=false:=λ{i j} h1 h2 e=>by
  cases q:bey j with
  | false=>rfl
  | true=>rw[mono i j h1 h2 q] at e;cases e
 refine wpS_bind (bb hint _ hh ?_)
 dsimp only
 cases hm:bey hint with
 | true =>
  rw[if_pos rfl]
  refine wpS_bind (wpS_mono (wpS_forRange (I:=λx c st'=>st'=st/\∃l o,c=(none,l,o)/\l<o/\x<o/\hint+l<n/\bey (hint+l)=true)
   (Q:=λc st'=>st'=st/\∃l o,c=(none,l,o)/\l<o/\hint+l<n/\bey (hint+l)=true/\(n-hint<=o\/bey (hint+o)=false)) ?step ?fin ⟨rfl,0,1,rfl,by omega,by omega,by omega,hm⟩) ?post)
  case fin =>
   rintro c st' ⟨rfl,l,o,rfl,a1,a2,a3,a4⟩
   exact⟨rfl,l,o,rfl,a1,a3,a4,.inl (by omega)⟩
  case post =>
   rintro c st' ⟨rfl,l,o,rfl,a1,a3,a4,a5⟩
   refine AV bb mono h (lo:=hint+l+1) (hi:=hint+min o (n-hint)) (by omega) (by omega) (λi hi=>mono i _ (by omega) a3 a4) (λi hi hn=>?_)
   rcases a5 with a5 | a5
   ·exact absurd hn (by omega)
   ·by_cases ho:o<n-hint
    ·exact fls (i:=hint+o) (by omega) hn a5
    ·exact absurd hn (by omega)
  case step =>
   rintro x c st' _ hx ⟨rfl,l,o,rfl,a1,a2,a3,a4⟩
   dsimp only
   by_cases hg:o ≥ n-hint
   ·rw[if_pos hg]
    exact wpS_pure ⟨rfl,l,o,rfl,a1,a3,a4,.inl hg⟩
   ·rw[if_neg hg]
    refine wpS_bind (bb _ _ (by omega) ?_)
    dsimp only
    cases hq:bey (hint+o) with
    | true =>
     rw[if_neg (by simp)]
     exact wpS_pure ⟨rfl,_,_,rfl,by omega,by omega,by omega,hq⟩
    | false =>
     rw[if_pos (by simp)]
     exact wpS_pure ⟨rfl,l,o,rfl,a1,a3,a4,.inr hq⟩
 | false =>
  rw[if_neg Bool.false_ne_true]
  refine wpS_bind (wpS_mono (wpS_forRange (I:=λx c st'=>st'=st/\∃l o,c=(none,l,o)/\l<o/\x<o/\l<=hint/\bey (hint-l)=false)
   (Q:=λc st'=>st'=st/\∃l o,c=(none,l,o)/\l<o/\l<=hint/\bey (hint-l)=false/\(hint+1<=o\/bey (hint-o)=true)) ?step ?fin ⟨rfl,0,1,rfl,by omega,by omega,by omega,hm⟩) ?post)
  case fin =>
   rintro c st' ⟨rfl,l,o,rfl,a1,a2,a3,a4⟩
   exact⟨rfl,l,o,rfl,a1,a3,a4,.inl (by omega)⟩
  case post =>
   rintro c st' ⟨rfl,l,o,rfl,a1,a3,a4,a5⟩
   refine AV bb mono h (lo:=hint+1-min o (hint+1)) (hi:=hint-l) (by omega) (by omega) (λi hi=>?_) (λi hi hn=>fls hi hn a4)
   rcases a5 with a5 | a5
   ·exact absurd hi (by omega)
   ·by_cases ho:o<hint+1
    ·exact mono i _ (by omega) (by omega) a5
    ·exact absurd hi (by omega)
  case step =>
   rintro x c st' _ hx ⟨rfl,l,o,rfl,a1,a2,a3,a4⟩
   dsimp only
   by_cases hg:o ≥ hint+1
   ·rw[if_pos hg]
    exact wpS_pure ⟨rfl,l,o,rfl,a1,a3,a4,.inl hg⟩
   ·rw[if_neg hg]
    refine wpS_bind (bb _ _ (by omega) ?_)
    dsimp only
    cases hq:bey (hint-o) with
    | true =>
     rw[if_pos rfl]
     exact wpS_pure ⟨rfl,l,o,rfl,a1,a3,a4,.inr hq⟩
    | false =>
     rw[if_neg Bool.false_ne_true]
     exact wpS_pure ⟨rfl,_,_,rfl,by omega,by omega,by omega,hq⟩
end
structure Mg {α:Type} (R:α->α->Prop) (al bl out A B:List α):Prop where
 perm:(out++(A++B)).Perm (al++bl)
 srt:out.Pairwise R
 sa:A.Pairwise R
 sb:B.Pairwise R
 lo:∀x∈out,∀y,y∈A\/y∈B->R x y
section
variable {α:Type} {R:α->α->Prop} {al bl out A A1 A2 B B1 B2:List α}
theorem Mg.swap (m:Mg R al bl out A B):Mg R bl al out B A :=
 ⟨((List.Perm.append_left _ List.perm_append_comm).trans m.perm).trans List.perm_append_comm,m.srt,m.sb,m.sa,λx hx y hy=>m.lo x hx y hy.symm⟩
theorem Mg.mvA (m:Mg R al bl out (A1++A2) B) (h:∀x∈A1,∀y∈B,R x y):Mg R al bl (out++A1) A2 B:=by
 obtain⟨s1,s2,s3⟩:=List.pairwise_append.mp m.sa
 refine⟨by have:=m.perm;simpa [List.append_assoc] using this,List.pairwise_append.mpr ⟨m.srt,s1,λx hx y hy=>m.lo x hx y (.inl (List.mem_append_left _ hy))⟩,s2,m.sb,λx hx y hy=>?_⟩
 rcases List.mem_append.mp hx with hx | hx
 ·exact m.lo x hx y (hy.imp_left λz=>List.mem_append_right _ z)
 ·exact hy.elim (s3 x hx y) (h x hx y)
theorem Mg.fin (m:Mg R al bl out A B) (h:∀x∈A,∀y∈B,R x y):(out++A++B).Perm (al++bl)/\(out++A++B).Pairwise R:=by
 refine⟨by rw[List.append_assoc];exact m.perm,List.pairwise_append.mpr ⟨List.pairwise_append.mpr ⟨m.srt,m.sa,λx hx y hy=>m.lo x hx y (.inl hy)⟩,m.sb,λx hx y hy=>?_⟩⟩
 rcases List.mem_append.mp hx with hx | hx
 ·exact m.lo x hx y (.inr hy)
 ·exact h x hx y hy
theorem Mg.fin2 (m:Mg R al bl out A B) (h:∀x∈B,∀y∈A,R x y):(out++B++A).Perm (al++bl)/\(out++B++A).Pairwise R:=by
 obtain⟨h1,h2⟩:=m.swap.fin h
 exact⟨h1.trans List.perm_append_comm,h2⟩
end
theorem MK (a b:Array Keyed):mB a b=(do
 rule "list.sort.merge-lo"
 let total:=a.size+b.size
 let done (out:Array Keyed) (ia ib:Nat):=out++a.extract ia a.size++b.extract ib b.size
 let lastOfA (out:Array Keyed) (ia ib:Nat):=out++b.extract ib b.size++a.extract ia a.size
 let mut out:Array Keyed:=#[<-elem' b 0]
 let mut ia:=0
 let mut ib:=1
 if ib == b.size then return done out ia ib
 if ia+1 == a.size then return lastOfA out ia ib
 let mut minGallop:=gallopOf (<-get)
 for _ in [0:total] do
  let mut acount:=0
  let mut bcount:=0
  for _ in [0:total] do
   let some bWins <-lt' (<-elem' b ib) (<-elem' a ia) | return done out ia ib
   if bWins then
    out:=out.push (<-elem' b ib);ib:=ib+1;bcount:=bcount+1;acount:=0
    if ib == b.size then return done out ia ib
    if bcount ≥ minGallop then break
   else
    out:=out.push (<-elem' a ia);ia:=ia+1;acount:=acount+1;bcount:=0
    if ia+1 == a.size then return lastOfA out ia ib
    if acount ≥ minGallop then break
  rule "list.sort.gallop"
  minGallop:=minGallop+1
  for _ in [0:total] do
   if minGallop > 1 then minGallop:=minGallop-1
   lH minGallop
   let some k <-cM false (<-elem' b ib) a ia (a.size-ia) 0 | return done out ia ib
   acount:=k
   if k > 0 then
    out:=out++a.extract ia (ia+k);ia:=ia+k
    if ia+1 == a.size then return lastOfA out ia ib
    if ia == a.size then return done out ia ib
   out:=out.push (<-elem' b ib);ib:=ib+1
   if ib == b.size then return done out ia ib
   let some k <-cM true (<-elem' a ia) b ib (b.size-ib) 0 | return done out ia ib
   bcount:=k
   if k > 0 then
    out:=out++b.extract ib (ib+k);ib:=ib+k
    if ib == b.size then return done out ia ib
   out:=out.push (<-elem' a ia);ia:=ia+1
   if ia+1 == a.size then return lastOfA out ia ib
   if acount<7 && bcount<7 then break
  minGallop:=minGallop+1
  lH minGallop
 unsupported "internal:list.sort.merge-bound"):=rfl
theorem CL {x:Bool} (h:(!x)=true):x=false:=by simpa using h
theorem MM {x:Bool} (h:(!x)=false):x=true:=by simpa using h
theorem OB {x:Bool} (h:x=false):(!x)=true:=by simpa using h
noncomputable abbrev DU:=Option (Array Keyed) × Array Keyed × Nat × Nat × Nat × Nat × Nat
noncomputable def IV (a b out:Array Keyed) (ia ib mg ac bc:Nat):StateT SortSt Sem (ForInStep DU):=do
 let x <-elem' a ia
 if (ia+1+1 == a.size)=true then pure (.done (some (out.push x++b.extract ib b.size++a.extract (ia+1) a.size),out.push x,ia+1,ib,mg,ac,bc))
 else if (decide (ac<7) && decide (bc<7))=true then pure (.done (none,out.push x,ia+1,ib,mg,ac,bc))
 else pure (.yield (none,out.push x,ia+1,ib,mg,ac,bc))
noncomputable def IU (a b out:Array Keyed) (ia ib mg ac bc:Nat):StateT SortSt Sem (ForInStep DU):=do
 let x <-elem' b ib
 if (ib+1 == b.size)=true then pure (.done (some (out.push x++a.extract ia a.size++b.extract (ib+1) b.size),out.push x,ia,ib+1,mg,ac,bc))
 else do
  let y <-elem' a ia
  let r <-cM true y b (ib+1) (b.size-(ib+1)) 0
  match r with
  | some k1 =>
   if k1 > 0 then
    if (ib+1+k1 == b.size)=true then pure (.done (some (out.push x++b.extract (ib+1) (ib+1+k1)++a.extract ia a.size++b.extract (ib+1+k1) b.size),out.push x++b.extract (ib+1) (ib+1+k1),ia,ib+1+k1,mg,ac,k1))
    else IV a b (out.push x++b.extract (ib+1) (ib+1+k1)) ia (ib+1+k1) mg ac k1
   else IV a b (out.push x) ia (ib+1) mg ac k1
  | _=>pure (.done (some (out.push x++a.extract ia a.size++b.extract (ib+1) b.size),out.push x,ia,ib+1,mg,ac,bc))
noncomputable def loR (a b out:Array Keyed) (ia ib mg ac bc:Nat):StateT SortSt Sem (ForInStep DU):=do
 lH mg
 let x <-elem' b ib
 let r <-cM false x a ia (a.size-ia) 0
 match r with
 | some k0 =>
  if k0 > 0 then
   if (ia+k0+1 == a.size)=true then pure (.done (some (out++a.extract ia (ia+k0)++b.extract ib b.size++a.extract (ia+k0) a.size),out++a.extract ia (ia+k0),ia+k0,ib,mg,k0,bc))
   else if (ia+k0 == a.size)=true then pure (.done (some (out++a.extract ia (ia+k0)++a.extract (ia+k0) a.size++b.extract ib b.size),out++a.extract ia (ia+k0),ia+k0,ib,mg,k0,bc))
   else IU a b (out++a.extract ia (ia+k0)) (ia+k0) ib mg k0 bc
  else IU a b out ia ib mg k0 bc
 | _=>pure (.done (some (out++a.extract ia a.size++b.extract ib b.size),out,ia,ib,mg,ac,bc))
section
variable {prog:Program} {w:World} {A:Around} {E:Value->Shared->Prop} {s:Shared} {κ:SortKind} {O:KeyOrd} {k:Keyed->O.α} {G:Keyed->Prop}
noncomputable abbrev Le (O:KeyOrd) (k:Keyed->O.α) (x y:Keyed):Prop:=O.kle (k x) (k y)
theorem IB {a:Array Keyed} {i:Nat} (h:i<a.size):a.toList.drop i=at' a i::a.toList.drop (i+1):=by
 rw[List.drop_eq_getElem_cons (by simpa using h)]
 simp[at',Array.getD,h]
theorem iX {a:Array Keyed} {i:Nat} {y:Keyed} (h:y∈a.toList.drop i):∃j,i<=j/\j<a.size/\y=at' a j:=by
 obtain⟨j,hj,e⟩:=List.getElem_of_mem h
 rw[List.length_drop,Array.length_toList] at hj
 refine⟨i+j,by omega,by omega,?_⟩
 rw[<-e]
 have:i+j<a.size:=by omega
 simp[at',Array.getD,this]
theorem gC (a:Array Keyed) (i j:Nat):(a.extract i j).toList=(a.toList.drop i).take (j-i):=by
 simp[List.extract_eq_take_drop]
theorem oW (a:Array Keyed) (i:Nat):(a.extract i a.size).toList=a.toList.drop i:=by
 rw[gC,List.take_of_length_le (by simp)]
theorem oX {a:Array Keyed} {i j:Nat} {y:Keyed} (h:y∈(a.toList.drop i).take j):∃m,i<=m/\m<i+j/\m<a.size/\y=at' a m:=by
 obtain⟨m,hm,e⟩:=List.getElem_of_mem h
 rw[List.length_take,List.length_drop,Array.length_toList] at hm
 refine⟨i+m,by omega,by omega,by omega,?_⟩
 rw[<-e]
 have:i+m<a.size:=by omega
 simp[at',Array.getD,this]
noncomputable def Srt (O:KeyOrd) (k:Keyed->O.α) (a:Array Keyed):Prop:=∀i j,i<=j->j<a.size->Le O k (at' a i) (at' a j)
theorem Srt.list {a:Array Keyed} (h:Srt O k a):a.toList.Pairwise (Le O k):=by
 rw[List.pairwise_iff_getElem]
 intro i j hi hj hij
 have h1:i<a.size:=by simpa using hi
 have h2:j<a.size:=by simpa using hj
 have:=h i j (by omega) h2
 simpa [at',Array.getD,h1,h2] using this
noncomputable abbrev Gone (O:KeyOrd) (k:Keyed->O.α) (a b out:Array Keyed) (ia ib:Nat):Prop:=Mg (Le O k) a.toList b.toList out.toList (a.toList.drop ia) (b.toList.drop ib)
noncomputable def cG (O:KeyOrd) (k:Keyed->O.α) (a b r:Array Keyed):Prop:=r.toList.Perm (a.toList++b.toList)/\r.toList.Pairwise (Le O k)
section
variable {a b out:Array Keyed} {ia ib m:Nat}
theorem Gone.pushA (g:Gone O k a b out ia ib) (h:ia<a.size) (c:∀j,ib<=j->j<b.size->Le O k (at' a ia) (at' b j)):Gone O k a b (out.push (at' a ia)) (ia+1) ib:=by
 have g':Mg (Le O k) a.toList b.toList out.toList ([at' a ia]++a.toList.drop (ia+1)) (b.toList.drop ib):=by rw[List.singleton_append,<-IB h];exact g
 have:=g'.mvA λx hx y hy=>by
  rw[List.mem_singleton.mp hx]
  obtain⟨j,h1,h2,rfl⟩:=iX hy
  exact c j h1 h2
 simpa [Gone] using this
theorem Gone.pushB (g:Gone O k a b out ia ib) (h:ib<b.size) (c:∀j,ia<=j->j<a.size->Le O k (at' b ib) (at' a j)):Gone O k a b (out.push (at' b ib)) ia (ib+1):=(Gone.pushA g.swap h c).swap
theorem Gone.extA (g:Gone O k a b out ia ib) (h:ia+m<=a.size) (c:∀i j,ia<=i->i<ia+m->ib<=j->j<b.size->Le O k (at' a i) (at' b j)):Gone O k a b (out++a.extract ia (ia+m)) (ia+m) ib:=by
 have g':Mg (Le O k) a.toList b.toList out.toList ((a.toList.drop ia).take m++a.toList.drop (ia+m)) (b.toList.drop ib):=by
  rw[show a.toList.drop (ia+m)=(a.toList.drop ia).drop m by rw[List.drop_drop],List.take_append_drop];exact g
 have:=g'.mvA λx hx y hy=>by
  obtain⟨i,h1,h2,_,rfl⟩:=oX hx
  obtain⟨j,h3,h4,rfl⟩:=iX hy
  exact c i j h1 h2 h3 h4
 show Mg _ _ _ (out++a.extract ia (ia+m)).toList _ _
 rw[Array.toList_append,gC,show ia+m-ia=m by omega]
 exact this
theorem Gone.extB (g:Gone O k a b out ia ib) (h:ib+m<=b.size) (c:∀i j,ib<=i->i<ib+m->ia<=j->j<a.size->Le O k (at' b i) (at' a j)):Gone O k a b (out++b.extract ib (ib+m)) ia (ib+m):=(Gone.extA g.swap h c).swap
theorem Gone.full (g:Gone O k a b out ia ib) (h:ia=a.size\/ib=b.size):cG O k a b (out++a.extract ia a.size++b.extract ib b.size):=by
 unfold cG
 rw[Array.toList_append,Array.toList_append,oW,oW]
 refine g.fin λx hx y hy=>?_
 rcases h with rfl | rfl
 ·rw[List.drop_of_length_le (by simp)] at hx;cases hx
 ·rw[List.drop_of_length_le (by simp)] at hy;cases hy
theorem Gone.fullA (g:Gone O k a b out ia ib) (h:ia+1=a.size) (c:∀j,j<b.size->Le O k (at' b j) (at' a (a.size-1))):cG O k a b (out++b.extract ib b.size++a.extract ia a.size):=by
 unfold cG
 rw[Array.toList_append,Array.toList_append,oW,oW]
 refine g.fin2 λx hx y hy=>?_
 obtain⟨i,h1,h2,rfl⟩:=iX hx
 obtain⟨j,h3,h4,rfl⟩:=iX hy
 rw[show j=a.size-1 by omega]
 exact c i h2
end
noncomputable abbrev StI (κ:SortKind) (F:Option Value) (P:Array (Nat × Nat × Nat)) (X:Array Keyed) (st:SortSt):Prop:=kindOf st=κ/\failedOf st=F/\pendingOf st=P/\arrOf st=X
noncomputable def lQ (O:KeyOrd) (k:Keyed->O.α) (a b:Array Keyed) (n0:Nat) (c:DU):Prop:=∃out ia ib mg ac bc,c=(none,out,ia,ib,mg,ac,bc)/\Gone O k a b out ia ib/\ia+1<a.size/\ib<b.size/\n0<ia+ib
noncomputable def DR (O:KeyOrd) (k:Keyed->O.α) (κ:SortKind) (F:Option Value) (P:Array (Nat × Nat × Nat)) (X:Array Keyed) (a b:Array Keyed) (n0:Nat) (r:ForInStep DU) (st:SortSt):Prop :=
 StI κ F P X st/\match r with
 | .done c=>(∃r,c.1=some r/\cG O k a b r)\/lQ O k a b n0 c
 | .yield c=>lQ O k a b n0 c
section
variable {a b out:Array Keyed} {ia ib mg ac bc n0:Nat} {st:SortSt} {F:Option Value} {P:Array (Nat × Nat × Nat)} {X:Array Keyed}
theorem AZ (hI:StI κ F P X st) (hA:Srt O k a) (hAB:∀j,j<b.size->Le O k (at' b j) (at' a (a.size-1))) (g:Gone O k a b out ia ib) (h1:ia+1<a.size) (h2:ib<b.size) (hn:n0<=ia+ib)
  (c:∀j,ib<=j->j<b.size->Le O k (at' a ia) (at' b j)):wpS (model prog w) A E s (IV a b out ia ib mg ac bc) (DR O k κ F P X a b n0) st:=by
 unfold IV
 refine wpS_bind (bK (by omega) ?_)
 have g2:=g.pushA (by omega) c
 by_cases e:ia+1+1=a.size
 ·rw[if_pos (by simpa using e)]
  exact wpS_pure ⟨hI,.inl ⟨_,rfl,g2.fullA e hAB⟩⟩
 ·rw[if_neg (by simpa using e)]
  have le:lQ O k a b n0 (none,out.push (at' a ia),ia+1,ib,mg,ac,bc):=⟨_,_,_,_,_,_,rfl,g2,by omega,h2,by omega⟩
  split
  ·exact wpS_pure ⟨hI,.inr le⟩
  ·exact wpS_pure ⟨hI,le⟩
theorem AY (C:Cmp prog w A E s κ O k G) (ga:∀i,i<a.size->G (at' a i)) (gb:∀i,i<b.size->G (at' b i)) (hI:StI κ F P X st) (hA:Srt O k a) (hB:Srt O k b) (hAB:∀j,j<b.size->Le O k (at' b j) (at' a (a.size-1))) (g:Gone O k a b out ia ib) (h1:ia+1<a.size) (h2:ib<b.size) (hn:n0<=ia+ib)
  (c:∀j,ia<=j->j<a.size->Le O k (at' b ib) (at' a j)):wpS (model prog w) A E s (IU a b out ia ib mg ac bc) (DR O k κ F P X a b n0) st:=by
 unfold IU
 refine wpS_bind (bK h2 ?_)
 have g2:=g.pushB h2 c
 by_cases e:ib+1=b.size
 ·rw[if_pos (by simpa using e)]
  exact wpS_pure ⟨hI,.inl ⟨_,rfl,g2.full (.inr e)⟩⟩
 ·rw[if_neg (by simpa using e)]
  refine wpS_bind (bK (by omega) ?_)
  refine wpS_bind (fC C (bey:=λi=>O.blt (k (at' b (ib+1+i))) (k (at' a ia))) (by omega) (by omega) (ga _ (by omega)) gb hI.1 (λi _=>rfl) (λi j hij hj q=>?_) λm hm p1 p2=>?_)
  ·exact KeyOrd.klt_of_kle_of_klt (hB (ib+1+i) (ib+1+j) (by omega) (by omega)) q
  ·dsimp only
   have cB:∀j,ib+1+m<=j->j<b.size->Le O k (at' a ia) (at' b j):=λj q1 q2=>by
    have:=p2 (j-(ib+1)) (by omega) (by omega)
    rw[show ib+1+(j-(ib+1))=j by omega] at this
    exact this
   by_cases hm0:m > 0
   ·rw[if_pos hm0]
    have g3:=g2.extB (m:=m) (by omega) λi j q1 q2 q3 q4=>by
     have:=p1 (i-(ib+1)) (by omega)
     rw[show ib+1+(i-(ib+1))=i by omega] at this
     exact KeyOrd.kle_trans (KeyOrd.kle_of_klt this) (hA ia j q3 q4)
    by_cases e2:ib+1+m=b.size
    ·rw[if_pos (by simpa using e2)]
     exact wpS_pure ⟨hI,.inl ⟨_,rfl,g3.full (.inr e2)⟩⟩
    ·rw[if_neg (by simpa using e2)]
     exact AZ hI hA hAB g3 h1 (by omega) (by omega) cB
   ·rw[if_neg hm0]
    have:m=0:=by omega
    subst this
    exact AZ hI hA hAB g2 h1 (by omega) (by omega) cB
theorem OE (C:Cmp prog w A E s κ O k G) (ga:∀i,i<a.size->G (at' a i)) (gb:∀i,i<b.size->G (at' b i)) (hI:StI κ F P X st) (hA:Srt O k a) (hB:Srt O k b) (hAB:∀j,j<b.size->Le O k (at' b j) (at' a (a.size-1))) (g:Gone O k a b out ia ib) (h1:ia+1<a.size) (h2:ib<b.size) (hn:n0<=ia+ib) :
  wpS (model prog w) A E s (loR a b out ia ib mg ac bc) (DR O k κ F P X a b n0) st:=by
 unfold loR
 rw[mN]
 refine wpS_bind (wpS_modify ?_)
 refine wpS_bind (bK h2 ?_)
 refine wpS_bind (fC C (bey:=λi=>!O.blt (k (at' b ib)) (k (at' a (ia+i)))) (by omega) (by omega) (gb _ h2) ga hI.1 (λi _=>rfl) (λi j hij hj q=>?_) λm hm p1 p2=>?_)
 ·have q':Le O k (at' a (ia+j)) (at' b ib):=CL q
  have:=KeyOrd.kle_trans (hA (ia+i) (ia+j) (by omega) (by omega)) q'
  exact OB this
 ·dsimp only
  have cA:∀j,ia+m<=j->j<a.size->Le O k (at' b ib) (at' a j):=λj q1 q2=>by
   have:=p2 (j-ia) (by omega) (by omega)
   rw[show ia+(j-ia)=j by omega] at this
   exact KeyOrd.kle_of_klt (MM this)
  by_cases hm0:m > 0
  ·rw[if_pos hm0]
   have g3:=g.extA (m:=m) (by omega) λi j q1 q2 q3 q4=>by
    have:=p1 (i-ia) (by omega)
    rw[show ia+(i-ia)=i by omega] at this
    exact KeyOrd.kle_trans (show Le O k (at' a i) (at' b ib) from CL this) (hB ib j q3 q4)
   by_cases e1:ia+m+1=a.size
   ·rw[if_pos (by simpa using e1)]
    exact wpS_pure ⟨hI,.inl ⟨_,rfl,g3.fullA e1 hAB⟩⟩
   ·rw[if_neg (by simpa using e1)]
    by_cases e2:ia+m=a.size
    ·rw[if_pos (by simpa using e2)]
     exact wpS_pure ⟨hI,.inl ⟨_,rfl,g3.full (.inl e2)⟩⟩
    ·rw[if_neg (by simpa using e2)]
     exact AY C ga gb hI hA hB hAB g3 (by omega) h2 (by omega) cA
  ·rw[if_neg hm0]
   have:m=0:=by omega
   subst this
   exact AY C ga gb hI hA hB hAB g h1 h2 (by omega) cA
theorem zA (C:Cmp prog w A E s κ O k G) (ga:∀i,i<a.size->G (at' a i)) (gb:∀i,i<b.size->G (at' b i)) (hI:StI κ F P X st) (hA:Srt O k a) (hB:Srt O k b) (hAB:∀j,j<b.size->Le O k (at' b j) (at' a (a.size-1))) (h0:Le O k (at' b 0) (at' a 0))
  (ha:0<a.size) (hb:0<b.size) {Q:Array Keyed->SortSt->Prop} (h:∀r st',cG O k a b r->StI κ F P X st'->Q r st'):wpS (model prog w) A E s (mB a b) Q st:=by
 rw[MK]
 refine wpS_bind (wpS_lift (wpAny_rule ⟨rfl,?_⟩))
 refine wpS_bind (bK hb ?_)
 have g0:Gone O k a b #[at' b 0] 0 1:=by
  have:Gone O k a b #[] 0 0:=⟨by simp,.nil,by simpa using hA.list,by simpa using hB.list,λx hx=>by cases hx⟩
  simpa using this.pushB hb λj _ hj=>KeyOrd.kle_trans h0 (hA 0 j (by omega) hj)
 dsimp only
 by_cases e1:1=b.size
 ·rw[if_pos (by simpa using e1)]
  exact wpS_pure (h _ _ (g0.full (.inr e1)) hI)
 rw[if_neg (by simpa using e1)]
 by_cases e2:0+1=a.size
 ·rw[if_pos (by simpa using e2)]
  exact wpS_pure (h _ _ (g0.fullA e2 hAB) hI)
 rw[if_neg (by simpa using e2)]
 refine wpS_bind (wpS_get ?_)
 refine wpS_bind (wpS_mono (wpS_forRange (I:=λx c st'=>StI κ F P X st'/\∃out ia ib mg,c=(none,out,ia,ib,mg)/\Gone O k a b out ia ib/\ia+1<a.size/\ib<b.size/\x<ia+ib)
  (Q:=λc st'=>StI κ F P X st'/\∃r,c.1=some r/\cG O k a b r) ?step ?fin ⟨hI,_,_,_,_,rfl,g0,by omega,by omega,by omega⟩) ?post)
 case fin =>
  rintro c st' ⟨_,out,ia,ib,mg,rfl,g,a1,a2,a3⟩
  exact absurd a3 (by omega)
 case post =>
  rintro⟨c1,c2⟩ st' ⟨hI',r,rfl,hr⟩
  exact wpS_pure (h r st' hr hI')
 case step =>
  rintro x c st1 _ hx ⟨hI1,out,ia,ib,mg,rfl,g,a1,a2,a3⟩
  dsimp only
  refine wpS_bind (wpS_mono (wpS_forRange (I:=λy c st'=>StI κ F P X st'/\∃out ia ib ac bc,c=(none,out,ia,ib,ac,bc)/\Gone O k a b out ia ib/\ia+1<a.size/\ib<b.size/\x+y<ia+ib)
   (Q:=λc st'=>StI κ F P X st'/\((∃r,c.1=some r/\cG O k a b r)\/∃out ia ib ac bc,c=(none,out,ia,ib,ac,bc)/\Gone O k a b out ia ib/\ia+1<a.size/\ib<b.size/\x+1<ia+ib)) ?s1 ?f1 ⟨hI1,_,_,_,_,_,rfl,g,a1,a2,a3⟩) ?p1)
  case f1 =>
   rintro c st' ⟨_,out,ia,ib,ac,bc,rfl,g,a1,a2,a3⟩
   exact absurd a3 (by omega)
  case s1 =>
   rintro y c st2 _ hy ⟨hI2,out,ia,ib,ac,bc,rfl,g,a1,a2,a3⟩
   dsimp only
   refine wpS_bind (bK a2 (wpS_bind (bK (by omega) (wpS_bind (C _ _ _ _ (gb _ a2) (ga _ (by omega)) hI2.1 ?_)))))
   dsimp only
   cases hlt:O.blt (k (at' b ib)) (k (at' a ia)) with
   | true =>
    rw[if_pos rfl]
    refine wpS_bind (bK a2 ?_)
    have g2:=g.pushB a2 λj q1 q2=>KeyOrd.kle_trans (KeyOrd.kle_of_klt hlt) (hA ia j q1 q2)
    by_cases e:ib+1=b.size
    ·rw[if_pos (by simpa using e)]
     exact wpS_pure ⟨hI2,.inl ⟨_,rfl,g2.full (.inr e)⟩⟩
    ·rw[if_neg (by simpa using e)]
     split
     ·exact wpS_pure ⟨hI2,.inr ⟨_,_,_,_,_,rfl,g2,a1,by omega,by omega⟩⟩
     ·exact wpS_pure ⟨hI2,_,_,_,_,_,rfl,g2,a1,by omega,by omega⟩
   | false =>
    rw[if_neg Bool.false_ne_true]
    refine wpS_bind (bK (by omega) ?_)
    have g2:=g.pushA (by omega) λj q1 q2=>KeyOrd.kle_trans (show Le O k (at' a ia) (at' b ib) from hlt) (hB ib j q1 q2)
    by_cases e:ia+1+1=a.size
    ·rw[if_pos (by simpa using e)]
     exact wpS_pure ⟨hI2,.inl ⟨_,rfl,g2.fullA e hAB⟩⟩
    ·rw[if_neg (by simpa using e)]
     split
     ·exact wpS_pure ⟨hI2,.inr ⟨_,_,_,_,_,rfl,g2,by omega,a2,by omega⟩⟩
     ·exact wpS_pure ⟨hI2,_,_,_,_,_,rfl,g2,by omega,a2,by omega⟩
  case p1 =>
   rintro⟨c1,c2⟩ st2 ⟨hI2,⟨r,rfl,hr⟩ | ⟨out,ia,ib,ac,bc,e,g,a1,a2,a3⟩⟩
   ·exact wpS_pure ⟨hI2,r,rfl,hr⟩
   ·cases e
    dsimp only
    refine wpS_bind (wpS_lift (wpAny_rule ⟨rfl,?_⟩))
    refine wpS_bind (wpS_mono (wpS_forRange (I:=λy c st'=>StI κ F P X st'/\lQ O k a b (x+1+y) c)
     (Q:=λc st'=>StI κ F P X st'/\((∃r,c.1=some r/\cG O k a b r)\/lQ O k a b (x+1) c)) ?s2 ?f2 ⟨hI2,_,_,_,_,_,_,rfl,g,a1,a2,a3⟩) ?p2)
    case f2 =>
     rintro c st' ⟨_,out,ia,ib,mg,ac,bc,rfl,g,a1,a2,a3⟩
     exact absurd a3 (by omega)
    case p2 =>
     rintro⟨c1,c2⟩ st3 ⟨hI3,⟨r,rfl,hr⟩ | ⟨out,ia,ib,mg,ac,bc,e,g,a1,a2,a3⟩⟩
     ·exact wpS_pure ⟨hI3,r,rfl,hr⟩
     ·cases e
      dsimp only
      rw[mN]
      exact wpS_bind (wpS_modify (wpS_pure ⟨hI3,_,_,_,_,rfl,g,a1,a2,a3⟩))
    case s2 =>
     rintro y c st3 _ hy ⟨hI3,out,ia,ib,mg,ac,bc,rfl,g,a1,a2,a3⟩
     have fin:∀mg',wpS (model prog w) A E s (loR a b out ia ib mg' ac bc) (λr st'=>match r with
       | .done c'=>StI κ F P X st'/\((∃r,c'.1=some r/\cG O k a b r)\/lQ O k a b (x+1) c')
       | .yield c'=>StI κ F P X st'/\lQ O k a b (x+1+(y+1)) c') st3:=λmg' =>
      wpS_mono (OE C ga gb hI3 hA hB hAB g a1 a2 (n0:=ia+ib) (by omega)) λr st' hr=>by
       have up:∀c n,n<=ia+ib->lQ O k a b (ia+ib) c->lQ O k a b n c:=λc n hn ⟨o,i,j,m,p,q,z1,z2,z3,z4,z5⟩=>⟨o,i,j,m,p,q,z1,z2,z3,z4,by omega⟩
       obtain⟨hI4,hr⟩:=hr
       cases r with
       | done c'=>exact⟨hI4,hr.imp_right (up c' _ (by omega))⟩
       | yield c'=>exact⟨hI4,up c' _ (by omega) hr⟩
     show wpS (model prog w) A E s (if mg > 1 then loR a b out ia ib (mg-1) ac bc else loR a b out ia ib mg ac bc) _ st3
     split
     ·exact wpS_mono (fin (mg-1)) λr _ hr=>by cases r <;> exact hr
     ·exact wpS_mono (fin mg) λr _ hr=>by cases r <;> exact hr
end
end
theorem MJ (a b:Array Keyed):lZ a b=(do
 rule "list.sort.merge-hi"
 let total:=a.size+b.size
 let done (out:Array Keyed) (na nb:Nat):=a.extract 0 na++b.extract 0 nb++out.reverse
 let firstOfB (out:Array Keyed) (na nb:Nat):=b.extract 0 nb++a.extract 0 na++out.reverse
 let mut na:=a.size-1
 let mut nb:=b.size
 let mut out:Array Keyed:=#[<-elem' a na]
 if na == 0 then return done out na nb
 if nb == 1 then return firstOfB out na nb
 let mut minGallop:=gallopOf (<-get)
 for _ in [0:total] do
  let mut acount:=0
  let mut bcount:=0
  for _ in [0:total] do
   let some aWins <-lt' (<-elem' b (nb-1)) (<-elem' a (na-1)) | return done out na nb
   if aWins then
    na:=na-1;out:=out.push (<-elem' a na);acount:=acount+1;bcount:=0
    if na == 0 then return done out na nb
    if acount ≥ minGallop then break
   else
    nb:=nb-1;out:=out.push (<-elem' b nb);bcount:=bcount+1;acount:=0
    if nb == 1 then return firstOfB out na nb
    if bcount ≥ minGallop then break
  rule "list.sort.gallop"
  minGallop:=minGallop+1
  for _ in [0:total] do
   if minGallop > 1 then minGallop:=minGallop-1
   lH minGallop
   let some at_ <-cM false (<-elem' b (nb-1)) a 0 na (na-1) | return done out na nb
   let k:=na-at_
   acount:=k
   if k > 0 then
    out:=out++(a.extract at_ na).reverse;na:=at_
    if na == 0 then return done out na nb
   nb:=nb-1;out:=out.push (<-elem' b nb)
   if nb == 1 then return firstOfB out na nb
   let some at_ <-cM true (<-elem' a (na-1)) b 0 nb (nb-1) | return done out na nb
   let k:=nb-at_
   bcount:=k
   if k > 0 then
    out:=out++(b.extract at_ nb).reverse;nb:=at_
    if nb == 1 then return firstOfB out na nb
    if nb == 0 then return done out na nb
   na:=na-1;out:=out.push (<-elem' a na)
   if na == 0 then return done out na nb
   if acount<7 && bcount<7 then break
  minGallop:=minGallop+1
  lH minGallop
 unsupported "internal:list.sort.merge-bound"):=rfl
noncomputable abbrev DN:=Option (Array Keyed) × Nat × Nat × Array Keyed × Nat × Nat × Nat
noncomputable def IH (a b out:Array Keyed) (na nb mg ac bc:Nat):StateT SortSt Sem (ForInStep DN):=do
 let x <-elem' a (na-1)
 if (na-1 == 0)=true then pure (.done (some (a.extract 0 (na-1)++b.extract 0 nb++(out.push x).reverse),na-1,nb,out.push x,mg,ac,bc))
 else if (decide (ac<7) && decide (bc<7))=true then pure (.done (none,na-1,nb,out.push x,mg,ac,bc))
 else pure (.yield (none,na-1,nb,out.push x,mg,ac,bc))
noncomputable def IG (a b out:Array Keyed) (na nb mg ac bc:Nat):StateT SortSt Sem (ForInStep DN):=do
 let x <-elem' b (nb-1)
 if (nb-1 == 1)=true then pure (.done (some (b.extract 0 (nb-1)++a.extract 0 na++(out.push x).reverse),na,nb-1,out.push x,mg,ac,bc))
 else do
  let y <-elem' a (na-1)
  let r <-cM true y b 0 (nb-1) (nb-1-1)
  match r with
  | some q =>
   if nb-1-q > 0 then
    if (q == 1)=true then pure (.done (some (b.extract 0 q++a.extract 0 na++(out.push x++(b.extract q (nb-1)).reverse).reverse),na,q,out.push x++(b.extract q (nb-1)).reverse,mg,ac,nb-1-q))
    else if (q == 0)=true then pure (.done (some (a.extract 0 na++b.extract 0 q++(out.push x++(b.extract q (nb-1)).reverse).reverse),na,q,out.push x++(b.extract q (nb-1)).reverse,mg,ac,nb-1-q))
    else IH a b (out.push x++(b.extract q (nb-1)).reverse) na q mg ac (nb-1-q)
   else IH a b (out.push x) na (nb-1) mg ac (nb-1-q)
  | _=>pure (.done (some (a.extract 0 na++b.extract 0 (nb-1)++(out.push x).reverse),na,nb-1,out.push x,mg,ac,bc))
noncomputable def hiR (a b out:Array Keyed) (na nb mg ac bc:Nat):StateT SortSt Sem (ForInStep DN):=do
 lH mg
 let x <-elem' b (nb-1)
 let r <-cM false x a 0 na (na-1)
 match r with
 | some q =>
  if na-q > 0 then
   if (q == 0)=true then pure (.done (some (a.extract 0 q++b.extract 0 nb++(out++(a.extract q na).reverse).reverse),q,nb,out++(a.extract q na).reverse,mg,na-q,bc))
   else IG a b (out++(a.extract q na).reverse) q nb mg (na-q) bc
  else IG a b out na nb mg (na-q) bc
 | _=>pure (.done (some (a.extract 0 na++b.extract 0 nb++out.reverse),na,nb,out,mg,ac,bc))
section
variable {prog:Program} {w:World} {A:Around} {E:Value->Shared->Prop} {s:Shared} {κ:SortKind} {O:KeyOrd} {k:Keyed->O.α} {G:Keyed->Prop}
theorem KB {a:Array Keyed} {n:Nat} (h0:0<n) (h:n<=a.size):(a.toList.take n).reverse=at' a (n-1)::(a.toList.take (n-1)).reverse:=by
 obtain⟨m,rfl⟩:∃m,n=m+1:=⟨n-1,by omega⟩
 have hm:m<a.size:=by omega
 rw[List.take_succ_eq_append_getElem (by simpa using hm),List.reverse_append]
 simp[at',Array.getD,hm]
theorem iY {a:Array Keyed} {n:Nat} {y:Keyed} (h:y∈(a.toList.take n).reverse):∃j,j<n/\j<a.size/\y=at' a j:=by
 obtain⟨m,h1,h2,h3,e⟩:=oX (a:=a) (i:=0) (j:=n) (y:=y) (by simpa using h)
 exact⟨m,by omega,h3,e⟩
theorem vJ (a:Array Keyed) (n:Nat):(a.extract 0 n).toList=a.toList.take n:=by rw[gC];simp
noncomputable abbrev GonH (O:KeyOrd) (k:Keyed->O.α) (a b out:Array Keyed) (na nb:Nat):Prop:=Mg (λx y=>Le O k y x) a.toList b.toList out.toList (a.toList.take na).reverse (b.toList.take nb).reverse
section
variable {a b out:Array Keyed} {na nb q:Nat}
theorem GonH.pushA (g:GonH O k a b out na nb) (h0:0<na) (h:na<=a.size) (c:∀j,j<nb->j<b.size->Le O k (at' b j) (at' a (na-1))):GonH O k a b (out.push (at' a (na-1))) (na-1) nb:=by
 have g':Mg (λx y=>Le O k y x) a.toList b.toList out.toList ([at' a (na-1)]++(a.toList.take (na-1)).reverse) (b.toList.take nb).reverse:=by rw[List.singleton_append,<-KB h0 h];exact g
 have:=g'.mvA λx hx y hy=>by
  rw[List.mem_singleton.mp hx]
  obtain⟨j,h1,h2,rfl⟩:=iY hy
  exact c j h1 h2
 simpa [GonH] using this
theorem GonH.pushB (g:GonH O k a b out na nb) (h0:0<nb) (h:nb<=b.size) (c:∀j,j<na->j<a.size->Le O k (at' a j) (at' b (nb-1))):GonH O k a b (out.push (at' b (nb-1))) na (nb-1):=(GonH.pushA g.swap h0 h c).swap
theorem GonH.extA (g:GonH O k a b out na nb) (hq:q<=na) (h:na<=a.size) (c:∀i j,q<=i->i<na->j<nb->j<b.size->Le O k (at' b j) (at' a i)):GonH O k a b (out++(a.extract q na).reverse) q nb:=by
 have e:(a.toList.take na).reverse=((a.toList.drop q).take (na-q)).reverse++(a.toList.take q).reverse:=by
  rw[<-List.reverse_append]
  congr 1
  conv=>lhs;rw[show na=q+(na-q) by omega]
  rw[List.take_add]
 have g':Mg (λx y=>Le O k y x) a.toList b.toList out.toList (((a.toList.drop q).take (na-q)).reverse++(a.toList.take q).reverse) (b.toList.take nb).reverse:=by rw[<-e];exact g
 have:=g'.mvA λx hx y hy=>by
  obtain⟨i,h1,h2,_,rfl⟩:=oX (List.mem_reverse.mp hx)
  obtain⟨j,h3,h4,rfl⟩:=iY hy
  exact c i j h1 (by omega) h3 h4
 show Mg _ _ _ (out++(a.extract q na).reverse).toList _ _
 rw[Array.toList_append,Array.toList_reverse,gC]
 exact this
theorem GonH.extB (g:GonH O k a b out na nb) (hq:q<=nb) (h:nb<=b.size) (c:∀i j,q<=i->i<nb->j<na->j<a.size->Le O k (at' a j) (at' b i)):GonH O k a b (out++(b.extract q nb).reverse) na q:=(GonH.extA g.swap hq h c).swap
theorem sI {al bl l:List Keyed} {r:Array Keyed} (e:r.toList=l.reverse) (h:l.Perm (al++bl)/\l.Pairwise λx y=>Le O k y x):r.toList.Perm (al++bl)/\r.toList.Pairwise (Le O k):=by
 rw[e]
 exact⟨(List.reverse_perm l).trans h.1,List.pairwise_reverse.mpr h.2⟩
theorem GonH.full (g:GonH O k a b out na nb) (h:na=0\/nb=0):cG O k a b (a.extract 0 na++b.extract 0 nb++out.reverse):=by
 refine sI (l:=out.toList++(b.toList.take nb).reverse++(a.toList.take na).reverse) (by simp[vJ]) (g.fin2 λx hx y hy=>?_)
 rcases h with rfl | rfl
 ·simp at hy
 ·simp at hx
theorem GonH.fullB (g:GonH O k a b out na nb) (h:nb=1) (c:∀j,j<a.size->Le O k (at' b 0) (at' a j)):cG O k a b (b.extract 0 nb++a.extract 0 na++out.reverse):=by
 refine sI (l:=out.toList++(a.toList.take na).reverse++(b.toList.take nb).reverse) (by simp[vJ]) (g.fin λx hx y hy=>?_)
 obtain⟨i,h1,h2,rfl⟩:=iY hx
 obtain⟨j,h3,h4,rfl⟩:=iY hy
 rw[show j=0 by omega]
 exact c i h2
end
noncomputable def lP (O:KeyOrd) (k:Keyed->O.α) (a b:Array Keyed) (n0:Nat) (c:DN):Prop:=∃out na nb mg ac bc,c=(none,na,nb,out,mg,ac,bc)/\GonH O k a b out na nb/\1<=na/\na<=a.size/\2<=nb/\nb<=b.size/\na+nb<n0
noncomputable def DM (O:KeyOrd) (k:Keyed->O.α) (κ:SortKind) (F:Option Value) (P:Array (Nat × Nat × Nat)) (X:Array Keyed) (a b:Array Keyed) (n0:Nat) (r:ForInStep DN) (st:SortSt):Prop :=
 StI κ F P X st/\match r with
 | .done c=>(∃r,c.1=some r/\cG O k a b r)\/lP O k a b n0 c
 | .yield c=>lP O k a b n0 c
section
variable {a b out:Array Keyed} {na nb mg ac bc n0:Nat} {st:SortSt} {F:Option Value} {P:Array (Nat × Nat × Nat)} {X:Array Keyed}
theorem AX (hI:StI κ F P X st) (g:GonH O k a b out na nb) (h1:1<=na) (h2:na<=a.size) (h3:2<=nb) (h4:nb<=b.size) (hn:na+nb<=n0)
  (c:∀j,j<nb->j<b.size->Le O k (at' b j) (at' a (na-1))):wpS (model prog w) A E s (IH a b out na nb mg ac bc) (DM O k κ F P X a b n0) st:=by
 unfold IH
 refine wpS_bind (bK (by omega) ?_)
 have g2:=g.pushA h1 h2 c
 by_cases e:na-1=0
 ·rw[if_pos (by simpa using e)]
  exact wpS_pure ⟨hI,.inl ⟨_,rfl,g2.full (.inl e)⟩⟩
 ·rw[if_neg (by simpa using e)]
  have le:lP O k a b n0 (none,na-1,nb,out.push (at' a (na-1)),mg,ac,bc):=⟨_,_,_,_,_,_,rfl,g2,by omega,by omega,h3,h4,by omega⟩
  split
  ·exact wpS_pure ⟨hI,.inr le⟩
  ·exact wpS_pure ⟨hI,le⟩
theorem AW (C:Cmp prog w A E s κ O k G) (ga:∀i,i<a.size->G (at' a i)) (gb:∀i,i<b.size->G (at' b i)) (hI:StI κ F P X st) (hA:Srt O k a) (hB:Srt O k b) (hAB:∀j,j<a.size->Le O k (at' b 0) (at' a j)) (g:GonH O k a b out na nb) (h1:1<=na) (h2:na<=a.size) (h3:2<=nb) (h4:nb<=b.size) (hn:na+nb<=n0)
  (c:∀j,j<na->j<a.size->Le O k (at' a j) (at' b (nb-1))):wpS (model prog w) A E s (IG a b out na nb mg ac bc) (DM O k κ F P X a b n0) st:=by
 unfold IG
 refine wpS_bind (bK (by omega) ?_)
 have g2:=g.pushB (by omega) h4 c
 by_cases e:nb-1=1
 ·rw[if_pos (by simpa using e)]
  exact wpS_pure ⟨hI,.inl ⟨_,rfl,g2.fullB e hAB⟩⟩
 ·rw[if_neg (by simpa using e)]
  refine wpS_bind (bK (by omega) ?_)
  refine wpS_bind (fC C (bey:=λi=>O.blt (k (at' b (0+i))) (k (at' a (na-1)))) (by omega) (by omega) (ga _ (by omega)) gb hI.1 (λi _=>rfl) (λi j hij hj q=>?_) λm hm p1 p2=>?_)
  ·exact KeyOrd.klt_of_kle_of_klt (hB (0+i) (0+j) (by omega) (by omega)) q
  ·dsimp only
   have cB:∀j,j<m->j<b.size->Le O k (at' b j) (at' a (na-1)):=λj q1 q2=>by
    have:=p1 j q1
    rw[show 0+j=j by omega] at this
    exact KeyOrd.kle_of_klt this
   by_cases hm0:nb-1-m > 0
   ·rw[if_pos hm0]
    have g3:=g2.extB (q:=m) (by omega) (by omega) λi j q1 q2 q3 q4=>by
     have:=p2 i q1 q2
     rw[show 0+i=i by omega] at this
     exact KeyOrd.kle_trans (hA j (na-1) (by omega) (by omega)) (show Le O k (at' a (na-1)) (at' b i) from this)
    by_cases e2:m=1
    ·rw[if_pos (by simpa using e2)]
     exact wpS_pure ⟨hI,.inl ⟨_,rfl,g3.fullB e2 hAB⟩⟩
    ·rw[if_neg (by simpa using e2)]
     by_cases e3:m=0
     ·rw[if_pos (by simpa using e3)]
      exact wpS_pure ⟨hI,.inl ⟨_,rfl,g3.full (.inr e3)⟩⟩
     ·rw[if_neg (by simpa using e3)]
      exact AX hI g3 h1 h2 (by omega) (by omega) (by omega) cB
   ·rw[if_neg hm0]
    have:m=nb-1:=by omega
    subst this
    exact AX hI g2 h1 h2 (by omega) (by omega) (by omega) cB
theorem OD (C:Cmp prog w A E s κ O k G) (ga:∀i,i<a.size->G (at' a i)) (gb:∀i,i<b.size->G (at' b i)) (hI:StI κ F P X st) (hA:Srt O k a) (hB:Srt O k b) (hAB:∀j,j<a.size->Le O k (at' b 0) (at' a j)) (g:GonH O k a b out na nb) (h1:1<=na) (h2:na<=a.size) (h3:2<=nb) (h4:nb<=b.size) (hn:na+nb<=n0) :
  wpS (model prog w) A E s (hiR a b out na nb mg ac bc) (DM O k κ F P X a b n0) st:=by
 unfold hiR
 rw[mN]
 refine wpS_bind (wpS_modify ?_)
 refine wpS_bind (bK (by omega) ?_)
 refine wpS_bind (fC C (bey:=λi=>!O.blt (k (at' b (nb-1))) (k (at' a (0+i)))) (by omega) (by omega) (gb _ (by omega)) ga hI.1 (λi _=>rfl) (λi j hij hj q=>?_) λm hm p1 p2=>?_)
 ·have q':Le O k (at' a (0+j)) (at' b (nb-1)):=CL q
  exact OB (KeyOrd.kle_trans (hA (0+i) (0+j) (by omega) (by omega)) q')
 ·dsimp only
  have cA:∀j,j<m->j<a.size->Le O k (at' a j) (at' b (nb-1)):=λj q1 q2=>by
   have:=p1 j q1
   rw[show 0+j=j by omega] at this
   exact CL this
  by_cases hm0:na-m > 0
  ·rw[if_pos hm0]
   have g3:=g.extA (q:=m) (by omega) (by omega) λi j q1 q2 q3 q4=>by
    have:=p2 i q1 q2
    rw[show 0+i=i by omega] at this
    exact KeyOrd.kle_trans (hB j (nb-1) (by omega) (by omega)) (KeyOrd.kle_of_klt (MM this))
   by_cases e1:m=0
   ·rw[if_pos (by simpa using e1)]
    exact wpS_pure ⟨hI,.inl ⟨_,rfl,g3.full (.inl e1)⟩⟩
   ·rw[if_neg (by simpa using e1)]
    exact AW C ga gb hI hA hB hAB g3 (by omega) (by omega) h3 h4 (by omega) cA
  ·rw[if_neg hm0]
   have:m=na:=by omega
   subst this
   exact AW C ga gb hI hA hB hAB g h1 h2 h3 h4 hn cA
theorem yZ (C:Cmp prog w A E s κ O k G) (ga:∀i,i<a.size->G (at' a i)) (gb:∀i,i<b.size->G (at' b i)) (hI:StI κ F P X st) (hA:Srt O k a) (hB:Srt O k b) (hAB:∀j,j<b.size->Le O k (at' b j) (at' a (a.size-1))) (h0:Le O k (at' b 0) (at' a 0))
  (ha:0<a.size) (hb:0<b.size) {Q:Array Keyed->SortSt->Prop} (h:∀r st',cG O k a b r->StI κ F P X st'->Q r st'):wpS (model prog w) A E s (lZ a b) Q st:=by
 rw[MJ]
 refine wpS_bind (wpS_lift (wpAny_rule ⟨rfl,?_⟩))
 refine wpS_bind (bK (by omega) ?_)
 have hB0:∀j,j<a.size->Le O k (at' b 0) (at' a j):=λj hj=>KeyOrd.kle_trans h0 (hA 0 j (by omega) hj)
 have g0:GonH O k a b #[at' a (a.size-1)] (a.size-1) b.size:=by
  have:GonH O k a b #[] a.size b.size:=⟨by
   refine List.Perm.append (l₁:=(a.toList.take a.size).reverse) ?_ ?_
   ·rw[List.take_of_length_le (by simp)];exact List.reverse_perm _
   ·rw[List.take_of_length_le (by simp)];exact List.reverse_perm _,.nil,by rw[List.take_of_length_le (by simp),List.pairwise_reverse];exact hA.list,by rw[List.take_of_length_le (by simp),List.pairwise_reverse];exact hB.list,λx hx=>by cases hx⟩
  simpa using this.pushA ha (Nat.le_refl _) λj _ hj=>hAB j hj
 dsimp only
 by_cases e1:a.size-1=0
 ·rw[if_pos (by simpa using e1)]
  exact wpS_pure (h _ _ (g0.full (.inl e1)) hI)
 rw[if_neg (by simpa using e1)]
 by_cases e2:b.size=1
 ·rw[if_pos (by simpa using e2)]
  exact wpS_pure (h _ _ (g0.fullB e2 hB0) hI)
 rw[if_neg (by simpa using e2)]
 refine wpS_bind (wpS_get ?_)
 refine wpS_bind (wpS_mono (wpS_forRange (I:=λx c st'=>StI κ F P X st'/\∃out na nb mg,c=(none,na,nb,out,mg)/\GonH O k a b out na nb/\1<=na/\na<=a.size/\2<=nb/\nb<=b.size/\na+nb+x<a.size+b.size)
  (Q:=λc st'=>StI κ F P X st'/\∃r,c.1=some r/\cG O k a b r) ?step ?fin ⟨hI,_,_,_,_,rfl,g0,by omega,by omega,by omega,by omega,by omega⟩) ?post)
 case fin =>
  rintro c st' ⟨_,out,na,nb,mg,rfl,g,a1,a2,a3,a4,a5⟩
  exact absurd a5 (by omega)
 case post =>
  rintro⟨c1,c2⟩ st' ⟨hI',r,rfl,hr⟩
  exact wpS_pure (h r st' hr hI')
 case step =>
  rintro x c st1 _ hx ⟨hI1,out,na,nb,mg,rfl,g,a1,a2,a3,a4,a5⟩
  dsimp only
  refine wpS_bind (wpS_mono (wpS_forRange (I:=λy c st'=>StI κ F P X st'/\∃out na nb ac bc,c=(none,na,nb,out,ac,bc)/\GonH O k a b out na nb/\1<=na/\na<=a.size/\2<=nb/\nb<=b.size/\na+nb+x+y<a.size+b.size)
   (Q:=λc st'=>StI κ F P X st'/\((∃r,c.1=some r/\cG O k a b r)\/∃out na nb ac bc,c=(none,na,nb,out,ac,bc)/\GonH O k a b out na nb/\1<=na/\na<=a.size/\2<=nb/\nb<=b.size/\na+nb+x+1<a.size+b.size)) ?s1 ?f1 ⟨hI1,_,_,_,_,_,rfl,g,a1,a2,a3,a4,a5⟩) ?p1)
  case f1 =>
   rintro c st' ⟨_,out,na,nb,ac,bc,rfl,g,a1,a2,a3,a4,a5⟩
   exact absurd a5 (by omega)
  case s1 =>
   rintro y c st2 _ hy ⟨hI2,out,na,nb,ac,bc,rfl,g,a1,a2,a3,a4,a5⟩
   dsimp only
   refine wpS_bind (bK (by omega) (wpS_bind (bK (by omega) (wpS_bind (C _ _ _ _ (gb _ (by omega)) (ga _ (by omega)) hI2.1 ?_)))))
   dsimp only
   cases hlt:O.blt (k (at' b (nb-1))) (k (at' a (na-1))) with
   | true =>
    rw[if_pos rfl]
    refine wpS_bind (bK (by omega) ?_)
    have g2:=g.pushA a1 a2 λj q1 q2=>KeyOrd.kle_trans (hB j (nb-1) (by omega) (by omega)) (KeyOrd.kle_of_klt hlt)
    by_cases e:na-1=0
    ·rw[if_pos (by simpa using e)]
     exact wpS_pure ⟨hI2,.inl ⟨_,rfl,g2.full (.inl e)⟩⟩
    ·rw[if_neg (by simpa using e)]
     split
     ·exact wpS_pure ⟨hI2,.inr ⟨_,_,_,_,_,rfl,g2,by omega,by omega,a3,a4,by omega⟩⟩
     ·exact wpS_pure ⟨hI2,_,_,_,_,_,rfl,g2,by omega,by omega,a3,a4,by omega⟩
   | false =>
    rw[if_neg Bool.false_ne_true]
    refine wpS_bind (bK (by omega) ?_)
    have g2:=g.pushB (by omega) a4 λj q1 q2=>KeyOrd.kle_trans (hA j (na-1) (by omega) (by omega)) (show Le O k (at' a (na-1)) (at' b (nb-1)) from hlt)
    by_cases e:nb-1=1
    ·rw[if_pos (by simpa using e)]
     exact wpS_pure ⟨hI2,.inl ⟨_,rfl,g2.fullB e hB0⟩⟩
    ·rw[if_neg (by simpa using e)]
     split
     ·exact wpS_pure ⟨hI2,.inr ⟨_,_,_,_,_,rfl,g2,a1,a2,by omega,by omega,by omega⟩⟩
     ·exact wpS_pure ⟨hI2,_,_,_,_,_,rfl,g2,a1,a2,by omega,by omega,by omega⟩
  case p1 =>
   rintro⟨c1,c2⟩ st2 ⟨hI2,⟨r,rfl,hr⟩ | ⟨out,na,nb,ac,bc,e,g,a1,a2,a3,a4,a5⟩⟩
   ·exact wpS_pure ⟨hI2,r,rfl,hr⟩
   ·cases e
    dsimp only
    refine wpS_bind (wpS_lift (wpAny_rule ⟨rfl,?_⟩))
    refine wpS_bind (wpS_mono (wpS_forRange (I:=λy c st'=>StI κ F P X st'/\lP O k a b (a.size+b.size-(x+1+y)) c)
     (Q:=λc st'=>StI κ F P X st'/\((∃r,c.1=some r/\cG O k a b r)\/lP O k a b (a.size+b.size-(x+1)) c)) ?s2 ?f2 ⟨hI2,_,_,_,_,_,_,rfl,g,a1,a2,a3,a4,by omega⟩) ?p2)
    case f2 =>
     rintro c st' ⟨_,out,na,nb,mg,ac,bc,rfl,g,a1,a2,a3,a4,a5⟩
     exact absurd a5 (by omega)
    case p2 =>
     rintro⟨c1,c2⟩ st3 ⟨hI3,⟨r,rfl,hr⟩ | ⟨out,na,nb,mg,ac,bc,e,g,a1,a2,a3,a4,a5⟩⟩
     ·exact wpS_pure ⟨hI3,r,rfl,hr⟩
     ·cases e
      dsimp only
      rw[mN]
      exact wpS_bind (wpS_modify (wpS_pure ⟨hI3,_,_,_,_,rfl,g,a1,a2,a3,a4,by omega⟩))
    case s2 =>
     rintro y c st3 _ hy ⟨hI3,out,na,nb,mg,ac,bc,rfl,g,a1,a2,a3,a4,a5⟩
     have fin:∀mg',wpS (model prog w) A E s (hiR a b out na nb mg' ac bc) (λr st'=>match r with
       | .done c'=>StI κ F P X st'/\((∃r,c'.1=some r/\cG O k a b r)\/lP O k a b (a.size+b.size-(x+1)) c')
       | .yield c'=>StI κ F P X st'/\lP O k a b (a.size+b.size-(x+1+(y+1))) c') st3:=λmg' =>
      wpS_mono (OD C ga gb hI3 hA hB hB0 g a1 a2 a3 a4 (n0:=na+nb) (by omega)) λr st' hr=>by
       have up:∀c n,na+nb<=n->lP O k a b (na+nb) c->lP O k a b n c:=λc n hn ⟨o,i,j,m,p,q,z1,z2,z3,z4,z5,z6,z7⟩=>⟨o,i,j,m,p,q,z1,z2,z3,z4,z5,z6,by omega⟩
       obtain⟨hI4,hr⟩:=hr
       cases r with
       | done c'=>exact⟨hI4,hr.imp_right (up c' _ (by omega))⟩
       | yield c'=>exact⟨hI4,up c' _ (by omega) hr⟩
     show wpS (model prog w) A E s (if mg > 1 then hiR a b out na nb (mg-1) ac bc else hiR a b out na nb mg ac bc) _ st3
     split
     ·exact wpS_mono (fin (mg-1)) λr _ hr=>by cases r <;> exact hr
     ·exact wpS_mono (fin mg) λr _ hr=>by cases r <;> exact hr
end
end
theorem MI (i:Nat):mergeAt' i=(do
 let s <-get
 let (some (sa,na,power),some (sb,nb,_)):=((pendingOf s)[i]?,(pendingOf s)[i+1]?) | unsupported "internal:list.sort.pending"
 set (setPending s (((pendingOf s).setIfInBounds i (sa,na+nb,power)).eraseIdxIfInBounds (i+1)))
 let some k <-cM false (<-elem' (arrOf s) sb) (arrOf s) sa na 0 | return false
 let (sa,na):=(sa+k,na-k)
 if na == 0 then return true
 let some nb <-cM true (<-elem' (arrOf s) (sa+na-1)) (arrOf s) sb nb (nb-1) | return false
 if nb == 0 then return true
 let x:=(arrOf s).extract sa sb
 let y:=(arrOf s).extract sb (sb+nb)
 let merged <-if na<=nb then mB x y else lZ x y
 modify λs=>setArr s (merged.toList.zipIdx.foldl (λa (p,j)=>a.setIfInBounds (sa+j) p) (arrOf s))
 return (failedOf (<-get)).isNone):=rfl
theorem yO {X:Array Keyed} {i:Nat} {p:Keyed} (h:i<X.size):(X.setIfInBounds i p).toList=X.toList.take i++p::X.toList.drop (i+1):=by
 rw[Array.toList_setIfInBounds,List.set_eq_take_append_cons_drop,if_pos (by simpa using h)]
theorem pT {sa:Nat}:∀(l:List Keyed) (i:Nat) (X:Array Keyed),sa+i+l.length<=X.size->((l.zipIdx i).foldl (λa x=>a.setIfInBounds (sa+x.2) x.1) X).toList=X.toList.take (sa+i)++l++X.toList.drop (sa+i+l.length)
 | [],i,X,h=>by simp
 | p::l,i,X,h=>by
  rw[List.length_cons] at h
  rw[List.zipIdx_cons,List.foldl_cons,pT l (i+1) _ (by simp only[Array.size_setIfInBounds];omega)]
  dsimp only
  rw[yO (by omega),List.length_cons]
  have hl:(X.toList.take (sa+i)).length=sa+i:=by rw[List.length_take];simp;omega
  have e1:(X.toList.take (sa+i)++p::X.toList.drop (sa+i+1)).take (sa+(i+1))=X.toList.take (sa+i)++[p]:=by
   rw[List.take_append,List.take_of_length_le (by omega),hl,show sa+(i+1)-(sa+i)=1 by omega]
   simp
  have e2:(X.toList.take (sa+i)++p::X.toList.drop (sa+i+1)).drop (sa+(i+1)+l.length)=X.toList.drop (sa+i+(l.length+1)):=by
   rw[List.drop_append,List.drop_of_length_le (by omega),hl,show sa+(i+1)+l.length-(sa+i)=l.length+1 by omega,List.drop_succ_cons,List.drop_drop,List.nil_append]
   congr 1;omega
  rw[e1,e2]
  simp
section
variable {prog:Program} {w:World} {A:Around} {E:Value->Shared->Prop} {s:Shared} {κ:SortKind} {O:KeyOrd} {k:Keyed->O.α} {G:Keyed->Prop}
noncomputable def cD (O:KeyOrd) (k:Keyed->O.α) (a:Array Keyed) (lo hi:Nat):Prop:=∀i j,lo<=i->i<=j->j<hi->Le O k (at' a i) (at' a j)
theorem EB {a:Array Keyed} {i j m:Nat} (h:i+m<j) (hj:j<=a.size):at' (a.extract i j) m=at' a (i+m):=by
 have h1:m<(a.extract i j).size:=by simp;omega
 have h2:i+m<a.size:=by omega
 unfold at'
 rw[Array.getD_eq_getD_getElem?,Array.getD_eq_getD_getElem?,Array.getElem?_extract,if_pos (by omega)]
theorem yY (C:Cmp prog w A E s κ O k G) {X:Array Keyed} {na nb p1 p2:Nat} {st:SortSt} {Q:Bool->SortSt->Prop} (gx:∀i,i<X.size->G (at' X i)) (hI:StI κ none #[(0,na,p1),(na,nb,p2)] X st) (hz:na+nb=X.size) (h1:0<na) (h2:0<nb)
  (sA:cD O k X 0 na) (sB:cD O k X na X.size) (h:∀st',PyProof.Rows.kindOf st'=κ->failedOf st'=none->pendingOf st' = #[(0,na+nb,p1)]->(arrOf st').toList.Perm X.toList->(arrOf st').toList.Pairwise (Le O k)->Q true st') :
  wpS (model prog w) A E s (mergeAt' 0) Q st:=by
 obtain⟨i1,i2,i3,i4⟩:=hI
 rw[MI]
 refine wpS_bind (wpS_get ?_)
 rw[i3]
 have ee:(#[(0,na,p1),(na,nb,p2)].setIfInBounds 0 (0,na+nb,p1)).eraseIdxIfInBounds (0+1) = #[(0,na+nb,p1)]:=by simp[Array.eraseIdxIfInBounds]
 rw[show #[(0,na,p1),(na,nb,p2)][0]? = some (0,na,p1) from rfl,show #[(0,na,p1),(na,nb,p2)][0+1]? = some (na,nb,p2) from rfl]
 dsimp only
 rw[ee]
 show wpS (model prog w) A E s (do
   set (setPending st #[(0,na+nb,p1)])
   let x <-elem' (arrOf st) na
   let r <-cM false x (arrOf st) 0 na 0
   match r with
    | some k =>
      if (na-k == 0)=true then pure true
      else do
       let x <-elem' (arrOf st) (0+k+(na-k)-1)
       let r <-cM true x (arrOf st) na nb (nb-1)
       match r with
        | some nb =>
         if (nb == 0)=true then pure true
         else if na-k<=nb then do
           let merged <-mB ((arrOf st).extract (0+k) na) ((arrOf st).extract na (na+nb))
           (do modify λs=>setArr s (merged.toList.zipIdx.foldl (λa x=>a.setIfInBounds (0+k+x.2) x.1) (arrOf s));let z <-get;pure (failedOf z).isNone)
          else do
           let merged <-lZ ((arrOf st).extract (0+k) na) ((arrOf st).extract na (na+nb))
           (do modify λs=>setArr s (merged.toList.zipIdx.foldl (λa x=>a.setIfInBounds (0+k+x.2) x.1) (arrOf s));let z <-get;pure (failedOf z).isNone)
        | x=>pure false
    | x=>pure false) Q st
 rw[i4]
 refine wpS_bind (wpS_modify (f:=λ_=>setPending st #[(0,na+nb,p1)]) ?_)
 have iI:StI κ none #[(0,na+nb,p1)] X (setPending st #[(0,na+nb,p1)]):=⟨i1,i2,rfl,i4⟩
 generalize setPending st #[(0,na+nb,p1)]=st1 at iI
 have whole:cD O k X 0 X.size->Q true st1:=λhs=>h st1 iI.1 iI.2.1 iI.2.2.1 (by rw[iI.2.2.2]) (by
  rw[iI.2.2.2];exact Srt.list λi j hij hj=>hs i j (by omega) hij hj)
 refine wpS_bind (bK (by omega) ?_)
 refine wpS_bind (fC C (bey:=λi=>!O.blt (k (at' X na)) (k (at' X (0+i)))) (by omega) (by omega) (gx _ (by omega)) gx iI.1 (λi _=>rfl) (λi j hij hj q=>?_) λm hm q1 q2=>?_)
 ·exact OB (KeyOrd.kle_trans (sA (0+i) (0+j) (by omega) (by omega) (by omega)) (show Le O k (at' X (0+j)) (at' X na) from CL q))
 dsimp only
 have lowA:∀i,i<m->Le O k (at' X i) (at' X na):=λi hi=>by
  have:=q1 i hi
  rw[show 0+i=i by omega] at this
  exact CL this
 by_cases e1:na-m=0
 ·rw[if_pos (by simpa using e1)]
  refine wpS_pure (whole λi j _ hij hj=>?_)
  by_cases hj2:j<na
  ·exact sA i j (by omega) hij hj2
  ·by_cases hi2:i<na
   ·exact KeyOrd.kle_trans (lowA i (by omega)) (sB na j (by omega) (by omega) hj)
   ·exact sB i j (by omega) hij hj
 rw[if_neg (by simpa using e1)]
 rw[show 0+m+(na-m)-1=na-1 by omega,show 0+m=m by omega]
 refine wpS_bind (bK (by omega) ?_)
 refine wpS_bind (fC C (bey:=λi=>O.blt (k (at' X (na+i))) (k (at' X (na-1)))) (by omega) (by omega) (gx _ (by omega)) gx iI.1 (λi _=>rfl) (λi j hij hj q=>?_) λn hn r1 r2=>?_)
 ·exact KeyOrd.klt_of_kle_of_klt (sB (na+i) (na+j) (by omega) (by omega) (by omega)) q
 dsimp only
 have hiB:∀j,na+n<=j->j<X.size->Le O k (at' X (na-1)) (at' X j):=λj hj1 hj2=>by
  have:=r2 (j-na) (by omega) (by omega)
  rw[show na+(j-na)=j by omega] at this
  exact this
 by_cases e2:n=0
 ·rw[if_pos (by simpa using e2)]
  refine wpS_pure (whole λi j _ hij hj=>?_)
  by_cases hj2:j<na
  ·exact sA i j (by omega) hij hj2
  ·by_cases hi2:i<na
   ·exact KeyOrd.kle_trans (sA i (na-1) (by omega) (by omega) (by omega)) (hiB j (by omega) hj)
   ·exact sB i j (by omega) hij hj
 rw[if_neg (by simpa using e2)]
 have hx:∀i,i<na-m->at' (X.extract m na) i=at' X (m+i):=λi hi=>EB (by omega) (by omega)
 have hy:∀i,i<n->at' (X.extract na (na+n)) i=at' X (na+i):=λi hi=>EB (by omega) (by omega)
 have zx:(X.extract m na).size=na-m:=by simp;omega
 have zy:(X.extract na (na+n)).size=n:=by simp;omega
 have fin:∀r st',cG O k (X.extract m na) (X.extract na (na+n)) r->StI κ none #[(0,na+nb,p1)] X st' ->
   wpS (model prog w) A E s (do modify λs=>setArr s (r.toList.zipIdx.foldl (λa x=>a.setIfInBounds (m+x.2) x.1) (arrOf s));let z <-get;pure (failedOf z).isNone) Q st':=λr st' hr hi=>by
  refine wpS_bind (wpS_modify (wpS_bind (wpS_get (wpS_pure ?_))))
  show Q (failedOf st').isNone _
  rw[hi.2.1,hi.2.2.2]
  have pl:r.toList.length=na-m+n:=by rw[hr.1.length_eq,List.length_append,Array.length_toList,Array.length_toList,zx,zy]
  have el:=pT (sa:=m) r.toList 0 X (by omega)
  rw[show m+0=m by omega,pl,show m+(na-m+n)=na+n by omega] at el
  have mid:(X.extract m na).toList++(X.extract na (na+n)).toList=(X.toList.drop m).take (na-m+n):=by
   rw[gC,gC,List.take_add,List.drop_drop,show m+(na-m)=na by omega,show na+n-na=n by omega]
  have memr:∀x∈r.toList,∃i,m<=i/\i<na+n/\x=at' X i:=λx hx=>by
   have:=hr.1.mem_iff.mp hx
   rw[mid] at this
   obtain⟨i,z1,z2,_,z3⟩:=oX this
   exact⟨i,z1,by omega,z3⟩
  have pm:(X.toList.take m++r.toList++X.toList.drop (na+n)).Perm X.toList:=by
   have e:X.toList=X.toList.take m++(X.toList.drop m).take (na-m+n)++X.toList.drop (na+n):=by
    conv=>lhs;rw[<-List.take_append_drop m X.toList,<-List.take_append_drop (na-m+n) (X.toList.drop m),List.drop_drop,show m+(na-m+n)=na+n by omega]
    rw[List.append_assoc]
   have h0:=hr.1
   rw[mid] at h0
   conv=>rhs;rw[e]
   exact (h0.append_left _).append_right _
  refine h _ hi.1 hi.2.1 hi.2.2.1 ?_ ?_
  ·show (List.foldl _ X r.toList.zipIdx).toList.Perm _
   rw[el];exact pm
  ·show (List.foldl _ X r.toList.zipIdx).toList.Pairwise _
   rw[el]
   have tk:∀x∈X.toList.take m,∃i,i<m/\x=at' X i:=λx hx=>by
    obtain⟨i,z1,z2,z3⟩:=iY (List.mem_reverse.mpr hx)
    exact⟨i,z1,z3⟩
   have lowR:∀i j,i<m->m<=j->j<X.size->Le O k (at' X i) (at' X j):=λi j z1 z2 z3=>by
    by_cases hj2:j<na
    ·exact sA i j (by omega) (by omega) hj2
    ·exact KeyOrd.kle_trans (lowA i z1) (sB na j (by omega) (by omega) z3)
   refine List.pairwise_append.mpr ⟨List.pairwise_append.mpr ⟨?_,hr.2,λx hx y hy=>?_⟩,?_,λx hx y hy=>?_⟩
   ·rw[List.pairwise_iff_getElem]
    intro i j zi zj hij
    rw[List.length_take,Array.length_toList] at zi zj
    have h1:i<X.size:=by omega
    have h2:j<X.size:=by omega
    have:=sA i j (by omega) (by omega) (by omega)
    simpa [at',Array.getD,h1,h2] using this
   ·obtain⟨i,z1,rfl⟩:=tk x hx
    obtain⟨j,z2,z3,rfl⟩:=memr y hy
    exact lowR i j z1 z2 (by omega)
   ·rw[List.pairwise_iff_getElem]
    intro i j zi zj hij
    rw[List.length_drop,Array.length_toList] at zi zj
    have h1:na+n+i<X.size:=by omega
    have h2:na+n+j<X.size:=by omega
    have:=sB (na+n+i) (na+n+j) (by omega) (by omega) h2
    simpa [at',Array.getD,h1,h2] using this
   ·obtain⟨j,z2,z3,rfl⟩:=iX hy
    rcases List.mem_append.mp hx with hx | hx
    ·obtain⟨i,z1,rfl⟩:=tk x hx
     exact lowR i j z1 (by omega) z3
    ·obtain⟨i,z1,z4,rfl⟩:=memr x hx
     by_cases hi2:i<na
     ·exact KeyOrd.kle_trans (sA i (na-1) (by omega) (by omega) (by omega)) (hiB j z2 z3)
     ·exact sB i j (by omega) (by omega) z3
 have ga:∀i,i<(X.extract m na).size->G (at' (X.extract m na) i):=λi hi=>by rw[hx i (by omega)];exact gx _ (by omega)
 have gb:∀i,i<(X.extract na (na+n)).size->G (at' (X.extract na (na+n)) i):=λi hi=>by rw[hy i (by omega)];exact gx _ (by omega)
 have tA:Srt O k (X.extract m na):=λi j hij hj=>by rw[hx i (by omega),hx j (by omega)];exact sA _ _ (by omega) (by omega) (by omega)
 have tB:Srt O k (X.extract na (na+n)):=λi j hij hj=>by rw[hy i (by omega),hy j (by omega)];exact sB _ _ (by omega) (by omega) (by omega)
 have tAB:∀j,j<(X.extract na (na+n)).size->Le O k (at' (X.extract na (na+n)) j) (at' (X.extract m na) ((X.extract m na).size-1)):=λj hj=>by
  rw[hy j (by omega),hx _ (by omega),zx,show m+(na-m-1)=na-1 by omega]
  exact KeyOrd.kle_of_klt (r1 j (by omega))
 have t0:Le O k (at' (X.extract na (na+n)) 0) (at' (X.extract m na) 0):=by
  rw[hy 0 (by omega),hx 0 (by omega)]
  have:=q2 m (Nat.le_refl _) (by omega)
  rw[show 0+m=m by omega] at this
  exact KeyOrd.kle_of_klt (MM this)
 split
 ·exact wpS_bind (zA C ga gb iI tA tB tAB t0 (by omega) (by omega) fin)
 ·exact wpS_bind (yZ C ga gb iI tA tB tAB t0 (by omega) (by omega) fin)
end
theorem iO {a b:Array Keyed} {i j:Nat} (h:a[i]? = b[j]?):at' a i=at' b j:=by
 unfold at';rw[Array.getD_eq_getD_getElem?,Array.getD_eq_getD_getElem?,h]
theorem fY {a:Array Keyed} {i j:Nat} (hj:j<=a.size) (m:Nat):at' (mirror a i j ((j-i) / 2)) m=if i<=m/\m<j then at' a (i+j-1-m) else at' a m:=by
 have e:=getElem?_mirror_all (i:=i) hj m
 by_cases h1:i<=m/\m<j
 ·rw[if_pos h1] at e ⊢;exact iO e
 ·rw[if_neg h1] at e ⊢;exact iO e
theorem mR {a:Array Keyed} {src d:Nat} (hs:src<a.size) (hd:d<=src) (m:Nat):at' (bubble a src d) m=if m=src-d then at' a src else if src-d<m/\m<=src then at' a (m-1) else at' a m:=by
 have e:=getElem?_bubble hs d hd m
 by_cases h1:m=src-d
 ·rw[if_pos h1] at e ⊢;exact iO e
 ·rw[if_neg h1] at e ⊢
  by_cases h2:src-d<m/\m<=src
  ·rw[if_pos h2] at e ⊢;exact iO e
  ·rw[if_neg h2] at e ⊢;exact iO e
section
variable {prog:Program} {w:World} {A:Around} {E:Value->Shared->Prop} {s:Shared} {κ:SortKind} {O:KeyOrd} {k:Keyed->O.α} {G:Keyed->Prop}
structure Lot (G:Keyed->Prop) (X:Array Keyed):Prop where
 good:∀x∈X.toList,G x
structure SB (κ:SortKind) (P:Array (Nat × Nat × Nat)) (X:Array Keyed) (st:SortSt):Prop where
 kind:PyProof.Rows.kindOf st=κ
 failed:failedOf st=none
 pend:pendingOf st=P
 perm:(arrOf st).Perm X
section
variable {X:Array Keyed} {P:Array (Nat × Nat × Nat)} {st:SortSt}
theorem SB.size (B:SB κ P X st):(arrOf st).size=X.size:=B.perm.size_eq
theorem Lot.at {Y:Array Keyed} (L:Lot G X) (p:Y.Perm X) {i:Nat} (h:i<Y.size):G (at' Y i):=by
 refine L.good _ ((Array.perm_iff_toList_perm.mp p).mem_iff.mp ?_)
 simp[at',Array.getD,h]
theorem mP (C:Cmp prog w A E s κ O k G) (L:Lot G X) (B:SB κ P X st) {i j:Nat} {Q:Option Bool->SortSt->Prop} (hi:i<X.size) (hj:j<X.size) (h:Q (some (O.blt (k (at' (arrOf st) i)) (k (at' (arrOf st) j)))) st) :
  wpS (model prog w) A E s (ltAt' i j) Q st:=by
 rw[ltAt'_eq]
 have z:=B.size
 exact wpS_bind (wpS_get (wpS_bind (bK (by omega) (wpS_bind (bK (by omega) (C _ _ _ _ (L.at B.perm (by omega)) (L.at B.perm (by omega)) B.kind h))))))
theorem JV {a:Array Keyed} {lo:Nat}:cD O k a lo (lo+1):=λi j h1 h2 h3=>by
 have:i=j:=by omega
 subst this;exact KeyOrd.kle_refl _
theorem GZ {a:Array Keyed} {lo n:Nat} (h1:1<=n) (h:cD O k a lo (lo+n)) (hl:Le O k (at' a (lo+n-1)) (at' a (lo+n))):cD O k a lo (lo+(n+1)):=λi j q1 q2 q3=>by
 by_cases hj:j<lo+n
 ·exact h i j q1 q2 hj
 ·have hj':j=lo+n:=by omega
  subst hj'
  by_cases hi:i=lo+n
  ·subst hi;exact KeyOrd.kle_refl _
  ·exact KeyOrd.kle_trans (h i (lo+n-1) q1 (by omega) (by omega)) hl
theorem hZ {i j:Nat} {Q:Unit->SortSt->Prop} (h:Q () (setArr st (mirror (arrOf st) i j ((j-i) / 2)))):wpS (model prog w) A E s (reverseSlice' i j) Q st:=by
 rw[reverseSlice'_eq];exact wpS_modify h
theorem SB.arr (B:SB κ P X st) {Y:Array Keyed} (p:Y.Perm (arrOf st)):SB κ P X (setArr st Y):=⟨B.kind,B.failed,B.pend,p.trans B.perm⟩
theorem BA (C:Cmp prog w A E s κ O k G) (L:Lot G X) (B:SB κ P X st) {lo n a:Nat} (ha:1<=a) (han:a<=n) (hz:lo+n<=X.size) (hs:cD O k (arrOf st) lo (lo+a)) {Q:Option (Option Nat) × Nat->SortSt->Prop}
  {f:Nat->Option (Option Nat) × Nat->StateT SortSt Sem (ForInStep (Option (Option Nat) × Nat))}
  (hf:∀x m,f x (none,m)=(do
   let r <-ltAt' (lo+m) (lo+m-1)
   match r with
   | some smaller=>if smaller=true then pure (ForInStep.done (none,m)) else pure (ForInStep.yield (none,m+1))
   | x=>pure (ForInStep.done (some none,m))))
  (h:∀m,a<=m->m<=n->cD O k (arrOf st) lo (lo+m)->(m=n\/O.blt (k (at' (arrOf st) (lo+m))) (k (at' (arrOf st) (lo+m-1)))=true)->Q (none,m) st):wpS (model prog w) A E s (forIn [a:n] ((none,a):Option (Option Nat) × Nat) f) Q st:=by
 refine wpS_forRange (I:=λx c st'=>st'=st/\c=(none,x)/\cD O k (arrOf st) lo (lo+x)) ?step ?fin ⟨rfl,rfl,hs⟩
 case fin =>
  rintro c st' ⟨rfl,rfl,hs'⟩
  rw[show max a n=n by omega] at hs' ⊢
  exact h n han (Nat.le_refl _) hs' (.inl rfl)
 case step =>
  rintro x c st' q1 q2 ⟨rfl,rfl,hs'⟩
  rw[hf]
  refine wpS_bind (mP C L B (by omega) (by omega) ?_)
  dsimp only
  cases hb:O.blt (k (at' (arrOf st') (lo+x))) (k (at' (arrOf st') (lo+x-1))) with
  | true =>
   rw[if_pos rfl]
   exact wpS_pure (h x q1 (by omega) hs' (.inr hb))
  | false =>
   rw[if_neg Bool.false_ne_true]
   exact wpS_pure ⟨rfl,rfl,GZ (by omega) hs' hb⟩
theorem pR {a:Array Keyed} {i j:Nat} (hj:j<=a.size) (e:∀m,i<=m->m<j->k (at' a m)=k (at' a (j-1))) (m:Nat):k (at' (mirror a i j ((j-i) / 2)) m)=k (at' a m):=by
 rw[fY hj]
 split
 ·rw[e _ (by omega) (by omega),e m (by omega) (by omega)]
 ·rfl
noncomputable def Fal (O:KeyOrd) (k:Keyed->O.α) (a:Array Keyed) (lo hi:Nat):Prop:=∀i j,lo<=i->i<=j->j<hi->Le O k (at' a j) (at' a i)
theorem iU {a:Array Keyed} {lo n:Nat} (h1:1<=n) (h:Fal O k a lo (lo+n)) (hl:Le O k (at' a (lo+n)) (at' a (lo+n-1))):Fal O k a lo (lo+(n+1)):=λi j q1 q2 q3=>by
 by_cases hj:j<lo+n
 ·exact h i j q1 q2 hj
 ·have hj':j=lo+n:=by omega
  subst hj'
  by_cases hi:i=lo+n
  ·subst hi;exact KeyOrd.kle_refl _
  ·exact KeyOrd.kle_trans hl (h i (lo+n-1) q1 (by omega) (by omega))
theorem pO {a b:Array Keyed} {lo n:Nat} (e:∀m,k (at' b m)=k (at' a m)) (h:Fal O k a lo n):Fal O k b lo n:=λi j q1 q2 q3=>by
 unfold Le;rw[e,e];exact h i j q1 q2 q3
noncomputable def vA (lo nrem n:Nat):StateT SortSt Sem (Option Nat):=do
 reverseSlice' lo (lo+n)
 let r <-forIn [n:nrem] ((none,n):Option (Option Nat) × Nat) λ_ c=>do
  let x <-ltAt' (lo+c.2) (lo+c.2-1)
  match x with
  | some smaller=>if smaller=true then pure (ForInStep.done (none,c.2)) else pure (ForInStep.yield (none,c.2+1))
  | x=>pure (ForInStep.done (some none,c.2))
 match r.1 with
 | some q=>pure q
 | none=>pure (some r.2)
noncomputable def uZ (lo nrem n:Nat):StateT SortSt Sem (Option Nat):=do
 liftM (rule "list.sort.descending-run")
 let r <-forIn [n+1:nrem] ((none,n+1,0):Option (Option Nat) × Nat × Nat) λ_ c=>do
  let x <-ltAt' (lo+c.2.1) (lo+c.2.1-1)
  match x with
  | some smaller =>
   if smaller=true then
    if c.2.2 > 0 then do
     reverseSlice' (lo+c.2.1-(c.2.2+1)) (lo+c.2.1)
     pure (ForInStep.yield (none,c.2.1+1,0))
    else pure (ForInStep.yield (none,c.2.1+1,0))
   else do
    let x <-ltAt' (lo+c.2.1-1) (lo+c.2.1)
    match x with
    | some larger=>if larger=true then pure (ForInStep.done (none,c.2.1,c.2.2)) else pure (ForInStep.yield (none,c.2.1+1,c.2.2+1))
    | x=>pure (ForInStep.done (some none,c.2.1,c.2.2))
  | x=>pure (ForInStep.done (some none,c.2.1,c.2.2))
 match r.1 with
 | some q=>pure q
 | none =>
  if r.2.2 > 0 then do
   reverseSlice' (lo+r.2.1-(r.2.2+1)) (lo+r.2.1)
   vA lo nrem r.2.1
  else vA lo nrem r.2.1
theorem wZ (C:Cmp prog w A E s κ O k G) (L:Lot G X) (B:SB κ P X st) {lo n nrem:Nat} (h1:1<=n) (h2:n<=nrem) (hz:lo+nrem<=X.size) (hs:Fal O k (arrOf st) lo (lo+n)) {Q:Option Nat->SortSt->Prop}
  (h:∀m st',SB κ P X st'->1<=m->m<=nrem->cD O k (arrOf st') lo (lo+m)->(∀i,i<lo->at' (arrOf st') i=at' (arrOf st) i)->Q (some m) st'):wpS (model prog w) A E s (vA lo nrem n) Q st:=by
 unfold vA
 have z:=B.size
 refine wpS_bind (hZ ?_)
 have B2:SB κ P X (setArr st (mirror (arrOf st) lo (lo+n) ((lo+n-lo) / 2))):=B.arr (mirror_perm _ _ _ _)
 have am:=λi=>fY (a:=arrOf st) (i:=lo) (j:=lo+n) (by omega) i
 have keep:∀i,i<lo->at' (arrOf (setArr st (mirror (arrOf st) lo (lo+n) ((lo+n-lo) / 2)))) i=at' (arrOf st) i:=λi hi=>by
  show at' (mirror _ _ _ _) i=_
  rw[am,if_neg (by omega)]
 refine wpS_bind (BA C L B2 h1 h2 hz (λi j a1 a2 a3=>?_) (λx m=>rfl) λq q1 q2 q3 _=>?_)
 ·show Le O k (at' (mirror _ _ _ _) i) (at' (mirror _ _ _ _) j)
  rw[am,am,if_pos (by omega),if_pos (by omega)]
  exact hs _ _ (by omega) (by omega) (by omega)
 ·exact wpS_pure (h q _ B2 (by omega) q2 q3 keep)
theorem wY (C:Cmp prog w A E s κ O k G) (L:Lot G X) (B:SB κ P X st) {lo n nrem:Nat} (h1:1<=n) (h2:n+1<=nrem) (hz:lo+nrem<=X.size) (hs:Fal O k (arrOf st) lo (lo+(n+1))) {Q:Option Nat->SortSt->Prop}
  (h:∀m st',SB κ P X st'->1<=m->m<=nrem->cD O k (arrOf st') lo (lo+m)->(∀i,i<lo->at' (arrOf st') i=at' (arrOf st) i)->Q (some m) st'):wpS (model prog w) A E s (uZ lo nrem n) Q st:=by
 unfold uZ
 refine wpS_bind (wpS_lift (wpAny_rule ⟨rfl,?_⟩))
 refine wpS_bind (wpS_mono (wpS_forRange (I:=λx c st'=>∃q,c=(none,x,q)/\SB κ P X st'/\Fal O k (arrOf st') lo (lo+x)/\q+1<=x/\(∀m,lo+x-(q+1)<=m->m<lo+x->k (at' (arrOf st') m)=k (at' (arrOf st') (lo+x-1)))/\∀i,i<lo->at' (arrOf st') i=at' (arrOf st) i)
  (Q:=λc st'=>∃x q,c=(none,x,q)/\n+1<=x/\x<=nrem/\SB κ P X st'/\Fal O k (arrOf st') lo (lo+x)/\q+1<=x/\(∀m,lo+x-(q+1)<=m->m<lo+x->k (at' (arrOf st') m)=k (at' (arrOf st') (lo+x-1)))/\∀i,i<lo->at' (arrOf st') i=at' (arrOf st) i) ?step ?fin ⟨0,rfl,B,hs,by omega,λm q1 q2=>by congr 2;omega,λi _=>rfl⟩) ?post)
 case fin =>
  rintro c st' ⟨q,rfl,B',f',q1,q2,q3⟩
  rw[show max (n+1) nrem=nrem by omega] at f' q1 q2 ⊢
  exact⟨nrem,q,rfl,h2,Nat.le_refl _,B',f',q1,q2,q3⟩
 case step =>
  rintro x c st' x1 x2 ⟨q,rfl,B',f',q1,q2,q3⟩
  have z:=B'.size
  dsimp only
  refine wpS_bind (mP C L B' (by omega) (by omega) ?_)
  dsimp only
  cases hb:O.blt (k (at' (arrOf st') (lo+x))) (k (at' (arrOf st') (lo+x-1))) with
  | true =>
   rw[if_pos rfl]
   by_cases hq:q > 0
   ·rw[if_pos hq]
    have km:=pR (a:=arrOf st') (i:=lo+x-(q+1)) (j:=lo+x) (by omega) q2
    refine wpS_bind (hZ (wpS_pure ⟨0,rfl,B'.arr (mirror_perm _ _ _ _),pO km (iU (by omega) f' (KeyOrd.kle_of_klt hb)),by omega,λm m1 m2=>by congr 2;omega,λi hi=>?_⟩))
    show at' (mirror _ _ _ _) i=_
    rw[fY (by omega),if_neg (by omega)]
    exact q3 i hi
   ·rw[if_neg hq]
    exact wpS_pure ⟨0,rfl,B',iU (by omega) f' (KeyOrd.kle_of_klt hb),by omega,λm m1 m2=>by congr 2;omega,q3⟩
  | false =>
   rw[if_neg Bool.false_ne_true]
   refine wpS_bind (mP C L B' (by omega) (by omega) ?_)
   dsimp only
   cases hc:O.blt (k (at' (arrOf st') (lo+x-1))) (k (at' (arrOf st') (lo+x))) with
   | true =>
    rw[if_pos rfl]
    exact wpS_pure ⟨x,q,rfl,x1,by omega,B',f',q1,q2,q3⟩
   | false =>
    rw[if_neg Bool.false_ne_true]
    have e:k (at' (arrOf st') (lo+x))=k (at' (arrOf st') (lo+x-1)):=O.total _ _ hb hc
    refine wpS_pure ⟨q+1,rfl,B',iU (by omega) f' (by unfold Le;rw[e];exact KeyOrd.kle_refl _),by omega,λm m1 m2=>?_,q3⟩
    rw[show lo+(x+1)-1=lo+x by omega]
    by_cases hm:m=lo+x
    ·rw[hm]
    ·rw[e];exact q2 m (by omega) (by omega)
 case post =>
  rintro c st' ⟨x,q,rfl,x1,x2,B',f',q1,q2,q3⟩
  have z:=B'.size
  dsimp only
  by_cases hq:q > 0
  ·rw[if_pos hq]
   have km:=pR (a:=arrOf st') (i:=lo+x-(q+1)) (j:=lo+x) (by omega) q2
   refine wpS_bind (hZ (wZ C L (B'.arr (mirror_perm _ _ _ _)) (by omega) x2 hz (pO km f') λm st2 b1 b2 b3 b4 b5=>h m st2 b1 b2 b3 b4 λi hi=>?_))
   rw[b5 i hi]
   show at' (mirror _ _ _ _) i=_
   rw[fY (by omega),if_neg (by omega)]
   exact q3 i hi
  ·rw[if_neg hq]
   exact wZ C L B' (by omega) x2 hz f' λm st2 b1 b2 b3 b4 b5=>h m st2 b1 b2 b3 b4 λi hi=>by rw[b5 i hi];exact q3 i hi
theorem LD (lo nrem:Nat):countRun' lo nrem=(do
  let r <-forIn [1:nrem] ((none,1):Option (Option Nat) × Nat) λ_ c=>do
   let x <-ltAt' (lo+c.2) (lo+c.2-1)
   match x with
   | some smaller=>if smaller=true then pure (ForInStep.done (none,c.2)) else pure (ForInStep.yield (none,c.2+1))
   | x=>pure (ForInStep.done (some none,c.2))
  match r.1 with
  | some q=>pure q
  | none =>
   if (r.2 == nrem)=true then pure (some r.2)
   else if r.2 > 1 then do
    let x <-ltAt' lo (lo+r.2-1)
    match x with
    | some rose=>if rose=true then pure (some r.2) else do
      reverseSlice' lo (lo+r.2)
      uZ lo nrem r.2
    | x=>pure none
   else uZ lo nrem r.2):=by
 rw[countRun'_eq]
 unfold uZ vA
 dsimp only
 congr 1
 funext r
 obtain⟨r,n⟩:=r
 cases r with
 | some r=>rfl
 | none =>
  dsimp only
  split
  ·rfl
  ·split
   ·congr 1
    funext x
    cases x with
    | none=>rfl
    | some x =>
     dsimp only
     split
     ·rfl
     ·congr 1
      funext _
      congr 1
      funext _
      congr 1
      funext r2
      obtain⟨r2,n2,q2⟩:=r2
      cases r2 with
      | some r2=>rfl
      | none =>
       dsimp only
       split
       ·congr 1
        funext _
        congr 1
        funext _
        congr 1
        funext r3
        obtain⟨r3,n3⟩:=r3
        cases r3 <;> rfl
       ·congr 1
        funext _
        congr 1
        funext r3
        obtain⟨r3,n3⟩:=r3
        cases r3 <;> rfl
   ·congr 1
    funext _
    congr 1
    funext r2
    obtain⟨r2,n2,q2⟩:=r2
    cases r2 with
    | some r2=>rfl
    | none =>
     dsimp only
     split
     ·congr 1
      funext _
      congr 1
      funext _
      congr 1
      funext r3
      obtain⟨r3,n3⟩:=r3
      cases r3 <;> rfl
     ·congr 1
      funext _
      congr 1
      funext r3
      obtain⟨r3,n3⟩:=r3
      cases r3 <;> rfl
theorem wX (C:Cmp prog w A E s κ O k G) (L:Lot G X) (B:SB κ P X st) {lo n:Nat} (h1:1<=n) (hz:lo+n<=X.size) {Q:Option Nat->SortSt->Prop}
  (h:∀m st',SB κ P X st'->1<=m->m<=n->cD O k (arrOf st') lo (lo+m)->(∀i,i<lo->at' (arrOf st') i=at' (arrOf st) i)->Q (some m) st'):wpS (model prog w) A E s (countRun' lo n) Q st:=by
 rw[LD]
 have z:=B.size
 refine wpS_bind (BA C L B (Nat.le_refl 1) h1 hz JV (λx m=>rfl) λm m1 m2 m3 m4=>?_)
 dsimp only
 by_cases e1:m=n
 ·rw[if_pos (by simpa using e1)]
  exact wpS_pure (h m st B m1 m2 m3 λi _=>rfl)
 rw[if_neg (by simpa using e1)]
 have dn:=m4.resolve_left e1
 by_cases e2:m > 1
 ·rw[if_pos e2]
  refine wpS_bind (mP C L B (by omega) (by omega) ?_)
  dsimp only
  cases hb:O.blt (k (at' (arrOf st) lo)) (k (at' (arrOf st) (lo+m-1))) with
  | true =>
   rw[if_pos rfl]
   exact wpS_pure (h m st B m1 m2 m3 λi _=>rfl)
  | false =>
   rw[if_neg Bool.false_ne_true]
   have all:∀i,lo<=i->i<lo+m->k (at' (arrOf st) i)=k (at' (arrOf st) (lo+m-1)):=λi a1 a2 =>
    KeyOrd.kle_antisymm (m3 i (lo+m-1) a1 (by omega) (by omega)) (KeyOrd.kle_trans (show O.kle _ _ from hb) (m3 lo i (by omega) a1 a2))
   have km:=pR (a:=arrOf st) (i:=lo) (j:=lo+m) (by omega) all
   have f0:Fal O k (arrOf st) lo (lo+m):=λi j a1 a2 a3=>by unfold Le;rw[all i a1 (by omega),all j (by omega) a3];exact KeyOrd.kle_refl _
   refine wpS_bind (hZ (wY C L (B.arr (mirror_perm _ _ _ _)) m1 (by omega) hz (pO km (iU m1 f0 (KeyOrd.kle_of_klt dn))) λq st2 b1 b2 b3 b4 b5=>h q st2 b1 b2 b3 b4 λi hi=>?_))
   rw[b5 i hi]
   show at' (mirror _ _ _ _) i=_
   rw[fY (by omega),if_neg (by omega)]
 ·rw[if_neg e2]
  have:m=1:=by omega
  subst this
  have f0:Fal O k (arrOf st) lo (lo+1):=λi j a1 a2 a3=>by
   have:i=j:=by omega
   subst this;exact KeyOrd.kle_refl _
  exact wY C L B (Nat.le_refl 1) (by omega) hz (iU (Nat.le_refl 1) f0 (KeyOrd.kle_of_klt dn)) h
theorem HN (C:Cmp prog w A E s κ O k G) (L:Lot G X) (B:SB κ P X st) {lo n ok:Nat} (h1:1<=ok) (h2:ok<=n) (hz:lo+n<=X.size) (hs:cD O k (arrOf st) lo (lo+ok)) {Q:Bool->SortSt->Prop}
  (h:∀st',SB κ P X st'->cD O k (arrOf st') lo (lo+n)->(∀i,i<lo->at' (arrOf st') i=at' (arrOf st) i)->Q true st'):wpS (model prog w) A E s (binarySort' lo n ok) Q st:=by
 rw[binarySort'_eq]
 refine wpS_bind (wpS_mono (wpS_forRange (I:=λx c st'=>c=(none,())/\SB κ P X st'/\cD O k (arrOf st') lo (lo+x)/\∀i,i<lo->at' (arrOf st') i=at' (arrOf st) i)
  (Q:=λc st'=>c=(none,())/\SB κ P X st'/\cD O k (arrOf st') lo (lo+n)/\∀i,i<lo->at' (arrOf st') i=at' (arrOf st) i) ?step ?fin ⟨rfl,B,by rw[show max ok 1=ok by omega];exact hs,λi _=>rfl⟩) ?post)
 case post =>
  rintro c st' ⟨rfl,B',hs',kp⟩
  exact wpS_pure (h st' B' hs' kp)
 case fin =>
  rintro c st' ⟨rfl,B',hs',kp⟩
  rw[show max (max ok 1) n=n by omega] at hs'
  exact⟨rfl,B',hs',kp⟩
 case step =>
  rintro x c st1 x1 x2 ⟨rfl,B1,s1,kp⟩
  have z:=B1.size
  dsimp only
  refine wpS_bind (wpS_mono (wpS_forRange (I:=λy c st'=>st'=st1/\∃l r,c=(none,l,r)/\l<=r/\r<=x/\r-l<=x-y/\(∀i,i<l->Le O k (at' (arrOf st1) (lo+i)) (at' (arrOf st1) (lo+x)))/\∀i,r<=i->i<x->Le O k (at' (arrOf st1) (lo+x)) (at' (arrOf st1) (lo+i)))
   (Q:=λc st'=>st'=st1/\∃l r,c=(none,l,r)/\l<=x/\(∀i,i<l->Le O k (at' (arrOf st1) (lo+i)) (at' (arrOf st1) (lo+x)))/\∀i,l<=i->i<x->Le O k (at' (arrOf st1) (lo+x)) (at' (arrOf st1) (lo+i))) ?is ?iff ⟨rfl,0,x,rfl,by omega,by omega,by omega,λi hi=>absurd hi (by omega),λi a b=>absurd b (by omega)⟩) ?ip)
  case iff =>
   rintro c st' ⟨rfl,l,r,rfl,a1,a2,a3,a4,a5⟩
   have:l=r:=by omega
   subst this
   exact⟨rfl,l,l,rfl,a2,a4,a5⟩
  case is =>
   rintro y c st' _ hy ⟨rfl,l,r,rfl,a1,a2,a3,a4,a5⟩
   dsimp only
   by_cases hg:l ≥ r
   ·have:l=r:=by omega
    subst this
    rw[if_pos hg]
    exact wpS_pure ⟨rfl,l,l,rfl,a2,a4,a5⟩
   ·rw[if_neg hg]
    refine wpS_bind (mP C L B1 (by omega) (by omega) ?_)
    dsimp only
    cases hb:O.blt (k (at' (arrOf st') (lo+x))) (k (at' (arrOf st') (lo+(l+r) / 2))) with
    | true =>
     rw[if_pos rfl]
     exact wpS_pure ⟨rfl,_,_,rfl,by omega,by omega,by omega,a4,λi q1 q2=>KeyOrd.kle_trans (KeyOrd.kle_of_klt hb) (s1 _ _ (by omega) (by omega) (by omega))⟩
    | false =>
     rw[if_neg Bool.false_ne_true]
     exact wpS_pure ⟨rfl,_,_,rfl,by omega,by omega,by omega,λi q1=>KeyOrd.kle_trans (s1 (lo+i) (lo+(l+r) / 2) (by omega) (by omega) (by omega)) hb,a5⟩
  case ip =>
   rintro c st' ⟨rfl,l,r,rfl,a2,a4,a5⟩
   dsimp only
   rw[moveDown'_eq]
   refine wpS_bind (wpS_modify (wpS_pure ⟨rfl,B1.arr (bubble_perm _ _ _),λi j q1 q2 q3=>?_,λi hi=>?_⟩))
   ·show Le O k (at' (bubble _ _ _) i) (at' (bubble _ _ _) j)
    rw[mR (by omega) (by omega),mR (by omega) (by omega),show lo+x-(lo+x-(lo+l))=lo+l by omega]
    have a4':∀i,lo<=i->i<lo+l->Le O k (at' (arrOf st') i) (at' (arrOf st') (lo+x)):=λi z1 z2=>by
     have:=a4 (i-lo) (by omega)
     rwa [show lo+(i-lo)=i by omega] at this
    have a5':∀i,lo+l<=i->i<lo+x->Le O k (at' (arrOf st') (lo+x)) (at' (arrOf st') i):=λi z1 z2=>by
     have:=a5 (i-lo) (by omega) (by omega)
     rwa [show lo+(i-lo)=i by omega] at this
    by_cases e1:i=lo+l
    ·rw[if_pos e1]
     by_cases e2:j=lo+l
     ·rw[if_pos e2];exact KeyOrd.kle_refl _
     ·rw[if_neg e2,if_pos (by omega)];exact a5' _ (by omega) (by omega)
    ·rw[if_neg e1]
     by_cases e2:j=lo+l
     ·rw[if_pos e2,if_neg (by omega)];exact a4' _ q1 (by omega)
     ·rw[if_neg e2]
      by_cases e3:lo+l<i/\i<=lo+x
      ·rw[if_pos e3,if_pos (by omega)];exact s1 _ _ (by omega) (by omega) (by omega)
      ·rw[if_neg e3]
       by_cases e4:lo+l<j/\j<=lo+x
       ·rw[if_pos e4];exact s1 _ _ q1 (by omega) (by omega)
       ·rw[if_neg e4];exact s1 _ _ q1 (by omega) (by omega)
   ·show at' (bubble _ _ _) i=_
    rw[mR (by omega) (by omega),if_neg (by omega),if_neg (by omega)]
    exact kp i hi
end
end
theorem IX {n:Nat} (h1:64<=n) (h2:n<128):minRun' n n 0=n / 2+n % 2:=by
 obtain⟨f,hf⟩:∃f,n=f+2:=⟨n-2,by omega⟩
 have e:minRun' (f+1+1) n 0=n / 2+n % 2:=by
  rw[minRun'_succ,if_neg (by omega),minRun'_succ,if_pos (by omega)]
  omega
 rwa [show f+1+1=n by omega] at e
section
variable {prog:Program} {w:World} {A:Around} {E:Value->Shared->Prop} {s:Shared} {κ:SortKind} {O:KeyOrd} {k:Keyed->O.α} {G:Keyed->Prop} {X:Array Keyed} {st:SortSt}
noncomputable def OG (κ:SortKind) (O:KeyOrd) (k:Keyed->O.α) (X:Array Keyed) (st:SortSt):Prop :=
 (SB κ #[(0,X.size,0)] X st/\cD O k (arrOf st) 0 X.size) \/
 ∃n1 pw,0<n1/\n1<X.size/\SB κ #[(0,n1,pw),(n1,X.size-n1,0)] X st/\cD O k (arrOf st) 0 n1/\cD O k (arrOf st) n1 X.size
theorem SB.push {P P':Array (Nat × Nat × Nat)} (B:SB κ P X st):SB κ P' X (setPending st P'):=⟨B.kind,B.failed,rfl,B.perm⟩
theorem xA (C:Cmp prog w A E s κ O k G) (L:Lot G X) (B:SB κ #[] X st) (h1:64<=X.size) (h2:X.size<128) {Q:Unit->SortSt->Prop}
  (h:∀st',(arrOf st').Perm X->failedOf st'=none->cD O k (arrOf st') 0 X.size->Q () st'):wpS (model prog w) A E s sortRuns' Q st:=by
 rw[sortRuns'_eq]
 refine wpS_bind (wpS_get ?_)
 dsimp only
 rw[B.size,IX h1 h2]
 generalize hmr:X.size / 2+X.size % 2=mr
 refine wpS_bind (wpS_mono (wpS_forRange
  (I:=λx c st'=>(x=0/\c=(none,0)/\SB κ #[] X st')\/(x=1/\∃n1,c=(none,n1)/\mr<=n1/\n1<=X.size/\SB κ #[(0,n1,0)] X st'/\cD O k (arrOf st') 0 n1)\/(2<=x/\c=(none,X.size)/\OG κ O k X st'))
  (Q:=λc st'=>c=(none,X.size)/\OG κ O k X st') ?step ?fin (.inl ⟨rfl,rfl,B⟩)) ?post)
 case fin =>
  rintro c st' (⟨hx,_⟩ | ⟨hx,_⟩ | ⟨_,hc,hD⟩)
  ·omega
  ·omega
  ·exact⟨hc,hD⟩
 case step =>
  rintro x c st1 _ hx (⟨rfl,rfl,B1⟩ | ⟨rfl,n1,rfl,m1,m2,B1,s1⟩ | ⟨x2,rfl,hD⟩)
  ·dsimp only
   rw[if_neg (by omega)]
   simp only[Nat.sub_zero,Nat.zero_add]
   refine wpS_bind (wX C L B1 (lo:=0) (by omega) (by omega) λm st2 B2 m1 m2 s2 _=>?_)
   rw[Nat.zero_add] at s2
   dsimp only
   by_cases hlt:m<mr
   ·rw[if_pos hlt]
    refine wpS_bind (wpS_lift (wpAny_rule ⟨rfl,?_⟩))
    refine wpS_bind (HN C L B2 (lo:=0) (n:=min X.size mr) m1 (by omega) (by omega) (by rw[Nat.zero_add];exact s2) λst3 B3 s3 _=>?_)
    rw[Nat.zero_add] at s3
    simp only[Bool.not_true,Bool.false_eq_true,if_false]
    refine wpS_bind (wpS_get ?_)
    rw[show (pendingOf st3).back? = none by rw[B3.pend];rfl]
    dsimp only
    exact wpS_bind (wpS_modify (wpS_pure (.inr (.inl ⟨by first | exact rfl | trivial,_,rfl,by omega,by omega,by rw[B3.pend];exact B3.push,s3⟩))))
   ·rw[if_neg hlt]
    refine wpS_bind (wpS_get ?_)
    rw[show (pendingOf st2).back? = none by rw[B2.pend];rfl]
    dsimp only
    exact wpS_bind (wpS_modify (wpS_pure (.inr (.inl ⟨by first | exact rfl | trivial,m,rfl,by omega,m2,by rw[B2.pend];exact B2.push,s2⟩))))
  ·dsimp only
   by_cases hge:n1 ≥ X.size
   ·rw[if_pos hge]
    have:n1=X.size:=by omega
    subst this
    exact wpS_pure ⟨rfl,.inl ⟨B1,s1⟩⟩
   ·rw[if_neg hge]
    refine wpS_bind (wX C L B1 (lo:=n1) (n:=X.size-n1) (by omega) (by omega) λm st2 B2 k1 k2 s2 kp=>?_)
    dsimp only
    have s12:cD O k (arrOf st2) 0 n1:=λi j a1 a2 a3=>by rw[kp i (by omega),kp j a3];exact s1 i j a1 a2 a3
    by_cases hlt:m<mr
    ·rw[if_pos hlt]
     refine wpS_bind (wpS_lift (wpAny_rule ⟨rfl,?_⟩))
     refine wpS_bind (HN C L B2 (lo:=n1) (n:=min (X.size-n1) mr) k1 (by omega) (by omega) s2 λst3 B3 s3 kp3=>?_)
     rw[if_neg (by simp)]
     have s33:cD O k (arrOf st3) 0 n1:=λi j a1 a2 a3=>by rw[kp3 i (by omega),kp3 j a3];exact s12 i j a1 a2 a3
     have s34:cD O k (arrOf st3) n1 X.size:=by rw[show n1+min (X.size-n1) mr=X.size by omega] at s3;exact s3
     refine wpS_bind (wpS_get ?_)
     rw[show (pendingOf st3).back? = some (0,n1,0) by rw[B3.pend];rfl]
     dsimp only
     refine wpS_bind (wpS_mono (wpS_forRange (I:=λy c st'=>c=(none,())/\st'=st3) (Q:=λc st'=>c=(none,())/\st'=st3) (λy c st' _ _ hh=>?_) (λc st' hh=>hh) ⟨rfl,rfl⟩) λc st' hh=>?_)
     ·obtain⟨rfl,rfl⟩:=hh
      refine wpS_bind (wpS_get ?_)
      rw[B3.pend]
      exact wpS_pure ⟨rfl,rfl⟩
     ·obtain⟨rfl,rfl⟩:=hh
      dsimp only
      refine wpS_bind (wpS_modify (wpS_bind (wpS_modify (wpS_pure (.inr (.inr ⟨Nat.le_refl _,?_,.inr ⟨n1,power' X.size (2*0+n1) (2*0+n1+n1+min (X.size-n1) mr) X.size,by omega,by omega,⟨B3.kind,B3.failed,?_,B3.perm⟩,s33,s34⟩⟩))))))
      ·rw[show n1+min (X.size-n1) mr=X.size by omega]
      ·show ((pendingOf st').modify ((pendingOf st').size-1) _).push (n1,min (X.size-n1) mr,0)=_
       rw[B3.pend,show min (X.size-n1) mr=X.size-n1 by omega]
       rfl
    ·rw[if_neg hlt]
     have s24:cD O k (arrOf st2) n1 X.size:=by rw[show n1+m=X.size by omega] at s2;exact s2
     refine wpS_bind (wpS_get ?_)
     rw[show (pendingOf st2).back? = some (0,n1,0) by rw[B2.pend];rfl]
     dsimp only
     refine wpS_bind (wpS_mono (wpS_forRange (I:=λy c st'=>c=(none,())/\st'=st2) (Q:=λc st'=>c=(none,())/\st'=st2) (λy c st' _ _ hh=>?_) (λc st' hh=>hh) ⟨rfl,rfl⟩) λc st' hh=>?_)
     ·obtain⟨rfl,rfl⟩:=hh
      refine wpS_bind (wpS_get ?_)
      rw[B2.pend]
      exact wpS_pure ⟨rfl,rfl⟩
     ·obtain⟨rfl,rfl⟩:=hh
      dsimp only
      refine wpS_bind (wpS_modify (wpS_bind (wpS_modify (wpS_pure (.inr (.inr ⟨Nat.le_refl _,?_,.inr ⟨n1,power' X.size (2*0+n1) (2*0+n1+n1+m) X.size,by omega,by omega,⟨B2.kind,B2.failed,?_,B2.perm⟩,s12,s24⟩⟩))))))
      ·rw[show n1+m=X.size by omega]
      ·show ((pendingOf st').modify ((pendingOf st').size-1) _).push (n1,m,0)=_
       rw[B2.pend,show m=X.size-n1 by omega]
       rfl
  ·dsimp only
   rw[if_pos (Nat.le_refl _)]
   exact wpS_pure ⟨rfl,hD⟩
 case post =>
  rintro c st' ⟨rfl,hD⟩
  dsimp only
  rcases hD with ⟨B2,s2⟩ | ⟨n1,pw,a1,a2,B2,s2,s3⟩
  ·refine wpS_bind (wpS_mono (wpS_forRange (I:=λ_ c st''=>c=(none,())/\st''=st') (Q:=λc st''=>c=(none,())/\st''=st') (λy c st'' _ _ hh=>?_) (λc st'' hh=>hh) ⟨rfl,rfl⟩) λc st'' hh=>?_)
   ·obtain⟨rfl,rfl⟩:=hh
    refine wpS_bind (wpS_get ?_)
    rw[if_pos (by rw[B2.pend];exact Nat.le_refl 1)]
    exact wpS_pure ⟨rfl,rfl⟩
   ·obtain⟨rfl,rfl⟩:=hh
    exact wpS_pure (h _ B2.perm B2.failed s2)
  ·have z:=B2.size
   refine wpS_bind (wpS_mono (wpS_forRange (I:=λy c st''=>c=(none,())/\((y=0/\st''=st')\/(1<=y/\(pendingOf st'').size=1/\(arrOf st'').Perm X/\failedOf st''=none/\cD O k (arrOf st'') 0 X.size)))
    (Q:=λc st''=>c=(none,())/\(arrOf st'').Perm X/\failedOf st''=none/\cD O k (arrOf st'') 0 X.size) ?ss ?ff ⟨rfl,.inl ⟨rfl,rfl⟩⟩) ?pp)
   case ff =>
    rintro c st'' ⟨rfl,⟨hy,_⟩ | ⟨_,_,q⟩⟩
    ·omega
    ·exact⟨rfl,q⟩
   case pp =>
    rintro c st'' ⟨rfl,q1,q2,q3⟩
    exact wpS_pure (h _ q1 q2 q3)
   case ss =>
    rintro y c st'' _ hy ⟨rfl,⟨rfl,rfl⟩ | ⟨y1,y2,q⟩⟩
    ·refine wpS_bind (wpS_get ?_)
     rw[B2.pend]
     refine wpS_bind (yY C (X:=arrOf st'') (λi hi=>L.at B2.perm hi) ⟨B2.kind,B2.failed,B2.pend,rfl⟩ (by omega) a1 (by omega) s2 (by rw[z];exact s3) λst3 q1 q2 q3 q4 q5=>?_)
     rw[if_neg (by simp)]
     refine wpS_pure ⟨rfl,.inr ⟨by omega,by rw[q3];rfl,(Array.perm_iff_toList_perm.mpr q4).trans B2.perm,q2,?_⟩⟩
     have zz:(arrOf st3).size=X.size:=((Array.perm_iff_toList_perm.mpr q4).trans B2.perm).size_eq
     intro i j _ hij hj
     by_cases e:i=j
     ·subst e;exact KeyOrd.kle_refl _
     ·have:=List.pairwise_iff_getElem.mp q5 i j (by rw[Array.length_toList];omega) (by rw[Array.length_toList];omega) (by omega)
      have g1:i<(arrOf st3).size:=by omega
      have g2:j<(arrOf st3).size:=by omega
      simpa [at',Array.getD,g1,g2] using this
    ·refine wpS_bind (wpS_get ?_)
     rw[if_pos (by rw[y2];exact Nat.le_refl 1)]
     exact wpS_pure ⟨rfl,q⟩
end
end L2.R2
set_option Elab.async false
set_option linter.all false
set_option maxRecDepth 100000
set_option maxHeartbeats 3200000
namespace L2.R2
open PySem PySem.W PySem.SetTable PyProof.Rows
section
variable {prog:Program} {w:World} {A:Around} {E:Value->Shared->Prop} {s:Shared}
theorem yQ {a:Addr} {vs:List Value} {nss:List (List Int)} {n:Nat} {P:PySem.Fin->Shared->Prop} (ho:s.heap.get? a=some (seqObj "list" vs.toArray n)) (K:KeysAt prog w s.heap vs nss) (hn:∀ns∈nss,ns≠[]) (h64:vs.length<128)
  (q:∀h' out mss c,h'.get? a=some (seqObj "list" (List.toArray out) c)->KeysAt prog w h' out mss->(∀v∈out,v∈vs)->mss.Perm nss->mss.Pairwise (λx y=>cO y x=false)->(∀b o,b≠a->s.heap.get? b=some o->h'.get? b=some o)->P (.done (.ret .none)) { s with heap:=h' }) :
  wpAny (model prog w) A (Builtin.«list.sort» ⟨[.ref a],[]⟩) P E s:=by
 by_cases h64':vs.length<64
 ·exact CW ho K hn h64' q
 have lt:a<s.heap.objs.size:=Heap.lt_size ho
 rw[list_sort_plain]
 apply wpAny_bind;refine listItems_at ho rfl ?_
 apply wpAny_bind;refine listUpdate_at ho rfl ?_ (by rw[List.size_toArray,sizeLine_eq];omega) (Nat.zero_le _)
 obtain⟨e1,ho1⟩:∃e1,(s.heap.update a (Obj.mapSeq λ_=>(#[]:Array Value))).get? a=some (seqObj "list" #[] e1):=⟨_,get?_update_seq ho λ_=>#[]⟩
 have up1:∀b o,b≠a->s.heap.get? b=some o->(s.heap.update a (Obj.mapSeq λ_=>(#[]:Array Value))).get? b=some o:=λb o hb e=>(Heap.get?_update_other _ _ (Ne.symm hb)).trans e
 generalize s.heap.update a (Obj.mapSeq λ_=>(#[]:Array Value))=h1 at ho1 up1
 apply wpAny_bind;refine seqEpoch_at ho1 rfl ?_
 apply wpAny_bind;refine wpAny_newTuple ?_ (by show vs.length<=_;rw[sizeLine_eq];omega)
 apply wpAny_bind;refine wpAny_newList ?_ (Nat.zero_le _)
 apply wpAny_holding
 show wpAny (model prog w) A _ P E { s with heap:=(h1.push (seqObj "tuple" vs.toArray 0)).push (seqObj "list" #[] 0) }
 have up2:∀b o,b≠a->s.heap.get? b=some o->((h1.push (seqObj "tuple" vs.toArray 0)).push (seqObj "list" #[] 0)).get? b=some o:=λb o hb e=>Heap.get?_push_of_some _ (Heap.get?_push_of_some _ (up1 b o hb e))
 have ho2:((h1.push (seqObj "tuple" vs.toArray 0)).push (seqObj "list" #[] 0)).get? a=some (seqObj "list" #[] e1):=Heap.get?_push_of_some _ (Heap.get?_push_of_some _ ho1)
 generalize (h1.push (seqObj "tuple" vs.toArray 0)).push (seqObj "list" #[] 0)=h2 at up2 ho2
 have K2:=K.other ho up2
 have fin:∀(out:List Value) (mss:List (List Int)) (st':SortSt),(arrOf st').map (·.2)=out.toArray->failedOf st'=none->KeysAt prog w h2 out mss->(∀v∈out,v∈vs)->mss.Perm nss->mss.Pairwise (λx y=>cO y x=false)->out.length<=128 ->
   wpAny (model prog w) A (do
    let sorted:=(arrOf st').map (·.2)
    let touched:=(<-seqEpoch a) != e1
    Builtin.List.listUpdate (.ref a) λ_=>sorted
    if let some e:=failedOf st' then rule "list.sort.comparison-raised";throw e
    if touched then rule "list.sort.modified";raiseError "ValueError" "list modified during sort"
    ret .none) P E { s with heap:=h2 }:=by
  intro out mss st' h1 hf KO hv hp hs hlen
  dsimp only
  apply wpAny_bind;refine seqEpoch_at (s:={ s with heap:=h2 }) ho2 rfl ?_
  rw[h1]
  apply wpAny_bind;refine listUpdate_at (s:={ s with heap:=h2 }) ho2 rfl ?_ (Nat.zero_le _) (by show out.toArray.size<=_;rw[List.size_toArray,sizeLine_eq];omega)
  obtain⟨c,hc⟩:∃c,(h2.update a (Obj.mapSeq λ_=>out.toArray)).get? a=some (seqObj "list" out.toArray c):=⟨_,get?_update_seq ho2 λ_=>out.toArray⟩
  have up3:∀b o,b≠a->h2.get? b=some o->(h2.update a (Obj.mapSeq λ_=>out.toArray)).get? b=some o:=λb o hb e=>(Heap.get?_update_other _ _ (Ne.symm hb)).trans e
  generalize h2.update a (Obj.mapSeq λ_=>out.toArray)=h3 at hc up3
  rw[hf]
  simp only[bne_self_eq_false,Bool.false_eq_true,if_false]
  exact wpAny_pure (q h3 out mss c hc (KO.other ho2 up3) hv hp hs λb o hb e=>up3 b o hb (up2 b o hb e))
 have ln:=K.1
 dsimp only
 by_cases h2':vs.length<2
 ·have c2:vs.toArray.size<2:=by rw[List.size_toArray];exact h2'
  rw[if_pos c2,if_pos c2]
  apply wpAny_bind;apply wpAny_pure
  apply wpAny_bind
  show wpAny _ _ (pure ((),SortSt.mk' general' (vs.toArray.zip vs.toArray) #[] 7 none)) _ _ _
  apply wpAny_pure
  refine fin vs nss _ ?_ rfl K2 (λ_ h=>h) (List.Perm.refl _) ?_ (by omega)
  ·show (vs.toArray.zip vs.toArray).map (·.2)=vs.toArray
   apply Array.toList_inj.mp
   simp[List.map_snd_zip]
  ·match nss,ln with
   | [],_=>exact List.Pairwise.nil
   | [x],_=>exact List.pairwise_singleton _ _
   | _::_::_,ln=>simp at ln;omega
 ·have c2:¬vs.toArray.size<2:=by rw[List.size_toArray];exact h2'
  rw[if_neg c2,if_neg c2]
  obtain⟨fs,f1,f2,f3⟩:=kU vs nss K2 hn
  apply wpAny_bind
  refine kat_kind (s:={ s with heap:=h2 }) (T:=.type "int") f1 (by omega) (λv hv=>?_) (by decide) ?_
  ·obtain⟨k,t,rfl⟩:=f3 v hv
   exact Looks.now
  have hT:(Value.type "int" != Value.type "tuple")=true:=by decide
  rw[hT]
  by_cases hlong:vs.length<64
  ·exact absurd hlong h64'
  have lz:(vs.toArray.zip vs.toArray).size=vs.length:=by simp
  have inj:∀v,v∈vs->∃ns,∃i,vs[i]? = some v/\ns=nss.getD i []/\∃a,v = .ref a/\IsTupleKey (intKind prog w) h2 ns a:=λv hv=>by
   obtain⟨i,hi⟩:=List.getElem?_of_mem hv
   obtain⟨a,ea,ka⟩:=K2.2 i v hi
   exact⟨_,i,hi,rfl,a,ea,ka⟩
  obtain⟨kv,hkv⟩:∃kv:Value->List Int,∀v,v∈vs->∃a,v = .ref a/\IsTupleKey (intKind prog w) h2 (kv v) a :=
   ⟨λv=>if hv:v∈vs then Classical.choose (inj v hv) else [],λv hv=>by
    dsimp only
    rw[dif_pos hv]
    obtain⟨_,_,_,a,q1,q2⟩:=Classical.choose_spec (inj v hv)
    exact⟨a,q1,q2⟩⟩
  have kvAt:∀i v,vs[i]? = some v->kv v=nss.getD i []:=λi v e=>by
   obtain⟨a,ea,ka⟩:=K2.2 i v e
   obtain⟨b,eb,kb⟩:=hkv v (List.mem_of_getElem? e)
   rw[ea] at eb;cases eb
   exact kb.inj ka
  have mapkv:vs.map kv=nss:=by
   apply List.ext_getElem (by simp[ln])
   intro i h1 h2
   have hi:i<vs.length:=by simpa using h1
   have:=kvAt i vs[i] (List.getElem?_eq_getElem hi)
   rw[List.getElem_map,this]
   simp[h2]
  have memX:∀x∈(vs.toArray.zip vs.toArray).toList,x.1=x.2/\x.1∈vs:=λx hx=>by
   rw[Array.toList_zip] at hx
   exact mem_zip_self (by simpa using hx)
  apply wpAny_bind
  refine wpAny_mono (xA (κ:=tuples' true) (O:=CF) (k:=λx=>kv x.1) (G:=λx=>x.1∈vs) (X:=vs.toArray.zip vs.toArray) (s:={ s with heap:=h2 }) (st:=SortSt.mk' (tuples' true) (vs.toArray.zip vs.toArray) #[] 7 none) (Q:=λ_ st'=>(arrOf st').Perm (vs.toArray.zip vs.toArray)/\failedOf st'=none/\cD CF (λx=>kv x.1) (arrOf st') 0 (vs.toArray.zip vs.toArray).size)
   (λx y st Q gx gy hk hq=>?_) ⟨λx hx=>(memX x hx).2⟩ ⟨rfl,rfl,rfl,Array.Perm.refl _⟩ (by omega) (by omega) λst' h1 h2 h3=>⟨h1,h2,h3⟩) ?_ λ_ _ e=>e
  ·rw[lt'_eq]
   refine wpS_bind (wpS_get ?_)
   rw[hk]
   obtain⟨a1,ex,ox,xs,nx,hx1,hx2,hx3,hx4⟩:=hkv x.1 gx
   obtain⟨a2,ey,oy,ys,ny,hy1,hy2,hy3,hy4⟩:=hkv y.1 gy
   refine wpS_bind (wpS_lift (wpAny_attempt ?_))
   rw[ex,ey]
   refine kat_lt (s:={ s with heap:=h2 }) hx1 hx3 hy1 hy3 (AG _ _ _ _ 0 hx4 hy4 (by simp) ⟨rfl,?_⟩)
   exact wpS_pure hq
  ·rintro⟨⟨⟩,st'⟩ s' ⟨rfl,har,hf,hsr⟩
   have pl:=Array.perm_iff_toList_perm.mp har
   have hz:(arrOf st').size=vs.length:=by rw[har.size_eq,lz]
   have same:∀x∈(arrOf st').toList,x.1=x.2/\x.1∈vs:=λx hx=>memX x (pl.mem_iff.mp hx)
   have po:((arrOf st').toList.map (·.2)).Perm vs:=by
    have:=pl.map (·.2)
    rw[Array.toList_zip] at this
    simpa [List.map_snd_zip] using this
   refine fin ((arrOf st').toList.map (·.2)) (((arrOf st').toList.map (·.2)).map kv) st' (Array.toList_inj.mp (by rw[Array.toList_map])) hf ⟨by simp,λi v e=>?_⟩ (λv hv=>po.mem_iff.mp hv) ?_ ?_ (by simp[hz];omega)
   ·obtain⟨a,ea,ka⟩:=hkv v (po.mem_iff.mp (List.mem_of_getElem? e))
    refine⟨a,ea,?_⟩
    have g:(((arrOf st').toList.map (·.2)).map kv).getD i []=kv v:=by rw[List.getD_eq_getElem?_getD,List.getElem?_map,e];rfl
    rw[g];exact ka
   ·have:=po.map kv
    rw[mapkv] at this
    exact this
   ·rw[List.map_map]
    refine List.pairwise_map.mpr (List.pairwise_iff_getElem.mpr λi j hi hj hij=>?_)
    rw[Array.length_toList] at hi hj
    have q:=hsr i j (by omega) (by omega) (by omega)
    have e1:at' (arrOf st') i=(arrOf st')[i]:=by simp[at',Array.getD,hi]
    have e2:at' (arrOf st') j=(arrOf st')[j]:=by simp[at',Array.getD,hj]
    have q:cO (kv (at' (arrOf st') j).1) (kv (at' (arrOf st') i).1)=false:=q
    rw[e1,e2] at q
    have s1:=(same (arrOf st')[i] (by simp)).1
    have s2:=(same (arrOf st')[j] (by simp)).1
    rw[s1,s2] at q
    exact q
theorem mU {S:Addr} {es:Array (Int × Value)} {Q:Value->Shared->Prop} (hh:A.handled=none) (H:SetTup prog w s.heap S es) (h64:es.size<76) {nss:List (List Int)} (hn:∀ns∈nss,ns≠[])
  (hk:∀e∈es.toList,∃ns∈nss,∃a,e.2 = .ref a/\IsTupleKey (intKind prog w) s.heap ns a)
  (q:∀h' D out mss c,s.heap.objs.size<=D->h'.get? D=some (seqObj "list" (List.toArray out) c)->KeysAt prog w h' out mss->(∀v∈out,∃e∈es.toList,e.2=v)->(∀ns,ns∈mss↔∃e∈es.toList,∃a,e.2 = .ref a/\IsTupleKey (intKind prog w) s.heap ns a)->mss.Pairwise (λx y=>cO y x=false) ->
   mss.length=es.size->(∀b o,s.heap.get? b=some o->h'.get? b=some o)->Q (.ref D) { s with heap:=h' }) :
  wpAny (model prog w) A (call (.builtin "sorted") [.ref S]) Q E s:=by
 obtain⟨⟨ep,t,ho,T,hf,hl,hp⟩,els⟩:=H
 have wp:=nQ (w:=w) S ep es
 have wl:(bS w S ep es).toList.length=es.size:=by rw[wp.length_eq,Array.length_toList]
 refine Calls.call_function_entry kind_sorted plain_sorted entry_sorted (args_sorted1 _) ?_
 unfold Builtin.«sorted»
 refine wpAny_bind (m:=checkCount "sorted" 1 1 _) (wpAny_pure ?_)
 apply wpAny_bind;refine uS (A:=A.in1) (by simp[hh]) ho T hl hp (by omega) λh1 k1 big=>?_
 apply wpAny_bind;refine wpAny_newList ?_ (by rw[List.length_map,wl,sizeLine_eq];omega)
 show wpAny _ _ _ _ _ { s with heap:=h1.push (seqObj "list" (List.toArray ((bS w S ep es).toList.map (·.2))) 0) }
 have hL:(h1.push (seqObj "list" (List.toArray ((bS w S ep es).toList.map (·.2))) 0)).get? h1.objs.size=some (seqObj "list" (List.toArray ((bS w S ep es).toList.map (·.2))) 0):=Heap.get?_push_size _ rfl
 have k2:∀b o,s.heap.get? b=some o->(h1.push (seqObj "list" (List.toArray ((bS w S ep es).toList.map (·.2))) 0)).get? b=some o:=λb o e=>Heap.get?_push_of_some _ (k1 b o e)
 generalize h1.push (seqObj "list" (List.toArray ((bS w S ep es).toList.map (·.2))) 0)=h2 at hL k2
 have ex:∀(i:Nat) (v:Value),((bS w S ep es).toList.map (·.2))[i]? = some v->∃ns∈nss,∃a,v = .ref a/\IsTupleKey (intKind prog w) s.heap ns a:=by
  intro i v e
  rw[List.getElem?_map] at e
  cases e2:(bS w S ep es).toList[i]? with
  | none=>rw[e2] at e;simp at e
  | some x =>
   rw[e2] at e
   simp only[Option.map_some,Option.some.injEq] at e
   have m:x∈es.toList:=wp.mem_iff.mp (List.mem_of_getElem? e2)
   obtain⟨ns,h1,a,h2,h3⟩:=hk x m
   exact⟨ns,h1,a,by rw[<-e];exact h2,h3⟩
 obtain⟨kss,kl,kk⟩:∃kss:List (List Int),kss.length=((bS w S ep es).toList.map (·.2)).length/\∀(i:Nat) (v:Value),((bS w S ep es).toList.map (·.2))[i]? = some v->kss.getD i []∈nss/\∃a,v = .ref a/\IsTupleKey (intKind prog w) s.heap (kss.getD i []) a:=by
  generalize ((bS w S ep es).toList.map (·.2))=vs at ex
  clear hL
  induction vs with
  | nil=>exact⟨[],rfl,λi v e=>by simp at e⟩
  | cons v vs ih =>
   obtain⟨kss,k1,k2⟩:=ih λi v e=>ex (i+1) v (by simpa using e)
   obtain⟨ns,h1,a,h2,h3⟩:=ex 0 v rfl
   refine⟨ns::kss,by simp[k1],λi u e=>?_⟩
   cases i with
   | zero=>simp at e;subst e;exact⟨h1,a,h2,h3⟩
   | succ i=>exact k2 i u (by simpa using e)
 have KA:KeysAt prog w h2 ((bS w S ep es).toList.map (·.2)) kss:=by
  refine⟨kl.symm,λi v e=>?_⟩
  obtain⟨_,a,h1,o,its,m,g1,g2⟩:=kk i v e
  exact⟨a,h1,o,its,m,k2 _ _ g1,g2⟩
 have kmem:∀ns,ns∈kss↔∃e∈es.toList,∃a,e.2 = .ref a/\IsTupleKey (intKind prog w) s.heap ns a:=by
  intro ns
  constructor
  ·intro h
   obtain⟨i,hi,e⟩:=List.getElem_of_mem h
   have hi':i<((bS w S ep es).toList.map (·.2)).length:=by omega
   obtain⟨_,a,h1,h2⟩:=kk i _ (List.getElem?_eq_getElem hi')
   have g:kss.getD i []=ns:=by simp[hi,e]
   rw[g] at h2
   simp only[List.getElem_map] at h1
   exact⟨_,wp.mem_iff.mp (List.getElem_mem _),a,h1,h2⟩
  ·rintro⟨e,he,a,h1,h2⟩
   obtain⟨i,hi,e'⟩:=List.getElem_of_mem (wp.mem_iff.mpr he)
   obtain⟨_,b,g1,g2⟩:=kk i e.2 (by rw[List.getElem?_map,List.getElem?_eq_getElem hi,e'];rfl)
   rw[h1] at g1;cases g1
   have:=g2.inj h2
   rw[<-this]
   have hi':i<kss.length:=by rw[kl];simpa using hi
   simp[hi']
 refine wpAny_bind (wpAny_holding (wpAny_call_entry slot_list_sort ⟨_,hL,rfl⟩ entry_list_sort ?body (args_list_sort _)))
 case body =>
  refine yQ (s:={ s with heap:=h2 }) hL KA (λns h=>?_) (by rw[List.length_map,wl];omega) λh3 out mss c g1 g2 g3 g4 g5 g6=>?_
  ·obtain⟨e,he,a,e1,e2⟩:=(kmem ns).mp h
   obtain⟨ms,m1,b,e3,e4⟩:=hk e he
   rw[e1] at e3;cases e3
   rw[e2.inj e4];exact hn ms m1
  ·refine⟨_,rfl,wpAny_pure ⟨_,rfl,q h3 h1.objs.size out mss c big g1 g2 (λv hv=>?_) (λns=>(g4.mem_iff).trans (kmem ns)) g5 ?_ λb o e=>?_⟩⟩
   ·obtain⟨e,he,rfl⟩:=List.mem_map.mp (g3 v hv)
    exact⟨e,wp.mem_iff.mp he,rfl⟩
   ·rw[g4.length_eq,kl,List.length_map,wl]
   ·have:=Heap.lt_size e
    exact g6 b o (by intro z;simp only[Addr] at *;omega) (k2 b o e)
end
end L2.R2
namespace L2.R2
open PySem PySem.Spec PyProof.Rows L2
noncomputable def nN (te:RE):RA:=λρ Q=>te ρ λx=>∃nss:List (List Int),x = .lst (nss.map dY)/\nss.length<76/\(∀ns∈nss,ns≠[])/\∀mss:List (List Int),mss.Pairwise (λx y=>cO y x=false)->(∀ns,ns∈mss↔ns∈nss)->mss.length<=nss.length->Q (mss.map dY)
section
variable {X:Cx} {e:Expr} {te:RE} {p pz pos posz:Pos}
theorem vD {k:Nat} (hr:Room k X.A) (hms:X.mg "sorted" = none) (hmz:X.mg "set" = none) (hc:X.calm=true) (h:DB X e te) (hgs:Gl X "sorted":=by rfl) (hgz:Gl X "set":=by rfl)
  (hs:starEach [.Call (.Name "set" pz) [e] [] posz] X.env=[(false,eval (.Call (.Name "set" pz) [e] [] posz) X.env)]:=by rfl) (hn:starEach [] X.env=[]:=by rfl) (h1:starEach [e] X.env=[(false,eval e X.env)]:=by rfl) :
  DO X (.Call (.Name "sorted" p) [.Call (.Name "set" pz) [e] [] posz] [] pos) (nN te):=by
 intro pins s σ H Q I hh_0
 obtain⟨ρ,P,st,q,kq⟩:=hh_0
 refine wpAny_Call_Name_kw (gS I hgs hms uQ ?_)
 refine PyProof.Rows.callWith_builtin1 ?_ (by rw[hs,hn]) (by rw[hn];rfl)
 rw[hs]
 show wpAny _ _ (spliced ((false,eval (.Call (.Name "set" pz) [e] [] posz) X.env)::backTo pos [])) _ _ s
 refine Calls.spliced_cons (wpAny_Call_Name_kw (gS I hgz hmz EG ?_))
 refine PyProof.Rows.callWith_type1 (thn (fV h h1 hn posz pins s σ H (λvs H1=>∃(nss:List (List Int)) (v:V),vs=[v]/\Same H H1/\RepB X.K H1 (.lst (nss.map dY)) v/\nss.length<76/\(∀ns∈nss,ns≠[])/\∀mss:List (List Int),mss.Pairwise (λx y=>cO y x=false)->(∀ns,ns∈mss↔ns∈nss)->mss.length<=nss.length->P (mss.map dY)) I
  ⟨ρ,_,st,q,λx v H1 hx s1 r1=>?_⟩) λus s1 ⟨vs,H1,I1,r1,q1⟩=>?_) (by rw[h1,hn]) (by rw[hn];rfl)
 ·obtain⟨nss,rfl,a1,a2,a3⟩:=hx
  exact⟨nss,v,rfl,s1,r1,a1,a2,a3⟩
 obtain⟨nss,v,rfl,s01,rb,h64,hne,hP⟩:=q1
 obtain⟨l,vs,rfl,hq,rr⟩:=rb.lst
 obtain⟨u,rfl,rx⟩:=kN r1
 cases rx
 obtain⟨its,rv,pl,hz⟩:=I1.list hq
 have l1:=rr.length
 have l2:=rv.length
 rw[List.length_map] at l1
 have each:∀(i:Nat) (u:Value),its[i]? = some u->∃ns a,nss[i]? = some ns/\vs[i]? = some (.ref a)/\u = .ref a/\IsTupleKey (intKind X.prog X.w) s1.heap ns a:=λi u e=>by
  have hi:i<nss.length:=by have:=(List.getElem?_eq_some_iff.mp e).1;omega
  obtain⟨v,e1,e2⟩:=rr.get (i:=i) (d:=dY nss[i]) (by rw[List.getElem?_map,List.getElem?_eq_getElem hi];rfl)
  obtain⟨a,rfl,ha⟩:=Reps.tupI_inv e2
  obtain⟨u',f1,f2⟩:=rv.get e1
  rw[e] at f1;cases f1
  cases f2
  obtain⟨ts,g1,g2,_⟩:=I1.tuple (SqT.of (K:=X.K) ha)
  obtain⟨o,go,gc,n,gd⟩:=g2
  exact⟨_,a,List.getElem?_eq_getElem hi,e1,rfl,o,ts.toArray,n,go,gc,gd,by simpa using vQ g1⟩
 have hu:=hr.un
 refine qY (key:=λi=>nss.getD i []) (I1.ok.hd hc) (by omega) pl.isList (λi u e=>?_) (by simp;omega) λh2 tk D up=>?_
 ·obtain⟨ns,a,n1,_,rfl,hk⟩:=each i u (by simpa using e)
  refine⟨a,rfl,?_⟩
  have:nss.getD i []=ns:=by rw[List.getD_eq_getElem?_getD,n1];rfl
  rw[this];exact hk
 refine Calls.spliced_nil ?_
 obtain⟨es,ST,d1,d2,d3⟩:=D
 have keyAt:∀{ns:List Int} {a:Addr},IsTupleKey (intKind X.prog X.w) s1.heap ns a->IsTupleKey (intKind X.prog X.w) h2 ns a:=λ⟨o,its,n,g1,g2⟩=>⟨o,its,n,up _ _ g1,g2⟩
 have elem:∀e∈es.toList,∃(i:Nat) (ns:List Int) (a:Addr),nss[i]? = some ns/\vs[i]? = some (.ref a)/\e.2 = .ref a/\IsTupleKey (intKind X.prog X.w) h2 ns a:=λe he=>by
  obtain⟨j,hj,ej⟩:=d1 e he
  obtain⟨ns,a,n1,n2,n3,hk⟩:=each j e.2 (by simpa using ej)
  exact⟨j,ns,a,n1,n2,n3,keyAt hk⟩
 refine mU (s:={ s1 with heap:=h2,toks:=tk }) (A:=X.A) (I1.ok.hd hc) ST (by simp at d3;omega) (nss:=nss) hne (λe he=>?_) λh3 Dd out mss c big g1 g2 g3 g4 g5 g6 up3=>?_
 ·obtain⟨i,ns,a,n1,n2,n3,hk⟩:=elem e he
  exact⟨ns,List.mem_of_getElem? n1,a,n3,hk⟩
 have kp:∀b o,s1.heap.get? b=some o->h3.get? b=some o:=λb o e=>up3 b o (up b o e)
 have I3:Inv X pins σ H1 { s1 with heap:=h3,toks:=tk }:=I1.kept kp
 have szS:s1.heap.objs.size<h2.objs.size:=by obtain⟨⟨ep,t,ho,_⟩,_⟩:=ST;exact Heap.lt_size ho
 have big2:s1.heap.objs.size<=Dd:=by have:h2.objs.size<=Dd:=big;omega
 have hS0:H1 Dd=none:=I1.hok.fresh big2
 have tupAt:∀{i:Nat} {ns:List Int} {a:Addr},nss[i]? = some ns->vs[i]? = some (.ref a)->H1 a=some (.tup (ns.map V.int)):=λ{i ns a} n1 n2=>by
  obtain⟨w,f1,f2⟩:=rr.get (i:=i) (d:=dY ns) (by rw[List.getElem?_map,n1];rfl)
  rw[n2] at f1;cases f1
  obtain⟨b,e,hb⟩:=Reps.tupI_inv f2
  cases e;exact hb
 obtain⟨ws,VV,RR⟩:=wH (K:=X.K) (H:=H1) out mss g2.1 λi v e=>by
  obtain⟨x,hx,ex⟩:=g3 v (List.mem_of_getElem? e)
  obtain⟨j,ns,a,n1,n2,n3,hk⟩:=elem x hx
  obtain⟨b,eb,hb⟩:=g2.2 i v e
  rw[<-ex,n3] at eb;cases eb
  refine⟨a,by rw[<-ex,n3],?_⟩
  have hk3:IsTupleKey (intKind X.prog X.w) h3 ns a:=by obtain⟨o,its,n,q1,q2⟩:=hk;exact⟨o,its,n,up3 _ _ q1,q2⟩
  rw[hb.inj hk3]
  exact tupAt n1 n2
 have lo:out.length<=76:=by rw[g2.1,g6];simp at d3;omega
 have lw:=VV.length
 have I4:=I1.trackO (a:=Dd) (w:=.lst ws) I3 big2 hS0 ⟨by rw[sizeLine_eq];omega,out,c,VV,g1⟩
 refine⟨.ref Dd,_,I4,rfl,kq _ _ _ H1 (hP mss g5 (λns=>?_) (by rw[g6];simp at d3;omega)) s01 hS0 RR⟩
 rw[g4 ns]
 constructor
 ·rintro⟨x,hx,a,e1,e2⟩
  obtain⟨j,ms,b,n1,n2,n3,hk⟩:=elem x hx
  rw[e1] at n3;cases n3
  rw[e2.inj hk];exact List.mem_of_getElem? n1
 ·intro h
  obtain⟨j,hj,rfl⟩:=List.getElem_of_mem h
  obtain⟨y,hy,b,e1,e2⟩:=d2 j (by simp;omega)
  refine⟨y,hy,b,e1,?_⟩
  have:nss.getD j []=nss[j]:=by simp[hj]
  rw[this] at e2;exact e2
end
noncomputable def cR:RS :=
 aV (bE 4 (r2 cJ (aA 2) (aA 3)))
 (aV (bE 2 (aU 3))
 (bE 3 (aU 4)))
noncomputable def cN:RS :=
 aV (bE 2 (rCB xO (aD (aU 0) (aK))))
 (aV (bE 3 (rCB xO (aD (aU 1) (aK))))
 (aV (lE (bW (r2 (mV true) (aA 3) (rC (.int 0)))) (cR))
 (dQ (aU 2))))
noncomputable def eF:RS :=
 dQ (sQ (r1 (rA "int") (aU 0)) (GO (r1 (rA "bool") (aU 0))))
noncomputable def dE:RS :=
 NN 0 1 (aD (aU 1) (aD (r2 cJ (aA 0) (aA 1)) (aK)))
noncomputable def cY:RS :=
 aV (bE 0 (rCB xO (aD (aU 0) (aK))))
 (aV (bE 1 (rCB xO (aD (aU 1) (aK))))
 (aV (lE (bW (r2 (iS λi j=>decide (j<i)) (aA 1) (rC (.int 0)))) (dE))
 (dQ (aU 0))))
noncomputable def cI (F_shared_divisor:FD):RS :=
 dQ (r2 cK (aA 0) (r2 bX (aA 1) (aX F_shared_divisor (aD (aU 0) (aD (aU 1) (aK))))))
noncomputable def oZ:RS :=
 aV (bE 3 (r2 cK (r2 eJ (r2 dIx (aA 1) (rC (.int 0))) (r2 dIx (aA 0) (rC (.int 0)))) (r2 eJ (r2 dIx (aA 2) (rC (.int 1))) (r2 dIx (aA 0) (rC (.int 1))))))
 (aV (bE 4 (r2 cK (r2 eJ (r2 dIx (aA 1) (rC (.int 1))) (r2 dIx (aA 0) (rC (.int 1)))) (r2 eJ (r2 dIx (aA 2) (rC (.int 0))) (r2 dIx (aA 0) (rC (.int 0))))))
 (dQ (r2 eJ (aA 3) (aA 4))))
noncomputable def cW:RS :=
 AO 1
noncomputable def gI (cX:FD):RS :=
 aV (lE (GN (bW (r2 (iS λi j=>decide (j<i)) (r1 gO (aA 1)) (rC (.int 1)))) (bW (r2 (iS λi j=>decide (i<=j)) (aX cX (aD (r2 dIx (aA 1) (r1 oE (rC (.int 2)))) (aD (r2 dIx (aA 1) (r1 oE (rC (.int 1)))) (aD (aU 2) (aK))))) (rC (.int 0))))) (cW))
 (iF 1 (aU 2))
noncomputable def eG (cX:FD):RS :=
 aV (mI 1 (rP (aK)))
 (aV (mH (riL (aU 0)) (aY 2) (gI cX))
 (dQ (wG (aA 1) (fL) (nY (r1 oE (rC (.int 1)))))))
noncomputable def gF:RS :=
 bE 0 (r2 bX (aA 0) (aA 1))
noncomputable def eB:RS :=
 aV (mH (wI (aD (aU 2) (aK))) (aY 3) (gF))
 (dQ (r2 cJ (aA 0) (aA 1)))
noncomputable def dF:RS :=
 aV (bE 4 (rC (.int 0)))
 (aV (lC (bW (r2 (iS λi j=>decide (j<i)) (r1 gO (aA 0)) (rC (.int 0)))) (bE 4 (r2 cJ (r2 dIx (aA 0) (r2 cJ (aA 3) (rCB sF (aD (r1 gO (aA 0)) (aD (rC (.int 63)) (aK)))))) (r2 cE (r2 rD (rC (.int 10)) (rC (.int 60))) (rC (.int 7))))) (fG))
 (aV (bE 5 (r2 cJ (aA 3) (aA 1)))
 (qF 2 (r2 cJ (r2 cE (r2 cE (r2 cK (r2 dIx (aA 2) (aA 5)) (rC (.int 48271))) (aA 4)) (r2 cK (aA 3) (aA 3))) (r2 cE (r2 rD (rC (.int 10)) (rC (.int 60))) (rC (.int 7)))) (aU 5))))
noncomputable def cZ:RS :=
 aV (mI 2 (jE (wI (aD (aU 1) (aK))) 1 [] (aY 0) (rC (.int 0))))
 (aV (mH (wI (aD (rCB zN (aD (aU 1) (aD (rCB sF (aD (r1 gO (aA 0)) (aD (rC (.int 63)) (aK)))) (aK)))) (aK))) (aY 3) (dF))
 ((λE ρ=>(dQ (aU 2)) E (vN 2 ρ))))
noncomputable def cU (SX:FD):RS :=
 aV (bE 2 (aX SX (aD (aU 0) (aD (aU 1) (aK)))))
 (dQ (lD (aD (r2 bX (aA 0) (aA 2)) (aD (r2 bX (aA 1) (aA 2)) (aK)))))
noncomputable def gG:RS :=
 iF 2 (r2 cE (r2 cE (r2 dIx (aA 2) (r1 oE (rC (.int 1)))) (rC (.int 1))) (r2 cJ (r2 bX (aA 0) (r2 cE (rC (.int 4)) (r2 cK (rC (.int 3)) (aA 3)))) (rC (.int 3))))
noncomputable def eD:RS :=
 aV (mI 2 (rP (aD (r2 eJ (r2 cJ (aA 0) (rC (.int 4))) (rC (.int 4))) (aK))))
 (aV (mH (wI (aD (r2 eJ (aA 1) (rC (.int 1))) (aK))) (aY 3) (gG))
 ((λE ρ=>(dQ (aU 2)) E (vN 2 ρ))))
noncomputable def eU (TR:FD):RS :=
 aV (bE 2 (aX TR (aD (r2 bX (r2 dIx (aA 0) (rC (.int 0))) (rC (.int 4))) (aD (r2 dIx ((λρ Q=>(rP (aD (r2 cE (rC (.int 2)) (r2 cJ (r2 dIx (aA 0) (rC (.int 0))) (rC (.int 3)))) (aD (r2 cE (rC (.int 2)) (r2 cJ (r2 dIx (aA 0) (rC (.int 0))) (rC (.int 20)))) (aK)))) ρ λds=>Q (.lst ds))) (r2 bX (r2 cJ (r2 bX (r2 dIx (aA 0) (rC (.int 2))) (rC (.int 9))) (rC (.int 4))) (rC (.int 3)))) (aK)))))
 (aV (bE 3 (aX TR (aD (r2 bX (r2 dIx (aA 0) (rC (.int 1))) (rC (.int 4))) (aD (r2 cE (rC (.int 1)) (r2 cJ (r2 dIx (aA 0) (rC (.int 1))) (rC (.int 3)))) (aK)))))
 (aV (bE 4 (r2 cE (r2 cE (r2 cK (rC (.int 2)) (r1 FA ((λρ Q=>(jE (riL (r2 nS (aA 2) (aA 3))) 1 [] (aY 0) (r2 cK (aA 0) (aA 0))) ρ λds=>Q (.lst ds))))) (rC (.int 1))) (r2 cJ (r2 dIx (aA 0) (rC (.int 2))) (rC (.int 9)))))
 (aV (bE 5 (r2 nS ((λρ Q=>(jE (riL (aU 2)) 1 [] (aY 0) (lD (aD (aU 0) (aD (r2 cK (aA 0) (aA 0)) (aK))))) ρ λds=>Q (.lst ds))) ((λρ Q=>(jE (GS (aU 3)) 1 [4] (aY 0) (lD (aD (aU 0) (aD (r2 eJ (aA 1) (r2 cK (aA 0) (aA 0))) (aK))))) ρ λds=>Q (.lst ds)))))
 (aV (bE 6 (r2 cE (rC (.int 1)) (r2 cJ (r2 dIx (aA 0) (rC (.int 3))) (rC (.int 3)))))
 (aV (bE 7 (r2 eJ (r2 cJ (r2 bX (r2 dIx (aA 0) (rC (.int 3))) (rC (.int 3))) (rC (.int 7))) (rC (.int 3))))
 (aV (bE 8 (r2 eJ (r2 cJ (r2 dIx (aA 0) (rC (.int 4))) (rC (.int 7))) (rC (.int 3))))
 (aV (bE 9 (r2 cE (r2 cE (r2 bX (r2 cK (aA 7) (aA 8)) (aA 6)) (rC (.int 1))) (r2 cJ (r2 bX (r2 dIx (aA 0) (rC (.int 4))) (rC (.int 7))) (rC (.int 3)))))
 (aV (bE 10 (lD (aD (r2 eJ (r2 cJ (r2 dIx (aA 0) (rC (.int 5))) (r2 cE (r2 cK (rC (.int 2)) (aA 1)) (rC (.int 1)))) (aA 1)) (aD (r2 eJ (r2 cJ (r2 dIx (aA 0) (rC (.int 6))) (r2 cE (r2 cK (rC (.int 2)) (aA 1)) (rC (.int 1)))) (aA 1)) (aK)))))
 (dQ ((λρ Q=>(jE (riL (aU 5)) 2 [6,7,10,8,9] (jJ 2 (cF (aY 0) (cF (aY 1) (jI)))) (lD (aD (r2 cE (r2 cE (r2 cK (aA 2) (aA 0)) (r2 cK (aA 3) (aA 1))) (r2 dIx (aA 4) (rC (.int 0)))) (aD (r2 cE (r2 cE (r2 cK (aA 5) (aA 0)) (r2 cK (aA 6) (aA 1))) (r2 dIx (aA 4) (rC (.int 1)))) (aK))))) ρ λds=>Q (.lst ds))))))))))))
noncomputable def dA:RS :=
 dQ (r2 dIx ((λρ Q=>(rP (aD (rC (.int 1)) (aD (r2 cE (rC (.int 1)) (r2 cJ (r2 bX (aA 0) (rC (.int 3))) (rC (.int 12)))) (aD (r2 cE (rC (.int 1)) (r2 cJ (r2 bX (aA 0) (rC (.int 3))) (r2 rD (rC (.int 10)) (rC (.int 9))))) (aK))))) ρ λds=>Q (.lst ds))) (r2 cJ (aA 0) (rC (.int 3))))
noncomputable def eW (TF:FD):RS :=
 dQ (lD (aD (aX TF (aD (aU 0) (aD (aU 2) (aK)))) (aD (aX TF (aD (aU 1) (aD (aU 2) (aK)))) (aK))))
noncomputable def jF (SX:FD):RS :=
 bE 2 (aX SX (aD (aX SX (aD (aU 2) (aD (aU 3) (aK)))) (aD (aU 4) (aK))))
noncomputable def fM (SX:FD):RS :=
 aV (bE 2 (aU 0))
 (aV (mH (riL (aU 1)) (jJ 2 (cF (aY 3) (cF (aY 4) (jI)))) (jF SX))
 (aV (mI 5 (jE (riL (aU 1)) 2 [2] (jJ 2 (cF (aY 0) (cF (aY 1) (jI)))) (lD (aD (r2 bX (aA 0) (aA 2)) (aD (r2 bX (aA 1) (aA 2)) (aK))))))
 (aV (bE 6 (yJ (aA 5) (r1 FB (aA 5))))
 (dQ (lD (aD (r2 bX (aA 0) (aA 2)) (aD (r1 pK (r2 nS (wG (aA 5) (nY (aU 6)) (fL)) (wG (aA 5) (fL) (nY (aU 6))))) (aK))))))))
noncomputable def gH (SZ:FD) (SY:FD):RS :=
 aV (bE 6 (r2 dIx (aA 1) (aA 5)))
 (aV (bE 7 (r2 dIx (aA 1) (r2 cJ (r2 cE (aA 5) (rC (.int 1))) (r1 gO (aA 1)))))
 (aV (iF 3 (aX SY (aD (r2 dIx (aA 6) (rC (.int 0))) (aD (r2 dIx (aA 6) (rC (.int 1))) (aD (aU 2) (aK))))))
 (aV (bE 8 (aX SZ (aD (r2 dIx (aA 0) (rC (.int 9))) (aD (rC (.int 5)) (aD (aU 5) (aK))))))
 (aV (lC (bW (r2 (mV false) (aA 8) (rC (.int 1)))) (iF 3 (r2 dIx (aA 3) (r1 oE (rC (.int 1))))) (fG))
 (aV (lC (bW (r2 (mV false) (aA 8) (rC (.int 2)))) (iF 3 (aX SY (aD (r2 cE (r2 dIx (aA 6) (rC (.int 0))) (r2 dIx (aA 7) (rC (.int 0)))) (aD (r2 cE (r2 dIx (aA 6) (rC (.int 1))) (r2 dIx (aA 7) (rC (.int 1)))) (aD (r2 cK (rC (.int 2)) (aA 2)) (aK)))))) (fG))
 (lC (bW (r2 (mV false) (aA 8) (rC (.int 3)))) (aV (iF 3 (aX SY (aD (r2 cE (r2 cK (rC (.int 2)) (r2 dIx (aA 6) (rC (.int 0)))) (r2 dIx (aA 7) (rC (.int 0)))) (aD (r2 cE (r2 cK (rC (.int 2)) (r2 dIx (aA 6) (rC (.int 1)))) (r2 dIx (aA 7) (rC (.int 1)))) (aD (r2 cK (rC (.int 3)) (aA 2)) (aK))))))
 (iF 3 (aX SY (aD (r2 cE (r2 dIx (aA 6) (rC (.int 0))) (r2 cK (rC (.int 3)) (r2 dIx (aA 7) (rC (.int 0))))) (aD (r2 cE (r2 dIx (aA 6) (rC (.int 1))) (r2 cK (rC (.int 3)) (r2 dIx (aA 7) (rC (.int 1))))) (aD (r2 cK (rC (.int 4)) (aA 2)) (aK))))))) (fG)))))))
noncomputable def eE (SZ:FD) (SY:FD):RS :=
 aV (mI 3 (rP (aK)))
 (aV (bE 4 (r2 cJ (r2 dIx (aA 0) (rC (.int 8))) (r1 gO (aA 1))))
 (aV (bE 1 (r2 nS (wG (aA 1) (nY (aU 4)) (fL)) (wG (aA 1) (fL) (nY (aU 4)))))
 (aV (mH (wI (aD (r1 gO (aA 1)) (aK))) (aY 5) (gH SZ SY))
 (aV (lC (bW (r2 (mV false) (r2 cJ (r2 bX (r2 dIx (aA 0) (rC (.int 11))) (rC (.int 5))) (rC (.int 3))) (rC (.int 1)))) (iF 3 (r2 dIx (aA 3) (rC (.int 0)))) (fG))
 ((λE ρ=>(dQ (aU 3)) E (vN 3 ρ)))))))
noncomputable def eP (SZ:FD) (SY:FD):RS :=
 aV (bE 5 (r2 eJ (aX SZ (aD (r2 dIx (aA 0) (rC (.int 10))) (aD (rC (.int 7)) (aD (aU 4) (aK))))) (rC (.int 3))))
 (aV (bE 6 (r2 cE (r2 dIx (r2 dIx (aA 1) (rC (.int 0))) (rC (.int 0))) (r2 cK (aA 5) (r2 eJ (r2 dIx (r2 dIx (aA 1) (rC (.int 1))) (rC (.int 0))) (r2 dIx (r2 dIx (aA 1) (rC (.int 0))) (rC (.int 0)))))))
 (aV (bE 7 (r2 cE (r2 dIx (r2 dIx (aA 1) (rC (.int 0))) (rC (.int 1))) (r2 cK (aA 5) (r2 eJ (r2 dIx (r2 dIx (aA 1) (rC (.int 1))) (rC (.int 1))) (r2 dIx (r2 dIx (aA 1) (rC (.int 0))) (rC (.int 1)))))))
 (iF 3 (aX SY (aD (aU 6) (aD (aU 7) (aD (aU 2) (aK))))))))
noncomputable def cV (SZ:FD) (SY:FD):RS :=
 aV (mI 3 (rP (aK)))
 (aV (mH (wI (aD (r1 gO (aA 1)) (aK))) (aY 4) (eP SZ SY))
 ((λE ρ=>(dQ (aU 3)) E (vN 3 ρ))))
noncomputable def iG (TC:FD):RS :=
 lC (rOr (uD (bW (r1 (rA "tuple") (aU 2)))) (rOr (uD (bW (aX TC (aD (r2 dIx (aA 2) (rC (.int 0))) (aK))))) (uD (bW (aX TC (aD (r2 dIx (aA 2) (rC (.int 1))) (aK))))))) (dQ (rC (.bl false))) (fG)
noncomputable def eV (TC:FD):RS :=
 aV (lC (rOr (bW (r2 (xP false) (aA 1) (rC .non))) (bW (r2 (xP false) (aA 0) (rC .non)))) (dQ (sQ (r2 (xP false) (aA 0) (rC .non)) (r2 (xP false) (aA 1) (rC .non)))) (fG))
 (aV (lC (rOr (uD (bW (r1 (rA "tuple") (aU 0)))) (rOr (bW (r2 (dNe) (aA 0) (aA 1))) (rOr (uD (bW (aX TC (aD (r2 dIx (aA 0) (rC (.int 0))) (aK))))) (uD (bW (r1 (rA "tuple") (r2 dIx (aA 0) (rC (.int 1))))))))) (dQ (rC (.bl false))) (fG))
 (aV (mH (riT (r2 dIx (aA 0) (rC (.int 1)))) (aY 2) (iG TC))
 (dQ (rC (.bl true)))))
noncomputable def kE:RS :=
 aV (bE 8 (r2 cE (aA 8) (r2 cK (r2 eJ (r2 dIx (r2 dIx (aA 4) (r2 eJ (aA 9) (rC (.int 1)))) (rC (.int 0))) (aA 6)) (r2 eJ (r2 dIx (r2 dIx (aA 4) (aA 9)) (rC (.int 1))) (aA 7)))))
 (bE 8 (r2 eJ (aA 8) (r2 cK (r2 eJ (r2 dIx (r2 dIx (aA 4) (r2 eJ (aA 9) (rC (.int 1)))) (rC (.int 1))) (aA 7)) (r2 eJ (r2 dIx (r2 dIx (aA 4) (aA 9)) (rC (.int 0))) (aA 6)))))
noncomputable def qG (TY:FD) (TF:FD) (TJ:FD) (TU:FD) (TN:FD) (TC:FD) (mQ:FD):RS :=
 aV (bE 1 (aX TJ (aD (aU 0) (aD (rC (.int 8)) (aK)))))
 (aV (bE 2 (aX TU (aD (aU 1) (aD (r2 dIx ((λρ Q=>(rP (aD (rC (.int 10)) (aD (r2 rD (rC (.int 10)) (rC (.int 60))) (aK)))) ρ λds=>Q (.lst ds))) (r2 cJ (r2 dIx (aA 1) (rC (.int 7))) (rC (.int 2)))) (aK)))))
 (aV (NM (aX TY (aD (aX TN (aD (r2 bX (r2 dIx (aA 1) (rC (.int 7))) (rC (.int 2))) (aK))) (aD (aU 2) (aK)))) (jJ 2 (cF (aY 3) (cF (aY 4) (jI)))))
 (aV (bE 5 (aX mQ (aD (lD (aD (aU 3) (aD (aU 4) (aK)))) (aK))))
 (aV (NM (r2 dIx (aA 4) (rC (.int 0))) (jJ 2 (cF (aY 6) (cF (aY 7) (jI)))))
 (aV (bE 8 (rC (.int 0)))
 (aV (mH (NS (aD (rC (.int 2)) (aD (r1 gO (aA 4)) (aK)))) (aY 9) (kE))
 (aV (lC (rOr (uD (bW (r1 (rA "tuple") (aU 5)))) (bW (r2 (dNe) (aA 5) (aX TF (aD (aU 8) (aD (r2 cK (aA 3) (aA 3)) (aK))))))) (dQ (rC (.bl false))) (fG))
 (dQ (sQ (aX TC (aD (r2 dIx (aA 5) (rC (.int 0))) (aK))) (aX TC (aD (r2 dIx (aA 5) (rC (.int 1))) (aK))))))))))))
noncomputable def kF (F_shared_divisor:FD):RS :=
 bE 3 (aX F_shared_divisor (aD (aX F_shared_divisor (aD (aU 3) (aD (aU 4) (aK)))) (aD (aU 5) (aK))))
noncomputable def hX (dG:FD) (F_shared_divisor:FD):RS :=
 aV (bE 2 (aX dG (aD (aU 1) (aK))))
 (aV (lC (bW (r2 (iS λi j=>decide (i<j)) (r1 gO (aA 2)) (rC (.int 3)))) (dQ (rC .non)) (fG))
 (aV (bE 3 (aU 0))
 (aV (mH (riL (aU 2)) (jJ 2 (cF (aY 4) (cF (aY 5) (jI)))) (kF F_shared_divisor))
 (dQ (lD (aD (r2 bX (aA 0) (aA 3)) (aD (r1 pK ((λρ Q=>(jE (riL (aU 2)) 2 [3] (jJ 2 (cF (aY 0) (cF (aY 1) (jI)))) (lD (aD (r2 bX (aA 0) (aA 2)) (aD (r2 bX (aA 1) (aA 2)) (aK))))) ρ λds=>Q (.lst ds)))) (aK))))))))
noncomputable def jG (F_shared_multiple:FD):RS :=
 bE 1 (aX F_shared_multiple (aD (aX F_shared_multiple (aD (aU 1) (aD (r2 dIx (aA 2) (rC (.int 1))) (aK)))) (aD (r2 dIx (aA 3) (rC (.int 1))) (aK))))
noncomputable def fN (dH:FD) (F_shared_multiple:FD):RS :=
 aV (bE 1 (rC (.int 1)))
 (aV (mH (riL (aU 0)) (jJ 2 (cF (aY 2) (cF (aY 3) (jI)))) (jG F_shared_multiple))
 (dQ (aX dH (aD (aU 1) (aD ((λρ Q=>(jE (riL (aU 0)) 2 [1] (jJ 2 (cF (aY 0) (cF (aY 1) (jI)))) (lD (aD (r2 cK (r2 dIx (aA 0) (rC (.int 0))) (r2 bX (aA 2) (r2 dIx (aA 0) (rC (.int 1))))) (aD (r2 cK (r2 dIx (aA 1) (rC (.int 0))) (r2 bX (aA 2) (r2 dIx (aA 1) (rC (.int 1))))) (aK))))) ρ λds=>Q (.lst ds))) (aK))))))
noncomputable def eX (F_half_round:FD):RS :=
 aV (bE 1 ((λρ Q=>(nN (aA 0)) ρ λds=>Q (.lst ds))))
 (dQ (r2 nS (aX F_half_round (aD (aU 1) (aK))) (aX F_half_round (aD ((λρ Q=>(qE (aA 1)) ρ λds=>Q (.lst ds))) (aK)))))
noncomputable def hV (TY:FD) (TJ:FD) (TU:FD) (UA:FD) (TN:FD) (TX:FD) (TM:FD) (F_piece_of:FD):RS :=
 aV (bE 1 (aX TJ (aD (aU 0) (aD (rC (.int 12)) (aK)))))
 (aV (bE 2 (aX TU (aD (aU 1) (aD (r2 dIx ((λρ Q=>(rP (aD (rC (.int 10)) (aD (r2 rD (rC (.int 10)) (rC (.int 60))) (aK)))) ρ λds=>Q (.lst ds))) (r2 cJ (r2 dIx (aA 1) (rC (.int 7))) (rC (.int 2)))) (aK)))))
 (aV (bE 3 (aX TN (aD (r2 bX (r2 dIx (aA 1) (rC (.int 7))) (rC (.int 2))) (aK))))
 (aV (bE 4 (aX TX (aD (aU 1) (aD (aU 2) (aD (aU 3) (aK))))))
 (aV (bE 5 (aX TY (aD (aU 3) (aD (aU 2) (aK)))))
 (aV (lC (bW (r2 (mV false) (r2 cJ (r2 dIx (aA 1) (rC (.int 11))) (rC (.int 5))) (rC (.int 1)))) (aV (bE 4 (aX TM (aD (aU 1) (aD (aU 2) (aD (aU 3) (aK))))))
 (bE 5 (rC .non))) (fG))
 (aV (lC (bW (r2 (mV false) (r2 cJ (r2 dIx (aA 1) (rC (.int 11))) (rC (.int 5))) (rC (.int 2)))) (aV (bE 4 (wG (aA 4) (fL) (nY (r2 cJ (r2 bX (r2 dIx (aA 1) (rC (.int 11))) (rC (.int 5))) (rC (.int 3))))))
 (bE 5 (rC .non))) (fG))
 (aV (bE 6 (r1 oS (aA 4)))
 (dQ (sQ (aX UA (aD (aX F_piece_of (aD (aU 6) (aK))) (aD (aU 5) (aK)))) (r2 (dEq) (aA 6) (aA 4)))))))))))
theorem KG {α:Type} (x:α) (xs:List α):atI (x::xs) 0=some x:=by
 unfold atI ixN;simp
theorem OI {α:Type} (x y:α) (xs:List α):atI (x::y::xs) 1=some y:=by
 unfold atI ixN
 rw[if_pos (by decide),if_pos (by simp only[List.length_cons];omega)];rfl
theorem OJ {α:Type} (x y z:α) (xs:List α):atI (x::y::z::xs) 2=some z:=by
 unfold atI ixN
 rw[if_pos (by decide),if_pos (by simp only[List.length_cons];omega)];rfl
theorem xI {α:Type} {xs:List α} {i:Int} {j:Nat} {x:α} (h:i=(j:Int)) (e:xs[j]? = some x):atI xs i=some x:=by
 subst h;exact sX e
theorem EL {x y:D} {Q:D->Prop}:dEq x y Q=(match eqF 6 x y with | some b=>Q (.bl b) | none=>False):=rfl
theorem BL.const {n:Nat} {i:Int} (h:i.natAbs<2 ^ n:=by decide):BL n i:=h
theorem GJ {i j:Int} (h:0<=j/\j<=1000000/\i.natAbs<2 ^ 64:=by decide):PowOk i j:=⟨h⟩
theorem tV {j:Int} (h:j≠0:=by decide):ModOk j:=⟨h⟩
theorem AD {n:Nat} (h:n<=1000):n<=sizeLine:=Nat.le_trans h (by decide)
theorem uX {x:D} {xs:List D} {Q:D->Prop}:dIx (.tup (x::xs)) (.int 0) Q=Q x:=by simp only[dIx,KG]
theorem uY {x y:D} {xs:List D} {Q:D->Prop}:dIx (.tup (x::y::xs)) (.int 1) Q=Q y:=by simp only[dIx,OI]
theorem EZ {x y z:D} {xs:List D} {Q:D->Prop}:dIx (.tup (x::y::z::xs)) (.int 2) Q=Q z:=by simp only[dIx,OJ]
theorem dZ {xs:List D} {i:Int} {Q:D->Prop} {x:D} (e:atI xs i=some x) (h:Q x):dIx (.lst xs) (.int i) Q:=by simp only[dIx,e];exact h
theorem jO {xs:List D} {i:Int} {Q:D->Prop} (h0:0<=i) (h1:i<xs.length) (h:∀x,x∈xs->Q x):dIx (.lst xs) (.int i) Q:=by
 have hj:i.toNat<xs.length:=by omega
 exact dZ (xI (j:=i.toNat) (by omega) (List.getElem?_eq_getElem hj)) (h _ (List.getElem_mem hj))
theorem eK {xs:List D} {k:Nat} {x:D} {Q:D->Prop} (e:xs[k]? = some x):dIx (.lst xs) (.int (k:Int)) Q=Q x:=by simp only[dIx,sX e]
theorem EO {a0:D} {r:List D} {Q:D->Prop}:dIx (.lst (a0::r)) (.int 0) Q=Q a0:=eK (k:=0) rfl
theorem EQ {a0 a1:D} {r:List D} {Q:D->Prop}:dIx (.lst (a0::a1::r)) (.int 1) Q=Q a1:=eK (k:=1) rfl
theorem ER {a0 a1 a2:D} {r:List D} {Q:D->Prop}:dIx (.lst (a0::a1::a2::r)) (.int 2) Q=Q a2:=eK (k:=2) rfl
theorem ES {a0 a1 a2 a3:D} {r:List D} {Q:D->Prop}:dIx (.lst (a0::a1::a2::a3::r)) (.int 3) Q=Q a3:=eK (k:=3) rfl
theorem ET {a0 a1 a2 a3 a4:D} {r:List D} {Q:D->Prop}:dIx (.lst (a0::a1::a2::a3::a4::r)) (.int 4) Q=Q a4:=eK (k:=4) rfl
theorem EU {a0 a1 a2 a3 a4 a5:D} {r:List D} {Q:D->Prop}:dIx (.lst (a0::a1::a2::a3::a4::a5::r)) (.int 5) Q=Q a5:=eK (k:=5) rfl
theorem EV {a0 a1 a2 a3 a4 a5 a6:D} {r:List D} {Q:D->Prop}:dIx (.lst (a0::a1::a2::a3::a4::a5::a6::r)) (.int 6) Q=Q a6:=eK (k:=6) rfl
theorem EW {a0 a1 a2 a3 a4 a5 a6 a7:D} {r:List D} {Q:D->Prop}:dIx (.lst (a0::a1::a2::a3::a4::a5::a6::a7::r)) (.int 7) Q=Q a7:=eK (k:=7) rfl
theorem EX {a0 a1 a2 a3 a4 a5 a6 a7 a8:D} {r:List D} {Q:D->Prop}:dIx (.lst (a0::a1::a2::a3::a4::a5::a6::a7::a8::r)) (.int 8) Q=Q a8:=eK (k:=8) rfl
theorem EY {a0 a1 a2 a3 a4 a5 a6 a7 a8 a9:D} {r:List D} {Q:D->Prop}:dIx (.lst (a0::a1::a2::a3::a4::a5::a6::a7::a8::a9::r)) (.int 9) Q=Q a9:=eK (k:=9) rfl
theorem BM {a0 a1 a2 a3 a4 a5 a6 a7 a8 a9 a10:D} {r:List D} {Q:D->Prop}:dIx (.lst (a0::a1::a2::a3::a4::a5::a6::a7::a8::a9::a10::r)) (.int 10) Q=Q a10:=eK (k:=10) rfl
theorem BN {a0 a1 a2 a3 a4 a5 a6 a7 a8 a9 a10 a11:D} {r:List D} {Q:D->Prop}:dIx (.lst (a0::a1::a2::a3::a4::a5::a6::a7::a8::a9::a10::a11::r)) (.int 11) Q=Q a11:=eK (k:=11) rfl
noncomputable def dS (n:Nat) (ds:List D):En:=ds.map (λd=>some (.d d))++List.replicate n none
theorem aW {N:List Str} {ds:List D} (n:Nat) (h:N.length=ds.length+n):aQ N ds=dS n ds:=by
 unfold aQ dS;rw[h,Nat.add_sub_cancel_left]
theorem LV {i:Int}:BT "int" (.int i)=some true:=rfl
theorem LT {i:Int}:BT "bool" (.int i)=some false:=rfl
theorem LU {i:Bool}:BT "int" (.bl i)=some true:=rfl
theorem LS {i:Bool}:BT "bool" (.bl i)=some true:=rfl
theorem LW {xs:List D}:BT "tuple" (.tup xs)=some true:=rfl
theorem SE {α:Type} {x:α}:List.replicate 0 x=[]:=rfl
theorem NO {α:Type} {x:α}:List.replicate 1 x=[x]:=rfl
theorem QE {α:Type} {x:α}:List.replicate 2 x=[x,x]:=rfl
theorem QF {α:Type} {x:α}:List.replicate 3 x=[x,x,x]:=rfl
theorem QG {α:Type} {x:α}:List.replicate 4 x=[x,x,x,x]:=rfl
theorem NP {α:Type} {x:α}:List.replicate 5 x=[x,x,x,x,x]:=rfl
theorem NQ {α:Type} {x:α}:List.replicate 6 x=[x,x,x,x,x,x]:=rfl
theorem SF {α:Type} {x:α}:List.replicate 7 x=[x,x,x,x,x,x,x]:=rfl
theorem SG {α:Type} {x:α}:List.replicate 8 x=[x,x,x,x,x,x,x,x]:=rfl
theorem NR {α:Type} {x:α}:List.replicate 9 x=[x,x,x,x,x,x,x,x,x]:=rfl
theorem QB {α:Type} {x:α}:List.replicate 10 x=[x,x,x,x,x,x,x,x,x,x]:=rfl
theorem QC {α:Type} {x:α}:List.replicate 11 x=[x,x,x,x,x,x,x,x,x,x,x]:=rfl
theorem QD {α:Type} {x:α}:List.replicate 12 x=[x,x,x,x,x,x,x,x,x,x,x,x]:=rfl
theorem sz2:Sz (0+1+1):=⟨by decide⟩
theorem sz3:Sz (0+1+1+1):=⟨by decide⟩
theorem sz4:Sz (0+1+1+1+1):=⟨by decide⟩
theorem sz1:Sz (0+1):=⟨by decide⟩
theorem sz0:Sz 0:=⟨by decide⟩
local macro_rules | `(tactic| walk_at "rd")=>do
 let a <- ("aV fG dQ PY lC bE mI NN NM aY jJ cF jI aU aA rC r2 r1 bW GN rOr uD sQ RV GO rIf aK aD lD rP aX rCB fL nY QA mH SH riL riT wI NS NT jE fZ oD BI vN iF AO qF SD NX wG nS oS pK RC dNe yJ GS QH cE eJ cK bX cJ rD oE iS mV xP EL AA uX uY EZ EO EQ ER ES ET EU EV EW EX EY BM BN xO QY zN sF gO rA LV LT LU LS LW S.val dS SE NO QE QF QG NP NQ SF SG NR QB QC QD List.map_cons List.map_nil List.cons_append List.nil_append List.length_cons List.length_nil List.getElem?_cons_zero List.getElem?_cons_succ List.set_cons_zero List.set_cons_succ List.append_nil Bool.or_false Bool.or_true Bool.false_or Bool.true_or Bool.not_true Bool.not_false if_true if_false Bool.false_eq_true sz0 sz1 sz2 sz3 sz4 true_and decide_eq_true_eq Int.reduceToNat Int.reducePow Int.reduceMul Int.reduceSub Int.reduceAdd Int.reduceNeg".splitOn " ").toArray.mapM λx=>`(Lean.Parser.Tactic.simpLemma| $(Lean.mkIdent x.toName):term)
 `(tactic| simp only[$a,*])
local macro_rules | `(tactic| walk_at "side")=>`(tactic| first | exact GJ | exact tV | exact (BL.const (n:=9000) (by decide)).divOk (by decide) | exact (BL.const (n:=300) (by decide)).mulOk (BL.const (n:=300) (by decide)))
local macro_rules | `(tactic| walk_at "sides")=>`(tactic| repeat (refine And.intro (by walk_at "side") ?_))
theorem lR (i:Int):(if i<0 then -i else i)=((i.natAbs:Nat):Int):=by split <;> omega
theorem sJ (x y:Nat):((x:Nat):Int).fmod (y:Nat)=((x % y:Nat):Int):=by
 rw[Int.fmod_eq_emod_of_nonneg _ (Int.natCast_nonneg y)];exact (Int.natCast_emod x y).symm
noncomputable def lJ:FD:=λds Q=>∃a b:Int,ds=[.int a,.int b]/\Q (.int (Int.gcd a b:Nat))
theorem AE:∀ds Q,lJ ds Q->ds.length=2:=by rintro ds Q ⟨a,b,rfl,_⟩;rfl
theorem nD (E:DEnds):∀(y x:Nat),E.nx [some (.d (.int (Nat.gcd x y:Nat))),some (.d (.int (0:Nat)))] ->
  lE (bW (r2 (iS λi j=>decide (j<i)) (aA 1) (rC (.int 0)))) dE E [some (.d (.int (x:Nat))),some (.d (.int (y:Nat)))]:=by
 intro y
 induction y using Nat.strongRecOn with
 | ind y ih =>
  intro x h
  cases Nat.eq_zero_or_pos y with
  | inl hy =>
   subst hy
   refine⟨1,?_⟩
   unfold dU
   walk_at "rd"
   rw[if_neg (by decide)]
   rw[Nat.gcd_zero_right] at h
   exact h
  | inr hy =>
   have h2:=ih (x % y) (Nat.mod_lt x hy) y (by
    rw[Nat.gcd_comm y,<-Nat.gcd_rec,Nat.gcd_comm];exact h)
   obtain⟨n,hn⟩:=h2
   refine⟨n+1,?_⟩
   unfold dU dE
   walk_at "rd"
   rw[if_pos (by omega)]
   refine⟨⟨by omega⟩,?_⟩
   rw[sJ]
   exact hn
theorem nJ:∀ds Q,lJ ds Q->cY { nx:=λ_=>Q .non,rt:=Q } (aQ ["_law_one","_law_other"] ds):=by
 rintro ds Q ⟨a,b,rfl,q⟩
 rw[aW 0 rfl]
 unfold cY
 walk_at "rd"
 rw[lR,lR]
 refine nD _ _ _ ?_
 walk_at "rd"
 exact q
theorem jV (E:DEnds) (u v:Option S):∀(y x:Nat) (r:Option S),(∀r,E.nx [u,v,some (.d (.int (Nat.gcd x y:Nat))),some (.d (.int (0:Nat))),r]) ->
  lE (bW (r2 (mV true) (aA 3) (rC (.int 0)))) cR E [u,v,some (.d (.int (x:Nat))),some (.d (.int (y:Nat))),r]:=by
 intro y
 induction y using Nat.strongRecOn with
 | ind y ih =>
  intro x r h
  cases Nat.eq_zero_or_pos y with
  | inl hy =>
   subst hy
   refine⟨1,?_⟩
   unfold dU
   walk_at "rd"
   rw[if_neg (by simp)]
   rw[Nat.gcd_zero_right] at h
   exact h r
  | inr hy =>
   obtain⟨n,hn⟩:=ih (x % y) (Nat.mod_lt x hy) y (some (.d (.int ((x % y:Nat))))) (by
    rw[Nat.gcd_comm y,<-Nat.gcd_rec,Nat.gcd_comm];exact h)
   refine⟨n+1,?_⟩
   unfold dU cR
   walk_at "rd"
   rw[if_pos (by simp;omega)]
   refine⟨⟨by omega⟩,?_⟩
   rw[sJ]
   exact hn
theorem jW:∀ds Q,lJ ds Q->cN { nx:=λ_=>Q .non,rt:=Q } (aQ ["one","other","larger","smaller","rest"] ds):=by
 rintro ds Q ⟨a,b,rfl,q⟩
 rw[aW 3 rfl]
 unfold cN
 walk_at "rd"
 rw[lR,lR]
 refine jV _ _ _ _ _ _ λr=>?_
 walk_at "rd"
 exact q
noncomputable abbrev fr (a b:Int):D:=.tup [.int a,.int b]
theorem tL {a b:Int} (h:b≠0):0<(Int.gcd a b:Int):=by
 have:0<Int.gcd a b:=Int.gcd_pos_of_ne_zero_right a h
 omega
theorem BL.gcd {n:Nat} {a b:Int} (hb:b≠0) (h:BL n b):BL n (Int.gcd a b:Int):=by
 refine h.le ?_
 rw[Int.natAbs_natCast]
 exact Nat.le_of_dvd (by omega) (Int.gcd_dvd_natAbs_right a b)
structure Low (a b p q:Int):Prop where
 pos:0<q
 cop:Int.gcd p q=1
 worth:p*b=a*q
 lea:p.natAbs<=a.natAbs
 leb:q.natAbs<=b.natAbs
theorem IW {a b:Int} (hb:0<b):Low a b (a.fdiv (Int.gcd a b:Nat)) (b.fdiv (Int.gcd a b:Nat)):=by
 have hg:0<(Int.gcd a b:Int):=tL (by omega)
 have ea:((Int.gcd a b:Nat):Int)∣a:=Int.gcd_dvd_left ..
 have eb:((Int.gcd a b:Nat):Int)∣b:=Int.gcd_dvd_right ..
 rw[Int.fdiv_eq_ediv_of_nonneg _ (by omega),Int.fdiv_eq_ediv_of_nonneg _ (by omega)]
 have e1:a / (Int.gcd a b:Int)*(Int.gcd a b:Int)=a:=Int.ediv_mul_cancel ea
 have e2:b / (Int.gcd a b:Int)*(Int.gcd a b:Int)=b:=Int.ediv_mul_cancel eb
 have hc:Int.gcd (a / (Int.gcd a b:Int)) (b / (Int.gcd a b:Int))=1:=Int.gcd_ediv_gcd_ediv_gcd (by omega)
 generalize (Int.gcd a b:Int)=g at *
 generalize a / g=p at *
 generalize b / g=q at *
 subst e1 e2
 refine⟨?_,hc,by rw[Int.mul_assoc,Int.mul_comm q g],?_,?_⟩
 ·exact Int.pos_of_mul_pos_left hb (by omega)
 ·rw[Int.natAbs_mul];exact Nat.le_mul_of_pos_right _ (by omega)
 ·rw[Int.natAbs_mul];exact Nat.le_mul_of_pos_right _ (by omega)
noncomputable def uJ:FD:=λds Q=>∃a b:Int,ds=[.int a,.int b]/\(0<b/\BL 9000 b)/\∀p q,Low a b p q->Q (fr p q)
theorem IR:∀ds Q,uJ ds Q->ds.length=2:=by rintro ds Q ⟨a,b,rfl,_⟩;rfl
noncomputable def lO:FD:=λds Q=>∃a:Int,ds=[.int a]/\Q (.bl true)
theorem CD:∀ds Q,lO ds Q->ds.length=1:=by rintro ds Q ⟨a,rfl,_⟩;rfl
theorem qA:∀ds Q,lO ds Q->eF { nx:=λ_=>Q .non,rt:=Q } (aQ ["_law_found"] ds):=by
 rintro ds Q ⟨a,rfl,q⟩
 rw[aW 0 rfl]
 unfold eF
 walk_at "rd"
 exact q
theorem aT {a b:Int} (h:0<b):0<=a.fmod b/\a.fmod b<b:=⟨Int.fmod_nonneg_of_pos a h,Int.fmod_lt_of_pos a h⟩
theorem IQ:∀ds Q,xC 63 ds Q->ds.length=1:=by rintro ds Q ⟨a,rfl,_⟩;rfl
theorem cT {g:RG} {t:RS} {E:DEnds} (J:List D->En->Prop)
  (step:∀x xs ρ,J (x::xs) ρ->∀F:DEnds,F.rt=E.rt->F.bk=E.nx->(∀ρ',J xs ρ'->F.nx ρ')->(∀ρ',J xs ρ'->F.ct ρ')->g x ρ λρ1=>t F ρ1) (last:∀ρ,J [] ρ->E.nx ρ):∀xs ρ,J xs ρ->xX g t xs E ρ
 | [],ρ,h=>last ρ h
 | x::xs,ρ,h=>step x xs ρ h _ rfl rfl (λρ' h'=>cT J step last xs ρ' h') λρ' h'=>cT J step last xs ρ' h'
theorem uU {α:Type} {g:RG} {te:RE} (R:En->Prop) (enc f:α->D):∀(src:List α) {Q:List D->Prop},(∀a∈src,∀ρ,R ρ->∀K:En->D->Prop,(∀ρ1,R ρ1->K ρ1 (f a))->g (enc a) ρ λρ1=>te ρ1 λd=>K ρ1 d) ->
  ∀(ρ:En) (acc:List D),R ρ->Q (acc++src.map f)->fZ g te (src.map enc) ρ acc Q
 | [],Q,_,ρ,acc,_,q=>by
  show Q acc
  simpa using q
 | a::src,Q,step,ρ,acc,h,q=>by
  show g (enc a) ρ λρ'=>te ρ' λd=>fZ g te (src.map enc) ρ' (acc++[d]) Q
  refine step a List.mem_cons_self ρ h (λρ1 d=>fZ g te (src.map enc) ρ1 (acc++[d]) Q) λρ1 h1=>?_
  exact uU R enc f src (λb hb=>step b (List.mem_cons_of_mem _ hb)) ρ1 _ h1 (by simpa using q)
theorem eI {α:Type} {g:RG} {te:RE} (R:En->Prop) (enc f:α->D) (src:List α) {Q:List D->Prop} {ρ:En} (step:∀a∈src,∀ρ,R ρ->∀K:En->D->Prop,(∀ρ1,R ρ1->K ρ1 (f a))->g (enc a) ρ λρ1=>te ρ1 λd=>K ρ1 d)
  (h:R ρ) (q:Q (src.map f)):fZ g te (src.map enc) ρ [] Q:=uU R enc f src step ρ [] h (by simpa using q)
noncomputable abbrev il (ns:List Int):D:=.lst (ns.map .int)
noncomputable abbrev pt (p:Int × Int):D:=.tup [.int p.1,.int p.2]
noncomputable abbrev pts (ps:List (Int × Int)):D:=.lst (ps.map pt)
theorem EN {ns:List Int} {i:Int} {Q:D->Prop} (h0:0<=i) (h1:i<ns.length) (q:∀n∈ns,Q (.int n)):dIx (il ns) (.int i) Q:=by
 refine jO h0 (by simpa using h1) λx hx=>?_
 obtain⟨n,hn,rfl⟩:=List.mem_map.mp hx
 exact q n hn
theorem dL {n:Nat} (h:n<=100000):Sz n:=⟨Nat.le_trans h (by decide)⟩
theorem LY {n:Nat} {i:Int} (h0:0<=i) (h1:i<n):ixN n i=some i.toNat:=by
 unfold ixN
 rw[if_pos h0,if_pos (by omega)]
noncomputable abbrev big:Int:=1000000000000000000000000000000000000000000000000000000000007
structure Drawn (m:Nat) (xs:List Int):Prop where
 len:xs.length=m
 lo:∀x∈xs,0<=x
 hi:∀x∈xs,x<big
theorem Drawn.bl {m:Nat} {xs:List Int} (h:Drawn m xs) {x:Int} (hx:x∈xs):BL 200 x:=by
 have h0:=h.lo x hx
 have h1:=h.hi x hx
 have e:big<((2 ^ 200:Nat):Int):=by decide
 exact BL.of_lt (by omega) (by omega)
noncomputable def fX:FD:=λds Q=>∃(ns:List Int) (m:Nat),ds=[il ns,.int m]/\(ns.length<=100/\1<=m/\m<=100)/\∀xs,Drawn m xs->Q (il xs)
theorem vS:∀ds Q,fX ds Q->ds.length=2:=by rintro ds Q ⟨a,b,rfl,_⟩;rfl
noncomputable def gY:RS:=aV (bE 5 (r2 cJ (aA 3) (aA 1)))
 (qF 2 (r2 cJ (r2 cE (r2 cE (r2 cK (r2 dIx (aA 2) (aA 5)) (rC (.int 48271))) (aA 4)) (r2 cK (aA 3) (aA 3))) (r2 cE (r2 rD (rC (.int 10)) (rC (.int 60))) (rC (.int 7)))) (aU 5))
theorem yE:dF=aV (bE 4 (rC (.int 0)))
 (aV (lC (bW (r2 (iS λi j=>decide (j<i)) (r1 gO (aA 0)) (rC (.int 0)))) (bE 4 (r2 cJ (r2 dIx (aA 0) (r2 cJ (aA 3) (rCB sF (aD (r1 gO (aA 0)) (aD (rC (.int 63)) (aK)))))) (r2 cE (r2 rD (rC (.int 10)) (rC (.int 60))) (rC (.int 7))))) (fG)) gY):=rfl
theorem tU {ns:List Int} {m:Nat} (hm:1<=m/\m<=100) {E:DEnds} (q:∀xs a b c,Drawn m xs->E.nx [some (.d (il ns)),some (.d (.int m)),some (.own (xs.map .int)),a,b,c]) (xs:List D) (ρ:En)
  (hx:∀x∈xs,∃j:Int,x = .int j/\0<=j/\j<=1000) (hρ:∃ys a b c,ρ=[some (.d (il ns)),some (.d (.int m)),some (.own (ys.map .int)),a,b,c]/\Drawn m ys):xX (aY 3) dF xs E ρ:=by
 refine cT (λxs ρ=>(∀x∈xs,∃j:Int,x = .int j/\0<=j/\j<=1000)/\∃ys a b c,ρ=[some (.d (il ns)),some (.d (.int m)),some (.own (ys.map .int)),a,b,c]/\Drawn m ys) ?_ ?_ xs ρ ⟨hx,hρ⟩
 ·rintro x xs ρ ⟨hx,ys,a,b,c,rfl,hd⟩ F _ _ hn _
  obtain⟨j,rfl,j0,j1⟩:=hx x List.mem_cons_self
  have hx':∀x∈xs,∃j:Int,x = .int j/\0<=j/\j<=1000:=λx h=>hx x (List.mem_cons_of_mem _ h)
  have done:∀cell:Int,gY F [some (.d (il ns)),some (.d (.int m)),some (.own (ys.map .int)),some (.d (.int j)),some (.d (.int cell)),c]:=λcell=>by
   unfold gY
   walk_at "rd"
   have hm':(0:Int)<m:=by omega
   obtain⟨a0,a1⟩:=aT (a:=j) hm'
   refine⟨⟨by omega⟩,?_⟩
   refine EN a0 (by rw[hd.len];exact a1) λy hy=>?_
   have by':=hd.bl hy
   refine⟨by'.mulOk (BL.const (n:=20)),(BL.of_lt (m:=20) (by omega) (by omega)).mulOk (BL.of_lt (m:=20) (by omega) (by omega)),?_⟩
   walk_at "sides"
   obtain⟨e0,e1⟩:=aT (a:=y*48271+cell+j*j) (b:=big) (by decide)
   generalize (y*48271+cell+j*j).fmod big=z at *
   generalize j.fmod m=i at *
   rw[LY a0 (by simpa [hd.len] using a1)]
   refine hn _ ⟨hx',ys.set i.toNat z,_,_,_,by rw[<-List.map_set],⟨by simpa using hd.len,λx hx=>?_,λx hx=>?_⟩⟩
   ·rcases List.mem_or_eq_of_mem_set hx with h | rfl
    ·exact hd.lo x h
    ·exact e0
   ·rcases List.mem_or_eq_of_mem_set hx with h | rfl
    ·exact hd.hi x h
    ·exact e1
  rw[yE]
  walk_at "rd"
  split
  ·rename_i hl
   have hl':0<ns.length:=by simpa using hl
   have hpos:(0:Int)<(if (63:Int)<((ns.map D.int).length:Int) then 63 else ((ns.map D.int).length:Int)):=by split <;> simp <;> omega
   obtain⟨a0,a1⟩:=aT (a:=j) hpos
   have a2:(if (63:Int)<((ns.map D.int).length:Int) then 63 else ((ns.map D.int).length:Int))<=ns.length:=by split <;> simp at * <;> omega
   exact⟨⟨Int.ne_of_gt hpos⟩,EN a0 (Int.lt_of_lt_of_le a1 a2) λy _=>⟨GJ,tV,done _⟩⟩
  ·exact done 0
 ·rintro ρ ⟨_,ys,a,b,c,rfl,hd⟩
  exact q ys a b c hd
theorem kZ {lo:Int} {n:Nat} {x:D} (h:x∈cQ lo n):∃j:Int,x = .int j/\lo<=j/\j<lo+n:=by
 unfold cQ at h
 obtain⟨k,hk,rfl⟩:=List.mem_map.mp h
 have:=List.mem_range.mp hk
 exact⟨_,rfl,by omega,by omega⟩
theorem lF {lo:Int} {n:Nat}:(cQ lo n).length=n:=by simp[cQ]
theorem nK:∀ds Q,fX ds Q->cZ { nx:=λ_=>Q .non,rt:=Q } (aQ ["_law_script","_law_many","_law_found","_law_k","_law_cell","_law_at"] ds):=by
 rintro ds Q ⟨ns,m,rfl,⟨hn,hm⟩,q⟩
 rw[aW 4 rfl]
 unfold cZ
 walk_at "rd"
 refine⟨⟨by omega,by omega⟩,dL (by rw[lF];omega),?_⟩
 unfold cQ
 refine eI (λρ=>∃a,ρ=[a]) (λk:Nat=>D.int (0+(k:Int))) (λ_=>D.int 0) _ ?_ ⟨_,rfl⟩ ?_
 ·rintro a _ ρ ⟨b,rfl⟩ K hK
  exact hK _ ⟨_,rfl⟩
 ·have len:(ns.map D.int).length=ns.length:=by simp
  have e0:∃M:Int,(if (m:Int)<(if (63:Int)<((ns.map D.int).length:Int) then 63 else ((ns.map D.int).length:Int)) then (if (63:Int)<((ns.map D.int).length:Int) then 63 else ((ns.map D.int).length:Int)) else (m:Int))=M/\0<=M/\M<=100:=⟨_,rfl,by rw[len];split <;> (try split) <;> omega,by rw[len];split <;> (try split) <;> omega⟩
  obtain⟨M,eM,M0,M1⟩:=e0
  rw[eM]
  refine⟨⟨by omega,by omega⟩,?_⟩
  refine tU (ns:=ns) hm (λxs a b c hd=>?_) _ _ (λx hx=>?_) ⟨List.replicate m 0,none,none,none,?_,⟨by simp,λx hx=>?_,λx hx=>?_⟩⟩
  ·walk_at "rd"
   exact q xs hd
  ·obtain⟨j,rfl,j0,j1⟩:=kZ hx
   exact⟨j,rfl,j0,by omega⟩
  ·congr 5
   apply List.ext_getElem
   ·simp
   ·intro i h1 h2;simp
  ·rw[(List.mem_replicate.mp hx).2];decide
  ·rw[(List.mem_replicate.mp hx).2];decide
theorem pG {α:Type} {xs:List α} {x:α} (h:xs.getLast? = some x):atI xs (-1)=some x:=by
 have hne:xs≠[]:=λe=>by rw[e] at h;cases h
 have hl:0<xs.length:=List.length_pos_iff.mpr hne
 unfold atI ixN
 rw[if_neg (by decide),if_pos (by omega)]
 rw[List.getLast?_eq_getElem?] at h
 show xs[((-1:Int)+(xs.length:Int)).toNat]? = some x
 rw[<-h];congr 1;omega
structure Rises (xs:List Int):Prop where
 first:∀a,xs[0]? = some a->-4<=a/\a<=-1
 step:∀(i:Nat) a b,xs[i]? = some a->xs[i+1]? = some b->a+1<=b/\b<=a+3
theorem Rises.snoc {xs:List Int} {a b:Int} (h:Rises xs) (hl:xs.getLast? = some a) (h1:a+1<=b) (h2:b<=a+3):Rises (xs++[b]):=by
 have hne:0<xs.length:=by
  cases xs with
  | nil=>cases hl
  | cons _ _=>simp
 refine⟨λx e=>h.first x (by rwa [List.getElem?_append_left hne] at e),λi x y e1 e2=>?_⟩
 by_cases hi:i+1<xs.length
 ·rw[List.getElem?_append_left hi] at e2
  rw[List.getElem?_append_left (by omega)] at e1
  exact h.step i x y e1 e2
 ·have hi2:i+1=xs.length:=by
   have:=(List.getElem?_eq_some_iff.mp e2).1
   simp at this;omega
  rw[hi2,List.getElem?_append_right (Nat.le_refl _)] at e2
  simp at e2;subst e2
  rw[List.getElem?_append_left (by omega)] at e1
  rw[List.getLast?_eq_getElem?,<-hi2] at hl
  simp at hl
  rw[hl] at e1;cases e1
  exact⟨h1,h2⟩
theorem Rises.bound {xs:List Int} (h:Rises xs):∀(i:Nat) a,xs[i]? = some a->-4<=a/\a<=3*(i:Int)-1
 | 0,a,e=>by have:=h.first a e;omega
 | i+1,a,e=>by
  have hi:i<xs.length:=by have:=(List.getElem?_eq_some_iff.mp e).1;omega
  have e1:xs[i]? = some xs[i]:=List.getElem?_eq_getElem hi
  have b:=Rises.bound h i _ e1
  have c:=h.step i _ _ e1 e
  omega
noncomputable def oQ:FD:=λds Q=>∃n m:Int,ds=[.int n,.int m]/\(1<=m/\m<=40)/\∀xs,Rises xs->(xs.length:Int)=m->Q (il xs)
theorem BY:∀ds Q,oQ ds Q->ds.length=2:=by rintro ds Q ⟨a,b,rfl,_⟩;rfl
theorem pY:∀ds Q,oQ ds Q->eD { nx:=λ_=>Q .non,rt:=Q } (aQ ["_law_number","_law_many","_law_found","_law_k"] ds):=by
 rintro ds Q ⟨n,m,rfl,⟨hm1,hm2⟩,q⟩
 rw[aW 2 rfl]
 unfold eD
 walk_at "rd"
 walk_at "sides"
 refine⟨⟨by omega,by omega⟩,?_⟩
 obtain⟨a0,a1⟩:=aT (a:=n) (b:=4) (by decide)
 generalize n.fmod 4=c at *
 refine cT (λxs ρ=>(∀x∈xs,∃j:Int,x = .int j/\0<=j/\j<=1000)/\∃(ys:List Int) (u:Option S),ρ=[some (.d (.int n)),some (.d (.int m)),some (.own (ys.map .int)),u]/\Rises ys/\ys≠[]/\(ys.length+xs.length:Int)=m) ?_ ?_ _ _ ⟨λx hx=>?_,[c-4],none,rfl,⟨λa e=>?_,λi a b e1 e2=>?_⟩,by simp,?_⟩
 ·rintro x xs ρ ⟨hx,ys,u,rfl,hr,hne,hl⟩ F _ _ hn _
  obtain⟨j,rfl,j0,j1⟩:=hx x List.mem_cons_self
  unfold gG
  walk_at "rd"
  have hlast:ys.getLast? = some (ys.getLast hne):=List.getLast?_eq_some_getLast hne
  refine dZ (x:=.int (ys.getLast hne)) (pG (by rw[List.getLast?_map,hlast];rfl)) ?_
  walk_at "rd"
  obtain⟨b0,b1⟩:=aT (a:=n.fdiv (4+3*j)) (b:=3) (by decide)
  generalize (n.fdiv (4+3*j)).fmod 3=z at *
  have b4:BL 9000 (4+3*j):=(BL.of_lt (m:=20) (by omega) (by omega)).mono (by decide)
  refine⟨(BL.const (n:=20)).mulOk (BL.of_lt (m:=20) (i:=j) (by omega) (by omega)),b4.divOk (by omega),tV,dL ?_,?_⟩
  ·simp at hl ⊢;omega
  ·refine hn _ ⟨λx h=>hx x (List.mem_cons_of_mem _ h),ys++[ys.getLast hne+1+z],some (.d (.int j)),by simp,hr.snoc hlast (by omega) (by omega),by simp,?_⟩
   simp at hl ⊢;omega
 ·rintro ρ ⟨_,ys,u,rfl,hr,hne,hl⟩
  walk_at "rd"
  exact q ys hr (by simpa using hl)
 ·obtain⟨j,rfl,j0,j1⟩:=kZ hx
  exact⟨j,rfl,j0,by omega⟩
 ·simp at e;subst e;omega
 ·simp at e2
 ·rw[lF];simp;omega
theorem OM {xs:List D} {i:Nat} {x:D} {Q:D->Prop} (e:xs[i]? = some x) (q:Q x):dIx (.lst xs) (.int (i:Int)) Q:=dZ (sX e) q
noncomputable abbrev aff (p q r s ox oy:Int) (z:Int × Int):Int × Int:=(p*z.1+q*z.2+ox,r*z.1+s*z.2+oy)
noncomputable def dI (lows highs:List Int) (top:Int):List (Int × Int):=lows.map (λx=>(x,x*x))++highs.reverse.map λx=>(x,top-x*x)
structure RingForm (lows highs:List Int) (top p q r s ox oy:Int):Prop where
 lowsR:Rises lows
 highsR:Rises highs
 lowsN:2<=lows.length/\lows.length<=21
 highsN:1<=highs.length/\highs.length<=3
 topL:∀x∈lows++highs,2*(x*x)+1<=top
 topH:top<=10000
 pB:1<=p/\p<=3
 qB:-3<=q/\q<=3
 rB:-3<=r/\r<=3
 sB:-9<=s/\s<=12
 det:0<p*s-q*r
 oxB:BL 202 ox
 oyB:BL 202 oy
noncomputable abbrev lG (lows highs:List Int) (top p q r s ox oy:Int):List (Int × Int):=(dI lows highs top).map (aff p q r s ox oy)
theorem aO {t u:RS} {E:DEnds} {ρ:En} (I:En->Prop) (h1:∀K:En->Prop,(∀ρ',I ρ'->K ρ')->t { E with nx:=K } ρ) (h2:∀ρ',I ρ'->u E ρ'):aV t u E ρ:=h1 (u E) h2
noncomputable def pC:FD:=λds Q=>∃(h0 h1 h2 h3 h4 h5 h6:Int) (rest:List D) (far:Int),ds=[.lst (.int h0 :: .int h1 :: .int h2 :: .int h3 :: .int h4 :: .int h5 :: .int h6::rest),.int far]/\(0<=far/\BL 200 far) /\
 ∀lows highs top p q r s ox oy,RingForm lows highs top p q r s ox oy->Q (pts (lG lows highs top p q r s ox oy))
theorem FT:∀ds Q,pC ds Q->ds.length=2:=by rintro ds Q ⟨_,_,_,_,_,_,_,_,_,rfl,_⟩;rfl
theorem KU (x:Int):0<=x*x:=by
 rcases Int.le_total 0 x with h | h
 ·exact Int.mul_nonneg h h
 ·have:=Int.mul_nonneg (Int.neg_nonneg.mpr h) (Int.neg_nonneg.mpr h)
  rwa [Int.neg_mul_neg] at this
theorem GE {a far:Int} (h0:0<=far) (h:BL 200 far):BL 202 (a.fmod (2*far+1)-far):=by
 obtain⟨a0,a1⟩:=aT (a:=a) (b:=2*far+1) (by omega)
 have:far.natAbs<2 ^ 200:=h
 refine BL.of_lt (m:=202) ?_ ?_
 ·have:(far.natAbs:Int)<((2 ^ 200:Nat):Int):=by exact_mod_cast this
  have e:((2 ^ 200:Nat):Int)<((2 ^ 202:Nat):Int):=by decide
  omega
 ·have:(far.natAbs:Int)<((2 ^ 200:Nat):Int):=by exact_mod_cast this
  have e:((2 ^ 200:Nat):Int)<((2 ^ 202:Nat):Int):=by decide
  omega
theorem rM:∀ds Q,pC ds Q->eU oQ { nx:=λ_=>Q .non,rt:=Q } (aQ ["_law_head","_law_far","_law_lows","_law_highs","_law_top","_law_ring_here","_law_p","_law_q","_law_r","_law_s","_law_off"] ds):=by
 rintro ds Q ⟨h0,h1,h2,h3,h4,h5,h6,rest,far,rfl,⟨hf0,hf1⟩,hQ⟩
 rw[aW 9 rfl]
 unfold eU
 generalize hH:D.lst (.int h0 :: .int h1 :: .int h2 :: .int h3 :: .int h4 :: .int h5 :: .int h6::rest)=HD
 simp only[dS,NR,List.map_cons,List.map_nil,List.cons_append,List.nil_append]
 refine aO (λρ=>∃lows,Rises lows/\(2<=lows.length/\lows.length<=21)/\ρ=[some (.d HD),some (.d (.int far)),some (.d (il lows)),none,none,none,none,none,none,none,none]) (λK hK=>?_) ?_
 ·rw[<-hH] at hK ⊢
  walk_at "rd"
  walk_at "sides"
  obtain⟨a0,a1⟩:=aT (a:=h0) (b:=3) (by decide)
  obtain⟨b0,b1⟩:=aT (a:=h0) (b:=20) (by decide)
  obtain⟨c0,c1⟩:=aT (a:=h2.fdiv 9) (b:=4) (by decide)
  have c2:0<=((h2.fdiv 9).fmod 4).fdiv 3/\((h2.fdiv 9).fmod 4).fdiv 3<2:=by
   rw[Int.fdiv_eq_ediv_of_nonneg _ (by decide)];omega
  refine jO c2.1 (by simpa using c2.2) λx hx=>?_
  have:∃t:Int,x = .int t/\2<=t/\t<=21:=by
   simp only[List.mem_cons,List.not_mem_nil,or_false] at hx
   rcases hx with rfl | rfl
   ·exact⟨_,rfl,by omega,by omega⟩
   ·exact⟨_,rfl,by omega,by omega⟩
  obtain⟨t,rfl,t0,t1⟩:=this
  exact⟨_,_,rfl,⟨by omega,by omega⟩,λxs hr hl=>hK _ ⟨xs,hr,⟨by omega,by omega⟩,rfl⟩⟩
 rintro ρ ⟨lows,hlr,hln,rfl⟩
 refine aO (λρ=>∃highs,Rises highs/\(1<=highs.length/\highs.length<=3)/\ρ=[some (.d HD),some (.d (.int far)),some (.d (il lows)),some (.d (il highs)),none,none,none,none,none,none,none]) (λK hK=>?_) ?_
 ·rw[<-hH] at hK ⊢
  walk_at "rd"
  walk_at "sides"
  obtain⟨a0,a1⟩:=aT (a:=h1) (b:=3) (by decide)
  exact⟨_,_,rfl,⟨by omega,by omega⟩,λxs hr hl=>hK _ ⟨xs,hr,⟨by omega,by omega⟩,rfl⟩⟩
 rintro ρ ⟨highs,hhr,hhn,rfl⟩
 have small:∀x∈lows++highs,-4<=x/\x<=60:=λx hx=>by
  rcases List.mem_append.mp hx with h | h
  ·obtain⟨i,hi,rfl⟩:=List.getElem_of_mem h
   have:=hlr.bound i _ (List.getElem?_eq_getElem hi)
   omega
  ·obtain⟨i,hi,rfl⟩:=List.getElem_of_mem h
   have:=hhr.bound i _ (List.getElem?_eq_getElem hi)
   omega
 have sq:∀x∈lows++highs,0<=x*x/\x*x<=3600:=λx hx=>by
  have:=small x hx
  constructor
  ·exact KU x
  ·by_cases h:0<=x
   ·exact Int.le_trans (Int.mul_le_mul this.2 this.2 h (by decide)) (by decide)
   ·have:x = -4\/x = -3\/x = -2\/x = -1:=by omega
    rcases this with rfl | rfl | rfl | rfl <;> decide
 refine aO (λρ=>∃top,(∀x∈lows++highs,2*(x*x)+1<=top)/\top<=10000/\ρ=[some (.d HD),some (.d (.int far)),some (.d (il lows)),some (.d (il highs)),some (.d (.int top)),none,none,none,none,none,none]) (λK hK=>?_) ?_
 ·rw[<-hH] at hK ⊢
  walk_at "rd"
  refine⟨dL (by simp;omega),dL (by simp;omega),?_⟩
  rw[<-List.map_append]
  refine eI (λρ=>∃a,ρ=[a]) D.int (λx=>D.int (x*x)) (lows++highs) ?_ ⟨_,rfl⟩ ?_
  ·rintro x hx ρ ⟨b,rfl⟩ K' hK'
   walk_at "rd"
   have:=small x hx
   exact⟨(BL.of_lt (m:=20) (i:=x) (by omega) (by omega)).mulOk (BL.of_lt (m:=20) (i:=x) (by omega) (by omega)),hK' _ ⟨_,rfl⟩⟩
  ·refine⟨(lows++highs).map λx=>x*x,by rw[List.map_map];rfl,by intro e;simp at e;rw[e.1] at hln;simp at hln,λM hM hmax=>?_⟩
   obtain⟨x0,hx0,rfl⟩:=List.mem_map.mp hM
   have s0:=sq x0 hx0
   walk_at "rd"
   generalize x0*x0=M at *
   refine⟨(BL.const (n:=20)).mulOk (BL.of_lt (m:=20) (i:=M) (by omega) (by omega)),tV,?_⟩
   obtain⟨d0,d1⟩:=aT (a:=h2) (b:=9) (by decide)
   refine hK _ ⟨_,λx hx=>?_,?_,rfl⟩
   ·have:=hmax (x*x) (List.mem_map.mpr ⟨x,hx,rfl⟩)
    omega
   ·omega
 rintro ρ ⟨top,topL,topH,rfl⟩
 have topB:1<=top:=by
  have hne:lows++highs≠[]:=by intro e;simp at e;rw[e.1] at hln;simp at hln
  obtain⟨x,hx⟩:=List.exists_mem_of_ne_nil _ hne
  have:=topL x hx
  have:=sq x hx
  omega
 refine aO (λρ=>ρ=[some (.d HD),some (.d (.int far)),some (.d (il lows)),some (.d (il highs)),some (.d (.int top)),some (.d (pts (dI lows highs top))),none,none,none,none,none]) (λK hK=>?_) ?_
 ·walk_at "rd"
  refine⟨dL (by simp;omega),?_⟩
  refine eI (λρ=>∃a,ρ=[a]) D.int (λx=>pt (x,x*x)) lows ?_ ⟨_,rfl⟩ ?_
  ·rintro x hx ρ ⟨b,rfl⟩ K' hK'
   walk_at "rd"
   have:=small x (List.mem_append_left _ hx)
   exact⟨(BL.of_lt (m:=20) (i:=x) (by omega) (by omega)).mulOk (BL.of_lt (m:=20) (i:=x) (by omega) (by omega)),hK' _ ⟨_,rfl⟩⟩
  ·refine⟨dL (by simp;omega),?_⟩
   rw[<-List.map_reverse]
   refine eI (λρ=>∃a,ρ=[a,some (.d (.int top))]) D.int (λx=>pt (x,top-x*x)) highs.reverse ?_ ⟨_,rfl⟩ ?_
   ·rintro x hx ρ ⟨b,rfl⟩ K' hK'
    walk_at "rd"
    have:=small x (List.mem_append_right _ (List.mem_reverse.mp hx))
    exact⟨(BL.of_lt (m:=20) (i:=x) (by omega) (by omega)).mulOk (BL.of_lt (m:=20) (i:=x) (by omega) (by omega)),hK' _ ⟨_,rfl⟩⟩
   ·refine⟨dL (by simp;omega),hK _ ?_⟩
    unfold dI pts
    simp only[List.map_append,List.map_map]
    rfl
 rintro ρ rfl
 refine aO (λρ=>∃p,(1<=p/\p<=3)/\ρ=[some (.d HD),some (.d (.int far)),some (.d (il lows)),some (.d (il highs)),some (.d (.int top)),some (.d (pts (dI lows highs top))),some (.d (.int p)),none,none,none,none]) (λK hK=>?_) ?_
 ·rw[<-hH] at hK ⊢
  walk_at "rd"
  walk_at "sides"
  obtain⟨d0,d1⟩:=aT (a:=h3) (b:=3) (by decide)
  exact hK _ ⟨_,⟨by omega,by omega⟩,rfl⟩
 rintro ρ ⟨p,hp,rfl⟩
 refine aO (λρ=>∃q,(-3<=q/\q<=3)/\ρ=[some (.d HD),some (.d (.int far)),some (.d (il lows)),some (.d (il highs)),some (.d (.int top)),some (.d (pts (dI lows highs top))),some (.d (.int p)),some (.d (.int q)),none,none,none]) (λK hK=>?_) ?_
 ·rw[<-hH] at hK ⊢
  walk_at "rd"
  walk_at "sides"
  obtain⟨d0,d1⟩:=aT (a:=h3.fdiv 3) (b:=7) (by decide)
  exact hK _ ⟨_,⟨by omega,by omega⟩,rfl⟩
 rintro ρ ⟨q,hq,rfl⟩
 refine aO (λρ=>∃r,(-3<=r/\r<=3)/\ρ=[some (.d HD),some (.d (.int far)),some (.d (il lows)),some (.d (il highs)),some (.d (.int top)),some (.d (pts (dI lows highs top))),some (.d (.int p)),some (.d (.int q)),some (.d (.int r)),none,none]) (λK hK=>?_) ?_
 ·rw[<-hH] at hK ⊢
  walk_at "rd"
  walk_at "sides"
  obtain⟨d0,d1⟩:=aT (a:=h4) (b:=7) (by decide)
  exact hK _ ⟨_,⟨by omega,by omega⟩,rfl⟩
 rintro ρ ⟨r,hr,rfl⟩
 have qr:-9<=q*r/\q*r<=9:=by
  have hq':q = -3\/q = -2\/q = -1\/q=0\/q=1\/q=2\/q=3:=by omega
  rcases hq' with rfl | rfl | rfl | rfl | rfl | rfl | rfl <;> omega
 refine aO (λρ=>∃s,(-9<=s/\s<=12)/\0<p*s-q*r/\ρ=[some (.d HD),some (.d (.int far)),some (.d (il lows)),some (.d (il highs)),some (.d (.int top)),some (.d (pts (dI lows highs top))),some (.d (.int p)),some (.d (.int q)),some (.d (.int r)),some (.d (.int s)),none]) (λK hK=>?_) ?_
 ·rw[<-hH] at hK ⊢
  walk_at "rd"
  obtain⟨d0,d1⟩:=aT (a:=h4.fdiv 7) (b:=3) (by decide)
  refine⟨(BL.of_lt (m:=20) (i:=q) (by omega) (by omega)).mulOk (BL.of_lt (m:=20) (i:=r) (by omega) (by omega)),((BL.of_lt (m:=20) (i:=p) (by omega) (by omega)).mono (by decide)).divOk (by omega),?_⟩
  walk_at "sides"
  generalize (h4.fdiv 7).fmod 3=z at *
  have e:(q*r).fdiv p=(q*r) / p:=Int.fdiv_eq_ediv_of_nonneg _ (by omega)
  rw[e]
  generalize q*r=m at *
  have hp':p=1\/p=2\/p=3:=by omega
  refine hK _ ⟨_,?_,?_,rfl⟩
  ·rcases hp' with rfl | rfl | rfl <;> omega
  ·rcases hp' with rfl | rfl | rfl <;> omega
 rintro ρ ⟨s,hs,det,rfl⟩
 refine aO (λρ=>∃ox oy,BL 202 ox/\BL 202 oy/\ρ=[some (.d HD),some (.d (.int far)),some (.d (il lows)),some (.d (il highs)),some (.d (.int top)),some (.d (pts (dI lows highs top))),some (.d (.int p)),some (.d (.int q)),some (.d (.int r)),some (.d (.int s)),some (.d (pt (ox,oy)))]) (λK hK=>?_) ?_
 ·rw[<-hH] at hK ⊢
  walk_at "rd"
  refine⟨(BL.const (n:=20)).mulOk hf1,⟨by omega⟩,(BL.const (n:=20)).mulOk hf1,⟨by omega⟩,?_⟩
  exact hK _ ⟨_,_,GE hf0 hf1,GE hf0 hf1,rfl⟩
 rintro ρ ⟨ox,oy,hox,hoy,rfl⟩
 have RF:RingForm lows highs top p q r s ox oy:=⟨hlr,hhr,hln,hhn,topL,topH,hp,hq,hr,hs,det,hox,hoy⟩
 have bow:∀z∈dI lows highs top,BL 20 z.1/\BL 20 z.2:=λz hz=>by
  unfold dI at hz
  rcases List.mem_append.mp hz with h | h
  ·obtain⟨x,hx,rfl⟩:=List.mem_map.mp h
   have:=small x (List.mem_append_left _ hx)
   have:=sq x (List.mem_append_left _ hx)
   exact⟨BL.of_lt (by simp;omega) (by simp;omega),BL.of_lt (by simp;omega) (by simp;omega)⟩
  ·obtain⟨x,hx,rfl⟩:=List.mem_map.mp h
   have hx:=List.mem_reverse.mp hx
   have:=small x (List.mem_append_right _ hx)
   have:=sq x (List.mem_append_right _ hx)
   exact⟨BL.of_lt (by simp;omega) (by simp;omega),BL.of_lt (by simp;omega) (by simp;omega)⟩
 walk_at "rd"
 refine⟨dL (by unfold dI;simp;omega),?_⟩
 refine eI (λρ=>∃a b,ρ=[a,b,some (.d (.int p)),some (.d (.int q)),some (.d (pt (ox,oy))),some (.d (.int r)),some (.d (.int s))]) pt (λz=>pt (aff p q r s ox oy z)) (dI lows highs top) ?_ ⟨_,_,rfl⟩ ?_
 ·rintro z hz ρ ⟨a,b,rfl⟩ K' hK'
  obtain⟨b1,b2⟩:=bow z hz
  walk_at "rd"
  have cp:BL 20 p:=BL.of_lt (by omega) (by omega)
  have cq:BL 20 q:=BL.of_lt (by omega) (by omega)
  have cr:BL 20 r:=BL.of_lt (by omega) (by omega)
  have cs:BL 20 s:=BL.of_lt (by omega) (by omega)
  exact⟨cp.mulOk b1,cq.mulOk b2,cr.mulOk b1,cs.mulOk b2,hK' _ ⟨_,_,rfl⟩⟩
 ·have:=hQ lows highs top p q r s ox oy RF
  unfold pts lG at this
  rw[List.map_map] at this
  exact this
noncomputable def lM:FD:=λds Q=>∃n:Int,ds=[.int n]/\∀s,1<=s->s<=1000000000->Q (.int s)
theorem CB:∀ds Q,lM ds Q->ds.length=1:=by rintro ds Q ⟨_,rfl,_⟩;rfl
theorem nM:∀ds Q,lM ds Q->dA { nx:=λ_=>Q .non,rt:=Q } (aQ ["_law_number"] ds):=by
 rintro ds Q ⟨n,rfl,q⟩
 rw[aW 0 rfl]
 unfold dA
 walk_at "rd"
 walk_at "sides"
 obtain⟨a0,a1⟩:=aT (a:=n) (b:=3) (by decide)
 obtain⟨b0,b1⟩:=aT (a:=n.fdiv 3) (b:=12) (by decide)
 obtain⟨c0,c1⟩:=aT (a:=n.fdiv 3) (b:=1000000000) (by decide)
 refine jO a0 (by simpa using a1) λx hx=>?_
 simp only[List.mem_cons,List.not_mem_nil,or_false] at hx
 rcases hx with rfl | rfl | rfl
 ·exact q _ (by decide) (by decide)
 ·exact q _ (by omega) (by omega)
 ·exact q _ (by omega) (by omega)
theorem mF:∀ds Q,uJ ds Q->cU lJ { nx:=λ_=>Q .non,rt:=Q } (aQ ["_law_top","_law_bottom","_law_most"] ds):=by
 rintro ds Q ⟨a,b,rfl,⟨h0,hb⟩,q⟩
 rw[aW 1 rfl]
 unfold cU
 walk_at "rd"
 refine⟨a,b,rfl,?_⟩
 have hg:=tL (a:=a) (b:=b) (by omega)
 have bg:=BL.gcd (a:=a) (b:=b) (by omega) hb
 walk_at "rd"
 exact⟨bg.divOk (by omega),bg.divOk (by omega),q _ _ (IW h0)⟩
structure DueOf (share:Int) (cs:List (Int × Int)) (m sh:Int) (ds:List (Int × Int)) (j:Nat):Prop where
 mpos:0<m
 sh_eq:share=m*sh
 cs_eq:cs=ds.map λz=>(m*z.1,m*z.2)
 j_lt:j<ds.length
 least:∀z∈ds,∀w,ds[j]? = some w->HT.lexLt [z.1,z.2] [w.1,w.2]=false
 cop:∀d:Nat,(d:Int)∣sh->(∀z∈ds,(d:Int)∣z.1/\(d:Int)∣z.2)->d=1
noncomputable abbrev turned {α:Type} (j:Nat) (ds:List α):List α:=ds.drop j++ds.take j
noncomputable def uI:FD:=λds Q=>∃(share:Int) (cs:List (Int × Int)),ds=[.int share,pts cs]/\(0<share/\BL 100 share)/\(cs≠[]/\cs.length<=100) /\
 ∀m sh zs j,DueOf share cs m sh zs j->Q (.tup [.int sh,.tup ((turned j zs).map pt)])
theorem IP:∀ds Q,uI ds Q->ds.length=2:=by rintro ds Q ⟨_,_,rfl,_⟩;rfl
structure GcdOf (share:Int) (zs:List (Int × Int)) (g:Nat):Prop where
 pos:0<g
 sh:(g:Int)∣share
 all:∀z∈zs,(g:Int)∣z.1/\(g:Int)∣z.2
 most:∀d:Nat,(d:Int)∣share->(∀z∈zs,(d:Int)∣z.1/\(d:Int)∣z.2)->d∣g
theorem GcdOf.bl {share:Int} {zs:List (Int × Int)} {g:Nat} (h:GcdOf share zs g) (hs:0<share) {n:Nat} (b:BL n share):BL n (g:Int):=by
 refine b.le ?_
 have:=Int.le_of_dvd hs h.sh
 omega
theorem GcdOf.snoc {share:Int} {zs:List (Int × Int)} {g:Nat} (h:GcdOf share zs g) (z:Int × Int):GcdOf share (zs++[z]) (Int.gcd (Int.gcd g z.1:Nat) z.2):=by
 have d1:((Int.gcd (Int.gcd g z.1:Nat) z.2:Nat):Int)∣((Int.gcd g z.1:Nat):Int):=Int.gcd_dvd_left ..
 have d2:((Int.gcd g z.1:Nat):Int)∣(g:Int):=Int.gcd_dvd_left ..
 have d3:((Int.gcd g z.1:Nat):Int)∣z.1:=Int.gcd_dvd_right ..
 have d4:((Int.gcd (Int.gcd g z.1:Nat) z.2:Nat):Int)∣z.2:=Int.gcd_dvd_right ..
 have dg:=Int.dvd_trans d1 d2
 refine⟨?_,Int.dvd_trans dg h.sh,λw hw=>?_,λd e1 e2=>?_⟩
 ·have:=h.pos
  have h1:0<Int.gcd g z.1:=Int.gcd_pos_of_ne_zero_left _ (by omega)
  exact Int.gcd_pos_of_ne_zero_left _ (by omega)
 ·rcases List.mem_append.mp hw with h' | h'
  ·obtain⟨a,b⟩:=h.all w h'
   exact⟨Int.dvd_trans dg a,Int.dvd_trans dg b⟩
  ·rw[List.mem_singleton.mp h']
   exact⟨Int.dvd_trans d1 d3,d4⟩
 ·obtain⟨a,b⟩:=e2 z (by simp)
  have:=h.most d e1 λw hw=>e2 w (List.mem_append_left _ hw)
  have h1:(d:Int)∣((Int.gcd g z.1:Nat):Int):=Int.dvd_coe_gcd (by exact_mod_cast this) a
  exact_mod_cast Int.dvd_coe_gcd h1 b
theorem sE {xs:List D} {j:Nat} (h:j<=xs.length):lU xs (some (j:Int)) none=xs.drop j:=by
 unfold lU
 rw[HT.sIx_nat,HT.sIx_none,Nat.min_eq_left h,List.take_of_length_le (by simp)]
theorem zM {xs:List D} {j:Nat} (h:j<=xs.length):lU xs none (some (j:Int))=xs.take j:=by
 unfold lU
 rw[HT.sIx_nat,HT.sIx_none,Nat.min_eq_left h];simp
theorem xV (z w:Int × Int):eqF 6 (pt z) (pt w)=some (decide (z=w)):=by
 obtain⟨a,b⟩:=z
 obtain⟨c,d⟩:=w
 simp only[eqF,eqL]
 congr 1
 by_cases h1:a=c <;> by_cases h2:b=d <;> simp[h1,h2]
theorem uC:∀ds Q,uI ds Q->fM lJ { nx:=λ_=>Q .non,rt:=Q } (aQ ["_law_share_here","_law_ring_here","_law_most","_law_x","_law_y","_law_corners","_law_at"] ds):=by
 rintro ds Q ⟨share,cs,rfl,⟨hs,bs⟩,⟨hne,hlen⟩,q⟩
 rw[aW 5 rfl]
 unfold fM
 simp only[dS,NP,List.map_cons,List.map_nil,List.cons_append,List.nil_append]
 refine aO (λρ=>ρ=[some (.d (.int share)),some (.d (pts cs)),some (.d (.int share)),none,none,none,none]) (λK hK=>?_) ?_
 ·walk_at "rd"
  exact hK _ rfl
 rintro ρ rfl
 refine aO (λρ=>∃(g:Nat) (x y:Option S),GcdOf share cs g/\ρ=[some (.d (.int share)),some (.d (pts cs)),some (.d (.int g)),x,y,none,none]) (λK hK=>?_) ?_
 ·walk_at "rd"
  refine cT (λxs ρ=>∃(done rest:List (Int × Int)) (g:Nat) (x y:Option S),cs=done++rest/\xs=rest.map pt/\GcdOf share done g/\ρ=[some (.d (.int share)),some (.d (pts cs)),some (.d (.int g)),x,y,none,none]) ?_ ?_ _ _ ⟨[],cs,share.toNat,none,none,rfl,rfl,⟨by omega,?_,by simp,λd e1 _=>?_⟩,?_⟩
  ·rintro x xs ρ ⟨done,rest,g,u,v,e,ex,hg,rfl⟩ F _ _ hn _
   cases rest with
   | nil=>cases ex
   | cons z rest =>
    cases ex
    unfold jF
    walk_at "rd"
    refine⟨_,_,rfl,_,_,rfl,?_⟩
    exact hn _ ⟨done++[z],rest,_,_,_,by simpa using e,rfl,hg.snoc z,rfl⟩
  ·rintro ρ ⟨done,rest,g,u,v,e,ex,hg,rfl⟩
   have:rest=[]:=by simpa using ex.symm
   subst this
   rw[List.append_nil] at e
   subst e
   exact hK _ ⟨g,u,v,hg,rfl⟩
  ·have:(share.toNat:Int)=share:=by omega
   rw[this];exact Int.dvd_refl _
  ·have:(share.toNat:Int)=share:=by omega
   exact_mod_cast (by rw[this];exact e1:(d:Int)∣(share.toNat:Int))
  ·have:(share.toNat:Int)=share:=by omega
   rw[this]
 rintro ρ ⟨g,x,y,hg,rfl⟩
 have gp:(0:Int)<g:=by have:=hg.pos;omega
 have gb:BL 9000 (g:Int):=(hg.bl hs bs).mono (by decide)
 obtain⟨zs,ez⟩:∃zs,zs=cs.map λz=>(z.1 / (g:Int),z.2 / (g:Int)):=⟨_,rfl⟩
 have ec:cs=zs.map λz=>((g:Int)*z.1,(g:Int)*z.2):=by
  rw[ez,List.map_map]
  symm
  conv=>rhs;rw[<-List.map_id cs]
  refine List.map_congr_left λz hz=>?_
  obtain⟨a,b⟩:=hg.all z hz
  simp only[Function.comp,id,Int.mul_ediv_cancel' a,Int.mul_ediv_cancel' b]
 refine aO (λρ=>ρ=[some (.d (.int share)),some (.d (pts cs)),some (.d (.int g)),x,y,some (.own (zs.map pt)),none]) (λK hK=>?_) ?_
 ·walk_at "rd"
  refine⟨dL (by simp;omega),?_⟩
  refine eI (λρ=>∃a b,ρ=[a,b,some (.d (.int g))]) pt (λz=>pt (z.1 / (g:Int),z.2 / (g:Int))) cs ?_ ⟨_,_,rfl⟩ ?_
  ·rintro z hz ρ ⟨a,b,rfl⟩ K' hK'
   walk_at "rd"
   refine⟨gb.divOk (by omega),gb.divOk (by omega),?_⟩
   rw[Int.fdiv_eq_ediv_of_nonneg _ (by omega),Int.fdiv_eq_ediv_of_nonneg _ (by omega)]
   exact hK' _ ⟨_,_,rfl⟩
  ·refine hK _ ?_
   rw[ez,List.map_map];rfl
 rintro ρ rfl
 have lz:zs.length=cs.length:=by rw[ez];simp
 have hz:zs≠[]:=by intro e;rw[e] at lz;exact hne (List.length_eq_zero_iff.mp lz.symm)
 refine aO (λρ=>∃j:Nat,(j<zs.length/\∀z∈zs,∀w,zs[j]? = some w->HT.lexLt [z.1,z.2] [w.1,w.2]=false)/\ρ=[some (.d (.int share)),some (.d (pts cs)),some (.d (.int g)),x,y,some (.own (zs.map pt)),some (.d (.int j))]) (λK hK=>?_) ?_
 ·walk_at "rd"
  refine⟨⟨_,rfl⟩,zs.map λz=>[z.1,z.2],by rw[List.map_map];rfl,by simpa using hz,λM hM hmin=>?_⟩
  obtain⟨w,hw,rfl⟩:=List.mem_map.mp hM
  have hlt:zs.findIdx (λz=>decide (z=w))<zs.length:=List.findIdx_lt_length_of_exists ⟨w,hw,by simp⟩
  have hat:=List.findIdx_getElem (w:=hlt)
  have hat':zs[zs.findIdx (λz=>decide (z=w))]=w:=by simpa using hat
  refine⟨zs.findIdx (λz=>decide (z=w)),⟨pt w,?_,?_⟩,λi d hi ed=>?_,λd hd=>?_,hK _ ⟨_,⟨hlt,λz hz v ev=>?_⟩,rfl⟩⟩
  ·rw[List.getElem?_map,List.getElem?_eq_getElem hlt,hat'];rfl
  ·show eqF 6 (pt w) (pt w)=_
   rw[xV];simp
  ·rw[List.getElem?_map] at ed
   cases e:zs[i]? with
   | none=>rw[e] at ed;cases ed
   | some z =>
    rw[e] at ed;cases ed
    show eqF 6 (pt z) (pt w)=_
    have hil:i<zs.length:=(List.getElem?_eq_some_iff.mp e).1
    have:=List.not_of_lt_findIdx hi
    rw[xV]
    have e2:zs[i]=z:=by rw[List.getElem?_eq_getElem hil] at e;exact Option.some.inj e
    rw[e2] at this
    simpa using this
  ·obtain⟨z,_,rfl⟩:=List.mem_map.mp hd
   exact⟨_,xV z w⟩
  ·rw[List.getElem?_eq_getElem hlt,hat'] at ev;cases ev
   exact hmin _ (List.mem_map.mpr ⟨z,hz,rfl⟩)
 rintro ρ ⟨j,⟨hj,hleast⟩,rfl⟩
 walk_at "rd"
 have lm:(zs.map pt).length=zs.length:=by simp
 rw[sE (by omega),zM (by omega)]
 refine⟨gb.divOk (by omega),dL (by simp;omega),?_⟩
 rw[Int.fdiv_eq_ediv_of_nonneg _ (by omega)]
 have:=q g (share / g) zs j ⟨gp,(Int.mul_ediv_cancel' hg.sh).symm,ec,hj,hleast,λd e1 e2=>?_⟩
 ·rw[List.map_append,List.map_drop,List.map_take] at this
  exact this
 ·have h1:((g*d:Nat):Int)∣share:=by
   rw[<-Int.mul_ediv_cancel' hg.sh]
   push_cast
   exact Int.mul_dvd_mul (Int.dvd_refl _) e1
  have h2:=hg.most (g*d) h1 λz hz=>by
   rw[ec] at hz
   obtain⟨w,hw,rfl⟩:=List.mem_map.mp hz
   obtain⟨a,b⟩:=e2 w hw
   push_cast
   exact⟨Int.mul_dvd_mul (Int.dvd_refl _) a,Int.mul_dvd_mul (Int.dvd_refl _) b⟩
  have h3:=Nat.le_of_dvd hg.pos h2
  have h4:d≠0:=λe=>by
   subst e
   simp at h2
   have:=hg.pos;omega
  have h5:=hg.pos
  rcases Nat.lt_or_ge 1 d with h | h
  ·have:g*2<=g*d:=Nat.mul_le_mul_left _ h
   omega
  ·omega
noncomputable def BP (z:Pt):Prop:=BL 20000 z.1/\BL 20000 z.2
noncomputable def cX:FD:=λds Q=>∃a b c:Pt,ds=[pt a,pt b,pt c]/\(BP a/\BP b/\BP c)/\Q (.int (aH a b c))
theorem FV:∀ds Q,cX ds Q->ds.length=3:=by rintro ds Q ⟨_,_,_,rfl,_⟩;rfl
theorem CT:∀ds Q,cX ds Q->oZ { nx:=λ_=>Q .non,rt:=Q } (aQ ["one","middle","other","along","across"] ds):=by
 rintro ds Q ⟨a,b,c,rfl,⟨ba,bb,bc⟩,q⟩
 rw[aW 2 rfl]
 unfold oZ
 walk_at "rd"
 exact⟨(bb.1.sub ba.1).mulOk (bc.2.sub ba.2),(bb.2.sub ba.2).mulOk (bc.1.sub ba.1),q⟩
noncomputable def sU:FD:=λds Q=>∃ps:List Pt,ds=[pts ps]/\(∀z∈ps,BP z)/\ps.length<=900/\Q (pts (dW ps))
theorem FR:∀ds Q,sU ds Q->ds.length=1:=by rintro ds Q ⟨_,rfl,_⟩;rfl
theorem DZ {α:Type} (xs:List α) (x:α):atI (xs++[x]) (-1)=some x:=by
 unfold atI ixN
 rw[if_neg (by decide),if_pos (by simp;omega)]
 have:((-1:Int)+((xs++[x]).length:Nat)).toNat=xs.length:=by simp;omega
 simp only[this,Option.bind_some]
 simp
theorem EA {α:Type} (xs:List α) (x y:α):atI (xs++[x,y]) (-2)=some x:=by
 unfold atI ixN
 rw[if_neg (by decide),if_pos (by simp;omega)]
 have:((-2:Int)+((xs++[x,y]).length:Nat)).toNat=xs.length:=by simp;omega
 simp only[this,Option.bind_some]
 simp
theorem pP (E:DEnds) (u:Option S) (p:Pt) (hp:BP p):∀s:List Pt,(∀z∈s,BP z)->E.nx [u,some (.own ((bI p s).reverse.map pt)),some (.d (pt p))] ->
  lE (GN (bW (r2 (iS λi j=>decide (j<i)) (r1 gO (aA 1)) (rC (.int 1)))) (bW (r2 (iS λi j=>decide (i<=j)) (aX cX (aD (r2 dIx (aA 1) (r1 oE (rC (.int 2)))) (aD (r2 dIx (aA 1) (r1 oE (rC (.int 1)))) (aD (aU 2) (aK))))) (rC (.int 0))))) (cW) E [u,some (.own (s.reverse.map pt)),some (.d (pt p))]
 | [],_,h=>by
  refine⟨1,?_⟩
  unfold dU
  walk_at "rd"
  simp
  exact h
 | [x],_,h=>by
  refine⟨1,?_⟩
  unfold dU
  walk_at "rd"
  simp
  exact h
 | b::a::r,hs,h=>by
  have ea:((b::a::r).reverse.map pt)=(r.reverse.map pt)++[pt a,pt b]:=by simp
  have eb:((b::a::r).reverse.map pt)=((a::r).reverse.map pt)++[pt b]:=by simp
  have i2:=EA (r.reverse.map pt) (pt a) (pt b)
  have i1:=DZ ((a::r).reverse.map pt) (pt b)
  rw[<-ea] at i2;rw[<-eb] at i1
  by_cases ht:aH a b p<=0
  ·have e:bI p (b::a::r)=bI p (a::r):=by rw[bI,if_pos ht]
   rw[e] at h
   obtain⟨n,hn⟩:=pP E u p hp (a::r) (λz hz=>hs z (List.mem_cons_of_mem _ hz)) h
   refine⟨n+1,?_⟩
   unfold dU
   generalize hW:dU (GN (bW (r2 (iS λi j=>decide (j<i)) (r1 gO (aA 1)) (rC (.int 1)))) (bW (r2 (iS λi j=>decide (i<=j)) (aX cX (aD (r2 dIx (aA 1) (r1 oE (rC (.int 2)))) (aD (r2 dIx (aA 1) (r1 oE (rC (.int 1)))) (aD (aU 2) (aK))))) (rC (.int 0))))) cW n E=W at hn
   walk_at "rd"
   rw[if_pos (by simp;omega)]
   refine dZ i2 (dZ i1 ⟨a,b,p,rfl,⟨hs a (by simp),hs b (by simp),hp⟩,?_⟩)
   show if aH a b p<=0 then _ else _
   rw[if_pos ht]
   unfold cW
   walk_at "rd"
   refine⟨by simp,?_⟩
   rw[eb,List.dropLast_concat]
   exact hn
  ·have e:bI p (b::a::r)=b::a::r:=by rw[bI,if_neg ht]
   rw[e] at h
   refine⟨1,?_⟩
   unfold dU
   walk_at "rd"
   rw[if_pos (by simp;omega)]
   refine dZ i2 (dZ i1 ⟨a,b,p,rfl,⟨hs a (by simp),hs b (by simp),hp⟩,?_⟩)
   show if aH a b p<=0 then _ else _
   rw[if_neg ht]
   exact h
theorem wC (p:Pt) (s:List Pt):(bI p s).length<=s.length:=(fF p s).length_le
theorem oN:∀ds Q,sU ds Q->eG cX { nx:=λ_=>Q .non,rt:=Q } (aQ ["points","chain","point"] ds):=by
 rintro ds Q ⟨ps,rfl,hb,hl,q⟩
 rw[aW 2 rfl]
 unfold eG
 simp only[dS,QE,List.map_cons,List.map_nil,List.cons_append,List.nil_append]
 refine aO (λρ=>ρ=[some (.d (pts ps)),some (.own []),none]) (λK hK=>?_) ?_
 ·walk_at "rd"
  exact hK _ rfl
 rintro ρ rfl
 refine aO (λρ=>∃x:Option S,ρ=[some (.d (pts ps)),some (.own ((bQ ps).reverse.map pt)),x]) (λK hK=>?_) ?_
 ·walk_at "rd"
  refine cT (λxs ρ=>∃(done rest:List Pt) (x:Option S),ps=done++rest/\xs=rest.map pt/\ρ=[some (.d (pts ps)),some (.own ((bQ done).reverse.map pt)),x]) ?_ ?_ _ _ ⟨[],ps,none,rfl,rfl,rfl⟩
  ·rintro x xs ρ ⟨done,rest,u,e,ex,rfl⟩ F _ _ hn _
   cases rest with
   | nil=>cases ex
   | cons z rest =>
    cases ex
    have bd:∀w∈done,BP w:=λw hw=>hb w (by rw[e];simp[hw])
    have bz:BP z:=hb z (by rw[e];simp)
    have ld:done.length<ps.length:=by rw[e];simp
    have sub:∀(L s:List Pt),(∀q∈L.foldl (λs p=>p::bI p s) s,q∈L\/q∈s)/\(L.foldl (λs p=>p::bI p s) s).length<=L.length+s.length:=by
     intro L
     induction L with
     | nil=>intro s;exact⟨λq h=>Or.inr h,by simp⟩
     | cons y L ih =>
      intro s
      obtain⟨i1,i2⟩:=ih (y::bI y s)
      refine⟨λq h=>?_,?_⟩
      ·rcases i1 q h with h | h
       ·exact Or.inl (by simp[h])
       ·rcases List.mem_cons.mp h with h | h
        ·exact Or.inl (by simp[h])
        ·exact Or.inr ((fF y s).subset h)
      ·have:=wC y s
       simp only[List.foldl_cons,List.length_cons] at i2 ⊢
       omega
    obtain⟨s1,s2⟩:=sub done []
    unfold gI
    simp only[aY,List.set_cons_zero,List.set_cons_succ]
    refine pP _ _ z bz (bQ done) (λw hw=>?_) ?_
    ·rcases s1 w hw with h | h
     ·exact bd w h
     ·cases h
    ·walk_at "rd"
     have l1:=wC z (bQ done)
     have l2:(bQ done).length<=done.length:=by simpa [bQ] using s2
     refine⟨⟨AD (by simp;omega)⟩,hn _ ⟨done++[z],rest,some (.d (pt z)),by simpa using e,rfl,?_⟩⟩
     unfold bQ
     simp
  ·rintro ρ ⟨done,rest,u,e,ex,rfl⟩
   have:rest=[]:=by simpa using ex.symm
   subst this
   rw[List.append_nil] at e
   subst e
   exact hK _ ⟨u,rfl⟩
 rintro ρ ⟨x,rfl⟩
 walk_at "rd"
 have e:lU ((bQ ps).reverse.map pt) none (some (-1))=(dW ps).map pt:=by
  unfold lU dW
  rw[List.map_dropLast]
  generalize (bQ ps).reverse.map pt=xs
  have h1:HT.sIx xs.length 0 none=0:=rfl
  have h2:HT.sIx xs.length xs.length (some (-1))=xs.length-1:=by
   unfold HT.sIx
   simp
   omega
  rw[h1,h2,List.drop_zero,Nat.sub_zero,List.dropLast_eq_take]
 rw[e]
 exact q
theorem IS (z w:Pt):cO [z.1,z.2] [w.1,w.2]=decide (ltP z w):=by
 unfold ltP
 simp only[cO]
 by_cases h:z.1=w.1
 ·rw[if_pos h]
  by_cases h2:z.2=w.2
  ·rw[if_pos h2];simp[h,h2]
  ·rw[if_neg h2];simp[h]
 ·rw[if_neg h];simp[h]
noncomputable def dG:FD:=λds Q=>∃ps:List Pt,ds=[pts ps]/\(∀z∈ps,BP z)/\ps.length<64/\∀D r:List Pt,Inc D->(∀z,z∈D↔z∈ps)->(2<=D.length->r=iE D)->(D.length<=1->r.length<3)->r.length<=200->Q (pts r)
theorem Rises.pair {xs:List Int} (h:Rises xs):xs.Pairwise (· < ·):=by
 have key:∀(n i:Nat) (a b:Int),xs[i]? = some a->xs[i+1+n]? = some b->a<b:=by
  intro n
  induction n with
  | zero=>intro i a b e1 e2;have:=h.step i a b e1 e2;omega
  | succ n ih =>
   intro i a b e1 e2
   have hl:i+1+(n+1)<xs.length:=(List.getElem?_eq_some_iff.mp e2).1
   have e3:xs[i+1+n]? = some (xs[i+1+n]'(by omega)):=List.getElem?_eq_getElem _
   have h1:=ih i a _ e1 e3
   have h2:=h.step (i+1+n) _ b e3 (by rw[<-e2];congr 1)
   omega
 refine List.pairwise_iff_getElem.mpr λi j hi hj hij=>?_
 refine key (j-i-1) i _ _ (List.getElem?_eq_getElem hi) ?_
 rw[show i+1+(j-i-1)=j by omega]
 exact List.getElem?_eq_getElem hj
theorem LR {xs l r:List Int} {x y:Int} (h:xs.Pairwise (· < ·)) (e:xs=l++x::y::r) {v:Int} (hv:v∈xs):v<=x\/y<=v:=by
 subst e
 have h1:=List.pairwise_append.mp h
 have h2:=List.pairwise_cons.mp h1.2.1
 have h3:=List.pairwise_cons.mp h2.2
 simp only[List.mem_append,List.mem_cons] at hv
 rcases hv with hv | hv | hv | hv
 ·exact Or.inl (Int.le_of_lt (h1.2.2 v hv x (by simp)))
 ·exact Or.inl (by omega)
 ·exact Or.inr (by omega)
 ·exact Or.inr (Int.le_of_lt (h3.1 v hv))
theorem zY {xs l r:List Int} {x y:Int} (h:xs.Pairwise (· < ·)) (e:xs=l++x::y::r) {v:Int} (hv:v∈xs) (n1:v≠x) (n2:v≠y):v<x\/y<v :=
 (LR h e hv).imp (λh=>(Int.lt_or_eq_of_le h).resolve_right n1) λh=>(Int.lt_or_eq_of_le h).resolve_right λe=>n2 e.symm
theorem QK {x m:Int} (h1:-m<=x) (h2:x<=m):x*x<=m*m:=by
 have:0<=(m-x)*(m+x):=Int.mul_nonneg (by omega) (by omega)
 have e:(m-x)*(m+x)=m*m-x*x:=by grind
 omega
theorem pF {x:Int} {n:Nat} (h:x.natAbs<=n):-(n:Int)<=x/\x<=n:=by omega
theorem RD (top a b c:Int) (ha:2*(a*a)+1<=top) (hb:2*(b*b)+1<=top) (hc:2*(c*c)+1<=top):∃m:Nat,2*((m:Int)*m)+1<=top/\a.natAbs<=m/\b.natAbs<=m/\c.natAbs<=m:=by
 have ab (x:Int) (h:2*(x*x)+1<=top):2*((x.natAbs:Int)*x.natAbs)+1<=top:=by rw[Int.natAbs_mul_self'];exact h
 rcases Nat.le_total a.natAbs b.natAbs with h1 | h1
 ·rcases Nat.le_total b.natAbs c.natAbs with h2 | h2
  ·exact⟨_,ab c hc,Nat.le_trans h1 h2,h2,Nat.le_refl _⟩
  ·exact⟨_,ab b hb,h1,Nat.le_refl _,h2⟩
 ·rcases Nat.le_total a.natAbs c.natAbs with h2 | h2
  ·exact⟨_,ab c hc,h2,Nat.le_trans h1 h2,Nat.le_refl _⟩
  ·exact⟨_,ab a ha,Nat.le_refl _,h1,h2⟩
noncomputable abbrev lo (x:Int):Pt:=(x,x*x)
noncomputable abbrev hi (top x:Int):Pt:=(x,top-x*x)
section
variable {top:Int}
theorem sT {x y v:Int} (h:x<y) (hv:v<x\/y<v):0<aH (lo x) (lo y) (lo v):=by
 have e:aH (lo x) (lo y) (lo v)=(y-x)*((v-x)*(v-y)):=by unfold aH;dsimp only;grind
 rw[e]
 refine Int.mul_pos (by omega) ?_
 rcases hv with hv | hv
 ·have e2:(v-x)*(v-y)=(x-v)*(y-v):=by grind
  rw[e2];exact Int.mul_pos (by omega) (by omega)
 ·exact Int.mul_pos (by omega) (by omega)
theorem QJ {m b l v:Int} (m0:0<=m) (hb:-m<=b/\b<=m) (hl:-m<=l/\l<=m) (hv:-m<=v/\v<=m):0<=m*m+l*v-b*(l+v):=by
 have pl {x:Int} (h:-m<=x/\x<=m):0<=m+x:=by omega
 have mi {x:Int} (h:-m<=x/\x<=m):0<=m-x:=by omega
 have g:=Int.add_nonneg (Int.mul_nonneg (pl hb) (Int.mul_nonneg (mi hl) (mi hv))) (Int.mul_nonneg (mi hb) (Int.mul_nonneg (pl hl) (pl hv)))
 rw[show (m+b)*((m-l)*(m-v))+(m-b)*((m+l)*(m+v))=2*m*(m*m+l*v-b*(l+v)) by grind] at g
 rcases Int.lt_or_eq_of_le m0 with hm | rfl
 ·exact Int.nonneg_of_mul_nonneg_right g (Int.mul_pos (by decide) hm)
 ·rw[show l=0 from Int.le_antisymm hl.2 hl.1,show b=0 from Int.le_antisymm hb.2 hb.1];simp only[Int.zero_mul];decide
theorem jC {l b v:Int} (hl:2*(l*l)+1<=top) (hb:2*(b*b)+1<=top) (hv:2*(v*v)+1<=top):0<top-b*b-b*(l+v)+l*v:=by
 obtain⟨m,mt,a1,a2,a3⟩:=RD top l b v hl hb hv
 have h1:=QJ (Int.natCast_nonneg m) (pF a2) (pF a1) (pF a3)
 have h2:=QK (pF a2).1 (pF a2).2
 generalize (m:Int)*m=M at *
 generalize b*(l+v)=N at *
 generalize l*v=O at *
 generalize b*b=P at *
 omega
theorem qM {x y v:Int} (h:x<y) (hx:2*(x*x)+1<=top) (hy:2*(y*y)+1<=top) (hv:2*(v*v)+1<=top):0<aH (lo x) (lo y) (hi top v):=by
 have e:aH (lo x) (lo y) (hi top v)=(y-x)*(top-v*v-v*(x+y)+x*y):=by unfold aH;dsimp only;grind
 rw[e]
 exact Int.mul_pos (Int.sub_pos_of_lt h) (jC hx hv hy)
theorem wQ {x y v:Int} (h:x<y) (hv:v<x\/y<v):0<aH (hi top y) (hi top x) (hi top v):=by
 have e:aH (hi top y) (hi top x) (hi top v)=aH (lo x) (lo y) (lo v):=by unfold aH;dsimp only;grind
 rw[e];exact sT h hv
theorem yS {x y v:Int} (h:x<y) (hx:2*(x*x)+1<=top) (hy:2*(y*y)+1<=top) (hv:2*(v*v)+1<=top):0<aH (hi top y) (hi top x) (lo v):=by
 have e:aH (hi top y) (hi top x) (lo v)=aH (lo x) (lo y) (hi top v):=by unfold aH;dsimp only;grind
 rw[e];exact qM h hx hy hv
theorem HC {l b v:Int} (h:v<l) (hl:2*(l*l)+1<=top) (hb:2*(b*b)+1<=top) (hv:2*(v*v)+1<=top):0<aH (lo l) (hi top b) (lo v):=by
 have e:aH (lo l) (hi top b) (lo v)=(l-v)*(top-b*b-b*(l+v)+l*v):=by unfold aH;dsimp only;grind
 rw[e]
 exact Int.mul_pos (Int.sub_pos_of_lt h) (jC hl hb hv)
theorem DC {l b v:Int} (h:v<b) (hl:2*(l*l)+1<=top) (hb:2*(b*b)+1<=top) (hv:2*(v*v)+1<=top):0<aH (lo l) (hi top b) (hi top v):=by
 have e:aH (lo l) (hi top b) (hi top v)=(b-v)*(top-l*l-l*(b+v)+b*v):=by unfold aH;dsimp only;grind
 rw[e]
 exact Int.mul_pos (Int.sub_pos_of_lt h) (jC hb hl hv)
theorem HB {l b v:Int} (h:l<v) (hl:2*(l*l)+1<=top) (hb:2*(b*b)+1<=top) (hv:2*(v*v)+1<=top):0<aH (hi top b) (lo l) (lo v):=by
 have e:aH (hi top b) (lo l) (lo v)=(v-l)*(top-b*b-b*(l+v)+l*v):=by unfold aH;dsimp only;grind
 rw[e]
 exact Int.mul_pos (Int.sub_pos_of_lt h) (jC hl hb hv)
theorem CZ {l b v:Int} (h:b<v) (hl:2*(l*l)+1<=top) (hb:2*(b*b)+1<=top) (hv:2*(v*v)+1<=top):0<aH (hi top b) (lo l) (hi top v):=by
 have e:aH (hi top b) (lo l) (hi top v)=(v-b)*(top-l*l-l*(b+v)+b*v):=by unfold aH;dsimp only;grind
 rw[e]
 exact Int.mul_pos (Int.sub_pos_of_lt h) (jC hb hl hv)
end
theorem vZ {f:Int->Pt} {L:List Int} {a b:Pt} (h:Nxt (L.map f) a b):∃l x y r,L=l++x::y::r/\a=f x/\b=f y:=by
 obtain⟨l,r,e⟩:=h
 obtain⟨l1,l2,rfl,rfl,e2⟩:=List.map_eq_append_iff.mp e
 obtain⟨x,l3,rfl,rfl,e3⟩:=List.map_eq_cons_iff.mp e2
 obtain⟨y,l4,rfl,rfl,e4⟩:=List.map_eq_cons_iff.mp e3
 exact⟨l1,x,y,l4,rfl,rfl,rfl⟩
theorem AI {xs l:List Int} {x:Int} (h:xs.Pairwise (· < ·)) (e:xs=l++[x]) {v:Int} (hv:v∈xs):v=x\/v<x:=by
 subst e
 rcases List.mem_append.mp hv with hv | hv
 ·exact Or.inr ((List.pairwise_append.mp h).2.2 v hv x (by simp))
 ·exact Or.inl (by simpa using hv)
theorem vV {xs r:List Int} {x:Int} (h:xs.Pairwise (· < ·)) (e:xs=x::r) {v:Int} (hv:v∈xs):v=x\/x<v:=by
 subst e
 rcases List.mem_cons.mp hv with hv | hv
 ·exact Or.inl hv
 ·exact Or.inr ((List.pairwise_cons.mp h).1 v hv)
theorem BD {lows highs:List Int} {top:Int} (hl:lows.Pairwise (· < ·)) (hh:highs.Pairwise (· < ·)) (nl:2<=lows.length) (nh:1<=highs.length) (ht:∀x∈lows++highs,2*(x*x)+1<=top):Cvx (dI lows highs top):=by
 have tl:∀x∈lows,2*(x*x)+1<=top:=λx h=>ht x (List.mem_append_left _ h)
 have th:∀x∈highs,2*(x*x)+1<=top:=λx h=>ht x (List.mem_append_right _ h)
 have memB:∀q∈dI lows highs top,(∃v∈lows,q=lo v)\/(∃v∈highs,q=hi top v):=by
  intro q hq
  rcases List.mem_append.mp hq with h | h
  ·obtain⟨v,hv,rfl⟩:=List.mem_map.mp h;exact Or.inl ⟨v,hv,rfl⟩
  ·obtain⟨v,hv,rfl⟩:=List.mem_map.mp h;exact Or.inr ⟨v,List.mem_reverse.mp hv,rfl⟩
 refine⟨by simp[dI];omega,?_,λa b hab q hq n1 n2=>?_⟩
 ·unfold dI
  rw[List.nodup_append]
  refine⟨?_,?_,λa ha b hb e=>?_⟩
  ·exact List.Pairwise.map _ (λx y h e=>by simp at e;omega) hl
  ·rw[List.map_reverse]
   exact List.pairwise_reverse.mpr (List.Pairwise.map _ (λx y h e=>by simp at e;omega) hh)
  ·obtain⟨x,hx,rfl⟩:=List.mem_map.mp ha
   obtain⟨y,hy,rfl⟩:=List.mem_map.mp hb
   simp at e
   obtain⟨rfl,e⟩:=e
   have:=tl x hx
   omega
 ·obtain⟨l0,l1,ls,hls⟩:∃x y r,lows=x::y::r:=by
   match lows,nl with
   | x::y::r,_=>exact⟨x,y,r,rfl⟩
  have t1:(dI lows highs top).take 1=[lo l0]:=by rw[hls];rfl
  unfold Cyc at hab
  rw[t1] at hab
  unfold dI at hab
  rw[List.append_assoc] at hab
  rcases gZ _ _ a b hab with h | ⟨⟨A',h1⟩,B',h2⟩ | h
  ·-- two low ones
   obtain⟨l,x,y,r,e,rfl,rfl⟩:=vZ h
   have hxy:x<y:=by rw[e] at hl;exact (List.pairwise_cons.mp (List.pairwise_append.mp hl).2.1).1 y (.head _)
   have mx:x∈lows:=e ▸ List.mem_append_right _ (.head _)
   have my:y∈lows:=e ▸ List.mem_append_right _ (.tail _ (.head _))
   rcases memB q hq with ⟨v,hv,rfl⟩ | ⟨v,hv,rfl⟩
   ·exact sT hxy (zY hl e hv (λh=>n1 (h ▸ rfl)) λh=>n2 (h ▸ rfl))
   ·exact qM hxy (tl x mx) (tl y my) (th v hv)
  ·-- the last low one and the first high one
   obtain⟨m1,m2,e,e1,e2⟩:=List.map_eq_append_iff.mp h1
   obtain⟨x,m3,rfl,rfl,e3⟩:=List.map_eq_cons_iff.mp e2
   have:m3=[]:=by simpa using e3
   subst this
   have hr:highs.reverse≠[]:=by
    intro h0
    have:=congrArg List.length h0
    simp at this
    subst this;simp at nh
   obtain⟨y,hr',ey⟩:∃y hr',highs.reverse=y::hr':=by
    cases hq':highs.reverse with
    | nil=>exact absurd hq' hr
    | cons y r=>exact⟨y,r,rfl⟩
   rw[ey] at h2
   simp at h2
   obtain⟨rfl,_⟩:=h2
   have eh:highs=hr'.reverse++[y]:=by
    have:=congrArg List.reverse ey
    simpa using this
   have mx:x∈lows:=e ▸ List.mem_append_right _ (.head _)
   have my:y∈highs:=eh ▸ List.mem_append_right _ (.head _)
   rcases memB q hq with ⟨v,hv,rfl⟩ | ⟨v,hv,rfl⟩
   ·exact HC ((AI hl e hv).resolve_left λh=>n1 (h ▸ rfl)) (tl x mx) (th y my) (tl v hv)
   ·exact DC ((AI hh eh hv).resolve_left λh=>n2 (h ▸ rfl)) (tl x mx) (th y my) (th v hv)
  ·rcases gZ _ _ a b h with h | ⟨⟨A',h1⟩,B',h2⟩ | ⟨l,r,h⟩
   ·-- two high ones
    obtain⟨l,x,y,r,e,rfl,rfl⟩:=vZ h
    have e':highs=r.reverse++y::x::l.reverse:=by
     have:=congrArg List.reverse e
     simpa using this
    have hxy:y<x:=by rw[e'] at hh;exact (List.pairwise_cons.mp (List.pairwise_append.mp hh).2.1).1 x (.head _)
    have mx:x∈highs:=e' ▸ List.mem_append_right _ (.tail _ (.head _))
    have my:y∈highs:=e' ▸ List.mem_append_right _ (.head _)
    rcases memB q hq with ⟨v,hv,rfl⟩ | ⟨v,hv,rfl⟩
    ·exact yS hxy (th y my) (th x mx) (tl v hv)
    ·exact wQ hxy (zY hh e' hv (λh=>n2 (h ▸ rfl)) λh=>n1 (h ▸ rfl))
   ·-- the last high one and the first low one
    simp at h2
    obtain⟨rfl,_⟩:=h2
    obtain⟨m1,m2,e,e1,e2⟩:=List.map_eq_append_iff.mp h1
    obtain⟨y,m3,rfl,rfl,e3⟩:=List.map_eq_cons_iff.mp e2
    have:m3=[]:=by simpa using e3
    subst this
    have eh:highs=y::m1.reverse:=by
     have:=congrArg List.reverse e
     simpa using this
    have my:y∈highs:=eh ▸ .head _
    have ml:l0∈lows:=hls ▸ .head _
    rcases memB q hq with ⟨v,hv,rfl⟩ | ⟨v,hv,rfl⟩
    ·exact HB ((vV hl hls hv).resolve_left λh=>n2 (h ▸ rfl)) (tl l0 ml) (th y my) (tl v hv)
    ·exact CZ ((vV hh eh hv).resolve_left λh=>n1 (h ▸ rfl)) (tl l0 ml) (th y my) (th v hv)
   ·have:=congrArg List.length h
    simp at this
    omega
theorem DY (p q r s ox oy:Int) (a b c:Pt):aH (aff p q r s ox oy a) (aff p q r s ox oy b) (aff p q r s ox oy c)=(p*s-q*r)*aH a b c:=by
 unfold aH aff;dsimp only;grind
theorem HR {p q r s ox oy:Int} (hd:0<p*s-q*r) (a b:Pt) (h:aff p q r s ox oy a=aff p q r s ox oy b):a=b:=by
 unfold aff at h
 simp only[Prod.mk.injEq] at h
 obtain⟨h1,h2⟩:=h
 have e1:(p*s-q*r)*(a.1-b.1)=0:=by grind
 have e2:(p*s-q*r)*(a.2-b.2)=0:=by grind
 have k1:=(Int.mul_eq_zero.mp e1).resolve_left (by omega)
 have k2:=(Int.mul_eq_zero.mp e2).resolve_left (by omega)
 exact Prod.ext (by omega) (by omega)
theorem yL {lows highs:List Int} {top p q r s ox oy:Int} (F:RingForm lows highs top p q r s ox oy):Cvx (lG lows highs top p q r s ox oy) :=
 (BD F.lowsR.pair F.highsR.pair F.lowsN.1 F.highsN.1 F.topL).map F.det (DY p q r s ox oy) (HR F.det)
structure NormOf (share:Int) (cs:List Pt) (m sh:Int) (zs:List Pt):Prop where
 mpos:0<m
 sh_eq:share=m*sh
 cs_eq:cs=zs.map λz=>(m*z.1,m*z.2)
 cop:∀d:Nat,(d:Int)∣sh->(∀z∈zs,(d:Int)∣z.1/\(d:Int)∣z.2)->d=1
theorem fR {a b x y:Int} (ha:0<a) (hb:0<b) (e:a*x=b*y):a / (Int.gcd a b:Nat)∣y:=by
 have hg:(0:Int)<(Int.gcd a b:Nat):=by
  have:=Int.gcd_pos_of_ne_zero_left (a:=a) b (by omega);omega
 obtain⟨a',ea⟩:((Int.gcd a b:Nat):Int)∣a:=Int.gcd_dvd_left ..
 obtain⟨b',eb⟩:((Int.gcd a b:Nat):Int)∣b:=Int.gcd_dvd_right ..
 have e1:a / (Int.gcd a b:Nat)=a':=by
  have:a / ((Int.gcd a b:Nat):Int)=(((Int.gcd a b:Nat):Int)*a') / ((Int.gcd a b:Nat):Int):=congrArg (· / ((Int.gcd a b:Nat):Int)) ea
  rw[this,Int.mul_ediv_cancel_left _ (by omega)]
 have e2:b / (Int.gcd a b:Nat)=b':=by
  have:b / ((Int.gcd a b:Nat):Int)=(((Int.gcd a b:Nat):Int)*b') / ((Int.gcd a b:Nat):Int):=congrArg (· / ((Int.gcd a b:Nat):Int)) eb
  rw[this,Int.mul_ediv_cancel_left _ (by omega)]
 have cop:Int.gcd a' b'=1:=by
  have:=Int.gcd_ediv_gcd_ediv_gcd (i:=a) (j:=b) (by have:=hg;omega)
  rw[e1,e2] at this
  exact this
 rw[e1]
 have h:a'*x=b'*y:=by
  have:((Int.gcd a b:Nat):Int)*(a'*x)=((Int.gcd a b:Nat):Int)*(b'*y):=by
   rw[<-Int.mul_assoc,<-Int.mul_assoc,<-ea,<-eb];exact e
  exact Int.eq_of_mul_eq_mul_left (by omega) this
 have d:a'∣b'*y:=⟨x,h.symm⟩
 have d2:a'.natAbs∣b'.natAbs*y.natAbs:=by rw[<-Int.natAbs_mul];exact Int.natAbs_dvd_natAbs.mpr d
 exact Int.natAbs_dvd_natAbs.mp (Nat.Coprime.dvd_of_dvd_mul_left (show Nat.Coprime a'.natAbs b'.natAbs from cop) d2)
theorem sL {a b sh sh':Int} {zs zs':List Pt} (ha:0<a) (hb:0<b) (e1:a*sh=b*sh') (e2:zs.map (λz=>(a*z.1,a*z.2))=zs'.map λz=>(b*z.1,b*z.2))
  (cop:∀d:Nat,(d:Int)∣sh'->(∀z∈zs',(d:Int)∣z.1/\(d:Int)∣z.2)->d=1):a∣b:=by
 have len:zs.length=zs'.length:=by have:=congrArg List.length e2;simpa using this
 have hg:(0:Int)<(Int.gcd a b:Nat):=by
  have:=Int.gcd_pos_of_ne_zero_left (a:=a) b (by omega);omega
 obtain⟨a',ea⟩:((Int.gcd a b:Nat):Int)∣a:=Int.gcd_dvd_left ..
 have e0:a / (Int.gcd a b:Nat)=a':=by
  have:a / ((Int.gcd a b:Nat):Int)=(((Int.gcd a b:Nat):Int)*a') / ((Int.gcd a b:Nat):Int):=congrArg (· / ((Int.gcd a b:Nat):Int)) ea
  rw[this,Int.mul_ediv_cancel_left _ (by omega)]
 have pa:0<a':=by
  apply Int.not_le.mp
  intro hn
  have:((Int.gcd a b:Nat):Int)*a'<=0:=Int.mul_nonpos_of_nonneg_of_nonpos (by omega) hn
  omega
 have one:=cop a'.toNat (by
  rw[Int.toNat_of_nonneg (by omega),<-e0];exact fR ha hb e1) λz hz=>by
  rw[Int.toNat_of_nonneg (by omega),<-e0]
  obtain⟨i,hi,rfl⟩:=List.getElem_of_mem hz
  have hi':i<zs.length:=by omega
  have ei:(zs.map λz=>(a*z.1,a*z.2))[i]? = (zs'.map λz=>(b*z.1,b*z.2))[i]?:=by rw[e2]
  rw[List.getElem?_map,List.getElem?_map,List.getElem?_eq_getElem hi,List.getElem?_eq_getElem hi'] at ei
  simp only[Option.map_some,Option.some.injEq,Prod.mk.injEq] at ei
  exact⟨fR ha hb ei.1,fR ha hb ei.2⟩
 have:a'=1:=by omega
 rw[this,Int.mul_one] at ea
 rw[ea]
 exact Int.gcd_dvd_right ..
theorem vY {a b sh sh':Int} {zs zs':List Pt} (ha:0<a) (hb:0<b) (e1:a*sh=b*sh') (e2:zs.map (λz=>(a*z.1,a*z.2))=zs'.map λz=>(b*z.1,b*z.2))
  (c1:∀d:Nat,(d:Int)∣sh->(∀z∈zs,(d:Int)∣z.1/\(d:Int)∣z.2)->d=1) (c2:∀d:Nat,(d:Int)∣sh'->(∀z∈zs',(d:Int)∣z.1/\(d:Int)∣z.2)->d=1):sh=sh'/\zs=zs':=by
 have h1:=sL ha hb e1 e2 c2
 have h2:=sL hb ha e1.symm e2.symm c1
 have hab:a=b:=Int.le_antisymm (Int.le_of_dvd hb h1) (Int.le_of_dvd ha h2)
 subst hab
 refine⟨Int.eq_of_mul_eq_mul_left (by omega) e1,?_⟩
 have len:zs.length=zs'.length:=by have:=congrArg List.length e2;simpa using this
 apply List.ext_getElem len
 intro i hi hi'
 have ei:(zs.map λz=>(a*z.1,a*z.2))[i]? = (zs'.map λz=>(a*z.1,a*z.2))[i]?:=by rw[e2]
 rw[List.getElem?_map,List.getElem?_map,List.getElem?_eq_getElem hi,List.getElem?_eq_getElem hi'] at ei
 simp only[Option.map_some,Option.some.injEq,Prod.mk.injEq] at ei
 exact Prod.ext (Int.eq_of_mul_eq_mul_left (by omega) ei.1) (Int.eq_of_mul_eq_mul_left (by omega) ei.2)
theorem NormOf.same {share share' m m' sh sh' k k':Int} {cs cs' zs zs':List Pt} (h:NormOf share cs m sh zs) (h':NormOf share' cs' m' sh' zs') (hk:0<k) (hk':0<k') (e1:k*share=k'*share') (e2:cs.map (λz=>(k*z.1,k*z.2))=cs'.map λz=>(k'*z.1,k'*z.2)):sh=sh'/\zs=zs':=by
 refine vY (a:=k*m) (b:=k'*m') (Int.mul_pos hk h.mpos) (Int.mul_pos hk' h'.mpos) ?_ ?_ h.cop h'.cop
 ·rw[Int.mul_assoc,Int.mul_assoc,<-h.sh_eq,<-h'.sh_eq];exact e1
 ·rw[h.cs_eq,h'.cs_eq,List.map_map,List.map_map] at e2
  simp only[Function.comp_def,<-Int.mul_assoc] at e2
  exact e2
structure RingIn (ps:List Pt) (z:Pt) (T:List Pt):Prop where
 cvx:Cvx (z::T)
 least:∀q∈T,¬ltP q z
 mem:∀q∈z::T,q∈ps
 left:∀a b,Cyc (z::T) a b->∀q∈ps,0<=aH a b q
noncomputable def DK (ps:List Pt):Prop:=∀D,Inc D->(∀z,z∈D↔z∈ps)->2<=D.length->(iE D).length<3
noncomputable def dH:FD:=λds Q=>∃(share:Int) (ps:List Pt),ds=[.int share,pts ps]/\(0<share/\BL 9000 share)/\(∀z∈ps,BP z)/\ps.length<64 /\
 ((∃z T,RingIn ps z T/\∀m sh zs,NormOf share (z::T) m sh zs->Q (.tup [.int sh,.tup (zs.map pt)]))\/(DK ps/\Q .non))
noncomputable def Rot {α:Type} (A B:List α):Prop:=∃X Y,A=X++Y/\B=Y++X
theorem Rot.mem {α:Type} {A B:List α} (h:Rot A B) (x:α):x∈A↔x∈B:=by
 obtain⟨X,Y,rfl,rfl⟩:=h;simp[or_comm]
theorem Cvx.rot {A B:List Pt} (h:Rot A B) (c:Cvx A):Cvx B:=by obtain⟨X,Y,rfl,rfl⟩:=h;exact c.swap
noncomputable abbrev scl (k:Int) (z:Pt):Pt:=(k*z.1,k*z.2)
theorem yM {k:Int} (hk:0<k) {a b:Pt}:ltP (scl k a) (scl k b)↔ltP a b:=by
 unfold ltP scl
 dsimp only
 rw[Int.mul_lt_mul_left hk,Int.mul_lt_mul_left hk]
 constructor
 ·rintro (h | ⟨h,h'⟩)
  ·exact Or.inl h
  ·exact Or.inr ⟨Int.eq_of_mul_eq_mul_left (by omega) h,h'⟩
 ·rintro (h | ⟨h,h'⟩)
  ·exact Or.inl h
  ·exact Or.inr ⟨by rw[h],h'⟩
theorem uF {k:Int} (hk:0<k) {a b:Pt} (h:scl k a=scl k b):a=b:=by
 simp only[scl,Prod.mk.injEq] at h
 exact Prod.ext (Int.eq_of_mul_eq_mul_left (by omega) h.1) (Int.eq_of_mul_eq_mul_left (by omega) h.2)
theorem mM (k:Int) (a b c:Pt):aH (scl k a) (scl k b) (scl k c)=k*k*aH a b c:=by unfold aH scl;dsimp only;grind
theorem Cvx.unscl {k:Int} (hk:0<k) {cs:List Pt} (h:Cvx (cs.map (scl k))):Cvx cs:=by
 refine⟨by simpa using h.len,?_,λa b hab q hq n1 n2=>?_⟩
 ·exact List.Pairwise.of_map (scl k) (λa b hn e=>hn (by rw[e])) h.nodup
 ·have c:Cyc (cs.map (scl k)) (scl k a) (scl k b):=by
   obtain⟨l,r,e⟩:=hab
   refine⟨l.map (scl k),r.map (scl k),?_⟩
   rw[<-List.map_take,<-List.map_append,e];simp
  have:=h.strict _ _ c (scl k q) (List.mem_map_of_mem hq) (λe=>n1 (uF hk e)) λe=>n2 (uF hk e)
  rw[mM] at this
  exact Int.pos_of_mul_pos_left (by rw[Int.mul_comm];exact this) (Int.mul_pos hk hk)
noncomputable abbrev cr (a b:Int × Int):Int:=a.1*b.2-a.2*b.1
noncomputable def chain (a:Int × Int):List (Int × Int)->Int
 | []=>0
 | b::r=>cr a b+chain b r
noncomputable def fan (z a:Int × Int):List (Int × Int)->Int
 | []=>0
 | b::r=>cr (a.1-z.1,a.2-z.2) (b.1-z.1,b.2-z.2)+fan z b r
theorem sC (z:Int × Int):∀(r:List (Int × Int)) (a:Int × Int),chain a (r++[z])=fan z a r+cr a z
 | [],a=>by simp[chain,fan]
 | b::r,a=>by
  rw[List.cons_append,chain,fan,sC z r b]
  simp only[cr]
  grind
theorem GY (z a:Int × Int) (r:List (Int × Int)):chain z (a::r++[z])=fan z a r:=by
 rw[List.cons_append,chain,sC]
 simp only[cr]
 grind
noncomputable def jX (n:Nat) (zs:List (Int × Int)):Prop:=∀z∈zs,BL n z.1/\BL n z.2
noncomputable def mQ:FD:=λds Q=>∃(sh:Int) (z a b:Int × Int) (r:List (Int × Int)),ds=[.tup [.int sh,.tup ((z::a::b::r).map pt)]]/\(0<sh/\BL 4000 sh)/\(jX 30000 (z::a::b::r)/\r.length<=900) /\
 ∀p q,Low (chain z (a::b::r++[z])) (sh*sh) p q->Q (fr p q)
theorem RingForm.small {lows highs:List Int} {top p q r s ox oy:Int} (R:RingForm lows highs top p q r s ox oy):jX 210 (lG lows highs top p q r s ox oy):=by
 have sm:∀x∈lows++highs,-4<=x/\x<=60:=λx hx=>by
  have:=R.lowsN
  have:=R.highsN
  rcases List.mem_append.mp hx with h | h
  ·obtain⟨i,hi,rfl⟩:=List.getElem_of_mem h
   have:=R.lowsR.bound i _ (List.getElem?_eq_getElem hi)
   omega
  ·obtain⟨i,hi,rfl⟩:=List.getElem_of_mem h
   have:=R.highsR.bound i _ (List.getElem?_eq_getElem hi)
   omega
 have tp:∀x∈lows++highs,0<=x*x/\x*x<=top/\top<=10000:=λx hx=>by
  have:=R.topL x hx
  have:=R.topH
  have:=KU x
  omega
 intro z hz
 obtain⟨w,hw,rfl⟩:=List.mem_map.mp hz
 have hw':BL 20 w.1/\BL 20 w.2:=by
  unfold dI at hw
  rcases List.mem_append.mp hw with h | h
  ·obtain⟨x,hx,rfl⟩:=List.mem_map.mp h
   have:=sm x (List.mem_append_left _ hx)
   have:=tp x (List.mem_append_left _ hx)
   exact⟨BL.of_lt (by simp;omega) (by simp;omega),BL.of_lt (by simp;omega) (by simp;omega)⟩
  ·obtain⟨x,hx,rfl⟩:=List.mem_map.mp h
   have hx:=List.mem_reverse.mp hx
   have:=sm x (List.mem_append_right _ hx)
   have:=tp x (List.mem_append_right _ hx)
   exact⟨BL.of_lt (by simp;omega) (by simp;omega),BL.of_lt (by simp;omega) (by simp;omega)⟩
 have:=R.pB
 have:=R.qB
 have:=R.rB
 have:=R.sB
 have cp:BL 20 p:=BL.of_lt (by omega) (by omega)
 have cq:BL 20 q:=BL.of_lt (by omega) (by omega)
 have cr:BL 20 r:=BL.of_lt (by omega) (by omega)
 have cs:BL 20 s:=BL.of_lt (by omega) (by omega)
 exact⟨(((cp.mul hw'.1).add (cq.mul hw'.2)).add R.oxB).mono (by decide),(((cr.mul hw'.1).add (cs.mul hw'.2)).add R.oyB).mono (by decide)⟩
theorem RingForm.len {lows highs:List Int} {top p q r s ox oy:Int} (R:RingForm lows highs top p q r s ox oy):3<=(lG lows highs top p q r s ox oy).length/\(lG lows highs top p q r s ox oy).length<=24:=by
 have h1:=R.lowsN
 have h2:=R.highsN
 simp only[lG,dI,List.length_map,List.length_append,List.length_reverse]
 omega
theorem fU {m a:Int} (hm:0<m):a.natAbs<=(m*a).natAbs:=by
 rw[Int.natAbs_mul]
 have:1<=m.natAbs:=by omega
 calc a.natAbs=1*a.natAbs:=(Nat.one_mul _).symm
  _<=m.natAbs*a.natAbs:=Nat.mul_le_mul_right _ this
theorem DueOf.small {share:Int} {cs:List (Int × Int)} {m sh:Int} {ds:List (Int × Int)} {j n:Nat} (h:DueOf share cs m sh ds j) (hs:jX n cs):jX n ds:=λz hz=>by
 have:=hs (m*z.1,m*z.2) (by rw[h.cs_eq];exact List.mem_map.mpr ⟨z,hz,rfl⟩)
 exact⟨this.1.le (fU h.mpos),this.2.le (fU h.mpos)⟩
theorem DueOf.sh_pos {share:Int} {cs:List (Int × Int)} {m sh:Int} {ds:List (Int × Int)} {j:Nat} (h:DueOf share cs m sh ds j) (hs:0<share):0<sh:=by
 have:=h.mpos
 have e:=h.sh_eq
 rcases Int.lt_or_le 0 sh with h' | h'
 ·exact h'
 ·have:=Int.mul_nonpos_of_nonneg_of_nonpos (Int.le_of_lt this) h'
  omega
theorem DueOf.sh_bl {share:Int} {cs:List (Int × Int)} {m sh:Int} {ds:List (Int × Int)} {j n:Nat} (h:DueOf share cs m sh ds j) (hb:BL n share):BL n sh:=hb.le (by rw[h.sh_eq];exact fU h.mpos)
theorem DueOf.len {share:Int} {cs:List (Int × Int)} {m sh:Int} {ds:List (Int × Int)} {j:Nat} (h:DueOf share cs m sh ds j):ds.length=cs.length:=by rw[h.cs_eq];simp
theorem yV {α:Type} {j:Nat} {ds:List α} (h:j<=ds.length):(turned j ds).length=ds.length:=by simp[turned];omega
theorem yW {α:Type} {j:Nat} {ds:List α} {x:α} (h:x∈turned j ds):x∈ds:=by
 rcases List.mem_append.mp h with h | h
 ·exact List.mem_of_mem_drop h
 ·exact List.mem_of_mem_take h
theorem qK {s:Int} (h0:1<=s) (h1:s<=1000000000):BL 100 s:=by
 have e:(1000000000:Int)<((2 ^ 100:Nat):Int):=by decide
 exact BL.of_lt (by omega) (by omega)
theorem LH {xs:List Int} (h:Drawn 8 xs):∃a b c d e f g k,xs=[a,b,c,d,e,f,g,k]:=by
 have hl:=h.len
 match xs,hl with
 | [a,b,c,d,e,f,g,k],_=>exact⟨a,b,c,d,e,f,g,k,rfl⟩
theorem FK {x:D} (h:x∈[D.int 10,D.int 1000000000000000000000000000000000000000000000000000000000000]):∃f:Int,x = .int f/\0<=f/\BL 200 f:=by
 simp only[List.mem_cons,List.not_mem_nil,or_false] at h
 rcases h with rfl | rfl
 ·exact⟨_,rfl,by decide,BL.const⟩
 ·exact⟨_,rfl,by decide,BL.of_lt (by decide) (by decide)⟩
namespace K12
theorem zU {q p r:Int} (h:Int.gcd q p=1) (d:q∣p*r):q∣r:=by
 have h1:q.natAbs∣p.natAbs*r.natAbs:=by rw[<-Int.natAbs_mul];exact Int.natAbs_dvd_natAbs.mpr d
 exact Int.natAbs_dvd_natAbs.mp (Nat.Coprime.dvd_of_dvd_mul_left h h1)
theorem MG {a b p q p' q':Int} (hb:0<b) (h:Low a b p q) (h':Low a b p' q'):p=p'/\q=q':=by
 have e:p*q'=p'*q:=by
  have h1:=h.worth
  have h2:=h'.worth
  have:(p*q')*b=(p'*q)*b:=by grind
  exact Int.eq_of_mul_eq_mul_right (by omega) this
 have d1:q∣q':=by
  have:q∣p*q':=by rw[e];exact Int.dvd_mul_left ..
  exact zU (by rw[Int.gcd_comm];exact h.cop) this
 have d2:q'∣q:=by
  have:q'∣p'*q:=by rw[<-e];exact Int.dvd_mul_left ..
  exact zU (by rw[Int.gcd_comm];exact h'.cop) this
 have l1:=Int.le_of_dvd h'.pos d1
 have l2:=Int.le_of_dvd h.pos d2
 have eq:q=q':=by omega
 subst eq
 exact⟨Int.eq_of_mul_eq_mul_right (by have:=h.pos;omega) e,rfl⟩
theorem vK (z:Int × Int):∀(r:List (Int × Int)) (a b:Int × Int) (w:Int × Int),(a::r).getLast? = some w->fan z a (r++[b])=fan z a r+cr (w.1-z.1,w.2-z.2) (b.1-z.1,b.2-z.2)
 | [],a,b,w,h=>by
  simp at h;subst h
  simp[fan]
 | c::r,a,b,w,h=>by
  rw[List.cons_append,fan,fan,vK z r c b w (by simpa using h)]
  omega
theorem rangeD_succ {lo:Int} {n:Nat}:cQ lo (n+1) = .int lo::cQ (lo+1) n:=by
 unfold cQ
 rw[List.range_succ_eq_map,List.map_cons,List.map_map]
 congr 1
 ·simp
 ·refine List.map_congr_left λk _=>?_
  simp only[Function.comp]
  congr 1;push_cast;omega
theorem pure_law:∀ds Q,xC 63 ds Q->qG uI uJ fX pC lM lO mQ { nx:=λ_=>Q .non,rt:=Q } (aQ ["_law_script","_law_head","_law_ring_here","_law_share_here","_law_corners","_law_found","_law_x","_law_y","_law_total","_law_k"] ds):=by
 rintro ds Q ⟨ns,rfl,hn,q⟩
 rw[aW 9 rfl]
 unfold qG
 simp only[dS,NR,List.map_cons,List.map_nil,List.cons_append,List.nil_append]
 refine aO (λρ=>∃a b c d e f g k:Int,ρ=[some (.d (il ns)),some (.d (.lst [.int a,.int b,.int c,.int d,.int e,.int f,.int g,.int k])),none,none,none,none,none,none,none,none]) (λK hK=>?_) ?_
 ·walk_at "rd"
  refine⟨ns,8,rfl,⟨by omega,by decide,by decide⟩,λxs hx=>?_⟩
  obtain⟨a,b,c,d,e,f,g,k,rfl⟩:=LH hx
  exact hK _ ⟨a,b,c,d,e,f,g,k,rfl⟩
 rintro ρ ⟨a,b,c,d,e,f,g,k,rfl⟩
 generalize hH:D.lst [.int a,.int b,.int c,.int d,.int e,.int f,.int g,.int k]=HD
 refine aO (λρ=>∃cs,jX 210 cs/\(3<=cs.length/\cs.length<=24)/\ρ=[some (.d (il ns)),some (.d HD),some (.d (pts cs)),none,none,none,none,none,none,none]) (λK hK=>?_) ?_
 ·rw[<-hH] at hK ⊢
  walk_at "rd"
  walk_at "sides"
  obtain⟨a0,a1⟩:=aT (a:=k) (b:=2) (by decide)
  refine jO a0 (by simpa using a1) λx hx=>?_
  obtain⟨far,rfl,f0,f1⟩:=FK hx
  exact⟨_,_,_,_,_,_,_,_,far,rfl,⟨f0,f1⟩,λlows highs top p q r s ox oy R=>hK _ ⟨_,R.small,R.len,rfl⟩⟩
 rintro ρ ⟨cs,csS,csL,rfl⟩
 refine aO (λρ=>∃(sh:Int) (z u v:Int × Int) (r:List (Int × Int)),(0<sh/\BL 100 sh)/\jX 210 (z::u::v::r)/\r.length<=21/\ρ=[some (.d (il ns)),some (.d HD),some (.d (pts cs)),some (.d (.int sh)),some (.d (.tup ((z::u::v::r).map pt))),none,none,none,none,none]) (λK hK=>?_) ?_
 ·rw[<-hH] at hK ⊢
  walk_at "rd"
  walk_at "sides"
  refine⟨_,rfl,λshare s0 s1=>?_⟩
  refine⟨share,cs,rfl,⟨by omega,qK s0 s1⟩,⟨by intro e;rw[e] at csL;simp at csL,by omega⟩,λm sh zs j hd=>?_⟩
  have hl:=hd.len
  have htl:=yV (Nat.le_of_lt hd.j_lt)
  have hsm:jX 210 (turned j zs):=λz hz=>hd.small csS z (yW hz)
  generalize turned j zs=ts at htl hsm
  walk_at "rd"
  match ts,htl with
  | z::u::v::r,htl =>
   refine hK _ ⟨sh,z,u,v,r,⟨hd.sh_pos (by omega),hd.sh_bl (qK s0 s1)⟩,hsm,by simp at htl;omega,rfl⟩
  | [],htl=>simp at htl;omega
  | [_],htl=>simp at htl;omega
  | [_,_],htl=>simp at htl;omega
 rintro ρ ⟨sh,z,u,v,r,⟨hs,bs⟩,hsm,hrl,rfl⟩
 generalize hC:D.tup ((z::u::v::r).map pt)=C
 have bsq:=(bs.mul bs)
 refine aO (λρ=>∃p q,Low (chain z (u::v::r++[z])) (sh*sh) p q/\ρ=[some (.d (il ns)),some (.d HD),some (.d (pts cs)),some (.d (.int sh)),some (.d C),some (.d (fr p q)),none,none,none,none]) (λK hK=>?_) ?_
 ·rw[<-hC] at hK ⊢
  simp only[bE,aX,aD,aK,lD,aU,List.getElem?_cons_zero,List.getElem?_cons_succ,List.length_cons,List.length_nil,List.set_cons_zero,List.set_cons_succ]
  refine⟨sz2,sh,z,u,v,r,rfl,⟨hs,bs.mono (by decide)⟩,⟨λw hw=>⟨(hsm w hw).1.mono (by decide),(hsm w hw).2.mono (by decide)⟩,by omega⟩,λp q h=>hK _ ⟨p,q,h,rfl⟩⟩
 rintro ρ ⟨p,q',hlow,rfl⟩
 refine aO (λρ=>ρ=[some (.d (il ns)),some (.d HD),some (.d (pts cs)),some (.d (.int sh)),some (.d C),some (.d (fr p q')),some (.d (.int z.1)),some (.d (.int z.2)),none,none]) (λK hK=>?_) ?_
 ·rw[<-hC] at hK ⊢
  walk_at "rd"
  exact hK _ rfl
 rintro ρ rfl
 refine aO (λρ=>ρ=[some (.d (il ns)),some (.d HD),some (.d (pts cs)),some (.d (.int sh)),some (.d C),some (.d (fr p q')),some (.d (.int z.1)),some (.d (.int z.2)),some (.d (.int 0)),none]) (λK hK=>?_) ?_
 ·walk_at "rd"
  exact hK _ rfl
 rintro ρ rfl
 refine aO (λρ=>∃o,ρ=[some (.d (il ns)),some (.d HD),some (.d (pts cs)),some (.d (.int sh)),some (.d C),some (.d (fr p q')),some (.d (.int z.1)),some (.d (.int z.2)),some (.d (.int (fan z u (v::r)))),o]) (λK hK=>?_) ?_
 ·subst hC
  have ln:gO (D.tup ((z::u::v::r).map pt))=λQ=>Q (.int ((r.length+3:Nat):Int)):=by
   funext Q;simp only[gO,List.map_cons,List.length_cons,List.length_map]
  simp only[mH,NS,aD,aK,rC,r1,aA,List.getElem?_cons_zero,List.getElem?_cons_succ,S.val,ln]
  refine⟨⟨⟨by decide,by decide⟩,⟨by omega,by omega⟩⟩,?_⟩
  have en:(((r.length+3:Nat):Int)-2).toNat=(v::r).length:=by simp;omega
  rw[en]
  obtain⟨T,hT⟩:∃T,T=v::r:=⟨_,rfl⟩
  rw[<-hT] at hK hsm ⊢
  refine cT (λxs ρ=>∃(i:Nat) (o:Option S),i<=T.length/\xs=cQ (2+(i:Int)) (T.length-i)/\ρ=[some (.d (il ns)),some (.d HD),some (.d (pts cs)),some (.d (.int sh)),some (.d (.tup ((z::u::T).map pt))),some (.d (fr p q')),some (.d (.int z.1)),some (.d (.int z.2)),some (.d (.int (fan z u (T.take i)))),o]) ?_ ?_ _ _ ⟨0,none,Nat.zero_le _,by simp,by simp[fan]⟩
  ·rintro x xs ρ ⟨i,o,hi,ex,rfl⟩ F _ _ hnx _
   have hlt:i<T.length:=by
    rcases Nat.lt_or_ge i T.length with h | h
    ·exact h
    ·rw[show T.length-i=0 by omega] at ex;cases ex
   rw[show T.length-i=(T.length-(i+1))+1 by omega,rangeD_succ] at ex
   cases ex
   unfold kE
   have w1:((z::u::T).map pt)[i+1]? = some (pt ((u::T)[i]'(by simp;omega))):=by
    rw[List.getElem?_map,List.getElem?_cons_succ,List.getElem?_eq_getElem (by simp;omega)];rfl
   have w2:((z::u::T).map pt)[i+2]? = some (pt T[i]):=by
    rw[List.getElem?_map,List.getElem?_cons_succ,List.getElem?_cons_succ,List.getElem?_eq_getElem hlt];rfl
   have a1:atI ((z::u::T).map pt) (2+(i:Int)-1)=_:=xI (j:=i+1) (by omega) w1
   have a2:atI ((z::u::T).map pt) (2+(i:Int))=_:=xI (j:=i+2) (by omega) w2
   have i1:∀Q,dIx (.tup ((z::u::T).map pt)) (.int (2+(i:Int)-1)) Q=Q (pt ((u::T)[i]'(by simp;omega))):=λQ=>by simp only[dIx,a1]
   have i2:∀Q,dIx (.tup ((z::u::T).map pt)) (.int (2+(i:Int))) Q=Q (pt T[i]):=λQ=>by simp only[dIx,a2]
   have hz:=hsm z List.mem_cons_self
   have hp:=hsm ((u::T)[i]'(by simp;omega)) (List.mem_cons_of_mem _ (List.getElem_mem _))
   have hc:=hsm T[i] (List.mem_cons_of_mem _ (List.mem_cons_of_mem _ (List.getElem_mem _)))
   have hlast:(u::T.take i).getLast? = some ((u::T)[i]'(by simp;omega)):=by
    rw[List.getLast?_eq_getElem?]
    simp only[List.length_cons,List.length_take,Nat.min_eq_left hi,Nat.add_sub_cancel]
    cases i with
    | zero=>simp
    | succ i=>simp
   have step:=vK z (T.take i) u T[i] _ hlast
   rw[<-List.take_succ_eq_append_getElem hlt] at step
   generalize (u::T)[i]'(by simp;omega)=P at *
   generalize T[i]=N at *
   generalize hC:D.tup ((z::u::T).map pt)=C at *
   simp only[aY,aV,bE,r2,aA,rC,eJ,cK,cE,List.set_cons_zero,List.set_cons_succ,List.getElem?_cons_zero,List.getElem?_cons_succ,S.val,i1,i2,uX,uY]
   refine⟨(hp.1.sub hz.1).mulOk (hc.2.sub hz.2),(hp.2.sub hz.2).mulOk (hc.1.sub hz.1),?_⟩
   refine hnx _ ⟨i+1,some (.d (.int (2+(i:Int)))),hlt,by rw[show (2+(i:Int)+1)=2+((i+1:Nat):Int) by omega],?_⟩
   rw[step]
   simp only[cr,Int.add_sub_assoc]
  ·rintro ρ ⟨i,o,hi,ex,rfl⟩
   have:i=T.length:=by
    rcases Nat.lt_or_ge i T.length with h | h
    ·rw[show T.length-i=(T.length-(i+1))+1 by omega,rangeD_succ] at ex;cases ex
    ·omega
   subst this
   rw[List.take_length]
   exact hK _ ⟨o,rfl⟩
 rintro ρ ⟨o,rfl⟩
 rw[GY] at hlow
 have e5:∀(p' r':Int),eqL (eqF 5) [.int p,.int q'] [.int p',.int r']=some (decide (p=p') && (decide (q'=r') && true)):=λp' r'=>by simp[eqL,eqF]
 have hsq:=Int.mul_pos hs hs
 have b9:BL 9000 (sh*sh):=bsq.mono (by decide)
 refine aO (λρ=>ρ=[some (.d (il ns)),some (.d HD),some (.d (pts cs)),some (.d (.int sh)),some (.d C),some (.d (fr p q')),some (.d (.int z.1)),some (.d (.int z.2)),some (.d (.int (fan z u (v::r)))),o]) (λK hK=>?_) ?_
 ·walk_at "rd"
  refine⟨bs.mulOk bs,_,_,rfl,⟨hsq,b9⟩,λp' r' h'=>?_⟩
  obtain⟨rfl,rfl⟩:=MG hsq hlow h'
  dsimp only[fr]
  rw[e5]
  simp only[decide_true,Bool.true_and,Bool.not_true,Bool.false_eq_true,if_false]
  exact hK _ rfl
 rintro ρ rfl
 walk_at "rd"
 exact⟨p,rfl,q',rfl,q⟩
end K12
structure Line where
 a:Int
 b:Int
 c:Int
noncomputable abbrev ln (l:Line):D:=.tup [.int l.a,.int l.b,.int l.c]
noncomputable abbrev exc (l:Line) (p:Int × Int) (s:Int):Int:=l.a*p.1+l.b*p.2-l.c*s
noncomputable def lI:FD:=λds Q=>∃n b p:Int,ds=[.int n,.int b,.int p]/\(0<b/\BL 9000 b)/\(0<=p/\p<=1000)/\∀x,0<=x->x<b->Q (.int x)
theorem BW:∀ds Q,lI ds Q->ds.length=3:=by rintro ds Q ⟨_,_,_,rfl,_⟩;rfl
theorem pX:∀ds Q,lI ds Q->eB { nx:=λ_=>Q .non,rt:=Q } (aQ ["_law_number","_law_base","_law_place","_law_k"] ds):=by
 rintro ds Q ⟨n,b,p,rfl,⟨b0,b1⟩,⟨p0,p1⟩,q⟩
 rw[aW 1 rfl]
 unfold eB
 simp only[dS,NO,List.map_cons,List.map_nil,List.cons_append,List.nil_append]
 refine aO (λρ=>∃(m:Int) (o:Option S),ρ=[some (.d (.int m)),some (.d (.int b)),some (.d (.int p)),o]) (λK hK=>?_) ?_
 ·walk_at "rd"
  refine⟨⟨by omega,by omega⟩,?_⟩
  refine cT (λ_ ρ=>∃(m:Int) (o:Option S),ρ=[some (.d (.int m)),some (.d (.int b)),some (.d (.int p)),o]) ?_ ?_ _ _ ⟨n,none,rfl⟩
  ·rintro x xs ρ ⟨m,o,rfl⟩ F _ _ hn _
   unfold gF
   walk_at "rd"
   exact⟨b1.divOk (by omega),hn _ ⟨m.fdiv b,some (.d x),rfl⟩⟩
  ·rintro ρ ⟨m,o,rfl⟩
   exact hK _ ⟨m,o,rfl⟩
 rintro ρ ⟨m,o,rfl⟩
 walk_at "rd"
 obtain⟨a0,a1⟩:=aT (a:=m) b0
 exact⟨⟨by omega⟩,q _ a0 a1⟩
theorem FX (z w:Pt):HT.lexLt [z.1,z.2] [w.1,w.2]=decide (ltP z w):=by
 unfold ltP
 simp only[HT.lexLt]
 by_cases h:z.1=w.1
 ·rw[if_pos h]
  by_cases h2:z.2=w.2
  ·rw[if_pos h2];simp[h,h2]
  ·rw[if_neg h2];simp[h]
 ·rw[if_neg h];simp[h]
theorem fK {α:Type} (j:Nat) (xs:List α):Rot xs (turned j xs):=⟨xs.take j,xs.drop j,by rw[List.take_append_drop],rfl⟩
theorem qO {α β:Type} (j:Nat) (f:α->β) (xs:List α):turned j (xs.map f)=(turned j xs).map f:=by unfold turned;simp
theorem DueOf.norm {share:Int} {cs:List Pt} {m sh:Int} {ds:List Pt} {j:Nat} (h:DueOf share cs m sh ds j):NormOf share (turned j cs) m sh (turned j ds):=by
 refine⟨h.mpos,h.sh_eq,?_,λd h1 h2=>h.cop d h1 λz hz=>h2 z (((fK j ds).mem z).mp hz)⟩
 conv=>lhs;rw[h.cs_eq]
 exact qO j _ ds
theorem DueOf.first {share:Int} {cs:List Pt} {m sh:Int} {ds:List Pt} {j:Nat} (h:DueOf share cs m sh ds j):∃w T,turned j cs=w::T/\∀x∈T,¬ltP x w:=by
 obtain⟨z,T,e⟩:∃z T,turned j ds=z::T:=by
  have hj:=h.j_lt
  refine⟨ds[j],ds.drop (j+1)++ds.take j,?_⟩
  show ds.drop j++ds.take j=_
  rw[List.drop_eq_getElem_cons hj];rfl
 have ez:ds[j]? = some z:=by
  have:(turned j ds)[0]? = some z:=by rw[e];rfl
  have hj:=h.j_lt
  unfold turned at this
  rw[List.getElem?_append_left (by simp;omega),List.getElem?_drop] at this
  simpa using this
 refine⟨scl m z,T.map (scl m),?_,λx hx=>?_⟩
 ·conv=>lhs;rw[h.cs_eq]
  rw[qO,e];rfl
 ·obtain⟨y,hy,rfl⟩:=List.mem_map.mp hx
  rw[yM h.mpos]
  have:=h.least y (((fK j ds).mem y).mpr (by rw[e];simp[hy])) z ez
  rw[FX] at this
  simpa using this
theorem gB {f:D->D->Option Bool}:∀(xs:List D),(∀x∈xs,f x x=some true)->eqL f xs xs=some true
 | [],_=>rfl
 | x::xs,h=>by
  simp only[eqL,h x (by simp),gB xs λy hy=>h y (by simp[hy])]
  rfl
theorem zV (n:Nat) (i:Int):eqF (n+1) (.int i) (.int i)=some true:=by simp[eqF]
theorem zW (n:Nat) (z:Pt):eqF (n+2) (pt z) (pt z)=some true:=by
 show eqL (eqF (n+1)) _ _=_
 refine gB _ λx hx=>?_
 simp only[List.mem_cons,List.not_mem_nil,or_false] at hx
 rcases hx with rfl | rfl <;> exact zV n _
noncomputable abbrev pce (sh:Int) (zs:List Pt):D:=.tup [.int sh,.tup (zs.map pt)]
theorem LN (n:Nat) (sh:Int) (zs:List Pt):eqL (eqF (n+3)) [.int sh,.tup (zs.map pt)] [.int sh,.tup (zs.map pt)]=some true:=by
 refine gB _ λx hx=>?_
 simp only[List.mem_cons,List.not_mem_nil,or_false] at hx
 rcases hx with rfl | rfl
 ·exact zV _ _
 ·show eqL (eqF (n+2)) _ _=_
  refine gB _ λy hy=>?_
  obtain⟨z,_,rfl⟩:=List.mem_map.mp hy
  exact zW _ _
noncomputable def gL:FD:=λds Q=>∃ps:List Pt,ds=[pts ps]/\(∀z∈ps,BP z)/\ps.length<76/\∀D r:List Pt,Inc D->(∀z,z∈D↔z∈ps)->(2<=D.length->r=iE D)->(D.length<=1->r.length<3)->r.length<=200->Q (pts r)
theorem tQ:∀ds Q,gL ds Q->ds.length=1:=by rintro ds Q ⟨_,rfl,_⟩;rfl
theorem qC:∀ds Q,gL ds Q->eX sU { nx:=λ_=>Q .non,rt:=Q } (aQ ["points","rising"] ds):=by
 rintro ds Q ⟨ps,rfl,hb,hl,q⟩
 rw[aW 1 rfl]
 unfold eX
 walk_at "rd"
 unfold nN qE
 walk_at "rd"
 refine⟨ps.map λz=>[z.1,z.2],by rw[List.map_map];rfl,by simpa using hl,λns h=>?_,λmss hs hm hlen=>?_⟩
 ·obtain⟨z,_,rfl⟩:=List.mem_map.mp h;simp
 obtain⟨L,hL⟩:∃L:List Pt,mss=L.map λz=>[z.1,z.2]:=by
  have:∀ms∈mss,∃z:Pt,ms=[z.1,z.2]:=λms h=>by
   obtain⟨z,_,e⟩:=List.mem_map.mp ((hm ms).mp h)
   exact⟨z,e.symm⟩
  clear hs hm hlen
  induction mss with
  | nil=>exact⟨[],rfl⟩
  | cons m mss ih =>
   obtain⟨L,e⟩:=ih λms h=>this ms (List.mem_cons_of_mem _ h)
   obtain⟨z,e2⟩:=this m (by simp)
   exact⟨z::L,by rw[e,e2];rfl⟩
 subst hL
 have inj:∀z w:Pt,[z.1,z.2]=[w.1,w.2]->z=w:=λz w h=>by simp at h;exact Prod.ext h.1 h.2
 have memL:∀z,z∈L↔z∈ps:=λz=>by
  have:=hm [z.1,z.2]
  constructor
  ·intro h
   obtain⟨w,hw,e⟩:=List.mem_map.mp (this.mp (List.mem_map.mpr ⟨z,h,rfl⟩))
   rw[<-inj _ _ e];exact hw
  ·intro h
   obtain⟨w,hw,e⟩:=List.mem_map.mp (this.mpr (List.mem_map.mpr ⟨z,h,rfl⟩))
   rw[<-inj _ _ e];exact hw
 have wL:xF L:=by
  unfold xF
  refine (List.pairwise_map.mp hs).imp λ{a b} h=>?_
  rw[IS] at h
  simpa using h
 have eL:D.lst (List.map dY (List.map (λz:Pt=>[z.1,z.2]) L))=pts L:=by rw[List.map_map];rfl
 have lL:L.length<=75:=by simp at hlen;omega
 have bL:∀z∈L,BP z:=λz hz=>hb z ((memL z).mp hz)
 obtain⟨D,HD⟩:=FI L wL
 obtain⟨o1,o2⟩:=vG wL HD.inc HD.mem
 have h1:∀M:List Pt,(dW M).length<=M.length:=λM=>by
  unfold dW
  have:=FN M
  simp;omega
 rw[eL]
 refine⟨L,rfl,bL,by omega,L.map pt,rfl,L.reverse,by rw[<-List.map_reverse],λz hz=>bL z (List.mem_reverse.mp hz),by simp;omega,?_⟩
 have a1:=h1 L
 have a2:=h1 L.reverse
 rw[List.length_reverse] at a2
 show Sz (((dW L).map pt).length+((dW L.reverse).map pt).length)/\Q (.lst ((dW L).map pt++(dW L.reverse).map pt))
 refine⟨⟨AD (by simp;omega)⟩,?_⟩
 rw[<-List.map_append]
 exact q D (iE L) HD.inc (λz=>(HD.mem z).trans (memL z)) o1 o2 (by unfold iE;simp;omega)
noncomputable def gM:FD:=λds Q=>∃(share:Int) (ps:List Pt),ds=[.int share,pts ps]/\(0<share/\BL 9000 share)/\(∀z∈ps,BP z)/\ps.length<76 /\
 ((∃z T,RingIn ps z T/\∀m sh zs,NormOf share (z::T) m sh zs->Q (.tup [.int sh,.tup (zs.map pt)]))\/(DK ps/\Q .non))
theorem tR:∀ds Q,gM ds Q->ds.length=2:=by rintro ds Q ⟨_,_,rfl,_⟩;rfl
theorem qD:∀ds Q,gM ds Q->hX gL lJ { nx:=λ_=>Q .non,rt:=Q } (aQ ["share","points","corners","divisor","x","y"] ds):=by
 rintro ds Q ⟨share,ps,rfl,⟨hs,bs⟩,hb,hl,hq⟩
 rw[aW 4 rfl]
 unfold hX
 simp only[dS,QG,List.map_cons,List.map_nil,List.cons_append,List.nil_append]
 refine aO (λρ=>∃r:List Pt,r.length<=200/\((r.length<3/\Q .non)\/(3<=r.length/\∀m sh zs,NormOf share r m sh zs->Q (.tup [.int sh,.tup (zs.map pt)])))/\ρ=[some (.d (.int share)),some (.d (pts ps)),some (.d (pts r)),none,none,none]) (λK hK=>?_) ?_
 ·walk_at "rd"
  refine⟨ps,rfl,hb,hl,λD r iD hm h2 h1 hr=>hK _ ⟨r,hr,?_,rfl⟩⟩
  rcases hq with ⟨z,T,R,q⟩ | ⟨fl,q⟩
  ·have sub:3<=D.length:=by
    have:=fT (z::T) D R.cvx.nodup λx hx=>(hm x).mpr (R.mem x hx)
    have:=R.cvx.len
    omega
   have e:=uE (L:=ps) iD R.cvx R.least (λx hx=>(hm x).mpr (R.mem x hx)) λa b hab x hx=>R.left a b hab x ((hm x).mp hx)
   have er:=h2 (by omega)
   rw[e] at er
   subst er
   exact Or.inr ⟨R.cvx.len,q⟩
  ·refine Or.inl ⟨?_,q⟩
   by_cases hd:2<=D.length
   ·rw[h2 hd];exact fl D iD hm hd
   ·exact h1 (by omega)
 rintro ρ ⟨r,hr,hq,rfl⟩
 rcases hq with ⟨h3,q⟩ | ⟨h3,q⟩
 ·walk_at "rd"
  rw[if_pos (by simp;omega)]
  exact q
 refine aO (λρ=>ρ=[some (.d (.int share)),some (.d (pts ps)),some (.d (pts r)),none,none,none]) (λK hK=>?_) ?_
 ·walk_at "rd"
  rw[if_neg (by simp;omega)]
  exact hK _ rfl
 rintro ρ rfl
 refine aO (λρ=>ρ=[some (.d (.int share)),some (.d (pts ps)),some (.d (pts r)),some (.d (.int share)),none,none]) (λK hK=>?_) ?_
 ·walk_at "rd"
  exact hK _ rfl
 rintro ρ rfl
 refine aO (λρ=>∃(g:Nat) (x y:Option S),GcdOf share r g/\ρ=[some (.d (.int share)),some (.d (pts ps)),some (.d (pts r)),some (.d (.int g)),x,y]) (λK hK=>?_) ?_
 ·walk_at "rd"
  refine cT (λxs ρ=>∃(done rest:List Pt) (g:Nat) (x y:Option S),r=done++rest/\xs=rest.map pt/\GcdOf share done g/\ρ=[some (.d (.int share)),some (.d (pts ps)),some (.d (pts r)),some (.d (.int g)),x,y]) ?_ ?_ _ _ ⟨[],r,share.toNat,none,none,rfl,rfl,⟨by omega,?_,by simp,λd e1 _=>?_⟩,?_⟩
  ·rintro x xs ρ ⟨done,rest,g,u,v,e,ex,hg,rfl⟩ F _ _ hn _
   cases rest with
   | nil=>cases ex
   | cons z rest =>
    cases ex
    unfold kF
    walk_at "rd"
    refine⟨_,_,rfl,_,_,rfl,?_⟩
    exact hn _ ⟨done++[z],rest,_,_,_,by simpa using e,rfl,hg.snoc z,rfl⟩
  ·rintro ρ ⟨done,rest,g,u,v,e,ex,hg,rfl⟩
   have:rest=[]:=by simpa using ex.symm
   subst this
   rw[List.append_nil] at e
   subst e
   exact hK _ ⟨g,u,v,hg,rfl⟩
  ·have:(share.toNat:Int)=share:=by omega
   rw[this];exact Int.dvd_refl _
  ·have:(share.toNat:Int)=share:=by omega
   exact_mod_cast (by rw[this];exact e1:(d:Int)∣(share.toNat:Int))
  ·have:(share.toNat:Int)=share:=by omega
   rw[this]
 rintro ρ ⟨g,x,y,hg,rfl⟩
 have gp:(0:Int)<g:=by have:=hg.pos;omega
 have gb:BL 9000 (g:Int):=hg.bl hs bs
 obtain⟨zs,ez⟩:∃zs,zs=r.map λz=>(z.1 / (g:Int),z.2 / (g:Int)):=⟨_,rfl⟩
 have ec:r=zs.map λz=>((g:Int)*z.1,(g:Int)*z.2):=by
  rw[ez,List.map_map]
  symm
  conv=>rhs;rw[<-List.map_id r]
  refine List.map_congr_left λz hz=>?_
  obtain⟨a,b⟩:=hg.all z hz
  simp only[Function.comp,id,Int.mul_ediv_cancel' a,Int.mul_ediv_cancel' b]
 obtain⟨sh,es⟩:=hg.sh
 have ediv:share.fdiv g=sh:=by
  rw[Int.fdiv_eq_ediv_of_nonneg _ (by omega),es,Int.mul_ediv_cancel_left _ (by omega)]
 walk_at "rd"
 refine⟨gb.divOk (by omega),?_⟩
 refine⟨dL (by simp;omega),?_⟩
 refine eI (λρ=>∃a b,ρ=[a,b,some (.d (.int g))]) pt (λz=>pt (z.1 / (g:Int),z.2 / (g:Int))) r ?_ ⟨_,_,rfl⟩ ?_
 ·rintro z hz ρ ⟨a,b,rfl⟩ K' hK'
  walk_at "rd"
  refine⟨gb.divOk (by omega),gb.divOk (by omega),?_⟩
  rw[Int.fdiv_eq_ediv_of_nonneg _ (by omega),Int.fdiv_eq_ediv_of_nonneg _ (by omega)]
  exact hK' _ ⟨_,_,rfl⟩
 ·have e:List.map (λz:Pt=>pt (z.1 / (g:Int),z.2 / (g:Int))) r=zs.map pt:=by rw[ez,List.map_map];rfl
  rw[ediv,e]
  refine q g sh zs ⟨gp,es,ec,λd h1 h2=>?_⟩
  have:=hg.most (d*g) (by
   rw[es];push_cast
   obtain⟨c,ec⟩:=h1
   exact⟨c,by rw[ec];grind⟩) λz hz=>by
   rw[ec] at hz
   obtain⟨w,hw,rfl⟩:=List.mem_map.mp hz
   obtain⟨⟨c1,e1⟩,c2,e2⟩:=h2 w hw
   push_cast
   exact⟨⟨c1,by rw[e1];grind⟩,c2,by rw[e2];grind⟩
  have le:=Nat.le_of_dvd hg.pos this
  have d0:d≠0:=by
   rintro rfl
   rw[Nat.zero_mul] at this
   have:=Nat.eq_zero_of_zero_dvd this
   have:=hg.pos
   omega
  apply Nat.le_antisymm ?_ (by omega)
  apply Nat.not_lt.mp
  intro h
  have:2*g<=d*g:=Nat.mul_le_mul_right _ h
  have:=hg.pos
  omega
noncomputable def sV:FD:=λds Q=>∃a b:Int,ds=[.int a,.int b]/\(0<a/\0<b)/\(BL 8000 a/\BL 8000 b)/\∀l,0<l->a∣l->b∣l->(∀m,a∣m->b∣m->l∣m)->Q (.int l)
theorem FS:∀ds Q,sV ds Q->ds.length=2:=by rintro ds Q ⟨_,_,rfl,_⟩;rfl
theorem hU:∀ds Q,sV ds Q->cI lJ { nx:=λ_=>Q .non,rt:=Q } (aQ ["one","other"] ds):=by
 rintro ds Q ⟨a,b,rfl,⟨ha,hb⟩,⟨ba,bb⟩,q⟩
 rw[aW 0 rfl]
 unfold cI
 walk_at "rd"
 refine⟨a,b,rfl,?_⟩
 have hg:=tL (a:=a) (b:=b) (by omega)
 have bg:=BL.gcd (a:=a) (b:=b) (by omega) bb
 walk_at "rd"
 have b2:BL 8000 (b.fdiv (Int.gcd a b:Nat)):=bb.fdiv
 refine⟨(bg.mono (by decide)).divOk (by omega),ba.mulOk b2,?_⟩
 have e0:b.fdiv (Int.gcd a b:Nat)=b / (Int.gcd a b:Nat):=Int.fdiv_eq_ediv_of_nonneg _ (by omega)
 have e:a*b.fdiv (Int.gcd a b:Nat)=(Int.lcm a b:Nat):=by
  have h1:((Int.gcd a b:Nat):Int)*(Int.lcm a b:Nat)=a*b:=by
   have:=Int.gcd_mul_lcm a b
   have z:((a*b).natAbs:Int)=a*b:=Int.natAbs_of_nonneg (Int.le_of_lt (Int.mul_pos ha hb))
   rw[<-z,Int.natAbs_mul,<-this];push_cast;rfl
  have h2:((Int.gcd a b:Nat):Int)*(b / (Int.gcd a b:Nat))=b:=Int.mul_ediv_cancel' (Int.gcd_dvd_right ..)
  rw[e0]
  refine Int.eq_of_mul_eq_mul_left (a:=((Int.gcd a b:Nat):Int)) (by omega) ?_
  rw[h1,Int.mul_left_comm,h2]
 rw[e]
 have lp:(0:Int)<(Int.lcm a b:Nat):=by
  have:Int.lcm a b≠0:=Int.lcm_ne_zero (by omega) (by omega)
  omega
 exact q _ lp (Int.dvd_lcm_left ..) (Int.dvd_lcm_right ..) λm h1 h2=>Int.coe_lcm_dvd h1 h2
noncomputable abbrev Sp:=Int × Int × Int × Int
noncomputable abbrev spt (s:Sp):D:=.tup [fr s.1 s.2.1,fr s.2.2.1 s.2.2.2]
structure InN (N:Int) (s:Sp) (z:Pt):Prop where
 qx:0<s.2.1
 qy:0<s.2.2.2
 dx:s.2.1∣N
 dy:s.2.2.2∣N
 ex:s.1*N=z.1*s.2.1
 ey:s.2.2.1*N=z.2*s.2.2.2
noncomputable def oP:FD:=λds Q=>∃(ws:List (Sp × Pt)) (N:Int),ds=[.lst (ws.map λw=>spt w.1)]/\(0<N/\BL 100 N)/\ws.length<76/\(∀w∈ws,InN N w.1 w.2/\BL 1000 w.1.1/\BL 1000 w.1.2.2.1) /\
 ∀(c M:Int) (f:Sp × Pt->Pt),0<c->0<M->N=c*M->(∀w∈ws,w.2=scl c (f w)) ->
  ((∃z T,RingIn (ws.map f) z T/\∀m sh zs,NormOf M (z::T) m sh zs->Q (.tup [.int sh,.tup (zs.map pt)]))\/(DK (ws.map f)/\Q .non))
theorem BX:∀ds Q,oP ds Q->ds.length=1:=by rintro ds Q ⟨_,_,rfl,_⟩;rfl
theorem wJ {N c M p q z:Int} (hq:0<q) (hd:q∣M) (e:p*N=z*q) (eN:N=c*M):z=c*(p*(M / q)):=by
 obtain⟨u,rfl⟩:=hd
 rw[Int.mul_ediv_cancel_left _ (by omega)]
 refine Int.eq_of_mul_eq_mul_right (a:=q) (by omega) ?_
 rw[<-e,eN];grind
theorem rO:∀ds Q,oP ds Q->fN gM sV { nx:=λ_=>Q .non,rt:=Q } (aQ ["spots","share","x","y"] ds):=by
 rintro ds Q ⟨ws,N,rfl,⟨hN,bN⟩,hl,hw,q⟩
 rw[aW 3 rfl]
 unfold fN
 simp only[dS,QF,List.map_cons,List.map_nil,List.cons_append,List.nil_append]
 have small:∀{d:Int},d∣N->BL 100 d:=λ{d} hd=>bN.le (Nat.le_of_dvd (by omega) (Int.natAbs_dvd_natAbs.mpr hd))
 refine aO (λρ=>ρ=[some (.d (.lst (ws.map λw=>spt w.1))),some (.d (.int 1)),none,none]) (λK hK=>?_) ?_
 ·walk_at "rd"
  exact hK _ rfl
 rintro ρ rfl
 refine aO (λρ=>∃(M:Int) (x y:Option S),(0<M/\M∣N/\∀w∈ws,w.1.2.1∣M/\w.1.2.2.2∣M)/\ρ=[some (.d (.lst (ws.map λw=>spt w.1))),some (.d (.int M)),x,y]) (λK hK=>?_) ?_
 ·walk_at "rd"
  refine cT (λxs ρ=>∃(done rest:List (Sp × Pt)) (M:Int) (x y:Option S),ws=done++rest/\xs=(rest.map λw=>spt w.1)/\(0<M/\M∣N/\∀w∈done,w.1.2.1∣M/\w.1.2.2.2∣M)/\ρ=[some (.d (.lst (ws.map λw=>spt w.1))),some (.d (.int M)),x,y]) ?_ ?_ _ _ ⟨[],ws,1,none,none,rfl,rfl,⟨by decide,Int.one_dvd _,by simp⟩,rfl⟩
  ·rintro x xs ρ ⟨done,rest,M,u,v,e,ex,⟨m0,m1,m2⟩,rfl⟩ F _ _ hn _
   cases rest with
   | nil=>cases ex
   | cons w rest =>
    cases ex
    obtain⟨I,_,_⟩:=hw w (by rw[e];simp)
    unfold jG
    walk_at "rd"
    refine⟨M,_,rfl,⟨m0,I.qx⟩,⟨(small m1).mono (by decide),(small I.dx).mono (by decide)⟩,λl l0 l1 l2 l3=>?_⟩
    have lN:=l3 N m1 I.dx
    refine⟨l,_,rfl,⟨l0,I.qy⟩,⟨(small lN).mono (by decide),(small I.dy).mono (by decide)⟩,λk k0 k1 k2 k3=>?_⟩
    have Mk:=Int.dvd_trans l1 k1
    refine hn _ ⟨done++[w],rest,k,_,_,by simpa using e,rfl,⟨k0,k3 N lN I.dy,λy hy=>?_⟩,rfl⟩
    rcases List.mem_append.mp hy with hy | hy
    ·exact⟨Int.dvd_trans (m2 y hy).1 Mk,Int.dvd_trans (m2 y hy).2 Mk⟩
    ·rw[List.mem_singleton.mp hy];exact⟨Int.dvd_trans l2 k1,k2⟩
  ·rintro ρ ⟨done,rest,M,u,v,e,ex,hm,rfl⟩
   have:rest=[]:=by simpa using ex.symm
   subst this
   rw[List.append_nil] at e
   subst e
   exact hK _ ⟨M,u,v,hm,rfl⟩
 rintro ρ ⟨M,x,y,⟨m0,m1,m2⟩,rfl⟩
 obtain⟨c,ec⟩:=m1
 have c0:0<c:=by
  apply Int.not_le.mp
  intro h
  have:=Int.mul_nonpos_of_nonneg_of_nonpos (Int.le_of_lt m0) h
  omega
 have bM:BL 100 M:=small ⟨c,ec⟩
 have eN:N=c*M:=by rw[ec,Int.mul_comm]
 walk_at "rd"
 refine⟨dL (by simp;omega),?_⟩
 refine eI (λρ=>∃a b,ρ=[a,b,some (.d (.int M))]) (λw:Sp × Pt=>spt w.1) (λw=>pt (w.1.1*(M / w.1.2.1),w.1.2.2.1*(M / w.1.2.2.2))) ws ?_ ⟨_,_,rfl⟩ ?_
 ·rintro w hw' ρ ⟨a,b,rfl⟩ K' hK'
  obtain⟨I,b1,b2⟩:=hw w hw'
  have d1:=m2 w hw'
  have p1:=I.qx
  have p2:=I.qy
  walk_at "rd"
  have f1:BL 100 (M.fdiv w.1.2.1):=bM.fdiv
  have f2:BL 100 (M.fdiv w.1.2.2.2):=bM.fdiv
  refine⟨((small I.dx).mono (n:=9000) (by decide)).divOk (by omega),b1.mulOk f1,((small I.dy).mono (n:=9000) (by decide)).divOk (by omega),b2.mulOk f2,?_⟩
  rw[Int.fdiv_eq_ediv_of_nonneg _ (by omega),Int.fdiv_eq_ediv_of_nonneg _ (by omega)]
  exact hK' _ ⟨_,_,rfl⟩
 ·have r:=q c M (λw=>(w.1.1*(M / w.1.2.1),w.1.2.2.1*(M / w.1.2.2.2))) c0 m0 eN λw hw'=>by
   obtain⟨I,_,_⟩:=hw w hw'
   exact Prod.ext (wJ I.qx (m2 w hw').1 I.ex eN) (wJ I.qy (m2 w hw').2 I.ey eN)
  refine⟨M,ws.map λw=>(w.1.1*(M / w.1.2.1),w.1.2.2.1*(M / w.1.2.2.2)),by rw[pts,List.map_map];rfl,⟨m0,bM.mono (by decide)⟩,λz hz=>?_,by simpa using hl,r⟩
  obtain⟨w,hw',rfl⟩:=List.mem_map.mp hz
  obtain⟨I,b1,b2⟩:=hw w hw'
  have f1:BL 100 (M / w.1.2.1):=by rw[<-Int.fdiv_eq_ediv_of_nonneg _ (Int.le_of_lt I.qx)];exact bM.fdiv
  have f2:BL 100 (M / w.1.2.2.2):=by rw[<-Int.fdiv_eq_ediv_of_nonneg _ (Int.le_of_lt I.qy)];exact bM.fdiv
  exact⟨(b1.mul f1).mono (by decide),(b2.mul f2).mono (by decide)⟩
theorem sH {P:Pt->Prop} (h:∀a b c,P a->P b->P c->aH a b c=0):∀(L s:List Pt),(∀x∈L,P x)->(∀x∈s,P x)->s.length<=2->(L.foldl (λs q=>q::bI q s) s).length<=2
 | [],s,_,_,hs=>hs
 | q::L,s,hL,hp,hs=>by
  have sub:∀x∈bI q s,x∈s:=λx hx=>(fF q s).subset hx
  have l1:(bI q s).length<=1:=by
   match s,hs,hp with
   | [],_,_=>simp[bI]
   | [a],_,_=>simp[bI]
   | [b,a],_,hp =>
    have:aH a b q=0:=h a b q (hp a (by simp)) (hp b (by simp)) (hL q (by simp))
    rw[bI,if_pos (by omega)]
    simp[bI]
  refine sH h L (q::bI q s) (λx hx=>hL x (List.mem_cons_of_mem _ hx)) (λx hx=>?_) (by simp;omega)
  rcases List.mem_cons.mp hx with rfl | hx
  ·exact hL _ (by simp)
  ·exact hp x (sub x hx)
theorem IF {ps:List Pt} (h:∀a b c,a∈ps->b∈ps->c∈ps->aH a b c=0):DK ps:=by
 intro D _ hm _
 have one:∀L:List Pt,(∀x∈L,x∈ps)->(dW L).length<=1:=λL hL=>by
  have:=sH (P:=λx=>x∈ps) h L [] hL (by simp) (by simp)
  unfold dW bQ
  simp;omega
 have a:=one D λx hx=>(hm x).mp hx
 have b:=one D.reverse λx hx=>(hm x).mp (List.mem_reverse.mp hx)
 unfold iE
 simp;omega
noncomputable def pD:FD:=λds Q=>∃x y b:Int,ds=[.int x,.int y,.int b]/\(0<b/\BL 9000 b)/\∀s:Sp,Low x b s.1 s.2.1->Low y b s.2.2.1 s.2.2.2->Q (spt s)
theorem FU:∀ds Q,pD ds Q->ds.length=3:=by rintro ds Q ⟨_,_,_,rfl,_⟩;rfl
theorem rN:∀ds Q,pD ds Q->eW uJ { nx:=λ_=>Q .non,rt:=Q } (aQ ["_law_x","_law_y","_law_share_here"] ds):=by
 rintro ds Q ⟨x,y,b,rfl,hb,q⟩
 rw[aW 0 rfl]
 unfold eW
 walk_at "rd"
 exact⟨x,b,rfl,hb,λpx qx L1=>⟨y,b,rfl,hb,λpy qy L2=>q (px,qx,py,qy) L1 L2⟩⟩
theorem AH {a b p q:Int} (L:Low a b p q):q∣b:=by
 have h:q.natAbs∣p.natAbs*b.natAbs:=by rw[<-Int.natAbs_mul,L.worth,Int.natAbs_mul];exact Nat.dvd_mul_left ..
 have c:Nat.Coprime q.natAbs p.natAbs:=by rw[Nat.coprime_comm];exact L.cop
 exact Int.natAbs_dvd_natAbs.mp (Nat.Coprime.dvd_of_dvd_mul_left c h)
theorem MH {x y b e N:Int} {s:Sp} (hN:N=b*e) (L1:Low x b s.1 s.2.1) (L2:Low y b s.2.2.1 s.2.2.2):InN N s (e*x,e*y) :=
 ⟨L1.pos,L2.pos,Int.dvd_trans (AH L1) ⟨e,hN⟩,Int.dvd_trans (AH L2) ⟨e,hN⟩,by rw[hN,<-Int.mul_assoc,L1.worth];grind,by rw[hN,<-Int.mul_assoc,L2.worth];grind⟩
noncomputable def Mix (cs:List Pt) (z:Pt):Prop:=∃a∈cs,∃b∈cs,∃u v:Int,0<=u/\0<=v/\u+v=12/\z=(u*a.1+v*b.1,u*a.2+v*b.2)
noncomputable def iK (N:Int) (P:Pt->Prop) (w:Sp × Pt):Prop:=InN N w.1 w.2/\BL 1000 w.1.1/\BL 1000 w.1.2.2.1/\P w.2
noncomputable abbrev spl (ws:List (Sp × Pt)):List D:=ws.map λw=>spt w.1
noncomputable def oR:FD:=λds Q=>∃(hd:List Int) (cs:List Pt) (share:Int),ds=[il hd,pts cs,.int share]/\(hd.length=12/\0<share/\BL 100 share)/\(3<=cs.length/\cs.length<=24/\jX 300 cs) /\
 ∀ws:List (Sp × Pt),(∀w∈ws,iK (12*share) (Mix cs) w)->(∀c∈cs,∃w∈ws,w.2=scl 12 c)->ws.length<=73->Q (.lst (spl ws))
theorem CC:∀ds Q,oR ds Q->ds.length=3:=by rintro ds Q ⟨_,_,_,rfl,_⟩;rfl
theorem xY {hd:List Int} (h:hd.length=12):∃a0 a1 a2 a3 a4 a5 a6 a7 a8 a9 a10 a11,hd=[a0,a1,a2,a3,a4,a5,a6,a7,a8,a9,a10,a11]:=by
 match hd,h with
 | [a0,a1,a2,a3,a4,a5,a6,a7,a8,a9,a10,a11],_=>exact⟨a0,a1,a2,a3,a4,a5,a6,a7,a8,a9,a10,a11,rfl⟩
theorem jL {share x y b e:Int} {s:Sp} {P:Pt->Prop} (he:12*share=b*e) (L1:Low x b s.1 s.2.1) (L2:Low y b s.2.2.1 s.2.2.2) (bx:BL 1000 x) (by':BL 1000 y) (h:P (e*x,e*y)):iK (12*share) P (s,(e*x,e*y)) :=
 ⟨MH he L1 L2,bx.le L1.lea,by'.le L2.lea,h⟩
theorem pZ:∀ds Q,oR ds Q->eE lI pD { nx:=λ_=>Q .non,rt:=Q } (aQ ["_law_head","_law_ring_here","_law_share_here","_law_found","_law_start","_law_k","_law_one","_law_other","_law_way"] ds):=by
 rintro ds Q ⟨hd,cs0,share,rfl,⟨hh,hs,bs⟩,⟨c3,c24,csS⟩,q⟩
 obtain⟨a0,a1,a2,a3,a4,a5,a6,a7,a8,a9,a10,a11,rfl⟩:=xY hh
 rw[aW 6 rfl]
 unfold eE
 simp only[dS,NQ,List.map_cons,List.map_nil,List.cons_append,List.nil_append]
 generalize hH:il [a0,a1,a2,a3,a4,a5,a6,a7,a8,a9,a10,a11]=HD
 refine aO (λρ=>ρ=[some (.d HD),some (.d (pts cs0)),some (.d (.int share)),some (.own []),none,none,none,none,none]) (λK hK=>?_) ?_
 ·walk_at "rd"
  exact hK _ rfl
 rintro ρ rfl
 refine aO (λρ=>∃j:Nat,j<cs0.length/\ρ=[some (.d HD),some (.d (pts cs0)),some (.d (.int share)),some (.own []),some (.d (.int j)),none,none,none,none]) (λK hK=>?_) ?_
 ·rw[<-hH] at hK ⊢
  walk_at "rd"
  have hp:(0:Int)<(cs0.map pt).length:=by simp;omega
  obtain⟨m0,m1⟩:=aT (a:=a8) hp
  refine⟨⟨by omega⟩,hK _ ⟨(a8.fmod (cs0.map pt).length).toNat,by simp at m1 ⊢;omega,?_⟩⟩
  rw[Int.toNat_of_nonneg m0]
 rintro ρ ⟨j,hj,rfl⟩
 refine aO (λρ=>∃cs:List Pt,(cs.length=cs0.length/\∀z,z∈cs↔z∈cs0)/\ρ=[some (.d HD),some (.d (pts cs)),some (.d (.int share)),some (.own []),some (.d (.int j)),none,none,none,none]) (λK hK=>?_) ?_
 ·walk_at "rd"
  rw[sE (by simp;omega),zM (by simp;omega),<-List.map_drop,<-List.map_take,<-List.map_append]
  refine⟨dL (by simp;omega),hK _ ⟨cs0.drop j++cs0.take j,⟨by simp;omega,λz=>?_⟩,rfl⟩⟩
  exact ((fK j cs0).mem z).symm
 rintro ρ ⟨cs,⟨lcs,mcs⟩,rfl⟩
 have mix:∀{z:Pt},Mix cs z->Mix cs0 z:=λ⟨a,ha,b,hb,r⟩=>⟨a,(mcs a).mp ha,b,(mcs b).mp hb,r⟩
 refine aO (λρ=>∃(ws:List (Sp × Pt)) (x y z u:Option S),((∀w∈ws,iK (12*share) (Mix cs) w)/\(∀c∈cs,∃w∈ws,w.2=scl 12 c)/\ws.length<=72/\ws≠[])/\ρ=[some (.d HD),some (.d (pts cs)),some (.d (.int share)),some (.own (spl ws)),some (.d (.int j)),x,y,z,u]) (λK hK=>?_) ?_
 ·walk_at "rd"
  have lp:((cs.map pt).length:Int)=cs.length:=by simp
  rw[lp]
  refine⟨⟨by omega,by omega⟩,?_⟩
  rw[show ((cs.length:Int)).toNat=cs.length by omega]
  refine cT (λxs ρ=>∃(i:Nat) (ws:List (Sp × Pt)) (x y z u:Option S),(i<=cs.length/\xs=cQ (i:Int) (cs.length-i))/\((∀w∈ws,iK (12*share) (Mix cs) w)/\(∀c∈cs.take i,∃w∈ws,w.2=scl 12 c)/\ws.length<=3*i/\(0<i->ws≠[]))/\ρ=[some (.d HD),some (.d (pts cs)),some (.d (.int share)),some (.own (spl ws)),some (.d (.int j)),x,y,z,u]) ?_ ?_ _ _ ⟨0,[],none,none,none,none,⟨by omega,rfl⟩,⟨by simp,by simp,by simp,by simp⟩,rfl⟩
  ·rintro x xs ρ ⟨i,ws,o1,o2,o3,o4,⟨hi,ex⟩,⟨w1,w2,w3,w4⟩,rfl⟩ F _ _ hn _
   obtain⟨r,hr⟩:∃r,cs.length-i=r+1:=by
    cases h:cs.length-i with
    | zero=>rw[h] at ex;cases ex
    | succ r=>exact⟨r,rfl⟩
   rw[hr,K12.rangeD_succ] at ex
   obtain⟨rfl,rfl⟩:=List.cons.inj ex
   have hil:i<cs.length:=by omega
   obtain⟨c,ec⟩:∃c,c=cs[i]:=⟨_,rfl⟩
   have gc:cs[i]? = some c:=by rw[ec,List.getElem?_eq_getElem hil]
   have mc:c∈cs:=List.mem_of_getElem? gc
   have bc:=csS c ((mcs c).mp mc)
   unfold gH
   simp only[aY,List.set_cons_zero,List.set_cons_succ]
   refine aO (λρ=>ρ=[some (.d HD),some (.d (pts cs)),some (.d (.int share)),some (.own (spl ws)),some (.d (.int j)),some (.d (.int i)),some (.d (pt c)),o3,o4]) (λK hK=>?_) ?_
   ·walk_at "rd"
    exact OM (by rw[List.getElem?_map,gc];rfl) (hK _ rfl)
   rintro ρ rfl
   refine aO (λρ=>∃d:Pt,d∈cs/\ρ=[some (.d HD),some (.d (pts cs)),some (.d (.int share)),some (.own (spl ws)),some (.d (.int j)),some (.d (.int i)),some (.d (pt c)),some (.d (pt d)),o4]) (λK hK=>?_) ?_
   ·walk_at "rd"
    rw[lp]
    obtain⟨m0,m1⟩:=aT (a:=(i:Int)+1) (b:=cs.length) (by omega)
    refine⟨⟨by omega⟩,jO m0 (by rw[List.length_map];exact m1) λx hx=>?_⟩
    obtain⟨d,md,rfl⟩:=List.mem_map.mp hx
    exact hK _ ⟨d,md,rfl⟩
   rintro ρ ⟨d,md,rfl⟩
   have bd:=csS d ((mcs d).mp md)
   have mixw:∀u v:Int,0<=u->0<=v->u+v=12->Mix cs (u*c.1+v*d.1,u*c.2+v*d.2):=λu v h1 h2 h3=>⟨c,mc,d,md,u,v,h1,h2,h3,rfl⟩
   refine aO (λρ=>∃w:Sp × Pt,(iK (12*share) (Mix cs) w/\w.2=scl 12 c)/\ρ=[some (.d HD),some (.d (pts cs)),some (.d (.int share)),some (.own (spl (ws++[w]))),some (.d (.int j)),some (.d (.int i)),some (.d (pt c)),some (.d (pt d)),o4]) (λK hK=>?_) ?_
   ·walk_at "rd"
    refine⟨c.1,c.2,share,rfl,⟨hs,bs.mono (by decide)⟩,λs L1 L2=>⟨dL (by simp;omega),hK _ ⟨(s,(12*c.1,12*c.2)),⟨jL (by grind) L1 L2 (bc.1.mono (by decide)) (bc.2.mono (by decide)) ?_,rfl⟩,by simp⟩⟩⟩
    have:=mixw 12 0 (by decide) (by decide) (by decide)
    simpa using this
   rintro ρ ⟨w,⟨wo,we⟩,rfl⟩
   have v1:∀x∈ws++[w],iK (12*share) (Mix cs) x:=λx hx=>by
    rcases List.mem_append.mp hx with hx | hx
    ·exact w1 x hx
    ·rw[List.mem_singleton.mp hx];exact wo
   have v2:∀e∈cs.take (i+1),∃x∈ws++[w],x.2=scl 12 e:=λe he=>by
    rw[List.take_succ_eq_append_getElem hil,List.mem_append] at he
    rcases he with he | he
    ·obtain⟨x,hx,ex⟩:=w2 e he
     exact⟨x,List.mem_append_left _ hx,ex⟩
    ·rw[List.mem_singleton.mp he,<-ec]
     exact⟨w,by simp,we⟩
   have grow:∀vs:List (Sp × Pt),(∀c∈cs.take (i+1),∃w∈vs,w.2=scl 12 c)->∀x,∀c∈cs.take (i+1),∃w∈vs++[x],w.2=scl 12 c:=λvs h x c hc=>by
    obtain⟨w,hw,e⟩:=h c hc
    exact⟨w,List.mem_append_left _ hw,e⟩
   have okm:∀(vs:List (Sp × Pt)) (x:Sp × Pt),(∀w∈vs,iK (12*share) (Mix cs) w)->iK (12*share) (Mix cs) x->∀w∈vs++[x],iK (12*share) (Mix cs) w:=λvs x h hx w hw=>by
    rcases List.mem_append.mp hw with hw | hw
    ·exact h w hw
    ·rw[List.mem_singleton.mp hw];exact hx
   refine aO (λρ=>∃y:Int,ρ=[some (.d HD),some (.d (pts cs)),some (.d (.int share)),some (.own (spl (ws++[w]))),some (.d (.int j)),some (.d (.int i)),some (.d (pt c)),some (.d (pt d)),some (.d (.int y))]) (λK hK=>?_) ?_
   ·rw[<-hH] at hK ⊢
    walk_at "rd"
    exact⟨a9,5,i,rfl,⟨by decide,(BL.const (n:=20)).mono (by decide)⟩,⟨by omega,by omega⟩,λy _ _=>hK _ ⟨y,rfl⟩⟩
   rintro ρ ⟨y,rfl⟩
   refine aO (λρ=>∃vs:List (Sp × Pt),((∀w∈vs,iK (12*share) (Mix cs) w)/\(∀c∈cs.take (i+1),∃w∈vs,w.2=scl 12 c)/\vs≠[]/\(vs.length<=3*i+1\/(y=1/\vs.length<=3*i+2)))/\ρ=[some (.d HD),some (.d (pts cs)),some (.d (.int share)),some (.own (spl vs)),some (.d (.int j)),some (.d (.int i)),some (.d (pt c)),some (.d (pt d)),some (.d (.int y))]) (λK hK=>?_) ?_
   ·walk_at "rd"
    by_cases hy:y=1
    ·rw[if_pos hy]
     refine dZ (x:=spt w.1) (pG (by simp[spl])) ⟨dL (by simp;omega),hK _ ⟨(ws++[w])++[w],⟨okm _ _ v1 wo,grow _ v2 w,by simp,.inr ⟨hy,by simp;omega⟩⟩,by simp[spl]⟩⟩
    ·rw[if_neg hy]
     exact hK _ ⟨ws++[w],⟨v1,v2,by simp,.inl (by simp;omega)⟩,rfl⟩
   rintro ρ ⟨vs,⟨u1,u2,u3,u4⟩,rfl⟩
   refine aO (λρ=>∃vs:List (Sp × Pt),((∀w∈vs,iK (12*share) (Mix cs) w)/\(∀c∈cs.take (i+1),∃w∈vs,w.2=scl 12 c)/\vs≠[]/\(vs.length<=3*i+1\/(y≠3/\vs.length<=3*i+2)))/\ρ=[some (.d HD),some (.d (pts cs)),some (.d (.int share)),some (.own (spl vs)),some (.d (.int j)),some (.d (.int i)),some (.d (pt c)),some (.d (pt d)),some (.d (.int y))]) (λK hK=>?_) ?_
   ·walk_at "rd"
    by_cases hy:y=2
    ·rw[if_pos hy]
     refine⟨(BL.const (n:=10)).mulOk bs,_,_,2*share,rfl,⟨by omega,((BL.const (i:=2) (n:=10)).mul bs).mono (by decide)⟩,λs L1 L2=>⟨dL (by simp;omega),hK _ ⟨vs++[(s,(6*(c.1+d.1),6*(c.2+d.2)))],⟨okm _ _ u1 (jL (by grind) L1 L2 ((bc.1.add bd.1).mono (by decide)) ((bc.2.add bd.2).mono (by decide)) ?_),grow _ u2 _,by simp,.inr ⟨by omega,by simp;omega⟩⟩,by simp[spl]⟩⟩⟩
     have:=mixw 6 6 (by decide) (by decide) (by decide)
     rw[Int.mul_add,Int.mul_add];exact this
    ·rw[if_neg hy]
     exact hK _ ⟨vs,⟨u1,u2,u3,by omega⟩,rfl⟩
   rintro ρ ⟨vs,⟨u1,u2,u3,u4⟩,rfl⟩
   have fin:∀(vs:List (Sp × Pt)) (z:Option S),(∀w∈vs,iK (12*share) (Mix cs) w)->(∀c∈cs.take (i+1),∃w∈vs,w.2=scl 12 c)->vs≠[]->vs.length<=3*(i+1)->F.nx [some (.d HD),some (.d (pts cs)),some (.d (.int share)),some (.own (spl vs)),some (.d (.int j)),some (.d (.int i)),some (.d (pt c)),some (.d (pt d)),z]:=λvs z h1 h2 h3 h4 =>
    hn _ ⟨i+1,vs,_,_,_,_,⟨by omega,by rw[show cs.length-(i+1)=r by omega];push_cast;rfl⟩,⟨h1,h2,h4,λ_=>h3⟩,rfl⟩
   walk_at "rd"
   by_cases hy:y=3
   ·rw[if_pos hy]
    have two:∀{a:Int},BL 300 a->BL 310 (2*a):=λ{a} h=>((BL.const (i:=2) (n:=10)).mul h).mono (by decide)
    have three:∀{a:Int},BL 300 a->BL 310 (3*a):=λ{a} h=>((BL.const (i:=3) (n:=10)).mul h).mono (by decide)
    refine⟨(BL.const (n:=10)).mulOk bc.1,(BL.const (n:=10)).mulOk bc.2,(BL.const (n:=10)).mulOk bs,_,_,3*share,rfl,⟨by omega,((BL.const (i:=3) (n:=10)).mul bs).mono (by decide)⟩,λs L1 L2=>⟨dL (by simp;omega),?_⟩⟩
    have k1:∀w∈vs++[(s,(4*(2*c.1+d.1),4*(2*c.2+d.2)))],iK (12*share) (Mix cs) w:=okm _ _ u1 (jL (by grind) L1 L2 (((two bc.1).add bd.1).mono (by decide)) (((two bc.2).add bd.2).mono (by decide)) (by
     have:=mixw 8 4 (by decide) (by decide) (by decide)
     rw[show 4*(2*c.1+d.1)=8*c.1+4*d.1 by grind,show 4*(2*c.2+d.2)=8*c.2+4*d.2 by grind];exact this))
    refine⟨(BL.const (n:=10)).mulOk bd.1,(BL.const (n:=10)).mulOk bd.2,(BL.const (n:=10)).mulOk bs,_,_,4*share,rfl,⟨by omega,((BL.const (i:=4) (n:=10)).mul bs).mono (by decide)⟩,λs2 L3 L4=>⟨dL (by simp;omega),?_⟩⟩
    have k2:=okm _ _ k1 (jL (share:=share) (b:=4*share) (e:=3) (s:=s2) (P:=Mix cs) (by grind) L3 L4 ((bc.1.add (three bd.1)).mono (by decide)) ((bc.2.add (three bd.2)).mono (by decide)) (by
     have:=mixw 3 9 (by decide) (by decide) (by decide)
     rw[show 3*(c.1+3*d.1)=3*c.1+9*d.1 by grind,show 3*(c.2+3*d.2)=3*c.2+9*d.2 by grind];exact this))
    have:=fin _ (some (.d (.int y))) k2 (grow _ (grow _ u2 _) _) (by simp) (by simp;omega)
    simpa [spl] using this
   ·rw[if_neg hy]
    exact fin vs _ u1 u2 u3 (by omega)
  ·rintro ρ ⟨i,ws,x,y,z,u,⟨hi,ex⟩,⟨w1,w2,w3,w4⟩,rfl⟩
   have:cs.length-i=0:=by
    cases h:cs.length-i with
    | zero=>rfl
    | succ r=>rw[h,K12.rangeD_succ] at ex;cases ex
   have e:i=cs.length:=by omega
   subst e
   rw[List.take_length] at w2
   exact hK _ ⟨ws,x,y,z,u,⟨w1,w2,by omega,w4 (by omega)⟩,rfl⟩
 rintro ρ ⟨ws,x,y,z,u,⟨w1,w2,w3,w4⟩,rfl⟩
 refine aO (λρ=>∃(ws:List (Sp × Pt)),((∀w∈ws,iK (12*share) (Mix cs) w)/\(∀c∈cs,∃w∈ws,w.2=scl 12 c)/\ws.length<=73)/\ρ=[some (.d HD),some (.d (pts cs)),some (.d (.int share)),some (.own (spl ws)),some (.d (.int j)),x,y,z,u]) (λK hK=>?_) ?_
 ·rw[<-hH] at hK ⊢
  walk_at "rd"
  walk_at "sides"
  split
  ·cases ws with
   | nil=>exact absurd rfl w4
   | cons w ws =>
    simp only[List.map_cons]
    refine dZ (KG _ _) ⟨dL (by simp at w3 ⊢;omega),hK _ ⟨(w::ws)++[w],⟨λa ha=>?_,λc hc=>?_,by simp at w3 ⊢;omega⟩,by simp[spl]⟩⟩
    ·rcases List.mem_append.mp ha with ha | ha
     ·exact w1 a ha
     ·rw[List.mem_singleton.mp ha];exact w1 w (by simp)
    ·obtain⟨a,ha,e⟩:=w2 c hc
     exact⟨a,List.mem_append_left _ ha,e⟩
  ·exact hK _ ⟨ws,⟨w1,w2,by omega⟩,rfl⟩
 rintro ρ ⟨ws,⟨w1,w2,w3⟩,rfl⟩
 walk_at "rd"
 simp only[S.fz]
 exact q ws (λw hw=>⟨(w1 w hw).1,(w1 w hw).2.1,(w1 w hw).2.2.1,mix (w1 w hw).2.2.2⟩) (λc hc=>w2 c ((mcs c).mpr hc)) w3
noncomputable def OnL (a d z:Pt):Prop:=∃t:Int,z=(12*(a.1+t*(d.1-a.1)),12*(a.2+t*(d.2-a.2)))
noncomputable def gN:FD:=λds Q=>∃(hd:List Int) (a d:Pt) (r:List Pt) (share:Int),ds=[il hd,pts (a::d::r),.int share]/\(hd.length=12/\0<share/\BL 100 share)/\(r.length<=22/\jX 300 (a::d::r)) /\
 ∀ws:List (Sp × Pt),(∀w∈ws,iK (12*share) (OnL a d) w)->ws.length<=24->Q (.lst (spl ws))
theorem tS:∀ds Q,gN ds Q->ds.length=3:=by rintro ds Q ⟨_,_,_,_,_,rfl,_⟩;rfl
theorem mG:∀ds Q,gN ds Q->cV lI pD { nx:=λ_=>Q .non,rt:=Q } (aQ ["_law_head","_law_ring_here","_law_share_here","_law_found","_law_k","_law_by","_law_x","_law_y"] ds):=by
 rintro ds Q ⟨hd,a,d,r,share,rfl,⟨hh,hs,bs⟩,⟨hr,sm⟩,q⟩
 obtain⟨a0,a1,a2,a3,a4,a5,a6,a7,a8,a9,a10,a11,rfl⟩:=xY hh
 rw[aW 5 rfl]
 unfold cV
 simp only[dS,NP,List.map_cons,List.map_nil,List.cons_append,List.nil_append]
 have ba:=sm a (by simp)
 have bd:=sm d (by simp)
 refine aO (λρ=>ρ=[some (.d (il [a0,a1,a2,a3,a4,a5,a6,a7,a8,a9,a10,a11])),some (.d (pts (a::d::r))),some (.d (.int share)),some (.own []),none,none,none,none]) (λK hK=>?_) ?_
 ·walk_at "rd"
  exact hK _ rfl
 rintro ρ rfl
 refine aO (λρ=>∃(ws:List (Sp × Pt)) (x y z u:Option S),((∀w∈ws,iK (12*share) (OnL a d) w)/\ws.length<=24)/\ρ=[some (.d (il [a0,a1,a2,a3,a4,a5,a6,a7,a8,a9,a10,a11])),some (.d (pts (a::d::r))),some (.d (.int share)),some (.own (spl ws)),x,y,z,u]) (λK hK=>?_) ?_
 ·walk_at "rd"
  refine⟨⟨by omega,by simp;omega⟩,?_⟩
  refine cT (λxs ρ=>(∀x∈xs,∃j:Int,x = .int j/\0<=j/\j<=1000)/\∃(ws:List (Sp × Pt)) (x y z u:Option S),((∀w∈ws,iK (12*share) (OnL a d) w)/\ws.length+xs.length<=24)/\ρ=[some (.d (il [a0,a1,a2,a3,a4,a5,a6,a7,a8,a9,a10,a11])),some (.d (pts (a::d::r))),some (.d (.int share)),some (.own (spl ws)),x,y,z,u]) ?_ ?_ _ _ ⟨λx hx=>?_,[],none,none,none,none,⟨by simp,by rw[lF];simp;omega⟩,rfl⟩
  ·rintro x xs ρ ⟨hx,ws,o1,o2,o3,o4,⟨w1,w2⟩,rfl⟩ F _ _ hn _
   obtain⟨j,rfl,j0,j1⟩:=hx x List.mem_cons_self
   unfold eP
   walk_at "rd"
   refine⟨a10,7,j,rfl,⟨by decide,(BL.const (n:=20)).mono (by decide)⟩,⟨j0,j1⟩,λy y0 y1=>?_⟩
   have bt:BL 10 (y-3):=BL.of_lt (by omega) (by omega)
   simp only[pts]
   walk_at "rd"
   refine⟨bt.mulOk (bd.1.sub ba.1),bt.mulOk (bd.2.sub ba.2),_,_,share,rfl,⟨hs,bs.mono (by decide)⟩,λs L1 L2=>⟨dL (by simp at w2 ⊢;omega),hn _ ⟨λx h=>hx x (List.mem_cons_of_mem _ h),ws++[(s,(12*(a.1+(y-3)*(d.1-a.1)),12*(a.2+(y-3)*(d.2-a.2))))],some (.d (.int j)),some (.d (.int (y-3))),some (.d (.int (a.1+(y-3)*(d.1-a.1)))),some (.d (.int (a.2+(y-3)*(d.2-a.2)))),⟨λw hw=>?_,by simp at w2 ⊢;omega⟩,by simp[spl]⟩⟩⟩
   rcases List.mem_append.mp hw with hw | hw
   ·exact w1 w hw
   ·rw[List.mem_singleton.mp hw]
    exact jL (by grind) L1 L2 ((ba.1.add (bt.mul (bd.1.sub ba.1))).mono (by decide)) ((ba.2.add (bt.mul (bd.2.sub ba.2))).mono (by decide)) ⟨y-3,rfl⟩
  ·rintro ρ ⟨_,ws,x,y,z,u,⟨w1,w2⟩,rfl⟩
   exact hK _ ⟨ws,x,y,z,u,⟨w1,by simpa using w2⟩,rfl⟩
  ·obtain⟨j,rfl,j0,j1⟩:=kZ hx
   exact⟨j,rfl,j0,by simp at j1;omega⟩
 rintro ρ ⟨ws,x,y,z,u,⟨w1,w2⟩,rfl⟩
 walk_at "rd"
 simp only[S.fz]
 exact q ws w1 w2
noncomputable def lK:FD:=λds Q=>∃x:D,ds=[x,x]/\(x = .non\/∃(sh:Int) (zs:List Pt),x=pce sh zs/\zs.length<=200)/\Q (.bl true)
theorem BZ:∀ds Q,lK ds Q->ds.length=2:=by rintro ds Q ⟨_,rfl,_⟩;rfl
theorem oO:∀ds Q,lK ds Q->eV lO { nx:=λ_=>Q .non,rt:=Q } (aQ ["_law_found","_law_due_here","_law_corner"] ds):=by
 rintro ds Q ⟨x,rfl,hx,q⟩
 rw[aW 1 rfl]
 unfold eV
 simp only[dS,NO,List.map_cons,List.map_nil,List.cons_append,List.nil_append]
 rcases hx with rfl | ⟨sh,zs,rfl,hl⟩
 ·walk_at "rd"
  exact q
 refine aO (λρ=>ρ=[some (.d (pce sh zs)),some (.d (pce sh zs)),none]) (λK hK=>?_) ?_
 ·walk_at "rd"
  exact hK _ rfl
 rintro ρ rfl
 refine aO (λρ=>ρ=[some (.d (pce sh zs)),some (.d (pce sh zs)),none]) (λK hK=>?_) ?_
 ·walk_at "rd"
  rw[LN 2]
  exact⟨sh,rfl,hK _ rfl⟩
 rintro ρ rfl
 refine aO (λρ=>True) (λK hK=>?_) ?_
 ·walk_at "rd"
  refine cT (λxs ρ=>∃(rest:List Pt) (x:Option S),xs=rest.map pt/\ρ=[some (.d (pce sh zs)),some (.d (pce sh zs)),x]) ?_ ?_ _ _ ⟨zs,none,rfl,rfl⟩
  ·rintro x xs ρ ⟨rest,u,ex,rfl⟩ F _ _ hn _
   cases rest with
   | nil=>cases ex
   | cons z rest =>
    cases ex
    unfold iG
    walk_at "rd"
    exact⟨_,rfl,_,rfl,hn _ ⟨rest,_,rfl,rfl⟩⟩
  ·rintro ρ _;exact hK _ trivial
 rintro ρ _
 walk_at "rd"
 exact q
namespace K11
theorem LM (n:Nat) (p q:Int):eqF (n+2) (fr p q) (fr p q)=some true:=zW n (p,q)
theorem ID (n:Nat) (s:Sp):eqF (n+3) (spt s) (spt s)=some true:=by
 show eqL (eqF (n+2)) _ _=_
 refine gB _ λx hx=>?_
 simp only[List.mem_cons,List.not_mem_nil,or_false] at hx
 rcases hx with rfl | rfl <;> exact LM n _ _
theorem IE (n:Nat) (ws:List (Sp × Pt)):eqL (eqF (n+3)) (spl ws) (spl ws)=some true:=by
 refine gB _ λx hx=>?_
 obtain⟨w,_,rfl⟩:=List.mem_map.mp hx
 exact ID n _
theorem HI (x y a b:Pt) (u v:Int) (h:u+v=12):aH (scl 12 x) (scl 12 y) (u*a.1+v*b.1,u*a.2+v*b.2)=12*(u*aH x y a+v*aH x y b):=by
 have hv:v=12-u:=by omega
 subst hv
 unfold aH scl;dsimp only;grind
theorem KC (a d:Pt) {x y z:Pt} (hx:OnL a d x) (hy:OnL a d y) (hz:OnL a d z):aH x y z=0:=by
 obtain⟨t,rfl⟩:=hx
 obtain⟨u,rfl⟩:=hy
 obtain⟨v,rfl⟩:=hz
 unfold aH;dsimp only;grind
theorem HK {l:List Pt} (h:l.length<=2):∀a b c,a∈l->b∈l->c∈l->aH a b c=0:=by
 have t3:∀a b:Pt,aH a a b=0:=λa b=>by unfold aH;grind
 match l,h with
 | [],_=>intro a b c ha;cases ha
 | [x],_ =>
  intro a b c ha hb hc
  rw[List.mem_singleton] at ha hb hc
  subst ha hb hc;exact t3 _ _
 | [x,y],_ =>
  intro a b c ha hb hc
  simp only[List.mem_cons,List.not_mem_nil,or_false] at ha hb hc
  rcases ha with rfl | rfl <;> rcases hb with rfl | rfl <;> rcases hc with rfl | rfl <;> first | exact t3 _ _ | exact HG _ _ | exact HH _ _
theorem HX {f:Pt->Pt} {R:List Pt} {a b:Pt} (h:Cyc (R.map f) a b):∃x y,Cyc R x y/\a=f x/\b=f y:=by
 unfold Cyc at h
 rw[<-List.map_take,<-List.map_append] at h
 exact AK h
theorem vL {c:Int} (hc:0<c) {ws:List (Sp × Pt)} {f:Sp × Pt->Pt} (hf:∀w∈ws,w.2=scl c (f w)) (h:∀a b d,a∈ws->b∈ws->d∈ws->aH a.2 b.2 d.2=0):DK (ws.map f):=by
 refine IF λa b d ha hb hd=>?_
 obtain⟨a,ma,rfl⟩:=List.mem_map.mp ha
 obtain⟨b,mb,rfl⟩:=List.mem_map.mp hb
 obtain⟨d,md,rfl⟩:=List.mem_map.mp hd
 have:=h a b d ma mb md
 rw[hf a ma,hf b mb,hf d md,mM] at this
 rcases Int.mul_eq_zero.mp this with z | z
 ·rcases Int.mul_eq_zero.mp z with z | z <;> omega
 ·exact z
theorem JR {share c M:Int} {cs:List Pt} {m sh:Int} {zs:List Pt} {j:Nat} (hD:DueOf share cs m sh zs j) (cv:Cvx cs) (hc:0<c) (hN:12*share=c*M) {ws:List (Sp × Pt)} {f:Sp × Pt->Pt} (hf:∀w∈ws,w.2=scl c (f w)) (hm:∀w∈ws,Mix cs w.2) (hcov:∀e∈cs,∃w∈ws,w.2=scl 12 e) :
  ∃z T,RingIn (ws.map f) z T/\∀m' sh' zs',NormOf M (z::T) m' sh' zs'->sh'=sh/\zs'=turned j zs:=by
 obtain⟨w0,T0,eR,least⟩:=hD.first
 have memR:∀x,x∈turned j cs↔x∈cs:=λx=>((fK j cs).mem x).symm
 have cvR:Cvx (turned j cs):=cv.rot (fK j cs)
 have hN':=hD.norm
 obtain⟨g,hg⟩:∃g:Pt->Pt,g=λe=>(12*e.1 / c,12*e.2 / c):=⟨_,rfl⟩
 have gw:∀e∈cs,∃w∈ws,g e=f w/\scl c (g e)=scl 12 e:=λe he=>by
  obtain⟨w,hw,ew⟩:=hcov e he
  have e2:=(hf w hw).symm.trans ew
  have e3:g e=f w:=by
   have a1:=congrArg Prod.fst e2
   have a2:=congrArg Prod.snd e2
   dsimp only[scl] at a1 a2
   rw[hg]
   refine Prod.ext ?_ ?_
   ·show 12*e.1 / c=_;rw[<-a1,Int.mul_ediv_cancel_left _ (by omega)]
   ·show 12*e.2 / c=_;rw[<-a2,Int.mul_ediv_cancel_left _ (by omega)]
  exact⟨w,hw,e3,by rw[e3];exact e2⟩
 have gs:(turned j cs).map (λe=>scl c (g e))=(turned j cs).map (scl 12):=List.map_congr_left λe he=>by
  obtain⟨_,_,_,h⟩:=gw e ((memR e).mp he)
  exact h
 have cvG:Cvx ((turned j cs).map g):=by
  refine Cvx.unscl hc ?_
  rw[List.map_map]
  show Cvx ((turned j cs).map λe=>scl c (g e))
  rw[gs]
  exact cvR.map (k:=12*12) (by decide) (λa b d=>mM 12 a b d) λa b h=>uF (by decide) h
 have lt12:∀x∈cs,∀y∈cs,ltP (g x) (g y)↔ltP x y:=λx hx y hy=>by
  obtain⟨_,_,_,h1⟩:=gw x hx
  obtain⟨_,_,_,h2⟩:=gw y hy
  rw[<-yM hc,h1,h2,yM (by decide:(0:Int)<12)]
 have w0m:w0∈cs:=(memR w0).mp (by rw[eR];simp)
 refine⟨g w0,T0.map g,⟨?_,λq hq=>?_,λq hq=>?_,λa b hab q hq=>?_⟩,λm' sh' zs' h=>?_⟩
 ·have:=cvG;rw[eR] at this;exact this
 ·obtain⟨y,hy,rfl⟩:=List.mem_map.mp hq
  rw[lt12 y ((memR y).mp (by rw[eR];simp[hy])) w0 w0m]
  exact least y hy
 ·have hq':q∈(turned j cs).map g:=by rw[eR];exact hq
  obtain⟨y,hy,rfl⟩:=List.mem_map.mp hq'
  obtain⟨w,hw,e1,_⟩:=gw y ((memR y).mp hy)
  rw[e1];exact List.mem_map_of_mem hw
 ·have hab':Cyc ((turned j cs).map g) a b:=by rw[eR];exact hab
  obtain⟨x,y,hxy,rfl,rfl⟩:=HX hab'
  obtain⟨w,hw,rfl⟩:=List.mem_map.mp hq
  have mx:=(memR x).mp hxy.mem.1
  have my:=(memR y).mp hxy.mem.2
  obtain⟨_,_,_,e1⟩:=gw x mx
  obtain⟨_,_,_,e2⟩:=gw y my
  obtain⟨p,hp,r,hr,u,v,u0,v0,uv,ez⟩:=hm w hw
  have k1:=cvR.side hxy ((memR p).mpr hp)
  have k2:=cvR.side hxy ((memR r).mpr hr)
  have k3:0<=c*c*aH (g x) (g y) (f w):=by
   rw[<-mM,e1,e2,<-hf w hw,ez,HI x y p r u v uv]
   exact Int.mul_nonneg (by decide) (Int.add_nonneg (Int.mul_nonneg u0 k1) (Int.mul_nonneg v0 k2))
  exact Int.nonneg_of_mul_nonneg_right k3 (Int.mul_pos hc hc)
 ·have h2:NormOf M ((turned j cs).map g) m' sh' zs':=by rw[eR];exact h
  exact h2.same hN' hc (by decide:(0:Int)<12) (by rw[<-hN]) (by rw[List.map_map];exact gs)
end K11
namespace K11
theorem BK (xs:List D) (j:Nat):lU xs none (some (j:Int))=xs.take j:=by
 unfold lU
 rw[HT.sIx_none,HT.sIx_nat,List.drop_zero,Nat.sub_zero]
 by_cases h:j<=xs.length
 ·rw[Nat.min_eq_left h]
 ·rw[Nat.min_eq_right (by omega),List.take_length,List.take_of_length_le (by omega)]
noncomputable def KW (share:Int) (cs:List Pt) (ws:List (Sp × Pt)) (due:D):Prop:=(∀w∈ws,InN (12*share) w.1 w.2/\BL 1000 w.1.1/\BL 1000 w.1.2.2.1)/\ws.length<76 /\
 ((∃m sh zs j,DueOf share cs m sh zs j/\due=pce sh (turned j zs)/\zs.length<=24/\(∀w∈ws,Mix cs w.2)/\∀e∈cs,∃w∈ws,w.2=scl 12 e)\/(due = .non/\∀a b d,a∈ws->b∈ws->d∈ws->aH a.2 b.2 d.2=0))
theorem pure_law:∀ds Q,xC 63 ds Q->hV uI fX pC lK lM oR gN oP { nx:=λ_=>Q .non,rt:=Q } (aQ ["_law_script","_law_head","_law_ring_here","_law_share_here","_law_spots_here","_law_due_here","_law_handed"] ds):=by
 rintro ds Q ⟨ns,rfl,hn,Qt⟩
 rw[aW 6 rfl]
 unfold hV
 simp only[dS,NQ,List.map_cons,List.map_nil,List.cons_append,List.nil_append]
 refine aO (λρ=>∃hd:List Int,hd.length=12/\ρ=[some (.d (il ns)),some (.d (il hd)),none,none,none,none,none]) (λK hK=>?_) ?_
 ·walk_at "rd"
  exact⟨ns,12,rfl,⟨by omega,by decide,by decide⟩,λxs hx=>hK _ ⟨xs,hx.len,rfl⟩⟩
 rintro ρ ⟨hd,hh,rfl⟩
 obtain⟨a0,a1,a2,a3,a4,a5,a6,a7,a8,a9,a10,a11,rfl⟩:=xY hh
 generalize hH:il [a0,a1,a2,a3,a4,a5,a6,a7,a8,a9,a10,a11]=HD
 refine aO (λρ=>∃cs:List Pt,Cvx cs/\jX 300 cs/\(3<=cs.length/\cs.length<=24)/\ρ=[some (.d (il ns)),some (.d HD),some (.d (pts cs)),none,none,none,none]) (λK hK=>?_) ?_
 ·rw[<-hH] at hK ⊢
  walk_at "rd"
  walk_at "sides"
  obtain⟨m0,m1⟩:=aT (a:=a7) (b:=2) (by decide)
  refine jO m0 (by simpa using m1) λx hx=>?_
  obtain⟨far,rfl,f0,f1⟩:=FK hx
  exact⟨_,_,_,_,_,_,_,_,far,rfl,⟨f0,f1⟩,λlows highs top p q r s ox oy R=>hK _ ⟨_,yL R,λz hz=>⟨(R.small z hz).1.mono (by decide),(R.small z hz).2.mono (by decide)⟩,R.len,rfl⟩⟩
 rintro ρ ⟨cs,cv,csS,⟨c3,c24⟩,rfl⟩
 refine aO (λρ=>∃share:Int,(0<share/\BL 100 share/\share<=1000000000)/\ρ=[some (.d (il ns)),some (.d HD),some (.d (pts cs)),some (.d (.int share)),none,none,none]) (λK hK=>?_) ?_
 ·rw[<-hH] at hK ⊢
  walk_at "rd"
  walk_at "sides"
  exact⟨_,rfl,λshare s0 s1=>hK _ ⟨share,⟨by omega,qK s0 s1,s1⟩,rfl⟩⟩
 rintro ρ ⟨share,⟨hs,bs,hs1⟩,rfl⟩
 refine aO (λρ=>∃ws:List (Sp × Pt),((∀w∈ws,iK (12*share) (Mix cs) w)/\(∀e∈cs,∃w∈ws,w.2=scl 12 e)/\ws.length<=73)/\ρ=[some (.d (il ns)),some (.d HD),some (.d (pts cs)),some (.d (.int share)),some (.d (.lst (spl ws))),none,none]) (λK hK=>?_) ?_
 ·rw[<-hH] at hK ⊢
  walk_at "rd"
  exact⟨_,cs,share,rfl,⟨rfl,hs,bs⟩,⟨c3,c24,csS⟩,λws h1 h2 h3=>hK _ ⟨ws,⟨h1,h2,h3⟩,rfl⟩⟩
 rintro ρ ⟨ws,⟨w1,w2,w3⟩,rfl⟩
 refine aO (λρ=>∃due:D,KW share cs ws due/\ρ=[some (.d (il ns)),some (.d HD),some (.d (pts cs)),some (.d (.int share)),some (.d (.lst (spl ws))),some (.d due),none]) (λK hK=>?_) ?_
 ·walk_at "rd"
  refine⟨share,cs,rfl,⟨hs,bs⟩,⟨by rintro rfl;simp at c3,by omega⟩,λm sh zs j hD=>hK _ ⟨_,⟨λw hw=>⟨(w1 w hw).1,(w1 w hw).2.1,(w1 w hw).2.2.1⟩,by omega,.inl ⟨m,sh,zs,j,hD,rfl,?_,λw hw=>(w1 w hw).2.2.2,w2⟩⟩,rfl⟩⟩
  have:=congrArg List.length hD.cs_eq
  rw[List.length_map] at this
  omega
 rintro ρ ⟨due,hC,rfl⟩
 refine aO (λρ=>∃(ws:List (Sp × Pt)) (due:D),KW share cs ws due/\ρ=[some (.d (il ns)),some (.d HD),some (.d (pts cs)),some (.d (.int share)),some (.d (.lst (spl ws))),some (.d due),none]) (λK hK=>?_) ?_
 ·rw[<-hH] at hK ⊢
  walk_at "rd"
  walk_at "sides"
  split
  ·match cs,c3,hK with
   | a::d::r,c3,hK =>
    refine⟨_,a,d,r,share,rfl,⟨rfl,hs,bs⟩,⟨by simp at c24;omega,csS⟩,λvs h1 h2=>hK _ ⟨vs,.non,⟨λw hw=>⟨(h1 w hw).1,(h1 w hw).2.1,(h1 w hw).2.2.1⟩,by omega,.inr ⟨rfl,λx y z hx hy hz=>KC a d (h1 x hx).2.2.2 (h1 y hy).2.2.2 (h1 z hz).2.2.2⟩⟩,rfl⟩⟩
  ·exact hK _ ⟨ws,due,hC,rfl⟩
 rintro ρ ⟨ws,due,hC,rfl⟩
 refine aO (λρ=>∃(ws:List (Sp × Pt)) (due:D),KW share cs ws due/\ρ=[some (.d (il ns)),some (.d HD),some (.d (pts cs)),some (.d (.int share)),some (.d (.lst (spl ws))),some (.d due),none]) (λK hK=>?_) ?_
 ·rw[<-hH] at hK ⊢
  walk_at "rd"
  walk_at "sides"
  split
  ·refine dZ (x:=.int a11) rfl ?_
   walk_at "sides"
   obtain⟨m0,m1⟩:=aT (a:=a11.fdiv 5) (b:=3) (by decide)
   generalize hk:(a11.fdiv 5).fmod 3=k at *
   obtain⟨n,rfl⟩:∃n:Nat,k=n:=⟨k.toNat,by omega⟩
   have e:lU (spl ws) none (some (n:Int))=spl (ws.take n):=by rw[BK,<-List.map_take]
   simp only[e]
   refine hK _ ⟨ws.take n,.non,⟨λw hw=>hC.1 w (List.mem_of_mem_take hw),by have:=hC.2.1;simp;omega,.inr ⟨rfl,λx y z hx hy hz=>?_⟩⟩,rfl⟩
   exact HK (l:=(ws.take n).map (·.2)) (by simp;omega) _ _ _ (List.mem_map_of_mem hx) (List.mem_map_of_mem hy) (List.mem_map_of_mem hz)
  ·exact hK _ ⟨ws,due,hC,rfl⟩
 rintro ρ ⟨ws,due,hC,rfl⟩
 obtain⟨k1,k2,k3⟩:=hC
 refine aO (λρ=>ρ=[some (.d (il ns)),some (.d HD),some (.d (pts cs)),some (.d (.int share)),some (.d (.lst (spl ws))),some (.d due),some (.d (.lst (spl ws)))]) (λK hK=>?_) ?_
 ·walk_at "rd"
  exact hK _ rfl
 rintro ρ rfl
 have last:∀x:D,x=due->(x = .non\/∃(sh:Int) (zs:List Pt),x=pce sh zs/\zs.length<=200)->lK [x,due] λd=>match d with
   | .bl k=>if k=true then dEq (.lst (spl ws)) (.lst (spl ws)) Q else Q (.bl false)
   | _=>False:=λx hx h=>by
  subst hx
  refine⟨x,rfl,h,?_⟩
  simp only[if_true]
  rw[EL]
  have e:eqF 6 (.lst (spl ws)) (.lst (spl ws))=some true:=IE 2 ws
  rw[e]
  exact Qt
 walk_at "rd"
 have e100:(20000000000:Int)<((2 ^ 100:Nat):Int):=by decide
 refine⟨ws,12*share,rfl,⟨by omega,BL.of_lt (by omega) (by omega)⟩,k2,k1,λc M f hc hM hN hf=>?_⟩
 rcases k3 with ⟨m,sh,zs,j,hD,rfl,hz,hm,hcov⟩ | ⟨rfl,hfl⟩
 ·obtain⟨z,T,hR,hq⟩:=JR hD cv hc hN hf hm hcov
  refine .inl ⟨z,T,hR,λm' sh' zs' h=>?_⟩
  obtain⟨rfl,rfl⟩:=hq m' sh' zs' h
  exact last _ rfl (.inr ⟨_,_,rfl,by simp;omega⟩)
 ·exact .inr ⟨vL hc hf hfl,last .non rfl (.inl rfl)⟩
end K11
namespace K11
set_option maxHeartbeats 4000000
noncomputable def top (i:Nat):Stmt:=PySem.Challenge.pw_recut_k11_a_piece_of_spots.main.body.getD i (.Pass ⟨0,0,0,0⟩)
noncomputable abbrev s__law_divisor:Stmt:=top 13
noncomputable abbrev s__law_due:Stmt:=top 19
noncomputable abbrev s__law_numbers:Stmt:=top 12
noncomputable abbrev s__law_rises:Stmt:=top 15
noncomputable abbrev s__law_ring:Stmt:=top 16
noncomputable abbrev s__law_whole:Stmt:=top 11
noncomputable abbrev s__law_same:Stmt:=top 22
noncomputable abbrev s__law_share:Stmt:=top 17
noncomputable abbrev s__law_digit:Stmt:=top 10
noncomputable abbrev s__law_fraction:Stmt:=top 14
noncomputable abbrev s__law_spot:Stmt:=top 18
noncomputable abbrev s__law_spots:Stmt:=top 20
noncomputable abbrev s__law_straight:Stmt:=top 21
noncomputable abbrev s_turn:Stmt:=top 4
noncomputable abbrev s_half_round:Stmt:=top 5
noncomputable abbrev s_outline:Stmt:=top 6
noncomputable abbrev s_shared_divisor:Stmt:=top 1
noncomputable abbrev s_settled:Stmt:=top 7
noncomputable abbrev s_shared_multiple:Stmt:=top 2
noncomputable abbrev s_piece_of:Stmt:=top 8
noncomputable abbrev s_law:Stmt:=top 23
section
variable {P:Program} {w:World} {K:PySem.W.Frag} {mg:Str->Option Value} {base:Heap}
theorem iH:FnScope ["_law_one","_law_other"] ["_law_one","_law_other"] (aE s__law_divisor):=⟨rfl,rfl,rfl,by decide +kernel,rfl,by decide +kernel,by decide +kernel⟩
theorem oB {f:Addr} {cdv:Value} {A:Around} {outer:List Env} {s:Shared} {H:Hp} {E:XK} (m_abs:mg "abs" = none) (hr:Room 0 (A.deeper (envOfC "_law_divisor" (aE s__law_divisor) s.heap.objs.size f cdv))) :
  DSs (dM CX0 P w K mg base ["_law_one","_law_other"] "_law_divisor" (aE s__law_divisor) f cdv A outer s H E).nox (aM s__law_divisor) (cY) :=
 have nd:=iH.nd
 aF (aS nd (fD tH m_abs jN (aC (dv 0) (aJ))))
 (aF (aS nd (fD tH m_abs jN (aC (dv 1) (aJ))))
 (aF (pM PassesOwn.never (dC GD (dvb 1) (DE.bor (aB))) (aN (LI rfl nd (aC (dv 1) (aC (aG bH (dvb 0) (dvb 1)) (aJ))))))
 (aN (bR (dv 0)))))
theorem oJ (Z:DefAt K mg "_law_divisor" s__law_divisor ["_law_one","_law_other"]) (m_abs:mg "abs" = none) {F:FD} (len:∀ds Q,F ds Q->ds.length=2) (pure:∀ds Q,F ds Q->cY { nx:=λ_=>Q .non,rt:=Q } (aQ ["_law_one","_law_other"] ds)):FnAt P w K mg base "_law_divisor" ["_law_one","_law_other"] 1 F :=
 Z.ok iH (λcdv A outer s H E hr=>oB m_abs hr) len pure
theorem nZ:FnScope ["_law_share_here","_law_ring_here","_law_most","_law_x","_law_y","_law_corners","_law_at"] ["_law_share_here","_law_ring_here"] (aE s__law_due):=⟨rfl,rfl,rfl,by decide +kernel,rfl,by decide +kernel,by decide +kernel⟩
theorem iZ:List.Nodup (["_law_x","_law_y","_law_most"]:List Str):=by decide +kernel
theorem uM {f:Addr} {cdv:Value} {A:Around} {outer:List Env} {s:Shared} {H:Hp} {E:XK} {SX:FD} (TD:FnAt P w K mg base "_law_divisor" ["_law_one","_law_other"] 1 SX) (m_tuple:mg "tuple" = none) (m_min:mg "min" = none) (hr:Room 1 (A.deeper (envOfC "_law_due" (aE s__law_due) s.heap.objs.size f cdv))) :
  DSs (dM CX0 P w K mg base ["_law_share_here","_law_ring_here","_law_most","_law_x","_law_y","_law_corners","_law_at"] "_law_due" (aE s__law_due) f cdv A outer s H E).nox (aM s__law_due) (fM SX) :=
 have nd:=nZ.nd
 aF (aS nd (dv 0))
 (aF (fQ PassesOwn.never rfl (eA (dv 1)) (kQ rfl (bY (bA nd) (bY (bA nd) (gQ)))) (aN (aS nd (aP TD (hr.mono (by decide)) (aC (aP TD (hr.mono (by decide)) (aC (dv 2) (aC (dv 3) (aJ)))) (aC (dv 4) (aJ)))))))
 (aF (zT ["_law_x","_law_y","_law_most"] 2 [2] nd (eA (dv 1)) (λcl C s H fp=>kQ rfl (bY (bA iZ) (bY (bA iZ) (gQ)))) (λcl C s H fp=>fE (aC (aG bC (dvb 0) (dvb 2)) (aC (aG bC (dvb 1) (dvb 2)) (aJ)))))
 (aF (aS nd (FF hr (dvb 5) (IA hr m_min rfl (dvb 5))))
 (aN (bR (fE (aC (aG bC (dvb 0) (dvb 2)) (aC (vB m_tuple (DE.bor (aG mC (DE.bor (gA (dvb 5) (jR (dv 6)) (jQ))) (DE.bor (gA (dvb 5) (jQ) (jR (dv 6))))))) (aJ)))))))))
theorem wA (Z:DefAt K mg "_law_due" s__law_due ["_law_share_here","_law_ring_here"]) {SX:FD} (TD:FnAt P w K mg base "_law_divisor" ["_law_one","_law_other"] 1 SX) (m_tuple:mg "tuple" = none) (m_min:mg "min" = none) {F:FD} (len:∀ds Q,F ds Q->ds.length=2) (pure:∀ds Q,F ds Q->fM SX { nx:=λ_=>Q .non,rt:=Q } (aQ ["_law_share_here","_law_ring_here","_law_most","_law_x","_law_y","_law_corners","_law_at"] ds)):FnAt P w K mg base "_law_due" ["_law_share_here","_law_ring_here"] 2 F :=
 Z.ok nZ (λcdv A outer s H E hr=>uM TD m_tuple m_min hr) len pure
theorem iJ:FnScope ["_law_script","_law_many","_law_found","_law_k","_law_cell","_law_at"] ["_law_script","_law_many"] (aE s__law_numbers):=⟨rfl,rfl,rfl,by decide +kernel,rfl,by decide +kernel,by decide +kernel⟩
theorem lA:List.Nodup (["_law_k"]:List Str):=by decide +kernel
theorem oC {f:Addr} {cdv:Value} {A:Around} {outer:List Env} {s:Shared} {H:Hp} {E:XK} (m_len:mg "len" = none) (m_min:mg "min" = none) (m_max:mg "max" = none) (m_range:mg "range" = none) (hr:Room 0 (A.deeper (envOfC "_law_numbers" (aE s__law_numbers) s.heap.objs.size f cdv))) :
  DSs (dM CX0 P w K mg base ["_law_script","_law_many","_law_found","_law_k","_law_cell","_law_at"] "_law_numbers" (aE s__law_numbers) f cdv A outer s H E).nox (aM s__law_numbers) (cZ) :=
 have nd:=iJ.nd
 aF (zT ["_law_k"] 1 [] nd (eY m_range (aC (dv 1) (aJ))) (λcl C s H fp=>bA lA) (λcl C s H fp=>aB))
 (aF (fQ PassesOwn.never rfl (eY m_range (aC (fD (HV rfl) m_max BC (aC (dv 1) (aC (fD (zJ rfl) m_min rZ (aC (gP m_len (dvb 0)) (aC (aB) (aJ)))) (aJ)))) (aJ))) (bA nd) (aF (aS nd (aB))
 (aF (iT (dC GD (DE.bor (gP m_len (dvb 0))) (DE.bor (aB))) (aN (aS nd (aG bH (DE.bor (aL (dvb 0) (DE.bor (aG bH (dvb 3) (DE.bor (fD (zJ rfl) m_min rZ (aC (gP m_len (dvb 0)) (aC (aB) (aJ))))))))) (DE.bor (aG aZ (DE.bor (aG tX (DE.bor (aB)) (DE.bor (aB)))) (DE.bor (aB))))))) (dO))
 (aF (aS nd (aG bH (dvb 3) (dvb 1)))
 (aN (FH 2 (aG bH (DE.bor (aG aZ (DE.bor (aG aZ (DE.bor (aG bO (DE.bor (aL (dvb 2) (dvb 5))) (DE.bor (aB)))) (dvb 4))) (DE.bor (aG bO (dvb 3) (dvb 3))))) (DE.bor (aG aZ (DE.bor (aG tX (DE.bor (aB)) (DE.bor (aB)))) (DE.bor (aB))))) (dv 5)))))))
 (aN (zR 2 (bR (dv 2)))))
theorem oK (Z:DefAt K mg "_law_numbers" s__law_numbers ["_law_script","_law_many"]) (m_len:mg "len" = none) (m_min:mg "min" = none) (m_max:mg "max" = none) (m_range:mg "range" = none) {F:FD} (len:∀ds Q,F ds Q->ds.length=2) (pure:∀ds Q,F ds Q->cZ { nx:=λ_=>Q .non,rt:=Q } (aQ ["_law_script","_law_many","_law_found","_law_k","_law_cell","_law_at"] ds)):FnAt P w K mg base "_law_numbers" ["_law_script","_law_many"] 1 F :=
 Z.ok iJ (λcdv A outer s H E hr=>oC m_len m_min m_max m_range hr) len pure
theorem kH:FnScope ["_law_number","_law_many","_law_found","_law_k"] ["_law_number","_law_many"] (aE s__law_rises):=⟨rfl,rfl,rfl,by decide +kernel,rfl,by decide +kernel,by decide +kernel⟩
theorem qS {f:Addr} {cdv:Value} {A:Around} {outer:List Env} {s:Shared} {H:Hp} {E:XK} (m_range:mg "range" = none) (hr:Room 0 (A.deeper (envOfC "_law_rises" (aE s__law_rises) s.heap.objs.size f cdv))) :
  DSs (dM CX0 P w K mg base ["_law_number","_law_many","_law_found","_law_k"] "_law_rises" (aE s__law_rises) f cdv A outer s H E).nox (aM s__law_rises) (eD) :=
 have nd:=kH.nd
 aF (oU nd (kR (aC (aG dD (DE.bor (aG bH (dvb 0) (DE.bor (aB)))) (DE.bor (aB))) (aJ))))
 (aF (fQ PassesOwn.never rfl (eY m_range (aC (aG dD (dvb 1) (DE.bor (aB))) (aJ))) (bA nd) (aN (cS 2 (aG aZ (DE.bor (aG aZ (DE.bor (aL (dvb 2) (DE.bor (vC qP (DE.bor (aB)))))) (DE.bor (aB)))) (DE.bor (aG bH (DE.bor (aG bC (dvb 0) (DE.bor (aG aZ (DE.bor (aB)) (DE.bor (aG bO (DE.bor (aB)) (dvb 3))))))) (DE.bor (aB))))))))
 (aN (zR 2 (bR (dv 2)))))
theorem rG (Z:DefAt K mg "_law_rises" s__law_rises ["_law_number","_law_many"]) (m_range:mg "range" = none) {F:FD} (len:∀ds Q,F ds Q->ds.length=2) (pure:∀ds Q,F ds Q->eD { nx:=λ_=>Q .non,rt:=Q } (aQ ["_law_number","_law_many","_law_found","_law_k"] ds)):FnAt P w K mg base "_law_rises" ["_law_number","_law_many"] 1 F :=
 Z.ok kH (λcdv A outer s H E hr=>qS m_range hr) len pure
theorem mJ:FnScope ["_law_head","_law_far","_law_lows","_law_highs","_law_top","_law_ring_here","_law_p","_law_q","_law_r","_law_s","_law_off"] ["_law_head","_law_far"] (aE s__law_ring):=⟨rfl,rfl,rfl,by decide +kernel,rfl,by decide +kernel,by decide +kernel⟩
theorem iC:List.Nodup (["_law_x","_law_y","_law_p","_law_q","_law_off","_law_r","_law_s"]:List Str):=by decide +kernel
theorem oG:List.Nodup (["_law_x"]:List Str):=by decide +kernel
theorem oH:List.Nodup (["_law_x","_law_top"]:List Str):=by decide +kernel
theorem oI:List.Nodup (["_law_x"]:List Str):=by decide +kernel
theorem sY {f:Addr} {cdv:Value} {A:Around} {outer:List Env} {s:Shared} {H:Hp} {E:XK} {TR:FD} (UB:FnAt P w K mg base "_law_rises" ["_law_number","_law_many"] 1 TR) (m_reversed:mg "reversed" = none) (m_max:mg "max" = none) (hr:Room 1 (A.deeper (envOfC "_law_ring" (aE s__law_ring) s.heap.objs.size f cdv))) :
  DSs (dM CX0 P w K mg base ["_law_head","_law_far","_law_lows","_law_highs","_law_top","_law_ring_here","_law_p","_law_q","_law_r","_law_s","_law_off"] "_law_ring" (aE s__law_ring) f cdv A outer s H E).nox (aM s__law_ring) (eU TR) :=
 have nd:=mJ.nd
 aF (aS nd (aP UB (hr.mono (by decide)) (aC (aG bC (DE.bor (aL (dvb 0) (DE.bor (aB)))) (DE.bor (aB))) (aC (aL (DE.bor (DO.val (kR (aC (aG aZ (DE.bor (aB)) (DE.bor (aG bH (DE.bor (aL (dvb 0) (DE.bor (aB)))) (DE.bor (aB))))) (aC (aG aZ (DE.bor (aB)) (DE.bor (aG bH (DE.bor (aL (dvb 0) (DE.bor (aB)))) (DE.bor (aB))))) (aJ)))))) (DE.bor (aG bC (DE.bor (aG bH (DE.bor (aG bC (DE.bor (aL (dvb 0) (DE.bor (aB)))) (DE.bor (aB)))) (DE.bor (aB)))) (DE.bor (aB))))) (aJ)))))
 (aF (aS nd (aP UB (hr.mono (by decide)) (aC (aG bC (DE.bor (aL (dvb 0) (DE.bor (aB)))) (DE.bor (aB))) (aC (aG aZ (DE.bor (aB)) (DE.bor (aG bH (DE.bor (aL (dvb 0) (DE.bor (aB)))) (DE.bor (aB))))) (aJ)))))
 (aF (aS nd (aG aZ (DE.bor (aG aZ (DE.bor (aG bO (DE.bor (aB)) (DE.bor (HZ m_max rfl (DE.bor (DO.val (jP ["_law_x"] 1 [] (eA (aG mC (dvb 2) (dvb 3))) (λcl C s H fp=>bA oI) (λcl C s H fp=>aG bO (dvb 0) (dvb 0))))))))) (DE.bor (aB)))) (DE.bor (aG bH (DE.bor (aL (dvb 0) (DE.bor (aB)))) (DE.bor (aB))))))
 (aF (aS nd (aG mC (DE.bor (DO.val (jP ["_law_x"] 1 [] (eA (dv 2)) (λcl C s H fp=>bA oG) (λcl C s H fp=>fE (aC (dv 0) (aC (aG bO (dvb 0) (dvb 0)) (aJ))))))) (DE.bor (DO.val (jP ["_law_x","_law_top"] 1 [4] (LF m_reversed (dv 3)) (λcl C s H fp=>bA oH) (λcl C s H fp=>fE (aC (dv 0) (aC (aG dD (dvb 1) (DE.bor (aG bO (dvb 0) (dvb 0)))) (aJ)))))))))
 (aF (aS nd (aG aZ (DE.bor (aB)) (DE.bor (aG bH (DE.bor (aL (dvb 0) (DE.bor (aB)))) (DE.bor (aB))))))
 (aF (aS nd (aG dD (DE.bor (aG bH (DE.bor (aG bC (DE.bor (aL (dvb 0) (DE.bor (aB)))) (DE.bor (aB)))) (DE.bor (aB)))) (DE.bor (aB))))
 (aF (aS nd (aG dD (DE.bor (aG bH (DE.bor (aL (dvb 0) (DE.bor (aB)))) (DE.bor (aB)))) (DE.bor (aB))))
 (aF (aS nd (aG aZ (DE.bor (aG aZ (DE.bor (aG bC (DE.bor (aG bO (dvb 7) (dvb 8))) (dvb 6))) (DE.bor (aB)))) (DE.bor (aG bH (DE.bor (aG bC (DE.bor (aL (dvb 0) (DE.bor (aB)))) (DE.bor (aB)))) (DE.bor (aB))))))
 (aF (aS nd (fE (aC (aG dD (DE.bor (aG bH (DE.bor (aL (dvb 0) (DE.bor (aB)))) (DE.bor (aG aZ (DE.bor (aG bO (DE.bor (aB)) (dvb 1))) (DE.bor (aB)))))) (dvb 1)) (aC (aG dD (DE.bor (aG bH (DE.bor (aL (dvb 0) (DE.bor (aB)))) (DE.bor (aG aZ (DE.bor (aG bO (DE.bor (aB)) (dvb 1))) (DE.bor (aB)))))) (dvb 1)) (aJ)))))
 (aN (bR (DO.val (jP ["_law_x","_law_y","_law_p","_law_q","_law_off","_law_r","_law_s"] 2 [6,7,10,8,9] (eA (dv 5)) (λcl C s H fp=>kQ rfl (bY (bA iC) (bY (bA iC) (gQ)))) (λcl C s H fp=>fE (aC (aG aZ (DE.bor (aG aZ (DE.bor (aG bO (dvb 2) (dvb 0))) (DE.bor (aG bO (dvb 3) (dvb 1))))) (DE.bor (aL (dvb 4) (DE.bor (aB))))) (aC (aG aZ (DE.bor (aG aZ (DE.bor (aG bO (dvb 5) (dvb 0))) (DE.bor (aG bO (dvb 6) (dvb 1))))) (DE.bor (aL (dvb 4) (DE.bor (aB))))) (aJ))))))))))))))))
theorem tY (Z:DefAt K mg "_law_ring" s__law_ring ["_law_head","_law_far"]) {TR:FD} (UB:FnAt P w K mg base "_law_rises" ["_law_number","_law_many"] 1 TR) (m_reversed:mg "reversed" = none) (m_max:mg "max" = none) {F:FD} (len:∀ds Q,F ds Q->ds.length=2) (pure:∀ds Q,F ds Q->eU TR { nx:=λ_=>Q .non,rt:=Q } (aQ ["_law_head","_law_far","_law_lows","_law_highs","_law_top","_law_ring_here","_law_p","_law_q","_law_r","_law_s","_law_off"] ds)):FnAt P w K mg base "_law_ring" ["_law_head","_law_far"] 2 F :=
 Z.ok mJ (λcdv A outer s H E hr=>sY UB m_reversed m_max hr) len pure
theorem kL:FnScope ["_law_found"] ["_law_found"] (aE s__law_whole):=⟨rfl,rfl,rfl,by decide +kernel,rfl,by decide +kernel,by decide +kernel⟩
theorem qV {f:Addr} {cdv:Value} {A:Around} {outer:List Env} {s:Shared} {H:Hp} {E:XK} (m_isinstance:mg "isinstance" = none) (m_bool:mg "bool" = none) (m_int:mg "int" = none) (hr:Room 0 (A.deeper (envOfC "_law_whole" (aE s__law_whole) s.heap.objs.size f cdv))) :
  DSs (dM CX0 P w K mg base ["_law_found"] "_law_whole" (aE s__law_whole) f cdv A outer s H E).nox (aM s__law_whole) (eF) :=
 have nd:=kL.nd
 aN (bR (xQ (pL (JZ _) m_isinstance m_int BB (dv 0)) (xS (LE (pL (HF _) m_isinstance m_bool xL (dv 0))))))
theorem rK (Z:DefAt K mg "_law_whole" s__law_whole ["_law_found"]) (m_isinstance:mg "isinstance" = none) (m_bool:mg "bool" = none) (m_int:mg "int" = none) {F:FD} (len:∀ds Q,F ds Q->ds.length=1) (pure:∀ds Q,F ds Q->eF { nx:=λ_=>Q .non,rt:=Q } (aQ ["_law_found"] ds)):FnAt P w K mg base "_law_whole" ["_law_found"] 1 F :=
 Z.ok kL (λcdv A outer s H E hr=>qV m_isinstance m_bool m_int hr) len pure
theorem mK:FnScope ["_law_found","_law_due_here","_law_corner"] ["_law_found","_law_due_here"] (aE s__law_same):=⟨rfl,rfl,rfl,by decide +kernel,rfl,by decide +kernel,by decide +kernel⟩
theorem sZ {f:Addr} {cdv:Value} {A:Around} {outer:List Env} {s:Shared} {H:Hp} {E:XK} {TC:FD} (TW:FnAt P w K mg base "_law_whole" ["_law_found"] 1 TC) (m_isinstance:mg "isinstance" = none) (m_tuple:mg "tuple" = none) (hr:Room 1 (A.deeper (envOfC "_law_same" (aE s__law_same) s.heap.objs.size f cdv))) :
  DSs (dM CX0 P w K mg base ["_law_found","_law_due_here","_law_corner"] "_law_same" (aE s__law_same) f cdv A outer s H E).nox (aM s__law_same) (eV TC) :=
 have nd:=mK.nd
 aF (iT (DW.tst (sG (dC tW (dvb 1) (DE.bor (kP))) (xU (dC tW (dvb 0) (DE.bor (kP)))))) (aN (bR (xQ (xR tW (dvb 0) (DE.bor (kP))) (xS (xR tW (dvb 1) (DE.bor (kP))))))) (dO))
 (aF (iT (DW.tst (sG (mW (mX (pL (nP _) m_isinstance m_tuple iQ (dv 0)))) (sG (dC (PC hr) (dvb 0) (dvb 1)) (sG (mW (mX (aP TW (hr.mono (by decide)) (aC (aL (dvb 0) (DE.bor (aB))) (aJ))))) (xU (mW (mX (pL (nP _) m_isinstance m_tuple iQ (aL (dvb 0) (DE.bor (aB))))))))))) (aN (bR (FE))) (dO))
 (aF (fQ PassesOwn.never rfl (LG (aL (dvb 0) (DE.bor (aB)))) (bA nd) (aN (iT (DW.tst (sG (mW (mX (pL (nP _) m_isinstance m_tuple iQ (dv 2)))) (sG (mW (mX (aP TW (hr.mono (by decide)) (aC (aL (dvb 2) (DE.bor (aB))) (aJ))))) (xU (mW (mX (aP TW (hr.mono (by decide)) (aC (aL (dvb 2) (DE.bor (aB))) (aJ))))))))) (aN (bR (FE))) (dO))))
 (aN (bR (FE)))))
theorem tZ (Z:DefAt K mg "_law_same" s__law_same ["_law_found","_law_due_here"]) {TC:FD} (TW:FnAt P w K mg base "_law_whole" ["_law_found"] 1 TC) (m_isinstance:mg "isinstance" = none) (m_tuple:mg "tuple" = none) {F:FD} (len:∀ds Q,F ds Q->ds.length=2) (pure:∀ds Q,F ds Q->eV TC { nx:=λ_=>Q .non,rt:=Q } (aQ ["_law_found","_law_due_here","_law_corner"] ds)):FnAt P w K mg base "_law_same" ["_law_found","_law_due_here"] 2 F :=
 Z.ok mK (λcdv A outer s H E hr=>sZ TW m_isinstance m_tuple hr) len pure
theorem kJ:FnScope ["_law_number"] ["_law_number"] (aE s__law_share):=⟨rfl,rfl,rfl,by decide +kernel,rfl,by decide +kernel,by decide +kernel⟩
theorem qT {f:Addr} {cdv:Value} {A:Around} {outer:List Env} {s:Shared} {H:Hp} {E:XK} (hr:Room 0 (A.deeper (envOfC "_law_share" (aE s__law_share) s.heap.objs.size f cdv))) :
  DSs (dM CX0 P w K mg base ["_law_number"] "_law_share" (aE s__law_share) f cdv A outer s H E).nox (aM s__law_share) (dA) :=
 have nd:=kJ.nd
 aN (bR (aL (DE.bor (DO.val (kR (aC (aB) (aC (aG aZ (DE.bor (aB)) (DE.bor (aG bH (DE.bor (aG bC (dvb 0) (DE.bor (aB)))) (DE.bor (aB))))) (aC (aG aZ (DE.bor (aB)) (DE.bor (aG bH (DE.bor (aG bC (dvb 0) (DE.bor (aB)))) (DE.bor (aG tX (DE.bor (aB)) (DE.bor (aB))))))) (aJ))))))) (DE.bor (aG bH (dvb 0) (DE.bor (aB))))))
theorem rH (Z:DefAt K mg "_law_share" s__law_share ["_law_number"]) {F:FD} (len:∀ds Q,F ds Q->ds.length=1) (pure:∀ds Q,F ds Q->dA { nx:=λ_=>Q .non,rt:=Q } (aQ ["_law_number"] ds)):FnAt P w K mg base "_law_share" ["_law_number"] 1 F :=
 Z.ok kJ (λcdv A outer s H E hr=>qT hr) len pure
theorem kG:FnScope ["_law_number","_law_base","_law_place","_law_k"] ["_law_number","_law_base","_law_place"] (aE s__law_digit):=⟨rfl,rfl,rfl,by decide +kernel,rfl,by decide +kernel,by decide +kernel⟩
theorem qR {f:Addr} {cdv:Value} {A:Around} {outer:List Env} {s:Shared} {H:Hp} {E:XK} (m_range:mg "range" = none) (hr:Room 0 (A.deeper (envOfC "_law_digit" (aE s__law_digit) s.heap.objs.size f cdv))) :
  DSs (dM CX0 P w K mg base ["_law_number","_law_base","_law_place","_law_k"] "_law_digit" (aE s__law_digit) f cdv A outer s H E).nox (aM s__law_digit) (eB) :=
 have nd:=kG.nd
 aF (fQ PassesOwn.never rfl (eY m_range (aC (dv 2) (aJ))) (bA nd) (aN (aS nd (aG bC (dvb 0) (dvb 1)))))
 (aN (bR (aG bH (dvb 0) (dvb 1))))
theorem rF (Z:DefAt K mg "_law_digit" s__law_digit ["_law_number","_law_base","_law_place"]) (m_range:mg "range" = none) {F:FD} (len:∀ds Q,F ds Q->ds.length=3) (pure:∀ds Q,F ds Q->eB { nx:=λ_=>Q .non,rt:=Q } (aQ ["_law_number","_law_base","_law_place","_law_k"] ds)):FnAt P w K mg base "_law_digit" ["_law_number","_law_base","_law_place"] 1 F :=
 Z.ok kG (λcdv A outer s H E hr=>qR m_range hr) len pure
theorem gJ:FnScope ["_law_top","_law_bottom","_law_most"] ["_law_top","_law_bottom"] (aE s__law_fraction):=⟨rfl,rfl,rfl,by decide +kernel,rfl,by decide +kernel,by decide +kernel⟩
theorem mS {f:Addr} {cdv:Value} {A:Around} {outer:List Env} {s:Shared} {H:Hp} {E:XK} {SX:FD} (TD:FnAt P w K mg base "_law_divisor" ["_law_one","_law_other"] 1 SX) (hr:Room 1 (A.deeper (envOfC "_law_fraction" (aE s__law_fraction) s.heap.objs.size f cdv))) :
  DSs (dM CX0 P w K mg base ["_law_top","_law_bottom","_law_most"] "_law_fraction" (aE s__law_fraction) f cdv A outer s H E).nox (aM s__law_fraction) (cU SX) :=
 have nd:=gJ.nd
 aF (aS nd (aP TD (hr.mono (by decide)) (aC (dv 0) (aC (dv 1) (aJ)))))
 (aN (bR (fE (aC (aG bC (dvb 0) (dvb 2)) (aC (aG bC (dvb 1) (dvb 2)) (aJ))))))
theorem nG (Z:DefAt K mg "_law_fraction" s__law_fraction ["_law_top","_law_bottom"]) {SX:FD} (TD:FnAt P w K mg base "_law_divisor" ["_law_one","_law_other"] 1 SX) {F:FD} (len:∀ds Q,F ds Q->ds.length=2) (pure:∀ds Q,F ds Q->cU SX { nx:=λ_=>Q .non,rt:=Q } (aQ ["_law_top","_law_bottom","_law_most"] ds)):FnAt P w K mg base "_law_fraction" ["_law_top","_law_bottom"] 2 F :=
 Z.ok gJ (λcdv A outer s H E hr=>mS TD hr) len pure
theorem mL:FnScope ["_law_x","_law_y","_law_share_here"] ["_law_x","_law_y","_law_share_here"] (aE s__law_spot):=⟨rfl,rfl,rfl,by decide +kernel,rfl,by decide +kernel,by decide +kernel⟩
theorem tD {f:Addr} {cdv:Value} {A:Around} {outer:List Env} {s:Shared} {H:Hp} {E:XK} {TF:FD} (TQ:FnAt P w K mg base "_law_fraction" ["_law_top","_law_bottom"] 2 TF) (hr:Room 2 (A.deeper (envOfC "_law_spot" (aE s__law_spot) s.heap.objs.size f cdv))) :
  DSs (dM CX0 P w K mg base ["_law_x","_law_y","_law_share_here"] "_law_spot" (aE s__law_spot) f cdv A outer s H E).nox (aM s__law_spot) (eW TF) :=
 have nd:=mL.nd
 aN (bR (fE (aC (aP TQ (hr.mono (by decide)) (aC (dv 0) (aC (dv 2) (aJ)))) (aC (aP TQ (hr.mono (by decide)) (aC (dv 1) (aC (dv 2) (aJ)))) (aJ)))))
theorem uA (Z:DefAt K mg "_law_spot" s__law_spot ["_law_x","_law_y","_law_share_here"]) {TF:FD} (TQ:FnAt P w K mg base "_law_fraction" ["_law_top","_law_bottom"] 2 TF) {F:FD} (len:∀ds Q,F ds Q->ds.length=3) (pure:∀ds Q,F ds Q->eW TF { nx:=λ_=>Q .non,rt:=Q } (aQ ["_law_x","_law_y","_law_share_here"] ds)):FnAt P w K mg base "_law_spot" ["_law_x","_law_y","_law_share_here"] 3 F :=
 Z.ok mL (λcdv A outer s H E hr=>tD TQ hr) len pure
theorem kK:FnScope ["_law_head","_law_ring_here","_law_share_here","_law_found","_law_start","_law_k","_law_one","_law_other","_law_way"] ["_law_head","_law_ring_here","_law_share_here"] (aE s__law_spots):=⟨rfl,rfl,rfl,by decide +kernel,rfl,by decide +kernel,by decide +kernel⟩
theorem qU {f:Addr} {cdv:Value} {A:Around} {outer:List Env} {s:Shared} {H:Hp} {E:XK} {SZ:FD} (TK:FnAt P w K mg base "_law_digit" ["_law_number","_law_base","_law_place"] 1 SZ) {SY:FD} (TH:FnAt P w K mg base "_law_spot" ["_law_x","_law_y","_law_share_here"] 3 SY) (m_len:mg "len" = none) (m_range:mg "range" = none) (hr:Room 3 (A.deeper (envOfC "_law_spots" (aE s__law_spots) s.heap.objs.size f cdv))) :
  DSs (dM CX0 P w K mg base ["_law_head","_law_ring_here","_law_share_here","_law_found","_law_start","_law_k","_law_one","_law_other","_law_way"] "_law_spots" (aE s__law_spots) f cdv A outer s H E).nox (aM s__law_spots) (eE SZ SY) :=
 have nd:=kK.nd
 aF (oU nd (kR (aJ)))
 (aF (aS nd (aG bH (DE.bor (aL (dvb 0) (DE.bor (aB)))) (DE.bor (gP m_len (dvb 1)))))
 (aF (aS nd (aG mC (DE.bor (gA (dvb 1) (jR (dv 4)) (jQ))) (DE.bor (gA (dvb 1) (jQ) (jR (dv 4))))))
 (aF (fQ PassesOwn.never rfl (eY m_range (aC (gP m_len (dvb 1)) (aJ))) (bA nd) (aF (aS nd (aL (dvb 1) (dvb 5)))
 (aF (aS nd (aL (dvb 1) (DE.bor (aG bH (DE.bor (aG aZ (dvb 5) (DE.bor (aB)))) (DE.bor (gP m_len (dvb 1)))))))
 (aF (cS 3 (aP TH (hr.mono (by decide)) (aC (aL (dvb 6) (DE.bor (aB))) (aC (aL (dvb 6) (DE.bor (aB))) (aC (dv 2) (aJ))))))
 (aF (aS nd (aP TK (hr.mono (by decide)) (aC (aL (dvb 0) (DE.bor (aB))) (aC (aB) (aC (dv 5) (aJ))))))
 (aF (iT (dC nF (dvb 8) (DE.bor (aB))) (aN (cS 3 (aL (dvb 3) (DE.bor (vC qP (DE.bor (aB))))))) (dO))
 (aF (iT (dC nF (dvb 8) (DE.bor (aB))) (aN (cS 3 (aP TH (hr.mono (by decide)) (aC (aG aZ (DE.bor (aL (dvb 6) (DE.bor (aB)))) (DE.bor (aL (dvb 7) (DE.bor (aB))))) (aC (aG aZ (DE.bor (aL (dvb 6) (DE.bor (aB)))) (DE.bor (aL (dvb 7) (DE.bor (aB))))) (aC (aG bO (DE.bor (aB)) (dvb 2)) (aJ))))))) (dO))
 (aN (iT (dC nF (dvb 8) (DE.bor (aB))) (aF (cS 3 (aP TH (hr.mono (by decide)) (aC (aG aZ (DE.bor (aG bO (DE.bor (aB)) (DE.bor (aL (dvb 6) (DE.bor (aB)))))) (DE.bor (aL (dvb 7) (DE.bor (aB))))) (aC (aG aZ (DE.bor (aG bO (DE.bor (aB)) (DE.bor (aL (dvb 6) (DE.bor (aB)))))) (DE.bor (aL (dvb 7) (DE.bor (aB))))) (aC (aG bO (DE.bor (aB)) (dvb 2)) (aJ))))))
 (aN (cS 3 (aP TH (hr.mono (by decide)) (aC (aG aZ (DE.bor (aL (dvb 6) (DE.bor (aB)))) (DE.bor (aG bO (DE.bor (aB)) (DE.bor (aL (dvb 7) (DE.bor (aB))))))) (aC (aG aZ (DE.bor (aL (dvb 6) (DE.bor (aB)))) (DE.bor (aG bO (DE.bor (aB)) (DE.bor (aL (dvb 7) (DE.bor (aB))))))) (aC (aG bO (DE.bor (aB)) (dvb 2)) (aJ)))))))) (dO))))))))))
 (aF (iT (dC nF (DE.bor (aG bH (DE.bor (aG bC (DE.bor (aL (dvb 0) (DE.bor (aB)))) (DE.bor (aB)))) (DE.bor (aB)))) (DE.bor (aB))) (aN (cS 3 (aL (dvb 3) (DE.bor (aB))))) (dO))
 (aN (zR 3 (bR (dv 3))))))))
theorem rJ (Z:DefAt K mg "_law_spots" s__law_spots ["_law_head","_law_ring_here","_law_share_here"]) {SZ:FD} (TK:FnAt P w K mg base "_law_digit" ["_law_number","_law_base","_law_place"] 1 SZ) {SY:FD} (TH:FnAt P w K mg base "_law_spot" ["_law_x","_law_y","_law_share_here"] 3 SY) (m_len:mg "len" = none) (m_range:mg "range" = none) {F:FD} (len:∀ds Q,F ds Q->ds.length=3) (pure:∀ds Q,F ds Q->eE SZ SY { nx:=λ_=>Q .non,rt:=Q } (aQ ["_law_head","_law_ring_here","_law_share_here","_law_found","_law_start","_law_k","_law_one","_law_other","_law_way"] ds)):FnAt P w K mg base "_law_spots" ["_law_head","_law_ring_here","_law_share_here"] 4 F :=
 Z.ok kK (λcdv A outer s H E hr=>qU TK TH m_len m_range hr) len pure
theorem gK:FnScope ["_law_head","_law_ring_here","_law_share_here","_law_found","_law_k","_law_by","_law_x","_law_y"] ["_law_head","_law_ring_here","_law_share_here"] (aE s__law_straight):=⟨rfl,rfl,rfl,by decide +kernel,rfl,by decide +kernel,by decide +kernel⟩
theorem mT {f:Addr} {cdv:Value} {A:Around} {outer:List Env} {s:Shared} {H:Hp} {E:XK} {SZ:FD} (TK:FnAt P w K mg base "_law_digit" ["_law_number","_law_base","_law_place"] 1 SZ) {SY:FD} (TH:FnAt P w K mg base "_law_spot" ["_law_x","_law_y","_law_share_here"] 3 SY) (m_len:mg "len" = none) (m_range:mg "range" = none) (hr:Room 3 (A.deeper (envOfC "_law_straight" (aE s__law_straight) s.heap.objs.size f cdv))) :
  DSs (dM CX0 P w K mg base ["_law_head","_law_ring_here","_law_share_here","_law_found","_law_k","_law_by","_law_x","_law_y"] "_law_straight" (aE s__law_straight) f cdv A outer s H E).nox (aM s__law_straight) (cV SZ SY) :=
 have nd:=gK.nd
 aF (oU nd (kR (aJ)))
 (aF (fQ PassesOwn.never rfl (eY m_range (aC (gP m_len (dvb 1)) (aJ))) (bA nd) (aF (aS nd (aG dD (DE.bor (aP TK (hr.mono (by decide)) (aC (aL (dvb 0) (DE.bor (aB))) (aC (aB) (aC (dv 4) (aJ)))))) (DE.bor (aB))))
 (aF (aS nd (aG aZ (DE.bor (aL (DE.bor (aL (dvb 1) (DE.bor (aB)))) (DE.bor (aB)))) (DE.bor (aG bO (dvb 5) (DE.bor (aG dD (DE.bor (aL (DE.bor (aL (dvb 1) (DE.bor (aB)))) (DE.bor (aB)))) (DE.bor (aL (DE.bor (aL (dvb 1) (DE.bor (aB)))) (DE.bor (aB))))))))))
 (aF (aS nd (aG aZ (DE.bor (aL (DE.bor (aL (dvb 1) (DE.bor (aB)))) (DE.bor (aB)))) (DE.bor (aG bO (dvb 5) (DE.bor (aG dD (DE.bor (aL (DE.bor (aL (dvb 1) (DE.bor (aB)))) (DE.bor (aB)))) (DE.bor (aL (DE.bor (aL (dvb 1) (DE.bor (aB)))) (DE.bor (aB))))))))))
 (aN (cS 3 (aP TH (hr.mono (by decide)) (aC (dv 6) (aC (dv 7) (aC (dv 2) (aJ)))))))))))
 (aN (zR 3 (bR (dv 3)))))
theorem nH (Z:DefAt K mg "_law_straight" s__law_straight ["_law_head","_law_ring_here","_law_share_here"]) {SZ:FD} (TK:FnAt P w K mg base "_law_digit" ["_law_number","_law_base","_law_place"] 1 SZ) {SY:FD} (TH:FnAt P w K mg base "_law_spot" ["_law_x","_law_y","_law_share_here"] 3 SY) (m_len:mg "len" = none) (m_range:mg "range" = none) {F:FD} (len:∀ds Q,F ds Q->ds.length=3) (pure:∀ds Q,F ds Q->cV SZ SY { nx:=λ_=>Q .non,rt:=Q } (aQ ["_law_head","_law_ring_here","_law_share_here","_law_found","_law_k","_law_by","_law_x","_law_y"] ds)):FnAt P w K mg base "_law_straight" ["_law_head","_law_ring_here","_law_share_here"] 4 F :=
 Z.ok gK (λcdv A outer s H E hr=>mT TK TH m_len m_range hr) len pure
theorem AQ:FnScope ["one","middle","other","along","across"] ["one","middle","other"] (aE s_turn):=⟨rfl,rfl,rfl,by decide +kernel,rfl,by decide +kernel,by decide +kernel⟩
theorem HU {f:Addr} {cdv:Value} {A:Around} {outer:List Env} {s:Shared} {H:Hp} {E:XK} (hr:Room 0 (A.deeper (envOfC "turn" (aE s_turn) s.heap.objs.size f cdv))) :
  DSs (dM CX0 P w K mg base ["one","middle","other","along","across"] "turn" (aE s_turn) f cdv A outer s H E).nox (aM s_turn) (oZ) :=
 have nd:=AQ.nd
 aF (aS nd (aG bO (DE.bor (aG dD (DE.bor (aL (dvb 1) (DE.bor (aB)))) (DE.bor (aL (dvb 0) (DE.bor (aB)))))) (DE.bor (aG dD (DE.bor (aL (dvb 2) (DE.bor (aB)))) (DE.bor (aL (dvb 0) (DE.bor (aB))))))))
 (aF (aS nd (aG bO (DE.bor (aG dD (DE.bor (aL (dvb 1) (DE.bor (aB)))) (DE.bor (aL (dvb 0) (DE.bor (aB)))))) (DE.bor (aG dD (DE.bor (aL (dvb 2) (DE.bor (aB)))) (DE.bor (aL (dvb 0) (DE.bor (aB))))))))
 (aN (bR (aG dD (dvb 3) (dvb 4)))))
theorem JA (Z:DefAt K mg "turn" s_turn ["one","middle","other"]) {F:FD} (len:∀ds Q,F ds Q->ds.length=3) (pure:∀ds Q,F ds Q->oZ { nx:=λ_=>Q .non,rt:=Q } (aQ ["one","middle","other","along","across"] ds)):FnAt P w K mg base "turn" ["one","middle","other"] 1 F :=
 Z.ok AQ (λcdv A outer s H E hr=>HU hr) len pure
theorem kM:FnScope ["points","chain","point"] ["points"] (aE s_half_round):=⟨rfl,rfl,rfl,by decide +kernel,rfl,by decide +kernel,by decide +kernel⟩
theorem qW {f:Addr} {cdv:Value} {A:Around} {outer:List Env} {s:Shared} {H:Hp} {E:XK} {cX:FD} (UL:FnAt P w K mg base "turn" ["one","middle","other"] 1 cX) (m_len:mg "len" = none) (hr:Room 1 (A.deeper (envOfC "half_round" (aE s_half_round) s.heap.objs.size f cdv))) :
  DSs (dM CX0 P w K mg base ["points","chain","point"] "half_round" (aE s_half_round) f cdv A outer s H E).nox (aM s_half_round) (eG cX) :=
 have nd:=kM.nd
 aF (oU nd (kR (aJ)))
 (aF (fQ PassesOwn.never rfl (eA (dv 0)) (bA nd) (aF (pM PassesOwn.never (DW.tst (LK (dC GD (DE.bor (gP m_len (dvb 1))) (DE.bor (aB))) (IC (dC OZ (DE.bor (aP UL (hr.mono (by decide)) (aC (aL (dvb 1) (DE.bor (vC qP (DE.bor (aB))))) (aC (aL (dvb 1) (DE.bor (vC qP (DE.bor (aB))))) (aC (dv 2) (aJ)))))) (DE.bor (aB)))))) (aN (LJ 1)))
 (aN (cS 1 (dv 2)))))
 (aN (bR (gA (dvb 1) (jQ) (jR (vC qP (DE.bor (aB))))))))
theorem rL (Z:DefAt K mg "half_round" s_half_round ["points"]) {cX:FD} (UL:FnAt P w K mg base "turn" ["one","middle","other"] 1 cX) (m_len:mg "len" = none) {F:FD} (len:∀ds Q,F ds Q->ds.length=1) (pure:∀ds Q,F ds Q->eG cX { nx:=λ_=>Q .non,rt:=Q } (aQ ["points","chain","point"] ds)):FnAt P w K mg base "half_round" ["points"] 2 F :=
 Z.ok kM (λcdv A outer s H E hr=>qW UL m_len hr) len pure
theorem qI:FnScope ["points","rising"] ["points"] (aE s_outline):=⟨rfl,rfl,rfl,by decide +kernel,rfl,by decide +kernel,by decide +kernel⟩
theorem xJ {f:Addr} {cdv:Value} {A:Around} {outer:List Env} {s:Shared} {H:Hp} {E:XK} {F_half_round:FD} (UC:FnAt P w K mg base "half_round" ["points"] 2 F_half_round) (m_list:mg "list" = none) (m_reversed:mg "reversed" = none) (m_sorted:mg "sorted" = none) (m_set:mg "set" = none) (hr:Room 2 (A.deeper (envOfC "outline" (aE s_outline) s.heap.objs.size f cdv))) :
  DSs (dM CX0 P w K mg base ["points","rising"] "outline" (aE s_outline) f cdv A outer s H E).nox (aM s_outline) (eX F_half_round) :=
 have nd:=qI.nd
 aF (aS nd (DO.val (vD hr m_sorted m_set rfl (dvb 0))))
 (aN (bR (aG mC (DE.bor (aP UC (hr.mono (by decide)) (aC (dv 1) (aJ)))) (DE.bor (aP UC (hr.mono (by decide)) (aC (DO.val (xT m_list m_reversed rfl (dvb 1))) (aJ)))))))
theorem yF (Z:DefAt K mg "outline" s_outline ["points"]) {F_half_round:FD} (UC:FnAt P w K mg base "half_round" ["points"] 2 F_half_round) (m_list:mg "list" = none) (m_reversed:mg "reversed" = none) (m_sorted:mg "sorted" = none) (m_set:mg "set" = none) {F:FD} (len:∀ds Q,F ds Q->ds.length=1) (pure:∀ds Q,F ds Q->eX F_half_round { nx:=λ_=>Q .non,rt:=Q } (aQ ["points","rising"] ds)):FnAt P w K mg base "outline" ["points"] 3 F :=
 Z.ok qI (λcdv A outer s H E hr=>xJ UC m_list m_reversed m_sorted m_set hr) len pure
theorem fO:FnScope ["one","other","larger","smaller","rest"] ["one","other"] (aE s_shared_divisor):=⟨rfl,rfl,rfl,by decide +kernel,rfl,by decide +kernel,by decide +kernel⟩
theorem lT {f:Addr} {cdv:Value} {A:Around} {outer:List Env} {s:Shared} {H:Hp} {E:XK} (m_abs:mg "abs" = none) (hr:Room 0 (A.deeper (envOfC "shared_divisor" (aE s_shared_divisor) s.heap.objs.size f cdv))) :
  DSs (dM CX0 P w K mg base ["one","other","larger","smaller","rest"] "shared_divisor" (aE s_shared_divisor) f cdv A outer s H E).nox (aM s_shared_divisor) (cN) :=
 have nd:=fO.nd
 aF (aS nd (fD tH m_abs jN (aC (dv 0) (aJ))))
 (aF (aS nd (fD tH m_abs jN (aC (dv 1) (aJ))))
 (aF (pM PassesOwn.never (dC MN (dvb 3) (DE.bor (aB))) (aF (aS nd (aG bH (dvb 2) (dvb 3)))
 (aF (aS nd (dv 3))
 (aN (aS nd (dv 4))))))
 (aN (bR (dv 2)))))
theorem mD (Z:DefAt K mg "shared_divisor" s_shared_divisor ["one","other"]) (m_abs:mg "abs" = none) {F:FD} (len:∀ds Q,F ds Q->ds.length=2) (pure:∀ds Q,F ds Q->cN { nx:=λ_=>Q .non,rt:=Q } (aQ ["one","other","larger","smaller","rest"] ds)):FnAt P w K mg base "shared_divisor" ["one","other"] 1 F :=
 Z.ok fO (λcdv A outer s H E hr=>lT m_abs hr) len pure
theorem qJ:FnScope ["share","points","corners","divisor","x","y"] ["share","points"] (aE s_settled):=⟨rfl,rfl,rfl,by decide +kernel,rfl,by decide +kernel,by decide +kernel⟩
theorem kD:List.Nodup (["x","y","divisor"]:List Str):=by decide +kernel
theorem xK {f:Addr} {cdv:Value} {A:Around} {outer:List Env} {s:Shared} {H:Hp} {E:XK} {dG:FD} (UJ:FnAt P w K mg base "outline" ["points"] 3 dG) {F_shared_divisor:FD} (TB:FnAt P w K mg base "shared_divisor" ["one","other"] 1 F_shared_divisor) (m_tuple:mg "tuple" = none) (m_len:mg "len" = none) (hr:Room 3 (A.deeper (envOfC "settled" (aE s_settled) s.heap.objs.size f cdv))) :
  DSs (dM CX0 P w K mg base ["share","points","corners","divisor","x","y"] "settled" (aE s_settled) f cdv A outer s H E).nox (aM s_settled) (hX dG F_shared_divisor) :=
 have nd:=qJ.nd
 aF (aS nd (aP UJ (hr.mono (by decide)) (aC (dv 1) (aJ))))
 (aF (iT (dC PB (DE.bor (gP m_len (dvb 2))) (DE.bor (aB))) (aN (bR (kP))) (dO))
 (aF (aS nd (dv 0))
 (aF (fQ PassesOwn.never rfl (eA (dv 2)) (kQ rfl (bY (bA nd) (bY (bA nd) (gQ)))) (aN (aS nd (aP TB (hr.mono (by decide)) (aC (aP TB (hr.mono (by decide)) (aC (dv 3) (aC (dv 4) (aJ)))) (aC (dv 5) (aJ)))))))
 (aN (bR (fE (aC (aG bC (dvb 0) (dvb 3)) (aC (vB m_tuple (DE.bor (DO.val (jP ["x","y","divisor"] 2 [3] (eA (dv 2)) (λcl C s H fp=>kQ rfl (bY (bA kD) (bY (bA kD) (gQ)))) (λcl C s H fp=>fE (aC (aG bC (dvb 0) (dvb 2)) (aC (aG bC (dvb 1) (dvb 2)) (aJ)))))))) (aJ)))))))))
theorem yG (Z:DefAt K mg "settled" s_settled ["share","points"]) {dG:FD} (UJ:FnAt P w K mg base "outline" ["points"] 3 dG) {F_shared_divisor:FD} (TB:FnAt P w K mg base "shared_divisor" ["one","other"] 1 F_shared_divisor) (m_tuple:mg "tuple" = none) (m_len:mg "len" = none) {F:FD} (len:∀ds Q,F ds Q->ds.length=2) (pure:∀ds Q,F ds Q->hX dG F_shared_divisor { nx:=λ_=>Q .non,rt:=Q } (aQ ["share","points","corners","divisor","x","y"] ds)):FnAt P w K mg base "settled" ["share","points"] 4 F :=
 Z.ok qJ (λcdv A outer s H E hr=>xK UJ TB m_tuple m_len hr) len pure
theorem fH:FnScope ["one","other"] ["one","other"] (aE s_shared_multiple):=⟨rfl,rfl,rfl,by decide +kernel,rfl,by decide +kernel,by decide +kernel⟩
theorem kO {f:Addr} {cdv:Value} {A:Around} {outer:List Env} {s:Shared} {H:Hp} {E:XK} {F_shared_divisor:FD} (TB:FnAt P w K mg base "shared_divisor" ["one","other"] 1 F_shared_divisor) (hr:Room 1 (A.deeper (envOfC "shared_multiple" (aE s_shared_multiple) s.heap.objs.size f cdv))) :
  DSs (dM CX0 P w K mg base ["one","other"] "shared_multiple" (aE s_shared_multiple) f cdv A outer s H E).nox (aM s_shared_multiple) (cI F_shared_divisor) :=
 have nd:=fH.nd
 aN (bR (aG bO (dvb 0) (DE.bor (aG bC (dvb 1) (DE.bor (aP TB (hr.mono (by decide)) (aC (dv 0) (aC (dv 1) (aJ)))))))))
theorem lB (Z:DefAt K mg "shared_multiple" s_shared_multiple ["one","other"]) {F_shared_divisor:FD} (TB:FnAt P w K mg base "shared_divisor" ["one","other"] 1 F_shared_divisor) {F:FD} (len:∀ds Q,F ds Q->ds.length=2) (pure:∀ds Q,F ds Q->cI F_shared_divisor { nx:=λ_=>Q .non,rt:=Q } (aQ ["one","other"] ds)):FnAt P w K mg base "shared_multiple" ["one","other"] 2 F :=
 Z.ok fH (λcdv A outer s H E hr=>kO TB hr) len pure
theorem oA:FnScope ["spots","share","x","y"] ["spots"] (aE s_piece_of):=⟨rfl,rfl,rfl,by decide +kernel,rfl,by decide +kernel,by decide +kernel⟩
theorem jA:List.Nodup (["x","y","share"]:List Str):=by decide +kernel
theorem uN {f:Addr} {cdv:Value} {A:Around} {outer:List Env} {s:Shared} {H:Hp} {E:XK} {dH:FD} (UK:FnAt P w K mg base "settled" ["share","points"] 4 dH) {F_shared_multiple:FD} (TL:FnAt P w K mg base "shared_multiple" ["one","other"] 2 F_shared_multiple) (hr:Room 4 (A.deeper (envOfC "piece_of" (aE s_piece_of) s.heap.objs.size f cdv))) :
  DSs (dM CX0 P w K mg base ["spots","share","x","y"] "piece_of" (aE s_piece_of) f cdv A outer s H E).nox (aM s_piece_of) (fN dH F_shared_multiple) :=
 have nd:=oA.nd
 aF (aS nd (aB))
 (aF (fQ PassesOwn.never rfl (eA (dv 0)) (kQ rfl (bY (bA nd) (bY (bA nd) (gQ)))) (aN (aS nd (aP TL (hr.mono (by decide)) (aC (aP TL (hr.mono (by decide)) (aC (dv 1) (aC (aL (dvb 2) (DE.bor (aB))) (aJ)))) (aC (aL (dvb 3) (DE.bor (aB))) (aJ)))))))
 (aN (bR (aP UK (hr.mono (by decide)) (aC (dv 1) (aC (DO.val (jP ["x","y","share"] 2 [1] (eA (dv 0)) (λcl C s H fp=>kQ rfl (bY (bA jA) (bY (bA jA) (gQ)))) (λcl C s H fp=>fE (aC (aG bO (DE.bor (aL (dvb 0) (DE.bor (aB)))) (DE.bor (aG bC (dvb 2) (DE.bor (aL (dvb 0) (DE.bor (aB))))))) (aC (aG bO (DE.bor (aL (dvb 1) (DE.bor (aB)))) (DE.bor (aG bC (dvb 2) (DE.bor (aL (dvb 1) (DE.bor (aB))))))) (aJ)))))) (aJ)))))))
theorem wB (Z:DefAt K mg "piece_of" s_piece_of ["spots"]) {dH:FD} (UK:FnAt P w K mg base "settled" ["share","points"] 4 dH) {F_shared_multiple:FD} (TL:FnAt P w K mg base "shared_multiple" ["one","other"] 2 F_shared_multiple) {F:FD} (len:∀ds Q,F ds Q->ds.length=1) (pure:∀ds Q,F ds Q->fN dH F_shared_multiple { nx:=λ_=>Q .non,rt:=Q } (aQ ["spots","share","x","y"] ds)):FnAt P w K mg base "piece_of" ["spots"] 5 F :=
 Z.ok oA (λcdv A outer s H E hr=>uN UK TL hr) len pure
theorem GU:FnScope ["_law_script","_law_head","_law_ring_here","_law_share_here","_law_spots_here","_law_due_here","_law_handed"] ["_law_script"] (aE s_law):=⟨rfl,rfl,rfl,by decide +kernel,rfl,by decide +kernel,by decide +kernel⟩
theorem LA {f:Addr} {cdv:Value} {A:Around} {outer:List Env} {s:Shared} {H:Hp} {E:XK} {TY:FD} (UH:FnAt P w K mg base "_law_due" ["_law_share_here","_law_ring_here"] 2 TY) {TJ:FD} (TZ:FnAt P w K mg base "_law_numbers" ["_law_script","_law_many"] 1 TJ) {TU:FD} (UF:FnAt P w K mg base "_law_ring" ["_law_head","_law_far"] 2 TU) {UA:FD} (UG:FnAt P w K mg base "_law_same" ["_law_found","_law_due_here"] 2 UA) {TN:FD} (UD:FnAt P w K mg base "_law_share" ["_law_number"] 1 TN) {TX:FD} (UE:FnAt P w K mg base "_law_spots" ["_law_head","_law_ring_here","_law_share_here"] 4 TX) {TM:FD} (TV:FnAt P w K mg base "_law_straight" ["_law_head","_law_ring_here","_law_share_here"] 4 TM) {F_piece_of:FD} (UI:FnAt P w K mg base "piece_of" ["spots"] 5 F_piece_of) (m_list:mg "list" = none) (hr:Room 5 (A.deeper (envOfC "law" (aE s_law) s.heap.objs.size f cdv))) :
  DSs (dM CX0 P w K mg base ["_law_script","_law_head","_law_ring_here","_law_share_here","_law_spots_here","_law_due_here","_law_handed"] "law" (aE s_law) f cdv A outer s H E).nox (aM s_law) (hV TY TJ TU UA TN TX TM F_piece_of) :=
 have nd:=GU.nd
 aF (aS nd (aP TZ (hr.mono (by decide)) (aC (dv 0) (aC (aB) (aJ)))))
 (aF (aS nd (aP UF (hr.mono (by decide)) (aC (dv 1) (aC (aL (DE.bor (DO.val (kR (aC (aB) (aC (aG tX (DE.bor (aB)) (DE.bor (aB))) (aJ)))))) (DE.bor (aG bH (DE.bor (aL (dvb 1) (DE.bor (aB)))) (DE.bor (aB))))) (aJ)))))
 (aF (aS nd (aP UD (hr.mono (by decide)) (aC (aG bC (DE.bor (aL (dvb 1) (DE.bor (aB)))) (DE.bor (aB))) (aJ))))
 (aF (aS nd (aP UE (hr.mono (by decide)) (aC (dv 1) (aC (dv 2) (aC (dv 3) (aJ))))))
 (aF (aS nd (aP UH (hr.mono (by decide)) (aC (dv 3) (aC (dv 2) (aJ)))))
 (aF (iT (dC nF (DE.bor (aG bH (DE.bor (aL (dvb 1) (DE.bor (aB)))) (DE.bor (aB)))) (DE.bor (aB))) (aF (aS nd (aP TV (hr.mono (by decide)) (aC (dv 1) (aC (dv 2) (aC (dv 3) (aJ))))))
 (aN (aS nd (kP)))) (dO))
 (aF (iT (dC nF (DE.bor (aG bH (DE.bor (aL (dvb 1) (DE.bor (aB)))) (DE.bor (aB)))) (DE.bor (aB))) (aF (aS nd (gA (dvb 4) (jQ) (jR (aG bH (DE.bor (aG bC (DE.bor (aL (dvb 1) (DE.bor (aB)))) (DE.bor (aB)))) (DE.bor (aB))))))
 (aN (aS nd (kP)))) (dO))
 (aF (aS nd (BO m_list (dvb 4)))
 (aN (bR (xQ (aP UG (hr.mono (by decide)) (aC (aP UI (hr.mono (by decide)) (aC (dv 6) (aJ))) (aC (dv 5) (aJ)))) (xS (xR (OY hr) (dvb 6) (dvb 4)))))))))))))
theorem LO {TY:FD} (UH:FnAt P w K mg base "_law_due" ["_law_share_here","_law_ring_here"] 2 TY) {TJ:FD} (TZ:FnAt P w K mg base "_law_numbers" ["_law_script","_law_many"] 1 TJ) {TU:FD} (UF:FnAt P w K mg base "_law_ring" ["_law_head","_law_far"] 2 TU) {UA:FD} (UG:FnAt P w K mg base "_law_same" ["_law_found","_law_due_here"] 2 UA) {TN:FD} (UD:FnAt P w K mg base "_law_share" ["_law_number"] 1 TN) {TX:FD} (UE:FnAt P w K mg base "_law_spots" ["_law_head","_law_ring_here","_law_share_here"] 4 TX) {TM:FD} (TV:FnAt P w K mg base "_law_straight" ["_law_head","_law_ring_here","_law_share_here"] 4 TM) {F_piece_of:FD} (UI:FnAt P w K mg base "piece_of" ["spots"] 5 F_piece_of) (m_list:mg "list" = none) {F:FD} {f:Addr} {fd:FuncData} (Fu:Fun K "law" "law" s_law f fd) (len:∀ds Q,F ds Q->ds.length=1) (pure:∀ds Q,F ds Q->hV TY TJ TU UA TN TX TM F_piece_of { nx:=λ_=>Q .non,rt:=Q } (aQ ["_law_script","_law_head","_law_ring_here","_law_share_here","_law_spots_here","_law_due_here","_law_handed"] ds)):FnOk P w K mg base CX0 6 f fd ["_law_script"] (spD K F) :=
 KI Fu GU (λcdv A outer s H E hr=>LA UH TZ UF UG UD UE TV UI m_list hr) len pure
end
structure TopF (K:PySem.W.Frag) (mg:Str->Option Value):Prop where
 d__law_divisor:DefAt K mg "_law_divisor" s__law_divisor ["_law_one","_law_other"]
 d__law_due:DefAt K mg "_law_due" s__law_due ["_law_share_here","_law_ring_here"]
 d__law_numbers:DefAt K mg "_law_numbers" s__law_numbers ["_law_script","_law_many"]
 d__law_rises:DefAt K mg "_law_rises" s__law_rises ["_law_number","_law_many"]
 d__law_ring:DefAt K mg "_law_ring" s__law_ring ["_law_head","_law_far"]
 d__law_whole:DefAt K mg "_law_whole" s__law_whole ["_law_found"]
 d__law_same:DefAt K mg "_law_same" s__law_same ["_law_found","_law_due_here"]
 d__law_share:DefAt K mg "_law_share" s__law_share ["_law_number"]
 d__law_digit:DefAt K mg "_law_digit" s__law_digit ["_law_number","_law_base","_law_place"]
 d__law_fraction:DefAt K mg "_law_fraction" s__law_fraction ["_law_top","_law_bottom"]
 d__law_spot:DefAt K mg "_law_spot" s__law_spot ["_law_x","_law_y","_law_share_here"]
 d__law_spots:DefAt K mg "_law_spots" s__law_spots ["_law_head","_law_ring_here","_law_share_here"]
 d__law_straight:DefAt K mg "_law_straight" s__law_straight ["_law_head","_law_ring_here","_law_share_here"]
 d_turn:DefAt K mg "turn" s_turn ["one","middle","other"]
 d_half_round:DefAt K mg "half_round" s_half_round ["points"]
 d_outline:DefAt K mg "outline" s_outline ["points"]
 d_shared_divisor:DefAt K mg "shared_divisor" s_shared_divisor ["one","other"]
 d_settled:DefAt K mg "settled" s_settled ["share","points"]
 d_shared_multiple:DefAt K mg "shared_multiple" s_shared_multiple ["one","other"]
 d_piece_of:DefAt K mg "piece_of" s_piece_of ["spots"]
 d_law:DefAt K mg "law" s_law ["_law_script"]
 m_abs:mg "abs" = none
 m_tuple:mg "tuple" = none
 m_min:mg "min" = none
 m_len:mg "len" = none
 m_max:mg "max" = none
 m_range:mg "range" = none
 m_reversed:mg "reversed" = none
 m_isinstance:mg "isinstance" = none
 m_bool:mg "bool" = none
 m_int:mg "int" = none
 m_list:mg "list" = none
 m_sorted:mg "sorted" = none
 m_set:mg "set" = none
theorem top_mk {K:PySem.W.Frag} {h:Heap} {mg:Str->Option Value} (X:K.In h) (G:h.Ns mainGlobals mg)
  {f0:Addr} {od0 an0:Option Addr} {sl0:Array (Option Value)} {oc0 kV0 dc0 pm0 cd0 ct0:Value}
  {f1:Addr} {od1 an1:Option Addr} {sl1:Array (Option Value)} {oc1 kV1 dc1 pm1 cd1 ct1:Value}
  {f2:Addr} {od2 an2:Option Addr} {sl2:Array (Option Value)} {oc2 kV2 dc2 pm2 cd2 ct2:Value}
  {f3:Addr} {od3 an3:Option Addr} {sl3:Array (Option Value)} {oc3 kV3 dc3 pm3 cd3 ct3:Value}
  {f4:Addr} {od4 an4:Option Addr} {sl4:Array (Option Value)} {oc4 kV4 dc4 pm4 cd4 ct4:Value}
  {f5:Addr} {od5 an5:Option Addr} {sl5:Array (Option Value)} {oc5 kV5 dc5 pm5 cd5 ct5:Value}
  {f6:Addr} {od6 an6:Option Addr} {sl6:Array (Option Value)} {oc6 kV6 dc6 pm6 cd6 ct6:Value}
  {f7:Addr} {od7 an7:Option Addr} {sl7:Array (Option Value)} {oc7 kV7 dc7 pm7 cd7 ct7:Value}
  {f8:Addr} {od8 an8:Option Addr} {sl8:Array (Option Value)} {oc8 kV8 dc8 pm8 cd8 ct8:Value}
  {f9:Addr} {od9 an9:Option Addr} {sl9:Array (Option Value)} {oc9 kV9 dc9 pm9 cd9 ct9:Value}
  {f10:Addr} {od10 an10:Option Addr} {sl10:Array (Option Value)} {oc10 kV10 dc10 pm10 cd10 ct10:Value}
  {f11:Addr} {od11 an11:Option Addr} {sl11:Array (Option Value)} {oc11 kV11 dc11 pm11 cd11 ct11:Value}
  {f12:Addr} {od12 an12:Option Addr} {sl12:Array (Option Value)} {oc12 kV12 dc12 pm12 cd12 ct12:Value}
  {f13:Addr} {od13 an13:Option Addr} {sl13:Array (Option Value)} {oc13 kV13 dc13 pm13 cd13 ct13:Value}
  {f14:Addr} {od14 an14:Option Addr} {sl14:Array (Option Value)} {oc14 kV14 dc14 pm14 cd14 ct14:Value}
  {f15:Addr} {od15 an15:Option Addr} {sl15:Array (Option Value)} {oc15 kV15 dc15 pm15 cd15 ct15:Value}
  {f16:Addr} {od16 an16:Option Addr} {sl16:Array (Option Value)} {oc16 kV16 dc16 pm16 cd16 ct16:Value}
  {f17:Addr} {od17 an17:Option Addr} {sl17:Array (Option Value)} {oc17 kV17 dc17 pm17 cd17 ct17:Value}
  {f18:Addr} {od18 an18:Option Addr} {sl18:Array (Option Value)} {oc18 kV18 dc18 pm18 cd18 ct18:Value}
  {f19:Addr} {od19 an19:Option Addr} {sl19:Array (Option Value)} {oc19 kV19 dc19 pm19 cd19 ct19:Value}
  {f20:Addr} {od20 an20:Option Addr} {sl20:Array (Option Value)} {oc20 kV20 dc20 pm20 cd20 ct20:Value}
  (a0:PySem.W.nsIn K mainGlobals "_law_divisor" = some (some (.ref f0))) (l0:K.lookup f0=some ⟨oc0,od0,.func (PySem.W.fnOf "_law_divisor" "_law_divisor" (bG s__law_divisor) (aM s__law_divisor) (aE s__law_divisor) .none kV0 dc0 pm0 an0 cd0 ct0),sl0⟩) (c0:PySem.W.codeIn K cd0 "_law_divisor" = true) (k0:PySem.W.keepIn K (.ref f0)=true)
  (a1:PySem.W.nsIn K mainGlobals "_law_due" = some (some (.ref f1))) (l1:K.lookup f1=some ⟨oc1,od1,.func (PySem.W.fnOf "_law_due" "_law_due" (bG s__law_due) (aM s__law_due) (aE s__law_due) .none kV1 dc1 pm1 an1 cd1 ct1),sl1⟩) (c1:PySem.W.codeIn K cd1 "_law_due" = true) (k1:PySem.W.keepIn K (.ref f1)=true)
  (a2:PySem.W.nsIn K mainGlobals "_law_numbers" = some (some (.ref f2))) (l2:K.lookup f2=some ⟨oc2,od2,.func (PySem.W.fnOf "_law_numbers" "_law_numbers" (bG s__law_numbers) (aM s__law_numbers) (aE s__law_numbers) .none kV2 dc2 pm2 an2 cd2 ct2),sl2⟩) (c2:PySem.W.codeIn K cd2 "_law_numbers" = true) (k2:PySem.W.keepIn K (.ref f2)=true)
  (a3:PySem.W.nsIn K mainGlobals "_law_rises" = some (some (.ref f3))) (l3:K.lookup f3=some ⟨oc3,od3,.func (PySem.W.fnOf "_law_rises" "_law_rises" (bG s__law_rises) (aM s__law_rises) (aE s__law_rises) .none kV3 dc3 pm3 an3 cd3 ct3),sl3⟩) (c3:PySem.W.codeIn K cd3 "_law_rises" = true) (k3:PySem.W.keepIn K (.ref f3)=true)
  (a4:PySem.W.nsIn K mainGlobals "_law_ring" = some (some (.ref f4))) (l4:K.lookup f4=some ⟨oc4,od4,.func (PySem.W.fnOf "_law_ring" "_law_ring" (bG s__law_ring) (aM s__law_ring) (aE s__law_ring) .none kV4 dc4 pm4 an4 cd4 ct4),sl4⟩) (c4:PySem.W.codeIn K cd4 "_law_ring" = true) (k4:PySem.W.keepIn K (.ref f4)=true)
  (a5:PySem.W.nsIn K mainGlobals "_law_whole" = some (some (.ref f5))) (l5:K.lookup f5=some ⟨oc5,od5,.func (PySem.W.fnOf "_law_whole" "_law_whole" (bG s__law_whole) (aM s__law_whole) (aE s__law_whole) .none kV5 dc5 pm5 an5 cd5 ct5),sl5⟩) (c5:PySem.W.codeIn K cd5 "_law_whole" = true) (k5:PySem.W.keepIn K (.ref f5)=true)
  (a6:PySem.W.nsIn K mainGlobals "_law_same" = some (some (.ref f6))) (l6:K.lookup f6=some ⟨oc6,od6,.func (PySem.W.fnOf "_law_same" "_law_same" (bG s__law_same) (aM s__law_same) (aE s__law_same) .none kV6 dc6 pm6 an6 cd6 ct6),sl6⟩) (c6:PySem.W.codeIn K cd6 "_law_same" = true) (k6:PySem.W.keepIn K (.ref f6)=true)
  (a7:PySem.W.nsIn K mainGlobals "_law_share" = some (some (.ref f7))) (l7:K.lookup f7=some ⟨oc7,od7,.func (PySem.W.fnOf "_law_share" "_law_share" (bG s__law_share) (aM s__law_share) (aE s__law_share) .none kV7 dc7 pm7 an7 cd7 ct7),sl7⟩) (c7:PySem.W.codeIn K cd7 "_law_share" = true) (k7:PySem.W.keepIn K (.ref f7)=true)
  (a8:PySem.W.nsIn K mainGlobals "_law_digit" = some (some (.ref f8))) (l8:K.lookup f8=some ⟨oc8,od8,.func (PySem.W.fnOf "_law_digit" "_law_digit" (bG s__law_digit) (aM s__law_digit) (aE s__law_digit) .none kV8 dc8 pm8 an8 cd8 ct8),sl8⟩) (c8:PySem.W.codeIn K cd8 "_law_digit" = true) (k8:PySem.W.keepIn K (.ref f8)=true)
  (a9:PySem.W.nsIn K mainGlobals "_law_fraction" = some (some (.ref f9))) (l9:K.lookup f9=some ⟨oc9,od9,.func (PySem.W.fnOf "_law_fraction" "_law_fraction" (bG s__law_fraction) (aM s__law_fraction) (aE s__law_fraction) .none kV9 dc9 pm9 an9 cd9 ct9),sl9⟩) (c9:PySem.W.codeIn K cd9 "_law_fraction" = true) (k9:PySem.W.keepIn K (.ref f9)=true)
  (a10:PySem.W.nsIn K mainGlobals "_law_spot" = some (some (.ref f10))) (l10:K.lookup f10=some ⟨oc10,od10,.func (PySem.W.fnOf "_law_spot" "_law_spot" (bG s__law_spot) (aM s__law_spot) (aE s__law_spot) .none kV10 dc10 pm10 an10 cd10 ct10),sl10⟩) (c10:PySem.W.codeIn K cd10 "_law_spot" = true) (k10:PySem.W.keepIn K (.ref f10)=true)
  (a11:PySem.W.nsIn K mainGlobals "_law_spots" = some (some (.ref f11))) (l11:K.lookup f11=some ⟨oc11,od11,.func (PySem.W.fnOf "_law_spots" "_law_spots" (bG s__law_spots) (aM s__law_spots) (aE s__law_spots) .none kV11 dc11 pm11 an11 cd11 ct11),sl11⟩) (c11:PySem.W.codeIn K cd11 "_law_spots" = true) (k11:PySem.W.keepIn K (.ref f11)=true)
  (a12:PySem.W.nsIn K mainGlobals "_law_straight" = some (some (.ref f12))) (l12:K.lookup f12=some ⟨oc12,od12,.func (PySem.W.fnOf "_law_straight" "_law_straight" (bG s__law_straight) (aM s__law_straight) (aE s__law_straight) .none kV12 dc12 pm12 an12 cd12 ct12),sl12⟩) (c12:PySem.W.codeIn K cd12 "_law_straight" = true) (k12:PySem.W.keepIn K (.ref f12)=true)
  (a13:PySem.W.nsIn K mainGlobals "turn" = some (some (.ref f13))) (l13:K.lookup f13=some ⟨oc13,od13,.func (PySem.W.fnOf "turn" "turn" (bG s_turn) (aM s_turn) (aE s_turn) .none kV13 dc13 pm13 an13 cd13 ct13),sl13⟩) (c13:PySem.W.codeIn K cd13 "turn" = true) (k13:PySem.W.keepIn K (.ref f13)=true)
  (a14:PySem.W.nsIn K mainGlobals "half_round" = some (some (.ref f14))) (l14:K.lookup f14=some ⟨oc14,od14,.func (PySem.W.fnOf "half_round" "half_round" (bG s_half_round) (aM s_half_round) (aE s_half_round) .none kV14 dc14 pm14 an14 cd14 ct14),sl14⟩) (c14:PySem.W.codeIn K cd14 "half_round" = true) (k14:PySem.W.keepIn K (.ref f14)=true)
  (a15:PySem.W.nsIn K mainGlobals "outline" = some (some (.ref f15))) (l15:K.lookup f15=some ⟨oc15,od15,.func (PySem.W.fnOf "outline" "outline" (bG s_outline) (aM s_outline) (aE s_outline) .none kV15 dc15 pm15 an15 cd15 ct15),sl15⟩) (c15:PySem.W.codeIn K cd15 "outline" = true) (k15:PySem.W.keepIn K (.ref f15)=true)
  (a16:PySem.W.nsIn K mainGlobals "shared_divisor" = some (some (.ref f16))) (l16:K.lookup f16=some ⟨oc16,od16,.func (PySem.W.fnOf "shared_divisor" "shared_divisor" (bG s_shared_divisor) (aM s_shared_divisor) (aE s_shared_divisor) .none kV16 dc16 pm16 an16 cd16 ct16),sl16⟩) (c16:PySem.W.codeIn K cd16 "shared_divisor" = true) (k16:PySem.W.keepIn K (.ref f16)=true)
  (a17:PySem.W.nsIn K mainGlobals "settled" = some (some (.ref f17))) (l17:K.lookup f17=some ⟨oc17,od17,.func (PySem.W.fnOf "settled" "settled" (bG s_settled) (aM s_settled) (aE s_settled) .none kV17 dc17 pm17 an17 cd17 ct17),sl17⟩) (c17:PySem.W.codeIn K cd17 "settled" = true) (k17:PySem.W.keepIn K (.ref f17)=true)
  (a18:PySem.W.nsIn K mainGlobals "shared_multiple" = some (some (.ref f18))) (l18:K.lookup f18=some ⟨oc18,od18,.func (PySem.W.fnOf "shared_multiple" "shared_multiple" (bG s_shared_multiple) (aM s_shared_multiple) (aE s_shared_multiple) .none kV18 dc18 pm18 an18 cd18 ct18),sl18⟩) (c18:PySem.W.codeIn K cd18 "shared_multiple" = true) (k18:PySem.W.keepIn K (.ref f18)=true)
  (a19:PySem.W.nsIn K mainGlobals "piece_of" = some (some (.ref f19))) (l19:K.lookup f19=some ⟨oc19,od19,.func (PySem.W.fnOf "piece_of" "piece_of" (bG s_piece_of) (aM s_piece_of) (aE s_piece_of) .none kV19 dc19 pm19 an19 cd19 ct19),sl19⟩) (c19:PySem.W.codeIn K cd19 "piece_of" = true) (k19:PySem.W.keepIn K (.ref f19)=true)
  (a20:PySem.W.nsIn K mainGlobals "law" = some (some (.ref f20))) (l20:K.lookup f20=some ⟨oc20,od20,.func (PySem.W.fnOf "law" "law" (bG s_law) (aM s_law) (aE s_law) .none kV20 dc20 pm20 an20 cd20 ct20),sl20⟩) (c20:PySem.W.codeIn K cd20 "law" = true) (k20:PySem.W.keepIn K (.ref f20)=true)
  (z0:PySem.W.nsIn K mainGlobals "abs" = some none)
  (z1:PySem.W.nsIn K mainGlobals "tuple" = some none)
  (z2:PySem.W.nsIn K mainGlobals "min" = some none)
  (z3:PySem.W.nsIn K mainGlobals "len" = some none)
  (z4:PySem.W.nsIn K mainGlobals "max" = some none)
  (z5:PySem.W.nsIn K mainGlobals "range" = some none)
  (z6:PySem.W.nsIn K mainGlobals "reversed" = some none)
  (z7:PySem.W.nsIn K mainGlobals "isinstance" = some none)
  (z8:PySem.W.nsIn K mainGlobals "bool" = some none)
  (z9:PySem.W.nsIn K mainGlobals "int" = some none)
  (z10:PySem.W.nsIn K mainGlobals "list" = some none)
  (z11:PySem.W.nsIn K mainGlobals "sorted" = some none)
  (z12:PySem.W.nsIn K mainGlobals "set" = some none):TopF K mg :=
 ⟨⟨_,_,cC (st:=s__law_divisor) l0 c0 k0,PySem.W.mg_of X G a0,iP (λ_ _=>rfl)⟩,
  ⟨_,_,cC (st:=s__law_due) l1 c1 k1,PySem.W.mg_of X G a1,iP (λ_ _=>rfl)⟩,
  ⟨_,_,cC (st:=s__law_numbers) l2 c2 k2,PySem.W.mg_of X G a2,iP (λ_ _=>rfl)⟩,
  ⟨_,_,cC (st:=s__law_rises) l3 c3 k3,PySem.W.mg_of X G a3,iP (λ_ _=>rfl)⟩,
  ⟨_,_,cC (st:=s__law_ring) l4 c4 k4,PySem.W.mg_of X G a4,iP (λ_ _=>rfl)⟩,
  ⟨_,_,cC (st:=s__law_whole) l5 c5 k5,PySem.W.mg_of X G a5,pI (λ_=>rfl)⟩,
  ⟨_,_,cC (st:=s__law_same) l6 c6 k6,PySem.W.mg_of X G a6,iP (λ_ _=>rfl)⟩,
  ⟨_,_,cC (st:=s__law_share) l7 c7 k7,PySem.W.mg_of X G a7,pI (λ_=>rfl)⟩,
  ⟨_,_,cC (st:=s__law_digit) l8 c8 k8,PySem.W.mg_of X G a8,uP (λ_ _ _=>rfl)⟩,
  ⟨_,_,cC (st:=s__law_fraction) l9 c9 k9,PySem.W.mg_of X G a9,iP (λ_ _=>rfl)⟩,
  ⟨_,_,cC (st:=s__law_spot) l10 c10 k10,PySem.W.mg_of X G a10,uP (λ_ _ _=>rfl)⟩,
  ⟨_,_,cC (st:=s__law_spots) l11 c11 k11,PySem.W.mg_of X G a11,uP (λ_ _ _=>rfl)⟩,
  ⟨_,_,cC (st:=s__law_straight) l12 c12 k12,PySem.W.mg_of X G a12,uP (λ_ _ _=>rfl)⟩,
  ⟨_,_,cC (st:=s_turn) l13 c13 k13,PySem.W.mg_of X G a13,uP (λ_ _ _=>rfl)⟩,
  ⟨_,_,cC (st:=s_half_round) l14 c14 k14,PySem.W.mg_of X G a14,pI (λ_=>rfl)⟩,
  ⟨_,_,cC (st:=s_outline) l15 c15 k15,PySem.W.mg_of X G a15,pI (λ_=>rfl)⟩,
  ⟨_,_,cC (st:=s_shared_divisor) l16 c16 k16,PySem.W.mg_of X G a16,iP (λ_ _=>rfl)⟩,
  ⟨_,_,cC (st:=s_settled) l17 c17 k17,PySem.W.mg_of X G a17,iP (λ_ _=>rfl)⟩,
  ⟨_,_,cC (st:=s_shared_multiple) l18 c18 k18,PySem.W.mg_of X G a18,iP (λ_ _=>rfl)⟩,
  ⟨_,_,cC (st:=s_piece_of) l19 c19 k19,PySem.W.mg_of X G a19,pI (λ_=>rfl)⟩,
  ⟨_,_,cC (st:=s_law) l20 c20 k20,PySem.W.mg_of X G a20,pI (λ_=>rfl)⟩,
  PySem.W.mg_none_of X G z0,
  PySem.W.mg_none_of X G z1,
  PySem.W.mg_none_of X G z2,
  PySem.W.mg_none_of X G z3,
  PySem.W.mg_none_of X G z4,
  PySem.W.mg_none_of X G z5,
  PySem.W.mg_none_of X G z6,
  PySem.W.mg_none_of X G z7,
  PySem.W.mg_none_of X G z8,
  PySem.W.mg_none_of X G z9,
  PySem.W.mg_none_of X G z10,
  PySem.W.mg_none_of X G z11,
  PySem.W.mg_none_of X G z12⟩
theorem law_fn {P:Program} {w:World} {K:PySem.W.Frag} {mg:Str->Option Value} {base:Heap} {f:Addr} {fd:FuncData} (T:TopF K mg) (Fu:Fun K "law" "law" s_law f fd):FnOk P w K mg base CX0 6 f fd ["_law_script"] (spD K (xC 63)):=by
 have TD:=oJ (P:=P) (w:=w) (base:=base) T.d__law_divisor T.m_abs (F:=lJ) AE nJ
 have UH:=wA (P:=P) (w:=w) (base:=base) T.d__law_due TD T.m_tuple T.m_min (F:=uI) IP uC
 have TZ:=oK (P:=P) (w:=w) (base:=base) T.d__law_numbers T.m_len T.m_min T.m_max T.m_range (F:=fX) vS nK
 have UB:=rG (P:=P) (w:=w) (base:=base) T.d__law_rises T.m_range (F:=oQ) BY pY
 have UF:=tY (P:=P) (w:=w) (base:=base) T.d__law_ring UB T.m_reversed T.m_max (F:=pC) FT rM
 have TW:=rK (P:=P) (w:=w) (base:=base) T.d__law_whole T.m_isinstance T.m_bool T.m_int (F:=lO) CD qA
 have UG:=tZ (P:=P) (w:=w) (base:=base) T.d__law_same TW T.m_isinstance T.m_tuple (F:=lK) BZ oO
 have UD:=rH (P:=P) (w:=w) (base:=base) T.d__law_share (F:=lM) CB nM
 have TK:=rF (P:=P) (w:=w) (base:=base) T.d__law_digit T.m_range (F:=lI) BW pX
 have TQ:=nG (P:=P) (w:=w) (base:=base) T.d__law_fraction TD (F:=uJ) IR mF
 have TH:=uA (P:=P) (w:=w) (base:=base) T.d__law_spot TQ (F:=pD) FU rN
 have UE:=rJ (P:=P) (w:=w) (base:=base) T.d__law_spots TK TH T.m_len T.m_range (F:=oR) CC pZ
 have TV:=nH (P:=P) (w:=w) (base:=base) T.d__law_straight TK TH T.m_len T.m_range (F:=gN) tS mG
 have UL:=JA (P:=P) (w:=w) (base:=base) T.d_turn (F:=cX) FV CT
 have UC:=rL (P:=P) (w:=w) (base:=base) T.d_half_round UL T.m_len (F:=sU) FR oN
 have UJ:=yF (P:=P) (w:=w) (base:=base) T.d_outline UC T.m_list T.m_reversed T.m_sorted T.m_set (F:=gL) tQ qC
 have TB:=mD (P:=P) (w:=w) (base:=base) T.d_shared_divisor T.m_abs (F:=lJ) AE jW
 have UK:=yG (P:=P) (w:=w) (base:=base) T.d_settled UJ TB T.m_tuple T.m_len (F:=gM) tR qD
 have TL:=lB (P:=P) (w:=w) (base:=base) T.d_shared_multiple TB (F:=sV) FS hU
 have UI:=wB (P:=P) (w:=w) (base:=base) T.d_piece_of UK TL (F:=oP) BX rO
 exact LO UH TZ UF UG UD UE TV UI T.m_list (F:=xC 63) Fu IQ K11.pure_law
end K11
end L2.R2
open PySem PySem.W PyProof.Rows
set_option maxRecDepth 100000 in
set_option maxHeartbeats 0 in
theorem PySem.Challenge.cw_recut_k11_a_piece_of_spots_holds : PySem.Challenge.rw_recut_k11_a_piece_of_spots.Holds := by
 w_on;o_law;k_head;(case hw=>w_witness2)
 k_fill
 refine L2.R2.walk_law (l:=PySem.Challenge.rw_recut_k11_a_piece_of_spots) (k:=6) (x:="_law_script") rfl rfl ⟨rfl,by decide,by decide⟩ (λw h Y=>PySem.W.kIn_of Y) rfl ?F
 case F =>
  intro w mg h KX G
  have T:L2.R2.K11.TopF (L2.KOf KX) mg:=by
   dsimp only[L2.KOf]
   refine' L2.R2.K11.top_mk KX G ?a0 ?l0 ?c0 ?k0 ?a1 ?l1 ?c1 ?k1 ?a2 ?l2 ?c2 ?k2 ?a3 ?l3 ?c3 ?k3 ?a4 ?l4 ?c4 ?k4 ?a5 ?l5 ?c5 ?k5 ?a6 ?l6 ?c6 ?k6 ?a7 ?l7 ?c7 ?k7 ?a8 ?l8 ?c8 ?k8 ?a9 ?l9 ?c9 ?k9 ?a10 ?l10 ?c10 ?k10 ?a11 ?l11 ?c11 ?k11 ?a12 ?l12 ?c12 ?k12 ?a13 ?l13 ?c13 ?k13 ?a14 ?l14 ?c14 ?k14 ?a15 ?l15 ?c15 ?k15 ?a16 ?l16 ?c16 ?k16 ?a17 ?l17 ?c17 ?k17 ?a18 ?l18 ?c18 ?k18 ?a19 ?l19 ?c19 ?k19 ?a20 ?l20 ?c20 ?k20 ?z0 ?z1 ?z2 ?z3 ?z4 ?z5 ?z6 ?z7 ?z8 ?z9 ?z10 ?z11 ?z12
   (case a0=>k_is);(case l0=>k_is);(case c0=>k_is);(case k0=>k_is)
   (case a1=>k_is);(case l1=>k_is);(case c1=>k_is);(case k1=>k_is)
   (case a2=>k_is);(case l2=>k_is);(case c2=>k_is);(case k2=>k_is)
   (case a3=>k_is);(case l3=>k_is);(case c3=>k_is);(case k3=>k_is)
   (case a4=>k_is);(case l4=>k_is);(case c4=>k_is);(case k4=>k_is)
   (case a5=>k_is);(case l5=>k_is);(case c5=>k_is);(case k5=>k_is)
   (case a6=>k_is);(case l6=>k_is);(case c6=>k_is);(case k6=>k_is)
   (case a7=>k_is);(case l7=>k_is);(case c7=>k_is);(case k7=>k_is)
   (case a8=>k_is);(case l8=>k_is);(case c8=>k_is);(case k8=>k_is)
   (case a9=>k_is);(case l9=>k_is);(case c9=>k_is);(case k9=>k_is)
   (case a10=>k_is);(case l10=>k_is);(case c10=>k_is);(case k10=>k_is)
   (case a11=>k_is);(case l11=>k_is);(case c11=>k_is);(case k11=>k_is)
   (case a12=>k_is);(case l12=>k_is);(case c12=>k_is);(case k12=>k_is)
   (case a13=>k_is);(case l13=>k_is);(case c13=>k_is);(case k13=>k_is)
   (case a14=>k_is);(case l14=>k_is);(case c14=>k_is);(case k14=>k_is)
   (case a15=>k_is);(case l15=>k_is);(case c15=>k_is);(case k15=>k_is)
   (case a16=>k_is);(case l16=>k_is);(case c16=>k_is);(case k16=>k_is)
   (case a17=>k_is);(case l17=>k_is);(case c17=>k_is);(case k17=>k_is)
   (case a18=>k_is);(case l18=>k_is);(case c18=>k_is);(case k18=>k_is)
   (case a19=>k_is);(case l19=>k_is);(case c19=>k_is);(case k19=>k_is)
   (case a20=>k_is);(case l20=>k_is);(case c20=>k_is);(case k20=>k_is)
   (case z0=>k_is)
   (case z1=>k_is)
   (case z2=>k_is)
   (case z3=>k_is)
   (case z4=>k_is)
   (case z5=>k_is)
   (case z6=>k_is)
   (case z7=>k_is)
   (case z8=>k_is)
   (case z9=>k_is)
   (case z10=>k_is)
   (case z11=>k_is)
   (case z12=>k_is)
  exact T.d_law.okL λbase f fd Fu=>L2.R2.K11.law_fn T Fu
